import PyProof.Rows.All
import Wide.All
import OpenK.AllK
import Wide.FinOn
import Lean
import PyProof.EqAt
import PyProof.EqKinds
import PyProof.TupleCall
import PyProof.NeKinds
import PySem.Challenge.RW_crosswright_k02_no_sheet
set_option Elab.async false
set_option linter.all false
set_option maxRecDepth 100000
/-! THE HAND LAYER, for ints, bools, texts, own classes, LISTS and tuples (index, slices, in, append, pop ..), calls, loops. Paste it whole ahead of your own text; what your proof does not reach may be deleted. -/
namespace L2
open PySem PySem.Spec PyProof.Rows

/-- a key: an int or a str -/
abbrev Key := Sum Int Str
def keyIs : Key → Value → Bool
  | .inl k, v => Value.isInt k v
  | .inr x, v => Value.isStrOf x v
def keyH (w : World) : Key → Int
  | .inl k => hashInt k
  | .inr x => hashStr w x
theorem keyIs_shape : ∀ {k : Key} {v : Value}, keyIs k v = true → (∃ i t, k = Sum.inl i ∧ v = Value.int i t) ∨ (∃ x t, k = Sum.inr x ∧ v = Value.str x t)
  | .inl i, v, h => by
    obtain ⟨t, e⟩ := Value.isInt_shape (k := i) (v := v) h
    exact .inl ⟨i, t, rfl, e⟩
  | .inr x, v, h => by
    obtain ⟨t, e⟩ := Value.isStrOf_shape (x := x) (v := v) h
    exact .inr ⟨x, t, rfl, e⟩
theorem key_ll (a b : Int) : decide ((Sum.inl a : Key) = Sum.inl b) = (a == b) := by
  by_cases e : a = b
  · subst e; simp
  · have h : ¬ (Sum.inl a : Key) = Sum.inl b := fun q => e (Sum.inl.inj q)
    rw [decide_eq_false h]
    exact (beq_eq_false_iff_ne.mpr e).symm
theorem key_rr (a b : Str) : decide ((Sum.inr a : Key) = Sum.inr b) = decide (a = b) := by
  by_cases e : a = b
  · subst e; simp
  · have h : ¬ (Sum.inr a : Key) = Sum.inr b := fun q => e (Sum.inr.inj q)
    rw [decide_eq_false h, decide_eq_false e]
theorem key_lr (a : Int) (b : Str) : decide ((Sum.inl a : Key) = Sum.inr b) = false := decide_eq_false (fun q => nomatch q)
theorem key_rl (a : Str) (b : Int) : decide ((Sum.inr a : Key) = Sum.inl b) = false := decide_eq_false (fun q => nomatch q)

def mixKind (prog : Program) (w : World) : PySem.KeyKind prog w Key where
  is := keyIs
  hash := keyH w
  inj := fun v a b ha hb => by
    rcases keyIs_shape ha with ⟨i, t, rfl, rfl⟩ | ⟨x, t, rfl, rfl⟩
    · rcases keyIs_shape hb with ⟨j, u, rfl, e⟩ | ⟨y, u, rfl, e⟩
      · injection e with e1 _; rw [e1]
      · exact nomatch e
    · rcases keyIs_shape hb with ⟨j, u, rfl, e⟩ | ⟨y, u, rfl, e⟩
      · exact nomatch e
      · injection e with e1 _; rw [e1]
  byValue := fun k v h => by
    rcases keyIs_shape h with ⟨i, t, rfl, rfl⟩ | ⟨x, t, rfl, rfl⟩ <;> rfl
  pyHash := fun hv h => by
    rcases keyIs_shape hv with ⟨i, t, rfl, rfl⟩ | ⟨x, t, rfl, rfl⟩
    · exact wpAny_pyHash_int h
    · exact wpAny_pyHash_str h
  eqBool := fun hu hv h => by
    rcases keyIs_shape hu with ⟨i, t, rfl, rfl⟩ | ⟨x, t, rfl, rfl⟩
    · rcases keyIs_shape hv with ⟨j, u, rfl, rfl⟩ | ⟨y, u, rfl, rfl⟩
      · rw [key_ll] at h; exact wpAny_eqBool_int h
      · rw [key_lr] at h; exact SeqAt.EqAt.int_str i t y u _ _ _ _ h
    · rcases keyIs_shape hv with ⟨j, u, rfl, rfl⟩ | ⟨y, u, rfl, rfl⟩
      · rw [key_rl] at h; exact SeqAt.EqAt.str_int x t j u _ _ _ _ h
      · rw [key_rr] at h; exact wpAny_eqBool_str h
  «strs» := fun k x t v h => by
    rcases keyIs_shape h with ⟨i, u, rfl, e⟩ | ⟨y, u, rfl, e⟩
    · exact nomatch e
    · injection e with e1 _
      subst e1
      cases v <;> rfl

end L2

namespace L2
open PySem PySem.Spec PyProof.Rows

/-- a value, without the heap -/
inductive V where
  | non | bl (b : Bool) | int (i : Int) | str (x : Str) | byt (b : Array UInt8) | flt (b : UInt64) | ref (a : Addr) | ty (n : String)
  deriving DecidableEq

def RelV : V → Value → Prop
  | .non, u => u = Value.none
  | .bl b, u => u = Value.bool b
  | .int i, u => ∃ t, u = Value.int i t
  | .str x, u => ∃ t, u = Value.str x t
  | .byt b, u => ∃ t, u = Value.bytes b t
  | .flt b, u => ∃ t, u = Value.float b t
  | .ref a, u => u = Value.ref a
  | .ty n, u => u = Value.type n

abbrev Vals : List V → List Value → Prop := Paired RelV
theorem Vals.length {xs : List V} {us : List Value} (r : Vals xs us) : xs.length = us.length := Paired.length r
theorem Vals.get : ∀ {xs : List V} {us : List Value} {i : Nat} {x : V}, Vals xs us → xs[i]? = some x → ∃ u, us[i]? = some u ∧ RelV x u
  | _, _, _, _, .nil, e => by simp at e
  | _, _, 0, _, .cons r _, e => by simp at e; subst e; exact ⟨_, rfl, r⟩
  | _, _, i + 1, x, .cons _ t, e => by
    obtain ⟨u, h1, h2⟩ := Vals.get (i := i) (x := x) t (by simpa using e)
    exact ⟨u, by simpa using h1, h2⟩
theorem Vals.set {x : V} {u : Value} (r : RelV x u) : ∀ {xs : List V} {us : List Value} (i : Nat), Vals xs us → Vals (xs.set i x) (us.set i u)
  | _, _, _, .nil => .nil
  | _, _, 0, .cons _ t => .cons r t
  | _, _, i + 1, .cons q t => .cons q (Vals.set r i t)
theorem Vals.append : ∀ {xs ys : List V} {us ws : List Value}, Vals xs us → Vals ys ws → Vals (xs ++ ys) (us ++ ws)
  | _, _, _, _, .nil, s => s
  | _, _, _, _, .cons r t, s => .cons r (Vals.append t s)
theorem Vals.take : ∀ {xs : List V} {us : List Value} (n : Nat), Vals xs us → Vals (xs.take n) (us.take n)
  | _, _, 0, _ => .nil
  | _, _, _ + 1, .nil => .nil
  | _, _, n + 1, .cons r t => .cons r (Vals.take n t)
theorem Vals.drop : ∀ {xs : List V} {us : List Value} (n : Nat), Vals xs us → Vals (xs.drop n) (us.drop n)
  | _, _, 0, r => r
  | _, _, _ + 1, .nil => .nil
  | _, _, n + 1, .cons _ t => Vals.drop n t
def RelO : Option V → Option Value → Prop
  | some v, some u => RelV v u
  | none, none => True
  | _, _ => False
def KV {κ : Type} : List (κ × V) → List (κ × Value) → Prop := Paired fun (p : κ × V) (q : κ × Value) => p.1 = q.1 ∧ RelV p.2 q.2

/-- a key of a dict (00_mix): an int or a text -/
def kV : Key → V
  | .inl i => .int i
  | .inr x => .str x

/-- what stands at a tracked address -/
inductive HO where
  /-- a list -/
  | lst (xs : List V)
  /-- a tuple (never changes) -/
  | tup (xs : List V)
  /-- a dict whose keys are ints and texts; one whose keys are tuples of ints and texts (the empty one is both) -/
  | dK (kvs : List (Key × V)) | dT (kvs : List (List Key × V))
  /-- a set of ints: its members, its size -/
  | set (S : Int → Bool) (n : Nat)
  /-- an instance of the class at C, its dict at dx, its attributes -/
  | ins (C dx : Addr) (fs : List (Str × V))
  /-- the dict of the instance at x -/
  | own (x : Addr)
  /-- the dict of an exception -/
  | xd (fs : List (Str × V))
  /-- a bound method, f of x -/
  | met (f x : Addr)
  /-- a range object lo, lo + 1, .. below hi -/
  | rng (lo hi : Int)
  /-- a thing that is known to the object (the script; a dict while a loop walks it): read, never written while it is so -/
  | frz (o : Obj) (u : HO)
  /-- a code object's table -/
  | tbl (ps : Array Value)
  /-- any other thing, by what is true of its one object (a def of one's own: SetO a S n := HO.ext fun h => ..) -/
  | ext (φ : Heap → Prop)

abbrev Hp := Addr → Option HO
def upd (H : Hp) (a : Addr) (o : HO) : Hp := fun b => if b = a then some o else H b
theorem upd_same {H : Hp} {a : Addr} {o : HO} : upd H a o a = some o := by unfold upd; rw [if_pos rfl]
theorem upd_ne {H : Hp} {a b : Addr} {o : HO} (h : b ≠ a) : upd H a o b = H b := by unfold upd; rw [if_neg h]
theorem ne_of_none {H : Hp} {a b : Addr} {o : HO} (h : H a = some o) (h' : H b = none) : a ≠ b := by
  intro e; subst e; rw [h] at h'; cases h'

section
variable (P : Program) (w : World)
def ObjOk (H : Hp) (h : Heap) (a : Addr) : HO → Prop
  | .lst xs => xs.length ≤ sizeLine ∧ ∃ (its : List Value) (n : Nat), Vals xs its ∧ h.get? a = some { cls := .type "list", data := .seq its.toArray n }
  | .tup xs => xs.length ≤ sizeLine ∧ ∃ its : List Value, Vals xs its ∧ IsTup h a its.toArray
  | .dK kvs => kvs.length ≤ sizeLine ∧ (a == sysModules) = false ∧ ∃ vs, KV kvs vs ∧ h.DictOf (mixKind P w) a vs
  | .dT kvs => kvs.length ≤ sizeLine ∧ (a == sysModules) = false ∧ ∃ xs : List (List Key × Addr × Value),
      Paired (fun (p : List Key × V) (q : List Key × Addr × Value) => p.1 = q.1 ∧ H q.2.1 = some (.tup (p.1.map kV)) ∧ RelV p.2 q.2.2) kvs xs ∧
      ∃ o es ep, h.get? a = some o ∧ o.ExactDict ∧ o.data = .dict es ep ∧ es.toList = xs.map (entryOfKey (tupleKind (mixKind P w))) ∧ (xs.map (·.1)).Nodup
  | .set S n => h.SetOf (intKind P w) a S n
  | .ins C dx fs => H dx = some (.own a) ∧ fs.length ≤ 1000 ∧ dx ≠ a ∧ h.get? a = some (PySem.W.instObj C dx) ∧
      ∃ mA, h.Ns1 dx mA ∧ (∀ f, RelO (fs.lookup f) (mA f)) ∧ PySem.Within mA (fs.map (·.1))
  | .own _ => ∃ o, h.get? a = some o
  | .xd fs => ∃ mA, h.Ns1 a mA ∧ ∀ f, RelO (fs.lookup f) (mA f)
  | .rng lo hi => ∃ t u v, h.get? a = some { cls := .type "range", data := .fields #[.int lo t, .int hi u, .int 1 v] }
  | .frz o u => h.get? a = some o ∧ ObjOk H h a u
  | .tbl ps => h.get? a = some { cls := .none, data := .fields ps }
  | .met f x => h.get? a = some (PySem.W.methodObj (.ref f) (.ref x))
  | .ext φ => φ h ∧ (∃ o, h.get? a = some o) ∧ ∀ h1 h2 : Heap, φ h1 → (∀ o, h1.get? a = some o → h2.get? a = some o) → φ h2
/-- the abstract heap is held -/
def HOk (H : Hp) (h : Heap) : Prop := ∀ a o, H a = some o → ObjOk P w H h a o
end

section
variable {P : Program} {w : World} {H H' : Hp} {h h' : Heap} {a : Addr} {o : HO}
theorem ObjOk.lt (x : ObjOk P w H h a o) : a < h.objs.size := by
  cases o with
  | lst xs => obtain ⟨_, _, _, _, e⟩ := x; exact Heap.lt_size e
  | tup xs => obtain ⟨_, _, _, p⟩ := x; exact p.lt
  | dK kvs => obtain ⟨_, _, _, _, o, _, _, e, _⟩ := x; exact Heap.lt_size e
  | dT kvs => obtain ⟨_, _, _, _, o, _, _, e, _⟩ := x; exact Heap.lt_size e
  | set S n => obtain ⟨o, _, _, _, e, _⟩ := x; exact Heap.lt_size e
  | ins C dx fs => obtain ⟨_, _, _, e, _⟩ := x; exact Heap.lt_size e
  | own y => obtain ⟨_, e⟩ := x; exact Heap.lt_size e
  | xd fs => obtain ⟨_, ⟨_, _, _, e, _⟩, _⟩ := x; exact Heap.lt_size e
  | rng lo hi => obtain ⟨_, _, _, e⟩ := x; exact Heap.lt_size e
  | frz ob u => obtain ⟨e, _⟩ := x; exact Heap.lt_size e
  | tbl ps => exact Heap.lt_size (show h.get? a = some _ from x)
  | met f y => exact Heap.lt_size (show h.get? a = some _ from x)
  | ext φ => obtain ⟨_, ⟨_, e⟩, _⟩ := x; exact Heap.lt_size e
theorem Paired.mapP {α β : Type} {F G : α → β → Prop} : ∀ {l₁ : List α} {l₂ : List β}, Paired F l₁ l₂ → (∀ a b, F a b → G a b) → Paired G l₁ l₂
  | _, _, .nil, _ => .nil
  | _, _, .cons r t, f => .cons (f _ _ r) (Paired.mapP t f)
/-- what an object's description leans on: its own object, its own dict, the tuples -/
theorem ObjOk.stay (x : ObjOk P w H h a o) (k : ∀ b u, (b = a ∨ H b = some (.own a)) → h.get? b = some u → h'.get? b = some u)
    (ho : ∀ b, H b = some (.own a) → H' b = some (.own a)) (ht : ∀ b xs, H b = some (.tup xs) → H' b = some (.tup xs)) : ObjOk P w H' h' a o := by
  induction o with
  | lst xs => obtain ⟨z, its, n, r, e⟩ := x; exact ⟨z, its, n, r, k _ _ (.inl rfl) e⟩
  | tup xs => obtain ⟨z, its, r, ob, e, c⟩ := x; exact ⟨z, its, r, ob, k _ _ (.inl rfl) e, c⟩
  | dK kvs => obtain ⟨z, y, vs, r, ob, es, ep, e, c⟩ := x; exact ⟨z, y, vs, r, ob, es, ep, k _ _ (.inl rfl) e, c⟩
  | dT kvs =>
    obtain ⟨z, y, xs, r, ob, es, ep, e, c⟩ := x
    exact ⟨z, y, xs, Paired.mapP r fun p q z => ⟨z.1, ht _ _ z.2.1, z.2.2⟩, ob, es, ep, k _ _ (.inl rfl) e, c⟩
  | set S n => obtain ⟨ob, es, ep, t, e, c⟩ := x; exact ⟨ob, es, ep, t, k _ _ (.inl rfl) e, c⟩
  | ins C dx fs =>
    obtain ⟨d, z, ne, e, mA, ⟨od, es, ep, e2, c⟩, r⟩ := x
    exact ⟨ho _ d, z, ne, k _ _ (.inl rfl) e, mA, ⟨od, es, ep, k _ _ (.inr d) e2, c⟩, r⟩
  | own y => obtain ⟨ob, e⟩ := x; exact ⟨ob, k _ _ (.inl rfl) e⟩
  | xd fs => obtain ⟨mA, ⟨od, es, ep, e, c⟩, r⟩ := x; exact ⟨mA, ⟨od, es, ep, k _ _ (.inl rfl) e, c⟩, r⟩
  | rng lo hi => obtain ⟨t, u, v, e⟩ := x; exact ⟨t, u, v, k _ _ (.inl rfl) e⟩
  | frz ob u ih => obtain ⟨e, q⟩ := x; exact ⟨k _ _ (.inl rfl) e, ih q⟩
  | tbl ps =>
    have e : h.get? a = some { cls := .none, data := .fields ps } := x
    show h'.get? a = some { cls := .none, data := .fields ps }
    exact k a _ (.inl rfl) e
  | met f y =>
    have e : h.get? a = some (PySem.W.methodObj (.ref f) (.ref y)) := x
    show h'.get? a = some (PySem.W.methodObj (.ref f) (.ref y))
    exact k a _ (.inl rfl) e
  | ext φ => obtain ⟨p, ⟨o, e⟩, st⟩ := x; exact ⟨st _ _ p fun o q => k _ _ (.inl rfl) q, ⟨o, k _ _ (.inl rfl) e⟩, st⟩
theorem HOk.lt (x : HOk P w H h) (e : H a = some o) : a < h.objs.size := (x a o e).lt
theorem HOk.fresh (x : HOk P w H h) (e : h.objs.size ≤ a) : H a = none := by
  cases q : H a with
  | none => rfl
  | some u => exact absurd (Nat.lt_of_lt_of_le (x.lt q) e) (Nat.lt_irrefl _)
/-- every object of the heap is kept -/
theorem HOk.kept (x : HOk P w H h) (k : ∀ b u, h.get? b = some u → h'.get? b = some u) : HOk P w H h' := fun a o e =>
  (x a o e).stay (fun b u _ q => k b u q) (fun _ q => q) fun _ _ q => q
/-- a new object is laid and tracked -/
theorem HOk.laid (x : HOk P w H h) (k : ∀ b u, h.get? b = some u → h'.get? b = some u) (hp : h.objs.size ≤ a) (new : ObjOk P w (upd H a o) h' a o) : HOk P w (upd H a o) h' := fun b u e => by
  have hn := x.fresh hp
  by_cases hb : b = a
  · subst hb; rw [upd_same] at e; cases e; exact new
  · rw [upd_ne hb] at e
    exact (x b u e).stay (fun c v _ q => k c v q) (fun c q => by rw [upd_ne (ne_of_none q hn)]; exact q) fun c xs q => by rw [upd_ne (ne_of_none q hn)]; exact q
end

/-- what may be read as u: it is u, or a known u -/
def Rd (H : Hp) (a : Addr) (u : HO) : Prop := H a = some u ∨ ∃ o, H a = some (.frz o u)
theorem Rd.of {H : Hp} {a : Addr} {u : HO} (h : H a = some u) : Rd H a u := .inl h
theorem Rd.ok {P : Program} {w : World} {H : Hp} {h : Heap} {a : Addr} {u : HO} (r : Rd H a u) (x : HOk P w H h) : ObjOk P w H h a u := by
  rcases r with r | ⟨o, r⟩
  · exact x a u r
  · obtain ⟨_, q⟩ := x a _ r
    exact q
/-- what may be written -/
def Mut : Option HO → Prop
  | some (.lst _) => True
  | some (.dK _) => True
  | some (.dT _) => True
  | some (.set _ _) => True
  | some (.ins _ _ _) => True
  | some (.ext _) => True
  | _ => False
section
variable {P : Program} {w : World} {H : Hp} {h h' : Heap} {x e : Addr} {o' : HO}
/-- the object at e is changed: x itself, or the dict of the instance x -/
theorem HOk.write (ok : HOk P w H h) (mu : Mut (H x)) (he : e = x ∨ H e = some (.own x)) (k : ∀ b u, b ≠ e → h.get? b = some u → h'.get? b = some u) (heo : ∃ u, h'.get? e = some u)
    (new : ObjOk P w (upd H x o') h' x o') : HOk P w (upd H x o') h' := fun b u q => by
  have nown : ∀ c y, H c = some (.own y) → c ≠ x := fun c y r z => by subst z; rw [r] at mu; exact mu
  have ntup : ∀ c xs, H c = some (.tup xs) → c ≠ x := fun c xs r z => by subst z; rw [r] at mu; exact mu
  by_cases hb : b = x
  · subst hb; rw [upd_same] at q; cases q; exact new
  · rw [upd_ne hb] at q
    by_cases hbe : b = e
    · have q' : H b = some (.own x) := by
        rcases he with z | z
        · exact absurd (hbe.trans z) hb
        · rw [hbe]; exact z
      rw [q] at q'; cases q'
      obtain ⟨v, hv⟩ := heo
      exact ⟨v, by rw [hbe]; exact hv⟩
    · refine (ok b u q).stay (fun c v hc r => k c v ?_ r) (fun c r => by rw [upd_ne (nown c b r)]; exact r) fun c xs r => by rw [upd_ne (ntup c xs r)]; exact r
      rcases hc with rfl | hc
      · exact hbe
      · rintro rfl
        rcases he with z | z
        · exact nown c b hc z
        · rw [hc] at z; cases z; exact hb rfl
end

/-! ### kept unless tracked; of the frames at fs (the callers') the slots may change (an exception that passes writes there); of the records at ex (iterators) nothing is said -/
structure Un (fs ex : List Addr) (H H' : Hp) (h h' : Heap) : Prop where
  keep : ∀ b o, h.get? b = some o → H b = none → b ∉ fs → b ∉ ex → h'.get? b = some o
  slot : ∀ b o, h.get? b = some o → H b = none → b ∈ fs → b ∉ ex → ∃ sl, h'.get? b = some { o with slots := sl }
  free : ∀ b o, h.get? b = some o → H b = none → b ∉ ex → H' b = none
  there : ∀ b o, h.get? b = some o → b ∉ ex → ∃ o', h'.get? b = some o'
  tups : ∀ b xs, H b = some (.tup xs) → H' b = some (.tup xs)
  frzs : ∀ b o u, H b = some (.frz o u) → H' b = some (.frz o u)
  tbls : ∀ b ps, H b = some (.tbl ps) → ∃ more, H' b = some (.tbl (ps ++ more))
section
variable {fs fs' ex ex' : List Addr} {H H1 H2 : Hp} {h h1 h2 h' : Heap} {a x e : Addr} {o : HO}
theorem Un.any (u : Un fs ex H H1 h h1) {b : Addr} {ob : Obj} (q : h.get? b = some ob) (n : H b = none) (hx : b ∉ ex) : ∃ sl, h1.get? b = some { ob with slots := sl } := by
  by_cases hb : b ∈ fs
  · exact u.slot b ob q n hb hx
  · exact ⟨ob.slots, u.keep b ob q n hb hx⟩
theorem Un.trans (a : Un fs ex H H1 h h1) (b : Un fs ex H1 H2 h1 h2) : Un fs ex H H2 h h2 where
  keep := fun c ob q n hc hx => b.keep c ob (a.keep c ob q n hc hx) (a.free c ob q n hx) hc hx
  slot := fun c ob q n hc hx => by
    obtain ⟨sl, e1⟩ := a.slot c ob q n hc hx
    obtain ⟨sl', e2⟩ := b.slot c _ e1 (a.free c ob q n hx) hc hx
    exact ⟨sl', e2⟩
  free := fun c ob q n hx => by
    obtain ⟨o', e1⟩ := a.there c ob q hx
    exact b.free c o' e1 (a.free c ob q n hx) hx
  there := fun c ob q hx => by
    obtain ⟨o', e1⟩ := a.there c ob q hx
    exact b.there c o' e1 hx
  tups := fun c xs q => b.tups c xs (a.tups c xs q)
  frzs := fun c ob xs q => b.frzs c ob xs (a.frzs c ob xs q)
  tbls := fun c ps q => by
    obtain ⟨m1, e1⟩ := a.tbls c ps q
    obtain ⟨m2, e2⟩ := b.tbls c _ e1
    exact ⟨m1 ++ m2, by rw [e2, Array.append_assoc]⟩
theorem Un.kept (k : ∀ b u, h.get? b = some u → h'.get? b = some u) : Un fs ex H H h h' :=
  ⟨fun b ob q _ _ _ => k b ob q, fun b ob q _ _ _ => ⟨ob.slots, k b ob q⟩, fun _ _ _ n _ => n, fun b ob q _ => ⟨ob, k b ob q⟩, fun _ _ q => q, fun _ _ _ q => q, fun _ ps q => ⟨#[], by rw [q]; simp⟩⟩
theorem Un.refl : Un fs ex H H h h := Un.kept fun _ _ q => q
theorem Un.laid (k : ∀ b u, h.get? b = some u → h'.get? b = some u) (hp : h.objs.size ≤ a) (hn : H a = none) : Un fs ex H (upd H a o) h h' where
  keep := fun b u q _ _ _ => k b u q
  slot := fun b u q _ _ _ => ⟨u.slots, k b u q⟩
  free := fun b u q n _ => by rw [upd_ne (Nat.ne_of_lt (Nat.lt_of_lt_of_le (Heap.lt_size q) hp))]; exact n
  there := fun b u q _ => ⟨u, k b u q⟩
  tups := fun b xs q => by rw [upd_ne (ne_of_none q hn)]; exact q
  frzs := fun b u xs q => by rw [upd_ne (ne_of_none q hn)]; exact q
  tbls := fun b ps q => ⟨#[], by rw [upd_ne (ne_of_none q hn), q]; simp⟩
theorem Un.write (mu : Mut (H x)) (he : e = x ∨ H e = some (.own x)) (k : ∀ b u, b ≠ e → h.get? b = some u → h'.get? b = some u) (heo : ∃ u, h'.get? e = some u) : Un fs ex H (upd H x o) h h' := by
  have hx : ∀ b, H b = none → b ≠ x := fun b n z => by subst z; rw [n] at mu; exact mu
  have hb : ∀ b, H b = none → b ≠ e := fun b n z => by
    subst z
    rcases he with r | r
    · exact hx b n r
    · rw [n] at r; cases r
  have hm : ∀ b u, H b = some u → ¬ Mut (some u) → b ≠ x := fun b u q nm z => by subst z; rw [q] at mu; exact nm mu
  refine ⟨fun b u q n _ _ => k b u (hb b n) q, fun b u q n _ _ => ⟨u.slots, k b u (hb b n) q⟩, fun b u q n _ => by rw [upd_ne (hx b n)]; exact n, fun b u q _ => ?_,
    fun b xs q => by rw [upd_ne (hm b _ q fun z => z)]; exact q, fun b u xs q => by rw [upd_ne (hm b _ q fun z => z)]; exact q, fun b ps q => ⟨#[], by rw [upd_ne (hm b _ q fun z => z), q]; simp⟩⟩
  by_cases hbe : b = e
  · subst hbe; exact heo
  · exact ⟨u, k b u hbe q⟩
theorem Un.mono (u : Un fs ex H H1 h h1) (hs : ∀ b ∈ fs, b ∈ fs') (hx : ∀ b ∈ ex, b ∈ ex') : Un fs' ex' H H1 h h1 :=
  ⟨fun b ob q n hb he => u.keep b ob q n (fun z => hb (hs b z)) fun z => he (hx b z), fun _ _ q n _ he => u.any q n fun z => he (hx _ z), fun b ob q n he => u.free b ob q n fun z => he (hx b z), fun b ob q he => u.there b ob q fun z => he (hx b z), u.tups, u.frzs, u.tbls⟩
end

/-! ### the heap without what is tracked -/
def trk (h : Heap) (H : Hp) : List Addr := (List.range h.objs.size).filter fun a => (H a).isSome
def hidT (h : Heap) (H : Hp) : Heap := PySem.W.hideAll h (trk h H)
theorem hidT_size (h : Heap) (H : Hp) : (hidT h H).objs.size = h.objs.size := PySem.W.hideAll_size _ _
theorem hidT_get {h : Heap} {H : Hp} {b : Addr} {o : Obj} (e : h.get? b = some o) (n : H b = none) : (hidT h H).get? b = some o :=
  PySem.W.hideAll_get _ e fun hm => by
    have q : (H b).isSome = true := (List.mem_filter.mp hm).2
    rw [n] at q; simp at q
theorem of_hidT {h : Heap} {H : Hp} {b : Addr} {o : Obj} (e : (hidT h H).get? b = some o) : h.get? b = some o ∧ H b = none := by
  have e' : h.get? b = some o := PySem.W.of_hideAll (trk h H) e
  refine ⟨e', ?_⟩
  cases q : H b with
  | none => rfl
  | some x =>
    have hm : b ∈ trk h H := List.mem_filter.mpr ⟨List.mem_range.mpr (Heap.lt_size e'), by simp [q]⟩
    have z : (hidT h H).get? b = none := PySem.W.hideAll_none (trk h H) hm
    rw [z] at e; cases e

/-! ### OpenK's ledger, filled with every new object but one -/
def allNews (g h : Heap) (L : Addr) : List (Addr × Obj) := (List.range h.objs.size).filterMap fun a => if a = L ∨ (g.get? a).isSome = true then none else (h.get? a).map fun o => (a, o)
def rest (g h : Heap) (L d : Addr) : List (Addr × Obj) := (allNews g h L).filter fun p => decide (p.1 ≠ d)
end L2

namespace L2
open PySem PySem.Spec PyProof.Rows

/-- the module's facts, over the base: the heap at the law's entry without what is tracked there -/
structure Mod (K : PySem.W.Frag) (mg : Str → Option Value) (base : Heap) : Prop where
  kin : K.In base
  glob : base.Ns mainGlobals mg
  blt : ∃ mb, base.Ns builtinsNs mb ∧ ∀ x : Str, x ≠ "__name__" → mb x = bootBuiltins x
  nolimit : base.NoLimit

/-- the context: a def's body (or a comprehension's block) running. base: fixed through the whole law; s₀, H₀: the entry; outer: the frames whose slots others may change (a def's callers); stack: all frames that run;
   ex: iterators that were made ahead of the entry and are walked here (a comprehension's); fn: the names whose cells were made at the entry (a def: all; a comprehension's block: its own); calm: not within an except suite; pn: pins that every state bears; xe: what is wanted of an exception that leaves the code -/
structure Cx where
  prog : Program
  w : World
  K : PySem.W.Frag
  mg : Str → Option Value
  base : Heap
  A : Around
  N : List Str
  s₀ : Shared
  H₀ : Hp
  env : Env
  outer : List Env
  stack : List Env
  ex : List Addr
  fn : Str → Bool
  calm : Bool
  pn : List (Addr × Obj)
  xe : Value → Shared → Prop
/-- the callers' frames -/
def frs (l : List Env) : List Addr := l.filterMap (·.frame)
abbrev Cx.fs (X : Cx) : List Addr := frs X.outer

def Vis (sc : Scope) (x : Str) : Prop := sc.names.lookup x = some .local ∨ sc.names.lookup x = some .cell ∨ sc.names.lookup x = some .free
def Loc (sc : Scope) (x : Str) : Prop := sc.names.lookup x = some .local ∨ sc.names.lookup x = some .cell
def Look (env : Env) (h : Heap) (m : Str → Option Value) (x : Str) (u : Value) : Prop :=
  (env.kindOf x = some .local ∧ m x = some u) ∨ ((env.kindOf x = some .cell ∨ env.kindOf x = some .free) ∧ ∃ c, env.cells.lookup x = some c ∧ h.IsCell c (some u))

structure Cx.Ok (X : Cx) : Prop where
  mod : Mod X.K X.mg X.base
  kind : X.env.scope.kind = .function
  glob : X.env.globals = mainGlobals
  blt : X.env.builtins = builtinsNs
  above : X.s₀.heap.objs.size ≤ X.env.locals
  inj : ∀ x y c, X.env.cells.lookup x = some c → X.env.cells.lookup y = some c → x = y
  has : ∀ x, (X.env.kindOf x = some .cell ∨ X.env.kindOf x = some .free) → ∃ c, X.env.cells.lookup x = some c
  cab : ∀ x c, X.fn x = true → X.env.cells.lookup x = some c → X.s₀.heap.objs.size ≤ c
  hd : X.calm = true → X.A.handled = none
  frames : X.A.frames = some X.stack
  stk : X.stack = X.outer ∨ (X.stack = X.env :: X.outer ∧ X.env.frame = some X.env.locals)
  exf : ∀ b ∈ X.ex, b ≠ X.env.locals ∧ ∀ x c, X.env.cells.lookup x = some c → c ≠ b
  bs : ∀ b o, X.base.get? b = some o → X.s₀.heap.get? b = some o ∧ X.H₀ b = none
  bsz : X.base.objs.size ≤ X.s₀.heap.objs.size
  noex : ∀ b o, X.base.get? b = some o → b ∉ X.ex
  exfs : ∀ b ∈ X.ex, b ∉ X.fs
  funs : X.s₀.heap.FunFrames X.base X.outer
  frf : ∀ b ∈ X.fs, X.H₀ b = none

structure Inv (X : Cx) (pins : List (Addr × Obj)) (σ : List (Option V)) (H : Hp) (s : Shared) : Prop where
  ok : X.Ok
  os : s.os = X.s₀.os
  bare : AllBare s.gens
  base : Un X.fs X.ex X.H₀ H X.s₀.heap s.heap
  loc : ∃ m, s.heap.Ns X.env.locals m ∧ ∀ (i : Nat) (x : Str) (v : V), X.N[i]? = some x → σ[i]? = some (some v) → Vis X.env.scope x → ∃ u, RelV v u ∧ Look X.env s.heap m x u
  cell : ∀ x c, X.env.cells.lookup x = some c → ∃ v, s.heap.IsCell c v
  free : H X.env.locals = none
  freeC : ∀ x c, X.env.cells.lookup x = some c → H c = none
  pin : ∀ p ∈ X.pn ++ pins, s.heap.get? p.1 = some p.2 ∧ H p.1 = none ∧ p.1 ≠ X.env.locals ∧ p.1 ∉ X.fs ∧ ∀ v, p.2.data ≠ .cell v
  hok : HOk X.prog X.w H s.heap
  len : σ.length = X.N.length

section
variable {X : Cx} {pins : List (Addr × Obj)} {σ : List (Option V)} {H H' : Hp} {s : Shared} {h' : Heap}

theorem Cx.Ok.nofr (ok : X.Ok) {b : Addr} {o : Obj} (e : X.base.get? b = some o) : b ∉ X.fs := fun hb => by
  have := (ok.funs.mem hb).1
  rw [e] at this; cases this
theorem Inv.bs (I : Inv X pins σ H s) : ∀ b o, X.base.get? b = some o → s.heap.get? b = some o ∧ H b = none := fun b o e =>
  ⟨I.base.keep b o (I.ok.bs b o e).1 (I.ok.bs b o e).2 (I.ok.nofr e) (I.ok.noex b o e), I.base.free b o (I.ok.bs b o e).1 (I.ok.bs b o e).2 (I.ok.noex b o e)⟩
theorem Inv.bk (I : Inv X pins σ H s) : ∀ b o, X.base.get? b = some o → s.heap.get? b = some o := fun b o e => (I.bs b o e).1
theorem Inv.mod (I : Inv X pins σ H s) : Mod X.K X.mg X.base := I.ok.mod
theorem Inv.kIn (I : Inv X pins σ H s) : X.K.In s.heap := I.ok.mod.kin.keeps I.bk
theorem Inv.nolimit (I : Inv X pins σ H s) : s.heap.NoLimit := I.ok.mod.nolimit.keeps I.bk
/-- the frame over the base: for OpenK's rules (K.In X.base is I.mod.kin) -/
theorem Inv.fr (I : Inv X pins σ H s) : ∃ m, Fr X.base X.env.locals s.heap m :=
  let ⟨m, hn, _⟩ := I.loc
  ⟨m, hn, I.bk, Nat.le_trans I.ok.bsz I.ok.above⟩
theorem Inv.lt (I : Inv X pins σ H s) : X.env.locals < s.heap.objs.size := let ⟨_, hn, _⟩ := I.loc; hn.lt
theorem Inv.sz (I : Inv X pins σ H s) : X.s₀.heap.objs.size ≤ s.heap.objs.size := Nat.le_trans I.ok.above (Nat.le_of_lt I.lt)
theorem Inv.nofs (I : Inv X pins σ H s) {a : Addr} (h : s.heap.objs.size ≤ a) : a ∉ X.fs := fun hb => by
  obtain ⟨_, o, ho, _⟩ := I.ok.funs.mem hb
  exact absurd (Nat.lt_of_lt_of_le (Heap.lt_size ho) (Nat.le_trans I.sz h)) (Nat.lt_irrefl _)
theorem Inv.cne (I : Inv X pins σ H s) : ∀ x c, X.env.cells.lookup x = some c → c ≠ X.env.locals := fun x c e z => by
  obtain ⟨v, o, ho, hd⟩ := I.cell x c e
  obtain ⟨m, ⟨o', es, ep, ho', hd', _⟩, _⟩ := I.loc
  rw [z, ho'] at ho; cases ho; rw [hd'] at hd; cases hd
theorem Inv.funs (I : Inv X pins σ H s) : s.heap.FunFrames X.base X.outer := by
  have all : ∀ (l : List Env), (∀ b ∈ frs l, b ∈ X.fs) → X.s₀.heap.FunFrames X.base l → s.heap.FunFrames X.base l := by
    intro l
    induction l with
    | nil => intro _ _; trivial
    | cons env r ih =>
      intro hs hl
      obtain ⟨hk, ⟨L, o, hf, hn, ho, hd⟩, hr⟩ := hl
      have hL : L ∈ X.fs := hs L (by unfold frs; rw [List.filterMap_cons, hf]; exact List.mem_cons_self)
      obtain ⟨sl, e⟩ := I.base.slot L o ho (I.ok.frf L hL) hL fun z => I.ok.exfs L z hL
      exact ⟨hk, ⟨L, _, hf, hn, e, hd⟩, ih (fun b hb => hs b (by unfold frs; rw [List.filterMap_cons, hf]; exact List.mem_cons_of_mem _ hb)) hr⟩
  exact all X.outer (fun _ hb => hb) I.ok.funs

/-- the frames that run, for a call -/
theorem Inv.stack (I : Inv X pins σ H s) : s.heap.FunFrames X.base X.stack := by
  rcases I.ok.stk with e | ⟨e, hf⟩
  · rw [e]; exact I.funs
  · rw [e]
    obtain ⟨m, hn, _⟩ := I.loc
    refine .cons (by rw [I.ok.kind]; decide) hf hn ?_ I.funs
    exact Heap.get?_none_of_le (Nat.le_trans I.ok.bsz I.ok.above)
theorem Inv.stkSub (I : Inv X pins σ H s) : ∀ b ∈ frs X.stack, b ∈ X.env.locals :: X.fs := fun b hb => by
  rcases I.ok.stk with e | ⟨e, hf⟩
  · rw [e] at hb; exact List.mem_cons_of_mem _ hb
  · rw [e] at hb
    unfold frs at hb
    rw [List.filterMap_cons, hf] at hb
    exact hb
theorem Inv.stkFree (I : Inv X pins σ H s) : ∀ b ∈ frs X.stack, H b = none := fun b hb => by
  rcases List.mem_cons.mp (I.stkSub b hb) with e | hb
  · rw [e]; exact I.free
  · obtain ⟨_, o, ho, _⟩ := I.ok.funs.mem hb
    exact I.base.free b o ho (I.ok.frf b hb) fun z => I.ok.exfs b z hb

/-- THE STEP: the untracked objects but the frame and the records at ch are kept (the callers' frames up to slots), the frame's map is kept, the new abstract heap is held -/
theorem Inv.step {g' : Array GenState} {t' : Nat} {d' : Drawn} {ch : List Addr} (I : Inv X pins σ H s)
    (hch : ∀ b ∈ ch, (b ∈ X.ex ∨ X.s₀.heap.objs.size ≤ b) ∧ b ≠ X.env.locals ∧ (∀ x c, X.env.cells.lookup x = some c → c ≠ b) ∧ ∀ p ∈ X.pn ++ pins, p.1 ≠ b)
    (keep : ∀ b o, b ≠ X.env.locals → b ∉ X.fs → b ∉ ch → s.heap.get? b = some o → H b = none → h'.get? b = some o)
    (slot : ∀ b o, b ≠ X.env.locals → b ∈ X.fs → b ∉ ch → s.heap.get? b = some o → H b = none → ∃ sl, h'.get? b = some { o with slots := sl }) (free : ∀ b o, b ∉ ch → s.heap.get? b = some o → H b = none → H' b = none)
    (there : ∀ b o, b ∉ ch → s.heap.get? b = some o → ∃ o', h'.get? b = some o')
    (tups : ∀ b xs, H b = some (.tup xs) → H' b = some (.tup xs)) (frzs : ∀ b o u, H b = some (.frz o u) → H' b = some (.frz o u)) (tbls : ∀ b ps, H b = some (.tbl ps) → ∃ more, H' b = some (.tbl (ps ++ more)))
    (ns : ∀ m, s.heap.Ns X.env.locals m → h'.Ns X.env.locals m) (hok : HOk X.prog X.w H' h') (hg : AllBare g') :
    Inv X pins σ H' { s with heap := h', gens := g', drawn := d', toks := t' } := by
  have neL : ∀ b o, X.s₀.heap.get? b = some o → b ≠ X.env.locals := fun b o e => Nat.ne_of_lt (Nat.lt_of_lt_of_le (Heap.lt_size e) I.ok.above)
  have neC : ∀ b o, X.s₀.heap.get? b = some o → b ∉ X.ex → b ∉ ch := fun b o e hx hb => by
    rcases (hch b hb).1 with z | z
    · exact hx z
    · exact absurd (Nat.lt_of_lt_of_le (Heap.lt_size e) z) (Nat.lt_irrefl _)
  have cellK : ∀ x c, X.env.cells.lookup x = some c → ∀ v, s.heap.IsCell c v → h'.IsCell c v := fun x c e v ⟨o, ho, hd⟩ => by
    have nch : c ∉ ch := fun z => (hch c z).2.2.1 x c e rfl
    by_cases hc : c ∈ X.fs
    · obtain ⟨sl, q⟩ := slot c o (I.cne x c e) hc nch ho (I.freeC x c e)
      exact ⟨_, q, hd⟩
    · exact ⟨o, keep c o (I.cne x c e) hc nch ho (I.freeC x c e), hd⟩
  refine ⟨I.ok, I.os, hg, ⟨fun b o e n hb hx => ?_, fun b o e n hb hx => ?_, fun b o e n hx => ?_, fun b o e hx => ?_, fun b xs e => tups b xs (I.base.tups b xs e), fun b o xs e => frzs b o xs (I.base.frzs b o xs e), fun b ps e => ?_⟩, ?_, fun x c e => ?_, ?_, fun x c e => ?_, fun p hp => ?_, hok, I.len⟩
  · exact keep b o (neL b o e) hb (neC b o e hx) (I.base.keep b o e n hb hx) (I.base.free b o e n hx)
  · obtain ⟨sl, e1⟩ := I.base.slot b o e n hb hx
    obtain ⟨sl', e2⟩ := slot b _ (neL b o e) hb (neC b o e hx) e1 (I.base.free b o e n hx)
    exact ⟨sl', e2⟩
  · obtain ⟨o', e1⟩ := I.base.there b o e hx
    exact free b o' (neC b o e hx) e1 (I.base.free b o e n hx)
  · obtain ⟨o', e1⟩ := I.base.there b o e hx
    exact there b o' (neC b o e hx) e1
  · obtain ⟨m1, e1⟩ := I.base.tbls b ps e
    obtain ⟨m2, e2⟩ := tbls b _ e1
    exact ⟨m1 ++ m2, by rw [e2, Array.append_assoc]⟩
  · obtain ⟨m, hn, hl⟩ := I.loc
    refine ⟨m, ns m hn, fun i x v e1 e2 e3 => ?_⟩
    obtain ⟨u, r, l⟩ := hl i x v e1 e2 e3
    refine ⟨u, r, ?_⟩
    rcases l with l | ⟨k, c, e, z⟩
    · exact .inl l
    · exact .inr ⟨k, c, e, cellK x c e _ z⟩
  · obtain ⟨v, z⟩ := I.cell x c e
    exact ⟨v, cellK x c e v z⟩
  · obtain ⟨m, ⟨o, _, _, ho, _⟩, _⟩ := I.loc
    exact free _ o (fun z => (hch _ z).2.1 rfl) ho I.free
  · obtain ⟨v, o, ho, hd⟩ := I.cell x c e
    exact free c o (fun z => (hch c z).2.2.1 x c e rfl) ho (I.freeC x c e)
  · obtain ⟨e, n, ne, nf, d⟩ := I.pin p hp
    have nch : p.1 ∉ ch := fun z => (hch p.1 z).2.2.2 p hp rfl
    exact ⟨keep p.1 p.2 ne nf nch e n, free p.1 p.2 nch e n, ne, nf, d⟩
/-- .. where the frame's own object is kept too -/
theorem Inv.un {t' : Nat} (I : Inv X pins σ H s) (u : Un X.fs [] H H' s.heap h') (hok : HOk X.prog X.w H' h') : Inv X pins σ H' { s with heap := h', toks := t' } := by
  obtain ⟨m, ⟨o, es, ep, ho, r⟩, _⟩ := id I.loc
  obtain ⟨sl, hL⟩ := u.any ho I.free (by simp)
  exact I.step (g' := s.gens) (d' := s.drawn) (ch := []) (fun _ z => nomatch z) (fun b o _ hb _ e n => u.keep b o e n hb (by simp)) (fun b o _ hb _ e n => u.slot b o e n hb (by simp)) (fun b o _ e n => u.free b o e n (by simp)) (fun b o _ e => u.there b o e (by simp)) u.tups u.frzs u.tbls (fun m' hm => by
    obtain ⟨o', es', ep', ho', r'⟩ := hm
    rw [ho] at ho'; cases ho'
    exact ⟨_, es', ep', hL, r'⟩) hok I.bare
/-- behind a call (or a comprehension's block): the slots of this frame may have changed too, the records at ch may have turned -/
theorem Inv.call {g' : Array GenState} {t' : Nat} {d' : Drawn} {ch : List Addr} (I : Inv X pins σ H s) (u : Un (frs X.stack) ch H H' s.heap h') (hok : HOk X.prog X.w H' h') (hg : AllBare g')
    (hch : ∀ b ∈ ch, (b ∈ X.ex ∨ X.s₀.heap.objs.size ≤ b) ∧ b ≠ X.env.locals ∧ (∀ x c, X.env.cells.lookup x = some c → c ≠ b) ∧ ∀ p ∈ X.pn ++ pins, p.1 ≠ b) :
    Inv X pins σ H' { s with heap := h', gens := g', drawn := d', toks := t' } := by
  obtain ⟨m, ⟨o, es, ep, ho, r⟩, _⟩ := id I.loc
  obtain ⟨sl, hL⟩ := u.any ho I.free fun z => (hch _ z).2.1 rfl
  exact I.step (ch := ch) hch (fun b o hL hb hc e n => u.keep b o e n (fun z => (List.mem_cons.mp (I.stkSub b z)).elim hL hb) hc) (fun b o _ _ hc e n => u.any e n hc) (fun b o hc e n => u.free b o e n hc) (fun b o hc e => u.there b o e hc) u.tups u.frzs u.tbls (fun m' hm => by
    obtain ⟨o', es', ep', ho', r'⟩ := hm
    rw [ho] at ho'; cases ho'
    exact ⟨_, es', ep', hL, r'⟩) hok hg
/-- an untracked record of ours (an iterator) has turned -/
theorem Inv.turned {t' : Nat} {it : Addr} (I : Inv X pins σ H s) (k : ∀ b o, b ≠ it → s.heap.get? b = some o → h'.get? b = some o) (hn : H it = none) (hL : it ≠ X.env.locals)
    (h1 : it ∈ X.ex ∨ X.s₀.heap.objs.size ≤ it) (h2 : ∀ x c, X.env.cells.lookup x = some c → c ≠ it) (h3 : ∀ p ∈ X.pn ++ pins, p.1 ≠ it) : Inv X pins σ H { s with heap := h', toks := t' } := by
  have nit : ∀ b u, H b = some u → b ≠ it := fun b u e z => by rw [z, hn] at e; cases e
  refine I.step (g' := s.gens) (d' := s.drawn) (ch := [it]) (fun b hb => ?_) (fun b o _ _ hc e _ => k b o (fun z => hc (by simp [z])) e) (fun b o _ _ hc e _ => ⟨o.slots, k b o (fun z => hc (by simp [z])) e⟩) (fun _ _ _ _ n => n)
    (fun b o hc e => ⟨o, k b o (fun z => hc (by simp [z])) e⟩) (fun _ _ e => e) (fun _ _ _ e => e) (fun b ps e => ⟨#[], by rw [e]; simp⟩) (fun m hm => ?_) (fun b u e => ?_) I.bare
  · have e : b = it := by simpa using hb
    subst e
    exact ⟨h1, hL, h2, h3⟩
  · obtain ⟨o, es, ep, ho, r⟩ := hm
    exact ⟨o, es, ep, k _ o (Ne.symm hL) ho, r⟩
  · refine (I.hok b u e).stay (fun c v hc q => k c v ?_ q) (fun _ q => q) fun _ _ q => q
    rcases hc with z | z
    · rw [z]; exact nit b u e
    · exact nit c _ z
theorem Inv.tok (I : Inv X pins σ H s) (t : Nat) : Inv X pins σ H { s with toks := t } := I.un (h' := s.heap) (t' := t) Un.refl I.hok
/-- all objects kept -/
theorem Inv.kept {t' : Nat} (I : Inv X pins σ H s) (k : ∀ b u, s.heap.get? b = some u → h'.get? b = some u) : Inv X pins σ H { s with heap := h', toks := t' } := I.un (Un.kept k) (I.hok.kept k)
/-- a new object laid and tracked -/
theorem Inv.laid {a : Addr} {o : HO} {t' : Nat} (I : Inv X pins σ H s) (k : ∀ b u, s.heap.get? b = some u → h'.get? b = some u) (hp : s.heap.objs.size ≤ a) (new : ObjOk X.prog X.w (upd H a o) h' a o) :
    Inv X pins σ (upd H a o) { s with heap := h', toks := t' } := I.un (Un.laid k hp (I.hok.fresh hp)) (I.hok.laid k hp new)
/-- an object written -/
theorem Inv.write {x e : Addr} {o : HO} {t' : Nat} (I : Inv X pins σ H s) (mu : Mut (H x)) (he : e = x ∨ H e = some (.own x)) (k : ∀ b u, b ≠ e → s.heap.get? b = some u → h'.get? b = some u) (heo : ∃ u, h'.get? e = some u)
    (new : ObjOk X.prog X.w (upd H x o) h' x o) : Inv X pins σ (upd H x o) { s with heap := h', toks := t' } := I.un (Un.write mu he k heo) (I.hok.write mu he k heo new)
theorem Inv.pins_of {pins' : List (Addr × Obj)} (I : Inv X pins σ H s) (h : ∀ p ∈ pins', s.heap.get? p.1 = some p.2 ∧ H p.1 = none ∧ p.1 ≠ X.env.locals ∧ p.1 ∉ X.fs ∧ ∀ v, p.2.data ≠ .cell v) : Inv X pins' σ H s :=
  ⟨I.ok, I.os, I.bare, I.base, I.loc, I.cell, I.free, I.freeC, fun p hp => (List.mem_append.mp hp).elim (fun z => I.pin p (List.mem_append_left _ z)) (h p), I.hok, I.len⟩

theorem nodup_ix {N : List Str} (hN : N.Nodup) {i j : Nat} {x : Str} (a : N[i]? = some x) (b : N[j]? = some x) : i = j := by
  obtain ⟨h1, e1⟩ := List.getElem?_eq_some_iff.mp a
  obtain ⟨h2, e2⟩ := List.getElem?_eq_some_iff.mp b
  exact (List.getElem_inj hN).mp (e1.trans e2.symm)

/-- a name is stored; what changed -/
theorem store_ok2 {M : Model} {A : Around} {E : Value → Shared → Prop} {i : Nat} {x : Str} {v : V} {u : Value} {Q : Unit → Shared → Prop} (I : Inv X pins σ H s) (hN : X.N.Nodup) (hi : X.N[i]? = some x) (hx : Loc X.env.scope x) (r : RelV v u)
    (h : ∀ s', Inv X pins (σ.set i (some v)) H s' → (∃ a, Heap.SameBut a s.heap s'.heap ∧ (a = X.env.locals ∨ X.env.cells.lookup x = some a)) → Q () s') (hf : X.fn x = true ∨ X.env.scope.names.lookup x = some .local := by first | exact .inl rfl | exact .inr rfl | assumption) : wpAny M A (storeName X.env x u) Q E s := by
  obtain ⟨m, hn, hl⟩ := id I.loc
  have hcls : (X.env.scope.kind == .class || (X.env.scope.kind == .module && X.env.locals != X.env.globals)) = false := by rw [I.ok.kind]; rfl
  have hiσ : i < σ.length := by rw [I.len]; exact (List.getElem?_eq_some_iff.mp hi).1
  have cne := I.cne
  have tracked : ∀ {a : Addr} {h' : Heap}, (∃ o, s.heap.get? a = some o ∧ H a = none) → Heap.SameBut a s.heap h' → HOk X.prog X.w H h' := fun {a h'} ha hs b ob e => by
    obtain ⟨_, _, hfree⟩ := ha
    refine (I.hok b ob e).stay (fun c w' hc q => (hs.2 c ?_).trans q) (fun _ q => q) fun _ _ q => q
    rintro rfl
    rcases hc with rfl | hc
    · rw [hfree] at e; cases e
    · rw [hfree] at hc; cases hc
  rcases hx with hk | hk
  · refine wpAny_storeName_local hk hn (fun h' hn' hs => ?_) hcls
    obtain ⟨oL, _, _, hoL, _⟩ := id hn
    refine h _ ⟨I.ok, I.os, I.bare, ⟨fun b o e n hb hx => ?_, fun b o e n hb hx => ?_, I.base.free, fun b o e hx => ?_, I.base.tups, I.base.frzs, I.base.tbls⟩, ⟨_, hn', fun j y v' e1 e2 e3 => ?_⟩, fun y c e => ?_, I.free, I.freeC, fun p hp => ?_, tracked ⟨oL, hoL, I.free⟩ hs, by simpa using I.len⟩ ⟨_, hs, .inl rfl⟩
    · exact (hs.2 b (Nat.ne_of_lt (Nat.lt_of_lt_of_le (Heap.lt_size e) I.ok.above))).trans (I.base.keep b o e n hb hx)
    · obtain ⟨sl, e1⟩ := I.base.slot b o e n hb hx
      exact ⟨sl, (hs.2 b (Nat.ne_of_lt (Nat.lt_of_lt_of_le (Heap.lt_size e) I.ok.above))).trans e1⟩
    · obtain ⟨o', e1⟩ := I.base.there b o e hx
      exact ⟨o', (hs.2 b (Nat.ne_of_lt (Nat.lt_of_lt_of_le (Heap.lt_size e) I.ok.above))).trans e1⟩
    · by_cases hj : j = i
      · subst hj
        rw [hi] at e1; cases e1
        rw [List.getElem?_set_self hiσ] at e2
        cases e2
        exact ⟨u, r, .inl ⟨hk, by simp⟩⟩
      · rw [List.getElem?_set_ne (Ne.symm hj)] at e2
        obtain ⟨u', r', q⟩ := hl j y v' e1 e2 e3
        refine ⟨u', r', ?_⟩
        rcases q with ⟨k, e⟩ | ⟨k, c, e, z⟩
        · refine .inl ⟨k, ?_⟩
          have : y ≠ x := fun e => hj (nodup_ix hN e1 (e ▸ hi))
          simp [this, e]
        · exact .inr ⟨k, c, e, z.sameBut hs (cne y c e)⟩
    · obtain ⟨w', z⟩ := I.cell y c e
      exact ⟨w', z.sameBut hs (cne y c e)⟩
    · obtain ⟨e, n, ne, nf, d⟩ := I.pin p hp
      exact ⟨(hs.2 p.1 ne).trans e, n, ne, nf, d⟩
  · have hfn : X.fn x = true := by
      rcases hf with z | z
      · exact z
      · rw [z] at hk; cases hk
    obtain ⟨c, hc⟩ := I.ok.has x (.inl hk)
    obtain ⟨w', z⟩ := I.cell x c hc
    refine wpAny_storeName_cell I.ok.kind hk hc z (fun h' hc' hs => ?_)
    obtain ⟨oc, hoc, hocd⟩ := id z
    refine h { s with heap := h' } ⟨I.ok, I.os, I.bare, ⟨fun b o e n hb hx => ?_, fun b o e n hb hx => ?_, I.base.free, fun b o e hx => ?_, I.base.tups, I.base.frzs, I.base.tbls⟩, ⟨m, hn.sameBut hs (Ne.symm (cne x c hc)), fun j y v' e1 e2 e3 => ?_⟩, fun y c' e => ?_, I.free, I.freeC, fun p hp => ?_, tracked ⟨oc, hoc, I.freeC x c hc⟩ hs, by simpa using I.len⟩ ⟨c, hs, .inr hc⟩
    · exact (hs.2 b (Nat.ne_of_lt (Nat.lt_of_lt_of_le (Heap.lt_size e) (I.ok.cab x c hfn hc)))).trans (I.base.keep b o e n hb hx)
    · obtain ⟨sl, e1⟩ := I.base.slot b o e n hb hx
      exact ⟨sl, (hs.2 b (Nat.ne_of_lt (Nat.lt_of_lt_of_le (Heap.lt_size e) (I.ok.cab x c hfn hc)))).trans e1⟩
    · obtain ⟨o', e1⟩ := I.base.there b o e hx
      exact ⟨o', (hs.2 b (Nat.ne_of_lt (Nat.lt_of_lt_of_le (Heap.lt_size e) (I.ok.cab x c hfn hc)))).trans e1⟩
    · by_cases hj : j = i
      · subst hj
        rw [hi] at e1; cases e1
        rw [List.getElem?_set_self hiσ] at e2
        cases e2
        exact ⟨u, r, .inr ⟨.inl hk, c, hc, hc'⟩⟩
      · rw [List.getElem?_set_ne (Ne.symm hj)] at e2
        obtain ⟨u', r', q⟩ := hl j y v' e1 e2 e3
        refine ⟨u', r', ?_⟩
        rcases q with q | ⟨k, c', e, z'⟩
        · exact .inl q
        · refine .inr ⟨k, c', e, z'.sameBut hs ?_⟩
          rintro rfl
          exact hj (nodup_ix hN e1 (I.ok.inj _ _ _ e hc ▸ hi))
    · by_cases hcc : c' = c
      · subst hcc; exact ⟨_, hc'⟩
      · obtain ⟨w2, z2⟩ := I.cell y c' e
        exact ⟨w2, z2.sameBut hs hcc⟩
    · obtain ⟨e, n, ne, nf, d⟩ := I.pin p hp
      refine ⟨(hs.2 p.1 ?_).trans e, n, ne, nf, d⟩
      intro q
      rw [q, hoc] at e
      have q' : oc = p.2 := Option.some.inj e
      exact d w' (by rw [← q']; exact hocd)
theorem store_ok {M : Model} {A : Around} {E : Value → Shared → Prop} {i : Nat} {x : Str} {v : V} {u : Value} {Q : Unit → Shared → Prop} (I : Inv X pins σ H s) (hN : X.N.Nodup) (hi : X.N[i]? = some x) (hx : Loc X.env.scope x) (r : RelV v u)
    (h : ∀ s', Inv X pins (σ.set i (some v)) H s' → Q () s') (hf : X.fn x = true ∨ X.env.scope.names.lookup x = some .local := by first | exact .inl rfl | exact .inr rfl | assumption) : wpAny M A (storeName X.env x u) Q E s :=
  store_ok2 I hN hi hx r (fun s' I' _ => h s' I') hf
/-- behind a call or a block, the state as it is -/
theorem Inv.call' {s' : Shared} {ch : List Addr} (I : Inv X pins σ H s) (ho : s'.os = s.os) (u : Un (frs X.stack) ch H H' s.heap s'.heap) (hok : HOk X.prog X.w H' s'.heap) (hg : AllBare s'.gens)
    (hch : ∀ b ∈ ch, (b ∈ X.ex ∨ X.s₀.heap.objs.size ≤ b) ∧ b ≠ X.env.locals ∧ (∀ x c, X.env.cells.lookup x = some c → c ≠ b) ∧ ∀ p ∈ X.pn ++ pins, p.1 ≠ b) : Inv X pins σ H' s' := by
  obtain ⟨h', g', d', t', o'⟩ := s'
  have e : o' = s.os := ho
  subst e
  exact I.call (g' := g') (t' := t') (d' := d') u hok hg hch
end

/-! ### the judgements -/
/-- an exception: its class, its own dict's address (where it has one), the abstract heap behind it -/
abbrev XK := Value → Option Addr → Hp → Prop
abbrev St := List (Option V)
abbrev VK := V → Hp → Prop
/-- an expression's reading; a test's; an argument list's -/
abbrev TE := St → Hp → VK → Prop
abbrev TT := St → Hp → (Bool → Hp → Prop) → Prop
abbrev TA := St → Hp → (List V → Hp → Prop) → Prop
/-- what is wanted behind a statement -/
structure Ends where
  nx : St → Hp → Prop
  rt : VK
  bk : St → Hp → Prop := fun _ _ => False
  ct : St → Hp → Prop := fun _ _ => False
abbrev TS := Ends → St → Hp → Prop

def EP (X : Cx) (pins : List (Addr × Obj)) (σ : St) (Q : VK) (u : Value) (s' : Shared) : Prop := ∃ v H', Inv X pins σ H' s' ∧ RelV v u ∧ Q v H'
def TP (X : Cx) (pins : List (Addr × Obj)) (σ : St) (Q : Bool → Hp → Prop) (b : Bool) (s' : Shared) : Prop := ∃ H', Inv X pins σ H' s' ∧ Q b H'
def AP (X : Cx) (pins : List (Addr × Obj)) (σ : St) (Q : List V → Hp → Prop) (us : List Value) (s' : Shared) : Prop := ∃ vs H', Inv X pins σ H' s' ∧ Vals vs us ∧ Q vs H'
def SP (X : Cx) (pins : List (Addr × Obj)) (D : Ends) (f : Flow) (s' : Shared) : Prop :=
  match f with
  | .next => ∃ σ' H', Inv X pins σ' H' s' ∧ D.nx σ' H'
  | .brk => ∃ σ' H', Inv X pins σ' H' s' ∧ D.bk σ' H'
  | .cont => ∃ σ' H', Inv X pins σ' H' s' ∧ D.ct σ' H'
  | .ret u => ∃ v σ' H', Inv X pins σ' H' s' ∧ RelV v u ∧ D.rt v H'

def PE (X : Cx) (e : Expr) (t : TE) : Prop :=
  ∀ (pins : List (Addr × Obj)) (s : Shared) (σ : St) (H : Hp) (Q : VK), Inv X pins σ H s → t σ H Q → wpAny (model X.prog X.w) X.A (eval e X.env) (EP X pins σ Q) X.xe s
def PT (X : Cx) (e : Expr) (t : TT) : Prop :=
  ∀ (pins : List (Addr × Obj)) (s : Shared) (σ : St) (H : Hp) (Q : Bool → Hp → Prop), Inv X pins σ H s → t σ H Q → wpAny (model X.prog X.w) X.A (isTrue e X.env (eval e X.env)) (TP X pins σ Q) X.xe s
/-- a test whatever its 'whole' is (and, or) -/
def PW (X : Cx) (e : Expr) (t : TT) : Prop :=
  ∀ (whole : Sem Value) (pins : List (Addr × Obj)) (s : Shared) (σ : St) (H : Hp) (Q : Bool → Hp → Prop), Inv X pins σ H s → t σ H Q → wpAny (model X.prog X.w) X.A (isTrue e X.env whole) (TP X pins σ Q) X.xe s
theorem PW.pt {X : Cx} {e : Expr} {t : TT} (h : PW X e t) : PT X e t := h _
/-- an argument list (no star), from the left -/
def PA (X : Cx) (es : List Expr) (t : TA) : Prop :=
  ∀ (pos : Pos) (pins : List (Addr × Obj)) (s : Shared) (σ : St) (H : Hp) (Q : List V → Hp → Prop), Inv X pins σ H s → t σ H Q → wpAny (model X.prog X.w) X.A (spliced (backTo pos (starEach es X.env))) (AP X pins σ Q) X.xe s
def PS (X : Cx) (st : Stmt) (t : TS) : Prop :=
  ∀ (pins : List (Addr × Obj)) (s : Shared) (σ : St) (H : Hp) (D : Ends), Inv X pins σ H s → t D σ H → wpAny (model X.prog X.w) X.A (exec st X.env) (SP X pins D) X.xe s
def PSs (X : Cx) (st : List Stmt) (t : TS) : Prop :=
  ∀ (pins : List (Addr × Obj)) (s : Shared) (σ : St) (H : Hp) (D : Ends), Inv X pins σ H s → t D σ H → wpAny (model X.prog X.w) X.A (execs st X.env) (SP X pins D) X.xe s
/-- weaken the end -/
theorem thn {α : Type} {t : Sem α} {Q Q' : α → Shared → Prop} {M : Model} {A : Around} {E : Value → Shared → Prop} {s : Shared} (h : wpAny M A t Q E s) (hQ : ∀ a s, Q a s → Q' a s) : wpAny M A t Q' E s := wpAny_mono h hQ fun _ _ x => x
end L2

namespace L2
open PySem PySem.Spec PyProof.Rows
section
variable {X : Cx}

/-! ### names and constants -/
def tVar (i : Nat) : TE := fun σ H Q => ∃ v, σ[i]? = some (some v) ∧ Q v H
def tC (v : V) : TE := fun _ H Q => Q v H
theorem pe_var {i : Nat} {x : Str} {pos : Pos} (hN : X.N[i]? = some x) (hv : Vis X.env.scope x) (hd : (x == ("__debug__" : Str)) = false := by decide) (hcd : (x == ("__classdict__" : Str)) = false := by decide) : PE X (.Name x pos) (tVar i) := by
  intro pins s σ H Q I h
  obtain ⟨v, e, h⟩ := h
  obtain ⟨m, hn, hl⟩ := I.loc
  obtain ⟨u, r, l⟩ := hl i x v hN e hv
  have fin : EP X pins σ Q u s := ⟨v, H, I, r, h⟩
  rcases l with ⟨hk, hm⟩ | ⟨hk, c, hc, hcell⟩
  · exact wpAny_Name (wpAny_loadName_local I.ok.kind hk hn hm fin) hd
  · rcases hk with hk | hk
    · exact wpAny_Name (wpAny_loadName_cell I.ok.kind hk hc hcell fin) hd
    · exact wpAny_Name (wpAny_loadName_free I.ok.kind hk hc hcell fin hcd) hd
theorem pe_int {i j pos} : PE X (.Constant (.int i) j pos) (tC (.int i)) := fun _ _ _ H _ I h => wpAny_Constant_int ⟨.int i, H, I.tok _, ⟨_, rfl⟩, h⟩
theorem pe_bl {b j pos} : PE X (.Constant (.bool b) j pos) (tC (.bl b)) := fun _ _ _ H _ I h => Constant_bool ⟨.bl b, H, I, rfl, h⟩
theorem pe_non {j pos} : PE X (.Constant .none j pos) (tC .non) := fun _ _ _ H _ I h => Constant_none ⟨.non, H, I, rfl, h⟩
theorem pe_str {x j pos} : PE X (.Constant (.str x) j pos) (tC (.str x)) := fun _ _ _ H _ I h => Calls.Constant_str ⟨.str x, H, I.tok _, ⟨_, rfl⟩, h⟩

/-- a global name of the def -/
def Gl (X : Cx) (x : Str) : Prop := X.env.kindOf x = some .globalImplicit
theorem ld_glob {E : Value → Shared → Prop} {pins : List (Addr × Obj)} {s : Shared} {σ : St} {H : Hp} {x : Str} {u : Value} {pos : Pos} {Q : Value → Shared → Prop} (I : Inv X pins σ H s) (hg : Gl X x) (hm : X.mg x = some u) (h : Q u s)
    (hd : (x == ("__debug__" : Str)) = false := by decide) : wpAny (model X.prog X.w) X.A (eval (.Name x pos) X.env) Q E s :=
  Calls.Name_function_global I.ok.kind hg (Calls.loadGlobal_global (by rw [I.ok.glob]; exact I.mod.glob.keeps I.bk) hm h) hd
theorem ld_blt {E : Value → Shared → Prop} {pins : List (Addr × Obj)} {s : Shared} {σ : St} {H : Hp} {x : Str} {u : Value} {pos : Pos} {Q : Value → Shared → Prop} (I : Inv X pins σ H s) (hg : Gl X x) (hm : X.mg x = none) (hv : bootBuiltins x = some u) (h : Q u s)
    (hn : x ≠ "__name__" := by decide) (hd : (x == ("__debug__" : Str)) = false := by decide) : wpAny (model X.prog X.w) X.A (eval (.Name x pos) X.env) Q E s := by
  obtain ⟨mb, h1, h2⟩ := I.mod.blt
  exact Calls.Name_function_global I.ok.kind hg (Calls.loadGlobal_builtin (by rw [I.ok.glob]; exact I.mod.glob.keeps I.bk) hm (by rw [I.ok.blt]; exact h1.keeps I.bk) ((h2 x hn).trans hv) h) hd
/-- a module's constant, a class, a function, as a value -/
theorem pe_glob {x : Str} {v : V} {u : Value} {pos : Pos} (hg : Gl X x) (hm : X.mg x = some u) (r : RelV v u) (hd : (x == ("__debug__" : Str)) = false := by decide) : PE X (.Name x pos) (tC v) :=
  fun _ _ _ H _ I h => ld_glob I hg hm ⟨v, H, I, r, h⟩ hd
theorem pe_bltn {x : Str} {v : V} {u : Value} {pos : Pos} (hg : Gl X x) (hm : X.mg x = none) (hv : bootBuiltins x = some u) (r : RelV v u) (hn : x ≠ "__name__" := by decide) (hd : (x == ("__debug__" : Str)) = false := by decide) : PE X (.Name x pos) (tC v) :=
  fun _ _ _ H _ I h => ld_blt I hg hm hv ⟨v, H, I, r, h⟩ hn hd

/-! ### arithmetic -/
variable {a b : Expr} {ta tb : TE} {pos : Pos}
/-! ### comparisons -/
/-- a comparison as a value, as a test -/
def tB (t : TE) : TT := fun σ H Q => t σ H fun x H1 => ∃ c, x = .bl c ∧ Q c H1
/-- an expression whose value is a bool, as a test -/
theorem pt_val {e : Expr} {t : TE} (h : PE X e t) (he : ∀ whole, isTrue e X.env whole = (do let v ← whole; standAt e.pos; holding [v] (truthy v)) := by intro _; rfl) : PT X e (tB t) := by
  intro pins s σ H Q I hw
  refine isTrue_plain (thn (h pins s σ H _ I hw) fun v s1 ⟨x, H1, I1, r1, q1⟩ => ?_) (he _)
  obtain ⟨d, rfl, q⟩ := q1
  cases r1
  exact wpAny_truthy_bool ⟨H1, I1, q⟩

/-! ### and, or, not -/
variable {tA tB' : TT} {rest : List Expr}
def tOr (t u : TT) : TT := fun σ H Q => t σ H fun c H1 => if c = true then Q true H1 else u σ H1 Q
def tNot (t : TT) : TT := fun σ H Q => t σ H fun c H1 => Q (!c) H1
theorem pw_or1 (ha : PT X a tA) : PW X (.BoolOp .Or [a] pos) tA := by
  intro wh pins s σ H Q I h
  refine isTrue_or (thn (ha pins s σ H Q I h) fun c s1 e => ?_)
  cases c with
  | false => exact isTrue_or_nil e
  | true => exact e
theorem pw_or (ha : PT X a tA) (hb : PW X (.BoolOp .Or (b :: rest) pos) tB') : PW X (.BoolOp .Or (a :: b :: rest) pos) (tOr tA tB') := by
  intro wh pins s σ H Q I h
  refine isTrue_or (thn (ha pins s σ H _ I h) fun c s1 ⟨H1, I1, q1⟩ => ?_)
  cases c with
  | true => exact ⟨H1, I1, q1⟩
  | false => exact hb wh pins s1 σ H1 Q I1 q1
theorem pt_not (ha : PT X a tA) : PT X (.UnaryOp .Not a pos) (tNot tA) := by
  intro pins s σ H Q I h
  exact isTrue_not (ha pins s σ H (fun c H1 => Q (!c) H1) I h)
/-- .. as values (bools) -/
def tAndV (ta tb : TE) : TE := fun σ H Q => ta σ H fun x H1 => ∃ c, x = .bl c ∧ if c = true then tb σ H1 Q else Q (.bl false) H1
theorem pe_one {op} {t : TE} (h : PE X a t) : PE X (.BoolOp op [a] pos) t := fun pins s σ H Q I hw => BoolOp_one (h pins s σ H Q I hw)
theorem pe_and (ha : PE X a ta) (hb : PE X (.BoolOp .And (b :: rest) pos) tb) : PE X (.BoolOp .And (a :: b :: rest) pos) (tAndV ta tb) := by
  intro pins s σ H Q I h
  refine BoolOp_and (thn (ha pins s σ H _ I h) fun v s1 ⟨x, H1, I1, r1, q1⟩ => ?_)
  obtain ⟨c, rfl, q1⟩ := q1
  cases r1
  refine wpAny_truthy_bool ?_
  cases c with
  | true => exact hb pins s1 σ H1 Q I1 q1
  | false => exact ⟨.bl false, H1, I1, rfl, q1⟩
end
end L2

namespace L2
open PySem PySem.Spec PyProof.Rows

/-! ### a list, a tuple that is read: tracked, frozen, or an object of the module -/
def SqL (K : PySem.W.Frag) (H : Hp) (a : Addr) (xs : List V) : Prop :=
  Rd H a (.lst xs) ∨
    ∃ (o : Obj) (its : Array Value) (n : Nat), K.lookup a = some o ∧ o.cls = .type "list" ∧ o.dict = none ∧ o.data = .seq its n ∧ its.size ≤ sizeLine ∧ Vals xs its.toList
def SqT (K : PySem.W.Frag) (H : Hp) (a : Addr) (xs : List V) : Prop :=
  Rd H a (.tup xs) ∨
    ∃ (o : Obj) (its : Array Value) (n : Nat), K.lookup a = some o ∧ o.cls = .type "tuple" ∧ o.data = .seq its n ∧ its.size ≤ sizeLine ∧ Vals xs its.toList
def absV : Value → Option V
  | .none => some .non
  | .bool b => some (.bl b)
  | .int i _ => some (.int i)
  | .str x _ => some (.str x)
  | .bytes b _ => some (.byt b)
  | .float b _ => some (.flt b)
  | .ref a => some (.ref a)
  | .type n => some (.ty n)
  | _ => none
theorem RelV.abs {x : V} {u : Value} (r : RelV x u) : absV u = some x := by
  cases x with
  | non => cases r; rfl
  | bl _ => cases r; rfl
  | int _ => obtain ⟨t, rfl⟩ := r; rfl
  | str _ => obtain ⟨t, rfl⟩ := r; rfl
  | byt _ => obtain ⟨t, rfl⟩ := r; rfl
  | flt _ => obtain ⟨t, rfl⟩ := r; rfl
  | ref _ => cases r; rfl
  | ty _ => cases r; rfl
theorem RelV.inj {x y : V} {u : Value} (r : RelV x u) (q : RelV y u) : x = y := Option.some.inj (r.abs.symm.trans q.abs)
theorem Vals.inj : ∀ {xs ys : List V} {us : List Value}, Vals xs us → Vals ys us → xs = ys
  | _, _, _, .nil, .nil => rfl
  | _, _, _, .cons r t, .cons r' t' => by rw [r.inj r', Vals.inj t t']
section
variable {X : Cx} {pins : List (Addr × Obj)} {σ : St} {H : Hp} {s : Shared} {a : Addr} {xs ys : List V}
theorem SqL.of {K : PySem.W.Frag} (h : H a = some (.lst xs)) : SqL K H a xs := .inl (.inl h)
theorem SqT.of {K : PySem.W.Frag} (h : H a = some (.tup xs)) : SqT K H a xs := .inl (.inl h)
theorem Inv.list (I : Inv X pins σ H s) (h : SqL X.K H a xs) : ∃ its : List Value, Vals xs its ∧ PlainL s.heap a its.toArray ∧ xs.length ≤ sizeLine := by
  rcases h with h | ⟨o, its, n, hk, hc, hd, hs, hz, r⟩
  · obtain ⟨z, its, n, r, e⟩ := h.ok I.hok
    exact ⟨its, r, ⟨_, n, e, rfl, rfl, rfl⟩, z⟩
  · refine ⟨its.toList, r, ⟨o, n, I.kIn a o hk, hc, hd, by simpa using hs⟩, ?_⟩
    have e := r.length
    simp only [Array.length_toList] at e
    omega
theorem Inv.tuple (I : Inv X pins σ H s) (h : SqT X.K H a xs) : ∃ its : List Value, Vals xs its ∧ IsTup s.heap a its.toArray ∧ xs.length ≤ sizeLine := by
  rcases h with h | ⟨o, its, n, hk, hc, hs, hz, r⟩
  · obtain ⟨z, its, r, p⟩ := h.ok I.hok
    exact ⟨its, r, p, z⟩
  · refine ⟨its.toList, r, ⟨o, I.kIn a o hk, hc, n, by simpa using hs⟩, ?_⟩
    have e := r.length
    simp only [Array.length_toList] at e
    omega
theorem Inv.list_inj (I : Inv X pins σ H s) (h : SqL X.K H a xs) (h' : SqL X.K H a ys) : xs = ys := by
  obtain ⟨its, r, ⟨o, n, e, _, _, d⟩, _⟩ := I.list h
  obtain ⟨its', r', ⟨o', n', e', _, _, d'⟩, _⟩ := I.list h'
  rw [e] at e'; cases e'
  rw [d] at d'
  injection d' with d1 _
  have : its = its' := by simpa using congrArg Array.toList d1
  subst this
  exact r.inj r'
theorem Inv.tuple_inj (I : Inv X pins σ H s) (h : SqT X.K H a xs) (h' : SqT X.K H a ys) : xs = ys := by
  obtain ⟨its, r, ⟨o, e, _, n, d⟩, _⟩ := I.tuple h
  obtain ⟨its', r', ⟨o', e', _, n', d'⟩, _⟩ := I.tuple h'
  rw [e] at e'; cases e'
  rw [d] at d'
  injection d' with d1 _
  have : its = its' := by simpa using congrArg Array.toList d1
  subst this
  exact r.inj r'
end

/-! ### another wish about exceptions -/
abbrev Cx.wish (X : Cx) (E : Value → Shared → Prop) : Cx := { X with xe := E }
/-- no exception leaves -/
abbrev Cx.nox (X : Cx) : Cx := X.wish fun _ _ => False
theorem Cx.Ok.wish {X : Cx} (ok : X.Ok) (E : Value → Shared → Prop) : (X.wish E).Ok :=
  ⟨ok.mod, ok.kind, ok.glob, ok.blt, ok.above, ok.inj, ok.has, ok.cab, ok.hd, ok.frames, ok.stk, ok.exf, ok.bs, ok.bsz, ok.noex, ok.exfs, ok.funs, ok.frf⟩
theorem Cx.Ok.unwish {X : Cx} {E : Value → Shared → Prop} (ok : (X.wish E).Ok) : X.Ok :=
  ⟨ok.mod, ok.kind, ok.glob, ok.blt, ok.above, ok.inj, ok.has, ok.cab, ok.hd, ok.frames, ok.stk, ok.exf, ok.bs, ok.bsz, ok.noex, ok.exfs, ok.funs, ok.frf⟩
section
variable {X : Cx} {pins : List (Addr × Obj)} {σ : St} {H : Hp} {s : Shared} {E : Value → Shared → Prop}
theorem Inv.wish (I : Inv X pins σ H s) (E : Value → Shared → Prop) : Inv (X.wish E) pins σ H s := ⟨I.ok.wish E, I.os, I.bare, I.base, I.loc, I.cell, I.free, I.freeC, I.pin, I.hok, I.len⟩
theorem Inv.unwish (I : Inv (X.wish E) pins σ H s) : Inv X pins σ H s := ⟨I.ok.unwish, I.os, I.bare, I.base, I.loc, I.cell, I.free, I.freeC, I.pin, I.hok, I.len⟩
theorem SP.unwish {D : Ends} {f : Flow} {s' : Shared} (h : SP (X.wish E) pins D f s') : SP X pins D f s' := by
  cases f with
  | next => obtain ⟨σ', H', I, q⟩ := h; exact ⟨σ', H', I.unwish, q⟩
  | brk => obtain ⟨σ', H', I, q⟩ := h; exact ⟨σ', H', I.unwish, q⟩
  | cont => obtain ⟨σ', H', I, q⟩ := h; exact ⟨σ', H', I.unwish, q⟩
  | ret u => obtain ⟨v, σ', H', I, r, q⟩ := h; exact ⟨v, σ', H', I.unwish, r, q⟩
theorem PE.nox {e : Expr} {t : TE} (h : PE X.nox e t) : PE X e t := fun pins s σ H Q I hw =>
  wpAny_mono (h pins s σ H Q (I.wish _) hw) (fun _ _ ⟨v, H', I', r, q⟩ => ⟨v, H', I'.unwish, r, q⟩) fun _ _ z => False.elim z
theorem PT.nox {e : Expr} {t : TT} (h : PT X.nox e t) : PT X e t := fun pins s σ H Q I hw =>
  wpAny_mono (h pins s σ H Q (I.wish _) hw) (fun _ _ ⟨H', I', q⟩ => ⟨H', I'.unwish, q⟩) fun _ _ z => False.elim z
theorem PSs.nox {st : List Stmt} {t : TS} (h : PSs X.nox st t) : PSs X st t := fun pins s σ H D I hw =>
  wpAny_mono (h pins s σ H D (I.wish _) hw) (fun _ _ q => q.unwish) fun _ _ z => False.elim z
end

/-! ### blocks and small statements -/
section
variable {X : Cx} {st : Stmt} {rest : List Stmt} {t u : TS} {e : Expr} {te : TE} {pos : Pos}
def tNext : TS := fun D σ H => D.nx σ H
def tSeq (t u : TS) : TS := fun D σ H => t { D with nx := u D } σ H
theorem pss_nil : PSs X [] tNext := fun _ _ σ H _ I h => wpAny_execs_nil ⟨σ, H, I, h⟩
theorem pss_cons (h1 : PS X st t) (h2 : PSs X rest u) : PSs X (st :: rest) (tSeq t u) := by
  intro pins s σ H D I h
  refine wpAny_execs_cons (thn (h1 pins s σ H { D with nx := u D } I h) fun f s1 q => ?_)
  cases f with
  | next =>
    obtain ⟨σ', H', I', q⟩ := q
    exact h2 pins s1 σ' H' D I' q
  | ret v => exact q
  | brk => exact q
  | cont => exact q
theorem pss_one (h1 : PS X st t) : PSs X [st] t := by
  intro pins s σ H D I h
  refine wpAny_execs_cons (thn (h1 pins s σ H D I h) fun f s1 q => ?_)
  cases f with
  | next => exact wpAny_execs_nil q
  | ret v => exact q
  | brk => exact q
  | cont => exact q
/-- in a def's body nothing is shown -/
theorem Inv.quiet {pins : List (Addr × Obj)} {σ : St} {H : Hp} {s : Shared} (I : Inv X pins σ H s) : interactive X.env = false := by simp [interactive, I.ok.kind]
/-- an expression whose value is dropped -/
def tDrop (te : TE) : TS := fun D σ H => te σ H fun _ H1 => D.nx σ H1
theorem ps_expr (he : PE X e te) (hs : swapsWith e none pos.line X.env = pure false := by rfl) : PS X (.Expr e pos) (tDrop te) := by
  intro pins s σ H D I h
  exact wpAny_Expr_any (thn (he pins s σ H _ I h) fun v s1 ⟨x, H1, I1, r1, q1⟩ => ⟨σ, H1, I1, q1⟩) I.quiet hs
def tRet (te : TE) : TS := fun D σ H => te σ H D.rt
theorem ps_ret (he : PE X e te) : PS X (.Return (some e) pos) (tRet te) := by
  intro pins s σ H D I h
  exact wpAny_Return_some (thn (he pins s σ H _ I h) fun v s1 ⟨x, H1, I1, r1, q1⟩ => ⟨x, σ, H1, I1, r1, q1⟩)
def tIfS (c : TT) (t u : TS) : TS := fun D σ H => c σ H fun b H1 => if b = true then t D σ H1 else u D σ H1
theorem ps_if {c : Expr} {a b : List Stmt} {tc : TT} (hc : PT X c tc) (ha : PSs X a t) (hb : PSs X b u) : PS X (.If c a b pos) (tIfS tc t u) := by
  intro pins s σ H D I h
  refine wpAny_If (thn (hc pins s σ H _ I h) fun d s1 ⟨H1, I1, q1⟩ => ?_)
  cases d with
  | true => exact ha pins s1 σ H1 D I1 q1
  | false => exact hb pins s1 σ H1 D I1 q1
end

/-! ### targets -/
abbrev TG := V → St → Hp → (St → Hp → Prop) → Prop
abbrev TGs := List V → St → Hp → (St → Hp → Prop) → Prop
def PG (X : Cx) (target : Expr) (t : TG) : Prop :=
  ∀ (pins : List (Addr × Obj)) (s : Shared) (σ : St) (H : Hp) (v : V) (u : Value) (Q : St → Hp → Prop), Inv X pins σ H s → RelV v u → t v σ H Q →
    wpAny (model X.prog X.w) X.A (assign target X.env u) (fun _ s' => ∃ σ' H', Inv X pins σ' H' s' ∧ Q σ' H') X.xe s
/-- several targets, one after another -/
def PGs (X : Cx) (ts : List Expr) (t : TGs) : Prop :=
  ∀ (pins : List (Addr × Obj)) (s : Shared) (σ : St) (H : Hp) (vs : List V) (us : List Value) (Q : St → Hp → Prop), Inv X pins σ H s → Vals vs us → t vs σ H Q →
    wpAny (model X.prog X.w) X.A (assignInOrder ((assignEach ts X.env).map (·.2)) us) (fun _ s' => ∃ σ' H', Inv X pins σ' H' s' ∧ Q σ' H') X.xe s
section
variable {X : Cx} {pos : Pos}
def gName (i : Nat) : TG := fun v σ H Q => Q (σ.set i (some v)) H
theorem pg_name {i : Nat} {x : Str} (hN : X.N.Nodup) (hi : X.N[i]? = some x) (hx : Loc X.env.scope x) (hf : X.fn x = true ∨ X.env.scope.names.lookup x = some .local := by first | exact .inl rfl | exact .inr rfl | assumption) : PG X (.Name x pos) (gName i) := by
  intro pins s σ H v u Q I r h
  exact wpAny_assign_Name (store_ok I hN hi hx r (fun s' I' => ⟨_, H, I', h⟩) hf)
def gNil : TGs := fun vs σ H Q => vs = [] ∧ Q σ H
def gCons (t : TG) (u : TGs) : TGs := fun vs σ H Q => ∃ v r, vs = v :: r ∧ t v σ H fun σ' H' => u r σ' H' Q
theorem pgs_nil : PGs X [] gNil := by
  intro pins s σ H vs us Q I r h
  obtain ⟨e, h⟩ := h
  subst e
  cases r
  exact assignInOrder_nil ⟨σ, H, I, h⟩
theorem pgs_cons {e : Expr} {es : List Expr} {t : TG} {u : TGs} (h1 : PG X e t) (h2 : PGs X es u)
    (hs : (assignEach (e :: es) X.env).map (·.2) = assign e X.env :: (assignEach es X.env).map (·.2) := by rfl) : PGs X (e :: es) (gCons t u) := by
  intro pins s σ H vs us Q I r h
  obtain ⟨v, vr, e1, h⟩ := h
  subst e1
  cases r with
  | cons r rr =>
    rw [hs]
    refine assignInOrder_cons (thn (h1 pins s σ H _ _ _ I r h) fun _ s1 ⟨σ1, H1, I1, q1⟩ => ?_)
    exact h2 pins s1 σ1 H1 _ _ Q I1 rr q1
/-- (a, b, ..) = a tuple of that length -/
def gTup (K : PySem.W.Frag) (n : Nat) (t : TGs) : TG := fun v σ H Q => ∃ a xs, v = .ref a ∧ SqT K H a xs ∧ xs.length = n ∧ t xs σ H Q
theorem pg_tup {es : List Expr} {k : Nat} {t : TGs} {n : Nat} (hc : X.calm = true) (h : PGs X es t)
    (hn : (assignEach es X.env).length = n := by rfl) (hst : (assignEach es X.env).findIdx? (·.1) = none := by rfl) : PG X (.Tuple es k pos) (gTup X.K n t) := by
  intro pins s σ H v u Q I r hw
  obtain ⟨a, xs, e1, hq, hl, hw⟩ := hw
  subst e1
  cases r
  obtain ⟨its, rv, ht, hz⟩ := I.tuple hq
  refine assign_Tuple_tuple (I.ok.hd hc) ht (by simp [hn, ← hl, rv.length]) hst fun h' hx => ?_
  have I1 : Inv X pins σ H { s with heap := h' } := I.kept (t' := s.toks) fun b o e => hx b o (Nat.ne_of_lt (Heap.lt_size e)) e
  exact h pins _ σ H xs _ Q I1 (by simpa using rv) hw
/-- target = value -/
def tAsg (te : TE) (g : TG) : TS := fun D σ H => te σ H fun x H1 => g x σ H1 D.nx
/-- name = value -/
theorem ps_set {i : Nat} {x : Str} {e : Expr} {te : TE} {pos' : Pos} (hN : X.N.Nodup) (hi : X.N[i]? = some x) (hx : Loc X.env.scope x) (he : PE X e te) (hs : swapsWith e (some (.Name x pos')) pos.line X.env = pure false := by rfl) (hf : X.fn x = true ∨ X.env.scope.names.lookup x = some .local := by first | exact .inl rfl | exact .inr rfl | assumption) :
    PS X (.Assign [.Name x pos'] e pos) (tAsg te (gName i)) := by
  intro pins s σ H D I h
  refine wpAny_Assign_Name (thn (he pins s σ H _ I h) fun v s1 ⟨y, H1, I1, r1, q1⟩ => ?_) hs
  exact store_ok I1 hN hi hx r1 (fun s2 I2 => ⟨_, H1, I2, q1⟩) hf
end

/-! ### while -/
section
variable {X : Cx} {pos : Pos}
end

/-! ### what a loop or a comprehension walks -/
/-- at turn i: it yields x (the heap may grow), or it stops -/
structure It where
  go : Nat → Hp → Prop
  yld : Nat → Hp → V → Hp → Prop
  stop : Nat → Hp → Prop
/-- the iterator's own objects may turn: they are not the frame's, not pinned, younger than the entry (or a comprehension's own) -/
def FpOk (X : Cx) (pins : List (Addr × Obj)) (H : Hp) (b : Addr) : Prop :=
  H b = none ∧ b ≠ X.env.locals ∧ b ∉ X.fs ∧ (b ∈ X.ex ∨ X.s₀.heap.objs.size ≤ b) ∧ (∀ x c, X.env.cells.lookup x = some c → c ≠ b) ∧ ∀ p ∈ X.pn ++ pins, p.1 ≠ b
theorem Inv.fpOk {X : Cx} {pins : List (Addr × Obj)} {σ : St} {H H' : Hp} {s : Shared} {b : Addr} (I : Inv X pins σ H s) (hb : s.heap.objs.size ≤ b) (hn : H' b = none) : FpOk X pins H' b := by
  refine ⟨hn, Nat.ne_of_gt (Nat.lt_of_lt_of_le I.lt hb), I.nofs hb, .inr (Nat.le_trans I.sz hb), fun x c e z => ?_, fun p hp z => ?_⟩
  · obtain ⟨v, q⟩ := I.cell x c e
    exact absurd (Nat.lt_of_lt_of_le q.lt (by rw [z]; exact hb)) (Nat.lt_irrefl _)
  · exact absurd (Nat.lt_of_lt_of_le (Heap.lt_size (I.pin p hp).1) (by rw [z]; exact hb)) (Nat.lt_irrefl _)
structure Turn (P : Program) (w : World) (K : PySem.W.Frag) (tg : Expr) (J : It) (fp : List Addr) (it : Addr) (tn : Nat → Heap → Prop) : Prop where
  mem : it ∈ fp
  obj : ∀ i h, tn i h → ∀ b ∈ fp, ∃ o, h.get? b = some o ∧ ∀ v, o.data ≠ .cell v
  keep : ∀ i h h', tn i h → (∀ b ∈ fp, ∀ o, h.get? b = some o → h'.get? b = some o) → tn i h'
  item : ∀ (X : Cx), X.prog = P → X.w = w → X.K = K → X.calm = true → ∀ (i : Nat) (pins : List (Addr × Obj)) (s : Shared) (σ : St) (H : Hp) (E : Value → Shared → Prop), Inv X pins σ H s → (∀ b ∈ fp, FpOk X pins H b) → tn i s.heap → J.go i H →
    wpAny (model P w) X.A (pyNext (.ref it)) (fun r s1 => ∃ u, r = some u ∧
      wpAny (model P w) X.A (letOwnedTupleGo tg (.ref it) u) (fun _ s2 => ∃ x H', Inv X pins σ H' s2 ∧ RelV x u ∧ J.yld i H x H' ∧ tn (i + 1) s2.heap ∧ ∀ b ∈ fp, H' b = none) E s1) E s
  done : ∀ (X : Cx), X.prog = P → X.w = w → X.K = K → X.calm = true → ∀ (i : Nat) (pins : List (Addr × Obj)) (s : Shared) (σ : St) (H : Hp) (E : Value → Shared → Prop), Inv X pins σ H s → (∀ b ∈ fp, FpOk X pins H b) → tn i s.heap → J.stop i H →
    wpAny (model P w) X.A (pyNext (.ref it)) (fun r s1 => r = none ∧ Inv X pins σ H s1) E s
  self : ∀ (A : Around) (i : Nat) (s : Shared) (Q : Value → Shared → Prop) (E : Value → Shared → Prop), tn i s.heap → Q (.ref it) s → wpAny (model P w) A (pyIter (.ref it)) Q E s
abbrev TI := St → Hp → (It → Hp → Prop) → Prop
/-- an iterator has come -/
def PIE (X : Cx) (pins : List (Addr × Obj)) (σ : St) (tg : Expr) (R : It → Hp → Prop) (itv : Value) (s2 : Shared) : Prop :=
  ∃ (it : Addr) (fp : List Addr) (tn : Nat → Heap → Prop) (J : It) (H' : Hp), itv = .ref it ∧ Inv X pins σ H' s2 ∧ Turn X.prog X.w X.K tg J fp it tn ∧ tn 0 s2.heap ∧ (∀ b ∈ fp, FpOk X pins H' b) ∧ R J H'
def PI (X : Cx) (tg iter : Expr) (wi : TI) : Prop :=
  ∀ (pins : List (Addr × Obj)) (s : Shared) (σ : St) (H : Hp) (R : It → Hp → Prop), Inv X pins σ H s → wi σ H R →
    wpAny (model X.prog X.w) X.A (eval iter X.env) (fun v s1 => wpAny (model X.prog X.w) X.A (pyIter v) (PIE X pins σ tg R) X.xe s1) X.xe s

/-- the step ahead of the store is nothing for an iterator that keeps no tuple -/
theorem go_of {M : Model} {A : Around} {E : Value → Shared → Prop} {s : Shared} {tg : Expr} {it : Addr} {u : Value} {o : Obj} {n : String} {vs : Array Value} {Q : Unit → Shared → Prop} (ho : s.heap.get? it = some o) (hc : o.cls = .type n) (hd : o.data = .fields vs)
    (hn : ["enumerate", "zip", "dict_itemiterator", "dict_reverseitemiterator", "odict_iterator", "itertools.zip_longest", "itertools.pairwise"].contains n = false) (hQ : Q () s) : wpAny M A (letOwnedTupleGo tg (.ref it) u) Q E s := by
  unfold letOwnedTupleGo
  cases tg <;> first
    | exact wpAny_pure hQ
    | (cases u <;> first
        | exact wpAny_pure hQ
        | (refine wpAny_bind (wpAny_load ho ?_)
           rw [hc, hd]
           show wpAny M A (if (["enumerate", "zip", "dict_itemiterator", "dict_reverseitemiterator", "odict_iterator", "itertools.zip_longest", "itertools.pairwise"].contains n && vs[0]? == some (rawInt _)) = true then _ else _) Q E s
           rw [if_neg (by intro h; rw [hn, Bool.false_and] at h; cases h)]
           exact wpAny_pure hQ))

/-- lo, lo + 1, .. (n of them) -/
def Itr (lo : Int) (n : Nat) : It := ⟨fun i _ => i < n, fun i H x H' => H' = H ∧ x = .int (lo + i), fun i _ => n ≤ i⟩
theorem turn_range {P : Program} {w : World} {K : PySem.W.Frag} {tg : Expr} (it : Addr) (lo : Int) (n : Nat) : Turn P w K tg (Itr lo n) [it] it (fun i h => IsRangeIter h it (lo + (i : Nat) * 1) ((n : Int) - (i : Nat)) 1) where
  mem := by simp
  obj := fun i h st b hb => by
    have e : b = it := by simpa using hb
    subst e
    exact ⟨_, st, fun v z => by
      have z' : Data.fields _ = Data.cell v := z
      cases z'⟩
  keep := fun i h h' st k => k it (by simp) _ st
  item := by
    intro X hP hw hK hc i pins s σ H E I hf st hg
    subst hP hw hK
    obtain ⟨f0, f1, f2, f3, f4, f5⟩ := hf it (by simp)
    have W := Walks.range (prog := X.prog) (w := X.w) (I.ok.hd hc) it lo 1 n
    refine W.item i s _ _ hg st fun v h' tk hv st' kk => ?_
    obtain ⟨t, rfl⟩ := hv
    have I1 : Inv X pins σ H { s with heap := h', toks := tk } := I.turned (fun b o hb e => kk b o (by simpa using hb) e) f0 f1 f3 f4 f5
    refine ⟨_, rfl, go_of (s := { s with heap := h', toks := tk }) (n := "range_iterator") st' rfl rfl (by decide) ⟨.int (lo + i), H, I1, ⟨t, ?_⟩, ⟨rfl, rfl⟩, st', fun b hb => (hf b hb).1⟩⟩
    rw [Int.mul_one]
  done := by
    intro X hP hw hK hc i pins s σ H E I hf st hg
    subst hP hw hK
    obtain ⟨f0, f1, f2, f3, f4, f5⟩ := hf it (by simp)
    exact wpAny_pyNext_range_end (I.ok.hd hc) st (by have : n ≤ i := hg; omega) fun h' eb => ⟨rfl, I.turned (t' := s.toks) (fun b o hb e => eb b o hb e) f0 f1 f3 f4 f5⟩
  self := fun _ _ _ _ _ st h => wpAny_pyIter_rangeiter st h
end L2

namespace L2
open PySem PySem.Spec PyProof.Rows
section
variable {X : Cx} {tg : Expr}
/-- a range object just made, walked -/
theorem range_it {pins : List (Addr × Obj)} {σ : St} {H : Hp} {s : Shared} {R : It → Hp → Prop} {E : Value → Shared → Prop} {lo hi : Int} {t u v : Tok} {tk : Nat} (I : Inv X pins σ H s) (h1 : -(2 ^ 62) ≤ lo) (h2 : lo < 2 ^ 62) (h3 : -(2 ^ 62) ≤ hi) (h4 : hi < 2 ^ 62)
    (q : R (Itr lo (hi - lo).toNat) H) : wpAny (model X.prog X.w) X.A (pyIter (.ref s.heap.objs.size)) (PIE X pins σ tg R) E { s with heap := s.heap.push { cls := .type "range", data := .fields #[.int lo t, .int hi u, .int 1 v] }, toks := tk } := by
  refine wpAny_pyIter_range (IsRange.new ..) (small_one h1 h2 h3 h4) ?_
  have I1 : Inv X pins σ H { s with heap := s.heap.push { cls := .type "range", data := .fields #[.int lo t, .int hi u, .int 1 v] }, toks := tk } := I.kept fun b o e => Heap.get?_push_of_some _ e
  refine ⟨(s.heap.push { cls := .type "range", data := .fields #[.int lo t, .int hi u, .int 1 v] }).objs.size, [(s.heap.push { cls := .type "range", data := .fields #[.int lo t, .int hi u, .int 1 v] }).objs.size], _, _, H, rfl,
    I1.kept (t' := tk) fun b o e => Heap.get?_push_of_some _ e, turn_range _ lo (hi - lo).toNat, ?_, fun b hb => ?_, q⟩
  · have e1 : lo + ((0 : Nat) : Int) * 1 = lo := by simp
    have e2 : (((hi - lo).toNat : Nat) : Int) - ((0 : Nat) : Int) = Builtin.Range.rangeSize lo hi 1 := by rw [rangeSize_one]; split <;> omega
    show IsRangeIter _ _ (lo + ((0 : Nat) : Int) * 1) ((((hi - lo).toNat : Nat) : Int) - ((0 : Nat) : Int)) 1
    rw [e1, e2]
    exact Heap.get?_push_size _ rfl
  · have e : b = (s.heap.push { cls := .type "range", data := .fields #[.int lo t, .int hi u, .int 1 v] }).objs.size := by simpa using hb
    subst e
    exact I1.fpOk (Nat.le_refl _) (I1.hok.fresh (Nat.le_refl _))
def iRng1 (ta : TA) : TI := fun σ H R => ta σ H fun vs H1 => ∃ j : Int, vs = [.int j] ∧ -(2 ^ 62) ≤ j ∧ j < 2 ^ 62 ∧ R (Itr 0 j.toNat) H1
theorem pi_range1 {a : Expr} {ta : TA} {p pos : Pos} (hg : Gl X "range") (hm : X.mg "range" = none) (ha : PA X [a] ta) (hs : starEach [a] X.env = [(false, eval a X.env)] := by rfl) : PI X tg (.Call (.Name "range" p) [a] [] pos) (iRng1 ta) := by
  intro pins s σ H R I h
  refine Call_ (ld_blt I hg hm boot_range (PyProof.Rows.callWith_type1 (thn (ha pos pins s σ H _ I h) fun us s1 ⟨vs, H1, I1, r1, q1⟩ => ?_) hs rfl))
  obtain ⟨j, e, q1, q2, q⟩ := q1
  subst e
  cases r1 with
  | cons r rr =>
    cases rr
    obtain ⟨t, rfl⟩ := r
    exact call_range_1 (range_it I1 (by omega) (by omega) q1 q2 (by simpa using q))
/-! ### for -/
/-- W: the invariant by the turn and a measure; N: what the body is to reach -/
def tFor (wi : TI) (g : TG) (tb : TS) : TS := fun D σ H => wi σ H fun J H1 => ∃ W : Nat → Nat → St → Hp → Prop, (∃ m, W 0 m σ H1) ∧ ∀ i m σ H, W i m σ H →
  (J.stop i H ∧ D.nx σ H) ∨ (J.go i H ∧ ∃ N : St → Hp → Prop, (∀ σ' H', N σ' H' → ∃ m', m' < m ∧ W (i + 1) m' σ' H') ∧ ∀ x H', J.yld i H x H' → g x σ H' fun σ2 H2 => tb { D with nx := N, ct := N, bk := D.nx } σ2 H2)
/-- the records at fp as they stand -/
def pinsAt (fp : List Addr) (h : Heap) : List (Addr × Obj) := fp.filterMap fun b => (h.get? b).map fun o => (b, o)
theorem mem_pinsAt {fp : List Addr} {h : Heap} {b : Addr} {o : Obj} (hb : b ∈ fp) (e : h.get? b = some o) : (b, o) ∈ pinsAt fp h := List.mem_filterMap.mpr ⟨b, hb, by rw [e]; rfl⟩
theorem of_pinsAt {fp : List Addr} {h : Heap} {p : Addr × Obj} (hp : p ∈ pinsAt fp h) : p.1 ∈ fp ∧ h.get? p.1 = some p.2 := by
  obtain ⟨b, hb, e⟩ := List.mem_filterMap.mp hp
  cases q : h.get? b with
  | none => rw [q] at e; cases e
  | some o =>
    rw [q] at e
    have e' : (b, o) = p := Option.some.inj e
    subst e'
    exact ⟨hb, q⟩
theorem Inv.pinned {pins : List (Addr × Obj)} {σ : St} {H : Hp} {s : Shared} {fp : List Addr} (I : Inv X pins σ H s) (hf : ∀ b ∈ fp, FpOk X pins H b) (ho : ∀ b ∈ fp, ∃ o, s.heap.get? b = some o ∧ ∀ v, o.data ≠ .cell v) : Inv X (pins ++ pinsAt fp s.heap) σ H s :=
  I.pins_of fun p hp => (List.mem_append.mp hp).elim (fun z => I.pin p (List.mem_append_right _ z)) fun z => by
    obtain ⟨hb, e⟩ := of_pinsAt z
    obtain ⟨f0, f1, f2, _⟩ := hf p.1 hb
    obtain ⟨o, e', d⟩ := ho p.1 hb
    rw [e] at e'; cases e'
    exact ⟨e, f0, f1, f2, d⟩
theorem Inv.unpinned {pins pl : List (Addr × Obj)} {σ : St} {H : Hp} {s : Shared} (I : Inv X (pins ++ pl) σ H s) : Inv X pins σ H s := I.pins_of fun p hp => I.pin p (List.mem_append_right _ (List.mem_append_left _ hp))
theorem ps_for {iter : Expr} {body : List Stmt} {wi : TI} {g : TG} {tb : TS} {pos : Pos} (hp : PassesOwn (model X.prog X.w) X.A X.env X.xe) (hc : X.calm = true) (hi : PI X tg iter wi) (hg : PG X tg g) (hb : PSs X body tb)
    (hs : ∀ x, foldedSetIterable iter X.env x = pure x := by intro _; rfl) : PS X (.For tg iter body [] pos) (tFor wi g tb) := by
  intro pins s σ H D I h
  refine wpAny_For (thn (hi pins s σ H _ I h) fun v s1 h1 => thn h1 fun itv s2 h2 => ?_) hs
  obtain ⟨it, fp, tn, J, H2, e, I2, T, st2, f2, W, ⟨m0, w0⟩, turn⟩ := h2
  subst e
  -- what stays true of the iterator's objects through the loop
  have stat : ∀ {H' : Hp}, (∀ b ∈ fp, H' b = none) → ∀ b ∈ fp, FpOk X pins H' b := fun hn b hb => ⟨hn b hb, (f2 b hb).2⟩
  refine codeAny_forLoop_any (fun n s' => ∃ i σ' H', Inv X pins σ' H' s' ∧ tn i s'.heap ∧ (∀ b ∈ fp, H' b = none) ∧ W i n σ' H') ?_ m0 ⟨0, σ, H2, I2, st2, fun b hb => (f2 b hb).1, w0⟩
  rintro n s3 ⟨i, σ3, H3, I3, st3, fr3, w3⟩
  rcases turn i n σ3 H3 w3 with ⟨stop, qn⟩ | ⟨go, N, hN, step⟩
  · refine wpAny_passesOwn hp (thn (T.done X rfl rfl rfl hc i pins s3 σ3 H3 X.xe I3 (stat fr3) st3 stop) fun r s4 ⟨hr, I4⟩ => ?_)
    subst hr
    exact wpAny_execs_nil ⟨σ3, H3, I4, qn⟩
  · refine wpAny_passesOwn hp (thn (T.item X rfl rfl rfl hc i pins s3 σ3 H3 X.xe I3 (stat fr3) st3 go) fun r s4 ⟨u, hr, h4⟩ => ?_)
    subst hr
    refine wpAny_passesOwn hp (thn h4 fun _ s5 ⟨x, H5, I5, r5, y5, st5, fr5⟩ => ?_)
    have I5' := I5.pinned (stat fr5) (T.obj _ _ st5)
    refine wpAny_passesOwn hp (thn (hg _ s5 σ3 H5 x u _ I5' r5 (step x H5 y5)) fun _ s6 ⟨σ6, H6, I6, q6⟩ => ?_)
    refine wpAny_passesOwn hp (thn (hb _ s6 σ6 H6 _ I6 q6) fun f s7 q7 => ?_)
    have again : ∀ {σ7 : St} {H7 : Hp}, Inv X (pins ++ pinsAt fp s5.heap) σ7 H7 s7 → N σ7 H7 → ∃ m, m < n ∧ ∃ i σ' H', Inv X pins σ' H' s7 ∧ tn i s7.heap ∧ (∀ b ∈ fp, H' b = none) ∧ W i m σ' H' := fun {σ7 H7} I7 n7 => by
      obtain ⟨m', hm, w7⟩ := hN σ7 H7 n7
      refine ⟨m', hm, i + 1, σ7, H7, I7.unpinned, T.keep _ _ _ st5 fun b hb o e => (I7.pin (b, o) (List.mem_append_right _ (List.mem_append_right _ (mem_pinsAt hb e)))).1, fun b hb => ?_, w7⟩
      obtain ⟨o, e, d⟩ := T.obj _ _ st5 b hb
      exact (I7.pin (b, o) (List.mem_append_right _ (List.mem_append_right _ (mem_pinsAt hb e)))).2.1
    cases f with
    | next => obtain ⟨σ7, H7, I7, n7⟩ := q7; exact again I7 n7
    | cont => obtain ⟨σ7, H7, I7, n7⟩ := q7; exact again I7 n7
    | brk => obtain ⟨σ7, H7, I7, q7⟩ := q7; exact ⟨σ7, H7, I7.unpinned, q7⟩
    | ret v => obtain ⟨x7, σ7, H7, I7, r7, q7⟩ := q7; exact ⟨x7, σ7, H7, I7.unpinned, r7, q7⟩
end

/-! ### the forms one uses -/
theorem for_range {lo : Int} {n : Nat} {g : TG} {tb : TS} {D : Ends} {σ : St} {H : Hp} (Pv : Nat → St → Hp → Prop) (h0 : Pv 0 σ H)
    (hs : ∀ i σ H, i < n → Pv i σ H → g (.int (lo + i)) σ H fun σ2 H2 => tb { D with nx := Pv (i + 1), ct := Pv (i + 1), bk := D.nx } σ2 H2) (hd : ∀ σ H, Pv n σ H → D.nx σ H) :
    ∃ W : Nat → Nat → St → Hp → Prop, (∃ m, W 0 m σ H) ∧ ∀ i m σ H, W i m σ H →
      ((Itr lo n).stop i H ∧ D.nx σ H) ∨ ((Itr lo n).go i H ∧ ∃ N : St → Hp → Prop, (∀ σ' H', N σ' H' → ∃ m', m' < m ∧ W (i + 1) m' σ' H') ∧ ∀ x H', (Itr lo n).yld i H x H' → g x σ H' fun σ2 H2 => tb { D with nx := N, ct := N, bk := D.nx } σ2 H2) := by
  refine ⟨fun i m σ H => m = n - i ∧ i ≤ n ∧ Pv i σ H, ⟨n, by simp, Nat.zero_le _, h0⟩, ?_⟩
  rintro i m σ H ⟨rfl, hi, p⟩
  by_cases hlt : i < n
  · refine .inr ⟨hlt, Pv (i + 1), fun σ' H' p' => ⟨n - (i + 1), by omega, rfl, hlt, p'⟩, fun x H' y => ?_⟩
    obtain ⟨e, y⟩ := y
    subst e y
    exact hs i σ _ hlt p
  · have e : i = n := by omega
    subst e
    exact .inl ⟨Nat.le_refl _, hd σ H p⟩
end L2

namespace L2
open PySem PySem.Spec PyProof.Rows

abbrev R2 := V → V → Hp → VK → Prop
/-- a two-place operation on values: f is binaryOp op, inplaceOp op or compareOp op -/
def OpR (X : Cx) (f : Value → Value → Sem Value) (r : R2) : Prop :=
  ∀ (pins : List (Addr × Obj)) (s : Shared) (σ : St) (H : Hp) (x y : V) (v u : Value) (Q : VK), Inv X pins σ H s → RelV x v → RelV y u → r x y H Q →
    wpAny (model X.prog X.w) X.A (f v u) (EP X pins σ Q) X.xe s
/-- a call of a value that is known (a builtin, a type) with values -/
def CallR (X : Cx) (f : Value) (r : List V → Hp → VK → Prop) : Prop :=
  ∀ (pins : List (Addr × Obj)) (s : Shared) (σ : St) (H : Hp) (xs : List V) (us : List Value) (Q : VK), Inv X pins σ H s → Vals xs us → r xs H Q →
    wpAny (model X.prog X.w) X.A (call f us) (EP X pins σ Q) X.xe s
def tOp (r : R2) (ta tb : TE) : TE := fun σ H Q => ta σ H fun x H1 => tb σ H1 fun y H2 => r x y H2 Q
/-- ints in, under C, and a value out -/
def rI (C : Int → Int → Prop) (g : Int → Int → V) : R2 := fun x y H Q => ∃ i j, x = .int i ∧ y = .int j ∧ C i j ∧ Q (g i j) H
def rI0 (g : Int → Int → V) : R2 := fun x y H Q => ∃ i j, x = .int i ∧ y = .int j ∧ Q (g i j) H
section
variable {X : Cx} {a b c : Expr} {ta tb tc : TE} {pos : Pos}

theorem binT (ha : PE X a ta) (hb : PE X b tb) {pins : List (Addr × Obj)} {s : Shared} {σ : St} {H : Hp} {R : V → V → Hp → Prop} (I : Inv X pins σ H s)
    (h : ta σ H fun x H1 => tb σ H1 fun y H2 => R x y H2) {Q : Value → Shared → Prop} {f : Value → Value → Sem Value}
    (hf : ∀ v u s2 x y H2, Inv X pins σ H2 s2 → RelV x v → RelV y u → R x y H2 → wpAny (model X.prog X.w) X.A (f v u) Q X.xe s2) :
    wpAny (model X.prog X.w) X.A (eval a X.env) (fun v s₁ => wpAny (model X.prog X.w) X.A (eval b X.env) (fun u s₂ => wpAny (model X.prog X.w) X.A (f v u) Q X.xe s₂) X.xe s₁) X.xe s := by
  refine thn (ha pins s σ H _ I h) fun v s1 ⟨x, H1, I1, r1, q1⟩ => ?_
  refine thn (hb pins s1 σ H1 _ I1 q1) fun u s2 ⟨y, H2, I2, r2, q2⟩ => ?_
  exact hf v u s2 x y H2 I2 r1 r2 q2

theorem pe_op {op : Operator} {r : R2} (ho : OpR X (binaryOp op) r) (ha : PE X a ta) (hb : PE X b tb) : PE X (.BinOp a op b pos) (tOp r ta tb) := by
  intro pins s σ H Q I h
  exact wpAny_BinOp (binT ha hb I h fun v u s2 x y H2 I2 rx ry q => ho pins s2 σ H2 x y v u Q I2 rx ry q)
/-! ### ints -/
theorem opI {f : Value → Value → Sem Value} {C : Int → Int → Prop} {g : Int → Int → Int}
    (rule : ∀ (i j : Int) (t u : Tok) (s : Shared) (Q : Value → Shared → Prop) (E : Value → Shared → Prop), C i j → Q (.int (g i j) s.toks) { s with toks := s.toks + 1 } → wpAny (model X.prog X.w) X.A (f (.int i t) (.int j u)) Q E s) :
    OpR X f (rI C fun i j => .int (g i j)) := by
  intro pins s σ H x y v u Q I rx ry h
  obtain ⟨i, j, rfl, rfl, hc, q⟩ := h
  obtain ⟨t, rfl⟩ := rx
  obtain ⟨t', rfl⟩ := ry
  exact rule i j t t' s _ _ hc ⟨.int (g i j), H, I.tok _, ⟨_, rfl⟩, q⟩
theorem opI0 {f : Value → Value → Sem Value} {g : Int → Int → Int}
    (rule : ∀ (i j : Int) (t u : Tok) (s : Shared) (Q : Value → Shared → Prop) (E : Value → Shared → Prop), Q (.int (g i j) s.toks) { s with toks := s.toks + 1 } → wpAny (model X.prog X.w) X.A (f (.int i t) (.int j u)) Q E s) :
    OpR X f (rI0 fun i j => .int (g i j)) := by
  intro pins s σ H x y v u Q I rx ry h
  obtain ⟨i, j, rfl, rfl, q⟩ := h
  obtain ⟨t, rfl⟩ := rx
  obtain ⟨t', rfl⟩ := ry
  exact rule i j t t' s _ _ ⟨.int (g i j), H, I.tok _, ⟨_, rfl⟩, q⟩
theorem opB0 {f : Value → Value → Sem Value} {g : Int → Int → Bool}
    (rule : ∀ (i j : Int) (t u : Tok) (s : Shared) (Q : Value → Shared → Prop) (E : Value → Shared → Prop), Q (.bool (g i j)) s → wpAny (model X.prog X.w) X.A (f (.int i t) (.int j u)) Q E s) :
    OpR X f (rI0 fun i j => .bl (g i j)) := by
  intro pins s σ H x y v u Q I rx ry h
  obtain ⟨i, j, rfl, rfl, q⟩ := h
  obtain ⟨t, rfl⟩ := rx
  obtain ⟨t', rfl⟩ := ry
  exact rule i j t t' s _ _ ⟨.bl (g i j), H, I, rfl, q⟩

def CDiv (i j : Int) : Prop := 0 < j ∧ j < 1073741824
def CMul (i j : Int) : Prop := (-(2 ^ 64) < i ∧ i < 2 ^ 64) ∨ (-(2 ^ 64) < j ∧ j < 2 ^ 64)
theorem CMul.ok {i j : Int} (h : CMul i j) : IntMulOk i j := by
  rcases h with ⟨h1, h2⟩ | ⟨h1, h2⟩
  · exact .of_left (intBits_le_64 h1 h2)
  · exact .of_right (intBits_le_64 h1 h2)
theorem op_add : OpR X (binaryOp .Add) (rI0 fun i j => .int (i + j)) := opI0 fun _ _ _ _ _ _ _ q => add_int q
theorem op_mul : OpR X (binaryOp .Mult) (rI CMul fun i j => .int (i * j)) := opI fun _ _ _ _ _ _ _ hc q => mul_int q hc.ok
/-- // by a positive divisor -/
theorem op_fdiv : OpR X (binaryOp .FloorDiv) (rI CDiv fun i j => .int (i / j)) := opI fun i j _ _ _ _ _ hc q => by
  have h1 : (0 : Int) < j := hc.1
  have h2 : j < 1073741824 := hc.2
  exact floordiv_int (by omega) (by rw [Int.fdiv_eq_ediv_of_nonneg i (by omega)]; exact q) (.inl (PyProof.noPylong_small (by omega)))
/-- % by a positive divisor of any size -/
theorem op_mod : OpR X (binaryOp .Mod) (rI (fun _ j => 0 < j) fun i j => .int (i % j)) := opI fun i j _ _ _ _ _ hc q => by
  have h1 : (0 : Int) < j := hc
  exact mod_int' (by omega) (by rw [Int.fmod_eq_emod_of_nonneg i (by omega)]; exact q)
/-! ### bools among ints: n += (a < b) -/
end

/-! ### comparisons -/
/-- the scalars that == tells apart as data does -/
def scal : V → V → Bool
  | .non, .non => true | .non, .int _ => true | .int _, .non => true | .non, .bl _ => true | .bl _, .non => true | .non, .str _ => true | .str _, .non => true
  | .int _, .int _ => true | .bl _, .bl _ => true | .str _, .str _ => true | .byt _, .byt _ => true
  | .int _, .str _ => true | .str _, .int _ => true | .bl _, .str _ => true | .str _, .bl _ => true
  | _, _ => false
def rEq : R2 := fun x y H Q => scal x y = true ∧ Q (.bl (decide (x = y))) H
def rNe : R2 := fun x y H Q => scal x y = true ∧ Q (.bl (!decide (x = y))) H

theorem dec_int {i j : Int} : decide (V.int i = V.int j) = (i == j) := by
  rw [Bool.eq_iff_iff]
  simp
theorem dec_bl {i j : Bool} : decide (V.bl i = V.bl j) = (i == j) := by
  rw [Bool.eq_iff_iff]
  simp
theorem dec_str {i j : Str} : decide (V.str i = V.str j) = (i == j) := by
  rw [Bool.eq_iff_iff]
  simp
theorem dec_byt {i j : Array UInt8} : decide (V.byt i = V.byt j) = (i.toList == j.toList) := by
  rw [Bool.eq_iff_iff]
  cases i
  cases j
  simp

section
variable {X : Cx} {a b c : Expr} {ta tb tc : TE} {pos : Pos}
theorem fin_bl {pins : List (Addr × Obj)} {σ : St} {H : Hp} {s : Shared} {Q : VK} {k k' : Bool} (I : Inv X pins σ H s) (q : Q (.bl k) H) (e : k = k') : EP X pins σ Q (.bool k') s := by
  subst e
  exact ⟨.bl k, H, I, rfl, q⟩
theorem op_eq : OpR X (compareOp .Eq) rEq := by
  intro pins s σ H x y v u Q I rx ry h
  obtain ⟨hs, q⟩ := h
  cases x with
  | non =>
    cases rx
    cases y with
    | non => cases ry; exact PySem.EqNone.eq_none_none (fin_bl I q (by simp))
    | bl j => cases ry; exact PySem.EqNone.eq_none_bool (fin_bl I q (by simp))
    | int j => obtain ⟨t', rfl⟩ := ry; exact PySem.EqNone.eq_none_int (fin_bl I q (by simp))
    | str j => obtain ⟨t', rfl⟩ := ry; exact PySem.EqNone.eq_none_str (fin_bl I q (by simp))
    | _ => exact absurd (show false = true from hs) Bool.false_ne_true
  | bl i =>
    cases rx
    cases y with
    | non => cases ry; exact PySem.EqNone.eq_bool_none (fin_bl I q (by simp))
    | bl j => cases ry; exact eq_bool (fin_bl I q dec_bl)
    | str j => obtain ⟨t', rfl⟩ := ry; exact PySem.EqMixed.eq_bool_str (fin_bl I q (by simp))
    | _ => exact absurd (show false = true from hs) Bool.false_ne_true
  | int i =>
    obtain ⟨t, rfl⟩ := rx
    cases y with
    | non => cases ry; exact PySem.EqNone.eq_int_none (fin_bl I q (by simp))
    | int j => obtain ⟨t', rfl⟩ := ry; exact eq_int (fin_bl I q dec_int)
    | str j => obtain ⟨t', rfl⟩ := ry; exact PySem.EqMixed.eq_int_str (fin_bl I q (by simp))
    | _ => exact absurd (show false = true from hs) Bool.false_ne_true
  | str i =>
    obtain ⟨t, rfl⟩ := rx
    cases y with
    | non => cases ry; exact PySem.EqNone.eq_str_none (fin_bl I q (by simp))
    | bl j => cases ry; exact PySem.EqMixed.eq_str_bool (fin_bl I q (by simp))
    | int j => obtain ⟨t', rfl⟩ := ry; exact PySem.EqMixed.eq_str_int (fin_bl I q (by simp))
    | str j => obtain ⟨t', rfl⟩ := ry; exact eq_str (fin_bl I q dec_str)
    | _ => exact absurd (show false = true from hs) Bool.false_ne_true
  | byt i =>
    obtain ⟨t, rfl⟩ := rx
    cases y with
    | byt j => obtain ⟨t', rfl⟩ := ry; exact PySem.W.eq_bytes (fin_bl I q dec_byt)
    | _ => exact absurd (show false = true from hs) Bool.false_ne_true
  | _ => cases y <;> exact absurd (show false = true from hs) Bool.false_ne_true
theorem op_ne : OpR X (compareOp .NotEq) rNe := by
  intro pins s σ H x y v u Q I rx ry h
  obtain ⟨hs, q⟩ := h
  cases x with
  | non =>
    cases rx
    cases y with
    | non => cases ry; exact PySem.EqNone.ne_none_none (fin_bl I q (by simp))
    | bl j => cases ry; exact PySem.EqNone.ne_none_bool (fin_bl I q (by simp))
    | int j => obtain ⟨t', rfl⟩ := ry; exact PySem.EqNone.ne_none_int (fin_bl I q (by simp))
    | str j => obtain ⟨t', rfl⟩ := ry; exact PySem.EqNone.ne_none_str (fin_bl I q (by simp))
    | _ => exact absurd (show false = true from hs) Bool.false_ne_true
  | bl i =>
    cases rx
    cases y with
    | non => cases ry; exact PySem.EqNone.ne_bool_none (fin_bl I q (by simp))
    | bl j => cases ry; exact ne_bool (fin_bl I q (congrArg not dec_bl))
    | str j => obtain ⟨t', rfl⟩ := ry; exact PySem.EqMixed.ne_bool_str (fin_bl I q (by simp))
    | _ => exact absurd (show false = true from hs) Bool.false_ne_true
  | int i =>
    obtain ⟨t, rfl⟩ := rx
    cases y with
    | non => cases ry; exact PySem.EqNone.ne_int_none (fin_bl I q (by simp))
    | int j => obtain ⟨t', rfl⟩ := ry; exact ne_int (fin_bl I q (congrArg not dec_int))
    | str j => obtain ⟨t', rfl⟩ := ry; exact PySem.EqMixed.ne_int_str (fin_bl I q (by simp))
    | _ => exact absurd (show false = true from hs) Bool.false_ne_true
  | str i =>
    obtain ⟨t, rfl⟩ := rx
    cases y with
    | non => cases ry; exact PySem.EqNone.ne_str_none (fin_bl I q (by simp))
    | bl j => cases ry; exact PySem.EqMixed.ne_str_bool (fin_bl I q (by simp))
    | int j => obtain ⟨t', rfl⟩ := ry; exact PySem.EqMixed.ne_str_int (fin_bl I q (by simp))
    | str j => obtain ⟨t', rfl⟩ := ry; exact ne_str (fin_bl I q (congrArg not dec_str))
    | _ => exact absurd (show false = true from hs) Bool.false_ne_true
  | byt i =>
    obtain ⟨t, rfl⟩ := rx
    cases y with
    | byt j => obtain ⟨t', rfl⟩ := ry; exact PySem.W.ne_bytes (fin_bl I q (congrArg not dec_byt))
    | _ => exact absurd (show false = true from hs) Bool.false_ne_true
  | _ => cases y <;> exact absurd (show false = true from hs) Bool.false_ne_true

theorem op_lt : OpR X (compareOp .Lt) (rI0 fun i j => .bl (decide (i < j))) := opB0 fun _ _ _ _ _ _ _ q => lt_int q
theorem op_le : OpR X (compareOp .LtE) (rI0 fun i j => .bl (decide (i ≤ j))) := opB0 fun _ _ _ _ _ _ _ q => le_int q
theorem op_gt : OpR X (compareOp .Gt) (rI0 fun i j => .bl (decide (j < i))) := opB0 fun _ _ _ _ _ _ _ q => gt_int q
/-- the one string within the other -/
theorem op_in_str : OpR X (compareOp .In) (fun x y H Q => ∃ i j, x = .str i ∧ y = .str j ∧ Q (.bl (!(Builtin.Str.occurrences j i 0 j.length 1).isEmpty)) H) := by
  intro pins s σ H x y v u Q I rx ry h
  obtain ⟨i, j, rfl, rfl, q⟩ := h
  obtain ⟨t, rfl⟩ := rx
  obtain ⟨t', rfl⟩ := ry
  exact in_str (fin_bl I q rfl)

/-- is None, is not None: the right side a value none -/
theorem op_isN : OpR X (compareOp .Is) (fun x y H Q => y = .non ∧ Q (.bl (decide (x = .non))) H) := by
  intro pins s σ H x y v u Q I rx ry h
  obtain ⟨rfl, q⟩ := h
  cases ry
  refine is_none_gen (fin_bl I q ?_)
  cases x <;> first
    | (cases rx; rfl)
    | (obtain ⟨t, rfl⟩ := rx; rfl)
theorem op_notin_str : OpR X (compareOp .NotIn) (fun x y H Q => ∃ i j, x = .str i ∧ y = .str j ∧ Q (.bl (!(!(Builtin.Str.occurrences j i 0 j.length 1).isEmpty))) H) := by
  intro pins s σ H x y v u Q I rx ry h
  obtain ⟨i, j, rfl, rfl, q⟩ := h
  obtain ⟨t, rfl⟩ := rx
  obtain ⟨t', rfl⟩ := ry
  exact notIn_str (fin_bl I q rfl)
/-- two rules for one operation: by cases -/
theorem OpR.or {f : Value → Value → Sem Value} {r r' : R2} (h : OpR X f r) (h' : OpR X f r') : OpR X f (fun x y H Q => r x y H Q ∨ r' x y H Q) := by
  intro pins s σ H x y v u Q I rx ry q
  rcases q with q | q
  · exact h pins s σ H x y v u Q I rx ry q
  · exact h' pins s σ H x y v u Q I rx ry q

theorem nomark (b : Expr) {op : CmpOp} (h : op ≠ .In := by decide) (h2 : op ≠ .NotIn := by decide) : behindInMarks op b = false := by
  have e1 : (op == CmpOp.In) = false := by cases op <;> first | rfl | exact absurd rfl h
  have e2 : (op == CmpOp.NotIn) = false := by cases op <;> first | rfl | exact absurd rfl h2
  cases b <;> simp [behindInMarks, e1, e2]
/-- a comparison as a value; hm: nomark b, or (for in, not in) by with_unfolding_all rfl -/
theorem pe_cmpR {op : CmpOp} {r : R2} (ho : OpR X (compareOp op) r) (ha : PE X a ta) (hb : PE X b tb) (hm : behindInMarks op b = false) : PE X (.Compare a [op] [b] pos) (tOp r ta tb) := by
  intro pins s σ H Q I h
  exact wpAny_Compare1 (binT ha hb I h fun v u s2 x y H2 I2 rx ry q => ho pins s2 σ H2 x y v u Q I2 rx ry q) hm
/-- a reading of a value as a test -/
def tTest (t : TE) : TT := fun σ H Q => t σ H fun x H' => ∃ k, x = .bl k ∧ Q k H'
theorem pt_cmpR {op : CmpOp} {r : R2} (ho : OpR X (compareOp op) r) (ha : PE X a ta) (hb : PE X b tb) (hm : behindInMarks op b = false) : PT X (.Compare a [op] [b] pos) (tTest (tOp r ta tb)) := by
  intro pins s σ H Q I h
  refine wpAny_isTrue_Compare1 (thn (ha pins s σ H _ I h) fun v s1 ⟨x, H1, I1, r1, q1⟩ => thn (hb pins s1 σ H1 _ I1 q1) fun u s2 ⟨y, H2, I2, r2, q2⟩ =>
    thn (ho pins s2 σ H2 x y v u _ I2 r1 r2 q2) fun c s3 ⟨z, H3, I3, r3, k, e, q3⟩ => ?_) hm
  subst e
  cases r3
  exact wpAny_truthy_bool ⟨H3, I3, q3⟩
/-- a op1 b op2 c -/
def tChain (r r' : R2) (ta tb tc : TE) : TE := fun σ H Q => ta σ H fun x H1 => tb σ H1 fun y H2 => r x y H2 fun z H3 => ∃ k, z = .bl k ∧
  (if k = true then tc σ H3 fun w' H4 => r' y w' H4 Q else Q (.bl false) H3)
theorem pt_chain {op op' : CmpOp} {r r' : R2} (ho : OpR X (compareOp op) r) (ho' : OpR X (compareOp op') r') (ha : PE X a ta) (hb : PE X b tb) (hc : PE X c tc)
    (hm : lastMarks [op, op'] [b, c] = false := by with_unfolding_all rfl) : PT X (.Compare a [op, op'] [b, c] pos) (tTest (tChain r r' ta tb tc)) := by
  intro pins s σ H Q I h
  refine isTrue_chain (thn (ha pins s σ H _ I h) fun v s1 ⟨x, H1, I1, r1, q1⟩ => test_link (thn (hb pins s1 σ H1 _ I1 q1) fun u s2 ⟨y, H2, I2, r2, q2⟩ =>
    thn (ho pins s2 σ H2 x y v u _ I2 r1 r2 q2) fun d s3 ⟨z, H3, I3, r3, k, e, q3⟩ => ?_)) hm
  subst e
  cases r3
  refine wpAny_truthy_bool ?_
  cases k with
  | false =>
    obtain ⟨k', e', q'⟩ := q3
    cases e'
    exact ite_ff ⟨H3, I3, q'⟩
  | true =>
    refine ite_tt (test_last (thn (hc pins s3 σ H3 _ I3 q3) fun w' s4 ⟨z', H4, I4, r4, q4⟩ => thn (ho' pins s4 σ H4 y z' u w' _ I4 r2 r4 q4) fun d' s5 ⟨z2, H5, I5, r5, k2, e2, q5⟩ => ?_))
    subst e2
    cases r5
    exact wpAny_truthy_bool ⟨H5, I5, q5⟩

/-! ### truth -/
theorem line63 : (sizeLine : Nat) < 2 ^ 63 := by rw [sizeLine_eq]; decide
/-! ### strs and bytes -/
theorem op_add_str : OpR X (binaryOp .Add) (fun x y H Q => ∃ i j, x = .str i ∧ y = .str j ∧ i.length + j.length ≤ sizeLine ∧ Q (.str (i ++ j)) H) := by
  intro pins s σ H x y v u Q I rx ry h
  obtain ⟨i, j, rfl, rfl, hz, q⟩ := h
  obtain ⟨t, rfl⟩ := rx
  obtain ⟨t', rfl⟩ := ry
  exact add_str (fun t' tk => ⟨.str (i ++ j), H, I.tok _, ⟨_, rfl⟩, q⟩) hz
/-! ### scalar builtins, by CallR -/
theorem vals1 {x : V} {us : List Value} (r : Vals [x] us) : ∃ u, us = [u] ∧ RelV x u := by
  cases r with
  | cons r1 r2 => cases r2; exact ⟨_, rfl, r1⟩
theorem vals2 {x y : V} {us : List Value} (r : Vals [x, y] us) : ∃ u w', us = [u, w'] ∧ RelV x u ∧ RelV y w' := by
  cases r with
  | cons r1 r2 =>
    cases r2 with
    | cons r3 r4 => cases r4; exact ⟨_, _, rfl, r1, r3⟩
end
end L2

namespace L2
open PySem PySem.Spec PyProof.Rows

/-! ### an instance, its attributes a map -/
structure ObjM (h : Heap) (x dx C : Addr) (mA : Str → Option Value) : Prop where
  obj : h.get? x = some (PySem.W.instObj C dx)
  ns : h.Ns1 dx mA
  ne : dx ≠ x

theorem lookIn_ns {h : Heap} {dx : Addr} {mA : Str → Option Value} (n : h.Ns1 dx mA) : ∃ od, h.get? dx = some od ∧ ∀ name, PySem.W.lookIn name od = some (mA name) := by
  obtain ⟨o, es, ep, ho, hd, hk, _, hm⟩ := n
  refine ⟨o, ho, fun name => ?_⟩
  have e := hm name
  unfold nsFind findBy at e
  rw [← Array.find?_toList] at e
  unfold PySem.W.lookIn
  rw [hd]
  dsimp only
  split
  · rename_i y q
    rw [q] at e
    exact congrArg some e
  · rename_i q
    rw [q] at e
    have a : es.toList.any (·.refKey) = false := by
      rw [List.any_eq_false]
      intro y hy
      obtain ⟨z, t, hkey⟩ := hk y (Array.mem_toList_iff.mp hy)
      simp [DictEntry.refKey, hkey]
    have a' : ¬ es.toList.any (·.refKey) = true := by rw [a]; exact Bool.false_ne_true
    rw [if_neg a']
    exact congrArg some e

theorem ObjM.look {h : Heap} {x dx C : Addr} {mA : Str → Option Value} (I : ObjM h x dx C mA) : ∃ od, PySem.W.InstAt h x (PySem.W.instObj C dx) C (some od) ∧ ∀ name, PySem.W.lookIn name od = some (mA name) :=
  let ⟨od, ho, hl⟩ := lookIn_ns I.ns
  ⟨od, ⟨I.obj, rfl, rfl, ho⟩, hl⟩

section
variable {prog : Program} {w : World} {A : Around} {E : Value → Shared → Prop} {s : Shared} {K : PySem.W.Frag} {x dx C f : Addr} {mA : Str → Option Value} {name : Str} {v : Value}

end

/-! ### the attributes as a list of pairs -/
theorem RelO.some_of {v : V} {o : Option Value} (r : RelO (some v) o) : ∃ u, o = some u ∧ RelV v u := by
  cases o with
  | none => exact (show False from r).elim
  | some u => exact ⟨u, rfl, r⟩
theorem handed_of {v : V} {u : Value} (r : RelV v u) : PySem.W.handedIn u = true := by
  cases v with
  | non => cases (show u = Value.none from r); rfl
  | bl b => cases (show u = Value.bool b from r); rfl
  | int i => obtain ⟨t, e⟩ := (show ∃ t, u = Value.int i t from r); cases e; rfl
  | str x => obtain ⟨t, e⟩ := (show ∃ t, u = Value.str x t from r); cases e; rfl
  | byt b => obtain ⟨t, e⟩ := (show ∃ t, u = Value.bytes b t from r); cases e; rfl
  | flt b => obtain ⟨t, e⟩ := (show ∃ t, u = Value.float b t from r); cases e; rfl
  | ref a => cases (show u = Value.ref a from r); rfl
  | ty n => cases (show u = Value.type n from r); rfl

section
variable {P : Program} {w : World} {H H' : Hp} {h h' : Heap} {a C dx : Addr} {fs fs' : List (Str × V)}
theorem ins_get (hok : HOk P w H h) (e : H a = some (.ins C dx fs)) : ∃ mA, ObjM h a dx C mA ∧ (∀ f, RelO (fs.lookup f) (mA f)) ∧ PySem.Within mA (fs.map (·.1)) ∧ fs.length ≤ 1000 ∧ H dx = some (.own a) := by
  obtain ⟨d, z, ne, ob, mA, n, r, q⟩ := (show ObjOk P w H h a (.ins C dx fs) from hok a _ e)
  exact ⟨mA, ⟨ob, n, ne⟩, r, q, z, d⟩
end

/-! ### what of the text a class must have -/
structure Cls (K : PySem.W.Frag) (C : Addr) : Prop where
  pg : PySem.W.plainGet K C Str.empty = true
  hd : PySem.W.hasDictIn K C = true
  po : PySem.W.plainOver K C = true
  sa : PySem.W.findIn K (.ref C) "__setattr__" = some (some (.builtin "object.__setattr__"))
theorem Cls.get {K : PySem.W.Frag} {C : Addr} (c : Cls K C) (f : Str) : PySem.W.plainGet K C f = true := c.pg
/-- a constant of the class -/
structure Con (K : PySem.W.Frag) (C : Addr) (f : Str) (v : V) (u : Value) : Prop where
  at_ : PySem.W.findIn K (.ref C) f = some (some u)
  rel : RelV v u
  get : PySem.W.specialIn K u "__get__" = some none
  cp : PySem.W.copiedNames.contains f = false
/-- a method: a plain def of the class or of one above it -/
structure Meth (K : PySem.W.Frag) (C : Addr) (m : Str) (f : Addr) : Prop where
  at_ : PySem.W.findIn K (.ref C) m = some (some (.ref f))
  fn : PySem.W.isFn K (.ref f) = true
  kp : PySem.W.keepIn K (.ref f) = true

section
variable {X : Cx} {pins : List (Addr × Obj)} {σ : St} {H : Hp} {s : Shared} {a C dx : Addr} {fs : List (Str × V)} {f : Str} {v : V} {A : Around} {E : Value → Shared → Prop}

/-- a new instance, tracked, without attributes -/
theorem Inv.made (I : Inv X pins σ H s) : Inv X pins σ (upd (upd H s.heap.objs.size (.own (s.heap.objs.size + 1))) (s.heap.objs.size + 1) (.ins C s.heap.objs.size []))
    { s with heap := (s.heap.push PySem.W.emptyDict).push (PySem.W.instObj C s.heap.objs.size) } := by
  have e1 : (s.heap.push PySem.W.emptyDict).get? s.heap.objs.size = some PySem.W.emptyDict := Heap.get?_push_size s.heap rfl
  have e2 : ((s.heap.push PySem.W.emptyDict).push (PySem.W.instObj C s.heap.objs.size)).get? (s.heap.objs.size + 1) = some (PySem.W.instObj C s.heap.objs.size) := by
    have := Heap.get?_push_size (s.heap.push PySem.W.emptyDict) (o := PySem.W.instObj C s.heap.objs.size) rfl
    rwa [Heap.size_push] at this
  have e3 : (s.heap.push PySem.W.emptyDict).Ns s.heap.objs.size (fun _ => none) := ⟨PySem.W.emptyDict, #[], _, e1, rfl, (fun e he => absurd he (by simp)), fun _ => rfl⟩
  have I1 := I.laid (a := s.heap.objs.size) (o := .own (s.heap.objs.size + 1)) (h' := s.heap.push PySem.W.emptyDict) (t' := s.toks) (fun b u q => Heap.get?_push_of_some _ q) (Nat.le_refl _) ⟨_, e1⟩
  refine I1.laid (a := s.heap.objs.size + 1) (o := .ins C s.heap.objs.size []) (t' := s.toks) (fun b u q => Heap.get?_push_of_some _ q) (Nat.le_of_eq (Heap.size_push _ _)) ?_
  have ne : s.heap.objs.size ≠ s.heap.objs.size + 1 := Nat.ne_of_lt (Nat.lt_succ_self _)
  refine ⟨by rw [upd_ne ne, upd_same], Nat.zero_le _, ne, e2, fun _ => none, (Heap.Ns1.of_empty e3).at fun o q => Heap.get?_push_of_some _ q, fun _ => True.intro, fun y hy => absurd rfl hy⟩

/-- e.f where nothing but the object is asked: through attributeBase (super) and the last hold -/
theorem attr_of {prog : Program} {w : World} {env : Env} {e : Expr} {f : Str} {pos : Pos} {s : Shared} {Q : Value → Shared → Prop} (hb : attributeBase e f env (eval e env) = eval e env)
    (h : wpAny (model prog w) A (eval e env) (fun o s₁ => wpAny (model prog w) A (getAttr o f true) Q E s₁) E s) : wpAny (model prog w) A (eval (.Attribute e f pos) env) Q E s :=
  Attribute_any_ h (by rw [arm_eval_Attribute, hb])
end

/-! ### readings and rules -/
section
variable {X : Cx} {o e value : Expr} {f : Str} {pos pos' tpos : Pos} {ta tv : TE}
end

/-! ### isinstance -/
section
variable {X : Cx} {pins : List (Addr × Obj)} {σ : St} {H : Hp} {s : Shared} {A : Around} {E : Value → Shared → Prop} {Q : Value → Shared → Prop} {c : Value} {b : Bool}
/-- the type of a value, as the fragment's deciders take it; for an instance its class -/
inductive TyOf (K : PySem.W.Frag) (H : Hp) : V → Value → Prop where
  | non : TyOf K H .non (.type "NoneType")
  | bl (x : Bool) : TyOf K H (.bl x) (.type "bool")
  | int (i : Int) : TyOf K H (.int i) (.type "int")
  | str (x : Str) : TyOf K H (.str x) (.type "str")
  | flt (x : UInt64) : TyOf K H (.flt x) (.type "float")
  | lst {a : Addr} {xs : List V} (e : H a = some (.lst xs)) : TyOf K H (.ref a) (.type "list")
  | frz {a : Addr} {o : Obj} {xs : List V} (e : H a = some (.frz o (.lst xs))) : TyOf K H (.ref a) (.type "list")
  | tup {a : Addr} {xs : List V} (e : H a = some (.tup xs)) : TyOf K H (.ref a) (.type "tuple")
  | dK {a : Addr} {kvs : List (Key × V)} (e : H a = some (.dK kvs)) : TyOf K H (.ref a) (.type "dict")
  | dT {a : Addr} {kvs : List (List Key × V)} (e : H a = some (.dT kvs)) : TyOf K H (.ref a) (.type "dict")
  | ins {a C dx : Addr} {fs : List (Str × V)} (e : H a = some (.ins C dx fs)) (cl : Cls K C) (ha : PySem.W.findIn K (.ref C) "__class__" = some (some (.builtin "object.__class__")))
      (hn : PySem.W.specialIn K (.builtin "object.__class__") "__get__" = some (some (.builtin "getset_descriptor.__get__"))) (htk : PySem.W.takesIn K (.builtin "object.__class__") = some true)
      (hm : PySem.W.mroIn K C (.type "object") = some true) : TyOf K H (.ref a) (.ref C)
/-- isinstance(x, c) for one class c, a built-in or an own one: kitOne's answer -/
theorem isinst_ok {x : V} {u t : Value} (I : Inv X pins σ H s) (rx : RelV x u) (ty : TyOf X.K H x t) (e : PySem.W.kitOne X.K t c = some b) (h : ∀ tk, Q (.bool b) { s with toks := tk }) :
    wpAny (model X.prog X.w) A (call (.builtin "isinstance") [u, c]) Q E s := by
  cases ty with
  | non => cases (show u = Value.none from rx); exact PySem.W.kia_one PySem.W.kitx_none I.kIn True.intro e (fun z => nomatch z) h
  | bl y => cases (show u = Value.bool y from rx); exact PySem.W.kia_one PySem.W.kitx_bool I.kIn True.intro e (fun z => nomatch z) h
  | int i => obtain ⟨t, q⟩ := (show ∃ t, u = Value.int i t from rx); cases q; exact PySem.W.kia_one PySem.W.kitx_int I.kIn True.intro e (fun z => nomatch z) h
  | str y => obtain ⟨t, q⟩ := (show ∃ t, u = Value.str y t from rx); cases q; exact PySem.W.kia_one PySem.W.kitx_str I.kIn True.intro e (fun z => nomatch z) h
  | flt y => obtain ⟨t, q⟩ := (show ∃ t, u = Value.float y t from rx); cases q; exact PySem.W.kia_one PySem.W.kitx_float I.kIn True.intro e (fun z => nomatch z) h
  | @lst a xs ea =>
    cases (show u = Value.ref a from rx)
    obtain ⟨_, _, n, _, h1⟩ := (show ObjOk X.prog X.w H s.heap a (.lst xs) from I.hok a _ ea)
    exact PySem.W.kia_one PySem.W.kitx_list I.kIn ⟨_, h1, rfl⟩ e (fun z => nomatch z) h
  | @frz a ob xs ea =>
    cases (show u = Value.ref a from rx)
    obtain ⟨_, _, _, n, _, h1⟩ := (show ObjOk X.prog X.w H s.heap a (.frz ob (.lst xs)) from I.hok a _ ea)
    exact PySem.W.kia_one PySem.W.kitx_list I.kIn ⟨_, h1, rfl⟩ e (fun z => nomatch z) h
  | @tup a xs ea =>
    cases (show u = Value.ref a from rx)
    obtain ⟨_, _, _, p⟩ := (show ObjOk X.prog X.w H s.heap a (.tup xs) from I.hok a _ ea)
    obtain ⟨o, h1, h2, _⟩ := p
    exact PySem.W.kia_one PySem.W.kitx_tuple I.kIn ⟨o, h1, h2⟩ e (fun z => nomatch z) h
  | @dK a kvs ea =>
    cases (show u = Value.ref a from rx)
    obtain ⟨_, _, vs, _, p⟩ := (show ObjOk X.prog X.w H s.heap a (.dK kvs) from I.hok a _ ea)
    obtain ⟨o, es, ep, h1, h2, _⟩ := p
    exact PySem.W.kia_one PySem.W.kitx_dict I.kIn ⟨o, h1, h2.1⟩ e (fun z => nomatch z) h
  | @dT a kvs ea =>
    cases (show u = Value.ref a from rx)
    obtain ⟨_, _, xs, _, o, es, ep, h1, h2, _⟩ := (show ObjOk X.prog X.w H s.heap a (.dT kvs) from I.hok a _ ea)
    exact PySem.W.kia_one PySem.W.kitx_dict I.kIn ⟨o, h1, h2.1⟩ e (fun z => nomatch z) h
  | @ins a C dx fs ea cl ha hn htk hm =>
    cases (show u = Value.ref a from rx)
    obtain ⟨mA, O, _⟩ := ins_get I.hok ea
    obtain ⟨od, J, _⟩ := O.look
    exact PySem.W.kia_one (PySem.W.kitx_own (cl.get _) cl.hd ha hn htk hm) I.kIn J e (fun z => nomatch z) h
end
end L2

namespace L2
open PySem PySem.Spec PyProof.Rows

/-! ### room -/
structure Room (k : Nat) (A : Around) : Prop where
  hd : A.handled = none
  dp : A.depth + 3 * k + 5 < recursionLimit
  un : A.units + 16 * k + 200 < cLine
theorem Room.mono {j k : Nat} {A : Around} (r : Room k A) (h : j ≤ k) : Room j A := ⟨r.hd, by have := r.dp; omega, by have := r.un; omega⟩
theorem Room.deeper {k : Nat} {A : Around} (r : Room (k + 1) A) (env : Env) : Room k (A.deeper env) :=
  ⟨r.hd, by have := r.dp; show A.depth + 1 + 3 * k + 5 < _; omega, by have := r.un; show A.units + 3 + 16 * k + 200 < _; omega⟩
theorem Room.in1 {k : Nat} {A : Around} (r : Room (k + 1) A) : Room k A.in1 :=
  ⟨r.hd, by have := r.dp; show A.depth + 3 * k + 5 < _; omega, by have := r.un; show A.units + 1 + 16 * k + 200 < _; omega⟩
theorem make_depth {A : Around} {C : Addr} {us : List Value} {kw : List (Str × Value)} : (A.under (.builtin "type.__call__" ⟨.ref C :: us, kw⟩)).depth = A.depth + 1 := by
  first | rfl | simp [Around.under, Code.weight, Code.isCreation, Code.isGuard, Code.isCaller, Code.frames, Code.isFrame, guardIds]
theorem make_units {A : Around} {C : Addr} {us : List Value} {kw : List (Str × Value)} : (A.under (.builtin "type.__call__" ⟨.ref C :: us, kw⟩)).units = A.units + 1 := by
  first | rfl | simp [Around.under, Code.cUnits, Code.frames, Code.isFrame]
theorem Room.make {k : Nat} {A : Around} (r : Room (k + 1) A) (C : Addr) (us : List Value) (kw : List (Str × Value)) : Room k (A.under (.builtin "type.__call__" ⟨.ref C :: us, kw⟩)) :=
  ⟨r.hd, by have := r.dp; rw [make_depth]; omega, by have := r.un; rw [make_units]; omega⟩
theorem Room.depth {k : Nat} {A : Around} (r : Room k A) : A.depth < recursionLimit := by have := r.dp; omega
theorem Room.units {k : Nat} {A : Around} (r : Room k A) : A.units + 64 < cLine := by have := r.un; omega
/-! ### argument lists and displays -/
def tNil : TA := fun _ H Q => Q [] H
def tCons (ta : TE) (tr : TA) : TA := fun σ H Q => ta σ H fun x H1 => tr σ H1 fun xs H2 => Q (x :: xs) H2
section
variable {X : Cx} {e : Expr} {es : List Expr} {te : TE} {t : TA} {pos : Pos}
theorem pa_nil : PA X [] tNil := fun _ _ _ _ H Q I h => Calls.spliced_nil ⟨[], H, I, .nil, h⟩
theorem pa_cons (ha : PE X e te) (hr : PA X es t) (hs : starEach (e :: es) X.env = (false, eval e X.env) :: starEach es X.env := by rfl) : PA X (e :: es) (tCons te t) := by
  intro pos pins s σ H Q I h
  rw [hs]
  show wpAny _ _ (spliced ((false, eval e X.env) :: backTo pos (starEach es X.env))) _ _ s
  refine Calls.spliced_cons (thn (ha pins s σ H _ I h) fun u s1 ⟨x, H1, I1, r1, q1⟩ => ?_)
  exact thn (hr pos pins s1 σ H1 _ I1 q1) fun us s2 ⟨xs, H2, I2, r2, q2⟩ => ⟨x :: xs, H2, I2, .cons r1 r2, q2⟩

/-- a tuple, a list of written items -/
def tTup (t : TA) : TE := fun σ H Q => t σ H fun xs H1 => xs.length ≤ sizeLine ∧ ∀ p, H1 p = none → Q (.ref p) (upd H1 p (.tup xs))
def tLst (t : TA) : TE := fun σ H Q => t σ H fun xs H1 => xs.length ≤ sizeLine ∧ ∀ p, H1 p = none → Q (.ref p) (upd H1 p (.lst xs))
theorem pe_tup {x1} (h : PA X es t) : PE X (.Tuple es x1 pos) (tTup t) := by
  intro pins s σ H Q I hq
  refine wpAny_Tuple_spliced (thn (h pos pins s σ H _ I hq) fun us s1 ⟨xs, H1, I1, r, z, q⟩ => ⟨by rw [← r.length]; exact z, ?_⟩)
  have hf : H1 s1.heap.objs.size = none := I1.hok.fresh (Nat.le_refl _)
  refine ⟨.ref s1.heap.objs.size, upd H1 s1.heap.objs.size (.tup xs), I1.laid (t' := s1.toks) (fun b u e => Heap.get?_push_of_some _ e) (Nat.le_refl _) ?_, rfl, q _ hf⟩
  exact ⟨z, us, r, ⟨_, Heap.get?_push_size _ rfl, rfl, _, rfl⟩⟩
theorem pe_lst (h : PA X es t) : PE X (.List es pos) (tLst t) := by
  intro pins s σ H Q I hq
  refine wpAny_List_spliced (thn (h pos pins s σ H _ I hq) fun us s1 ⟨xs, H1, I1, r, z, q⟩ => ⟨by rw [← r.length]; exact z, ?_⟩)
  have hf : H1 s1.heap.objs.size = none := I1.hok.fresh (Nat.le_refl _)
  refine ⟨.ref s1.heap.objs.size, upd H1 s1.heap.objs.size (.lst xs), I1.laid (t' := s1.toks) (fun b u e => Heap.get?_push_of_some _ e) (Nat.le_refl _) ?_, rfl, q _ hf⟩
  exact ⟨z, us, 0, r, Heap.get?_push_size _ rfl⟩
end

/-! ### what a def promises -/
/-- a def's promise: the bound arguments in the parameters' order, the heap, the wanted end, the wanted exception -/
abbrev Sp := List V → Hp → VK → XK → Prop
/-- how an exception lies behind a call (file 08 gives it): the callers' frames, abstract heap and state ahead of the call, the wish, the exception, the state -/
abbrev CXT := List Env → Hp → Shared → XK → Value → Shared → Prop

/-- the state at a call -/
structure Env0 (P : Program) (w : World) (K : PySem.W.Frag) (mg : Str → Option Value) (base : Heap) (A : Around) (outer : List Env) (s : Shared) (H : Hp) : Prop where
  frames : A.frames = some outer
  mod : Mod K mg base
  bs : ∀ b o, base.get? b = some o → s.heap.get? b = some o ∧ H b = none
  bsz : base.objs.size ≤ s.heap.objs.size
  funs : s.heap.FunFrames base outer
  frf : ∀ b ∈ frs outer, H b = none
  hok : HOk P w H s.heap
  bare : AllBare s.gens
/-- a call's end -/
def CE (outer : List Env) (P : Program) (w : World) (H : Hp) (s : Shared) (Q : VK) (u : Value) (s' : Shared) : Prop :=
  ∃ v H', s'.os = s.os ∧ AllBare s'.gens ∧ Un (frs outer) [] H H' s.heap s'.heap ∧ HOk P w H' s'.heap ∧ RelV v u ∧ Q v H'
def CR (CX : CXT) (outer : List Env) (P : Program) (w : World) (H : Hp) (s : Shared) (Q : VK) (E : XK) (r : Result) (s' : Shared) : Prop :=
  match r with
  | .ok (.ret u) => CE outer P w H s Q u s'
  | .ok _ => False
  | .error e => CX outer H s E e s'
structure FnOk (P : Program) (w : World) (K : PySem.W.Frag) (mg : Str → Option Value) (base : Heap) (CX : CXT) (k : Nat) (f : Addr) (fd : FuncData) (ps : List Str) (sp : Sp) : Prop where
  len : ∀ vs H Q E, sp vs H Q E → vs.length = ps.length
  run : ∀ (A : Around) (outer : List Env) (s : Shared) (H : Hp) (args : Args) (us : List Value) (vs : List V) (Q : VK) (E : XK), Room k A → Env0 P w K mg base A outer s H → BindsTo s fd args (ps.zip us) → Vals vs us → sp vs H Q E →
    codeAny (model P w) A (.call (.ref f) args) (CR CX outer P w H s Q E) s
theorem FnOk.mono {P : Program} {w : World} {K : PySem.W.Frag} {mg : Str → Option Value} {base : Heap} {CX : CXT} {j k : Nat} {f : Addr} {fd : FuncData} {ps : List Str} {sp : Sp} (F : FnOk P w K mg base CX j f fd ps sp) (h : j ≤ k) :
    FnOk P w K mg base CX k f fd ps sp := ⟨F.len, fun A outer s H args us vs Q E hr => F.run A outer s H args us vs Q E (hr.mono h)⟩
/-- a weaker promise -/
theorem FnOk.imp {P : Program} {w : World} {K : PySem.W.Frag} {mg : Str → Option Value} {base : Heap} {CX : CXT} {k : Nat} {f : Addr} {fd : FuncData} {ps : List Str} {sp sp' : Sp} (F : FnOk P w K mg base CX k f fd ps sp)
    (h : ∀ vs H Q E, sp' vs H Q E → sp vs H Q E) : FnOk P w K mg base CX k f fd ps sp' :=
  ⟨fun vs H Q E q => F.len vs H Q E (h _ _ _ _ q), fun A outer s H args us vs Q E hr he hb hv hs => F.run A outer s H args us vs Q E hr he hb hv (h _ _ _ _ hs)⟩

theorem Env0.make {P : Program} {w : World} {K : PySem.W.Frag} {mg : Str → Option Value} {base : Heap} {A : Around} {outer : List Env} {s : Shared} {H : Hp} (e : Env0 P w K mg base A outer s H) (C : Addr) (us : List Value) (kw : List (Str × Value)) :
    Env0 P w K mg base (A.under (.builtin "type.__call__" ⟨.ref C :: us, kw⟩)) outer s H := ⟨by first | exact e.frames | (simpa [Around.under, Code.envs, Code.isFrame, pushEnvs] using e.frames), e.mod, e.bs, e.bsz, e.funs, e.frf, e.hok, e.bare⟩
theorem Env0.in1 {P : Program} {w : World} {K : PySem.W.Frag} {mg : Str → Option Value} {base : Heap} {A : Around} {outer : List Env} {s : Shared} {H : Hp} (e : Env0 P w K mg base A outer s H) :
    Env0 P w K mg base A.in1 outer s H := ⟨e.frames, e.mod, e.bs, e.bsz, e.funs, e.frf, e.hok, e.bare⟩

section
variable {X : Cx} {pins : List (Addr × Obj)} {σ : St} {H : Hp} {s s' : Shared}
/-- from a body: what a callee wants -/
theorem Inv.env0 (I : Inv X pins σ H s) : Env0 X.prog X.w X.K X.mg X.base X.A X.stack s H :=
  ⟨I.ok.frames, I.ok.mod, I.bs, Nat.le_trans I.ok.bsz I.sz, I.stack, I.stkFree, I.hok, I.bare⟩
/-- behind a call -/
theorem Inv.after {Q : VK} {u : Value} (I : Inv X pins σ H s) (h : CE X.stack X.prog X.w H s Q u s') : EP X pins σ Q u s' := by
  obtain ⟨v, H', os, bare, un, hok, r, q⟩ := h
  obtain ⟨hh, g, d, t, os'⟩ := s'
  obtain rfl : os' = s.os := os
  exact ⟨v, H', I.call (h' := hh) (g' := g) (d' := d) (t' := t) (ch := []) un hok bare (fun b z => absurd z (by simp)), r, q⟩
end

/-! ### calls -/
/-- f(..): the written arguments, then the defaults dvs; E: what is wanted of an exception -/
def tCall (sp : Sp) (dvs : List V) (E : XK) (t : TA) : TE := fun σ H Q => t σ H fun vs H1 => sp (vs ++ dvs) H1 Q E
/-- how the parameters are bound: us the positional arguments, kw the keywords' values by name, ds the defaults that fill up -/
def Binds (K : PySem.W.Frag) (fd : FuncData) (ps : List Str) (ds : List Value) : Prop :=
  ∀ (s : Shared) (us : List Value), K.In s.heap → (us ++ ds).length = ps.length → BindsTo s fd ⟨us, []⟩ (ps.zip (us ++ ds))
/-- every parameter is given -/
theorem Binds.all {K : PySem.W.Frag} {fd : FuncData} {ps : List Str} (h : ∀ us : List Value, us.length = ps.length → bindArgs fd ⟨us, []⟩ = pure (ps.zip us)) : Binds K fd ps [] := fun s us _ hl => by
  rw [List.append_nil] at hl ⊢
  exact .of_eq (h us hl)

/-- an exception of a callee reaches what this body wants of exceptions -/
def Passes (CX : CXT) (X : Cx) (E : XK) : Prop := ∀ (pins : List (Addr × Obj)) (σ : St) (H : Hp) (s : Shared) (e : Value) (s' : Shared), Inv X pins σ H s → CX X.stack H s E e s' → X.xe e s'

section
variable {X : Cx} {CX : CXT} {k : Nat} {f C : Addr} {fd : FuncData} {ps : List Str} {sp : Sp} {dvs : List V} {ds : List Value} {E : XK} {x m : Str} {p pos apos : Pos} {e o : Expr} {es : List Expr} {ta : TE} {t : TA}

/-- the callee runs -/
theorem run_fn {pins : List (Addr × Obj)} {σ : St} {H : Hp} {s : Shared} {Q : VK} {us : List Value} {vs : List V} (F : FnOk X.prog X.w X.K X.mg X.base CX k f fd ps sp) (hr : Room k X.A) (hb : Binds X.K fd ps ds) (hd : Vals dvs ds) (hx : Passes CX X E)
    (I : Inv X pins σ H s) (r : Vals vs us) (h : sp (vs ++ dvs) H Q E) : wpAny (model X.prog X.w) X.A (call (.ref f) us) (EP X pins σ Q) X.xe s := by
  have r2 : Vals (vs ++ dvs) (us ++ ds) := r.append hd
  have hl : (us ++ ds).length = ps.length := by rw [← r2.length]; exact F.len _ _ _ _ h
  refine wpAny_call (codeAny_mono (F.run X.A X.stack s H ⟨us, []⟩ (us ++ ds) (vs ++ dvs) Q E hr I.env0 (hb s us I.kIn hl) r2 h) fun r s' hq => ?_)
  cases r with
  | error e => exact hx pins σ H s e s' I hq
  | ok fl =>
    cases fl with
    | ret u => exact I.after hq
    | next => exact False.elim hq
    | brk => exact False.elim hq
    | cont => exact False.elim hq

theorem pe_call (F : FnOk X.prog X.w X.K X.mg X.base CX k f fd ps sp) (hr : Room k X.A) (hg : Gl X x) (hm : X.mg x = some (.ref f)) (hk : PySem.W.keepIn X.K (.ref f) = true) (hb : Binds X.K fd ps ds) (hd : Vals dvs ds) (hx : Passes CX X E)
    (ha : PA X (e :: es) t) (hdb : (x == ("__debug__" : Str)) = false := by decide) (he : starEach (e :: es) X.env = (false, eval e X.env) :: starEach es X.env := by rfl) (hpl : (backTo pos (starEach es X.env)).any (·.1) = false := by rfl) :
    PE X (.Call (.Name x p) (e :: es) [] pos) (tCall sp dvs E t) := by
  intro pins s σ H Q I h
  refine wpAny_Call_Name_kw (ld_glob I hg hm ?_ hdb)
  refine PySem.W.callWith_K (h₀ := X.base) I.ok.mod.kin hk (thn (ha pos pins s σ H _ I h) fun us s1 ⟨vs, H1, I1, r, q⟩ => ⟨I1.kIn, ?_⟩) he hpl
  exact run_fn F hr hb hd hx I1 r q
/-- what a class must have to be made -/
structure Mk (K : PySem.W.Frag) (C f : Addr) : Prop where
  makes : PySem.W.makesIn K C = true
  init : PySem.W.findIn K (.ref C) "__init__" = some (some (.ref f))
  fn : PySem.W.isFn K (.ref f) = true
  kp : PySem.W.keepIn K (.ref C) = true

end

/-! ### keywords -/
section
variable {X : Cx} {CX : CXT} {k : Nat} {f C : Addr} {fd : FuncData} {ps ks : List Str} {sp : Sp} {E : XK} {x m : Str} {p pos apos kpos : Pos} {e o : Expr} {es : List Expr} {kws : List Keyword} {te ta : TE} {t tk : TA} {nm : Option Str}
/-- how a call with keywords binds: g puts the positional values us and the keywords' values ws (names ks) in the parameters' order, defaults among them -/
structure KBinds (K : PySem.W.Frag) (fd : FuncData) (ps ks : List Str) (g : List Value → List Value → List Value) (gV : List V → List V → List V) : Prop where
  to : ∀ (s : Shared) (us ws : List Value), K.In s.heap → (g us ws).length = ps.length → BindsTo s fd ⟨us, ks.zip ws⟩ (ps.zip (g us ws))
  rel : ∀ {vs : List V} {us : List Value} {zs : List V} {ws : List Value}, Vals vs us → Vals zs ws → Vals (gV vs zs) (g us ws)
variable {g : List Value → List Value → List Value} {gV : List V → List V → List V}
end

/-! ### a def's body keeps its promise -/
/-- names: the parameters first -/
structure FnScope (N P : List Str) (sc : Scope) : Prop where
  kind : sc.kind = .function
  co : sc.isCoroutine = false
  gen : sc.isGenerator = false
  nd : N.Nodup
  pre : N.take P.length = P
  par : ∀ x ∈ P, sc.names.lookup x = some .local ∨ sc.names.lookup x = some .cell
  nofree : ∀ y ∈ sc.names, y.2 ≠ .free

theorem bindL_out {kindOf : Str → Option NameKind} {x : Str} : ∀ {binds : List (Str × Value)} {m : Str → Option Value}, (∀ v, (x, v) ∉ binds) → bindL kindOf binds m x = m x
  | [], _, _ => rfl
  | (n, v) :: r, m, h => by
    unfold bindL
    rw [bindL_out fun w hw => h w (List.mem_cons_of_mem _ hw)]
    split
    · have : x ≠ n := by rintro rfl; exact h v List.mem_cons_self
      simp [this]
    · rfl
theorem bindC_out {kindOf : Str → Option NameKind} {x : Str} : ∀ {binds : List (Str × Value)} {m : Str → Option Value}, (∀ v, (x, v) ∉ binds) → bindC kindOf binds m x = m x
  | [], _, _ => rfl
  | (n, v) :: r, m, h => by
    unfold bindC
    rw [bindC_out fun w hw => h w (List.mem_cons_of_mem _ hw)]
    split
    · rfl
    · have : x ≠ n := by rintro rfl; exact h v List.mem_cons_self
      simp [this]
theorem bindL_get {kindOf : Str → Option NameKind} {x : Str} {v : Value} : ∀ {P : List Str} {vs : List Value} {i : Nat} {m : Str → Option Value}, P.Nodup → P[i]? = some x → vs[i]? = some v → kindOf x = some .local →
    bindL kindOf (P.zip vs) m x = some v
  | [], _, _, _, _, h, _, _ => by simp at h
  | _ :: _, [], _, _, _, _, h, _ => by simp at h
  | p :: P, w :: vs, 0, m, nd, h1, h2, hk => by
    simp at h1 h2; subst h1; subst h2
    show bindL kindOf ((p, w) :: P.zip vs) m p = _
    unfold bindL
    rw [bindL_out fun v hv => (List.nodup_cons.mp nd).1 (List.of_mem_zip hv).1, if_pos hk]
    simp
  | p :: P, w :: vs, i + 1, m, nd, h1, h2, hk => by
    show bindL kindOf ((p, w) :: P.zip vs) m x = _
    unfold bindL
    exact bindL_get (i := i) (List.nodup_cons.mp nd).2 (by simpa using h1) (by simpa using h2) hk
theorem bindC_get {kindOf : Str → Option NameKind} {x : Str} {v : Value} : ∀ {P : List Str} {vs : List Value} {i : Nat} {m : Str → Option Value}, P.Nodup → P[i]? = some x → vs[i]? = some v → kindOf x ≠ some .local →
    bindC kindOf (P.zip vs) m x = some v
  | [], _, _, _, _, h, _, _ => by simp at h
  | _ :: _, [], _, _, _, _, h, _ => by simp at h
  | p :: P, w :: vs, 0, m, nd, h1, h2, hk => by
    simp at h1 h2; subst h1; subst h2
    show bindC kindOf ((p, w) :: P.zip vs) m p = _
    unfold bindC
    rw [bindC_out fun v hv => (List.nodup_cons.mp nd).1 (List.of_mem_zip hv).1, if_neg hk]
    simp
  | p :: P, w :: vs, i + 1, m, nd, h1, h2, hk => by
    show bindC kindOf ((p, w) :: P.zip vs) m x = _
    unfold bindC
    exact bindC_get (i := i) (List.nodup_cons.mp nd).2 (by simpa using h1) (by simpa using h2) hk

/-- the names' values at the entry -/
def start (N : List Str) (vs : List V) : St := vs.map some ++ List.replicate (N.length - vs.length) none

/-- the context of a def's body, at its entry; an exception leaves the frame, then lies as CX says -/
def cxOf (CX : CXT) (P : Program) (w : World) (K : PySem.W.Frag) (mg : Str → Option Value) (base : Heap) (N : List Str) (qual : Str) (scope : Scope) (f : Addr) (cd : Value) (A : Around) (outer : List Env) (s : Shared) (H : Hp) (E : XK) : Cx where
  prog := P
  w := w
  K := K
  mg := mg
  base := base
  A := A.deeper (envOfC qual scope s.heap.objs.size f cd)
  N := N
  s₀ := s
  H₀ := H
  env := envOfC qual scope s.heap.objs.size f cd
  outer := outer
  stack := envOfC qual scope s.heap.objs.size f cd :: outer
  ex := []
  calm := true
  fn := fun _ => true
  pn := []
  xe := fun e s' => wpAny (model P w) (A.deeper (envOfC qual scope s.heap.objs.size f cd)) (leaving (envOfC qual scope s.heap.objs.size f cd) e) (fun _ s'' => CX outer H s E e s'') (fun e' s'' => CX outer H s E e' s'') s'

theorem cell_has {sc : Scope} {n : Nat} {x : Str} (h : sc.names.lookup x = some .cell) : ∃ c, (cellsFrom n sc.names []).lookup x = some c := by
  have q := PySem.W.cellsFrom_some sc.names n [] (.inl h)
  exact Option.isSome_iff_exists.mp q

theorem inv_start {CX : CXT} {P : Program} {w : World} {K : PySem.W.Frag} {mg : Str → Option Value} {base : Heap} {N ps : List Str} {qual : Str} {scope : Scope} {f : Addr} {cd : Value} {A : Around} {outer : List Env} {s s1 : Shared} {H : Hp} {E : XK} {us : List Value} {vs : List V}
    (S : FnScope N ps scope) (hd : A.handled = none) (e0 : Env0 P w K mg base A outer s H) (hl : vs.length = ps.length) (r : Vals vs us)
    (x : InCallC s s.heap.objs.size (bindL (envOfC qual scope s.heap.objs.size f cd).kindOf (ps.zip us) fun _ => none) (cellsFrom (s.heap.objs.size + 1) scope.names []) (bindC (envOfC qual scope s.heap.objs.size f cd).kindOf (ps.zip us) fun _ => none) s1) :
    Inv (cxOf CX P w K mg base N qual scope f cd A outer s H E) [] (start N vs) H s1 := by
  have hpl : ps.length ≤ N.length := by have := congrArg List.length S.pre; rw [List.length_take] at this; omega
  obtain ⟨h1, tk, rfl, hk⟩ := x.done
  have noA : ∀ b : Addr, b ∉ (cxOf CX P w K mg base N qual scope f cd A outer s H E).ex := fun b z => absurd (show b ∈ ([] : List Addr) from z) (by simp)
  refine ⟨⟨e0.mod, S.kind, rfl, rfl, Nat.le_refl _, fun y z c h1 h2 => ?_, fun y hy => ?_, fun y c _ h => ?_, fun _ => hd, Around.frames_deeper e0.frames, .inr ⟨rfl, rfl⟩, fun b z => absurd z (noA b), e0.bs, e0.bsz, fun b _ _ => noA b, fun b z => absurd z (noA b), e0.funs, e0.frf⟩,
    rfl, e0.bare, Un.kept hk, ⟨_, x.toInCall.ns, fun i y v h1 h2 h3 => ?_⟩, fun y c h => ⟨_, x.cell y c h⟩, e0.hok.fresh (Nat.le_refl _), fun y c h => ?_, fun p hp => absurd (show p ∈ ([] : List (Addr × Obj)) from hp) (by simp), e0.hok.kept hk, ?_⟩
  · exact name_of_addr x.apart (PySem.mem_of_lookup h1) (PySem.mem_of_lookup h2)
  · have hy : scope.names.lookup y = some .cell ∨ scope.names.lookup y = some .free := hy
    rcases hy with hy | hy
    · exact cell_has hy
    · exact absurd rfl (S.nofree _ (PySem.mem_of_lookup hy))
  · exact Nat.le_of_lt (x.above y c (PySem.mem_of_lookup h))
  · have hi : i < vs.length := by
      unfold start at h2
      by_cases hi : i < vs.length
      · exact hi
      · rw [List.getElem?_append_right (by simpa using hi)] at h2
        rw [List.getElem?_replicate] at h2
        split at h2 <;> cases h2
    have ha : vs[i]? = some v := by
      unfold start at h2
      rw [List.getElem?_append_left (by simpa using hi), List.getElem?_map] at h2
      cases e : vs[i]? with
      | none => rw [e] at h2; cases h2
      | some a => rw [e] at h2; cases h2; rfl
    obtain ⟨u, hu, rv⟩ := r.get ha
    have hp : ps[i]? = some y := by
      rw [← S.pre, List.getElem?_take_of_lt (by omega)]; exact h1
    have ndP : ps.Nodup := by rw [← S.pre]; exact S.nd.sublist (List.take_sublist _ _)
    refine ⟨u, rv, ?_⟩
    rcases S.par y (List.mem_of_getElem? hp) with k | k
    · exact .inl ⟨k, bindL_get ndP hp hu k⟩
    · obtain ⟨c, e⟩ := cell_has (n := s.heap.objs.size + 1) k
      refine .inr ⟨.inl k, c, e, ?_⟩
      have q := x.cell y c e
      rw [bindC_get ndP hp hu (by show scope.names.lookup y ≠ _; rw [k]; decide)] at q
      exact q
  · exact e0.hok.fresh (Nat.le_of_lt (x.above y c (PySem.mem_of_lookup h)))
  · unfold start
    show _ = N.length
    rw [List.length_append, List.length_map, List.length_replicate]
    omega

/-- THE RULE: a def (or a method) of the text, by its body. The body's reading t is chosen for each entry; it is run at the parameters' values -/
theorem fn_of {CX : CXT} {P : Program} {w : World} {K : PySem.W.Frag} {mg : Str → Option Value} {base : Heap} {k : Nat} {f : Addr} {name qual : Str} {params : Arguments} {body : List Stmt} {scope : Scope} {dV kV doc pm cdv ct oc : Value} {an od : Option Addr}
    {osl : Array (Option Value)} {N ps : List Str} {sp : Sp} (lk : K.lookup f = some ⟨oc, od, .func (PySem.W.fnOf name qual params body scope dV kV doc pm an cdv ct), osl⟩) (hcd : PySem.W.codeIn K cdv qual = true) (S : FnScope N ps scope)
    (len : ∀ vs H Q E, sp vs H Q E → vs.length = ps.length)
    (hbody : ∀ (A : Around) (outer : List Env) (s : Shared) (H : Hp) (vs : List V) (Q : VK) (E : XK), Room k (A.deeper (envOfC qual scope s.heap.objs.size f cdv)) → sp vs H Q E →
      ∃ t, PSs (cxOf CX P w K mg base N qual scope f cdv A outer s H E) body t ∧ t { nx := fun _ H' => Q .non H', rt := Q } (start N vs) H) :
    FnOk P w K mg base CX (k + 1) f (PySem.W.fnOf name qual params body scope dV kV doc pm an cdv ct) ps sp := by
  refine ⟨len, fun A outer s H args us vs Q E hr e0 hb r hsp => ?_⟩
  have hl := len _ _ _ _ hsp
  have KX : K.In s.heap := e0.mod.kin.keeps fun b o e => (e0.bs b o e).1
  have lim : s.heap.NoLimit := e0.mod.nolimit.keeps fun b o e => (e0.bs b o e).1
  have hkind : ∀ y ∈ ps.zip us, scope.names.lookup y.1 = some .local ∨ (scope.names.lookup y.1 = some .cell ∧ ((cellsFrom (s.heap.objs.size + 1) scope.names []).lookup y.1).isSome = true) := fun ⟨n, v⟩ hy => by
    rcases S.par n (List.of_mem_zip hy).1 with q | q
    · exact .inl q
    · exact .inr ⟨q, PySem.W.cellsFrom_some _ _ _ (.inl q)⟩
  refine codeAny_call_function hr.depth (KX _ _ lk) rfl S.co S.gen rfl (PySem.W.codeRec_of KX hcd) (hb _ _ _ _ ?_)
  refine wpAny_newFunctionEnv_cells S.kind hkind fun env he s1 x => ?_
  subst he
  refine ⟨lim.keeps x.toInCall.keep, codeAny_func ?_⟩
  obtain ⟨t, ht, hq⟩ := hbody A outer s H vs Q E (hr.deeper _) hsp
  have I : Inv (cxOf CX P w K mg base N qual scope f cdv A outer s H E) [] (start N vs) H s1 := inv_start S hr.hd e0 hl r x
  refine wpAny_mono (ht [] s1 (start N vs) H _ I hq) (fun fl s' hs => ?_) fun e s' hs => hs
  have fin : ∀ {σ' : St} {H' : Hp} {v : V} {u : Value}, Inv (cxOf CX P w K mg base N qual scope f cdv A outer s H E) [] σ' H' s' → RelV v u → Q v H' → CE outer P w H s Q u s' :=
    fun {σ' H' v u} J rv q => ⟨v, H', J.os, J.bare, J.base, J.hok, rv, q⟩
  cases fl with
  | ret u =>
    obtain ⟨v, σ', H', J, rv, q⟩ := hs
    exact fin J rv q
  | next =>
    obtain ⟨σ', H', J, q⟩ := hs
    exact fin (v := V.non) (u := Value.none) J rfl q
  | brk =>
    obtain ⟨_, _, _, q⟩ := hs
    exact False.elim q
  | cont =>
    obtain ⟨_, _, _, q⟩ := hs
    exact False.elim q
end L2

namespace L2
open PySem PySem.Spec PyProof.Rows
section
variable {X : Cx} {x : Str} {p pos : Pos} {e : Expr} {es : List Expr} {t : TA} {id T : String} {r : List V → Hp → VK → Prop}

def tCB (r : List V → Hp → VK → Prop) (t : TA) : TE := fun σ H Q => t σ H fun vs H1 => r vs H1 Q
/-- f(e, ..), f a built-in function -/
theorem pe_callB (hc : CallR X (.builtin id) r) (hg : Gl X x) (hm : X.mg x = none) (hv : bootBuiltins x = some (.builtin id)) (ha : PA X (e :: es) t) (hn : x ≠ "__name__" := by decide) (hdb : (x == ("__debug__" : Str)) = false := by decide)
    (he : starEach (e :: es) X.env = (false, eval e X.env) :: starEach es X.env := by rfl) (hpl : (backTo pos (starEach es X.env)).any (·.1) = false := by rfl) : PE X (.Call (.Name x p) (e :: es) [] pos) (tCB r t) := by
  intro pins s σ H Q I h
  refine wpAny_Call_Name_kw (ld_blt I hg hm hv ?_ hn hdb)
  exact PyProof.Rows.callWith_builtin1 (thn (ha pos pins s σ H _ I h) fun us s1 ⟨vs, H1, I1, r1, q1⟩ => hc pins s1 σ H1 vs us Q I1 r1 q1) he hpl
/-- T(e, ..), T a built-in type -/
theorem pe_callTy (hc : CallR X (.type T) r) (hg : Gl X x) (hm : X.mg x = none) (hv : bootBuiltins x = some (.type T)) (ha : PA X (e :: es) t) (hn : x ≠ "__name__" := by decide) (hdb : (x == ("__debug__" : Str)) = false := by decide)
    (he : starEach (e :: es) X.env = (false, eval e X.env) :: starEach es X.env := by rfl) (hpl : (backTo pos (starEach es X.env)).any (·.1) = false := by rfl) : PE X (.Call (.Name x p) (e :: es) [] pos) (tCB r t) := by
  intro pins s σ H Q I h
  refine wpAny_Call_Name_kw (ld_blt I hg hm hv ?_ hn hdb)
  exact PyProof.Rows.callWith_type1 (thn (ha pos pins s σ H _ I h) fun us s1 ⟨vs, H1, I1, r1, q1⟩ => hc pins s1 σ H1 vs us Q I1 r1 q1) he hpl
end
end L2

namespace HT
open PySem PyProof.Rows

section
open PySem.SeqAt
open PySem.AutoSeq1 (wpAny_loadPart')
open PySem.MeetsSeq PySem.MeetsSeq2 PySem.MeetsSeq3

end

section
variable {prog : Program} {w : World} {A : Around} {E : Value → Shared → Prop} {s : Shared}

/-! ### t[a:b], not the whole -/
/-- a slice's bound as a place among n (d where it is left out) -/
def sIx (n d : Nat) : Option Int → Nat
  | none => d
  | some v => if v < 0 then (v + (n : Int)).toNat else min v.toNat n
theorem sIx_none (n d : Nat) : sIx n d none = d := rfl
theorem sIx_nat (n d k : Nat) : sIx n d (some (k : Int)) = min k n := by
  show (if (k : Int) < 0 then ((k : Int) + (n : Int)).toNat else min (k : Int).toNat n) = min k n
  rw [if_neg (by omega), Int.toNat_natCast]
end
end HT

namespace L2
open PySem PySem.Spec PyProof.Rows

/-! ### the parts of a slice -/
abbrev TO := St → Hp → (Option Int → Hp → Prop) → Prop
/-- a slice's part (left out, or an int) -/
def PO (X : Cx) (e : Option Expr) (t : TO) : Prop :=
  ∀ (pins : List (Addr × Obj)) (s : Shared) (σ : St) (H : Hp) (Q : Option Int → Hp → Prop), Inv X pins σ H s → t σ H Q →
    wpAny (model X.prog X.w) X.A (evalPart e X.env) (fun u s' => ∃ o H', Inv X pins σ H' s' ∧ IsPart u o ∧ Q o H') X.xe s
def tNoPart : TO := fun _ H Q => Q none H
def tPart (t : TE) : TO := fun σ H Q => t σ H fun x H1 => ∃ i, x = .int i ∧ Q (some i) H1

section
variable {X : Cx} {e : Expr} {te : TE} {lo hi : Option Expr} {tl th : TO} {pos p2 : Pos}

theorem po_none : PO X none tNoPart := by
  intro pins s σ H Q I h
  rw [evalPart_none]
  exact wpAny_pure ⟨none, H, I, .none, h⟩
theorem po_some (h : PE X e te) : PO X (some e) (tPart te) := by
  intro pins s σ H Q I hw
  rw [evalPart_some]
  refine thn (h pins s σ H _ I hw) fun u s1 ⟨x, H1, I1, r1, q1⟩ => ?_
  obtain ⟨i, rfl, q⟩ := q1
  obtain ⟨t, rfl⟩ := r1
  exact ⟨some i, H1, I1, .int i t, q⟩

/-- what a slice of a value is, by values: the slice object stands at sl -/
def SlR (X : Cx) (r : V → Option Int → Option Int → Hp → VK → Prop) : Prop :=
  ∀ (pins : List (Addr × Obj)) (s : Shared) (σ : St) (H : Hp) (x : V) (v vl vu : Value) (lo hi : Option Int) (sl : Addr) (Q : VK), Inv X pins σ H s → RelV x v → s.heap.IsSliceOf sl vl vu .none → IsPart vl lo → IsPart vu hi → r x lo hi H Q →
    ∃ T id, typeLookup (.type T) "__getitem__" = pure (some (.builtin id)) ∧ s.TypeIs v T ∧ wpAny (model X.prog X.w) X.A (getItem v (.ref sl)) (EP X pins σ Q) X.xe s
theorem SlR.or {r r' : V → Option Int → Option Int → Hp → VK → Prop} (h : SlR X r) (h' : SlR X r') : SlR X (fun x lo hi H Q => r x lo hi H Q ∨ r' x lo hi H Q) := by
  intro pins s σ H x v vl vu lo hi sl Q I rx hs pl pu q
  rcases q with q | q
  · exact h pins s σ H x v vl vu lo hi sl Q I rx hs pl pu q
  · exact h' pins s σ H x v vl vu lo hi sl Q I rx hs pl pu q
def tSl (r : V → Option Int → Option Int → Hp → VK → Prop) (te : TE) (tl th : TO) : TE := fun σ H Q => te σ H fun x H1 => tl σ H1 fun l H2 => th σ H2 fun u H3 => r x l u H3 Q
/-- a[lo:hi], any a -/
theorem pe_slice {r : V → Option Int → Option Int → Hp → VK → Prop} (hr : SlR X r) (he : PE X e te) (hl : PO X lo tl) (hu : PO X hi th) : PE X (.Subscript e (.Slice lo hi none p2) pos) (tSl r te tl th) := by
  intro pins s σ H Q I h
  refine Subscript_ (thn (he pins s σ H _ I h) fun v s1 ⟨x, H1, I1, r1, q1⟩ => ?_)
  refine wpAny_Slice (thn (hl pins s1 σ H1 _ I1 q1) fun vl s2 ⟨l, H2, I2, pl, q2⟩ => thn (hu pins s2 σ H2 _ I2 q2) fun vu s3 ⟨u, H3, I3, pu, q3⟩ => ?_)
  rw [evalPart_none]
  refine wpAny_pure ?_
  have I4 : Inv X pins σ H3 { s3 with heap := s3.heap.push { cls := .type "slice", data := .fields #[vl, vu, .none] } } := I3.kept (t' := s3.toks) fun b ob q => Heap.get?_push_of_some _ q
  obtain ⟨T, id, hT, ht, hg⟩ := hr pins { s3 with heap := s3.heap.push { cls := .type "slice", data := .fields #[vl, vu, .none] } } σ H3 x v vl vu l u s3.heap.objs.size Q I4 r1 (Heap.IsSliceOf.new ..) pl pu q3
  show wpAny (model X.prog X.w) X.A (subscriptTail e (.Slice lo hi none p2) v (.ref s3.heap.objs.size)) (EP X pins σ Q) X.xe { s3 with heap := s3.heap.push { cls := .type "slice", data := .fields #[vl, vu, .none] } }
  exact tail_any (ops := [.ref s3.heap.objs.size, v]) ht hT hg (by with_unfolding_all rfl)

/-- the items of xs[lo:hi] -/
def cutV (xs : List V) (lo hi : Option Int) : List V := (xs.drop (HT.sIx xs.length 0 lo)).take (HT.sIx xs.length xs.length hi - HT.sIx xs.length 0 lo)
theorem cutV_length (xs : List V) (lo hi : Option Int) : (cutV xs lo hi).length ≤ xs.length := by
  unfold cutV
  rw [List.length_take, List.length_drop]
  omega
/-! ### t < u, t + u -/
end
end L2

namespace L2
open PySem PySem.Spec PyProof.Rows

/-! ### places -/
/-- the place that an index of any sign means -/
def ixN (n : Nat) (i : Int) : Option Nat := if 0 ≤ i then (if i < n then some i.toNat else none) else if -(n : Int) ≤ i then some (i + n).toNat else none
def atI {α : Type} (xs : List α) (i : Int) : Option α := (ixN xs.length i).bind fun j => xs[j]?
theorem ixN_seq {n : Nat} {i : Int} {j : Nat} (h : ixN n i = some j) : seqIndex? i n = some j ∧ j < n ∧ -(n : Int) ≤ i ∧ i < n := by
  unfold ixN at h
  by_cases h0 : 0 ≤ i
  · rw [if_pos h0] at h
    by_cases h1 : i < n
    · rw [if_pos h1] at h
      have e : i.toNat = j := Option.some.inj h
      exact ⟨by rw [seqIndex_of h0 h1, e], by omega, by omega, h1⟩
    · rw [if_neg h1] at h; cases h
  · rw [if_neg h0] at h
    by_cases h1 : -(n : Int) ≤ i
    · rw [if_pos h1] at h
      have e : (i + n).toNat = j := Option.some.inj h
      exact ⟨by rw [seqIndex_neg (by omega) h1, e], by omega, h1, by omega⟩
    · rw [if_neg h1] at h; cases h
theorem atI_get {α : Type} {xs : List α} {i : Int} {v : α} (h : atI xs i = some v) : ∃ j, seqIndex? i xs.length = some j ∧ xs[j]? = some v ∧ j < xs.length ∧ -(xs.length : Int) ≤ i ∧ i < xs.length := by
  unfold atI at h
  cases e : ixN xs.length i with
  | none => rw [e] at h; cases h
  | some j =>
    rw [e] at h
    obtain ⟨h1, h2, h3, h4⟩ := ixN_seq e
    exact ⟨j, h1, h, h2, h3, h4⟩
theorem atI_nat {α : Type} {xs : List α} {j : Nat} {v : α} (h : xs[j]? = some v) : atI xs (j : Int) = some v := by
  have hj : j < xs.length := (List.getElem?_eq_some_iff.mp h).1
  have e : ixN xs.length (j : Int) = some j := by
    unfold ixN
    rw [if_pos (by omega), if_pos (by omega)]; simp
  unfold atI; rw [e]; exact h
/-! ### what may be subscripted -/
/-- what stands as an index of a plain subscript -/
def PlainIx (b : Expr) : Prop := ∀ o i, subscripted b false o i = operate [o, i] (getItem o i)
/-- a subscript by values -/
def IxR (X : Cx) (r : R2) : Prop :=
  ∀ (value slice : Expr) (pins : List (Addr × Obj)) (s : Shared) (σ : St) (H : Hp) (x y : V) (v u : Value) (Q : VK), Inv X pins σ H s → RelV x v → RelV y u → r x y H Q →
    subscripted slice false v u = operate [v, u] (getItem v u) → wpAny (model X.prog X.w) X.A (subscriptTail value slice v u) (EP X pins σ Q) X.xe s
/-- a call of a builtin's method by values: the receiver, the arguments -/
def MtR (X : Cx) (id : String) (r : V → List V → Hp → VK → Prop) : Prop :=
  ∀ (pins : List (Addr × Obj)) (s : Shared) (σ : St) (H : Hp) (x : V) (xs : List V) (v : Value) (us : List Value) (Q : VK), Inv X pins σ H s → RelV x v → Vals xs us → r x xs H Q →
    wpAny (model X.prog X.w) X.A (call (.builtin id) (v :: us)) (EP X pins σ Q) X.xe s
section
variable {X : Cx} {a b : Expr} {ta tb : TE} {pos : Pos}
theorem IxR.or {r r' : R2} (h : IxR X r) (h' : IxR X r') : IxR X (fun x y H Q => r x y H Q ∨ r' x y H Q) := by
  intro value slice pins s σ H x y v u Q I rx ry q hs
  rcases q with q | q
  · exact h value slice pins s σ H x y v u Q I rx ry q hs
  · exact h' value slice pins s σ H x y v u Q I rx ry q hs
theorem MtR.or {id : String} {r r' : V → List V → Hp → VK → Prop} (h : MtR X id r) (h' : MtR X id r') : MtR X id (fun x xs H Q => r x xs H Q ∨ r' x xs H Q) := by
  intro pins s σ H x xs v us Q I rx rs q
  rcases q with q | q
  · exact h pins s σ H x xs v us Q I rx rs q
  · exact h' pins s σ H x xs v us Q I rx rs q
/-- a[b] -/
theorem pe_ix {r : R2} (hr : IxR X r) (ha : PE X a ta) (hb : PE X b tb) (hs : PlainIx b) : PE X (.Subscript a b pos) (tOp r ta tb) := by
  intro pins s σ H Q I h
  exact Subscript_ (binT ha hb I h fun v u s2 x y H2 I2 rx ry q => hr a b pins s2 σ H2 x y v u Q I2 rx ry q (hs _ _))

def rIxL (K : PySem.W.Frag) : R2 := fun x y H Q => ∃ p xs i v, x = .ref p ∧ y = .int i ∧ SqL K H p xs ∧ atI xs i = some v ∧ Q v H
def rIxS : R2 := fun x y H Q => ∃ z i c, x = .str z ∧ y = .int i ∧ z.length ≤ sizeLine ∧ atI z.cps.toList i = some c ∧ Q (.str ⟨#[c]⟩) H
theorem ix_list : IxR X (rIxL X.K) := by
  intro value slice pins s σ H x y v u Q I rx ry h hs
  obtain ⟨p, xs, i, z, rfl, rfl, hq, he, q⟩ := h
  cases rx
  obtain ⟨t, rfl⟩ := ry
  obtain ⟨its, r, pl, hz⟩ := I.list hq
  obtain ⟨j, h1, h2, h3, h4, h5⟩ := atI_get he
  obtain ⟨w, ew, rw'⟩ := r.get h2
  have hl := r.length
  have hn := line63
  have fin : EP X pins σ Q w s := ⟨z, H, I, rw', q⟩
  by_cases h0 : 0 ≤ i
  · have hj : i.toNat = j := by
      rw [seqIndex_of h0 h5] at h1
      exact Option.some.inj h1
    exact item_listR pl.isList h0 (by omega) (by rw [hj]; simpa using ew) fin hs
  · have hj : (i + (its.toArray.size : Int)).toNat = j := by
      rw [seqIndex_neg (by omega) h4] at h1
      rw [List.size_toArray, ← hl]
      exact Option.some.inj h1
    exact subscriptTail_builtinR (x := w) pl.isList.typeIs slot_list_getitem.lookup
      (wpAny_getItem_list_neg (Q := fun r s' => r = w ∧ EP X pins σ Q r s') pl.isList (by omega) (by rw [List.size_toArray] <;> omega) (by omega) (by rw [hj]; simpa using ew) ⟨rfl, fin⟩) hs
theorem ix_str : IxR X rIxS := by
  intro value slice pins s σ H x y v u Q I rx ry h hs
  obtain ⟨z, i, c, rfl, rfl, hz, he, q⟩ := h
  obtain ⟨t, rfl⟩ := rx
  obtain ⟨t', rfl⟩ := ry
  obtain ⟨j, h1, h2, h3, h4, h5⟩ := atI_get he
  have hl : z.cps.toList.length = z.length := by simp [Str.length]
  rw [hl] at h1 h4 h5
  have hn := line63
  exact tail_any (typeIs_str s z t) slot_str_getitem.lookup (getItem_str (c := c) (by
    have e1 : decide (i < -(2 ^ 63 : Int)) = false := decide_eq_false (by omega)
    have e2 : decide (i ≥ 2 ^ 63) = false := decide_eq_false (by omega)
    rw [e1, e2, Bool.or_false]) (by rw [h1]; simpa using h2) ⟨.str ⟨#[c]⟩, H, I.tok _, ⟨_, rfl⟩, q⟩) hs
/-! ### xs[i] = v, any sign -/
theorem Inv.lst {pins : List (Addr × Obj)} {σ : St} {H : Hp} {s : Shared} {p : Addr} {xs : List V} (I : Inv X pins σ H s) (h : H p = some (.lst xs)) :
    ∃ (its : List Value) (n : Nat), Vals xs its ∧ s.heap.get? p = some { cls := .type "list", data := .seq its.toArray n } ∧ xs.length ≤ sizeLine := by
  obtain ⟨z, its, n, r, e⟩ := I.hok p _ h
  exact ⟨its, n, r, e, z⟩
/-! ### slices -/
theorem slice_bounds (lo hi : Option Int) (n : Nat) : (sliceBounds lo hi none n).1 = ((HT.sIx n 0 lo : Nat) : Int) ∧ (sliceBounds lo hi none n).2.1 = ((HT.sIx n n hi : Nat) : Int) ∧ (sliceBounds lo hi none n).2.2 = 1 := by
  refine ⟨?_, ?_, rfl⟩
  · cases lo with
    | none => simp [sliceBounds, HT.sIx]
    | some i =>
      simp only [sliceBounds, HT.sIx, Option.getD_none, show (1 : Int) > 0 by decide, if_true]
      by_cases h : i < 0
      · simp only [h, if_true] <;> omega
      · simp only [h, if_false] <;> omega
  · cases hi with
    | none => simp [sliceBounds, HT.sIx]
    | some i =>
      simp only [sliceBounds, HT.sIx, Option.getD_none, show (1 : Int) > 0 by decide, if_true]
      by_cases h : i < 0
      · simp only [h, if_true] <;> omega
      · simp only [h, if_false] <;> omega
theorem slicePick_cut (its : List Value) (lo hi : Option Int) : slicePick its.toArray lo hi none = ((its.drop (HT.sIx its.length 0 lo)).take (HT.sIx its.length its.length hi - HT.sIx its.length 0 lo)).toArray := by
  obtain ⟨h1, h2, h3⟩ := slice_bounds lo hi its.toArray.size
  unfold slicePick
  rw [h1, h2, h3]
  simp only [sliceRange_one, pick_run, List.size_toArray] <;> rfl
/-- xs[lo:hi] of a list: a new list -/
def rSlL (K : PySem.W.Frag) : V → Option Int → Option Int → Hp → VK → Prop := fun x lo hi H Q => ∃ a xs, x = .ref a ∧ SqL K H a xs ∧ ∀ p, H p = none → Q (.ref p) (upd H p (.lst (cutV xs lo hi)))
theorem sl_list : SlR X (rSlL X.K) := by
  intro pins s σ H x v vl vu lo hi sl Q I rx hs pl pu h
  obtain ⟨a, xs, rfl, hx, q⟩ := h
  cases rx
  obtain ⟨its, r, ht, hz⟩ := I.list hx
  have hlen := r.length
  refine ⟨"list", _, slot_list_getitem.lookup, ht.isList.typeIs, ?_⟩
  refine wpAny_getItem_list_slice ht.isList hs pl pu .none (by simp) ?_ (by rw [List.size_toArray] <;> omega)
  rw [slicePick_cut, ← hlen]
  refine ⟨.ref s.heap.objs.size, _, I.laid (t' := s.toks) (o := .lst (cutV xs lo hi)) (fun b ob q => Heap.get?_push_of_some _ q) (Nat.le_refl _) ?_, rfl, q _ (I.hok.fresh (Nat.le_refl _))⟩
  exact ⟨Nat.le_trans (cutV_length xs lo hi) hz, _, 0, (r.drop (HT.sIx xs.length 0 lo)).take (HT.sIx xs.length xs.length hi - HT.sIx xs.length 0 lo), Heap.get?_push_size _ rfl⟩

/-! ### in, not in: flat items -/
def flatV : V → Bool
  | .non => true
  | .bl _ => true
  | .int _ => true
  | .str _ => true
  | _ => false
/-- == of flat values -/
def eqV : V → V → Bool
  | .non, .non => true
  | .bl a, .bl b => a == b
  | .bl a, .int b => (if a then 1 else 0) == b
  | .int a, .bl b => a == (if b then 1 else 0)
  | .int a, .int b => a == b
  | .str a, .str b => a == b
  | _, _ => false
theorem eqAt_V {A : Around} {s : Shared} {y x : V} {u v : Value} (ry : RelV y u) (rx : RelV x v) (fy : flatV y = true) (fx : flatV x = true) : SeqAt.EqAt A s u v (eqV y x) := by
  cases y with
  | non =>
    cases ry
    cases x with
    | non => cases rx; exact SeqAt.EqAt.same _
    | bl b => cases rx; exact SeqAt.EqAt.none_bool b
    | int b => obtain ⟨t, rfl⟩ := rx; exact SeqAt.EqAt.none_int b t
    | str b => obtain ⟨t, rfl⟩ := rx; exact SeqAt.EqAt.none_str b t
    | _ => exact absurd (show false = true from fx) Bool.false_ne_true
  | bl a =>
    cases ry
    cases x with
    | non => cases rx; exact SeqAt.EqAt.bool_none a
    | bl b => cases rx; exact SeqAt.EqAt.bool_bool a b
    | int b => obtain ⟨t, rfl⟩ := rx; exact SeqAt.EqAt.bool_int a b t
    | str b => obtain ⟨t, rfl⟩ := rx; exact SeqAt.EqAt.bool_str a b t
    | _ => exact absurd (show false = true from fx) Bool.false_ne_true
  | int a =>
    obtain ⟨t', rfl⟩ := ry
    cases x with
    | non => cases rx; exact SeqAt.EqAt.int_none a t'
    | bl b => cases rx; exact SeqAt.EqAt.int_bool a t' b
    | int b => obtain ⟨t, rfl⟩ := rx; exact SeqAt.EqAt.int_int a t' b t
    | str b => obtain ⟨t, rfl⟩ := rx; exact SeqAt.EqAt.int_str a t' b t
    | _ => exact absurd (show false = true from fx) Bool.false_ne_true
  | str a =>
    obtain ⟨t', rfl⟩ := ry
    cases x with
    | non => cases rx; exact SeqAt.EqAt.str_none a t'
    | bl b => cases rx; exact SeqAt.EqAt.str_bool a t' b
    | int b => obtain ⟨t, rfl⟩ := rx; exact SeqAt.EqAt.str_int a t' b t
    | str b => obtain ⟨t, rfl⟩ := rx; exact SeqAt.EqAt.str_str a t' b t
    | _ => exact absurd (show false = true from fx) Bool.false_ne_true
  | _ => exact absurd (show false = true from fy) Bool.false_ne_true
/-! ### len, list(x), tuple(x) of any list or tuple that is read -/
theorem call_len_seq : CallR X (.builtin "len") (fun xs H Q => ∃ p ys, xs = [.ref p] ∧ (SqL X.K H p ys ∨ SqT X.K H p ys) ∧ Q (.int ys.length) H) := by
  intro pins s σ H xs us Q I r h
  obtain ⟨p, ys, rfl, hq, q⟩ := h
  obtain ⟨u, rfl, rx⟩ := vals1 r
  cases rx
  have hn := line63
  rcases hq with hq | hq
  · obtain ⟨its, r', pl, hz⟩ := I.list hq
    have hlen := r'.length
    exact Calls.call_len_list pl.isList (by simp only [List.size_toArray] <;> omega) ⟨.int ys.length, H, I.tok _, ⟨s.toks + 1, by rw [List.size_toArray, hlen]⟩, q⟩
  · obtain ⟨its, r', pl, hz⟩ := I.tuple hq
    have hlen := r'.length
    exact len_tuple pl (by simp only [List.size_toArray] <;> omega) ⟨.int ys.length, H, I.tok _, ⟨s.toks + 1, by rw [List.size_toArray, hlen]⟩, q⟩
theorem call_len_str : CallR X (.builtin "len") (fun xs H Q => ∃ z, xs = [.str z] ∧ z.length ≤ sizeLine ∧ Q (.int z.length) H) := by
  intro pins s σ H xs us Q I r h
  obtain ⟨z, rfl, hz, q⟩ := h
  obtain ⟨u, rfl, t, rfl⟩ := vals1 r
  have hn := line63
  exact len_str (by omega) ⟨.int z.length, H, I.tok _, ⟨_, rfl⟩, q⟩
theorem CallR.or {f : Value} {r r' : List V → Hp → VK → Prop} (h : CallR X f r) (h' : CallR X f r') : CallR X f (fun xs H Q => r xs H Q ∨ r' xs H Q) := by
  intro pins s σ H xs us Q I rs q
  rcases q with q | q
  · exact h pins s σ H xs us Q I rs q
  · exact h' pins s σ H xs us Q I rs q
theorem call_list_of : CallR X (.type "list") (fun xs H Q => ∃ p ys, xs = [.ref p] ∧ (SqL X.K H p ys ∨ SqT X.K H p ys) ∧ ∀ l, H l = none → Q (.ref l) (upd H l (.lst ys))) := by
  intro pins s σ H xs us Q I r h
  obtain ⟨p, ys, rfl, hq, q⟩ := h
  obtain ⟨u, rfl, rx⟩ := vals1 r
  cases rx
  have fin : ∀ (its : List Value), Vals ys its → ys.length ≤ sizeLine → ∀ (h' : Heap) (c' : Nat), (∀ b o', s.heap.get? b = some o' → h'.get? b = some o') →
      h'.get? s.heap.objs.size = some { cls := .type "list", dict := none, data := .seq its.toArray c', slots := #[] } → EP X pins σ Q (.ref s.heap.objs.size) { s with heap := h' } := fun its r' hz h' c' kp e =>
    ⟨.ref s.heap.objs.size, _, I.laid (t' := s.toks) kp (Nat.le_refl _) (show ObjOk X.prog X.w _ h' _ (.lst ys) from ⟨hz, its, c', r', e⟩), rfl, q _ (I.hok.fresh (Nat.le_refl _))⟩
  rcases hq with hq | hq
  · obtain ⟨its, r', pl, hz⟩ := I.list hq
    have hlen := r'.length
    obtain ⟨o, ho, hc, n, hd⟩ := pl.isList
    exact call_list_seq p (.inl rfl) ho hc hd (fun h' c' kp e => fin its r' hz h' c' kp e) (by simp only [List.size_toArray] <;> omega)
  · obtain ⟨its, r', pl, hz⟩ := I.tuple hq
    have hlen := r'.length
    obtain ⟨o, ho, hc, n, hd⟩ := pl
    exact call_list_seq p (.inr rfl) ho hc hd (fun h' c' kp e => fin its r' hz h' c' kp e) (by simp only [List.size_toArray] <;> omega)
theorem call_tuple_of : CallR X (.type "tuple") (fun xs H Q => ∃ p ys, xs = [.ref p] ∧ ((SqL X.K H p ys ∧ ∀ l, H l = none → Q (.ref l) (upd H l (.tup ys))) ∨ (SqT X.K H p ys ∧ Q (.ref p) H))) := by
  intro pins s σ H xs us Q I r h
  obtain ⟨p, ys, rfl, h⟩ := h
  obtain ⟨u, rfl, rx⟩ := vals1 r
  cases rx
  rcases h with ⟨hq, q⟩ | ⟨hq, q⟩
  · obtain ⟨its, r', pl, hz⟩ := I.list hq
    have hlen := r'.length
    refine call_tuple_list pl.isList (fun h' kp => ?_) (by simp only [List.size_toArray] <;> omega)
    have I1 : Inv X pins σ H { s with heap := h' } := I.kept (t' := s.toks) kp
    have I2 : Inv X pins σ (upd H h'.objs.size (.tup ys)) { s with heap := h'.push { cls := .type "tuple", data := .seq its.toArray } } :=
      I1.laid (t' := s.toks) (fun b o e => Heap.get?_push_of_some _ e) (Nat.le_refl _) (show ObjOk X.prog X.w _ _ _ (.tup ys) from ⟨hz, its, r', IsTup.new _ _⟩)
    exact ⟨.ref h'.objs.size, _, I2, rfl, q _ (I1.hok.fresh (Nat.le_refl _))⟩
  · obtain ⟨its, r', pl, hz⟩ := I.tuple hq
    exact call_tuple_same pl ⟨.ref p, H, I, rfl, q⟩

/-! ### the call of a builtin's method: o.m(..) -/
/-- the value is of that builtin type -/
def tyV (K : PySem.W.Frag) (T : String) (x : V) (H : Hp) : Prop := match x with
  | .str _ => T = "str"
  | .int _ => T = "int"
  | .ref p => (T = "list" ∧ ∃ xs, SqL K H p xs) ∨ (T = "tuple" ∧ ∃ o, K.lookup p = some o ∧ o.cls = .type "tuple" ∧ o.dict = none) ∨
      (T = "dict" ∧ ((∃ kvs, H p = some (.dK kvs)) ∨ ∃ kvs, H p = some (.dT kvs))) ∨ (T = "set" ∧ ∃ S n, H p = some (.set S n))
  | _ => False
theorem tyV_is {pins : List (Addr × Obj)} {σ : St} {H : Hp} {s : Shared} {T : String} {x : V} {v : Value} (I : Inv X pins σ H s) (r : RelV x v) (ty : tyV X.K T x H) :
    s.TypeIs v T ∧ ∀ a, v = .ref a → ∃ ob, s.heap.get? a = some ob ∧ ob.dict = none := by
  cases x with
  | str z =>
    obtain ⟨t, rfl⟩ := r
    cases (show T = "str" from ty)
    exact ⟨typeIs_str s z t, fun _ e => nomatch e⟩
  | int i =>
    obtain ⟨t, rfl⟩ := r
    cases (show T = "int" from ty)
    exact ⟨typeIs_int s i t, fun _ e => nomatch e⟩
  | ref p =>
    cases r
    rcases ty with ⟨rfl, xs, hq⟩ | ⟨rfl, o, hk, hc, hd⟩ | ⟨rfl, hk⟩ | ⟨rfl, S, n, hk⟩
    · obtain ⟨its, _, pl, _⟩ := I.list hq
      refine ⟨pl.isList.typeIs, fun a e => ?_⟩
      cases e
      obtain ⟨o, n, e, c, hd, _⟩ := pl
      exact ⟨o, e, hd⟩
    · refine ⟨⟨o, I.kIn p o hk, hc⟩, fun a e => ?_⟩
      cases e
      exact ⟨o, I.kIn _ o hk, hd⟩
    · have z : ∃ o, s.heap.get? p = some o ∧ o.ExactDict := by
        rcases hk with ⟨kvs, hk⟩ | ⟨kvs, hk⟩
        · obtain ⟨_, _, _, _, o, _, _, e, ex, _⟩ := I.hok p _ hk
          exact ⟨o, e, ex⟩
        · obtain ⟨_, _, _, _, o, _, _, e, ex, _⟩ := I.hok p _ hk
          exact ⟨o, e, ex⟩
      obtain ⟨o, e, ex⟩ := z
      refine ⟨⟨o, e, ex.1⟩, fun a e2 => ?_⟩
      cases e2
      exact ⟨o, e, ex.2.1⟩
    · obtain ⟨o, _, _, _, e, ex, _⟩ := I.hok p _ hk
      refine ⟨⟨o, e, ex.1⟩, fun a e2 => ?_⟩
      cases e2
      exact ⟨o, e, ex.2.1⟩
  | _ => exact False.elim ty
def tBM (K : PySem.W.Frag) (T : String) (r : V → List V → Hp → VK → Prop) (to : TE) (t : TA) : TE := fun σ H Q => to σ H fun x H1 => tyV K T x H1 ∧ t σ H1 fun xs H2 => r x xs H2 Q
variable {o e : Expr} {es : List Expr} {to : TE} {t : TA} {name : Str} {apos cpos : Pos} {T id : String} {r : V → List V → Hp → VK → Prop}
theorem pe_bm (pa : PlainAttrs T) (slot : Slot T name id) (hty : typeOf (.builtin id) = pure (.type "method_descriptor")) (hm : MtR X id r) (ho : PE X o to) (ha : PA X (e :: es) t)
    (hbase : attributeBase o name X.env (eval o X.env) = eval o X.env := by rfl)
    (hfew : ((backTo cpos (starEach (e :: es) X.env)).all (fun x => !x.1) && (backToKw cpos (keywordEach [] X.env)).all (fun x => x.1.isSome)
      && decide ((e :: es).length + ([] : List Keyword).length + (if ([] : List Keyword).isEmpty then 0 else 1) < 30)) = true := by rfl)
    (hline : (apos.endLine == cpos.line) = true := by rfl) (hs : starEach (e :: es) X.env = (false, eval e X.env) :: starEach es X.env := by rfl) (hplain : (backTo cpos (starEach es X.env)).any (·.1) = false := by rfl) :
    PE X (.Call (.Attribute o name apos) (e :: es) [] cpos) (tBM X.K T r to t) := by
  intro pins s σ H Q I h
  refine wpAny_Call_method_late hbase hfew hline rfl (thn (ho pins s σ H _ I h) fun v s1 ⟨x, H1, I1, r1, ty, q1⟩ => ?_)
  obtain ⟨h1, h2⟩ := tyV_is I1 r1 ty
  refine ⟨T, id, pa, slot, hty, h1, h2, ?_⟩
  have hA := ha cpos pins s1 σ H1 _ I1 q1
  rw [hs] at hA ⊢
  refine Calls.callWith_builtin (by show (false || (backTo cpos (starEach es X.env)).any (·.1)) = false; rw [hplain] <;> rfl) (Calls.evalArgs_plain ?_)
  exact thn hA fun us s2 ⟨vs, H2, I2, r2, q2⟩ => hm pins s2 σ H2 x vs v us Q I2 r1 r2 q2
/- xs.append(e), list.index on a module's tuple .. are MtR facts of 06m -/
end
end L2

namespace L2
open PySem PySem.Spec PyProof.Rows

def MtM (X : Cx) (id : String) (r : V → List V → Hp → VK → Prop) : Prop :=
  ∀ (pins : List (Addr × Obj)) (s : Shared) (σ : St) (H : Hp) (x : V) (xs : List V) (v : Value) (us : List Value) (Q : VK), Inv X pins σ H s → RelV x v → Vals xs us → r x xs H Q →
    wpAny (model X.prog X.w) X.A (call (.builtin id) (v :: us)) (EP X pins σ Q) X.xe s

/-! ### lists of values -/
theorem Vals.one : ∀ {x : V} {us : List Value}, Vals [x] us → ∃ u, us = [u] ∧ RelV x u
  | _, _, .cons r .nil => ⟨_, rfl, r⟩
theorem Vals.two : ∀ {x y : V} {us : List Value}, Vals [x, y] us → ∃ u v, us = [u, v] ∧ RelV x u ∧ RelV y v
  | _, _, _, .cons r (.cons q .nil) => ⟨_, _, rfl, r, q⟩
theorem Vals.zero : ∀ {us : List Value}, Vals [] us → us = []
  | _, .nil => rfl
theorem Vals.rep {xs : List V} {us : List Value} (h : Vals xs us) : ∀ k : Nat, Vals (List.replicate k xs).flatten (List.replicate k us).flatten
  | 0 => .nil
  | k + 1 => by
    rw [List.replicate_succ, List.replicate_succ, List.flatten_cons, List.flatten_cons]
    exact Vals.append h (Vals.rep h k)
theorem foldl_rep (its : List Value) : ∀ (k : Nat) (acc : List Value),
    List.foldl (fun x1 x2 => x1 ++ x2) acc.toArray (List.replicate k its.toArray) = (acc ++ (List.replicate k its).flatten).toArray
  | 0, acc => by simp
  | k + 1, acc => by
    have e : acc.toArray ++ its.toArray = (acc ++ its).toArray := by simp
    have e2 : (acc ++ its) ++ (List.replicate k its).flatten = acc ++ (List.replicate (k + 1) its).flatten := by
      rw [List.replicate_succ, List.flatten_cons, List.append_assoc]
    rw [← e2, ← foldl_rep its k (acc ++ its), ← e, List.replicate_succ, List.foldl_cons]

section
variable {X : Cx} {pins : List (Addr × Obj)} {σ : St} {H : Hp} {s : Shared} {l b : Addr} {xs ys zs : List V}

/-! ### the two steps: a tracked list is rewritten, a new list is laid -/
theorem Inv.lset {its its' : List Value} {n : Nat} {f : Array Value → Array Value} {t' : Nat} (I : Inv X pins σ H s) (hH : H l = some (.lst xs))
    (e : s.heap.get? l = some { cls := .type "list", data := .seq its.toArray n }) (hf : f its.toArray = its'.toArray) (hv : Vals ys its') (hz : ys.length ≤ sizeLine) :
    Inv X pins σ (upd H l (.lst ys)) { s with heap := s.heap.update l (Obj.mapSeq f), toks := t' } := by
  have q := PySem.IsL.update e f
  rw [hf] at q
  refine I.write (x := l) (e := l) (by rw [hH]; exact trivial) (.inl rfl) (fun b' u hb hu => (Heap.get?_update_other s.heap (Obj.mapSeq f) (Ne.symm hb)).trans hu) ⟨_, q⟩ ?_
  exact ⟨hz, its', _, hv, q⟩
theorem Inv.lnew {its : List Value} {t' : Nat} (I : Inv X pins σ H s) (hv : Vals ys its) (hz : ys.length ≤ sizeLine) :
    Inv X pins σ (upd H s.heap.objs.size (.lst ys)) { s with heap := s.heap.push { cls := .type "list", data := .seq its.toArray }, toks := t' } :=
  I.laid (fun _ _ q => Heap.get?_push_of_some _ q) (Nat.le_refl _) ⟨hz, its, 0, hv, Heap.get?_push_size _ rfl⟩
theorem Inv.fresh (I : Inv X pins σ H s) : H s.heap.objs.size = none := I.hok.fresh (Nat.le_refl _)
theorem Inv.lstM (I : Inv X pins σ H s) (hH : H l = some (.lst xs)) : xs.length ≤ sizeLine ∧ ∃ (its : List Value) (n : Nat), Vals xs its ∧ xs.length = its.length ∧ s.heap.get? l = some { cls := .type "list", data := .seq its.toArray n } := by
  obtain ⟨z, its, n, r, e⟩ := I.hok l _ hH
  exact ⟨z, its, n, r, r.length, e⟩

theorem notLongL {n : Nat} (h : n ≤ sizeLine) : Builtin.List.listTooLong n = false := by
  unfold Builtin.List.listTooLong
  exact decide_eq_false (by omega)
end

section
variable {X : Cx}

/-! ### methods -/
def rAppend : V → List V → Hp → VK → Prop := fun x vs H Q => ∃ l xs y, x = .ref l ∧ vs = [y] ∧ H l = some (.lst xs) ∧ xs.length < sizeLine ∧ Q .non (upd H l (.lst (xs ++ [y])))
theorem mt_append : MtM X "list.append" rAppend := by
  intro pins s σ H x vs v us Q I rx rv h
  obtain ⟨l, xs, y, rfl, rfl, hH, hz, q⟩ := h
  cases rx
  obtain ⟨u, rfl, ru⟩ := rv.one
  obtain ⟨z, its, n, r, hl, e⟩ := I.lstM hH
  refine call_meets F.slot_list_append ⟨_, e, rfl⟩ F.entry_list_append (F.args_list_append_2 _ _) (PySem.list_append l its.toArray n u (by rw [List.size_toArray]; omega)) ⟨e, ?_⟩
  refine ⟨.non, _, I.lset (its' := its ++ [u]) hH e (by simp) (r.append (.cons ru .nil)) ?_, rfl, q⟩
  rw [List.length_append, List.length_singleton]
  omega

/-! ### list + list, list += list, list * int -/
def rCat : R2 := fun x y H Q => ∃ l b xs zs, x = .ref l ∧ y = .ref b ∧ H l = some (.lst xs) ∧ H b = some (.lst zs) ∧ xs.length + zs.length ≤ sizeLine ∧ ∀ p, H p = none → Q (.ref p) (upd H p (.lst (xs ++ zs)))
theorem op_cat : OpR X (binaryOp .Add) rCat := by
  intro pins s σ H x y v u Q I rx ry h
  obtain ⟨l, b, xs, zs, rfl, rfl, hH, hB, hz, q⟩ := h
  cases rx
  cases ry
  obtain ⟨z, its, n, r, hl, e⟩ := I.lstM hH
  obtain ⟨z2, its2, n2, r2, hl2, e2⟩ := I.lstM hB
  refine PySem.P.add_list e e2 ?_ (by rw [List.size_toArray, List.size_toArray]; omega)
  have ea : its.toArray ++ its2.toArray = (its ++ its2).toArray := by simp
  rw [ea]
  exact ⟨.ref _, _, I.lnew (t' := s.toks) (r.append r2) (by rw [List.length_append]; omega), rfl, q _ I.fresh⟩
/-- a list times an int (a negative one is nothing) -/
def rRep : R2 := fun x y H Q => ∃ l k xs, x = .ref l ∧ y = .int k ∧ H l = some (.lst xs) ∧ -(2 ^ 63) ≤ k ∧ k < 2 ^ 63 ∧ xs.length * k.toNat ≤ sizeLine ∧
  ∀ p, H p = none → Q (.ref p) (upd H p (.lst (List.replicate k.toNat xs).flatten))
theorem len_rep {α : Type} (xs : List α) (k : Nat) : (List.replicate k xs).flatten.length = k * xs.length := by
  induction k with
  | zero => simp
  | succ k ih => rw [List.replicate_succ, List.flatten_cons, List.length_append, ih, Nat.succ_mul, Nat.add_comm]
theorem op_rep : OpR X (binaryOp .Mult) rRep := by
  intro pins s σ H x y v u Q I rx ry h
  obtain ⟨l, k, xs, rfl, rfl, hH, h1, h2, hz, q⟩ := h
  cases rx
  obtain ⟨t, rfl⟩ := ry
  obtain ⟨z, its, n, r, hl, e⟩ := I.lstM hH
  have hlen : its.toArray.size * k.toNat ≤ sizeLine := by rw [List.size_toArray, ← hl]; exact hz
  have hcap : ¬ its.toArray.size * k.toNat > (2 ^ 63 - 1) / 8 := by
    have : (sizeLine : Nat) ≤ (2 ^ 63 - 1) / 8 := by decide
    omega
  have hfit : ¬ (!Builtin.List.listFitsIndex k) = true := by
    rw [fitsIndex_both h1 h2]
    exact Bool.false_ne_true
  have hlong : ¬ Builtin.List.listTooLong (its.toArray.size * k.toNat) = true := by
    rw [notLongL hlen]
    exact Bool.false_ne_true
  have hnew : List.foldl (fun x1 x2 => x1 ++ x2) #[] (List.replicate (if its.toArray.isEmpty = true then 0 else k.toNat) its.toArray) = (List.replicate k.toNat its).flatten.toArray := by
    have f0 : ∀ m : Nat, List.foldl (fun x1 x2 => x1 ++ x2) #[] (List.replicate m its.toArray) = (List.replicate m its).flatten.toArray := fun m => by
      have := foldl_rep its m []
      rw [List.nil_append] at this
      exact this
    rw [f0]
    cases its with
    | nil => simp
    | cons a r' => rw [if_neg (by simp)]
  refine wpAny_binaryOp_repeat_ref (T := "list") (U := "int") (by decide) ⟨_, e, rfl⟩ (fun s' => typeIs_int s' k t) noFill_list_mul F.fills_int_mul F.slot_int_rmul repeat_list F.slot_int_index.lookup
    (call_meets F.slot_int_rmul (typeIs_int s k t) F.entry_int_rmul (F.args_int_rmul_2 _ _) (int___rmul___int_list k t l its.toArray n)
      ⟨e, rfl, ⟨_, e, rfl⟩, call_meets F.slot_list_mul ⟨_, e, rfl⟩ F.entry_list_mul (F.args_list_mul_2 _ _) (AutoListH.list___mul___list_int_3 l its.toArray n k t hfit hcap hlong) ⟨e, ?_⟩⟩)
  rw [hnew]
  exact ⟨.ref _, _, I.lnew (t' := s.toks) (r.rep k.toNat) (by rw [len_rep, Nat.mul_comm]; exact hz), rfl, q _ I.fresh⟩

/-! ### del xs[i] -/
end

/-! ### xs[a:b] = ys -/
section
variable {prog : Program} {w : World} {A : Around} {E : Value → Shared → Prop} {s : Shared}
set_option maxRecDepth 100000 in
end

section
variable {X : Cx}
end
end L2

namespace L2
open PySem PySem.Spec PyProof.Rows

/-! ### lists of pairs as tables -/
section
variable {κ : Type} [DecidableEq κ]
def valV (kvs : List (κ × V)) (k : κ) : Option V := (kvs.find? fun kv => decide (kv.1 = k)).map (·.2)
/-- in its place, or at the end -/
def putK (kvs : List (κ × V)) (k : κ) (v : V) : List (κ × V) :=
  if (kvs.any fun kv => decide (kv.1 = k)) = true then kvs.map (fun kv => if kv.1 = k then (kv.1, v) else kv) else kvs ++ [(k, v)]
def dropK (kvs : List (κ × V)) (k : κ) : List (κ × V) := kvs.filter fun kv => decide (kv.1 ≠ k)

theorem valV_pos {p : κ × V} {r : List (κ × V)} {k : κ} (e : p.1 = k) : valV (p :: r) k = some p.2 := by simp [valV, List.find?_cons, e]
theorem valV_neg {p : κ × V} {r : List (κ × V)} {k : κ} (e : ¬ p.1 = k) : valV (p :: r) k = valV r k := by simp [valV, List.find?_cons, e]
theorem RelO.getD {o : Option V} {u : Option Value} {d : V} {d' : Value} (r : RelO o u) (rd : RelV d d') : RelV (o.getD d) (u.getD d') := by
  cases o with
  | none => cases u with
    | none => exact rd
    | some _ => exact (show False from r).elim
  | some _ => cases u with
    | none => exact (show False from r).elim
    | some _ => exact r

/-- raw tables of the same keys -/
theorem KV.val {kvs : List (κ × V)} {vs : List (κ × Value)} (r : KV kvs vs) (k : κ) : RelO (valV kvs k) (valueAt vs k) := by
  unfold KV at r
  induction r with
  | nil => exact True.intro
  | @cons p q ps qs h t ih =>
    obtain ⟨h1, h2⟩ := h
    by_cases e : p.1 = k
    · have e' : q.1 = k := h1.symm.trans e
      have b : valueAt (q :: qs) k = some q.2 := by simp [valueAt, List.find?_cons, e']
      rw [valV_pos e, b]; exact h2
    · have e' : ¬ q.1 = k := fun z => e (h1.trans z)
      have b : valueAt (q :: qs) k = valueAt qs k := by simp [valueAt, List.find?_cons, e']
      rw [valV_neg e, b]; exact ih
theorem KV.any {kvs : List (κ × V)} {vs : List (κ × Value)} (r : KV kvs vs) (k : κ) : (kvs.any fun kv => decide (kv.1 = k)) = vs.any fun kv => decide (kv.1 = k) := by
  unfold KV at r
  induction r with
  | nil => rfl
  | cons h t ih => rw [List.any_cons, List.any_cons, ih, h.1]
theorem KV.drop {kvs : List (κ × V)} {vs : List (κ × Value)} (r : KV kvs vs) (k : κ) : KV (dropK kvs k) (without vs k) := by
  unfold KV at r ⊢
  unfold dropK without
  induction r with
  | nil => exact .nil
  | @cons p q ps qs h t ih =>
    obtain ⟨h1, h2⟩ := h
    rw [List.filter_cons, List.filter_cons]
    by_cases e : p.1 = k
    · have a : ¬ decide (p.1 ≠ k) = true := by simp [e]
      have b : ¬ decide (q.1 ≠ k) = true := by simp [h1.symm.trans e]
      rw [if_neg a, if_neg b]; exact ih
    · have e' : ¬ q.1 = k := fun z => e (h1.trans z)
      have a : decide (p.1 ≠ k) = true := by simp [e]
      have b : decide (q.1 ≠ k) = true := by simp [e']
      rw [if_pos a, if_pos b]; exact .cons ⟨h1, h2⟩ ih
theorem KV.keys {kvs : List (κ × V)} {vs : List (κ × Value)} (r : KV kvs vs) : kvs.map (·.1) = vs.map (·.1) := by
  unfold KV at r
  induction r with
  | nil => rfl
  | cons h t ih => rw [List.map_cons, List.map_cons, ih, h.1]
theorem KV.length {kvs : List (κ × V)} {vs : List (κ × Value)} (r : KV kvs vs) : kvs.length = vs.length := Paired.length r
end


/-! ### a tracked dict, its keys ints and texts or tuples of these -/
/-- raw entries of a dict with tuple keys -/
abbrev KT (H : Hp) : List (List Key × V) → List (List Key × Addr × Value) → Prop := Paired fun p q => p.1 = q.1 ∧ H q.2.1 = some (.tup (p.1.map kV)) ∧ RelV p.2 q.2.2
theorem KT.val {H : Hp} {kvs : List (List Key × V)} {xs : List (List Key × Addr × Value)} (r : KT H kvs xs) (k : List Key) : RelO (valV kvs k) ((atKey xs k).map (·.2)) := by
  induction r with
  | nil => exact True.intro
  | @cons p q ps qs h t ih =>
    obtain ⟨h1, _, h2⟩ := h
    by_cases e : p.1 = k
    · have e' : q.1 = k := h1.symm.trans e
      have b : atKey (q :: qs) k = some q.2 := by simp [atKey, List.find?_cons, e']
      rw [valV_pos e, b]; exact h2
    · have e' : ¬ q.1 = k := fun z => e (h1.trans z)
      have b : atKey (q :: qs) k = atKey qs k := by simp [atKey, List.find?_cons, e']
      rw [valV_neg e, b]; exact ih
theorem KT.keeps {H H' : Hp} {kvs : List (List Key × V)} {xs : List (List Key × Addr × Value)} (r : KT H kvs xs) (ht : ∀ b ys, H b = some (.tup ys) → H' b = some (.tup ys)) : KT H' kvs xs :=
  Paired.mapP r fun _ _ z => ⟨z.1, ht _ _ z.2.1, z.2.2⟩

section
variable {P : Program} {w : World} {H : Hp} {h : Heap} {a : Addr}
end

/-- what the dict at a holds at the key y -/
def DGet (H : Hp) (a : Addr) (y : V) (r : Option V) : Prop :=
  (∃ kvs k, Rd H a (.dK kvs) ∧ y = kV k ∧ r = valV kvs k) ∨ ∃ kvs k b, Rd H a (.dT kvs) ∧ y = .ref b ∧ H b = some (.tup (k.map kV)) ∧ r = valV kvs k
/-- the heap behind a[y] = v -/
def DPut (H : Hp) (a : Addr) (y v : V) (H' : Hp) : Prop :=
  (∃ kvs k, H a = some (.dK kvs) ∧ y = kV k ∧ kvs.length < sizeLine ∧ H' = upd H a (.dK (putK kvs k v))) ∨
  ∃ kvs k b, H a = some (.dT kvs) ∧ y = .ref b ∧ H b = some (.tup (k.map kV)) ∧ kvs.length < sizeLine ∧ H' = upd H a (.dT (putK kvs k v))
theorem DGet.k {H : Hp} {a : Addr} {kvs : List (Key × V)} {k : Key} (e : H a = some (.dK kvs)) : DGet H a (kV k) (valV kvs k) := .inl ⟨kvs, k, .inl e, rfl, rfl⟩
theorem DGet.t {H : Hp} {a b : Addr} {kvs : List (List Key × V)} {k : List Key} (e : H a = some (.dT kvs)) (eb : H b = some (.tup (k.map kV))) : DGet H a (.ref b) (valV kvs k) := .inr ⟨kvs, k, b, .inl e, rfl, eb, rfl⟩
theorem DPut.k {H : Hp} {a : Addr} {kvs : List (Key × V)} {k : Key} {v : V} (e : H a = some (.dK kvs)) (hl : kvs.length < sizeLine) : DPut H a (kV k) v (upd H a (.dK (putK kvs k v))) := .inl ⟨kvs, k, e, rfl, hl, rfl⟩
theorem DPut.t {H : Hp} {a b : Addr} {kvs : List (List Key × V)} {k : List Key} {v : V} (e : H a = some (.dT kvs)) (eb : H b = some (.tup (k.map kV))) (hl : kvs.length < sizeLine) :
    DPut H a (.ref b) v (upd H a (.dT (putK kvs k v))) := .inr ⟨kvs, k, b, e, rfl, eb, hl, rfl⟩


section
variable {X : Cx} {pins : List (Addr × Obj)} {σ : St} {H : Hp} {s : Shared} {a : Addr} {y v : V} {u r : Value} {o : Option V} {A : Around} {E : Value → Shared → Prop}

theorem Inv.big (I : Inv X pins σ H s) : sysModules < s.heap.objs.size := by
  have h : mainGlobals < s.heap.objs.size := (I.mod.glob.keeps I.bk).lt
  exact Nat.lt_trans (by decide) h

end

section
variable {X : Cx} {pins : List (Addr × Obj)} {σ : St} {H : Hp} {s : Shared} {a : Addr} {kvs : List (Key × V)} {k : Key} {u : Value} {A : Around} {E : Value → Shared → Prop}
end


/-! ### readings and rules -/
section
variable {X : Cx} {o i e value : Expr} {pos pos' tpos : Pos} {td ty tv : TE}
end


/-! ### displays -/
theorem dk_empty {P : Program} {w : World} {H : Hp} (h : Heap) (hb : sysModules < h.objs.size) : ObjOk P w H (h.push { cls := .type "dict", data := .dict #[] }) h.objs.size (.dK []) :=
  ⟨Nat.zero_le _, beq_eq_false_iff_ne.mpr (Ne.symm (Nat.ne_of_lt hb)), [], .nil, Heap.DictOf.new h⟩
/-- {}, to be a dict of the kind that is wanted -/
def tDNewK : TE := fun _ H Q => ∀ p, H p = none → Q (.ref p) (upd H p (.dK []))
section
variable {X : Cx} {pos : Pos}
theorem pe_dnewK : PE X (.Dict [] [] pos) tDNewK := fun pins s σ H Q I h =>
  wpAny_Dict_empty ⟨.ref s.heap.objs.size, _, I.laid (a := s.heap.objs.size) (o := .dK []) (t' := s.toks) (fun _ _ q => Heap.get?_push_of_some _ q) (Nat.le_refl _) (dk_empty s.heap I.big), rfl, h _ (I.hok.fresh (Nat.le_refl _))⟩
end

/-! ### methods -/
/-- a method call o.m(e) of a built-in, with one argument: what must be seen of the text -/
structure M1 (X : Cx) (o : Expr) (m : Str) (apos : Pos) (e : Expr) (cpos : Pos) : Prop where
  base : attributeBase o m X.env (eval o X.env) = eval o X.env
  few : ((backTo cpos (starEach [e] X.env)).all (fun x => !x.1) && (backToKw cpos (keywordEach [] X.env)).all (fun x => x.1.isSome)
    && decide (([e] : List Expr).length + ([] : List Keyword).length + (if ([] : List Keyword).isEmpty then 0 else 1) < 30)) = true
  line : (apos.endLine == cpos.line) = true
  trees : backTo cpos (starEach [e] X.env) = [(false, eval e X.env)]
structure M2 (X : Cx) (o : Expr) (m : Str) (apos : Pos) (e f : Expr) (cpos : Pos) : Prop where
  base : attributeBase o m X.env (eval o X.env) = eval o X.env
  few : ((backTo cpos (starEach [e, f] X.env)).all (fun x => !x.1) && (backToKw cpos (keywordEach [] X.env)).all (fun x => x.1.isSome)
    && decide (([e, f] : List Expr).length + ([] : List Keyword).length + (if ([] : List Keyword).isEmpty then 0 else 1) < 30)) = true
  line : (apos.endLine == cpos.line) = true
  trees : backTo cpos (starEach [e, f] X.env) = [(false, eval e X.env), (false, eval f X.env)]

section
variable {X : Cx} {pins : List (Addr × Obj)} {σ : St} {H : Hp} {s : Shared} {a : Addr} {y d : V} {u r : Value} {o : Option V} {A : Around} {E : Value → Shared → Prop}
end

section
variable {X : Cx} {o e f : Expr} {apos cpos : Pos} {td ty tx : TE}
end

/-! ### dict(d): a copy -/
section
variable {X : Cx} {pins : List (Addr × Obj)} {σ : St} {H : Hp} {s : Shared} {a : Addr} {kvs : List (Key × V)} {A : Around} {E : Value → Shared → Prop}
end


section
variable {X : Cx} {pins : List (Addr × Obj)} {σ : St} {H : Hp} {s : Shared} {a : Addr} {y : V} {u : Value} {A : Around} {E : Value → Shared → Prop}
end
end L2


namespace Att
open PySem PySem.W PySem.Calls PyProof.Rows

/-! ### the script -/
theorem ints_of_wellAll {P : Params} {h : Heap} : ∀ (ns : List Int) (vs : List Value), WellAll P h vs (ns.map WData.int) → IntsAre vs ns := by
  intro ns
  induction ns with
  | nil =>
    intro vs w
    rw [List.map_nil] at w
    cases w
    exact .nil
  | cons n ns ih =>
    intro vs w
    rw [List.map_cons] at w
    cases w with
    | cons a b =>
      cases a
      exact .cons _ _ (ih _ b)

theorem script_of {l : OpenLaw} {n : Nat} (hn : l.most = some n) {P : Params} {h : Heap} {args : List WData} {vals : List Value}
    (hpre : l.row.toRowW.claim.pre args = true) (hwl : WellAll P h vals args) :
    ∃ a vs ns, vals = [Value.ref a] ∧ args = [WData.list (ns.map WData.int)] ∧ h.get? a = some { cls := .type "list", data := .seq vs.toArray } ∧ IntsAre vs ns ∧ ns.length ≤ n := by
  have hsh : WShape.hasAll [] args [.list .int] = true := (pre_splitW hpre).1
  have hc : l.pre.holds [] { args := args } = true := (pre_splitW hpre).2
  obtain ⟨d, r, rfl, h1, h2⟩ := hasAllW_cons hsh
  obtain rfl := hasAllW_nil h2
  obtain ⟨xs, rfl, h3⟩ := hasW_list h1
  obtain ⟨ns, rfl⟩ := items_int h3
  have hlen : ns.length ≤ n := by
    unfold OpenLaw.pre at hc
    have h4 : (WTm.not (.lt (.lit (.int (n : Int))) (.len (.arg 0)))).holds [] { args := [.list (ns.map .int)] } = true := by
      have h4 := (holds_andW hc).1
      rw [hn] at h4
      exact h4
    have h5 := condW_of h4 (w_not (w_lt w_lit (w_len_list (w_arg rfl))))
    rw [List.length_map] at h5
    refine Nat.le_of_not_lt fun q => ?_
    have q' : (n : Int) < ((ns.length : Nat) : Int) := by omega
    first
      | (rw [decide_eq_true q'] at h5; exact absurd h5 (by decide))
      | (simp at h5; omega)
  cases hwl with
  | cons w1 w2 =>
    cases w2
    cases w1 with
    | list ho hall => exact ⟨_, _, ns, rfl, rfl, ho, ints_of_wellAll ns _ hall, hlen⟩

theorem post_true (l : OpenLaw) (args : List WData) : l.row.toRowW.claim.post args (.bool true) args = true :=
  postW_of (r := l.row.toRowW) (X := (true == true))
    (show WShape.has [] (.bool true) .bool = true by first | rfl | decide | simp [WShape.has, WShape.arms, WShape.armsAll])
    (show (WTm.eq .res (.lit (.bool true))).value [] { args := args, res := some (.bool true), after := args } = some (.bool (true == true)) from w_eq_bool (w_res rfl) w_lit) rfl

/-! ### the attachment: holds_open's last premise (the goal 'hc' behind k_head) from a wpAny of the law's body -/
/-- the same from a codeAny of the CALL (for a layer whose function contracts speak of calls) -/
theorem attach_call {l : OpenLaw} {n : Nat} {q : Program} {loose : List Str} {XP : (Str → Option Value) → Heap → Prop} {YP : World → Heap → Prop} {d : DefRec}
    (hn : l.most = some n) (hdf : d.params.defaults = [])
    (call : ∀ (w : World) (s₀ s₁ : Shared) (mg mb : Str → Option Value) (fa : Addr) (o : Obj) (pm cd doc : Value) (a : Addr) (vs : List Value) (ns : List Int),
      Ground q loose [] XP w s₀ mg mb s₁.heap → YP w s₁.heap →
      s₁.heap.get? fa = some o → o.data = .func (docDef d.name d.params d.body d.scope pm cd doc) → s₁.heap.CodeRec cd d.name → mg d.name = some (.ref fa) →
      s₁.heap.get? a = some { cls := .type "list", data := .seq vs.toArray } → IntsAre vs ns → ns.length ≤ n → s₁.gens = #[] →
      codeAny (model l.prog w) callerA (.call (.ref fa) ⟨[.ref a], []⟩) (fun r s' => r = .ok (.ret (.bool true)) ∧ OldK s₁.heap s'.heap ∧ s'.os = s₁.os ∧ AllBare s'.gens) s₁) :
    WalkO q loose XP YP l.row.toRowW d [] (fun f vs => PySem.call f vs) := by
  intro w s₀ s₁ mg mb G Y fa o pm cd doc dV kV ho hd hcd hD hmg hg args vals as hpre hlay hrd hwl hlo
  obtain rfl : dV = .none := Dflts.none hD hdf
  obtain rfl : kV = .none := Dflts.noKw hD
  obtain ⟨a, vs, ns, rfl, rfl, hobj, hints, hlen⟩ := script_of hn hpre hwl
  refine enter_call (codeAny_mono (call w s₀ s₁ mg mb fa o pm cd doc a vs ns G Y ho (fd_plain hd) hcd hmg hobj hints hlen hg) fun r s' hq => ?_)
  obtain ⟨rfl, h2, h3, h4⟩ := hq
  exact ⟨.inl ⟨.bool true, .bool true, [], rfl, fun _ => rfl, .bool true, post_true l _, fun _ => ⟨List.Pairwise.nil, fun _ hm => (nomatch hm)⟩⟩, h2, h3, h4⟩

/-! ### rules over ANY heap (no ledger) from facts about the written part K: the library's own take a ledger (News) for what they write -/
section
variable {prog : Program} {w : World} {A : Around} {E : Value → Shared → Prop} {s : Shared} {K : Frag}

/-! the whole heap as the ledger: makes every rule that writes through a ledger a rule over any heap -/
def ledger (h : Heap) (L d : Addr) : List (Addr × Obj) := (List.range h.objs.size).filterMap fun a => if a = L ∨ a = d then none else (h.get? a).map fun o => (a, o)
end
end Att

namespace L2
open PySem PySem.Spec PyProof.Rows

theorem vals_ints : ∀ {vs : List Value} {ns : List Int}, IntsAre vs ns → Vals (ns.map V.int) vs
  | _, _, .nil => .nil
  | _, _, .cons n t h => .cons ⟨t, rfl⟩ (vals_ints h)

/-- nothing is tracked but the script, known to the object (or it is an object of the module) -/
def Only (H : Hp) : Prop := ∀ b, H b = none ∨ ∃ o xs, H b = some (.frz o (.lst xs))

/-- THE HEAD: the law's promise, at the heap behind the top. F, the promise of the law's def, may use that base is part of the heap (so K.In base, base.Ns mainGlobals mg stand in Mod) -/
theorem law_call {P : Program} {w : World} {K : PySem.W.Frag} {mg mb : Str → Option Value} {CX : CXT} {k : Nat} {fa a : Addr} {fd : FuncData} {x : Str} {sp : Sp} {s₁ : Shared} {vs : List Value} {ns : List Int}
    (KX : K.In s₁.heap) (hns : s₁.heap.Ns mainGlobals mg) (hb : s₁.heap.Ns builtinsNs mb) (hbb : ∀ x : Str, x ≠ "__name__" → mb x = bootBuiltins x) (hlim : s₁.heap.NoLimit) (hg : s₁.gens = #[])
    (ha : s₁.heap.get? a = some { cls := .type "list", data := .seq vs.toArray }) (hi : IntsAre vs ns) (hl : ns.length ≤ sizeLine) (hr : Room k callerA)
    (F : ∀ base : Heap, K.In base → base.Ns mainGlobals mg → FnOk P w K mg base CX k fa fd [x] sp) (hbind : ∀ (s : Shared) (u : Value), BindsTo s fd ⟨[u], []⟩ [(x, u)])
    (hsp : ∀ H : Hp, Only H → SqL K H a (ns.map V.int) → sp [.ref a] H (fun v _ => v = .bl true) fun _ _ _ => False)
    (hCX : ∀ H e s', CX [] H s₁ (fun _ _ _ => False) e s' → False) :
    codeAny (model P w) callerA (.call (.ref fa) ⟨[.ref a], []⟩) (fun r s' => r = .ok (.ret (.bool true)) ∧ OldK s₁.heap s'.heap ∧ s'.os = s₁.os ∧ AllBare s'.gens) s₁ := by
  have rv := vals_ints hi
  have lenV := hi.length
  -- from an abstract heap in which nothing but the script may be tracked
  have core : ∀ H : Hp, Only H → SqL K H a (ns.map V.int) → HOk P w H s₁.heap → (∀ b, H b ≠ none → b = a) → (H a ≠ none → K.lookup a = none) →
      codeAny (model P w) callerA (.call (.ref fa) ⟨[.ref a], []⟩) (fun r s' => r = .ok (.ret (.bool true)) ∧ OldK s₁.heap s'.heap ∧ s'.os = s₁.os ∧ AllBare s'.gens) s₁ := by
    intro H hO hS hok hA hK
    have base_of : ∀ {b : Addr} {o : Obj}, s₁.heap.get? b = some o → H b = none → (hidT s₁.heap H).get? b = some o := fun e n => hidT_get e n
    have noA : ∀ {b : Addr} {o : Obj} {es : Array DictEntry} {ep : Nat}, s₁.heap.get? b = some o → o.data = .dict es ep → H b = none := fun {b o es ep} e d => by
      cases q : H b with
      | none => rfl
      | some u =>
        have e' : b = a := hA b (by rw [q]; simp)
        subst e'
        rw [ha] at e; cases e
        have d' : Data.seq vs.toArray _ = Data.dict es ep := d
        cases d'
    have nsK : ∀ {b : Addr} {m : Str → Option Value}, s₁.heap.Ns b m → (hidT s₁.heap H).Ns b m := fun {b m} ⟨o, es, ep, e, d, r⟩ => ⟨o, es, ep, base_of e (noA e d), d, r⟩
    have hKb : K.In (hidT s₁.heap H) := fun b o e => base_of (KX b o e) (by
      cases q : H b with
      | none => rfl
      | some u =>
        have e' : b = a := hA b (by rw [q]; simp)
        subst e'
        rw [hK (by rw [q]; simp)] at e; cases e)
    have hM : Mod K mg (hidT s₁.heap H) := ⟨hKb, nsK hns, ⟨mb, nsK hb, hbb⟩, let ⟨mc, h1, h2⟩ := hlim; ⟨mc, nsK h1, h2⟩⟩
    have e0 : Env0 P w K mg (hidT s₁.heap H) callerA [] s₁ H := ⟨rfl, hM, fun b o e => of_hidT e, Nat.le_of_eq (hidT_size _ _), trivial, fun b hb => absurd (show b ∈ ([] : List Addr) from hb) (by simp), hok, .of_eq hg⟩
    refine codeAny_mono ((F _ hKb (nsK hns)).run callerA [] s₁ H ⟨[.ref a], []⟩ [.ref a] [.ref a] _ _ hr e0 (hbind s₁ (.ref a)) (.cons rfl .nil) (hsp H hO hS)) fun r s' h => ?_
    cases r with
    | error e => exact (hCX H e s' h).elim
    | ok fl =>
      cases fl with
      | next => exact False.elim h
      | brk => exact False.elim h
      | cont => exact False.elim h
      | ret u =>
        obtain ⟨v, H', os, bare, un, hok', r', q⟩ := h
        have q' : v = .bl true := q
        subst q'
        obtain rfl : u = Value.bool true := r'
        refine ⟨rfl, OldK.of_keep fun b o e => ?_, os, bare⟩
        cases q : H b with
        | none => exact un.keep b o e q (by intro z; exact absurd (show b ∈ ([] : List Addr) from z) (by simp)) (by simp)
        | some u =>
          rcases hO b with z | ⟨ob, xs, z⟩
          · rw [q] at z; cases z
          · have z2 := un.frzs b ob _ z
            obtain ⟨e1, _⟩ := hok b _ z
            obtain ⟨e2, _⟩ := hok' b _ z2
            rw [e] at e1; cases e1
            exact e2
  cases hk : K.lookup a with
  | some o =>
    -- the script is one of the module's own objects
    have e := KX a o hk
    rw [ha] at e
    cases e
    refine core (fun _ => none) (fun _ => .inl rfl) (.inr ⟨_, vs.toArray, _, hk, rfl, rfl, rfl, by rw [List.size_toArray, lenV]; exact hl, by simpa using rv⟩) (fun b u z => by have z' : (none : Option HO) = some u := z; cases z') (fun b z => absurd rfl z) fun z => absurd rfl z
  | none =>
    refine core (fun b => if b = a then some (.frz { cls := .type "list", data := .seq vs.toArray } (.lst (ns.map V.int))) else none) (fun b => ?_) (.inl (.inr ⟨{ cls := .type "list", data := .seq vs.toArray }, if_pos rfl⟩)) (fun b u z => ?_) (fun b z => ?_) fun _ => hk
    · by_cases hb : b = a
      · exact .inr ⟨_, _, if_pos hb⟩
      · exact .inl (if_neg hb)
    · by_cases hb : b = a
      · have z' := (if_pos hb).symm.trans z
        cases z'
        subst hb
        exact ⟨ha, by rw [List.length_map]; exact hl, vs, _, rv, ha⟩
      · have z' := (if_neg hb).symm.trans z
        cases z'
    · by_cases hb : b = a
      · exact hb
      · exact absurd (if_neg hb) z
end L2

namespace L2
open PySem PySem.Spec PyProof.Rows

abbrev KOf {K : PySem.W.Frag} {h : Heap} (_ : K.In h) : PySem.W.Frag := K

/-- the goal that k_head leaves (case hc), from the law's promise. F gives the function object fd (K's own) once, then the promise over every base -/
theorem walk_of {l : PySem.W.OpenLaw} {n k : Nat} {q : Program} {loose : List Str} {XP : (Str → Option Value) → Heap → Prop} {YP : World → Heap → Prop} {d : DefRec} {K : Params → PySem.W.Frag} {CX : World → CXT} {sp : World → Sp} {x : Str}
    (hn : l.most = some n) (hn2 : n ≤ sizeLine) (hdf : d.params.defaults = []) (hr : Room k callerA)
    (hY : ∀ (w : World) (h : Heap), YP w h → (K w.params).In h)
    (F : ∀ (w : World) (mg : Str → Option Value) (fa : Addr) (h : Heap), (K w.params).In h → h.Ns mainGlobals mg → mg d.name = some (.ref fa) →
      ∃ fd : FuncData, (∀ (s : Shared) (u : Value), BindsTo s fd ⟨[u], []⟩ [(x, u)]) ∧
        ∀ base : Heap, (K w.params).In base → base.Ns mainGlobals mg → FnOk l.prog w (K w.params) mg base (CX w) k fa fd [x] (sp w))
    (hsp : ∀ (w : World) (H : Hp) (a : Addr) (ns : List Int), ns.length ≤ n → Only H → SqL (K w.params) H a (ns.map V.int) → sp w [.ref a] H (fun v _ => v = .bl true) fun _ _ _ => False)
    (hCX : ∀ (w : World) (H : Hp) (s : Shared) (e : Value) (s' : Shared), CX w [] H s (fun _ _ _ => False) e s' → False) :
    PySem.W.WalkO q loose XP YP l.row.toRowW d [] (fun f vs => PySem.call f vs) := by
  refine Att.attach_call hn hdf fun w s₀ s₁ mg mb fa o pm cd doc a vs ns G Y ho hd hcd hmg hobj hints hlen hg => ?_
  have KX := hY w _ Y
  obtain ⟨fd, hb, hF⟩ := F w mg fa _ KX G.T.g hmg
  exact law_call KX G.T.g G.T.b G.T.builtins G.T.nolimit hg hobj hints (Nat.le_trans hlen hn2) hr hF hb (fun H hO hS => hsp w H a ns hlen hO hS) fun H e s' => hCX w H s₁ e s'
end L2

/- THE LAST THEOREM (shape; LID, My.* are yours):
   My.Adr: a structure of the addresses that your layer names (classes, functions); My.Txt K t: a structure (Prop) of the equations over K;
   My.txt_mk : {K} {implicit addresses ..} (e1 : nsIn K mainGlobals "law" = some (some (.ref f))) (e2 : K.lookup f = some ⟨oc, od, .func (fnOf "law" "law" params body scope dV kV doc pm an cdv ct), sl⟩) (e3 : codeIn K cdv "law" = true) .. : ∃ t, My.Txt K t

set_option maxRecDepth 100000 in
set_option maxHeartbeats 0 in
theorem PySem.Challenge.cw_LID_holds : PySem.Challenge.rw_LID.Holds := by
  w_on; o_law; k_head; (case hw => w_witness2)
  k_fill
  refine L2.walk_of (l := PySem.Challenge.rw_LID) (n := 63) (k := 40) (x := "script") (CX := fun w => ..) (sp := fun _ => My.sp_law) rfl (by decide) rfl ⟨rfl, by decide, by decide⟩ (fun w h Y => PySem.W.kIn_of Y) ?F ?S ?C
  case F =>
    intro w mg fa h KX G hmg
    have T : ∃ t, My.Txt (L2.KOf KX) t := by
      dsimp only [L2.KOf]                          -- K must stand as «<heap const> w.params» for k_is
      refine' My.txt_mk ?e1 ?e2 ?e3 ..
      (case e1 => PySem.W.k_is)                    -- in the order: a name -> its address -> its object -> its parts
      (case e2 => PySem.W.k_is)
      ..
    obtain ⟨t, T⟩ := T
    have e0 := hmg.symm.trans (PySem.W.mg_of KX G T.law)
    cases e0                                       -- fa is the law's own address
    exact ⟨_, fun s u => .of_eq rfl, fun base kb nb => My.law_fn T kb nb⟩     -- if «.of_eq rfl» comes too early: refine' ⟨_, ?b, fun base kb nb => My.law_fn T kb nb⟩; exact fun s u => .of_eq rfl
  case S => exact fun w H a ns hl hO hS => ..
  case C => exact ..
(the tactic k_is has no namespace: write k_is) -/

/-! SHORT WORDS over the layer: a def of the text, its body, what a loop and a test want. -/
namespace L2
open PySem PySem.Spec PyProof.Rows

/-! ### the text by places -/
/-- the j-th statement of a class's body -/
def inClass (s : Stmt) (j : Nat) : Stmt := match s with
  | .ClassDef _ _ _ body _ _ _ _ _ _ _ => body.getD j (.Pass ⟨0, 0, 0, 0⟩)
  | _ => .Pass ⟨0, 0, 0, 0⟩
def defArgs (s : Stmt) : Arguments := match s with
  | .FunctionDef _ a _ _ _ _ _ _ _ _ => a
  | _ => { posonlyargs := [], args := [], vararg := none, kwonlyargs := [], kw_defaults := [], kwarg := none, defaults := [] }
def defBody (s : Stmt) : List Stmt := match s with
  | .FunctionDef _ _ b _ _ _ _ _ _ _ => b
  | _ => []
def defScope (s : Stmt) : Scope := match s with
  | .FunctionDef _ _ _ _ _ _ sc _ _ _ => sc
  | _ => { kind := .function, names := [], isGenerator := false, isCoroutine := false }

/-! ### no exception leaves a def -/
abbrev CX0 : CXT := fun _ _ _ _ _ _ => False
abbrev E0 : XK := fun _ _ _ => False
theorem pass0 {X : Cx} : Passes CX0 X E0 := fun _ _ _ _ _ _ _ h => h.elim

/-! ### a def (or method) of the text as it stands behind the top -/
structure Fun (K : PySem.W.Frag) (x qual : Str) (st : Stmt) (f : Addr) (fd : FuncData) : Prop where
  ex : ∃ (oc : Value) (od : Option Addr) (kV doc pm : Value) (an : Option Addr) (cdv ct : Value) (osl : Array (Option Value)),
    fd = PySem.W.fnOf x qual (defArgs st) (defBody st) (defScope st) .none kV doc pm an cdv ct ∧ K.lookup f = some ⟨oc, od, .func fd, osl⟩ ∧ PySem.W.codeIn K cdv qual = true
  kp : PySem.W.keepIn K (.ref f) = true
section
variable {P : Program} {w : World} {K : PySem.W.Frag} {mg : Str → Option Value} {base : Heap}
/-- THE RULE for a def: its body as a term of rules, and the reading of that term -/
theorem Fun.ok {x qual : Str} {st : Stmt} {f : Addr} {fd : FuncData} {N ps : List Str} {k : Nat} {sp : Sp} (F : Fun K x qual st f fd) (S : FnScope N ps (defScope st)) (len : ∀ vs H Q E, sp vs H Q E → vs.length = ps.length)
    (hbody : ∀ (cdv : Value) (A : Around) (outer : List Env) (s : Shared) (H : Hp) (vs : List V) (Q : VK) (E : XK), Room k (A.deeper (envOfC qual (defScope st) s.heap.objs.size f cdv)) → sp vs H Q E →
      ∃ t, PSs (cxOf CX0 P w K mg base N qual (defScope st) f cdv A outer s H E).nox (defBody st) t ∧ t { nx := fun _ H' => Q .non H', rt := Q } (start N vs) H) : FnOk P w K mg base CX0 (k + 1) f fd ps sp := by
  obtain ⟨oc, od, kV, doc, pm, an, cdv, ct, osl, rfl, lk, hcd⟩ := F.ex
  refine fn_of lk hcd S len fun A outer s H vs Q E hr hsp => ?_
  obtain ⟨t, h, q⟩ := hbody cdv A outer s H vs Q E hr hsp
  exact ⟨t, h.nox, q⟩
/-- how its arguments bind (no defaults): h is «fun _ _ _ _ _ _ us hl => match us, hl with | [_, _], _ => rfl», one _ a parameter -/
theorem Fun.binds {x qual : Str} {st : Stmt} {f : Addr} {fd : FuncData} {ps : List Str} (F : Fun K x qual st f fd)
    (h : ∀ (kV doc pm : Value) (an : Option Addr) (cdv ct : Value) (us : List Value), us.length = ps.length → bindArgs (PySem.W.fnOf x qual (defArgs st) (defBody st) (defScope st) .none kV doc pm an cdv ct) ⟨us, []⟩ = pure (ps.zip us)) : Binds K fd ps [] := by
  obtain ⟨oc, od, kV, doc, pm, an, cdv, ct, osl, rfl, lk, hcd⟩ := F.ex
  exact .all (h kV doc pm an cdv ct)
theorem fun_mk {x qual : Str} {st : Stmt} {f : Addr} {oc : Value} {od an : Option Addr} {osl : Array (Option Value)} {kV doc pm cdv ct : Value} (l : K.lookup f = some ⟨oc, od, .func (PySem.W.fnOf x qual (defArgs st) (defBody st) (defScope st) .none kV doc pm an cdv ct), osl⟩)
    (c : PySem.W.codeIn K cdv qual = true) (k : PySem.W.keepIn K (.ref f) = true) : Fun K x qual st f (PySem.W.fnOf x qual (defArgs st) (defBody st) (defScope st) .none kV doc pm an cdv ct) := ⟨⟨oc, od, kV, doc, pm, an, cdv, ct, osl, rfl, l, c⟩, k⟩
end
/-! ### expressions in short: the name that stands in the i-th slot -/
section
variable {X : Cx}
theorem pv (i : Nat) {x : Str} {pos : Pos} (hN : X.N[i]? = some x := by rfl) (hv : Vis X.env.scope x := by first | exact Or.inl rfl | exact Or.inr (Or.inl rfl) | exact Or.inr (Or.inr rfl)) (hd : (x == ("__debug__" : Str)) = false := by decide)
    (hcd : (x == ("__classdict__" : Str)) = false := by decide) : PE X (.Name x pos) (tVar i) := pe_var hN hv hd hcd
end

/-! ### tests -/
theorem iteF {A B : Prop} (h : B) : if false = true then A else B := by
  rw [if_neg Bool.false_ne_true]
  exact h
theorem iteT {A B : Prop} (h : A) : if true = true then A else B := by
  rw [if_pos rfl]
  exact h
theorem ite2 {c A B : Prop} [Decidable c] (h1 : c → A) (h2 : ¬ c → B) : if c then A else B := by
  by_cases h : c
  · rw [if_pos h]
    exact h1 h
  · rw [if_neg h]
    exact h2 h
/-! ### heaps -/
/-- all that was tracked is as it was -/
def Same (H H' : Hp) : Prop := ∀ b o, H b = some o → H' b = some o
theorem Same.refl (H : Hp) : Same H H := fun _ _ h => h
theorem Same.trans {H H1 H2 : Hp} (a : Same H H1) (b : Same H1 H2) : Same H H2 := fun c o h => b c o (a c o h)
theorem Same.free {H H' : Hp} (e : Same H H') {l : Addr} (h : H' l = Option.none) : H l = Option.none := by
  cases q : H l with
  | none => rfl
  | some o =>
    rw [e l o q] at h
    cases h
theorem Same.seq {K : PySem.W.Frag} {H H' : Hp} {a : Addr} {xs : List V} (e : Same H H') (h : SqL K H a xs) : SqL K H' a xs := by
  rcases h with (h | ⟨o, h⟩) | h
  · exact .inl (.inl (e _ _ h))
  · exact .inl (.inr ⟨o, e _ _ h⟩)
  · exact .inr h

/-! ### a dict's pairs: keys that differ -/
section
variable {κ : Type} [DecidableEq κ]
end
end L2

set_option maxHeartbeats 4000000
namespace L2
open PySem PySem.Spec PyProof.Rows

theorem Same.refl' (H : Hp) : Same H H := fun _ _ h => h
theorem Same.upd {H : Hp} {a : Addr} {o : HO} (h : H a = none) : Same H (upd H a o) := fun b u e => by rw [upd_ne (ne_of_none e h)]; exact e
theorem Same.upd2 {H H' : Hp} {a : Addr} {o : HO} (s : Same H H') (h : H a = none) : Same H (L2.upd H' a o) := fun b u e => by rw [upd_ne (ne_of_none e h)]; exact s b u e
theorem Same.tup {K : PySem.W.Frag} {H H' : Hp} {a : Addr} {xs : List V} (e : Same H H') (h : SqT K H a xs) : SqT K H' a xs := by
  rcases h with (h | ⟨o, h⟩) | h
  · exact .inl (.inl (e _ _ h))
  · exact .inl (.inr ⟨o, e _ _ h⟩)
  · exact .inr h

end L2

namespace L2
open PySem PySem.Spec PyProof.Rows

/-! ### a comprehension: its loop, the tuple of an iterator let go, no exception leaving -/
theorem comp_loop_go {prog : Program} {w : World} {A : Around} {R : Result → Shared → Prop} {s : Shared} {elt target iter : Expr} {ifs : List Expr} {scope : Scope} {pos : Pos} {it acc : Value} {env : Env} (I : Nat → Shared → Prop)
    (turn : ∀ n s, I n s → wpAny (model prog w) A (pyNext it) (fun r s₁ => match r with
      | none => R (.ok .next) s₁
      | some v => wpAny (model prog w) A (letOwnedTupleGo target it v) (fun _ s₂ => wpAny (model prog w) A (assign target env v) (fun _ s₃ =>
          wpAny (model prog w) A (forIn ifs true fun c r => if r = true then do let ok ← isTrue c env (eval c env); pure (ForInStep.yield ok) else pure (ForInStep.yield r)) (fun ok s₄ =>
            if ok = true then wpAny (model prog w) A (eval elt env) (fun x s₅ =>
              wpAny (model prog w) A (call (.builtin "list.append") [acc, x]) (fun _ s₆ => ∃ m, m < n ∧ I m s₆) (fun _ _ => False) s₅) (fun _ _ => False) s₄
            else ∃ m, m < n ∧ I m s₄) (fun _ _ => False) s₃) (fun _ _ => False) s₂) (fun _ _ => False) s₁) (fun _ _ => False) s)
    (n : Nat) (h : I n s) :
    codeAny (model prog w) A (.compLoop (.ListComp elt [⟨target, iter, ifs, 0⟩] scope pos) 0 it acc env) R s := by
  refine codeAny_loop rfl I (fun n s hI => ?_) n h
  show wpAny _ A ((compTurn (.ListComp elt [⟨target, iter, ifs, 0⟩] scope pos) 0 it acc env).onRaise (fun x => do noteFrame x env; theTreesLotGoes x)) _ _ s
  refine wpAny_noted ?_
  rw [compTurn_list]
  refine wpAny_bind (wpAny_standAt (wpAny_bind (wpAny_mono (turn n s hI) (fun r s₁ h₁ => ?_) fun _ _ f => f.elim)))
  cases r with
  | none => exact wpAny_pure h₁
  | some v =>
    refine wpAny_bind (wpAny_mono h₁ (fun _ s₂ h₂ => wpAny_bind (wpAny_mono h₂ (fun _ s₃ h₃ => wpAny_bind (wpAny_mono h₃ (fun ok s₄ h₄ => ?_) fun _ _ f => f.elim)) fun _ _ f => f.elim)) fun _ _ f => f.elim)
    cases ok with
    | false => exact wpAny_pure ⟨rfl, h₄⟩
    | true =>
      exact wpAny_bind (wpAny_bind (wpAny_mono h₄ (fun x s₅ h₅ => wpAny_bind (wpAny_mono h₅ (fun _ s₆ h₆ => wpAny_pure (wpAny_pure ⟨rfl, h₆⟩)) fun _ _ f => f.elim)) fun _ _ f => f.elim))

/-- the block's context: its own name first, then the frame's names that it reads -/
def cxC (X : Cx) (x : Str) (ns : List Str) (scope : Scope) (cl : List (Str × Addr)) (fp : List Addr) (pins : List (Addr × Obj)) (s : Shared) (H : Hp) : Cx where
  prog := X.prog
  w := X.w
  K := X.K
  mg := X.mg
  base := X.base
  A := X.A
  N := x :: ns
  s₀ := s
  H₀ := H
  env := compEnvC scope cl s.heap.objs.size X.env
  outer := X.stack
  stack := X.stack
  ex := fp
  fn := fun _ => false
  calm := X.calm
  pn := X.pn ++ pins
  xe := fun _ _ => False

/-- what the block's cells are: those of the frame -/
structure ClosOf (X : Cx) (scope : Scope) (cl : List (Str × Addr)) : Prop where
  clos : closureFor scope X.env = pure cl
  sub : ∀ x c, cl.lookup x = some c → X.env.cells.lookup x = some c
  all : ∀ x, ((relabel scope X.env).names.lookup x = some .cell ∨ (relabel scope X.env).names.lookup x = some .free) → ∃ c, cl.lookup x = some c
  kind : scope.kind = .function
  cell : ∀ y ∈ scope.names, y.2 ≠ .cell
  names : ∀ y ∈ scope.names, y.2 = .local → scope.names.lookup y.1 = some .local

/-- the cells that the block is given -/
def closL (cells : List (Str × Addr)) : List (Str × NameKind) → List (Str × Addr) → List (Str × Addr)
  | [], acc => acc
  | (n, k) :: r, acc => if k == .free then closL cells r ((n, (cells.lookup n).getD 0) :: acc) else closL cells r acc
theorem closureFor_eq {scope : Scope} {env : Env} (h : ∀ y ∈ scope.names, y.2 = .free → ∃ c, env.cells.lookup y.1 = some c) : closureFor scope env = pure (closL env.cells scope.names []) := by
  unfold closureFor
  suffices H : ∀ (l : List (Str × NameKind)) (acc : List (Str × Addr)), (∀ y ∈ l, y.2 = .free → ∃ c, env.cells.lookup y.1 = some c) →
      (forIn l acc (fun (x : Str × NameKind) (r : List (Str × Addr)) => (do
        let (name, kind) := x
        let cs := r
        if (kind == NameKind.free) = true then do
          let a ← cellOf env name
          pure (ForInStep.yield ((name, a) :: cs))
        else pure (ForInStep.yield cs) : Sem (ForInStep (List (Str × Addr))))) : Sem (List (Str × Addr))) = pure (closL env.cells l acc) by
    have := H scope.names [] h
    simp only at this ⊢
    first | (rw [this]; rfl) | exact this | (simp only [this]; rfl)
  intro l
  induction l with
  | nil => intro acc _; rfl
  | cons y r ih =>
    intro acc hy
    obtain ⟨n, k⟩ := y
    rw [List.forIn_cons]
    have hr : ∀ y ∈ r, y.2 = .free → ∃ c, env.cells.lookup y.1 = some c := fun y m => hy y (List.mem_cons_of_mem _ m)
    cases hk : (k == NameKind.free) with
    | false =>
      simp only [hk, Bool.false_eq_true, if_false, closL]
      exact ih acc hr
    | true =>
      obtain ⟨c, ec⟩ := hy (n, k) List.mem_cons_self (beq_iff_eq.mp hk)
      simp only [hk, if_true, closL, ec, Option.getD_some]
      have e : cellOf env n = pure c := by
        unfold cellOf
        rw [show env.cells.lookup n = some c from ec]
      rw [e]
      exact ih ((n, c) :: acc) hr
theorem closL_lookup (cells : List (Str × Addr)) (x : Str) : ∀ (l : List (Str × NameKind)) (acc : List (Str × Addr)), (∀ y ∈ l, y.2 = .free → ∃ c, cells.lookup y.1 = some c) → (∀ c, acc.lookup x = some c → cells.lookup x = some c) →
    (∀ c, (closL cells l acc).lookup x = some c → cells.lookup x = some c) ∧ (((x, NameKind.free) ∈ l ∨ ∃ c, acc.lookup x = some c) → ∃ c, (closL cells l acc).lookup x = some c)
  | [], acc, _, ha => ⟨ha, fun h => h.elim (fun z => nomatch z) id⟩
  | (n, k) :: r, acc, hy, ha => by
    have hr : ∀ y ∈ r, y.2 = .free → ∃ c, cells.lookup y.1 = some c := fun y m => hy y (List.mem_cons_of_mem _ m)
    unfold closL
    cases hk : (k == NameKind.free) with
    | false =>
      rw [if_neg Bool.false_ne_true]
      obtain ⟨h1, h2⟩ := closL_lookup cells x r acc hr ha
      refine ⟨h1, fun h => h2 ?_⟩
      rcases h with h | h
      · rcases List.mem_cons.mp h with z | z
        · cases z
          exact absurd hk (by decide)
        · exact .inl z
      · exact .inr h
    | true =>
      rw [if_pos rfl]
      obtain ⟨c, ec⟩ := hy (n, k) List.mem_cons_self (beq_iff_eq.mp hk)
      have ec : cells.lookup n = some c := ec
      rw [ec, Option.getD_some]
      have ha' : ∀ d, List.lookup x ((n, c) :: acc) = some d → cells.lookup x = some d := fun d e => by
        rw [List.lookup_cons] at e
        cases hx : x == n with
        | true => rw [hx] at e; cases e; rw [eq_of_beq hx]; exact ec
        | false => rw [hx] at e; exact ha d e
      obtain ⟨h1, h2⟩ := closL_lookup cells x r ((n, c) :: acc) hr ha'
      refine ⟨h1, fun h => h2 ?_⟩
      rcases h with h | ⟨d, h⟩
      · rcases List.mem_cons.mp h with z | z
        · cases z
          exact .inr ⟨c, by simp [List.lookup_cons]⟩
        · exact .inl z
      · refine .inr ?_
        rw [List.lookup_cons]
        cases hx : x == n with
        | true => exact ⟨c, rfl⟩
        | false => exact ⟨d, h⟩
/-- the names of a block, as its scope and the frame's have them -/
def compOk (x : Str) (ns : List Str) (names outer : List (Str × NameKind)) : Bool :=
  names.all (fun y => y.2 != .cell && (y.2 != .free || outer.lookup y.1 == some .cell) && (y.2 != .local || names.lookup y.1 == some .local)) && names.lookup x == some .local && ns.all (fun y => names.lookup y == some .free && y != x) && decide ns.Nodup
theorem mem_of_lookupK : ∀ {l : List (Str × NameKind)} {x : Str} {k : NameKind}, l.lookup x = some k → (x, k) ∈ l
  | [], _, _, h => by simp at h
  | (n, k') :: r, x, k, h => by
    rw [List.lookup_cons] at h
    cases hx : x == n with
    | true => rw [hx] at h; cases h; rw [eq_of_beq hx]; exact List.mem_cons_self
    | false => rw [hx] at h; exact List.mem_cons_of_mem _ (mem_of_lookupK h)
/-- what the relabelled scope says of a name -/
theorem lookup_relabel {scope : Scope} {env : Env} {x : Str} : (∀ k, (relabel scope env).names.lookup x = some k → scope.names.lookup x = some k ∨ (k = .cell ∧ scope.names.lookup x = some .free)) ∧
    (∀ k, scope.names.lookup x = some k → (relabel scope env).names.lookup x = some k ∨ (k = .free ∧ (relabel scope env).names.lookup x = some .cell)) := by
  show (∀ k, (scope.names.map fun (n, k) => if (k == NameKind.free && env.scope.kind == .function && env.kindOf n == some .cell) then (n, NameKind.cell) else (n, k)).lookup x = some k → _) ∧ (∀ k, _ → (scope.names.map fun (n, k) => if (k == NameKind.free && env.scope.kind == .function && env.kindOf n == some .cell) then (n, NameKind.cell) else (n, k)).lookup x = some k ∨ (_ ∧ (scope.names.map fun (n, k) => if (k == NameKind.free && env.scope.kind == .function && env.kindOf n == some .cell) then (n, NameKind.cell) else (n, k)).lookup x = some .cell))
  generalize scope.names = l
  induction l with
  | nil => exact ⟨fun k h => by simp at h, fun k h => by simp at h⟩
  | cons y r ih =>
    obtain ⟨n, k0⟩ := y
    rw [List.map_cons]
    cases hc : (k0 == NameKind.free && env.scope.kind == .function && env.kindOf n == some .cell) with
    | true =>
      simp only [hc, if_true, List.lookup_cons]
      have hf : k0 = .free := by
        rw [Bool.and_eq_true, Bool.and_eq_true] at hc
        exact beq_iff_eq.mp hc.1.1
      cases hx : x == n with
      | true => exact ⟨fun k h => by cases h; exact .inr ⟨rfl, by rw [hf]⟩, fun k h => by cases h; exact .inr ⟨hf, rfl⟩⟩
      | false => exact ih
    | false =>
      simp only [hc, Bool.false_eq_true, if_false, List.lookup_cons]
      cases hx : x == n with
      | true => exact ⟨fun k h => by cases h; exact .inl rfl, fun k h => by cases h; exact .inl rfl⟩
      | false => exact ih
theorem clos_of {X : Cx} {pins : List (Addr × Obj)} {σ : List (Option V)} {H : Hp} {s : Shared} {scope : Scope} {x : Str} {ns : List Str} (I : Inv X pins σ H s) (hk : scope.kind = .function) (ho : compOk x ns scope.names X.env.scope.names = true) :
    ClosOf X scope (closL X.env.cells scope.names []) ∧ (∀ y ∈ ns, X.env.scope.names.lookup y = some .cell) ∧ (∀ y ∈ ns, (relabel scope X.env).names.lookup y = some .cell ∨ (relabel scope X.env).names.lookup y = some .free) ∧ scope.names.lookup x = some .local ∧ (x :: ns).Nodup := by
  unfold compOk at ho
  simp only [Bool.and_eq_true, List.all_eq_true, Bool.or_eq_true, bne_iff_ne, beq_iff_eq, decide_eq_true_eq] at ho
  obtain ⟨⟨⟨h1, h2⟩, h3⟩, h4⟩ := ho
  have hfr : ∀ y ∈ scope.names, y.2 = .free → ∃ c, X.env.cells.lookup y.1 = some c := fun y m e => by
    rcases (h1 y m).1.2 with z | z
    · exact absurd e z
    · exact I.ok.has y.1 (.inl z)
  refine ⟨⟨closureFor_eq hfr, fun y c e => (closL_lookup X.env.cells y scope.names [] hfr (by simp)).1 c e, fun y hy => ?_, hk, fun y m => (h1 y m).1.1, fun y m e => ?_⟩, fun y m => ?_, fun y m => ?_, h2, List.nodup_cons.mpr ⟨fun m => (h3 x m).2 rfl, h4⟩⟩
  · refine (closL_lookup X.env.cells y scope.names [] hfr (by simp)).2 (.inl ?_)
    rcases hy with hy | hy
    · rcases lookup_relabel.1 _ hy with z | ⟨_, z⟩
      · exact absurd rfl (h1 _ (mem_of_lookupK z)).1.1
      · exact mem_of_lookupK z
    · rcases lookup_relabel.1 _ hy with z | ⟨z, _⟩
      · exact mem_of_lookupK z
      · cases z
  · rcases (h1 y m).2 with z | z
    · exact absurd e z
    · exact z
  · rcases (h1 _ (mem_of_lookupK (h3 y m).1)).1.2 with z | z
    · exact absurd rfl z
    · exact z
  · rcases lookup_relabel.2 _ (h3 y m).1 with z | ⟨_, z⟩
    · exact .inr z
    · exact .inl z

/-- the values of the names that it reads -/
def caps (js : List Nat) (σ : St) : St := js.map fun j => (σ[j]?).join

theorem inv_comp {X : Cx} {pins : List (Addr × Obj)} {σ : St} {H : Hp} {s : Shared} {h' : Heap} {tk : Nat} {x : Str} {ns : List Str} {js : List Nat} {scope : Scope} {cl : List (Str × Addr)} {fp : List Addr} {m : Str → Option Value} (I : Inv X pins σ H s)
    (L : ClosOf X scope cl) (hj : js.map (fun j => X.N[j]?) = ns.map some) (hvis : ∀ y ∈ ns, X.env.scope.names.lookup y = some .cell)
    (hin : ∀ y ∈ ns, (relabel scope X.env).names.lookup y = some .cell ∨ (relabel scope X.env).names.lookup y = some .free)
    (hf : ∀ b ∈ fp, FpOk X pins H b) (hfl : ∀ b ∈ fp, b < s.heap.objs.size) (hn : h'.Ns s.heap.objs.size m) (hk : ∀ b o, s.heap.get? b = some o → h'.get? b = some o) :
    Inv (cxC X x ns scope cl fp pins s H) [] (none :: caps js σ) H { s with heap := h', toks := tk } := by
  have len : js.length = ns.length := by have := congrArg List.length hj; simpa using this
  refine ⟨⟨I.ok.mod, L.kind, I.ok.glob, I.ok.blt, Nat.le_refl _, fun y z c h1 h2 => I.ok.inj y z c (L.sub _ _ h1) (L.sub _ _ h2), L.all, fun y c z _ => absurd (show false = true from z) Bool.false_ne_true, I.ok.hd, I.ok.frames, .inl rfl,
    fun b hb => ⟨Nat.ne_of_lt (hfl b hb), fun y c e => (hf b hb).2.2.2.2.1 y c (L.sub _ _ e)⟩, I.bs, Nat.le_trans I.ok.bsz I.sz, fun b o e hb => ?_, fun b hb z => ?_, I.stack, I.stkFree⟩,
    rfl, I.bare, Un.kept hk, ⟨m, hn, fun i y v e1 e2 _ => ?_⟩, fun y c e => ?_, I.fresh, fun y c e => I.freeC y c (L.sub _ _ e), fun p hp => ?_, I.hok.kept hk, ?_⟩
  · rcases (hf b hb).2.2.2.1 with z | z
    · exact I.ok.noex b o e z
    · exact absurd (Nat.lt_of_lt_of_le (Heap.lt_size (I.ok.bs b o e).1) z) (Nat.lt_irrefl _)
  · rcases List.mem_cons.mp (I.stkSub b z) with z | z
    · exact (hf b hb).2.1 z
    · exact (hf b hb).2.2.1 z
  · cases i with
    | zero => cases (show (some none : Option (Option V)) = some (some v) from e2)
    | succ k =>
      have e1 : ns[k]? = some y := e1
      have e2 : (caps js σ)[k]? = some (some v) := e2
      unfold caps at e2
      rw [List.getElem?_map] at e2
      cases ej : js[k]? with
      | none => rw [ej] at e2; cases e2
      | some j =>
        rw [ej] at e2
        have e2 : (σ[j]?).join = some v := Option.some.inj e2
        have e3 : σ[j]? = some (some v) := by
          cases q : σ[j]? with
          | none => rw [q] at e2; cases e2
          | some o => rw [q] at e2; rw [show o = some v from e2]
        have e4 : X.N[j]? = some y := by
          have q := congrArg (fun l => l[k]?) hj
          simp only [List.getElem?_map, ej, e1, Option.map_some] at q
          exact Option.some.inj q
        have my : y ∈ ns := List.mem_of_getElem? e1
        obtain ⟨m0, hn0, hl⟩ := I.loc
        obtain ⟨u, r, lk⟩ := hl j y v e4 e3 (.inr (.inl (hvis y my)))
        refine ⟨u, r, .inr ⟨hin y my, ?_⟩⟩
        obtain ⟨c, ec⟩ := L.all y (hin y my)
        rcases lk with ⟨k1, _⟩ | ⟨_, c', e5, e6⟩
        · have k2 : X.env.scope.names.lookup y = some .local := k1
          rw [hvis y my] at k2; cases k2
        · have := L.sub _ _ ec
          rw [e5] at this; cases this
          obtain ⟨o, ho, hd⟩ := e6
          exact ⟨c, ec, o, hk _ _ ho, hd⟩
  · obtain ⟨v, o, ho, hd⟩ := I.cell y c (L.sub _ _ e)
    exact ⟨v, o, hk _ _ ho, hd⟩
  · have hp : p ∈ X.pn ++ pins := by
      have hp : p ∈ (X.pn ++ pins) ++ [] := hp
      simpa using hp
    obtain ⟨e, n, nl, nf, d⟩ := I.pin p hp
    refine ⟨hk _ _ e, n, Nat.ne_of_lt (Heap.lt_size e), fun z => ?_, d⟩
    rcases List.mem_cons.mp (I.stkSub _ z) with z | z
    · exact nl z
    · exact nf z
  · show (none :: caps js σ).length = (x :: ns).length
    unfold caps
    rw [List.length_cons, List.length_cons, List.length_map, len]

/-- back in the frame -/
theorem Inv.uncomp {X : Cx} {pins pins' : List (Addr × Obj)} {σ σ' : St} {H H' : Hp} {s s' : Shared} {h2 : Heap} {x : Str} {ns : List Str} {scope : Scope} {cl : List (Str × Addr)} {fp : List Addr} (I : Inv X pins σ H s)
    (hf : ∀ b ∈ fp, FpOk X pins H b) (J : Inv (cxC X x ns scope cl fp pins s H) pins' σ' H' s') (hk : ∀ b o, b ≠ s.heap.objs.size → s'.heap.get? b = some o → h2.get? b = some o) :
    Inv X pins σ H' { s' with heap := h2 } := by
  have u : Un (frs X.stack) fp H H' s.heap s'.heap := J.base
  have ne : ∀ b o, s.heap.get? b = some o → b ≠ s.heap.objs.size := fun b o e => Nat.ne_of_lt (Heap.lt_size e)
  have fr : H' s.heap.objs.size = none := J.free
  refine I.call' (s' := { s' with heap := h2 }) (ch := fp) J.os ⟨fun b o e n h1 h2 => hk b o (ne b o e) (u.keep b o e n h1 h2), fun b o e n h1 h2 => ?_, u.free, fun b o e hx => ?_, u.tups, u.frzs, u.tbls⟩ (fun b o e => ?_) J.bare
    (fun b hb => ⟨(hf b hb).2.2.2.1, (hf b hb).2.1, (hf b hb).2.2.2.2.1, (hf b hb).2.2.2.2.2⟩)
  · obtain ⟨sl, q⟩ := u.slot b o e n h1 h2
    exact ⟨sl, hk _ _ (ne b o e) q⟩
  · obtain ⟨o', q⟩ := u.there b o e hx
    exact ⟨o', hk _ _ (ne b o e) q⟩
  · refine (J.hok b o e).stay (fun c v hc q => hk c v ?_ q) (fun _ q => q) fun _ _ q => q
    rcases hc with z | z
    · rw [z]; exact ne_of_none e fr
    · exact ne_of_none z fr

/-- the tests of a comprehension -/
def PIf (X : Cx) (ifs : List Expr) (t : TT) : Prop :=
  ∀ (pins : List (Addr × Obj)) (s : Shared) (σ : St) (H : Hp) (Q : Bool → Hp → Prop), Inv X pins σ H s → t σ H Q →
    wpAny (model X.prog X.w) X.A (forIn ifs true fun c r => if r = true then do let ok ← isTrue c X.env (eval c X.env); pure (ForInStep.yield ok) else pure (ForInStep.yield r)) (TP X pins σ Q) X.xe s
def tYes : TT := fun _ H Q => Q true H
theorem pif_nil {X : Cx} : PIf X [] tYes := fun _ _ _ H _ I h => wpAny_tests_nil ⟨H, I, h⟩
/-- [elt for x in iter if ..]: D the new list -/
def bComp (js : List Nat) (tt : TT) (te : TE) (σ : St) (J : It) (H1 : Hp) (Q : VK) : Prop :=
  ∀ D, H1 D = none → ∃ W : Nat → Nat → Hp → Prop, (∃ m, W 0 m (upd H1 D (.lst []))) ∧ ∀ i m H, W i m H →
    (J.stop i H ∧ Q (.ref D) H) ∨ (J.go i H ∧ ∀ x H', J.yld i H x H' → tt (some x :: caps js σ) H' fun b H2 => if b = true then te (some x :: caps js σ) H2 fun y H3 => ∃ ys, H3 D = some (.lst ys) ∧ ys.length < sizeLine ∧ ∃ m', m' < m ∧ W (i + 1) m' (upd H3 D (.lst (ys ++ [y])))
      else ∃ m', m' < m ∧ W (i + 1) m' H2)
def tComp (js : List Nat) (wi : TI) (tt : TT) (te : TE) : TE := fun σ H Q => wi σ H fun J H1 => bComp js tt te σ J H1 Q

section
variable {X : Cx} {x : Str} {px : Pos} {iter elt : Expr} {ifs : List Expr} {scope : Scope} {pos : Pos} {ns : List Str} {js : List Nat} {cl : List (Str × Addr)} {wi : TI} {tt : TT} {te : TE}

/-- the block, walked -/
theorem comp_block {pins : List (Addr × Obj)} {σ : St} {s₂ : Shared} {H₂ : Hp} {it : Addr} {fp : List Addr} {tn : Nat → Heap → Prop} {J : It} {Q : VK} {RR : Value → Addr → Result → Shared → Prop} {E : Value → Shared → Prop}
    (L : ClosOf X scope cl) (hc : X.calm = true) (hj : js.map (fun j => X.N[j]?) = ns.map some) (hvis : ∀ y ∈ ns, X.env.scope.names.lookup y = some .cell)
    (hin : ∀ y ∈ ns, (relabel scope X.env).names.lookup y = some .cell ∨ (relabel scope X.env).names.lookup y = some .free) (hx : scope.names.lookup x = some .local) (hnd : (x :: ns).Nodup)
    (ht : ∀ fp pins s H, PIf (cxC X x ns scope cl fp pins s H) ifs tt) (he : ∀ fp pins s H, PE (cxC X x ns scope cl fp pins s H) elt te)
    (I2 : Inv X pins σ H₂ s₂) (T : Turn X.prog X.w X.K (.Name x px) J fp it tn) (st2 : tn 0 s₂.heap) (f2 : ∀ b ∈ fp, FpOk X pins H₂ b) (hq : bComp js tt te σ J H₂ Q)
    (hRR : ∀ D H3 s', (∃ m, s'.heap.Ns (s₂.heap.objs.size + 1) m) → H3 (s₂.heap.objs.size + 1) = none → (∀ h2, (∀ b o, b ≠ s₂.heap.objs.size + 1 → s'.heap.get? b = some o → h2.get? b = some o) → Inv X pins σ H3 { s' with heap := h2 }) → Q (.ref D) H3 → RR (.ref D) (s₂.heap.objs.size + 1) (.ok .next) s') :
    wpAny (model X.prog X.w) X.A (newList []) (fun acc s₃ => wpAny (model X.prog X.w) X.A (newFunctionEnv scope X.env.globals cl [] X.env.qual none .none (some X.env)) (fun cenv s₄ =>
      codeAny (model X.prog X.w) X.A (.compStart (.ListComp elt [⟨.Name x px, iter, ifs, 0⟩] scope pos) 0 (.ref it) acc { cenv with scope := relabel scope X.env }) (RR acc cenv.locals) s₄) E s₃) E s₂ := by
  have hD : H₂ s₂.heap.objs.size = none := I2.fresh
  have I3 : Inv X pins σ (upd H₂ s₂.heap.objs.size (.lst [])) { s₂ with heap := s₂.heap.push { cls := .type "list", data := .seq ([] : List Value).toArray } } := I2.lnew (ys := []) (its := []) (t' := s₂.toks) .nil (Nat.zero_le _)
  obtain ⟨W, ⟨m0, w0⟩, turn⟩ := hq _ hD
  refine wpAny_newObj_type (wpAny_newFunctionEnv L.cell (by intro y hy; simp at hy) (fun h₁ hns₁ hsb₁ => ?_) L.kind)
  have hfl2 : ∀ b ∈ fp, b < s₂.heap.objs.size := fun b hb => let ⟨_, e, _⟩ := T.obj 0 _ st2 b hb; Heap.lt_size e
  have hsz3 : (s₂.heap.push { cls := .type "list", data := .seq ([] : List Value).toArray }).objs.size = s₂.heap.objs.size + 1 := Heap.size_push ..
  have hk3 : ∀ b o, (s₂.heap.push { cls := .type "list", data := .seq ([] : List Value).toArray }).get? b = some o → h₁.get? b = some o := fun b o e => hsb₁.extBut b o (Nat.ne_of_lt (Heap.lt_size e)) (Heap.get?_push_of_some _ e)
  have f3 : ∀ b ∈ fp, FpOk X pins (upd H₂ s₂.heap.objs.size (.lst [])) b := fun b hb => ⟨by rw [upd_ne (Nat.ne_of_lt (hfl2 b hb))]; exact (f2 b hb).1, (f2 b hb).2⟩
  have C0 := inv_comp (x := x) (tk := s₂.toks + ([] : List (Str × Value)).length) I3 L hj hvis hin f3 (fun b hb => Nat.lt_of_lt_of_le (hfl2 b hb) (by rw [hsz3]; exact Nat.le_succ _)) hns₁ hk3
  have st3 : tn 0 h₁ := T.keep _ _ _ st2 fun b hb o e => hk3 b o (Heap.get?_push_of_some _ e)
  generalize hs3 : ({ s₂ with heap := s₂.heap.push { cls := .type "list", data := .seq ([] : List Value).toArray } } : Shared) = s₃ at *
  have hsz : s₃.heap.objs.size = s₂.heap.objs.size + 1 := by rw [← hs3]; exact hsz3
  have loop : ∀ s₄ : Shared, s₄ = { s₃ with heap := h₁, toks := s₃.toks + ([] : List (Str × Value)).length } →
      codeAny (model X.prog X.w) X.A (.compLoop (.ListComp elt [⟨.Name x px, iter, ifs, 0⟩] scope pos) 0 (.ref it) (.ref s₂.heap.objs.size) (compEnvC scope cl s₃.heap.objs.size X.env)) (RR (.ref s₂.heap.objs.size) s₃.heap.objs.size) s₄ := by
    rintro s₄ rfl
    refine comp_loop_go (fun n s' => ∃ i v H', Inv (cxC X x ns scope cl fp pins s₃ (upd H₂ s₂.heap.objs.size (.lst []))) [] (v :: caps js σ) H' s' ∧ tn i s'.heap ∧ (∀ b ∈ fp, H' b = none) ∧ W i n H') ?_ m0
      ⟨0, none, _, by subst hs3; exact C0, st3, fun b hb => (f3 b hb).1, w0⟩
    rintro n s5 ⟨i, v5, H5, J5, st5, fr5, w5⟩
    have fpc : ∀ {H' : Hp}, (∀ b ∈ fp, H' b = none) → ∀ b ∈ fp, FpOk (cxC X x ns scope cl fp pins s₃ (upd H₂ s₂.heap.objs.size (.lst []))) [] H' b := fun hn b hb => by
      refine ⟨hn b hb, ?_, ?_, .inl hb, fun y c e => (f2 b hb).2.2.2.2.1 y c (L.sub _ _ e), fun p hp => ?_⟩
      · show b ≠ s₃.heap.objs.size
        rw [hsz]
        exact Nat.ne_of_lt (Nat.lt_succ_of_lt (hfl2 b hb))
      · intro z
        rcases List.mem_cons.mp (I2.stkSub b z) with z | z
        · exact (f2 b hb).2.1 z
        · exact (f2 b hb).2.2.1 z
      · have hp : p ∈ (X.pn ++ pins) ++ [] := hp
        exact (f2 b hb).2.2.2.2.2 p (by simpa using hp)
    rcases turn i n H5 w5 with ⟨stop, qn⟩ | ⟨go, step⟩
    · refine thn (T.done (cxC X x ns scope cl fp pins s₃ _) rfl rfl rfl hc i [] s5 _ H5 (fun _ _ => False) J5 (fpc fr5) st5 stop) fun r s6 ⟨hr, J6⟩ => ?_
      subst hr
      show RR _ _ (.ok .next) s6
      rw [hsz]
      refine hRR _ H5 s6 ?_ (by rw [← hsz]; exact J6.free) (fun h2 hk2 => ?_) qn
      · obtain ⟨mm, hn, _⟩ := J6.loc
        exact ⟨mm, by rw [← hsz]; exact hn⟩
      · refine Inv.uncomp I3 f3 J6 fun b o hb e => hk2 b o ?_ e
        rw [← hsz]; exact hb
    · refine thn (T.item (cxC X x ns scope cl fp pins s₃ _) rfl rfl rfl hc i [] s5 _ H5 (fun _ _ => False) J5 (fpc fr5) st5 go) fun r s6 ⟨u, hr, h6⟩ => ?_
      subst hr
      refine thn h6 fun _ s7 ⟨xv, H7, J7, r7, y7, st7, fr7⟩ => ?_
      have J7' := J7.pinned (fpc fr7) (T.obj _ _ st7)
      have hg : PG (cxC X x ns scope cl fp pins s₃ (upd H₂ s₂.heap.objs.size (.lst []))) (.Name x px) (gName 0) := pg_name hnd rfl (.inl (lookup_relabel_local hx)) (.inr (lookup_relabel_local hx))
      refine thn (hg _ s7 _ H7 xv u (fun σ' H' => σ' = some xv :: caps js σ ∧ H' = H7) J7' r7 ⟨rfl, rfl⟩) fun _ s8 ⟨σ8, H8, J8, e8, e8'⟩ => ?_
      subst e8 e8'
      have fin : ∀ {H' : Hp} {s' : Shared}, Inv (cxC X x ns scope cl fp pins s₃ (upd H₂ s₂.heap.objs.size (.lst []))) ([] ++ pinsAt fp s7.heap) (some xv :: caps js σ) H' s' → (∃ m', m' < n ∧ W (i + 1) m' H') →
          ∃ m', m' < n ∧ ∃ i v H', Inv (cxC X x ns scope cl fp pins s₃ (upd H₂ s₂.heap.objs.size (.lst []))) [] (v :: caps js σ) H' s' ∧ tn i s'.heap ∧ (∀ b ∈ fp, H' b = none) ∧ W i m' H' := fun {H' s'} J9 ⟨m', hm, w9⟩ => by
        refine ⟨m', hm, i + 1, some xv, H', J9.unpinned, T.keep _ _ _ st7 fun b hb o e => (J9.pin (b, o) (List.mem_append_right _ (List.mem_append_right _ (mem_pinsAt hb e)))).1, fun b hb => ?_, w9⟩
        obtain ⟨o, e, d⟩ := T.obj _ _ st7 b hb
        exact (J9.pin (b, o) (List.mem_append_right _ (List.mem_append_right _ (mem_pinsAt hb e)))).2.1
      refine thn (ht fp pins s₃ _ _ s8 _ H8 _ J8 (step xv H8 y7)) fun ok s9 ⟨H9, J9, q9⟩ => ?_
      cases ok with
      | false =>
        rw [if_neg Bool.false_ne_true] at q9 ⊢
        exact fin J9 q9
      | true =>
        rw [if_pos rfl] at q9 ⊢
        refine thn (he fp pins s₃ _ _ s9 _ H9 _ J9 q9) fun yv s10 ⟨y, H10, J10, r10, ys, hD10, hz, m', hm, w10⟩ => ?_
        refine thn (mt_append _ s10 _ H10 (.ref s₂.heap.objs.size) [y] _ [yv] (fun _ H' => H' = upd H10 s₂.heap.objs.size (.lst (ys ++ [y]))) J10 rfl (.cons r10 .nil) ⟨_, ys, y, rfl, rfl, hD10, hz, rfl⟩) fun _ s11 ⟨_, H11, J11, _, e11⟩ => ?_
        subst e11
        exact fin J11 ⟨m', hm, w10⟩
  have hcl := loop _ rfl
  have e0 : (newEnv scope s₃.heap.objs.size X.env.globals cl X.env.qual none .none (some X.env) 0).locals = s₃.heap.objs.size := rfl
  exact codeAny_compStart_list hcl (T.self _ 0 _ _ _ st3 hcl)
/-- [elt for x in iter if ..] -/
theorem pe_comp (hi : PI X (.Name x px) iter wi) (hc : X.calm = true) (hk : scope.kind = .function) (hj : js.map (fun j => X.N[j]?) = ns.map some) (ho : compOk x ns scope.names X.env.scope.names = true)
    (ht : ∀ fp pins s H, PIf (cxC X x ns scope (closL X.env.cells scope.names []) fp pins s H) ifs tt) (he : ∀ fp pins s H, PE (cxC X x ns scope (closL X.env.cells scope.names []) fp pins s H) elt te) (hs : ∀ x, foldedSetIterable iter X.env x = pure x := by intro _; rfl) :
    PE X (.ListComp elt [⟨.Name x px, iter, ifs, 0⟩] scope pos) (tComp js wi tt te) := by
  intro pins s σ H Q I h
  obtain ⟨L, hvis, hin, hx, hnd⟩ := clos_of I hk ho
  rw [eval_ListComp]
  refine wpAny_comprehension_free (use := none) rfl hs L.clos L.kind L.names (thn (hi pins s σ H _ I h) fun v s1 h1 => thn h1 fun itv s2 h2 => ?_)
  obtain ⟨it, fp, tn, J, H2, e, I2, T, st2, f2, hq⟩ := h2
  subst e
  refine comp_block (RR := fun acc C => compPost (model X.prog X.w) X.A X.xe none (EP X pins σ Q) acc C) L hc hj hvis hin hx hnd ht he I2 T st2 f2 hq ?_
  intro D H3 s' ⟨m, hn⟩ hfr hI q
  exact ⟨m, hn, fun h' sb => ⟨.ref D, H3, hI h' fun b o hb e => sb.extBut b o hb e, rfl, q⟩⟩

end
end L2

namespace L2
open PySem PySem.Spec PyProof.Rows

/-! ### data: what a value holds, to the ground -/
inductive D where
  | non
  | bl (b : Bool)
  | int (i : Int)
  | str (x : Str)
  | tup (ds : List D)
  | lst (ds : List D)

mutual
def At (K : PySem.W.Frag) (H : Hp) : D → V → Prop
  | .non, v => v = .non
  | .bl b, v => v = .bl b
  | .int i, v => v = .int i
  | .str x, v => v = .str x
  | .tup ds, v => ∃ a xs, v = .ref a ∧ SqT K H a xs ∧ AtL K H ds xs
  | .lst ds, v => ∃ a xs, v = .ref a ∧ SqL K H a xs ∧ AtL K H ds xs
def AtL (K : PySem.W.Frag) (H : Hp) : List D → List V → Prop
  | [], xs => xs = []
  | d :: ds, xs => ∃ x r, xs = x :: r ∧ At K H d x ∧ AtL K H ds r
end

mutual
theorem At.mono {K : PySem.W.Frag} {H H' : Hp} (s : Same H H') : ∀ (d : D) (v : V), At K H d v → At K H' d v
  | .non, _, h => h
  | .bl _, _, h => h
  | .int _, _, h => h
  | .str _, _, h => h
  | .tup ds, _, ⟨a, xs, e, q, l⟩ => ⟨a, xs, e, s.tup q, AtL.mono s ds xs l⟩
  | .lst ds, _, ⟨a, xs, e, q, l⟩ => ⟨a, xs, e, s.seq q, AtL.mono s ds xs l⟩
theorem AtL.mono {K : PySem.W.Frag} {H H' : Hp} (s : Same H H') : ∀ (ds : List D) (xs : List V), AtL K H ds xs → AtL K H' ds xs
  | [], _, h => h
  | d :: ds, _, ⟨x, r, e, h, t⟩ => ⟨x, r, e, At.mono s d x h, AtL.mono s ds r t⟩
end

theorem AtL.length {K : PySem.W.Frag} {H : Hp} : ∀ {ds : List D} {xs : List V}, AtL K H ds xs → xs.length = ds.length
  | [], _, h => by rw [show _ = [] from h]; rfl
  | _ :: ds, _, ⟨x, r, e, _, t⟩ => by rw [e, List.length_cons, List.length_cons, AtL.length t]

mutual
def deq : D → D → Bool
  | .non, .non => true
  | .bl a, .bl b => a == b
  | .bl a, .int b => (if a then 1 else 0) == b
  | .int a, .bl b => a == (if b then 1 else 0)
  | .int a, .int b => a == b
  | .str a, .str b => a == b
  | .tup a, .tup b => deqL a b
  | .lst a, .lst b => deqL a b
  | _, _ => false
def deqL : List D → List D → Bool
  | [], [] => true
  | a :: r, b :: t => deq a b && deqL r t
  | _, _ => false
end
mutual
def dep : D → Nat
  | .tup ds => depL ds + 1
  | .lst ds => depL ds + 1
  | _ => 0
def depL : List D → Nat
  | [] => 0
  | d :: r => max (dep d) (depL r)
end
mutual
theorem deq_refl : ∀ d : D, deq d d = true
  | .non => rfl
  | .bl b => by simp [deq]
  | .int i => by simp [deq]
  | .str x => by simp [deq]
  | .tup ds => by rw [deq]; exact deqL_refl ds
  | .lst ds => by rw [deq]; exact deqL_refl ds
theorem deqL_refl : ∀ ds : List D, deqL ds ds = true
  | [] => rfl
  | d :: r => by rw [deqL, deq_refl d, deqL_refl r]; rfl
end

/-- the item-wise answers -/
def zipB : List D → List D → List Bool
  | a :: r, b :: t => deq a b :: zipB r t
  | _, _ => []
theorem zipB_all : ∀ (ds es : List D), ((List.range (min ds.length es.length)).all (fun j => (zipB ds es).getD j true) && ds.length == es.length) = deqL ds es
  | [], [] => rfl
  | [], _ :: _ => rfl
  | _ :: _, [] => by simp [deqL]
  | a :: r, b :: t => by
    have ih := zipB_all r t
    have e : min (a :: r).length (b :: t).length = min r.length t.length + 1 := by simp only [List.length_cons]; omega
    rw [e, List.range_succ_eq_map, List.all_cons, List.all_map, deqL, ← ih]
    have e2 : ((a :: r).length == (b :: t).length) = (r.length == t.length) := by simp
    rw [e2]
    show (deq a b && _ && _) = _
    rw [Bool.and_assoc]
    rfl

section
variable {X : Cx} {pins : List (Addr × Obj)} {σ : St} {H : Hp} {s : Shared}
mutual
/-- one value holds one datum -/
theorem At.inj (I : Inv X pins σ H s) : ∀ (d e : D) (x : V), At X.K H d x → At X.K H e x → d = e
  | .non, e, x, h, g => by
    cases (show x = .non from h)
    cases e with
    | non => rfl
    | tup ds => obtain ⟨a, xs, z, _⟩ := g; cases z
    | lst ds => obtain ⟨a, xs, z, _⟩ := g; cases z
    | bl b => cases (show V.non = .bl b from g)
    | int b => cases (show V.non = .int b from g)
    | str b => cases (show V.non = .str b from g)
  | .bl k, e, x, h, g => by
    cases (show x = .bl k from h)
    cases e with
    | non => cases (show V.bl k = .non from g)
    | tup ds => obtain ⟨a, xs, z, _⟩ := g; cases z
    | lst ds => obtain ⟨a, xs, z, _⟩ := g; cases z
    | bl b => cases (show V.bl k = .bl b from g); rfl
    | int b => cases (show V.bl k = .int b from g)
    | str b => cases (show V.bl k = .str b from g)
  | .int k, e, x, h, g => by
    cases (show x = .int k from h)
    cases e with
    | non => cases (show V.int k = .non from g)
    | tup ds => obtain ⟨a, xs, z, _⟩ := g; cases z
    | lst ds => obtain ⟨a, xs, z, _⟩ := g; cases z
    | bl b => cases (show V.int k = .bl b from g)
    | int b => cases (show V.int k = .int b from g); rfl
    | str b => cases (show V.int k = .str b from g)
  | .str k, e, x, h, g => by
    cases (show x = .str k from h)
    cases e with
    | non => cases (show V.str k = .non from g)
    | tup ds => obtain ⟨a, xs, z, _⟩ := g; cases z
    | lst ds => obtain ⟨a, xs, z, _⟩ := g; cases z
    | bl b => cases (show V.str k = .bl b from g)
    | int b => cases (show V.str k = .int b from g)
    | str b => cases (show V.str k = .str b from g); rfl
  | .tup ds, e, x, h, g => by
    obtain ⟨a, xs, z, q, l⟩ := h
    subst z
    cases e with
    | non => cases (show V.ref a = .non from g)
    | bl b => cases (show V.ref a = .bl b from g)
    | int b => cases (show V.ref a = .int b from g)
    | str b => cases (show V.ref a = .str b from g)
    | tup es =>
      obtain ⟨b, ys, z, q', l'⟩ := g
      cases z
      have e := I.tuple_inj q q'
      subst e
      rw [AtL.inj I ds es xs l l']
    | lst es =>
      obtain ⟨b, ys, z, q', l'⟩ := g
      cases z
      obtain ⟨_, _, p1, _⟩ := I.tuple q
      obtain ⟨_, _, p2, _⟩ := I.list q'
      exact absurd rfl (SeqAt.ne_of_list_tuple p2.isList p1)
  | .lst ds, e, x, h, g => by
    obtain ⟨a, xs, z, q, l⟩ := h
    subst z
    cases e with
    | non => cases (show V.ref a = .non from g)
    | bl b => cases (show V.ref a = .bl b from g)
    | int b => cases (show V.ref a = .int b from g)
    | str b => cases (show V.ref a = .str b from g)
    | lst es =>
      obtain ⟨b, ys, z, q', l'⟩ := g
      cases z
      have e := I.list_inj q q'
      subst e
      rw [AtL.inj I ds es xs l l']
    | tup es =>
      obtain ⟨b, ys, z, q', l'⟩ := g
      cases z
      obtain ⟨_, _, p1, _⟩ := I.tuple q'
      obtain ⟨_, _, p2, _⟩ := I.list q
      exact absurd rfl (SeqAt.ne_of_list_tuple p2.isList p1)
theorem AtL.inj (I : Inv X pins σ H s) : ∀ (ds es : List D) (xs : List V), AtL X.K H ds xs → AtL X.K H es xs → ds = es
  | [], [], _, _, _ => rfl
  | [], _ :: _, xs, h, ⟨x, r, e, _⟩ => by rw [show xs = [] from h] at e; cases e
  | _ :: _, [], xs, ⟨x, r, e, _⟩, h => by rw [show xs = [] from h] at e; cases e
  | d :: ds, e :: es, xs, ⟨x, r, z, h, t⟩, ⟨y, q, z', h', t'⟩ => by
    subst z
    cases z'
    rw [At.inj I d e x h h', AtL.inj I ds es r t t']
end
mutual
theorem eqAt_D (I : Inv X pins σ H s) : ∀ (d e : D) (x y : V) (u v : Value) (A : Around) (n : Nat), dep d ≤ n → A.units + n < cLine → At X.K H d x → At X.K H e y → RelV x u → RelV y v → SeqAt.EqAt A s u v (deq d e)
  | .tup ds, .tup es, x, y, u, v, A, n, hn, hu, h, g, rx, ry => by
    by_cases same : x = y
    · subst same
      cases At.inj I _ _ x h g
      rw [deq_refl]
      obtain ⟨a, xs, rfl, _⟩ := h
      cases rx
      cases ry
      exact SeqAt.EqAt.same _
    · obtain ⟨a, xs, rfl, q, l⟩ := h
      obtain ⟨b, ys, rfl, q', l'⟩ := g
      cases rx
      cases ry
      obtain ⟨its, r, p, _⟩ := I.tuple q
      obtain ⟨its', r', p', _⟩ := I.tuple q'
      have hn : depL ds + 1 ≤ n := hn
      have l1 : its.length = ds.length := by rw [← r.length, l.length]
      have l2 : its'.length = es.length := by rw [← r'.length, l'.length]
      have R := SeqAt.RcAt.tuples (A := A) (s := s) (e := fun j => (zipB ds es).getD j true) p p' (by omega) fun j h1 h2 => by
        have h1' : j < its.length := by simpa using h1
        have h2' : j < its'.length := by simpa using h2
        have := eqAts_D I ds es xs ys its its' A.in1 (n - 1) (by omega) (by show A.units + 1 + (n - 1) < cLine; omega) l l' r r' j h1' h2'
        simpa using this
      have E := SeqAt.EqAt.of_refs (fun z => same (by rw [z])) R
      rw [List.size_toArray, List.size_toArray, l1, l2, zipB_all] at E
      exact E
  | .lst ds, .lst es, x, y, u, v, A, n, hn, hu, h, g, rx, ry => by
    by_cases same : x = y
    · subst same
      cases At.inj I _ _ x h g
      rw [deq_refl]
      obtain ⟨a, xs, rfl, _⟩ := h
      cases rx
      cases ry
      exact SeqAt.EqAt.same _
    · obtain ⟨a, xs, rfl, q, l⟩ := h
      obtain ⟨b, ys, rfl, q', l'⟩ := g
      cases rx
      cases ry
      obtain ⟨its, r, p, _⟩ := I.list q
      obtain ⟨its', r', p', _⟩ := I.list q'
      have hn : depL ds + 1 ≤ n := hn
      have l1 : its.length = ds.length := by rw [← r.length, l.length]
      have l2 : its'.length = es.length := by rw [← r'.length, l'.length]
      refine SeqAt.EqAt.of_refs (fun z => same (by rw [z])) ?_
      show SeqAt.RcAt A s (.ref a) (.ref b) (deqL ds es)
      rw [← zipB_all ds es]
      by_cases hl : ds.length = es.length
      · have R := SeqAt.RcAt.lists (A := A) (s := s) (e := fun j => (zipB ds es).getD j true) p.isList p'.isList (by rw [List.size_toArray, List.size_toArray, l1, l2, hl]) (by omega) fun j h1 h2 => by
          have h1' : j < its.length := by simpa using h1
          have h2' : j < its'.length := by simpa using h2
          have := eqAts_D I ds es xs ys its its' A.in1 (n - 1) (by omega) (by show A.units + 1 + (n - 1) < cLine; omega) l l' r r' j h1' h2'
          simpa using this
        rw [List.size_toArray, l1] at R
        rw [← hl, Nat.min_self, beq_self_eq_true, Bool.and_true]
        exact R
      · have R := SeqAt.RcAt.lists_lengths (A := A) (s := s) p.isList p'.isList (by rw [List.size_toArray, List.size_toArray, l1, l2]; simpa using hl) (by omega)
        rw [show (ds.length == es.length) = false by simpa using hl, Bool.and_false]
        exact R
  | .tup ds, .lst es, x, y, u, v, A, n, hn, hu, h, g, rx, ry => by
    obtain ⟨a, xs, rfl, q, l⟩ := h
    obtain ⟨b, ys, rfl, q', l'⟩ := g
    cases rx
    cases ry
    obtain ⟨its, r, p, _⟩ := I.tuple q
    obtain ⟨its', r', p', _⟩ := I.list q'
    exact SeqAt.EqAt.tuple_list p p'.isList (by omega)
  | .lst ds, .tup es, x, y, u, v, A, n, hn, hu, h, g, rx, ry => by
    obtain ⟨a, xs, rfl, q, l⟩ := h
    obtain ⟨b, ys, rfl, q', l'⟩ := g
    cases rx
    cases ry
    obtain ⟨its, r, p, _⟩ := I.list q
    obtain ⟨its', r', p', _⟩ := I.tuple q'
    exact SeqAt.EqAt.list_tuple p.isList p' (by omega)
  | .non, .non, x, y, u, v, A, n, hn, hu, h, g, rx, ry => by cases (show x = _ from h); cases (show y = _ from g); exact eqAt_V rx ry rfl rfl
  | .non, .bl _, x, y, u, v, A, n, hn, hu, h, g, rx, ry => by cases (show x = _ from h); cases (show y = _ from g); exact eqAt_V rx ry rfl rfl
  | .non, .int _, x, y, u, v, A, n, hn, hu, h, g, rx, ry => by cases (show x = _ from h); cases (show y = _ from g); exact eqAt_V rx ry rfl rfl
  | .non, .str _, x, y, u, v, A, n, hn, hu, h, g, rx, ry => by cases (show x = _ from h); cases (show y = _ from g); exact eqAt_V rx ry rfl rfl
  | .bl _, .non, x, y, u, v, A, n, hn, hu, h, g, rx, ry => by cases (show x = _ from h); cases (show y = _ from g); exact eqAt_V rx ry rfl rfl
  | .bl _, .bl _, x, y, u, v, A, n, hn, hu, h, g, rx, ry => by cases (show x = _ from h); cases (show y = _ from g); exact eqAt_V rx ry rfl rfl
  | .bl _, .int _, x, y, u, v, A, n, hn, hu, h, g, rx, ry => by cases (show x = _ from h); cases (show y = _ from g); exact eqAt_V rx ry rfl rfl
  | .bl _, .str _, x, y, u, v, A, n, hn, hu, h, g, rx, ry => by cases (show x = _ from h); cases (show y = _ from g); exact eqAt_V rx ry rfl rfl
  | .int _, .non, x, y, u, v, A, n, hn, hu, h, g, rx, ry => by cases (show x = _ from h); cases (show y = _ from g); exact eqAt_V rx ry rfl rfl
  | .int _, .bl _, x, y, u, v, A, n, hn, hu, h, g, rx, ry => by cases (show x = _ from h); cases (show y = _ from g); exact eqAt_V rx ry rfl rfl
  | .int _, .int _, x, y, u, v, A, n, hn, hu, h, g, rx, ry => by cases (show x = _ from h); cases (show y = _ from g); exact eqAt_V rx ry rfl rfl
  | .int _, .str _, x, y, u, v, A, n, hn, hu, h, g, rx, ry => by cases (show x = _ from h); cases (show y = _ from g); exact eqAt_V rx ry rfl rfl
  | .str _, .non, x, y, u, v, A, n, hn, hu, h, g, rx, ry => by cases (show x = _ from h); cases (show y = _ from g); exact eqAt_V rx ry rfl rfl
  | .str _, .bl _, x, y, u, v, A, n, hn, hu, h, g, rx, ry => by cases (show x = _ from h); cases (show y = _ from g); exact eqAt_V rx ry rfl rfl
  | .str _, .int _, x, y, u, v, A, n, hn, hu, h, g, rx, ry => by cases (show x = _ from h); cases (show y = _ from g); exact eqAt_V rx ry rfl rfl
  | .str _, .str _, x, y, u, v, A, n, hn, hu, h, g, rx, ry => by cases (show x = _ from h); cases (show y = _ from g); exact eqAt_V rx ry rfl rfl
  | .tup ds, .non, x, y, u, v, A, n, hn, hu, ⟨a, xs, z, q, l⟩, g, rx, ry => by subst z; cases rx; cases (show y = _ from g); cases ry; obtain ⟨its, r, p, _⟩ := I.tuple q; exact SeqAt.EqAt.tuple_none p (by omega)
  | .tup ds, .bl _, x, y, u, v, A, n, hn, hu, ⟨a, xs, z, q, l⟩, g, rx, ry => by subst z; cases rx; cases (show y = _ from g); cases ry; obtain ⟨its, r, p, _⟩ := I.tuple q; exact SeqAt.EqAt.tuple_bool _ p (by omega)
  | .tup ds, .int _, x, y, u, v, A, n, hn, hu, ⟨a, xs, z, q, l⟩, g, rx, ry => by subst z; cases rx; cases (show y = _ from g); obtain ⟨t, rfl⟩ := ry; obtain ⟨its, r, p, _⟩ := I.tuple q; exact SeqAt.EqAt.tuple_int _ _ p (by omega)
  | .tup ds, .str _, x, y, u, v, A, n, hn, hu, ⟨a, xs, z, q, l⟩, g, rx, ry => by subst z; cases rx; cases (show y = _ from g); obtain ⟨t, rfl⟩ := ry; obtain ⟨its, r, p, _⟩ := I.tuple q; exact SeqAt.EqAt.tuple_str _ _ p (by omega)
  | .lst ds, .non, x, y, u, v, A, n, hn, hu, ⟨a, xs, z, q, l⟩, g, rx, ry => by subst z; cases rx; cases (show y = _ from g); cases ry; obtain ⟨its, r, p, _⟩ := I.list q; exact SeqAt.EqAt.list_none p.isList (by omega)
  | .lst ds, .bl _, x, y, u, v, A, n, hn, hu, ⟨a, xs, z, q, l⟩, g, rx, ry => by subst z; cases rx; cases (show y = _ from g); cases ry; obtain ⟨its, r, p, _⟩ := I.list q; exact SeqAt.EqAt.list_bool _ p.isList (by omega)
  | .lst ds, .int _, x, y, u, v, A, n, hn, hu, ⟨a, xs, z, q, l⟩, g, rx, ry => by subst z; cases rx; cases (show y = _ from g); obtain ⟨t, rfl⟩ := ry; obtain ⟨its, r, p, _⟩ := I.list q; exact SeqAt.EqAt.list_int _ _ p.isList (by omega)
  | .lst ds, .str _, x, y, u, v, A, n, hn, hu, ⟨a, xs, z, q, l⟩, g, rx, ry => by subst z; cases rx; cases (show y = _ from g); obtain ⟨t, rfl⟩ := ry; obtain ⟨its, r, p, _⟩ := I.list q; exact SeqAt.EqAt.list_str _ _ p.isList (by omega)
  | .non, .tup ds, x, y, u, v, A, n, hn, hu, g, ⟨a, xs, z, q, l⟩, rx, ry => by subst z; cases ry; cases (show x = _ from g); cases rx; obtain ⟨its, r, p, _⟩ := I.tuple q; exact SeqAt.EqAt.none_tuple p (by omega)
  | .bl _, .tup ds, x, y, u, v, A, n, hn, hu, g, ⟨a, xs, z, q, l⟩, rx, ry => by subst z; cases ry; cases (show x = _ from g); cases rx; obtain ⟨its, r, p, _⟩ := I.tuple q; exact SeqAt.EqAt.bool_tuple _ p (by omega)
  | .int _, .tup ds, x, y, u, v, A, n, hn, hu, g, ⟨a, xs, z, q, l⟩, rx, ry => by subst z; cases ry; cases (show x = _ from g); obtain ⟨t, rfl⟩ := rx; obtain ⟨its, r, p, _⟩ := I.tuple q; exact SeqAt.EqAt.int_tuple _ _ p (by omega)
  | .str _, .tup ds, x, y, u, v, A, n, hn, hu, g, ⟨a, xs, z, q, l⟩, rx, ry => by subst z; cases ry; cases (show x = _ from g); obtain ⟨t, rfl⟩ := rx; obtain ⟨its, r, p, _⟩ := I.tuple q; exact SeqAt.EqAt.str_tuple _ _ p (by omega)
  | .non, .lst ds, x, y, u, v, A, n, hn, hu, g, ⟨a, xs, z, q, l⟩, rx, ry => by subst z; cases ry; cases (show x = _ from g); cases rx; obtain ⟨its, r, p, _⟩ := I.list q; exact SeqAt.EqAt.none_list p.isList (by omega)
  | .bl _, .lst ds, x, y, u, v, A, n, hn, hu, g, ⟨a, xs, z, q, l⟩, rx, ry => by subst z; cases ry; cases (show x = _ from g); cases rx; obtain ⟨its, r, p, _⟩ := I.list q; exact SeqAt.EqAt.bool_list _ p.isList (by omega)
  | .int _, .lst ds, x, y, u, v, A, n, hn, hu, g, ⟨a, xs, z, q, l⟩, rx, ry => by subst z; cases ry; cases (show x = _ from g); obtain ⟨t, rfl⟩ := rx; obtain ⟨its, r, p, _⟩ := I.list q; exact SeqAt.EqAt.int_list _ _ p.isList (by omega)
  | .str _, .lst ds, x, y, u, v, A, n, hn, hu, g, ⟨a, xs, z, q, l⟩, rx, ry => by subst z; cases ry; cases (show x = _ from g); obtain ⟨t, rfl⟩ := rx; obtain ⟨its, r, p, _⟩ := I.list q; exact SeqAt.EqAt.str_list _ _ p.isList (by omega)
theorem eqAts_D (I : Inv X pins σ H s) : ∀ (ds es : List D) (xs ys : List V) (us vs : List Value) (A : Around) (n : Nat), depL ds ≤ n → A.units + n < cLine → AtL X.K H ds xs → AtL X.K H es ys → Vals xs us → Vals ys vs →
    ∀ (j : Nat) (h1 : j < us.length) (h2 : j < vs.length), SeqAt.EqAt A s us[j] vs[j] ((zipB ds es).getD j true)
  | [], es, xs, ys, us, vs, A, n, hn, hu, h, g, r, r', j, h1, h2 => by
    rw [show xs = [] from h] at r
    cases r
    cases h1
  | d :: ds, [], xs, ys, us, vs, A, n, hn, hu, h, g, r, r', j, h1, h2 => by
    rw [show ys = [] from g] at r'
    cases r'
    cases h2
  | d :: ds, e :: es, xs, ys, us, vs, A, n, hn, hu, ⟨x, q, z, h, t⟩, ⟨y, q', z', h', t'⟩, r, r', j, h1, h2 => by
    subst z
    subst z'
    have hn : max (dep d) (depL ds) ≤ n := hn
    cases r with
    | cons r0 r1 =>
      cases r' with
      | cons r0' r1' =>
        cases j with
        | zero => exact eqAt_D I d e x y _ _ A n (by omega) hu h h' r0 r0'
        | succ j => exact eqAts_D I ds es q q' _ _ A n (by omega) hu t t' r1 r1' j (Nat.lt_of_succ_lt_succ h1) (Nat.lt_of_succ_lt_succ h2)
end

/-- ==, != of two tuples, two lists, to the ground -/
def rEqD (K : PySem.W.Frag) (neg : Bool) : R2 := fun x y H Q => ∃ d e, At K H d x ∧ At K H e y ∧ ((∃ ds es, d = .tup ds ∧ e = .tup es) ∨ (∃ ds es, d = .lst ds ∧ e = .lst es)) ∧ dep d ≤ 50 ∧ Q (.bl (if neg then !deq d e else deq d e)) H
end
section
variable {X : Cx}
theorem op_eqD (hu : X.A.units + 64 < cLine) : OpR X (compareOp .Eq) (rEqD X.K false) := by
  intro pins s σ H x y v u Q I rx ry h
  obtain ⟨d, e, h1, h2, hk, hd, q⟩ := h
  have q : Q (.bl (deq d e)) H := q
  rcases hk with ⟨ds, es, rfl, rfl⟩ | ⟨ds, es, rfl, rfl⟩
  · obtain ⟨a, xs, rfl, p, l⟩ := h1
    obtain ⟨b, ys, rfl, p', l'⟩ := h2
    cases rx
    cases ry
    obtain ⟨its, r, t, _⟩ := I.tuple p
    obtain ⟨its', r', t', _⟩ := I.tuple p'
    have hd : depL ds + 1 ≤ 50 := hd
    have l1 : its.length = ds.length := by rw [← r.length, l.length]
    have l2 : its'.length = es.length := by rw [← r'.length, l'.length]
    refine SeqAt.eq_tupleAt (e := fun j => (zipB ds es).getD j true) t t' (by omega) (fun j h1 h2 => ?_) ⟨.bl (deqL ds es), H, I, ?_, q⟩
    · have h1' : j < its.length := by simpa using h1
      have h2' : j < its'.length := by simpa using h2
      have := eqAts_D I ds es xs ys its its' X.A.in1 49 (by omega) (by show X.A.units + 1 + 49 < cLine; omega) l l' r r' j h1' h2'
      simpa using this
    · show Value.bool _ = Value.bool _
      rw [List.size_toArray, List.size_toArray, l1, l2, zipB_all]
  · obtain ⟨a, xs, rfl, p, l⟩ := h1
    obtain ⟨b, ys, rfl, p', l'⟩ := h2
    cases rx
    cases ry
    obtain ⟨its, r, t, _⟩ := I.list p
    obtain ⟨its', r', t', _⟩ := I.list p'
    have hd : depL ds + 1 ≤ 50 := hd
    have l1 : its.length = ds.length := by rw [← r.length, l.length]
    have l2 : its'.length = es.length := by rw [← r'.length, l'.length]
    by_cases hl : ds.length = es.length
    · refine SeqAt.eq_listAt (e := fun j => (zipB ds es).getD j true) t.isList t'.isList (by rw [List.size_toArray, List.size_toArray, l1, l2, hl]) (by omega) (fun j h1 h2 => ?_) ⟨.bl (deqL ds es), H, I, ?_, q⟩
      · have h1' : j < its.length := by simpa using h1
        have h2' : j < its'.length := by simpa using h2
        have := eqAts_D I ds es xs ys its its' X.A.in1 49 (by omega) (by show X.A.units + 1 + 49 < cLine; omega) l l' r r' j h1' h2'
        simpa using this
      · show Value.bool _ = Value.bool _
        rw [List.size_toArray, l1, ← zipB_all ds es, ← hl, Nat.min_self, beq_self_eq_true, Bool.and_true]
    · refine SeqAt.eq_list_lengthsAt t.isList t'.isList (by rw [List.size_toArray, List.size_toArray, l1, l2]; simpa using hl) (by omega) ⟨.bl (deqL ds es), H, I, ?_, q⟩
      show Value.bool _ = Value.bool _
      rw [← zipB_all ds es, show (ds.length == es.length) = false by simpa using hl, Bool.and_false]
end
end L2

namespace L2
open PySem PySem.Spec PyProof.Rows
theorem bt_len : bootBuiltins "len" = some (.builtin "len") := by decide +kernel
theorem bt_all : bootBuiltins "all" = some (.builtin "all") := by decide +kernel
theorem bt_isinstance : bootBuiltins "isinstance" = some (.builtin "isinstance") := by decide +kernel
theorem bt_tuple : bootBuiltins "tuple" = some (.type "tuple") := by decide +kernel
theorem bt_list : bootBuiltins "list" = some (.type "list") := by decide +kernel
theorem bt_str : bootBuiltins "str" = some (.type "str") := by decide +kernel
theorem bt_int : bootBuiltins "int" = some (.type "int") := by decide +kernel
theorem bt_bool : bootBuiltins "bool" = some (.type "bool") := by decide +kernel
/-! ### a def by its name -/
structure Fn (P : Program) (w : World) (K : PySem.W.Frag) (mg : Str → Option Value) (base : Heap) (x : Str) (k : Nat) (sp : Sp) : Prop where
  ex : ∃ (f : Addr) (fd : FuncData) (ps : List Str), FnOk P w K mg base CX0 k f fd ps sp ∧ mg x = some (.ref f) ∧ PySem.W.keepIn K (.ref f) = true ∧ Binds K fd ps []
section
variable {X : Cx} {x : Str} {p pos : Pos} {e : Expr} {es : List Expr} {t : TA} {sp : Sp} {k : Nat}
theorem pe_fn (F : Fn X.prog X.w X.K X.mg X.base x k sp) (hr : Room k X.A) (hg : Gl X x) (ha : PA X (e :: es) t) (hdb : (x == ("__debug__" : Str)) = false := by decide)
    (he : starEach (e :: es) X.env = (false, eval e X.env) :: starEach es X.env := by rfl) (hpl : (backTo pos (starEach es X.env)).any (·.1) = false := by rfl) : PE X (.Call (.Name x p) (e :: es) [] pos) (tCall sp [] E0 t) := by
  obtain ⟨f, fd, ps, G, hm, hk, hb⟩ := F.ex
  exact pe_call G hr hg hm hk hb .nil pass0 ha hdb he hpl
end

/-- a constant of the module -/
def Cn (mg : Str → Option Value) (x : Str) (v : V) : Prop := ∃ u, mg x = some u ∧ RelV v u
theorem pe_cn {X : Cx} {x : Str} {v : V} {pos : Pos} (h : Cn X.mg x v) (hg : Gl X x) (hd : (x == ("__debug__" : Str)) = false := by decide) : PE X (.Name x pos) (tC v) := by
  obtain ⟨u, hm, r⟩ := h
  exact pe_glob hg hm r hd

/-! ### isinstance -/
theorem call_isi {X : Cx} : CallR X (.builtin "isinstance") (fun xs H Q => ∃ x c t b, (xs = [x, .ty c] ∧ TyOf X.K H x t ∧ PySem.W.kitOne X.K t (.type c) = some b) ∧ Q (.bl b) H) := by
  intro pins s σ H xs us Q I r h
  obtain ⟨x, c, t, b, ⟨rfl, ty, e⟩, q⟩ := h
  obtain ⟨u, v, rfl, ru, rv⟩ := vals2 r
  cases rv
  exact isinst_ok I ru ty e fun tk => ⟨.bl b, H, I.tok tk, rfl, q⟩
theorem kit_same {K : PySem.W.Frag} {t : String} : PySem.W.kitOne K (.type t) (.type t) = some true := by
  unfold PySem.W.kitOne
  rw [if_pos (by simp)]
theorem kit_int_bool {K : PySem.W.Frag} : PySem.W.kitOne K (.type "int") (.type "bool") = some false := by kernel_rfl

/-! ### all of a list of truths -/
theorem call_all {X : Cx} (hc : X.calm = true) : CallR X (.builtin "all") (fun xs H Q => ∃ (a : Addr) (bs : List Bool), xs = [.ref a] ∧ SqL X.K H a (bs.map V.bl) ∧ Q (.bl (bs.all id)) H) := by
  intro pins s σ H xs us Q I r h
  obtain ⟨l, bs, rfl, hq, q⟩ := h
  obtain ⟨u, rfl, ru⟩ := vals1 r
  cases ru
  obtain ⟨its, rv, pl, hz⟩ := I.list hq
  have hl := pl.isList
  have hh : X.A.handled = none := I.ok.hd hc
  have hlt : l < s.heap.objs.size := by obtain ⟨_, e, _⟩ := hl; exact Heap.lt_size e
  have hlen : its.length = bs.length := by rw [← rv.length, List.length_map]
  refine call_all_walk (wpAny_pyIter_list hl ?_)
  refine ⟨s.heap.objs.size, [s.heap.objs.size, l], [s.heap.objs.size], its.toArray.size, _, _, fun i => (bs[i]?).getD true, rfl, Walks.list (A := X.A.in1) hh _ l (Nat.ne_of_lt hlt) its.toArray,
    ⟨⟨_, Heap.get?_push_size _ rfl, rfl, rfl⟩, hl.push _⟩, fun i v s' Q' E' hP hQ => ?_, fun h' tk hk => ?_⟩
  · have hv : its[i]? = some v := by simpa using hP
    have hi : i < bs.length := by rw [← hlen]; exact (List.getElem?_eq_some_iff.mp hv).1
    obtain ⟨u', e1, e2⟩ := rv.get (i := i) (x := V.bl bs[i]) (by simp [hi])
    rw [hv] at e1
    cases e1
    have e2 : v = Value.bool bs[i] := e2
    subst e2
    simp only [List.getElem?_eq_getElem hi, Option.getD_some] at hQ
    exact wpAny_truthy_bool hQ
  · have e : ((List.range its.toArray.size).all fun i => (bs[i]?).getD true) = bs.all id := by
      rw [List.size_toArray, hlen]; exact LSm.range_all bs
    rw [e]
    exact ⟨.bl _, H, I.kept fun b o e => LSm.kept_iter hk b o e, rfl, q⟩

/-! ### text.split(sep), sep.join(texts) -/
theorem vals_strs {xs : List Str} : ∀ {us : List Value}, Vals (xs.map V.str) us → StrsAre us xs := by
  induction xs with
  | nil => intro us h; cases h; exact .nil
  | cons x r ih =>
    intro us h
    cases h with
    | cons q t =>
      obtain ⟨t', rfl⟩ := q
      exact .cons _ _ (ih t)
theorem vals_strValues : ∀ (l : List (Str × Tok)), Vals ((l.map (·.1)).map V.str) (strValues l)
  | [] => .nil
  | (x, t) :: r => .cons ⟨t, rfl⟩ (vals_strValues r)
def rSplit : V → List V → Hp → VK → Prop := fun x vs H Q => ∃ y z, x = .str y ∧ vs = [.str z] ∧ (z.length == 0) = false ∧ y.length ≤ 10000 ∧ ∀ p, H p = none → Q (.ref p) (upd H p (.lst ((Txt.split y z).map V.str)))
theorem mt_split {X : Cx} : MtR X "str.split" rSplit := by
  intro pins s σ H x vs v us Q I rx rv h
  obtain ⟨y, z, rfl, rfl, hz, hy, q⟩ := h
  obtain ⟨t, rfl⟩ := rx
  obtain ⟨u, rfl, t', rfl⟩ := rv.one
  have hyl : y.length ≤ sizeLine := Nat.le_trans hy (by decide)
  have hf0 : H s.heap.objs.size = none := I.fresh
  have one : Txt.split y z = [y] → EP X pins σ Q (.ref s.heap.objs.size) { s with heap := s.heap.push { cls := .type "list", data := .seq [Value.str y t].toArray } } := fun e => by
    refine ⟨.ref _, _, I.lnew (ys := [V.str y]) (its := [Value.str y t]) (t' := s.toks) (.cons ⟨t, rfl⟩ .nil) (by show 1 ≤ sizeLine; decide), rfl, ?_⟩
    have := q _ hf0
    rw [e] at this
    exact this
  cases h1 : (decide (y.length < z.length) || decide (Builtin.Str.strKind y < Builtin.Str.strKind z)) with
  | true => exact call_meets F.slot_str_split (typeIs_str _ _ _) F.entry_str_split (F.args_str_split_2 _ _) (meets_str_split_cannot_occur y z t t' h1) (one (if_pos h1))
  | false =>
    cases hf : (Builtin.Str.occurrences y z 0 y.length (y.length + 1)).isEmpty with
    | true => exact call_meets F.slot_str_split (typeIs_str _ _ _) F.entry_str_split (F.args_str_split_2 _ _) (meets_str_split_not_found y z t t' h1 hz hf) (one ((if_neg (ne_true_of_eq_false h1)).trans (if_pos hf)))
    | false =>
      have e : Txt.split y z = Builtin.Str.partsBetween y (Builtin.Str.occurrences y z 0 y.length (y.length + 1)) z.length := (if_neg (ne_true_of_eq_false h1)).trans (if_neg (ne_true_of_eq_false hf))
      have hl : (Txt.split y z).length ≤ sizeLine := Nat.le_trans (split_le y z) (Nat.le_trans (Nat.add_le_add_right hy 2) (by decide))
      refine call_meets F.slot_str_split (typeIs_str _ _ _) F.entry_str_split (F.args_str_split_2 _ _) (meets_str_split_sep y z t t' h1 hz hf hyl (by rw [← e]; exact hl)) ?_
      show EP X pins σ Q (.ref s.heap.objs.size) { s with toks := _, heap := s.heap.push { cls := .type "list", data := .seq (strsFrom s.toks (Builtin.Str.partsBetween y (Builtin.Str.occurrences y z 0 y.length (y.length + 1)) z.length)).toArray } }
      rw [strsFrom_eq]
      refine ⟨.ref _, _, I.lnew (ys := (Txt.split y z).map V.str) (its := strValues (numbered s.toks _)) ?_ ?_, rfl, q _ hf0⟩
      · have := vals_strValues (numbered s.toks (Builtin.Str.partsBetween y (Builtin.Str.occurrences y z 0 y.length (y.length + 1)) z.length))
        rw [numbered_texts] at this
        rw [e]
        exact this
      · rw [List.length_map]; exact hl
def rJoin (K : PySem.W.Frag) : V → List V → Hp → VK → Prop := fun x vs H Q => ∃ y a zs, x = .str y ∧ vs = [.ref a] ∧ (SqL K H a (zs.map V.str) ∨ SqT K H a (zs.map V.str)) ∧ (zs.map (·.length)).sum + zs.length * y.length ≤ 16777216 ∧ Q (.str (Str.join y zs)) H
theorem mt_join {X : Cx} : MtR X "str.join" (rJoin X.K) := by
  intro pins s σ H x vs v us Q I rx rv h
  obtain ⟨y, a, zs, rfl, rfl, hq, hz, q⟩ := h
  obtain ⟨t, rfl⟩ := rx
  obtain ⟨u, rfl, ru⟩ := rv.one
  cases ru
  have e : Txt.join y zs = Str.join y zs := StrLaws.glued_eq_join y zs
  rcases hq with hq | hq
  · obtain ⟨its, r, pl, _⟩ := I.list hq
    refine join_list pl.isList (by simpa using vals_strs r) hz fun t' k => ⟨.str (Str.join y zs), H, I.tok k, ⟨t', by rw [e]⟩, q⟩
  · obtain ⟨its, r, pl, _⟩ := I.tuple hq
    refine join_tuple pl (by simpa using vals_strs r) hz fun t' k => ⟨.str (Str.join y zs), H, I.tok k, ⟨t', by rw [e]⟩, q⟩

/-! ### walking the signs of a text -/
def Its (x : Str) : It := ⟨fun i _ => i < x.cps.size, fun i H v H' => H' = H ∧ ∃ c, x.cps.toList[i]? = some c ∧ v = .str ⟨#[c]⟩, fun i _ => i = x.cps.size⟩
theorem strIter_ok (x : Str) : ["enumerate", "zip", "dict_itemiterator", "dict_reverseitemiterator", "odict_iterator", "itertools.zip_longest", "itertools.pairwise"].contains (strIterType x) = false := by
  unfold strIterType
  split <;> decide
theorem walks_str {prog : Program} {w : World} {A : Around} (hh : A.handled = none) (I : Addr) (x : Str) (t : Tok) : Walks prog w A I [I] [I] x.cps.size (SignAt x) (fun i h => h.IsStrIter I (strIterType x) x t i) := by
  unfold strIterType
  split
  · exact Walks.strAscii hh I x t
  · exact Walks.strWide hh I x t
theorem self_str {prog : Program} {w : World} {A : Around} {I : Addr} {x : Str} {t : Tok} {i : Nat} {s : Shared} {Q : Value → Shared → Prop} {E : Value → Shared → Prop} (h : s.heap.IsStrIter I (strIterType x) x t i) (q : Q (.ref I) s) : wpAny (model prog w) A (pyIter (.ref I)) Q E s := by
  unfold strIterType at h
  split at h
  · exact wpAny_pyIter_striter_ascii h q
  · exact wpAny_pyIter_striter_wide h q
theorem turn_str {P : Program} {w : World} {K : PySem.W.Frag} {tg : Expr} (x : Str) (t : Tok) (it : Addr) : Turn P w K tg (Its x) [it] it (fun i h => h.IsStrIter it (strIterType x) x t i) where
  mem := by simp
  obj := fun i h st b hb => by
    have e : b = it := by simpa using hb
    subst e
    obtain ⟨o, e, c, d⟩ := st
    exact ⟨o, e, fun v z => by rw [d] at z; cases z⟩
  keep := fun i h h' st k => let ⟨o, ho, r⟩ := st; ⟨o, k it (by simp) o ho, r⟩
  item := by
    intro X hP hw hK hc i pins s σ H E I hf st hg
    subst hP hw hK
    obtain ⟨f0, f1, f2, f3, f4, f5⟩ := hf it (by simp)
    have W := walks_str (prog := X.prog) (w := X.w) (I.ok.hd hc) it x t
    refine W.item i s _ _ hg st fun v h' tk hv st' kk => ?_
    obtain ⟨c, u, hcu, rfl⟩ := hv
    have I1 : Inv X pins σ H { s with heap := h', toks := tk } := I.turned (fun b o hb e => kk b o (by simpa using hb) e) f0 f1 f3 f4 f5
    obtain ⟨o, e1, e2, e3⟩ := id st'
    refine ⟨_, rfl, go_of (s := { s with heap := h', toks := tk }) (n := strIterType x) e1 e2 e3 (strIter_ok x) ⟨.str ⟨#[c]⟩, H, I1, ⟨u, rfl⟩, ⟨rfl, c, by simpa using hcu, rfl⟩, st', fun b hb => (hf b hb).1⟩⟩
  done := by
    intro X hP hw hK hc i pins s σ H E I hf st hg
    subst hP hw hK
    obtain ⟨f0, f1, f2, f3, f4, f5⟩ := hf it (by simp)
    have hg : i = x.cps.size := hg
    subst hg
    have W := walks_str (prog := X.prog) (w := X.w) (I.ok.hd hc) it x t
    exact W.done s _ _ st fun h' tk kk => ⟨rfl, I.turned (fun b o hb e => kk b o (by simpa using hb) e) f0 f1 f3 f4 f5⟩
  self := fun _ _ _ _ _ st h => self_str st h
def iStr (tl : TE) : TI := fun σ H R => tl σ H fun x H1 => ∃ z, x = .str z ∧ R (Its z) H1
theorem pi_str {X : Cx} {tg l : Expr} {tl : TE} (hl : PE X l tl) : PI X tg l (iStr tl) := by
  intro pins s σ H R I h
  refine thn (hl pins s σ H _ I h) fun v s1 ⟨x, H1, I1, r1, q1⟩ => ?_
  obtain ⟨z, e, q⟩ := q1
  subst e
  obtain ⟨t, rfl⟩ := r1
  refine wpAny_pyIter_strU ?_
  refine ⟨s1.heap.objs.size, [s1.heap.objs.size], _, _, H1, rfl, I1.kept (t' := s1.toks) fun b o e => Heap.get?_push_of_some _ e, turn_str z t _, ⟨_, Heap.get?_push_size _ rfl, rfl, rfl⟩, fun b hb => ?_, q⟩
  have e : b = s1.heap.objs.size := by simpa using hb
  subst e
  exact I1.fpOk (Nat.le_refl _) I1.fresh

/-! ### what is walked, known from the start -/
structure SeqIt (J : It) (Ok : Hp → Prop) (vs : List V) : Prop where
  go : ∀ i H, Ok H → i < vs.length → J.go i H
  yld : ∀ i H x H', Ok H → i < vs.length → J.yld i H x H' → H' = H ∧ vs[i]? = some x
  stop : ∀ H, Ok H → J.stop vs.length H
theorem seq_range {lo : Int} {n : Nat} : SeqIt (Itr lo n) (fun _ => True) ((List.range n).map fun (i : Nat) => V.int (lo + (i : Int))) :=
  ⟨fun i H _ hi => (by simpa using hi : i < n), fun i H x H' _ hi y => ⟨y.1, by
    obtain ⟨_, e⟩ := y
    subst e
    have hi : i < n := by simpa using hi
    simp [hi]⟩, fun H _ => (by simp : n ≤ ((List.range n).map fun (i : Nat) => V.int (lo + (i : Int))).length)⟩
theorem seq_str {x : Str} : SeqIt (Its x) (fun _ => True) (x.cps.toList.map fun c => V.str ⟨#[c]⟩) :=
  ⟨fun i H _ hi => (by simpa using hi : i < x.cps.size), fun i H v H' _ _ y => ⟨y.1, by
    obtain ⟨_, c, e1, e2⟩ := y
    rw [List.getElem?_map, e1, e2]
    all_goals rfl⟩, fun H _ => (by simp : (x.cps.toList.map fun c => V.str ⟨#[c]⟩).length = x.cps.size)⟩
theorem for_seq {J : It} {Ok : Hp → Prop} {vs : List V} {g : TG} {tb : TS} {D : Ends} {σ : St} {H : Hp} (S : SeqIt J Ok vs) (Pv : Nat → St → Hp → Prop) (h0 : Pv 0 σ H) (hok : ∀ i σ H, i ≤ vs.length → Pv i σ H → Ok H)
    (hs : ∀ i x σ H, vs[i]? = some x → Pv i σ H → g x σ H fun σ2 H2 => tb { D with nx := Pv (i + 1), ct := Pv (i + 1), bk := D.nx } σ2 H2) (hd : ∀ σ H, Pv vs.length σ H → D.nx σ H) :
    ∃ W : Nat → Nat → St → Hp → Prop, (∃ m, W 0 m σ H) ∧ ∀ i m σ H, W i m σ H →
      (J.stop i H ∧ D.nx σ H) ∨ (J.go i H ∧ ∃ N : St → Hp → Prop, (∀ σ' H', N σ' H' → ∃ m', m' < m ∧ W (i + 1) m' σ' H') ∧ ∀ x H', J.yld i H x H' → g x σ H' fun σ2 H2 => tb { D with nx := N, ct := N, bk := D.nx } σ2 H2) := by
  refine ⟨fun i m σ H => m = vs.length - i ∧ i ≤ vs.length ∧ Pv i σ H, ⟨vs.length, by simp, Nat.zero_le _, h0⟩, ?_⟩
  rintro i m σ H ⟨rfl, hi, p⟩
  have q := hok i σ H hi p
  by_cases hlt : i < vs.length
  · refine .inr ⟨S.go i H q hlt, Pv (i + 1), fun σ' H' p' => ⟨vs.length - (i + 1), by omega, rfl, hlt, p'⟩, fun x H' y => ?_⟩
    obtain ⟨e, yy⟩ := S.yld i H x H' q hlt y
    subst e
    exact hs i x σ _ yy p
  · have e : i = vs.length := by omega
    subst e
    exact .inl ⟨S.stop H q, hd σ H p⟩
/-- a comprehension that changes nothing: p the places kept, F what holds of each new item -/
theorem comp_pure {J : It} {Ok : Hp → Prop} {vs : List V} {js : List Nat} {tt : TT} {te : TE} {σ : St} {H1 : Hp} {Q : VK} (S : SeqIt J Ok vs) (hn : vs.length ≤ 10000) (p : Nat → Bool) (F : Addr → Nat → V → Hp → Prop) (hok : ∀ H, Same H1 H → Ok H)
    (mono : ∀ D i y H H', H1 D = none → (∃ o, H D = some (.lst o)) → (∀ b o, b ≠ D → H b = some o → H' b = some o) → F D i y H → F D i y H')
    (hs : ∀ D i x H (Z0 : Hp → Prop) (Z : V → Hp → Prop), H1 D = none → vs[i]? = some x → Same H1 H → (∃ o, H D = some (.lst o)) → (∀ H2, Same H H2 → p i = false → Z0 H2) → (∀ y H2, Same H H2 → p i = true → F D i y H2 → Z y H2) →
      tt (some x :: caps js σ) H fun b H2 => if b = true then te (some x :: caps js σ) H2 Z else Z0 H2)
    (hd : ∀ D ys H, H1 D = none → H D = some (.lst ys) → Same H1 H → Paired (fun i y => F D i y H) ((List.range vs.length).filter p) ys → Q (.ref D) H) : bComp js tt te σ J H1 Q := by
  intro D hD
  have hz : 10000 < sizeLine := by decide
  refine ⟨fun i m H => m = vs.length - i ∧ i ≤ vs.length ∧ ∃ ys, H D = some (.lst ys) ∧ Same H1 H ∧ Paired (fun i y => F D i y H) ((List.range i).filter p) ys, ⟨vs.length, by simp, Nat.zero_le _, [], upd_same, Same.upd hD, .nil⟩, ?_⟩
  rintro i m H ⟨rfl, hi, ys, hDs, sm, pr⟩
  have q := hok H sm
  by_cases hlt : i < vs.length
  · refine .inr ⟨S.go i H q hlt, fun x H' y => ?_⟩
    obtain ⟨e, yy⟩ := S.yld i H x H' q hlt y
    subst e
    have rng : List.range (i + 1) = List.range i ++ [i] := List.range_succ
    have ln : ys.length ≤ i := by
      have h1 := pr.length
      have h2 : ((List.range i).filter p).length ≤ (List.range i).length := List.length_filter_le _ _
      rw [List.length_range] at h2
      omega
    refine hs D i x H' _ _ hD yy sm ⟨ys, hDs⟩ (fun H2 s2 hp => ?_) (fun z H2 s2 hp hF => ?_)
    · refine ⟨vs.length - (i + 1), by omega, rfl, hlt, ys, s2 _ _ hDs, sm.trans s2, ?_⟩
      rw [rng, List.filter_append, List.filter_cons, if_neg (by rw [hp]; exact Bool.false_ne_true), List.filter_nil, List.append_nil]
      exact Paired.mapP pr fun j z f => mono D j z H' H2 hD ⟨ys, hDs⟩ (fun b o _ e => s2 b o e) f
    · refine ⟨ys, s2 _ _ hDs, by omega, vs.length - (i + 1), by omega, rfl, hlt, ys ++ [z], upd_same, (sm.trans s2).upd2 hD, ?_⟩
      have up : ∀ b o, b ≠ D → H2 b = some o → upd H2 D (.lst (ys ++ [z])) b = some o := fun b o hb e => by rw [upd_ne hb]; exact e
      rw [rng, List.filter_append, List.filter_cons, if_pos hp, List.filter_nil]
      refine Paired.snoc (Paired.mapP pr fun j z' f => ?_) (mono D i z H2 _ hD ⟨ys, s2 _ _ hDs⟩ up hF)
      exact mono D j z' H2 _ hD ⟨ys, s2 _ _ hDs⟩ up (mono D j z' H' H2 hD ⟨ys, hDs⟩ (fun b o _ e => s2 b o e) f)
  · have e : i = vs.length := by omega
    subst e
    exact .inl ⟨S.stop H q, hd D ys H hD hDs sm pr⟩
/-- .. without a test -/
theorem comp_map {J : It} {Ok : Hp → Prop} {vs : List V} {js : List Nat} {te : TE} {σ : St} {H1 : Hp} {Q : VK} (S : SeqIt J Ok vs) (hn : vs.length ≤ 10000) (F : Addr → Nat → V → Hp → Prop) (hok : ∀ H, Same H1 H → Ok H)
    (mono : ∀ D i y H H', H1 D = none → (∃ o, H D = some (.lst o)) → (∀ b o, b ≠ D → H b = some o → H' b = some o) → F D i y H → F D i y H')
    (hs : ∀ D i x H (Z : V → Hp → Prop), H1 D = none → vs[i]? = some x → Same H1 H → (∃ o, H D = some (.lst o)) → (∀ y H2, Same H H2 → F D i y H2 → Z y H2) → te (some x :: caps js σ) H Z)
    (hd : ∀ D ys H, H1 D = none → H D = some (.lst ys) → Same H1 H → Paired (fun i y => F D i y H) (List.range vs.length) ys → Q (.ref D) H) : bComp js tYes te σ J H1 Q := by
  refine comp_pure S hn (fun _ => true) F hok mono (fun D i x H Z0 Z h1 h2 h3 h4 _ k1 => iteT (B := Z0 H) (hs D i x H Z h1 h2 h3 h4 fun y H2 s f => k1 y H2 s rfl f)) fun D ys H h1 h2 h3 pr => hd D ys H h1 h2 h3 ?_
  rw [List.filter_eq_self.mpr (fun _ _ => rfl)] at pr
  exact pr
end L2

namespace L2
open PySem PySem.Spec PyProof.Rows
/-! ### enumerate over a list that stays -/
def Iten (K : PySem.W.Frag) (a : Addr) (xs : List V) : It :=
  ⟨fun i H => SqL K H a xs ∧ i < xs.length, fun i H x H' => ∃ p v, H p = none ∧ x = .ref p ∧ xs[i]? = some v ∧ H' = upd H p (.tup [.int i, v]), fun i H => SqL K H a xs ∧ i = xs.length⟩
theorem turn_enum {P : Program} {w : World} {K : PySem.W.Frag} {elts : List Expr} {k : Nat} {pos : Pos} (a it e : Addr) (xs : List V) (hai : a ≠ it) (hae : a ≠ e) (hei : e ≠ it) :
    Turn P w K (.Tuple elts k pos) (Iten K a xs) [e, it] e (fun i h => (∃ old, IsEnum h e it i old) ∧ h.IsListIter it a i) where
  mem := by simp
  obj := fun i h st b hb => by
    obtain ⟨⟨old, he⟩, o, ho, hc, hd⟩ := st
    rcases List.mem_cons.mp hb with z | z
    · subst z
      exact ⟨_, he, fun v z => by
        have z' : Data.fields _ = Data.cell v := z
        cases z'⟩
    · have z : b = it := by simpa using z
      subst z
      exact ⟨o, ho, fun v z => by rw [hd] at z; cases z⟩
  keep := fun i h h' st kk => by
    obtain ⟨⟨old, he⟩, hit⟩ := st
    exact ⟨⟨old, kk e (by simp) _ he⟩, hit.at fun o q => kk it (by simp) o q⟩
  item := by
    intro X hP hw hK hc i pins s σ H E I hf st hg
    subst hP hw hK
    obtain ⟨⟨old, he⟩, hit⟩ := st
    obtain ⟨hq, hlt⟩ := hg
    obtain ⟨its, rv, p, hz⟩ := I.list hq
    have hl := rv.length
    obtain ⟨u0, hu0, ru0⟩ := rv.get (i := i) (x := xs[i]) (by simp [hlt])
    have fe := hf e (by simp)
    have fi := hf it (by simp)
    refine wpAny_pyNext_enum_itemD (Draws.list (prog := X.prog) (w := X.w) (A := X.A.in1) (I.ok.hd hc) it a hai its.toArray) he ⟨hit, p.isList⟩ (by rw [List.size_toArray]; omega) hei (by simp [hei, Ne.symm hae]) fun x h' tk hPx ho hs' hT hsz hk => ?_
    have hx : x = u0 := by
      have hPx : its.toArray[i]? = some x := hPx
      have : its[i]? = some x := by simpa using hPx
      rw [hu0] at this
      exact (Option.some.inj this).symm
    subst hx
    have fr : H s.heap.objs.size = none := I.fresh
    have neT : ∀ b o, H b = some o → b ≠ e ∧ b ≠ it := fun b o q => ⟨ne_of_none q fe.1, ne_of_none q fi.1⟩
    have I1 : Inv X pins σ (upd H s.heap.objs.size (.tup [.int i, xs[i]])) { s with heap := h', toks := tk + 1 } := by
      refine I.call' (s' := { s with heap := h', toks := tk + 1 }) (ch := [e, it]) rfl ⟨fun b o q n _ hx => hk b o (fun z => hx (by simp [z])) (fun z => hx (by simp [z])) q, fun b o q n _ hx => ⟨o.slots, hk b o (fun z => hx (by simp [z])) (fun z => hx (by simp [z])) q⟩,
        fun b o q n hx => by rw [upd_ne (Nat.ne_of_lt (Heap.lt_size q))]; exact n, fun b o q hx => ⟨o, hk b o (fun z => hx (by simp [z])) (fun z => hx (by simp [z])) q⟩,
        fun b ys q => by rw [upd_ne (ne_of_none q fr)]; exact q, fun b ob ys q => by rw [upd_ne (ne_of_none q fr)]; exact q, fun b ps q => ⟨#[], by rw [upd_ne (ne_of_none q fr), q]; simp⟩⟩ (fun b o q => ?_) I.bare (fun b hb => ?_)
      · by_cases hb : b = s.heap.objs.size
        · subst hb
          rw [upd_same] at q
          cases q
          exact ⟨by show 2 ≤ sizeLine; decide, [.int i tk, x], .cons ⟨tk, rfl⟩ (.cons ru0 .nil), ⟨_, hT, rfl, _, rfl⟩⟩
        · rw [upd_ne hb] at q
          refine (I.hok b o q).stay (fun c v hc q' => ?_) (fun c q' => by rw [upd_ne (ne_of_none q' fr)]; exact q') fun c ys q' => by rw [upd_ne (ne_of_none q' fr)]; exact q'
          rcases hc with z | z
          · subst z
            exact hk c v (neT c o q).1 (neT c o q).2 q'
          · exact hk c v (neT c _ z).1 (neT c _ z).2 q'
      · have z : b = e ∨ b = it := by simpa using hb
        rcases z with z | z
        · subst z
          exact ⟨fe.2.2.2.1, fe.2.1, fe.2.2.2.2.1, fe.2.2.2.2.2⟩
        · subst z
          exact ⟨fi.2.2.2.1, fi.2.1, fi.2.2.2.2.1, fi.2.2.2.2.2⟩
    have he0 : ∀ b ∈ [e, it], upd H s.heap.objs.size (.tup [.int i, xs[i]]) b = none := fun b hb => by
      have z : b = e ∨ b = it := by simpa using hb
      have hlt2 : b < s.heap.objs.size := by
        rcases z with z | z
        · subst z; exact Heap.lt_size he
        · subst z; obtain ⟨o, q, _⟩ := hit; exact Heap.lt_size q
      rw [upd_ne (Nat.ne_of_lt hlt2)]
      rcases z with z | z
      · subst z; exact fe.1
      · subst z; exact fi.1
    refine ⟨_, rfl, wpAny_letOwnedTupleGo_enum (s := { s with heap := h', toks := tk + 1 }) ho fun h2 he2 hs2 => ?_⟩
    have I2 : Inv X pins σ (upd H s.heap.objs.size (.tup [.int i, xs[i]])) { s with heap := h2, toks := tk + 1 } :=
      Inv.turned (s := { s with heap := h', toks := tk + 1 }) (h' := h2) (t' := tk + 1) (it := e) I1 (fun b o hb q => (hs2.2 b hb).trans q) (he0 e (by simp)) fe.2.1 fe.2.2.2.1 fe.2.2.2.2.1 fe.2.2.2.2.2
    refine ⟨.ref s.heap.objs.size, _, I2, rfl, ⟨_, _, fr, rfl, by simp [hlt], rfl⟩, ⟨⟨x, ?_⟩, hs'.1.at fun o q => (hs2.2 it (Ne.symm hei)).trans q⟩, he0⟩
    have e1 : ((i + 1 : Nat) : Int) = (i : Int) + 1 := by omega
    rw [e1]
    exact he2
  done := by
    intro X hP hw hK hc i pins s σ H E I hf st hg
    subst hP hw hK
    obtain ⟨⟨old, he⟩, hit⟩ := st
    obtain ⟨hq, hlt⟩ := hg
    obtain ⟨its, rv, p, hz⟩ := I.list hq
    have hl := rv.length
    have fi := hf it (by simp)
    have ei : i = its.toArray.size := by rw [List.size_toArray]; omega
    refine wpAny_pyNext_enum_endD (Draws.list (prog := X.prog) (w := X.w) (A := X.A.in1) (I.ok.hd hc) it a hai its.toArray) he ⟨by rw [← ei]; exact hit, p.isList⟩ fun h' eb => ⟨rfl, ?_⟩
    exact I.turned (t' := s.toks) (it := it) (fun b o hb q => eb b o hb q) fi.1 fi.2.1 fi.2.2.2.1 fi.2.2.2.2.1 fi.2.2.2.2.2
  self := fun _ _ _ _ _ st h => by
    obtain ⟨⟨old, he⟩, _⟩ := st
    exact wpAny_pyIter_enum he h
def iEnum (K : PySem.W.Frag) (ta : TA) : TI := fun σ H R => ta σ H fun vs H1 => ∃ a xs, vs = [.ref a] ∧ SqL K H1 a xs ∧ R (Iten K a xs) H1
theorem pi_enum {X : Cx} {elts : List Expr} {k : Nat} {tpos : Pos} {a : Expr} {ta : TA} {p pos : Pos} (hg : Gl X "enumerate") (hm : X.mg "enumerate" = none) (ha : PA X [a] ta) (hs : starEach [a] X.env = [(false, eval a X.env)] := by rfl) :
    PI X (.Tuple elts k tpos) (.Call (.Name "enumerate" p) [a] [] pos) (iEnum X.K ta) := by
  intro pins s σ H R I h
  refine Call_ (ld_blt I hg hm boot_enumerate (PyProof.Rows.callWith_type1 (thn (ha pos pins s σ H _ I h) fun us s1 ⟨vs, H1, I1, r1, q1⟩ => ?_) hs rfl))
  obtain ⟨l, xs, e, hq, q⟩ := q1
  subst e
  obtain ⟨u, rfl, ru⟩ := vals1 r1
  cases ru
  obtain ⟨its, rv, pl, hz⟩ := I1.list hq
  have hlt : l < s1.heap.objs.size := by obtain ⟨o, n, e, _⟩ := pl; exact Heap.lt_size e
  refine call_enumerate_list pl.isList fun h' he hli hsz hk => ?_
  have I2 : Inv X pins σ H1 { s1 with heap := h' } := I1.kept (t' := s1.toks) hk
  refine wpAny_pyIter_enum (s := { s1 with heap := h' }) he ?_
  refine ⟨s1.heap.objs.size + 1, [s1.heap.objs.size + 1, s1.heap.objs.size], _, _, H1, rfl, I2, turn_enum l s1.heap.objs.size (s1.heap.objs.size + 1) xs (Nat.ne_of_lt hlt) (Nat.ne_of_lt (Nat.lt_succ_of_lt hlt)) (Nat.succ_ne_self _), ⟨⟨.none, he⟩, hli⟩, fun b hb => ?_, q⟩
  have z : b = s1.heap.objs.size + 1 ∨ b = s1.heap.objs.size := by simpa using hb
  rcases z with z | z
  · subst z; exact I1.fpOk (Nat.le_succ _) (I1.hok.fresh (Nat.le_succ _))
  · subst z; exact I1.fpOk (Nat.le_refl _) I1.fresh
theorem for_enum {K : PySem.W.Frag} {a : Addr} {xs : List V} {g : TG} {tb : TS} {D : Ends} {σ : St} {H : Hp} (Pv : Nat → St → Hp → Prop) (h0 : Pv 0 σ H) (hl : ∀ i σ H, i ≤ xs.length → Pv i σ H → SqL K H a xs)
    (hs : ∀ i x p σ H, xs[i]? = some x → Pv i σ H → H p = none → g (.ref p) σ (upd H p (.tup [.int i, x])) fun σ2 H2 => tb { D with nx := Pv (i + 1), ct := Pv (i + 1), bk := D.nx } σ2 H2) (hd : ∀ σ H, Pv xs.length σ H → D.nx σ H) :
    ∃ W : Nat → Nat → St → Hp → Prop, (∃ m, W 0 m σ H) ∧ ∀ i m σ H, W i m σ H →
      ((Iten K a xs).stop i H ∧ D.nx σ H) ∨ ((Iten K a xs).go i H ∧ ∃ N : St → Hp → Prop, (∀ σ' H', N σ' H' → ∃ m', m' < m ∧ W (i + 1) m' σ' H') ∧ ∀ x H', (Iten K a xs).yld i H x H' → g x σ H' fun σ2 H2 => tb { D with nx := N, ct := N, bk := D.nx } σ2 H2) := by
  refine ⟨fun i m σ H => m = xs.length - i ∧ i ≤ xs.length ∧ Pv i σ H, ⟨xs.length, by simp, Nat.zero_le _, h0⟩, ?_⟩
  rintro i m σ H ⟨rfl, hi, p⟩
  have q := hl i σ H hi p
  by_cases hlt : i < xs.length
  · refine .inr ⟨⟨q, hlt⟩, Pv (i + 1), fun σ' H' p' => ⟨xs.length - (i + 1), by omega, rfl, hlt, p'⟩, fun x H' y => ?_⟩
    obtain ⟨pp, v, hn, e1, e2, e3⟩ := y
    subst e1 e3
    exact hs i v pp σ H e2 p hn
  · have e : i = xs.length := by omega
    subst e
    exact .inl ⟨⟨q, rfl⟩, hd σ H p⟩
end L2
namespace L2
open PySem PySem.Spec PyProof.Rows
/-! ### x[lo:hi] of a text -/
def rSlS : V → Option Int → Option Int → Hp → VK → Prop := fun x lo hi H Q => ∃ z, x = .str z ∧ z.length ≤ sizeLine ∧ Q (.str (Txt.slice z lo hi)) H
theorem part_of {v : Value} {o : Option Int} (p : IsPart v o) : ∃ l : Option (Int × Tok), v = partValue l ∧ l.map (·.1) = o := by
  cases p with
  | none => exact ⟨none, rfl, rfl⟩
  | int i t => exact ⟨some (i, t), rfl, rfl⟩
theorem sl_str {X : Cx} : SlR X rSlS := by
  intro pins s σ H x v vl vu lo hi sl Q I rx hs pl pu h
  obtain ⟨z, rfl, hz, q⟩ := h
  obtain ⟨t, rfl⟩ := rx
  obtain ⟨l, rfl, rfl⟩ := part_of pl
  obtain ⟨u, rfl, rfl⟩ := part_of pu
  exact ⟨"str", _, F.slot_str_getitem.lookup, typeIs_str _ _ _, wpAny_getItem_str_slice (l := l) (u := u) (st := none) hs rfl
    (post_val_or_str ⟨Nat.le_trans (Txt.slice_le z _ _) hz, fun t' k => ⟨.str (Txt.slice z _ _), H, I.tok k, ⟨t', rfl⟩, q⟩⟩)⟩
end L2
namespace L2
open PySem PySem.Spec PyProof.Rows
/-- for i in range(n) -/
theorem for_range0 {n : Nat} {g : TG} {tb : TS} {D : Ends} {σ : St} {H : Hp} (Pv : Nat → St → Hp → Prop) (h0 : Pv 0 σ H)
    (hs : ∀ (i : Nat) σ H, i < n → Pv i σ H → g (.int (i : Int)) σ H fun σ2 H2 => tb { D with nx := Pv (i + 1), ct := Pv (i + 1), bk := D.nx } σ2 H2) (hd : ∀ σ H, Pv n σ H → D.nx σ H) :
    ∃ W : Nat → Nat → St → Hp → Prop, (∃ m, W 0 m σ H) ∧ ∀ i m σ H, W i m σ H →
      ((Itr 0 n).stop i H ∧ D.nx σ H) ∨ ((Itr 0 n).go i H ∧ ∃ N : St → Hp → Prop, (∀ σ' H', N σ' H' → ∃ m', m' < m ∧ W (i + 1) m' σ' H') ∧ ∀ x H', (Itr 0 n).yld i H x H' → g x σ H' fun σ2 H2 => tb { D with nx := N, ct := N, bk := D.nx } σ2 H2) :=
  for_range Pv h0 (fun i σ H hi p => by rw [Int.zero_add]; exact hs i σ H hi p) hd
theorem Paired.get {α β : Type} {R : α → β → Prop} : ∀ {l : List α} {m : List β} {i : Nat} {y : β}, Paired R l m → m[i]? = some y → ∃ x, l[i]? = some x ∧ R x y
  | _, _, _, _, .nil, e => by simp at e
  | _, _, 0, _, .cons r _, e => by simp at e; subst e; exact ⟨_, rfl, r⟩
  | _, _, i + 1, y, .cons _ t, e => by
    obtain ⟨x, h1, h2⟩ := Paired.get (i := i) (y := y) t (by simpa using e)
    exact ⟨x, by simpa using h1, h2⟩
end L2
namespace L2
open PySem PySem.Spec PyProof.Rows
/-! ### two ways that meet: I holds behind both -/
def tJoin (t : TS) : TS := fun D σ H => ∃ I : St → Hp → Prop, (∀ σ' H', I σ' H' → D.nx σ' H') ∧ t { D with nx := I } σ H
theorem ps_join {X : Cx} {st : Stmt} {t : TS} (h : PS X st t) : PS X st (tJoin t) := by
  intro pins s σ H D I q
  obtain ⟨J, hJ, q⟩ := q
  refine thn (h pins s σ H _ I q) fun f s' hs => ?_
  cases f with
  | next => obtain ⟨σ', H', I', z⟩ := hs; exact ⟨σ', H', I', hJ _ _ z⟩
  | brk => exact hs
  | cont => exact hs
  | ret u => exact hs
end L2

namespace L2
open PySem PySem.Spec PyProof.Rows
/-! ### reversed(t) of a tuple -/
def IsRv (h : Heap) (a l : Addr) (i : Int) : Prop := ∃ o, h.get? a = some o ∧ o.cls = .type "reversed" ∧ o.data = .fields #[.ref l, rawInt i]
theorem IsRv.typeIs {s : Shared} {a l : Addr} {i : Int} (x : IsRv s.heap a l i) : s.TypeIs (.ref a) "reversed" := let ⟨o, ho, hc, _⟩ := x; ⟨o, ho, hc⟩
theorem IsRv.at {h h' : Heap} {a l : Addr} {i : Int} (x : IsRv h a l i) (e : ∀ o, h.get? a = some o → h'.get? a = some o) : IsRv h' a l i := let ⟨o, ho, r⟩ := x; ⟨o, e _ ho, r⟩
section
variable {prog : Program} {w : World} {A : Around} {E : Value → Shared → Prop} {s : Shared}
end
/-! ### x[::-1] of a text -/
end L2

namespace L2
open PySem PySem.Spec PyProof.Rows
/-! ### what stands in the heap, looked up step by step -/
end L2

namespace L2
open PySem PySem.Spec PyProof.Rows
/-! ### a def with one default (a constant) -/
structure FunD (K : PySem.W.Frag) (x qual : Str) (st : Stmt) (f : Addr) (fd : FuncData) (d : Value) : Prop where
  ex : ∃ (oc : Value) (od : Option Addr) (T : Addr) (kV doc pm : Value) (an : Option Addr) (cdv ct : Value) (osl : Array (Option Value)),
    fd = PySem.W.fnOf x qual (defArgs st) (defBody st) (defScope st) (.ref T) kV doc pm an cdv ct ∧ K.lookup f = some ⟨oc, od, .func fd, osl⟩ ∧ PySem.W.codeIn K cdv qual = true ∧
    ∃ (od' : Option Addr) (n : Nat) (sl' : Array (Option Value)), K.lookup T = some ⟨.type "tuple", od', .seq #[d] n, sl'⟩
  kp : PySem.W.keepIn K (.ref f) = true
section
variable {P : Program} {w : World} {K : PySem.W.Frag} {mg : Str → Option Value} {base : Heap}
theorem FunD.ok {x qual : Str} {st : Stmt} {f : Addr} {fd : FuncData} {d : Value} {N ps : List Str} {k : Nat} {sp : Sp} (F : FunD K x qual st f fd d) (S : FnScope N ps (defScope st)) (len : ∀ vs H Q E, sp vs H Q E → vs.length = ps.length)
    (hbody : ∀ (cdv : Value) (A : Around) (outer : List Env) (s : Shared) (H : Hp) (vs : List V) (Q : VK) (E : XK), Room k (A.deeper (envOfC qual (defScope st) s.heap.objs.size f cdv)) → sp vs H Q E →
      ∃ t, PSs (cxOf CX0 P w K mg base N qual (defScope st) f cdv A outer s H E).nox (defBody st) t ∧ t { nx := fun _ H' => Q .non H', rt := Q } (start N vs) H) : FnOk P w K mg base CX0 (k + 1) f fd ps sp := by
  obtain ⟨oc, od, T, kV, doc, pm, an, cdv, ct, osl, rfl, lk, hcd, _⟩ := F.ex
  refine fn_of lk hcd S len fun A outer s H vs Q E hr hsp => ?_
  obtain ⟨t, h, q⟩ := hbody cdv A outer s H vs Q E hr hsp
  exact ⟨t, h.nox, q⟩
/-- how its arguments bind; n of them are given -/
theorem FunD.binds {x qual : Str} {st : Stmt} {f : Addr} {fd : FuncData} {d : Value} {ps : List Str} {ds : List Value} (F : FunD K x qual st f fd d)
    (h : ∀ (T : Addr) (kV doc pm : Value) (an : Option Addr) (cdv ct : Value) (s : Shared) (us : List Value) (od' : Option Addr) (n : Nat) (sl' : Array (Option Value)), s.heap.get? T = some ⟨.type "tuple", od', .seq #[d] n, sl'⟩ → (us ++ ds).length = ps.length →
      BindsTo s (PySem.W.fnOf x qual (defArgs st) (defBody st) (defScope st) (.ref T) kV doc pm an cdv ct) ⟨us, []⟩ (ps.zip (us ++ ds))) : Binds K fd ps ds := by
  obtain ⟨oc, od, T, kV, doc, pm, an, cdv, ct, osl, rfl, lk, hcd, od', n, sl', hT⟩ := F.ex
  intro s us KX hl
  exact h T kV doc pm an cdv ct s us od' n sl' (KX _ _ hT) hl
/-! ### a method by its name, a class by its name -/
structure Mt (P : Program) (w : World) (K : PySem.W.Frag) (mg : Str → Option Value) (base : Heap) (C : Addr) (m : Str) (k : Nat) (sp : Sp) (dvs : List V) : Prop where
  cl : Cls K C
  ex : ∃ (f : Addr) (fd : FuncData) (ps : List Str) (ds : List Value), Meth K C m f ∧ FnOk P w K mg base CX0 k f fd ps sp ∧ Binds K fd ps ds ∧ Vals dvs ds
structure Nw (P : Program) (w : World) (K : PySem.W.Frag) (mg : Str → Option Value) (base : Heap) (x : Str) (C : Addr) (k : Nat) (sp : Sp) : Prop where
  ex : ∃ (f : Addr) (fd : FuncData) (ps : List Str), Mk K C f ∧ FnOk P w K mg base CX0 k f fd ps sp ∧ Binds K fd ps [] ∧ mg x = some (.ref C)
end
section
variable {X : Cx} {C : Addr} {x m : Str} {p pos apos : Pos} {e o : Expr} {es : List Expr} {t : TA} {ta : TE} {sp : Sp} {k : Nat} {dvs : List V} {pl : Sem Bool}
end
/-! ### x is not False -/
section
variable {X : Cx} {a : Expr} {ta : TE} {pos : Pos}
end
/-! ### within a comprehension: the module's objects told by name -/
section
variable {X : Cx} {K : PySem.W.Frag} {o e : Expr} {es : List Expr} {to : TE} {t : TA} {name : Str} {apos cpos pos : Pos} {T id : String}
theorem pe_ixK {a i : Expr} {ta ti : TE} {rr : PySem.W.Frag → R2} (hK : X.K = K) (hr : IxR X (rr X.K)) (ha : PE X a ta) (hi : PE X i ti) (hp : PlainIx i) : PE X (.Subscript a i pos) (tOp (rr K) ta ti) := by
  subst hK
  exact pe_ix hr ha hi hp
end
end L2

namespace L2
open PySem PySem.Spec PyProof.Rows
/-! ### an own exception, below another own one, with an __init__ of its own: made -/
section
variable {prog : Program} {w : World} {A : Around} {E : Value → Shared → Prop} {h : Heap} {g : Array GenState} {d : Drawn} {t : Nat} {os : OsState}
variable {nm q : Str} {C N : Addr} {bs bm bmB : List Value} {hdct : Bool} {sn : List Str} {sub : List Value} {ab : Bool} {col : Option Bool} {dd : Option Addr} {k0 k1 k2 k3 k5 : Option Value} {B newId initId : String}
abbrev rawE (C : Addr) (u : Addr) : Obj := { cls := .ref C, data := .fields #[.ref u, .none, .none, .none, .bool false, .none] }
abbrev rawT (vs : List Value) : Obj := { cls := .type "tuple", data := .seq vs.toArray }
theorem tcall_x (F : ExcBaseFacts B newId initId bmB) (T : OwnTail h bmB bm) {mN : Str → Option Value} {vs : List Value} {fI : Addr} {oI : Obj} {Q : Fin → Shared → Prop}
    (hC : h.get? C = some (excClassObj nm q C N bs bm hdct sn sub ab col dd k0 k1 k2 k3 k5 newId)) (hn : h.Ns N mN) (hi : mN "__init__" = some (.ref fI)) (hf : h.get? fI = some oI) (hfc : oI.cls = .type "function") (hz : vs.length ≤ sizeLine)
    (fin : wpAny (model prog w) A (call (.ref fI) (.ref (h.objs.size + 1) :: vs)) (fun r s' => r = .none ∧ Q (.done (.ret (.ref (h.objs.size + 1)))) s') E ⟨(h.push (rawT vs)).push (rawE C h.objs.size), g, d, t, os⟩) :
    wpAny (model prog w) A (Builtin.«type.__call__» ⟨.ref C :: vs, []⟩) Q E ⟨h, g, d, t, os⟩ := by
  repeat (first | with_reducible refine wpAny_loadPart_at hC ?_ | with_reducible refine wpAny_madeBy_exc hC ?_ | wp_step)
  refine codeAny_call_builtin_code (Code.quiet_builtin _ F.quiet) (wpAny_check_new_subT F T hC (codeAny_exc_new_subT F T hC ?_ hz))
  show wpAny _ _ _ _ _ _
  have up : ∀ b o, h.get? b = some o → ((h.push (rawT vs)).push (rawE C h.objs.size)).get? b = some o := fun b o e => Heap.get?_push_of_some _ (Heap.get?_push_of_some _ e)
  have c1 := up _ _ hC
  have f1 := up _ _ hf
  have n1 : ((h.push (rawT vs)).push (rawE C h.objs.size)).Ns N mN := hn.keeps up
  have e1 : ((h.push (rawT vs)).push (rawE C h.objs.size)).get? (h.objs.size + 1) = some (rawE C h.objs.size) := by heap_get
  have cc : (Value.ref C :: bm).contains (.ref C) = true := by simp
  have T1 := T.keeps up
  unfold isInstance
  repeat (first | with_reducible refine wpAny_loadPart_at e1 ?_ | (with_reducible refine wpAny_isSubtype_exc c1 ?_; rw [cc]) | wp_step)
  show wpAny _ _ (typeLookup (.ref C) _) _ _ _
  refine wpAny_typeLookup_tail c1 n1 T1 F.mroIs F.init.lookup ?_
  rw [hi]
  refine wpAny_holding (wpAny_bind ?_)
  unfold bindSpecial
  refine wpAny_bind (wpAny_typeOf (T := "function") ⟨_, f1, hfc⟩ ?_)
  rw [if_pos (by decide)]
  refine wpAny_pure (wpAny_bind (wpAny_mono fin (fun r s' hr => ?_) fun _ _ x => x))
  obtain ⟨rfl, hQ⟩ := hr
  wp_walk
  exact hQ
theorem call_x (F : ExcBaseFacts B newId initId bmB) (T : OwnTail h bmB bm) {mN : Str → Option Value} {vs : List Value} {fI : Addr} {oI : Obj} {Q : Value → Shared → Prop}
    (hC : h.get? C = some (excClassObj nm q C N bs bm hdct sn sub ab col dd k0 k1 k2 k3 k5 newId)) (hn : h.Ns N mN) (hi : mN "__init__" = some (.ref fI)) (hf : h.get? fI = some oI) (hfc : oI.cls = .type "function") (hz : vs.length ≤ sizeLine)
    (fin : wpAny (model prog w) (A.under (.builtin "type.__call__" ⟨.ref C :: vs, []⟩)) (call (.ref fI) (.ref (h.objs.size + 1) :: vs)) (fun r s' => r = .none ∧ Q (.ref (h.objs.size + 1)) s') E ⟨(h.push (rawT vs)).push (rawE C h.objs.size), g, d, t, os⟩) :
    wpAny (model prog w) A (call (.ref C) vs) Q E ⟨h, g, d, t, os⟩ := by
  have f1 := tc_lookup
  have f2 := tc_bind (.ref C)
  have hT : (⟨h, g, d, t, os⟩ : Shared).TypeIs (.ref C) "type" := ⟨_, hC, rfl⟩
  refine wpAny_call (codeAny_of_tree ?_)
  show wpAny _ _ (callAny (.ref C) _) _ _ _
  repeat (any_goals (first | assumption | with_reducible refine wpAny_loadPart_at hC ?_ | wp_step))
  refine ⟨rfl, codeAny_call_builtin_at (Code.quiet_builtin _ (by decide +kernel)) entry_typeCall (wpAny_check_type_call_sub hC (tcall_x F T hC hn hi hf hfc hz fin))⟩
end
end L2

namespace L2
open PySem PySem.Spec PyProof.Rows
section
variable {prog : Program} {w : World} {A : Around} {E : Value → Shared → Prop} {h : Heap} {g : Array GenState} {d : Drawn} {t : Nat} {os : OsState}
variable {nm q : Str} {C N : Addr} {bs bm bmB : List Value} {hdct : Bool} {sn : List Str} {sub : List Value} {ab : Bool} {col : Option Bool} {dd : Option Addr} {k0 k1 k2 k3 k5 : Option Value} {B newId initId nid : String}
abbrev excObj (C : Addr) (od : Option Addr) (u : Addr) : Obj := { cls := .ref C, dict := od, data := .fields #[.ref u, .none, .none, .none, .bool false, .none] }
/-- the base's own __init__: the texts are kept -/
theorem binit_x (F : ExcBaseFacts B newId initId bmB) (T : OwnTail h bmB bm) {e u : Addr} {od : Option Addr} {v : Value} {Q : Value → Shared → Prop}
    (hC : h.get? C = some (excClassObj nm q C N bs bm hdct sn sub ab col dd k0 k1 k2 k3 k5 newId)) (he : h.get? e = some (excObj C od u))
    (fin : ∀ h', h'.get? e = some (excObj C od h.objs.size) → h'.get? h.objs.size = some (rawT [v]) → (∀ b o, b ≠ e → h.get? b = some o → h'.get? b = some o) → Q .none ⟨h', g, d, t, os⟩) :
    wpAny (model prog w) A (call (.builtin initId) [.ref e, v]) Q E ⟨h, g, d, t, os⟩ := by
  refine wpAny_call (codeAny_call_builtin F.init.plain F.initEntry (wpAny_check_init_subT F T hC he rfl ?_))
  have e1 : (h.push (rawT [v])).get? e = some (excObj C od u) := Heap.get?_push_of_some _ he
  wp_walk
  refine fin _ ?_ ?_ fun b o hb z => ?_
  · rw [Heap.get?_update_self _ e1 rfl]
    rfl
  · rw [Heap.get?_update_other _ _ (Nat.ne_of_lt (Heap.lt_size he))]
    exact Heap.get?_push_size _ rfl
  · rw [Heap.get?_update_other _ _ (Ne.symm hb)]
    exact Heap.get?_push_of_some _ z
end
end L2

namespace L2
open PySem PySem.Spec PyProof.Rows
abbrev bmV : List Value := [.type "ValueError", .type "Exception", .type "BaseException", .type "object"]
section
variable {prog : Program} {w : World} {A : Around} {E : Value → Shared → Prop} {s : Shared} {K : PySem.W.Frag} {C CE e u : Addr} {cd : ClassData} {name : Str} {v : Value}
theorem refuse_b (self : Value) : refuseLoop self "__setattr__" bmV = pure () := by kernel_rfl
theorem refuse_x (self : Value) : refuseLoop self "__setattr__" (.ref C :: .ref CE :: bmV) = pure () := by
  rw [refuseLoop_ref, refuseLoop_ref]
  exact refuse_b self
theorem xset {Q : Unit → Shared → Prop} (X : K.In s.heap) (hc : PySem.W.clsIn K C = some cd) (hm : cd.mro = .ref C :: .ref CE :: bmV) (hd : cd.hasDict = true) (hs : PySem.W.findIn K (.ref C) "__setattr__" = some (some (.builtin "object.__setattr__")))
    (ht : PySem.W.takerIn K C name = some none) (he : s.heap.get? e = some (excObj C none u))
    (fin : ∀ h', h'.get? e = some (excObj C (some s.heap.objs.size) u) → h'.Ns1 s.heap.objs.size (fun y => if y = name then some v else none) → (∀ b o, b ≠ e → s.heap.get? b = some o → h'.get? b = some o) → Q () { s with heap := h', toks := s.toks + 2 }) :
    wpAny (model prog w) A (setAttr (.ref e) name v) Q E s := by
  have J : PySem.W.InstAt s.heap e (excObj C none u) C none := ⟨he, rfl, rfl, trivial⟩
  refine PySem.W.set_plain X J hs ?_
  have SF := PySem.F.store_object
  have sub : PySem.W.Looks (model prog w) s.heap (isInstance (.ref e) (.type "object")) true := J.type.andThen (PySem.W.looks_mroIn X (by unfold PySem.W.mroIn; rw [hc, Option.bind_some, hm]; rfl))
  refine codeAny_call_builtin SF.slot.plain SF.entry (@PySem.W.check_slot (model prog w) _ _ { s with toks := s.toks + 1 } "object.__setattr__" "object" "__setattr__" (.ref e) [.str name s.toks, v] [] _ SF.kind SF.split sub (SF.args (.ref e) (.str name s.toks) v) ?_)
  obtain ⟨attr, ha, hr⟩ := Option.bind_eq_some_iff.mp ht
  have lm : PySem.W.Looks (model prog w) s.heap (mroOf (.ref C)) cd.mro := (PySem.W.looks_clsIn X hc).andThen .now
  have lt : PySem.W.Looks (model prog w) s.heap (Builtin.ObjectAttr.storeTaker? attr) none := by
    cases attr with
    | none => cases hr; exact .now
    | some a =>
      obtain ⟨b, hb, hb2⟩ := Option.map_eq_some_iff.mp hr
      refine (PySem.W.looks_takesIn X hb).andThen ?_
      cases b
      · exact .now
      · cases hb2
  rw [PySem.W.osa_eq, refuse_eq]
  refine wpAny_bind (wpAny_bind (J.type.here (s := { s with toks := s.toks + 1 }) (wpAny_bind (lm.here (s := { s with toks := s.toks + 1 }) ?_))))
  rw [hm, refuse_x]
  refine wpAny_pure (wpAny_bind (J.type.here (s := { s with toks := s.toks + 1 }) (wpAny_bind ((PySem.W.looks_findIn X ha).here (s := { s with toks := s.toks + 1 }) (wpAny_bind (lt.here (s := { s with toks := s.toks + 1 }) ?_))))))
  refine wpAny_bind (wpAny_pure (wpAny_bind (wpAny_bind (wpAny_loadPart he (wpAny_bind (PySem.W.Looks.here (s := { s with toks := s.toks + 1 }) (PySem.W.looks_clsIn X hc) ?_))))))
  rw [hd]
  rw [if_neg (by decide)]
  refine wpAny_bind (wpAny_alloc (wpAny_bind (wpAny_update (o := excObj C none u) (Heap.get?_push_of_some _ he) (wpAny_pure ?_))))
  have hlt : e < s.heap.objs.size := Heap.lt_size he
  have e1 : ((s.heap.push { cls := .type "dict", data := .dict #[] }).update e fun o => { o with dict := some s.heap.objs.size }).get? e = some (excObj C (some s.heap.objs.size) u) := by
    rw [Heap.get?_update_self _ (Heap.get?_push_of_some _ he) rfl]
  have e2 : ((s.heap.push { cls := .type "dict", data := .dict #[] }).update e fun o => { o with dict := some s.heap.objs.size }).get? s.heap.objs.size = some { cls := .type "dict", data := .dict #[] } := by
    rw [Heap.get?_update_other _ _ (Nat.ne_of_lt hlt)]
    exact Heap.get?_push_size _ rfl
  have e3 : ∀ b o, b ≠ e → s.heap.get? b = some o → ((s.heap.push { cls := .type "dict", data := .dict #[] }).update e fun o => { o with dict := some s.heap.objs.size }).get? b = some o := fun b o hb z => by
    rw [Heap.get?_update_other _ _ (Ne.symm hb)]
    exact Heap.get?_push_of_some _ z
  have n0 : ((s.heap.push { cls := .type "dict", data := .dict #[] }).update e fun o => { o with dict := some s.heap.objs.size }).Ns1 s.heap.objs.size (fun _ => none) :=
    Heap.Ns1.of_empty ⟨_, #[], _, e2, rfl, (fun x hx => absurd hx (by simp)), fun _ => rfl⟩
  revert e1 e2 e3 n0
  generalize ((s.heap.push { cls := .type "dict", data := .dict #[] }).update e fun o => { o with dict := some s.heap.objs.size }) = h1
  intro e1 e2 e3 n0
  refine wpAny_bind (wpAny_pure (wpAny_bind ?_))
  refine wpAny_nsSet1 (s := { s with heap := h1, toks := s.toks + 1 }) n0 fun h' n1 sb => ?_
  obtain ⟨oD, esD, epD, g1, g2, g3⟩ := n1.count (PySem.Within.cons name v PySem.Within.nil)
  refine wpAny_bind (wpAny_lookBehind g1 (by rw [g2]; exact pastItsLine_dict (Nat.le_trans g3 (by show 1 ≤ sizeLine + 1; exact Nat.le_add_left _ _))) ?_)
  exact wpAny_pure (fin h' ((sb.2 _ (Nat.ne_of_lt hlt)).trans e1) n1 fun b o hb z => (sb.2 b (Nat.ne_of_lt (Heap.lt_size z))).trans (e3 b o hb z))
end
end L2

namespace L2
open PySem PySem.Spec PyProof.Rows
abbrev excObjV (C : Addr) (od : Option Addr) (vs : Array Value) : Obj := { cls := .ref C, dict := od, data := .fields vs }
section
variable {prog : Program} {w : World} {A : Around} {E : Value → Shared → Prop} {s : Shared} {K : PySem.W.Frag} {C CE e dx : Addr} {vs : Array Value} {cd : ClassData} {name : Str} {v : Value} {mA : Str → Option Value}
theorem bexc_ga_bind (self : Value) : bindSpecial (.builtin "BaseException.__getattribute__") self = pure (.builtin "BaseException.__getattribute__", [self]) := by kernel_rfl
theorem xget {expr : Bool} {Q : Value → Shared → Prop} (X : K.In s.heap) (hc : PySem.W.clsIn K C = some cd) (hm : cd.mro = .ref C :: .ref CE :: bmV) (hd : PySem.W.hasDictIn K C = true)
    (hg : PySem.W.findIn K (.ref C) "__getattribute__" = some (some (.builtin "BaseException.__getattribute__"))) (hga : PySem.W.findIn K (.ref C) "__getattr__" = some none)
    (ha : PySem.W.findIn K (.ref C) name = some none) (he : s.heap.get? e = some (excObjV C (some dx) vs)) (hn : s.heap.Ns1 dx mA) (hv : mA name = some v) (hv' : PySem.W.handedIn v = true) (h : Q v { s with toks := s.toks + 1 }) :
    wpAny (model prog w) A (getAttr (.ref e) name expr) Q E s := by
  obtain ⟨od, ho, hl⟩ := lookIn_ns hn
  have J : PySem.W.InstAt s.heap e (excObjV C (some dx) vs) C (some od) := ⟨he, rfl, rfl, ho⟩
  have L0 := J.type (M := model prog w)
  have L1 := PySem.W.looks_findIn (M := model prog w) X hg
  have L2x := PySem.W.looks_findIn (M := model prog w) X hga
  have L3 := PySem.W.looks_find (M := model prog w) X J (PySem.W.findObj_own hd ha rfl (by rw [hl, hv]))
  have sub : PySem.W.Looks (model prog w) s.heap (isInstance (.ref e) (.type "BaseException")) true := J.type.andThen (PySem.W.looks_mroIn X (by unfold PySem.W.mroIn; rw [hc, Option.bind_some, hm]; rfl))
  have hk : builtinKind "BaseException.__getattribute__" = some .slot := by decide +kernel
  have hsplit : splitId "BaseException.__getattribute__" = some ("BaseException", "__getattribute__") := by decide +kernel
  have hx0 : (expr && onTheHeap (Value.builtin "BaseException.__getattribute__")) = false := by cases expr <;> rfl
  have hx2 : (Value.builtin "BaseException.__getattribute__" == Value.builtin "object.__getattribute__") = false := by decide +kernel
  have hx1 : (onTheHeap (Value.ref C) && Value.builtin "BaseException.__getattribute__" == Value.builtin "object.__getattribute__") = false := by rw [hx2]; rfl
  obtain ⟨hh, g, d, t, os⟩ := s
  unfold getAttr getAttrBy
  refine wpAny_bind (wpAny_mkText (wpAny_holding (wpAny_bind (L0.at (wpAny_bind (L1.at ?_))))))
  dsimp only
  rw [hx1]
  show wpAny _ _ (getAttrByItsOwn _ _ _ _ _ _) _ _ _
  unfold getAttrByItsOwn hookBefore
  refine wpAny_bind ?_
  rw [if_pos (show onTheHeap (Value.ref C) = true from rfl)]
  refine L2x.at (wpAny_bind (wpAny_attempt (wpAny_holding ?_)))
  unfold callGetattribute
  rw [hx0, if_neg (by decide)]
  unfold boundAndCalled
  rw [bexc_ga_bind]
  refine wpAny_bind (wpAny_pure (wpAny_call ?_))
  refine codeAny_call_builtin (by decide +kernel) F.entry_bexc_ga (@PySem.W.check_slot (model prog w) _ _ ⟨hh, g, d, t + 1, os⟩ "BaseException.__getattribute__" "BaseException" "__getattribute__" (.ref e) [.str name t] [] _ hk hsplit sub (F.args_bexc_ga _ _) ?_)
  refine wpAny_bind (wpAny_pure (wpAny_bind (wpAny_pure (wpAny_bind (L0.at (wpAny_bind (L3.at ?_)))))))
  refine wpAny_pure ?_
  show wpAny _ _ (handedOut v) _ _ _
  rw [PySem.W.handedOut_of hv']; exact wpAny_pure h
end
end L2

namespace L2
open PySem PySem.Spec PyProof.Rows
/-! ### an own exception with its dict: tracked by what stays of it -/
abbrev XObj (C dx e : Addr) : HO := .ext fun h => ∃ vs : Array Value, vs.size = 6 ∧ h.get? e = some (excObjV C (some dx) vs)
theorem xobj_ok {P : Program} {w : World} {H : Hp} {h : Heap} {C dx e : Addr} {vs : Array Value} (hs : vs.size = 6) (he : h.get? e = some (excObjV C (some dx) vs)) : ObjOk P w H h e (XObj C dx e) :=
  ⟨⟨vs, hs, he⟩, ⟨_, he⟩, fun _ _ ⟨vs', hs', he'⟩ k => ⟨vs', hs', k _ he'⟩⟩
/-- it has no traceback yet; it has one, whose last entry is ours -/
def XRaw (h : Heap) (e C dx : Addr) : Prop := ∃ vs : Array Value, vs.size = 6 ∧ h.get? e = some (excObjV C (some dx) vs) ∧ vs[1]? = some .none
def XTb (pn : List (Addr × Obj)) (n₀ : Nat) (H : Hp) (h : Heap) (e C dx : Addr) (fl : Value → Prop) : Prop :=
  ∃ (vs : Array Value) (T : Addr) (oT : Obj) (ts : Array Value) (v : Value), (∀ p ∈ pn, p.1 ≠ T) ∧ vs.size = 6 ∧ h.get? e = some (excObjV C (some dx) vs) ∧ vs[1]? = some (.ref T) ∧ n₀ ≤ T ∧ H T = none ∧ T ≠ e ∧ h.get? T = some oT ∧ oT.data = .fields ts ∧ ts[3]? = some v ∧ fl v
section
variable {X : Cx} {σ : St} {H : Hp} {s : Shared} {e C dx : Addr} {h' : Heap}
/-- what passing does: frames get slots, the exception a traceback -/
theorem Inv.eff (I : Inv X [] σ H s) (he : H e = some (XObj C dx e)) {ch : List Addr} (hch : ∀ b ∈ ch, (∀ p ∈ X.pn, p.1 ≠ b) ∧ X.s₀.heap.objs.size ≤ b ∧ H b = none ∧ ∃ o vs, s.heap.get? b = some o ∧ o.data = .fields vs)
    (k1 : ∀ b o, b ∉ frs X.stack → b ≠ e → b ∉ ch → s.heap.get? b = some o → h'.get? b = some o) (k2 : ∀ b o, b ∈ frs X.stack → b ≠ e → b ∉ ch → s.heap.get? b = some o → ∃ sl, h'.get? b = some { o with slots := sl })
    {vs : Array Value} (hs : vs.size = 6) (hn : h'.get? e = some (excObjV C (some dx) vs)) : Inv X [] σ H { s with heap := h' } := by
  have hne : ∀ b, H b = none → b ≠ e := fun b z y => by rw [y, he] at z; cases z
  have hnc : ∀ b u, H b = some u → b ∉ ch := fun b u z y => by rw [(hch b y).2.2.1] at z; cases z
  refine I.call (g' := s.gens) (d' := s.drawn) (t' := s.toks) (ch := ch) ⟨fun b o q n hb hc => k1 b o hb (hne b n) hc q, fun b o q n hb hc => k2 b o hb (hne b n) hc q, fun _ _ _ n _ => n, fun b o q hc => ?_, fun _ _ z => z, fun _ _ _ z => z, fun b ps z => ⟨#[], by rw [z]; simp⟩⟩ (fun b u z => ?_) I.bare fun b hb => ?_
  · by_cases h1 : b = e
    · subst h1; exact ⟨_, hn⟩
    · by_cases h2 : b ∈ frs X.stack
      · obtain ⟨sl, z⟩ := k2 b o h2 h1 hc q
        exact ⟨_, z⟩
      · exact ⟨_, k1 b o h2 h1 hc q⟩
  · by_cases h1 : b = e
    · subst h1
      rw [he] at z; cases z
      exact xobj_ok hs hn
    · have nf : ∀ c v, H c = some v → c ∉ frs X.stack := fun c v y m => by rw [I.stkFree c m] at y; cases y
      refine (I.hok b u z).stay (fun c v hc q => ?_) (fun _ q => q) fun _ _ q => q
      rcases hc with y | y
      · subst y; exact k1 c v (nf c u z) h1 (hnc c u z) q
      · exact k1 c v (nf c _ y) (fun m => by rw [m, he] at y; cases y) (hnc c _ y) q
  · obtain ⟨h0, h1, h2, o, vs', h3, h4⟩ := hch b hb
    refine ⟨.inr h1, ?_, fun x c q m => ?_, fun p hp => ?_⟩
    · intro m
      obtain ⟨m', ⟨oL, es, ep, q, d, _⟩, _⟩ := I.loc
      rw [← m, h3] at q; cases q
      rw [h4] at d; cases d
    · obtain ⟨v, oc, q2, d⟩ := I.cell x c q
      rw [m, h3] at q2; cases q2
      rw [h4] at d; cases d
    · rw [List.append_nil] at hp; exact h0 p hp

theorem note_x {M : Model} {E : Value → Shared → Prop} {Q : Unit → Shared → Prop} (I : Inv X [] σ H s) (hst : X.stack = X.env :: X.outer) (hf : X.env.frame = some X.env.locals) (he : H e = some (XObj C dx e))
    (hx : XRaw s.heap e C dx ∨ XTb X.pn X.s₀.heap.objs.size H s.heap e C dx (fun v => v = .none ∨ v = rawInt X.env.locals))
    (fin : ∀ s', Inv X [] σ H s' → XTb X.pn X.s₀.heap.objs.size H s'.heap e C dx (fun v => v = rawInt X.env.locals) → Q () s') : wpAny M X.A (noteFrame (.ref e) X.env) Q E s := by
  have core : ∀ (s : Shared) (head : Value) (vs : Array Value) (hadNext : Bool), Inv X [] σ H s → vs.size = 6 → s.heap.get? e = some (excObjV C (some dx) vs) →
      wpAny M X.A (do setField (.ref e) 1 (← EntryCells.newEntry head (← frameOf X.env) .none (rawInt X.env.locals) .none (← entryPlaceOf X.env.locals hadNext))) Q E s := by
    intro s head vs hadNext I hs hv
    have hl := I.stack
    rw [hst] at hl
    refine wpAny_bind (wpAny_frameOf_fun (by rw [← hst]; exact I.ok.frames) hl hf fun h₁ hs₁ => ?_)
    refine wpAny_bind (wpAny_entryPlaceOf fun pl hpl => ?_)
    unfold EntryCells.newEntry newFields
    refine wpAny_bind (wpAny_newObj_type ?_ (hpl.sizeOk5 _ _ _ _ _))
    have fr : (X.env :: X.outer).filterMap (·.frame) = frs X.stack := by rw [hst]; rfl
    rw [fr] at hs₁
    have hene : e ∉ frs X.stack := fun hm => by rw [I.stkFree e hm] at he; cases he
    have he₁ : h₁.get? e = some (excObjV C (some dx) vs) := (hs₁.2.1 e hene).trans hv
    have hsz : h₁.objs.size = s.heap.objs.size := hs₁.1
    generalize hO : ({ cls := .type "traceback", dict := none, data := .fields ([head, .ref X.env.locals, .none, rawInt X.env.locals, .none] ++ (if pl.isEmpty then List.replicate 6 Value.none else pl)).toArray } : Obj) = oT
    have dT : ∃ ts : Array Value, oT.data = .fields ts ∧ ts[3]? = some (rawInt X.env.locals) := by
      subst hO; exact ⟨_, rfl, by first | (simp; done) | (rcases hpl with rfl | ⟨_, _, _, _, _, _, _, rfl⟩ <;> simp)⟩
    have fT : oT.isFreed = false := by subst hO; rfl
    have he₂ := Heap.get?_push_of_some (h := h₁) oT he₁
    refine wpAny_setField he₂ rfl (by omega) ?_
    have hTe : h₁.objs.size ≠ e := Nat.ne_of_gt (Heap.lt_size he₁)
    have he₃ := Heap.get?_update_self (Obj.mapFields (·.setIfInBounds 1 (Value.ref h₁.objs.size))) he₂ (Obj.isFreed_of_fields (Obj.data_mapFields (o := excObjV C (some dx) vs) rfl (·.setIfInBounds 1 (Value.ref h₁.objs.size))))
    have hT₃ := (Heap.get?_update_other (h₁.push oT) (Obj.mapFields (·.setIfInBounds 1 (Value.ref h₁.objs.size))) (Ne.symm hTe)).trans (Heap.get?_push_size h₁ fT)
    have hv3 : Obj.mapFields (·.setIfInBounds 1 (Value.ref h₁.objs.size)) (excObjV C (some dx) vs) = excObjV C (some dx) (vs.setIfInBounds 1 (Value.ref h₁.objs.size)) := rfl
    rw [hv3] at he₃
    have keep : ∀ b o, b ≠ e → h₁.get? b = some o → ((h₁.push oT).update e (Obj.mapFields (·.setIfInBounds 1 (Value.ref h₁.objs.size)))).get? b = some o := fun b o hbe hb => by
      rw [Heap.get?_update_other _ _ (Ne.symm hbe)]
      exact Heap.get?_push_of_some _ hb
    revert he₃ hT₃ keep
    generalize ((h₁.push oT).update e (Obj.mapFields (·.setIfInBounds 1 (Value.ref h₁.objs.size)))) = h₃
    intro he₃ hT₃ keep
    refine fin _ (I.eff he (ch := []) (fun _ z => nomatch z) (fun b o hb hbe _ q => keep b o hbe ((hs₁.2.1 b hb).trans q)) (fun b o hb hbe _ q => ?_) (by simpa using hs) he₃) ?_
    · obtain ⟨sl, z⟩ := hs₁.2.2 b o q
      exact ⟨sl, keep b _ hbe z⟩
    · obtain ⟨ts, d1, d2⟩ := dT
      exact ⟨_, h₁.objs.size, oT, ts, _, fun p hp m => Nat.lt_irrefl _ (m ▸ hsz ▸ Heap.lt_size (I.pin p (List.mem_append_left _ hp)).1), by simpa using hs, he₃, by simp [hs], by rw [hsz]; exact I.sz, I.hok.fresh (Nat.le_of_eq hsz.symm), hTe, hT₃, d1, d2, rfl⟩
  unfold noteFrame
  simp only [hf]
  rcases hx with ⟨vs, hs, hv, h1⟩ | ⟨vs, T, oT, ts, v, hp, hs, hv, h1, hn, hT0, hTe, hT, hd, h3, hfl⟩
  · refine wpAny_bind (wpAny_field hv rfl h1 ?_)
    rw [if_neg (by decide)]
    exact core s _ vs _ I hs hv
  · refine wpAny_bind (wpAny_field hv rfl h1 ?_)
    rw [if_pos (show (Value.ref T != Value.none) = true from by simp)]
    refine wpAny_bind (wpAny_field hT hd h3 ?_)
    by_cases hvL : v = rawInt X.env.locals
    · rw [if_pos (by rw [hvL]; simp)]
      exact wpAny_pure (fin s I ⟨vs, T, oT, ts, v, hp, hs, hv, h1, hn, hT0, hTe, hT, hd, h3, hvL⟩)
    · have hv0 : v = .none := hfl.resolve_right hvL
      rw [if_neg (by rw [hv0]; simp [rawInt])]
      refine wpAny_bind (wpAny_setField hT hd (Array.getElem?_eq_some_iff.mp h3).1 ?_)
      have other : ∀ b, b ≠ T → (s.heap.update T (Obj.mapFields (·.setIfInBounds 3 Value.none))).get? b = s.heap.get? b := fun b hb => Heap.get?_update_other _ _ (Ne.symm hb)
      refine core { s with heap := s.heap.update T (Obj.mapFields (·.setIfInBounds 3 Value.none)) } _ vs _ (I.eff he (ch := [T]) (fun b hb => ?_) (fun b o _ _ hc q => (other b fun z => hc (by simp [z])).trans q)
        (fun b o _ _ hc q => ⟨o.slots, (other b fun z => hc (by simp [z])).trans q⟩) hs ((other e (Ne.symm hTe)).trans hv)) hs ((other e (Ne.symm hTe)).trans hv)
      have z : b = T := by simpa using hb
      subst z
      exact ⟨hp, hn, hT0, oT, ts, hT, hd⟩

theorem flight_x {M : Model} {A : Around} {E : Value → Shared → Prop} {Q : Unit → Shared → Prop} {fl : Value → Prop} (fr : Option Addr) (I : Inv X [] σ H s) (he : H e = some (XObj C dx e))
    (hx : XTb X.pn X.s₀.heap.objs.size H s.heap e C dx fl)
    (fin : ∀ s', Inv X [] σ H s' → XTb X.pn X.s₀.heap.objs.size H s'.heap e C dx (fun v => v = fr.elim .none fun f => rawInt f) → Q () s') : wpAny M A (setFlight (.ref e) fr) Q E s := by
  obtain ⟨vs, T, oT, ts, v, hp, hs, hv, h1, hn, hT0, hTe, hT, hd, h3, hfl⟩ := hx
  have h3s := (Array.getElem?_eq_some_iff.mp h3).1
  unfold setFlight
  refine wpAny_bind (wpAny_field hv rfl h1 ?_)
  rw [if_pos (show (Value.ref T != Value.none) = true from by simp)]
  refine wpAny_setField hT hd h3s ?_
  have other : ∀ b, b ≠ T → (s.heap.update T (Obj.mapFields (·.setIfInBounds 3 (fr.elim Value.none fun f => rawInt f)))).get? b = s.heap.get? b := fun b hb => Heap.get?_update_other _ _ (Ne.symm hb)
  refine fin _ (I.eff he (ch := [T]) (fun b hb => ?_) (fun b o _ _ hc q => (other b fun z => hc (by simp [z])).trans q)
    (fun b o _ _ hc q => ⟨o.slots, (other b fun z => hc (by simp [z])).trans q⟩) hs ((other e (Ne.symm hTe)).trans hv)) ?_
  · have z : b = T := by simpa using hb
    subst z
    exact ⟨hp, hn, hT0, oT, ts, hT, hd⟩
  · exact ⟨vs, T, _, _, _, hp, hs, (other e (Ne.symm hTe)).trans hv, h1, hn, hT0, hTe, Heap.get?_update_self _ hT (Obj.isFreed_of_fields (Obj.data_mapFields hd _)), Obj.data_mapFields hd _, by simp [h3s], rfl⟩
end
end L2

namespace L2
open PySem PySem.Spec PyProof.Rows
/-! ### exceptions that leave -/
/-- an exception on its way out of X's body -/
def Fxs (X : Cx) (E : St → XK) (v : Value) (s : Shared) : Prop :=
  ∃ (e C dx : Addr) (σ : St) (H : Hp), v = .ref e ∧ Inv X [] σ H s ∧ H e = some (XObj C dx e) ∧ (XRaw s.heap e C dx ∨ XTb X.pn X.s₀.heap.objs.size H s.heap e C dx (fun v => v = .none ∨ v = rawInt X.env.locals)) ∧ E σ (.ref C) (some e) H
abbrev Fx (X : Cx) (E : XK) : Value → Shared → Prop := Fxs X fun _ => E
/-- behind a call -/
def CXx (P : Program) (w : World) : CXT := fun outer H s E v s' => ∃ (e C dx : Addr) (H' : Hp), v = .ref e ∧ s'.os = s.os ∧ AllBare s'.gens ∧ Un (frs outer) [] H H' s.heap s'.heap ∧ HOk P w H' s'.heap ∧ H' e = some (XObj C dx e) ∧
  XTb [] s.heap.objs.size H' s'.heap e C dx (fun v => v = .none) ∧ E (.ref C) (some e) H'
theorem XTb.imp {pn pm : List (Addr × Obj)} {n m : Nat} {H : Hp} {h : Heap} {e C dx : Addr} {f g : Value → Prop} (x : XTb pn n H h e C dx f) (hm : m ≤ n) (k : ∀ v, f v → g v) (hp : (∀ p ∈ pm, p.1 < n) ∨ pm = pn) : XTb pm m H h e C dx g := by
  obtain ⟨vs, T, oT, ts, v, a0, a1, a2, a3, a4, a5, a6, a7, a8, a9, a10⟩ := x
  refine ⟨vs, T, oT, ts, v, ?_, a1, a2, a3, Nat.le_trans hm a4, a5, a6, a7, a8, a9, k v a10⟩
  rcases hp with hp | rfl
  · exact fun p hq m => Nat.lt_irrefl _ (Nat.lt_of_lt_of_le (m ▸ hp p hq) a4)
  · exact a0
theorem Inv.nopins {X : Cx} {pins : List (Addr × Obj)} {σ : St} {H : Hp} {s : Shared} (I : Inv X pins σ H s) : Inv X [] σ H s := I.pins_of fun _ z => nomatch z
section
variable {X : Cx} {E : XK}
/-- it comes out of a call -/
theorem pass_x {E' : XK} (hE : ∀ c o H, E' c o H → E c o H) : Passes (CXx X.prog X.w) (X.wish (Fx X E)) E' := by
  intro pins σ H s v s' I h
  obtain ⟨e, C, dx, H', ev, ho, hb, un, hok, he, tb, q⟩ := h
  subst ev
  have I1 : Inv X pins σ H s := I.unwish
  exact ⟨e, C, dx, σ, H', rfl, (I1.call' (ch := []) ho un hok hb fun _ z => nomatch z).nopins, he, .inr (tb.imp I1.sz (fun _ z => .inl z) (.inl fun p hp => Heap.lt_size (I1.pin p (List.mem_append_left _ hp)).1)), hE _ _ _ q⟩
/-- it goes through a loop -/
theorem own_x {M : Model} {E : St → XK} (hst : X.stack = X.env :: X.outer) (hf : X.env.frame = some X.env.locals) : PassesOwn M X.A X.env (Fxs X E) := by
  intro v s ⟨e, C, dx, σ, H, ev, I, he, hx, q⟩
  subst ev
  refine note_x I hst hf he hx fun s1 I1 t1 => ?_
  unfold cameBackBy
  obtain ⟨vs, T, oT, ts, v, _, a1, a2, a3, a4⟩ := id t1
  refine wpAny_bind (wpAny_field a2 rfl a3 ?_)
  rw [if_neg (by simp)]
  refine flight_x _ I1 he t1 fun s2 I2 t2 => ?_
  exact ⟨e, C, dx, σ, H, rfl, I2, he, .inr (t2.imp (Nat.le_refl _) (fun v z => .inr (by rw [z, hf]; rfl)) (.inr rfl)), q⟩
end
theorem leave_x {P : Program} {w : World} {K : PySem.W.Frag} {mg : Str → Option Value} {base : Heap} {N : List Str} {qual : Str} {scope : Scope} {f : Addr} {cd : Value} {A : Around} {outer : List Env} {s : Shared} {H : Hp} {E : XK} {v : Value} {s' : Shared}
    (h : Fx (cxOf (CXx P w) P w K mg base N qual scope f cd A outer s H E) E v s') : (cxOf (CXx P w) P w K mg base N qual scope f cd A outer s H E).xe v s' := by
  obtain ⟨e, C, dx, σ, H', ev, I, he, hx, q⟩ := h
  subst ev
  show wpAny _ _ (leaving _ _) _ _ _
  unfold leaving
  refine wpAny_bind (note_x I rfl rfl he hx fun s1 I1 t1 => ?_)
  refine flight_x _ I1 he t1 fun s2 I2 t2 => ?_
  exact ⟨e, C, dx, H', rfl, I2.os, I2.bare, I2.base, I2.hok, he, t2, q⟩
theorem PSs.out {P : Program} {w : World} {K : PySem.W.Frag} {mg : Str → Option Value} {base : Heap} {N : List Str} {qual : Str} {scope : Scope} {f : Addr} {cd : Value} {A : Around} {outer : List Env} {s : Shared} {H : Hp} {E : XK} {st : List Stmt} {t : TS}
    (h : PSs ((cxOf (CXx P w) P w K mg base N qual scope f cd A outer s H E).wish (Fx (cxOf (CXx P w) P w K mg base N qual scope f cd A outer s H E) E)) st t) : PSs (cxOf (CXx P w) P w K mg base N qual scope f cd A outer s H E) st t := fun pins s σ H D I hw =>
  wpAny_mono (h pins s σ H D (I.wish _) hw) (fun _ _ q => q.unwish) fun _ _ z => leave_x z
section
variable {P : Program} {w : World} {K : PySem.W.Frag} {mg : Str → Option Value} {base : Heap}
/-- THE RULE for a def that raises -/
theorem Fun.okX {x qual : Str} {st : Stmt} {f : Addr} {fd : FuncData} {N ps : List Str} {k : Nat} {sp : Sp} (F : Fun K x qual st f fd) (S : FnScope N ps (defScope st)) (len : ∀ vs H Q E, sp vs H Q E → vs.length = ps.length)
    (hbody : ∀ (cdv : Value) (A : Around) (outer : List Env) (s : Shared) (H : Hp) (vs : List V) (Q : VK) (E : XK), Room k (A.deeper (envOfC qual (defScope st) s.heap.objs.size f cdv)) → sp vs H Q E →
      ∃ t, PSs ((cxOf (CXx P w) P w K mg base N qual (defScope st) f cdv A outer s H E).wish (Fx (cxOf (CXx P w) P w K mg base N qual (defScope st) f cdv A outer s H E) E)) (defBody st) t ∧ t { nx := fun _ H' => Q .non H', rt := Q } (start N vs) H) :
    FnOk P w K mg base (CXx P w) (k + 1) f fd ps sp := by
  obtain ⟨oc, od, kV, doc, pm, an, cdv, ct, osl, rfl, lk, hcd⟩ := F.ex
  refine fn_of lk hcd S len fun A outer s H vs Q E hr hsp => ?_
  obtain ⟨t, h, q⟩ := hbody cdv A outer s H vs Q E hr hsp
  exact ⟨t, h.out, q⟩
end
/-- a def that raises, by its name -/
structure FnX (P : Program) (w : World) (K : PySem.W.Frag) (mg : Str → Option Value) (base : Heap) (x : Str) (k : Nat) (sp : Sp) : Prop where
  ex : ∃ (f : Addr) (fd : FuncData) (ps : List Str), FnOk P w K mg base (CXx P w) k f fd ps sp ∧ mg x = some (.ref f) ∧ PySem.W.keepIn K (.ref f) = true ∧ Binds K fd ps []
section
variable {X : Cx} {x : Str} {p pos : Pos} {e : Expr} {es : List Expr} {t : TA} {sp : Sp} {k : Nat} {E E' : XK}
theorem pe_fnx (F : FnX X.prog X.w X.K X.mg X.base x k sp) (hE : ∀ c o H, E' c o H → E c o H) (hr : Room k X.A) (hg : Gl X x) (ha : PA (X.wish (Fx X E)) (e :: es) t) (hdb : (x == ("__debug__" : Str)) = false := by decide)
    (he : starEach (e :: es) X.env = (false, eval e X.env) :: starEach es X.env := by rfl) (hpl : (backTo pos (starEach es X.env)).any (·.1) = false := by rfl) : PE (X.wish (Fx X E)) (.Call (.Name x p) (e :: es) [] pos) (tCall sp [] E' t) := by
  obtain ⟨f, fd, ps, G, hm, hk, hb⟩ := F.ex
  exact pe_call (X := X.wish (Fx X E)) G hr hg hm hk hb .nil (pass_x hE) ha hdb he hpl
end
end L2

namespace L2
open PySem PySem.Spec PyProof.Rows
/-! ### classes of exceptions: below CE, which is below ValueError; with an __init__ of their own -/
def xcIn (K : PySem.W.Frag) (C CE fI : Addr) : Bool := match K.lookup C with
  | some ⟨.type "type", _, .cls cd, sl⟩ => (match cd.mro, sl.toList with
    | .ref C' :: bm, [_, _, _, _, some (.builtin n), _] => C' == C && n == "ValueError.__new__" && !cd.hasDel && PySem.W.tailIn K bmV bm && bm == .ref CE :: bmV && PySem.W.nsOkIn K cd.ns && PySem.W.nsIn K cd.ns "__init__" == some (some (.ref fI)) && cd.hasDict
    | _, _ => false)
  | _ => false
theorem ns_some {K : PySem.W.Frag} {h : Heap} {N : Addr} {m : Str → Option Value} {n : Str} {v : Value} (X : K.In h) (G : h.Ns N m) (e : PySem.W.nsIn K N n = some (some v)) : m n = some v := by
  obtain ⟨ob, es, ep, h1, h2, _, h3⟩ := G
  unfold PySem.W.nsIn at e
  split at e
  · rename_i q
    have z := X _ _ q
    rw [h1] at z
    cases z
    cases h2
    split at e
    · rename_i he
      cases e
      rw [← h3]
      unfold nsFind findBy
      rw [← Array.find?_toList, he]
      rfl
    · split at e <;> cases e
  · cases e
structure XCls (h : Heap) (K : PySem.W.Frag) (C CE fI : Addr) : Prop where
  ex : ∃ (nm q : Str) (N : Addr) (bs : List Value) (sn : List Str) (sub : List Value) (ab : Bool) (col : Option Bool) (dd : Option Addr) (k0 k1 k2 k3 k5 : Option Value) (mN : Str → Option Value) (cd : ClassData),
    h.get? C = some (excClassObj nm q C N bs (.ref CE :: bmV) true sn sub ab col dd k0 k1 k2 k3 k5 "ValueError.__new__") ∧ h.Ns N mN ∧ mN "__init__" = some (.ref fI) ∧ OwnTail h bmV (.ref CE :: bmV) ∧
    PySem.W.clsIn K C = some cd ∧ cd.mro = .ref C :: .ref CE :: bmV ∧ cd.hasDict = true
theorem xcls_of {h : Heap} {K : PySem.W.Frag} {C CE fI : Addr} (X : K.In h) (q : xcIn K C CE fI = true) : XCls h K C CE fI := by
  unfold xcIn at q
  split at q
  · rename_i dd cd sl ho
    split at q
    · rename_i C' bm k0 k1 k2 k3 n k5 hm hs
      simp only [Bool.and_eq_true, beq_iff_eq, Bool.not_eq_true'] at q
      obtain ⟨⟨⟨⟨⟨⟨⟨rfl, rfl⟩, hdel⟩, ht⟩, hbm⟩, hok⟩, hni⟩, hhd⟩ := q
      have hcl : PySem.W.clsIn K C' = some cd := by unfold PySem.W.clsIn; rw [ho]
      obtain ⟨nm, bs, mro, ns, qn, hd, sn, sub, ab, col, del⟩ := cd
      dsimp only at hm hdel hok hni hhd
      subst hm hdel hbm hhd
      have hsl : sl = #[k0, k1, k2, k3, some (.builtin "ValueError.__new__"), k5] := by
        obtain ⟨l⟩ := sl
        simp only at hs
        rw [hs]
      subst hsl
      exact ⟨nm, qn, ns, bs, sn, sub, ab, col, dd, k0, k1, k2, k3, k5, h.nsMap ns, _, X _ _ ho, .of_isNs (PySem.W.isNs_of_in X hok), ns_some X (.of_isNs (PySem.W.isNs_of_in X hok)) hni, PySem.W.tail_of_in X ht, hcl, rfl, rfl⟩
    · cases q
  · cases q
structure XC (K : PySem.W.Frag) (C CE fI : Addr) (name : Str) : Prop where
  cls : xcIn K C CE fI = true
  fn : PySem.W.isFn K (.ref fI) = true
  set : PySem.W.findIn K (.ref C) "__setattr__" = some (some (.builtin "object.__setattr__"))
  tk : PySem.W.takerIn K C name = some none
  get : PySem.W.findIn K (.ref C) "__getattribute__" = some (some (.builtin "BaseException.__getattribute__"))
  geta : PySem.W.findIn K (.ref C) "__getattr__" = some none
  fld : PySem.W.findIn K (.ref C) name = some none
  kp : PySem.W.keepIn K (.ref C) = true
structure XE (K : PySem.W.Frag) (CE : Addr) : Prop where
  ga : PySem.W.specialIn K (.ref CE) "__getattribute__" = some (some (.builtin "type.__getattribute__"))
  rd : PySem.W.readsIn K CE (.type "type") = true
  fd : PySem.W.findCls K (.ref CE) (.type "type") "__init__" = some (.val (.builtin "ValueError.__init__"))
abbrev XNew (C e : Addr) : HO := .ext fun h => ∃ u, h.get? e = some (excObj C none u)
abbrev XMade (C dx e : Addr) : HO := .ext fun h => ∃ u, h.get? e = some (excObj C (some dx) u)
theorem xnew_ok {P : Program} {w : World} {H : Hp} {h : Heap} {C e u : Addr} (he : h.get? e = some (excObj C none u)) : ObjOk P w H h e (XNew C e) :=
  ⟨⟨u, he⟩, ⟨_, he⟩, fun _ _ ⟨u', he'⟩ k => ⟨u', k _ he'⟩⟩
theorem xmade_ok {P : Program} {w : World} {H : Hp} {h : Heap} {C dx e u : Addr} (he : h.get? e = some (excObj C (some dx) u)) : ObjOk P w H h e (XMade C dx e) :=
  ⟨⟨u, he⟩, ⟨_, he⟩, fun _ _ ⟨u', he'⟩ k => ⟨u', k _ he'⟩⟩
section
variable {X : Cx} {C CE fI : Addr} {ce name : Str} {o e1 e2 value : Expr} {te tv : TE} {p pos apos pos' : Pos}
/-- CE.__init__(self, text) -/
def tBinit (C : Addr) (t : TA) : TE := fun σ H Q => t σ H fun vs H1 => ∃ e x, vs = [.ref e, x] ∧ H1 e = some (XNew C e) ∧ Q .non H1
theorem pe_binit {t : TA} {pl : Sem Bool} (hc : xcIn X.K C CE fI = true) (hb : XE X.K CE) (hg : Gl X ce) (hm : X.mg ce = some (.ref CE)) (ha : PA X [e1, e2] t) (hdb : (ce == ("__debug__" : Str)) = false := by decide)
    (he : starEach [e1, e2] X.env = (false, eval e1 X.env) :: starEach [e2] X.env := by rfl) (hpl : (backTo pos (starEach [e2] X.env)).any (·.1) = false := by rfl)
    (ht : eval (.Call (.Attribute (.Name ce p) "__init__" apos) [e1, e2] [] pos) X.env = (do
      let ov ← eval (.Name ce p) X.env
      standAt apos.atName
      let (f, first) ← holding [ov] (getMethod ov "__init__" pl)
      callWith pos f first (backTo pos (starEach [e1, e2] X.env)) (backToKw pos (keywordEach [] X.env))) := by rfl) :
    PE X (.Call (.Attribute (.Name ce p) "__init__" apos) [e1, e2] [] pos) (tBinit C t) := by
  intro pins s σ H Q I h
  refine PySem.W.methodCall_KW (pl := pl) (ld_glob I hg hm ?_ hdb) ht
  refine PySem.W.method_cls I.kIn hb.ga (PySem.W.cls_value I.kIn hb.rd hb.fd (by rfl) ?_)
  refine PyProof.Rows.callWith_builtin1 (thn (ha pos pins _ σ H _ (I.tok _) h) fun us s2 ⟨vs, H2, I2, r, q⟩ => ?_) he hpl
  obtain ⟨e, x, rfl, hx, q⟩ := q
  obtain ⟨u, v, rfl, ru, rv⟩ := vals2 r
  cases ru
  obtain ⟨nm, qn, N, bs, sn, sub, ab, col, dd, k0, k1, k2, k3, k5, mN, cd, hC, hN, hi, hT, _⟩ := (xcls_of I2.kIn hc).ex
  obtain ⟨⟨u0, he0⟩, _, _⟩ := I2.hok e _ hx
  obtain ⟨hh, g, d, tk, os⟩ := s2
  refine binit_x F.excBase_ValueError hT hC he0 fun h' e1' e2' k => ?_
  have I3 := I2.write (x := e) (e := e) (o := XNew C e) (h' := h') (t' := tk) (by rw [hx]; trivial) (.inl rfl) (fun b u hb z => k b u hb z) ⟨_, e1'⟩ (xnew_ok e1')
  have hup : upd H2 e (XNew C e) = H2 := by
    funext b
    unfold upd
    split
    · rename_i z; rw [z, hx]
    · rfl
  rw [hup] at I3
  exact ⟨.non, H2, I3, rfl, q⟩
/-- self.name = value, the first field -/
def sXset (C : Addr) (name : Str) (te tv : TE) : TS := fun D σ H => tv σ H fun y H1 => te σ H1 fun x H2 => ∃ e, x = .ref e ∧ H2 e = some (XNew C e) ∧
  ∀ dx, H2 dx = none → dx ≠ e → D.nx σ (upd (upd H2 dx (.xd [(name, y)])) e (XMade C dx e))
theorem ps_xset (hc : XC X.K C CE fI name) (ha : PE X o te) (hv : PE X value tv) (hs : swapsWith value (some (.Attribute o name pos')) pos.line X.env = pure false) : PS X (.Assign [.Attribute o name pos'] value pos) (sXset C name te tv) := by
  intro pins s σ H D I h
  refine plainObj_wpAny_Assign_Attribute (thn (hv pins s σ H _ I h) fun u s1 ⟨y, H1, I1, ry, q⟩ => thn (ha pins s1 σ H1 _ I1 q) fun ov s2 ⟨x, H2, I2, rx, e, ex, hx, q2⟩ => ?_) hs
  subst ex
  obtain rfl : ov = Value.ref e := rx
  obtain ⟨⟨u0, he0⟩, _, _⟩ := I2.hok e _ hx
  obtain ⟨nm, qn, N, bs, sn, sub, ab, col, dd, k0, k1, k2, k3, k5, mN, cd, hC, hN, hi, hT, hcl, hmro, hhd⟩ := (xcls_of I2.kIn hc.cls).ex
  refine xset I2.kIn hcl hmro hhd hc.set hc.tk he0 fun h' e1 n1 k => ?_
  have hfr := I2.hok.fresh (Nat.le_refl s2.heap.objs.size)
  have hne : s2.heap.objs.size ≠ e := Nat.ne_of_gt (Heap.lt_size he0)
  have q3 := q2 s2.heap.objs.size hfr hne
  refine ⟨σ, _, ?_, q3⟩
  have un : Un X.fs [] H2 (upd (upd H2 s2.heap.objs.size (.xd [(name, y)])) e (XMade C s2.heap.objs.size e)) s2.heap h' := by
    have ee : ∀ b, H2 b = none → b ≠ e := fun b z m => by rw [m, hx] at z; cases z
    have es : ∀ b (o : Obj), s2.heap.get? b = some o → b ≠ s2.heap.objs.size := fun b o z => Nat.ne_of_lt (Heap.lt_size z)
    have up : ∀ b, b ≠ e → b ≠ s2.heap.objs.size → upd (upd H2 s2.heap.objs.size (.xd [(name, y)])) e (XMade C s2.heap.objs.size e) b = H2 b := fun b n1 n2 => by rw [upd_ne n1, upd_ne n2]
    have tr : ∀ b u, H2 b = some u → b ≠ s2.heap.objs.size := fun b u z m => by rw [m, hfr] at z; cases z
    have te : ∀ b u, H2 b = some u → (∀ φ, u ≠ .ext φ) → b ≠ e := fun b u z n m => by rw [m, hx] at z; cases z; exact n _ rfl
    refine ⟨fun b o z n _ _ => k b o (ee b n) z, fun b o z n _ _ => ⟨o.slots, k b o (ee b n) z⟩, fun b o z n _ => by rw [up b (ee b n) (es b o z)]; exact n, fun b o z _ => ?_, fun b xs z => ?_, fun b o u z => ?_, fun b ps z => ?_⟩
    · by_cases m : b = e
      · subst m; exact ⟨_, e1⟩
      · exact ⟨o, k b o m z⟩
    · rw [up b (te b _ z fun _ m => by cases m) (tr b _ z)]; exact z
    · rw [up b (te b _ z fun _ m => by cases m) (tr b _ z)]; exact z
    · exact ⟨#[], by rw [up b (te b _ z fun _ m => by cases m) (tr b _ z), z]; simp⟩
  refine I2.un un fun b u z => ?_
  by_cases m : b = e
  · subst m
    rw [upd_same] at z; cases z
    exact xmade_ok e1
  · rw [upd_ne m] at z
    by_cases m2 : b = s2.heap.objs.size
    · subst m2
      rw [upd_same] at z; cases z
      refine ⟨_, n1, fun f => ?_⟩
      by_cases hf : f = name
      · subst hf
        simp [List.lookup, RelO, ry]
      · have : (f == name) = false := by simp [hf]
        simp [List.lookup, this, RelO, hf]
    · rw [upd_ne m2] at z
      refine (I2.hok b u z).stay (fun c v hc q => k c v ?_ q) (fun c q => ?_) fun c xs q => ?_
      · rcases hc with y | y
        · rw [y]; exact m
        · intro w; rw [w, hx] at y; cases y
      · rw [upd_ne (fun w => by rw [w, hx] at q; cases q), upd_ne (fun w => by rw [w, hfr] at q; cases q)]; exact q
      · rw [upd_ne (fun w => by rw [w, hx] at q; cases q), upd_ne (fun w => by rw [w, hfr] at q; cases q)]; exact q
end
end L2

namespace L2
open PySem PySem.Spec PyProof.Rows
section
variable {M : Model} {A : Around} {E : Value → Shared → Prop} {env : Env}
variable {nm q : Str} {C N : Addr} {bs bm : List Value} {hdct : Bool} {sn : List Str} {sub : List Value} {ab : Bool} {col : Option Bool} {dd : Option Addr} {k0 k1 k2 k3 k5 : Option Value} {newId : String}
theorem raise_made {s : Shared} {x : Sem Value} {Q : Flow → Shared → Prop} (hbase : bm.contains (.type "BaseException") = true) (hh : A.handled = none)
    (h : wpAny M A x (fun v s₁ => ∃ e t dx nm q N bs hdct sn sub ab col dd k0 k1 k2 k3 k5 newId, v = .ref e ∧ s₁.heap.get? C = some (excClassObj nm q C N bs bm hdct sn sub ab col dd k0 k1 k2 k3 k5 newId) ∧
      s₁.heap.get? e = some (excObj C (some dx) t) ∧ E (.ref e) s₁) E s) :
    wpAny M A (raiseStmt env (some x) none) Q E s := by
  have hcB : (Value.ref C :: bm).contains (.type "BaseException") = true := by rw [List.contains_cons, hbase, Bool.or_true]
  unfold raiseStmt
  refine wpAny_bind (wpAny_mono h (fun v s₁ h₁ => ?_) fun _ _ x => x)
  obtain ⟨e, t, dx, nm, q, N, bs, hdct, sn, sub, ab, col, dd, k0, k1, k2, k3, k5, newId, rfl, hC, he, hE⟩ := h₁
  obtain ⟨hp, g, d, tk, os⟩ := s₁
  repeat (first | with_reducible refine wpAny_loadPart_at he ?_ | with_reducible refine wpAny_loadPart_at hC ?_ | (with_reducible refine wpAny_isSubtype_exc hC ?_; rw [hcB]) | wp_step)
  exact wpAny_raiseNew_none hh hE
end
theorem fn_at {K : PySem.W.Frag} {h : Heap} {f : Addr} (X : K.In h) (e : PySem.W.isFn K (.ref f) = true) : ∃ oI, h.get? f = some oI ∧ oI.cls = .type "function" := by
  have e' : (K.lookup f).map (·.cls) = some (.type "function") := beq_iff_eq.mp e
  obtain ⟨o, ho, hc⟩ := Option.map_eq_some_iff.mp e'
  exact ⟨o, X _ _ ho, hc⟩
/-- raise C(v, ..), C with an __init__ of its own -/
def sRaise (c : List V → Hp → Prop) (t : TA) : TS := fun _ σ H => t σ H c
section
variable {X : Cx} {C CE fI : Addr} {x name : Str} {e0 : Expr} {es : List Expr} {t : TA} {np cpos pos : Pos} {E : XK} {k : Nat} {fd : FuncData} {ps : List Str} {sp : Sp} {c : List V → Hp → Prop}
theorem ps_raise (hc : XC X.K C CE fI name) (F : FnOk X.prog X.w X.K X.mg X.base CX0 k fI fd ps sp) (hb : Binds X.K fd ps []) (hps : ps.length ≤ 64) (hr : Room (k + 1) X.A) (hcalm : X.calm = true) (hg : Gl X x) (hm : X.mg x = some (.ref C)) (ha : PA (X.wish (Fx X E)) (e0 :: es) t)
    (hcc : ∀ vs H1, c vs H1 → ∀ e, H1 e = none → sp (.ref e :: vs) (upd H1 e (XNew C e)) (fun v H2 => v = .non ∧ ∃ dx, H2 e = some (XMade C dx e) ∧ E (.ref C) (some e) (upd H2 e (XObj C dx e))) E0)
    (hdb : (x == ("__debug__" : Str)) = false := by decide) (he : starEach (e0 :: es) X.env = (false, eval e0 X.env) :: starEach es X.env := by rfl) (hpl : (backTo cpos (starEach es X.env)).any (·.1) = false := by rfl) :
    PS (X.wish (Fx X E)) (.Raise (some (.Call (.Name x np) (e0 :: es) [] cpos)) none pos) (sRaise c t) := by
  intro pins s σ H D I h
  have hh : X.A.handled = none := I.ok.hd hcalm
  rw [arm_exec_Raise]
  refine wpAny_bind (wpAny_standAt ?_)
  simp only [evalOpt, Option.map]
  refine raise_made (C := C) (bm := .ref CE :: bmV) (by rw [List.contains_cons, show bmV.contains (.type "BaseException") = true from by decide +kernel, Bool.or_true]) hh (wpAny_bind ?_)
  refine wpAny_mono (Q := fun v s₁ => ∃ e t dx nm q N bs hdct sn sub ab col dd k0 k1 k2 k3 k5 newId, v = .ref e ∧ s₁.heap.get? C = some (excClassObj nm q C N bs (.ref CE :: bmV) hdct sn sub ab col dd k0 k1 k2 k3 k5 newId) ∧
      s₁.heap.get? e = some (excObj C (some dx) t) ∧ Fx X E (.ref e) s₁) ?_ (fun v s3 h3 => wpAny_bind (wpAny_standAt (wpAny_pure h3))) fun _ _ z => z
  refine wpAny_Call_Name_kw (ld_glob (X := X.wish (Fx X E)) I hg hm ?_ hdb)
  refine PySem.W.callWith_K (h₀ := X.base) I.ok.mod.kin hc.kp (thn (ha cpos pins s σ H _ I h) fun us s1 ⟨vs, H1, I1, r, q0⟩ => ⟨I1.kIn, ?_⟩) he hpl
  have q := hcc vs H1 q0
  obtain ⟨nm, qn, N, bs, sn, sub, ab, col, dd, k0, k1, k2, k3, k5, mN, cd, hC, hN, hi, hT, hcl, hmro, hhd⟩ := (xcls_of I1.kIn hc.cls).ex
  obtain ⟨oI, hfI, hfc⟩ : ∃ oI, s1.heap.get? fI = some oI ∧ oI.cls = .type "function" := fn_at I1.kIn hc.fn
  obtain ⟨hp, g, d, tk, os⟩ := s1
  have hlen : us.length ≤ sizeLine := by
    have e1 := F.len _ _ _ _ (q (hp.objs.size + 1) (I1.hok.fresh (Nat.le_succ _)))
    have e2 := r.length
    have e3 : vs.length + 1 = ps.length := e1
    exact Nat.le_trans (show us.length ≤ 64 by omega) (by decide)
  refine call_x PySem.F.excBase_ValueError hT hC hN hi hfI hfc hlen ?_
  have I2 := (I1.kept (h' := hp.push (rawT us)) (t' := tk) fun b u z => Heap.get?_push_of_some _ z).laid (a := hp.objs.size + 1) (o := XNew C (hp.objs.size + 1)) (h' := (hp.push (rawT us)).push (rawE C hp.objs.size)) (t' := tk)
    (fun b u z => Heap.get?_push_of_some _ z) (by simp [Heap.size_push]) (xnew_ok (u := hp.objs.size) (by heap_get))
  have hn0 : H1 (hp.objs.size + 1) = none := I1.hok.fresh (Nat.le_succ _)
  have hq := q (hp.objs.size + 1) hn0
  have r2 : Vals (V.ref (hp.objs.size + 1) :: vs) (Value.ref (hp.objs.size + 1) :: us) := .cons rfl r
  have hl : (Value.ref (hp.objs.size + 1) :: us).length = ps.length := by rw [← r2.length]; exact F.len _ _ _ _ hq
  have hbb := hb ⟨(hp.push (rawT us)).push (rawE C hp.objs.size), g, d, tk, os⟩ (Value.ref (hp.objs.size + 1) :: us) I2.kIn (by rw [List.append_nil]; exact hl)
  rw [List.append_nil] at hbb
  refine wpAny_call (codeAny_mono (F.run _ X.stack _ _ ⟨Value.ref (hp.objs.size + 1) :: us, []⟩ (Value.ref (hp.objs.size + 1) :: us) _ _ E0 (hr.make C us [])
    (I2.env0.make C us []) hbb r2 hq) fun r s' hq' => ?_)
  cases r with
  | error e => exact hq'.elim
  | ok fl =>
    cases fl with
    | ret u =>
      obtain ⟨v, H', I3, rv, ev, dx, hx, q3⟩ := I2.after hq'
      subst ev
      refine ⟨rv, ?_⟩
      obtain ⟨⟨u0, he0⟩, _, _⟩ := I3.hok _ _ hx
      have raw : XRaw s'.heap (hp.objs.size + 1) C dx := ⟨_, rfl, he0, rfl⟩
      obtain ⟨nm, qn, N, bs, sn, sub, ab, col, dd, k0, k1, k2, k3, k5, mN, cd, hC, _⟩ := (xcls_of I3.kIn hc.cls).ex
      have I4 := I3.write (x := hp.objs.size + 1) (e := hp.objs.size + 1) (o := XObj C dx (hp.objs.size + 1)) (h' := s'.heap) (t' := s'.toks) (by rw [hx]; trivial) (.inl rfl) (fun b u _ z => z) ⟨_, he0⟩ (xobj_ok rfl he0)
      exact ⟨_, _, dx, _, _, _, _, _, _, _, _, _, _, _, _, _, _, _, _, rfl, hC, he0, hp.objs.size + 1, C, dx, σ, _, rfl, I4.unwish.nopins, upd_same, .inl raw, q3⟩
    | next => exact False.elim hq'
    | brk => exact False.elim hq'
    | cont => exact False.elim hq'
end
end L2

namespace L2
open PySem PySem.Spec PyProof.Rows
section
variable {X : Cx} {pins : List (Addr × Obj)} {σ : St} {H : Hp} {s : Shared}
/-- the name of a suite goes -/
theorem goes_ok {M : Model} {A : Around} {E : Value → Shared → Prop} {i : Nat} {n : Str} {pos : Pos} {Q : Unit → Shared → Prop} (I : Inv X pins σ H s) (hN : X.N.Nodup) (hi : X.N[i]? = some n) (hl : X.env.kindOf n = some .local)
    (h : ∀ s', Inv X pins (σ.set i none) H s' → Q () s') : wpAny M A (do bindName X.env n .none; unbindBehindTheSuite X.env n pos) Q E s := by
  have hcls : (X.env.scope.kind == .class || (X.env.scope.kind == .module && X.env.locals != X.env.globals)) = false := by rw [I.ok.kind]; rfl
  refine wpAny_bind (wpAny_bindName (store_ok (v := .non) I hN hi (.inl hl) rfl (fun s1 I1 => ?_) (.inr hl)))
  obtain ⟨m, hn, hlo⟩ := id I1.loc
  have hiσ : i < σ.length := by rw [I.len]; exact (List.getElem?_eq_some_iff.mp hi).1
  have hmn : ∃ u, m n = some u := by
    obtain ⟨u, _, l⟩ := hlo i n .non hi (List.getElem?_set_self hiσ) (.inl hl)
    rcases l with ⟨_, e⟩ | ⟨k, _⟩
    · exact ⟨u, e⟩
    · rw [hl] at k; rcases k with k | k <;> cases k
  unfold unbindBehindTheSuite
  refine wpAny_onRaise ?_
  unfold unbindName
  refine wpAny_bind (wpAny_point (wpAny_bind ?_))
  unfold deleteName
  simp only [hl, hcls]
  rw [if_neg (by decide)]
  refine wpAny_bind (wpAny_nsDel_keeps hn fun h₂ v hn₂ hs => ?_)
  obtain ⟨u0, hu0⟩ := hmn
  rw [hu0]
  simp only [if_true, Option.isSome_some, Bool.not_true, Bool.false_eq_true, if_false]
  refine wpAny_pure (wpAny_point (h _ ?_))
  -- nothing but the frame's own dict has changed
  have same : ∀ b o, b ≠ X.env.locals → s1.heap.get? b = some o → h₂.get? b = some o := fun b o hb e => (hs.2 b hb).trans e
  have old : ∀ b o, X.s₀.heap.get? b = some o → b ≠ X.env.locals := fun b o e => Nat.ne_of_lt (Nat.lt_of_lt_of_le (Heap.lt_size e) I1.ok.above)
  have tne : ∀ b u, H b = some u → b ≠ X.env.locals := fun b u e z => by rw [z, I1.free] at e; cases e
  have cl : ∀ y c v, X.env.cells.lookup y = some c → s1.heap.IsCell c v → h₂.IsCell c v := fun y c v e z => z.sameBut hs (I1.cne y c e)
  exact
    { ok := I1.ok, os := I1.os, bare := I1.bare, free := I1.free, freeC := I1.freeC
      len := by rw [List.length_set]; exact I.len
      base :=
        { keep := fun b o e n hb hx => same b o (old b o e) (I1.base.keep b o e n hb hx)
          slot := fun b o e n hb hx => (I1.base.slot b o e n hb hx).imp fun sl z => same b _ (old b o e) z
          free := I1.base.free
          there := fun b o e hx => (I1.base.there b o e hx).imp fun o' z => same b o' (old b o e) z
          tups := I1.base.tups, frzs := I1.base.frzs, tbls := I1.base.tbls }
      cell := fun y c e => (I1.cell y c e).imp fun v z => cl y c v e z
      pin := fun p hp => ⟨same p.1 p.2 (I1.pin p hp).2.2.1 (I1.pin p hp).1, (I1.pin p hp).2⟩
      hok := fun b u e => (I1.hok b u e).stay (fun c v hc z => same c v (by rcases hc with rfl | hc; exact tne _ _ e; exact tne _ _ hc) z) (fun _ z => z) fun _ _ z => z
      loc := by
        refine ⟨_, hn₂, fun j y v' e1 e2 e3 => ?_⟩
        have hj : j ≠ i := fun z => by rw [z, List.getElem?_set_self hiσ] at e2; cases e2
        rw [List.getElem?_set_ne (Ne.symm hj)] at e2
        obtain ⟨u', r', w⟩ := hlo j y v' e1 (by rw [List.getElem?_set_ne (Ne.symm hj)]; exact e2) e3
        refine ⟨u', r', w.imp (fun k => ⟨k.1, ?_⟩) fun ⟨k, c, e, z⟩ => ⟨k, c, e, cl y c _ e z⟩⟩
        have hy : ¬ y = n := fun z => hj (nodup_ix hN e1 (by rw [z]; exact hi))
        show (if y = n then v else m y) = some u'
        rw [if_neg hy]
        exact k.2 }
end
/-! ### the classes that are caught -/
def ecIn (K : PySem.W.Frag) (S : Addr) (bm : List Value) : Bool := match K.lookup S with
  | some ⟨.type "type", _, .cls cd, sl⟩ => (match cd.mro, sl.toList with
    | .ref S' :: bm', [_, _, _, _, some (.builtin _), _] => S' == S && !cd.hasDel && bm' == bm
    | _, _ => false)
  | _ => false
theorem ecls_of {h : Heap} {K : PySem.W.Frag} {S : Addr} {bm : List Value} (X : K.In h) (q : ecIn K S bm = true) :
    ∃ (nm q : Str) (N : Addr) (bs : List Value) (hd : Bool) (sn : List Str) (sub : List Value) (ab : Bool) (col : Option Bool) (dd : Option Addr) (k0 k1 k2 k3 k5 : Option Value) (n : String),
      h.get? S = some (excClassObj nm q S N bs bm hd sn sub ab col dd k0 k1 k2 k3 k5 n) := by
  unfold ecIn at q
  split at q
  · rename_i dd cd sl ho
    split at q
    · rename_i S' bm' k0 k1 k2 k3 n k5 hm hs
      simp only [Bool.and_eq_true, beq_iff_eq, Bool.not_eq_true'] at q
      obtain ⟨⟨rfl, hdel⟩, hbm⟩ := q
      obtain ⟨nm, bs, mro, ns, qn, hd, sn, sub, ab, col, del⟩ := cd
      dsimp only at hm hdel
      subst hm hdel hbm
      have hsl : sl = #[k0, k1, k2, k3, some (.builtin n), k5] := by
        obtain ⟨l⟩ := sl
        simp only at hs
        rw [hs]
      subst hsl
      exact ⟨nm, qn, ns, bs, hd, sn, sub, ab, col, dd, k0, k1, k2, k3, k5, n, X _ _ ho⟩
    · cases q
  · cases q
theorem match_x {M : Model} {A : Around} {E : Value → Shared → Prop} {s : Shared} {K : PySem.W.Frag} {e C S : Addr} {oe : Obj} {bmC bmS : List Value} {Q : Bool → Shared → Prop} (X : K.In s.heap) (hC : ecIn K C bmC = true) (hS : ecIn K S bmS = true)
    (hb : bmS.contains (.type "BaseException") = true) (he : s.heap.get? e = some oe) (hc : oe.cls = .ref C) (h : Q ((Value.ref C :: bmC).contains (.ref S)) s) : wpAny M A (excMatches (.ref e) (.ref S)) Q E s := by
  obtain ⟨nm, q, N, bs, hd, sn, sub, ab, col, dd, k0, k1, k2, k3, k5, n, oC⟩ := ecls_of X hC
  obtain ⟨nm', q', N', bs', hd', sn', sub', ab', col', dd', k0', k1', k2', k3', k5', n', oS⟩ := ecls_of X hS
  obtain ⟨hp, g, d, tk, os⟩ := s
  have hcB : (Value.ref S :: bmS).contains (.type "BaseException") = true := by rw [List.contains_cons, hb, Bool.or_true]
  have f1 := tc_notTuple
  have hT : (⟨hp, g, d, tk, os⟩ : Shared).TypeIs (.ref S) "type" := ⟨_, oS, rfl⟩
  unfold excMatches
  repeat (any_goals (first | assumption | (with_reducible refine wpAny_loadPart_at he ?_; rw [hc]) | with_reducible refine wpAny_loadPart_at oS ?_ | (with_reducible refine wpAny_isSubtype_exc oS ?_; rw [hcB]) | with_reducible refine wpAny_isSubtype_exc oC ?_ | wp_step))
  revert h
  generalize (Value.ref C :: bmC).contains (Value.ref S) = b
  intro h
  cases b with
  | true =>
    rw [if_pos rfl]
    exact wpAny_pure (wpAny_pure (wpAny_pure h))
  | false =>
    rw [if_neg (by decide)]
    exact wpAny_pure (wpAny_pure (wpAny_pure h))
end L2

namespace L2
open PySem PySem.Spec PyProof.Rows
/-- pins that every state bears -/
abbrev Cx.pnd (X : Cx) (pn : List (Addr × Obj)) : Cx := { X with pn := X.pn ++ pn }
/-- the suite of an except clause -/
abbrev Cx.hnd (X : Cx) (e : Addr) : Cx := { X with A := X.A.mark (some (.ref e)), calm := false, xe := fun _ _ => False }
section
variable {X : Cx} {pins : List (Addr × Obj)} {σ : St} {H : Hp} {s : Shared} {e : Addr}
theorem Inv.pnd (I : Inv X pins σ H s) : Inv (X.pnd pins) [] σ H s :=
  ⟨⟨I.ok.mod, I.ok.kind, I.ok.glob, I.ok.blt, I.ok.above, I.ok.inj, I.ok.has, I.ok.cab, I.ok.hd, I.ok.frames, I.ok.stk, I.ok.exf, I.ok.bs, I.ok.bsz, I.ok.noex, I.ok.exfs, I.ok.funs, I.ok.frf⟩,
    I.os, I.bare, I.base, I.loc, I.cell, I.free, I.freeC, fun p hp => I.pin p (by rw [List.append_nil] at hp; exact hp), I.hok, I.len⟩
theorem Inv.unpnd (I : Inv (X.pnd pins) [] σ H s) : Inv X pins σ H s :=
  ⟨⟨I.ok.mod, I.ok.kind, I.ok.glob, I.ok.blt, I.ok.above, I.ok.inj, I.ok.has, I.ok.cab, I.ok.hd, I.ok.frames, I.ok.stk, I.ok.exf, I.ok.bs, I.ok.bsz, I.ok.noex, I.ok.exfs, I.ok.funs, I.ok.frf⟩,
    I.os, I.bare, I.base, I.loc, I.cell, I.free, I.freeC, fun p hp => I.pin p (by rw [List.append_nil]; exact hp), I.hok, I.len⟩
theorem Inv.hnd (I : Inv X pins σ H s) (e : Addr) : Inv (X.hnd e) pins σ H s :=
  ⟨⟨I.ok.mod, I.ok.kind, I.ok.glob, I.ok.blt, I.ok.above, I.ok.inj, I.ok.has, I.ok.cab, (fun z => nomatch z), I.ok.frames, I.ok.stk, I.ok.exf, I.ok.bs, I.ok.bsz, I.ok.noex, I.ok.exfs, I.ok.funs, I.ok.frf⟩,
    I.os, I.bare, I.base, I.loc, I.cell, I.free, I.freeC, I.pin, I.hok, I.len⟩
/-- behind the suite: calm again -/
theorem Inv.unhnd {Y : Cx} {pins' : List (Addr × Obj)} {σ' : St} {H' : Hp} {s' : Shared} (I : Inv (X.hnd e) pins σ H s) (J : Inv X pins' σ' H' s') : Inv X pins σ H s :=
  ⟨J.ok, I.os, I.bare, I.base, I.loc, I.cell, I.free, I.freeC, I.pin, I.hok, I.len⟩
end
abbrev Ends.out (D : Ends) (i : Nat) : Ends := { nx := fun σ H => D.nx (σ.set i none) H, rt := D.rt, bk := fun σ H => D.bk (σ.set i none) H, ct := fun σ H => D.ct (σ.set i none) H }
/-- try: body, except S as n: suite -/
def sTry (K : PySem.W.Frag) (S : Addr) (i : Nat) (tb : (St → XK) → TS) (th : TS) : TS := fun D σ H =>
  tb (fun σ' c o H' => ∃ C e bmC, c = .ref C ∧ o = some e ∧ ecIn K C bmC = true ∧ (Value.ref C :: bmC).contains (.ref S) = true ∧ th (D.out i) (σ'.set i (some (.ref e))) H') D σ H
section
variable {X : Cx} {W : Value → Shared → Prop} {x n : Str} {i : Nat} {S : Addr} {bmS : List Value} {body suite : List Stmt} {b0 : Stmt} {hpos np pos : Pos} {tb : (St → XK) → TS} {th : TS}
theorem ps_try (hst : X.stack = X.env :: X.outer) (hf : X.env.frame = some X.env.locals) (hN : X.N.Nodup) (hi : X.N[i]? = some n) (hl : X.env.kindOf n = some .local) (hS : ecIn X.K S bmS = true) (hSb : bmS.contains (.type "BaseException") = true)
    (hg : Gl X x) (hm : X.mg x = some (.ref S)) (hb : ∀ (pn : List (Addr × Obj)) (E1 : St → XK), PSs ((X.pnd pn).wish (Fxs (X.pnd pn) E1)) body (tb E1)) (hh : ∀ e, PSs (X.hnd e) (b0 :: suite) th) (hdb : (x == ("__debug__" : Str)) = false := by decide) :
    PS (X.wish W) (.Try body [.ExceptHandler (some (.Name x np)) (some n) (b0 :: suite) hpos] [] [] pos) (sTry X.K S i tb th) := by
  intro pins s σ H D I h
  have I0 : Inv X pins σ H s := I.unwish
  refine wpAny_Try_except (wpAny_mono (hb pins _ [] s σ H D (I0.pnd.wish _) h) (fun f s1 q => ?_) fun v s1 q => ?_)
  · cases f with
    | next =>
      obtain ⟨σ', H', I1, q⟩ := q
      exact wpAny_execs_nil ⟨σ', H', (I1.unwish.unpnd).wish W, q⟩
    | brk => obtain ⟨σ', H', I1, q⟩ := q; exact ⟨σ', H', (I1.unwish.unpnd).wish W, q⟩
    | cont => obtain ⟨σ', H', I1, q⟩ := q; exact ⟨σ', H', (I1.unwish.unpnd).wish W, q⟩
    | ret u => obtain ⟨v, σ', H', I1, r, q⟩ := q; exact ⟨v, σ', H', (I1.unwish.unpnd).wish W, r, q⟩
  · obtain ⟨e, C, dx, σ', H', ev, I1, he, hx, C', e', bmC, hc, ho, hec, hct, hth⟩ := q
    subst ev
    cases hc
    cases ho
    refine note_x (X := X.pnd pins) I1 hst hf he hx fun s2 I2 t2 => ?_
    refine flight_x (X := X.pnd pins) none I2 he t2 fun s3 I3 t3 => ?_
    refine wpAny_handleBy_cons (codeAny_handlers_test ?_) (by intro q; cases q)
    refine ld_glob (X := X.hnd e) (I3.unpnd.hnd e) hg hm ?_ hdb
    obtain ⟨⟨vs, _, he0⟩, _, _⟩ := I3.hok e _ he
    refine match_x (K := X.K) I3.kIn hec hS hSb he0 rfl ?_
    rw [hct]
    refine codeAny_handlers_suite_as ?_
    refine flight_x (X := X.pnd pins) none I3 he t3 fun s4 I4 t4 => ?_
    refine store_ok (X := X.hnd e) (v := .ref e) (I4.unpnd.hnd e) hN hi (.inl hl) rfl (fun s5 I5 => ?_) (.inr hl)
    refine wpAny_mono (hh e pins s5 _ H' (D.out i) I5 hth) (fun f s6 q => ?_) fun _ _ z => z.elim
    cases f with
    | next =>
      obtain ⟨σ6, H6, I6, q⟩ := q
      exact goes_ok (X := X) (I6.unhnd (Y := X) I0) hN hi hl fun s7 I7 => ⟨_, H6, I7.wish W, q⟩
    | brk =>
      obtain ⟨σ6, H6, I6, q⟩ := q
      exact goes_ok (X := X) (I6.unhnd (Y := X) I0) hN hi hl fun s7 I7 => ⟨_, H6, I7.wish W, q⟩
    | cont =>
      obtain ⟨σ6, H6, I6, q⟩ := q
      exact goes_ok (X := X) (I6.unhnd (Y := X) I0) hN hi hl fun s7 I7 => ⟨_, H6, I7.wish W, q⟩
    | ret u =>
      obtain ⟨v, σ6, H6, I6, r, q⟩ := q
      exact goes_ok (X := X) (I6.unhnd (Y := X) I0) hN hi hl fun s7 I7 => ⟨v, _, H6, I7.wish W, r, q⟩
end
/-! ### calls in a try -/
section
variable {X : Cx} {x : Str} {p pos : Pos} {e : Expr} {es : List Expr} {t : TA} {sp : Sp} {k : Nat} {E1 : St → XK} {f : Addr} {fd : FuncData} {ps : List Str} {dvs : List V} {ds : List Value}
theorem run_fnS {pins : List (Addr × Obj)} {σ : St} {H : Hp} {s : Shared} {Q : VK} {us : List Value} {vs : List V} (F : FnOk X.prog X.w X.K X.mg X.base (CXx X.prog X.w) k f fd ps sp) (hr : Room k X.A) (hb : Binds X.K fd ps ds) (hd : Vals dvs ds)
    (I : Inv (X.wish (Fxs X E1)) pins σ H s) (r : Vals vs us) (h : sp (vs ++ dvs) H Q (E1 σ)) : wpAny (model X.prog X.w) X.A (call (.ref f) us) (EP (X.wish (Fxs X E1)) pins σ Q) (Fxs X E1) s := by
  have r2 : Vals (vs ++ dvs) (us ++ ds) := r.append hd
  have hl : (us ++ ds).length = ps.length := by rw [← r2.length]; exact F.len _ _ _ _ h
  refine wpAny_call (codeAny_mono (F.run X.A X.stack s H ⟨us, []⟩ (us ++ ds) (vs ++ dvs) Q (E1 σ) hr I.env0 (hb s us I.kIn hl) r2 h) fun r s' hq => ?_)
  cases r with
  | error v =>
    obtain ⟨e, C, dx, H', ev, ho, hb, un, hok, he, tb, q⟩ := (show CXx X.prog X.w X.stack H s (E1 σ) v s' from hq)
    subst ev
    have I1 : Inv X pins σ H s := I.unwish
    exact ⟨e, C, dx, σ, H', rfl, (I1.call' (ch := []) ho un hok hb fun _ z => nomatch z).nopins, he, .inr (tb.imp I1.sz (fun _ z => .inl z) (.inl fun p hp => Heap.lt_size (I1.pin p (List.mem_append_left _ hp)).1)), q⟩
  | ok fl =>
    cases fl with
    | ret u => exact I.after hq
    | next => exact False.elim hq
    | brk => exact False.elim hq
    | cont => exact False.elim hq
def tCallS (sp : Sp) (dvs : List V) (E : St → XK) (t : TA) : TE := fun σ H Q => t σ H fun vs H1 => sp (vs ++ dvs) H1 Q (E σ)
theorem pe_fnS (F : FnX X.prog X.w X.K X.mg X.base x k sp) (hr : Room k X.A) (hg : Gl X x) (ha : PA (X.wish (Fxs X E1)) (e :: es) t) (hdb : (x == ("__debug__" : Str)) = false := by decide)
    (he : starEach (e :: es) X.env = (false, eval e X.env) :: starEach es X.env := by rfl) (hpl : (backTo pos (starEach es X.env)).any (·.1) = false := by rfl) : PE (X.wish (Fxs X E1)) (.Call (.Name x p) (e :: es) [] pos) (tCallS sp [] E1 t) := by
  intro pins s σ H Q I h
  obtain ⟨f, fd, ps, G, hm, hk, hb⟩ := F.ex
  refine wpAny_Call_Name_kw (ld_glob (X := X.wish (Fxs X E1)) I hg hm ?_ hdb)
  refine PySem.W.callWith_K (h₀ := X.base) I.ok.mod.kin hk (thn (ha pos pins s σ H _ I h) fun us s1 ⟨vs, H1, I1, r, q⟩ => ⟨I1.kIn, ?_⟩) he hpl
  exact run_fnS G hr hb .nil I1 r q
end
end L2

namespace L2
open PySem PySem.Spec PyProof.Rows
section
variable {prog : Program} {w : World} {A : Around} {E : Value → Shared → Prop} {s : Shared} {K : PySem.W.Frag} {C e dx : Addr} {vs : Array Value} {bm : List Value} {cd : ClassData}
/-- what a class of exceptions must have for isinstance -/
structure XI (K : PySem.W.Frag) (C : Addr) : Prop where
  ec : ∃ cd, PySem.W.clsIn K C = some cd ∧ cd.mro.contains (.type "BaseException") = true ∧ cd.mro.contains (.type "object") = true ∧ cd.mro.isEmpty = false
  get : PySem.W.findIn K (.ref C) "__getattribute__" = some (some (.builtin "BaseException.__getattribute__"))
  geta : PySem.W.findIn K (.ref C) "__getattr__" = some none
  cl : PySem.W.findIn K (.ref C) "__class__" = some (some (.builtin "object.__class__"))
  cg : PySem.W.specialIn K (.builtin "object.__class__") "__get__" = some (some (.builtin "getset_descriptor.__get__"))
  ct : PySem.W.takesIn K (.builtin "object.__class__") = some true
theorem xclass {ox : Obj} {od : Obj} {Q : Option Value → Shared → Prop} (X : K.In s.heap) (hI : XI K C) (J : PySem.W.InstAt s.heap e ox C (some od)) (h : Q (some (.ref C)) { s with toks := s.toks + 1 }) :
    wpAny (model prog w) A (getAttr? (.ref e) "__class__") Q E s := by
  obtain ⟨⟨cd, hc, hmB, hmO, hne⟩, hg, hga, hcl, hcg, hct⟩ := hI
  have hf : PySem.W.findObj K C (some od) "__class__" = some (.bind (.builtin "getset_descriptor.__get__") (.builtin "object.__class__")) := PySem.W.findObj_data (by rw [hc]; rfl) hcl hcg hct
  have L0 := J.type (M := model prog w)
  have L1 := PySem.W.looks_findIn (M := model prog w) X hg
  have L2x := PySem.W.looks_findIn (M := model prog w) X hga
  have L3 := PySem.W.looks_find (M := model prog w) X J hf
  have sub : PySem.W.Looks (model prog w) s.heap (isInstance (.ref e) (.type "BaseException")) true := J.type.andThen (PySem.W.looks_mroIn X (by unfold PySem.W.mroIn; rw [hc, Option.bind_some, if_neg (by rw [hne]; decide), hmB]))
  have hmro : PySem.W.mroIn K C (.type "object") = some true := by unfold PySem.W.mroIn; rw [hc, Option.bind_some, if_neg (by rw [hne]; decide), hmO]
  have hk : builtinKind "BaseException.__getattribute__" = some .slot := by decide +kernel
  have hsplit : splitId "BaseException.__getattribute__" = some ("BaseException", "__getattribute__") := by decide +kernel
  have hx2 : (Value.builtin "BaseException.__getattribute__" == Value.builtin "object.__getattribute__") = false := by decide +kernel
  have hx1 : (onTheHeap (Value.ref C) && Value.builtin "BaseException.__getattribute__" == Value.builtin "object.__getattribute__") = false := by rw [hx2]; rfl
  obtain ⟨hh, g, d, t, os⟩ := s
  unfold getAttr? getAttrBy? getAttrBy
  refine wpAny_bind (wpAny_mkText (wpAny_bind (wpAny_attempt (wpAny_holding (wpAny_bind (L0.at (wpAny_bind (L1.at ?_))))))))
  dsimp only
  rw [hx1]
  show wpAny _ _ (getAttrByItsOwn _ _ _ _ _ _) _ _ _
  unfold getAttrByItsOwn hookBefore
  refine wpAny_bind ?_
  rw [if_pos (show onTheHeap (Value.ref C) = true from rfl)]
  refine L2x.at (wpAny_bind (wpAny_attempt (wpAny_holding ?_)))
  unfold callGetattribute
  rw [if_neg (by decide)]
  unfold boundAndCalled
  rw [bexc_ga_bind]
  refine wpAny_bind (wpAny_pure (wpAny_call ?_))
  refine codeAny_call_builtin (by decide +kernel) F.entry_bexc_ga (@PySem.W.check_slot (model prog w) _ _ ⟨hh, g, d, t + 1, os⟩ "BaseException.__getattribute__" "BaseException" "__getattribute__" (.ref e) [.str "__class__" t] [] _ hk hsplit sub (F.args_bexc_ga _ _) ?_)
  refine wpAny_bind (wpAny_pure (wpAny_bind (wpAny_pure (wpAny_bind (L0.at (wpAny_bind (L3.at ?_)))))))
  show wpAny _ _ (holding [Value.builtin "object.__class__"] (call (.builtin "getset_descriptor.__get__") [.builtin "object.__class__", .ref e, .ref C]) >>= ret) _ _ _
  refine wpAny_bind (wpAny_holding (wpAny_call (PySem.W.class_get (s := ⟨hh, g, d, t + 1, os⟩) (ox := ox) (od := some od) X J hmro ?_)))
  refine wpAny_pure ?_
  show wpAny _ _ (handedOut (.ref C)) _ _ _
  rw [PySem.W.handedOut_of rfl]
  exact wpAny_pure (wpAny_pure h)
theorem cls_obj {h : Heap} (X : K.In h) (hc : PySem.W.clsIn K C = some cd) : ∃ o, h.get? C = some o ∧ o.data = .cls cd := by
  cases q : K.lookup C with
  | none => unfold PySem.W.clsIn at hc; rw [q] at hc; cases hc
  | some o =>
    obtain ⟨oc, od, dt, os⟩ := o
    unfold PySem.W.clsIn at hc
    rw [q] at hc
    cases dt <;> cases hc
    exact ⟨_, X _ _ q, rfl⟩
theorem kitx_x (hI : XI K C) : PySem.W.KitX K (.ref e) (.ref C) (fun h => ∃ ox od, PySem.W.InstAt h e ox C (some od)) where
  ty := fun _ _ _ ⟨_, _, J⟩ => J.type
  it := fun M h X _ A' Q' E' s' k q => by
    obtain ⟨cd', hc', _⟩ := hI.ec
    obtain ⟨o, ho, hd⟩ := cls_obj X hc'
    unfold isType loadHead
    refine wpAny_bind (wpAny_loadPart (k _ _ ho) ?_)
    rw [hd]
    exact wpAny_pure q
  ne := fun h tp dd its n sl X htp => by
    obtain ⟨cd', hc', _⟩ := hI.ec
    obtain ⟨o, ho, hd⟩ := cls_obj X hc'
    cases hq : (Value.ref C == Value.ref tp) with
    | false => rfl
    | true =>
      cases Value.ref.inj (beq_iff_eq.mp hq)
      rw [ho] at htp
      cases htp
      cases hd
  ca := fun X ⟨_, _, J⟩ k => xclass X hI J k
end
section
variable {X : Cx} {C e dx : Addr}
theorem Inv.inst {pins : List (Addr × Obj)} {σ : St} {H : Hp} {s : Shared} (I : Inv X pins σ H s) {fs : List (Str × V)} (he : H e = some (XObj C dx e)) (hd : H dx = some (.xd fs)) : ∃ ox od, PySem.W.InstAt s.heap e ox C (some od) := by
  obtain ⟨⟨vs, _, h1⟩, _, _⟩ := I.hok e _ he
  obtain ⟨mA, ⟨o, _, _, h2, _⟩, _⟩ := I.hok dx _ hd
  exact ⟨_, o, h1, rfl, rfl, h2⟩
/-- isinstance(e, c) of an exception -/
theorem call_isiX : CallR X (.builtin "isinstance") (fun xs H Q => ∃ e C dx fs c v b, xs = [.ref e, c] ∧ H e = some (XObj C dx e) ∧ H dx = some (.xd fs) ∧ XI X.K C ∧ (∀ u, RelV c u → u = v) ∧ PySem.W.kitOne X.K (.ref C) v = some b ∧ Q (.bl b) H) := by
  intro pins s σ H xs us Q I r h
  obtain ⟨e, C, dx, fs, c, v, b, rfl, he, hd, hI, hv, hk, q⟩ := h
  obtain ⟨u, u2, rfl, ru, ru2⟩ := vals2 r
  cases ru
  cases hv _ ru2
  exact PySem.W.kia_one (kitx_x hI) I.kIn (I.inst he hd) hk (fun z => nomatch z) fun tk => ⟨.bl b, H, I.tok tk, rfl, q⟩
/-- isinstance(e, (c, ..)) -/
theorem call_isiXT : CallR X (.builtin "isinstance") (fun xs H Q => ∃ (e C dx : Addr) (fs : List (Str × V)) (a : Addr) (cs : List Addr) (b : Bool), xs = [.ref e, .ref a] ∧ H e = some (XObj C dx e) ∧ H dx = some (.xd fs) ∧ XI X.K C ∧ SqT X.K H a (cs.map V.ref) ∧ PySem.W.kitAny X.K (.ref C) (cs.map Value.ref) = some b ∧ Q (.bl b) H) := by
  intro pins s σ H xs us Q I r h
  obtain ⟨e, C, dx, fs, a, cs, b, rfl, he, hd, hI, hv, hk, q⟩ := h
  obtain ⟨u, u2, rfl, ru, ru2⟩ := vals2 r
  cases ru
  cases ru2
  obtain ⟨its, rv, ⟨o, h1, h2, n, h3⟩, hz⟩ := I.tuple hv
  have hits : its = cs.map Value.ref := by
    clear hv hk q h1 h3 hz
    induction cs generalizing its with
    | nil => cases rv; rfl
    | cons c r ih =>
      cases rv with
      | cons q t => cases q; rw [List.map_cons, ih _ t]
  subst hits
  obtain ⟨c0, d0, dt0, sl0⟩ := o
  cases (show c0 = _ from h2)
  cases (show dt0 = _ from h3)
  exact PySem.W.kia_tup (kitx_x hI) I.kIn (I.inst he hd) h1 hk (fun z => nomatch z) fun tk => ⟨.bl b, H, I.tok tk, rfl, q⟩
/-- e.f of an exception -/
def tXfld (K : PySem.W.Frag) (ta : TE) (f : Str) : TE := fun σ H Q => ta σ H fun x H1 => ∃ e C CE fI dx fs v, x = .ref e ∧ H1 e = some (XObj C dx e) ∧ H1 dx = some (.xd fs) ∧ XC K C CE fI f ∧ fs.lookup f = some v ∧ Q v H1
theorem pe_xfld {o : Expr} {ta : TE} {f : Str} {pos : Pos} (he : PE X o ta) (hb : attributeBase o f X.env (eval o X.env) = eval o X.env) : PE X (.Attribute o f pos) (tXfld X.K ta f) := by
  intro pins s σ H Q I h
  refine attr_of hb (thn (he pins s σ H _ I h) fun u s1 ⟨x, H1, I1, rx, e, C, CE, fI, dx, fs, v, ex, he, hd, hc, l, q⟩ => ?_)
  subst ex
  obtain rfl : u = Value.ref e := rx
  obtain ⟨⟨vs, _, h1⟩, _, _⟩ := I1.hok e _ he
  obtain ⟨mA, hn, hr⟩ := I1.hok dx _ hd
  obtain ⟨nm, qn, N, bs, sn, sub, ab, col, dd, k0, k1, k2, k3, k5, mN, cd, _, _, _, _, hcl, hmro, hhd⟩ := (xcls_of I1.kIn hc.cls).ex
  obtain ⟨u, hu, ru⟩ := RelO.some_of (v := v) (o := mA f) (by rw [← l]; exact hr f)
  exact xget I1.kIn hcl hmro (by unfold PySem.W.hasDictIn; rw [hcl]; exact hhd) hc.get hc.geta hc.fld h1 hn hu (handed_of ru) ⟨v, H1, I1.tok _, ru, q⟩
end
end L2

namespace L2
open PySem PySem.Spec PyProof.Rows
/-- a class of exceptions with one field -/
structure Rs (P : Program) (w : World) (K : PySem.W.Frag) (mg : Str → Option Value) (base : Heap) (x name : Str) (C CE : Addr) (k : Nat) : Prop where
  ex : ∃ (fI : Addr) (fd : FuncData) (ps : List Str) (sp : Sp), XC K C CE fI name ∧ FnOk P w K mg base CX0 k fI fd ps sp ∧ Binds K fd ps [] ∧ ps.length ≤ 64 ∧ mg x = some (.ref C) ∧
    ∀ e v H Q, H e = some (XNew C e) → (∀ dx, H dx = none → dx ≠ e → Q .non (upd (upd H dx (.xd [(name, v)])) e (XMade C dx e))) → sp [.ref e, v] H Q E0
def spXInit (C : Addr) (name : Str) : Sp := fun vs H Q _ => ∃ (e : Addr) (v : V), vs = [.ref e, v] ∧ H e = some (XNew C e) ∧ ∀ dx, H dx = none → dx ≠ e → Q .non (upd (upd H dx (.xd [(name, v)])) e (XMade C dx e))
/-- raise C(v) -/
def sRs (C : Addr) (name : Str) (E : XK) (t : TA) : TS := fun _ σ H => t σ H fun vs H1 => ∃ v, vs = [v] ∧ ∀ e dx, H1 e = none → H1 dx = none → dx ≠ e → E (.ref C) (some e) (upd (upd H1 dx (.xd [(name, v)])) e (XObj C dx e))
section
variable {X : Cx} {C CE : Addr} {x name : Str} {e0 : Expr} {es : List Expr} {t : TA} {np cpos pos : Pos} {E : XK} {k : Nat}
theorem ps_rs (R : Rs X.prog X.w X.K X.mg X.base x name C CE k) (hr : Room (k + 1) X.A) (hcalm : X.calm = true) (hg : Gl X x) (ha : PA (X.wish (Fx X E)) (e0 :: es) t)
    (hdb : (x == ("__debug__" : Str)) = false := by decide) (he : starEach (e0 :: es) X.env = (false, eval e0 X.env) :: starEach es X.env := by rfl) (hpl : (backTo cpos (starEach es X.env)).any (·.1) = false := by rfl) :
    PS (X.wish (Fx X E)) (.Raise (some (.Call (.Name x np) (e0 :: es) [] cpos)) none pos) (sRs C name E t) := by
  obtain ⟨fI, fd, ps, sp, hc, F, hb, hps, hm, hsp⟩ := R.ex
  refine ps_raise (t := t) (C := C) (sp := sp) (c := fun vs H1 => ∃ v, vs = [v] ∧ ∀ e dx, H1 e = none → H1 dx = none → dx ≠ e → E (.ref C) (some e) (upd (upd H1 dx (.xd [(name, v)])) e (XObj C dx e))) hc F hb hps hr hcalm hg hm ha (fun vs H1 ⟨v, ev, q⟩ e he => ?_) hdb he hpl
  subst ev
  refine hsp e v _ _ upd_same fun dx hd hne => ⟨rfl, dx, upd_same, ?_⟩
  rw [upd_ne hne] at hd
  have z := q e dx he hd hne
  have eq : upd (upd (upd (upd H1 e (XNew C e)) dx (.xd [(name, v)])) e (XMade C dx e)) e (XObj C dx e) = upd (upd H1 dx (.xd [(name, v)])) e (XObj C dx e) := by
    funext b
    by_cases h1 : b = e
    · subst h1; rw [upd_same, upd_same]
    · rw [upd_ne h1, upd_ne h1, upd_ne h1]
      by_cases h2 : b = dx
      · subst h2; rw [upd_same, upd_same]
      · rw [upd_ne h2, upd_ne h2, upd_ne h1]
  rw [eq]
  exact z
end
/-- a class that is caught -/
structure Ec (K : PySem.W.Frag) (mg : Str → Option Value) (x : Str) (S : Addr) (bm : List Value) : Prop where
  ec : ecIn K S bm = true
  mg : mg x = some (.ref S)
  hb : bm.contains (.type "BaseException") = true
theorem ec_of {K : PySem.W.Frag} {C CE fI : Addr} (h : xcIn K C CE fI = true) : ecIn K C (.ref CE :: bmV) = true := by
  unfold xcIn at h
  unfold ecIn
  split at h
  · rename_i ho
    try rw [ho]
    split at h
    · rename_i hm hs
      simp only [Bool.and_eq_true, beq_iff_eq, Bool.not_eq_true'] at h
      obtain ⟨⟨⟨⟨⟨⟨⟨rfl, rfl⟩, hdel⟩, ht⟩, hbm⟩, hok⟩, hni⟩, hhd⟩ := h
      try simp only [hm, hs]
      rw [hbm, hdel]
      simp
    · cases h
  · cases h
end L2
namespace L2
open PySem PySem.Spec PyProof.Rows
section
variable {X : Cx} {K : PySem.W.Frag}
/-! in a suite: the readings name K -/
theorem call_isiXK (hK : X.K = K) : CallR X (.builtin "isinstance") (fun xs H Q => ∃ e C dx fs c v b, xs = [.ref e, c] ∧ H e = some (XObj C dx e) ∧ H dx = some (.xd fs) ∧ XI K C ∧ (∀ u, RelV c u → u = v) ∧ PySem.W.kitOne K (.ref C) v = some b ∧ Q (.bl b) H) := by
  subst hK
  exact call_isiX
theorem call_isiXTK (hK : X.K = K) : CallR X (.builtin "isinstance") (fun xs H Q => ∃ (e C dx : Addr) (fs : List (Str × V)) (a : Addr) (cs : List Addr) (b : Bool), xs = [.ref e, .ref a] ∧ H e = some (XObj C dx e) ∧ H dx = some (.xd fs) ∧ XI K C ∧ SqT K H a (cs.map V.ref) ∧ PySem.W.kitAny K (.ref C) (cs.map Value.ref) = some b ∧ Q (.bl b) H) := by
  subst hK
  exact call_isiXT
theorem pe_xfldK {o : Expr} {ta : TE} {f : Str} {pos : Pos} (hK : X.K = K) (he : PE X o ta) (hb : attributeBase o f X.env (eval o X.env) = eval o X.env) : PE X (.Attribute o f pos) (tXfld K ta f) := by
  subst hK
  exact pe_xfld he hb
end
/-- XI of such a class -/
theorem xi_of {h : Heap} {K : PySem.W.Frag} {C CE fI : Addr} {name : Str} (X : K.In h) (hX : XC K C CE fI name) (hcl : PySem.W.findIn K (.ref C) "__class__" = some (some (.builtin "object.__class__")))
    (hcg : PySem.W.specialIn K (.builtin "object.__class__") "__get__" = some (some (.builtin "getset_descriptor.__get__"))) (hct : PySem.W.takesIn K (.builtin "object.__class__") = some true) : XI K C := by
  obtain ⟨nm, qn, N, bs, sn, sub, ab, col, dd, k0, k1, k2, k3, k5, mN, cd, _, _, _, _, hc, hm, _⟩ := (xcls_of X hX.cls).ex
  have b1 : bmV.contains (.type "BaseException") = true := by decide +kernel
  have b2 : bmV.contains (.type "object") = true := by decide +kernel
  exact ⟨⟨cd, hc, by rw [hm, List.contains_cons, List.contains_cons, b1, Bool.or_true, Bool.or_true], by rw [hm, List.contains_cons, List.contains_cons, b2, Bool.or_true, Bool.or_true], by rw [hm]; rfl⟩, hX.get, hX.geta, hcl, hcg, hct⟩
end L2

namespace Cw
open PySem

/-! ### texts by their codes -/
theorem str_ext {x y : Str} (h : x.cps.toList = y.cps.toList) : x = y := by
  cases x; cases y
  exact congrArg Str.mk (Array.toList_inj.mp h)
theorem cs_app (x y : Str) : (x ++ y).cps.toList = x.cps.toList ++ y.cps.toList := by
  show (x.cps ++ y.cps).toList = _
  simp
theorem cs_len (x : Str) : x.cps.toList.length = x.length := by simp [Str.length]

def joinC (c : Nat) : List (List Nat) → List Nat
  | [] => []
  | [x] => x
  | x :: y :: r => x ++ c :: joinC c (y :: r)

theorem join_cs (c : Nat) : ∀ l : List Str, (Str.join ⟨#[c]⟩ l).cps.toList = joinC c (l.map fun x => x.cps.toList)
  | [] => rfl
  | [x] => rfl
  | x :: y :: r => by
    have ih := join_cs c (y :: r)
    show ((x ++ ⟨#[c]⟩ ++ Str.join ⟨#[c]⟩ (y :: r) : Str)).cps.toList = _
    rw [cs_app, cs_app, ih]
    simp [joinC]

theorem cut_inj {c : Nat} : ∀ {x y a b : List Nat}, c ∉ x → c ∉ y → x ++ c :: a = y ++ c :: b → x = y ∧ a = b
  | [], [], a, b, _, _, h => by simpa using h
  | [], z :: y, a, b, _, hy, h => by
    simp at h
    exact absurd (by simp [h.1]) hy
  | z :: x, [], a, b, hx, _, h => by
    simp at h
    exact absurd (by simp [h.1]) hx
  | u :: x, v :: y, a, b, hx, hy, h => by
    simp only [List.cons_append, List.cons.injEq] at h
    obtain ⟨e1, e2⟩ := cut_inj (x := x) (y := y) (fun m => hx (List.mem_cons_of_mem _ m)) (fun m => hy (List.mem_cons_of_mem _ m)) h.2
    exact ⟨by rw [h.1, e1], e2⟩

theorem joinC_inj (c : Nat) : ∀ xs ys : List (List Nat), xs ≠ [] → ys ≠ [] → (∀ x ∈ xs, c ∉ x) → (∀ y ∈ ys, c ∉ y) → joinC c xs = joinC c ys → xs = ys
  | [], _, h, _, _, _, _ => absurd rfl h
  | _, [], _, h, _, _, _ => absurd rfl h
  | [x], [y], _, _, _, _, h => by
    have h : x = y := h
    rw [h]
  | [x], y :: z :: r, _, _, hx, _, h => by
    have h : x = y ++ c :: joinC c (z :: r) := h
    exact absurd (by rw [h]; simp) (hx x (by simp))
  | x :: z :: r, [y], _, _, _, hy, h => by
    have h : x ++ c :: joinC c (z :: r) = y := h
    exact absurd (by rw [← h]; simp) (hy y (by simp))
  | x :: x' :: r, y :: y' :: t, _, _, hx, hy, h => by
    have h : x ++ c :: joinC c (x' :: r) = y ++ c :: joinC c (y' :: t) := h
    obtain ⟨e1, e2⟩ := cut_inj (hx x (by simp)) (hy y (by simp)) h
    have e3 := joinC_inj c (x' :: r) (y' :: t) (by simp) (by simp) (fun z m => hx z (List.mem_cons_of_mem _ m)) (fun z m => hy z (List.mem_cons_of_mem _ m)) e2
    rw [e1, e3]

theorem split_ne (x y : Str) : Txt.split x y ≠ [] := by
  unfold Txt.split
  split
  · simp
  · split
    · simp
    · simp [Builtin.Str.partsBetween]

/-- lines without the sign, joined by it and split again -/
theorem split_join (c : Nat) {l : List Str} (h0 : l ≠ []) (hf : ∀ x ∈ l, c ∉ x.cps.toList) : Txt.split (Str.join ⟨#[c]⟩ l) ⟨#[c]⟩ = l := by
  have e := StrLaws.join_split (Str.join ⟨#[c]⟩ l) ⟨#[c]⟩
  have e1 := congrArg (fun z : Str => z.cps.toList) e
  simp only [join_cs] at e1
  have e2 := joinC_inj c _ _ (by simpa using split_ne _ _) (by simpa using h0) (fun x m => ?_) (fun x m => ?_) e1
  · exact (List.map_inj_right fun a b q => str_ext q).mp e2
  · obtain ⟨p, hp, rfl⟩ := List.mem_map.mp m
    exact StrLaws.split_free _ c p hp
  · obtain ⟨p, hp, rfl⟩ := List.mem_map.mp m
    exact hf p hp
/-- the length of a joined text -/
theorem joinC_len (c : Nat) : ∀ l : List (List Nat), (joinC c l).length + 1 ≤ (l.map List.length).sum + l.length + 1
  | [] => by simp [joinC]
  | [x] => by simp [joinC]
  | x :: y :: r => by
    have ih := joinC_len c (y :: r)
    simp only [joinC, List.length_append, List.length_cons, List.map_cons, List.sum_cons] at ih ⊢
    omega
end Cw

namespace Cw
open PySem

/-! ### the script's cells, the drawn sheet -/
def cellAt (ns : List Int) (k : Nat) : Int := ns.getD k 0
def mixed (ns : List Int) (k : Nat) : Int :=
  if k < ns.length then cellAt ns k * 48271 % 2147483647 else (cellAt ns 0 + (k : Int) * k + 1) * 48271 % 2147483647 * 16807 % 2147483629
/-- a sign of a sheet: a shut cell, a free one, a letter -/
def OkC (c : Nat) : Prop := c = 35 ∨ c = 46 ∨ (97 ≤ c ∧ c ≤ 122)
def signC (n : Int) : Nat := if n % 3 = 0 then 46 else if n % 3 = 1 then 35 else 97 + (n / 3 % 26).toNat
theorem signC_ok (n : Int) : OkC (signC n) := by
  unfold signC OkC
  split
  · exact .inr (.inl rfl)
  · split
    · exact .inl rfl
    · refine .inr (.inr ?_)
      have h1 := Int.emod_nonneg (n / 3) (show (26 : Int) ≠ 0 by decide)
      have h2 := Int.emod_lt_of_pos (n / 3) (show (0 : Int) < 26 by decide)
      omega
def high (ns : List Int) : Nat := (1 + cellAt ns 0 % 9).toNat
def wide (ns : List Int) : Nat := (1 + cellAt ns 0 / 9 % 9).toNat
theorem high_le (ns : List Int) : 1 ≤ high ns ∧ high ns ≤ 9 := by
  have h1 := Int.emod_nonneg (cellAt ns 0) (show (9 : Int) ≠ 0 by decide)
  have h2 := Int.emod_lt_of_pos (cellAt ns 0) (show (0 : Int) < 9 by decide)
  unfold high
  omega
theorem wide_le (ns : List Int) : 1 ≤ wide ns ∧ wide ns ≤ 9 := by
  have h1 := Int.emod_nonneg (cellAt ns 0 / 9) (show (9 : Int) ≠ 0 by decide)
  have h2 := Int.emod_lt_of_pos (cellAt ns 0 / 9) (show (0 : Int) < 9 by decide)
  unfold wide
  omega
/-- the first n signs of line k -/
def lineC (ns : List Int) (first k n : Nat) : List Nat := (List.range n).map fun j => signC (mixed ns (first + k * wide ns + j))
theorem lineC_succ (ns : List Int) (first k n : Nat) : lineC ns first k (n + 1) = lineC ns first k n ++ [signC (mixed ns (first + k * wide ns + n))] := by
  unfold lineC
  rw [List.range_succ, List.map_append]
  rfl
theorem lineC_len (ns : List Int) (first k n : Nat) : (lineC ns first k n).length = n := by simp [lineC]
def lineS (ns : List Int) (first k : Nat) : Str := ⟨(lineC ns first k (wide ns)).toArray⟩
/-- the first n lines -/
def linesS (ns : List Int) (first n : Nat) : List Str := (List.range n).map (lineS ns first)
theorem linesS_succ (ns : List Int) (first n : Nat) : linesS ns first (n + 1) = linesS ns first n ++ [lineS ns first n] := by
  unfold linesS
  rw [List.range_succ, List.map_append]
  rfl
theorem linesS_len (ns : List Int) (first n : Nat) : (linesS ns first n).length = n := by simp [linesS]
def sheetS (ns : List Int) (first : Nat) : List Str := linesS ns first (high ns)

/-- lines of a sheet -/
structure IsSheet (l : List Str) (w : Nat) : Prop where
  one : 1 ≤ l.length
  nine : l.length ≤ 9
  w1 : 1 ≤ w
  w9 : w ≤ 9
  len : ∀ x ∈ l, x.length = w
  ok : ∀ x ∈ l, ∀ c ∈ x.cps.toList, OkC c
theorem sheetS_ok (ns : List Int) (first : Nat) : IsSheet (sheetS ns first) (wide ns) := by
  have h := high_le ns
  have w := wide_le ns
  refine ⟨by rw [sheetS, linesS_len]; exact h.1, by rw [sheetS, linesS_len]; exact h.2, w.1, w.2, fun x m => ?_, fun x m c mc => ?_⟩
  · obtain ⟨k, _, rfl⟩ := List.mem_map.mp m
    show (lineC ns first k (wide ns)).toArray.size = _
    rw [List.size_toArray, lineC_len]
  · obtain ⟨k, _, rfl⟩ := List.mem_map.mp m
    have mc : c ∈ lineC ns first k (wide ns) := by simpa [lineS] using mc
    obtain ⟨j, _, rfl⟩ := List.mem_map.mp mc
    exact signC_ok _
theorem IsSheet.ne {l : List Str} {w : Nat} (S : IsSheet l w) : l ≠ [] := by
  intro e
  have := S.one
  rw [e] at this
  cases this
theorem IsSheet.noLf {l : List Str} {w : Nat} (S : IsSheet l w) : ∀ x ∈ l, 10 ∉ x.cps.toList := fun x m h => by
  have := S.ok x m 10 h
  unfold OkC at this
  omega
theorem IsSheet.split {l : List Str} {w : Nat} (S : IsSheet l w) : Txt.split (Str.join ⟨#[10]⟩ l) ⟨#[10]⟩ = l := split_join 10 S.ne S.noLf

theorem join_len (c : Nat) (l : List Str) {w : Nat} (hw : ∀ x ∈ l, x.length ≤ w) : (Str.join ⟨#[c]⟩ l).length ≤ l.length * (w + 1) := by
  have h1 := joinC_len c (l.map fun x => x.cps.toList)
  have h2 : (Str.join ⟨#[c]⟩ l).length = (joinC c (l.map fun x => x.cps.toList)).length := by rw [← join_cs, cs_len]
  have h3 : ((l.map fun x => x.cps.toList).map List.length).sum ≤ l.length * w := by
    clear h1 h2
    induction l with
    | nil => simp
    | cons x r ih =>
      have := ih fun y m => hw y (List.mem_cons_of_mem _ m)
      have h := hw x List.mem_cons_self
      simp only [List.map_cons, List.sum_cons, List.length_cons, cs_len, Nat.succ_mul] at this ⊢
      omega
  rw [List.length_map] at h1
  have h4 : l.length * (w + 1) = l.length * w + l.length := Nat.mul_succ ..
  omega
theorem sum_len (l : List Str) {w : Nat} (hw : ∀ x ∈ l, x.length ≤ w) : (l.map (·.length)).sum ≤ l.length * w := by
  induction l with
  | nil => simp
  | cons x r ih =>
    have := ih fun y m => hw y (List.mem_cons_of_mem _ m)
    have h := hw x List.mem_cons_self
    simp only [List.map_cons, List.sum_cons, List.length_cons, Nat.succ_mul]
    omega
/-- the signs that may stand on a sheet -/
def signs : Str := "#.abcdefghijklmnopqrstuvwxyz"
def letters : Str := "abcdefghijklmnopqrstuvwxyz"
theorem letters_cs : letters.cps.toList = (List.range 26).map (97 + ·) := by decide +kernel
end Cw

namespace Cw
open PySem
/-! ### cells, line by line -/
def cells (h w : Nat) : List (Nat × Nat) := (List.range h).flatMap fun i => (List.range w).map fun j => (i, j)
/-! ### the sign in a cell -/
def sg (l : List Str) (c : Nat × Nat) : Nat := ((l.getD c.1 ⟨#[]⟩).cps.toList).getD c.2 0
theorem getD_of {α : Type} {l : List α} {i : Nat} {x d : α} (h : l[i]? = some x) : l.getD i d = x := by rw [List.getD_eq_getElem?_getD, h]; rfl
theorem IsSheet.row {l : List Str} {w : Nat} (S : IsSheet l w) {i : Nat} (hi : i < l.length) : ∃ x, l[i]? = some x ∧ x ∈ l ∧ x.length = w ∧ x.cps.toList.length = w ∧ ∀ j, j < w → x.cps.toList[j]? = some (sg l (i, j)) := by
  refine ⟨l[i], List.getElem?_eq_getElem hi, List.getElem_mem hi, S.len _ (List.getElem_mem hi), by rw [cs_len]; exact S.len _ (List.getElem_mem hi), fun j hj => ?_⟩
  have hl : j < l[i].cps.toList.length := by rw [cs_len, S.len _ (List.getElem_mem hi)]; exact hj
  unfold sg
  rw [getD_of (List.getElem?_eq_getElem hi), List.getElem?_eq_getElem hl]
  simp only [getD_of (List.getElem?_eq_getElem hl)]
def isFreeC (l : List Str) (c : Nat × Nat) : Bool := decide (sg l c = 46)
def freeC (l : List Str) (w : Nat) : List (Nat × Nat) := (cells l.length w).filter (isFreeC l)
end Cw
namespace Cw
open PySem
/-! ### a sheet with another sign in a cell -/
end Cw

namespace Cw
open PySem
/-! ### floors -/
/-- grown line by line -/
structure Lines (m : List Str) (w : Nat) : Prop where
  len : ∀ x ∈ m, x.length = w
  ok : ∀ x ∈ m, ∀ c ∈ x.cps.toList, OkC c
theorem Lines.nil (w : Nat) : Lines [] w := ⟨(by simp), (by simp)⟩
theorem Lines.snoc {m : List Str} {w : Nat} (L : Lines m w) {x : Str} (h1 : x.length = w) (h2 : ∀ c ∈ x.cps.toList, OkC c) : Lines (m ++ [x]) w := by
  refine ⟨fun y hy => ?_, fun y hy => ?_⟩
  · rcases List.mem_append.mp hy with z | z
    · exact L.len y z
    · rw [List.mem_singleton.mp z]; exact h1
  · rcases List.mem_append.mp hy with z | z
    · exact L.ok y z
    · rw [List.mem_singleton.mp z]; exact h2
theorem Lines.sheet {m : List Str} {w : Nat} (L : Lines m w) (h1 : 1 ≤ m.length) (h9 : m.length ≤ 9) (w1 : 1 ≤ w) (w9 : w ≤ 9) : IsSheet m w := ⟨h1, h9, w1, w9, L.len, L.ok⟩
theorem IsSheet.lines {m : List Str} {w : Nat} (S : IsSheet m w) : Lines m w := ⟨S.len, S.ok⟩
end Cw

namespace Cw
open PySem L2
def top (i : Nat) : Stmt := PySem.Challenge.pw_crosswright_k02_no_sheet.main.body.getD i (.Pass ⟨0, 0, 0, 0⟩)
/-- names that the text leaves to the builtins -/
structure Bl (mg : Str → Option Value) : Prop where
  len_ : mg "len" = none
  range_ : mg "range" = none
  tuple_ : mg "tuple" = none
  all_ : mg "all" = none
  str_ : mg "str" = none
  isinstance_ : mg "isinstance" = none
  enumerate_ : mg "enumerate" = none
  ValueError_ : mg "ValueError" = none
  list_ : mg "list" = none
  int_ : mg "int" = none
  bool_ : mg "bool" = none
section
variable {P : Program} {w : World} {K : PySem.W.Frag} {mg : Str → Option Value} {base : Heap} {f : Addr} {fd : FuncData}
/-! ### the drawn cells -/
def spCell (K : PySem.W.Frag) : Sp := fun vs H Q _ => ∃ (a : Addr) (ns : List Int) (k : Nat), vs = [.ref a, .int k] ∧ SqL K H a (ns.map V.int) ∧ Q (.int (cellAt ns k)) H
theorem get_cell {ns : List Int} {k : Nat} (h : k < ns.length) : (ns.map V.int)[k]? = some (.int (cellAt ns k)) := by
  rw [List.getElem?_map, List.getElem?_eq_getElem h]
  simp [cellAt, h]
theorem sc_law_cell_at : FnScope ["_law_script", "_law_k"] ["_law_script", "_law_k"] (defScope (top 22)) := ⟨rfl, rfl, rfl, by decide +kernel, rfl, by decide +kernel, by decide +kernel⟩
theorem ok_cell (B : Bl mg) (F : Fun K "_law_cell_at" "_law_cell_at" (top 22) f fd) : FnOk P w K mg base CX0 1 f fd ["_law_script", "_law_k"] (spCell K) := by
  refine F.ok sc_law_cell_at (fun vs H Q E h => ?_) (fun cdv A outer s H vs Q E hr h => ?_)
  · obtain ⟨a, ns, k, rfl, _⟩ := h
    rfl
  · obtain ⟨a, ns, k, rfl, hS, q⟩ := h
    refine ⟨_, (pss_cons (ps_if (pt_cmpR op_lt (pv 1) (pe_callB call_len_seq (by rfl) B.len_ bt_len (pa_cons (pv 0) pa_nil)) (nomark _))
      (pss_one (ps_ret (pe_ix ix_list (pv 0) (pv 1) (fun _ _ => rfl))))
      pss_nil)
      (pss_one (ps_ret pe_int))), ?_⟩
    refine ⟨_, rfl, _, rfl, a, _, rfl, .inl hS, _, _, rfl, rfl, _, rfl, ite2 (fun h => ?_) (fun h => ?_)⟩
    · have h : (k : Int) < ((ns.map V.int).length : Int) := of_decide_eq_true h
      rw [List.length_map] at h
      exact ⟨_, rfl, _, rfl, a, _, _, _, rfl, rfl, hS, atI_nat (get_cell (by omega)), q⟩
    · have h : ¬ (k : Int) < ((ns.map V.int).length : Int) := fun z => h (decide_eq_true z)
      rw [List.length_map] at h
      have e : cellAt ns k = 0 := by
        unfold cellAt
        rw [List.getD_eq_getElem?_getD, List.getElem?_eq_none (by omega)]
        rfl
      rw [e] at q
      exact q
def spMixed (K : PySem.W.Frag) : Sp := fun vs H Q _ => ∃ (a : Addr) (ns : List Int) (k : Nat), vs = [.ref a, .int k] ∧ SqL K H a (ns.map V.int) ∧ k ≤ 100000 ∧ Q (.int (mixed ns k)) H
theorem sc_law_mixed : FnScope ["_law_script", "_law_k"] ["_law_script", "_law_k"] (defScope (top 23)) := ⟨rfl, rfl, rfl, by decide +kernel, rfl, by decide +kernel, by decide +kernel⟩
theorem ok_mixed (B : Bl mg) (F : Fun K "_law_mixed" "_law_mixed" (top 23) f fd) (F_law_cell_at : Fn P w K mg base "_law_cell_at" 1 (spCell K)) : FnOk P w K mg base CX0 2 f fd ["_law_script", "_law_k"] (spMixed K) := by
  refine F.ok sc_law_mixed (fun vs H Q E h => ?_) (fun cdv A outer s H vs Q E hr h => ?_)
  · obtain ⟨a, ns, k, rfl, _⟩ := h
    rfl
  · obtain ⟨a, ns, k, rfl, hS, hk, q⟩ := h
    refine ⟨_, (pss_cons (ps_if (pt_cmpR op_lt (pv 1) (pe_callB call_len_seq (by rfl) B.len_ bt_len (pa_cons (pv 0) pa_nil)) (nomark _))
      (pss_one (ps_ret (pe_op op_mod (pe_op op_mul (pe_ix ix_list (pv 0) (pv 1) (fun _ _ => rfl)) pe_int) pe_int)))
      pss_nil)
      (pss_one (ps_ret (pe_op op_mod (pe_op op_mul (pe_op op_mod (pe_op op_mul (pe_op op_add (pe_op op_add (pe_fn F_law_cell_at (hr.mono (by decide)) (by rfl) (pa_cons (pv 0) (pa_cons pe_int pa_nil))) (pe_op op_mul (pv 1) (pv 1))) pe_int) pe_int) pe_int) pe_int) pe_int)))), ?_⟩
    refine ⟨_, rfl, _, rfl, a, _, rfl, .inl hS, _, _, rfl, rfl, _, rfl, ite2 (fun h => ?_) (fun h => ?_)⟩
    · have h : (k : Int) < ((ns.map V.int).length : Int) := of_decide_eq_true h
      rw [List.length_map] at h
      have h' : k < ns.length := by omega
      refine ⟨_, rfl, _, rfl, a, _, _, _, rfl, rfl, hS, atI_nat (get_cell h'), _, _, rfl, rfl, .inr ⟨by decide, by decide⟩, _, _, rfl, rfl, (by show (0 : Int) < 2147483647; decide), ?_⟩
      have e : mixed ns k = cellAt ns k * 48271 % 2147483647 := if_pos h'
      rw [e] at q
      exact q
    · have h : ¬ (k : Int) < ((ns.map V.int).length : Int) := fun z => h (decide_eq_true z)
      rw [List.length_map] at h
      have h' : ¬ k < ns.length := by omega
      refine ⟨_, rfl, a, ns, 0, rfl, hS, _, rfl, _, rfl, _, _, rfl, rfl, .inl ⟨by omega, by omega⟩, _, _, rfl, rfl, _, _, rfl, rfl, _, _, rfl, rfl, .inr ⟨by decide, by decide⟩, _, _, rfl, rfl, (by show (0 : Int) < 2147483647; decide), _, _, rfl, rfl, .inr ⟨by decide, by decide⟩, _, _, rfl, rfl, (by show (0 : Int) < 2147483629; decide), ?_⟩
      have e : mixed ns k = (cellAt ns 0 + (k : Int) * k + 1) * 48271 % 2147483647 * 16807 % 2147483629 := if_neg h'
      rw [e] at q
      exact q
/-! ### the drawn sheet -/
theorem sz_le {n : Nat} (h : n ≤ 10000) : n ≤ sizeLine := Nat.le_trans h (by decide)
theorem sz_lt {n : Nat} (h : n ≤ 10000) : n < sizeLine := Nat.lt_of_le_of_lt h (by decide)
theorem wide_int (ns : List Int) : 1 + cellAt ns 0 / 9 % 9 = ((wide ns : Nat) : Int) := by
  have h1 := Int.emod_nonneg (cellAt ns 0 / 9) (show (9 : Int) ≠ 0 by decide)
  unfold wide
  omega
theorem high_int (ns : List Int) : 1 + cellAt ns 0 % 9 = ((high ns : Nat) : Int) := by
  have h1 := Int.emod_nonneg (cellAt ns 0) (show (9 : Int) ≠ 0 by decide)
  unfold high
  omega
theorem letter_at (n : Int) : atI letters.cps.toList (n / 3 % 26) = some (97 + (n / 3 % 26).toNat) := by
  have h1 := Int.emod_nonneg (n / 3) (show (26 : Int) ≠ 0 by decide)
  have h2 := Int.emod_lt_of_pos (n / 3) (show (0 : Int) < 26 by decide)
  obtain ⟨k, hk⟩ := Int.eq_ofNat_of_zero_le h1
  rw [hk, Int.toNat_natCast]
  refine atI_nat ?_
  rw [letters_cs, List.getElem?_map, List.getElem?_range (by omega)]
  rfl
theorem sign_at (n : Int) : atI [V.str ("." : Str), V.str ("#" : Str), V.str ⟨#[97 + (n / 3 % 26).toNat]⟩] (n % 3) = some (.str ⟨#[signC n]⟩) := by
  have h1 := Int.emod_nonneg n (show (3 : Int) ≠ 0 by decide)
  have h2 := Int.emod_lt_of_pos n (show (0 : Int) < 3 by decide)
  have h3 : n % 3 = 0 ∨ n % 3 = 1 ∨ n % 3 = 2 := by omega
  unfold signC
  rcases h3 with h | h | h
  · rw [h, if_pos rfl]
    show some (V.str ("." : Str)) = _
    have e : ("." : Str) = ⟨#[46]⟩ := by decide +kernel
    rw [e]
  · rw [h, if_neg (by decide), if_pos rfl]
    show some (V.str ("#" : Str)) = _
    have e : ("#" : Str) = ⟨#[35]⟩ := by decide +kernel
    rw [e]
  · rw [h, if_neg (by decide), if_neg (by decide)]
    rfl
theorem line_grow (ns : List Int) (first k n : Nat) : (⟨(lineC ns first k n).toArray⟩ ++ ⟨#[signC (mixed ns (first + k * wide ns + n))]⟩ : Str) = ⟨(lineC ns first k (n + 1)).toArray⟩ := by
  apply str_ext
  rw [cs_app, lineC_succ]
def spSheet (K : PySem.W.Frag) : Sp := fun vs H Q _ => ∃ (a : Addr) (ns : List Int) (first : Nat), vs = [.ref a, .int first] ∧ SqL K H a (ns.map V.int) ∧ first ≤ 100 ∧ ∀ p H', H p = none → Same H H' → H' p = some (.tup ((sheetS ns first).map V.str)) → Q (.ref p) H'
theorem sc_law_sheet : FnScope ["_law_script", "_law_first", "_law_cell", "_law_size", "_law_letters", "_law_lines", "_law_k", "_law_line", "_law_j", "_law_number"] ["_law_script", "_law_first"] (defScope (top 24)) := ⟨rfl, rfl, rfl, by decide +kernel, rfl, by decide +kernel, by decide +kernel⟩
theorem ok_sheet (B : Bl mg) (F : Fun K "_law_sheet" "_law_sheet" (top 24) f fd) (F_law_cell_at : Fn P w K mg base "_law_cell_at" 1 (spCell K)) (F_law_mixed : Fn P w K mg base "_law_mixed" 2 (spMixed K)) : FnOk P w K mg base CX0 3 f fd ["_law_script", "_law_first"] (spSheet K) := by
  refine F.ok sc_law_sheet (fun vs H Q E h => ?_) (fun cdv A outer s H vs Q E hr h => ?_)
  · obtain ⟨a, ns, k, rfl, _⟩ := h
    rfl
  · obtain ⟨a, ns, first, rfl, hS, hfirst, q⟩ := h
    have hw := wide_le ns
    have hh := high_le ns
    have ew := wide_int ns
    have eh := high_int ns
    refine ⟨_, (pss_cons (ps_set (i := 2) sc_law_sheet.nd rfl (Or.inl rfl) (pe_fn F_law_cell_at (hr.mono (by decide)) (by rfl) (pa_cons (pv 0) (pa_cons pe_int pa_nil))))
      (pss_cons (ps_set (i := 3) sc_law_sheet.nd rfl (Or.inl rfl) (pe_op op_add pe_int (pe_op op_mod (pe_op op_fdiv (pv 2) pe_int) pe_int)))
      (pss_cons (ps_set (i := 4) sc_law_sheet.nd rfl (Or.inl rfl) pe_str)
      (pss_cons (ps_set (i := 5) sc_law_sheet.nd rfl (Or.inl rfl) (pe_lst pa_nil))
      (pss_cons (ps_for PassesOwn.never rfl (pi_range1 (by rfl) B.range_ (pa_cons (pe_op op_add pe_int (pe_op op_mod (pv 2) pe_int)) pa_nil)) (pg_name (i := 6) sc_law_sheet.nd rfl (Or.inl rfl))
      (pss_cons (ps_set (i := 7) sc_law_sheet.nd rfl (Or.inl rfl) pe_str)
        (pss_cons (ps_for PassesOwn.never rfl (pi_range1 (by rfl) B.range_ (pa_cons (pv 3) pa_nil)) (pg_name (i := 8) sc_law_sheet.nd rfl (Or.inl rfl))
        (pss_cons (ps_set (i := 9) sc_law_sheet.nd rfl (Or.inl rfl) (pe_fn F_law_mixed (hr.mono (by decide)) (by rfl) (pa_cons (pv 0) (pa_cons (pe_op op_add (pe_op op_add (pv 1) (pe_op op_mul (pv 6) (pv 3))) (pv 8)) pa_nil))))
          (pss_one (ps_set (i := 7) sc_law_sheet.nd rfl (Or.inl rfl) (pe_op op_add_str (pv 7) (pe_ix ix_list (pe_lst (pa_cons pe_str (pa_cons pe_str (pa_cons (pe_ix ix_str (pv 4) (pe_op op_mod (pe_op op_fdiv (pv 9) pe_int) pe_int) (fun _ _ => rfl)) pa_nil)))) (pe_op op_mod (pv 9) pe_int) (fun _ _ => rfl)))))))
        (pss_one (ps_expr (pe_bm PySem.F.plainAttrs_list PySem.F.slot_list_append PySem.F.type_list_append mt_append (pv 5) (pa_cons (pv 7) pa_nil)))))))
      (pss_one (ps_ret (pe_callTy call_tuple_of (by rfl) B.tuple_ bt_tuple (pa_cons (pv 5) pa_nil))))))))), ?_⟩
    -- cell, size, letters, lines
    refine ⟨_, rfl, a, ns, 0, rfl, hS, _, rfl, _, _, rfl, rfl, ⟨by decide, by decide⟩, _, _, rfl, rfl, (by show (0 : Int) < 9; decide), _, _, rfl, rfl, Nat.zero_le _, fun l hl => ?_⟩
    -- for k in range(1 + cell % 9)
    refine ⟨_, rfl, _, _, rfl, rfl, (by show (0 : Int) < 9; decide), _, _, rfl, rfl, _, rfl, by omega, by omega, ?_⟩
    rw [eh, Int.toNat_natCast]
    refine for_range (n := high ns) (fun i σ H2 => ∃ v6 v7 v8 v9, σ = [some (.ref a), some (.int first), some (.int (cellAt ns 0)), some (.int (wide ns)), some (.str letters), some (.ref l), v6, v7, v8, v9] ∧ Same H H2 ∧ H2 l = some (.lst ((linesS ns first i).map V.str)))
      ⟨none, none, none, none, by rw [← ew]; rfl, Same.upd hl, upd_same⟩ ?_ ?_
    · rintro i σ H2 hi ⟨v6, v7, v8, v9, rfl, sm, hL⟩
      -- line = ''; for j in range(size)
      refine ⟨_, rfl, _, rfl, by omega, by omega, ?_⟩
      rw [Int.toNat_natCast]
      refine for_range (n := wide ns) (fun j σ H3 => ∃ v8 v9, σ = [some (.ref a), some (.int first), some (.int (cellAt ns 0)), some (.int (wide ns)), some (.str letters), some (.ref l), some (.int (0 + i)), some (.str ⟨(lineC ns first i j).toArray⟩), v8, v9] ∧ Same H2 H3)
        ⟨v8, v9, rfl, Same.refl' _⟩ ?_ ?_
      · rintro j σ H3 hj ⟨v8, v9, rfl, sm3⟩
        have e : (first : Int) + (0 + (i : Int)) * (wide ns : Int) + (0 + (j : Int)) = ((first + i * wide ns + j : Nat) : Int) := by
          push_cast
          simp only [Int.zero_add]
        have hb : i * wide ns ≤ 9 * 9 := Nat.mul_le_mul (by omega) (by omega)
        refine ⟨_, rfl, _, rfl, _, rfl, _, rfl, _, _, rfl, rfl, .inl ⟨by omega, by omega⟩, _, _, rfl, rfl, _, rfl, _, _, rfl, rfl, a, ns, first + i * wide ns + j, congrArg (fun z => [V.ref a, V.int z]) e, (sm.trans sm3).seq hS, by omega, ?_⟩
        refine ⟨_, rfl, _, rfl, _, rfl, _, _, rfl, rfl, ⟨by decide, by decide⟩, _, _, rfl, rfl, (by show (0 : Int) < 26; decide), letters, _, _, rfl, rfl, (by decide), letter_at _, (by show 3 ≤ sizeLine; decide), fun p hp => ?_⟩
        refine ⟨_, rfl, _, _, rfl, rfl, (by show (0 : Int) < 3; decide), p, _, _, _, rfl, rfl, SqL.of upd_same, sign_at _, _, _, rfl, rfl, sz_le ?_, ?_⟩
        · show (lineC ns first i j).toArray.size + 1 ≤ 10000
          rw [List.size_toArray, lineC_len]
          omega
        · refine ⟨some (.int (0 + j)), some (.int (mixed ns (first + i * wide ns + j))), ?_, sm3.trans (Same.upd hp)⟩
          rw [← line_grow]
          rfl
      · -- lines.append(line)
        rintro σ H3 ⟨v8, v9, rfl, sm3⟩
        refine ⟨_, rfl, .inl ⟨rfl, _, SqL.of (sm3 _ _ hL)⟩, _, rfl, l, _, _, rfl, rfl, sm3 _ _ hL, sz_lt ?_, ?_⟩
        · rw [List.length_map, linesS_len]
          omega
        · refine ⟨_, _, _, _, rfl, (sm.trans sm3).upd2 hl, ?_⟩
          rw [upd_same, linesS_succ, List.map_append]
          rfl
    · -- return tuple(lines)
      rintro σ H2 ⟨v6, v7, v8, v9, rfl, sm, hL⟩
      refine ⟨_, rfl, l, _, rfl, .inl ⟨SqL.of hL, fun t ht => ?_⟩⟩
      exact q t _ (sm.free ht) (sm.trans (Same.upd ht)) upd_same
end
end Cw
namespace Cw
open PySem L2
section
variable {P : Program} {w : World} {K : PySem.W.Frag} {mg : Str → Option Value} {base : Heap} {f : Addr} {fd : FuncData}
/-! ### lines -/
theorem lf : ("\n" : Str) = ⟨#[10]⟩ := by decide +kernel
def lineB (x : Str) (n : Nat) : Bool := decide (x.length = n) && (decide (1 ≤ n) && (decide (n ≤ 9) && x.cps.toList.all fun c => decide (c ∈ signs.cps.toList)))
theorem paired_map {α β : Type} {f : α → β} : ∀ {l : List α} {ys : List β}, Paired (fun i y => y = f i) l ys → ys = l.map f
  | _, _, .nil => rfl
  | _, _, .cons h t => by rw [List.map_cons, ← paired_map t, h]
theorem map_getD {α β : Type} (g : α → β) (d : α) (l : List α) : (List.range l.length).map (fun i => g (l.getD i d)) = l.map g := by
  apply List.ext_getElem?
  intro i
  rw [List.getElem?_map, List.getElem?_map]
  by_cases h : i < l.length
  · rw [List.getElem?_range h, List.getElem?_eq_getElem h, Option.map_some, Option.map_some, List.getD_eq_getElem?_getD, List.getElem?_eq_getElem h, Option.getD_some]
  · rw [List.getElem?_eq_none (by simpa using h), List.getElem?_eq_none (by simpa using h)]
    rfl
def spLine : Sp := fun vs H Q _ => ∃ (x : Str) (n : Nat), vs = [.str x, .int n] ∧ x.length ≤ 1000 ∧ ∀ H', Same H H' → Q (.bl (lineB x n)) H'
theorem sc_is_line : FnScope ["line", "length"] ["line", "length"] (defScope (top 20)) := ⟨rfl, rfl, rfl, by decide +kernel, rfl, by decide +kernel, by decide +kernel⟩
theorem ok_line (B : Bl mg) (cSIGNS : Cn mg "SIGNS" (.str signs)) (cMOST_SIGNS : Cn mg "MOST_SIGNS" (.int 9)) (F : Fun K "is_line" "is_line" (top 20) f fd) : FnOk P w K mg base CX0 1 f fd ["line", "length"] spLine := by
  refine F.ok sc_is_line (fun vs H Q E h => ?_) (fun cdv A outer s H vs Q E hr h => ?_)
  · obtain ⟨x, n, rfl, _⟩ := h
    rfl
  · obtain ⟨x, n, rfl, hx, q⟩ := h
    refine ⟨_, (pss_cons (ps_if (pw_or (pt_cmpR op_ne (pe_callB call_len_str (by rfl) B.len_ bt_len (pa_cons (pv 0) pa_nil)) (pv 1) (nomark _)) (pw_or1 (pt_not (pt_chain op_le op_le pe_int (pv 1) (pe_cn cMOST_SIGNS (by rfl)))))).pt
      (pss_one (ps_ret pe_bl))
      pss_nil)
      (pss_one (ps_ret (pe_callB (call_all rfl) (by rfl) B.all_ bt_all (pa_cons (pe_comp (js := []) (ns := []) (pi_str (pv 0)) rfl rfl rfl rfl (fun _ _ _ _ => pif_nil) (fun _ _ _ _ => (pe_cmpR op_in_str (pv 0) (pe_cn cSIGNS (by rfl)) rfl))) pa_nil))))), ?_⟩
    refine ⟨_, rfl, x, rfl, sz_le (by omega), _, rfl, rfl, _, rfl, ?_⟩
    by_cases h1 : x.length = n
    · subst h1
      rw [decide_eq_true rfl]
      refine iteF ⟨_, rfl, _, _, rfl, rfl, _, rfl, ?_⟩
      by_cases h2 : 1 ≤ x.length
      · rw [decide_eq_true (by omega : (1 : Int) ≤ (x.length : Int))]
        refine iteT ⟨_, _, rfl, rfl, _, rfl, ?_⟩
        by_cases h3 : x.length ≤ 9
        · rw [decide_eq_true (by omega : (x.length : Int) ≤ 9)]
          refine iteF ?_
          refine ⟨_, rfl, x, rfl, comp_map seq_str (by rw [List.length_map, Array.length_toList]; show x.length ≤ 10000; omega) (fun _ i y _ => y = .bl (decide (x.cps.toList.getD i 0 ∈ signs.cps.toList))) (fun _ _ => trivial) (fun _ _ _ _ _ _ _ _ h => h) ?_ ?_⟩
          · intro D i z H2 Z _ hz _ _ k1
            rw [List.getElem?_map] at hz
            cases e : x.cps.toList[i]? with
            | none => rw [e] at hz; cases hz
            | some c =>
              rw [e] at hz
              cases hz
              refine ⟨_, rfl, _, _, rfl, rfl, k1 _ _ (Same.refl' _) ?_⟩
              rw [StrLaws.found_one, List.getD_eq_getElem?_getD, e]
              all_goals rfl
          · intro D ys H2 hD hDs sm pr
            have e := paired_map pr
            rw [List.length_map, map_getD (fun c => V.bl (decide (c ∈ signs.cps.toList)))] at e
            refine ⟨D, x.cps.toList.map fun c => decide (c ∈ signs.cps.toList), rfl, SqL.of (by rw [hDs, e, List.map_map]; rfl), ?_⟩
            have e2 : ((x.cps.toList.map fun c => decide (c ∈ signs.cps.toList)).all id) = lineB x x.length := by
              unfold lineB
              rw [List.all_map, decide_eq_true rfl, decide_eq_true h2, decide_eq_true h3]
              rfl
            rw [e2]
            exact q H2 sm
        · rw [decide_eq_false (by omega : ¬ (x.length : Int) ≤ 9)]
          refine iteT ?_
          have e : lineB x x.length = false := by
            unfold lineB
            rw [decide_eq_false h3, Bool.false_and, Bool.and_false, Bool.and_false]
          rw [← e]
          exact q H (Same.refl' _)
      · rw [decide_eq_false (by omega : ¬ (1 : Int) ≤ (x.length : Int))]
        refine iteF ⟨_, rfl, iteT ?_⟩
        have e : lineB x x.length = false := by
          unfold lineB
          rw [decide_eq_false h2, Bool.false_and, Bool.and_false]
        rw [← e]
        exact q H (Same.refl' _)
    · rw [decide_eq_false (fun z => h1 (by injection z with z; omega))]
      refine iteT (iteT ?_)
      have e : lineB x n = false := by
        unfold lineB
        rw [decide_eq_false h1, Bool.false_and]
      rw [← e]
      exact q H (Same.refl' _)
end
end Cw
namespace Cw
open PySem L2
/-- the exception that is wanted -/
def Rz (C : Addr) (name : Str) (v : V) (E : XK) (H : Hp) : Prop := ∀ e dx H', Same H H' → H' e = some (XObj C dx e) → H' dx = some (.xd [(name, v)]) → E (.ref C) (some e) H'
theorem rz_of {C : Addr} {name : Str} {v : V} {E : XK} {H H1 : Hp} (s : Same H H1) (h : Rz C name v E H) : ∃ v', [v] = [v'] ∧ ∀ e dx, H1 e = none → H1 dx = none → dx ≠ e → E (.ref C) (some e) (upd (upd H1 dx (.xd [(name, v')])) e (XObj C dx e)) :=
  ⟨v, rfl, fun e dx he hd hne => h e dx _ (s.trans ((Same.upd hd).trans (Same.upd (by rw [upd_ne (Ne.symm hne)]; exact he)))) upd_same (by rw [upd_ne hne, upd_same])⟩
theorem Rz.mono {C : Addr} {name : Str} {v : V} {E : XK} {H H1 : Hp} (s : Same H H1) (h : Rz C name v E H) : Rz C name v E H1 := fun e dx H' s' he hd => h e dx H' (s.trans s') he hd
end Cw
namespace Cw
open PySem L2
/-! ### lines that may be none of a sheet -/
structure Lns (a b : Nat) (l : List Str) : Prop where
  one : 1 ≤ l.length
  top : l.length ≤ a
  len : ∀ x ∈ l, x.length ≤ b
  lf : ∀ x ∈ l, 10 ∉ x.cps.toList
def badAt (l : List Str) (k : Nat) : Bool := decide (k = 9) || !lineB (l.getD k ⟨#[]⟩) (l.getD 0 ⟨#[]⟩).length
def dueL (l : List Str) : Option Nat := (List.range l.length).find? (badAt l)
theorem due_some {l : List Str} {k : Nat} (hk : k < l.length) (hb : badAt l k = true) (h : ∀ j, j < k → badAt l j = false) : dueL l = some k := by
  unfold dueL
  rw [List.find?_eq_some_iff_getElem]
  refine ⟨hb, k, by rw [List.length_range]; exact hk, by rw [List.getElem_range], fun j hj => ?_⟩
  rw [List.getElem_range, h j hj]
  rfl
theorem due_none {l : List Str} (h : ∀ j, j < l.length → badAt l j = false) : dueL l = none := by
  unfold dueL
  rw [List.find?_eq_none]
  intro j hj
  rw [h j (List.mem_range.mp hj)]
  decide
theorem bad_lt {l : List Str} {k : Nat} {x x0 : Str} (hk : k < 9) (e : l[k]? = some x) (e0 : l[0]? = some x0) : badAt l k = !lineB x x0.length := by
  unfold badAt
  rw [decide_eq_false (by omega), Bool.false_or, List.getD_eq_getElem?_getD, List.getD_eq_getElem?_getD, e, e0]
  rfl
theorem cut9 {xs : List V} : cutV xs none (some 9) = xs.take 9 := by
  unfold cutV
  have e : HT.sIx xs.length xs.length (some (9 : Int)) = min 9 xs.length := by
    have := HT.sIx_nat xs.length xs.length 9
    rw [show ((9 : Nat) : Int) = 9 from rfl] at this
    rw [this]
  rw [e, HT.sIx_none, List.drop_zero, Nat.sub_zero]
  rcases Nat.le_total 9 xs.length with h | h
  · rw [Nat.min_eq_left h]
  · rw [Nat.min_eq_right h, List.take_length, List.take_of_length_le h]
section
variable {P : Program} {w : World} {K : PySem.W.Frag} {mg : Str → Option Value} {base : Heap} {f : Addr} {fd : FuncData}
theorem sc_NoSheet__init : FnScope ["self", "line"] ["self", "line"] (defScope (inClass (top 2) 0)) := ⟨rfl, rfl, rfl, by decide +kernel, rfl, by decide +kernel, by decide +kernel⟩
theorem ok_xinit {C CE fI : Addr} (hX : XC K C CE fI "line") (XECrossError : XE K CE) (kCrossError_m : mg "CrossError" = some (.ref CE)) (F : Fun K "__init__" "NoSheet.__init__" (inClass (top 2) 0) f fd) : FnOk P w K mg base CX0 1 f fd ["self", "line"] (spXInit C "line") := by
  have hXc := hX.cls
  refine F.ok sc_NoSheet__init (fun vs H Q E h => ?_) (fun cdv A outer s H vs Q E hr h => ?_)
  · obtain ⟨e, v, rfl, _⟩ := h
    rfl
  · obtain ⟨e, v, rfl, he, q⟩ := h
    refine ⟨_, (pss_cons (ps_expr (pe_binit hXc XECrossError (by rfl) kCrossError_m (pa_cons (pv 0) (pa_cons pe_str pa_nil))))
      (pss_one (ps_xset hX (pv 0) (pv 1) rfl))), ?_⟩
    exact ⟨_, rfl, e, _, rfl, he, _, rfl, _, rfl, e, rfl, he, q⟩
def spReadX (K : PySem.W.Frag) (C : Addr) : Sp := fun vs H Q E => (∃ l : List Str, vs = [.str (Str.join ⟨#[10]⟩ l)] ∧ Lns 60 60 l ∧ (∀ k : Nat, dueL l = some k → Rz C "line" (.int k) E H) ∧
    (dueL l = none → ∀ p H', H p = none → Same H H' → H' p = some (.tup (l.map V.str)) → Q (.ref p) H')) ∨
  ∃ v t, vs = [v] ∧ TyOf K H v t ∧ PySem.W.kitOne K t (.type "str") = some false ∧ Rz C "line" (.int 0) E H
def spFromX (C : Addr) : Sp := fun vs H Q E => ∃ (a : Addr) (l : List Str), vs = [.ref a] ∧ H a = some (.lst (l.map V.str)) ∧ 1 ≤ l.length ∧ l.length ≤ 60 ∧ (∀ x ∈ l, x.length ≤ 60) ∧ (∀ k : Nat, dueL l = some k → Rz C "line" (.int k) E H) ∧
    (dueL l = none → ∀ p H', H p = none → Same H H' → H' p = some (.tup (l.map V.str)) → Q (.ref p) H')
theorem sc_sheet_from : FnScope ["lines", "number", "line"] ["lines"] (defScope (top 19)) := ⟨rfl, rfl, rfl, by decide +kernel, rfl, by decide +kernel, by decide +kernel⟩
theorem ok_fromx {C CE : Addr} (B : Bl mg) (cMOST_LINES : Cn mg "MOST_LINES" (.int 9)) (F : Fun K "sheet_from" "sheet_from" (top 19) f fd) (Fis_line : Fn P w K mg base "is_line" 1 spLine) (RNoSheet : Rs P w K mg base "NoSheet" "line" C CE 1) :
    FnOk P w K mg base (CXx P w) 3 f fd ["lines"] (spFromX C) := by
  refine F.okX sc_sheet_from (fun vs H Q E h => ?_) (fun cdv A outer s H vs Q E hr h => ?_)
  · obtain ⟨a, l, rfl, _⟩ := h
    rfl
  · refine ⟨_, (pss_cons (ps_for (own_x rfl rfl) rfl (pi_enum (by rfl) B.enumerate_ (pa_cons (pe_slice sl_list (pv 0) po_none (po_some (pe_cn cMOST_LINES (by rfl)))) pa_nil)) (pg_tup rfl (pgs_cons (pg_name (i := 1) sc_sheet_from.nd rfl (Or.inl rfl)) (pgs_cons (pg_name (i := 2) sc_sheet_from.nd rfl (Or.inl rfl)) pgs_nil)))
      (pss_one (ps_if (pt_not (pt_val (pe_fn Fis_line (hr.mono (by decide)) (by rfl) (pa_cons (pv 2) (pa_cons (pe_callB call_len_str (by rfl) B.len_ bt_len (pa_cons (pe_ix ix_list (pv 0) pe_int (fun _ _ => rfl)) pa_nil)) pa_nil)))))
        (pss_one (ps_rs RNoSheet (hr.mono (by decide)) rfl (by rfl) (pa_cons (pv 1) pa_nil)))
        pss_nil)))
      (pss_cons (ps_if (pt_cmpR op_gt (pe_callB call_len_seq (by rfl) B.len_ bt_len (pa_cons (pv 0) pa_nil)) (pe_cn cMOST_LINES (by rfl)) (nomark _))
      (pss_one (ps_rs RNoSheet (hr.mono (by decide)) rfl (by rfl) (pa_cons (pe_cn cMOST_LINES (by rfl)) pa_nil)))
      pss_nil)
      (pss_one (ps_ret (pe_callTy call_tuple_of (by rfl) B.tuple_ bt_tuple (pa_cons (pv 0) pa_nil)))))), ?_⟩
    obtain ⟨a, l, rfl, ha, h1, hl, hlen, hz, q⟩ := h
    obtain ⟨x0, r, rfl⟩ : ∃ x0 r, l = x0 :: r := by
      cases l with
      | nil => cases h1
      | cons x0 r => exact ⟨x0, r, rfl⟩
    refine ⟨_, rfl, _, rfl, a, _, rfl, SqL.of ha, fun p hp => ?_⟩
    rw [cut9, ← List.map_take]
    generalize hT : (x0 :: r).take 9 = tk
    have sm0 : Same H (upd H p (.lst (tk.map V.str))) := Same.upd hp
    have ha0 := sm0 _ _ ha
    have htl : tk.length ≤ 9 := by rw [← hT, List.length_take]; omega
    have htg : ∀ i x, tk[i]? = some x → i < 9 ∧ (x0 :: r)[i]? = some x := fun i x e => by
      rw [← hT, List.getElem?_take] at e
      split at e
      · exact ⟨by assumption, e⟩
      · cases e
    refine ⟨p, _, rfl, SqL.of upd_same, for_enum (fun i σ H2 => ∃ v2 v3, σ = [some (.ref a), v2, v3] ∧ Same (upd H p (.lst (tk.map V.str))) H2 ∧ ∀ j, j < i → badAt (x0 :: r) j = false)
      ⟨none, none, rfl, Same.refl' _, fun j z => absurd z (Nat.not_lt_zero _)⟩ (fun i σ H2 _ ⟨_, _, _, sm, _⟩ => SqL.of (sm _ _ upd_same)) ?_ ?_⟩
    · rintro i z t σ H2 hz' ⟨v2, v3, rfl, sm, hb⟩ ht
      rw [List.getElem?_map] at hz'
      cases e : tk[i]? with
      | none => rw [e] at hz'; cases hz'
      | some x =>
        rw [e] at hz'
        cases hz'
        obtain ⟨hi9, hxi⟩ := htg i x e
        have hx : x ∈ x0 :: r := List.mem_of_getElem? hxi
        have hxl := hlen x hx
        have hx0 := hlen x0 List.mem_cons_self
        have hil : i < (x0 :: r).length := (List.getElem?_eq_some_iff.mp hxi).1
        refine ⟨t, _, rfl, SqT.of upd_same, rfl, _, _, rfl, _, _, rfl, rfl, ?_⟩
        refine ⟨_, rfl, _, rfl, a, _, 0, .str x0, rfl, rfl, SqL.of (by rw [upd_ne (ne_of_none (sm _ _ ha0) ht)]; exact sm _ _ ha0), atI_nat (j := 0) rfl, _, rfl, sz_le (by omega), x, x0.length, rfl, by omega, fun H3 sm3 => ?_⟩
        refine ⟨_, rfl, ?_⟩
        have smA := sm.trans ((Same.upd ht).trans sm3)
        have hbi := bad_lt hi9 hxi (x0 := x0) rfl
        cases hB : lineB x x0.length with
        | true =>
          refine iteF ⟨_, _, rfl, smA, fun j hj => ?_⟩
          rcases Nat.lt_succ_iff_lt_or_eq.mp hj with z | z
          · exact hb j z
          · rw [z, hbi, hB]
            rfl
        | false =>
          refine iteT ?_
          exact ⟨_, rfl, rz_of (sm0.trans smA) (hz i (due_some hil (by rw [hbi, hB]; rfl) hb))⟩
    · rintro σ H2 ⟨v2, v3, rfl, sm, hb⟩
      refine ⟨_, rfl, a, _, rfl, .inl (SqL.of (sm _ _ ha0)), _, _, rfl, rfl, _, rfl, ?_⟩
      have htk : tk.length = min 9 (x0 :: r).length := by rw [← hT, List.length_take]
      rw [List.length_map] at hb
      by_cases h9 : 9 < (x0 :: r).length
      · rw [decide_eq_true (by rw [List.length_map]; omega)]
        refine iteT ?_
        exact (rz_of (v := .int 9) (sm0.trans sm) (hz 9 (due_some h9 (by unfold badAt; rfl) fun j hj => hb j (by omega))))
      · rw [decide_eq_false (by rw [List.length_map]; omega)]
        refine iteF ⟨_, rfl, a, _, rfl, .inl ⟨SqL.of (sm _ _ ha0), fun t ht => ?_⟩⟩
        have sm2 := sm0.trans sm
        exact q (due_none fun j hj => hb j (by omega)) t _ (sm2.free ht) (sm2.trans (Same.upd ht)) upd_same
theorem sc_read_sheet : FnScope ["text"] ["text"] (defScope (top 18)) := ⟨rfl, rfl, rfl, by decide +kernel, rfl, by decide +kernel, by decide +kernel⟩
theorem ok_readx {C CE : Addr} (B : Bl mg) (F : Fun K "read_sheet" "read_sheet" (top 18) f fd) (Fsheet_from : FnX P w K mg base "sheet_from" 3 (spFromX C)) (RNoSheet : Rs P w K mg base "NoSheet" "line" C CE 1) :
    FnOk P w K mg base (CXx P w) 4 f fd ["text"] (spReadX K C) := by
  refine F.okX sc_read_sheet (fun vs H Q E h => ?_) (fun cdv A outer s H vs Q E hr h => ?_)
  · rcases h with ⟨l, rfl, _⟩ | ⟨v, t, rfl, _⟩ <;> rfl
  · refine ⟨_, (pss_cons (ps_if (pt_not (pt_val (pe_callB call_isi (by rfl) B.isinstance_ bt_isinstance (pa_cons (pv 0) (pa_cons (pe_bltn (v := .ty "str") (by rfl) B.str_ bt_str rfl) pa_nil)))))
      (pss_one (ps_rs RNoSheet (hr.mono (by decide)) rfl (by rfl) (pa_cons pe_int pa_nil)))
      pss_nil)
      (pss_one (ps_ret (pe_fnx Fsheet_from (fun _ _ _ z => z) (hr.mono (by decide)) (by rfl) (pa_cons (pe_bm PySem.F.plainAttrs_str PySem.F.slot_str_split PySem.F.type_str_split mt_split (pv 0) (pa_cons pe_str pa_nil)) pa_nil))))), ?_⟩
    rcases h with ⟨l, rfl, L, hz, q⟩ | ⟨v, t, rfl, ty, hk, hz⟩
    · have hl := L.top
      have h1 := L.one
      have hlen : (Str.join ⟨#[10]⟩ l).length ≤ 10000 := Nat.le_trans (join_len 10 l L.len) (Nat.le_trans (Nat.mul_le_mul hl (Nat.le_refl _)) (by decide))
      have hne : l ≠ [] := by intro z; rw [z] at h1; cases h1
      have hsp : Txt.split (Str.join ⟨#[10]⟩ l) ⟨#[10]⟩ = l := split_join 10 hne L.lf
      refine ⟨_, rfl, _, _, _, true, ⟨rfl, .str _, kit_same⟩, _, rfl, iteF ?_⟩
      refine ⟨_, rfl, rfl, _, _, rfl, rfl, by decide +kernel, hlen, fun a ha => ?_⟩
      rw [lf, hsp]
      exact ⟨a, l, rfl, upd_same, h1, hl, L.len, fun k hk => (hz k hk).mono (Same.upd ha), fun hn p H' hp sm ht => q hn p H' ((Same.upd ha).free hp) ((Same.upd ha).trans sm) ht⟩
    · refine ⟨_, rfl, _, _, _, false, ⟨rfl, ty, hk⟩, _, rfl, iteT ?_⟩
      exact rz_of (Same.refl' _) hz
end
end Cw
namespace Cw
open PySem L2
section
variable {P : Program} {w : World} {K : PySem.W.Frag} {mg : Str → Option Value} {base : Heap} {f : Addr} {fd : FuncData}
theorem cut_ex (l : List Str) (lo hi : Option Int) : ∃ l' : List Str, cutV (l.map V.str) lo hi = l'.map V.str ∧ (∀ y ∈ l', y ∈ l) ∧ l'.length ≤ l.length := by
  refine ⟨(l.drop (HT.sIx l.length 0 lo)).take (HT.sIx l.length l.length hi - HT.sIx l.length 0 lo), ?_, fun y h => List.mem_of_mem_drop (List.mem_of_mem_take h), ?_⟩
  · unfold cutV
    rw [List.length_map, List.map_take, List.map_drop]
  · rw [List.length_take, List.length_drop]
    omega
theorem cut_n (l : List Str) (n : Nat) : cutV (l.map V.str) none (some (n : Int)) = (l.take n).map V.str := by
  unfold cutV
  rw [List.length_map, HT.sIx_nat, HT.sIx_none, List.drop_zero, Nat.sub_zero, List.map_take]
  rcases Nat.le_total n l.length with h | h
  · rw [Nat.min_eq_left h]
  · rw [Nat.min_eq_right h, List.take_of_length_le (by rw [List.length_map]; omega), List.take_of_length_le (by rw [List.length_map]; omega)]
theorem slice_sub {x : Str} {lo hi : Option Int} {c : Nat} (h : c ∈ (Txt.slice x lo hi).cps.toList) : c ∈ x.cps.toList := by
  unfold Txt.slice at h
  split at h
  · exact h
  · obtain ⟨i, _, e⟩ := List.mem_filterMap.mp (by simpa using h)
    rw [← Array.getElem?_toList] at e
    exact List.mem_of_getElem? e
theorem Lns.slice {m n : Nat} {l : List Str} (L : Lns m n l) {x : Str} (h : x ∈ l) (lo hi : Option Int) : (Txt.slice x lo hi).length ≤ n ∧ 10 ∉ (Txt.slice x lo hi).cps.toList :=
  ⟨Nat.le_trans (Txt.slice_le x lo hi) (L.len x h), fun z => L.lf x h (slice_sub z)⟩
theorem cat_lf {x y : Str} (h1 : 10 ∉ x.cps.toList) (h2 : 10 ∉ y.cps.toList) : 10 ∉ (x ++ y).cps.toList := by
  show 10 ∉ (x.cps ++ y.cps).toList
  rw [Array.toList_append]
  intro z
  rcases List.mem_append.mp z with z | z
  · exact h1 z
  · exact h2 z
theorem cat_len (x y : Str) : (x ++ y).length = x.length + y.length := by
  show (x.cps ++ y.cps).size = _
  rw [Array.size_append]
  rfl
theorem lns3 {m n : Nat} {l l1 l2 : List Str} {t : Str} (L : Lns m n l) (s1 : ∀ y ∈ l1, y ∈ l) (s2 : ∀ y ∈ l2, y ∈ l) (n1 : l1.length ≤ l.length) (n2 : l2.length ≤ l.length) (ht : t.length ≤ 2 * n + 2) (hf : 10 ∉ t.cps.toList) :
    Lns (2 * m + 2) (2 * n + 2) (l1 ++ [t] ++ l2) := by
  have h := L.top
  refine ⟨by simp; omega, by simp; omega, fun x hx => ?_, fun x hx => ?_⟩
  · rcases List.mem_append.mp hx with hx | hx
    · rcases List.mem_append.mp hx with hx | hx
      · have := L.len x (s1 x hx); omega
      · rw [List.mem_singleton.mp hx]; exact ht
    · have := L.len x (s2 x hx); omega
  · rcases List.mem_append.mp hx with hx | hx
    · rcases List.mem_append.mp hx with hx | hx
      · exact L.lf x (s1 x hx)
      · rw [List.mem_singleton.mp hx]; exact hf
    · exact L.lf x (s2 x hx)
theorem strange_cs : ("AZ019 *-/~?_" : Str).cps.toList = [65, 90, 48, 49, 57, 32, 42, 45, 47, 126, 63, 95] := by decide +kernel
theorem strange12 (i : Int) (h0 : 0 ≤ i) (h1 : i < 12) : ∃ c, atI ("AZ019 *-/~?_" : Str).cps.toList i = some c ∧ c ≠ 10 := by
  rw [strange_cs]
  obtain ⟨k, rfl⟩ : ∃ k : Nat, i = k := ⟨i.toNat, by omega⟩
  have hk : k < 12 := by omega
  have e : ([65, 90, 48, 49, 57, 32, 42, 45, 47, 126, 63, 95] : List Nat)[k]? = some ([65, 90, 48, 49, 57, 32, 42, 45, 47, 126, 63, 95][k]'(by simpa using hk)) := List.getElem?_eq_getElem _
  refine ⟨_, atI_nat e, ?_⟩
  have all : ∀ c ∈ ([65, 90, 48, 49, 57, 32, 42, 45, 47, 126, 63, 95] : List Nat), c ≠ 10 := by decide
  exact all _ (List.getElem_mem _)
def spSpoil : Sp := fun vs H Q _ => ∃ (a : Addr) (l : List Str) (m n : Nat) (way : Nat) (num : Int), vs = [.ref a, .int way, .int num] ∧ H a = some (.lst (l.map V.str)) ∧ Lns m n l ∧ 10 ≤ m ∧ m ≤ 40 ∧ n ≤ 40 ∧ way < 8 ∧
  ∀ p l' H', Same H H' → H' p = some (.lst (l'.map V.str)) → Lns (2 * m + 2) (2 * n + 2) l' → Q (.ref p) H'
theorem sc_law_spoiled : FnScope ["_law_lines", "_law_way", "_law_number", "_law_at", "_law_line", "_law_spot"] ["_law_lines", "_law_way", "_law_number"] (defScope (top 25)) := ⟨rfl, rfl, rfl, by decide +kernel, rfl, by decide +kernel, by decide +kernel⟩
theorem ok_spoil (B : Bl mg) (F : Fun K "_law_spoiled" "_law_spoiled" (top 25) f fd) : FnOk P w K mg base CX0 1 f fd ["_law_lines", "_law_way", "_law_number"] spSpoil := by
  refine F.ok sc_law_spoiled (fun vs H Q E h => ?_) (fun cdv A outer s H vs Q E hr h => ?_)
  · obtain ⟨a, l, m, n, way, num, rfl, _⟩ := h
    rfl
  · obtain ⟨a, l, m, n, way, num, rfl, ha, L, hm1, hm, hn, hw, q⟩ := h
    refine ⟨_, (pss_cons (ps_set (i := 3) sc_law_spoiled.nd rfl (Or.inl rfl) (pe_op op_mod (pv 2) (pe_callB call_len_seq (by rfl) B.len_ bt_len (pa_cons (pv 0) pa_nil))))
      (pss_cons (ps_set (i := 4) sc_law_spoiled.nd rfl (Or.inl rfl) (pe_ix ix_list (pv 0) (pv 3) (fun _ _ => rfl)))
      (pss_cons (ps_set (i := 5) sc_law_spoiled.nd rfl (Or.inl rfl) (pe_op op_mod (pe_op op_fdiv (pv 2) pe_int) (pe_op op_add (pe_callB call_len_str (by rfl) B.len_ bt_len (pa_cons (pv 4) pa_nil)) pe_int)))
      (pss_cons (ps_if (pt_cmpR op_eq (pv 1) pe_int (nomark _))
      (pss_one (ps_ret (pe_op op_cat (pe_op op_cat (pe_slice sl_list (pv 0) po_none (po_some (pv 3))) (pe_lst (pa_cons pe_str pa_nil))) (pe_slice sl_list (pv 0) (po_some (pe_op op_add (pv 3) (pe_op op_mod (pe_op op_fdiv (pv 2) pe_int) pe_int))) po_none))))
      pss_nil)
      (pss_cons (ps_if (pt_cmpR op_eq (pv 1) pe_int (nomark _))
      (pss_one (ps_ret (pe_op op_cat (pe_op op_cat (pe_slice sl_list (pv 0) po_none (po_some (pv 3))) (pe_lst (pa_cons (pe_op op_add_str (pe_op op_add_str (pe_slice sl_str (pv 4) po_none (po_some (pv 5))) pe_str) (pe_slice sl_str (pv 4) (po_some (pv 5)) po_none)) pa_nil))) (pe_slice sl_list (pv 0) (po_some (pe_op op_add (pv 3) pe_int)) po_none))))
      pss_nil)
      (pss_cons (ps_if (pt_cmpR op_eq (pv 1) pe_int (nomark _))
      (pss_one (ps_ret (pe_op op_cat (pe_op op_cat (pe_slice sl_list (pv 0) po_none (po_some (pv 3))) (pe_lst (pa_cons (pe_op op_add_str (pe_slice sl_str (pv 4) po_none (po_some (pv 5))) (pe_slice sl_str (pv 4) (po_some (pe_op op_add (pv 5) pe_int)) po_none)) pa_nil))) (pe_slice sl_list (pv 0) (po_some (pe_op op_add (pv 3) pe_int)) po_none))))
      pss_nil)
      (pss_cons (ps_if (pt_cmpR op_eq (pv 1) pe_int (nomark _))
      (pss_cons (ps_set (i := 4) sc_law_spoiled.nd rfl (Or.inl rfl) (pe_op op_add_str (pe_op op_add_str (pe_slice sl_str (pv 4) po_none (po_some (pv 5))) (pe_ix ix_str pe_str (pe_op op_mod (pe_op op_fdiv (pv 2) pe_int) pe_int) (fun _ _ => rfl))) (pe_slice sl_str (pv 4) (po_some (pe_op op_add (pv 5) pe_int)) po_none)))
        (pss_one (ps_ret (pe_op op_cat (pe_op op_cat (pe_slice sl_list (pv 0) po_none (po_some (pv 3))) (pe_lst (pa_cons (pv 4) pa_nil))) (pe_slice sl_list (pv 0) (po_some (pe_op op_add (pv 3) pe_int)) po_none)))))
      pss_nil)
      (pss_cons (ps_if (pt_cmpR op_eq (pv 1) pe_int (nomark _))
      (pss_one (ps_ret (pe_slice sl_list (pe_op op_cat (pv 0) (pe_op op_rep (pe_slice sl_list (pv 0) po_none (po_some pe_int)) pe_int)) po_none (po_some (pe_op op_add pe_int (pe_op op_mod (pe_op op_fdiv (pv 2) pe_int) pe_int))))))
      pss_nil)
      (pss_cons (ps_if (pt_cmpR op_eq (pv 1) pe_int (nomark _))
      (pss_one (ps_ret (pe_slice sl_list (pe_comp (js := [0]) (ns := ["_law_lines"]) (pi_range1 (by rfl) B.range_ (pa_cons (pe_op op_mul pe_int (pe_callB call_len_seq (by rfl) B.len_ bt_len (pa_cons (pv 0) pa_nil))) pa_nil)) rfl rfl rfl rfl (fun _ _ _ _ => pif_nil) (fun _ _ _ _ => (pe_ixK (K := K) (rr := rIxL) rfl ix_list (pv 1) (pe_op op_fdiv (pv 0) pe_int) (fun _ _ => rfl)))) po_none (po_some pe_int))))
      pss_nil)
      (pss_cons (ps_if (pt_cmpR op_eq (pv 1) pe_int (nomark _))
      (pss_one (ps_ret (pe_op op_cat (pv 0) (pe_lst (pa_cons pe_str pa_nil)))))
      pss_nil)
      (pss_one (ps_ret (pe_op op_cat (pe_lst (pa_cons (pe_op op_add_str (pe_ix ix_list (pv 0) pe_int (fun _ _ => rfl)) pe_str) pa_nil)) (pe_slice sl_list (pv 0) (po_some pe_int) po_none)))))))))))))), ?_⟩
    have h1 := L.one
    have hlm : ((l.map V.str).length : Int) = (l.length : Int) := by rw [List.length_map]
    obtain ⟨k, hk0⟩ : ∃ k : Nat, num % ((l.map V.str).length : Int) = k := ⟨(num % ((l.map V.str).length : Int)).toNat, by have := Int.emod_nonneg num (show ((l.map V.str).length : Int) ≠ 0 by omega); omega⟩
    have hk : k < l.length := by have := Int.emod_lt_of_pos num (show (0 : Int) < ((l.map V.str).length : Int) by omega); omega
    obtain ⟨x, hx⟩ : ∃ x, l[k]? = some x := ⟨_, List.getElem?_eq_getElem hk⟩
    have hxm : x ∈ l := List.mem_of_getElem? hx
    have hxl := L.len x hxm
    have hget : (l.map V.str)[k]? = some (.str x) := by rw [List.getElem?_map, hx]; rfl
    have hsp0 := Int.emod_nonneg (num / 9) (show ((x.length : Int) + 1) ≠ 0 by omega)
    have hsp1 := Int.emod_lt_of_pos (num / 9) (show (0 : Int) < ((x.length : Int) + 1) by omega)
    obtain ⟨c, hc0⟩ : ∃ c : Nat, num / 9 % ((x.length : Int) + 1) = c := ⟨(num / 9 % ((x.length : Int) + 1)).toNat, by omega⟩
    have hc : c ≤ x.length := by omega
    refine ⟨_, rfl, _, rfl, a, _, rfl, .inl (SqL.of ha), _, _, rfl, rfl, by omega, ?_⟩
    refine ⟨_, rfl, _, rfl, a, _, (k : Int), .str x, rfl, congrArg V.int hk0, SqL.of ha, atI_nat hget, ?_⟩
    refine ⟨_, rfl, _, _, rfl, rfl, ⟨by decide, by decide⟩, _, rfl, x, rfl, sz_le (by omega), _, _, rfl, rfl, _, _, rfl, rfl, by omega, ?_⟩
    refine ⟨_, rfl, rfl, _, rfl, ?_⟩
    dsimp only
    have hlt := L.top
    have szl : ∀ l1 l2 : List V, l1.length ≤ 1000 → l2.length ≤ 1000 → l1.length + l2.length ≤ sizeLine := fun l1 l2 h1 h2 => sz_le (by omega)
    by_cases w0 : way = 0
    · rw [decide_eq_true (by rw [w0]; rfl)]
      refine iteT ?_
      refine ⟨_, rfl, _, rfl, _, rfl, a, _, rfl, SqL.of ha, fun p1 hp1 => ?_⟩
      obtain ⟨l1, e1, s1, n1⟩ := cut_ex l none (some (num % ((l.map V.str).length : Int)))
      rw [e1]
      refine ⟨(by show 1 ≤ sizeLine; decide), fun p2 hp2 => ?_⟩
      have sm1 := Same.upd (H := H) (o := HO.lst (l1.map V.str)) hp1
      have sm2 := Same.upd (o := HO.lst [V.str (("" : Str))]) hp2
      refine ⟨p1, p2, _, _, rfl, rfl, sm2 _ _ upd_same, upd_same, szl _ _ (by rw [List.length_map]; omega) (by show 1 ≤ 1000; decide), fun p3 hp3 => ?_⟩
      have sm3 := Same.upd (o := HO.lst (l1.map V.str ++ [V.str (("" : Str))])) hp3
      refine ⟨_, rfl, _, rfl, _, rfl, _, _, rfl, rfl, ⟨by decide, by decide⟩, _, _, rfl, rfl, (by show (0 : Int) < 2; decide), _, _, rfl, rfl, _, rfl, ?_⟩
      obtain ⟨l2, e2, s2, n2⟩ := cut_ex l (some _) none
      refine ⟨a, _, rfl, SqL.of (sm3 _ _ (sm2 _ _ (sm1 _ _ ha))), fun p4 hp4 => ?_⟩
      rw [e2]
      have sm4 := Same.upd (o := HO.lst (l2.map V.str)) hp4
      refine ⟨p3, p4, _, _, rfl, rfl, sm4 _ _ upd_same, upd_same, szl _ _ (by rw [List.length_append, List.length_map]; show _ + 1 ≤ 1000; omega) (by rw [List.length_map]; omega), fun p5 hp5 => ?_⟩
      have sm5 := Same.upd (o := HO.lst (l1.map V.str ++ [V.str (("" : Str))] ++ l2.map V.str)) hp5
      refine q p5 (l1 ++ [("" : Str)] ++ l2) _ (sm1.trans (sm2.trans (sm3.trans (sm4.trans sm5)))) (by rw [upd_same, List.map_append, List.map_append]; rfl) (lns3 L s1 s2 n1 n2 ?_ ?_)
      · show 0 ≤ _
        omega
      · exact fun z => absurd z (by decide +kernel)
    rw [decide_eq_false (fun z => w0 (by injection z with z; omega))]
    refine iteF ?_
    refine ⟨_, rfl, rfl, _, rfl, ?_⟩
    dsimp only
    by_cases w1 : way = 1
    · rw [decide_eq_true (by rw [w1]; rfl)]
      refine iteT ?_
      have fA := L.slice hxm none (some (num / 9 % ((x.length : Int) + 1)))
      have fB := L.slice hxm (some (num / 9 % ((x.length : Int) + 1))) none
      have fC := L.slice hxm (some ((num / 9 % ((x.length : Int) + 1)) + 1)) none
      generalize hA : Txt.slice x none (some (num / 9 % ((x.length : Int) + 1))) = tA at fA
      generalize hB : Txt.slice x (some (num / 9 % ((x.length : Int) + 1))) none = tB at fB
      generalize hC : Txt.slice x (some ((num / 9 % ((x.length : Int) + 1)) + 1)) none = tC' at fC
      refine ⟨_, rfl, _, rfl, _, rfl, a, _, rfl, SqL.of ha, fun p1 hp1 => ?_⟩
      obtain ⟨l1, e1, s1, n1⟩ := cut_ex l none (some (num % ((l.map V.str).length : Int)))
      rw [e1]
      refine ⟨_, rfl, _, rfl, _, rfl, x, rfl, sz_le (by omega), _, _, rfl, rfl, ?_, _, rfl, _, rfl, _, rfl, x, rfl, sz_le (by omega), _, _, rfl, rfl, ?_, ?_⟩
      · rw [hA]
        exact sz_le (by show _ + 1 ≤ 10000; omega)
      · rw [hA, hB, cat_len]
        exact sz_le (by show _ + 1 + _ ≤ 10000; omega)
      rw [hA, hB]
      refine ⟨(by show 1 ≤ sizeLine; decide), fun p2 hp2 => ?_⟩
      have sm1 := Same.upd (H := H) (o := HO.lst (l1.map V.str)) hp1
      have sm2 := Same.upd (o := HO.lst [V.str (tA ++ ("." : Str) ++ tB)]) hp2
      refine ⟨p1, p2, _, _, rfl, rfl, sm2 _ _ upd_same, upd_same, szl _ _ (by rw [List.length_map]; omega) (by show 1 ≤ 1000; decide), fun p3 hp3 => ?_⟩
      have sm3 := Same.upd (o := HO.lst (l1.map V.str ++ [V.str (tA ++ ("." : Str) ++ tB)])) hp3
      refine ⟨_, rfl, _, rfl, _, _, rfl, rfl, _, rfl, ?_⟩
      obtain ⟨l2, e2, s2, n2⟩ := cut_ex l (some _) none
      refine ⟨a, _, rfl, SqL.of (sm3 _ _ (sm2 _ _ (sm1 _ _ ha))), fun p4 hp4 => ?_⟩
      rw [e2]
      have sm4 := Same.upd (o := HO.lst (l2.map V.str)) hp4
      refine ⟨p3, p4, _, _, rfl, rfl, sm4 _ _ upd_same, upd_same, szl _ _ (by rw [List.length_append, List.length_map]; show _ + 1 ≤ 1000; omega) (by rw [List.length_map]; omega), fun p5 hp5 => ?_⟩
      have sm5 := Same.upd (o := HO.lst (l1.map V.str ++ [V.str (tA ++ ("." : Str) ++ tB)] ++ l2.map V.str)) hp5
      refine q p5 (l1 ++ [tA ++ ("." : Str) ++ tB] ++ l2) _ (sm1.trans (sm2.trans (sm3.trans (sm4.trans sm5)))) (by rw [upd_same, List.map_append, List.map_append]; rfl) (lns3 L s1 s2 n1 n2 ?_ ?_)
      · rw [cat_len, cat_len]
        show _ + 1 + _ ≤ _
        omega
      · exact cat_lf (cat_lf fA.2 (by decide +kernel)) fB.2
    rw [decide_eq_false (fun z => w1 (by injection z with z; omega))]
    refine iteF ?_
    refine ⟨_, rfl, rfl, _, rfl, ?_⟩
    dsimp only
    by_cases w2 : way = 2
    · rw [decide_eq_true (by rw [w2]; rfl)]
      refine iteT ?_
      have fA := L.slice hxm none (some (num / 9 % ((x.length : Int) + 1)))
      have fB := L.slice hxm (some (num / 9 % ((x.length : Int) + 1))) none
      have fC := L.slice hxm (some ((num / 9 % ((x.length : Int) + 1)) + 1)) none
      generalize hA : Txt.slice x none (some (num / 9 % ((x.length : Int) + 1))) = tA at fA
      generalize hB : Txt.slice x (some (num / 9 % ((x.length : Int) + 1))) none = tB at fB
      generalize hC : Txt.slice x (some ((num / 9 % ((x.length : Int) + 1)) + 1)) none = tC' at fC
      refine ⟨_, rfl, _, rfl, _, rfl, a, _, rfl, SqL.of ha, fun p1 hp1 => ?_⟩
      obtain ⟨l1, e1, s1, n1⟩ := cut_ex l none (some (num % ((l.map V.str).length : Int)))
      rw [e1]
      refine ⟨_, rfl, _, rfl, _, rfl, x, rfl, sz_le (by omega), _, rfl, _, rfl, _, _, rfl, rfl, _, rfl, x, rfl, sz_le (by omega), _, _, rfl, rfl, ?_, ?_⟩
      · rw [hA, hC]
        exact sz_le (by omega)
      rw [hA, hC]
      refine ⟨(by show 1 ≤ sizeLine; decide), fun p2 hp2 => ?_⟩
      have sm1 := Same.upd (H := H) (o := HO.lst (l1.map V.str)) hp1
      have sm2 := Same.upd (o := HO.lst [V.str (tA ++ tC')]) hp2
      refine ⟨p1, p2, _, _, rfl, rfl, sm2 _ _ upd_same, upd_same, szl _ _ (by rw [List.length_map]; omega) (by show 1 ≤ 1000; decide), fun p3 hp3 => ?_⟩
      have sm3 := Same.upd (o := HO.lst (l1.map V.str ++ [V.str (tA ++ tC')])) hp3
      refine ⟨_, rfl, _, rfl, _, _, rfl, rfl, _, rfl, ?_⟩
      obtain ⟨l2, e2, s2, n2⟩ := cut_ex l (some _) none
      refine ⟨a, _, rfl, SqL.of (sm3 _ _ (sm2 _ _ (sm1 _ _ ha))), fun p4 hp4 => ?_⟩
      rw [e2]
      have sm4 := Same.upd (o := HO.lst (l2.map V.str)) hp4
      refine ⟨p3, p4, _, _, rfl, rfl, sm4 _ _ upd_same, upd_same, szl _ _ (by rw [List.length_append, List.length_map]; show _ + 1 ≤ 1000; omega) (by rw [List.length_map]; omega), fun p5 hp5 => ?_⟩
      have sm5 := Same.upd (o := HO.lst (l1.map V.str ++ [V.str (tA ++ tC')] ++ l2.map V.str)) hp5
      refine q p5 (l1 ++ [tA ++ tC'] ++ l2) _ (sm1.trans (sm2.trans (sm3.trans (sm4.trans sm5)))) (by rw [upd_same, List.map_append, List.map_append]; rfl) (lns3 L s1 s2 n1 n2 ?_ ?_)
      · rw [cat_len]
        omega
      · exact cat_lf fA.2 fC.2
    rw [decide_eq_false (fun z => w2 (by injection z with z; omega))]
    refine iteF ?_
    refine ⟨_, rfl, rfl, _, rfl, ?_⟩
    dsimp only
    by_cases w3 : way = 3
    · rw [decide_eq_true (by rw [w3]; rfl)]
      refine iteT ?_
      have fA := L.slice hxm none (some (num / 9 % ((x.length : Int) + 1)))
      have fB := L.slice hxm (some (num / 9 % ((x.length : Int) + 1))) none
      have fC := L.slice hxm (some ((num / 9 % ((x.length : Int) + 1)) + 1)) none
      generalize hA : Txt.slice x none (some (num / 9 % ((x.length : Int) + 1))) = tA at fA
      generalize hB : Txt.slice x (some (num / 9 % ((x.length : Int) + 1))) none = tB at fB
      generalize hC : Txt.slice x (some ((num / 9 % ((x.length : Int) + 1)) + 1)) none = tC' at fC
      have hi0 := Int.emod_nonneg (num / 90) (show (12 : Int) ≠ 0 by decide)
      have hi1 := Int.emod_lt_of_pos (num / 90) (show (0 : Int) < 12 by decide)
      obtain ⟨ch, hch, hc10⟩ := strange12 _ hi0 hi1
      refine ⟨_, rfl, _, rfl, _, rfl, x, rfl, sz_le (by omega), _, rfl, _, _, rfl, rfl, ⟨by decide, by decide⟩, _, _, rfl, rfl, (by show (0 : Int) < 12; decide), _, _, ch, rfl, rfl, by decide +kernel, hch, _, _, rfl, rfl, ?_, _, rfl, _, rfl, _, _, rfl, rfl, _, rfl, x, rfl, sz_le (by omega), _, _, rfl, rfl, ?_, ?_⟩
      · rw [hA]
        exact sz_le (by show _ + 1 ≤ 10000; omega)
      · rw [hA, hC, cat_len]
        exact sz_le (by show _ + 1 + _ ≤ 10000; omega)
      rw [hA, hC]
      refine ⟨_, rfl, _, rfl, _, rfl, a, _, rfl, SqL.of ha, fun p1 hp1 => ?_⟩
      obtain ⟨l1, e1, s1, n1⟩ := cut_ex l none (some (num % ((l.map V.str).length : Int)))
      rw [e1]
      refine ⟨_, rfl, ?_⟩
      refine ⟨(by show 1 ≤ sizeLine; decide), fun p2 hp2 => ?_⟩
      have sm1 := Same.upd (H := H) (o := HO.lst (l1.map V.str)) hp1
      have sm2 := Same.upd (o := HO.lst [V.str (tA ++ (⟨#[ch]⟩ : Str) ++ tC')]) hp2
      refine ⟨p1, p2, _, _, rfl, rfl, sm2 _ _ upd_same, upd_same, szl _ _ (by rw [List.length_map]; omega) (by show 1 ≤ 1000; decide), fun p3 hp3 => ?_⟩
      have sm3 := Same.upd (o := HO.lst (l1.map V.str ++ [V.str (tA ++ (⟨#[ch]⟩ : Str) ++ tC')])) hp3
      refine ⟨_, rfl, _, rfl, _, _, rfl, rfl, _, rfl, ?_⟩
      obtain ⟨l2, e2, s2, n2⟩ := cut_ex l (some _) none
      refine ⟨a, _, rfl, SqL.of (sm3 _ _ (sm2 _ _ (sm1 _ _ ha))), fun p4 hp4 => ?_⟩
      rw [e2]
      have sm4 := Same.upd (o := HO.lst (l2.map V.str)) hp4
      refine ⟨p3, p4, _, _, rfl, rfl, sm4 _ _ upd_same, upd_same, szl _ _ (by rw [List.length_append, List.length_map]; show _ + 1 ≤ 1000; omega) (by rw [List.length_map]; omega), fun p5 hp5 => ?_⟩
      have sm5 := Same.upd (o := HO.lst (l1.map V.str ++ [V.str (tA ++ (⟨#[ch]⟩ : Str) ++ tC')] ++ l2.map V.str)) hp5
      refine q p5 (l1 ++ [tA ++ (⟨#[ch]⟩ : Str) ++ tC'] ++ l2) _ (sm1.trans (sm2.trans (sm3.trans (sm4.trans sm5)))) (by rw [upd_same, List.map_append, List.map_append]; rfl) (lns3 L s1 s2 n1 n2 ?_ ?_)
      · rw [cat_len, cat_len]
        show _ + 1 + _ ≤ _
        omega
      · exact cat_lf (cat_lf fA.2 (fun z => hc10 (List.mem_singleton.mp z).symm)) fC.2
    rw [decide_eq_false (fun z => w3 (by injection z with z; omega))]
    refine iteF ?_
    refine ⟨_, rfl, rfl, _, rfl, ?_⟩
    dsimp only
    by_cases w4 : way = 4
    · rw [decide_eq_true (by rw [w4]; rfl)]
      refine iteT ?_
      have hi0 := Int.emod_nonneg (num / 9) (show (4 : Int) ≠ 0 by decide)
      have e1 : cutV (l.map V.str) none (some 1) = (l.take 1).map V.str := cut_n l 1
      refine ⟨_, rfl, _, rfl, _, rfl, a, _, rfl, SqL.of ha, fun p1 hp1 => ?_⟩
      rw [e1]
      have sm1 := Same.upd (H := H) (o := HO.lst ((l.take 1).map V.str)) hp1
      have ht1 : (l.take 1).length ≤ 1 := by rw [List.length_take]; omega
      refine ⟨p1, 12, _, rfl, rfl, upd_same, by decide, by decide, ?_, fun p2 hp2 => ?_⟩
      · rw [List.length_map]
        exact sz_le (by show _ * 12 ≤ 10000; omega)
      have er : (List.replicate (12 : Int).toNat ((l.take 1).map V.str)).flatten = ((List.replicate 12 (l.take 1)).flatten).map V.str := by
        rw [List.map_flatten, List.map_replicate]
        rfl
      have hrl : ((List.replicate 12 (l.take 1)).flatten).length ≤ 12 := by rw [len_rep]; omega
      rw [er]
      have sm2 := Same.upd (o := HO.lst (((List.replicate 12 (l.take 1)).flatten).map V.str)) hp2
      refine ⟨a, p2, _, _, rfl, rfl, sm2 _ _ (sm1 _ _ ha), upd_same, szl _ _ (by rw [List.length_map]; omega) (by rw [List.length_map]; omega), fun p3 hp3 => ?_⟩
      rw [← List.map_append]
      have sm3 := Same.upd (o := HO.lst ((l ++ (List.replicate 12 (l.take 1)).flatten).map V.str)) hp3
      refine ⟨_, rfl, _, _, rfl, rfl, ⟨by decide, by decide⟩, _, _, rfl, rfl, (by show (0 : Int) < 4; decide), _, _, rfl, rfl, _, rfl, p3, _, rfl, SqL.of upd_same, fun p4 hp4 => ?_⟩
      obtain ⟨k4, hk4⟩ : ∃ k4 : Nat, (9 : Int) + num / 9 % 4 = ((k4 + 1 : Nat) : Int) := ⟨(8 + num / 9 % 4).toNat, by omega⟩
      rw [hk4, cut_n]
      refine q p4 _ _ (sm1.trans (sm2.trans (sm3.trans (Same.upd hp4)))) upd_same ⟨?_, ?_, fun y hy => ?_, fun y hy => ?_⟩
      · rw [List.length_take, List.length_append]
        omega
      · rw [List.length_take, List.length_append]
        omega
      all_goals
        have hy' : y ∈ l := by
          rcases List.mem_append.mp (List.mem_of_mem_take hy) with z | z
          · exact z
          · obtain ⟨r, hr', hy2⟩ := List.mem_flatten.mp z
            rw [(List.mem_replicate.mp hr').2] at hy2
            exact List.mem_of_mem_take hy2
      · have := L.len y hy'
        omega
      · exact L.lf y hy'
    rw [decide_eq_false (fun z => w4 (by injection z with z; omega))]
    refine iteF ?_
    refine ⟨_, rfl, rfl, _, rfl, ?_⟩
    dsimp only
    by_cases w5 : way = 5
    · rw [decide_eq_true (by rw [w5]; rfl)]
      refine iteT ?_
      have hlm2 : ((l.map V.str).length : Int) = ((l.map V.str).length : Nat) := rfl
      refine ⟨_, rfl, a, _, rfl, .inl (SqL.of ha), _, _, rfl, rfl, .inl ⟨by omega, by omega⟩, _, rfl, by omega, by omega, ?_⟩
      have ern : ((2 : Int) * ((l.map V.str).length : Int)).toNat = 2 * l.length := by omega
      rw [ern]
      refine comp_map seq_range (by rw [List.length_map, List.length_range]; omega) (fun D i y H2 => ∃ z, y = .str z ∧ z ∈ l) (fun H2 s2 => trivial) (fun D i y H2 H3 _ _ _ h => h) ?_ ?_
      · intro D i z H2 Z hD hz s2 ho k1
        rw [List.getElem?_map] at hz
        cases e : (List.range (2 * l.length))[i]? with
        | none => rw [e] at hz; cases hz
        | some j =>
          rw [e] at hz
          cases hz
          have hj : j < 2 * l.length := List.mem_range.mp (List.mem_of_getElem? e)
          have hj2 : j / 2 < l.length := by omega
          obtain ⟨y, hy⟩ : ∃ y, l[j / 2]? = some y := ⟨_, List.getElem?_eq_getElem hj2⟩
          have hgy : (l.map V.str)[j / 2]? = some (.str y) := by rw [List.getElem?_map, hy]; rfl
          have ediv : (0 + (j : Int)) / 2 = ((j / 2 : Nat) : Int) := by omega
          refine ⟨_, rfl, _, rfl, _, _, rfl, rfl, ⟨by decide, by decide⟩, a, _, ((j / 2 : Nat) : Int), .str y, rfl, congrArg V.int ediv, SqL.of (s2 _ _ ha), atI_nat hgy, ?_⟩
          exact k1 _ _ (Same.refl' _) ⟨y, rfl, List.mem_of_getElem? hy⟩
      · intro D ys H2 hD hDs s2 pr
        have hyl := pr.length
        rw [List.length_map, List.length_range, List.length_range] at hyl
        have hall : ∃ l' : List Str, ys = l'.map V.str ∧ ∀ z ∈ l', z ∈ l := by
          clear hyl hDs
          revert pr
          generalize List.range (((List.range (2 * l.length)).map fun i : Nat => V.int (0 + (i : Int))).length) = rg
          intro pr
          induction pr with
          | nil => exact ⟨[], rfl, fun z h => absurd h List.not_mem_nil⟩
          | cons h t ih =>
            obtain ⟨z, rfl, hz⟩ := h
            obtain ⟨l', rfl, hl'⟩ := ih
            exact ⟨z :: l', rfl, fun u hu => by rcases List.mem_cons.mp hu with e | e; exact e ▸ hz; exact hl' u e⟩
        obtain ⟨l', rfl, hl'⟩ := hall
        rw [List.length_map] at hyl
        refine ⟨_, rfl, D, _, rfl, SqL.of hDs, fun p1 hp1 => ?_⟩
        have e12 : cutV (l'.map V.str) none (some 12) = (l'.take 12).map V.str := cut_n l' 12
        rw [e12]
        refine q p1 _ _ (s2.trans (Same.upd hp1)) upd_same ⟨?_, ?_, fun y hy => ?_, fun y hy => ?_⟩
        · rw [List.length_take]
          omega
        · rw [List.length_take]
          omega
        · have := L.len y (hl' y (List.mem_of_mem_take hy))
          omega
        · exact L.lf y (hl' y (List.mem_of_mem_take hy))
    rw [decide_eq_false (fun z => w5 (by injection z with z; omega))]
    refine iteF ?_
    refine ⟨_, rfl, rfl, _, rfl, ?_⟩
    dsimp only
    by_cases w6 : way = 6
    · rw [decide_eq_true (by rw [w6]; rfl)]
      refine iteT ?_
      refine ⟨_, rfl, (by show 1 ≤ sizeLine; decide), fun p1 hp1 => ?_⟩
      have sm1 := Same.upd (H := H) (o := HO.lst [V.str ("" : Str)]) hp1
      refine ⟨a, p1, _, _, rfl, rfl, sm1 _ _ ha, upd_same, szl _ _ (by rw [List.length_map]; omega) (by show 1 ≤ 1000; decide), fun p2 hp2 => ?_⟩
      refine q p2 (l ++ [("" : Str)]) _ (sm1.trans (Same.upd hp2)) (by rw [upd_same, List.map_append]; rfl) ?_
      have z := lns3 (l1 := l) (l2 := []) (t := ("" : Str)) L (fun y h => h) (fun y h => absurd h List.not_mem_nil) (Nat.le_refl _) (Nat.zero_le _) (by show 0 ≤ _; omega) (fun z => absurd z (by decide +kernel))
      rw [List.append_nil] at z
      exact z
    rw [decide_eq_false (fun z => w6 (by injection z with z; omega))]
    refine iteF ?_
    have hg0 : ∃ x0, l[0]? = some x0 := ⟨_, List.getElem?_eq_getElem (by omega)⟩
    obtain ⟨x0, hx0⟩ := hg0
    have hm0 : x0 ∈ l := List.mem_of_getElem? hx0
    have hl0 := L.len x0 hm0
    have hget0 : (l.map V.str)[0]? = some (.str x0) := by rw [List.getElem?_map, hx0]; rfl
    refine ⟨_, rfl, a, _, _, .str x0, rfl, rfl, SqL.of ha, atI_nat (j := 0) hget0, _, _, rfl, rfl, sz_le (by show _ + 1 ≤ 10000; omega), (by show 1 ≤ sizeLine; decide), fun p1 hp1 => ?_⟩
    have sm1 := Same.upd (H := H) (o := HO.lst [V.str (x0 ++ ("#" : Str))]) hp1
    obtain ⟨l2, e2, s2, n2⟩ := cut_ex l (some 1) none
    refine ⟨_, rfl, _, rfl, a, _, rfl, SqL.of (sm1 _ _ ha), fun p2 hp2 => ?_⟩
    rw [e2]
    have sm2 := Same.upd (o := HO.lst (l2.map V.str)) hp2
    refine ⟨p1, p2, _, _, rfl, rfl, sm2 _ _ upd_same, upd_same, szl _ _ (by show 1 ≤ 1000; decide) (by rw [List.length_map]; omega), fun p3 hp3 => ?_⟩
    refine q p3 ([x0 ++ ("#" : Str)] ++ l2) _ (sm1.trans (sm2.trans (Same.upd hp3))) (by rw [upd_same, List.map_append]; rfl) ?_
    have z := lns3 (l1 := []) (l2 := l2) (t := x0 ++ ("#" : Str)) L (fun y h => absurd h List.not_mem_nil) s2 (Nat.zero_le _) n2 (by rw [cat_len]; show _ + 1 ≤ _; omega) (cat_lf (L.lf x0 hm0) (by decide +kernel))
    rw [List.nil_append] at z
    exact z
end
end Cw
namespace Cw
open PySem L2
section
variable {P : Program} {w : World} {K : PySem.W.Frag} {mg : Str → Option Value} {base : Heap} {f : Addr} {fd : FuncData}
def dueV (l : List Str) : V := match dueL l with | none => .non | some k => .int k
def spDue : Sp := fun vs H Q _ => ∃ (a : Addr) (l : List Str), vs = [.ref a] ∧ H a = some (.lst (l.map V.str)) ∧ Lns 60 60 l ∧ Q (dueV l) H
theorem dueV_some {l : List Str} {k : Nat} (h : dueL l = some k) : dueV l = .int k := by unfold dueV; rw [h]
theorem dueV_none {l : List Str} (h : dueL l = none) : dueV l = .non := by unfold dueV; rw [h]
theorem sc_law_due : FnScope ["_law_lines", "_law_k", "_law_sign"] ["_law_lines"] (defScope (top 26)) := ⟨rfl, rfl, rfl, by decide +kernel, rfl, by decide +kernel, by decide +kernel⟩
theorem ok_due (B : Bl mg) (F : Fun K "_law_due" "_law_due" (top 26) f fd) : FnOk P w K mg base CX0 1 f fd ["_law_lines"] spDue := by
  refine F.ok sc_law_due (fun vs H Q E h => ?_) (fun cdv A outer s H vs Q E hr h => ?_)
  · obtain ⟨a, l, rfl, _⟩ := h
    rfl
  · obtain ⟨a, l, rfl, ha, L, q⟩ := h
    refine ⟨_, (pss_cons (ps_for PassesOwn.never rfl (pi_range1 (by rfl) B.range_ (pa_cons (pe_callB call_len_seq (by rfl) B.len_ bt_len (pa_cons (pv 0) pa_nil)) pa_nil)) (pg_name (i := 1) sc_law_due.nd rfl (Or.inl rfl))
      (pss_cons (ps_if (pw_or (pt_cmpR op_eq (pv 1) pe_int (nomark _)) (pw_or (pt_cmpR op_ne (pe_callB call_len_str (by rfl) B.len_ bt_len (pa_cons (pe_ix ix_list (pv 0) (pv 1) (fun _ _ => rfl)) pa_nil)) (pe_callB call_len_str (by rfl) B.len_ bt_len (pa_cons (pe_ix ix_list (pv 0) pe_int (fun _ _ => rfl)) pa_nil)) (nomark _)) (pw_or1 (pt_not (pt_chain op_le op_le pe_int (pe_callB call_len_str (by rfl) B.len_ bt_len (pa_cons (pe_ix ix_list (pv 0) (pv 1) (fun _ _ => rfl)) pa_nil)) pe_int))))).pt
        (pss_one (ps_ret (pv 1)))
        pss_nil)
        (pss_one (ps_for PassesOwn.never rfl (pi_str (pe_ix ix_list (pv 0) (pv 1) (fun _ _ => rfl))) (pg_name (i := 2) sc_law_due.nd rfl (Or.inl rfl))
        (pss_one (ps_if (pt_cmpR op_notin_str (pv 2) pe_str rfl)
          (pss_one (ps_ret (pv 1)))
          pss_nil))))))
      (pss_one (ps_ret pe_non))), ?_⟩
    have h1 := L.one
    have h60 := L.top
    obtain ⟨x0, hx0⟩ : ∃ x0, l[0]? = some x0 := ⟨_, List.getElem?_eq_getElem (by omega)⟩
    have hm0 : x0 ∈ l := List.mem_of_getElem? hx0
    have hl0 := L.len x0 hm0
    have hget0 : (l.map V.str)[0]? = some (.str x0) := by rw [List.getElem?_map, hx0]; rfl
    have hlm : ((l.map V.str).length : Int) = (l.length : Int) := by rw [List.length_map]
    refine ⟨_, rfl, a, _, rfl, .inl (SqL.of ha), _, rfl, by omega, by omega, ?_⟩
    have ern : (((l.map V.str).length : Int)).toNat = l.length := by omega
    rw [ern]
    refine for_range0 (fun i σ H2 => ∃ v1 v2, σ = [some (.ref a), v1, v2] ∧ H2 = H ∧ ∀ j, j < i → badAt l j = false) ⟨none, none, rfl, rfl, fun j z => absurd z (Nat.not_lt_zero _)⟩ ?_ ?_
    · rintro i σ H2 hi ⟨v1, v2, rfl, rfl, hb⟩
      obtain ⟨x, hx⟩ : ∃ x, l[i]? = some x := ⟨_, List.getElem?_eq_getElem hi⟩
      have hm : x ∈ l := List.mem_of_getElem? hx
      have hl := L.len x hm
      have hget : (l.map V.str)[i]? = some (.str x) := by rw [List.getElem?_map, hx]; rfl
      refine ⟨_, rfl, rfl, _, rfl, ?_⟩
      by_cases h9 : i = 9
      · rw [decide_eq_true (by rw [h9]; rfl)]
        refine iteT (iteT ?_)
        refine ⟨_, rfl, ?_⟩
        have hbi : badAt l i = true := by unfold badAt; rw [decide_eq_true h9]; rfl
        rw [← dueV_some (due_some hi hbi hb)]
        exact q
      rw [decide_eq_false (fun z => h9 (by injection z with z; omega))]
      refine iteF ?_
      refine ⟨_, rfl, _, rfl, a, _, _, .str x, rfl, rfl, SqL.of ha, atI_nat hget, x, rfl, sz_le (by omega), ?_⟩
      refine ⟨_, rfl, a, _, _, .str x0, rfl, rfl, SqL.of ha, atI_nat (j := 0) hget0, x0, rfl, sz_le (by omega), rfl, _, rfl, ?_⟩
      have hbi := bad_lt (l := l) (k := i) (x := x) (x0 := x0)
      have ret : badAt l i = true → Q (.int i) H2 := fun hbt => by
        rw [← dueV_some (due_some hi hbt hb)]
        exact q
      have bi : badAt l i = !lineB x x0.length := by
        unfold badAt
        rw [decide_eq_false h9, Bool.false_or, List.getD_eq_getElem?_getD, List.getD_eq_getElem?_getD, hx, hx0]
        rfl
      by_cases hn : x.length = x0.length
      · rw [decide_eq_true (by rw [hn])]
        refine iteF ?_
        refine ⟨_, rfl, _, rfl, a, _, _, .str x, rfl, rfl, SqL.of ha, atI_nat hget, x, rfl, sz_le (by omega), ?_⟩
        refine ⟨_, _, rfl, rfl, _, rfl, ?_⟩
        by_cases h2 : 1 ≤ x.length
        · rw [decide_eq_true (by omega : (1 : Int) ≤ (x.length : Int))]
          refine iteT ⟨_, _, rfl, rfl, _, rfl, ?_⟩
          by_cases h3 : x.length ≤ 9
          · rw [decide_eq_true (by omega : (x.length : Int) ≤ 9)]
            refine iteF ?_
            refine ⟨_, rfl, _, rfl, a, _, _, .str x, rfl, rfl, SqL.of ha, atI_nat hget, x, rfl, ?_⟩
            refine for_seq seq_str (fun j σ H3 => ∃ v2, σ = [some (.ref a), some (.int i), v2] ∧ H3 = H2 ∧ ∀ c ∈ x.cps.toList.take j, c ∈ signs.cps.toList) ⟨v2, rfl, rfl, fun c hc => absurd hc (by simp)⟩ (fun _ _ _ _ _ => trivial) ?_ ?_
            · rintro j z σ H3 hz ⟨v2, rfl, rfl, hall⟩
              rw [List.getElem?_map] at hz
              cases e : x.cps.toList[j]? with
              | none => rw [e] at hz; cases hz
              | some c =>
                rw [e] at hz
                cases hz
                refine ⟨_, rfl, _, _, rfl, rfl, _, rfl, ?_⟩
                have ef := StrLaws.found_one signs c
                have ef' : (!(Builtin.Str.occurrences (Str.ofString "#.abcdefghijklmnopqrstuvwxyz") ⟨#[c]⟩ 0 (Str.ofString "#.abcdefghijklmnopqrstuvwxyz").length 1).isEmpty) = decide (c ∈ signs.cps.toList) := ef
                rw [ef']
                by_cases hcs : c ∈ signs.cps.toList
                · rw [decide_eq_true hcs]
                  refine iteF ⟨_, rfl, rfl, fun d hd => ?_⟩
                  rw [List.take_succ, e] at hd
                  rcases List.mem_append.mp hd with hd | hd
                  · exact hall d hd
                  · have : d = c := by simpa using hd
                    rw [this]
                    exact hcs
                · rw [decide_eq_false hcs]
                  refine iteT ?_
                  refine ⟨_, rfl, ret ?_⟩
                  rw [bi]
                  unfold lineB
                  rw [decide_eq_true hn, Bool.true_and]
                  have ea : (x.cps.toList.all fun c => decide (c ∈ signs.cps.toList)) = false := by
                    rw [List.all_eq_false]
                    exact ⟨c, List.mem_of_getElem? e, by rw [decide_eq_false hcs]; decide⟩
                  rw [ea, Bool.and_false, Bool.and_false]
                  rfl
            · rintro σ H3 ⟨v2, rfl, rfl, hall⟩
              refine ⟨_, _, rfl, rfl, fun j hj => ?_⟩
              rcases Nat.lt_succ_iff_lt_or_eq.mp hj with z | z
              · exact hb j z
              · rw [z, bi]
                unfold lineB
                have ea : (x.cps.toList.all fun c => decide (c ∈ signs.cps.toList)) = true := by
                  rw [List.all_eq_true]
                  intro c hc
                  refine decide_eq_true (hall c ?_)
                  rw [List.length_map, List.take_length]
                  exact hc
                rw [decide_eq_true hn, decide_eq_true (show 1 ≤ x0.length by omega), decide_eq_true (show x0.length ≤ 9 by omega), ea]
                rfl
          · rw [decide_eq_false (by omega : ¬ (x.length : Int) ≤ 9)]
            refine iteT ?_
            refine ⟨_, rfl, ret ?_⟩
            rw [bi]
            unfold lineB
            rw [decide_eq_false (show ¬ x0.length ≤ 9 by omega), Bool.false_and, Bool.and_false, Bool.and_false]
            rfl
        · rw [decide_eq_false (by omega : ¬ (1 : Int) ≤ (x.length : Int))]
          refine iteF ⟨_, rfl, iteT ?_⟩
          refine ⟨_, rfl, ret ?_⟩
          rw [bi]
          unfold lineB
          rw [decide_eq_false (show ¬ 1 ≤ x0.length by omega), Bool.false_and, Bool.and_false]
          rfl
      · rw [decide_eq_false (fun z => hn (by injection z with z; omega))]
        refine iteT (iteT ?_)
        exact ⟨_, rfl, ret (by rw [bi]; unfold lineB; rw [decide_eq_false hn]; rfl)⟩
    · rintro σ H2 ⟨v1, v2, rfl, rfl, hb⟩
      show Q .non _
      rw [← dueV_none (due_none hb)]
      exact q
end
end Cw
namespace Cw
open PySem L2
theorem bt_ValueError : bootBuiltins "ValueError" = some (.type "ValueError") := by decide +kernel
theorem TyOf.mono {K : PySem.W.Frag} {H H' : Hp} (s : Same H H') {v : V} {t : Value} (h : TyOf K H v t) : TyOf K H' v t := by
  cases h with
  | non => exact .non
  | bl x => exact .bl x
  | int i => exact .int i
  | str x => exact .str x
  | flt x => exact .flt x
  | lst e => exact .lst (s _ _ e)
  | frz e => exact .frz (s _ _ e)
  | tup e => exact .tup (s _ _ e)
  | dK e => exact .dK (s _ _ e)
  | dT e => exact .dT (s _ _ e)
  | ins e cl ha hn htk hm => exact .ins (s _ _ e) cl ha hn htk hm
section
variable {P : Program} {w : World} {K : PySem.W.Frag} {mg : Str → Option Value} {base : Heap} {f : Addr} {fd : FuncData}
def spOnly (K : PySem.W.Frag) : Sp := fun vs H Q _ => ((∃ (l : List Str) (k : Nat), vs = [.str (Str.join ⟨#[10]⟩ l)] ∧ Lns 60 60 l ∧ dueL l = some k) ∨ ∃ v t, vs = [v] ∧ TyOf K H v t ∧ PySem.W.kitOne K t (.type "str") = some false) ∧ ∀ H', Same H H' → Q (.bl true) H'
theorem sc_law_only_no_sheet : FnScope ["_law_text", "_law_kinds", "e"] ["_law_text"] (defScope (top 27)) := ⟨rfl, rfl, rfl, by decide +kernel, rfl, by decide +kernel, by decide +kernel⟩
theorem ok_only {CNoSheet CCrossError CNoDeed CNoFloor CNoLine CNoMatch CNoName CNoStep CNotFilled CNotThere CNoWord CNoWorking CTwice : Addr} (B : Bl mg) (F : Fun K "_law_only_no_sheet" "_law_only_no_sheet" (top 27) f fd)
    (ECrossError : Ec K mg "CrossError" CCrossError bmV) (kNoSheet : Cn mg "NoSheet" (.ref CNoSheet)) (kNoDeed : Cn mg "NoDeed" (.ref CNoDeed)) (kNoFloor : Cn mg "NoFloor" (.ref CNoFloor)) (kNoLine : Cn mg "NoLine" (.ref CNoLine))
    (kNoMatch : Cn mg "NoMatch" (.ref CNoMatch)) (kNoName : Cn mg "NoName" (.ref CNoName)) (kNoStep : Cn mg "NoStep" (.ref CNoStep)) (kNotFilled : Cn mg "NotFilled" (.ref CNotFilled)) (kNotThere : Cn mg "NotThere" (.ref CNotThere))
    (kNoWord : Cn mg "NoWord" (.ref CNoWord)) (kNoWorking : Cn mg "NoWorking" (.ref CNoWorking)) (kTwice : Cn mg "Twice" (.ref CTwice)) (iNoSheet : XI K CNoSheet) (hec : ecIn K CNoSheet (.ref CCrossError :: bmV) = true)
    (kit1 : PySem.W.kitOne K (.ref CNoSheet) (.type "ValueError") = some true) (kit2 : PySem.W.kitAny K (.ref CNoSheet) ([CNoDeed, CNoFloor, CNoLine, CNoMatch, CNoName, CNoStep, CNotFilled, CNotThere, CNoWord, CNoWorking, CTwice].map Value.ref) = some false)
    (Fread_sheet : FnX P w K mg base "read_sheet" 4 (spReadX K CNoSheet)) : FnOk P w K mg base CX0 5 f fd ["_law_text"] (spOnly K) := by
  refine F.ok sc_law_only_no_sheet (fun vs H Q E h => ?_) (fun cdv A outer s H vs Q E hr h => ?_)
  · rcases h with ⟨⟨l, k, rfl, _⟩ | ⟨v, t, rfl, _⟩, _⟩ <;> rfl
  · have hu := hr.units
    have hu0 := hr.units
    refine ⟨_, (pss_cons (ps_set (i := 1) sc_law_only_no_sheet.nd rfl (Or.inl rfl) (pe_tup (pa_cons pe_bl (pa_cons pe_bl (pa_cons pe_bl pa_nil)))))
      (pss_cons (ps_try (i := 2) rfl rfl sc_law_only_no_sheet.nd rfl rfl ECrossError.ec ECrossError.hb (by rfl) ECrossError.mg
      (fun _ _ => (pss_one (ps_expr (pe_fnS Fread_sheet (hr.mono (by decide)) (by rfl) (pa_cons (pv 0) pa_nil)))))
      (fun _ => (pss_one (ps_set (i := 1) sc_law_only_no_sheet.nd rfl (Or.inl rfl) (pe_tup (pa_cons (pe_callB (call_isiXK (K := K) rfl) (by rfl) B.isinstance_ bt_isinstance (pa_cons (pv 2) (pa_cons (pe_cn kNoSheet (by rfl)) pa_nil))) (pa_cons (pe_callB (call_isiXK (K := K) rfl) (by rfl) B.isinstance_ bt_isinstance (pa_cons (pv 2) (pa_cons (pe_bltn (v := .ty "ValueError") (by rfl) B.ValueError_ bt_ValueError rfl) pa_nil))) (pa_cons (pe_callB (call_isiXTK (K := K) rfl) (by rfl) B.isinstance_ bt_isinstance (pa_cons (pv 2) (pa_cons (pe_tup (pa_cons (pe_cn kNoDeed (by rfl)) (pa_cons (pe_cn kNoFloor (by rfl)) (pa_cons (pe_cn kNoLine (by rfl)) (pa_cons (pe_cn kNoMatch (by rfl)) (pa_cons (pe_cn kNoName (by rfl)) (pa_cons (pe_cn kNoStep (by rfl)) (pa_cons (pe_cn kNotFilled (by rfl)) (pa_cons (pe_cn kNotThere (by rfl)) (pa_cons (pe_cn kNoWord (by rfl)) (pa_cons (pe_cn kNoWorking (by rfl)) (pa_cons (pe_cn kTwice (by rfl)) pa_nil)))))))))))) pa_nil))) pa_nil))))))))
      (pss_one (ps_ret (pe_cmpR (op_eqD hu) (pv 1) (pe_tup (pa_cons pe_bl (pa_cons pe_bl (pa_cons pe_bl pa_nil)))) (nomark _)))))), ?_⟩
    obtain ⟨h, q⟩ := h
    have hcon : (Value.ref CNoSheet :: .ref CCrossError :: bmV).contains (.ref CCrossError) = true := by simp
    rcases h with ⟨l, k, rfl, L, hd⟩ | ⟨v, t, rfl, ty, hk⟩
    · refine ⟨by show 3 ≤ sizeLine; decide, fun p0 hp0 => ?_⟩
      have sm0 := Same.upd (H := H) (o := HO.tup [V.bl false, V.bl false, V.bl true]) hp0
      refine ⟨_, rfl, .inl ⟨l, rfl, L, fun k' hk' e dx H' sm he hdx => ?_, fun hn => by rw [hn] at hd; cases hd⟩⟩
      refine ⟨CNoSheet, e, _, rfl, rfl, hec, hcon, ?_⟩
      have sm1 := sm0.trans sm
      refine ⟨_, rfl, e, CNoSheet, dx, _, _, .ref CNoSheet, true, rfl, he, hdx, iNoSheet, fun u r => r, by unfold PySem.W.kitOne; rw [if_pos (by simp)], ?_⟩
      refine ⟨_, rfl, e, CNoSheet, dx, _, _, .type "ValueError", true, rfl, he, hdx, iNoSheet, fun u r => r, kit1, ?_⟩
      refine ⟨_, rfl, (by show 11 ≤ sizeLine; decide), fun pt hpt => ?_⟩
      have smt := Same.upd (o := HO.tup ([CNoDeed, CNoFloor, CNoLine, CNoMatch, CNoName, CNoStep, CNotFilled, CNotThere, CNoWord, CNoWorking, CTwice].map V.ref)) hpt
      refine ⟨e, CNoSheet, dx, _, pt, [CNoDeed, CNoFloor, CNoLine, CNoMatch, CNoName, CNoStep, CNotFilled, CNotThere, CNoWord, CNoWorking, CTwice], false, rfl, smt _ _ he, smt _ _ hdx, iNoSheet, SqT.of upd_same, kit2, ?_⟩
      refine ⟨by show 3 ≤ sizeLine; decide, fun pk hpk => ?_⟩
      have smk := Same.upd (o := HO.tup [V.bl true, V.bl true, V.bl false]) hpk
      refine ⟨_, rfl, (by show 3 ≤ sizeLine; decide), fun pr hpr => ?_⟩
      have smr := Same.upd (o := HO.tup [V.bl true, V.bl true, V.bl false]) hpr
      refine ⟨.tup [.bl true, .bl true, .bl false], .tup [.bl true, .bl true, .bl false], ⟨pk, _, rfl, SqT.of (smr _ _ upd_same), _, _, rfl, rfl, _, _, rfl, rfl, _, _, rfl, rfl, rfl⟩, ⟨pr, _, rfl, SqT.of upd_same, _, _, rfl, rfl, _, _, rfl, rfl, _, _, rfl, rfl, rfl⟩, .inl ⟨_, _, rfl, rfl⟩, by decide, ?_⟩
      exact q _ (sm1.trans (smt.trans (smk.trans smr)))
    · refine ⟨by show 3 ≤ sizeLine; decide, fun p0 hp0 => ?_⟩
      have sm0 := Same.upd (H := H) (o := HO.tup [V.bl false, V.bl false, V.bl true]) hp0
      refine ⟨_, rfl, .inr ⟨v, t, rfl, TyOf.mono sm0 ty, hk, fun e dx H' sm he hdx => ?_⟩⟩
      refine ⟨CNoSheet, e, _, rfl, rfl, hec, hcon, ?_⟩
      have sm1 := sm0.trans sm
      refine ⟨_, rfl, e, CNoSheet, dx, _, _, .ref CNoSheet, true, rfl, he, hdx, iNoSheet, fun u r => r, by unfold PySem.W.kitOne; rw [if_pos (by simp)], ?_⟩
      refine ⟨_, rfl, e, CNoSheet, dx, _, _, .type "ValueError", true, rfl, he, hdx, iNoSheet, fun u r => r, kit1, ?_⟩
      refine ⟨_, rfl, (by show 11 ≤ sizeLine; decide), fun pt hpt => ?_⟩
      have smt := Same.upd (o := HO.tup ([CNoDeed, CNoFloor, CNoLine, CNoMatch, CNoName, CNoStep, CNotFilled, CNotThere, CNoWord, CNoWorking, CTwice].map V.ref)) hpt
      refine ⟨e, CNoSheet, dx, _, pt, [CNoDeed, CNoFloor, CNoLine, CNoMatch, CNoName, CNoStep, CNotFilled, CNotThere, CNoWord, CNoWorking, CTwice], false, rfl, smt _ _ he, smt _ _ hdx, iNoSheet, SqT.of upd_same, kit2, ?_⟩
      refine ⟨by show 3 ≤ sizeLine; decide, fun pk hpk => ?_⟩
      have smk := Same.upd (o := HO.tup [V.bl true, V.bl true, V.bl false]) hpk
      refine ⟨_, rfl, (by show 3 ≤ sizeLine; decide), fun pr hpr => ?_⟩
      have smr := Same.upd (o := HO.tup [V.bl true, V.bl true, V.bl false]) hpr
      refine ⟨.tup [.bl true, .bl true, .bl false], .tup [.bl true, .bl true, .bl false], ⟨pk, _, rfl, SqT.of (smr _ _ upd_same), _, _, rfl, rfl, _, _, rfl, rfl, _, _, rfl, rfl, rfl⟩, ⟨pr, _, rfl, SqT.of upd_same, _, _, rfl, rfl, _, _, rfl, rfl, _, _, rfl, rfl, rfl⟩, .inl ⟨_, _, rfl, rfl⟩, by decide, ?_⟩
      exact q _ (sm1.trans (smt.trans (smk.trans smr)))
end
end Cw
namespace Cw
open PySem L2
section
variable {P : Program} {w : World} {K : PySem.W.Frag} {mg : Str → Option Value} {base : Heap} {f : Addr} {fd : FuncData}
def mI (i : Nat) : Nat := if i = 0 then 10 else if i = 1 then 22 else 46
def nI (i : Nat) : Nat := if i = 0 then 9 else if i = 1 then 20 else 42
theorem Lns.up {a b c d : Nat} {l : List Str} (L : Lns a b l) (h1 : a ≤ c) (h2 : b ≤ d) : Lns c d l := ⟨L.one, Nat.le_trans L.top h1, fun x m => Nat.le_trans (L.len x m) h2, L.lf⟩
theorem atL_strs {H : Hp} : ∀ l : List Str, AtL K H (l.map D.str) (l.map V.str)
  | [] => rfl
  | x :: r => ⟨_, _, rfl, rfl, atL_strs r⟩
theorem dep_strs : ∀ l : List Str, depL (l.map D.str) = 0
  | [] => rfl
  | x :: r => by rw [List.map_cons, depL, dep_strs r]; rfl
def NoTxt (K : PySem.W.Frag) (H : Hp) (v : V) : Prop := ∃ t, TyOf K H v t ∧ PySem.W.kitOne K t (.type "str") = some false
theorem kn1 : PySem.W.kitOne K (.type "NoneType") (.type "str") = some false := by kernel_rfl
theorem kn2 : PySem.W.kitOne K (.type "bool") (.type "str") = some false := by kernel_rfl
theorem kn3 : PySem.W.kitOne K (.type "int") (.type "str") = some false := by kernel_rfl
theorem kn4 : PySem.W.kitOne K (.type "tuple") (.type "str") = some false := by kernel_rfl
theorem kn5 : PySem.W.kitOne K (.type "list") (.type "str") = some false := by kernel_rfl
theorem kn6 : PySem.W.kitOne K (.type "dict") (.type "str") = some false := by kernel_rfl
theorem things {H : Hp} {pt pl d : Addr} {xs ys : List V} {kvs : List (Key × V)} (h1 : H pt = some (.tup xs)) (h2 : H pl = some (.lst ys)) (h3 : H d = some (.dK kvs)) {i : Int} (h0 : 0 ≤ i) (h7 : i < 7) :
    ∃ v, atI [V.non, V.bl true, V.int 0, V.int 7, V.ref pt, V.ref pl, V.ref d] i = some v ∧ NoTxt K H v := by
  have e : i = 0 ∨ i = 1 ∨ i = 2 ∨ i = 3 ∨ i = 4 ∨ i = 5 ∨ i = 6 := by omega
  rcases e with rfl | rfl | rfl | rfl | rfl | rfl | rfl
  · exact ⟨_, rfl, _, .non, kn1⟩
  · exact ⟨_, rfl, _, .bl _, kn2⟩
  · exact ⟨_, rfl, _, .int _, kn3⟩
  · exact ⟨_, rfl, _, .int _, kn3⟩
  · exact ⟨_, rfl, _, .tup h1, kn4⟩
  · exact ⟨_, rfl, _, .lst h2, kn5⟩
  · exact ⟨_, rfl, _, .dK h3, kn6⟩
def spLaw (K : PySem.W.Frag) : Sp := fun vs H Q _ => ∃ (a : Addr) (ns : List Int), vs = [.ref a] ∧ SqL K H a (ns.map V.int) ∧ ns.length ≤ 63 ∧ ∀ H', Q (.bl true) H'
theorem sc_law : FnScope ["_law_script", "_law_lines", "_law_k", "_law_number", "_law_text", "_law_due_here", "_law_got", "_law_at", "e"] ["_law_script"] (defScope (top 28)) := ⟨rfl, rfl, rfl, by decide +kernel, rfl, by decide +kernel, by decide +kernel⟩
theorem ok_law {CNoSheet CCrossError fI : Addr} (B : Bl mg) (F : Fun K "law" "law" (top 28) f fd) (ENoSheet : Ec K mg "NoSheet" CNoSheet (.ref CCrossError :: bmV)) (xNoSheet : XC K CNoSheet CCrossError fI "line")
    (F_law_cell_at : Fn P w K mg base "_law_cell_at" 1 (spCell K)) (F_law_mixed : Fn P w K mg base "_law_mixed" 2 (spMixed K)) (F_law_sheet : Fn P w K mg base "_law_sheet" 3 (spSheet K)) (F_law_spoiled : Fn P w K mg base "_law_spoiled" 1 spSpoil)
    (F_law_due : Fn P w K mg base "_law_due" 1 spDue) (Fread_sheet : FnX P w K mg base "read_sheet" 4 (spReadX K CNoSheet)) (F_law_only_no_sheet : Fn P w K mg base "_law_only_no_sheet" 5 (spOnly K)) :
    FnOk P w K mg base CX0 6 f fd ["_law_script"] (spLaw K) := by
  refine F.ok sc_law (fun vs H Q E h => ?_) (fun cdv A outer s H vs Q E hr h => ?_)
  · obtain ⟨a, ns, rfl, _⟩ := h
    rfl
  · have hu := hr.units
    have hu0 := hr.units
    obtain ⟨a, ns, rfl, hS, hn, q⟩ := h
    refine ⟨_, (pss_cons (ps_set (i := 1) sc_law.nd rfl (Or.inl rfl) (pe_callTy call_list_of (by rfl) B.list_ bt_list (pa_cons (pe_fn F_law_sheet (hr.mono (by decide)) (by rfl) (pa_cons (pv 0) (pa_cons pe_int pa_nil))) pa_nil)))
      (pss_cons (ps_for PassesOwn.never rfl (pi_range1 (by rfl) B.range_ (pa_cons (pe_op op_mod (pe_fn F_law_cell_at (hr.mono (by decide)) (by rfl) (pa_cons (pv 0) (pa_cons pe_int pa_nil))) pe_int) pa_nil)) (pg_name (i := 2) sc_law.nd rfl (Or.inl rfl))
      (pss_cons (ps_set (i := 3) sc_law.nd rfl (Or.inl rfl) (pe_fn F_law_mixed (hr.mono (by decide)) (by rfl) (pa_cons (pv 0) (pa_cons (pe_op op_add pe_int (pv 2)) pa_nil))))
        (pss_one (ps_set (i := 1) sc_law.nd rfl (Or.inl rfl) (pe_fn F_law_spoiled (hr.mono (by decide)) (by rfl) (pa_cons (pv 1) (pa_cons (pe_op op_mod (pv 3) pe_int) (pa_cons (pe_op op_fdiv (pv 3) pe_int) pa_nil))))))))
      (pss_cons (ps_set (i := 4) sc_law.nd rfl (Or.inl rfl) (pe_bm PySem.F.plainAttrs_str PySem.F.slot_str_join PySem.F.type_str_join mt_join pe_str (pa_cons (pv 1) pa_nil)))
      (pss_cons (ps_set (i := 5) sc_law.nd rfl (Or.inl rfl) (pe_fn F_law_due (hr.mono (by decide)) (by rfl) (pa_cons (pv 1) pa_nil)))
      (pss_cons (ps_join (ps_if (pt_cmpR op_eq (pe_op op_mod (pe_op op_fdiv (pe_fn F_law_cell_at (hr.mono (by decide)) (by rfl) (pa_cons (pv 0) (pa_cons pe_int pa_nil))) pe_int) pe_int) pe_int (nomark _))
      (pss_cons (ps_set (i := 4) sc_law.nd rfl (Or.inl rfl) (pe_ix ix_list (pe_lst (pa_cons pe_non (pa_cons pe_bl (pa_cons pe_int (pa_cons pe_int (pa_cons (pe_tup (pa_cons pe_str (pa_cons pe_str pa_nil))) (pa_cons (pe_lst (pa_cons pe_str pa_nil)) (pa_cons pe_dnewK pa_nil)))))))) (pe_op op_mod (pe_op op_fdiv (pe_fn F_law_cell_at (hr.mono (by decide)) (by rfl) (pa_cons (pv 0) (pa_cons pe_int pa_nil))) pe_int) pe_int) (fun _ _ => rfl)))
        (pss_one (ps_set (i := 5) sc_law.nd rfl (Or.inl rfl) pe_int)))
      pss_nil))
      (pss_cons (ps_set (i := 6) sc_law.nd rfl (Or.inl rfl) pe_non)
      (pss_cons (ps_set (i := 7) sc_law.nd rfl (Or.inl rfl) pe_non)
      (pss_cons (ps_try (i := 8) rfl rfl sc_law.nd rfl rfl ENoSheet.ec ENoSheet.hb (by rfl) ENoSheet.mg
      (fun _ _ => (pss_one (ps_set (i := 6) sc_law.nd rfl (Or.inl rfl) (pe_fnS Fread_sheet (hr.mono (by decide)) (by rfl) (pa_cons (pv 4) pa_nil)))))
      (fun _ => (pss_one (ps_set (i := 7) sc_law.nd rfl (Or.inl rfl) (pe_xfldK (K := K) rfl (pv 8) rfl)))))
      (pss_cons (ps_if (pt_cmpR op_isN (pv 5) pe_non (nomark _))
      (pss_one (ps_ret (pe_and (pe_cmpR op_isN (pv 7) pe_non (nomark _)) (pe_one (pe_cmpR (op_eqD hu) (pv 6) (pe_callTy call_tuple_of (by rfl) B.tuple_ bt_tuple (pa_cons (pv 1) pa_nil)) (nomark _))))))
      pss_nil)
      (pss_cons (ps_if (pw_or (pt_not (pt_val (pe_callB call_isi (by rfl) B.isinstance_ bt_isinstance (pa_cons (pv 7) (pa_cons (pe_bltn (v := .ty "int") (by rfl) B.int_ bt_int rfl) pa_nil))))) (pw_or (pt_val (pe_callB call_isi (by rfl) B.isinstance_ bt_isinstance (pa_cons (pv 7) (pa_cons (pe_bltn (v := .ty "bool") (by rfl) B.bool_ bt_bool rfl) pa_nil)))) (pw_or1 (pt_cmpR op_ne (pv 7) (pv 5) (nomark _))))).pt
      (pss_one (ps_ret pe_bl))
      pss_nil)
      (pss_one (ps_ret (pe_fn F_law_only_no_sheet (hr.mono (by decide)) (by rfl) (pa_cons (pv 4) pa_nil)))))))))))))), ?_⟩
    refine ⟨_, rfl, a, ns, 4, rfl, hS, by decide, fun p H1 hp sm1 ht => ?_⟩
    refine ⟨p, _, rfl, .inr (SqT.of ht), fun l0 hl0 => ?_⟩
    have sm2 := sm1.trans (Same.upd (o := HO.lst ((sheetS ns 4).map V.str)) hl0)
    have c0 := Int.emod_nonneg (cellAt ns 1) (show (3 : Int) ≠ 0 by decide)
    have c1 := Int.emod_lt_of_pos (cellAt ns 1) (show (0 : Int) < 3 by decide)
    refine ⟨_, rfl, a, ns, 1, rfl, sm2.seq hS, _, _, rfl, rfl, (by show (0 : Int) < 3; decide), _, rfl, by omega, by omega, ?_⟩
    have S0 := sheetS_ok ns 4
    have L0 : Lns (mI 0) (nI 0) (sheetS ns 4) := ⟨S0.one, Nat.le_trans S0.nine (by decide), fun x m => by rw [S0.len x m]; exact Nat.le_trans S0.w9 (by decide), S0.noLf⟩
    refine for_range0 (fun i σ H2 => ∃ l b v2 v3, σ = [some (.ref a), some (.ref b), v2, v3, none, none, none, none, none] ∧ Same H H2 ∧ H2 b = some (.lst (l.map V.str)) ∧ Lns (mI i) (nI i) l) ⟨sheetS ns 4, l0, none, none, rfl, sm2, upd_same, L0⟩ ?_ ?_
    · rintro i σ H2 hi ⟨l, b, v2, v3, rfl, sm, hb, L⟩
      have hi2 : i < 2 := by omega
      refine ⟨_, rfl, _, rfl, _, _, rfl, rfl, a, ns, 2 + i, congrArg (fun z => [V.ref a, V.int z]) (by push_cast; rfl), sm.seq hS, by omega, ?_⟩
      have w0 := Int.emod_nonneg (mixed ns (2 + i)) (show (8 : Int) ≠ 0 by decide)
      have w1 := Int.emod_lt_of_pos (mixed ns (2 + i)) (show (0 : Int) < 8 by decide)
      refine ⟨_, rfl, _, rfl, _, _, rfl, rfl, (by show (0 : Int) < 8; decide), _, rfl, _, _, rfl, rfl, ⟨by decide, by decide⟩, ?_⟩
      have hm : 10 ≤ mI i ∧ mI i ≤ 40 ∧ nI i ≤ 40 ∧ 2 * mI i + 2 ≤ mI (i + 1) ∧ 2 * nI i + 2 ≤ nI (i + 1) := by
        rcases (by omega : i = 0 ∨ i = 1) with rfl | rfl <;> decide
      refine ⟨b, l, mI i, nI i, (mixed ns (2 + i) % 8).toNat, mixed ns (2 + i) / 8, congrArg (fun z => [V.ref b, V.int z, V.int (mixed ns (2 + i) / 8)]) (by omega), hb, L, hm.1, hm.2.1, hm.2.2.1, by omega, fun p' l' H' sm' hp' L' => ?_⟩
      exact ⟨l', p', _, _, rfl, sm.trans sm', hp', L'.up hm.2.2.2.1 hm.2.2.2.2⟩
    · rintro σ H2 ⟨l, b, v2, v3, rfl, sm, hb, L⟩
      have L60 : Lns 60 60 l := by
        have hh : mI (cellAt ns 1 % 3).toNat ≤ 60 ∧ nI (cellAt ns 1 % 3).toNat ≤ 60 := by
          rcases (by omega : (cellAt ns 1 % 3).toNat = 0 ∨ (cellAt ns 1 % 3).toNat = 1 ∨ (cellAt ns 1 % 3).toNat = 2) with e | e | e <;> rw [e] <;> decide
        exact L.up hh.1 hh.2
      have hs := sum_len l L60.len
      have h60 := L60.top
      have hmul : l.length * 60 ≤ 60 * 60 := Nat.mul_le_mul h60 (Nat.le_refl _)
      refine ⟨rfl, _, rfl, _, b, l, rfl, rfl, .inl (SqL.of hb), ?_, ?_⟩
      · rw [lf]
        show _ + l.length * 1 ≤ _
        omega
      rw [lf]
      refine ⟨_, rfl, b, l, rfl, hb, L60, ?_⟩
      refine ⟨fun σ' H' => ∃ tv dv, σ' = [some (.ref a), some (.ref b), v2, v3, some tv, some dv, none, none, none] ∧ Same H H' ∧ H' b = some (.lst (l.map V.str)) ∧ ((tv = .str (Str.join ⟨#[10]⟩ l) ∧ dv = dueV l) ∨ (NoTxt K H' tv ∧ dv = .int 0)), ?_, ?_⟩
      · rintro σ' H' ⟨tv, dv, rfl, sm', hb', hJ⟩
        have hcon : (Value.ref CNoSheet :: .ref CCrossError :: bmV).contains (.ref CNoSheet) = true := by simp
        refine ⟨_, rfl, ?_⟩
        rcases hJ with ⟨rfl, rfl⟩ | ⟨hnt, rfl⟩
        · refine .inl ⟨l, rfl, L60, fun k hk e dx H2 sm2 he hdx => ?_, fun hn' p2 H2 hp2 sm2 ht2 => ?_⟩
          · refine ⟨CNoSheet, e, _, rfl, rfl, ENoSheet.ec, hcon, ?_⟩
            refine ⟨_, rfl, e, CNoSheet, CCrossError, fI, dx, _, .int k, rfl, he, hdx, xNoSheet, (by simp [List.lookup]), ?_⟩
            rw [dueV_some hk]
            refine ⟨_, rfl, rfl, _, rfl, ?_⟩
            rw [decide_eq_false (by intro z; cases z)]
            refine iteF ?_
            refine ⟨_, rfl, _, _, _, true, ⟨rfl, .int _, kit_same⟩, _, rfl, iteF ?_⟩
            refine ⟨_, rfl, _, _, _, false, ⟨rfl, .int _, kit_int_bool⟩, _, rfl, iteF ?_⟩
            refine ⟨_, rfl, _, rfl, rfl, _, rfl, ?_⟩
            rw [decide_eq_true rfl]
            refine iteF ?_
            exact ⟨_, rfl, .inl ⟨l, k, rfl, L60, hk⟩, fun H3 _ => q H3⟩
          · rw [dueV_none hn']
            refine ⟨_, rfl, rfl, _, rfl, ?_⟩
            rw [decide_eq_true rfl]
            refine iteT ?_
            refine ⟨_, rfl, rfl, _, rfl, ?_⟩
            rw [decide_eq_true rfl]
            refine iteT ?_
            refine ⟨_, rfl, _, rfl, b, _, rfl, .inl ⟨SqL.of (sm2 _ _ hb'), fun pt hpt => ?_⟩⟩
            refine ⟨.tup (l.map D.str), .tup (l.map D.str), ⟨p2, _, rfl, SqT.of ((Same.upd hpt) _ _ ht2), atL_strs l⟩, ⟨pt, _, rfl, SqT.of upd_same, atL_strs l⟩, .inl ⟨_, _, rfl, rfl⟩, ?_, ?_⟩
            · rw [dep, dep_strs]
              decide
            · rw [deq_refl]
              exact q _
        · obtain ⟨t, ty, hkt⟩ := hnt
          refine .inr ⟨tv, t, rfl, ty, hkt, fun e dx H2 sm2 he hdx => ?_⟩
          refine ⟨CNoSheet, e, _, rfl, rfl, ENoSheet.ec, hcon, ?_⟩
          refine ⟨_, rfl, e, CNoSheet, CCrossError, fI, dx, _, .int 0, rfl, he, hdx, xNoSheet, (by simp [List.lookup]), ?_⟩
          refine ⟨_, rfl, rfl, _, rfl, ?_⟩
          rw [decide_eq_false (by intro z; cases z)]
          refine iteF ?_
          refine ⟨_, rfl, _, _, _, true, ⟨rfl, .int _, kit_same⟩, _, rfl, iteF ?_⟩
          refine ⟨_, rfl, _, _, _, false, ⟨rfl, .int _, kit_int_bool⟩, _, rfl, iteF ?_⟩
          refine ⟨_, rfl, _, rfl, rfl, _, rfl, ?_⟩
          rw [decide_eq_true rfl]
          refine iteF ?_
          exact ⟨_, rfl, .inr ⟨tv, t, rfl, TyOf.mono sm2 ty, hkt⟩, fun H3 _ => q H3⟩
      · refine ⟨_, rfl, a, ns, 1, rfl, sm.seq hS, _, _, rfl, rfl, ⟨by decide, by decide⟩, _, _, rfl, rfl, (by show (0 : Int) < 9; decide), rfl, _, rfl, ite2 (fun _ => ?_) (fun _ => ?_)⟩
        · refine ⟨by show 2 ≤ sizeLine; decide, fun pt hpt => ⟨by show 1 ≤ sizeLine; decide, fun pl hpl d hd => ⟨by show 7 ≤ sizeLine; decide, fun po hpo => ?_⟩⟩⟩
          have s1 := Same.upd (o := HO.tup [V.str "ab", V.str "cd"]) hpt
          have s2 := Same.upd (o := HO.lst [V.str "ab"]) hpl
          have s3 := Same.upd (o := HO.dK []) hd
          have s4 := Same.upd (o := HO.lst [V.non, V.bl true, V.int 0, V.int 7, V.ref pt, V.ref pl, V.ref d]) hpo
          have sA := sm.trans (s1.trans (s2.trans (s3.trans s4)))
          have d0 := Int.emod_nonneg (cellAt ns 1 / 27) (show (7 : Int) ≠ 0 by decide)
          have d1 := Int.emod_lt_of_pos (cellAt ns 1 / 27) (show (0 : Int) < 7 by decide)
          obtain ⟨v, hv, hnt⟩ := things (K := K) (s4 _ _ (s3 _ _ (s2 _ _ upd_same))) (s4 _ _ (s3 _ _ upd_same)) (s4 _ _ upd_same) d0 d1
          refine ⟨_, rfl, a, ns, 1, rfl, sA.seq hS, _, _, rfl, rfl, ⟨by decide, by decide⟩, _, _, rfl, rfl, (by show (0 : Int) < 7; decide), po, _, _, v, rfl, rfl, SqL.of upd_same, hv, ?_⟩
          exact ⟨v, _, rfl, sA, s4 _ _ (s3 _ _ (s2 _ _ (s1 _ _ hb))), .inr ⟨hnt, rfl⟩⟩
        · exact ⟨_, _, rfl, sm, hb, .inl ⟨rfl, rfl⟩⟩
end
end Cw
namespace Cw
open PySem L2
theorem all_mk {l : PySem.W.OpenLaw} {w : World} {K : PySem.W.Frag} {h : Heap} {mg : Str → Option Value} {fa : Addr} (X : K.In h) (G : h.Ns mainGlobals mg) (hfa : mg "law" = some (.ref fa))
    {CCrossError : Addr} (aCCrossError : PySem.W.nsIn K mainGlobals "CrossError" = some (some (.ref CCrossError)))
    {CNoSheet : Addr} (aCNoSheet : PySem.W.nsIn K mainGlobals "NoSheet" = some (some (.ref CNoSheet)))
    {CNoDeed : Addr} (aCNoDeed : PySem.W.nsIn K mainGlobals "NoDeed" = some (some (.ref CNoDeed)))
    {CNoFloor : Addr} (aCNoFloor : PySem.W.nsIn K mainGlobals "NoFloor" = some (some (.ref CNoFloor)))
    {CNoLine : Addr} (aCNoLine : PySem.W.nsIn K mainGlobals "NoLine" = some (some (.ref CNoLine)))
    {CNoMatch : Addr} (aCNoMatch : PySem.W.nsIn K mainGlobals "NoMatch" = some (some (.ref CNoMatch)))
    {CNoName : Addr} (aCNoName : PySem.W.nsIn K mainGlobals "NoName" = some (some (.ref CNoName)))
    {CNoStep : Addr} (aCNoStep : PySem.W.nsIn K mainGlobals "NoStep" = some (some (.ref CNoStep)))
    {CNotFilled : Addr} (aCNotFilled : PySem.W.nsIn K mainGlobals "NotFilled" = some (some (.ref CNotFilled)))
    {CNotThere : Addr} (aCNotThere : PySem.W.nsIn K mainGlobals "NotThere" = some (some (.ref CNotThere)))
    {CNoWord : Addr} (aCNoWord : PySem.W.nsIn K mainGlobals "NoWord" = some (some (.ref CNoWord)))
    {CNoWorking : Addr} (aCNoWorking : PySem.W.nsIn K mainGlobals "NoWorking" = some (some (.ref CNoWorking)))
    {CTwice : Addr} (aCTwice : PySem.W.nsIn K mainGlobals "Twice" = some (some (.ref CTwice)))
    {f0 : Addr} {od0 an0 : Option Addr} {sl0 : Array (Option Value)} {oc0 kV0 dc0 pm0 cd0 ct0 : Value}
    (a0 : PySem.W.nsIn K mainGlobals "_law_cell_at" = some (some (.ref f0)))
    (l0 : K.lookup f0 = some ⟨oc0, od0, .func (PySem.W.fnOf "_law_cell_at" "_law_cell_at" (defArgs (top 22)) (defBody (top 22)) (defScope (top 22)) .none kV0 dc0 pm0 an0 cd0 ct0), sl0⟩)
    (c0 : PySem.W.codeIn K cd0 "_law_cell_at" = true)
    (k0 : PySem.W.keepIn K (.ref f0) = true)
    {f1 : Addr} {od1 an1 : Option Addr} {sl1 : Array (Option Value)} {oc1 kV1 dc1 pm1 cd1 ct1 : Value}
    (a1 : PySem.W.nsIn K mainGlobals "_law_mixed" = some (some (.ref f1)))
    (l1 : K.lookup f1 = some ⟨oc1, od1, .func (PySem.W.fnOf "_law_mixed" "_law_mixed" (defArgs (top 23)) (defBody (top 23)) (defScope (top 23)) .none kV1 dc1 pm1 an1 cd1 ct1), sl1⟩)
    (c1 : PySem.W.codeIn K cd1 "_law_mixed" = true)
    (k1 : PySem.W.keepIn K (.ref f1) = true)
    {f2 : Addr} {od2 an2 : Option Addr} {sl2 : Array (Option Value)} {oc2 kV2 dc2 pm2 cd2 ct2 : Value}
    (a2 : PySem.W.nsIn K mainGlobals "_law_sheet" = some (some (.ref f2)))
    (l2 : K.lookup f2 = some ⟨oc2, od2, .func (PySem.W.fnOf "_law_sheet" "_law_sheet" (defArgs (top 24)) (defBody (top 24)) (defScope (top 24)) .none kV2 dc2 pm2 an2 cd2 ct2), sl2⟩)
    (c2 : PySem.W.codeIn K cd2 "_law_sheet" = true)
    (k2 : PySem.W.keepIn K (.ref f2) = true)
    {f3 : Addr} {od3 an3 : Option Addr} {sl3 : Array (Option Value)} {oc3 kV3 dc3 pm3 cd3 ct3 : Value}
    (a3 : PySem.W.nsIn K mainGlobals "is_line" = some (some (.ref f3)))
    (l3 : K.lookup f3 = some ⟨oc3, od3, .func (PySem.W.fnOf "is_line" "is_line" (defArgs (top 20)) (defBody (top 20)) (defScope (top 20)) .none kV3 dc3 pm3 an3 cd3 ct3), sl3⟩)
    (c3 : PySem.W.codeIn K cd3 "is_line" = true)
    (k3 : PySem.W.keepIn K (.ref f3) = true)
    {f4 : Addr} {od4 an4 : Option Addr} {sl4 : Array (Option Value)} {oc4 kV4 dc4 pm4 cd4 ct4 : Value}
    (a4 : PySem.W.findIn K (.ref CNoSheet) "__init__" = some (some (.ref f4))) (i4 : PySem.W.isFn K (.ref f4) = true)
    (l4 : K.lookup f4 = some ⟨oc4, od4, .func (PySem.W.fnOf "__init__" "NoSheet.__init__" (defArgs (inClass (top 2) 0)) (defBody (inClass (top 2) 0)) (defScope (inClass (top 2) 0)) .none kV4 dc4 pm4 an4 cd4 ct4), sl4⟩)
    (c4 : PySem.W.codeIn K cd4 "NoSheet.__init__" = true)
    (k4 : PySem.W.keepIn K (.ref f4) = true)
    {f5 : Addr} {od5 an5 : Option Addr} {sl5 : Array (Option Value)} {oc5 kV5 dc5 pm5 cd5 ct5 : Value}
    (a5 : PySem.W.nsIn K mainGlobals "sheet_from" = some (some (.ref f5)))
    (l5 : K.lookup f5 = some ⟨oc5, od5, .func (PySem.W.fnOf "sheet_from" "sheet_from" (defArgs (top 19)) (defBody (top 19)) (defScope (top 19)) .none kV5 dc5 pm5 an5 cd5 ct5), sl5⟩)
    (c5 : PySem.W.codeIn K cd5 "sheet_from" = true)
    (k5 : PySem.W.keepIn K (.ref f5) = true)
    {f6 : Addr} {od6 an6 : Option Addr} {sl6 : Array (Option Value)} {oc6 kV6 dc6 pm6 cd6 ct6 : Value}
    (a6 : PySem.W.nsIn K mainGlobals "read_sheet" = some (some (.ref f6)))
    (l6 : K.lookup f6 = some ⟨oc6, od6, .func (PySem.W.fnOf "read_sheet" "read_sheet" (defArgs (top 18)) (defBody (top 18)) (defScope (top 18)) .none kV6 dc6 pm6 an6 cd6 ct6), sl6⟩)
    (c6 : PySem.W.codeIn K cd6 "read_sheet" = true)
    (k6 : PySem.W.keepIn K (.ref f6) = true)
    {f7 : Addr} {od7 an7 : Option Addr} {sl7 : Array (Option Value)} {oc7 kV7 dc7 pm7 cd7 ct7 : Value}
    (a7 : PySem.W.nsIn K mainGlobals "_law_spoiled" = some (some (.ref f7)))
    (l7 : K.lookup f7 = some ⟨oc7, od7, .func (PySem.W.fnOf "_law_spoiled" "_law_spoiled" (defArgs (top 25)) (defBody (top 25)) (defScope (top 25)) .none kV7 dc7 pm7 an7 cd7 ct7), sl7⟩)
    (c7 : PySem.W.codeIn K cd7 "_law_spoiled" = true)
    (k7 : PySem.W.keepIn K (.ref f7) = true)
    {f8 : Addr} {od8 an8 : Option Addr} {sl8 : Array (Option Value)} {oc8 kV8 dc8 pm8 cd8 ct8 : Value}
    (a8 : PySem.W.nsIn K mainGlobals "_law_due" = some (some (.ref f8)))
    (l8 : K.lookup f8 = some ⟨oc8, od8, .func (PySem.W.fnOf "_law_due" "_law_due" (defArgs (top 26)) (defBody (top 26)) (defScope (top 26)) .none kV8 dc8 pm8 an8 cd8 ct8), sl8⟩)
    (c8 : PySem.W.codeIn K cd8 "_law_due" = true)
    (k8 : PySem.W.keepIn K (.ref f8) = true)
    {f9 : Addr} {od9 an9 : Option Addr} {sl9 : Array (Option Value)} {oc9 kV9 dc9 pm9 cd9 ct9 : Value}
    (a9 : PySem.W.nsIn K mainGlobals "_law_only_no_sheet" = some (some (.ref f9)))
    (l9 : K.lookup f9 = some ⟨oc9, od9, .func (PySem.W.fnOf "_law_only_no_sheet" "_law_only_no_sheet" (defArgs (top 27)) (defBody (top 27)) (defScope (top 27)) .none kV9 dc9 pm9 an9 cd9 ct9), sl9⟩)
    (c9 : PySem.W.codeIn K cd9 "_law_only_no_sheet" = true)
    (k9 : PySem.W.keepIn K (.ref f9) = true)
    {f10 : Addr} {od10 an10 : Option Addr} {sl10 : Array (Option Value)} {oc10 kV10 dc10 pm10 cd10 ct10 : Value}
    (a10 : PySem.W.nsIn K mainGlobals "law" = some (some (.ref f10)))
    (l10 : K.lookup f10 = some ⟨oc10, od10, .func (PySem.W.fnOf "law" "law" (defArgs (top 28)) (defBody (top 28)) (defScope (top 28)) .none kV10 dc10 pm10 an10 cd10 ct10), sl10⟩)
    (c10 : PySem.W.codeIn K cd10 "law" = true)
    (k10 : PySem.W.keepIn K (.ref f10) = true)
    {tSIGNS : Tok} (sSIGNS : PySem.W.nsIn K mainGlobals "SIGNS" = some (some (.str "#.abcdefghijklmnopqrstuvwxyz" tSIGNS)))
    {tMOST_SIGNS : Tok} (sMOST_SIGNS : PySem.W.nsIn K mainGlobals "MOST_SIGNS" = some (some (.int 9 tMOST_SIGNS)))
    {tMOST_LINES : Tok} (sMOST_LINES : PySem.W.nsIn K mainGlobals "MOST_LINES" = some (some (.int 9 tMOST_LINES)))
    (kit1 : PySem.W.kitOne K (.ref CNoSheet) (.type "ValueError") = some true)
    (kit2 : PySem.W.kitAny K (.ref CNoSheet) ([CNoDeed, CNoFloor, CNoLine, CNoMatch, CNoName, CNoStep, CNotFilled, CNotThere, CNoWord, CNoWorking, CTwice].map Value.ref) = some false)
    (zlen : PySem.W.nsIn K mainGlobals "len" = some none)
    (zrange : PySem.W.nsIn K mainGlobals "range" = some none)
    (ztuple : PySem.W.nsIn K mainGlobals "tuple" = some none)
    (zall : PySem.W.nsIn K mainGlobals "all" = some none)
    (zstr : PySem.W.nsIn K mainGlobals "str" = some none)
    (zisinstance : PySem.W.nsIn K mainGlobals "isinstance" = some none)
    (zenumerate : PySem.W.nsIn K mainGlobals "enumerate" = some none)
    (zValueError : PySem.W.nsIn K mainGlobals "ValueError" = some none)
    (zlist : PySem.W.nsIn K mainGlobals "list" = some none)
    (zint : PySem.W.nsIn K mainGlobals "int" = some none)
    (zbool : PySem.W.nsIn K mainGlobals "bool" = some none)
    (egX : PySem.W.specialIn K (.ref CCrossError) "__getattribute__" = some (some (.builtin "type.__getattribute__"))) (erX : PySem.W.readsIn K CCrossError (.type "type") = true) (efX : PySem.W.findCls K (.ref CCrossError) (.type "type") "__init__" = some (.val (.builtin "ValueError.__init__"))) (eeX : ecIn K CCrossError bmV = true)
    (cgX : PySem.W.specialIn K (.builtin "object.__class__") "__get__" = some (some (.builtin "getset_descriptor.__get__"))) (ctX : PySem.W.takesIn K (.builtin "object.__class__") = some true)
    (xcNoSheet : xcIn K CNoSheet CCrossError f4 = true) (xsNoSheet : PySem.W.findIn K (.ref CNoSheet) "__setattr__" = some (some (.builtin "object.__setattr__"))) (xtNoSheet : PySem.W.takerIn K CNoSheet "line" = some none) (xgNoSheet : PySem.W.findIn K (.ref CNoSheet) "__getattribute__" = some (some (.builtin "BaseException.__getattribute__")))
    (xhNoSheet : PySem.W.findIn K (.ref CNoSheet) "__getattr__" = some none) (xfNoSheet : PySem.W.findIn K (.ref CNoSheet) "line" = some none) (xkNoSheet : PySem.W.keepIn K (.ref CNoSheet) = true) (xlNoSheet : PySem.W.findIn K (.ref CNoSheet) "__class__" = some (some (.builtin "object.__class__")))
    : ∃ fd : FuncData, (∀ (s : Shared) (v : Value), BindsTo s fd ⟨[v], []⟩ [("_law_script", v)]) ∧ ∀ base : Heap, K.In base → base.Ns mainGlobals mg → FnOk l.prog w K mg base CX0 6 fa fd ["_law_script"] (spLaw K) := by
  have e := hfa.symm.trans (PySem.W.mg_of X G a10)
  cases e
  have B : Bl mg := ⟨PySem.W.mg_none_of X G zlen, PySem.W.mg_none_of X G zrange, PySem.W.mg_none_of X G ztuple, PySem.W.mg_none_of X G zall, PySem.W.mg_none_of X G zstr, PySem.W.mg_none_of X G zisinstance, PySem.W.mg_none_of X G zenumerate, PySem.W.mg_none_of X G zValueError, PySem.W.mg_none_of X G zlist, PySem.W.mg_none_of X G zint, PySem.W.mg_none_of X G zbool⟩
  have cSIGNS : Cn mg "SIGNS" (.str signs) := ⟨_, PySem.W.mg_of X G sSIGNS, _, rfl⟩
  have cMOST_SIGNS : Cn mg "MOST_SIGNS" (.int 9) := ⟨_, PySem.W.mg_of X G sMOST_SIGNS, _, rfl⟩
  have cMOST_LINES : Cn mg "MOST_LINES" (.int 9) := ⟨_, PySem.W.mg_of X G sMOST_LINES, _, rfl⟩
  have bB : bmV.contains (.type "BaseException") = true := by decide +kernel
  have XECrossError : XE K CCrossError := ⟨egX, erX, efX⟩
  have kCrossError : Cn mg "CrossError" (.ref CCrossError) := ⟨_, PySem.W.mg_of X G aCCrossError, rfl⟩
  have ECrossError : Ec K mg "CrossError" CCrossError bmV := ⟨eeX, PySem.W.mg_of X G aCCrossError, bB⟩
  have kNoSheet : Cn mg "NoSheet" (.ref CNoSheet) := ⟨_, PySem.W.mg_of X G aCNoSheet, rfl⟩
  have xNoSheet : XC K CNoSheet CCrossError f4 "line" := ⟨xcNoSheet, i4, xsNoSheet, xtNoSheet, xgNoSheet, xhNoSheet, xfNoSheet, xkNoSheet⟩
  have iNoSheet : XI K CNoSheet := xi_of X xNoSheet xlNoSheet cgX ctX
  have ENoSheet : Ec K mg "NoSheet" CNoSheet (.ref CCrossError :: bmV) := ⟨ec_of xcNoSheet, PySem.W.mg_of X G aCNoSheet, by rw [List.contains_cons, bB, Bool.or_true]⟩
  have kNoDeed : Cn mg "NoDeed" (.ref CNoDeed) := ⟨_, PySem.W.mg_of X G aCNoDeed, rfl⟩
  have kNoFloor : Cn mg "NoFloor" (.ref CNoFloor) := ⟨_, PySem.W.mg_of X G aCNoFloor, rfl⟩
  have kNoLine : Cn mg "NoLine" (.ref CNoLine) := ⟨_, PySem.W.mg_of X G aCNoLine, rfl⟩
  have kNoMatch : Cn mg "NoMatch" (.ref CNoMatch) := ⟨_, PySem.W.mg_of X G aCNoMatch, rfl⟩
  have kNoName : Cn mg "NoName" (.ref CNoName) := ⟨_, PySem.W.mg_of X G aCNoName, rfl⟩
  have kNoStep : Cn mg "NoStep" (.ref CNoStep) := ⟨_, PySem.W.mg_of X G aCNoStep, rfl⟩
  have kNotFilled : Cn mg "NotFilled" (.ref CNotFilled) := ⟨_, PySem.W.mg_of X G aCNotFilled, rfl⟩
  have kNotThere : Cn mg "NotThere" (.ref CNotThere) := ⟨_, PySem.W.mg_of X G aCNotThere, rfl⟩
  have kNoWord : Cn mg "NoWord" (.ref CNoWord) := ⟨_, PySem.W.mg_of X G aCNoWord, rfl⟩
  have kNoWorking : Cn mg "NoWorking" (.ref CNoWorking) := ⟨_, PySem.W.mg_of X G aCNoWorking, rfl⟩
  have kTwice : Cn mg "Twice" (.ref CTwice) := ⟨_, PySem.W.mg_of X G aCTwice, rfl⟩
  have F0 := fun_mk (st := (top 22)) l0 c0 k0
  have b0 := F0.binds (ps := ["_law_script", "_law_k"]) fun _ _ _ _ _ _ us hl => match us, hl with | [_, _], _ => rfl
  have F1 := fun_mk (st := (top 23)) l1 c1 k1
  have b1 := F1.binds (ps := ["_law_script", "_law_k"]) fun _ _ _ _ _ _ us hl => match us, hl with | [_, _], _ => rfl
  have F2 := fun_mk (st := (top 24)) l2 c2 k2
  have b2 := F2.binds (ps := ["_law_script", "_law_first"]) fun _ _ _ _ _ _ us hl => match us, hl with | [_, _], _ => rfl
  have F3 := fun_mk (st := (top 20)) l3 c3 k3
  have b3 := F3.binds (ps := ["line", "length"]) fun _ _ _ _ _ _ us hl => match us, hl with | [_, _], _ => rfl
  have F4 := fun_mk (st := (inClass (top 2) 0)) l4 c4 k4
  have b4 := F4.binds (ps := ["self", "line"]) fun _ _ _ _ _ _ us hl => match us, hl with | [_, _], _ => rfl
  have F5 := fun_mk (st := (top 19)) l5 c5 k5
  have b5 := F5.binds (ps := ["lines"]) fun _ _ _ _ _ _ us hl => match us, hl with | [_], _ => rfl
  have F6 := fun_mk (st := (top 18)) l6 c6 k6
  have b6 := F6.binds (ps := ["text"]) fun _ _ _ _ _ _ us hl => match us, hl with | [_], _ => rfl
  have F7 := fun_mk (st := (top 25)) l7 c7 k7
  have b7 := F7.binds (ps := ["_law_lines", "_law_way", "_law_number"]) fun _ _ _ _ _ _ us hl => match us, hl with | [_, _, _], _ => rfl
  have F8 := fun_mk (st := (top 26)) l8 c8 k8
  have b8 := F8.binds (ps := ["_law_lines"]) fun _ _ _ _ _ _ us hl => match us, hl with | [_], _ => rfl
  have F9 := fun_mk (st := (top 27)) l9 c9 k9
  have b9 := F9.binds (ps := ["_law_text"]) fun _ _ _ _ _ _ us hl => match us, hl with | [_], _ => rfl
  have F10 := fun_mk (st := (top 28)) l10 c10 k10
  have b10 := F10.binds (ps := ["_law_script"]) fun _ _ _ _ _ _ us hl => match us, hl with | [_], _ => rfl
  refine ⟨PySem.W.fnOf "law" "law" (defArgs (top 28)) (defBody (top 28)) (defScope (top 28)) .none kV10 dc10 pm10 an10 cd10 ct10, fun s v => .of_eq rfl, fun base _ _ => ?_⟩
  have N_law_cell_at : Fn l.prog w K mg base "_law_cell_at" 1 (spCell K) := ⟨_, _, _, ok_cell B F0, PySem.W.mg_of X G a0, k0, b0⟩
  have N_law_mixed : Fn l.prog w K mg base "_law_mixed" 2 (spMixed K) := ⟨_, _, _, ok_mixed B F1 N_law_cell_at, PySem.W.mg_of X G a1, k1, b1⟩
  have N_law_sheet : Fn l.prog w K mg base "_law_sheet" 3 (spSheet K) := ⟨_, _, _, ok_sheet B F2 N_law_cell_at N_law_mixed, PySem.W.mg_of X G a2, k2, b2⟩
  have Nis_line : Fn l.prog w K mg base "is_line" 1 spLine := ⟨_, _, _, ok_line B cSIGNS cMOST_SIGNS F3, PySem.W.mg_of X G a3, k3, b3⟩
  have RNoSheet : Rs l.prog w K mg base "NoSheet" "line" CNoSheet CCrossError 1 := ⟨_, _, _, _, xNoSheet, ok_xinit xNoSheet XECrossError (PySem.W.mg_of X G aCCrossError) F4, b4, by decide, PySem.W.mg_of X G aCNoSheet, fun e v H Q he hq => ⟨e, v, rfl, he, hq⟩⟩
  have Nsheet_from : FnX l.prog w K mg base "sheet_from" 3 (spFromX CNoSheet) := ⟨_, _, _, ok_fromx B cMOST_LINES F5 Nis_line RNoSheet, PySem.W.mg_of X G a5, k5, b5⟩
  have Nread_sheet : FnX l.prog w K mg base "read_sheet" 4 (spReadX K CNoSheet) := ⟨_, _, _, ok_readx B F6 Nsheet_from RNoSheet, PySem.W.mg_of X G a6, k6, b6⟩
  have N_law_spoiled : Fn l.prog w K mg base "_law_spoiled" 1 spSpoil := ⟨_, _, _, ok_spoil B F7, PySem.W.mg_of X G a7, k7, b7⟩
  have N_law_due : Fn l.prog w K mg base "_law_due" 1 spDue := ⟨_, _, _, ok_due B F8, PySem.W.mg_of X G a8, k8, b8⟩
  have N_law_only_no_sheet : Fn l.prog w K mg base "_law_only_no_sheet" 5 (spOnly K) := ⟨_, _, _, ok_only B F9 ECrossError kNoSheet kNoDeed kNoFloor kNoLine kNoMatch kNoName kNoStep kNotFilled kNotThere kNoWord kNoWorking kTwice iNoSheet (ec_of xNoSheet.cls) kit1 kit2 Nread_sheet, PySem.W.mg_of X G a9, k9, b9⟩
  exact ok_law B F10 ENoSheet xNoSheet N_law_cell_at N_law_mixed N_law_sheet N_law_spoiled N_law_due Nread_sheet N_law_only_no_sheet
theorem walk {l : PySem.W.OpenLaw} {q : Program} {loose : List Str} {XP : (Str → Option Value) → Heap → Prop} {YP : World → Heap → Prop} {d : DefRec} {K : Params → PySem.W.Frag} (hn : l.most = some 63) (hdf : d.params.defaults = [])
    (hY : ∀ (w : World) (h : Heap), YP w h → (K w.params).In h)
    (F : ∀ (w : World) (mg : Str → Option Value) (fa : Addr) (h : Heap), (K w.params).In h → h.Ns mainGlobals mg → mg d.name = some (.ref fa) →
      ∃ fd : FuncData, (∀ (s : Shared) (u : Value), BindsTo s fd ⟨[u], []⟩ [("_law_script", u)]) ∧ ∀ base : Heap, (K w.params).In base → base.Ns mainGlobals mg → FnOk l.prog w (K w.params) mg base CX0 6 fa fd ["_law_script"] (spLaw (K w.params))) :
    PySem.W.WalkO q loose XP YP l.row.toRowW d [] (fun f vs => PySem.call f vs) :=
  L2.walk_of (n := 63) (k := 6) (x := "_law_script") (CX := fun _ => CX0) (sp := fun w => spLaw (K w.params)) hn (by decide) hdf ⟨rfl, by decide, by decide⟩ hY F (fun _ _ a ns hl _ hS => ⟨a, ns, rfl, hS, hl, fun _ => rfl⟩) fun _ _ _ _ _ z => z
end Cw
open PySem PySem.W PyProof.Rows
set_option maxRecDepth 100000 in
set_option maxHeartbeats 0 in
theorem PySem.Challenge.cw_crosswright_k02_no_sheet_holds : PySem.Challenge.rw_crosswright_k02_no_sheet.Holds := by
  w_on; o_law; k_head; (case hw => w_witness2)
  k_fill
  refine Cw.walk (l := PySem.Challenge.rw_crosswright_k02_no_sheet) rfl rfl (fun w h Y => PySem.W.kIn_of Y) ?F
  case F =>
    intro w mg fa h KX G hmg
    refine' Cw.all_mk KX G hmg ?aCCrossError ?aCNoSheet ?aCNoDeed ?aCNoFloor ?aCNoLine ?aCNoMatch ?aCNoName ?aCNoStep ?aCNotFilled ?aCNotThere ?aCNoWord ?aCNoWorking ?aCTwice ?a0 ?l0 ?c0 ?k0 ?a1 ?l1 ?c1 ?k1 ?a2 ?l2 ?c2 ?k2 ?a3 ?l3 ?c3 ?k3 ?a4 ?i4 ?l4 ?c4 ?k4 ?a5 ?l5 ?c5 ?k5 ?a6 ?l6 ?c6 ?k6 ?a7 ?l7 ?c7 ?k7 ?a8 ?l8 ?c8 ?k8 ?a9 ?l9 ?c9 ?k9 ?a10 ?l10 ?c10 ?k10 ?sSIGNS ?sMOST_SIGNS ?sMOST_LINES ?kit1 ?kit2 ?zlen ?zrange ?ztuple ?zall ?zstr ?zisinstance ?zenumerate ?zValueError ?zlist ?zint ?zbool ?egX ?erX ?efX ?eeX ?cgX ?ctX ?xcNoSheet ?xsNoSheet ?xtNoSheet ?xgNoSheet ?xhNoSheet ?xfNoSheet ?xkNoSheet ?xlNoSheet
    (case aCCrossError => k_is)
    (case aCNoSheet => k_is)
    (case aCNoDeed => k_is)
    (case aCNoFloor => k_is)
    (case aCNoLine => k_is)
    (case aCNoMatch => k_is)
    (case aCNoName => k_is)
    (case aCNoStep => k_is)
    (case aCNotFilled => k_is)
    (case aCNotThere => k_is)
    (case aCNoWord => k_is)
    (case aCNoWorking => k_is)
    (case aCTwice => k_is)
    (case a0 => k_is)
    (case l0 => k_is)
    (case c0 => k_is)
    (case k0 => k_is)
    (case a1 => k_is)
    (case l1 => k_is)
    (case c1 => k_is)
    (case k1 => k_is)
    (case a2 => k_is)
    (case l2 => k_is)
    (case c2 => k_is)
    (case k2 => k_is)
    (case a3 => k_is)
    (case l3 => k_is)
    (case c3 => k_is)
    (case k3 => k_is)
    (case a4 => k_is)
    (case i4 => k_is)
    (case l4 => k_is)
    (case c4 => k_is)
    (case k4 => k_is)
    (case a5 => k_is)
    (case l5 => k_is)
    (case c5 => k_is)
    (case k5 => k_is)
    (case a6 => k_is)
    (case l6 => k_is)
    (case c6 => k_is)
    (case k6 => k_is)
    (case a7 => k_is)
    (case l7 => k_is)
    (case c7 => k_is)
    (case k7 => k_is)
    (case a8 => k_is)
    (case l8 => k_is)
    (case c8 => k_is)
    (case k8 => k_is)
    (case a9 => k_is)
    (case l9 => k_is)
    (case c9 => k_is)
    (case k9 => k_is)
    (case a10 => k_is)
    (case l10 => k_is)
    (case c10 => k_is)
    (case k10 => k_is)
    (case sSIGNS => k_is)
    (case sMOST_SIGNS => k_is)
    (case sMOST_LINES => k_is)
    (case kit1 => first | kernel_rfl | rfl)
    (case kit2 => first | kernel_rfl | rfl)
    (case zlen => k_is)
    (case zrange => k_is)
    (case ztuple => k_is)
    (case zall => k_is)
    (case zstr => k_is)
    (case zisinstance => k_is)
    (case zenumerate => k_is)
    (case zValueError => k_is)
    (case zlist => k_is)
    (case zint => k_is)
    (case zbool => k_is)
    (case egX => k_is)
    (case erX => k_is)
    (case efX => k_is)
    (case eeX => first | kernel_rfl | rfl)
    (case cgX => k_is)
    (case ctX => k_is)
    (case xcNoSheet => first | kernel_rfl | rfl)
    (case xsNoSheet => k_is)
    (case xtNoSheet => k_is)
    (case xgNoSheet => k_is)
    (case xhNoSheet => k_is)
    (case xfNoSheet => k_is)
    (case xkNoSheet => k_is)
    (case xlNoSheet => k_is)
#print axioms PySem.Challenge.cw_crosswright_k02_no_sheet_holds

