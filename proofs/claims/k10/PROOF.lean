import PyProof.Rows.All
import Wide.All
import OpenK.AllK
import Wide.FinOn
import PyProof.EqAt
import PyProof.EqKinds
import PyProof.TupleCall
import Lean
import PySem.Challenge.RW_lazycols_k10_whole_table
set_option Elab.async false
set_option linter.all false
set_option maxRecDepth 100000
set_option maxHeartbeats 4000000
set_option genSizeOfSpec false
/-! THE HAND LAYER, for ints, bools, texts, own classes, LISTS and tuples (index, slices, in, append, pop ..), calls, loops. Paste it whole ahead of your own text; what your proof does not reach may be deleted. -/
namespace L2
open PySem PySem.Spec PyProof.Rows

/-- a key: an int or a str -/
abbrev Key := Sum Int Str
def keyIs : Key → Value → Bool
  | .inl k, v => Value.isInt k v
  | .inr x, v => Value.isStrOf x v
def keyH (w : World) : Key → Int
  | .inl k => hashInt k
  | .inr x => hashStr w x
theorem keyIs_shape : ∀ {k : Key} {v : Value}, keyIs k v = true → (∃ i t, k = Sum.inl i ∧ v = Value.int i t) ∨ (∃ x t, k = Sum.inr x ∧ v = Value.str x t)
  | .inl i, v, h => by
    obtain ⟨t, e⟩ := Value.isInt_shape (k := i) (v := v) h
    exact .inl ⟨i, t, rfl, e⟩
  | .inr x, v, h => by
    obtain ⟨t, e⟩ := Value.isStrOf_shape (x := x) (v := v) h
    exact .inr ⟨x, t, rfl, e⟩
theorem keyIs_int (i : Int) (t : Tok) : keyIs (.inl i) (.int i t) = true := by simp [keyIs, Value.isInt]
theorem keyIs_str (x : Str) (t : Tok) : keyIs (.inr x) (.str x t) = true := by simp [keyIs, Value.isStrOf]
theorem key_ll (a b : Int) : decide ((Sum.inl a : Key) = Sum.inl b) = (a == b) := by
  by_cases e : a = b
  · subst e; simp
  · have h : ¬ (Sum.inl a : Key) = Sum.inl b := fun q => e (Sum.inl.inj q)
    rw [decide_eq_false h]
    exact (beq_eq_false_iff_ne.mpr e).symm
theorem key_rr (a b : Str) : decide ((Sum.inr a : Key) = Sum.inr b) = decide (a = b) := by
  by_cases e : a = b
  · subst e; simp
  · have h : ¬ (Sum.inr a : Key) = Sum.inr b := fun q => e (Sum.inr.inj q)
    rw [decide_eq_false h, decide_eq_false e]
theorem key_lr (a : Int) (b : Str) : decide ((Sum.inl a : Key) = Sum.inr b) = false := decide_eq_false (fun q => nomatch q)
theorem key_rl (a : Str) (b : Int) : decide ((Sum.inr a : Key) = Sum.inl b) = false := decide_eq_false (fun q => nomatch q)

def mixKind (prog : Program) (w : World) : PySem.KeyKind prog w Key where
  is := keyIs
  hash := keyH w
  inj := fun v a b ha hb => by
    rcases keyIs_shape ha with ⟨i, t, rfl, rfl⟩ | ⟨x, t, rfl, rfl⟩
    · rcases keyIs_shape hb with ⟨j, u, rfl, e⟩ | ⟨y, u, rfl, e⟩
      · injection e with e1 _; rw [e1]
      · exact nomatch e
    · rcases keyIs_shape hb with ⟨j, u, rfl, e⟩ | ⟨y, u, rfl, e⟩
      · exact nomatch e
      · injection e with e1 _; rw [e1]
  byValue := fun k v h => by
    rcases keyIs_shape h with ⟨i, t, rfl, rfl⟩ | ⟨x, t, rfl, rfl⟩ <;> rfl
  pyHash := fun hv h => by
    rcases keyIs_shape hv with ⟨i, t, rfl, rfl⟩ | ⟨x, t, rfl, rfl⟩
    · exact wpAny_pyHash_int h
    · exact wpAny_pyHash_str h
  eqBool := fun hu hv h => by
    rcases keyIs_shape hu with ⟨i, t, rfl, rfl⟩ | ⟨x, t, rfl, rfl⟩
    · rcases keyIs_shape hv with ⟨j, u, rfl, rfl⟩ | ⟨y, u, rfl, rfl⟩
      · rw [key_ll] at h; exact wpAny_eqBool_int h
      · rw [key_lr] at h; exact SeqAt.EqAt.int_str i t y u _ _ _ _ h
    · rcases keyIs_shape hv with ⟨j, u, rfl, rfl⟩ | ⟨y, u, rfl, rfl⟩
      · rw [key_rl] at h; exact SeqAt.EqAt.str_int x t j u _ _ _ _ h
      · rw [key_rr] at h; exact wpAny_eqBool_str h
  «strs» := fun k x t v h => by
    rcases keyIs_shape h with ⟨i, u, rfl, e⟩ | ⟨y, u, rfl, e⟩
    · exact nomatch e
    · injection e with e1 _
      subst e1
      cases v <;> rfl

theorem mixKind_int (prog : Program) (w : World) (i : Int) (t : Tok) : (mixKind prog w).is (.inl i) (.int i t) = true := keyIs_int i t
theorem mixKind_str (prog : Program) (w : World) (x : Str) (t : Tok) : (mixKind prog w).is (.inr x) (.str x t) = true := keyIs_str x t
end L2

namespace L2
open PySem PySem.Spec PyProof.Rows

/-- a value, without the heap -/
inductive V where
  | non | bl (b : Bool) | int (i : Int) | str (x : Str) | byt (b : Array UInt8) | flt (b : UInt64) | ref (a : Addr) | ty (n : String)
  deriving DecidableEq

def RelV : V → Value → Prop
  | .non, u => u = Value.none
  | .bl b, u => u = Value.bool b
  | .int i, u => ∃ t, u = Value.int i t
  | .str x, u => ∃ t, u = Value.str x t
  | .byt b, u => ∃ t, u = Value.bytes b t
  | .flt b, u => ∃ t, u = Value.float b t
  | .ref a, u => u = Value.ref a
  | .ty n, u => u = Value.type n

abbrev Vals : List V → List Value → Prop := Paired RelV
theorem Vals.length {xs : List V} {us : List Value} (r : Vals xs us) : xs.length = us.length := Paired.length r
theorem Vals.get : ∀ {xs : List V} {us : List Value} {i : Nat} {x : V}, Vals xs us → xs[i]? = some x → ∃ u, us[i]? = some u ∧ RelV x u
  | _, _, _, _, .nil, e => by simp at e
  | _, _, 0, _, .cons r _, e => by simp at e; subst e; exact ⟨_, rfl, r⟩
  | _, _, i + 1, x, .cons _ t, e => by
    obtain ⟨u, h1, h2⟩ := Vals.get (i := i) (x := x) t (by simpa using e)
    exact ⟨u, by simpa using h1, h2⟩
theorem Vals.set {x : V} {u : Value} (r : RelV x u) : ∀ {xs : List V} {us : List Value} (i : Nat), Vals xs us → Vals (xs.set i x) (us.set i u)
  | _, _, _, .nil => .nil
  | _, _, 0, .cons _ t => .cons r t
  | _, _, i + 1, .cons q t => .cons q (Vals.set r i t)
theorem Vals.append : ∀ {xs ys : List V} {us ws : List Value}, Vals xs us → Vals ys ws → Vals (xs ++ ys) (us ++ ws)
  | _, _, _, _, .nil, s => s
  | _, _, _, _, .cons r t, s => .cons r (Vals.append t s)
theorem Vals.take : ∀ {xs : List V} {us : List Value} (n : Nat), Vals xs us → Vals (xs.take n) (us.take n)
  | _, _, 0, _ => .nil
  | _, _, _ + 1, .nil => .nil
  | _, _, n + 1, .cons r t => .cons r (Vals.take n t)
theorem Vals.drop : ∀ {xs : List V} {us : List Value} (n : Nat), Vals xs us → Vals (xs.drop n) (us.drop n)
  | _, _, 0, r => r
  | _, _, _ + 1, .nil => .nil
  | _, _, n + 1, .cons _ t => Vals.drop n t
def RelO : Option V → Option Value → Prop
  | some v, some u => RelV v u
  | none, none => True
  | _, _ => False
def KV {κ : Type} : List (κ × V) → List (κ × Value) → Prop := Paired fun (p : κ × V) (q : κ × Value) => p.1 = q.1 ∧ RelV p.2 q.2

/-- a key of a dict (00_mix): an int or a text -/
def kV : Key → V
  | .inl i => .int i
  | .inr x => .str x

/-- what stands at a tracked address -/
inductive HO where
  /-- a list -/
  | lst (xs : List V)
  /-- a tuple (never changes) -/
  | tup (xs : List V)
  /-- a dict whose keys are ints and texts; one whose keys are tuples of ints and texts (the empty one is both) -/
  | dK (kvs : List (Key × V)) | dT (kvs : List (List Key × V))
  /-- a set of ints: its members, its size -/
  | set (S : Int → Bool) (n : Nat)
  /-- an instance of the class at C, its dict at dx, its attributes -/
  | ins (C dx : Addr) (fs : List (Str × V))
  /-- the dict of the instance at x -/
  | own (x : Addr)
  /-- the dict of an exception -/
  | xd (fs : List (Str × V))
  /-- a bound method, f of x -/
  | met (f x : Addr)
  /-- a range object lo, lo + 1, .. below hi -/
  | rng (lo hi : Int)
  /-- a thing that is known to the object (the script; a dict while a loop walks it): read, never written while it is so -/
  | frz (o : Obj) (u : HO)
  /-- a code object's table -/
  | tbl (ps : Array Value)
  /-- any other thing, by what is true of its one object (a def of one's own: SetO a S n := HO.ext fun h => ..) -/
  | ext (φ : Heap → Prop)

abbrev Hp := Addr → Option HO
def upd (H : Hp) (a : Addr) (o : HO) : Hp := fun b => if b = a then some o else H b
theorem upd_same {H : Hp} {a : Addr} {o : HO} : upd H a o a = some o := by unfold upd; rw [if_pos rfl]
theorem upd_ne {H : Hp} {a b : Addr} {o : HO} (h : b ≠ a) : upd H a o b = H b := by unfold upd; rw [if_neg h]
theorem upd_upd {H : Hp} {a : Addr} {o u : HO} : upd (upd H a o) a u = upd H a u := by
  funext b; unfold upd; split <;> rfl
/-- two objects of different content stand apart -/
theorem ne_of {H : Hp} {a b : Addr} {o u : HO} (h : H a = some o) (h' : H b = some u) (d : o ≠ u) : a ≠ b := by
  intro e; subst e; rw [h] at h'; exact d (Option.some.inj h')
theorem ne_of_none {H : Hp} {a b : Addr} {o : HO} (h : H a = some o) (h' : H b = none) : a ≠ b := by
  intro e; subst e; rw [h] at h'; cases h'

section
variable (P : Program) (w : World)
def ObjOk (H : Hp) (h : Heap) (a : Addr) : HO → Prop
  | .lst xs => xs.length ≤ sizeLine ∧ ∃ (its : List Value) (n : Nat), Vals xs its ∧ h.get? a = some { cls := .type "list", data := .seq its.toArray n }
  | .tup xs => xs.length ≤ sizeLine ∧ ∃ its : List Value, Vals xs its ∧ IsTup h a its.toArray
  | .dK kvs => kvs.length ≤ sizeLine ∧ (a == sysModules) = false ∧ ∃ vs, KV kvs vs ∧ h.DictOf (mixKind P w) a vs
  | .dT kvs => kvs.length ≤ sizeLine ∧ (a == sysModules) = false ∧ ∃ xs : List (List Key × Addr × Value),
      Paired (fun (p : List Key × V) (q : List Key × Addr × Value) => p.1 = q.1 ∧ H q.2.1 = some (.tup (p.1.map kV)) ∧ RelV p.2 q.2.2) kvs xs ∧
      ∃ o es ep, h.get? a = some o ∧ o.ExactDict ∧ o.data = .dict es ep ∧ es.toList = xs.map (entryOfKey (tupleKind (mixKind P w))) ∧ (xs.map (·.1)).Nodup
  | .set S n => h.SetOf (intKind P w) a S n
  | .ins C dx fs => H dx = some (.own a) ∧ fs.length ≤ 1000 ∧ dx ≠ a ∧ h.get? a = some (PySem.W.instObj C dx) ∧
      ∃ mA, h.Ns1 dx mA ∧ (∀ f, RelO (fs.lookup f) (mA f)) ∧ PySem.Within mA (fs.map (·.1))
  | .own _ => ∃ o, h.get? a = some o
  | .xd fs => ∃ mA, h.Ns1 a mA ∧ ∀ f, RelO (fs.lookup f) (mA f)
  | .rng lo hi => ∃ t u v, h.get? a = some { cls := .type "range", data := .fields #[.int lo t, .int hi u, .int 1 v] }
  | .frz o u => h.get? a = some o ∧ ObjOk H h a u
  | .tbl ps => h.get? a = some { cls := .none, data := .fields ps }
  | .met f x => h.get? a = some (PySem.W.methodObj (.ref f) (.ref x))
  | .ext φ => φ h ∧ (∃ o, h.get? a = some o) ∧ ∀ h1 h2 : Heap, φ h1 → (∀ o, h1.get? a = some o → h2.get? a = some o) → φ h2
/-- the abstract heap is held -/
def HOk (H : Hp) (h : Heap) : Prop := ∀ a o, H a = some o → ObjOk P w H h a o
end

section
variable {P : Program} {w : World} {H H' : Hp} {h h' : Heap} {a : Addr} {o : HO}
theorem ObjOk.lt (x : ObjOk P w H h a o) : a < h.objs.size := by
  cases o with
  | lst xs => obtain ⟨_, _, _, _, e⟩ := x; exact Heap.lt_size e
  | tup xs => obtain ⟨_, _, _, p⟩ := x; exact p.lt
  | dK kvs => obtain ⟨_, _, _, _, o, _, _, e, _⟩ := x; exact Heap.lt_size e
  | dT kvs => obtain ⟨_, _, _, _, o, _, _, e, _⟩ := x; exact Heap.lt_size e
  | set S n => obtain ⟨o, _, _, _, e, _⟩ := x; exact Heap.lt_size e
  | ins C dx fs => obtain ⟨_, _, _, e, _⟩ := x; exact Heap.lt_size e
  | own y => obtain ⟨_, e⟩ := x; exact Heap.lt_size e
  | xd fs => obtain ⟨_, ⟨_, _, _, e, _⟩, _⟩ := x; exact Heap.lt_size e
  | rng lo hi => obtain ⟨_, _, _, e⟩ := x; exact Heap.lt_size e
  | frz ob u => obtain ⟨e, _⟩ := x; exact Heap.lt_size e
  | tbl ps => exact Heap.lt_size (show h.get? a = some _ from x)
  | met f y => exact Heap.lt_size (show h.get? a = some _ from x)
  | ext φ => obtain ⟨_, ⟨_, e⟩, _⟩ := x; exact Heap.lt_size e
theorem Paired.mapP {α β : Type} {F G : α → β → Prop} : ∀ {l₁ : List α} {l₂ : List β}, Paired F l₁ l₂ → (∀ a b, F a b → G a b) → Paired G l₁ l₂
  | _, _, .nil, _ => .nil
  | _, _, .cons r t, f => .cons (f _ _ r) (Paired.mapP t f)
/-- what an object's description leans on: its own object, its own dict, the tuples -/
theorem ObjOk.stay (x : ObjOk P w H h a o) (k : ∀ b u, (b = a ∨ H b = some (.own a)) → h.get? b = some u → h'.get? b = some u)
    (ho : ∀ b, H b = some (.own a) → H' b = some (.own a)) (ht : ∀ b xs, H b = some (.tup xs) → H' b = some (.tup xs)) : ObjOk P w H' h' a o := by
  induction o with
  | lst xs => obtain ⟨z, its, n, r, e⟩ := x; exact ⟨z, its, n, r, k _ _ (.inl rfl) e⟩
  | tup xs => obtain ⟨z, its, r, ob, e, c⟩ := x; exact ⟨z, its, r, ob, k _ _ (.inl rfl) e, c⟩
  | dK kvs => obtain ⟨z, y, vs, r, ob, es, ep, e, c⟩ := x; exact ⟨z, y, vs, r, ob, es, ep, k _ _ (.inl rfl) e, c⟩
  | dT kvs =>
    obtain ⟨z, y, xs, r, ob, es, ep, e, c⟩ := x
    exact ⟨z, y, xs, Paired.mapP r fun p q z => ⟨z.1, ht _ _ z.2.1, z.2.2⟩, ob, es, ep, k _ _ (.inl rfl) e, c⟩
  | set S n => obtain ⟨ob, es, ep, t, e, c⟩ := x; exact ⟨ob, es, ep, t, k _ _ (.inl rfl) e, c⟩
  | ins C dx fs =>
    obtain ⟨d, z, ne, e, mA, ⟨od, es, ep, e2, c⟩, r⟩ := x
    exact ⟨ho _ d, z, ne, k _ _ (.inl rfl) e, mA, ⟨od, es, ep, k _ _ (.inr d) e2, c⟩, r⟩
  | own y => obtain ⟨ob, e⟩ := x; exact ⟨ob, k _ _ (.inl rfl) e⟩
  | xd fs => obtain ⟨mA, ⟨od, es, ep, e, c⟩, r⟩ := x; exact ⟨mA, ⟨od, es, ep, k _ _ (.inl rfl) e, c⟩, r⟩
  | rng lo hi => obtain ⟨t, u, v, e⟩ := x; exact ⟨t, u, v, k _ _ (.inl rfl) e⟩
  | frz ob u ih => obtain ⟨e, q⟩ := x; exact ⟨k _ _ (.inl rfl) e, ih q⟩
  | tbl ps =>
    have e : h.get? a = some { cls := .none, data := .fields ps } := x
    show h'.get? a = some { cls := .none, data := .fields ps }
    exact k a _ (.inl rfl) e
  | met f y =>
    have e : h.get? a = some (PySem.W.methodObj (.ref f) (.ref y)) := x
    show h'.get? a = some (PySem.W.methodObj (.ref f) (.ref y))
    exact k a _ (.inl rfl) e
  | ext φ => obtain ⟨p, ⟨o, e⟩, st⟩ := x; exact ⟨st _ _ p fun o q => k _ _ (.inl rfl) q, ⟨o, k _ _ (.inl rfl) e⟩, st⟩
theorem HOk.lt (x : HOk P w H h) (e : H a = some o) : a < h.objs.size := (x a o e).lt
theorem HOk.fresh (x : HOk P w H h) (e : h.objs.size ≤ a) : H a = none := by
  cases q : H a with
  | none => rfl
  | some u => exact absurd (Nat.lt_of_lt_of_le (x.lt q) e) (Nat.lt_irrefl _)
/-- every object of the heap is kept -/
theorem HOk.kept (x : HOk P w H h) (k : ∀ b u, h.get? b = some u → h'.get? b = some u) : HOk P w H h' := fun a o e =>
  (x a o e).stay (fun b u _ q => k b u q) (fun _ q => q) fun _ _ q => q
/-- a new object is laid and tracked -/
theorem HOk.laid (x : HOk P w H h) (k : ∀ b u, h.get? b = some u → h'.get? b = some u) (hp : h.objs.size ≤ a) (new : ObjOk P w (upd H a o) h' a o) : HOk P w (upd H a o) h' := fun b u e => by
  have hn := x.fresh hp
  by_cases hb : b = a
  · subst hb; rw [upd_same] at e; cases e; exact new
  · rw [upd_ne hb] at e
    exact (x b u e).stay (fun c v _ q => k c v q) (fun c q => by rw [upd_ne (ne_of_none q hn)]; exact q) fun c xs q => by rw [upd_ne (ne_of_none q hn)]; exact q
end

/-- what may be read as u: it is u, or a known u -/
def Rd (H : Hp) (a : Addr) (u : HO) : Prop := H a = some u ∨ ∃ o, H a = some (.frz o u)
theorem Rd.ok {P : Program} {w : World} {H : Hp} {h : Heap} {a : Addr} {u : HO} (r : Rd H a u) (x : HOk P w H h) : ObjOk P w H h a u := by
  rcases r with r | ⟨o, r⟩
  · exact x a u r
  · obtain ⟨_, q⟩ := x a _ r
    exact q
/-- what may be written -/
def Mut : Option HO → Prop
  | some (.lst _) => True
  | some (.dK _) => True
  | some (.dT _) => True
  | some (.set _ _) => True
  | some (.ins _ _ _) => True
  | some (.ext _) => True
  | _ => False
section
variable {P : Program} {w : World} {H : Hp} {h h' : Heap} {x e : Addr} {o' : HO}
/-- the object at e is changed: x itself, or the dict of the instance x -/
theorem HOk.write (ok : HOk P w H h) (mu : Mut (H x)) (he : e = x ∨ H e = some (.own x)) (k : ∀ b u, b ≠ e → h.get? b = some u → h'.get? b = some u) (heo : ∃ u, h'.get? e = some u)
    (new : ObjOk P w (upd H x o') h' x o') : HOk P w (upd H x o') h' := fun b u q => by
  have nown : ∀ c y, H c = some (.own y) → c ≠ x := fun c y r z => by subst z; rw [r] at mu; exact mu
  have ntup : ∀ c xs, H c = some (.tup xs) → c ≠ x := fun c xs r z => by subst z; rw [r] at mu; exact mu
  by_cases hb : b = x
  · subst hb; rw [upd_same] at q; cases q; exact new
  · rw [upd_ne hb] at q
    by_cases hbe : b = e
    · have q' : H b = some (.own x) := by
        rcases he with z | z
        · exact absurd (hbe.trans z) hb
        · rw [hbe]; exact z
      rw [q] at q'; cases q'
      obtain ⟨v, hv⟩ := heo
      exact ⟨v, by rw [hbe]; exact hv⟩
    · refine (ok b u q).stay (fun c v hc r => k c v ?_ r) (fun c r => by rw [upd_ne (nown c b r)]; exact r) fun c xs r => by rw [upd_ne (ntup c xs r)]; exact r
      rcases hc with rfl | hc
      · exact hbe
      · rintro rfl
        rcases he with z | z
        · exact nown c b hc z
        · rw [hc] at z; cases z; exact hb rfl
end

/-! ### kept unless tracked; of the frames at fs (the callers') the slots may change (an exception that passes writes there); of the records at ex (iterators) nothing is said -/
structure Un (fs ex : List Addr) (H H' : Hp) (h h' : Heap) : Prop where
  keep : ∀ b o, h.get? b = some o → H b = none → b ∉ fs → b ∉ ex → h'.get? b = some o
  slot : ∀ b o, h.get? b = some o → H b = none → b ∈ fs → b ∉ ex → ∃ sl, h'.get? b = some { o with slots := sl }
  free : ∀ b o, h.get? b = some o → H b = none → b ∉ ex → H' b = none
  there : ∀ b o, h.get? b = some o → b ∉ ex → ∃ o', h'.get? b = some o'
  tups : ∀ b xs, H b = some (.tup xs) → H' b = some (.tup xs)
  frzs : ∀ b o u, H b = some (.frz o u) → H' b = some (.frz o u)
  tbls : ∀ b ps, H b = some (.tbl ps) → ∃ more, H' b = some (.tbl (ps ++ more))
section
variable {fs fs' ex ex' : List Addr} {H H1 H2 : Hp} {h h1 h2 h' : Heap} {a x e : Addr} {o : HO}
theorem Un.any (u : Un fs ex H H1 h h1) {b : Addr} {ob : Obj} (q : h.get? b = some ob) (n : H b = none) (hx : b ∉ ex) : ∃ sl, h1.get? b = some { ob with slots := sl } := by
  by_cases hb : b ∈ fs
  · exact u.slot b ob q n hb hx
  · exact ⟨ob.slots, u.keep b ob q n hb hx⟩
theorem Un.kept (k : ∀ b u, h.get? b = some u → h'.get? b = some u) : Un fs ex H H h h' :=
  ⟨fun b ob q _ _ _ => k b ob q, fun b ob q _ _ _ => ⟨ob.slots, k b ob q⟩, fun _ _ _ n _ => n, fun b ob q _ => ⟨ob, k b ob q⟩, fun _ _ q => q, fun _ _ _ q => q, fun _ ps q => ⟨#[], by rw [q]; simp⟩⟩
theorem Un.refl : Un fs ex H H h h := Un.kept fun _ _ q => q
theorem Un.laid (k : ∀ b u, h.get? b = some u → h'.get? b = some u) (hp : h.objs.size ≤ a) (hn : H a = none) : Un fs ex H (upd H a o) h h' where
  keep := fun b u q _ _ _ => k b u q
  slot := fun b u q _ _ _ => ⟨u.slots, k b u q⟩
  free := fun b u q n _ => by rw [upd_ne (Nat.ne_of_lt (Nat.lt_of_lt_of_le (Heap.lt_size q) hp))]; exact n
  there := fun b u q _ => ⟨u, k b u q⟩
  tups := fun b xs q => by rw [upd_ne (ne_of_none q hn)]; exact q
  frzs := fun b u xs q => by rw [upd_ne (ne_of_none q hn)]; exact q
  tbls := fun b ps q => ⟨#[], by rw [upd_ne (ne_of_none q hn), q]; simp⟩
theorem Un.write (mu : Mut (H x)) (he : e = x ∨ H e = some (.own x)) (k : ∀ b u, b ≠ e → h.get? b = some u → h'.get? b = some u) (heo : ∃ u, h'.get? e = some u) : Un fs ex H (upd H x o) h h' := by
  have hx : ∀ b, H b = none → b ≠ x := fun b n z => by subst z; rw [n] at mu; exact mu
  have hb : ∀ b, H b = none → b ≠ e := fun b n z => by
    subst z
    rcases he with r | r
    · exact hx b n r
    · rw [n] at r; cases r
  have hm : ∀ b u, H b = some u → ¬ Mut (some u) → b ≠ x := fun b u q nm z => by subst z; rw [q] at mu; exact nm mu
  refine ⟨fun b u q n _ _ => k b u (hb b n) q, fun b u q n _ _ => ⟨u.slots, k b u (hb b n) q⟩, fun b u q n _ => by rw [upd_ne (hx b n)]; exact n, fun b u q _ => ?_,
    fun b xs q => by rw [upd_ne (hm b _ q fun z => z)]; exact q, fun b u xs q => by rw [upd_ne (hm b _ q fun z => z)]; exact q, fun b ps q => ⟨#[], by rw [upd_ne (hm b _ q fun z => z), q]; simp⟩⟩
  by_cases hbe : b = e
  · subst hbe; exact heo
  · exact ⟨u, k b u hbe q⟩
end

/-! ### the heap without what is tracked -/
def trk (h : Heap) (H : Hp) : List Addr := (List.range h.objs.size).filter fun a => (H a).isSome
def hidT (h : Heap) (H : Hp) : Heap := PySem.W.hideAll h (trk h H)
theorem hidT_size (h : Heap) (H : Hp) : (hidT h H).objs.size = h.objs.size := PySem.W.hideAll_size _ _
theorem hidT_get {h : Heap} {H : Hp} {b : Addr} {o : Obj} (e : h.get? b = some o) (n : H b = none) : (hidT h H).get? b = some o :=
  PySem.W.hideAll_get _ e fun hm => by
    have q : (H b).isSome = true := (List.mem_filter.mp hm).2
    rw [n] at q; simp at q
theorem of_hidT {h : Heap} {H : Hp} {b : Addr} {o : Obj} (e : (hidT h H).get? b = some o) : h.get? b = some o ∧ H b = none := by
  have e' : h.get? b = some o := PySem.W.of_hideAll (trk h H) e
  refine ⟨e', ?_⟩
  cases q : H b with
  | none => rfl
  | some x =>
    have hm : b ∈ trk h H := List.mem_filter.mpr ⟨List.mem_range.mpr (Heap.lt_size e'), by simp [q]⟩
    have z : (hidT h H).get? b = none := PySem.W.hideAll_none (trk h H) hm
    rw [z] at e; cases e

/-! ### OpenK's ledger, filled with every new object but one -/
def allNews (g h : Heap) (L : Addr) : List (Addr × Obj) := (List.range h.objs.size).filterMap fun a => if a = L ∨ (g.get? a).isSome = true then none else (h.get? a).map fun o => (a, o)
def rest (g h : Heap) (L d : Addr) : List (Addr × Obj) := (allNews g h L).filter fun p => decide (p.1 ≠ d)
end L2

namespace L2
open PySem PySem.Spec PyProof.Rows

/-- the module's facts, over the base: the heap at the law's entry without what is tracked there -/
structure Mod (K : PySem.W.Frag) (mg : Str → Option Value) (base : Heap) : Prop where
  kin : K.In base
  glob : base.Ns mainGlobals mg
  blt : ∃ mb, base.Ns builtinsNs mb ∧ ∀ x : Str, x ≠ "__name__" → mb x = bootBuiltins x
  nolimit : base.NoLimit

/-- the context: a def's body (or a comprehension's block) running. base: fixed through the whole law; s₀, H₀: the entry; outer: the frames whose slots others may change (a def's callers); stack: all frames that run;
   ex: iterators that were made ahead of the entry and are walked here (a comprehension's); fn: the names whose cells were made at the entry (a def: all; a comprehension's block: its own); calm: not within an except suite; pn: pins that every state bears; xe: what is wanted of an exception that leaves the code -/
structure Cx where
  prog : Program
  w : World
  K : PySem.W.Frag
  mg : Str → Option Value
  base : Heap
  A : Around
  N : List Str
  s₀ : Shared
  H₀ : Hp
  env : Env
  outer : List Env
  stack : List Env
  ex : List Addr
  fn : Str → Bool
  calm : Bool
  pn : List (Addr × Obj)
  xe : Value → Shared → Prop
/-- the callers' frames -/
def frs (l : List Env) : List Addr := l.filterMap (·.frame)
abbrev Cx.fs (X : Cx) : List Addr := frs X.outer

def Vis (sc : Scope) (x : Str) : Prop := sc.names.lookup x = some .local ∨ sc.names.lookup x = some .cell ∨ sc.names.lookup x = some .free
def Loc (sc : Scope) (x : Str) : Prop := sc.names.lookup x = some .local ∨ sc.names.lookup x = some .cell
def Look (env : Env) (h : Heap) (m : Str → Option Value) (x : Str) (u : Value) : Prop :=
  (env.kindOf x = some .local ∧ m x = some u) ∨ ((env.kindOf x = some .cell ∨ env.kindOf x = some .free) ∧ ∃ c, env.cells.lookup x = some c ∧ h.IsCell c (some u))

structure Cx.Ok (X : Cx) : Prop where
  mod : Mod X.K X.mg X.base
  kind : X.env.scope.kind = .function
  glob : X.env.globals = mainGlobals
  blt : X.env.builtins = builtinsNs
  above : X.s₀.heap.objs.size ≤ X.env.locals
  inj : ∀ x y c, X.env.cells.lookup x = some c → X.env.cells.lookup y = some c → x = y
  has : ∀ x, (X.env.kindOf x = some .cell ∨ X.env.kindOf x = some .free) → ∃ c, X.env.cells.lookup x = some c
  cab : ∀ x c, X.fn x = true → X.env.cells.lookup x = some c → X.s₀.heap.objs.size ≤ c
  hd : X.calm = true → X.A.handled = none
  frames : X.A.frames = some X.stack
  stk : X.stack = X.outer ∨ (X.stack = X.env :: X.outer ∧ X.env.frame = some X.env.locals)
  exf : ∀ b ∈ X.ex, b ≠ X.env.locals ∧ ∀ x c, X.env.cells.lookup x = some c → c ≠ b
  bs : ∀ b o, X.base.get? b = some o → X.s₀.heap.get? b = some o ∧ X.H₀ b = none
  bsz : X.base.objs.size ≤ X.s₀.heap.objs.size
  noex : ∀ b o, X.base.get? b = some o → b ∉ X.ex
  exfs : ∀ b ∈ X.ex, b ∉ X.fs
  funs : X.s₀.heap.FunFrames X.base X.outer
  frf : ∀ b ∈ X.fs, X.H₀ b = none

structure Inv (X : Cx) (pins : List (Addr × Obj)) (σ : List (Option V)) (H : Hp) (s : Shared) : Prop where
  ok : X.Ok
  os : s.os = X.s₀.os
  bare : AllBare s.gens
  base : Un X.fs X.ex X.H₀ H X.s₀.heap s.heap
  loc : ∃ m, s.heap.Ns X.env.locals m ∧ ∀ (i : Nat) (x : Str) (v : V), X.N[i]? = some x → σ[i]? = some (some v) → Vis X.env.scope x → ∃ u, RelV v u ∧ Look X.env s.heap m x u
  cell : ∀ x c, X.env.cells.lookup x = some c → ∃ v, s.heap.IsCell c v
  free : H X.env.locals = none
  freeC : ∀ x c, X.env.cells.lookup x = some c → H c = none
  pin : ∀ p ∈ X.pn ++ pins, s.heap.get? p.1 = some p.2 ∧ H p.1 = none ∧ p.1 ≠ X.env.locals ∧ p.1 ∉ X.fs ∧ ∀ v, p.2.data ≠ .cell v
  hok : HOk X.prog X.w H s.heap
  len : σ.length = X.N.length

section
variable {X : Cx} {pins : List (Addr × Obj)} {σ : List (Option V)} {H H' : Hp} {s : Shared} {h' : Heap}

theorem Cx.Ok.nofr (ok : X.Ok) {b : Addr} {o : Obj} (e : X.base.get? b = some o) : b ∉ X.fs := fun hb => by
  have := (ok.funs.mem hb).1
  rw [e] at this; cases this
theorem Inv.bs (I : Inv X pins σ H s) : ∀ b o, X.base.get? b = some o → s.heap.get? b = some o ∧ H b = none := fun b o e =>
  ⟨I.base.keep b o (I.ok.bs b o e).1 (I.ok.bs b o e).2 (I.ok.nofr e) (I.ok.noex b o e), I.base.free b o (I.ok.bs b o e).1 (I.ok.bs b o e).2 (I.ok.noex b o e)⟩
theorem Inv.bk (I : Inv X pins σ H s) : ∀ b o, X.base.get? b = some o → s.heap.get? b = some o := fun b o e => (I.bs b o e).1
theorem Inv.mod (I : Inv X pins σ H s) : Mod X.K X.mg X.base := I.ok.mod
theorem Inv.kIn (I : Inv X pins σ H s) : X.K.In s.heap := I.ok.mod.kin.keeps I.bk
/-- the frame over the base: for OpenK's rules (K.In X.base is I.mod.kin) -/
theorem Inv.fr (I : Inv X pins σ H s) : ∃ m, Fr X.base X.env.locals s.heap m :=
  let ⟨m, hn, _⟩ := I.loc
  ⟨m, hn, I.bk, Nat.le_trans I.ok.bsz I.ok.above⟩
theorem Inv.lt (I : Inv X pins σ H s) : X.env.locals < s.heap.objs.size := let ⟨_, hn, _⟩ := I.loc; hn.lt
theorem Inv.sz (I : Inv X pins σ H s) : X.s₀.heap.objs.size ≤ s.heap.objs.size := Nat.le_trans I.ok.above (Nat.le_of_lt I.lt)
theorem Inv.nofs (I : Inv X pins σ H s) {a : Addr} (h : s.heap.objs.size ≤ a) : a ∉ X.fs := fun hb => by
  obtain ⟨_, o, ho, _⟩ := I.ok.funs.mem hb
  exact absurd (Nat.lt_of_lt_of_le (Heap.lt_size ho) (Nat.le_trans I.sz h)) (Nat.lt_irrefl _)
theorem Inv.cne (I : Inv X pins σ H s) : ∀ x c, X.env.cells.lookup x = some c → c ≠ X.env.locals := fun x c e z => by
  obtain ⟨v, o, ho, hd⟩ := I.cell x c e
  obtain ⟨m, ⟨o', es, ep, ho', hd', _⟩, _⟩ := I.loc
  rw [z, ho'] at ho; cases ho; rw [hd'] at hd; cases hd
theorem Inv.funs (I : Inv X pins σ H s) : s.heap.FunFrames X.base X.outer := by
  have all : ∀ (l : List Env), (∀ b ∈ frs l, b ∈ X.fs) → X.s₀.heap.FunFrames X.base l → s.heap.FunFrames X.base l := by
    intro l
    induction l with
    | nil => intro _ _; trivial
    | cons env r ih =>
      intro hs hl
      obtain ⟨hk, ⟨L, o, hf, hn, ho, hd⟩, hr⟩ := hl
      have hL : L ∈ X.fs := hs L (by unfold frs; rw [List.filterMap_cons, hf]; exact List.mem_cons_self)
      obtain ⟨sl, e⟩ := I.base.slot L o ho (I.ok.frf L hL) hL fun z => I.ok.exfs L z hL
      exact ⟨hk, ⟨L, _, hf, hn, e, hd⟩, ih (fun b hb => hs b (by unfold frs; rw [List.filterMap_cons, hf]; exact List.mem_cons_of_mem _ hb)) hr⟩
  exact all X.outer (fun _ hb => hb) I.ok.funs

/-- the frames that run, for a call -/
theorem Inv.stack (I : Inv X pins σ H s) : s.heap.FunFrames X.base X.stack := by
  rcases I.ok.stk with e | ⟨e, hf⟩
  · rw [e]; exact I.funs
  · rw [e]
    obtain ⟨m, hn, _⟩ := I.loc
    refine .cons (by rw [I.ok.kind]; decide) hf hn ?_ I.funs
    exact Heap.get?_none_of_le (Nat.le_trans I.ok.bsz I.ok.above)
theorem Inv.stkSub (I : Inv X pins σ H s) : ∀ b ∈ frs X.stack, b ∈ X.env.locals :: X.fs := fun b hb => by
  rcases I.ok.stk with e | ⟨e, hf⟩
  · rw [e] at hb; exact List.mem_cons_of_mem _ hb
  · rw [e] at hb
    unfold frs at hb
    rw [List.filterMap_cons, hf] at hb
    exact hb
theorem Inv.stkFree (I : Inv X pins σ H s) : ∀ b ∈ frs X.stack, H b = none := fun b hb => by
  rcases List.mem_cons.mp (I.stkSub b hb) with e | hb
  · rw [e]; exact I.free
  · obtain ⟨_, o, ho, _⟩ := I.ok.funs.mem hb
    exact I.base.free b o ho (I.ok.frf b hb) fun z => I.ok.exfs b z hb

/-- THE STEP: the untracked objects but the frame and the records at ch are kept (the callers' frames up to slots), the frame's map is kept, the new abstract heap is held -/
theorem Inv.step {g' : Array GenState} {t' : Nat} {d' : Drawn} {ch : List Addr} (I : Inv X pins σ H s)
    (hch : ∀ b ∈ ch, (b ∈ X.ex ∨ X.s₀.heap.objs.size ≤ b) ∧ b ≠ X.env.locals ∧ (∀ x c, X.env.cells.lookup x = some c → c ≠ b) ∧ ∀ p ∈ X.pn ++ pins, p.1 ≠ b)
    (keep : ∀ b o, b ≠ X.env.locals → b ∉ X.fs → b ∉ ch → s.heap.get? b = some o → H b = none → h'.get? b = some o)
    (slot : ∀ b o, b ≠ X.env.locals → b ∈ X.fs → b ∉ ch → s.heap.get? b = some o → H b = none → ∃ sl, h'.get? b = some { o with slots := sl }) (free : ∀ b o, b ∉ ch → s.heap.get? b = some o → H b = none → H' b = none)
    (there : ∀ b o, b ∉ ch → s.heap.get? b = some o → ∃ o', h'.get? b = some o')
    (tups : ∀ b xs, H b = some (.tup xs) → H' b = some (.tup xs)) (frzs : ∀ b o u, H b = some (.frz o u) → H' b = some (.frz o u)) (tbls : ∀ b ps, H b = some (.tbl ps) → ∃ more, H' b = some (.tbl (ps ++ more)))
    (ns : ∀ m, s.heap.Ns X.env.locals m → h'.Ns X.env.locals m) (hok : HOk X.prog X.w H' h') (hg : AllBare g') :
    Inv X pins σ H' { s with heap := h', gens := g', drawn := d', toks := t' } := by
  have neL : ∀ b o, X.s₀.heap.get? b = some o → b ≠ X.env.locals := fun b o e => Nat.ne_of_lt (Nat.lt_of_lt_of_le (Heap.lt_size e) I.ok.above)
  have neC : ∀ b o, X.s₀.heap.get? b = some o → b ∉ X.ex → b ∉ ch := fun b o e hx hb => by
    rcases (hch b hb).1 with z | z
    · exact hx z
    · exact absurd (Nat.lt_of_lt_of_le (Heap.lt_size e) z) (Nat.lt_irrefl _)
  have cellK : ∀ x c, X.env.cells.lookup x = some c → ∀ v, s.heap.IsCell c v → h'.IsCell c v := fun x c e v ⟨o, ho, hd⟩ => by
    have nch : c ∉ ch := fun z => (hch c z).2.2.1 x c e rfl
    by_cases hc : c ∈ X.fs
    · obtain ⟨sl, q⟩ := slot c o (I.cne x c e) hc nch ho (I.freeC x c e)
      exact ⟨_, q, hd⟩
    · exact ⟨o, keep c o (I.cne x c e) hc nch ho (I.freeC x c e), hd⟩
  refine ⟨I.ok, I.os, hg, ⟨fun b o e n hb hx => ?_, fun b o e n hb hx => ?_, fun b o e n hx => ?_, fun b o e hx => ?_, fun b xs e => tups b xs (I.base.tups b xs e), fun b o xs e => frzs b o xs (I.base.frzs b o xs e), fun b ps e => ?_⟩, ?_, fun x c e => ?_, ?_, fun x c e => ?_, fun p hp => ?_, hok, I.len⟩
  · exact keep b o (neL b o e) hb (neC b o e hx) (I.base.keep b o e n hb hx) (I.base.free b o e n hx)
  · obtain ⟨sl, e1⟩ := I.base.slot b o e n hb hx
    obtain ⟨sl', e2⟩ := slot b _ (neL b o e) hb (neC b o e hx) e1 (I.base.free b o e n hx)
    exact ⟨sl', e2⟩
  · obtain ⟨o', e1⟩ := I.base.there b o e hx
    exact free b o' (neC b o e hx) e1 (I.base.free b o e n hx)
  · obtain ⟨o', e1⟩ := I.base.there b o e hx
    exact there b o' (neC b o e hx) e1
  · obtain ⟨m1, e1⟩ := I.base.tbls b ps e
    obtain ⟨m2, e2⟩ := tbls b _ e1
    exact ⟨m1 ++ m2, by rw [e2, Array.append_assoc]⟩
  · obtain ⟨m, hn, hl⟩ := I.loc
    refine ⟨m, ns m hn, fun i x v e1 e2 e3 => ?_⟩
    obtain ⟨u, r, l⟩ := hl i x v e1 e2 e3
    refine ⟨u, r, ?_⟩
    rcases l with l | ⟨k, c, e, z⟩
    · exact .inl l
    · exact .inr ⟨k, c, e, cellK x c e _ z⟩
  · obtain ⟨v, z⟩ := I.cell x c e
    exact ⟨v, cellK x c e v z⟩
  · obtain ⟨m, ⟨o, _, _, ho, _⟩, _⟩ := I.loc
    exact free _ o (fun z => (hch _ z).2.1 rfl) ho I.free
  · obtain ⟨v, o, ho, hd⟩ := I.cell x c e
    exact free c o (fun z => (hch c z).2.2.1 x c e rfl) ho (I.freeC x c e)
  · obtain ⟨e, n, ne, nf, d⟩ := I.pin p hp
    have nch : p.1 ∉ ch := fun z => (hch p.1 z).2.2.2 p hp rfl
    exact ⟨keep p.1 p.2 ne nf nch e n, free p.1 p.2 nch e n, ne, nf, d⟩
/-- .. where the frame's own object is kept too -/
theorem Inv.un {t' : Nat} (I : Inv X pins σ H s) (u : Un X.fs [] H H' s.heap h') (hok : HOk X.prog X.w H' h') : Inv X pins σ H' { s with heap := h', toks := t' } := by
  obtain ⟨m, ⟨o, es, ep, ho, r⟩, _⟩ := id I.loc
  obtain ⟨sl, hL⟩ := u.any ho I.free (by simp)
  exact I.step (g' := s.gens) (d' := s.drawn) (ch := []) (fun _ z => nomatch z) (fun b o _ hb _ e n => u.keep b o e n hb (by simp)) (fun b o _ hb _ e n => u.slot b o e n hb (by simp)) (fun b o _ e n => u.free b o e n (by simp)) (fun b o _ e => u.there b o e (by simp)) u.tups u.frzs u.tbls (fun m' hm => by
    obtain ⟨o', es', ep', ho', r'⟩ := hm
    rw [ho] at ho'; cases ho'
    exact ⟨_, es', ep', hL, r'⟩) hok I.bare
/-- behind a call (or a comprehension's block): the slots of this frame may have changed too, the records at ch may have turned -/
theorem Inv.call {g' : Array GenState} {t' : Nat} {d' : Drawn} {ch : List Addr} (I : Inv X pins σ H s) (u : Un (frs X.stack) ch H H' s.heap h') (hok : HOk X.prog X.w H' h') (hg : AllBare g')
    (hch : ∀ b ∈ ch, (b ∈ X.ex ∨ X.s₀.heap.objs.size ≤ b) ∧ b ≠ X.env.locals ∧ (∀ x c, X.env.cells.lookup x = some c → c ≠ b) ∧ ∀ p ∈ X.pn ++ pins, p.1 ≠ b) :
    Inv X pins σ H' { s with heap := h', gens := g', drawn := d', toks := t' } := by
  obtain ⟨m, ⟨o, es, ep, ho, r⟩, _⟩ := id I.loc
  obtain ⟨sl, hL⟩ := u.any ho I.free fun z => (hch _ z).2.1 rfl
  exact I.step (ch := ch) hch (fun b o hL hb hc e n => u.keep b o e n (fun z => (List.mem_cons.mp (I.stkSub b z)).elim hL hb) hc) (fun b o _ _ hc e n => u.any e n hc) (fun b o hc e n => u.free b o e n hc) (fun b o hc e => u.there b o e hc) u.tups u.frzs u.tbls (fun m' hm => by
    obtain ⟨o', es', ep', ho', r'⟩ := hm
    rw [ho] at ho'; cases ho'
    exact ⟨_, es', ep', hL, r'⟩) hok hg
/-- an untracked record of ours (an iterator) has turned -/
theorem Inv.turned {t' : Nat} {it : Addr} (I : Inv X pins σ H s) (k : ∀ b o, b ≠ it → s.heap.get? b = some o → h'.get? b = some o) (hn : H it = none) (hL : it ≠ X.env.locals)
    (h1 : it ∈ X.ex ∨ X.s₀.heap.objs.size ≤ it) (h2 : ∀ x c, X.env.cells.lookup x = some c → c ≠ it) (h3 : ∀ p ∈ X.pn ++ pins, p.1 ≠ it) : Inv X pins σ H { s with heap := h', toks := t' } := by
  have nit : ∀ b u, H b = some u → b ≠ it := fun b u e z => by rw [z, hn] at e; cases e
  refine I.step (g' := s.gens) (d' := s.drawn) (ch := [it]) (fun b hb => ?_) (fun b o _ _ hc e _ => k b o (fun z => hc (by simp [z])) e) (fun b o _ _ hc e _ => ⟨o.slots, k b o (fun z => hc (by simp [z])) e⟩) (fun _ _ _ _ n => n)
    (fun b o hc e => ⟨o, k b o (fun z => hc (by simp [z])) e⟩) (fun _ _ e => e) (fun _ _ _ e => e) (fun b ps e => ⟨#[], by rw [e]; simp⟩) (fun m hm => ?_) (fun b u e => ?_) I.bare
  · have e : b = it := by simpa using hb
    subst e
    exact ⟨h1, hL, h2, h3⟩
  · obtain ⟨o, es, ep, ho, r⟩ := hm
    exact ⟨o, es, ep, k _ o (Ne.symm hL) ho, r⟩
  · refine (I.hok b u e).stay (fun c v hc q => k c v ?_ q) (fun _ q => q) fun _ _ q => q
    rcases hc with z | z
    · rw [z]; exact nit b u e
    · exact nit c _ z
theorem Inv.tok (I : Inv X pins σ H s) (t : Nat) : Inv X pins σ H { s with toks := t } := I.un (h' := s.heap) (t' := t) Un.refl I.hok
/-- all objects kept -/
theorem Inv.kept {t' : Nat} (I : Inv X pins σ H s) (k : ∀ b u, s.heap.get? b = some u → h'.get? b = some u) : Inv X pins σ H { s with heap := h', toks := t' } := I.un (Un.kept k) (I.hok.kept k)
/-- a new object laid and tracked -/
theorem Inv.laid {a : Addr} {o : HO} {t' : Nat} (I : Inv X pins σ H s) (k : ∀ b u, s.heap.get? b = some u → h'.get? b = some u) (hp : s.heap.objs.size ≤ a) (new : ObjOk X.prog X.w (upd H a o) h' a o) :
    Inv X pins σ (upd H a o) { s with heap := h', toks := t' } := I.un (Un.laid k hp (I.hok.fresh hp)) (I.hok.laid k hp new)
/-- an object written -/
theorem Inv.write {x e : Addr} {o : HO} {t' : Nat} (I : Inv X pins σ H s) (mu : Mut (H x)) (he : e = x ∨ H e = some (.own x)) (k : ∀ b u, b ≠ e → s.heap.get? b = some u → h'.get? b = some u) (heo : ∃ u, h'.get? e = some u)
    (new : ObjOk X.prog X.w (upd H x o) h' x o) : Inv X pins σ (upd H x o) { s with heap := h', toks := t' } := I.un (Un.write mu he k heo) (I.hok.write mu he k heo new)
/-- forgetting slots, pins -/
theorem Inv.weak {σ' : List (Option V)} (I : Inv X pins σ H s) (hl : σ'.length = σ.length) (w : ∀ (i : Nat) v, σ'[i]? = some (some v) → σ[i]? = some (some v)) : Inv X pins σ' H s :=
  ⟨I.ok, I.os, I.bare, I.base, let ⟨m, hn, hl'⟩ := I.loc; ⟨m, hn, fun i x v e1 e2 e3 => hl' i x v e1 (w i v e2) e3⟩, I.cell, I.free, I.freeC, I.pin, I.hok, hl.trans I.len⟩
theorem Inv.pins_of {pins' : List (Addr × Obj)} (I : Inv X pins σ H s) (h : ∀ p ∈ pins', s.heap.get? p.1 = some p.2 ∧ H p.1 = none ∧ p.1 ≠ X.env.locals ∧ p.1 ∉ X.fs ∧ ∀ v, p.2.data ≠ .cell v) : Inv X pins' σ H s :=
  ⟨I.ok, I.os, I.bare, I.base, I.loc, I.cell, I.free, I.freeC, fun p hp => (List.mem_append.mp hp).elim (fun z => I.pin p (List.mem_append_left _ z)) (h p), I.hok, I.len⟩

theorem nodup_ix {N : List Str} (hN : N.Nodup) {i j : Nat} {x : Str} (a : N[i]? = some x) (b : N[j]? = some x) : i = j := by
  obtain ⟨h1, e1⟩ := List.getElem?_eq_some_iff.mp a
  obtain ⟨h2, e2⟩ := List.getElem?_eq_some_iff.mp b
  exact (List.getElem_inj hN).mp (e1.trans e2.symm)

/-- a name is stored; what changed -/
theorem store_ok2 {M : Model} {A : Around} {E : Value → Shared → Prop} {i : Nat} {x : Str} {v : V} {u : Value} {Q : Unit → Shared → Prop} (I : Inv X pins σ H s) (hN : X.N.Nodup) (hi : X.N[i]? = some x) (hx : Loc X.env.scope x) (r : RelV v u)
    (h : ∀ s', Inv X pins (σ.set i (some v)) H s' → (∃ a, Heap.SameBut a s.heap s'.heap ∧ (a = X.env.locals ∨ X.env.cells.lookup x = some a)) → Q () s') (hf : X.fn x = true ∨ X.env.scope.names.lookup x = some .local := by first | exact .inl rfl | exact .inr rfl | assumption) : wpAny M A (storeName X.env x u) Q E s := by
  obtain ⟨m, hn, hl⟩ := id I.loc
  have hcls : (X.env.scope.kind == .class || (X.env.scope.kind == .module && X.env.locals != X.env.globals)) = false := by rw [I.ok.kind]; rfl
  have hiσ : i < σ.length := by rw [I.len]; exact (List.getElem?_eq_some_iff.mp hi).1
  have cne := I.cne
  have tracked : ∀ {a : Addr} {h' : Heap}, (∃ o, s.heap.get? a = some o ∧ H a = none) → Heap.SameBut a s.heap h' → HOk X.prog X.w H h' := fun {a h'} ha hs b ob e => by
    obtain ⟨_, _, hfree⟩ := ha
    refine (I.hok b ob e).stay (fun c w' hc q => (hs.2 c ?_).trans q) (fun _ q => q) fun _ _ q => q
    rintro rfl
    rcases hc with rfl | hc
    · rw [hfree] at e; cases e
    · rw [hfree] at hc; cases hc
  rcases hx with hk | hk
  · refine wpAny_storeName_local hk hn (fun h' hn' hs => ?_) hcls
    obtain ⟨oL, _, _, hoL, _⟩ := id hn
    refine h _ ⟨I.ok, I.os, I.bare, ⟨fun b o e n hb hx => ?_, fun b o e n hb hx => ?_, I.base.free, fun b o e hx => ?_, I.base.tups, I.base.frzs, I.base.tbls⟩, ⟨_, hn', fun j y v' e1 e2 e3 => ?_⟩, fun y c e => ?_, I.free, I.freeC, fun p hp => ?_, tracked ⟨oL, hoL, I.free⟩ hs, by simpa using I.len⟩ ⟨_, hs, .inl rfl⟩
    · exact (hs.2 b (Nat.ne_of_lt (Nat.lt_of_lt_of_le (Heap.lt_size e) I.ok.above))).trans (I.base.keep b o e n hb hx)
    · obtain ⟨sl, e1⟩ := I.base.slot b o e n hb hx
      exact ⟨sl, (hs.2 b (Nat.ne_of_lt (Nat.lt_of_lt_of_le (Heap.lt_size e) I.ok.above))).trans e1⟩
    · obtain ⟨o', e1⟩ := I.base.there b o e hx
      exact ⟨o', (hs.2 b (Nat.ne_of_lt (Nat.lt_of_lt_of_le (Heap.lt_size e) I.ok.above))).trans e1⟩
    · by_cases hj : j = i
      · subst hj
        rw [hi] at e1; cases e1
        rw [List.getElem?_set_self hiσ] at e2
        cases e2
        exact ⟨u, r, .inl ⟨hk, by simp⟩⟩
      · rw [List.getElem?_set_ne (Ne.symm hj)] at e2
        obtain ⟨u', r', q⟩ := hl j y v' e1 e2 e3
        refine ⟨u', r', ?_⟩
        rcases q with ⟨k, e⟩ | ⟨k, c, e, z⟩
        · refine .inl ⟨k, ?_⟩
          have : y ≠ x := fun e => hj (nodup_ix hN e1 (e ▸ hi))
          simp [this, e]
        · exact .inr ⟨k, c, e, z.sameBut hs (cne y c e)⟩
    · obtain ⟨w', z⟩ := I.cell y c e
      exact ⟨w', z.sameBut hs (cne y c e)⟩
    · obtain ⟨e, n, ne, nf, d⟩ := I.pin p hp
      exact ⟨(hs.2 p.1 ne).trans e, n, ne, nf, d⟩
  · have hfn : X.fn x = true := by
      rcases hf with z | z
      · exact z
      · rw [z] at hk; cases hk
    obtain ⟨c, hc⟩ := I.ok.has x (.inl hk)
    obtain ⟨w', z⟩ := I.cell x c hc
    refine wpAny_storeName_cell I.ok.kind hk hc z (fun h' hc' hs => ?_)
    obtain ⟨oc, hoc, hocd⟩ := id z
    refine h { s with heap := h' } ⟨I.ok, I.os, I.bare, ⟨fun b o e n hb hx => ?_, fun b o e n hb hx => ?_, I.base.free, fun b o e hx => ?_, I.base.tups, I.base.frzs, I.base.tbls⟩, ⟨m, hn.sameBut hs (Ne.symm (cne x c hc)), fun j y v' e1 e2 e3 => ?_⟩, fun y c' e => ?_, I.free, I.freeC, fun p hp => ?_, tracked ⟨oc, hoc, I.freeC x c hc⟩ hs, by simpa using I.len⟩ ⟨c, hs, .inr hc⟩
    · exact (hs.2 b (Nat.ne_of_lt (Nat.lt_of_lt_of_le (Heap.lt_size e) (I.ok.cab x c hfn hc)))).trans (I.base.keep b o e n hb hx)
    · obtain ⟨sl, e1⟩ := I.base.slot b o e n hb hx
      exact ⟨sl, (hs.2 b (Nat.ne_of_lt (Nat.lt_of_lt_of_le (Heap.lt_size e) (I.ok.cab x c hfn hc)))).trans e1⟩
    · obtain ⟨o', e1⟩ := I.base.there b o e hx
      exact ⟨o', (hs.2 b (Nat.ne_of_lt (Nat.lt_of_lt_of_le (Heap.lt_size e) (I.ok.cab x c hfn hc)))).trans e1⟩
    · by_cases hj : j = i
      · subst hj
        rw [hi] at e1; cases e1
        rw [List.getElem?_set_self hiσ] at e2
        cases e2
        exact ⟨u, r, .inr ⟨.inl hk, c, hc, hc'⟩⟩
      · rw [List.getElem?_set_ne (Ne.symm hj)] at e2
        obtain ⟨u', r', q⟩ := hl j y v' e1 e2 e3
        refine ⟨u', r', ?_⟩
        rcases q with q | ⟨k, c', e, z'⟩
        · exact .inl q
        · refine .inr ⟨k, c', e, z'.sameBut hs ?_⟩
          rintro rfl
          exact hj (nodup_ix hN e1 (I.ok.inj _ _ _ e hc ▸ hi))
    · by_cases hcc : c' = c
      · subst hcc; exact ⟨_, hc'⟩
      · obtain ⟨w2, z2⟩ := I.cell y c' e
        exact ⟨w2, z2.sameBut hs hcc⟩
    · obtain ⟨e, n, ne, nf, d⟩ := I.pin p hp
      refine ⟨(hs.2 p.1 ?_).trans e, n, ne, nf, d⟩
      intro q
      rw [q, hoc] at e
      have q' : oc = p.2 := Option.some.inj e
      exact d w' (by rw [← q']; exact hocd)
theorem store_ok {M : Model} {A : Around} {E : Value → Shared → Prop} {i : Nat} {x : Str} {v : V} {u : Value} {Q : Unit → Shared → Prop} (I : Inv X pins σ H s) (hN : X.N.Nodup) (hi : X.N[i]? = some x) (hx : Loc X.env.scope x) (r : RelV v u)
    (h : ∀ s', Inv X pins (σ.set i (some v)) H s' → Q () s') (hf : X.fn x = true ∨ X.env.scope.names.lookup x = some .local := by first | exact .inl rfl | exact .inr rfl | assumption) : wpAny M A (storeName X.env x u) Q E s :=
  store_ok2 I hN hi hx r (fun s' I' _ => h s' I') hf
/-- behind a call or a block, the state as it is -/
theorem Inv.call' {s' : Shared} {ch : List Addr} (I : Inv X pins σ H s) (ho : s'.os = s.os) (u : Un (frs X.stack) ch H H' s.heap s'.heap) (hok : HOk X.prog X.w H' s'.heap) (hg : AllBare s'.gens)
    (hch : ∀ b ∈ ch, (b ∈ X.ex ∨ X.s₀.heap.objs.size ≤ b) ∧ b ≠ X.env.locals ∧ (∀ x c, X.env.cells.lookup x = some c → c ≠ b) ∧ ∀ p ∈ X.pn ++ pins, p.1 ≠ b) : Inv X pins σ H' s' := by
  obtain ⟨h', g', d', t', o'⟩ := s'
  have e : o' = s.os := ho
  subst e
  exact I.call (g' := g') (t' := t') (d' := d') u hok hg hch
end

/-! ### the judgements -/
/-- an exception: its class, its own dict's address (where it has one), the abstract heap behind it -/
abbrev XK := Value → Option Addr → Hp → Prop
abbrev St := List (Option V)
abbrev VK := V → Hp → Prop
/-- an expression's reading; a test's; an argument list's -/
abbrev TE := St → Hp → VK → Prop
abbrev TT := St → Hp → (Bool → Hp → Prop) → Prop
abbrev TA := St → Hp → (List V → Hp → Prop) → Prop
/-- what is wanted behind a statement -/
structure Ends where
  nx : St → Hp → Prop
  rt : VK
  bk : St → Hp → Prop := fun _ _ => False
  ct : St → Hp → Prop := fun _ _ => False
abbrev TS := Ends → St → Hp → Prop

def EP (X : Cx) (pins : List (Addr × Obj)) (σ : St) (Q : VK) (u : Value) (s' : Shared) : Prop := ∃ v H', Inv X pins σ H' s' ∧ RelV v u ∧ Q v H'
def TP (X : Cx) (pins : List (Addr × Obj)) (σ : St) (Q : Bool → Hp → Prop) (b : Bool) (s' : Shared) : Prop := ∃ H', Inv X pins σ H' s' ∧ Q b H'
def AP (X : Cx) (pins : List (Addr × Obj)) (σ : St) (Q : List V → Hp → Prop) (us : List Value) (s' : Shared) : Prop := ∃ vs H', Inv X pins σ H' s' ∧ Vals vs us ∧ Q vs H'
def SP (X : Cx) (pins : List (Addr × Obj)) (D : Ends) (f : Flow) (s' : Shared) : Prop :=
  match f with
  | .next => ∃ σ' H', Inv X pins σ' H' s' ∧ D.nx σ' H'
  | .brk => ∃ σ' H', Inv X pins σ' H' s' ∧ D.bk σ' H'
  | .cont => ∃ σ' H', Inv X pins σ' H' s' ∧ D.ct σ' H'
  | .ret u => ∃ v σ' H', Inv X pins σ' H' s' ∧ RelV v u ∧ D.rt v H'

def PE (X : Cx) (e : Expr) (t : TE) : Prop :=
  ∀ (pins : List (Addr × Obj)) (s : Shared) (σ : St) (H : Hp) (Q : VK), Inv X pins σ H s → t σ H Q → wpAny (model X.prog X.w) X.A (eval e X.env) (EP X pins σ Q) X.xe s
def PT (X : Cx) (e : Expr) (t : TT) : Prop :=
  ∀ (pins : List (Addr × Obj)) (s : Shared) (σ : St) (H : Hp) (Q : Bool → Hp → Prop), Inv X pins σ H s → t σ H Q → wpAny (model X.prog X.w) X.A (isTrue e X.env (eval e X.env)) (TP X pins σ Q) X.xe s
/-- a test whatever its 'whole' is (and, or) -/
def PW (X : Cx) (e : Expr) (t : TT) : Prop :=
  ∀ (whole : Sem Value) (pins : List (Addr × Obj)) (s : Shared) (σ : St) (H : Hp) (Q : Bool → Hp → Prop), Inv X pins σ H s → t σ H Q → wpAny (model X.prog X.w) X.A (isTrue e X.env whole) (TP X pins σ Q) X.xe s
theorem PW.pt {X : Cx} {e : Expr} {t : TT} (h : PW X e t) : PT X e t := h _
/-- an argument list (no star), from the left -/
def PA (X : Cx) (es : List Expr) (t : TA) : Prop :=
  ∀ (pos : Pos) (pins : List (Addr × Obj)) (s : Shared) (σ : St) (H : Hp) (Q : List V → Hp → Prop), Inv X pins σ H s → t σ H Q → wpAny (model X.prog X.w) X.A (spliced (backTo pos (starEach es X.env))) (AP X pins σ Q) X.xe s
def PS (X : Cx) (st : Stmt) (t : TS) : Prop :=
  ∀ (pins : List (Addr × Obj)) (s : Shared) (σ : St) (H : Hp) (D : Ends), Inv X pins σ H s → t D σ H → wpAny (model X.prog X.w) X.A (exec st X.env) (SP X pins D) X.xe s
def PSs (X : Cx) (st : List Stmt) (t : TS) : Prop :=
  ∀ (pins : List (Addr × Obj)) (s : Shared) (σ : St) (H : Hp) (D : Ends), Inv X pins σ H s → t D σ H → wpAny (model X.prog X.w) X.A (execs st X.env) (SP X pins D) X.xe s
/-- weaken the end -/
theorem thn {α : Type} {t : Sem α} {Q Q' : α → Shared → Prop} {M : Model} {A : Around} {E : Value → Shared → Prop} {s : Shared} (h : wpAny M A t Q E s) (hQ : ∀ a s, Q a s → Q' a s) : wpAny M A t Q' E s := wpAny_mono h hQ fun _ _ x => x
end L2

namespace L2
open PySem PySem.Spec PyProof.Rows
section
variable {X : Cx}

/-- two expressions in a row -/
theorem bin {a b : Expr} {ta tb : TE} (ha : PE X a ta) (hb : PE X b tb) {pins : List (Addr × Obj)} {s : Shared} {σ : St} {H : Hp} {R : V → V → Hp → Prop} (I : Inv X pins σ H s) (h : ta σ H fun x H1 => tb σ H1 fun y H2 => R x y H2)
    {α : Type} {Q : α → Shared → Prop} {f : Value → Value → Sem α}
    (hf : ∀ v u s2 x y H2, Inv X pins σ H2 s2 → RelV x v → RelV y u → R x y H2 → wpAny (model X.prog X.w) X.A (f v u) Q X.xe s2) :
    wpAny (model X.prog X.w) X.A (eval a X.env) (fun v s₁ => wpAny (model X.prog X.w) X.A (eval b X.env) (fun u s₂ => wpAny (model X.prog X.w) X.A (f v u) Q X.xe s₂) X.xe s₁) X.xe s := by
  refine thn (ha pins s σ H _ I h) fun v s1 ⟨x, H1, I1, r1, q1⟩ => ?_
  refine thn (hb pins s1 σ H1 _ I1 q1) fun u s2 ⟨y, H2, I2, r2, q2⟩ => ?_
  exact hf v u s2 x y H2 I2 r1 r2 q2

/-! ### names and constants -/
def tVar (i : Nat) : TE := fun σ H Q => ∃ v, σ[i]? = some (some v) ∧ Q v H
def tC (v : V) : TE := fun _ H Q => Q v H
theorem pe_var {i : Nat} {x : Str} {pos : Pos} (hN : X.N[i]? = some x) (hv : Vis X.env.scope x) (hd : (x == ("__debug__" : Str)) = false := by decide) (hcd : (x == ("__classdict__" : Str)) = false := by decide) : PE X (.Name x pos) (tVar i) := by
  intro pins s σ H Q I h
  obtain ⟨v, e, h⟩ := h
  obtain ⟨m, hn, hl⟩ := I.loc
  obtain ⟨u, r, l⟩ := hl i x v hN e hv
  have fin : EP X pins σ Q u s := ⟨v, H, I, r, h⟩
  rcases l with ⟨hk, hm⟩ | ⟨hk, c, hc, hcell⟩
  · exact wpAny_Name (wpAny_loadName_local I.ok.kind hk hn hm fin) hd
  · rcases hk with hk | hk
    · exact wpAny_Name (wpAny_loadName_cell I.ok.kind hk hc hcell fin) hd
    · exact wpAny_Name (wpAny_loadName_free I.ok.kind hk hc hcell fin hcd) hd
theorem pe_int {i j pos} : PE X (.Constant (.int i) j pos) (tC (.int i)) := fun _ _ _ H _ I h => wpAny_Constant_int ⟨.int i, H, I.tok _, ⟨_, rfl⟩, h⟩
theorem pe_bl {b j pos} : PE X (.Constant (.bool b) j pos) (tC (.bl b)) := fun _ _ _ H _ I h => Constant_bool ⟨.bl b, H, I, rfl, h⟩
theorem pe_non {j pos} : PE X (.Constant .none j pos) (tC .non) := fun _ _ _ H _ I h => Constant_none ⟨.non, H, I, rfl, h⟩
theorem pe_str {x j pos} : PE X (.Constant (.str x) j pos) (tC (.str x)) := fun _ _ _ H _ I h => Calls.Constant_str ⟨.str x, H, I.tok _, ⟨_, rfl⟩, h⟩

/-- a global name of the def -/
def Gl (X : Cx) (x : Str) : Prop := X.env.kindOf x = some .globalImplicit
theorem ld_glob {E : Value → Shared → Prop} {pins : List (Addr × Obj)} {s : Shared} {σ : St} {H : Hp} {x : Str} {u : Value} {pos : Pos} {Q : Value → Shared → Prop} (I : Inv X pins σ H s) (hg : Gl X x) (hm : X.mg x = some u) (h : Q u s)
    (hd : (x == ("__debug__" : Str)) = false := by decide) : wpAny (model X.prog X.w) X.A (eval (.Name x pos) X.env) Q E s :=
  Calls.Name_function_global I.ok.kind hg (Calls.loadGlobal_global (by rw [I.ok.glob]; exact I.mod.glob.keeps I.bk) hm h) hd
theorem ld_blt {E : Value → Shared → Prop} {pins : List (Addr × Obj)} {s : Shared} {σ : St} {H : Hp} {x : Str} {u : Value} {pos : Pos} {Q : Value → Shared → Prop} (I : Inv X pins σ H s) (hg : Gl X x) (hm : X.mg x = none) (hv : bootBuiltins x = some u) (h : Q u s)
    (hn : x ≠ "__name__" := by decide) (hd : (x == ("__debug__" : Str)) = false := by decide) : wpAny (model X.prog X.w) X.A (eval (.Name x pos) X.env) Q E s := by
  obtain ⟨mb, h1, h2⟩ := I.mod.blt
  exact Calls.Name_function_global I.ok.kind hg (Calls.loadGlobal_builtin (by rw [I.ok.glob]; exact I.mod.glob.keeps I.bk) hm (by rw [I.ok.blt]; exact h1.keeps I.bk) ((h2 x hn).trans hv) h) hd
/-- a module's constant, a class, a function, as a value -/
theorem pe_glob {x : Str} {v : V} {u : Value} {pos : Pos} (hg : Gl X x) (hm : X.mg x = some u) (r : RelV v u) (hd : (x == ("__debug__" : Str)) = false := by decide) : PE X (.Name x pos) (tC v) :=
  fun _ _ _ H _ I h => ld_glob I hg hm ⟨v, H, I, r, h⟩ hd
theorem pe_bltn {x : Str} {v : V} {u : Value} {pos : Pos} (hg : Gl X x) (hm : X.mg x = none) (hv : bootBuiltins x = some u) (r : RelV v u) (hn : x ≠ "__name__" := by decide) (hd : (x == ("__debug__" : Str)) = false := by decide) : PE X (.Name x pos) (tC v) :=
  fun _ _ _ H _ I h => ld_blt I hg hm hv ⟨v, H, I, r, h⟩ hn hd

/-! ### arithmetic -/
variable {a b : Expr} {ta tb : TE} {pos : Pos}
/-! ### comparisons -/
def PC (X : Cx) (op : CmpOp) (a b : Expr) (t : TE) : Prop :=
  ∀ (pins : List (Addr × Obj)) (s : Shared) (σ : St) (H : Hp) (Q : VK), Inv X pins σ H s → t σ H Q →
    wpAny (model X.prog X.w) X.A (eval a X.env) (fun v s₁ => wpAny (model X.prog X.w) X.A (eval b X.env) (fun u s₂ => wpAny (model X.prog X.w) X.A (compareOp op v u) (EP X pins σ Q) X.xe s₂) X.xe s₁) X.xe s
theorem nobehind (b : Expr) {op : CmpOp} (h : op ≠ .In) (h2 : op ≠ .NotIn) : behindInMarks op b = false := by
  have e1 : (op == CmpOp.In) = false := by cases op <;> first | rfl | exact absurd rfl h
  have e2 : (op == CmpOp.NotIn) = false := by cases op <;> first | rfl | exact absurd rfl h2
  cases b <;> simp [behindInMarks, e1, e2]
/-- a comparison as a value, as a test -/
def tB (t : TE) : TT := fun σ H Q => t σ H fun x H1 => ∃ c, x = .bl c ∧ Q c H1
theorem pt_cmp {op : CmpOp} {t : TE} (h : PC X op a b t) (h1 : behindInMarks op b = false := by first | exact nobehind _ (by decide) (by decide) | rfl) : PT X (.Compare a [op] [b] pos) (tB t) := by
  intro pins s σ H Q I hw
  refine wpAny_isTrue_Compare1 (thn (h pins s σ H _ I hw) fun v s1 h1 => thn h1 fun u s2 h2 => thn h2 fun c s3 ⟨x, H1, I1, r1, q1⟩ => ?_) h1
  obtain ⟨d, rfl, q⟩ := q1
  cases r1
  exact wpAny_truthy_bool ⟨H1, I1, q⟩
/-- an expression whose value is a bool, as a test -/
theorem pt_val {e : Expr} {t : TE} (h : PE X e t) (he : ∀ whole, isTrue e X.env whole = (do let v ← whole; standAt e.pos; holding [v] (truthy v)) := by intro _; rfl) : PT X e (tB t) := by
  intro pins s σ H Q I hw
  refine isTrue_plain (thn (h pins s σ H _ I hw) fun v s1 ⟨x, H1, I1, r1, q1⟩ => ?_) (he _)
  obtain ⟨d, rfl, q⟩ := q1
  cases r1
  exact wpAny_truthy_bool ⟨H1, I1, q⟩

/-! ### and, or, not -/
variable {tA tB' : TT} {rest : List Expr}
def tAnd (t u : TT) : TT := fun σ H Q => t σ H fun c H1 => if c = true then u σ H1 Q else Q false H1
def tOr (t u : TT) : TT := fun σ H Q => t σ H fun c H1 => if c = true then Q true H1 else u σ H1 Q
def tNot (t : TT) : TT := fun σ H Q => t σ H fun c H1 => Q (!c) H1
theorem pw_and1 (ha : PT X a tA) : PW X (.BoolOp .And [a] pos) tA := by
  intro wh pins s σ H Q I h
  refine isTrue_and (thn (ha pins s σ H Q I h) fun c s1 e => ?_)
  cases c with
  | true => exact isTrue_and_nil e
  | false => exact e
theorem pw_or1 (ha : PT X a tA) : PW X (.BoolOp .Or [a] pos) tA := by
  intro wh pins s σ H Q I h
  refine isTrue_or (thn (ha pins s σ H Q I h) fun c s1 e => ?_)
  cases c with
  | false => exact isTrue_or_nil e
  | true => exact e
theorem pw_and (ha : PT X a tA) (hb : PW X (.BoolOp .And (b :: rest) pos) tB') : PW X (.BoolOp .And (a :: b :: rest) pos) (tAnd tA tB') := by
  intro wh pins s σ H Q I h
  refine isTrue_and (thn (ha pins s σ H _ I h) fun c s1 ⟨H1, I1, q1⟩ => ?_)
  cases c with
  | true => exact hb wh pins s1 σ H1 Q I1 q1
  | false => exact ⟨H1, I1, q1⟩
theorem pw_or (ha : PT X a tA) (hb : PW X (.BoolOp .Or (b :: rest) pos) tB') : PW X (.BoolOp .Or (a :: b :: rest) pos) (tOr tA tB') := by
  intro wh pins s σ H Q I h
  refine isTrue_or (thn (ha pins s σ H _ I h) fun c s1 ⟨H1, I1, q1⟩ => ?_)
  cases c with
  | true => exact ⟨H1, I1, q1⟩
  | false => exact hb wh pins s1 σ H1 Q I1 q1
theorem pt_not (ha : PT X a tA) : PT X (.UnaryOp .Not a pos) (tNot tA) := by
  intro pins s σ H Q I h
  exact isTrue_not (ha pins s σ H (fun c H1 => Q (!c) H1) I h)
/-- .. as values (bools) -/
def tAndV (ta tb : TE) : TE := fun σ H Q => ta σ H fun x H1 => ∃ c, x = .bl c ∧ if c = true then tb σ H1 Q else Q (.bl false) H1
def tOrV (ta tb : TE) : TE := fun σ H Q => ta σ H fun x H1 => ∃ c, x = .bl c ∧ if c = true then Q (.bl true) H1 else tb σ H1 Q
def tNotV (ta : TE) : TE := fun σ H Q => ta σ H fun x H1 => ∃ c, x = .bl c ∧ Q (.bl (!c)) H1
theorem pe_one {op} {t : TE} (h : PE X a t) : PE X (.BoolOp op [a] pos) t := fun pins s σ H Q I hw => BoolOp_one (h pins s σ H Q I hw)
theorem pe_and (ha : PE X a ta) (hb : PE X (.BoolOp .And (b :: rest) pos) tb) : PE X (.BoolOp .And (a :: b :: rest) pos) (tAndV ta tb) := by
  intro pins s σ H Q I h
  refine BoolOp_and (thn (ha pins s σ H _ I h) fun v s1 ⟨x, H1, I1, r1, q1⟩ => ?_)
  obtain ⟨c, rfl, q1⟩ := q1
  cases r1
  refine wpAny_truthy_bool ?_
  cases c with
  | true => exact hb pins s1 σ H1 Q I1 q1
  | false => exact ⟨.bl false, H1, I1, rfl, q1⟩
theorem pe_or (ha : PE X a ta) (hb : PE X (.BoolOp .Or (b :: rest) pos) tb) : PE X (.BoolOp .Or (a :: b :: rest) pos) (tOrV ta tb) := by
  intro pins s σ H Q I h
  refine BoolOp_or (thn (ha pins s σ H _ I h) fun v s1 ⟨x, H1, I1, r1, q1⟩ => ?_)
  obtain ⟨c, rfl, q1⟩ := q1
  cases r1
  refine wpAny_truthy_bool ?_
  cases c with
  | false => exact hb pins s1 σ H1 Q I1 q1
  | true => exact ⟨.bl true, H1, I1, rfl, q1⟩
theorem pe_not (ha : PE X a ta) : PE X (.UnaryOp .Not a pos) (tNotV ta) := by
  intro pins s σ H Q I h
  refine UnaryOp_ (thn (ha pins s σ H _ I h) fun v s1 ⟨x, H1, I1, r1, q1⟩ => ?_)
  obtain ⟨c, rfl, q1⟩ := q1
  cases r1
  exact not_of (wpAny_truthy_bool ⟨.bl (!c), H1, I1, rfl, q1⟩)
end
end L2

namespace L2
open PySem PySem.Spec PyProof.Rows

/-! ### a list, a tuple that is read: tracked, frozen, or an object of the module -/
def SqL (K : PySem.W.Frag) (H : Hp) (a : Addr) (xs : List V) : Prop :=
  Rd H a (.lst xs) ∨
    ∃ (o : Obj) (its : Array Value) (n : Nat), K.lookup a = some o ∧ o.cls = .type "list" ∧ o.dict = none ∧ o.data = .seq its n ∧ its.size ≤ sizeLine ∧ Vals xs its.toList
def SqT (K : PySem.W.Frag) (H : Hp) (a : Addr) (xs : List V) : Prop :=
  Rd H a (.tup xs) ∨
    ∃ (o : Obj) (its : Array Value) (n : Nat), K.lookup a = some o ∧ o.cls = .type "tuple" ∧ o.data = .seq its n ∧ its.size ≤ sizeLine ∧ Vals xs its.toList
def absV : Value → Option V
  | .none => some .non
  | .bool b => some (.bl b)
  | .int i _ => some (.int i)
  | .str x _ => some (.str x)
  | .bytes b _ => some (.byt b)
  | .float b _ => some (.flt b)
  | .ref a => some (.ref a)
  | .type n => some (.ty n)
  | _ => none
theorem RelV.abs {x : V} {u : Value} (r : RelV x u) : absV u = some x := by
  cases x with
  | non => cases r; rfl
  | bl _ => cases r; rfl
  | int _ => obtain ⟨t, rfl⟩ := r; rfl
  | str _ => obtain ⟨t, rfl⟩ := r; rfl
  | byt _ => obtain ⟨t, rfl⟩ := r; rfl
  | flt _ => obtain ⟨t, rfl⟩ := r; rfl
  | ref _ => cases r; rfl
  | ty _ => cases r; rfl
theorem RelV.inj {x y : V} {u : Value} (r : RelV x u) (q : RelV y u) : x = y := Option.some.inj (r.abs.symm.trans q.abs)
theorem Vals.inj : ∀ {xs ys : List V} {us : List Value}, Vals xs us → Vals ys us → xs = ys
  | _, _, _, .nil, .nil => rfl
  | _, _, _, .cons r t, .cons r' t' => by rw [r.inj r', Vals.inj t t']
section
variable {X : Cx} {pins : List (Addr × Obj)} {σ : St} {H : Hp} {s : Shared} {a : Addr} {xs ys : List V}
theorem SqL.of {K : PySem.W.Frag} (h : H a = some (.lst xs)) : SqL K H a xs := .inl (.inl h)
theorem SqT.of {K : PySem.W.Frag} (h : H a = some (.tup xs)) : SqT K H a xs := .inl (.inl h)
theorem Inv.list (I : Inv X pins σ H s) (h : SqL X.K H a xs) : ∃ its : List Value, Vals xs its ∧ PlainL s.heap a its.toArray ∧ xs.length ≤ sizeLine := by
  rcases h with h | ⟨o, its, n, hk, hc, hd, hs, hz, r⟩
  · obtain ⟨z, its, n, r, e⟩ := h.ok I.hok
    exact ⟨its, r, ⟨_, n, e, rfl, rfl, rfl⟩, z⟩
  · refine ⟨its.toList, r, ⟨o, n, I.kIn a o hk, hc, hd, by simpa using hs⟩, ?_⟩
    have e := r.length
    simp only [Array.length_toList] at e
    omega
theorem Inv.tuple (I : Inv X pins σ H s) (h : SqT X.K H a xs) : ∃ its : List Value, Vals xs its ∧ IsTup s.heap a its.toArray ∧ xs.length ≤ sizeLine := by
  rcases h with h | ⟨o, its, n, hk, hc, hs, hz, r⟩
  · obtain ⟨z, its, r, p⟩ := h.ok I.hok
    exact ⟨its, r, p, z⟩
  · refine ⟨its.toList, r, ⟨o, I.kIn a o hk, hc, n, by simpa using hs⟩, ?_⟩
    have e := r.length
    simp only [Array.length_toList] at e
    omega
theorem Inv.list_inj (I : Inv X pins σ H s) (h : SqL X.K H a xs) (h' : SqL X.K H a ys) : xs = ys := by
  obtain ⟨its, r, ⟨o, n, e, _, _, d⟩, _⟩ := I.list h
  obtain ⟨its', r', ⟨o', n', e', _, _, d'⟩, _⟩ := I.list h'
  rw [e] at e'; cases e'
  rw [d] at d'
  injection d' with d1 _
  have : its = its' := by simpa using congrArg Array.toList d1
  subst this
  exact r.inj r'
end

/-! ### another wish about exceptions -/
abbrev Cx.wish (X : Cx) (E : Value → Shared → Prop) : Cx := { X with xe := E }
/-- no exception leaves -/
abbrev Cx.nox (X : Cx) : Cx := X.wish fun _ _ => False
theorem Cx.Ok.wish {X : Cx} (ok : X.Ok) (E : Value → Shared → Prop) : (X.wish E).Ok :=
  ⟨ok.mod, ok.kind, ok.glob, ok.blt, ok.above, ok.inj, ok.has, ok.cab, ok.hd, ok.frames, ok.stk, ok.exf, ok.bs, ok.bsz, ok.noex, ok.exfs, ok.funs, ok.frf⟩
theorem Cx.Ok.unwish {X : Cx} {E : Value → Shared → Prop} (ok : (X.wish E).Ok) : X.Ok :=
  ⟨ok.mod, ok.kind, ok.glob, ok.blt, ok.above, ok.inj, ok.has, ok.cab, ok.hd, ok.frames, ok.stk, ok.exf, ok.bs, ok.bsz, ok.noex, ok.exfs, ok.funs, ok.frf⟩
section
variable {X : Cx} {pins : List (Addr × Obj)} {σ : St} {H : Hp} {s : Shared} {E : Value → Shared → Prop}
theorem Inv.wish (I : Inv X pins σ H s) (E : Value → Shared → Prop) : Inv (X.wish E) pins σ H s := ⟨I.ok.wish E, I.os, I.bare, I.base, I.loc, I.cell, I.free, I.freeC, I.pin, I.hok, I.len⟩
theorem Inv.unwish (I : Inv (X.wish E) pins σ H s) : Inv X pins σ H s := ⟨I.ok.unwish, I.os, I.bare, I.base, I.loc, I.cell, I.free, I.freeC, I.pin, I.hok, I.len⟩
theorem SP.unwish {D : Ends} {f : Flow} {s' : Shared} (h : SP (X.wish E) pins D f s') : SP X pins D f s' := by
  cases f with
  | next => obtain ⟨σ', H', I, q⟩ := h; exact ⟨σ', H', I.unwish, q⟩
  | brk => obtain ⟨σ', H', I, q⟩ := h; exact ⟨σ', H', I.unwish, q⟩
  | cont => obtain ⟨σ', H', I, q⟩ := h; exact ⟨σ', H', I.unwish, q⟩
  | ret u => obtain ⟨v, σ', H', I, r, q⟩ := h; exact ⟨v, σ', H', I.unwish, r, q⟩
theorem PSs.nox {st : List Stmt} {t : TS} (h : PSs X.nox st t) : PSs X st t := fun pins s σ H D I hw =>
  wpAny_mono (h pins s σ H D (I.wish _) hw) (fun _ _ q => q.unwish) fun _ _ z => False.elim z
end

/-! ### blocks and small statements -/
section
variable {X : Cx} {st : Stmt} {rest : List Stmt} {t u : TS} {e : Expr} {te : TE} {pos : Pos}
def tNext : TS := fun D σ H => D.nx σ H
def tSeq (t u : TS) : TS := fun D σ H => t { D with nx := u D } σ H
theorem pss_nil : PSs X [] tNext := fun _ _ σ H _ I h => wpAny_execs_nil ⟨σ, H, I, h⟩
theorem pss_cons (h1 : PS X st t) (h2 : PSs X rest u) : PSs X (st :: rest) (tSeq t u) := by
  intro pins s σ H D I h
  refine wpAny_execs_cons (thn (h1 pins s σ H { D with nx := u D } I h) fun f s1 q => ?_)
  cases f with
  | next =>
    obtain ⟨σ', H', I', q⟩ := q
    exact h2 pins s1 σ' H' D I' q
  | ret v => exact q
  | brk => exact q
  | cont => exact q
theorem pss_one (h1 : PS X st t) : PSs X [st] t := by
  intro pins s σ H D I h
  refine wpAny_execs_cons (thn (h1 pins s σ H D I h) fun f s1 q => ?_)
  cases f with
  | next => exact wpAny_execs_nil q
  | ret v => exact q
  | brk => exact q
  | cont => exact q
/-- in a def's body nothing is shown -/
theorem Inv.quiet {pins : List (Addr × Obj)} {σ : St} {H : Hp} {s : Shared} (I : Inv X pins σ H s) : interactive X.env = false := by simp [interactive, I.ok.kind]
/-- an expression whose value is dropped -/
def tDrop (te : TE) : TS := fun D σ H => te σ H fun _ H1 => D.nx σ H1
theorem ps_expr (he : PE X e te) (hs : swapsWith e none pos.line X.env = pure false := by rfl) : PS X (.Expr e pos) (tDrop te) := by
  intro pins s σ H D I h
  exact wpAny_Expr_any (thn (he pins s σ H _ I h) fun v s1 ⟨x, H1, I1, r1, q1⟩ => ⟨σ, H1, I1, q1⟩) I.quiet hs
def tRet (te : TE) : TS := fun D σ H => te σ H D.rt
theorem ps_ret (he : PE X e te) : PS X (.Return (some e) pos) (tRet te) := by
  intro pins s σ H D I h
  exact wpAny_Return_some (thn (he pins s σ H _ I h) fun v s1 ⟨x, H1, I1, r1, q1⟩ => ⟨x, σ, H1, I1, r1, q1⟩)
def tIfS (c : TT) (t u : TS) : TS := fun D σ H => c σ H fun b H1 => if b = true then t D σ H1 else u D σ H1
theorem ps_if {c : Expr} {a b : List Stmt} {tc : TT} (hc : PT X c tc) (ha : PSs X a t) (hb : PSs X b u) : PS X (.If c a b pos) (tIfS tc t u) := by
  intro pins s σ H D I h
  refine wpAny_If (thn (hc pins s σ H _ I h) fun d s1 ⟨H1, I1, q1⟩ => ?_)
  cases d with
  | true => exact ha pins s1 σ H1 D I1 q1
  | false => exact hb pins s1 σ H1 D I1 q1
end

/-! ### targets -/
abbrev TG := V → St → Hp → (St → Hp → Prop) → Prop
abbrev TGs := List V → St → Hp → (St → Hp → Prop) → Prop
def PG (X : Cx) (target : Expr) (t : TG) : Prop :=
  ∀ (pins : List (Addr × Obj)) (s : Shared) (σ : St) (H : Hp) (v : V) (u : Value) (Q : St → Hp → Prop), Inv X pins σ H s → RelV v u → t v σ H Q →
    wpAny (model X.prog X.w) X.A (assign target X.env u) (fun _ s' => ∃ σ' H', Inv X pins σ' H' s' ∧ Q σ' H') X.xe s
/-- several targets, one after another -/
def PGs (X : Cx) (ts : List Expr) (t : TGs) : Prop :=
  ∀ (pins : List (Addr × Obj)) (s : Shared) (σ : St) (H : Hp) (vs : List V) (us : List Value) (Q : St → Hp → Prop), Inv X pins σ H s → Vals vs us → t vs σ H Q →
    wpAny (model X.prog X.w) X.A (assignInOrder ((assignEach ts X.env).map (·.2)) us) (fun _ s' => ∃ σ' H', Inv X pins σ' H' s' ∧ Q σ' H') X.xe s
/-- o[i] = v, by values -/
abbrev TSet := V → V → V → Hp → (Hp → Prop) → Prop
def PSet (X : Cx) (t : TSet) : Prop :=
  ∀ (pins : List (Addr × Obj)) (s : Shared) (σ : St) (H : Hp) (o i v : V) (ov iv u : Value) (Q : Hp → Prop), Inv X pins σ H s → RelV o ov → RelV i iv → RelV v u → t o i v H Q →
    wpAny (model X.prog X.w) X.A (setItem ov iv u) (fun _ s' => ∃ H', Inv X pins σ H' s' ∧ Q H') X.xe s
section
variable {X : Cx} {pos : Pos}
def gName (i : Nat) : TG := fun v σ H Q => Q (σ.set i (some v)) H
theorem pg_name {i : Nat} {x : Str} (hN : X.N.Nodup) (hi : X.N[i]? = some x) (hx : Loc X.env.scope x) (hf : X.fn x = true ∨ X.env.scope.names.lookup x = some .local := by first | exact .inl rfl | exact .inr rfl | assumption) : PG X (.Name x pos) (gName i) := by
  intro pins s σ H v u Q I r h
  exact wpAny_assign_Name (store_ok I hN hi hx r (fun s' I' => ⟨_, H, I', h⟩) hf)
def gNil : TGs := fun vs σ H Q => vs = [] ∧ Q σ H
def gCons (t : TG) (u : TGs) : TGs := fun vs σ H Q => ∃ v r, vs = v :: r ∧ t v σ H fun σ' H' => u r σ' H' Q
theorem pgs_nil : PGs X [] gNil := by
  intro pins s σ H vs us Q I r h
  obtain ⟨e, h⟩ := h
  subst e
  cases r
  exact assignInOrder_nil ⟨σ, H, I, h⟩
theorem pgs_cons {e : Expr} {es : List Expr} {t : TG} {u : TGs} (h1 : PG X e t) (h2 : PGs X es u)
    (hs : (assignEach (e :: es) X.env).map (·.2) = assign e X.env :: (assignEach es X.env).map (·.2) := by rfl) : PGs X (e :: es) (gCons t u) := by
  intro pins s σ H vs us Q I r h
  obtain ⟨v, vr, e1, h⟩ := h
  subst e1
  cases r with
  | cons r rr =>
    rw [hs]
    refine assignInOrder_cons (thn (h1 pins s σ H _ _ _ I r h) fun _ s1 ⟨σ1, H1, I1, q1⟩ => ?_)
    exact h2 pins s1 σ1 H1 _ _ Q I1 rr q1
/-- (a, b, ..) = a tuple of that length -/
def gTup (K : PySem.W.Frag) (n : Nat) (t : TGs) : TG := fun v σ H Q => ∃ a xs, v = .ref a ∧ SqT K H a xs ∧ xs.length = n ∧ t xs σ H Q
theorem pg_tup {es : List Expr} {k : Nat} {t : TGs} {n : Nat} (hc : X.calm = true) (h : PGs X es t)
    (hn : (assignEach es X.env).length = n := by rfl) (hst : (assignEach es X.env).findIdx? (·.1) = none := by rfl) : PG X (.Tuple es k pos) (gTup X.K n t) := by
  intro pins s σ H v u Q I r hw
  obtain ⟨a, xs, e1, hq, hl, hw⟩ := hw
  subst e1
  cases r
  obtain ⟨its, rv, ht, hz⟩ := I.tuple hq
  refine assign_Tuple_tuple (I.ok.hd hc) ht (by simp [hn, ← hl, rv.length]) hst fun h' hx => ?_
  have I1 : Inv X pins σ H { s with heap := h' } := I.kept (t' := s.toks) fun b o e => hx b o (Nat.ne_of_lt (Heap.lt_size e)) e
  exact h pins _ σ H xs _ Q I1 (by simpa using rv) hw
/-- o[i] = .. -/
def gSub (to ti : TE) (t : TSet) : TG := fun v σ H Q => to σ H fun o H1 => ti σ H1 fun i H2 => t o i v H2 fun H3 => Q σ H3
theorem pg_sub {o i : Expr} {to ti : TE} {t : TSet} (ho : PE X o to) (hi : PE X i ti) (hs : PSet X t)
    (ha : ∀ v, assign (.Subscript o i pos) X.env v = (do
      let ov ← holding [v] (eval o X.env)
      let iv ← holding [v, ov] (eval i X.env)
      standAt pos
      holding [v, ov, iv] (setItem ov iv v)
      release [v, ov, iv] []) := by intro _; rfl) : PG X (.Subscript o i pos) (gSub to ti t) := by
  intro pins s σ H v u Q I r h
  rw [ha]
  refine wpAny_bind (wpAny_holding (thn (ho pins s σ H _ I h) fun ov s1 ⟨x, H1, I1, r1, q1⟩ => ?_))
  refine wpAny_bind (wpAny_holding (thn (hi pins s1 σ H1 _ I1 q1) fun iv s2 ⟨y, H2, I2, r2, q2⟩ => ?_))
  refine wpAny_bind (wpAny_standAt (wpAny_bind (wpAny_holding (thn (hs pins s2 σ H2 x y v ov iv u _ I2 r1 r2 r q2) fun _ s3 ⟨H3, I3, q3⟩ => ?_))))
  exact wpAny_release ⟨σ, H3, I3, q3⟩
/-- target = value -/
def tAsg (te : TE) (g : TG) : TS := fun D σ H => te σ H fun x H1 => g x σ H1 D.nx
theorem ps_asg {tg e : Expr} {te : TE} {g : TG} (he : PE X e te) (hg : PG X tg g) (hs : swapsWithSole [tg] e pos.line X.env = pure false := by rfl) (hw : swappedStores [tg] e X.env = pure none := by rfl)
    (h1 : (assignEach [tg] X.env).map (·.2) = [assign tg X.env] := by rfl) : PS X (.Assign [tg] e pos) (tAsg te g) := by
  intro pins s σ H D I h
  refine wpAny_Assign_stores (thn (he pins s σ H _ I h) fun v s1 ⟨x, H1, I1, r1, q1⟩ => ?_) hs hw
  rw [h1]
  exact thn (hg pins s1 σ H1 x v _ I1 r1 q1) fun _ s2 q => q
/-- name = value -/
theorem ps_set {i : Nat} {x : Str} {e : Expr} {te : TE} {pos' : Pos} (hN : X.N.Nodup) (hi : X.N[i]? = some x) (hx : Loc X.env.scope x) (he : PE X e te) (hs : swapsWith e (some (.Name x pos')) pos.line X.env = pure false := by rfl) (hf : X.fn x = true ∨ X.env.scope.names.lookup x = some .local := by first | exact .inl rfl | exact .inr rfl | assumption) :
    PS X (.Assign [.Name x pos'] e pos) (tAsg te (gName i)) := by
  intro pins s σ H D I h
  refine wpAny_Assign_Name (thn (he pins s σ H _ I h) fun v s1 ⟨y, H1, I1, r1, q1⟩ => ?_) hs
  exact store_ok I1 hN hi hx r1 (fun s2 I2 => ⟨_, H1, I2, q1⟩) hf
end

/-! ### while -/
section
variable {X : Cx} {pos : Pos}
end

/-! ### what a loop or a comprehension walks -/
/-- at turn i: it yields x (the heap may grow), or it stops -/
structure It where
  go : Nat → Hp → Prop
  yld : Nat → Hp → V → Hp → Prop
  stop : Nat → Hp → Prop
/-- the iterator's own objects may turn: they are not the frame's, not pinned, younger than the entry (or a comprehension's own) -/
def FpOk (X : Cx) (pins : List (Addr × Obj)) (H : Hp) (b : Addr) : Prop :=
  H b = none ∧ b ≠ X.env.locals ∧ b ∉ X.fs ∧ (b ∈ X.ex ∨ X.s₀.heap.objs.size ≤ b) ∧ (∀ x c, X.env.cells.lookup x = some c → c ≠ b) ∧ ∀ p ∈ X.pn ++ pins, p.1 ≠ b
theorem Inv.fpOk {X : Cx} {pins : List (Addr × Obj)} {σ : St} {H H' : Hp} {s : Shared} {b : Addr} (I : Inv X pins σ H s) (hb : s.heap.objs.size ≤ b) (hn : H' b = none) : FpOk X pins H' b := by
  refine ⟨hn, Nat.ne_of_gt (Nat.lt_of_lt_of_le I.lt hb), I.nofs hb, .inr (Nat.le_trans I.sz hb), fun x c e z => ?_, fun p hp z => ?_⟩
  · obtain ⟨v, q⟩ := I.cell x c e
    exact absurd (Nat.lt_of_lt_of_le q.lt (by rw [z]; exact hb)) (Nat.lt_irrefl _)
  · exact absurd (Nat.lt_of_lt_of_le (Heap.lt_size (I.pin p hp).1) (by rw [z]; exact hb)) (Nat.lt_irrefl _)
structure Turn (P : Program) (w : World) (K : PySem.W.Frag) (tg : Expr) (J : It) (fp : List Addr) (it : Addr) (tn : Nat → Heap → Prop) : Prop where
  mem : it ∈ fp
  obj : ∀ i h, tn i h → ∀ b ∈ fp, ∃ o, h.get? b = some o ∧ ∀ v, o.data ≠ .cell v
  keep : ∀ i h h', tn i h → (∀ b ∈ fp, ∀ o, h.get? b = some o → h'.get? b = some o) → tn i h'
  item : ∀ (X : Cx), X.prog = P → X.w = w → X.K = K → X.calm = true → ∀ (i : Nat) (pins : List (Addr × Obj)) (s : Shared) (σ : St) (H : Hp) (E : Value → Shared → Prop), Inv X pins σ H s → (∀ b ∈ fp, FpOk X pins H b) → tn i s.heap → J.go i H →
    wpAny (model P w) X.A (pyNext (.ref it)) (fun r s1 => ∃ u, r = some u ∧
      wpAny (model P w) X.A (letOwnedTupleGo tg (.ref it) u) (fun _ s2 => ∃ x H', Inv X pins σ H' s2 ∧ RelV x u ∧ J.yld i H x H' ∧ tn (i + 1) s2.heap ∧ ∀ b ∈ fp, H' b = none) E s1) E s
  done : ∀ (X : Cx), X.prog = P → X.w = w → X.K = K → X.calm = true → ∀ (i : Nat) (pins : List (Addr × Obj)) (s : Shared) (σ : St) (H : Hp) (E : Value → Shared → Prop), Inv X pins σ H s → (∀ b ∈ fp, FpOk X pins H b) → tn i s.heap → J.stop i H →
    wpAny (model P w) X.A (pyNext (.ref it)) (fun r s1 => r = none ∧ Inv X pins σ H s1) E s
  self : ∀ (A : Around) (i : Nat) (s : Shared) (Q : Value → Shared → Prop) (E : Value → Shared → Prop), tn i s.heap → Q (.ref it) s → wpAny (model P w) A (pyIter (.ref it)) Q E s
abbrev TI := St → Hp → (It → Hp → Prop) → Prop
/-- an iterator has come -/
def PIE (X : Cx) (pins : List (Addr × Obj)) (σ : St) (tg : Expr) (R : It → Hp → Prop) (itv : Value) (s2 : Shared) : Prop :=
  ∃ (it : Addr) (fp : List Addr) (tn : Nat → Heap → Prop) (J : It) (H' : Hp), itv = .ref it ∧ Inv X pins σ H' s2 ∧ Turn X.prog X.w X.K tg J fp it tn ∧ tn 0 s2.heap ∧ (∀ b ∈ fp, FpOk X pins H' b) ∧ R J H'
def PI (X : Cx) (tg iter : Expr) (wi : TI) : Prop :=
  ∀ (pins : List (Addr × Obj)) (s : Shared) (σ : St) (H : Hp) (R : It → Hp → Prop), Inv X pins σ H s → wi σ H R →
    wpAny (model X.prog X.w) X.A (eval iter X.env) (fun v s1 => wpAny (model X.prog X.w) X.A (pyIter v) (PIE X pins σ tg R) X.xe s1) X.xe s

/-- the step ahead of the store is nothing for an iterator that keeps no tuple -/
theorem go_of {M : Model} {A : Around} {E : Value → Shared → Prop} {s : Shared} {tg : Expr} {it : Addr} {u : Value} {o : Obj} {n : String} {vs : Array Value} {Q : Unit → Shared → Prop} (ho : s.heap.get? it = some o) (hc : o.cls = .type n) (hd : o.data = .fields vs)
    (hn : ["enumerate", "zip", "dict_itemiterator", "dict_reverseitemiterator", "odict_iterator", "itertools.zip_longest", "itertools.pairwise"].contains n = false) (hQ : Q () s) : wpAny M A (letOwnedTupleGo tg (.ref it) u) Q E s := by
  unfold letOwnedTupleGo
  cases tg <;> first
    | exact wpAny_pure hQ
    | (cases u <;> first
        | exact wpAny_pure hQ
        | (refine wpAny_bind (wpAny_load ho ?_)
           rw [hc, hd]
           show wpAny M A (if (["enumerate", "zip", "dict_itemiterator", "dict_reverseitemiterator", "odict_iterator", "itertools.zip_longest", "itertools.pairwise"].contains n && vs[0]? == some (rawInt _)) = true then _ else _) Q E s
           rw [if_neg (by intro h; rw [hn, Bool.false_and] at h; cases h)]
           exact wpAny_pure hQ))

/-- the list at a, as it stands at each turn (a loop may append to it) -/
def Itl (K : PySem.W.Frag) (a : Addr) : It :=
  ⟨fun i H => ∃ xs x, SqL K H a xs ∧ xs[i]? = some x, fun i H x H' => H' = H ∧ ∀ xs, SqL K H a xs → xs[i]? = some x, fun i H => ∃ xs, SqL K H a xs ∧ xs.length ≤ i⟩
/-- lo, lo + 1, .. (n of them) -/
def Itr (lo : Int) (n : Nat) : It := ⟨fun i _ => i < n, fun i H x H' => H' = H ∧ x = .int (lo + i), fun i _ => n ≤ i⟩
theorem turn_list {P : Program} {w : World} {K : PySem.W.Frag} {tg : Expr} (a it : Addr) : Turn P w K tg (Itl K a) [it] it (fun i h => h.IsListIter it a i) where
  mem := by simp
  obj := fun i h st b hb => by
    have e : b = it := by simpa using hb
    subst e
    obtain ⟨o, e, c, d⟩ := st
    exact ⟨o, e, fun v z => by rw [d] at z; cases z⟩
  keep := fun i h h' st k => st.at fun o e => k it (by simp) o e
  item := by
    intro X hP hw hK hc i pins s σ H E I hf st hg
    subst hP hw hK
    obtain ⟨xs, x, hq, hx⟩ := hg
    obtain ⟨its, rv, p, hz⟩ := I.list hq
    obtain ⟨u, hu, ru⟩ := rv.get hx
    obtain ⟨f0, f1, f2, f3, f4, f5⟩ := hf it (by simp)
    refine wpAny_pyNext_list_item st p.isList (x := u) (by simpa using hu) fun h' st' sb => ?_
    have I1 : Inv X pins σ H { s with heap := h' } := I.turned (t' := s.toks) (fun b o hb e => (sb.2 b hb).trans e) f0 f1 f3 f4 f5
    obtain ⟨o, e, c, d⟩ := id st'
    exact ⟨u, rfl, go_of (s := { s with heap := h' }) e c d (by decide) ⟨x, H, I1, ru, ⟨rfl, fun ys hy => by rw [I.list_inj hy hq]; exact hx⟩, st', fun b hb => (hf b hb).1⟩⟩
  done := by
    intro X hP hw hK hc i pins s σ H E I hf st hg
    subst hP hw hK
    obtain ⟨xs, hq, hx⟩ := hg
    obtain ⟨its, rv, p, hz⟩ := I.list hq
    obtain ⟨f0, f1, f2, f3, f4, f5⟩ := hf it (by simp)
    have hl := rv.length
    exact wpAny_pyNext_list_end (I.ok.hd hc) st p.isList (by simp; omega) fun h' eb => ⟨rfl, I.turned (t' := s.toks) (fun b o hb e => eb b o hb e) f0 f1 f3 f4 f5⟩
  self := fun _ _ _ _ _ st h => wpAny_pyIter_listiter st h
theorem turn_range {P : Program} {w : World} {K : PySem.W.Frag} {tg : Expr} (it : Addr) (lo : Int) (n : Nat) : Turn P w K tg (Itr lo n) [it] it (fun i h => IsRangeIter h it (lo + (i : Nat) * 1) ((n : Int) - (i : Nat)) 1) where
  mem := by simp
  obj := fun i h st b hb => by
    have e : b = it := by simpa using hb
    subst e
    exact ⟨_, st, fun v z => by
      have z' : Data.fields _ = Data.cell v := z
      cases z'⟩
  keep := fun i h h' st k => k it (by simp) _ st
  item := by
    intro X hP hw hK hc i pins s σ H E I hf st hg
    subst hP hw hK
    obtain ⟨f0, f1, f2, f3, f4, f5⟩ := hf it (by simp)
    have W := Walks.range (prog := X.prog) (w := X.w) (I.ok.hd hc) it lo 1 n
    refine W.item i s _ _ hg st fun v h' tk hv st' kk => ?_
    obtain ⟨t, rfl⟩ := hv
    have I1 : Inv X pins σ H { s with heap := h', toks := tk } := I.turned (fun b o hb e => kk b o (by simpa using hb) e) f0 f1 f3 f4 f5
    refine ⟨_, rfl, go_of (s := { s with heap := h', toks := tk }) (n := "range_iterator") st' rfl rfl (by decide) ⟨.int (lo + i), H, I1, ⟨t, ?_⟩, ⟨rfl, rfl⟩, st', fun b hb => (hf b hb).1⟩⟩
    rw [Int.mul_one]
  done := by
    intro X hP hw hK hc i pins s σ H E I hf st hg
    subst hP hw hK
    obtain ⟨f0, f1, f2, f3, f4, f5⟩ := hf it (by simp)
    exact wpAny_pyNext_range_end (I.ok.hd hc) st (by have : n ≤ i := hg; omega) fun h' eb => ⟨rfl, I.turned (t' := s.toks) (fun b o hb e => eb b o hb e) f0 f1 f3 f4 f5⟩
  self := fun _ _ _ _ _ st h => wpAny_pyIter_rangeiter st h
end L2

namespace L2
open PySem PySem.Spec PyProof.Rows
section
variable {X : Cx} {tg : Expr}
def iList (K : PySem.W.Frag) (tl : TE) : TI := fun σ H R => tl σ H fun x H1 => ∃ a, x = .ref a ∧ (∃ xs, SqL K H1 a xs) ∧ R (Itl K a) H1
theorem pi_list {l : Expr} {tl : TE} (hl : PE X l tl) : PI X tg l (iList X.K tl) := by
  intro pins s σ H R I h
  refine thn (hl pins s σ H _ I h) fun v s1 ⟨x, H1, I1, r1, q1⟩ => ?_
  obtain ⟨a, e, ⟨xs, hq⟩, q⟩ := q1
  subst e
  cases r1
  obtain ⟨its, rv, p, hz⟩ := I1.list hq
  refine wpAny_pyIter_list p.isList ?_
  refine ⟨s1.heap.objs.size, [s1.heap.objs.size], _, _, H1, rfl, I1.kept (t' := s1.toks) fun b o e => Heap.get?_push_of_some _ e, turn_list a _, ⟨_, Heap.get?_push_size _ rfl, rfl, rfl⟩, fun b hb => ?_, q⟩
  have e : b = s1.heap.objs.size := by simpa using hb
  subst e
  exact I1.fpOk (Nat.le_refl _) (I1.hok.fresh (Nat.le_refl _))
/-- a range object just made, walked -/
theorem range_it {pins : List (Addr × Obj)} {σ : St} {H : Hp} {s : Shared} {R : It → Hp → Prop} {E : Value → Shared → Prop} {lo hi : Int} {t u v : Tok} {tk : Nat} (I : Inv X pins σ H s) (h1 : -(2 ^ 62) ≤ lo) (h2 : lo < 2 ^ 62) (h3 : -(2 ^ 62) ≤ hi) (h4 : hi < 2 ^ 62)
    (q : R (Itr lo (hi - lo).toNat) H) : wpAny (model X.prog X.w) X.A (pyIter (.ref s.heap.objs.size)) (PIE X pins σ tg R) E { s with heap := s.heap.push { cls := .type "range", data := .fields #[.int lo t, .int hi u, .int 1 v] }, toks := tk } := by
  refine wpAny_pyIter_range (IsRange.new ..) (small_one h1 h2 h3 h4) ?_
  have I1 : Inv X pins σ H { s with heap := s.heap.push { cls := .type "range", data := .fields #[.int lo t, .int hi u, .int 1 v] }, toks := tk } := I.kept fun b o e => Heap.get?_push_of_some _ e
  refine ⟨(s.heap.push { cls := .type "range", data := .fields #[.int lo t, .int hi u, .int 1 v] }).objs.size, [(s.heap.push { cls := .type "range", data := .fields #[.int lo t, .int hi u, .int 1 v] }).objs.size], _, _, H, rfl,
    I1.kept (t' := tk) fun b o e => Heap.get?_push_of_some _ e, turn_range _ lo (hi - lo).toNat, ?_, fun b hb => ?_, q⟩
  · have e1 : lo + ((0 : Nat) : Int) * 1 = lo := by simp
    have e2 : (((hi - lo).toNat : Nat) : Int) - ((0 : Nat) : Int) = Builtin.Range.rangeSize lo hi 1 := by rw [rangeSize_one]; split <;> omega
    show IsRangeIter _ _ (lo + ((0 : Nat) : Int) * 1) ((((hi - lo).toNat : Nat) : Int) - ((0 : Nat) : Int)) 1
    rw [e1, e2]
    exact Heap.get?_push_size _ rfl
  · have e : b = (s.heap.push { cls := .type "range", data := .fields #[.int lo t, .int hi u, .int 1 v] }).objs.size := by simpa using hb
    subst e
    exact I1.fpOk (Nat.le_refl _) (I1.hok.fresh (Nat.le_refl _))
def iRng1 (ta : TA) : TI := fun σ H R => ta σ H fun vs H1 => ∃ j : Int, vs = [.int j] ∧ -(2 ^ 62) ≤ j ∧ j < 2 ^ 62 ∧ R (Itr 0 j.toNat) H1
theorem pi_range1 {a : Expr} {ta : TA} {p pos : Pos} (hg : Gl X "range") (hm : X.mg "range" = none) (ha : PA X [a] ta) (hs : starEach [a] X.env = [(false, eval a X.env)] := by rfl) : PI X tg (.Call (.Name "range" p) [a] [] pos) (iRng1 ta) := by
  intro pins s σ H R I h
  refine Call_ (ld_blt I hg hm boot_range (PyProof.Rows.callWith_type1 (thn (ha pos pins s σ H _ I h) fun us s1 ⟨vs, H1, I1, r1, q1⟩ => ?_) hs rfl))
  obtain ⟨j, e, q1, q2, q⟩ := q1
  subst e
  cases r1 with
  | cons r rr =>
    cases rr
    obtain ⟨t, rfl⟩ := r
    exact call_range_1 (range_it I1 (by omega) (by omega) q1 q2 (by simpa using q))
/-! ### for -/
/-- W: the invariant by the turn and a measure; N: what the body is to reach -/
def tFor (wi : TI) (g : TG) (tb : TS) : TS := fun D σ H => wi σ H fun J H1 => ∃ W : Nat → Nat → St → Hp → Prop, (∃ m, W 0 m σ H1) ∧ ∀ i m σ H, W i m σ H →
  (J.stop i H ∧ D.nx σ H) ∨ (J.go i H ∧ ∃ N : St → Hp → Prop, (∀ σ' H', N σ' H' → ∃ m', m' < m ∧ W (i + 1) m' σ' H') ∧ ∀ x H', J.yld i H x H' → g x σ H' fun σ2 H2 => tb { D with nx := N, ct := N, bk := D.nx } σ2 H2)
/-- the records at fp as they stand -/
def pinsAt (fp : List Addr) (h : Heap) : List (Addr × Obj) := fp.filterMap fun b => (h.get? b).map fun o => (b, o)
theorem mem_pinsAt {fp : List Addr} {h : Heap} {b : Addr} {o : Obj} (hb : b ∈ fp) (e : h.get? b = some o) : (b, o) ∈ pinsAt fp h := List.mem_filterMap.mpr ⟨b, hb, by rw [e]; rfl⟩
theorem of_pinsAt {fp : List Addr} {h : Heap} {p : Addr × Obj} (hp : p ∈ pinsAt fp h) : p.1 ∈ fp ∧ h.get? p.1 = some p.2 := by
  obtain ⟨b, hb, e⟩ := List.mem_filterMap.mp hp
  cases q : h.get? b with
  | none => rw [q] at e; cases e
  | some o =>
    rw [q] at e
    have e' : (b, o) = p := Option.some.inj e
    subst e'
    exact ⟨hb, q⟩
theorem Inv.pinned {pins : List (Addr × Obj)} {σ : St} {H : Hp} {s : Shared} {fp : List Addr} (I : Inv X pins σ H s) (hf : ∀ b ∈ fp, FpOk X pins H b) (ho : ∀ b ∈ fp, ∃ o, s.heap.get? b = some o ∧ ∀ v, o.data ≠ .cell v) : Inv X (pins ++ pinsAt fp s.heap) σ H s :=
  I.pins_of fun p hp => (List.mem_append.mp hp).elim (fun z => I.pin p (List.mem_append_right _ z)) fun z => by
    obtain ⟨hb, e⟩ := of_pinsAt z
    obtain ⟨f0, f1, f2, _⟩ := hf p.1 hb
    obtain ⟨o, e', d⟩ := ho p.1 hb
    rw [e] at e'; cases e'
    exact ⟨e, f0, f1, f2, d⟩
theorem Inv.unpinned {pins pl : List (Addr × Obj)} {σ : St} {H : Hp} {s : Shared} (I : Inv X (pins ++ pl) σ H s) : Inv X pins σ H s := I.pins_of fun p hp => I.pin p (List.mem_append_right _ (List.mem_append_left _ hp))
theorem ps_for {iter : Expr} {body : List Stmt} {wi : TI} {g : TG} {tb : TS} {pos : Pos} (hp : PassesOwn (model X.prog X.w) X.A X.env X.xe) (hc : X.calm = true) (hi : PI X tg iter wi) (hg : PG X tg g) (hb : PSs X body tb)
    (hs : ∀ x, foldedSetIterable iter X.env x = pure x := by intro _; rfl) : PS X (.For tg iter body [] pos) (tFor wi g tb) := by
  intro pins s σ H D I h
  refine wpAny_For (thn (hi pins s σ H _ I h) fun v s1 h1 => thn h1 fun itv s2 h2 => ?_) hs
  obtain ⟨it, fp, tn, J, H2, e, I2, T, st2, f2, W, ⟨m0, w0⟩, turn⟩ := h2
  subst e
  -- what stays true of the iterator's objects through the loop
  have stat : ∀ {H' : Hp}, (∀ b ∈ fp, H' b = none) → ∀ b ∈ fp, FpOk X pins H' b := fun hn b hb => ⟨hn b hb, (f2 b hb).2⟩
  refine codeAny_forLoop_any (fun n s' => ∃ i σ' H', Inv X pins σ' H' s' ∧ tn i s'.heap ∧ (∀ b ∈ fp, H' b = none) ∧ W i n σ' H') ?_ m0 ⟨0, σ, H2, I2, st2, fun b hb => (f2 b hb).1, w0⟩
  rintro n s3 ⟨i, σ3, H3, I3, st3, fr3, w3⟩
  rcases turn i n σ3 H3 w3 with ⟨stop, qn⟩ | ⟨go, N, hN, step⟩
  · refine wpAny_passesOwn hp (thn (T.done X rfl rfl rfl hc i pins s3 σ3 H3 X.xe I3 (stat fr3) st3 stop) fun r s4 ⟨hr, I4⟩ => ?_)
    subst hr
    exact wpAny_execs_nil ⟨σ3, H3, I4, qn⟩
  · refine wpAny_passesOwn hp (thn (T.item X rfl rfl rfl hc i pins s3 σ3 H3 X.xe I3 (stat fr3) st3 go) fun r s4 ⟨u, hr, h4⟩ => ?_)
    subst hr
    refine wpAny_passesOwn hp (thn h4 fun _ s5 ⟨x, H5, I5, r5, y5, st5, fr5⟩ => ?_)
    have I5' := I5.pinned (stat fr5) (T.obj _ _ st5)
    refine wpAny_passesOwn hp (thn (hg _ s5 σ3 H5 x u _ I5' r5 (step x H5 y5)) fun _ s6 ⟨σ6, H6, I6, q6⟩ => ?_)
    refine wpAny_passesOwn hp (thn (hb _ s6 σ6 H6 _ I6 q6) fun f s7 q7 => ?_)
    have again : ∀ {σ7 : St} {H7 : Hp}, Inv X (pins ++ pinsAt fp s5.heap) σ7 H7 s7 → N σ7 H7 → ∃ m, m < n ∧ ∃ i σ' H', Inv X pins σ' H' s7 ∧ tn i s7.heap ∧ (∀ b ∈ fp, H' b = none) ∧ W i m σ' H' := fun {σ7 H7} I7 n7 => by
      obtain ⟨m', hm, w7⟩ := hN σ7 H7 n7
      refine ⟨m', hm, i + 1, σ7, H7, I7.unpinned, T.keep _ _ _ st5 fun b hb o e => (I7.pin (b, o) (List.mem_append_right _ (List.mem_append_right _ (mem_pinsAt hb e)))).1, fun b hb => ?_, w7⟩
      obtain ⟨o, e, d⟩ := T.obj _ _ st5 b hb
      exact (I7.pin (b, o) (List.mem_append_right _ (List.mem_append_right _ (mem_pinsAt hb e)))).2.1
    cases f with
    | next => obtain ⟨σ7, H7, I7, n7⟩ := q7; exact again I7 n7
    | cont => obtain ⟨σ7, H7, I7, n7⟩ := q7; exact again I7 n7
    | brk => obtain ⟨σ7, H7, I7, q7⟩ := q7; exact ⟨σ7, H7, I7.unpinned, q7⟩
    | ret v => obtain ⟨x7, σ7, H7, I7, r7, q7⟩ := q7; exact ⟨x7, σ7, H7, I7.unpinned, r7, q7⟩
end

/-! ### the forms one uses -/
/-- over a list that the body leaves as it is -/
theorem for_list {K : PySem.W.Frag} {a : Addr} {xs : List V} {g : TG} {tb : TS} {D : Ends} {σ : St} {H : Hp} (Pv : Nat → St → Hp → Prop) (h0 : Pv 0 σ H) (hl : ∀ i σ H, i ≤ xs.length → Pv i σ H → SqL K H a xs)
    (hs : ∀ i x σ H, xs[i]? = some x → Pv i σ H → g x σ H fun σ2 H2 => tb { D with nx := Pv (i + 1), ct := Pv (i + 1), bk := D.nx } σ2 H2) (hd : ∀ σ H, Pv xs.length σ H → D.nx σ H) :
    ∃ W : Nat → Nat → St → Hp → Prop, (∃ m, W 0 m σ H) ∧ ∀ i m σ H, W i m σ H →
      ((Itl K a).stop i H ∧ D.nx σ H) ∨ ((Itl K a).go i H ∧ ∃ N : St → Hp → Prop, (∀ σ' H', N σ' H' → ∃ m', m' < m ∧ W (i + 1) m' σ' H') ∧ ∀ x H', (Itl K a).yld i H x H' → g x σ H' fun σ2 H2 => tb { D with nx := N, ct := N, bk := D.nx } σ2 H2) := by
  refine ⟨fun i m σ H => m = xs.length - i ∧ i ≤ xs.length ∧ Pv i σ H, ⟨xs.length, by simp, Nat.zero_le _, h0⟩, ?_⟩
  rintro i m σ H ⟨rfl, hi, p⟩
  have q := hl i σ H hi p
  by_cases hlt : i < xs.length
  · refine .inr ⟨⟨xs, xs[i], q, by simp [hlt]⟩, Pv (i + 1), fun σ' H' p' => ⟨xs.length - (i + 1), by omega, rfl, hlt, p'⟩, fun x H' y => ?_⟩
    obtain ⟨e, y⟩ := y
    subst e
    exact hs i x σ _ (y xs q) p
  · have e : i = xs.length := by omega
    subst e
    exact .inl ⟨⟨xs, q, Nat.le_refl _⟩, hd σ H p⟩
theorem for_range {lo : Int} {n : Nat} {g : TG} {tb : TS} {D : Ends} {σ : St} {H : Hp} (Pv : Nat → St → Hp → Prop) (h0 : Pv 0 σ H)
    (hs : ∀ i σ H, i < n → Pv i σ H → g (.int (lo + i)) σ H fun σ2 H2 => tb { D with nx := Pv (i + 1), ct := Pv (i + 1), bk := D.nx } σ2 H2) (hd : ∀ σ H, Pv n σ H → D.nx σ H) :
    ∃ W : Nat → Nat → St → Hp → Prop, (∃ m, W 0 m σ H) ∧ ∀ i m σ H, W i m σ H →
      ((Itr lo n).stop i H ∧ D.nx σ H) ∨ ((Itr lo n).go i H ∧ ∃ N : St → Hp → Prop, (∀ σ' H', N σ' H' → ∃ m', m' < m ∧ W (i + 1) m' σ' H') ∧ ∀ x H', (Itr lo n).yld i H x H' → g x σ H' fun σ2 H2 => tb { D with nx := N, ct := N, bk := D.nx } σ2 H2) := by
  refine ⟨fun i m σ H => m = n - i ∧ i ≤ n ∧ Pv i σ H, ⟨n, by simp, Nat.zero_le _, h0⟩, ?_⟩
  rintro i m σ H ⟨rfl, hi, p⟩
  by_cases hlt : i < n
  · refine .inr ⟨hlt, Pv (i + 1), fun σ' H' p' => ⟨n - (i + 1), by omega, rfl, hlt, p'⟩, fun x H' y => ?_⟩
    obtain ⟨e, y⟩ := y
    subst e y
    exact hs i σ _ hlt p
  · have e : i = n := by omega
    subst e
    exact .inl ⟨Nat.le_refl _, hd σ H p⟩
end L2

namespace L2
open PySem PySem.Spec PyProof.Rows

abbrev R2 := V → V → Hp → VK → Prop
/-- a two-place operation on values: f is binaryOp op, inplaceOp op or compareOp op -/
def OpR (X : Cx) (f : Value → Value → Sem Value) (r : R2) : Prop :=
  ∀ (pins : List (Addr × Obj)) (s : Shared) (σ : St) (H : Hp) (x y : V) (v u : Value) (Q : VK), Inv X pins σ H s → RelV x v → RelV y u → r x y H Q →
    wpAny (model X.prog X.w) X.A (f v u) (EP X pins σ Q) X.xe s
/-- a call of a value that is known (a builtin, a type) with values -/
def CallR (X : Cx) (f : Value) (r : List V → Hp → VK → Prop) : Prop :=
  ∀ (pins : List (Addr × Obj)) (s : Shared) (σ : St) (H : Hp) (xs : List V) (us : List Value) (Q : VK), Inv X pins σ H s → Vals xs us → r xs H Q →
    wpAny (model X.prog X.w) X.A (call f us) (EP X pins σ Q) X.xe s
/-- a value's truth -/
def TruR (X : Cx) (r : V → Hp → (Bool → Hp → Prop) → Prop) : Prop :=
  ∀ (pins : List (Addr × Obj)) (s : Shared) (σ : St) (H : Hp) (x : V) (v : Value) (Q : Bool → Hp → Prop), Inv X pins σ H s → RelV x v → r x H Q →
    wpAny (model X.prog X.w) X.A (truthy v) (TP X pins σ Q) X.xe s

def tOp (r : R2) (ta tb : TE) : TE := fun σ H Q => ta σ H fun x H1 => tb σ H1 fun y H2 => r x y H2 Q
/-- ints in, under C, and a value out -/
def rI (C : Int → Int → Prop) (g : Int → Int → V) : R2 := fun x y H Q => ∃ i j, x = .int i ∧ y = .int j ∧ C i j ∧ Q (g i j) H
def rI0 (g : Int → Int → V) : R2 := fun x y H Q => ∃ i j, x = .int i ∧ y = .int j ∧ Q (g i j) H
section
variable {X : Cx} {a b c : Expr} {ta tb tc : TE} {pos : Pos}

theorem binT (ha : PE X a ta) (hb : PE X b tb) {pins : List (Addr × Obj)} {s : Shared} {σ : St} {H : Hp} {R : V → V → Hp → Prop} (I : Inv X pins σ H s)
    (h : ta σ H fun x H1 => tb σ H1 fun y H2 => R x y H2) {Q : Value → Shared → Prop} {f : Value → Value → Sem Value}
    (hf : ∀ v u s2 x y H2, Inv X pins σ H2 s2 → RelV x v → RelV y u → R x y H2 → wpAny (model X.prog X.w) X.A (f v u) Q X.xe s2) :
    wpAny (model X.prog X.w) X.A (eval a X.env) (fun v s₁ => wpAny (model X.prog X.w) X.A (eval b X.env) (fun u s₂ => wpAny (model X.prog X.w) X.A (f v u) Q X.xe s₂) X.xe s₁) X.xe s := by
  refine thn (ha pins s σ H _ I h) fun v s1 ⟨x, H1, I1, r1, q1⟩ => ?_
  refine thn (hb pins s1 σ H1 _ I1 q1) fun u s2 ⟨y, H2, I2, r2, q2⟩ => ?_
  exact hf v u s2 x y H2 I2 r1 r2 q2

theorem pe_op {op : Operator} {r : R2} (ho : OpR X (binaryOp op) r) (ha : PE X a ta) (hb : PE X b tb) : PE X (.BinOp a op b pos) (tOp r ta tb) := by
  intro pins s σ H Q I h
  exact wpAny_BinOp (binT ha hb I h fun v u s2 x y H2 I2 rx ry q => ho pins s2 σ H2 x y v u Q I2 rx ry q)
/-! ### ints -/
theorem opI {f : Value → Value → Sem Value} {C : Int → Int → Prop} {g : Int → Int → Int}
    (rule : ∀ (i j : Int) (t u : Tok) (s : Shared) (Q : Value → Shared → Prop) (E : Value → Shared → Prop), C i j → Q (.int (g i j) s.toks) { s with toks := s.toks + 1 } → wpAny (model X.prog X.w) X.A (f (.int i t) (.int j u)) Q E s) :
    OpR X f (rI C fun i j => .int (g i j)) := by
  intro pins s σ H x y v u Q I rx ry h
  obtain ⟨i, j, rfl, rfl, hc, q⟩ := h
  obtain ⟨t, rfl⟩ := rx
  obtain ⟨t', rfl⟩ := ry
  exact rule i j t t' s _ _ hc ⟨.int (g i j), H, I.tok _, ⟨_, rfl⟩, q⟩
theorem opI0 {f : Value → Value → Sem Value} {g : Int → Int → Int}
    (rule : ∀ (i j : Int) (t u : Tok) (s : Shared) (Q : Value → Shared → Prop) (E : Value → Shared → Prop), Q (.int (g i j) s.toks) { s with toks := s.toks + 1 } → wpAny (model X.prog X.w) X.A (f (.int i t) (.int j u)) Q E s) :
    OpR X f (rI0 fun i j => .int (g i j)) := by
  intro pins s σ H x y v u Q I rx ry h
  obtain ⟨i, j, rfl, rfl, q⟩ := h
  obtain ⟨t, rfl⟩ := rx
  obtain ⟨t', rfl⟩ := ry
  exact rule i j t t' s _ _ ⟨.int (g i j), H, I.tok _, ⟨_, rfl⟩, q⟩
theorem opB0 {f : Value → Value → Sem Value} {g : Int → Int → Bool}
    (rule : ∀ (i j : Int) (t u : Tok) (s : Shared) (Q : Value → Shared → Prop) (E : Value → Shared → Prop), Q (.bool (g i j)) s → wpAny (model X.prog X.w) X.A (f (.int i t) (.int j u)) Q E s) :
    OpR X f (rI0 fun i j => .bl (g i j)) := by
  intro pins s σ H x y v u Q I rx ry h
  obtain ⟨i, j, rfl, rfl, q⟩ := h
  obtain ⟨t, rfl⟩ := rx
  obtain ⟨t', rfl⟩ := ry
  exact rule i j t t' s _ _ ⟨.bl (g i j), H, I, rfl, q⟩

def CDiv (i j : Int) : Prop := 0 < j ∧ j < 1073741824
def CPow (i j : Int) : Prop := 0 ≤ j ∧ j ≤ 1000000 ∧ i.natAbs < 2 ^ 64
def CMul (i j : Int) : Prop := (-(2 ^ 64) < i ∧ i < 2 ^ 64) ∨ (-(2 ^ 64) < j ∧ j < 2 ^ 64)
theorem CMul.ok {i j : Int} (h : CMul i j) : IntMulOk i j := by
  rcases h with ⟨h1, h2⟩ | ⟨h1, h2⟩
  · exact .of_left (intBits_le_64 h1 h2)
  · exact .of_right (intBits_le_64 h1 h2)
theorem op_add : OpR X (binaryOp .Add) (rI0 fun i j => .int (i + j)) := opI0 fun _ _ _ _ _ _ _ q => add_int q
theorem op_sub : OpR X (binaryOp .Sub) (rI0 fun i j => .int (i - j)) := opI0 fun _ _ _ _ _ _ _ q => sub_int q
theorem op_mul : OpR X (binaryOp .Mult) (rI CMul fun i j => .int (i * j)) := opI fun _ _ _ _ _ _ _ hc q => mul_int q hc.ok
/-- // by a positive divisor -/
theorem op_fdiv : OpR X (binaryOp .FloorDiv) (rI CDiv fun i j => .int (i / j)) := opI fun i j _ _ _ _ _ hc q => by
  have h1 : (0 : Int) < j := hc.1
  have h2 : j < 1073741824 := hc.2
  exact floordiv_int (by omega) (by rw [Int.fdiv_eq_ediv_of_nonneg i (by omega)]; exact q) (.inl (PyProof.noPylong_small (by omega)))
/-- % by a positive divisor of any size -/
theorem op_mod : OpR X (binaryOp .Mod) (rI (fun _ j => 0 < j) fun i j => .int (i % j)) := opI fun i j _ _ _ _ _ hc q => by
  have h1 : (0 : Int) < j := hc
  exact mod_int' (by omega) (by rw [Int.fmod_eq_emod_of_nonneg i (by omega)]; exact q)
theorem op_pow : OpR X (binaryOp .Pow) (rI CPow fun i j => .int (i ^ j.toNat)) := opI fun _ _ _ _ _ _ _ hc q => pow_int_small hc.1 hc.2.1 hc.2.2 q
/-! ### bools among ints: n += (a < b) -/
end

/-! ### comparisons -/
/-- the scalars that == tells apart as data does -/
def scal : V → V → Bool
  | .non, .non => true | .non, .int _ => true | .int _, .non => true | .non, .bl _ => true | .bl _, .non => true | .non, .str _ => true | .str _, .non => true
  | .int _, .int _ => true | .bl _, .bl _ => true | .str _, .str _ => true | .byt _, .byt _ => true
  | .int _, .str _ => true | .str _, .int _ => true | .bl _, .str _ => true | .str _, .bl _ => true
  | _, _ => false
def rEq : R2 := fun x y H Q => scal x y = true ∧ Q (.bl (decide (x = y))) H
def rNe : R2 := fun x y H Q => scal x y = true ∧ Q (.bl (!decide (x = y))) H

theorem dec_int {i j : Int} : decide (V.int i = V.int j) = (i == j) := by
  rw [Bool.eq_iff_iff]
  simp
theorem dec_bl {i j : Bool} : decide (V.bl i = V.bl j) = (i == j) := by
  rw [Bool.eq_iff_iff]
  simp
theorem dec_str {i j : Str} : decide (V.str i = V.str j) = (i == j) := by
  rw [Bool.eq_iff_iff]
  simp
theorem dec_byt {i j : Array UInt8} : decide (V.byt i = V.byt j) = (i.toList == j.toList) := by
  rw [Bool.eq_iff_iff]
  cases i
  cases j
  simp

section
variable {X : Cx} {a b c : Expr} {ta tb tc : TE} {pos : Pos}
theorem fin_bl {pins : List (Addr × Obj)} {σ : St} {H : Hp} {s : Shared} {Q : VK} {k k' : Bool} (I : Inv X pins σ H s) (q : Q (.bl k) H) (e : k = k') : EP X pins σ Q (.bool k') s := by
  subst e
  exact ⟨.bl k, H, I, rfl, q⟩
theorem op_eq : OpR X (compareOp .Eq) rEq := by
  intro pins s σ H x y v u Q I rx ry h
  obtain ⟨hs, q⟩ := h
  cases x with
  | non =>
    cases rx
    cases y with
    | non => cases ry; exact PySem.EqNone.eq_none_none (fin_bl I q (by simp))
    | bl j => cases ry; exact PySem.EqNone.eq_none_bool (fin_bl I q (by simp))
    | int j => obtain ⟨t', rfl⟩ := ry; exact PySem.EqNone.eq_none_int (fin_bl I q (by simp))
    | str j => obtain ⟨t', rfl⟩ := ry; exact PySem.EqNone.eq_none_str (fin_bl I q (by simp))
    | _ => exact absurd (show false = true from hs) Bool.false_ne_true
  | bl i =>
    cases rx
    cases y with
    | non => cases ry; exact PySem.EqNone.eq_bool_none (fin_bl I q (by simp))
    | bl j => cases ry; exact eq_bool (fin_bl I q dec_bl)
    | str j => obtain ⟨t', rfl⟩ := ry; exact PySem.EqMixed.eq_bool_str (fin_bl I q (by simp))
    | _ => exact absurd (show false = true from hs) Bool.false_ne_true
  | int i =>
    obtain ⟨t, rfl⟩ := rx
    cases y with
    | non => cases ry; exact PySem.EqNone.eq_int_none (fin_bl I q (by simp))
    | int j => obtain ⟨t', rfl⟩ := ry; exact eq_int (fin_bl I q dec_int)
    | str j => obtain ⟨t', rfl⟩ := ry; exact PySem.EqMixed.eq_int_str (fin_bl I q (by simp))
    | _ => exact absurd (show false = true from hs) Bool.false_ne_true
  | str i =>
    obtain ⟨t, rfl⟩ := rx
    cases y with
    | non => cases ry; exact PySem.EqNone.eq_str_none (fin_bl I q (by simp))
    | bl j => cases ry; exact PySem.EqMixed.eq_str_bool (fin_bl I q (by simp))
    | int j => obtain ⟨t', rfl⟩ := ry; exact PySem.EqMixed.eq_str_int (fin_bl I q (by simp))
    | str j => obtain ⟨t', rfl⟩ := ry; exact eq_str (fin_bl I q dec_str)
    | _ => exact absurd (show false = true from hs) Bool.false_ne_true
  | byt i =>
    obtain ⟨t, rfl⟩ := rx
    cases y with
    | byt j => obtain ⟨t', rfl⟩ := ry; exact PySem.W.eq_bytes (fin_bl I q dec_byt)
    | _ => exact absurd (show false = true from hs) Bool.false_ne_true
  | _ => cases y <;> exact absurd (show false = true from hs) Bool.false_ne_true
theorem op_ne : OpR X (compareOp .NotEq) rNe := by
  intro pins s σ H x y v u Q I rx ry h
  obtain ⟨hs, q⟩ := h
  cases x with
  | non =>
    cases rx
    cases y with
    | non => cases ry; exact PySem.EqNone.ne_none_none (fin_bl I q (by simp))
    | bl j => cases ry; exact PySem.EqNone.ne_none_bool (fin_bl I q (by simp))
    | int j => obtain ⟨t', rfl⟩ := ry; exact PySem.EqNone.ne_none_int (fin_bl I q (by simp))
    | str j => obtain ⟨t', rfl⟩ := ry; exact PySem.EqNone.ne_none_str (fin_bl I q (by simp))
    | _ => exact absurd (show false = true from hs) Bool.false_ne_true
  | bl i =>
    cases rx
    cases y with
    | non => cases ry; exact PySem.EqNone.ne_bool_none (fin_bl I q (by simp))
    | bl j => cases ry; exact ne_bool (fin_bl I q (congrArg not dec_bl))
    | str j => obtain ⟨t', rfl⟩ := ry; exact PySem.EqMixed.ne_bool_str (fin_bl I q (by simp))
    | _ => exact absurd (show false = true from hs) Bool.false_ne_true
  | int i =>
    obtain ⟨t, rfl⟩ := rx
    cases y with
    | non => cases ry; exact PySem.EqNone.ne_int_none (fin_bl I q (by simp))
    | int j => obtain ⟨t', rfl⟩ := ry; exact ne_int (fin_bl I q (congrArg not dec_int))
    | str j => obtain ⟨t', rfl⟩ := ry; exact PySem.EqMixed.ne_int_str (fin_bl I q (by simp))
    | _ => exact absurd (show false = true from hs) Bool.false_ne_true
  | str i =>
    obtain ⟨t, rfl⟩ := rx
    cases y with
    | non => cases ry; exact PySem.EqNone.ne_str_none (fin_bl I q (by simp))
    | bl j => cases ry; exact PySem.EqMixed.ne_str_bool (fin_bl I q (by simp))
    | int j => obtain ⟨t', rfl⟩ := ry; exact PySem.EqMixed.ne_str_int (fin_bl I q (by simp))
    | str j => obtain ⟨t', rfl⟩ := ry; exact ne_str (fin_bl I q (congrArg not dec_str))
    | _ => exact absurd (show false = true from hs) Bool.false_ne_true
  | byt i =>
    obtain ⟨t, rfl⟩ := rx
    cases y with
    | byt j => obtain ⟨t', rfl⟩ := ry; exact PySem.W.ne_bytes (fin_bl I q (congrArg not dec_byt))
    | _ => exact absurd (show false = true from hs) Bool.false_ne_true
  | _ => cases y <;> exact absurd (show false = true from hs) Bool.false_ne_true

theorem op_lt : OpR X (compareOp .Lt) (rI0 fun i j => .bl (decide (i < j))) := opB0 fun _ _ _ _ _ _ _ q => lt_int q
theorem op_le : OpR X (compareOp .LtE) (rI0 fun i j => .bl (decide (i ≤ j))) := opB0 fun _ _ _ _ _ _ _ q => le_int q
theorem op_gt : OpR X (compareOp .Gt) (rI0 fun i j => .bl (decide (j < i))) := opB0 fun _ _ _ _ _ _ _ q => gt_int q
theorem op_ge : OpR X (compareOp .GtE) (rI0 fun i j => .bl (decide (j ≤ i))) := opB0 fun _ _ _ _ _ _ _ q => ge_int q
/-- the one string within the other -/
theorem op_in_str : OpR X (compareOp .In) (fun x y H Q => ∃ i j, x = .str i ∧ y = .str j ∧ Q (.bl (!(Builtin.Str.occurrences j i 0 j.length 1).isEmpty)) H) := by
  intro pins s σ H x y v u Q I rx ry h
  obtain ⟨i, j, rfl, rfl, q⟩ := h
  obtain ⟨t, rfl⟩ := rx
  obtain ⟨t', rfl⟩ := ry
  exact in_str (fin_bl I q rfl)

theorem op_notN : OpR X (compareOp .IsNot) (fun x y H Q => y = .non ∧ Q (.bl (!decide (x = .non))) H) := by
  intro pins s σ H x y v u Q I rx ry h
  obtain ⟨rfl, q⟩ := h
  cases ry
  refine isnot_none_gen (fin_bl I q ?_)
  cases x <;> first
    | (cases rx; rfl)
    | (obtain ⟨t, rfl⟩ := rx; rfl)

theorem nomark (b : Expr) {op : CmpOp} (h : op ≠ .In := by decide) (h2 : op ≠ .NotIn := by decide) : behindInMarks op b = false := by
  have e1 : (op == CmpOp.In) = false := by cases op <;> first | rfl | exact absurd rfl h
  have e2 : (op == CmpOp.NotIn) = false := by cases op <;> first | rfl | exact absurd rfl h2
  cases b <;> simp [behindInMarks, e1, e2]
/-- a comparison as a value; hm: nomark b, or (for in, not in) by with_unfolding_all rfl -/
theorem pe_cmpR {op : CmpOp} {r : R2} (ho : OpR X (compareOp op) r) (ha : PE X a ta) (hb : PE X b tb) (hm : behindInMarks op b = false) : PE X (.Compare a [op] [b] pos) (tOp r ta tb) := by
  intro pins s σ H Q I h
  exact wpAny_Compare1 (binT ha hb I h fun v u s2 x y H2 I2 rx ry q => ho pins s2 σ H2 x y v u Q I2 rx ry q) hm
/-- a reading of a value as a test -/
def tTest (t : TE) : TT := fun σ H Q => t σ H fun x H' => ∃ k, x = .bl k ∧ Q k H'
theorem pt_cmpR {op : CmpOp} {r : R2} (ho : OpR X (compareOp op) r) (ha : PE X a ta) (hb : PE X b tb) (hm : behindInMarks op b = false) : PT X (.Compare a [op] [b] pos) (tTest (tOp r ta tb)) := by
  intro pins s σ H Q I h
  refine wpAny_isTrue_Compare1 (thn (ha pins s σ H _ I h) fun v s1 ⟨x, H1, I1, r1, q1⟩ => thn (hb pins s1 σ H1 _ I1 q1) fun u s2 ⟨y, H2, I2, r2, q2⟩ =>
    thn (ho pins s2 σ H2 x y v u _ I2 r1 r2 q2) fun c s3 ⟨z, H3, I3, r3, k, e, q3⟩ => ?_) hm
  subst e
  cases r3
  exact wpAny_truthy_bool ⟨H3, I3, q3⟩
/-- a op1 b op2 c -/
def tChain (r r' : R2) (ta tb tc : TE) : TE := fun σ H Q => ta σ H fun x H1 => tb σ H1 fun y H2 => r x y H2 fun z H3 => ∃ k, z = .bl k ∧
  (if k = true then tc σ H3 fun w' H4 => r' y w' H4 Q else Q (.bl false) H3)
theorem pt_chain {op op' : CmpOp} {r r' : R2} (ho : OpR X (compareOp op) r) (ho' : OpR X (compareOp op') r') (ha : PE X a ta) (hb : PE X b tb) (hc : PE X c tc)
    (hm : lastMarks [op, op'] [b, c] = false := by with_unfolding_all rfl) : PT X (.Compare a [op, op'] [b, c] pos) (tTest (tChain r r' ta tb tc)) := by
  intro pins s σ H Q I h
  refine isTrue_chain (thn (ha pins s σ H _ I h) fun v s1 ⟨x, H1, I1, r1, q1⟩ => test_link (thn (hb pins s1 σ H1 _ I1 q1) fun u s2 ⟨y, H2, I2, r2, q2⟩ =>
    thn (ho pins s2 σ H2 x y v u _ I2 r1 r2 q2) fun d s3 ⟨z, H3, I3, r3, k, e, q3⟩ => ?_)) hm
  subst e
  cases r3
  refine wpAny_truthy_bool ?_
  cases k with
  | false =>
    obtain ⟨k', e', q'⟩ := q3
    cases e'
    exact ite_ff ⟨H3, I3, q'⟩
  | true =>
    refine ite_tt (test_last (thn (hc pins s3 σ H3 _ I3 q3) fun w' s4 ⟨z', H4, I4, r4, q4⟩ => thn (ho' pins s4 σ H4 y z' u w' _ I4 r2 r4 q4) fun d' s5 ⟨z2, H5, I5, r5, k2, e2, q5⟩ => ?_))
    subst e2
    cases r5
    exact wpAny_truthy_bool ⟨H5, I5, q5⟩

/-! ### truth -/
/-- a value's truth by the abstract heap -/
def TruV (K : PySem.W.Frag) (x : V) (H : Hp) (k : Bool) : Prop :=
  match x with
  | .non => k = false
  | .bl b => k = b
  | .int i => k = (i != 0)
  | .str y => y.length ≤ sizeLine ∧ k = ((y.length : Int) != 0)
  | .byt y => y.size ≤ sizeLine ∧ k = ((y.size : Int) != 0)
  | .ref p => (∃ xs, SqL K H p xs ∧ k = !xs.isEmpty) ∨ (∃ xs, SqT K H p xs ∧ k = !xs.isEmpty) ∨ ∃ kvs, H p = some (.dK kvs) ∧ k = !kvs.isEmpty
  | _ => False
theorem isEmpty_kv {κ : Type} {kvs : List (κ × V)} {vs : List (κ × Value)} (r : KV kvs vs) : (!vs.isEmpty) = !kvs.isEmpty := by
  cases r <;> rfl
theorem isEmpty_of {xs : List V} {its : List Value} (r : Vals xs its) : (!its.toArray.isEmpty) = !xs.isEmpty := by
  cases r <;> simp
theorem line63 : (sizeLine : Nat) < 2 ^ 63 := by rw [sizeLine_eq]; decide
theorem tru_ok : TruR X (fun x H Q => ∃ k, TruV X.K x H k ∧ Q k H) := by
  intro pins s σ H x v Q I rx h
  obtain ⟨k, e, q⟩ := h
  have hl := line63
  have hs : sizeLine = 16777216 := sizeLine_eq
  cases x with
  | non =>
    cases rx
    have e' : k = false := e
    subst e'
    exact truthy_none ⟨H, I, q⟩
  | bl b =>
    cases rx
    have e' : k = b := e
    subst e'
    exact wpAny_truthy_bool ⟨H, I, q⟩
  | int i =>
    obtain ⟨t, rfl⟩ := rx
    have e' : k = (i != 0) := e
    subst e'
    exact PySem.P.truthy_int ⟨H, I, q⟩
  | str y =>
    obtain ⟨t, rfl⟩ := rx
    obtain ⟨hy, e'⟩ : y.length ≤ sizeLine ∧ k = ((y.length : Int) != 0) := e
    subst e'
    exact PySem.P.truthy_str (by omega) ⟨H, I.tok _, q⟩
  | byt y =>
    obtain ⟨t, rfl⟩ := rx
    obtain ⟨hy, e'⟩ : y.size ≤ sizeLine ∧ k = ((y.size : Int) != 0) := e
    subst e'
    exact PySem.W.truthy_bytes (by omega) ⟨H, I.tok _, q⟩
  | ref p =>
    cases rx
    have e' : (∃ xs, SqL X.K H p xs ∧ k = !xs.isEmpty) ∨ (∃ xs, SqT X.K H p xs ∧ k = !xs.isEmpty) ∨ ∃ kvs, H p = some (.dK kvs) ∧ k = !kvs.isEmpty := e
    rcases e' with ⟨xs, hx, e'⟩ | ⟨xs, hx, e'⟩ | ⟨kvs, hx, e'⟩
    · subst e'
      obtain ⟨its, r, pl, hz⟩ := I.list hx
      have hlen := r.length
      exact wpAny_truthy_list pl.isList (by simp only [List.size_toArray]; omega) ⟨H, I.tok _, by rw [isEmpty_of r]; exact q⟩
    · subst e'
      obtain ⟨its, r, pl, hz⟩ := I.tuple hx
      have hlen := r.length
      exact truthy_tuple pl (by simp only [List.size_toArray]; omega) ⟨H, I.tok _, by rw [isEmpty_of r]; exact q⟩
    · subst e'
      obtain ⟨hz, hS, vs, r, m⟩ : kvs.length ≤ sizeLine ∧ (p == sysModules) = false ∧ ∃ vs, KV kvs vs ∧ s.heap.DictOf (mixKind X.prog X.w) p vs := I.hok p _ hx
      have hlen : kvs.length = vs.length := Paired.length r
      exact wpAny_truthy_dict hS m (by omega) ⟨H, I.tok _, by rw [isEmpty_kv r]; exact q⟩
  | _ => exact (show False from e).elim
/-! ### strs and bytes -/
theorem op_add_str : OpR X (binaryOp .Add) (fun x y H Q => ∃ i j, x = .str i ∧ y = .str j ∧ i.length + j.length ≤ sizeLine ∧ Q (.str (i ++ j)) H) := by
  intro pins s σ H x y v u Q I rx ry h
  obtain ⟨i, j, rfl, rfl, hz, q⟩ := h
  obtain ⟨t, rfl⟩ := rx
  obtain ⟨t', rfl⟩ := ry
  exact add_str (fun t' tk => ⟨.str (i ++ j), H, I.tok _, ⟨_, rfl⟩, q⟩) hz
/-! ### scalar builtins, by CallR -/
theorem vals1 {x : V} {us : List Value} (r : Vals [x] us) : ∃ u, us = [u] ∧ RelV x u := by
  cases r with
  | cons r1 r2 => cases r2; exact ⟨_, rfl, r1⟩
theorem call_abs : CallR X (.builtin "abs") (fun xs H Q => ∃ i, xs = [.int i] ∧ Q (.int (if i < 0 then -i else i)) H) := by
  intro pins s σ H xs us Q I r h
  obtain ⟨i, rfl, q⟩ := h
  obtain ⟨u, rfl, t, rfl⟩ := vals1 r
  exact call_abs_int fun u tk => ⟨.int (if i < 0 then -i else i), H, I.tok _, ⟨_, rfl⟩, q⟩
/-- len of a str, a bytes, a list, a tuple -/
def LenV (K : PySem.W.Frag) (x : V) (H : Hp) (n : Nat) : Prop :=
  match x with
  | .str y => y.length ≤ sizeLine ∧ n = y.length
  | .byt y => y.size ≤ sizeLine ∧ n = y.size
  | .ref p => (∃ xs, SqL K H p xs ∧ n = xs.length) ∨ ∃ xs, SqT K H p xs ∧ n = xs.length
  | _ => False
theorem call_len : CallR X (.builtin "len") (fun xs H Q => ∃ x n, xs = [x] ∧ LenV X.K x H n ∧ Q (.int n) H) := by
  intro pins s σ H xs us Q I r h
  obtain ⟨x, n, rfl, e, q⟩ := h
  obtain ⟨u, rfl, rx⟩ := vals1 r
  have hl := line63
  have hs : sizeLine = 16777216 := sizeLine_eq
  cases x with
  | str y =>
    obtain ⟨t, rfl⟩ := rx
    obtain ⟨hy, e'⟩ : y.length ≤ sizeLine ∧ n = y.length := e
    subst e'
    exact len_str (by omega) ⟨.int _, H, I.tok _, ⟨_, rfl⟩, q⟩
  | byt y =>
    obtain ⟨t, rfl⟩ := rx
    obtain ⟨hy, e'⟩ : y.size ≤ sizeLine ∧ n = y.size := e
    subst e'
    exact PySem.W.len_bytes (by omega) ⟨.int _, H, I.tok _, ⟨_, rfl⟩, q⟩
  | ref p =>
    cases rx
    have e' : (∃ xs, SqL X.K H p xs ∧ n = xs.length) ∨ ∃ xs, SqT X.K H p xs ∧ n = xs.length := e
    rcases e' with ⟨xs, hx, e'⟩ | ⟨xs, hx, e'⟩
    · subst e'
      obtain ⟨its, r', pl, hz⟩ := I.list hx
      have hlen := r'.length
      exact Calls.call_len_list pl.isList (by simp only [List.size_toArray]; omega) ⟨.int xs.length, H, I.tok _, ⟨_, by simp only [List.size_toArray]; rw [hlen]⟩, q⟩
    · subst e'
      obtain ⟨its, r', pl, hz⟩ := I.tuple hx
      have hlen := r'.length
      exact len_tuple pl (by simp only [List.size_toArray]; omega) ⟨.int xs.length, H, I.tok _, ⟨_, by simp only [List.size_toArray]; rw [hlen]⟩, q⟩
  | _ => exact (show False from e).elim
end
end L2

namespace L2
open PySem PySem.Spec PyProof.Rows

/-! ### an instance, its attributes a map -/
structure ObjM (h : Heap) (x dx C : Addr) (mA : Str → Option Value) : Prop where
  obj : h.get? x = some (PySem.W.instObj C dx)
  ns : h.Ns1 dx mA
  ne : dx ≠ x

theorem lookIn_ns {h : Heap} {dx : Addr} {mA : Str → Option Value} (n : h.Ns1 dx mA) : ∃ od, h.get? dx = some od ∧ ∀ name, PySem.W.lookIn name od = some (mA name) := by
  obtain ⟨o, es, ep, ho, hd, hk, _, hm⟩ := n
  refine ⟨o, ho, fun name => ?_⟩
  have e := hm name
  unfold nsFind findBy at e
  rw [← Array.find?_toList] at e
  unfold PySem.W.lookIn
  rw [hd]
  dsimp only
  split
  · rename_i y q
    rw [q] at e
    exact congrArg some e
  · rename_i q
    rw [q] at e
    have a : es.toList.any (·.refKey) = false := by
      rw [List.any_eq_false]
      intro y hy
      obtain ⟨z, t, hkey⟩ := hk y (Array.mem_toList_iff.mp hy)
      simp [DictEntry.refKey, hkey]
    have a' : ¬ es.toList.any (·.refKey) = true := by rw [a]; exact Bool.false_ne_true
    rw [if_neg a']
    exact congrArg some e

theorem ObjM.look {h : Heap} {x dx C : Addr} {mA : Str → Option Value} (I : ObjM h x dx C mA) : ∃ od, PySem.W.InstAt h x (PySem.W.instObj C dx) C (some od) ∧ ∀ name, PySem.W.lookIn name od = some (mA name) :=
  let ⟨od, ho, hl⟩ := lookIn_ns I.ns
  ⟨od, ⟨I.obj, rfl, rfl, ho⟩, hl⟩

section
variable {prog : Program} {w : World} {A : Around} {E : Value → Shared → Prop} {s : Shared} {K : PySem.W.Frag} {x dx C f : Addr} {mA : Str → Option Value} {name : Str} {v : Value}

theorem get_map {expr : Bool} {Q : Value → Shared → Prop} (X : K.In s.heap) (I : ObjM s.heap x dx C mA) (hg : PySem.W.plainGet K C name = true) (hh : PySem.W.hasDictIn K C = true)
    (ha : PySem.W.findIn K (.ref C) name = some none) (hv : mA name = some v) (hv' : PySem.W.handedIn v = true) (h : Q v { s with toks := s.toks + 1 }) :
    wpAny (model prog w) A (getAttr (.ref x) name expr) Q E s := by
  obtain ⟨od, J, hl⟩ := I.look
  exact PySem.W.get_value X J (PySem.W.plainGet_of hg).1 (PySem.W.findObj_own hh ha rfl (by rw [hl, hv])) hv' h

theorem get_meth {pl : Sem Bool} {Q : Value × List Value → Shared → Prop} (X : K.In s.heap) (I : ObjM s.heap x dx C mA) (hg : PySem.W.plainGet K C name = true)
    (hf : PySem.W.findIn K (.ref C) name = some (some (.ref f))) (ht : PySem.W.isFn K (.ref f) = true) (hv : mA name = none) (h : Q (.ref f, [.ref x]) s) :
    wpAny (model prog w) A (getMethod (.ref x) name pl) Q E s := by
  obtain ⟨od, J, hl⟩ := I.look
  exact PySem.W.method_fn X J (PySem.W.plainGet_of hg).1 (PySem.W.plainGet_of hg).2 hf (beq_iff_eq.mp ht) (by show (PySem.W.lookIn name od).map (·.isSome) = some false; rw [hl, hv]; rfl) h

theorem set_map {ns : List Str} {Q : Unit → Shared → Prop} (X : K.In s.heap) (I : ObjM s.heap x dx C mA)
    (hs : PySem.W.findIn K (.ref C) "__setattr__" = some (some (.builtin "object.__setattr__"))) (hp : PySem.W.plainOver K C = true) (ht : PySem.W.takerIn K C name = some none) (hh : PySem.W.hasDictIn K C = true)
    (hw : PySem.Within mA ns) (hsz : ns.length ≤ sizeLine)
    (h : ∀ h', ObjM h' x dx C (fun y => if y = name then some v else mA y) → Heap.SameBut dx s.heap h' → Q () { s with heap := h', toks := s.toks + 2 }) :
    wpAny (model prog w) A (setAttr (.ref x) name v) Q E s := by
  obtain ⟨od, J, hl⟩ := I.look
  refine PySem.W.set_plain X J hs (PySem.W.osa_open (s := { s with toks := s.toks + 1 }) (r := none) X J hp ht fun b => ?_)
  obtain ⟨cd, hc, hd'⟩ := PySem.W.any_some hh
  have hx : s.heap.get? x = some ⟨.ref C, some dx, .plain, #[]⟩ := I.obj
  refine wpAny_bind (wpAny_pure (wpAny_bind (wpAny_bind (wpAny_loadPart hx (wpAny_bind (PySem.W.Looks.here (s := { s with toks := s.toks + 1 }) (PySem.W.looks_clsIn X hc) ?_))))))
  rw [hd']
  refine wpAny_pure (a := some dx) (wpAny_bind (wpAny_pure (wpAny_bind ?_)))
  refine wpAny_nsSet1 (s := { s with toks := s.toks + 1 }) I.ns fun h' hn2 hs2 => ?_
  obtain ⟨oD, esD, epD, hoD, hdD, hcD⟩ := hn2.count (PySem.Within.cons name v hw)
  refine wpAny_bind (wpAny_lookBehind hoD (by rw [hdD]; exact pastItsLine_dict (Nat.le_trans hcD (by rw [List.length_cons]; omega))) ?_)
  exact wpAny_pure (h _ ⟨(hs2.2 _ (Ne.symm I.ne)).trans I.obj, hn2, I.ne⟩ hs2)

/-- C(..): the dict at the heap's end, the instance behind it; then its __init__ -/
theorem make_map {R : Result → Shared → Prop} {vs : List Value} {kw : List (Str × Value)} (X : K.In s.heap) (hm : PySem.W.makesIn K C = true)
    (hi : PySem.W.findIn K (.ref C) "__init__" = some (some (.ref f))) (hf : PySem.W.typeIn K (.ref f) = some (.type "function"))
    (h : codeAny (model prog w) (A.under (.builtin "type.__call__" ⟨.ref C :: vs, kw⟩)) (.call (.ref f) ⟨.ref (s.heap.objs.size + 1) :: vs, kw⟩) (PySem.W.InitBack (s.heap.objs.size + 1) R)
      { s with heap := (s.heap.push PySem.W.emptyDict).push (PySem.W.instObj C s.heap.objs.size) }) :
    codeAny (model prog w) A (.call (.ref C) ⟨vs, kw⟩) R s := by
  obtain ⟨hh, g, d, t, os⟩ := s
  exact PySem.W.make_core (PySem.W.makes_of X hm) (PySem.W.looks_findIn X hi) (fun self => PySem.W.bind_fn X self hf) (.inl rfl) h
end

/-! ### the attributes as a list of pairs -/
def putF (f : Str) (v : V) : List (Str × V) → List (Str × V)
  | [] => [(f, v)]
  | (g, x) :: r => if g = f then (g, v) :: r else (g, x) :: putF f v r
theorem lookup_putF (f g : Str) (v : V) : ∀ fs : List (Str × V), (putF f v fs).lookup g = if g = f then some v else fs.lookup g
  | [] => by
    show List.lookup g [(f, v)] = _
    by_cases h : g = f
    · have hb : (g == f) = true := beq_iff_eq.mpr h
      simp only [List.lookup, hb, if_pos h]
    · have hb : (g == f) = false := beq_eq_false_iff_ne.mpr h
      simp only [List.lookup, hb, if_neg h]
  | (k, x) :: r => by
    have ih := lookup_putF f g v r
    rw [show putF f v ((k, x) :: r) = (if k = f then (k, v) :: r else (k, x) :: putF f v r) from rfl]
    by_cases hk : k = f
    · rw [if_pos hk]
      by_cases h : g = k
      · have hb : (g == k) = true := beq_iff_eq.mpr h
        simp only [List.lookup, hb, if_pos (h.trans hk)]
      · have hb : (g == k) = false := beq_eq_false_iff_ne.mpr h
        simp only [List.lookup, hb, if_neg (fun e : g = f => h (e.trans hk.symm))]
    · rw [if_neg hk]
      by_cases h : g = k
      · have hb : (g == k) = true := beq_iff_eq.mpr h
        simp only [List.lookup, hb, if_neg (fun e : g = f => hk (h.symm.trans e))]
      · have hb : (g == k) = false := beq_eq_false_iff_ne.mpr h
        simp only [List.lookup, hb]
        exact ih
theorem keys_putF (f : Str) (v : V) : ∀ fs : List (Str × V), f ∈ (putF f v fs).map (·.1) ∧ ∀ g, g ∈ fs.map (·.1) → g ∈ (putF f v fs).map (·.1)
  | [] => ⟨by simp [putF], fun g h => by simp at h⟩
  | (k, x) :: r => by
    obtain ⟨i1, i2⟩ := keys_putF f v r
    rw [show putF f v ((k, x) :: r) = (if k = f then (k, v) :: r else (k, x) :: putF f v r) from rfl]
    by_cases hk : k = f
    · rw [if_pos hk]
      subst hk
      exact ⟨by simp, fun g h => by simpa using h⟩
    · rw [if_neg hk]
      refine ⟨?_, fun g h => ?_⟩
      · rw [List.map_cons]
        exact List.mem_cons_of_mem _ i1
      · rw [List.map_cons] at h ⊢
        rcases List.mem_cons.mp h with e | e
        · exact List.mem_cons.mpr (.inl e)
        · exact List.mem_cons_of_mem _ (i2 g e)
theorem length_putF (f : Str) (v : V) : ∀ fs : List (Str × V), (putF f v fs).length ≤ fs.length + 1
  | [] => by simp [putF]
  | (k, x) :: r => by
    have ih := length_putF f v r
    rw [show putF f v ((k, x) :: r) = (if k = f then (k, v) :: r else (k, x) :: putF f v r) from rfl]
    by_cases hk : k = f
    · rw [if_pos hk, List.length_cons, List.length_cons]; omega
    · rw [if_neg hk, List.length_cons, List.length_cons]; omega

theorem RelO.some_of {v : V} {o : Option Value} (r : RelO (some v) o) : ∃ u, o = some u ∧ RelV v u := by
  cases o with
  | none => exact (show False from r).elim
  | some u => exact ⟨u, rfl, r⟩
theorem RelO.none_of {o : Option Value} (r : RelO none o) : o = none := by
  cases o with
  | none => rfl
  | some u => exact (show False from r).elim
theorem handed_of {v : V} {u : Value} (r : RelV v u) : PySem.W.handedIn u = true := by
  cases v with
  | non => cases (show u = Value.none from r); rfl
  | bl b => cases (show u = Value.bool b from r); rfl
  | int i => obtain ⟨t, e⟩ := (show ∃ t, u = Value.int i t from r); cases e; rfl
  | str x => obtain ⟨t, e⟩ := (show ∃ t, u = Value.str x t from r); cases e; rfl
  | byt b => obtain ⟨t, e⟩ := (show ∃ t, u = Value.bytes b t from r); cases e; rfl
  | flt b => obtain ⟨t, e⟩ := (show ∃ t, u = Value.float b t from r); cases e; rfl
  | ref a => cases (show u = Value.ref a from r); rfl
  | ty n => cases (show u = Value.type n from r); rfl

section
variable {P : Program} {w : World} {H H' : Hp} {h h' : Heap} {a C dx : Addr} {fs fs' : List (Str × V)}
theorem ins_get (hok : HOk P w H h) (e : H a = some (.ins C dx fs)) : ∃ mA, ObjM h a dx C mA ∧ (∀ f, RelO (fs.lookup f) (mA f)) ∧ PySem.Within mA (fs.map (·.1)) ∧ fs.length ≤ 1000 ∧ H dx = some (.own a) := by
  obtain ⟨d, z, ne, ob, mA, n, r, q⟩ := (show ObjOk P w H h a (.ins C dx fs) from hok a _ e)
  exact ⟨mA, ⟨ob, n, ne⟩, r, q, z, d⟩
end

/-! ### what of the text a class must have -/
structure Cls (K : PySem.W.Frag) (C : Addr) : Prop where
  pg : PySem.W.plainGet K C Str.empty = true
  hd : PySem.W.hasDictIn K C = true
  po : PySem.W.plainOver K C = true
  sa : PySem.W.findIn K (.ref C) "__setattr__" = some (some (.builtin "object.__setattr__"))
theorem Cls.get {K : PySem.W.Frag} {C : Addr} (c : Cls K C) (f : Str) : PySem.W.plainGet K C f = true := c.pg
/-- no class of it has the name -/
def NoAttr (K : PySem.W.Frag) (C : Addr) (f : Str) : Prop := PySem.W.findIn K (.ref C) f = some none
theorem NoAttr.taker {K : PySem.W.Frag} {C : Addr} {f : Str} (n : NoAttr K C f) : PySem.W.takerIn K C f = some none := by
  unfold PySem.W.takerIn
  rw [show PySem.W.findIn K (.ref C) f = some none from n]
  rfl
/-- a constant of the class -/
structure Con (K : PySem.W.Frag) (C : Addr) (f : Str) (v : V) (u : Value) : Prop where
  at_ : PySem.W.findIn K (.ref C) f = some (some u)
  rel : RelV v u
  get : PySem.W.specialIn K u "__get__" = some none
  cp : PySem.W.copiedNames.contains f = false
/-- a method: a plain def of the class or of one above it -/
structure Meth (K : PySem.W.Frag) (C : Addr) (m : Str) (f : Addr) : Prop where
  at_ : PySem.W.findIn K (.ref C) m = some (some (.ref f))
  fn : PySem.W.isFn K (.ref f) = true
  kp : PySem.W.keepIn K (.ref f) = true

section
variable {X : Cx} {pins : List (Addr × Obj)} {σ : St} {H : Hp} {s : Shared} {a C dx : Addr} {fs : List (Str × V)} {f : Str} {v : V} {A : Around} {E : Value → Shared → Prop}

theorem getattr_ok {b : Bool} {Q : Value → Shared → Prop} (I : Inv X pins σ H s) (e : H a = some (.ins C dx fs)) (c : Cls X.K C) (n : NoAttr X.K C f) (l : fs.lookup f = some v)
    (h : ∀ u s', Inv X pins σ H s' → RelV v u → Q u s') : wpAny (model X.prog X.w) A (getAttr (.ref a) f b) Q E s := by
  obtain ⟨mA, O, r, _, _, _⟩ := ins_get I.hok e
  obtain ⟨u, hu, ru⟩ := RelO.some_of (v := v) (o := mA f) (by rw [← l]; exact r f)
  exact get_map I.kIn O (c.get f) c.hd n hu (handed_of ru) (h u _ (I.tok _) ru)

theorem getmeth_ok {m : Str} {g : Addr} {pl : Sem Bool} {Q : Value × List Value → Shared → Prop} (I : Inv X pins σ H s) (e : H a = some (.ins C dx fs)) (c : Cls X.K C) (k : Meth X.K C m g) (l : fs.lookup m = none)
    (h : Q (.ref g, [.ref a]) s) : wpAny (model X.prog X.w) A (getMethod (.ref a) m pl) Q E s := by
  obtain ⟨mA, O, r, _, _, _⟩ := ins_get I.hok e
  have hn : mA m = none := RelO.none_of (by rw [← l]; exact r m)
  exact get_meth I.kIn O (c.get m) k.at_ k.fn hn h

theorem setattr_ok {y : V} {u : Value} {Q : Unit → Shared → Prop} (I : Inv X pins σ H s) (e : H a = some (.ins C dx fs)) (c : Cls X.K C) (n : NoAttr X.K C f) (hl : fs.length < 1000) (ry : RelV y u)
    (h : ∀ s', Inv X pins σ (upd H a (.ins C dx (putF f y fs))) s' → Q () s') : wpAny (model X.prog X.w) A (setAttr (.ref a) f u) Q E s := by
  obtain ⟨mA, O, r, wi, _, ho⟩ := ins_get I.hok e
  have hz : (fs.map (·.1)).length ≤ sizeLine := by rw [List.length_map, sizeLine_eq]; omega
  refine set_map I.kIn O c.sa c.po n.taker c.hd wi hz fun h' O' sb => h _ ?_
  have hd : ∃ o, h'.get? dx = some o := let ⟨o, _, _, e', _⟩ := O'.ns; ⟨o, e'⟩
  refine I.write (x := a) (e := dx) (by rw [e]; exact True.intro) (.inr ho) (fun b q hb z => (sb.2 b hb).trans z) hd ?_
  refine ⟨by rw [upd_ne O.ne]; exact ho, ?_, O.ne, O'.obj, _, O'.ns, fun g => ?_, fun g hg => ?_⟩
  · have := length_putF f y fs; omega
  · show RelO ((putF f y fs).lookup g) (if g = f then some u else mA g)
    rw [lookup_putF]
    by_cases q : g = f
    · rw [if_pos q, if_pos q]; exact ry
    · rw [if_neg q, if_neg q]; exact r g
  · by_cases q : g = f
    · rw [q]; exact (keys_putF f y fs).1
    · refine (keys_putF f y fs).2 g (wi g fun z => hg ?_)
      show (if g = f then some u else mA g) = none
      rw [if_neg q]; exact z

/-- a new instance, tracked, without attributes -/
theorem Inv.made (I : Inv X pins σ H s) : Inv X pins σ (upd (upd H s.heap.objs.size (.own (s.heap.objs.size + 1))) (s.heap.objs.size + 1) (.ins C s.heap.objs.size []))
    { s with heap := (s.heap.push PySem.W.emptyDict).push (PySem.W.instObj C s.heap.objs.size) } := by
  have e1 : (s.heap.push PySem.W.emptyDict).get? s.heap.objs.size = some PySem.W.emptyDict := Heap.get?_push_size s.heap rfl
  have e2 : ((s.heap.push PySem.W.emptyDict).push (PySem.W.instObj C s.heap.objs.size)).get? (s.heap.objs.size + 1) = some (PySem.W.instObj C s.heap.objs.size) := by
    have := Heap.get?_push_size (s.heap.push PySem.W.emptyDict) (o := PySem.W.instObj C s.heap.objs.size) rfl
    rwa [Heap.size_push] at this
  have e3 : (s.heap.push PySem.W.emptyDict).Ns s.heap.objs.size (fun _ => none) := ⟨PySem.W.emptyDict, #[], _, e1, rfl, (fun e he => absurd he (by simp)), fun _ => rfl⟩
  have I1 := I.laid (a := s.heap.objs.size) (o := .own (s.heap.objs.size + 1)) (h' := s.heap.push PySem.W.emptyDict) (t' := s.toks) (fun b u q => Heap.get?_push_of_some _ q) (Nat.le_refl _) ⟨_, e1⟩
  refine I1.laid (a := s.heap.objs.size + 1) (o := .ins C s.heap.objs.size []) (t' := s.toks) (fun b u q => Heap.get?_push_of_some _ q) (Nat.le_of_eq (Heap.size_push _ _)) ?_
  have ne : s.heap.objs.size ≠ s.heap.objs.size + 1 := Nat.ne_of_lt (Nat.lt_succ_self _)
  refine ⟨by rw [upd_ne ne, upd_same], Nat.zero_le _, ne, e2, fun _ => none, (Heap.Ns1.of_empty e3).at fun o q => Heap.get?_push_of_some _ q, fun _ => True.intro, fun y hy => absurd rfl hy⟩

/-- e.f where nothing but the object is asked: through attributeBase (super) and the last hold -/
theorem attr_of {prog : Program} {w : World} {env : Env} {e : Expr} {f : Str} {pos : Pos} {s : Shared} {Q : Value → Shared → Prop} (hb : attributeBase e f env (eval e env) = eval e env)
    (h : wpAny (model prog w) A (eval e env) (fun o s₁ => wpAny (model prog w) A (getAttr o f true) Q E s₁) E s) : wpAny (model prog w) A (eval (.Attribute e f pos) env) Q E s :=
  Attribute_any_ h (by rw [arm_eval_Attribute, hb])
end

/-! ### readings and rules -/
/-- e.f, an attribute of the instance -/
def tFld (K : PySem.W.Frag) (ta : TE) (f : Str) : TE := fun σ H Q => ta σ H fun x H1 => ∃ a C dx fs v, x = .ref a ∧ H1 a = some (.ins C dx fs) ∧ Cls K C ∧ NoAttr K C f ∧ fs.lookup f = some v ∧ Q v H1
/-- e.f = value -/
def sFld (K : PySem.W.Frag) (ta tv : TE) (f : Str) : TS := fun D σ H => tv σ H fun y H1 => ta σ H1 fun x H2 => ∃ a C dx fs, x = .ref a ∧ H2 a = some (.ins C dx fs) ∧ Cls K C ∧ NoAttr K C f ∧ fs.length < 1000 ∧
  D.nx σ (upd H2 a (.ins C dx (putF f y fs)))
section
variable {X : Cx} {o e value : Expr} {f : Str} {pos pos' tpos : Pos} {ta tv : TE}
theorem pe_fld (he : PE X e ta) (hb : attributeBase e f X.env (eval e X.env) = eval e X.env) : PE X (.Attribute e f pos) (tFld X.K ta f) := by
  intro pins s σ H Q I h
  refine attr_of hb (thn (he pins s σ H _ I h) fun u s1 ⟨x, H1, I1, rx, a, C, dx, fs, v, ex, ea, c, n, l, q⟩ => ?_)
  subst ex
  obtain rfl : u = Value.ref a := rx
  exact getattr_ok I1 ea c n l fun u' s2 I2 ru => ⟨v, H1, I2, ru, q⟩
theorem ps_fld (ha : PE X o ta) (hv : PE X value tv) (hs : swapsWith value (some (.Attribute o f pos')) pos.line X.env = pure false) : PS X (.Assign [.Attribute o f pos'] value pos) (sFld X.K ta tv f) := by
  intro pins s σ H D I h
  refine plainObj_wpAny_Assign_Attribute (thn (hv pins s σ H _ I h) fun u s1 ⟨y, H1, I1, ry, q⟩ => thn (ha pins s1 σ H1 _ I1 q) fun ov s2 ⟨x, H2, I2, rx, a, C, dx, fs, ex, ea, c, n, l, q2⟩ => ?_) hs
  subst ex
  obtain rfl : ov = Value.ref a := rx
  exact setattr_ok I2 ea c n l ry fun s3 I3 => ⟨σ, _, I3, q2⟩
/-- what is between an instance and its method: the tree of a method call -/
theorem methcall_of {pl : Sem Bool} {m : Str} {apos : Pos} {args : List Expr} {pins : List (Addr × Obj)} {s : Shared} {σ : St} {H : Hp} {Q : Value → Shared → Prop} {te : TE} (he : PE X e te) (I : Inv X pins σ H s)
    (h : te σ H fun x H1 => ∃ a C dx fs g, x = .ref a ∧ H1 a = some (.ins C dx fs) ∧ Cls X.K C ∧ Meth X.K C m g ∧ fs.lookup m = none ∧
      ∀ s1, Inv X pins σ H1 s1 → wpAny (model X.prog X.w) X.A (callWith pos (.ref g) [.ref a] (backTo pos (starEach args X.env)) (backToKw pos (keywordEach [] X.env))) Q X.xe s1)
    (ht : eval (.Call (.Attribute e m apos) args [] pos) X.env = (do
      let ov ← eval e X.env
      standAt apos.atName
      let (f, first) ← holding [ov] (getMethod ov m pl)
      callWith pos f first (backTo pos (starEach args X.env)) (backToKw pos (keywordEach [] X.env)))) :
    wpAny (model X.prog X.w) X.A (eval (.Call (.Attribute e m apos) args [] pos) X.env) Q X.xe s := by
  refine PySem.W.methodCall_KW (pl := pl) (thn (he pins s σ H _ I h) fun u s1 ⟨x, H1, I1, rx, a, C, dx, fs, g, ex, ea, c, k, l, q⟩ => ?_) ht
  subst ex
  obtain rfl : u = Value.ref a := rx
  exact getmeth_ok I1 ea c k l (q s1 I1)
end

/-! ### isinstance -/
section
variable {X : Cx} {pins : List (Addr × Obj)} {σ : St} {H : Hp} {s : Shared} {A : Around} {E : Value → Shared → Prop} {Q : Value → Shared → Prop} {c : Value} {b : Bool}
/-- the type of a value, as the fragment's deciders take it; for an instance its class -/
inductive TyOf (K : PySem.W.Frag) (H : Hp) : V → Value → Prop where
  | non : TyOf K H .non (.type "NoneType")
  | bl (x : Bool) : TyOf K H (.bl x) (.type "bool")
  | int (i : Int) : TyOf K H (.int i) (.type "int")
  | str (x : Str) : TyOf K H (.str x) (.type "str")
  | flt (x : UInt64) : TyOf K H (.flt x) (.type "float")
  | lst {a : Addr} {xs : List V} (e : H a = some (.lst xs)) : TyOf K H (.ref a) (.type "list")
  | frz {a : Addr} {o : Obj} {xs : List V} (e : H a = some (.frz o (.lst xs))) : TyOf K H (.ref a) (.type "list")
  | tup {a : Addr} {xs : List V} (e : H a = some (.tup xs)) : TyOf K H (.ref a) (.type "tuple")
  | dK {a : Addr} {kvs : List (Key × V)} (e : H a = some (.dK kvs)) : TyOf K H (.ref a) (.type "dict")
  | dT {a : Addr} {kvs : List (List Key × V)} (e : H a = some (.dT kvs)) : TyOf K H (.ref a) (.type "dict")
  | ins {a C dx : Addr} {fs : List (Str × V)} (e : H a = some (.ins C dx fs)) (cl : Cls K C) (ha : PySem.W.findIn K (.ref C) "__class__" = some (some (.builtin "object.__class__")))
      (hn : PySem.W.specialIn K (.builtin "object.__class__") "__get__" = some (some (.builtin "getset_descriptor.__get__"))) (htk : PySem.W.takesIn K (.builtin "object.__class__") = some true)
      (hm : PySem.W.mroIn K C (.type "object") = some true) : TyOf K H (.ref a) (.ref C)
end
end L2

namespace L2
open PySem PySem.Spec PyProof.Rows

/-! ### room -/
structure Room (k : Nat) (A : Around) : Prop where
  hd : A.handled = none
  dp : A.depth + 3 * k + 5 < recursionLimit
  un : A.units + 16 * k + 200 < cLine
theorem Room.mono {j k : Nat} {A : Around} (r : Room k A) (h : j ≤ k) : Room j A := ⟨r.hd, by have := r.dp; omega, by have := r.un; omega⟩
theorem Room.deeper {k : Nat} {A : Around} (r : Room (k + 1) A) (env : Env) : Room k (A.deeper env) :=
  ⟨r.hd, by have := r.dp; show A.depth + 1 + 3 * k + 5 < _; omega, by have := r.un; show A.units + 3 + 16 * k + 200 < _; omega⟩
theorem make_depth {A : Around} {C : Addr} {us : List Value} {kw : List (Str × Value)} : (A.under (.builtin "type.__call__" ⟨.ref C :: us, kw⟩)).depth = A.depth + 1 := by
  first | rfl | simp [Around.under, Code.weight, Code.isCreation, Code.isGuard, Code.isCaller, Code.frames, Code.isFrame, guardIds]
theorem make_units {A : Around} {C : Addr} {us : List Value} {kw : List (Str × Value)} : (A.under (.builtin "type.__call__" ⟨.ref C :: us, kw⟩)).units = A.units + 1 := by
  first | rfl | simp [Around.under, Code.cUnits, Code.frames, Code.isFrame]
theorem Room.make {k : Nat} {A : Around} (r : Room (k + 1) A) (C : Addr) (us : List Value) (kw : List (Str × Value)) : Room k (A.under (.builtin "type.__call__" ⟨.ref C :: us, kw⟩)) :=
  ⟨r.hd, by have := r.dp; rw [make_depth]; omega, by have := r.un; rw [make_units]; omega⟩
theorem Room.depth {k : Nat} {A : Around} (r : Room k A) : A.depth < recursionLimit := by have := r.dp; omega
theorem Room.units {k : Nat} {A : Around} (r : Room k A) : A.units + 64 < cLine := by have := r.un; omega
/-! ### argument lists and displays -/
def tNil : TA := fun _ H Q => Q [] H
def tCons (ta : TE) (tr : TA) : TA := fun σ H Q => ta σ H fun x H1 => tr σ H1 fun xs H2 => Q (x :: xs) H2
section
variable {X : Cx} {e : Expr} {es : List Expr} {te : TE} {t : TA} {pos : Pos}
theorem pa_nil : PA X [] tNil := fun _ _ _ _ H Q I h => Calls.spliced_nil ⟨[], H, I, .nil, h⟩
theorem pa_cons (ha : PE X e te) (hr : PA X es t) (hs : starEach (e :: es) X.env = (false, eval e X.env) :: starEach es X.env := by rfl) : PA X (e :: es) (tCons te t) := by
  intro pos pins s σ H Q I h
  rw [hs]
  show wpAny _ _ (spliced ((false, eval e X.env) :: backTo pos (starEach es X.env))) _ _ s
  refine Calls.spliced_cons (thn (ha pins s σ H _ I h) fun u s1 ⟨x, H1, I1, r1, q1⟩ => ?_)
  exact thn (hr pos pins s1 σ H1 _ I1 q1) fun us s2 ⟨xs, H2, I2, r2, q2⟩ => ⟨x :: xs, H2, I2, .cons r1 r2, q2⟩

/-- a tuple, a list of written items -/
def tTup (t : TA) : TE := fun σ H Q => t σ H fun xs H1 => xs.length ≤ sizeLine ∧ ∀ p, H1 p = none → Q (.ref p) (upd H1 p (.tup xs))
def tLst (t : TA) : TE := fun σ H Q => t σ H fun xs H1 => xs.length ≤ sizeLine ∧ ∀ p, H1 p = none → Q (.ref p) (upd H1 p (.lst xs))
theorem pe_tup {x1} (h : PA X es t) : PE X (.Tuple es x1 pos) (tTup t) := by
  intro pins s σ H Q I hq
  refine wpAny_Tuple_spliced (thn (h pos pins s σ H _ I hq) fun us s1 ⟨xs, H1, I1, r, z, q⟩ => ⟨by rw [← r.length]; exact z, ?_⟩)
  have hf : H1 s1.heap.objs.size = none := I1.hok.fresh (Nat.le_refl _)
  refine ⟨.ref s1.heap.objs.size, upd H1 s1.heap.objs.size (.tup xs), I1.laid (t' := s1.toks) (fun b u e => Heap.get?_push_of_some _ e) (Nat.le_refl _) ?_, rfl, q _ hf⟩
  exact ⟨z, us, r, ⟨_, Heap.get?_push_size _ rfl, rfl, _, rfl⟩⟩
theorem pe_lst (h : PA X es t) : PE X (.List es pos) (tLst t) := by
  intro pins s σ H Q I hq
  refine wpAny_List_spliced (thn (h pos pins s σ H _ I hq) fun us s1 ⟨xs, H1, I1, r, z, q⟩ => ⟨by rw [← r.length]; exact z, ?_⟩)
  have hf : H1 s1.heap.objs.size = none := I1.hok.fresh (Nat.le_refl _)
  refine ⟨.ref s1.heap.objs.size, upd H1 s1.heap.objs.size (.lst xs), I1.laid (t' := s1.toks) (fun b u e => Heap.get?_push_of_some _ e) (Nat.le_refl _) ?_, rfl, q _ hf⟩
  exact ⟨z, us, 0, r, Heap.get?_push_size _ rfl⟩
end

/-! ### what a def promises -/
/-- a def's promise: the bound arguments in the parameters' order, the heap, the wanted end, the wanted exception -/
abbrev Sp := List V → Hp → VK → XK → Prop
/-- how an exception lies behind a call (file 08 gives it): the callers' frames, abstract heap and state ahead of the call, the wish, the exception, the state -/
abbrev CXT := List Env → Hp → Shared → XK → Value → Shared → Prop

/-- the state at a call -/
structure Env0 (P : Program) (w : World) (K : PySem.W.Frag) (mg : Str → Option Value) (base : Heap) (A : Around) (outer : List Env) (s : Shared) (H : Hp) : Prop where
  frames : A.frames = some outer
  mod : Mod K mg base
  bs : ∀ b o, base.get? b = some o → s.heap.get? b = some o ∧ H b = none
  bsz : base.objs.size ≤ s.heap.objs.size
  funs : s.heap.FunFrames base outer
  frf : ∀ b ∈ frs outer, H b = none
  hok : HOk P w H s.heap
  bare : AllBare s.gens
/-- a call's end -/
def CE (outer : List Env) (P : Program) (w : World) (H : Hp) (s : Shared) (Q : VK) (u : Value) (s' : Shared) : Prop :=
  ∃ v H', s'.os = s.os ∧ AllBare s'.gens ∧ Un (frs outer) [] H H' s.heap s'.heap ∧ HOk P w H' s'.heap ∧ RelV v u ∧ Q v H'
def CR (CX : CXT) (outer : List Env) (P : Program) (w : World) (H : Hp) (s : Shared) (Q : VK) (E : XK) (r : Result) (s' : Shared) : Prop :=
  match r with
  | .ok (.ret u) => CE outer P w H s Q u s'
  | .ok _ => False
  | .error e => CX outer H s E e s'
structure FnOk (P : Program) (w : World) (K : PySem.W.Frag) (mg : Str → Option Value) (base : Heap) (CX : CXT) (k : Nat) (f : Addr) (fd : FuncData) (ps : List Str) (sp : Sp) : Prop where
  len : ∀ vs H Q E, sp vs H Q E → vs.length = ps.length
  run : ∀ (A : Around) (outer : List Env) (s : Shared) (H : Hp) (args : Args) (us : List Value) (vs : List V) (Q : VK) (E : XK), Room k A → Env0 P w K mg base A outer s H → BindsTo s fd args (ps.zip us) → Vals vs us → sp vs H Q E →
    codeAny (model P w) A (.call (.ref f) args) (CR CX outer P w H s Q E) s
theorem Env0.make {P : Program} {w : World} {K : PySem.W.Frag} {mg : Str → Option Value} {base : Heap} {A : Around} {outer : List Env} {s : Shared} {H : Hp} (e : Env0 P w K mg base A outer s H) (C : Addr) (us : List Value) (kw : List (Str × Value)) :
    Env0 P w K mg base (A.under (.builtin "type.__call__" ⟨.ref C :: us, kw⟩)) outer s H := ⟨by first | exact e.frames | (simpa [Around.under, Code.envs, Code.isFrame, pushEnvs] using e.frames), e.mod, e.bs, e.bsz, e.funs, e.frf, e.hok, e.bare⟩
section
variable {X : Cx} {pins : List (Addr × Obj)} {σ : St} {H : Hp} {s s' : Shared}
/-- from a body: what a callee wants -/
theorem Inv.env0 (I : Inv X pins σ H s) : Env0 X.prog X.w X.K X.mg X.base X.A X.stack s H :=
  ⟨I.ok.frames, I.ok.mod, I.bs, Nat.le_trans I.ok.bsz I.sz, I.stack, I.stkFree, I.hok, I.bare⟩
/-- behind a call -/
theorem Inv.after {Q : VK} {u : Value} (I : Inv X pins σ H s) (h : CE X.stack X.prog X.w H s Q u s') : EP X pins σ Q u s' := by
  obtain ⟨v, H', os, bare, un, hok, r, q⟩ := h
  obtain ⟨hh, g, d, t, os'⟩ := s'
  obtain rfl : os' = s.os := os
  exact ⟨v, H', I.call (h' := hh) (g' := g) (d' := d) (t' := t) (ch := []) un hok bare (fun b z => absurd z (by simp)), r, q⟩
end

/-! ### calls -/
/-- f(..): the written arguments, then the defaults dvs; E: what is wanted of an exception -/
def tCall (sp : Sp) (dvs : List V) (E : XK) (t : TA) : TE := fun σ H Q => t σ H fun vs H1 => sp (vs ++ dvs) H1 Q E
/-- o.m(..) of an instance of the class at C -/
def tMeth (C : Addr) (m : Str) (sp : Sp) (dvs : List V) (E : XK) (ta : TE) (t : TA) : TE := fun σ H Q => ta σ H fun x H1 => ∃ a dx fs, x = .ref a ∧ H1 a = some (.ins C dx fs) ∧ fs.lookup m = none ∧
  t σ H1 fun vs H2 => sp (x :: (vs ++ dvs)) H2 Q E
/-- C(..): a new instance and its dict, then __init__ -/
def tMake (C : Addr) (sp : Sp) (dvs : List V) (E : XK) (t : TA) : TE := fun σ H Q => t σ H fun vs H1 => ∀ x dx, H1 x = none → H1 dx = none → dx ≠ x →
  sp (.ref x :: (vs ++ dvs)) (upd (upd H1 dx (.own x)) x (.ins C dx [])) (fun v H2 => v = .non ∧ Q (.ref x) H2) E

/-- how the parameters are bound: us the positional arguments, kw the keywords' values by name, ds the defaults that fill up -/
def Binds (K : PySem.W.Frag) (fd : FuncData) (ps : List Str) (ds : List Value) : Prop :=
  ∀ (s : Shared) (us : List Value), K.In s.heap → (us ++ ds).length = ps.length → BindsTo s fd ⟨us, []⟩ (ps.zip (us ++ ds))
/-- every parameter is given -/
theorem Binds.all {K : PySem.W.Frag} {fd : FuncData} {ps : List Str} (h : ∀ us : List Value, us.length = ps.length → bindArgs fd ⟨us, []⟩ = pure (ps.zip us)) : Binds K fd ps [] := fun s us _ hl => by
  rw [List.append_nil] at hl ⊢
  exact .of_eq (h us hl)

/-- an exception of a callee reaches what this body wants of exceptions -/
def Passes (CX : CXT) (X : Cx) (E : XK) : Prop := ∀ (pins : List (Addr × Obj)) (σ : St) (H : Hp) (s : Shared) (e : Value) (s' : Shared), Inv X pins σ H s → CX X.stack H s E e s' → X.xe e s'

section
variable {X : Cx} {CX : CXT} {k : Nat} {f C : Addr} {fd : FuncData} {ps : List Str} {sp : Sp} {dvs : List V} {ds : List Value} {E : XK} {x m : Str} {p pos apos : Pos} {e o : Expr} {es : List Expr} {ta : TE} {t : TA}

/-- the callee runs -/
theorem run_fn {pins : List (Addr × Obj)} {σ : St} {H : Hp} {s : Shared} {Q : VK} {us : List Value} {vs : List V} (F : FnOk X.prog X.w X.K X.mg X.base CX k f fd ps sp) (hr : Room k X.A) (hb : Binds X.K fd ps ds) (hd : Vals dvs ds) (hx : Passes CX X E)
    (I : Inv X pins σ H s) (r : Vals vs us) (h : sp (vs ++ dvs) H Q E) : wpAny (model X.prog X.w) X.A (call (.ref f) us) (EP X pins σ Q) X.xe s := by
  have r2 : Vals (vs ++ dvs) (us ++ ds) := r.append hd
  have hl : (us ++ ds).length = ps.length := by rw [← r2.length]; exact F.len _ _ _ _ h
  refine wpAny_call (codeAny_mono (F.run X.A X.stack s H ⟨us, []⟩ (us ++ ds) (vs ++ dvs) Q E hr I.env0 (hb s us I.kIn hl) r2 h) fun r s' hq => ?_)
  cases r with
  | error e => exact hx pins σ H s e s' I hq
  | ok fl =>
    cases fl with
    | ret u => exact I.after hq
    | next => exact False.elim hq
    | brk => exact False.elim hq
    | cont => exact False.elim hq

theorem pe_call (F : FnOk X.prog X.w X.K X.mg X.base CX k f fd ps sp) (hr : Room k X.A) (hg : Gl X x) (hm : X.mg x = some (.ref f)) (hk : PySem.W.keepIn X.K (.ref f) = true) (hb : Binds X.K fd ps ds) (hd : Vals dvs ds) (hx : Passes CX X E)
    (ha : PA X (e :: es) t) (hdb : (x == ("__debug__" : Str)) = false := by decide) (he : starEach (e :: es) X.env = (false, eval e X.env) :: starEach es X.env := by rfl) (hpl : (backTo pos (starEach es X.env)).any (·.1) = false := by rfl) :
    PE X (.Call (.Name x p) (e :: es) [] pos) (tCall sp dvs E t) := by
  intro pins s σ H Q I h
  refine wpAny_Call_Name_kw (ld_glob I hg hm ?_ hdb)
  refine PySem.W.callWith_K (h₀ := X.base) I.ok.mod.kin hk (thn (ha pos pins s σ H _ I h) fun us s1 ⟨vs, H1, I1, r, q⟩ => ⟨I1.kIn, ?_⟩) he hpl
  exact run_fn F hr hb hd hx I1 r q
/-- o.m(e, ..) -/
theorem pe_meth {pl : Sem Bool} (he : PE X o ta) (c : Cls X.K C) (hm : Meth X.K C m f) (F : FnOk X.prog X.w X.K X.mg X.base CX k f fd ps sp) (hr : Room k X.A) (hb : Binds X.K fd ps ds) (hd : Vals dvs ds) (hx : Passes CX X E) (ha : PA X (e :: es) t)
    (hst : starEach (e :: es) X.env = (false, eval e X.env) :: starEach es X.env := by rfl) (hpl : (backTo pos (starEach es X.env)).any (·.1) = false := by rfl)
    (ht : eval (.Call (.Attribute o m apos) (e :: es) [] pos) X.env = (do
      let ov ← eval o X.env
      standAt apos.atName
      let (f, first) ← holding [ov] (getMethod ov m pl)
      callWith pos f first (backTo pos (starEach (e :: es) X.env)) (backToKw pos (keywordEach [] X.env))) := by rfl) :
    PE X (.Call (.Attribute o m apos) (e :: es) [] pos) (tMeth C m sp dvs E ta t) := by
  intro pins s σ H Q I h
  refine PySem.W.methodCall_KW (pl := pl) (thn (he pins s σ H _ I h) fun u s1 ⟨x, H1, I1, rx, a, dx, fs, ex, ea, l, q⟩ => ?_) ht
  subst ex
  obtain rfl : u = Value.ref a := rx
  refine getmeth_ok I1 ea c hm l ?_
  refine PySem.W.callWith_K (first := [.ref a]) (h₀ := X.base) I.ok.mod.kin hm.kp (thn (ha pos pins s1 σ H1 _ I1 q) fun us s2 ⟨vs, H2, I2, r, q2⟩ => ⟨I2.kIn, ?_⟩) hst hpl
  exact run_fn (us := .ref a :: us) (vs := .ref a :: vs) F hr hb hd hx I2 (.cons rfl r) q2
/-- o.m() -/
theorem pe_meth0 {pl : Sem Bool} (he : PE X o ta) (c : Cls X.K C) (hm : Meth X.K C m f) (F : FnOk X.prog X.w X.K X.mg X.base CX k f fd ps sp) (hr : Room k X.A) (hb : Binds X.K fd ps ds) (hd : Vals dvs ds) (hx : Passes CX X E)
    (ht : eval (.Call (.Attribute o m apos) [] [] pos) X.env = (do
      let ov ← eval o X.env
      standAt apos.atName
      let (f, first) ← holding [ov] (getMethod ov m pl)
      callWith pos f first (backTo pos (starEach [] X.env)) (backToKw pos (keywordEach [] X.env))) := by rfl) :
    PE X (.Call (.Attribute o m apos) [] [] pos) (tMeth C m sp dvs E ta tNil) := by
  intro pins s σ H Q I h
  refine PySem.W.methodCall_KW (pl := pl) (thn (he pins s σ H _ I h) fun u s1 ⟨x, H1, I1, rx, a, dx, fs, ex, ea, l, q⟩ => ?_) ht
  subst ex
  obtain rfl : u = Value.ref a := rx
  refine getmeth_ok I1 ea c hm l ?_
  exact PySem.W.callWith_K0 (first := [.ref a]) I1.kIn hm.kp (run_fn (us := [.ref a]) (vs := [.ref a]) F hr hb hd hx I1 (.cons rfl .nil) q)

/-- what a class must have to be made -/
structure Mk (K : PySem.W.Frag) (C f : Addr) : Prop where
  makes : PySem.W.makesIn K C = true
  init : PySem.W.findIn K (.ref C) "__init__" = some (some (.ref f))
  fn : PySem.W.isFn K (.ref f) = true
  kp : PySem.W.keepIn K (.ref C) = true

theorem run_make {pins : List (Addr × Obj)} {σ : St} {H : Hp} {s : Shared} {Q : VK} {us : List Value} {vs : List V} (M : Mk X.K C f) (F : FnOk X.prog X.w X.K X.mg X.base CX k f fd ps sp) (hr : Room (k + 1) X.A) (hb : Binds X.K fd ps ds) (hd : Vals dvs ds)
    (hx : Passes CX X E) (I : Inv X pins σ H s) (r : Vals vs us)
    (h : ∀ x dx, H x = none → H dx = none → dx ≠ x → sp (.ref x :: (vs ++ dvs)) (upd (upd H dx (.own x)) x (.ins C dx [])) (fun v H2 => v = .non ∧ Q (.ref x) H2) E) :
    wpAny (model X.prog X.w) X.A (call (.ref C) us) (EP X pins σ Q) X.xe s := by
  have hq := h (s.heap.objs.size + 1) s.heap.objs.size (I.hok.fresh (Nat.le_succ _)) (I.hok.fresh (Nat.le_refl _)) (Nat.ne_of_lt (Nat.lt_succ_self _))
  have I2 := Inv.made (C := C) I
  have r2 : Vals (V.ref (s.heap.objs.size + 1) :: (vs ++ dvs)) (Value.ref (s.heap.objs.size + 1) :: (us ++ ds)) := .cons rfl (r.append hd)
  have hl : (Value.ref (s.heap.objs.size + 1) :: us ++ ds).length = ps.length := by
    have e := r2.length
    rw [F.len _ _ _ _ hq] at e
    exact e.symm
  refine wpAny_call (make_map (f := f) I.kIn M.makes M.init (beq_iff_eq.mp M.fn) (codeAny_mono (F.run _ X.stack _ _ ⟨Value.ref (s.heap.objs.size + 1) :: us, []⟩ (Value.ref (s.heap.objs.size + 1) :: (us ++ ds)) _ _ E (hr.make C us [])
    (I2.env0.make C us []) (hb _ (Value.ref (s.heap.objs.size + 1) :: us) I2.kIn hl) r2 hq) fun r s' hq' => ?_))
  cases r with
  | error e => exact hx pins σ _ _ e s' I2 hq'
  | ok fl =>
    cases fl with
    | ret u =>
      obtain ⟨v, H', I3, rv, ev, q3⟩ := I2.after hq'
      subst ev
      exact ⟨rv, ⟨V.ref (s.heap.objs.size + 1), H', I3, rfl, q3⟩⟩
    | next => exact False.elim hq'
    | brk => exact False.elim hq'
    | cont => exact False.elim hq'
theorem pe_make (M : Mk X.K C f) (F : FnOk X.prog X.w X.K X.mg X.base CX k f fd ps sp) (hr : Room (k + 1) X.A) (hg : Gl X x) (hm : X.mg x = some (.ref C)) (hb : Binds X.K fd ps ds) (hd : Vals dvs ds) (hx : Passes CX X E)
    (ha : PA X (e :: es) t) (hdb : (x == ("__debug__" : Str)) = false := by decide) (he : starEach (e :: es) X.env = (false, eval e X.env) :: starEach es X.env := by rfl) (hpl : (backTo pos (starEach es X.env)).any (·.1) = false := by rfl) :
    PE X (.Call (.Name x p) (e :: es) [] pos) (tMake C sp dvs E t) := by
  intro pins s σ H Q I h
  refine wpAny_Call_Name_kw (ld_glob I hg hm ?_ hdb)
  refine PySem.W.callWith_K (h₀ := X.base) I.ok.mod.kin M.kp (thn (ha pos pins s σ H _ I h) fun us s1 ⟨vs, H1, I1, r, q⟩ => ⟨I1.kIn, ?_⟩) he hpl
  exact run_make M F hr hb hd hx I1 r q
end

/-! ### keywords -/
section
variable {X : Cx} {CX : CXT} {k : Nat} {f C : Addr} {fd : FuncData} {ps ks : List Str} {sp : Sp} {E : XK} {x m : Str} {p pos apos kpos : Pos} {e o : Expr} {es : List Expr} {kws : List Keyword} {te ta : TE} {t tk : TA} {nm : Option Str}
/-- how a call with keywords binds: g puts the positional values us and the keywords' values ws (names ks) in the parameters' order, defaults among them -/
structure KBinds (K : PySem.W.Frag) (fd : FuncData) (ps ks : List Str) (g : List Value → List Value → List Value) (gV : List V → List V → List V) : Prop where
  to : ∀ (s : Shared) (us ws : List Value), K.In s.heap → (g us ws).length = ps.length → BindsTo s fd ⟨us, ks.zip ws⟩ (ps.zip (g us ws))
  rel : ∀ {vs : List V} {us : List Value} {zs : List V} {ws : List Value}, Vals vs us → Vals zs ws → Vals (gV vs zs) (g us ws)
variable {g : List Value → List Value → List Value} {gV : List V → List V → List V}
end

/-! ### a def's body keeps its promise -/
/-- names: the parameters first -/
structure FnScope (N P : List Str) (sc : Scope) : Prop where
  kind : sc.kind = .function
  co : sc.isCoroutine = false
  gen : sc.isGenerator = false
  nd : N.Nodup
  pre : N.take P.length = P
  par : ∀ x ∈ P, sc.names.lookup x = some .local ∨ sc.names.lookup x = some .cell
  nofree : ∀ y ∈ sc.names, y.2 ≠ .free

theorem bindL_out {kindOf : Str → Option NameKind} {x : Str} : ∀ {binds : List (Str × Value)} {m : Str → Option Value}, (∀ v, (x, v) ∉ binds) → bindL kindOf binds m x = m x
  | [], _, _ => rfl
  | (n, v) :: r, m, h => by
    unfold bindL
    rw [bindL_out fun w hw => h w (List.mem_cons_of_mem _ hw)]
    split
    · have : x ≠ n := by rintro rfl; exact h v List.mem_cons_self
      simp [this]
    · rfl
theorem bindC_out {kindOf : Str → Option NameKind} {x : Str} : ∀ {binds : List (Str × Value)} {m : Str → Option Value}, (∀ v, (x, v) ∉ binds) → bindC kindOf binds m x = m x
  | [], _, _ => rfl
  | (n, v) :: r, m, h => by
    unfold bindC
    rw [bindC_out fun w hw => h w (List.mem_cons_of_mem _ hw)]
    split
    · rfl
    · have : x ≠ n := by rintro rfl; exact h v List.mem_cons_self
      simp [this]
theorem bindL_get {kindOf : Str → Option NameKind} {x : Str} {v : Value} : ∀ {P : List Str} {vs : List Value} {i : Nat} {m : Str → Option Value}, P.Nodup → P[i]? = some x → vs[i]? = some v → kindOf x = some .local →
    bindL kindOf (P.zip vs) m x = some v
  | [], _, _, _, _, h, _, _ => by simp at h
  | _ :: _, [], _, _, _, _, h, _ => by simp at h
  | p :: P, w :: vs, 0, m, nd, h1, h2, hk => by
    simp at h1 h2; subst h1; subst h2
    show bindL kindOf ((p, w) :: P.zip vs) m p = _
    unfold bindL
    rw [bindL_out fun v hv => (List.nodup_cons.mp nd).1 (List.of_mem_zip hv).1, if_pos hk]
    simp
  | p :: P, w :: vs, i + 1, m, nd, h1, h2, hk => by
    show bindL kindOf ((p, w) :: P.zip vs) m x = _
    unfold bindL
    exact bindL_get (i := i) (List.nodup_cons.mp nd).2 (by simpa using h1) (by simpa using h2) hk
theorem bindC_get {kindOf : Str → Option NameKind} {x : Str} {v : Value} : ∀ {P : List Str} {vs : List Value} {i : Nat} {m : Str → Option Value}, P.Nodup → P[i]? = some x → vs[i]? = some v → kindOf x ≠ some .local →
    bindC kindOf (P.zip vs) m x = some v
  | [], _, _, _, _, h, _, _ => by simp at h
  | _ :: _, [], _, _, _, _, h, _ => by simp at h
  | p :: P, w :: vs, 0, m, nd, h1, h2, hk => by
    simp at h1 h2; subst h1; subst h2
    show bindC kindOf ((p, w) :: P.zip vs) m p = _
    unfold bindC
    rw [bindC_out fun v hv => (List.nodup_cons.mp nd).1 (List.of_mem_zip hv).1, if_neg hk]
    simp
  | p :: P, w :: vs, i + 1, m, nd, h1, h2, hk => by
    show bindC kindOf ((p, w) :: P.zip vs) m x = _
    unfold bindC
    exact bindC_get (i := i) (List.nodup_cons.mp nd).2 (by simpa using h1) (by simpa using h2) hk

/-- the names' values at the entry -/
def start (N : List Str) (vs : List V) : St := vs.map some ++ List.replicate (N.length - vs.length) none

/-- the context of a def's body, at its entry; an exception leaves the frame, then lies as CX says -/
def cxOf (CX : CXT) (P : Program) (w : World) (K : PySem.W.Frag) (mg : Str → Option Value) (base : Heap) (N : List Str) (qual : Str) (scope : Scope) (f : Addr) (cd : Value) (A : Around) (outer : List Env) (s : Shared) (H : Hp) (E : XK) : Cx where
  prog := P
  w := w
  K := K
  mg := mg
  base := base
  A := A.deeper (envOfC qual scope s.heap.objs.size f cd)
  N := N
  s₀ := s
  H₀ := H
  env := envOfC qual scope s.heap.objs.size f cd
  outer := outer
  stack := envOfC qual scope s.heap.objs.size f cd :: outer
  ex := []
  calm := true
  fn := fun _ => true
  pn := []
  xe := fun e s' => wpAny (model P w) (A.deeper (envOfC qual scope s.heap.objs.size f cd)) (leaving (envOfC qual scope s.heap.objs.size f cd) e) (fun _ s'' => CX outer H s E e s'') (fun e' s'' => CX outer H s E e' s'') s'

theorem cell_has {sc : Scope} {n : Nat} {x : Str} (h : sc.names.lookup x = some .cell) : ∃ c, (cellsFrom n sc.names []).lookup x = some c := by
  have q := PySem.W.cellsFrom_some sc.names n [] (.inl h)
  exact Option.isSome_iff_exists.mp q

theorem inv_start {CX : CXT} {P : Program} {w : World} {K : PySem.W.Frag} {mg : Str → Option Value} {base : Heap} {N ps : List Str} {qual : Str} {scope : Scope} {f : Addr} {cd : Value} {A : Around} {outer : List Env} {s s1 : Shared} {H : Hp} {E : XK} {us : List Value} {vs : List V}
    (S : FnScope N ps scope) (hd : A.handled = none) (e0 : Env0 P w K mg base A outer s H) (hl : vs.length = ps.length) (r : Vals vs us)
    (x : InCallC s s.heap.objs.size (bindL (envOfC qual scope s.heap.objs.size f cd).kindOf (ps.zip us) fun _ => none) (cellsFrom (s.heap.objs.size + 1) scope.names []) (bindC (envOfC qual scope s.heap.objs.size f cd).kindOf (ps.zip us) fun _ => none) s1) :
    Inv (cxOf CX P w K mg base N qual scope f cd A outer s H E) [] (start N vs) H s1 := by
  have hpl : ps.length ≤ N.length := by have := congrArg List.length S.pre; rw [List.length_take] at this; omega
  obtain ⟨h1, tk, rfl, hk⟩ := x.done
  have noA : ∀ b : Addr, b ∉ (cxOf CX P w K mg base N qual scope f cd A outer s H E).ex := fun b z => absurd (show b ∈ ([] : List Addr) from z) (by simp)
  refine ⟨⟨e0.mod, S.kind, rfl, rfl, Nat.le_refl _, fun y z c h1 h2 => ?_, fun y hy => ?_, fun y c _ h => ?_, fun _ => hd, Around.frames_deeper e0.frames, .inr ⟨rfl, rfl⟩, fun b z => absurd z (noA b), e0.bs, e0.bsz, fun b _ _ => noA b, fun b z => absurd z (noA b), e0.funs, e0.frf⟩,
    rfl, e0.bare, Un.kept hk, ⟨_, x.toInCall.ns, fun i y v h1 h2 h3 => ?_⟩, fun y c h => ⟨_, x.cell y c h⟩, e0.hok.fresh (Nat.le_refl _), fun y c h => ?_, fun p hp => absurd (show p ∈ ([] : List (Addr × Obj)) from hp) (by simp), e0.hok.kept hk, ?_⟩
  · exact name_of_addr x.apart (PySem.mem_of_lookup h1) (PySem.mem_of_lookup h2)
  · have hy : scope.names.lookup y = some .cell ∨ scope.names.lookup y = some .free := hy
    rcases hy with hy | hy
    · exact cell_has hy
    · exact absurd rfl (S.nofree _ (PySem.mem_of_lookup hy))
  · exact Nat.le_of_lt (x.above y c (PySem.mem_of_lookup h))
  · have hi : i < vs.length := by
      unfold start at h2
      by_cases hi : i < vs.length
      · exact hi
      · rw [List.getElem?_append_right (by simpa using hi)] at h2
        rw [List.getElem?_replicate] at h2
        split at h2 <;> cases h2
    have ha : vs[i]? = some v := by
      unfold start at h2
      rw [List.getElem?_append_left (by simpa using hi), List.getElem?_map] at h2
      cases e : vs[i]? with
      | none => rw [e] at h2; cases h2
      | some a => rw [e] at h2; cases h2; rfl
    obtain ⟨u, hu, rv⟩ := r.get ha
    have hp : ps[i]? = some y := by
      rw [← S.pre, List.getElem?_take_of_lt (by omega)]; exact h1
    have ndP : ps.Nodup := by rw [← S.pre]; exact S.nd.sublist (List.take_sublist _ _)
    refine ⟨u, rv, ?_⟩
    rcases S.par y (List.mem_of_getElem? hp) with k | k
    · exact .inl ⟨k, bindL_get ndP hp hu k⟩
    · obtain ⟨c, e⟩ := cell_has (n := s.heap.objs.size + 1) k
      refine .inr ⟨.inl k, c, e, ?_⟩
      have q := x.cell y c e
      rw [bindC_get ndP hp hu (by show scope.names.lookup y ≠ _; rw [k]; decide)] at q
      exact q
  · exact e0.hok.fresh (Nat.le_of_lt (x.above y c (PySem.mem_of_lookup h)))
  · unfold start
    show _ = N.length
    rw [List.length_append, List.length_map, List.length_replicate]
    omega

/-- THE RULE: a def (or a method) of the text, by its body. The body's reading t is chosen for each entry; it is run at the parameters' values -/
theorem fn_of {CX : CXT} {P : Program} {w : World} {K : PySem.W.Frag} {mg : Str → Option Value} {base : Heap} {k : Nat} {f : Addr} {name qual : Str} {params : Arguments} {body : List Stmt} {scope : Scope} {dV kV doc pm cdv ct oc : Value} {an od : Option Addr}
    {osl : Array (Option Value)} {N ps : List Str} {sp : Sp} (lk : K.lookup f = some ⟨oc, od, .func (PySem.W.fnOf name qual params body scope dV kV doc pm an cdv ct), osl⟩) (hcd : PySem.W.codeIn K cdv qual = true) (S : FnScope N ps scope)
    (len : ∀ vs H Q E, sp vs H Q E → vs.length = ps.length)
    (hbody : ∀ (A : Around) (outer : List Env) (s : Shared) (H : Hp) (vs : List V) (Q : VK) (E : XK), Room k (A.deeper (envOfC qual scope s.heap.objs.size f cdv)) → sp vs H Q E →
      ∃ t, PSs (cxOf CX P w K mg base N qual scope f cdv A outer s H E) body t ∧ t { nx := fun _ H' => Q .non H', rt := Q } (start N vs) H) :
    FnOk P w K mg base CX (k + 1) f (PySem.W.fnOf name qual params body scope dV kV doc pm an cdv ct) ps sp := by
  refine ⟨len, fun A outer s H args us vs Q E hr e0 hb r hsp => ?_⟩
  have hl := len _ _ _ _ hsp
  have KX : K.In s.heap := e0.mod.kin.keeps fun b o e => (e0.bs b o e).1
  have lim : s.heap.NoLimit := e0.mod.nolimit.keeps fun b o e => (e0.bs b o e).1
  have hkind : ∀ y ∈ ps.zip us, scope.names.lookup y.1 = some .local ∨ (scope.names.lookup y.1 = some .cell ∧ ((cellsFrom (s.heap.objs.size + 1) scope.names []).lookup y.1).isSome = true) := fun ⟨n, v⟩ hy => by
    rcases S.par n (List.of_mem_zip hy).1 with q | q
    · exact .inl q
    · exact .inr ⟨q, PySem.W.cellsFrom_some _ _ _ (.inl q)⟩
  refine codeAny_call_function hr.depth (KX _ _ lk) rfl S.co S.gen rfl (PySem.W.codeRec_of KX hcd) (hb _ _ _ _ ?_)
  refine wpAny_newFunctionEnv_cells S.kind hkind fun env he s1 x => ?_
  subst he
  refine ⟨lim.keeps x.toInCall.keep, codeAny_func ?_⟩
  obtain ⟨t, ht, hq⟩ := hbody A outer s H vs Q E (hr.deeper _) hsp
  have I : Inv (cxOf CX P w K mg base N qual scope f cdv A outer s H E) [] (start N vs) H s1 := inv_start S hr.hd e0 hl r x
  refine wpAny_mono (ht [] s1 (start N vs) H _ I hq) (fun fl s' hs => ?_) fun e s' hs => hs
  have fin : ∀ {σ' : St} {H' : Hp} {v : V} {u : Value}, Inv (cxOf CX P w K mg base N qual scope f cdv A outer s H E) [] σ' H' s' → RelV v u → Q v H' → CE outer P w H s Q u s' :=
    fun {σ' H' v u} J rv q => ⟨v, H', J.os, J.bare, J.base, J.hok, rv, q⟩
  cases fl with
  | ret u =>
    obtain ⟨v, σ', H', J, rv, q⟩ := hs
    exact fin J rv q
  | next =>
    obtain ⟨σ', H', J, q⟩ := hs
    exact fin (v := V.non) (u := Value.none) J rfl q
  | brk =>
    obtain ⟨_, _, _, q⟩ := hs
    exact False.elim q
  | cont =>
    obtain ⟨_, _, _, q⟩ := hs
    exact False.elim q
end L2

namespace L2
open PySem PySem.Spec PyProof.Rows
section
variable {X : Cx} {x : Str} {p pos : Pos} {e : Expr} {es : List Expr} {t : TA} {id T : String} {r : List V → Hp → VK → Prop}

def tCB (r : List V → Hp → VK → Prop) (t : TA) : TE := fun σ H Q => t σ H fun vs H1 => r vs H1 Q
/-- f(e, ..), f a built-in function -/
theorem pe_callB (hc : CallR X (.builtin id) r) (hg : Gl X x) (hm : X.mg x = none) (hv : bootBuiltins x = some (.builtin id)) (ha : PA X (e :: es) t) (hn : x ≠ "__name__" := by decide) (hdb : (x == ("__debug__" : Str)) = false := by decide)
    (he : starEach (e :: es) X.env = (false, eval e X.env) :: starEach es X.env := by rfl) (hpl : (backTo pos (starEach es X.env)).any (·.1) = false := by rfl) : PE X (.Call (.Name x p) (e :: es) [] pos) (tCB r t) := by
  intro pins s σ H Q I h
  refine wpAny_Call_Name_kw (ld_blt I hg hm hv ?_ hn hdb)
  exact PyProof.Rows.callWith_builtin1 (thn (ha pos pins s σ H _ I h) fun us s1 ⟨vs, H1, I1, r1, q1⟩ => hc pins s1 σ H1 vs us Q I1 r1 q1) he hpl
/-- T(e, ..), T a built-in type -/
theorem pe_callTy (hc : CallR X (.type T) r) (hg : Gl X x) (hm : X.mg x = none) (hv : bootBuiltins x = some (.type T)) (ha : PA X (e :: es) t) (hn : x ≠ "__name__" := by decide) (hdb : (x == ("__debug__" : Str)) = false := by decide)
    (he : starEach (e :: es) X.env = (false, eval e X.env) :: starEach es X.env := by rfl) (hpl : (backTo pos (starEach es X.env)).any (·.1) = false := by rfl) : PE X (.Call (.Name x p) (e :: es) [] pos) (tCB r t) := by
  intro pins s σ H Q I h
  refine wpAny_Call_Name_kw (ld_blt I hg hm hv ?_ hn hdb)
  exact PyProof.Rows.callWith_type1 (thn (ha pos pins s σ H _ I h) fun us s1 ⟨vs, H1, I1, r1, q1⟩ => hc pins s1 σ H1 vs us Q I1 r1 q1) he hpl
end
end L2

namespace HT
open PySem PyProof.Rows

section
open PySem.SeqAt
open PySem.AutoSeq1 (wpAny_loadPart')
open PySem.MeetsSeq PySem.MeetsSeq2 PySem.MeetsSeq3

end

section
variable {prog : Program} {w : World} {A : Around} {E : Value → Shared → Prop} {s : Shared}

/-! ### t[a:b], not the whole -/
/-- a slice's bound as a place among n (d where it is left out) -/
def sIx (n d : Nat) : Option Int → Nat
  | none => d
  | some v => if v < 0 then (v + (n : Int)).toNat else min v.toNat n
end
end HT

namespace L2
open PySem PySem.Spec PyProof.Rows

/-! ### the parts of a slice -/
abbrev TO := St → Hp → (Option Int → Hp → Prop) → Prop
/-- a slice's part (left out, or an int) -/
def PO (X : Cx) (e : Option Expr) (t : TO) : Prop :=
  ∀ (pins : List (Addr × Obj)) (s : Shared) (σ : St) (H : Hp) (Q : Option Int → Hp → Prop), Inv X pins σ H s → t σ H Q →
    wpAny (model X.prog X.w) X.A (evalPart e X.env) (fun u s' => ∃ o H', Inv X pins σ H' s' ∧ IsPart u o ∧ Q o H') X.xe s
def tNoPart : TO := fun _ H Q => Q none H
def tPart (t : TE) : TO := fun σ H Q => t σ H fun x H1 => ∃ i, x = .int i ∧ Q (some i) H1

section
variable {X : Cx} {e : Expr} {te : TE} {lo hi : Option Expr} {tl th : TO} {pos p2 : Pos}

theorem po_none : PO X none tNoPart := by
  intro pins s σ H Q I h
  rw [evalPart_none]
  exact wpAny_pure ⟨none, H, I, .none, h⟩
theorem po_some (h : PE X e te) : PO X (some e) (tPart te) := by
  intro pins s σ H Q I hw
  rw [evalPart_some]
  refine thn (h pins s σ H _ I hw) fun u s1 ⟨x, H1, I1, r1, q1⟩ => ?_
  obtain ⟨i, rfl, q⟩ := q1
  obtain ⟨t, rfl⟩ := r1
  exact ⟨some i, H1, I1, .int i t, q⟩

/-- what a slice of a value is, by values: the slice object stands at sl -/
def SlR (X : Cx) (r : V → Option Int → Option Int → Hp → VK → Prop) : Prop :=
  ∀ (pins : List (Addr × Obj)) (s : Shared) (σ : St) (H : Hp) (x : V) (v vl vu : Value) (lo hi : Option Int) (sl : Addr) (Q : VK), Inv X pins σ H s → RelV x v → s.heap.IsSliceOf sl vl vu .none → IsPart vl lo → IsPart vu hi → r x lo hi H Q →
    ∃ T id, typeLookup (.type T) "__getitem__" = pure (some (.builtin id)) ∧ s.TypeIs v T ∧ wpAny (model X.prog X.w) X.A (getItem v (.ref sl)) (EP X pins σ Q) X.xe s
def tSl (r : V → Option Int → Option Int → Hp → VK → Prop) (te : TE) (tl th : TO) : TE := fun σ H Q => te σ H fun x H1 => tl σ H1 fun l H2 => th σ H2 fun u H3 => r x l u H3 Q
/-- a[lo:hi], any a -/
theorem pe_slice {r : V → Option Int → Option Int → Hp → VK → Prop} (hr : SlR X r) (he : PE X e te) (hl : PO X lo tl) (hu : PO X hi th) : PE X (.Subscript e (.Slice lo hi none p2) pos) (tSl r te tl th) := by
  intro pins s σ H Q I h
  refine Subscript_ (thn (he pins s σ H _ I h) fun v s1 ⟨x, H1, I1, r1, q1⟩ => ?_)
  refine wpAny_Slice (thn (hl pins s1 σ H1 _ I1 q1) fun vl s2 ⟨l, H2, I2, pl, q2⟩ => thn (hu pins s2 σ H2 _ I2 q2) fun vu s3 ⟨u, H3, I3, pu, q3⟩ => ?_)
  rw [evalPart_none]
  refine wpAny_pure ?_
  have I4 : Inv X pins σ H3 { s3 with heap := s3.heap.push { cls := .type "slice", data := .fields #[vl, vu, .none] } } := I3.kept (t' := s3.toks) fun b ob q => Heap.get?_push_of_some _ q
  obtain ⟨T, id, hT, ht, hg⟩ := hr pins { s3 with heap := s3.heap.push { cls := .type "slice", data := .fields #[vl, vu, .none] } } σ H3 x v vl vu l u s3.heap.objs.size Q I4 r1 (Heap.IsSliceOf.new ..) pl pu q3
  show wpAny (model X.prog X.w) X.A (subscriptTail e (.Slice lo hi none p2) v (.ref s3.heap.objs.size)) (EP X pins σ Q) X.xe { s3 with heap := s3.heap.push { cls := .type "slice", data := .fields #[vl, vu, .none] } }
  exact tail_any (ops := [.ref s3.heap.objs.size, v]) ht hT hg (by with_unfolding_all rfl)

/-- the items of xs[lo:hi] -/
def cutV (xs : List V) (lo hi : Option Int) : List V := (xs.drop (HT.sIx xs.length 0 lo)).take (HT.sIx xs.length xs.length hi - HT.sIx xs.length 0 lo)
theorem cutV_length (xs : List V) (lo hi : Option Int) : (cutV xs lo hi).length ≤ xs.length := by
  unfold cutV
  rw [List.length_take, List.length_drop]
  omega
/-! ### t < u, t + u -/
end
end L2

namespace L2
open PySem PySem.Spec PyProof.Rows

/-! ### places -/
/-- the place that an index of any sign means -/
def ixN (n : Nat) (i : Int) : Option Nat := if 0 ≤ i then (if i < n then some i.toNat else none) else if -(n : Int) ≤ i then some (i + n).toNat else none
def atI {α : Type} (xs : List α) (i : Int) : Option α := (ixN xs.length i).bind fun j => xs[j]?
theorem ixN_seq {n : Nat} {i : Int} {j : Nat} (h : ixN n i = some j) : seqIndex? i n = some j ∧ j < n ∧ -(n : Int) ≤ i ∧ i < n := by
  unfold ixN at h
  by_cases h0 : 0 ≤ i
  · rw [if_pos h0] at h
    by_cases h1 : i < n
    · rw [if_pos h1] at h
      have e : i.toNat = j := Option.some.inj h
      exact ⟨by rw [seqIndex_of h0 h1, e], by omega, by omega, h1⟩
    · rw [if_neg h1] at h; cases h
  · rw [if_neg h0] at h
    by_cases h1 : -(n : Int) ≤ i
    · rw [if_pos h1] at h
      have e : (i + n).toNat = j := Option.some.inj h
      exact ⟨by rw [seqIndex_neg (by omega) h1, e], by omega, h1, by omega⟩
    · rw [if_neg h1] at h; cases h
theorem atI_get {α : Type} {xs : List α} {i : Int} {v : α} (h : atI xs i = some v) : ∃ j, seqIndex? i xs.length = some j ∧ xs[j]? = some v ∧ j < xs.length ∧ -(xs.length : Int) ≤ i ∧ i < xs.length := by
  unfold atI at h
  cases e : ixN xs.length i with
  | none => rw [e] at h; cases h
  | some j =>
    rw [e] at h
    obtain ⟨h1, h2, h3, h4⟩ := ixN_seq e
    exact ⟨j, h1, h, h2, h3, h4⟩
theorem atI_nat {α : Type} {xs : List α} {j : Nat} {v : α} (h : xs[j]? = some v) : atI xs (j : Int) = some v := by
  have hj : j < xs.length := (List.getElem?_eq_some_iff.mp h).1
  have e : ixN xs.length (j : Int) = some j := by
    unfold ixN
    rw [if_pos (by omega), if_pos (by omega)]; simp
  unfold atI; rw [e]; exact h
/-! ### what may be subscripted -/
/-- what stands as an index of a plain subscript -/
def PlainIx (b : Expr) : Prop := ∀ o i, subscripted b false o i = operate [o, i] (getItem o i)
/-- a subscript by values -/
def IxR (X : Cx) (r : R2) : Prop :=
  ∀ (value slice : Expr) (pins : List (Addr × Obj)) (s : Shared) (σ : St) (H : Hp) (x y : V) (v u : Value) (Q : VK), Inv X pins σ H s → RelV x v → RelV y u → r x y H Q →
    subscripted slice false v u = operate [v, u] (getItem v u) → wpAny (model X.prog X.w) X.A (subscriptTail value slice v u) (EP X pins σ Q) X.xe s
/-- a call of a builtin's method by values: the receiver, the arguments -/
def MtR (X : Cx) (id : String) (r : V → List V → Hp → VK → Prop) : Prop :=
  ∀ (pins : List (Addr × Obj)) (s : Shared) (σ : St) (H : Hp) (x : V) (xs : List V) (v : Value) (us : List Value) (Q : VK), Inv X pins σ H s → RelV x v → Vals xs us → r x xs H Q →
    wpAny (model X.prog X.w) X.A (call (.builtin id) (v :: us)) (EP X pins σ Q) X.xe s
section
variable {X : Cx} {a b : Expr} {ta tb : TE} {pos : Pos}
/-- a[b] -/
theorem pe_ix {r : R2} (hr : IxR X r) (ha : PE X a ta) (hb : PE X b tb) (hs : PlainIx b) : PE X (.Subscript a b pos) (tOp r ta tb) := by
  intro pins s σ H Q I h
  exact Subscript_ (binT ha hb I h fun v u s2 x y H2 I2 rx ry q => hr a b pins s2 σ H2 x y v u Q I2 rx ry q (hs _ _))

def rIxL (K : PySem.W.Frag) : R2 := fun x y H Q => ∃ p xs i v, x = .ref p ∧ y = .int i ∧ SqL K H p xs ∧ atI xs i = some v ∧ Q v H
def rIxT (K : PySem.W.Frag) : R2 := fun x y H Q => ∃ p xs i v, x = .ref p ∧ y = .int i ∧ SqT K H p xs ∧ atI xs i = some v ∧ Q v H
def rIxS : R2 := fun x y H Q => ∃ z i c, x = .str z ∧ y = .int i ∧ z.length ≤ sizeLine ∧ atI z.cps.toList i = some c ∧ Q (.str ⟨#[c]⟩) H
theorem ix_list : IxR X (rIxL X.K) := by
  intro value slice pins s σ H x y v u Q I rx ry h hs
  obtain ⟨p, xs, i, z, rfl, rfl, hq, he, q⟩ := h
  cases rx
  obtain ⟨t, rfl⟩ := ry
  obtain ⟨its, r, pl, hz⟩ := I.list hq
  obtain ⟨j, h1, h2, h3, h4, h5⟩ := atI_get he
  obtain ⟨w, ew, rw'⟩ := r.get h2
  have hl := r.length
  have hn := line63
  have fin : EP X pins σ Q w s := ⟨z, H, I, rw', q⟩
  by_cases h0 : 0 ≤ i
  · have hj : i.toNat = j := by
      rw [seqIndex_of h0 h5] at h1
      exact Option.some.inj h1
    exact item_listR pl.isList h0 (by omega) (by rw [hj]; simpa using ew) fin hs
  · have hj : (i + (its.toArray.size : Int)).toNat = j := by
      rw [seqIndex_neg (by omega) h4] at h1
      rw [List.size_toArray, ← hl]
      exact Option.some.inj h1
    exact subscriptTail_builtinR (x := w) pl.isList.typeIs slot_list_getitem.lookup
      (wpAny_getItem_list_neg (Q := fun r s' => r = w ∧ EP X pins σ Q r s') pl.isList (by omega) (by rw [List.size_toArray] <;> omega) (by omega) (by rw [hj]; simpa using ew) ⟨rfl, fin⟩) hs
theorem ix_tup : IxR X (rIxT X.K) := by
  intro value slice pins s σ H x y v u Q I rx ry h hs
  obtain ⟨p, xs, i, z, rfl, rfl, hq, he, q⟩ := h
  cases rx
  obtain ⟨t, rfl⟩ := ry
  obtain ⟨its, r, pl, hz⟩ := I.tuple hq
  obtain ⟨j, h1, h2, h3, h4, h5⟩ := atI_get he
  obtain ⟨w, ew, rw'⟩ := r.get h2
  have hl := r.length
  have hn := line63
  have fin : EP X pins σ Q w s := ⟨z, H, I, rw', q⟩
  exact subscriptTail_builtinR (x := w) pl.typeIs slot_tuple_getitem.lookup
    (getItem_tuple (j := j) (Q := fun r s' => r = w ∧ EP X pins σ Q r s') pl (by omega) (by omega) (by rw [List.size_toArray, ← hl]; exact h1) (by simpa using ew) ⟨rfl, fin⟩) hs
theorem ix_str : IxR X rIxS := by
  intro value slice pins s σ H x y v u Q I rx ry h hs
  obtain ⟨z, i, c, rfl, rfl, hz, he, q⟩ := h
  obtain ⟨t, rfl⟩ := rx
  obtain ⟨t', rfl⟩ := ry
  obtain ⟨j, h1, h2, h3, h4, h5⟩ := atI_get he
  have hl : z.cps.toList.length = z.length := by simp [Str.length]
  rw [hl] at h1 h4 h5
  have hn := line63
  exact tail_any (typeIs_str s z t) slot_str_getitem.lookup (getItem_str (c := c) (by
    have e1 : decide (i < -(2 ^ 63 : Int)) = false := decide_eq_false (by omega)
    have e2 : decide (i ≥ 2 ^ 63) = false := decide_eq_false (by omega)
    rw [e1, e2, Bool.or_false]) (by rw [h1]; simpa using h2) ⟨.str ⟨#[c]⟩, H, I.tok _, ⟨_, rfl⟩, q⟩) hs
/-! ### xs[i] = v, any sign -/
/-- the list's object behind a store -/
theorem mapSeq_set (its : List Value) (n j : Nat) (u : Value) : Obj.mapSeq (·.setIfInBounds j u) { cls := .type "list", data := .seq its.toArray n } = { cls := .type "list", data := .seq (its.set j u).toArray n } := by
  simp [Obj.mapSeq]
theorem Inv.lst {pins : List (Addr × Obj)} {σ : St} {H : Hp} {s : Shared} {p : Addr} {xs : List V} (I : Inv X pins σ H s) (h : H p = some (.lst xs)) :
    ∃ (its : List Value) (n : Nat), Vals xs its ∧ s.heap.get? p = some { cls := .type "list", data := .seq its.toArray n } ∧ xs.length ≤ sizeLine := by
  obtain ⟨z, its, n, r, e⟩ := I.hok p _ h
  exact ⟨its, n, r, e, z⟩
/-- the list at p is written by an update of its object -/
theorem Inv.lstUpd {pins : List (Addr × Obj)} {σ : St} {H : Hp} {s : Shared} {p : Addr} {xs ys : List V} {its its' : List Value} {n n' : Nat} {f : Obj → Obj} (I : Inv X pins σ H s) (h : H p = some (.lst xs))
    (ho : s.heap.get? p = some { cls := .type "list", data := .seq its.toArray n }) (hf : f { cls := .type "list", data := .seq its.toArray n } = { cls := .type "list", data := .seq its'.toArray n' }) (r : Vals ys its') (hz : ys.length ≤ sizeLine) (t : Nat) :
    Inv X pins σ (upd H p (.lst ys)) { s with heap := s.heap.update p f, toks := t } := by
  have e : (s.heap.update p f).get? p = some { cls := .type "list", data := .seq its'.toArray n' } := by
    rw [Heap.get?_update_self f ho (by rw [hf] <;> rfl), hf]
  refine I.write (x := p) (e := p) (by rw [h]; trivial) (.inl rfl) (fun b u hb q => (Heap.get?_update_other _ _ (Ne.symm hb)).trans q) ⟨_, e⟩ ?_
  exact ⟨hz, its', n', r, e⟩
def rSetL : V → V → V → Hp → (Hp → Prop) → Prop := fun o i v H Q => ∃ p xs k j, o = .ref p ∧ i = .int k ∧ H p = some (.lst xs) ∧ ixN xs.length k = some j ∧ Q (upd H p (.lst (xs.set j v)))
theorem set_list : PSet X rSetL := by
  intro pins s σ H o i v ov iv u Q I ro ri rv h
  obtain ⟨p, xs, k, j, rfl, rfl, hp, hj, q⟩ := h
  cases ro
  obtain ⟨t, rfl⟩ := ri
  obtain ⟨its, n, r, ho, hz⟩ := I.lst hp
  obtain ⟨h1, h2, h3, h4⟩ := ixN_seq hj
  have hl := r.length
  have hn := line63
  have I' : Inv X pins σ (upd H p (.lst (xs.set j v))) { s with heap := s.heap.update p (Obj.mapSeq (·.setIfInBounds j u)) } :=
    I.lstUpd hp ho (mapSeq_set its n j u) (r.set rv j) (by rw [List.length_set]; exact hz) s.toks
  by_cases h0 : 0 ≤ k
  · have hk : k.toNat = j := by
      rw [seqIndex_of h0 h4] at h1
      exact Option.some.inj h1
    exact PySem.W.ki_setAt ho h0 (by omega) (by rw [List.size_toArray, ← hl]; exact h4) (by rw [hk]; exact ⟨_, I', q⟩)
  · have hk : (k + (its.toArray.size : Int)).toNat = j := by
      rw [seqIndex_neg (by omega) h3] at h1
      rw [List.size_toArray, ← hl]
      exact Option.some.inj h1
    exact PySem.W.ki_setBack ho (by omega) (by rw [List.size_toArray, ← hl]; exact h3) (by omega) (by rw [hk]; exact ⟨_, I', q⟩)

/-! ### slices -/
theorem slice_bounds (lo hi : Option Int) (n : Nat) : (sliceBounds lo hi none n).1 = ((HT.sIx n 0 lo : Nat) : Int) ∧ (sliceBounds lo hi none n).2.1 = ((HT.sIx n n hi : Nat) : Int) ∧ (sliceBounds lo hi none n).2.2 = 1 := by
  refine ⟨?_, ?_, rfl⟩
  · cases lo with
    | none => simp [sliceBounds, HT.sIx]
    | some i =>
      simp only [sliceBounds, HT.sIx, Option.getD_none, show (1 : Int) > 0 by decide, if_true]
      by_cases h : i < 0
      · simp only [h, if_true] <;> omega
      · simp only [h, if_false] <;> omega
  · cases hi with
    | none => simp [sliceBounds, HT.sIx]
    | some i =>
      simp only [sliceBounds, HT.sIx, Option.getD_none, show (1 : Int) > 0 by decide, if_true]
      by_cases h : i < 0
      · simp only [h, if_true] <;> omega
      · simp only [h, if_false] <;> omega
theorem slicePick_cut (its : List Value) (lo hi : Option Int) : slicePick its.toArray lo hi none = ((its.drop (HT.sIx its.length 0 lo)).take (HT.sIx its.length its.length hi - HT.sIx its.length 0 lo)).toArray := by
  obtain ⟨h1, h2, h3⟩ := slice_bounds lo hi its.toArray.size
  unfold slicePick
  rw [h1, h2, h3]
  simp only [sliceRange_one, pick_run, List.size_toArray] <;> rfl
/-- xs[lo:hi] of a list: a new list -/
def rSlL (K : PySem.W.Frag) : V → Option Int → Option Int → Hp → VK → Prop := fun x lo hi H Q => ∃ a xs, x = .ref a ∧ SqL K H a xs ∧ ∀ p, H p = none → Q (.ref p) (upd H p (.lst (cutV xs lo hi)))
theorem sl_list : SlR X (rSlL X.K) := by
  intro pins s σ H x v vl vu lo hi sl Q I rx hs pl pu h
  obtain ⟨a, xs, rfl, hx, q⟩ := h
  cases rx
  obtain ⟨its, r, ht, hz⟩ := I.list hx
  have hlen := r.length
  refine ⟨"list", _, slot_list_getitem.lookup, ht.isList.typeIs, ?_⟩
  refine wpAny_getItem_list_slice ht.isList hs pl pu .none (by simp) ?_ (by rw [List.size_toArray] <;> omega)
  rw [slicePick_cut, ← hlen]
  refine ⟨.ref s.heap.objs.size, _, I.laid (t' := s.toks) (o := .lst (cutV xs lo hi)) (fun b ob q => Heap.get?_push_of_some _ q) (Nat.le_refl _) ?_, rfl, q _ (I.hok.fresh (Nat.le_refl _))⟩
  exact ⟨Nat.le_trans (cutV_length xs lo hi) hz, _, 0, (r.drop (HT.sIx xs.length 0 lo)).take (HT.sIx xs.length xs.length hi - HT.sIx xs.length 0 lo), Heap.get?_push_size _ rfl⟩

/-! ### in, not in: flat items -/
def flatV : V → Bool
  | .non => true
  | .bl _ => true
  | .int _ => true
  | .str _ => true
  | _ => false
/-- == of flat values -/
def eqV : V → V → Bool
  | .non, .non => true
  | .bl a, .bl b => a == b
  | .bl a, .int b => (if a then 1 else 0) == b
  | .int a, .bl b => a == (if b then 1 else 0)
  | .int a, .int b => a == b
  | .str a, .str b => a == b
  | _, _ => false
theorem eqAt_V {A : Around} {s : Shared} {y x : V} {u v : Value} (ry : RelV y u) (rx : RelV x v) (fy : flatV y = true) (fx : flatV x = true) : SeqAt.EqAt A s u v (eqV y x) := by
  cases y with
  | non =>
    cases ry
    cases x with
    | non => cases rx; exact SeqAt.EqAt.same _
    | bl b => cases rx; exact SeqAt.EqAt.none_bool b
    | int b => obtain ⟨t, rfl⟩ := rx; exact SeqAt.EqAt.none_int b t
    | str b => obtain ⟨t, rfl⟩ := rx; exact SeqAt.EqAt.none_str b t
    | _ => exact absurd (show false = true from fx) Bool.false_ne_true
  | bl a =>
    cases ry
    cases x with
    | non => cases rx; exact SeqAt.EqAt.bool_none a
    | bl b => cases rx; exact SeqAt.EqAt.bool_bool a b
    | int b => obtain ⟨t, rfl⟩ := rx; exact SeqAt.EqAt.bool_int a b t
    | str b => obtain ⟨t, rfl⟩ := rx; exact SeqAt.EqAt.bool_str a b t
    | _ => exact absurd (show false = true from fx) Bool.false_ne_true
  | int a =>
    obtain ⟨t', rfl⟩ := ry
    cases x with
    | non => cases rx; exact SeqAt.EqAt.int_none a t'
    | bl b => cases rx; exact SeqAt.EqAt.int_bool a t' b
    | int b => obtain ⟨t, rfl⟩ := rx; exact SeqAt.EqAt.int_int a t' b t
    | str b => obtain ⟨t, rfl⟩ := rx; exact SeqAt.EqAt.int_str a t' b t
    | _ => exact absurd (show false = true from fx) Bool.false_ne_true
  | str a =>
    obtain ⟨t', rfl⟩ := ry
    cases x with
    | non => cases rx; exact SeqAt.EqAt.str_none a t'
    | bl b => cases rx; exact SeqAt.EqAt.str_bool a t' b
    | int b => obtain ⟨t, rfl⟩ := rx; exact SeqAt.EqAt.str_int a t' b t
    | str b => obtain ⟨t, rfl⟩ := rx; exact SeqAt.EqAt.str_str a t' b t
    | _ => exact absurd (show false = true from fx) Bool.false_ne_true
  | _ => exact absurd (show false = true from fy) Bool.false_ne_true
/-- the items' answers, read off the values (a value's own answer does not lean on its token) -/
def eqU (x : V) (u : Value) : Bool := match u with
  | .none => eqV .non x
  | .bool b => eqV (.bl b) x
  | .int i _ => eqV (.int i) x
  | .str z _ => eqV (.str z) x
  | _ => false
theorem eqU_of {x y : V} {u : Value} (r : RelV y u) (f : flatV y = true) : eqU x u = eqV y x := by
  cases y with
  | non => cases r; rfl
  | bl b => cases r; rfl
  | int i => obtain ⟨t, rfl⟩ := r; rfl
  | str z => obtain ⟨t, rfl⟩ := r; rfl
  | _ => exact absurd (show false = true from f) Bool.false_ne_true
theorem any_eqU {x : V} : ∀ {xs : List V} {us : List Value}, Vals xs us → xs.all flatV = true → us.any (eqU x) = xs.any fun y => eqV y x
  | _, _, .nil, _ => rfl
  | y :: xs, u :: us, .cons r t, f => by
    rw [List.all_cons, Bool.and_eq_true] at f
    rw [List.any_cons, List.any_cons, eqU_of r f.1, any_eqU t f.2]
theorem mem_eqAt {A : Around} {s : Shared} {x : V} {v : Value} (rx : RelV x v) (fx : flatV x = true) : ∀ {xs : List V} {us : List Value}, Vals xs us → xs.all flatV = true → ∀ u ∈ us, SeqAt.EqAt A s u v (eqU x u)
  | _, _, .nil, _ => fun u hu => by cases hu
  | y :: xs, u :: us, .cons r t, f => fun u' hu => by
    rw [List.all_cons, Bool.and_eq_true] at f
    rcases List.mem_cons.mp hu with rfl | hu
    · rw [eqU_of r f.1]; exact eqAt_V r rx f.1 fx
    · exact mem_eqAt rx fx t f.2 u' hu
def inV (x : V) (xs : List V) : Bool := xs.any fun y => eqV y x
/-- x in a list or tuple of flat items -/
def rIn (K : PySem.W.Frag) (neg : Bool) : R2 := fun x y H Q => ∃ p xs, y = .ref p ∧ (SqL K H p xs ∨ SqT K H p xs) ∧ flatV x = true ∧ xs.all flatV = true ∧ Q (.bl (if neg then !inV x xs else inV x xs)) H
theorem op_notIn_seq : OpR X (compareOp .NotIn) (rIn X.K true) := by
  intro pins s σ H x y v u Q I rx ry h
  obtain ⟨p, xs, rfl, hq, fx, fs, q⟩ := h
  cases ry
  rcases hq with hq | hq
  · obtain ⟨its, r, pl, hz⟩ := I.list hq
    refine SeqAt.notIn_listAt (eqU x) pl.isList (fun w hw => mem_eqAt rx fx r fs w (by simpa using hw)) ⟨.bl _, H, I, rfl, ?_⟩
    rw [show its.toArray.any (eqU x) = its.any (eqU x) by simp, any_eqU r fs]
    exact q
  · obtain ⟨its, r, pl, hz⟩ := I.tuple hq
    refine SeqAt.notIn_tupleAt (eqU x) pl (fun w hw => mem_eqAt rx fx r fs w (by simpa using hw)) ⟨.bl _, H, I, rfl, ?_⟩
    rw [show its.toArray.any (eqU x) = its.any (eqU x) by simp, any_eqU r fs]
    exact q
/-! ### len, list(x), tuple(x) of any list or tuple that is read -/
theorem call_list_of : CallR X (.type "list") (fun xs H Q => ∃ p ys, xs = [.ref p] ∧ (SqL X.K H p ys ∨ SqT X.K H p ys) ∧ ∀ l, H l = none → Q (.ref l) (upd H l (.lst ys))) := by
  intro pins s σ H xs us Q I r h
  obtain ⟨p, ys, rfl, hq, q⟩ := h
  obtain ⟨u, rfl, rx⟩ := vals1 r
  cases rx
  have fin : ∀ (its : List Value), Vals ys its → ys.length ≤ sizeLine → ∀ (h' : Heap) (c' : Nat), (∀ b o', s.heap.get? b = some o' → h'.get? b = some o') →
      h'.get? s.heap.objs.size = some { cls := .type "list", dict := none, data := .seq its.toArray c', slots := #[] } → EP X pins σ Q (.ref s.heap.objs.size) { s with heap := h' } := fun its r' hz h' c' kp e =>
    ⟨.ref s.heap.objs.size, _, I.laid (t' := s.toks) kp (Nat.le_refl _) (show ObjOk X.prog X.w _ h' _ (.lst ys) from ⟨hz, its, c', r', e⟩), rfl, q _ (I.hok.fresh (Nat.le_refl _))⟩
  rcases hq with hq | hq
  · obtain ⟨its, r', pl, hz⟩ := I.list hq
    have hlen := r'.length
    obtain ⟨o, ho, hc, n, hd⟩ := pl.isList
    exact call_list_seq p (.inl rfl) ho hc hd (fun h' c' kp e => fin its r' hz h' c' kp e) (by simp only [List.size_toArray] <;> omega)
  · obtain ⟨its, r', pl, hz⟩ := I.tuple hq
    have hlen := r'.length
    obtain ⟨o, ho, hc, n, hd⟩ := pl
    exact call_list_seq p (.inr rfl) ho hc hd (fun h' c' kp e => fin its r' hz h' c' kp e) (by simp only [List.size_toArray] <;> omega)
/-! ### the call of a builtin's method: o.m(..) -/
/-- the value is of that builtin type -/
def tyV (K : PySem.W.Frag) (T : String) (x : V) (H : Hp) : Prop := match x with
  | .str _ => T = "str"
  | .int _ => T = "int"
  | .ref p => (T = "list" ∧ ∃ xs, SqL K H p xs) ∨ (T = "tuple" ∧ ∃ o, K.lookup p = some o ∧ o.cls = .type "tuple" ∧ o.dict = none) ∨
      (T = "dict" ∧ ((∃ kvs, H p = some (.dK kvs)) ∨ ∃ kvs, H p = some (.dT kvs))) ∨ (T = "set" ∧ ∃ S n, H p = some (.set S n))
  | _ => False
theorem tyV_is {pins : List (Addr × Obj)} {σ : St} {H : Hp} {s : Shared} {T : String} {x : V} {v : Value} (I : Inv X pins σ H s) (r : RelV x v) (ty : tyV X.K T x H) :
    s.TypeIs v T ∧ ∀ a, v = .ref a → ∃ ob, s.heap.get? a = some ob ∧ ob.dict = none := by
  cases x with
  | str z =>
    obtain ⟨t, rfl⟩ := r
    cases (show T = "str" from ty)
    exact ⟨typeIs_str s z t, fun _ e => nomatch e⟩
  | int i =>
    obtain ⟨t, rfl⟩ := r
    cases (show T = "int" from ty)
    exact ⟨typeIs_int s i t, fun _ e => nomatch e⟩
  | ref p =>
    cases r
    rcases ty with ⟨rfl, xs, hq⟩ | ⟨rfl, o, hk, hc, hd⟩ | ⟨rfl, hk⟩ | ⟨rfl, S, n, hk⟩
    · obtain ⟨its, _, pl, _⟩ := I.list hq
      refine ⟨pl.isList.typeIs, fun a e => ?_⟩
      cases e
      obtain ⟨o, n, e, c, hd, _⟩ := pl
      exact ⟨o, e, hd⟩
    · refine ⟨⟨o, I.kIn p o hk, hc⟩, fun a e => ?_⟩
      cases e
      exact ⟨o, I.kIn _ o hk, hd⟩
    · have z : ∃ o, s.heap.get? p = some o ∧ o.ExactDict := by
        rcases hk with ⟨kvs, hk⟩ | ⟨kvs, hk⟩
        · obtain ⟨_, _, _, _, o, _, _, e, ex, _⟩ := I.hok p _ hk
          exact ⟨o, e, ex⟩
        · obtain ⟨_, _, _, _, o, _, _, e, ex, _⟩ := I.hok p _ hk
          exact ⟨o, e, ex⟩
      obtain ⟨o, e, ex⟩ := z
      refine ⟨⟨o, e, ex.1⟩, fun a e2 => ?_⟩
      cases e2
      exact ⟨o, e, ex.2.1⟩
    · obtain ⟨o, _, _, _, e, ex, _⟩ := I.hok p _ hk
      refine ⟨⟨o, e, ex.1⟩, fun a e2 => ?_⟩
      cases e2
      exact ⟨o, e, ex.2.1⟩
  | _ => exact False.elim ty
def tBM (K : PySem.W.Frag) (T : String) (r : V → List V → Hp → VK → Prop) (to : TE) (t : TA) : TE := fun σ H Q => to σ H fun x H1 => tyV K T x H1 ∧ t σ H1 fun xs H2 => r x xs H2 Q
variable {o e : Expr} {es : List Expr} {to : TE} {t : TA} {name : Str} {apos cpos : Pos} {T id : String} {r : V → List V → Hp → VK → Prop}
theorem pe_bm (pa : PlainAttrs T) (slot : Slot T name id) (hty : typeOf (.builtin id) = pure (.type "method_descriptor")) (hm : MtR X id r) (ho : PE X o to) (ha : PA X (e :: es) t)
    (hbase : attributeBase o name X.env (eval o X.env) = eval o X.env := by rfl)
    (hfew : ((backTo cpos (starEach (e :: es) X.env)).all (fun x => !x.1) && (backToKw cpos (keywordEach [] X.env)).all (fun x => x.1.isSome)
      && decide ((e :: es).length + ([] : List Keyword).length + (if ([] : List Keyword).isEmpty then 0 else 1) < 30)) = true := by rfl)
    (hline : (apos.endLine == cpos.line) = true := by rfl) (hs : starEach (e :: es) X.env = (false, eval e X.env) :: starEach es X.env := by rfl) (hplain : (backTo cpos (starEach es X.env)).any (·.1) = false := by rfl) :
    PE X (.Call (.Attribute o name apos) (e :: es) [] cpos) (tBM X.K T r to t) := by
  intro pins s σ H Q I h
  refine wpAny_Call_method_late hbase hfew hline rfl (thn (ho pins s σ H _ I h) fun v s1 ⟨x, H1, I1, r1, ty, q1⟩ => ?_)
  obtain ⟨h1, h2⟩ := tyV_is I1 r1 ty
  refine ⟨T, id, pa, slot, hty, h1, h2, ?_⟩
  have hA := ha cpos pins s1 σ H1 _ I1 q1
  rw [hs] at hA ⊢
  refine Calls.callWith_builtin (by show (false || (backTo cpos (starEach es X.env)).any (·.1)) = false; rw [hplain] <;> rfl) (Calls.evalArgs_plain ?_)
  exact thn hA fun us s2 ⟨vs, H2, I2, r2, q2⟩ => hm pins s2 σ H2 x vs v us Q I2 r1 r2 q2
/- xs.append(e), list.index on a module's tuple .. are MtR facts of 06m -/
end
end L2

namespace L2
open PySem PySem.Spec PyProof.Rows

def MtM (X : Cx) (id : String) (r : V → List V → Hp → VK → Prop) : Prop :=
  ∀ (pins : List (Addr × Obj)) (s : Shared) (σ : St) (H : Hp) (x : V) (xs : List V) (v : Value) (us : List Value) (Q : VK), Inv X pins σ H s → RelV x v → Vals xs us → r x xs H Q →
    wpAny (model X.prog X.w) X.A (call (.builtin id) (v :: us)) (EP X pins σ Q) X.xe s

/-! ### lists of values -/
theorem Vals.one : ∀ {x : V} {us : List Value}, Vals [x] us → ∃ u, us = [u] ∧ RelV x u
  | _, _, .cons r .nil => ⟨_, rfl, r⟩
theorem Vals.two : ∀ {x y : V} {us : List Value}, Vals [x, y] us → ∃ u v, us = [u, v] ∧ RelV x u ∧ RelV y v
  | _, _, _, .cons r (.cons q .nil) => ⟨_, _, rfl, r, q⟩
theorem Vals.eraseIdx : ∀ {xs : List V} {us : List Value} (i : Nat), Vals xs us → Vals (xs.eraseIdx i) (us.eraseIdx i)
  | _, _, _, .nil => .nil
  | _, _, 0, .cons _ t => t
  | _, _, i + 1, .cons r t => .cons r (Vals.eraseIdx i t)
theorem len_erase {α : Type} : ∀ (l : List α) (i : Nat), (l.eraseIdx i).length ≤ l.length
  | [], _ => Nat.le_refl _
  | _ :: _, 0 => Nat.le_succ _
  | _ :: r, i + 1 => Nat.succ_le_succ (len_erase r i)
section
variable {X : Cx} {pins : List (Addr × Obj)} {σ : St} {H : Hp} {s : Shared} {l b : Addr} {xs ys zs : List V}

/-! ### the two steps: a tracked list is rewritten, a new list is laid -/
theorem Inv.lset {its its' : List Value} {n : Nat} {f : Array Value → Array Value} {t' : Nat} (I : Inv X pins σ H s) (hH : H l = some (.lst xs))
    (e : s.heap.get? l = some { cls := .type "list", data := .seq its.toArray n }) (hf : f its.toArray = its'.toArray) (hv : Vals ys its') (hz : ys.length ≤ sizeLine) :
    Inv X pins σ (upd H l (.lst ys)) { s with heap := s.heap.update l (Obj.mapSeq f), toks := t' } := by
  have q := PySem.IsL.update e f
  rw [hf] at q
  refine I.write (x := l) (e := l) (by rw [hH]; exact trivial) (.inl rfl) (fun b' u hb hu => (Heap.get?_update_other s.heap (Obj.mapSeq f) (Ne.symm hb)).trans hu) ⟨_, q⟩ ?_
  exact ⟨hz, its', _, hv, q⟩
theorem Inv.lnew {its : List Value} {t' : Nat} (I : Inv X pins σ H s) (hv : Vals ys its) (hz : ys.length ≤ sizeLine) :
    Inv X pins σ (upd H s.heap.objs.size (.lst ys)) { s with heap := s.heap.push { cls := .type "list", data := .seq its.toArray }, toks := t' } :=
  I.laid (fun _ _ q => Heap.get?_push_of_some _ q) (Nat.le_refl _) ⟨hz, its, 0, hv, Heap.get?_push_size _ rfl⟩
theorem Inv.fresh (I : Inv X pins σ H s) : H s.heap.objs.size = none := I.hok.fresh (Nat.le_refl _)
theorem Inv.lstM (I : Inv X pins σ H s) (hH : H l = some (.lst xs)) : xs.length ≤ sizeLine ∧ ∃ (its : List Value) (n : Nat), Vals xs its ∧ xs.length = its.length ∧ s.heap.get? l = some { cls := .type "list", data := .seq its.toArray n } := by
  obtain ⟨z, its, n, r, e⟩ := I.hok l _ hH
  exact ⟨z, its, n, r, r.length, e⟩

theorem notLongL {n : Nat} (h : n ≤ sizeLine) : Builtin.List.listTooLong n = false := by
  unfold Builtin.List.listTooLong
  exact decide_eq_false (by omega)
end

section
variable {X : Cx}

/-! ### methods -/
def rAppend : V → List V → Hp → VK → Prop := fun x vs H Q => ∃ l xs y, x = .ref l ∧ vs = [y] ∧ H l = some (.lst xs) ∧ xs.length < sizeLine ∧ Q .non (upd H l (.lst (xs ++ [y])))
theorem mt_append : MtM X "list.append" rAppend := by
  intro pins s σ H x vs v us Q I rx rv h
  obtain ⟨l, xs, y, rfl, rfl, hH, hz, q⟩ := h
  cases rx
  obtain ⟨u, rfl, ru⟩ := rv.one
  obtain ⟨z, its, n, r, hl, e⟩ := I.lstM hH
  refine call_meets F.slot_list_append ⟨_, e, rfl⟩ F.entry_list_append (F.args_list_append_2 _ _) (PySem.list_append l its.toArray n u (by rw [List.size_toArray]; omega)) ⟨e, ?_⟩
  refine ⟨.non, _, I.lset (its' := its ++ [u]) hH e (by simp) (r.append (.cons ru .nil)) ?_, rfl, q⟩
  rw [List.length_append, List.length_singleton]
  omega

def rExtend : V → List V → Hp → VK → Prop := fun x vs H Q => ∃ l b xs zs, x = .ref l ∧ vs = [.ref b] ∧ H l = some (.lst xs) ∧ H b = some (.lst zs) ∧ xs.length + zs.length ≤ sizeLine ∧ Q .non (upd H l (.lst (xs ++ zs)))
theorem mt_extend : MtM X "list.extend" rExtend := by
  intro pins s σ H x vs v us Q I rx rv h
  obtain ⟨l, b, xs, zs, rfl, rfl, hH, hB, hz, q⟩ := h
  cases rx
  obtain ⟨u, rfl, ru⟩ := rv.one
  cases ru
  obtain ⟨z, its, n, r, hl, e⟩ := I.lstM hH
  obtain ⟨z2, its2, n2, r2, hl2, e2⟩ := I.lstM hB
  have hsz : its.toArray.size + its2.toArray.size ≤ sizeLine := by rw [List.size_toArray, List.size_toArray]; omega
  have hlong : ¬ (!its.toArray.isEmpty && Builtin.List.listTooLong (its.toArray.size + its2.toArray.size)) = true := by
    rw [notLongL hsz, Bool.and_false]
    exact Bool.false_ne_true
  refine call_meets F.slot_list_extend ⟨_, e, rfl⟩ F.entry_list_extend (F.args_list_extend_2 _ _)
    (AutoSeq1.list_extend_list_list_0 l its.toArray n b its2.toArray n2 hlong (by rw [List.size_toArray]; omega) (by omega)) ⟨e, e2, ?_⟩
  refine ⟨.non, _, I.lset (its' := its ++ its2) hH e (by simp) (r.append r2) ?_, rfl, q⟩
  rw [List.length_append]
  omega

def rPopAt : V → List V → Hp → VK → Prop := fun x vs H Q => ∃ l xs i k y, x = .ref l ∧ vs = [.int i] ∧ H l = some (.lst xs) ∧ -(2 ^ 63) ≤ i ∧ i < 2 ^ 63 ∧ seqIndex? i xs.length = some k ∧ xs[k]? = some y ∧ Q y (upd H l (.lst (xs.eraseIdx k)))
theorem mt_popAt : MtM X "list.pop" rPopAt := by
  intro pins s σ H x vs v us Q I rx rv h
  obtain ⟨l, xs, i, k, y, rfl, rfl, hH, h1, h2, hk, hy, q⟩ := h
  cases rx
  obtain ⟨u, rfl, ru⟩ := rv.one
  obtain ⟨t, rfl⟩ := ru
  obtain ⟨z, its, n, r, hl, e⟩ := I.lstM hH
  obtain ⟨w, hw, rw'⟩ := r.get hy
  refine call_meets F.slot_list_pop ⟨_, e, rfl⟩ F.entry_list_pop (F.args_list_pop_2 _ _)
    (MeetsSeq.list_pop_at l its.toArray n i t k w (fitsIndex_both h1 h2) (by rw [List.size_toArray, ← hl]; exact hk) (by rw [← Array.getElem?_toList]; exact hw) (by rw [List.size_toArray]; omega)) ⟨e, ?_⟩
  refine ⟨y, _, I.lset (its' := its.eraseIdx k) hH e ?_ (r.eraseIdx k) ?_, rw', q⟩
  · show its.toArray.eraseIdxIfInBounds k = (its.eraseIdx k).toArray
    rw [List.eraseIdxIfInBounds_toArray]
  · have := len_erase xs k
    omega

/-! ### list + list, list += list, list * int -/
def rCat : R2 := fun x y H Q => ∃ l b xs zs, x = .ref l ∧ y = .ref b ∧ H l = some (.lst xs) ∧ H b = some (.lst zs) ∧ xs.length + zs.length ≤ sizeLine ∧ ∀ p, H p = none → Q (.ref p) (upd H p (.lst (xs ++ zs)))
theorem op_cat : OpR X (binaryOp .Add) rCat := by
  intro pins s σ H x y v u Q I rx ry h
  obtain ⟨l, b, xs, zs, rfl, rfl, hH, hB, hz, q⟩ := h
  cases rx
  cases ry
  obtain ⟨z, its, n, r, hl, e⟩ := I.lstM hH
  obtain ⟨z2, its2, n2, r2, hl2, e2⟩ := I.lstM hB
  refine PySem.P.add_list e e2 ?_ (by rw [List.size_toArray, List.size_toArray]; omega)
  have ea : its.toArray ++ its2.toArray = (its ++ its2).toArray := by simp
  rw [ea]
  exact ⟨.ref _, _, I.lnew (t' := s.toks) (r.append r2) (by rw [List.length_append]; omega), rfl, q _ I.fresh⟩
/-! ### del xs[i] -/
end

/-! ### xs[a:b] = ys -/
section
variable {prog : Program} {w : World} {A : Around} {E : Value → Shared → Prop} {s : Shared}
set_option maxRecDepth 100000 in
end

section
variable {X : Cx}
end
end L2

namespace L2
open PySem PySem.Spec PyProof.Rows

/-! ### lists of pairs as tables -/
section
variable {κ : Type} [DecidableEq κ]
def valV (kvs : List (κ × V)) (k : κ) : Option V := (kvs.find? fun kv => decide (kv.1 = k)).map (·.2)
/-- in its place, or at the end -/
def putK (kvs : List (κ × V)) (k : κ) (v : V) : List (κ × V) :=
  if (kvs.any fun kv => decide (kv.1 = k)) = true then kvs.map (fun kv => if kv.1 = k then (kv.1, v) else kv) else kvs ++ [(k, v)]
def dropK (kvs : List (κ × V)) (k : κ) : List (κ × V) := kvs.filter fun kv => decide (kv.1 ≠ k)

theorem valV_pos {p : κ × V} {r : List (κ × V)} {k : κ} (e : p.1 = k) : valV (p :: r) k = some p.2 := by simp [valV, List.find?_cons, e]
theorem valV_neg {p : κ × V} {r : List (κ × V)} {k : κ} (e : ¬ p.1 = k) : valV (p :: r) k = valV r k := by simp [valV, List.find?_cons, e]
theorem valV_any (k : κ) : ∀ kvs : List (κ × V), (kvs.any fun kv => decide (kv.1 = k)) = (valV kvs k).isSome
  | [] => rfl
  | p :: r => by
    rw [List.any_cons]
    by_cases e : p.1 = k
    · simp only [valV_pos e, decide_eq_true e, Bool.true_or, Option.isSome_some]
    · rw [valV_neg e, decide_eq_false e, Bool.false_or]; exact valV_any k r
theorem length_putK (kvs : List (κ × V)) (k : κ) (v : V) : (putK kvs k v).length ≤ kvs.length + 1 := by
  unfold putK
  split
  · rw [List.length_map]; omega
  · rw [List.length_append, List.length_cons, List.length_nil]; omega
theorem putK_new {kvs : List (κ × V)} {k : κ} (v : V) (h : valV kvs k = none) : putK kvs k v = kvs ++ [(k, v)] := by
  unfold putK
  rw [valV_any, h]
  exact if_neg (by decide)

theorem RelO.isSome_eq {o : Option V} {u : Option Value} (r : RelO o u) : o.isSome = u.isSome := by
  cases o with
  | none => cases u with
    | none => rfl
    | some _ => exact (show False from r).elim
  | some _ => cases u with
    | none => exact (show False from r).elim
    | some _ => rfl
/-- raw tables of the same keys -/
theorem KV.val {kvs : List (κ × V)} {vs : List (κ × Value)} (r : KV kvs vs) (k : κ) : RelO (valV kvs k) (valueAt vs k) := by
  unfold KV at r
  induction r with
  | nil => exact True.intro
  | @cons p q ps qs h t ih =>
    obtain ⟨h1, h2⟩ := h
    by_cases e : p.1 = k
    · have e' : q.1 = k := h1.symm.trans e
      have b : valueAt (q :: qs) k = some q.2 := by simp [valueAt, List.find?_cons, e']
      rw [valV_pos e, b]; exact h2
    · have e' : ¬ q.1 = k := fun z => e (h1.trans z)
      have b : valueAt (q :: qs) k = valueAt qs k := by simp [valueAt, List.find?_cons, e']
      rw [valV_neg e, b]; exact ih
theorem KV.any {kvs : List (κ × V)} {vs : List (κ × Value)} (r : KV kvs vs) (k : κ) : (kvs.any fun kv => decide (kv.1 = k)) = vs.any fun kv => decide (kv.1 = k) := by
  unfold KV at r
  induction r with
  | nil => rfl
  | cons h t ih => rw [List.any_cons, List.any_cons, ih, h.1]
theorem KV.repl {kvs : List (κ × V)} {vs : List (κ × Value)} (r : KV kvs vs) (k : κ) {y : V} {u : Value} (ry : RelV y u) :
    KV (kvs.map fun kv => if kv.1 = k then (kv.1, y) else kv) (vs.map fun kv => if kv.1 = k then (kv.1, u) else kv) := by
  unfold KV at r ⊢
  induction r with
  | nil => exact .nil
  | @cons p q ps qs h t ih =>
    rw [List.map_cons, List.map_cons]
    refine .cons ?_ ih
    obtain ⟨h1, h2⟩ := h
    by_cases e : p.1 = k
    · rw [if_pos e, if_pos (h1.symm.trans e)]; exact ⟨h1, ry⟩
    · rw [if_neg e, if_neg (fun z => e (h1.trans z))]; exact ⟨h1, h2⟩
theorem KV.put {kvs : List (κ × V)} {vs : List (κ × Value)} (r : KV kvs vs) (k : κ) {y : V} {u : Value} (ry : RelV y u) : KV (putK kvs k y) (stored vs k u) := by
  unfold putK stored
  rw [r.any k]
  by_cases e : (vs.any fun kv => decide (kv.1 = k)) = true
  · rw [if_pos e, if_pos e]; exact r.repl k ry
  · rw [if_neg e, if_neg e]; exact Paired.snoc r ⟨rfl, ry⟩
theorem KV.drop {kvs : List (κ × V)} {vs : List (κ × Value)} (r : KV kvs vs) (k : κ) : KV (dropK kvs k) (without vs k) := by
  unfold KV at r ⊢
  unfold dropK without
  induction r with
  | nil => exact .nil
  | @cons p q ps qs h t ih =>
    obtain ⟨h1, h2⟩ := h
    rw [List.filter_cons, List.filter_cons]
    by_cases e : p.1 = k
    · have a : ¬ decide (p.1 ≠ k) = true := by simp [e]
      have b : ¬ decide (q.1 ≠ k) = true := by simp [h1.symm.trans e]
      rw [if_neg a, if_neg b]; exact ih
    · have e' : ¬ q.1 = k := fun z => e (h1.trans z)
      have a : decide (p.1 ≠ k) = true := by simp [e]
      have b : decide (q.1 ≠ k) = true := by simp [e']
      rw [if_pos a, if_pos b]; exact .cons ⟨h1, h2⟩ ih
theorem KV.length {kvs : List (κ × V)} {vs : List (κ × Value)} (r : KV kvs vs) : kvs.length = vs.length := Paired.length r
theorem dropK_le (kvs : List (κ × V)) (k : κ) : (dropK kvs k).length ≤ kvs.length := List.length_filter_le _ _
end

/-! ### a tracked dict, its keys ints and texts or tuples of these -/
theorem kV_is {P : Program} {w : World} {k : Key} {u : Value} (r : RelV (kV k) u) : (mixKind P w).is k u = true := by
  cases k with
  | inl i => obtain ⟨t, e⟩ := (show ∃ t, u = Value.int i t from r); subst e; exact mixKind_int P w i t
  | inr x => obtain ⟨t, e⟩ := (show ∃ t, u = Value.str x t from r); subst e; exact mixKind_str P w x t
theorem items_are {P : Program} {w : World} : ∀ {ks : List Key} {us : List Value}, Vals (ks.map kV) us → ItemsAre (mixKind P w) ks us
  | [], _, r => by rw [List.map_nil] at r; cases r; exact .nil
  | k :: ks, _, r => by
    rw [List.map_cons] at r
    cases r with
    | cons h t => exact .cons (kV_is h) (items_are t)

/-- raw entries of a dict with tuple keys -/
abbrev KT (H : Hp) : List (List Key × V) → List (List Key × Addr × Value) → Prop := Paired fun p q => p.1 = q.1 ∧ H q.2.1 = some (.tup (p.1.map kV)) ∧ RelV p.2 q.2.2
theorem KT.val {H : Hp} {kvs : List (List Key × V)} {xs : List (List Key × Addr × Value)} (r : KT H kvs xs) (k : List Key) : RelO (valV kvs k) ((atKey xs k).map (·.2)) := by
  induction r with
  | nil => exact True.intro
  | @cons p q ps qs h t ih =>
    obtain ⟨h1, _, h2⟩ := h
    by_cases e : p.1 = k
    · have e' : q.1 = k := h1.symm.trans e
      have b : atKey (q :: qs) k = some q.2 := by simp [atKey, List.find?_cons, e']
      rw [valV_pos e, b]; exact h2
    · have e' : ¬ q.1 = k := fun z => e (h1.trans z)
      have b : atKey (q :: qs) k = atKey qs k := by simp [atKey, List.find?_cons, e']
      rw [valV_neg e, b]; exact ih
theorem KT.repl {H : Hp} {kvs : List (List Key × V)} {xs : List (List Key × Addr × Value)} (r : KT H kvs xs) (k : List Key) {y : V} {u : Value} (ry : RelV y u) :
    KT H (kvs.map fun kv => if kv.1 = k then (kv.1, y) else kv) (xs.map (putAt k u)) := by
  induction r with
  | nil => exact .nil
  | @cons p q ps qs h t ih =>
    rw [List.map_cons, List.map_cons]
    refine .cons ?_ ih
    obtain ⟨h1, h2, h3⟩ := h
    unfold putAt
    by_cases e : p.1 = k
    · rw [if_pos e, if_pos (h1.symm.trans e)]; exact ⟨h1, h2, ry⟩
    · rw [if_neg e, if_neg (fun z => e (h1.trans z))]; exact ⟨h1, h2, h3⟩
theorem KT.put {H : Hp} {kvs : List (List Key × V)} {xs : List (List Key × Addr × Value)} (r : KT H kvs xs) (k : List Key) {b : Addr} {y : V} {u : Value} (hb : H b = some (.tup (k.map kV))) (ry : RelV y u) :
    KT H (putK kvs k y) (storedH xs k b u) := by
  have e : (kvs.any fun kv => decide (kv.1 = k)) = (atKey xs k).isSome := by
    rw [valV_any, (r.val k).isSome_eq, Option.isSome_map]
  unfold putK storedH
  rw [e]
  by_cases q : (atKey xs k).isSome = true
  · rw [if_pos q, if_pos q]; exact r.repl k ry
  · rw [if_neg q, if_neg q]; exact Paired.snoc r ⟨rfl, hb, ry⟩
theorem KT.keeps {H H' : Hp} {kvs : List (List Key × V)} {xs : List (List Key × Addr × Value)} (r : KT H kvs xs) (ht : ∀ b ys, H b = some (.tup ys) → H' b = some (.tup ys)) : KT H' kvs xs :=
  Paired.mapP r fun _ _ z => ⟨z.1, ht _ _ z.2.1, z.2.2⟩

section
variable {P : Program} {w : World} {H : Hp} {h : Heap} {a : Addr}
theorem rd_of {u : HO} (ok : HOk P w H h) (e : Rd H a u) : ObjOk P w H h a u := e.ok ok
theorem dk_rd {kvs : List (Key × V)} (ok : HOk P w H h) (e : Rd H a (.dK kvs)) : kvs.length ≤ sizeLine ∧ (a == sysModules) = false ∧ ∃ vs, KV kvs vs ∧ h.DictOf (mixKind P w) a vs :=
  show ObjOk P w H h a (.dK kvs) from rd_of ok e
theorem dk_of {kvs : List (Key × V)} (ok : HOk P w H h) (e : H a = some (.dK kvs)) : kvs.length ≤ sizeLine ∧ (a == sysModules) = false ∧ ∃ vs, KV kvs vs ∧ h.DictOf (mixKind P w) a vs := dk_rd ok (.inl e)
/-- a tracked tuple of ints and texts is a key -/
theorem key_of {ks : List Key} (ok : HOk P w H h) (e : H a = some (.tup (ks.map kV))) : (tupleKind (mixKind P w)).is h ks a := by
  obtain ⟨_, its, r, o, h1, h2, n, h3⟩ := (show ObjOk P w H h a (.tup (ks.map kV)) from ok a _ e)
  exact ⟨o, its.toArray, n, h1, h2, h3, by simpa using items_are r⟩
theorem dt_rd {kvs : List (List Key × V)} (ok : HOk P w H h) (e : Rd H a (.dT kvs)) : kvs.length ≤ sizeLine ∧ (a == sysModules) = false ∧
    ∃ xs, KT H kvs xs ∧ h.DictOfH (tupleKind (mixKind P w)) a xs := by
  obtain ⟨z, y, xs, r, o, es, ep, h1, h2, h3, h4, h5⟩ := (show ObjOk P w H h a (.dT kvs) from rd_of ok e)
  refine ⟨z, y, xs, r, o, es, ep, h1, h2, h3, h4, fun x hx => ?_, h5⟩
  have all : ∀ {l : List (List Key × V)} {m : List (List Key × Addr × Value)}, KT H l m → ∀ x ∈ m, (tupleKind (mixKind P w)).is h x.1 x.2.1 := by
    intro l m q
    induction q with
    | nil => intro x hx; exact nomatch hx
    | @cons p q ps qs hq t ih =>
      intro x hx
      rcases List.mem_cons.mp hx with e | hx
      · subst e
        exact key_of ok (by rw [← hq.1]; exact hq.2.1)
      · exact ih x hx
  exact all r x hx
theorem dt_of {kvs : List (List Key × V)} (ok : HOk P w H h) (e : H a = some (.dT kvs)) : kvs.length ≤ sizeLine ∧ (a == sysModules) = false ∧
    ∃ xs, KT H kvs xs ∧ h.DictOfH (tupleKind (mixKind P w)) a xs := dt_rd ok (.inl e)
end

/-- what the dict at a holds at the key y -/
def DGet (H : Hp) (a : Addr) (y : V) (r : Option V) : Prop :=
  (∃ kvs k, Rd H a (.dK kvs) ∧ y = kV k ∧ r = valV kvs k) ∨ ∃ kvs k b, Rd H a (.dT kvs) ∧ y = .ref b ∧ H b = some (.tup (k.map kV)) ∧ r = valV kvs k
/-- the heap behind a[y] = v -/
def DPut (H : Hp) (a : Addr) (y v : V) (H' : Hp) : Prop :=
  (∃ kvs k, H a = some (.dK kvs) ∧ y = kV k ∧ kvs.length < sizeLine ∧ H' = upd H a (.dK (putK kvs k v))) ∨
  ∃ kvs k b, H a = some (.dT kvs) ∧ y = .ref b ∧ H b = some (.tup (k.map kV)) ∧ kvs.length < sizeLine ∧ H' = upd H a (.dT (putK kvs k v))
theorem DGet.k {H : Hp} {a : Addr} {kvs : List (Key × V)} {k : Key} (e : H a = some (.dK kvs)) : DGet H a (kV k) (valV kvs k) := .inl ⟨kvs, k, .inl e, rfl, rfl⟩
theorem DPut.k {H : Hp} {a : Addr} {kvs : List (Key × V)} {k : Key} {v : V} (e : H a = some (.dK kvs)) (hl : kvs.length < sizeLine) : DPut H a (kV k) v (upd H a (.dK (putK kvs k v))) := .inl ⟨kvs, k, e, rfl, hl, rfl⟩
section
variable {X : Cx} {pins : List (Addr × Obj)} {σ : St} {H : Hp} {s : Shared} {a : Addr} {y v : V} {u r : Value} {o : Option V} {A : Around} {E : Value → Shared → Prop}

theorem Inv.big (I : Inv X pins σ H s) : sysModules < s.heap.objs.size := by
  have h : mainGlobals < s.heap.objs.size := (I.mod.glob.keeps I.bk).lt
  exact Nat.lt_trans (by decide) h

/-- d[y], there -/
theorem d_getItem {Q : Value → Shared → Prop} (hu : A.units + 1 < cLine) (I : Inv X pins σ H s) (g : DGet H a y (some v)) (ry : RelV y u) (h : ∀ w' s', Inv X pins σ H s' → RelV v w' → Q w' s') :
    wpAny (model X.prog X.w) A (getItem (.ref a) u) Q E s := by
  rcases g with ⟨kvs, k, e, ey, l⟩ | ⟨kvs, k, b, e, ey, eb, l⟩
  · subst ey
    obtain ⟨z, hd, vs, rel, dd⟩ := dk_rd I.hok e
    obtain ⟨w', hw, rw'⟩ := RelO.some_of (v := v) (o := valueAt vs k) (by rw [l]; exact rel.val k)
    exact wpAny_getItem_of (kV_is ry) dd.mapOf hw (h w' _ (I.tok _) rw')
  · subst ey
    cases (show u = Value.ref b from ry)
    obtain ⟨z, hd, xs, rel, dd⟩ := dt_rd I.hok e
    obtain ⟨w', hw, rw'⟩ := RelO.some_of (v := v) (o := (atKey xs k).map (·.2)) (by rw [l]; exact rel.val k)
    obtain ⟨p, hp, hp2⟩ := Option.map_eq_some_iff.mp hw
    refine wpAny_getItem_heap (tupleKind_room_in1 hu) (key_of I.hok eb) dd hp ?_
    rw [hp2]
    exact h w' _ (I.tok _) rw'
/-- y in d -/
theorem d_in {Q : Value → Shared → Prop} (hu : A.units + 1 < cLine) (I : Inv X pins σ H s) (g : DGet H a y o) (ry : RelV y u) (h : ∀ s', Inv X pins σ H s' → Q (.bool o.isSome) s') :
    wpAny (model X.prog X.w) A (compareOp .In u (.ref a)) Q E s := by
  rcases g with ⟨kvs, k, e, ey, l⟩ | ⟨kvs, k, b, e, ey, eb, l⟩
  · subst ey
    obtain ⟨z, hd, vs, rel, dd⟩ := dk_rd I.hok e
    refine wpAny_in_of (kV_is ry) hd dd.mapOf ?_
    rw [← (rel.val k).isSome_eq, ← l]
    exact h _ (I.tok _)
  · subst ey
    cases (show u = Value.ref b from ry)
    obtain ⟨z, hd, xs, rel, dd⟩ := dt_rd I.hok e
    refine wpAny_in_heap (tupleKind_room_in1 hu) (key_of I.hok eb) hd dd ?_
    have q := (rel.val k).isSome_eq
    rw [Option.isSome_map] at q
    rw [← q, ← l]
    exact h _ (I.tok _)
theorem d_notIn {Q : Value → Shared → Prop} (hu : A.units + 1 < cLine) (I : Inv X pins σ H s) (g : DGet H a y o) (ry : RelV y u) (h : ∀ s', Inv X pins σ H s' → Q (.bool (!o.isSome)) s') :
    wpAny (model X.prog X.w) A (compareOp .NotIn u (.ref a)) Q E s := by
  rcases g with ⟨kvs, k, e, ey, l⟩ | ⟨kvs, k, b, e, ey, eb, l⟩
  · subst ey
    obtain ⟨z, hd, vs, rel, dd⟩ := dk_rd I.hok e
    refine wpAny_notIn_of (kV_is ry) hd dd.mapOf ?_
    rw [← (rel.val k).isSome_eq, ← l]
    exact h _ (I.tok _)
  · subst ey
    cases (show u = Value.ref b from ry)
    obtain ⟨z, hd, xs, rel, dd⟩ := dt_rd I.hok e
    refine wpAny_notIn_heap (tupleKind_room_in1 hu) (key_of I.hok eb) hd dd ?_
    have q := (rel.val k).isSome_eq
    rw [Option.isSome_map] at q
    rw [← q, ← l]
    exact h _ (I.tok _)
/-- a dict's object is replaced -/
theorem d_write {h' : Heap} {t' : Nat} {ob : HO} (I : Inv X pins σ H s) (mu : Mut (H a)) (hs : Heap.SameBut a s.heap h') (he : ∃ q, h'.get? a = some q) (new : ObjOk X.prog X.w (upd H a ob) h' a ob) :
    Inv X pins σ (upd H a ob) { s with heap := h', toks := t' } :=
  I.write (x := a) (e := a) mu (.inl rfl) (fun b q hb z => (hs.2 b hb).trans z) he new
theorem dk_new {P : Program} {w : World} {H' : Hp} {h' : Heap} {kvs : List (Key × V)} {vs : List (Key × Value)} (z : kvs.length ≤ sizeLine) (hd : (a == sysModules) = false) (rel : KV kvs vs) (dd : h'.DictOf (mixKind P w) a vs) :
    ObjOk P w H' h' a (.dK kvs) := ⟨z, hd, vs, rel, dd⟩
/-- d[y] = v -/
theorem d_setItem {H' : Hp} {Q : Unit → Shared → Prop} (hu : A.units + 1 < cLine) (I : Inv X pins σ H s) (g : DPut H a y v H') (ry : RelV y u) (rv : RelV v r) (h : ∀ s', Inv X pins σ H' s' → Q () s') :
    wpAny (model X.prog X.w) A (setItem (.ref a) u r) Q E s := by
  rcases g with ⟨kvs, k, e, ey, l, eH⟩ | ⟨kvs, k, b, e, ey, eb, l, eH⟩
  · subst ey eH
    obtain ⟨z, hd, vs, rel, dd⟩ := dk_of I.hok e
    have hz : vs.length ≤ sizeLine := by rw [← rel.length]; exact z
    have hl : (putK kvs k v).length ≤ sizeLine := by have := length_putK kvs k v; omega
    refine wpAny_setItem_pairs (hsz := hz) (kV_is ry) dd fun h' dd' hs => h _ ?_
    have he : ∃ q, h'.get? a = some q := let ⟨q, _, _, hq, _⟩ := dd'; ⟨q, hq⟩
    exact d_write I (by rw [e]; exact True.intro) hs he (dk_new hl hd (rel.put k rv) dd')
  · subst ey eH
    cases (show u = Value.ref b from ry)
    obtain ⟨z, hd, xs, rel, dd⟩ := dt_of I.hok e
    have hz : xs.length ≤ sizeLine := by rw [← Paired.length rel]; exact z
    have hl : (putK kvs k v).length ≤ sizeLine := by have := length_putK kvs k v; omega
    refine wpAny_setItem_heap (hsz := hz) (tupleKind_room_in1 hu) (key_of I.hok eb) dd fun h' dd' hs => h _ ?_
    obtain ⟨q, es, ep, hq, h2, h3, h4, _, h5⟩ := dd'
    refine d_write I (by rw [e]; exact True.intro) hs ⟨q, hq⟩ ⟨hl, hd, _, (rel.put k eb rv).keeps fun c ys ec => ?_, q, es, ep, hq, h2, h3, h4, h5⟩
    rw [upd_ne (ne_of ec e (fun z => nomatch z))]
    exact ec
end

section
variable {X : Cx} {pins : List (Addr × Obj)} {σ : St} {H : Hp} {s : Shared} {a : Addr} {kvs : List (Key × V)} {k : Key} {u : Value} {A : Around} {E : Value → Shared → Prop}
/-- del d[k] -/
theorem d_delItem {Q : Unit → Shared → Prop} (I : Inv X pins σ H s) (e : H a = some (.dK kvs)) (ry : RelV (kV k) u) (l : (valV kvs k).isSome = true) (h : ∀ s', Inv X pins σ (upd H a (.dK (dropK kvs k))) s' → Q () s') :
    wpAny (model X.prog X.w) A (delItem (.ref a) u) Q E s := by
  obtain ⟨z, hd, vs, rel, dd⟩ := dk_of I.hok e
  refine wpAny_delItem_slot dd.typeIs (by decide) PySem.F.slot_dict_delitem
    (call_meetsIn PySem.F.slot_dict_delitem dd.typeIs PySem.F.entry_dict_delitem (PySem.F.args_dict_delitem_2 _ _) (meets_dict_delitem_pairs (mixKind X.prog X.w) a (kV_is ry)) ⟨vs, dd, by rw [← rel.length]; exact z, by rw [← (rel.val k).isSome_eq]; exact l, fun h' dd' hs => h _ ?_⟩)
  have he : ∃ q, h'.get? a = some q := let ⟨q, _, _, hq, _⟩ := dd'; ⟨q, hq⟩
  exact d_write I (by rw [e]; exact True.intro) hs he (dk_new (Nat.le_trans (dropK_le kvs k) z) hd (rel.drop k) dd')
/-- d.pop(k[, x]), there -/
theorem d_pop {v : V} {more : List Value} {Q : Value → Shared → Prop} (I : Inv X pins σ H s) (e : H a = some (.dK kvs)) (ry : RelV (kV k) u) (l : valV kvs k = some v) (hm : more = [] ∨ ∃ x, more = [x])
    (h : ∀ w' s', Inv X pins σ (upd H a (.dK (dropK kvs k))) s' → RelV v w' → Q w' s') : wpAny (model X.prog X.w) A (call (.builtin "dict.pop") (.ref a :: u :: more)) Q E s := by
  obtain ⟨z, hd, vs, rel, dd⟩ := dk_of I.hok e
  obtain ⟨w', hw, rw'⟩ := RelO.some_of (v := v) (o := valueAt vs k) (by rw [← l]; exact rel.val k)
  have hp : (keyPart u).isSome = true := by
    cases k with
    | inl i => obtain ⟨t, q⟩ := (show ∃ t, u = Value.int i t from ry); subst q; rfl
    | inr x => obtain ⟨t, q⟩ := (show ∃ t, u = Value.str x t from ry); subst q; rfl
  have ha : argsOk "dict.pop" ⟨.ref a :: u :: more, []⟩ := by
    rcases hm with q | ⟨x, q⟩
    · subst q; exact PySem.F.args_dict_pop_2 _ _
    · subst q; exact PySem.F.args_dict_pop_3 _ _ _
  refine call_meetsIn PySem.F.slot_dict_pop dd.typeIs PySem.F.entry_dict_pop ha (meets_dict_pop_there (mixKind X.prog X.w) a (kV_is ry) more hm hp)
    ⟨vs, w', dd, by rw [← rel.length]; exact z, hw, fun h' dd' hs => h w' _ ?_ rw'⟩
  have he : ∃ q, h'.get? a = some q := let ⟨q, _, _, hq, _⟩ := dd'; ⟨q, hq⟩
  exact d_write I (by rw [e]; exact True.intro) hs he (dk_new (Nat.le_trans (dropK_le kvs k) z) hd (rel.drop k) dd')
/-- len(d) -/
theorem d_len {Q : Value → Shared → Prop} (I : Inv X pins σ H s) (e : Rd H a (.dK kvs)) (h : ∀ t s', Inv X pins σ H s' → Q (.int kvs.length t) s') : wpAny (model X.prog X.w) A (call (.builtin "len") [.ref a]) Q E s := by
  obtain ⟨z, hd, vs, rel, dd⟩ := dk_rd I.hok e
  refine call_len_dict hd dd (by rw [← rel.length]; rw [sizeLine_eq] at z; omega) ?_
  rw [← rel.length]
  exact h _ _ (I.tok _)
end

/-! ### readings and rules -/
/-- the element of a subscription, not a slice -/
def NoSl (i : Expr) : Prop := ∀ ov iv, subscripted i false ov iv = operate [ov, iv] (getItem ov iv)
theorem subD_of {prog : Program} {w : World} {A : Around} {E : Value → Shared → Prop} {s : Shared} {env : Env} {value slice : Expr} {pos : Pos} {T id : String} {Q : Value → Shared → Prop}
    (hl : typeLookup (.type T) "__getitem__" = pure (some (.builtin id))) (hs : NoSl slice)
    (h : wpAny (model prog w) A (eval value env) (fun o s₁ => wpAny (model prog w) A (eval slice env) (fun i s₂ => s₂.TypeIs o T ∧ wpAny (model prog w) A (getItem o i) Q E s₂) E s₁) E s) :
    wpAny (model prog w) A (eval (.Subscript value slice pos) env) Q E s := by
  refine Subscript_ (wpAny_mono h (fun o s₁ h₁ => wpAny_mono h₁ (fun i s₂ h₂ => ?_) fun _ _ x => x) fun _ _ x => x)
  obtain ⟨hT, h₂⟩ := h₂
  unfold subscriptTail
  refine wpAny_bind ?_
  rw [getitemInPython_of_ne hT.not_modules]
  refine wpAny_bind (wpAny_specialOf hT hl ?_)
  have fin : wpAny (model prog w) A (subscripted slice false o i) (fun r s₃ => wpAny (model prog w) A (letTemporaryGo value o r >>= fun _ => pure r) Q E s₃) E s₂ := by
    rw [hs o i]
    exact wpAny_operating (wpAny_mono h₂ (fun r s₃ h₃ => wpAny_bind (wpAny_letTemporaryGo (wpAny_pure h₃))) fun _ _ x => x)
  first
    | exact wpAny_pure (wpAny_bind fin)
    | exact wpAny_bind (wpAny_pure (wpAny_bind fin))
    | exact wpAny_bind fin

theorem dict_typeIs {X : Cx} {pins : List (Addr × Obj)} {σ : St} {H : Hp} {s : Shared} {a : Addr} {y : V} {o : Option V} (I : Inv X pins σ H s) (g : DGet H a y o) : s.TypeIs (.ref a) "dict" := by
  rcases g with ⟨kvs, k, e, _, _⟩ | ⟨kvs, k, b, e, _, _, _⟩
  · obtain ⟨_, _, vs, _, dd⟩ := dk_rd I.hok e
    exact dd.typeIs
  · obtain ⟨_, _, xs, _, dd⟩ := dt_rd I.hok e
    exact dd.typeIs
/-- d[y] -/
def tDGet (td ty : TE) : TE := fun σ H Q => td σ H fun x H1 => ty σ H1 fun y H2 => ∃ a v, x = .ref a ∧ DGet H2 a y (some v) ∧ Q v H2
/-- y in d, y not in d -/
def tDIn (ty td : TE) : TE := fun σ H Q => ty σ H fun y H1 => td σ H1 fun x H2 => ∃ a o, x = .ref a ∧ DGet H2 a y o ∧ Q (.bl o.isSome) H2
def tDNotIn (ty td : TE) : TE := fun σ H Q => ty σ H fun y H1 => td σ H1 fun x H2 => ∃ a o, x = .ref a ∧ DGet H2 a y o ∧ Q (.bl (!o.isSome)) H2
/-- d[y] = v -/
def sDPut (td ty tv : TE) : TS := fun D σ H => tv σ H fun v H1 => td σ H1 fun x H2 => ty σ H2 fun y H3 => ∃ a H4, x = .ref a ∧ DPut H3 a y v H4 ∧ D.nx σ H4
section
variable {X : Cx} {o i e value : Expr} {pos pos' tpos : Pos} {td ty tv : TE}
theorem pe_dget (hu : X.A.units + 1 < cLine) (ho : PE X o td) (hi : PE X i ty) (hs : NoSl i) : PE X (.Subscript o i pos) (tDGet td ty) := by
  intro pins s σ H Q I h
  refine subD_of PySem.F.slot_dict_getitem.lookup hs (thn (ho pins s σ H _ I h) fun u s1 ⟨x, H1, I1, rx, q1⟩ => thn (hi pins s1 σ H1 _ I1 q1) fun iv s2 ⟨y, H2, I2, ry, a, v, ex, g, q2⟩ => ?_)
  subst ex
  obtain rfl : u = Value.ref a := rx
  exact ⟨dict_typeIs I2 g, d_getItem hu I2 g ry fun w' s3 I3 rw' => ⟨v, H2, I3, rw', q2⟩⟩
theorem pc_din (hu : X.A.units + 1 < cLine) (hi : PE X i ty) (ho : PE X o td) : PC X .In i o (tDIn ty td) := by
  intro pins s σ H Q I h
  refine thn (hi pins s σ H _ I h) fun iv s1 ⟨y, H1, I1, ry, q1⟩ => thn (ho pins s1 σ H1 _ I1 q1) fun u s2 ⟨x, H2, I2, rx, a, ov, ex, g, q2⟩ => ?_
  subst ex
  obtain rfl : u = Value.ref a := rx
  exact d_in hu I2 g ry fun s3 I3 => ⟨.bl ov.isSome, H2, I3, rfl, q2⟩
theorem pc_dnotin (hu : X.A.units + 1 < cLine) (hi : PE X i ty) (ho : PE X o td) : PC X .NotIn i o (tDNotIn ty td) := by
  intro pins s σ H Q I h
  refine thn (hi pins s σ H _ I h) fun iv s1 ⟨y, H1, I1, ry, q1⟩ => thn (ho pins s1 σ H1 _ I1 q1) fun u s2 ⟨x, H2, I2, rx, a, ov, ex, g, q2⟩ => ?_
  subst ex
  obtain rfl : u = Value.ref a := rx
  exact d_notIn hu I2 g ry fun s3 I3 => ⟨.bl (!ov.isSome), H2, I3, rfl, q2⟩
theorem ps_dput (hu : X.A.units + 1 < cLine) (ho : PE X o td) (hi : PE X i ty) (hv : PE X value tv) (hs : swapsWith value (some (.Subscript o i pos')) pos.line X.env = pure false) :
    PS X (.Assign [.Subscript o i pos'] value pos) (sDPut td ty tv) := by
  intro pins s σ H D I h
  refine wpAny_Assign_Subscript (thn (hv pins s σ H _ I h) fun r s1 ⟨v, H1, I1, rv, q1⟩ => thn (ho pins s1 σ H1 _ I1 q1) fun u s2 ⟨x, H2, I2, rx, q2⟩ => thn (hi pins s2 σ H2 _ I2 q2) fun iv s3 ⟨y, H3, I3, ry, a, H4, ex, g, q3⟩ => ?_) hs
  subst ex
  obtain rfl : u = Value.ref a := rx
  exact d_setItem hu I3 g ry rv fun s4 I4 => ⟨σ, H4, I4, q3⟩
end

/-! ### displays -/
theorem dk_empty {P : Program} {w : World} {H : Hp} (h : Heap) (hb : sysModules < h.objs.size) : ObjOk P w H (h.push { cls := .type "dict", data := .dict #[] }) h.objs.size (.dK []) :=
  ⟨Nat.zero_le _, beq_eq_false_iff_ne.mpr (Ne.symm (Nat.ne_of_lt hb)), [], .nil, Heap.DictOf.new h⟩
/-- {}, to be a dict of the kind that is wanted -/
def tDNewK : TE := fun _ H Q => ∀ p, H p = none → Q (.ref p) (upd H p (.dK []))
section
variable {X : Cx} {pos : Pos}
theorem pe_dnewK : PE X (.Dict [] [] pos) tDNewK := fun pins s σ H Q I h =>
  wpAny_Dict_empty ⟨.ref s.heap.objs.size, _, I.laid (a := s.heap.objs.size) (o := .dK []) (t' := s.toks) (fun _ _ q => Heap.get?_push_of_some _ q) (Nat.le_refl _) (dk_empty s.heap I.big), rfl, h _ (I.hok.fresh (Nat.le_refl _))⟩
end

/-! ### methods -/
/-- a method call o.m(e) of a built-in, with one argument: what must be seen of the text -/
structure M1 (X : Cx) (o : Expr) (m : Str) (apos : Pos) (e : Expr) (cpos : Pos) : Prop where
  base : attributeBase o m X.env (eval o X.env) = eval o X.env
  few : ((backTo cpos (starEach [e] X.env)).all (fun x => !x.1) && (backToKw cpos (keywordEach [] X.env)).all (fun x => x.1.isSome)
    && decide (([e] : List Expr).length + ([] : List Keyword).length + (if ([] : List Keyword).isEmpty then 0 else 1) < 30)) = true
  line : (apos.endLine == cpos.line) = true
  trees : backTo cpos (starEach [e] X.env) = [(false, eval e X.env)]
structure M2 (X : Cx) (o : Expr) (m : Str) (apos : Pos) (e f : Expr) (cpos : Pos) : Prop where
  base : attributeBase o m X.env (eval o X.env) = eval o X.env
  few : ((backTo cpos (starEach [e, f] X.env)).all (fun x => !x.1) && (backToKw cpos (keywordEach [] X.env)).all (fun x => x.1.isSome)
    && decide (([e, f] : List Expr).length + ([] : List Keyword).length + (if ([] : List Keyword).isEmpty then 0 else 1) < 30)) = true
  line : (apos.endLine == cpos.line) = true
  trees : backTo cpos (starEach [e, f] X.env) = [(false, eval e X.env), (false, eval f X.env)]

/-- a is a dict, whatever its keys -/
def IsD (H : Hp) (a : Addr) : Prop := (∃ kvs, Rd H a (.dK kvs)) ∨ ∃ kvs, Rd H a (.dT kvs)
theorem isD_at {X : Cx} {pins : List (Addr × Obj)} {σ : St} {H : Hp} {s : Shared} {a : Addr} (I : Inv X pins σ H s) (d : IsD H a) :
    s.TypeIs (.ref a) "dict" ∧ (∀ b, Value.ref a = .ref b → ∃ ob, s.heap.get? b = some ob ∧ ob.dict = none) ∧ (a == sysModules) = false := by
  rcases d with ⟨kvs, e⟩ | ⟨kvs, e⟩
  · obtain ⟨_, hd, vs, _, dd⟩ := dk_rd I.hok e
    refine ⟨dd.typeIs, fun b q => ?_, hd⟩
    cases q
    obtain ⟨ob, _, _, h1, h2, _⟩ := dd
    exact ⟨ob, h1, h2.2.1⟩
  · obtain ⟨_, hd, xs, _, dd⟩ := dt_rd I.hok e
    refine ⟨dd.typeIs, fun b q => ?_, hd⟩
    cases q
    obtain ⟨ob, _, _, h1, h2, _⟩ := dd
    exact ⟨ob, h1, h2.2.1⟩

section
variable {X : Cx} {pins : List (Addr × Obj)} {σ : St} {H : Hp} {s : Shared} {a : Addr} {y d : V} {u r : Value} {o : Option V} {A : Around} {E : Value → Shared → Prop}
end

/-- d.pop(k): there; d.pop(k, x): there or not -/
def tDPop1 (td ty : TE) : TE := fun σ H Q => td σ H fun x H1 => ∃ a, x = .ref a ∧ IsD H1 a ∧ ty σ H1 fun y H2 => ∃ kvs k v, H2 a = some (.dK kvs) ∧ y = kV k ∧ valV kvs k = some v ∧ Q v (upd H2 a (.dK (dropK kvs k)))
section
variable {X : Cx} {o e f : Expr} {apos cpos : Pos} {td ty tx : TE}
theorem pe_dpop1 (ho : PE X o td) (he : PE X e ty) (m : M1 X o "pop" apos e cpos) : PE X (.Call (.Attribute o "pop" apos) [e] [] cpos) (tDPop1 td ty) := by
  intro pins s σ H Q I h
  refine wpAny_Call_method m.base m.few m.line PySem.F.plainAttrs_dict PySem.F.slot_dict_pop PySem.F.type_dict_pop (thn (ho pins s σ H _ I h) fun u s1 ⟨x, H1, I1, rx, a, ex, d, q1⟩ => ?_)
  subst ex
  obtain rfl : u = Value.ref a := rx
  obtain ⟨t1, t2, _⟩ := isD_at I1 d
  refine ⟨t1, t2, ?_⟩
  rw [m.trees]
  refine Calls.callWith_builtin rfl (Calls.evalArgs_plain (Calls.spliced_cons (thn (he pins s1 σ H1 _ I1 q1) fun iv s2 ⟨y, H2, I2, ry, kvs, k, v, ea, ey, l, q2⟩ => Calls.spliced_nil ?_)))
  subst ey
  exact d_pop I2 ea ry l (.inl rfl) fun w' s3 I3 rw' => ⟨v, _, I3, rw', q2⟩
end

/-! ### dict(d): a copy -/
section
variable {X : Cx} {pins : List (Addr × Obj)} {σ : St} {H : Hp} {s : Shared} {a : Addr} {kvs : List (Key × V)} {A : Around} {E : Value → Shared → Prop}
end

section
variable {X : Cx} {pins : List (Addr × Obj)} {σ : St} {H : Hp} {s : Shared} {a : Addr} {y : V} {u : Value} {A : Around} {E : Value → Shared → Prop}
end
end L2

namespace Att
open PySem PySem.W PySem.Calls PyProof.Rows

/-! ### the script -/
theorem ints_of_wellAll {P : Params} {h : Heap} : ∀ (ns : List Int) (vs : List Value), WellAll P h vs (ns.map WData.int) → IntsAre vs ns := by
  intro ns
  induction ns with
  | nil =>
    intro vs w
    rw [List.map_nil] at w
    cases w
    exact .nil
  | cons n ns ih =>
    intro vs w
    rw [List.map_cons] at w
    cases w with
    | cons a b =>
      cases a
      exact .cons _ _ (ih _ b)

theorem script_of {l : OpenLaw} {n : Nat} (hn : l.most = some n) {P : Params} {h : Heap} {args : List WData} {vals : List Value}
    (hpre : l.row.toRowW.claim.pre args = true) (hwl : WellAll P h vals args) :
    ∃ a vs ns, vals = [Value.ref a] ∧ args = [WData.list (ns.map WData.int)] ∧ h.get? a = some { cls := .type "list", data := .seq vs.toArray } ∧ IntsAre vs ns ∧ ns.length ≤ n := by
  have hsh : WShape.hasAll [] args [.list .int] = true := (pre_splitW hpre).1
  have hc : l.pre.holds [] { args := args } = true := (pre_splitW hpre).2
  obtain ⟨d, r, rfl, h1, h2⟩ := hasAllW_cons hsh
  obtain rfl := hasAllW_nil h2
  obtain ⟨xs, rfl, h3⟩ := hasW_list h1
  obtain ⟨ns, rfl⟩ := items_int h3
  have hlen : ns.length ≤ n := by
    unfold OpenLaw.pre at hc
    have h4 : (WTm.not (.lt (.lit (.int (n : Int))) (.len (.arg 0)))).holds [] { args := [.list (ns.map .int)] } = true := by
      have h4 := (holds_andW hc).1
      rw [hn] at h4
      exact h4
    have h5 := condW_of h4 (w_not (w_lt w_lit (w_len_list (w_arg rfl))))
    rw [List.length_map] at h5
    refine Nat.le_of_not_lt fun q => ?_
    have q' : (n : Int) < ((ns.length : Nat) : Int) := by omega
    first
      | (rw [decide_eq_true q'] at h5; exact absurd h5 (by decide))
      | (simp at h5; omega)
  cases hwl with
  | cons w1 w2 =>
    cases w2
    cases w1 with
    | list ho hall => exact ⟨_, _, ns, rfl, rfl, ho, ints_of_wellAll ns _ hall, hlen⟩

theorem post_true (l : OpenLaw) (args : List WData) : l.row.toRowW.claim.post args (.bool true) args = true :=
  postW_of (r := l.row.toRowW) (X := (true == true))
    (show WShape.has [] (.bool true) .bool = true by first | rfl | decide | simp [WShape.has, WShape.arms, WShape.armsAll])
    (show (WTm.eq .res (.lit (.bool true))).value [] { args := args, res := some (.bool true), after := args } = some (.bool (true == true)) from w_eq_bool (w_res rfl) w_lit) rfl

/-! ### the attachment: holds_open's last premise (the goal 'hc' behind k_head) from a wpAny of the law's body -/
/-- the same from a codeAny of the CALL (for a layer whose function contracts speak of calls) -/
theorem attach_call {l : OpenLaw} {n : Nat} {q : Program} {loose : List Str} {XP : (Str → Option Value) → Heap → Prop} {YP : World → Heap → Prop} {d : DefRec}
    (hn : l.most = some n) (hdf : d.params.defaults = [])
    (call : ∀ (w : World) (s₀ s₁ : Shared) (mg mb : Str → Option Value) (fa : Addr) (o : Obj) (pm cd doc : Value) (a : Addr) (vs : List Value) (ns : List Int),
      Ground q loose [] XP w s₀ mg mb s₁.heap → YP w s₁.heap →
      s₁.heap.get? fa = some o → o.data = .func (docDef d.name d.params d.body d.scope pm cd doc) → s₁.heap.CodeRec cd d.name → mg d.name = some (.ref fa) →
      s₁.heap.get? a = some { cls := .type "list", data := .seq vs.toArray } → IntsAre vs ns → ns.length ≤ n → s₁.gens = #[] →
      codeAny (model l.prog w) callerA (.call (.ref fa) ⟨[.ref a], []⟩) (fun r s' => r = .ok (.ret (.bool true)) ∧ OldK s₁.heap s'.heap ∧ s'.os = s₁.os ∧ AllBare s'.gens) s₁) :
    WalkO q loose XP YP l.row.toRowW d [] (fun f vs => PySem.call f vs) := by
  intro w s₀ s₁ mg mb G Y fa o pm cd doc dV kV ho hd hcd hD hmg hg args vals as hpre hlay hrd hwl hlo
  obtain rfl : dV = .none := Dflts.none hD hdf
  obtain rfl : kV = .none := Dflts.noKw hD
  obtain ⟨a, vs, ns, rfl, rfl, hobj, hints, hlen⟩ := script_of hn hpre hwl
  refine enter_call (codeAny_mono (call w s₀ s₁ mg mb fa o pm cd doc a vs ns G Y ho (fd_plain hd) hcd hmg hobj hints hlen hg) fun r s' hq => ?_)
  obtain ⟨rfl, h2, h3, h4⟩ := hq
  exact ⟨.inl ⟨.bool true, .bool true, [], rfl, fun _ => rfl, .bool true, post_true l _, fun _ => ⟨List.Pairwise.nil, fun _ hm => (nomatch hm)⟩⟩, h2, h3, h4⟩

/-! ### rules over ANY heap (no ledger) from facts about the written part K: the library's own take a ledger (News) for what they write -/
section
variable {prog : Program} {w : World} {A : Around} {E : Value → Shared → Prop} {s : Shared} {K : Frag}

/-! the whole heap as the ledger: makes every rule that writes through a ledger a rule over any heap -/
def ledger (h : Heap) (L d : Addr) : List (Addr × Obj) := (List.range h.objs.size).filterMap fun a => if a = L ∨ a = d then none else (h.get? a).map fun o => (a, o)
end
end Att

namespace L2
open PySem PySem.Spec PyProof.Rows

theorem vals_ints : ∀ {vs : List Value} {ns : List Int}, IntsAre vs ns → Vals (ns.map V.int) vs
  | _, _, .nil => .nil
  | _, _, .cons n t h => .cons ⟨t, rfl⟩ (vals_ints h)

/-- nothing is tracked but the script, known to the object (or it is an object of the module) -/
def Only (H : Hp) : Prop := ∀ b, H b = none ∨ ∃ o xs, H b = some (.frz o (.lst xs))

/-- THE HEAD: the law's promise, at the heap behind the top. F, the promise of the law's def, may use that base is part of the heap (so K.In base, base.Ns mainGlobals mg stand in Mod) -/
theorem law_call {P : Program} {w : World} {K : PySem.W.Frag} {mg mb : Str → Option Value} {CX : CXT} {k : Nat} {fa a : Addr} {fd : FuncData} {x : Str} {sp : Sp} {s₁ : Shared} {vs : List Value} {ns : List Int}
    (KX : K.In s₁.heap) (hns : s₁.heap.Ns mainGlobals mg) (hb : s₁.heap.Ns builtinsNs mb) (hbb : ∀ x : Str, x ≠ "__name__" → mb x = bootBuiltins x) (hlim : s₁.heap.NoLimit) (hg : s₁.gens = #[])
    (ha : s₁.heap.get? a = some { cls := .type "list", data := .seq vs.toArray }) (hi : IntsAre vs ns) (hl : ns.length ≤ sizeLine) (hr : Room k callerA)
    (F : ∀ base : Heap, K.In base → base.Ns mainGlobals mg → FnOk P w K mg base CX k fa fd [x] sp) (hbind : ∀ (s : Shared) (u : Value), BindsTo s fd ⟨[u], []⟩ [(x, u)])
    (hsp : ∀ H : Hp, Only H → SqL K H a (ns.map V.int) → sp [.ref a] H (fun v _ => v = .bl true) fun _ _ _ => False)
    (hCX : ∀ H e s', CX [] H s₁ (fun _ _ _ => False) e s' → False) :
    codeAny (model P w) callerA (.call (.ref fa) ⟨[.ref a], []⟩) (fun r s' => r = .ok (.ret (.bool true)) ∧ OldK s₁.heap s'.heap ∧ s'.os = s₁.os ∧ AllBare s'.gens) s₁ := by
  have rv := vals_ints hi
  have lenV := hi.length
  -- from an abstract heap in which nothing but the script may be tracked
  have core : ∀ H : Hp, Only H → SqL K H a (ns.map V.int) → HOk P w H s₁.heap → (∀ b, H b ≠ none → b = a) → (H a ≠ none → K.lookup a = none) →
      codeAny (model P w) callerA (.call (.ref fa) ⟨[.ref a], []⟩) (fun r s' => r = .ok (.ret (.bool true)) ∧ OldK s₁.heap s'.heap ∧ s'.os = s₁.os ∧ AllBare s'.gens) s₁ := by
    intro H hO hS hok hA hK
    have base_of : ∀ {b : Addr} {o : Obj}, s₁.heap.get? b = some o → H b = none → (hidT s₁.heap H).get? b = some o := fun e n => hidT_get e n
    have noA : ∀ {b : Addr} {o : Obj} {es : Array DictEntry} {ep : Nat}, s₁.heap.get? b = some o → o.data = .dict es ep → H b = none := fun {b o es ep} e d => by
      cases q : H b with
      | none => rfl
      | some u =>
        have e' : b = a := hA b (by rw [q]; simp)
        subst e'
        rw [ha] at e; cases e
        have d' : Data.seq vs.toArray _ = Data.dict es ep := d
        cases d'
    have nsK : ∀ {b : Addr} {m : Str → Option Value}, s₁.heap.Ns b m → (hidT s₁.heap H).Ns b m := fun {b m} ⟨o, es, ep, e, d, r⟩ => ⟨o, es, ep, base_of e (noA e d), d, r⟩
    have hKb : K.In (hidT s₁.heap H) := fun b o e => base_of (KX b o e) (by
      cases q : H b with
      | none => rfl
      | some u =>
        have e' : b = a := hA b (by rw [q]; simp)
        subst e'
        rw [hK (by rw [q]; simp)] at e; cases e)
    have hM : Mod K mg (hidT s₁.heap H) := ⟨hKb, nsK hns, ⟨mb, nsK hb, hbb⟩, let ⟨mc, h1, h2⟩ := hlim; ⟨mc, nsK h1, h2⟩⟩
    have e0 : Env0 P w K mg (hidT s₁.heap H) callerA [] s₁ H := ⟨rfl, hM, fun b o e => of_hidT e, Nat.le_of_eq (hidT_size _ _), trivial, fun b hb => absurd (show b ∈ ([] : List Addr) from hb) (by simp), hok, .of_eq hg⟩
    refine codeAny_mono ((F _ hKb (nsK hns)).run callerA [] s₁ H ⟨[.ref a], []⟩ [.ref a] [.ref a] _ _ hr e0 (hbind s₁ (.ref a)) (.cons rfl .nil) (hsp H hO hS)) fun r s' h => ?_
    cases r with
    | error e => exact (hCX H e s' h).elim
    | ok fl =>
      cases fl with
      | next => exact False.elim h
      | brk => exact False.elim h
      | cont => exact False.elim h
      | ret u =>
        obtain ⟨v, H', os, bare, un, hok', r', q⟩ := h
        have q' : v = .bl true := q
        subst q'
        obtain rfl : u = Value.bool true := r'
        refine ⟨rfl, OldK.of_keep fun b o e => ?_, os, bare⟩
        cases q : H b with
        | none => exact un.keep b o e q (by intro z; exact absurd (show b ∈ ([] : List Addr) from z) (by simp)) (by simp)
        | some u =>
          rcases hO b with z | ⟨ob, xs, z⟩
          · rw [q] at z; cases z
          · have z2 := un.frzs b ob _ z
            obtain ⟨e1, _⟩ := hok b _ z
            obtain ⟨e2, _⟩ := hok' b _ z2
            rw [e] at e1; cases e1
            exact e2
  cases hk : K.lookup a with
  | some o =>
    -- the script is one of the module's own objects
    have e := KX a o hk
    rw [ha] at e
    cases e
    refine core (fun _ => none) (fun _ => .inl rfl) (.inr ⟨_, vs.toArray, _, hk, rfl, rfl, rfl, by rw [List.size_toArray, lenV]; exact hl, by simpa using rv⟩) (fun b u z => by have z' : (none : Option HO) = some u := z; cases z') (fun b z => absurd rfl z) fun z => absurd rfl z
  | none =>
    refine core (fun b => if b = a then some (.frz { cls := .type "list", data := .seq vs.toArray } (.lst (ns.map V.int))) else none) (fun b => ?_) (.inl (.inr ⟨{ cls := .type "list", data := .seq vs.toArray }, if_pos rfl⟩)) (fun b u z => ?_) (fun b z => ?_) fun _ => hk
    · by_cases hb : b = a
      · exact .inr ⟨_, _, if_pos hb⟩
      · exact .inl (if_neg hb)
    · by_cases hb : b = a
      · have z' := (if_pos hb).symm.trans z
        cases z'
        subst hb
        exact ⟨ha, by rw [List.length_map]; exact hl, vs, _, rv, ha⟩
      · have z' := (if_neg hb).symm.trans z
        cases z'
    · by_cases hb : b = a
      · exact hb
      · exact absurd (if_neg hb) z
end L2

namespace L2
open PySem PySem.Spec PyProof.Rows

/-- the goal that k_head leaves (case hc), from the law's promise. F gives the function object fd (K's own) once, then the promise over every base -/
theorem walk_of {l : PySem.W.OpenLaw} {n k : Nat} {q : Program} {loose : List Str} {XP : (Str → Option Value) → Heap → Prop} {YP : World → Heap → Prop} {d : DefRec} {K : Params → PySem.W.Frag} {CX : World → CXT} {sp : World → Sp} {x : Str}
    (hn : l.most = some n) (hn2 : n ≤ sizeLine) (hdf : d.params.defaults = []) (hr : Room k callerA)
    (hY : ∀ (w : World) (h : Heap), YP w h → (K w.params).In h)
    (F : ∀ (w : World) (mg : Str → Option Value) (fa : Addr) (h : Heap), (K w.params).In h → h.Ns mainGlobals mg → mg d.name = some (.ref fa) →
      ∃ fd : FuncData, (∀ (s : Shared) (u : Value), BindsTo s fd ⟨[u], []⟩ [(x, u)]) ∧
        ∀ base : Heap, (K w.params).In base → base.Ns mainGlobals mg → FnOk l.prog w (K w.params) mg base (CX w) k fa fd [x] (sp w))
    (hsp : ∀ (w : World) (H : Hp) (a : Addr) (ns : List Int), ns.length ≤ n → Only H → SqL (K w.params) H a (ns.map V.int) → sp w [.ref a] H (fun v _ => v = .bl true) fun _ _ _ => False)
    (hCX : ∀ (w : World) (H : Hp) (s : Shared) (e : Value) (s' : Shared), CX w [] H s (fun _ _ _ => False) e s' → False) :
    PySem.W.WalkO q loose XP YP l.row.toRowW d [] (fun f vs => PySem.call f vs) := by
  refine Att.attach_call hn hdf fun w s₀ s₁ mg mb fa o pm cd doc a vs ns G Y ho hd hcd hmg hobj hints hlen hg => ?_
  have KX := hY w _ Y
  obtain ⟨fd, hb, hF⟩ := F w mg fa _ KX G.T.g hmg
  exact law_call KX G.T.g G.T.b G.T.builtins G.T.nolimit hg hobj hints (Nat.le_trans hlen hn2) hr hF hb (fun H hO hS => hsp w H a ns hlen hO hS) fun H e s' => hCX w H s₁ e s'
end L2

/-! SHORT WORDS over the layer: a def of the text, its body, what a loop and a test want. -/
namespace L2
open PySem PySem.Spec PyProof.Rows

/-! ### the text by places -/
def defArgs (s : Stmt) : Arguments := match s with
  | .FunctionDef _ a _ _ _ _ _ _ _ _ => a
  | _ => { posonlyargs := [], args := [], vararg := none, kwonlyargs := [], kw_defaults := [], kwarg := none, defaults := [] }
def defBody (s : Stmt) : List Stmt := match s with
  | .FunctionDef _ _ b _ _ _ _ _ _ _ => b
  | _ => []
def defScope (s : Stmt) : Scope := match s with
  | .FunctionDef _ _ _ _ _ _ sc _ _ _ => sc
  | _ => { kind := .function, names := [], isGenerator := false, isCoroutine := false }

/-! ### no exception leaves a def -/
abbrev CX0 : CXT := fun _ _ _ _ _ _ => False
abbrev E0 : XK := fun _ _ _ => False
theorem pass0 {X : Cx} : Passes CX0 X E0 := fun _ _ _ _ _ _ _ h => h.elim

/-! ### a def (or method) of the text as it stands behind the top -/
structure Fun (K : PySem.W.Frag) (x qual : Str) (st : Stmt) (f : Addr) (fd : FuncData) : Prop where
  ex : ∃ (oc : Value) (od : Option Addr) (kV doc pm : Value) (an : Option Addr) (cdv ct : Value) (osl : Array (Option Value)),
    fd = PySem.W.fnOf x qual (defArgs st) (defBody st) (defScope st) .none kV doc pm an cdv ct ∧ K.lookup f = some ⟨oc, od, .func fd, osl⟩ ∧ PySem.W.codeIn K cdv qual = true
  kp : PySem.W.keepIn K (.ref f) = true
section
variable {P : Program} {w : World} {K : PySem.W.Frag} {mg : Str → Option Value} {base : Heap}
/-- THE RULE for a def: its body as a term of rules, and the reading of that term -/
theorem Fun.ok {x qual : Str} {st : Stmt} {f : Addr} {fd : FuncData} {N ps : List Str} {k : Nat} {sp : Sp} (F : Fun K x qual st f fd) (S : FnScope N ps (defScope st)) (len : ∀ vs H Q E, sp vs H Q E → vs.length = ps.length)
    (hbody : ∀ (cdv : Value) (A : Around) (outer : List Env) (s : Shared) (H : Hp) (vs : List V) (Q : VK) (E : XK), Room k (A.deeper (envOfC qual (defScope st) s.heap.objs.size f cdv)) → sp vs H Q E →
      ∃ t, PSs (cxOf CX0 P w K mg base N qual (defScope st) f cdv A outer s H E).nox (defBody st) t ∧ t { nx := fun _ H' => Q .non H', rt := Q } (start N vs) H) : FnOk P w K mg base CX0 (k + 1) f fd ps sp := by
  obtain ⟨oc, od, kV, doc, pm, an, cdv, ct, osl, rfl, lk, hcd⟩ := F.ex
  refine fn_of lk hcd S len fun A outer s H vs Q E hr hsp => ?_
  obtain ⟨t, h, q⟩ := hbody cdv A outer s H vs Q E hr hsp
  exact ⟨t, h.nox, q⟩
/-- how its arguments bind (no defaults): h is «fun _ _ _ _ _ _ us hl => match us, hl with | [_, _], _ => rfl», one _ a parameter -/
theorem Fun.binds {x qual : Str} {st : Stmt} {f : Addr} {fd : FuncData} {ps : List Str} (F : Fun K x qual st f fd)
    (h : ∀ (kV doc pm : Value) (an : Option Addr) (cdv ct : Value) (us : List Value), us.length = ps.length → bindArgs (PySem.W.fnOf x qual (defArgs st) (defBody st) (defScope st) .none kV doc pm an cdv ct) ⟨us, []⟩ = pure (ps.zip us)) : Binds K fd ps [] := by
  obtain ⟨oc, od, kV, doc, pm, an, cdv, ct, osl, rfl, lk, hcd⟩ := F.ex
  exact .all (h kV doc pm an cdv ct)
theorem fun_mk {x qual : Str} {st : Stmt} {f : Addr} {oc : Value} {od an : Option Addr} {osl : Array (Option Value)} {kV doc pm cdv ct : Value} (l : K.lookup f = some ⟨oc, od, .func (PySem.W.fnOf x qual (defArgs st) (defBody st) (defScope st) .none kV doc pm an cdv ct), osl⟩)
    (c : PySem.W.codeIn K cdv qual = true) (k : PySem.W.keepIn K (.ref f) = true) : Fun K x qual st f (PySem.W.fnOf x qual (defArgs st) (defBody st) (defScope st) .none kV doc pm an cdv ct) := ⟨⟨oc, od, kV, doc, pm, an, cdv, ct, osl, rfl, l, c⟩, k⟩
end
theorem hu_of {A : Around} {k : Nat} (hr : Room k A) : A.units + 1 < cLine := Nat.lt_of_le_of_lt (Nat.add_le_add_left (by decide : 1 ≤ 64) _) hr.units
theorem small1000 {n : Nat} (h : n ≤ 1000) : n < sizeLine := Nat.lt_of_le_of_lt h (by decide)

/-! ### expressions in short: the name that stands in the i-th slot -/
section
variable {X : Cx}
theorem pv (i : Nat) {x : Str} {pos : Pos} (hN : X.N[i]? = some x := by rfl) (hv : Vis X.env.scope x := by first | exact Or.inl rfl | exact Or.inr (Or.inl rfl) | exact Or.inr (Or.inr rfl)) (hd : (x == ("__debug__" : Str)) = false := by decide)
    (hcd : (x == ("__classdict__" : Str)) = false := by decide) : PE X (.Name x pos) (tVar i) := pe_var hN hv hd hcd
/-- len of a dict -/
theorem call_lenD : CallR X (.builtin "len") (fun xs H Q => ∃ a kvs, xs = [V.ref a] ∧ H a = some (.dK kvs) ∧ Q (.int kvs.length) H) := by
  intro pins s σ H xs us Q I r h
  obtain ⟨a, kvs, rfl, ha, q⟩ := h
  obtain ⟨u, rfl, ru⟩ := vals1 r
  cases ru
  exact d_len I (.inl ha) fun t s' I' => ⟨.int kvs.length, H, I', ⟨t, rfl⟩, q⟩
end

/-! ### tests -/
theorem iteF {A B : Prop} (h : B) : if false = true then A else B := by
  rw [if_neg Bool.false_ne_true]
  exact h
theorem iteT {A B : Prop} (h : A) : if true = true then A else B := by
  rw [if_pos rfl]
  exact h
theorem ite2 {c A B : Prop} [Decidable c] (h1 : c → A) (h2 : ¬ c → B) : if c then A else B := by
  by_cases h : c
  · rw [if_pos h]
    exact h1 h
  · rw [if_neg h]
    exact h2 h
theorem iteNS {c A B : Prop} [Decidable c] (hc : c) (h : B) : if (!decide c) = true then A else B := by
  rw [decide_eq_true hc]
  exact iteF h

/-! ### heaps -/
/-- all that was tracked is as it was -/
def Same (H H' : Hp) : Prop := ∀ b o, H b = some o → H' b = some o
theorem Same.refl (H : Hp) : Same H H := fun _ _ h => h
theorem Same.trans {H H1 H2 : Hp} (a : Same H H1) (b : Same H1 H2) : Same H H2 := fun c o h => b c o (a c o h)
theorem Same.free {H H' : Hp} (e : Same H H') {l : Addr} (h : H' l = Option.none) : H l = Option.none := by
  cases q : H l with
  | none => rfl
  | some o =>
    rw [e l o q] at h
    cases h
theorem Same.seq {K : PySem.W.Frag} {H H' : Hp} {a : Addr} {xs : List V} (e : Same H H') (h : SqL K H a xs) : SqL K H' a xs := by
  rcases h with (h | ⟨o, h⟩) | h
  · exact .inl (.inl (e _ _ h))
  · exact .inl (.inr ⟨o, e _ _ h⟩)
  · exact .inr h

/-! ### a dict's pairs: keys that differ -/
section
variable {κ : Type} [DecidableEq κ]
end
end L2

namespace L2
open PySem PySem.Spec PyProof.Rows

/-! ### small rules -/
section
variable {X : Cx} {a b c : Expr} {ta tb tc : TE} {pos : Pos}
/-- a name of the top that holds an int, a text, an object -/
theorem pe_gI {x : Str} {i : Int} (h : ∃ t, X.mg x = some (.int i t)) (hg : Gl X x := by rfl) (hd : (x == ("__debug__" : Str)) = false := by decide) : PE X (.Name x pos) (tC (.int i)) := by
  obtain ⟨t, h⟩ := h
  exact pe_glob hg h ⟨t, rfl⟩ hd
theorem pe_gS {x z : Str} (h : ∃ t, X.mg x = some (.str z t)) (hg : Gl X x := by rfl) (hd : (x == ("__debug__" : Str)) = false := by decide) : PE X (.Name x pos) (tC (.str z)) := by
  obtain ⟨t, h⟩ := h
  exact pe_glob hg h ⟨t, rfl⟩ hd
/-- a built-in type as a value -/
theorem pe_ty {x : Str} {T : String} (hm : X.mg x = none) (hv : bootBuiltins x = some (.type T)) (hg : Gl X x := by rfl) (hn : x ≠ "__name__" := by decide) (hd : (x == ("__debug__" : Str)) = false := by decide) : PE X (.Name x pos) (tC (.ty T)) := pe_bltn hg hm hv rfl hn hd
/-- a text times a number -/
theorem op_mul_str : OpR X (binaryOp .Mult) (fun x y H Q => ∃ i n, x = .str i ∧ y = .int n ∧ i.length ≤ 64 ∧ n ≤ 1000 ∧ -1000 ≤ n ∧ Q (.str (Txt.mul i n)) H) := by
  intro pins s σ H x y v u Q I rx ry h
  obtain ⟨i, n, rfl, rfl, h1, h2, h3, q⟩ := h
  obtain ⟨t, rfl⟩ := rx
  obtain ⟨t', rfl⟩ := ry
  exact SB.mul (mulOk_of 64 1000 h1 (by omega) (by omega) (by decide) (by decide)) fun t' k => ⟨.str _, H, I.tok k, ⟨_, rfl⟩, q⟩
end

/-! ### data -/
mutual
inductive Dt (K : PySem.W.Frag) (H : Hp) : V → PyData → Prop where
  | non : Dt K H .non .none
  | bl (b : Bool) : Dt K H (.bl b) (.bool b)
  | int (i : Int) : Dt K H (.int i) (.int i)
  | str (x : Str) : Dt K H (.str x) (.str x)
  | lst {a : Addr} {xs : List V} {ds : List PyData} : SqL K H a xs → DtAll K H xs ds → Dt K H (.ref a) (.list ds)
  | tup {a : Addr} {xs : List V} {ds : List PyData} : SqT K H a xs → DtAll K H xs ds → Dt K H (.ref a) (.tuple ds)
  | dK {a : Addr} {kvs : List (Key × V)} : H a = some (.dK kvs) → Dt K H (.ref a) (.dict [])
  | dT {a : Addr} {kvs : List (List Key × V)} : H a = some (.dT kvs) → Dt K H (.ref a) (.dict [])
inductive DtAll (K : PySem.W.Frag) (H : Hp) : List V → List PyData → Prop where
  | nil : DtAll K H [] []
  | cons {v : V} {d : PyData} {vs : List V} {ds : List PyData} : Dt K H v d → DtAll K H vs ds → DtAll K H (v :: vs) (d :: ds)
end
section
variable {X : Cx} {pins : List (Addr × Obj)} {σ : St} {H H' : Hp} {s : Shared}
mutual
theorem Dt.reads (I : Inv X pins σ H s) : ∀ {v : V} {d : PyData} {u : Value}, Dt X.K H v d → RelV v u → d.canLay0 = true → ∃ as, Reads s.heap u d as
  | _, _, _, .non, r, _ => by cases r; exact ⟨_, .none⟩
  | _, _, _, .bl b, r, _ => by cases r; exact ⟨_, .bool b⟩
  | _, _, _, .int i, r, _ => by obtain ⟨t, rfl⟩ := r; exact ⟨_, .int i t⟩
  | _, _, _, .str x, r, _ => by obtain ⟨t, rfl⟩ := r; exact ⟨_, .str x t⟩
  | _, _, _, .lst h hd, r, l => by
    cases r
    obtain ⟨its, rv, ⟨o, n, e, hc, _, hs⟩, _⟩ := I.list h
    obtain ⟨as, ra⟩ := DtAll.reads I hd rv (by rw [PyData.canLay0] at l; exact l)
    exact ⟨_, .list e hc hs (by simpa using ra)⟩
  | _, _, _, .tup h hd, r, l => by
    cases r
    obtain ⟨its, rv, ⟨o, e, hc, n, hs⟩, _⟩ := I.tuple h
    obtain ⟨as, ra⟩ := DtAll.reads I hd rv (by rw [PyData.canLay0] at l; exact l)
    exact ⟨_, .tuple e hc hs (by simpa using ra)⟩
  | _, _, _, .dK _, _, l => by rw [PyData.canLay0] at l; cases l
  | _, _, _, .dT _, _, l => by rw [PyData.canLay0] at l; cases l
theorem DtAll.reads (I : Inv X pins σ H s) : ∀ {vs : List V} {ds : List PyData} {us : List Value}, DtAll X.K H vs ds → Vals vs us → PyData.canLayAll0 ds = true → ∃ as, ReadsAll s.heap us ds as
  | _, _, _, .nil, r, _ => by cases r; exact ⟨_, .nil⟩
  | _, _, _, .cons h hd, r, l => by
    rw [PyData.canLayAll0, Bool.and_eq_true] at l
    cases r with
    | cons r1 rr =>
      obtain ⟨as, ra⟩ := Dt.reads I h r1 l.1
      obtain ⟨bs, rb⟩ := DtAll.reads I hd rr l.2
      exact ⟨_, .cons ra rb⟩
end
theorem Same.seqT {K : PySem.W.Frag} {a : Addr} {xs : List V} (e : Same H H') (h : SqT K H a xs) : SqT K H' a xs := by
  rcases h with (h | ⟨o, h⟩) | h
  · exact .inl (.inl (e _ _ h))
  · exact .inl (.inr ⟨o, e _ _ h⟩)
  · exact .inr h
mutual
theorem Dt.same {K : PySem.W.Frag} (e : Same H H') : ∀ {v : V} {d : PyData}, Dt K H v d → Dt K H' v d
  | _, _, .non => .non
  | _, _, .bl b => .bl b
  | _, _, .int i => .int i
  | _, _, .str x => .str x
  | _, _, .lst h hd => .lst (e.seq h) (DtAll.same e hd)
  | _, _, .tup h hd => .tup (Same.seqT e h) (DtAll.same e hd)
  | _, _, .dK h => .dK (e _ _ h)
  | _, _, .dT h => .dT (e _ _ h)
theorem DtAll.same {K : PySem.W.Frag} (e : Same H H') : ∀ {vs : List V} {ds : List PyData}, DtAll K H vs ds → DtAll K H' vs ds
  | _, _, .nil => .nil
  | _, _, .cons h hd => .cons (Dt.same e h) (DtAll.same e hd)
end
theorem DtAll.get {K : PySem.W.Frag} : ∀ {vs : List V} {ds : List PyData} {i : Nat} {v : V}, DtAll K H vs ds → vs[i]? = some v → ∃ d, ds[i]? = some d ∧ Dt K H v d
  | _, _, _, _, .nil, e => by simp at e
  | _, _, 0, _, .cons h _, e => by simp at e; subst e; exact ⟨_, rfl, h⟩
  | _, _, i + 1, v, .cons _ t, e => by
    obtain ⟨d, h1, h2⟩ := DtAll.get (i := i) (v := v) t (by simpa using e)
    exact ⟨d, by simpa using h1, h2⟩
theorem DtAll.length {K : PySem.W.Frag} : ∀ {vs : List V} {ds : List PyData}, DtAll K H vs ds → vs.length = ds.length
  | _, _, .nil => rfl
  | _, _, .cons _ t => by rw [List.length_cons, List.length_cons, DtAll.length t]
/-- == of data -/
theorem op_eqD (hu : X.A.units + 64 < cLine) : OpR X (compareOp .Eq) (fun x y H Q => ∃ dx dy, Dt X.K H x dx ∧ Dt X.K H y dy ∧ dx.canLay0 = true ∧ dy.canLay0 = true ∧ dx.depth ≤ 64 ∧ Q (.bl (PyData.eqv dx dy)) H) := by
  intro pins s σ H x y v u Q I rx ry h
  obtain ⟨dx, dy, hx, hy, lx, ly, hd, q⟩ := h
  obtain ⟨as, ra⟩ := Dt.reads I hx rx lx
  obtain ⟨bs, rb⟩ := Dt.reads I hy ry ly
  exact SeqAt.compareEq_reads ra rb lx ly (by have := Nat.min_le_left dx.depth dy.depth; omega) ⟨.bl _, H, I, rfl, q⟩
theorem op_neD (hu : X.A.units + 64 < cLine) : OpR X (compareOp .NotEq) (fun x y H Q => ∃ dx dy, Dt X.K H x dx ∧ Dt X.K H y dy ∧ dx.canLay0 = true ∧ dy.canLay0 = true ∧ dx.depth ≤ 64 ∧ Q (.bl (!PyData.eqv dx dy)) H) := by
  intro pins s σ H x y v u Q I rx ry h
  obtain ⟨dx, dy, hx, hy, lx, ly, hd, q⟩ := h
  obtain ⟨as, ra⟩ := Dt.reads I hx rx lx
  obtain ⟨bs, rb⟩ := Dt.reads I hy ry ly
  exact SeqAt.compareNe_reads ra rb lx ly (by have := Nat.min_le_left dx.depth dy.depth; omega) ⟨.bl _, H, I, rfl, q⟩
end

/-! ### the signs of a text, walked -/
def Its (x : Str) : It := ⟨fun i _ => i < x.cps.size, fun i H v H' => H' = H ∧ ∃ c, x.cps[i]? = some c ∧ v = .str ⟨#[c]⟩, fun i _ => x.cps.size ≤ i⟩
theorem turn_str {P : Program} {w : World} {K : PySem.W.Frag} {tg : Expr} (it : Addr) (x : Str) (t : Tok) : ∀ ty : String, (ty = "str_ascii_iterator" ∨ ty = "str_iterator") → Turn P w K tg (Its x) [it] it (fun i h => h.IsStrIter it ty x t i) := by
  intro ty hty
  refine ⟨by simp, ?_, ?_, ?_, ?_, ?_⟩
  · intro i h st b hb
    have e : b = it := by simpa using hb
    subst e
    obtain ⟨o, e, c, d⟩ := st
    exact ⟨o, e, fun v z => by rw [d] at z; cases z⟩
  · intro i h h' st k
    obtain ⟨o, e, c, d⟩ := st
    exact ⟨o, k it (by simp) o e, c, d⟩
  · intro X hP hw hK hc i pins s σ H E I hf st hg
    subst hP hw hK
    obtain ⟨f0, f1, f2, f3, f4, f5⟩ := hf it (by simp)
    have hi : i < x.cps.size := hg
    have hx : x.cps[i]? = some x.cps[i] := by simp [hi]
    have fin : ∀ h', h'.IsStrIter it ty x t (i + 1) → Heap.SameBut it s.heap h' → ∃ u, some (Value.str ⟨#[x.cps[i]]⟩ s.toks) = some u ∧
        wpAny (model X.prog X.w) X.A (letOwnedTupleGo tg (.ref it) u) (fun _ s2 => ∃ y H', Inv X pins σ H' s2 ∧ RelV y u ∧ (Its x).yld i H y H' ∧ s2.heap.IsStrIter it ty x t (i + 1) ∧ ∀ b ∈ [it], H' b = none) E { s with heap := h', toks := s.toks + 1 } := by
      intro h' st' sb
      have I1 : Inv X pins σ H { s with heap := h', toks := s.toks + 1 } := I.turned (fun b o hb e => (sb.2 b hb).trans e) f0 f1 f3 f4 f5
      obtain ⟨o, e, c, d⟩ := id st'
      refine ⟨_, rfl, go_of (s := { s with heap := h', toks := s.toks + 1 }) e c d ?_ ⟨.str ⟨#[x.cps[i]]⟩, H, I1, ⟨_, rfl⟩, ⟨rfl, _, hx, rfl⟩, st', fun b hb => (hf b hb).1⟩⟩
      rcases hty with rfl | rfl <;> decide
    rcases hty with rfl | rfl
    · exact wpAny_pyNext_ascii_item st hx fin
    · exact wpAny_pyNext_wide_item st hx fin
  · intro X hP hw hK hc i pins s σ H E I hf st hg
    subst hP hw hK
    obtain ⟨f0, f1, f2, f3, f4, f5⟩ := hf it (by simp)
    have hi : x.cps.size ≤ i := hg
    have hx : x.cps[i]? = none := by simp [hi]
    have fin : ∀ h', Heap.ExtBut it s.heap h' → (none : Option Value) = none ∧ Inv X pins σ H { s with heap := h' } := fun h' eb => ⟨rfl, I.turned (t' := s.toks) (fun b o hb e => eb b o hb e) f0 f1 f3 f4 f5⟩
    rcases hty with rfl | rfl
    · exact wpAny_pyNext_ascii_end (I.ok.hd hc) st hx fin
    · exact wpAny_pyNext_wide_end (I.ok.hd hc) st hx fin
  · intro A i s Q E st h
    rcases hty with rfl | rfl
    · exact wpAny_pyIter_striter_ascii st h
    · exact wpAny_pyIter_striter_wide st h
section
variable {X : Cx} {tg : Expr}
def iStr (tl : TE) : TI := fun σ H R => tl σ H fun v H1 => ∃ x, v = .str x ∧ R (Its x) H1
theorem pi_str {l : Expr} {tl : TE} (hl : PE X l tl) : PI X tg l (iStr tl) := by
  intro pins s σ H R I h
  refine thn (hl pins s σ H _ I h) fun v s1 ⟨y, H1, I1, r1, q1⟩ => ?_
  obtain ⟨x, e, q⟩ := q1
  subst e
  obtain ⟨t, rfl⟩ := r1
  have fin : ∀ ty : String, (ty = "str_ascii_iterator" ∨ ty = "str_iterator") → PIE X pins σ tg R (.ref s1.heap.objs.size) { s1 with heap := s1.heap.push { cls := .type ty, data := .fields #[.str x t, .int 0 0] } } := fun ty hty => by
    refine ⟨s1.heap.objs.size, [s1.heap.objs.size], _, _, H1, rfl, I1.kept (t' := s1.toks) fun b o e => Heap.get?_push_of_some _ e, turn_str _ x t ty hty, ⟨_, Heap.get?_push_size _ rfl, rfl, rfl⟩, fun b hb => ?_, q⟩
    have e : b = s1.heap.objs.size := by simpa using hb
    subst e
    exact I1.fpOk (Nat.le_refl _) (I1.hok.fresh (Nat.le_refl _))
  cases ha : x.cps.all (· < 128)
  · exact wpAny_pyIter_wide ha (fin _ (.inr rfl))
  · exact wpAny_pyIter_ascii ha (fin _ (.inl rfl))
end
end L2

namespace L2
open PySem PySem.Spec PyProof.Rows

/-! ### a list's comprehension -/
section
variable {prog : Program} {w : World} {A : Around} {R : Result → Shared → Prop} {s : Shared}
theorem compLoop_own {elt target iter : Expr} {ifs : List Expr} {scope : Scope} {pos : Pos} {it acc : Value} {env : Env} (I : Nat → Shared → Prop)
    (turn : ∀ n s, I n s → wpAny (model prog w) A (pyNext it) (fun r s₁ => match r with
      | none => R (.ok .next) s₁
      | some v => wpAny (model prog w) A (letOwnedTupleGo target it v) (fun _ s₁' => wpAny (model prog w) A (assign target env v) (fun _ s₂ =>
          wpAny (model prog w) A (forIn ifs true fun c r => if r = true then do let ok ← isTrue c env (eval c env); pure (ForInStep.yield ok) else pure (ForInStep.yield r)) (fun ok s₃ =>
            if ok = true then wpAny (model prog w) A (eval elt env) (fun x s₄ =>
              wpAny (model prog w) A (call (.builtin "list.append") [acc, x]) (fun _ s₅ => ∃ m, m < n ∧ I m s₅) (fun _ _ => False) s₄) (fun _ _ => False) s₃
            else ∃ m, m < n ∧ I m s₃) (fun _ _ => False) s₂) (fun _ _ => False) s₁') (fun _ _ => False) s₁) (fun _ _ => False) s)
    (n : Nat) (h : I n s) :
    codeAny (model prog w) A (.compLoop (.ListComp elt [⟨target, iter, ifs, 0⟩] scope pos) 0 it acc env) R s := by
  refine codeAny_loop rfl I (fun n s hI => ?_) n h
  show wpAny _ A ((compTurn (.ListComp elt [⟨target, iter, ifs, 0⟩] scope pos) 0 it acc env).onRaise (fun x => do noteFrame x env; theTreesLotGoes x)) _ _ s
  refine wpAny_noted ?_
  rw [compTurn_list]
  refine wpAny_bind (wpAny_standAt (wpAny_bind (wpAny_mono (turn n s hI) (fun r s₁ h₁ => ?_) fun _ _ h' => h'.elim)))
  cases r with
  | none => exact wpAny_pure h₁
  | some v =>
    refine wpAny_bind (wpAny_mono h₁ (fun _ s₁' h₁' => ?_) fun _ _ h' => h'.elim)
    refine wpAny_bind (wpAny_mono h₁' (fun _ s₂ h₂ => wpAny_bind (wpAny_mono h₂ (fun ok s₃ h₃ => ?_) fun _ _ h' => h'.elim)) fun _ _ h' => h'.elim)
    cases ok with
    | false => exact wpAny_pure ⟨rfl, h₃⟩
    | true =>
      exact wpAny_bind (wpAny_bind (wpAny_mono h₃ (fun x s₄ h₄ => wpAny_bind (wpAny_mono h₄ (fun _ s₅ h₅ => wpAny_pure (wpAny_pure ⟨rfl, h₅⟩)) fun _ _ h' => h'.elim)) fun _ _ h' => h'.elim))
end

/-- the context of a comprehension's block -/
def cxComp (X : Cx) (scope : Scope) (cl : List (Str × Addr)) (C : Addr) (N' : List Str) (fp : List Addr) (pins : List (Addr × Obj)) (s : Shared) (H : Hp) : Cx where
  prog := X.prog
  w := X.w
  K := X.K
  mg := X.mg
  base := X.base
  A := X.A
  N := N'
  s₀ := s
  H₀ := H
  env := compEnvC scope cl C X.env
  outer := X.stack
  stack := X.stack
  ex := fp
  calm := X.calm
  fn := fun _ => false
  pn := X.pn ++ pins
  xe := fun _ _ => False
/-- the cells that the block sees -/
structure Caps (X : Cx) (scope : Scope) (cl : List (Str × Addr)) (cp : List (Nat × Str)) : Prop where
  kind : scope.kind = .function
  nocell : ∀ y ∈ scope.names, y.2 ≠ .cell
  names : ∀ y ∈ scope.names, y.2 = .local → scope.names.lookup y.1 = some .local
  clos : closureFor scope X.env = pure cl
  sub : ∀ x c, cl.lookup x = some c → X.env.cells.lookup x = some c
  has : ∀ x, ((relabel scope X.env).names.lookup x = some .cell ∨ (relabel scope X.env).names.lookup x = some .free) → ∃ c, cl.lookup x = some c
  at' : ∀ p ∈ cp, X.N[p.1]? = some p.2 ∧ (X.env.scope.names.lookup p.2 = some .cell ∨ X.env.scope.names.lookup p.2 = some .free) ∧ ((relabel scope X.env).names.lookup p.2 = some .cell ∨ (relabel scope X.env).names.lookup p.2 = some .free)
def capσ (cp : List (Nat × Str)) (σ : St) : St := cp.map fun p => (σ[p.1]?).getD none
section
variable {X : Cx} {pins : List (Addr × Obj)} {σ : St} {H : Hp} {s : Shared} {scope : Scope} {cl : List (Str × Addr)} {cp : List (Nat × Str)} {fp : List Addr} {x : Str}
theorem inv_comp (I : Inv X pins σ H s) (c : Caps X scope cl cp) (hf : ∀ b ∈ fp, FpOk X pins H b) (hfo : ∀ b ∈ fp, b < s.heap.objs.size) {h' : Heap} {ty : String} {tk : Nat} {m : Str → Option Value} (hm : h'.Ns s.heap.objs.size m)
    (sb : Heap.SameBut s.heap.objs.size (s.heap.push { cls := .type ty, data := .dict #[] }) h') :
    Inv (cxComp X scope cl s.heap.objs.size (x :: cp.map (·.2)) fp pins s H) [] (none :: capσ cp σ) H { s with heap := h', toks := tk } := by
  have old : ∀ b o, s.heap.get? b = some o → h'.get? b = some o := fun b o e => (sb.2 b (Nat.ne_of_lt (Heap.lt_size e))).trans (Heap.get?_push_of_some _ e)
  have hC : H s.heap.objs.size = none := I.hok.fresh (Nat.le_refl _)
  refine ⟨⟨I.ok.mod, c.kind, I.ok.glob, I.ok.blt, Nat.le_refl _, fun y z k h1 h2 => I.ok.inj y z k (c.sub _ _ h1) (c.sub _ _ h2), c.has, fun y k z => (Bool.noConfusion z), I.ok.hd, I.ok.frames, .inl rfl, fun b hb => ?_, fun b o e => I.bs b o e, Nat.le_trans I.ok.bsz I.sz, fun b o e hb => ?_, fun b hb hz => ?_, I.stack, I.stkFree⟩,
    rfl, I.bare, Un.kept old, ⟨m, hm, fun i y v h1 h2 h3 => ?_⟩, fun y k e => ?_, hC, fun y k e => I.freeC y k (c.sub y k e), fun p hp => ?_, I.hok.kept old, ?_⟩
  · obtain ⟨f0, f1, f2, f3, f4, f5⟩ := hf b hb
    exact ⟨Nat.ne_of_lt (hfo b hb), fun y k e => f4 y k (c.sub y k e)⟩
  · obtain ⟨f0, f1, f2, f3, f4, f5⟩ := hf b hb
    rcases f3 with z | z
    · exact I.ok.noex b o e z
    · exact absurd (Nat.lt_of_lt_of_le (Heap.lt_size (I.ok.bs b o e).1) z) (Nat.lt_irrefl _)
  · obtain ⟨f0, f1, f2, f3, f4, f5⟩ := hf b hb
    rcases List.mem_cons.mp (I.stkSub b hz) with e | e
    · exact f1 e
    · exact f2 e
  · cases i with
    | zero => simp at h2
    | succ i =>
      have h1' : (cp.map (·.2))[i]? = some y := by
        have z : (x :: cp.map (·.2))[i + 1]? = some y := h1
        rw [List.getElem?_cons_succ] at z
        exact z
      have h2' : (capσ cp σ)[i]? = some (some v) := by simpa using h2
      unfold capσ at h2'
      rw [List.getElem?_map] at h1' h2'
      cases e : cp[i]? with
      | none => rw [e] at h1'; cases h1'
      | some p =>
        rw [e] at h1' h2'
        simp only [Option.map_some, Option.some.injEq] at h1' h2'
        obtain ⟨k1, k2, k3⟩ := c.at' p (List.mem_of_getElem? e)
        subst h1'
        have h2'' : σ[p.1]? = some (some v) := by
          cases q : σ[p.1]? with
          | none => rw [q] at h2'; cases h2'
          | some z => rw [q] at h2'; simpa using h2'
        obtain ⟨m0, hn0, hl0⟩ := I.loc
        obtain ⟨u, r, l⟩ := hl0 p.1 p.2 v k1 h2'' (k2.elim (fun z => .inr (.inl z)) fun z => .inr (.inr z))
        refine ⟨u, r, .inr ⟨k3, ?_⟩⟩
        rcases l with ⟨z, _⟩ | ⟨_, cc, e1, e2⟩
        · have z' : X.env.scope.names.lookup p.2 = some .local := z
          rcases k2 with k | k <;> (rw [z'] at k; cases k)
        · obtain ⟨cc', e3⟩ := c.has p.2 k3
          have e4 := c.sub _ _ e3
          rw [e1] at e4
          cases e4
          obtain ⟨o, ho, hd⟩ := e2
          exact ⟨cc, e3, o, old _ _ ho, hd⟩
  · obtain ⟨v, o, ho, hd⟩ := I.cell y k (c.sub y k e)
    exact ⟨v, o, old _ _ ho, hd⟩
  · have hp' : p ∈ X.pn ++ pins := by
      rcases List.mem_append.mp hp with z | z
      · exact z
      · cases z
    obtain ⟨e, n, ne, nf, d⟩ := I.pin p hp'
    refine ⟨old _ _ e, n, Nat.ne_of_lt (Heap.lt_size e), fun hz => ?_, d⟩
    rcases List.mem_cons.mp (I.stkSub p.1 hz) with q | q
    · exact ne q
    · exact nf q
  · show (none :: capσ cp σ).length = (x :: cp.map (·.2)).length
    simp [capσ]
/-- behind the block -/
theorem Inv.uncomp {C : Addr} {N' : List Str} {σ' : St} {H' : Hp} {s' : Shared} {h'' : Heap} (I : Inv X pins σ H s) (hC : C = s.heap.objs.size) (hf : ∀ b ∈ fp, FpOk X pins H b) (J : Inv (cxComp X scope cl C N' fp pins s H) [] σ' H' s') (sb : Heap.SameBut C s'.heap h'') :
    Inv X pins σ H' { s' with heap := h'' } := by
  have ne : ∀ b o, s.heap.get? b = some o → b ≠ C := fun b o e => by rw [hC]; exact Nat.ne_of_lt (Heap.lt_size e)
  have B : Un (frs X.stack) fp H H' s.heap s'.heap := J.base
  refine I.call' (s' := { s' with heap := h'' }) (ch := fp) (show s'.os = s.os from J.os) ⟨fun b o e n hb hx => ?_, fun b o e n hb hx => ?_, B.free, fun b o e hx => ?_, B.tups, B.frzs, B.tbls⟩ (fun b ob e => ?_) J.bare fun b hb => ?_
  · exact (sb.2 b (ne b o e)).trans (B.keep b o e n hb hx)
  · obtain ⟨sl, q⟩ := B.slot b o e n hb hx
    exact ⟨sl, (sb.2 b (ne b o e)).trans q⟩
  · obtain ⟨o', q⟩ := B.there b o e hx
    exact ⟨o', (sb.2 b (ne b o e)).trans q⟩
  · have hfree : H' C = none := J.free
    refine (J.hok b ob e).stay (fun k w' hk q => (sb.2 k ?_).trans q) (fun _ q => q) fun _ _ q => q
    rintro rfl
    rcases hk with rfl | hk
    · rw [hfree] at e; cases e
    · rw [hfree] at hk; cases hk
  · obtain ⟨f0, f1, f2, f3, f4, f5⟩ := hf b hb
    exact ⟨f3, f1, f4, f5⟩
end

/-- the tests behind the for -/
def PTs (X : Cx) (ifs : List Expr) (t : TT) : Prop :=
  ∀ (pins : List (Addr × Obj)) (s : Shared) (σ : St) (H : Hp) (Q : Bool → Hp → Prop), Inv X pins σ H s → t σ H Q →
    wpAny (model X.prog X.w) X.A (forIn ifs true fun c r => if r = true then do let ok ← isTrue c X.env (eval c X.env); pure (ForInStep.yield ok) else pure (ForInStep.yield r)) (TP X pins σ Q) X.xe s
def tYes : TT := fun _ H Q => Q true H
theorem pts_nil {X : Cx} : PTs X [] tYes := fun _ _ _ H _ I h => wpAny_tests_nil ⟨H, I, h⟩
theorem pts_one {X : Cx} {c : Expr} {t : TT} (h : PT X c t) : PTs X [c] t := fun pins s σ H Q I q => wpAny_tests_one (h pins s σ H Q I q)
/-- the loop of a comprehension: W by the turn and a measure; the list grows at D -/
def tLoop (cp : List (Nat × Str)) (tt : TT) (te : TE) (σ : St) (J : It) (D : Addr) (Q : VK) (H1 : Hp) : Prop :=
  ∃ W : Nat → Nat → Hp → Prop, (∃ m, W 0 m (upd H1 D (.lst []))) ∧ ∀ i m H2, W i m H2 → (J.stop i H2 ∧ Q (.ref D) H2) ∨
    (J.go i H2 ∧ ∃ (N : VK) (N' : Hp → Prop), (∀ y H5, N y H5 → ∃ ys m', H5 D = some (.lst ys) ∧ ys.length < sizeLine ∧ m' < m ∧ W (i + 1) m' (upd H5 D (.lst (ys ++ [y])))) ∧ (∀ H4, N' H4 → ∃ m', m' < m ∧ W (i + 1) m' H4) ∧
      ∀ v H3, J.yld i H2 v H3 → tt (some v :: capσ cp σ) H3 fun b H4 => if b = true then te (some v :: capσ cp σ) H4 N else N' H4)
def tComp (cp : List (Nat × Str)) (wi : TI) (tt : TT) (te : TE) : TE := fun σ H Q => wi σ H fun J H1 => ∀ D, H1 D = none → tLoop cp tt te σ J D Q H1
section
variable {X : Cx} {scope : Scope} {cl : List (Str × Addr)} {cp : List (Nat × Str)} {x : Str} {px pos : Pos} {elt iter : Expr} {ifs : List Expr} {wi : TI} {tt : TT} {te : TE}
theorem comp_core {pins : List (Addr × Obj)} {σ : St} {H2 : Hp} {s2 : Shared} {it : Addr} {fp : List Addr} {tn : Nat → Heap → Prop} {J : It} {Q : VK} {R : Addr → Result → Shared → Prop} {E : Value → Shared → Prop} (c : Caps X scope cl cp) (hcalm : X.calm = true) (hx : scope.names.lookup x = some .local) (hnd : (x :: cp.map (·.2)).Nodup)
    (ht : ∀ C fp pins s H, PTs (cxComp X scope cl C (x :: cp.map (·.2)) fp pins s H) ifs tt) (he : ∀ C fp pins s H, PE (cxComp X scope cl C (x :: cp.map (·.2)) fp pins s H) elt te)
    (I2 : Inv X pins σ H2 s2) (T : Turn X.prog X.w X.K (.Name x px) J fp it tn) (st2 : tn 0 s2.heap) (f2 : ∀ b ∈ fp, FpOk X pins H2 b) (q : tLoop cp tt te σ J s2.heap.objs.size Q H2)
    (hR : ∀ (C : Addr) (H' : Hp) (s' : Shared), (∃ m, s'.heap.Ns C m) → X.s₀.heap.objs.size ≤ C → H' C = none → C ≠ X.env.locals → (∀ x c, X.env.cells.lookup x = some c → c ≠ C) → (∀ p ∈ X.pn ++ pins, p.1 ≠ C) → (∀ h'', Heap.SameBut C s'.heap h'' → Inv X pins σ H' { s' with heap := h'' }) → Q (.ref s2.heap.objs.size) H' → R C (.ok .next) s') :
    wpAny (model X.prog X.w) X.A (newList []) (fun acc s₃ => wpAny (model X.prog X.w) X.A (newFunctionEnv scope X.env.globals cl [] X.env.qual none .none (some X.env)) (fun cenv s₄ =>
      acc = .ref s2.heap.objs.size ∧ codeAny (model X.prog X.w) X.A (.compStart (.ListComp elt [⟨.Name x px, iter, ifs, 0⟩] scope pos) 0 (.ref it) acc { cenv with scope := relabel scope X.env }) (R cenv.locals) s₄) E s₃) E s2 := by
  obtain ⟨W, ⟨m0, w0⟩, turn⟩ := q
  refine wpAny_newObj_type ?_
  have I3 : Inv X pins σ (upd H2 s2.heap.objs.size (.lst [])) { s2 with heap := s2.heap.push { cls := .type "list", dict := none, data := .seq ([] : List Value).toArray } } :=
    I2.lnew (t' := s2.toks) (ys := []) (its := []) .nil (Nat.zero_le _)
  have fpo : ∀ b ∈ fp, b < s2.heap.objs.size := fun b hb => by
    obtain ⟨o, e, _⟩ := T.obj _ _ st2 b hb
    exact Heap.lt_size e
  have f3 : ∀ b ∈ fp, FpOk X pins (upd H2 s2.heap.objs.size (.lst [])) b := fun b hb => ⟨by rw [upd_ne (Nat.ne_of_lt (fpo b hb))]; exact (f2 b hb).1, (f2 b hb).2⟩
  generalize hs3 : ({ s2 with heap := s2.heap.push { cls := .type "list", dict := none, data := .seq ([] : List Value).toArray } } : Shared) = s3 at I3
  have e3 : s3.heap = s2.heap.push { cls := .type "list", dict := none, data := .seq ([] : List Value).toArray } := by rw [← hs3]
  have sz3 : s2.heap.objs.size < s3.heap.objs.size := by rw [e3, Heap.size_push]; exact Nat.lt_succ_self _
  refine wpAny_newFunctionEnv c.nocell (by intro y hy; cases hy) (fun h₁ hns sb => ?_) c.kind
  have J3 := inv_comp (x := x) (tk := s3.toks + ([] : List (Str × Value)).length) I3 c f3 (fun b hb => Nat.lt_trans (fpo b hb) sz3) hns sb
  refine ⟨rfl, ?_⟩
  have st3 : tn 0 h₁ := T.keep _ _ _ st2 fun b hb o e => (sb.2 b (Nat.ne_of_lt (Nat.lt_trans (fpo b hb) sz3))).trans (Heap.get?_push_of_some _ (by rw [e3]; exact Heap.get?_push_of_some _ e))
  generalize hX : cxComp X scope cl s3.heap.objs.size (x :: cp.map (·.2)) fp pins s3 (upd H2 s2.heap.objs.size (.lst [])) = X' at J3
  have eA : X'.A = X.A := by rw [← hX]; rfl
  have eP : X'.prog = X.prog := by rw [← hX]; rfl
  have ew : X'.w = X.w := by rw [← hX]; rfl
  have eK : X'.K = X.K := by rw [← hX]; rfl
  have ec : X'.calm = true := by rw [← hX]; exact hcalm
  have ee : X'.env = compEnvC scope cl s3.heap.objs.size X.env := by rw [← hX]; rfl
  have ex : X'.xe = fun _ _ => False := by rw [← hX]; rfl
  have fpX : ∀ {H' : Hp}, (∀ b ∈ fp, H' b = none) → ∀ b ∈ fp, FpOk X' [] H' b := fun hn b hb => by
    obtain ⟨f0, f1, f2', f3', f4, f5⟩ := f3 b hb
    subst hX
    refine ⟨hn b hb, Nat.ne_of_lt (Nat.lt_trans (fpo b hb) sz3), fun hz => ?_, .inl hb, fun y k e => f4 y k (c.sub y k e), fun p hp => ?_⟩
    · rcases List.mem_cons.mp (I3.stkSub b hz) with e | e
      · exact f1 e
      · exact f2' e
    · rcases List.mem_append.mp hp with z | z
      · exact f5 p z
      · cases z
  have pT := ht s3.heap.objs.size fp pins s3 (upd H2 s2.heap.objs.size (.lst []))
  have pE := he s3.heap.objs.size fp pins s3 (upd H2 s2.heap.objs.size (.lst []))
  have pG : PG X' (.Name x px) (gName 0) := by
    subst hX
    exact pg_name hnd rfl (.inl (lookup_relabel_local hx)) (.inr (lookup_relabel_local hx))
  rw [hX] at pT pE
  have loop : codeAny (model X.prog X.w) X.A (.compLoop (.ListComp elt [⟨.Name x px, iter, ifs, 0⟩] scope pos) 0 (.ref it) (.ref s2.heap.objs.size) (compEnvC scope cl s3.heap.objs.size X.env)) (R s3.heap.objs.size) { s3 with heap := h₁, toks := s3.toks + ([] : List (Str × Value)).length } := by
    refine compLoop_own (fun n s' => ∃ i o H', Inv X' [] (o :: capσ cp σ) H' s' ∧ tn i s'.heap ∧ (∀ b ∈ fp, H' b = none) ∧ W i n H') ?_ m0 ⟨0, none, _, J3, st3, fun b hb => (f3 b hb).1, w0⟩
    rintro n s5 ⟨i, o, H5, J5, st5, fr5, w5⟩
    rcases turn i n H5 w5 with ⟨stop, qn⟩ | ⟨go, N, N', hN, hN', step⟩
    · have z := T.done X' eP ew eK ec i [] s5 _ H5 (fun _ _ => False) J5 (fpX fr5) st5 stop
      rw [eA] at z
      refine thn z fun r s6 ⟨hr, J6⟩ => ?_
      subst hr
      subst hX
      obtain ⟨m6, hn6, _⟩ := J6.loc
      refine hR s3.heap.objs.size H5 s6 ⟨m6, hn6⟩ I3.sz J6.free (Nat.ne_of_gt I3.lt) (fun y k e z => ?_) (fun p hp z => ?_) (fun h'' sb' => I3.uncomp rfl f3 J6 sb') qn
      · obtain ⟨v, w'⟩ := I3.cell y k e
        exact absurd w'.lt (by rw [z]; exact Nat.lt_irrefl _)
      · exact absurd (Heap.lt_size (I3.pin p hp).1) (by rw [z]; exact Nat.lt_irrefl _)
    · have z := T.item X' eP ew eK ec i [] s5 _ H5 (fun _ _ => False) J5 (fpX fr5) st5 go
      rw [eA] at z
      refine thn z fun r s6 ⟨u, hr, h6⟩ => ?_
      subst hr
      refine thn h6 fun _ s7 ⟨v, H7, J7, r7, y7, st7, fr7⟩ => ?_
      have J7' := J7.pinned (fpX fr7) (T.obj _ _ st7)
      have z8 := pG _ s7 _ H7 v u (fun σ' H' => σ' = some v :: capσ cp σ ∧ H' = H7) J7' r7 ⟨rfl, rfl⟩
      rw [eA, eP, ew, ee, ex] at z8
      refine thn z8 fun _ s8 ⟨σ8, H8, J8, e8, e8'⟩ => ?_
      subst e8 e8'
      have z9 := pT _ s8 _ H8 _ J8 (step v H8 y7)
      rw [eA, eP, ew, ee, ex] at z9
      refine thn z9 fun ok s9 ⟨H9, J9, q9⟩ => ?_
      have fin : ∀ {H' : Hp} {s' : Shared}, Inv X' ([] ++ pinsAt fp s7.heap) (some v :: capσ cp σ) H' s' → (∃ m', m' < n ∧ W (i + 1) m' H') → ∃ m, m < n ∧ ∃ i o H', Inv X' [] (o :: capσ cp σ) H' s' ∧ tn i s'.heap ∧ (∀ b ∈ fp, H' b = none) ∧ W i m H' := fun {H' s'} K' ⟨m', hm, w'⟩ => by
        refine ⟨m', hm, i + 1, some v, H', K'.unpinned, T.keep _ _ _ st7 fun b hb ob e => (K'.pin (b, ob) (List.mem_append_right _ (List.mem_append_right _ (mem_pinsAt hb e)))).1, fun b hb => ?_, w'⟩
        obtain ⟨ob, e, d⟩ := T.obj _ _ st7 b hb
        exact (K'.pin (b, ob) (List.mem_append_right _ (List.mem_append_right _ (mem_pinsAt hb e)))).2.1
      cases ok with
      | false =>
        rw [if_neg Bool.false_ne_true] at q9 ⊢
        exact fin J9 (hN' _ q9)
      | true =>
        rw [if_pos rfl] at q9 ⊢
        have z10 := pE _ s9 _ H9 _ J9 q9
        rw [eA, eP, ew, ee, ex] at z10
        refine thn z10 fun u10 s10 ⟨y, H10, J10, r10, n10⟩ => ?_
        obtain ⟨ys, m', hD, hz, hm, w'⟩ := hN y H10 n10
        have z11 := mt_append (X := X') _ s10 _ H10 (.ref s2.heap.objs.size) [y] (.ref s2.heap.objs.size) [u10] (fun _ H' => H' = upd H10 s2.heap.objs.size (.lst (ys ++ [y]))) J10 rfl (.cons r10 .nil) ⟨_, ys, y, rfl, rfl, hD, hz, rfl⟩
        rw [eA, eP, ew, ex] at z11
        refine thn z11 fun u11 s11 ⟨y', H11, J11, r11, e11⟩ => ?_
        subst e11
        exact fin J11 ⟨m', hm, w'⟩
  exact codeAny_compStart_list loop (T.self _ 0 _ _ _ st3 loop)
theorem pe_comp (c : Caps X scope cl cp) (hcalm : X.calm = true) (hx : scope.names.lookup x = some .local) (hnd : (x :: cp.map (·.2)).Nodup) (hi : PI X (.Name x px) iter wi)
    (ht : ∀ C fp pins s H, PTs (cxComp X scope cl C (x :: cp.map (·.2)) fp pins s H) ifs tt) (he : ∀ C fp pins s H, PE (cxComp X scope cl C (x :: cp.map (·.2)) fp pins s H) elt te)
    (hs : ∀ v, foldedSetIterable iter X.env v = pure v := by intro _; rfl) : PE X (.ListComp elt [⟨.Name x px, iter, ifs, 0⟩] scope pos) (tComp cp wi tt te) := by
  intro pins s σ H Q I h
  rw [eval_ListComp]
  refine wpAny_comprehension_free (use := none) (g := ⟨.Name x px, iter, ifs, 0⟩) (gs := []) (cl := cl) rfl hs c.clos c.kind c.names ?_
  refine thn (hi pins s σ H _ I h) fun v s1 h1 => thn h1 fun itv s2 h2 => ?_
  obtain ⟨it, fp, tn, J, H2, e, I2, T, st2, f2, q⟩ := h2
  subst e
  refine thn (comp_core (iter := iter) (pos := pos) (R := fun C => compPost (model X.prog X.w) X.A X.xe none (EP X pins σ Q) (.ref s2.heap.objs.size) C) c hcalm hx hnd ht he I2 T st2 f2 (q _ (I2.hok.fresh (Nat.le_refl _))) ?_) fun acc s3 h3 => thn h3 fun cenv s4 h4 => ?_
  · rintro C H' s' ⟨m, hn⟩ _ _ _ _ _ hI hq
    exact ⟨m, hn, fun h'' sb => ⟨.ref s2.heap.objs.size, H', hI h'' sb, rfl, hq⟩⟩
  · obtain ⟨e, h4⟩ := h4
    subst e
    exact h4
end
end L2

namespace L2
open PySem PySem.Spec PyProof.Rows

section
variable {X : Cx} {scope : Scope} {cl : List (Str × Addr)} {cp : List (Nat × Str)} {x : Str} {px pos : Pos} {elt iter : Expr} {ifs : List Expr} {wi : TI} {tt : TT} {te : TE}
/-- y = [.. for ..]: the store comes ahead of the letting go -/
theorem ps_setComp {i : Nat} {y : Str} {py : Pos} {pos' : Pos} (hN : X.N.Nodup) (hi' : X.N[i]? = some y) (hy : X.env.scope.names.lookup y = some .local) (c : Caps X scope cl cp) (hcalm : X.calm = true) (hx : scope.names.lookup x = some .local) (hnd : (x :: cp.map (·.2)).Nodup) (hi : PI X (.Name x px) iter wi)
    (ht : ∀ C fp pins s H, PTs (cxComp X scope cl C (x :: cp.map (·.2)) fp pins s H) ifs tt) (he : ∀ C fp pins s H, PE (cxComp X scope cl C (x :: cp.map (·.2)) fp pins s H) elt te)
    (hsw : swapsWith (.ListComp elt [⟨.Name x px, iter, ifs, 0⟩] scope pos) (some (.Name y py)) pos'.line X.env = pure true)
    (hs : ∀ v, foldedSetIterable iter X.env v = pure v := by intro _; rfl) : PS X (.Assign [.Name y py] (.ListComp elt [⟨.Name x px, iter, ifs, 0⟩] scope pos) pos') (tAsg (tComp cp wi tt te) (gName i)) := by
  intro pins s σ H D I h
  rw [exec_Assign_Name_used _ _ _ _ hsw]
  refine wpAny_bind (wpAny_standAt (wpAny_bind (wpAny_bind ?_)))
  refine wpAny_comprehension_free (use := some (assign (.Name y py) X.env)) (g := ⟨.Name x px, iter, ifs, 0⟩) (gs := []) (cl := cl) rfl hs c.clos c.kind c.names ?_
  refine thn (hi pins s σ H _ I h) fun v s1 h1 => thn h1 fun itv s2 h2 => ?_
  obtain ⟨it, fp, tn, J, H2, e, I2, T, st2, f2, q⟩ := h2
  subst e
  refine thn (comp_core (iter := iter) (pos := pos) (R := fun C => compPost (model X.prog X.w) X.A X.xe (some (assign (.Name y py) X.env)) (fun _ s' => wpAny (model X.prog X.w) X.A (pure ()) (fun _ s' => wpAny (model X.prog X.w) X.A (pure Flow.next) (SP X pins D) X.xe s') X.xe s') (.ref s2.heap.objs.size) C) c hcalm hx hnd ht he I2 T st2 f2 (q _ (I2.hok.fresh (Nat.le_refl _))) ?_) fun acc s3 h3 => thn h3 fun cenv s4 h4 => ?_
  · rintro C H' s' ⟨m, hn⟩ hC0 hCn hCL hCc hCp hI hq
    have I' : Inv X pins σ H' s' := hI s'.heap (Heap.SameBut.refl ..)
    refine wpAny_assign_Name (store_ok2 (v := .ref s2.heap.objs.size) I' hN hi' (.inl hy) rfl (fun s'' I'' hb => ?_) (.inr hy))
    obtain ⟨a, sb, ha⟩ := hb
    have hne : C ≠ a := by
      rcases ha with z | z
      · rw [z]; exact hCL
      · exact fun e => hCc y a z e.symm
    refine ⟨m, hn.sameBut sb hne, fun h'' sb'' => wpAny_pure (wpAny_pure ⟨_, H', ?_, hq⟩)⟩
    exact I''.turned (t' := s''.toks) (fun b o hb e => (sb''.2 b hb).trans e) hCn hCL (.inr hC0) hCc hCp
  · obtain ⟨e, h4⟩ := h4
    subst e
    exact h4
end

/-! ### all, join -/
theorem bools_of : ∀ {bs : List Bool} {us : List Value}, Vals (bs.map V.bl) us → ∀ (i : Nat) (v : Value), us[i]? = some v → ∃ b : Bool, bs[i]? = some b ∧ v = Value.bool b
  | [], _, .nil, i, v, h => by simp at h
  | b :: bs, u :: us, .cons r t, 0, v, h => by
    simp at h
    subst h
    cases r
    exact ⟨b, rfl, rfl⟩
  | b :: bs, u :: us, .cons r t, i + 1, v, h => by
    obtain ⟨b', e1, e2⟩ := bools_of t i v (by simpa using h)
    exact ⟨b', by simpa using e1, e2⟩
theorem strs_of : ∀ {ys : List Str} {us : List Value}, Vals (ys.map V.str) us → StrsAre us ys
  | [], _, .nil => .nil
  | y :: ys, u :: us, .cons r t => by
    obtain ⟨k, rfl⟩ := r
    exact .cons y k (strs_of t)
section
variable {X : Cx}
theorem call_all (hc : X.calm = true) : CallR X (.builtin "all") (fun xs H Q => ∃ (a : Addr) (bs : List Bool), xs = [.ref a] ∧ SqL X.K H a (bs.map V.bl) ∧ Q (.bl (bs.all id)) H) := by
  intro pins s σ H xs us Q I r h
  obtain ⟨a, bs, rfl, hq, q⟩ := h
  obtain ⟨u, rfl, ru⟩ := r.one
  cases ru
  obtain ⟨its, rv, pl, hz⟩ := I.list hq
  have hl : s.heap.IsList a its.toArray := pl.isList
  have hlt : a < s.heap.objs.size := by obtain ⟨_, e, _⟩ := hl; exact Heap.lt_size e
  refine call_all_walk (wpAny_pyIter_list hl ?_)
  refine ⟨s.heap.objs.size, [s.heap.objs.size, a], [s.heap.objs.size], its.toArray.size, _, _, fun i => (bs[i]?).getD true, rfl, Walks.list (A := X.A.in1) (I.ok.hd hc) _ a (Nat.ne_of_lt hlt) its.toArray,
    ⟨⟨_, Heap.get?_push_size _ rfl, rfl, rfl⟩, hl.push _⟩, fun i v s' Q' E' hP hQ => ?_, fun h' tk hk => ?_⟩
  · obtain ⟨b, e, rfl⟩ := bools_of rv i v (by simpa using hP)
    simp only [e, Option.getD_some] at hQ
    exact wpAny_truthy_bool hQ
  · have e : ((List.range its.toArray.size).all fun i => (bs[i]?).getD true) = bs.all id := by
      have := rv.length
      rw [List.length_map] at this
      rw [List.size_toArray, ← this]
      exact PyProof.Rows.LSm.range_all bs
    rw [e]
    refine ⟨.bl _, H, I.kept (t' := tk) fun b o e' => hk b o (fun hm => ?_) (Heap.get?_push_of_some _ e'), rfl, q⟩
    rw [List.mem_singleton.mp hm] at e'
    exact Nat.lt_irrefl _ (Heap.lt_size e')
def rJoin (K : PySem.W.Frag) : V → List V → Hp → VK → Prop := fun x vs H Q => ∃ (z : Str) (a : Addr) (ys : List Str), x = .str z ∧ vs = [.ref a] ∧ SqL K H a (ys.map V.str) ∧ (ys.map (·.length)).sum + ys.length * z.length ≤ 16777216 ∧ Q (.str (Txt.join z ys)) H
theorem mt_join : MtR X "str.join" (rJoin X.K) := by
  intro pins s σ H x vs v us Q I rx rv h
  obtain ⟨z, a, ys, rfl, rfl, hq, hz, q⟩ := h
  obtain ⟨t, rfl⟩ := rx
  obtain ⟨u, rfl, ru⟩ := rv.one
  cases ru
  obtain ⟨its, r, pl, _⟩ := I.list hq
  exact join_list pl.isList (by simpa using strs_of r) hz fun t' k => ⟨.str _, H, I.tok k, ⟨_, rfl⟩, q⟩
end

/-! ### a def that is known: its promise and how it is called -/
structure Known (P : Program) (w : World) (K : PySem.W.Frag) (mg : Str → Option Value) (base : Heap) (CX : CXT) (k : Nat) (x : Str) (ps : List Str) (sp : Sp) : Prop where
  ex : ∃ f fd, FnOk P w K mg base CX k f fd ps sp ∧ mg x = some (.ref f) ∧ PySem.W.keepIn K (.ref f) = true ∧ Binds K fd ps []
section
variable {X : Cx} {CX : CXT} {k : Nat} {ps : List Str} {sp : Sp} {E : XK} {x : Str} {p pos : Pos} {e : Expr} {es : List Expr} {t : TA}
theorem pe_callN (G : Known X.prog X.w X.K X.mg X.base CX k x ps sp) (hr : Room k X.A) (hx : Passes CX X E) (ha : PA X (e :: es) t) (hg : Gl X x := by rfl) (hdb : (x == ("__debug__" : Str)) = false := by decide)
    (he : starEach (e :: es) X.env = (false, eval e X.env) :: starEach es X.env := by rfl) (hpl : (backTo pos (starEach es X.env)).any (·.1) = false := by rfl) : PE X (.Call (.Name x p) (e :: es) [] pos) (tCall sp [] E t) := by
  obtain ⟨f, fd, F, hm, hk, hb⟩ := G.ex
  exact pe_call F hr hg hm hk hb .nil hx ha hdb he hpl
end
/-! ### the forms of a comprehension that one uses: Pv by the turn, the list so far, the heap (in which it stands at D) -/
def Nxt (D : Addr) (Pv : Nat → List V → Hp → Prop) (i : Nat) (ys : List V) : VK := fun y H5 => H5 D = some (.lst ys) ∧ ys.length < sizeLine ∧ Pv (i + 1) (ys ++ [y]) (upd H5 D (.lst (ys ++ [y])))
theorem comp_it {cp : List (Nat × Str)} {te : TE} {σ : St} {J : It} {n : Nat} {D : Addr} {Q : VK} {H1 : Hp} (Pv : Nat → List V → Hp → Prop) (h0 : Pv 0 [] (upd H1 D (.lst []))) 
    (hg : ∀ i ys H, H D = some (.lst ys) → Pv i ys H → (i < n → J.go i H) ∧ (i = n → J.stop i H))
    (hs : ∀ i ys H v H', i < n → H D = some (.lst ys) → Pv i ys H → J.yld i H v H' → te (some v :: capσ cp σ) H' (Nxt D Pv i ys))
    (hd : ∀ ys H, H D = some (.lst ys) → Pv n ys H → Q (.ref D) H) : tLoop cp tYes te σ J D Q H1 := by
  refine ⟨fun i m H => m = n - i ∧ i ≤ n ∧ ∃ ys, H D = some (.lst ys) ∧ Pv i ys H, ⟨n, by simp, Nat.zero_le _, [], upd_same, h0⟩, ?_⟩
  rintro i m H ⟨rfl, hi, ys, hD, p⟩
  by_cases hlt : i < n
  · refine .inr ⟨(hg i ys H hD p).1 hlt, Nxt D Pv i ys, fun _ => False, fun y H5 ⟨h1, h2, h3⟩ => ⟨ys, n - (i + 1), h1, h2, by omega, rfl, hlt, _, upd_same, h3⟩, fun _ z => z.elim, fun v H' y => ?_⟩
    exact hs i ys H v H' hlt hD p y
  · have e : i = n := by omega
    subst e
    exact .inl ⟨(hg i ys H hD p).2 rfl, hd ys H hD p⟩
theorem comp_range {cp : List (Nat × Str)} {te : TE} {σ : St} {lo : Int} {n : Nat} {D : Addr} {Q : VK} {H1 : Hp} (Pv : Nat → List V → Hp → Prop) (h0 : Pv 0 [] (upd H1 D (.lst [])))
    (hs : ∀ i ys H, i < n → H D = some (.lst ys) → Pv i ys H → te (some (.int (lo + i)) :: capσ cp σ) H (Nxt D Pv i ys))
    (hd : ∀ ys H, H D = some (.lst ys) → Pv n ys H → Q (.ref D) H) : tLoop cp tYes te σ (Itr lo n) D Q H1 :=
  comp_it (n := n) Pv h0 (fun i ys H _ _ => ⟨fun h => h, fun h => by subst h; exact Nat.le_refl _⟩) (fun i ys H v H' hi hD p y => by
    obtain ⟨e, rfl⟩ := y
    subst e
    exact hs i ys _ hi hD p) hd
theorem comp_str {cp : List (Nat × Str)} {te : TE} {σ : St} {x : Str} {D : Addr} {Q : VK} {H1 : Hp} (Pv : Nat → List V → Hp → Prop) (h0 : Pv 0 [] (upd H1 D (.lst [])))
    (hs : ∀ i c ys H, x.cps[i]? = some c → H D = some (.lst ys) → Pv i ys H → te (some (.str ⟨#[c]⟩) :: capσ cp σ) H (Nxt D Pv i ys))
    (hd : ∀ ys H, H D = some (.lst ys) → Pv x.cps.size ys H → Q (.ref D) H) : tLoop cp tYes te σ (Its x) D Q H1 :=
  comp_it (n := x.cps.size) Pv h0 (fun i ys H _ _ => ⟨fun h => h, fun h => by subst h; exact Nat.le_refl _⟩) (fun i ys H v H' hi hD p y => by
    obtain ⟨e, c, hc, rfl⟩ := y
    subst e
    exact hs i c ys _ hc hD p) hd
theorem comp_list {K : PySem.W.Frag} {cp : List (Nat × Str)} {te : TE} {σ : St} {a : Addr} {xs : List V} {D : Addr} {Q : VK} {H1 : Hp} (Pv : Nat → List V → Hp → Prop) (h0 : Pv 0 [] (upd H1 D (.lst [])))
    (hl : ∀ i ys H, H D = some (.lst ys) → Pv i ys H → SqL K H a xs)
    (hs : ∀ i x ys H, xs[i]? = some x → H D = some (.lst ys) → Pv i ys H → te (some x :: capσ cp σ) H (Nxt D Pv i ys))
    (hd : ∀ ys H, H D = some (.lst ys) → Pv xs.length ys H → Q (.ref D) H) : tLoop cp tYes te σ (Itl K a) D Q H1 :=
  comp_it (n := xs.length) Pv h0 (fun i ys H hD p => ⟨fun h => ⟨xs, xs[i], hl i ys H hD p, by simp [h]⟩, fun h => by subst h; exact ⟨xs, hl _ ys H hD p, Nat.le_refl _⟩⟩) (fun i ys H v H' hi hD p y => by
    obtain ⟨e, y⟩ := y
    subst e
    exact hs i v ys _ (y xs (hl i ys _ hD p)) hD p) hd
end L2

namespace L2
open PySem PySem.Spec PyProof.Rows

/-! ### the kinds of plain things, isinstance of them -/
inductive Kd where
  | non | bl | int | str | lst | tup | dct
  deriving DecidableEq
def Kd.nm : Kd → String
  | .non => "NoneType" | .bl => "bool" | .int => "int" | .str => "str" | .lst => "list" | .tup => "tuple" | .dct => "dict"
theorem kit_int (K : PySem.W.Frag) (a : Kd) : PySem.W.kitOne K (.type a.nm) (.type "int") = some (decide (a = .int ∨ a = .bl)) := by cases a <;> kernel_rfl
theorem kit_bool (K : PySem.W.Frag) (a : Kd) : PySem.W.kitOne K (.type a.nm) (.type "bool") = some (decide (a = .bl)) := by cases a <;> kernel_rfl
theorem kit_str (K : PySem.W.Frag) (a : Kd) : PySem.W.kitOne K (.type a.nm) (.type "str") = some (decide (a = .str)) := by cases a <;> kernel_rfl
theorem kit_list (K : PySem.W.Frag) (a : Kd) : PySem.W.kitOne K (.type a.nm) (.type "list") = some (decide (a = .lst)) := by cases a <;> kernel_rfl
theorem kit_tuple (K : PySem.W.Frag) (a : Kd) : PySem.W.kitOne K (.type a.nm) (.type "tuple") = some (decide (a = .tup)) := by cases a <;> kernel_rfl
theorem kit_dict (K : PySem.W.Frag) (a : Kd) : PySem.W.kitOne K (.type a.nm) (.type "dict") = some (decide (a = .dct)) := by cases a <;> kernel_rfl
def kdD : PyData → Kd
  | .none => .non | .bool _ => .bl | .int _ => .int | .str _ => .str | .list _ => .lst | .tuple _ => .tup | .dict _ => .dct
/-- isinstance(x, T), T a built-in type -/
theorem call_isT {X : Cx} : CallR X (.builtin "isinstance") (fun xs H Q => ∃ x T d k, xs = [x, .ty T] ∧ Dt X.K H x d ∧ PySem.W.kitOne X.K (.type (kdD d).nm) (.type T) = some k ∧ Q (.bl k) H) := by
  intro pins s σ H xs us Q I r h
  obtain ⟨x, T, d, k, rfl, hd, e, q⟩ := h
  obtain ⟨u, c, rfl, r1, r2⟩ := r.two
  cases r2
  have fin : ∀ tk, EP X pins σ Q (.bool k) { s with toks := tk } := fun tk => ⟨.bl k, H, I.tok tk, rfl, q⟩
  cases hd with
  | non => cases r1; exact PySem.W.kia_one PySem.W.kitx_none I.kIn True.intro e (fun z => nomatch z) fin
  | bl b => cases r1; exact PySem.W.kia_one PySem.W.kitx_bool I.kIn True.intro e (fun z => nomatch z) fin
  | int i => obtain ⟨t, rfl⟩ := r1; exact PySem.W.kia_one PySem.W.kitx_int I.kIn True.intro e (fun z => nomatch z) fin
  | str z => obtain ⟨t, rfl⟩ := r1; exact PySem.W.kia_one PySem.W.kitx_str I.kIn True.intro e (fun z => nomatch z) fin
  | lst hq _ =>
    cases r1
    obtain ⟨its, _, ⟨o, n, eo, hc, _, _⟩, _⟩ := I.list hq
    exact PySem.W.kia_one PySem.W.kitx_list I.kIn ⟨o, eo, hc⟩ e (fun z => nomatch z) fin
  | tup hq _ =>
    cases r1
    obtain ⟨its, _, ⟨o, eo, hc, _⟩, _⟩ := I.tuple hq
    exact PySem.W.kia_one PySem.W.kitx_tuple I.kIn ⟨o, eo, hc⟩ e (fun z => nomatch z) fin
  | dK ea =>
    cases r1
    obtain ⟨_, _, vs, _, o, es, ep, h1, h2, _⟩ := I.hok _ _ ea
    exact PySem.W.kia_one PySem.W.kitx_dict I.kIn ⟨o, h1, h2.1⟩ e (fun z => nomatch z) fin
  | dT ea =>
    cases r1
    obtain ⟨_, _, zs, _, o, es, ep, h1, h2, _⟩ := I.hok _ _ ea
    exact PySem.W.kia_one PySem.W.kitx_dict I.kIn ⟨o, h1, h2.1⟩ e (fun z => nomatch z) fin

/-! ### no cell is caught -/
theorem caps0 {X : Cx} {scope : Scope} (kind : scope.kind = .function := by rfl) (plain : ∀ y ∈ scope.names, y.2 = .local ∨ y.2 = .globalImplicit := by decide) (names : ∀ y ∈ scope.names, y.2 = .local → scope.names.lookup y.1 = some .local := by decide +kernel) : Caps X scope [] [] where
  kind := kind
  nocell := fun y hy z => by rcases plain y hy with h | h <;> rw [h] at z <;> cases z
  names := names
  clos := closureFor_none fun y hy z => by rcases plain y hy with h | h <;> rw [h] at z <;> cases z
  sub := fun x c e => by cases e
  has := fun x h => by
    have hm : ∀ (k : NameKind), (relabel scope X.env).names.lookup x = some k → k = .local ∨ k = .globalImplicit := fun k e => by
      have m := PySem.mem_of_lookup e
      unfold relabel at m
      obtain ⟨⟨n, k'⟩, hy, e'⟩ := List.mem_map.mp m
      have q := plain _ hy
      have nf : (k' == NameKind.free) = false := by rcases q with h | h <;> (have h' : k' = _ := h; subst h'; rfl)
      simp only [nf, Bool.false_and, Bool.false_eq_true, if_false] at e'
      have : k' = k := congrArg (·.2) e'
      rw [← this]
      exact q
    rcases h with h | h
    · rcases hm _ h with z | z <;> cases z
    · rcases hm _ h with z | z <;> cases z
  at' := fun p hp => by cases hp

/-! ### a def of the text -/
structure Def (K : PySem.W.Frag) (mg : Str → Option Value) (x : Str) (st : Stmt) : Prop where
  ex : ∃ f fd, Fun K x x st f fd ∧ mg x = some (.ref f)
section
variable {P : Program} {w : World} {K : PySem.W.Frag} {mg : Str → Option Value} {base : Heap}
theorem top_def {h : Heap} {x : Str} {st : Stmt} {f : Addr} {oc : Value} {od an : Option Addr} {osl : Array (Option Value)} {kV doc pm cdv ct : Value} (X : K.In h) (G : h.Ns mainGlobals mg) (a : PySem.W.nsIn K mainGlobals x = some (some (.ref f)))
    (l : K.lookup f = some ⟨oc, od, .func (PySem.W.fnOf x x (defArgs st) (defBody st) (defScope st) .none kV doc pm an cdv ct), osl⟩) (c : PySem.W.codeIn K cdv x = true) (k : PySem.W.keepIn K (.ref f) = true) : Def K mg x st :=
  ⟨f, _, fun_mk l c k, PySem.W.mg_of X G a⟩
theorem Def.known {x : Str} {st : Stmt} {N ps : List Str} {k : Nat} {sp : Sp} (D : Def K mg x st) (S : FnScope N ps (defScope st))
    (hb : ∀ (kV doc pm : Value) (an : Option Addr) (cdv ct : Value) (us : List Value), us.length = ps.length → bindArgs (PySem.W.fnOf x x (defArgs st) (defBody st) (defScope st) .none kV doc pm an cdv ct) ⟨us, []⟩ = pure (ps.zip us))
    (len : ∀ vs H Q E, sp vs H Q E → vs.length = ps.length)
    (hbody : ∀ (f : Addr) (cdv : Value) (A : Around) (outer : List Env) (s : Shared) (H : Hp) (vs : List V) (Q : VK) (E : XK), Room k (A.deeper (envOfC x (defScope st) s.heap.objs.size f cdv)) → sp vs H Q E →
      ∃ t, PSs (cxOf CX0 P w K mg base N x (defScope st) f cdv A outer s H E).nox (defBody st) t ∧ t { nx := fun _ H' => Q .non H', rt := Q } (start N vs) H) : Known P w K mg base CX0 (k + 1) x ps sp := by
  obtain ⟨f, fd, F, hm⟩ := D.ex
  exact ⟨f, fd, F.ok S len fun cdv A outer s H vs Q E hr h => hbody f cdv A outer s H vs Q E hr h, hm, F.kp, F.binds hb⟩
end

/-! ### heaps that grow -/
theorem Same.new {H : Hp} {D : Addr} {o : HO} (h : H D = none) : Same H (upd H D o) := fun b u e => by rw [upd_ne (ne_of_none e h)]; exact e
/-- a new thing is turned -/
theorem Same.on {H H2 : Hp} {D : Addr} {o : HO} (e : Same H H2) (h : H D = none) : Same H (upd H2 D o) := fun b u z => by rw [upd_ne (ne_of_none z h)]; exact e b u z

/-! ### a new list, a new tuple of data -/
/-! ### texts -/
theorem join0 : ∀ zs : List Str, (Str.join "" zs).cps.toList = zs.flatMap (·.cps.toList)
  | [] => by rfl
  | [x] => by simp [Str.join]
  | x :: y :: r => by
    have ih := join0 (y :: r)
    have e : Str.join "" (x :: y :: r) = x ++ ("" : Str) ++ Str.join "" (y :: r) := rfl
    have e2 : (x ++ ("" : Str) ++ Str.join "" (y :: r)).cps = x.cps ++ ("" : Str).cps ++ (Str.join "" (y :: r)).cps := rfl
    have e3 : ("" : Str).cps = #[] := by decide +kernel
    rw [e, e2, e3, Array.append_empty, Array.toList_append, ih]
    simp only [List.flatMap_cons]
abbrev one (c : Nat) : Str := ⟨#[c]⟩
theorem flat_ones : ∀ cs : List Nat, (cs.map one).flatMap (·.cps.toList) = cs
  | [] => rfl
  | c :: r => by
    rw [List.map_cons, List.flatMap_cons, flat_ones r]
    rfl
theorem join_ones (cs : List Nat) : Txt.join ("" : Str) (cs.map one) = ⟨cs.toArray⟩ := by
  have e : (Txt.join ("" : Str) (cs.map one)).cps.toList = cs := by
    show (Builtin.Str.glued ("" : Str) (cs.map one)).cps.toList = cs
    rw [StrLaws.glued_eq_join, join0, flat_ones]
  generalize Txt.join ("" : Str) (cs.map one) = z at e
  obtain ⟨⟨l⟩⟩ := z
  have e' : l = cs := e
  rw [e']
theorem sum_ones (cs : List Nat) : ((cs.map one).map (·.length)).sum = cs.length := by
  induction cs with
  | nil => rfl
  | cons c r ih =>
    rw [List.map_cons, List.map_cons, List.sum_cons, ih, List.length_cons]
    show 1 + r.length = r.length + 1
    omega
theorem join_room {cs : List Nat} (h : cs.length ≤ 1000) : ((cs.map one).map (·.length)).sum + (cs.map one).length * ("" : Str).length ≤ 16777216 := by
  have e : ("" : Str).length = 0 := by decide +kernel
  rw [sum_ones, e, Nat.mul_zero]
  omega
theorem at_some {α : Type} (xs : List α) (i : Int) (h0 : 0 ≤ i) (h : i < xs.length) : ∃ v, atI xs i = some v ∧ xs[i.toNat]? = some v := by
  have e : i = (i.toNat : Int) := by omega
  have hl : i.toNat < xs.length := by omega
  generalize i.toNat = j at e hl
  subst e
  exact ⟨_, atI_nat (List.getElem?_eq_getElem hl), List.getElem?_eq_getElem hl⟩
theorem ix_some {n : Nat} {i : Int} (h0 : 0 ≤ i) (h : i < n) : ixN n i = some i.toNat := by
  unfold ixN
  rw [if_pos h0, if_pos h]
theorem at_map (ns : List Int) (i : Int) (h0 : 0 ≤ i) (h : i < ns.length) : atI (ns.map V.int) i = some (V.int (ns.getD i.toNat 0)) := by
  have e : i = (i.toNat : Int) := by omega
  have hl : i.toNat < ns.length := by omega
  generalize i.toNat = j at e hl
  subst e
  refine atI_nat ?_
  rw [List.getElem?_map, List.getElem?_eq_getElem hl]
  simp [List.getD, hl]

/-! ### data of texts and ints -/
theorem dt_strs {K : PySem.W.Frag} {H : Hp} : ∀ zs : List Str, DtAll K H (zs.map V.str) (zs.map PyData.str)
  | [] => .nil
  | z :: r => .cons (.str z) (dt_strs r)
theorem dt_ints {K : PySem.W.Frag} {H : Hp} : ∀ zs : List Int, DtAll K H (zs.map V.int) (zs.map PyData.int)
  | [] => .nil
  | z :: r => .cons (.int z) (dt_ints r)
theorem lay_ints : ∀ zs : List Int, PyData.canLayAll0 (zs.map PyData.int) = true ∧ PyData.depthAll (zs.map PyData.int) = 0
  | [] => ⟨rfl, rfl⟩
  | z :: r => by
    obtain ⟨h1, h2⟩ := lay_ints r
    constructor
    · rw [List.map_cons, PyData.canLayAll0, h1]; rfl
    · rw [List.map_cons, PyData.depthAll, h2]; rfl
theorem lay_strs : ∀ zs : List Str, (∀ z ∈ zs, PyData.canLay0 (.str z) = true) → PyData.canLayAll0 (zs.map PyData.str) = true ∧ PyData.depthAll (zs.map PyData.str) = 0
  | [], _ => ⟨rfl, rfl⟩
  | z :: r, h => by
    obtain ⟨h1, h2⟩ := lay_strs r fun y hy => h y (List.mem_cons_of_mem _ hy)
    constructor
    · rw [List.map_cons, PyData.canLayAll0, h1, h z List.mem_cons_self]; rfl
    · rw [List.map_cons, PyData.depthAll, h2]; rfl
theorem lay_text {cs : List Nat} (h : ∀ c ∈ cs, c < 128) : PyData.canLay0 (.str ⟨cs.toArray⟩) = true := by
  have : ∀ c ∈ cs, c < 1114112 := fun c hc => by have := h c hc; omega
  simp [PyData.canLay0, PyData.strOk]
  exact this

theorem sl {n : Nat} (h : n ≤ 1000 := by simp) : n ≤ sizeLine := Nat.le_of_lt (small1000 h)

/-! ### names of Python's own -/
theorem b_all : bootBuiltins "all" = some (.builtin "all") := by kernel_rfl
theorem b_isinstance : bootBuiltins "isinstance" = some (.builtin "isinstance") := by kernel_rfl
theorem b_abs : bootBuiltins "abs" = some (.builtin "abs") := by kernel_rfl
theorem b_len : bootBuiltins "len" = some (.builtin "len") := by kernel_rfl
theorem b_int : bootBuiltins "int" = some (.type "int") := by kernel_rfl
theorem b_bool : bootBuiltins "bool" = some (.type "bool") := by kernel_rfl
theorem b_str : bootBuiltins "str" = some (.type "str") := by kernel_rfl
theorem b_list : bootBuiltins "list" = some (.type "list") := by kernel_rfl
theorem b_tuple : bootBuiltins "tuple" = some (.type "tuple") := by kernel_rfl
theorem b_dict : bootBuiltins "dict" = some (.type "dict") := by kernel_rfl
end L2

namespace L2
open PySem PySem.Spec PyProof.Rows

/-! ### exceptions -/
/-- an exception that left a frame: its object at ea, its record at T -/
def Fly (h : Heap) (ea T : Addr) (C : Value) : Prop :=
  ∃ oe vs oT ts, h.get? ea = some oe ∧ oe.cls = C ∧ oe.dict = none ∧ oe.data = .fields vs ∧ vs[1]? = some (.ref T) ∧ T ≠ ea ∧ h.get? T = some oT ∧ oT.data = .fields ts ∧ ts[3]? = some .none
/-- what passing through the frames fs changes: the exception's own objects, the frames' slots -/
structure Flew (fs own : List Addr) (h h' : Heap) : Prop where
  keep : ∀ b o, b ∉ own → b ∉ fs → h.get? b = some o → h'.get? b = some o
  slot : ∀ b o, b ∉ own → h.get? b = some o → ∃ sl, h'.get? b = some { o with slots := sl }
theorem dict_mapFields (o : Obj) (g : Array Value → Array Value) : (o.mapFields g).dict = o.dict := by
  obtain ⟨c, d, dt, sl⟩ := o
  cases dt <;> rfl
section
variable {M : Model} {A : Around} {E : Value → Shared → Prop} {s : Shared} {base : Heap} {env : Env} {outer : List Env} {L ea T : Addr} {C : Value}
theorem entry_laid {oe : Obj} {vs : Array Value} {head : Value} {hadNext : Bool} {Q : Unit → Shared → Prop} (hfr : A.frames = some (env :: outer)) (hl : s.heap.FunFrames base (env :: outer)) (hf : env.frame = some L)
    (he : s.heap.get? ea = some oe) (hdn : oe.dict = none) (hd : oe.data = .fields vs) (hsz : 1 < vs.size)
    (k : ∀ h' T', s.heap.objs.size ≤ T' → Fly h' ea T' oe.cls → Flew (frs (env :: outer)) [ea] s.heap h' → Q () { s with heap := h' }) :
    wpAny M A (do let a ← frameOf env; let pl ← entryPlaceOf L hadNext; let b ← EntryCells.newEntry head a .none (rawInt L) .none pl; setField (.ref ea) 1 b) (fun _ s' => wpAny M A (setFlight (.ref ea) none) Q E s') E s := by
  have nfr : ea ∉ frs (env :: outer) := fun hm => by
    obtain ⟨_, o, ho, hnf⟩ := hl.mem hm
    rw [he] at ho
    cases ho
    exact hnf vs hd
  refine wpAny_bind (wpAny_frameOf_fun hfr hl hf fun g so => ?_)
  refine wpAny_bind (wpAny_entryPlaceOf fun pl hpl => ?_)
  unfold EntryCells.newEntry newFields
  refine wpAny_bind (wpAny_newObj_type ?_ (hpl.sizeOk5 _ _ _ _ _))
  have hts : 3 < ([head, .ref L, .none, rawInt L, .none] ++ (if pl.isEmpty then List.replicate 6 Value.none else pl)).toArray.size := by
    rw [List.size_toArray, List.length_append]
    exact Nat.lt_of_lt_of_le (by decide : 3 < 5) (Nat.le_add_right _ _)
  generalize ([head, .ref L, .none, rawInt L, .none] ++ (if pl.isEmpty then List.replicate 6 Value.none else pl)).toArray = ts at hts
  have g1 : g.get? ea = some oe := (so.2.1 ea nfr).trans he
  have gT : g.objs.size = s.heap.objs.size := so.1
  have neT : g.objs.size ≠ ea := Nat.ne_of_gt (Heap.lt_size g1)
  have g2 := Heap.get?_push_of_some (h := g) ({ cls := .type "traceback", dict := none, data := .fields ts } : Obj) g1
  refine wpAny_setField g2 hd hsz ?_
  have d3 := Obj.data_mapFields hd (·.setIfInBounds 1 (Value.ref g.objs.size))
  have g3 := Heap.get?_update_self (Obj.mapFields (·.setIfInBounds 1 (Value.ref g.objs.size))) g2 (Obj.isFreed_of_fields d3)
  have t3 : ((g.push ({ cls := .type "traceback", dict := none, data := .fields ts } : Obj)).update ea (Obj.mapFields (·.setIfInBounds 1 (Value.ref g.objs.size)))).get? g.objs.size = some { cls := .type "traceback", dict := none, data := .fields ts } :=
    (Heap.get?_update_other _ _ (Ne.symm neT)).trans (Heap.get?_push_size g rfl)
  unfold setFlight
  refine wpAny_bind (wpAny_field g3 d3 (x := .ref g.objs.size) (by simp [hsz]) ?_)
  rw [if_pos (show (Value.ref g.objs.size != Value.none) = true from by simp)]
  refine wpAny_setField t3 rfl hts ?_
  have d4 := Obj.data_mapFields (o := ({ cls := .type "traceback", dict := none, data := .fields ts } : Obj)) (vs := ts) rfl (·.setIfInBounds 3 ((none : Option Addr).elim Value.none fun f => rawInt f))
  refine k _ g.objs.size (by rw [gT]; exact Nat.le_refl _) ⟨_, _, _, _, (Heap.get?_update_other _ _ neT).trans g3, Obj.cls_mapFields _ _, (dict_mapFields _ _).trans hdn, d3, by simp [hsz], neT, Heap.get?_update_self _ t3 (Obj.isFreed_of_fields d4), d4, by simp [hts]⟩ ?_
  have up : ∀ b o, b ≠ ea → g.get? b = some o → (((g.push ({ cls := .type "traceback", dict := none, data := .fields ts } : Obj)).update ea (Obj.mapFields (·.setIfInBounds 1 (Value.ref g.objs.size)))).update g.objs.size (Obj.mapFields (·.setIfInBounds 3 ((none : Option Addr).elim Value.none fun f => rawInt f)))).get? b = some o := fun b o nb hb =>
    (Heap.get?_update_other _ _ (Nat.ne_of_gt (Heap.lt_size hb))).trans ((Heap.get?_update_other _ _ (Ne.symm nb)).trans (Heap.get?_push_of_some _ hb))
  refine ⟨fun b o nb nf hb => up b o (fun z => nb (by simp [z])) ((so.2.1 b nf).trans hb), fun b o nb hb => ?_⟩
  obtain ⟨sl, hs⟩ := so.2.2 b o hb
  exact ⟨sl, up b _ (fun z => nb (by simp [z])) hs⟩
/-- a new exception leaves its frame -/
theorem leave_new {oe : Obj} {vs : Array Value} {Q : Unit → Shared → Prop} (hfr : A.frames = some (env :: outer)) (hl : s.heap.FunFrames base (env :: outer)) (hf : env.frame = some L)
    (he : s.heap.get? ea = some oe) (hdn : oe.dict = none) (hd : oe.data = .fields vs) (h1 : vs[1]? = some .none)
    (k : ∀ h' T', s.heap.objs.size ≤ T' → Fly h' ea T' oe.cls → Flew (frs (env :: outer)) [ea] s.heap h' → Q () { s with heap := h' }) : wpAny M A (leaving env (.ref ea)) Q E s := by
  unfold leaving noteFrame
  simp only [hf]
  refine wpAny_bind (wpAny_bind (wpAny_field he hd h1 ?_))
  rw [if_neg (by decide)]
  exact entry_laid hfr hl hf he hdn hd (Array.getElem?_eq_some_iff.mp h1).1 k
/-- one that flies comes through the next frame -/
theorem note_fly {Q : Unit → Shared → Prop} (hfr : A.frames = some (env :: outer)) (hl : s.heap.FunFrames base (env :: outer)) (hf : env.frame = some L) (hx : Fly s.heap ea T C)
    (k : ∀ h' T', s.heap.objs.size ≤ T' → Fly h' ea T' C → Flew (frs (env :: outer)) [ea, T] s.heap h' → Q () { s with heap := h' }) :
    wpAny M A (noteFrame (.ref ea) env) (fun _ s' => wpAny M A (setFlight (.ref ea) none) Q E s') E s := by
  obtain ⟨oe, vs, oT, ts, he, hc, hdn, hd, h1, hTe, hT, hdT, h3⟩ := hx
  subst hc
  unfold noteFrame
  simp only [hf]
  refine wpAny_bind (wpAny_field he hd h1 ?_)
  rw [if_pos (show (Value.ref T != Value.none) = true from by simp)]
  refine wpAny_bind (wpAny_field hT hdT h3 ?_)
  rw [if_neg (show ¬ ((Value.none == rawInt L) = true) from by simp [rawInt])]
  refine wpAny_bind (wpAny_setField hT hdT (Array.getElem?_eq_some_iff.mp h3).1 ?_)
  have far : ∀ b, b ≠ T → (s.heap.update T (Obj.mapFields (·.setIfInBounds 3 Value.none))).get? b = s.heap.get? b := fun b nb => Heap.get?_update_other _ _ (Ne.symm nb)
  have nT : T ∉ frs (env :: outer) := fun hm => by
    obtain ⟨_, o, ho, hnf⟩ := hl.mem hm
    rw [hT] at ho
    cases ho
    exact hnf ts hdT
  have hl2 : (s.heap.update T (Obj.mapFields (·.setIfInBounds 3 Value.none))).FunFrames base (env :: outer) := hl.of_keeps fun b o hb hnf => ⟨o, (far b fun z => by
    rw [z, hT] at hb
    cases hb
    exact hnf ts hdT).trans hb, rfl⟩
  refine entry_laid (s := { s with heap := s.heap.update T (Obj.mapFields (·.setIfInBounds 3 Value.none)) }) hfr hl2 hf ((far ea (Ne.symm hTe)).trans he) hdn hd (Array.getElem?_eq_some_iff.mp h1).1 fun h' T' hT' hfly hflew => ?_
  refine k h' T' (by simpa using hT') hfly ⟨fun b o nb nf hb => hflew.keep b o (fun z => nb (by simp at z; simp [z])) nf ((far b fun z => nb (by simp [z])).trans hb), fun b o nb hb => hflew.slot b o (fun z => nb (by simp at z; simp [z])) ((far b fun z => nb (by simp [z])).trans hb)⟩
end
end L2

namespace L2
open PySem PySem.Spec PyProof.Rows

theorem ObjOk.there {P : Program} {w : World} {H : Hp} {h : Heap} {a : Addr} {o : HO} (x : ObjOk P w H h a o) : ∃ ob, h.get? a = some ob := by
  cases o with
  | lst xs => obtain ⟨_, _, _, _, e⟩ := x; exact ⟨_, e⟩
  | tup xs => obtain ⟨_, _, _, o, e, _⟩ := x; exact ⟨_, e⟩
  | dK kvs => obtain ⟨_, _, _, _, o, _, _, e, _⟩ := x; exact ⟨_, e⟩
  | dT kvs => obtain ⟨_, _, _, _, o, _, _, e, _⟩ := x; exact ⟨_, e⟩
  | set S n => obtain ⟨o, _, _, _, e, _⟩ := x; exact ⟨_, e⟩
  | ins C dx fs => obtain ⟨_, _, _, e, _⟩ := x; exact ⟨_, e⟩
  | own y => exact x
  | xd fs => obtain ⟨_, ⟨_, _, _, e, _⟩, _⟩ := x; exact ⟨_, e⟩
  | rng lo hi => obtain ⟨_, _, _, e⟩ := x; exact ⟨_, e⟩
  | frz ob u => obtain ⟨e, _⟩ := x; exact ⟨_, e⟩
  | tbl ps => exact ⟨_, x⟩
  | met f y => exact ⟨_, x⟩
  | ext φ => obtain ⟨_, e, _⟩ := x; exact e
/-- how an exception lies behind a call -/
def CXE (P : Program) (w : World) : CXT := fun outer H s E e s' => ∃ (ea T : Addr) (C : Value) (H' : Hp), e = .ref ea ∧ s'.os = s.os ∧ AllBare s'.gens ∧ Un (frs outer) [] H H' s.heap s'.heap ∧ HOk P w H' s'.heap ∧
  Fly s'.heap ea T C ∧ s.heap.get? ea = none ∧ s.heap.get? T = none ∧ H' ea = none ∧ H' T = none ∧ E C none H'
theorem cxe_none {P : Program} {w : World} {outer : List Env} {H : Hp} {s s' : Shared} {e : Value} (h : CXE P w outer H s E0 e s') : False := by
  obtain ⟨_, _, _, _, _, _, _, _, _, _, _, _, _, _, q⟩ := h
  exact q
theorem passN {P : Program} {w : World} {X : Cx} : Passes (CXE P w) X E0 := fun _ _ _ _ _ _ _ h => (cxe_none h).elim
section
variable {P : Program} {w : World} {K : PySem.W.Frag} {mg : Str → Option Value} {base : Heap} {N : List Str} {qual : Str} {scope : Scope} {f : Addr} {cd : Value} {A : Around} {outer : List Env} {s : Shared} {H : Hp} {E : XK}
abbrev bodyCx (P : Program) (w : World) (K : PySem.W.Frag) (mg : Str → Option Value) (base : Heap) (N : List Str) (qual : Str) (scope : Scope) (f : Addr) (cd : Value) (A : Around) (outer : List Env) (s : Shared) (H : Hp) (E : XK) : Cx := cxOf (CXE P w) P w K mg base N qual scope f cd A outer s H E
/-- the frames but one's own, in a body -/
theorem Flew.un {fs own : List Addr} {H0 H2 : Hp} {h0 h2 h3 : Heap} {L : Addr} {os : List Addr} (u : Un os [] H0 H2 h0 h2) (fl : Flew fs own h2 h3) (hfs : ∀ b ∈ fs, b = L ∨ b ∈ os) (hL : h0.objs.size ≤ L) (hown : ∀ b ∈ own, h0.get? b = none) : Un os [] H0 H2 h0 h3 := by
  have no : ∀ b o, h0.get? b = some o → b ∉ own := fun b o e z => by rw [hown b z] at e; cases e
  have nL : ∀ b o, h0.get? b = some o → b ≠ L := fun b o e => Nat.ne_of_lt (Nat.lt_of_lt_of_le (Heap.lt_size e) hL)
  refine ⟨fun b o e n hb hx => fl.keep b o (no b o e) (fun z => (hfs b z).elim (nL b o e) hb) (u.keep b o e n hb hx), fun b o e n hb hx => ?_, u.free, fun b o e hx => ?_, u.tups, u.frzs, u.tbls⟩
  · obtain ⟨sl, e1⟩ := u.slot b o e n hb hx
    obtain ⟨sl', e2⟩ := fl.slot b _ (no b o e) e1
    exact ⟨sl', e2⟩
  · obtain ⟨o', e1⟩ := u.there b o e hx
    obtain ⟨sl', e2⟩ := fl.slot b _ (no b o e) e1
    exact ⟨_, e2⟩
theorem Flew.hok {fs own : List Addr} {H2 : Hp} {h2 h3 : Heap} (x : HOk P w H2 h2) (fl : Flew fs own h2 h3) (hfs : ∀ b ∈ fs, H2 b = none) (hown : ∀ b ∈ own, H2 b = none) : HOk P w H2 h3 := fun b o e =>
  (x b o e).stay (fun c u hc q => fl.keep c u (fun z => by
      rcases hc with rfl | hc
      · rw [hown _ z] at e; cases e
      · rw [hown _ z] at hc; cases hc) (fun z => by
      rcases hc with rfl | hc
      · rw [hfs _ z] at e; cases e
      · rw [hfs _ z] at hc; cases hc) q) (fun _ q => q) fun _ _ q => q
theorem cxe_of {pins : List (Addr × Obj)} {σ : St} {H2 : Hp} {s2 : Shared} {h3 : Heap} {own : List Addr} {ea T3 : Addr} {C : Value} (I2 : Inv (bodyCx P w K mg base N qual scope f cd A outer s H E) pins σ H2 s2) (fly : Fly h3 ea T3 C)
    (fl : Flew (frs ((bodyCx P w K mg base N qual scope f cd A outer s H E).env :: outer)) own s2.heap h3) (hown : ∀ b ∈ own, s.heap.get? b = none ∧ H2 b = none) (hea : s.heap.get? ea = none ∧ H2 ea = none) (hT : s2.heap.objs.size ≤ T3) (q : E C none H2) :
    CXE P w outer H s E (.ref ea) { s2 with heap := h3 } := by
  have B : Un (frs outer) [] H H2 s.heap s2.heap := I2.base
  have hfs : ∀ b ∈ frs ((bodyCx P w K mg base N qual scope f cd A outer s H E).env :: outer), b = (bodyCx P w K mg base N qual scope f cd A outer s H E).env.locals ∨ b ∈ frs outer := fun b hb => List.mem_cons.mp (I2.stkSub b hb)
  refine ⟨ea, T3, C, H2, rfl, I2.os, I2.bare, fl.un B hfs (Nat.le_refl _) (fun b hb => (hown b hb).1), fl.hok I2.hok (fun b hb => I2.stkFree b hb) (fun b hb => (hown b hb).2), fly, hea.1, ?_, hea.2, I2.hok.fresh hT, q⟩
  exact Heap.get?_none_of_le (Nat.le_trans I2.sz hT)
/-- a callee's exception goes on -/
theorem passE : Passes (CXE P w) (bodyCx P w K mg base N qual scope f cd A outer s H E) E := by
  intro pins σ H1 s1 e s2 I hq
  obtain ⟨ea, T, C, H2, rfl, os, bare, un, hok, fly, n1, n2, f1, f2, q⟩ := hq
  have I2 : Inv (bodyCx P w K mg base N qual scope f cd A outer s H E) pins σ H2 s2 := I.call' os un hok bare (fun b z => absurd z (by simp))
  have old : ∀ b, s1.heap.get? b = none → s.heap.get? b = none := fun b e => by
    cases z : s.heap.get? b with
    | none => rfl
    | some o =>
      obtain ⟨o', e'⟩ := I.base.there b o z (by intro hz; cases hz)
      rw [e] at e'
      cases e'
  show wpAny (model P w) (bodyCx P w K mg base N qual scope f cd A outer s H E).A (leaving (bodyCx P w K mg base N qual scope f cd A outer s H E).env (.ref ea)) _ _ s2
  unfold leaving
  refine wpAny_bind (note_fly (base := base) I.ok.frames I2.stack rfl fly fun h3 T3 hT3 fly3 flew => ?_)
  refine cxe_of I2 fly3 flew (fun b hb => ?_) ⟨old ea n1, f1⟩ hT3 q
  simp only [List.mem_cons, List.not_mem_nil, or_false] at hb
  rcases hb with rfl | rfl
  · exact ⟨old _ n1, f1⟩
  · exact ⟨old _ n2, f2⟩
end

/-! ### raise C(..), C an own class below ValueError -/
abbrev mroV : List Value := [.type "ValueError", .type "Exception", .type "BaseException", .type "object"]
theorem ownCls_of {K : PySem.W.Frag} {h : Heap} {mg : Str → Option Value} {x : Str} {C : Addr} {bmB : List Value} {newId : String} (X : K.In h) (hm : mg x = some (.ref C)) (q : PySem.W.excIn K C bmB newId = true) : OwnCls x C bmB newId mg h := by
  refine ⟨hm, ?_⟩
  unfold PySem.W.excIn at q
  split at q
  · rename_i dd cdt sl ho
    split at q
    · rename_i C' bm k0 k1 k2 k3 n k5 hmr hs
      simp only [Bool.and_eq_true, beq_iff_eq, Bool.not_eq_true'] at q
      obtain ⟨⟨⟨⟨⟨q1, q2⟩, q3⟩, q4⟩, q5⟩, q6⟩ := q
      subst q1 q2
      obtain ⟨nm, bs, mro, ns, qn, hd, sn, sub, ab, col, del⟩ := cdt
      obtain ⟨l⟩ := sl
      dsimp only at hmr hs q3 q5 q6
      subst hmr hs q3
      exact ⟨bm, ns, nm, qn, bs, hd, sn, sub, ab, col, dd, k0, k1, k2, k3, k5, _, X _ _ ho, .of_isNs (PySem.W.isNs_of_in X q5), PySem.W.nsMap_none_of_in X q5 q6, PySem.W.tail_of_in X q4⟩
    · cases q
  · cases q
section
variable {P : Program} {w : World} {K : PySem.W.Frag} {mg : Str → Option Value} {base : Heap} {N : List Str} {qual : Str} {scope : Scope} {f : Addr} {cd : Value} {A : Around} {outer : List Env} {s : Shared} {H : Hp} {E : XK}
def tRaise (E : XK) (C : Addr) (ta : TA) : TS := fun _ σ H => ta σ H fun vs H1 => vs.length ≤ sizeLine ∧ E (.ref C) none H1
theorem ps_raise {x : Str} {np cpos pos : Pos} {C : Addr} {e : Expr} {es : List Expr} {ta : TA} (hm : mg x = some (.ref C)) (hq : PySem.W.excIn K C mroV "ValueError.__new__" = true) (ha : PA (bodyCx P w K mg base N qual scope f cd A outer s H E) (e :: es) ta)
    (hg : Gl (bodyCx P w K mg base N qual scope f cd A outer s H E) x := by rfl) (hdb : (x == ("__debug__" : Str)) = false := by decide)
    (he : starEach (e :: es) (bodyCx P w K mg base N qual scope f cd A outer s H E).env = (false, eval e (bodyCx P w K mg base N qual scope f cd A outer s H E).env) :: starEach es (bodyCx P w K mg base N qual scope f cd A outer s H E).env := by rfl)
    (hpl : (backTo cpos (starEach es (bodyCx P w K mg base N qual scope f cd A outer s H E).env)).any (·.1) = false := by rfl) :
    PS (bodyCx P w K mg base N qual scope f cd A outer s H E) (.Raise (some (.Call (.Name x np) (e :: es) [] cpos)) none pos) (tRaise E C ta) := by
  intro pins s1 σ H1 D I h
  have O := ownCls_of I.ok.mod.kin hm hq
  obtain ⟨tl, Nn, nm, q, bs, hdct, sn, sub, ab, col, dd, k0, k1, k2, k3, k5, mN, hC, hN, hni, TT'⟩ := O.obj
  refine wpAny_Raise_call_subT (C := C) (nm := nm) (q := q) (N := Nn) (bs := bs) (bm := tl) (hdct := hdct) (sn := sn) (sub := sub) (ab := ab) (col := col) (dd := dd) (k0 := k0) (k1 := k1) (k2 := k2) (k3 := k3) (k5 := k5)
    F.excBase_ValueError (mN := mN) (TT'.hasType F.excBase_ValueError.hasBase) (I.ok.hd rfl) ?_ hni ?_
  · rw [he]
    show (false || (backTo cpos (starEach es _)).any (·.1)) = false
    rw [hpl]
    rfl
  refine ld_glob I hg hm ⟨rfl, ?_⟩ hdb
  have hA := ha cpos pins s1 σ H1 _ I h
  rw [he] at hA ⊢
  refine Calls.evalArgs_plain (thn hA fun us s2 ⟨vs, H2, I2, r2, hl2, q2⟩ => ⟨rfl, by rw [← r2.length]; exact hl2, I2.bk _ _ hC, hN.keeps I2.bk, TT'.keeps I2.bk, fun h' ea hmade => ?_⟩)
  have I3 : Inv (bodyCx P w K mg base N qual scope f cd A outer s H E) pins σ H2 { s2 with heap := h' } := I2.kept (t' := s2.toks) hmade.keeps
  obtain ⟨t, ht, _, _⟩ := hmade.there
  have old : s.heap.get? ea = none := by
    cases z : s.heap.get? ea with
    | none => rfl
    | some o =>
      obtain ⟨o', e'⟩ := I2.base.there ea o z (by intro hz; cases hz)
      rw [hmade.new] at e'
      cases e'
  have fr : H2 ea = none := by
    cases z : H2 ea with
    | none => rfl
    | some o =>
      obtain ⟨oo, e'⟩ := (I2.hok ea o z).there
      rw [hmade.new] at e'
      cases e'
  show wpAny (model P w) (bodyCx P w K mg base N qual scope f cd A outer s H E).A (leaving (bodyCx P w K mg base N qual scope f cd A outer s H E).env (.ref ea)) _ _ { s2 with heap := h' }
  refine leave_new (s := { s2 with heap := h' }) (base := base) I.ok.frames I3.stack rfl ht rfl rfl rfl fun h3 T3 hT3 fly flew => ?_
  refine cxe_of I3 fly flew (fun b hb => ?_) ⟨old, fr⟩ hT3 q2
  simp only [List.mem_cons, List.not_mem_nil, or_false] at hb
  subst hb
  exact ⟨old, fr⟩
/-- a def that may raise -/
theorem Fun.okE {x qual : Str} {st : Stmt} {f : Addr} {fd : FuncData} {N ps : List Str} {k : Nat} {sp : Sp} (F : Fun K x qual st f fd) (S : FnScope N ps (defScope st)) (len : ∀ vs H Q E, sp vs H Q E → vs.length = ps.length)
    (hbody : ∀ (cdv : Value) (A : Around) (outer : List Env) (s : Shared) (H : Hp) (vs : List V) (Q : VK) (E : XK), Room k (A.deeper (envOfC qual (defScope st) s.heap.objs.size f cdv)) → sp vs H Q E →
      ∃ t, PSs (bodyCx P w K mg base N qual (defScope st) f cdv A outer s H E) (defBody st) t ∧ t { nx := fun _ H' => Q .non H', rt := Q } (start N vs) H) : FnOk P w K mg base (CXE P w) (k + 1) f fd ps sp := by
  obtain ⟨oc, od, kV, doc, pm, an, cdv, ct, osl, rfl, lk, hcd⟩ := F.ex
  exact fn_of lk hcd S len fun A outer s H vs Q E hr hsp => hbody cdv A outer s H vs Q E hr hsp
theorem Def.knownE {x : Str} {st : Stmt} {N ps : List Str} {k : Nat} {sp : Sp} (D : Def K mg x st) (S : FnScope N ps (defScope st))
    (hb : ∀ (kV doc pm : Value) (an : Option Addr) (cdv ct : Value) (us : List Value), us.length = ps.length → bindArgs (PySem.W.fnOf x x (defArgs st) (defBody st) (defScope st) .none kV doc pm an cdv ct) ⟨us, []⟩ = pure (ps.zip us))
    (len : ∀ vs H Q E, sp vs H Q E → vs.length = ps.length)
    (hbody : ∀ (f : Addr) (cdv : Value) (A : Around) (outer : List Env) (s : Shared) (H : Hp) (vs : List V) (Q : VK) (E : XK), Room k (A.deeper (envOfC x (defScope st) s.heap.objs.size f cdv)) → sp vs H Q E →
      ∃ t, PSs (bodyCx P w K mg base N x (defScope st) f cdv A outer s H E) (defBody st) t ∧ t { nx := fun _ H' => Q .non H', rt := Q } (start N vs) H) : Known P w K mg base (CXE P w) (k + 1) x ps sp := by
  obtain ⟨f, fd, F, hm⟩ := D.ex
  exact ⟨f, fd, F.okE S len fun cdv A outer s H vs Q E hr h => hbody f cdv A outer s H vs Q E hr h, hm, F.kp, F.binds hb⟩
end
end L2

namespace L2
open PySem PySem.Spec PyProof.Rows

/-! ### try .. except C as n -/
/-- a caught exception, of the class C -/
def excO (ea : Addr) (C : Value) : HO := .ext fun h => ∃ o, h.get? ea = some o ∧ o.cls = C ∧ o.dict = none ∧ PySem.W.notCls o = true
section
variable {X : Cx} {pins : List (Addr × Obj)} {σ : St} {H : Hp} {s : Shared}
/-- frames' slots and the exception's own objects have changed -/
theorem Inv.flew {own : List Addr} {h3 : Heap} {t' : Nat} (I : Inv X pins σ H s) (fl : Flew (frs X.stack) own s.heap h3)
    (hown : ∀ b ∈ own, X.s₀.heap.get? b = none ∧ H b = none ∧ b ≠ X.env.locals ∧ (∀ x c, X.env.cells.lookup x = some c → c ≠ b) ∧ ∀ p ∈ X.pn ++ pins, p.1 ≠ b) : Inv X pins σ H { s with heap := h3, toks := t' } := by
  have no : ∀ b o, X.s₀.heap.get? b = some o → b ∉ own := fun b o e z => by rw [(hown b z).1] at e; cases e
  have nL : ∀ b o, X.s₀.heap.get? b = some o → b ≠ X.env.locals := fun b o e => Nat.ne_of_lt (Nat.lt_of_lt_of_le (Heap.lt_size e) I.ok.above)
  have cellK : ∀ x c, X.env.cells.lookup x = some c → ∀ v, s.heap.IsCell c v → h3.IsCell c v := fun x c e v ⟨o, ho, hd⟩ => by
    obtain ⟨sl, q⟩ := fl.slot c o (fun z => (hown c z).2.2.2.1 x c e rfl) ho
    exact ⟨_, q, hd⟩
  refine ⟨I.ok, I.os, I.bare, ⟨fun b o e n hb hx => ?_, fun b o e n hb hx => ?_, I.base.free, fun b o e hx => ?_, I.base.tups, I.base.frzs, I.base.tbls⟩, ?_, fun x c e => ?_, I.free, I.freeC, fun p hp => ?_, fl.hok I.hok (fun b hb => I.stkFree b hb) (fun b hb => (hown b hb).2.1), I.len⟩
  · exact fl.keep b o (no b o e) (fun z => (List.mem_cons.mp (I.stkSub b z)).elim (nL b o e) hb) (I.base.keep b o e n hb hx)
  · obtain ⟨sl, e1⟩ := I.base.slot b o e n hb hx
    obtain ⟨sl', e2⟩ := fl.slot b _ (no b o e) e1
    exact ⟨sl', e2⟩
  · obtain ⟨o', e1⟩ := I.base.there b o e hx
    obtain ⟨sl', e2⟩ := fl.slot b _ (no b o e) e1
    exact ⟨_, e2⟩
  · obtain ⟨m, ⟨o, es, ep, ho, r⟩, hl⟩ := I.loc
    obtain ⟨sl, hL⟩ := fl.slot _ o (fun z => (hown _ z).2.2.1 rfl) ho
    refine ⟨m, ⟨_, es, ep, hL, r⟩, fun i x v e1 e2 e3 => ?_⟩
    obtain ⟨u, rv, l⟩ := hl i x v e1 e2 e3
    refine ⟨u, rv, ?_⟩
    rcases l with l | ⟨k, c, e, z⟩
    · exact .inl l
    · exact .inr ⟨k, c, e, cellK x c e _ z⟩
  · obtain ⟨v, z⟩ := I.cell x c e
    exact ⟨v, cellK x c e v z⟩
  · obtain ⟨e, n, ne, nf, d⟩ := I.pin p hp
    exact ⟨fl.keep _ _ (fun z => (hown _ z).2.2.2.2 p hp rfl) (fun z => (List.mem_cons.mp (I.stkSub _ z)).elim ne nf) e, n, ne, nf, d⟩
/-- an object that was not tracked is tracked -/
theorem Inv.adopt {a : Addr} {o : HO} (I : Inv X pins σ H s) (hn : H a = none) (h0 : X.s₀.heap.get? a = none) (hL : a ≠ X.env.locals) (hc : ∀ x c, X.env.cells.lookup x = some c → c ≠ a) (hp : ∀ p ∈ X.pn ++ pins, p.1 ≠ a)
    (new : ObjOk X.prog X.w (upd H a o) s.heap a o) : Inv X pins σ (upd H a o) s := by
  have ne : ∀ b u, H b = some u → b ≠ a := fun b u e => ne_of_none e hn
  refine ⟨I.ok, I.os, I.bare, ⟨I.base.keep, I.base.slot, fun b u e n hx => ?_, I.base.there, fun b xs e => ?_, fun b u xs e => ?_, fun b ps e => ?_⟩, I.loc, I.cell, ?_, fun x c e => ?_, fun p hq => ?_, fun b u e => ?_, I.len⟩
  · rw [upd_ne (fun z => by rw [z, h0] at e; cases e)]
    exact I.base.free b u e n hx
  · have q := I.base.tups b xs e
    rw [upd_ne (ne _ _ q)]
    exact q
  · have q := I.base.frzs b u xs e
    rw [upd_ne (ne _ _ q)]
    exact q
  · obtain ⟨more, q⟩ := I.base.tbls b ps e
    exact ⟨more, by rw [upd_ne (ne _ _ q)]; exact q⟩
  · rw [upd_ne (Ne.symm hL)]
    exact I.free
  · rw [upd_ne (hc x c e)]
    exact I.freeC x c e
  · obtain ⟨e, n, r⟩ := I.pin p hq
    exact ⟨e, by rw [upd_ne (hp p hq)]; exact n, r⟩
  · by_cases hb : b = a
    · subst hb
      rw [upd_same] at e
      cases e
      exact new
    · rw [upd_ne hb] at e
      exact (I.hok b u e).stay (fun _ _ _ q => q) (fun c q => by rw [upd_ne (ne _ _ q)]; exact q) fun c xs q => by rw [upd_ne (ne _ _ q)]; exact q
/-- a local name goes -/
theorem Inv.unname {j : Nat} {n : Str} {h' : Heap} {m : Str → Option Value} {v : Option Value} {t' : Nat} (I : Inv X pins σ H s) (hN : X.N.Nodup) (hj : X.N[j]? = some n) (hm : s.heap.Ns X.env.locals m)
    (hl : ∀ (i : Nat) (x : Str) (v : V), X.N[i]? = some x → σ[i]? = some (some v) → Vis X.env.scope x → ∃ u, RelV v u ∧ Look X.env s.heap m x u) (hn : h'.Ns X.env.locals (fun x => if x = n then v else m x)) (sb : Heap.SameBut X.env.locals s.heap h') :
    Inv X pins (σ.set j none) H { s with heap := h', toks := t' } := by
  have hjσ : j < σ.length := by rw [I.len]; exact (List.getElem?_eq_some_iff.mp hj).1
  have nL : ∀ b o, X.s₀.heap.get? b = some o → b ≠ X.env.locals := fun b o e => Nat.ne_of_lt (Nat.lt_of_lt_of_le (Heap.lt_size e) I.ok.above)
  refine ⟨I.ok, I.os, I.bare, ⟨fun b o e n hb hx => (sb.2 b (nL b o e)).trans (I.base.keep b o e n hb hx), fun b o e n hb hx => ?_, I.base.free, fun b o e hx => ?_, I.base.tups, I.base.frzs, I.base.tbls⟩, ⟨_, hn, fun i y w' e1 e2 e3 => ?_⟩, fun y c e => ?_, I.free, I.freeC, fun p hp => ?_, fun b ob e => ?_, by simpa using I.len⟩
  · obtain ⟨sl, e1⟩ := I.base.slot b o e n hb hx
    exact ⟨sl, (sb.2 b (nL b o e)).trans e1⟩
  · obtain ⟨o', e1⟩ := I.base.there b o e hx
    exact ⟨o', (sb.2 b (nL b o e)).trans e1⟩
  · by_cases hi : i = j
    · subst hi
      rw [List.getElem?_set_self hjσ] at e2
      cases e2
    · rw [List.getElem?_set_ne (Ne.symm hi)] at e2
      obtain ⟨u, r, q⟩ := hl i y w' e1 e2 e3
      refine ⟨u, r, ?_⟩
      rcases q with ⟨k, e⟩ | ⟨k, c, e, z⟩
      · refine .inl ⟨k, ?_⟩
        have : y ≠ n := fun e => hi (nodup_ix hN e1 (e ▸ hj))
        simp [this, e]
      · exact .inr ⟨k, c, e, z.sameBut sb (I.cne y c e)⟩
  · obtain ⟨v', z⟩ := I.cell y c e
    exact ⟨v', z.sameBut sb (I.cne y c e)⟩
  · obtain ⟨e, n, ne, nf, d⟩ := I.pin p hp
    exact ⟨(sb.2 p.1 ne).trans e, n, ne, nf, d⟩
  · obtain ⟨oL, _, _, hoL, _⟩ := id hm
    refine (I.hok b ob e).stay (fun c w' hc q => (sb.2 c ?_).trans q) (fun _ q => q) fun _ _ q => q
    rintro rfl
    rcases hc with rfl | hc
    · rw [I.free] at e; cases e
    · rw [I.free] at hc; cases hc
end
/-- within an except suite -/
abbrev Cx.inEx (X : Cx) (ea : Addr) : Cx := { X with A := X.A.mark (some (.ref ea)), calm := false, xe := fun _ _ => False }
abbrev Cx.pinned (X : Cx) (pn : List (Addr × Obj)) (E1 : Value → Shared → Prop) : Cx := { X with pn := pn, xe := E1 }
section
variable {X : Cx} {pins : List (Addr × Obj)} {σ : St} {H : Hp} {s : Shared}
theorem Inv.inEx (I : Inv X pins σ H s) (ea : Addr) : Inv (X.inEx ea) pins σ H s :=
  ⟨⟨I.ok.mod, I.ok.kind, I.ok.glob, I.ok.blt, I.ok.above, I.ok.inj, I.ok.has, I.ok.cab, fun z => Bool.noConfusion z, I.ok.frames, I.ok.stk, I.ok.exf, I.ok.bs, I.ok.bsz, I.ok.noex, I.ok.exfs, I.ok.funs, I.ok.frf⟩, I.os, I.bare, I.base, I.loc, I.cell, I.free, I.freeC, I.pin, I.hok, I.len⟩
theorem Inv.outEx {ea : Addr} (ok : X.Ok) (I : Inv (X.inEx ea) pins σ H s) : Inv X pins σ H s := ⟨ok, I.os, I.bare, I.base, I.loc, I.cell, I.free, I.freeC, I.pin, I.hok, I.len⟩
theorem Inv.pinnedIn (I : Inv X pins σ H s) (E1 : Value → Shared → Prop) : Inv (X.pinned (X.pn ++ pins) E1) [] σ H s :=
  ⟨⟨I.ok.mod, I.ok.kind, I.ok.glob, I.ok.blt, I.ok.above, I.ok.inj, I.ok.has, I.ok.cab, I.ok.hd, I.ok.frames, I.ok.stk, I.ok.exf, I.ok.bs, I.ok.bsz, I.ok.noex, I.ok.exfs, I.ok.funs, I.ok.frf⟩, I.os, I.bare, I.base, I.loc, I.cell, I.free, I.freeC,
    fun p hp => I.pin p (by simpa using hp), I.hok, I.len⟩
theorem Inv.pinnedOut {pins' : List (Addr × Obj)} {E1 : Value → Shared → Prop} (ok : X.Ok) (I : Inv (X.pinned (X.pn ++ pins) E1) pins' σ H s) : Inv X pins σ H s :=
  ⟨ok, I.os, I.bare, I.base, I.loc, I.cell, I.free, I.freeC, fun p hp => I.pin p (List.mem_append_left _ hp), I.hok, I.len⟩
end
def Ends.less (D : Ends) (j : Nat) : Ends where
  nx := fun σ H => D.nx (σ.set j none) H
  rt := D.rt
  bk := fun σ H => D.bk (σ.set j none) H
  ct := fun σ H => D.ct (σ.set j none) H
/-- what is wanted of an exception in the suite of a try -/
def eTry (K : PySem.W.Frag) (B : Addr) (m j : Nat) (th : TS) (D : Ends) : XK := fun C _ H' => PySem.W.exmOne K C (.ref B) = some true ∧ ∀ ea, H' ea = none → th (D.less j) ((List.replicate m none).set j (some (.ref ea))) (upd H' ea (excO ea C))
def tTry (K : PySem.W.Frag) (B : Addr) (m j : Nat) (tb : XK → TS) (th : TS) : TS := fun D σ H => tb (eTry K B m j th D) D σ H
theorem ps_try {X : Cx} {body suite : List Stmt} {b₀ : Stmt} {x n : Str} {np hpos pos : Pos} {B : Addr} {tb : XK → TS} {th : TS} {j : Nat} (hex : X.ex = []) (hst : X.stack = X.env :: X.outer) (hfr : X.env.frame = some X.env.locals) (hN : X.N.Nodup) (hj : X.N[j]? = some n)
    (hn : X.env.scope.names.lookup n = some .local) (hm : X.mg x = some (.ref B)) (hb : ∀ pn E' E1, Passes (CXE X.prog X.w) (X.pinned pn E1) E' → PSs (X.pinned pn E1) body (tb E')) (hh : ∀ ea, PSs (X.inEx ea) (b₀ :: suite) th)
    (hg : Gl X x := by rfl) (hdb : (x == ("__debug__" : Str)) = false := by decide) :
    PS X (.Try body [.ExceptHandler (some (.Name x np)) (some n) (b₀ :: suite) hpos] [] [] pos) (tTry X.K B X.N.length j tb th) := by
  intro pins s σ H D I h
  have pass : Passes (CXE X.prog X.w) (X.pinned (X.pn ++ pins) (fun e s1 => wpAny (model X.prog X.w) X.A (noteFrame e X.env) (fun _ s2 => wpAny (model X.prog X.w) X.A (setFlight e none) (fun _ s3 =>
      wpAny (model X.prog X.w) X.A (handleBy e X.env [.ExceptHandler (some (.Name x np)) (some n) (b₀ :: suite) hpos]) (SP X pins D) X.xe s3) X.xe s2) X.xe s1)) (eTry X.K B X.N.length j th D) := by
    intro pins' σ' H1 s1 e s2 I1 hq
    obtain ⟨ea, T, C, H2, rfl, os, bare, un, hok, fly, n1, n2, f1, f2, hx, q⟩ := hq
    have I1' : Inv X pins (List.replicate X.N.length none) H1 s1 := (I1.pinnedOut I.ok).weak (by rw [List.length_replicate, I1.len]) fun i v e => by
      rw [List.getElem?_replicate] at e
      split at e <;> cases e
    have I2 : Inv X pins (List.replicate X.N.length none) H2 s2 := I1'.call' os un hok bare (fun b z => absurd z (by simp))
    have own : ∀ b, s1.heap.get? b = none → H2 b = none → X.s₀.heap.get? b = none ∧ H2 b = none ∧ b ≠ X.env.locals ∧ (∀ x c, X.env.cells.lookup x = some c → c ≠ b) ∧ ∀ p ∈ X.pn ++ pins, p.1 ≠ b := fun b e hb => by
      refine ⟨?_, hb, fun z => ?_, fun y c hc z => ?_, fun p hp z => ?_⟩
      · cases z : X.s₀.heap.get? b with
        | none => rfl
        | some o =>
          obtain ⟨o', e'⟩ := I1'.base.there b o z (by rw [hex]; intro hz; cases hz)
          rw [e] at e'
          cases e'
      · obtain ⟨m, ⟨o, _, _, ho, _⟩, _⟩ := I1'.loc
        rw [← z, e] at ho
        cases ho
      · obtain ⟨v, o, ho, _⟩ := I1'.cell y c hc
        rw [z, e] at ho
        cases ho
      · have ho := (I1'.pin p hp).1
        rw [z, e] at ho
        cases ho
    have st2 : s2.heap.FunFrames X.base (X.env :: X.outer) := hst ▸ I2.stack
    have fr2 : X.A.frames = some (X.env :: X.outer) := hst ▸ I.ok.frames
    refine note_fly (base := X.base) fr2 st2 hfr fly fun h3 T3 hT3 fly3 flew => ?_
    have I3 : Inv X pins (List.replicate X.N.length none) H2 { s2 with heap := h3 } := I2.flew (t' := s2.toks) (hst ▸ flew) fun b hb => by
      simp only [List.mem_cons, List.not_mem_nil, or_false] at hb
      rcases hb with rfl | rfl
      · exact own _ n1 f1
      · exact own _ n2 f2
    obtain ⟨oe, vs, oT, ts, he, hcl, hdn, hd, h1, hTe, hT, hdT, h3'⟩ := fly3
    refine wpAny_handleBy_cons (codeAny_handlers_test ?_) (by intro z; cases z)
    refine ld_glob (X := X.inEx ea) (I3.inEx ea) hg hm ?_ hdb
    have LT : PySem.W.Looks (model X.prog X.w) h3 (typeOf (.ref ea)) C := hcl ▸ (PySem.W.Looks.ld he).andThen .now
    have LX := PySem.W.exm_one (M := model X.prog X.w) I3.kIn LT hx
    refine LX _ _ _ { s2 with heap := h3 } (fun _ _ z => z) ?_
    show codeAny _ _ _ _ _
    refine codeAny_handlers_suite_as ?_
    -- setFlight
    unfold setFlight
    refine wpAny_bind (wpAny_field (s := { s2 with heap := h3 }) he hd h1 ?_)
    rw [if_pos (show (Value.ref T3 != Value.none) = true from by simp)]
    refine wpAny_setField (s := { s2 with heap := h3 }) hT hdT (Array.getElem?_eq_some_iff.mp h3').1 ?_
    have far : ∀ b, b ≠ T3 → (h3.update T3 (Obj.mapFields (·.setIfInBounds 3 ((none : Option Addr).elim Value.none fun f => rawInt f)))).get? b = h3.get? b := fun b nb => Heap.get?_update_other _ _ (Ne.symm nb)
    have hfT : H2 T3 = none := I2.hok.fresh hT3
    have oT3 : T3 ≠ X.env.locals := Nat.ne_of_gt (Nat.lt_of_lt_of_le I2.lt hT3)
    have I4 : Inv X pins (List.replicate X.N.length none) H2 { s2 with heap := h3.update T3 (Obj.mapFields (·.setIfInBounds 3 ((none : Option Addr).elim Value.none fun f => rawInt f))) } :=
      I3.turned (t' := s2.toks) (fun b o nb e => (far b nb).trans e) hfT oT3 (.inr (Nat.le_trans I2.sz hT3)) (fun y c hc z => by
        obtain ⟨v, w'⟩ := I2.cell y c hc
        exact absurd w'.lt (by rw [z]; exact Nat.not_lt.mpr hT3)) (fun p hp z => absurd (Heap.lt_size (I2.pin p hp).1) (by rw [z]; exact Nat.not_lt.mpr hT3))
    obtain ⟨o0, o1, o2, o3, o4⟩ := own ea n1 f1
    have he4 := (far ea (Ne.symm hTe)).trans he
    have I5 : Inv X pins (List.replicate X.N.length none) (upd H2 ea (excO ea C)) _ := I4.adopt o1 o0 o2 o3 o4 ⟨⟨oe, he4, hcl, hdn, by unfold PySem.W.notCls; rw [hd]⟩, ⟨oe, he4⟩, fun a b ⟨o, e1, e2⟩ k => ⟨o, k o e1, e2⟩⟩
    refine store_ok (v := .ref ea) I5 hN hj (.inl hn) rfl (fun s6 I6 => ?_) (.inr hn)
    have run := hh ea pins s6 _ _ (D.less j) (I6.inEx ea) (q ea f1)
    refine wpAny_mono run (fun fl s7 q7 => ?_) fun _ _ z => z.elim
    have fin : ∀ {σ7 : St} {H7 : Hp} {R : Unit → Shared → Prop}, Inv (X.inEx ea) pins σ7 H7 s7 → (∀ s8, Inv X pins (σ7.set j none) H7 s8 → R () s8) → wpAny (model X.prog X.w) X.A (do bindName X.env n .none; unbindBehindTheSuite X.env n hpos) R X.xe s7 := fun {σ7 H7 R} I7 k => by
      have I7' := I7.outEx I.ok
      obtain ⟨m, hm7, hl7⟩ := I7'.loc
      refine wpAny_nameGoes_keeps (show X.env.scope.names.lookup n = some .local from hn) hm7 (by rw [I.ok.kind]; rfl) fun h8 v hn8 sb8 => ?_
      exact k _ (I7'.unname hN hj hm7 hl7 hn8 sb8)
    cases fl with
    | next => obtain ⟨σ7, H7, I7, n7⟩ := q7; exact fin I7 fun s8 I8 => ⟨_, H7, I8, n7⟩
    | brk => obtain ⟨σ7, H7, I7, n7⟩ := q7; exact fin I7 fun s8 I8 => ⟨_, H7, I8, n7⟩
    | cont => obtain ⟨σ7, H7, I7, n7⟩ := q7; exact fin I7 fun s8 I8 => ⟨_, H7, I8, n7⟩
    | ret u => obtain ⟨v7, σ7, H7, I7, r7, n7⟩ := q7; exact fin I7 fun s8 I8 => ⟨v7, _, H7, I8, r7, n7⟩
  have run := hb (X.pn ++ pins) (eTry X.K B X.N.length j th D) _ pass [] s σ H D (I.pinnedIn _) h
  refine wpAny_Try_except (wpAny_mono run (fun fl s1 q1 => ?_) fun e s1 q1 => q1)
  cases fl with
  | next => obtain ⟨σ1, H1, I1, n1⟩ := q1; exact wpAny_execs_nil ⟨σ1, H1, I1.pinnedOut I.ok, n1⟩
  | brk => obtain ⟨σ1, H1, I1, n1⟩ := q1; exact ⟨σ1, H1, I1.pinnedOut I.ok, n1⟩
  | cont => obtain ⟨σ1, H1, I1, n1⟩ := q1; exact ⟨σ1, H1, I1.pinnedOut I.ok, n1⟩
  | ret u => obtain ⟨v1, σ1, H1, I1, r1, n1⟩ := q1; exact ⟨v1, σ1, H1, I1.pinnedOut I.ok, r1, n1⟩
/-! ### isinstance of a caught exception -/
structure ExcK (K : PySem.W.Frag) (C : Addr) : Prop where
  hga : PySem.W.findIn K (.ref C) "__getattribute__" = some (some (.builtin "BaseException.__getattribute__"))
  hk : PySem.W.findIn K (.ref C) "__getattr__" = some none
  hc : ∃ cd, PySem.W.clsIn K C = some cd
  ha : PySem.W.findIn K (.ref C) "__class__" = some (some (.builtin "object.__class__"))
  hn : PySem.W.specialIn K (.builtin "object.__class__") "__get__" = some (some (.builtin "getset_descriptor.__get__"))
  ht : PySem.W.takesIn K (.builtin "object.__class__") = some true
  hm : PySem.W.mroIn K C (.type "object") = some true
  hb : PySem.W.mroIn K C (.type "BaseException") = some true
end L2

namespace L2
open PySem PySem.Spec PyProof.Rows
/-! ### a slice of a text -/
theorem sl_str {X : Cx} : SlR X (fun x lo hi H Q => ∃ z, x = .str z ∧ z.length ≤ sizeLine ∧ Q (.str (Txt.slice z lo hi)) H) := by
  intro pins s σ H x v vl vu lo hi sl Q I rx hs pl pu h
  obtain ⟨z, rfl, hz, q⟩ := h
  obtain ⟨t, rfl⟩ := rx
  have part : ∀ {u : Value} {o : Option Int}, IsPart u o → ∃ l : Option (Int × Tok), partValue l = u ∧ l.map (·.1) = o := fun p => by
    cases p with
    | none => exact ⟨none, rfl, rfl⟩
    | int i t => exact ⟨some (i, t), rfl, rfl⟩
  obtain ⟨l, rfl, rfl⟩ := part pl
  obtain ⟨u, rfl, rfl⟩ := part pu
  exact ⟨"str", _, F.slot_str_getitem.lookup, typeIs_str _ _ _, wpAny_getItem_str_slice (l := l) (u := u) (st := none) hs rfl
    (post_val_or_str ⟨Nat.le_trans (Txt.slice_le z _ _) hz, fun t' k => ⟨.str _, H, I.tok k, ⟨_, rfl⟩, q⟩⟩)⟩
end L2

namespace L2
open PySem PySem.Spec PyProof.Rows
/-! ### list(range(n)), list(d) -/
theorem vals_of : ∀ {xs : List V} {us : List Value}, us.length = xs.length → (∀ (j : Nat) (x : V) (u : Value), xs[j]? = some x → us[j]? = some u → RelV x u) → Vals xs us
  | [], [], _, _ => .nil
  | x :: xs, u :: us, hl, h => .cons (h 0 x u rfl rfl) (vals_of (by simpa using hl) fun j y v e1 e2 => h (j + 1) y v (by simpa using e1) (by simpa using e2))
  | [], _ :: _, hl, _ => by simp at hl
  | _ :: _, [], hl, _ => by simp at hl
def rangeV (lo : Int) (n : Nat) : List V := (List.range n).map fun (i : Nat) => V.int (lo + (i : Int))
theorem rangeV_len (lo : Int) (n : Nat) : (rangeV lo n).length = n := by unfold rangeV; rw [List.length_map, List.length_range]
section
variable {X : Cx}
theorem call_rng1 : CallR X (.type "range") (fun xs H Q => ∃ j : Int, xs = [.int j] ∧ ∀ p, H p = none → Q (.ref p) (upd H p (.rng 0 j))) := by
  intro pins s σ H xs us Q I r h
  obtain ⟨j, rfl, q⟩ := h
  obtain ⟨u, rfl, t, rfl⟩ := vals1 r
  refine call_range_1 ⟨.ref s.heap.objs.size, _, I.laid (a := s.heap.objs.size) (o := .rng 0 j) (fun _ _ q => Heap.get?_push_of_some _ q) (Nat.le_refl _) ?_, rfl, q _ (I.hok.fresh (Nat.le_refl _))⟩
  exact ⟨_, _, _, Heap.get?_push_size _ rfl⟩
theorem call_list_rng (hc : X.calm = true) : CallR X (.type "list") (fun xs H Q => ∃ p lo hi, xs = [.ref p] ∧ H p = some (.rng lo hi) ∧ -(2 ^ 62) ≤ lo ∧ lo < 2 ^ 62 ∧ -(2 ^ 62) ≤ hi ∧ hi < 2 ^ 62 ∧ (hi - lo).toNat ≤ 2 ^ 24 ∧ ∀ l, H l = none → Q (.ref l) (upd H l (.lst (rangeV lo (hi - lo).toNat)))) := by
  intro pins s σ H xs us Q I r h
  obtain ⟨p, lo, hi, rfl, hp, h1, h2, h3, h4, h5, q⟩ := h
  obtain ⟨u, rfl, rx⟩ := vals1 r
  cases rx
  obtain ⟨t, u, v, e⟩ := I.hok p _ hp
  have hn : Builtin.Range.rangeSize lo hi 1 = ((hi - lo).toNat : Int) := by rw [rangeSize_one]; split <;> omega
  refine call_list_range (I.ok.hd hc) (show IsRange s.heap p lo hi 1 t u v from e) (small_one h1 h2 h3 h4) hn h5 fun h' tk acc c kp hD hI => ?_
  refine ⟨.ref s.heap.objs.size, _, I.laid (t' := tk) (o := .lst (rangeV lo (hi - lo).toNat)) kp (Nat.le_refl _) ?_, rfl, q _ (I.hok.fresh (Nat.le_refl _))⟩
  refine ⟨by rw [rangeV_len, sizeLine_eq]; exact h5, acc.toList, c, vals_of (by rw [rangeV_len, Array.length_toList]; exact hI.1) fun j x u e1 e2 => ?_, by rw [Array.toArray_toList]; exact hD⟩
  rw [Array.getElem?_toList] at e2
  obtain ⟨t', rfl⟩ := hI.2 j u e2
  unfold rangeV at e1
  rw [List.getElem?_map] at e1
  cases z : (List.range (hi - lo).toNat)[j]? with
  | none => rw [z] at e1; cases e1
  | some i =>
    rw [z] at e1
    have : i = j := by
      have hl : j < (List.range (hi - lo).toNat).length := (List.getElem?_eq_some_iff.mp z).1
      rw [List.getElem?_eq_getElem hl, List.getElem_range] at z
      exact (Option.some.inj z).symm
    subst this
    cases e1
    exact ⟨t', by rw [Int.mul_one]⟩
theorem kV_of {P : Program} {w : World} {k : Key} {u : Value} (h : (mixKind P w).is k u = true) : RelV (kV k) u := by
  rcases keyIs_shape h with ⟨i, t, rfl, rfl⟩ | ⟨x, t, rfl, rfl⟩
  · exact ⟨t, rfl⟩
  · exact ⟨t, rfl⟩
theorem KV.fst {κ : Type} : ∀ {kvs : List (κ × V)} {vs : List (κ × Value)}, KV kvs vs → kvs.map (·.1) = vs.map (·.1)
  | _, _, .nil => rfl
  | _, _, .cons r t => by rw [List.map_cons, List.map_cons, r.1, KV.fst t]
theorem call_list_dK (hc : X.calm = true) : CallR X (.type "list") (fun xs H Q => ∃ a kvs, xs = [.ref a] ∧ H a = some (.dK kvs) ∧ ∀ l, H l = none → Q (.ref l) (upd H l (.lst (kvs.map fun p => kV p.1)))) := by
  intro pins s σ H xs us Q I r h
  obtain ⟨a, kvs, rfl, ha, q⟩ := h
  obtain ⟨u, rfl, rx⟩ := vals1 r
  cases rx
  obtain ⟨z, hs, vs, rel, dd⟩ := dk_of I.hok ha
  obtain ⟨ep, hat⟩ := dd.dictAt
  have hl : kvs.length = vs.length := Paired.length rel
  refine PySem.W.kdl_call (PySem.W.kdl_dict (knd := mixKind X.prog X.w) (kvs := vs) (ep := ep) hs) (I.ok.hd hc) hat (by rw [← hl]; exact z) fun h' tk acc c kp hD hI => ?_
  refine ⟨.ref s.heap.objs.size, _, I.laid (t' := tk) (o := .lst (kvs.map fun p => kV p.1)) kp (Nat.le_refl _) ?_, rfl, q _ (I.hok.fresh (Nat.le_refl _))⟩
  refine ⟨by rw [List.length_map]; exact z, acc.toList, c, vals_of (by rw [List.length_map, Array.length_toList, hl]; exact hI.1) fun j x u e1 e2 => ?_, by rw [Array.toArray_toList]; exact hD⟩
  rw [Array.getElem?_toList] at e2
  obtain ⟨k, y, e3, e4⟩ := hI.2 j u e2
  have e5 : (kvs.map (·.1))[j]? = some k := by rw [KV.fst rel, List.getElem?_map, e3]; rfl
  have e6 : (kvs.map fun p => kV p.1)[j]? = some (kV k) := by
    have : (kvs.map fun p => kV p.1) = (kvs.map (·.1)).map kV := by rw [List.map_map]; rfl
    rw [this, List.getElem?_map, e5]
    rfl
  rw [e6] at e1
  cases e1
  exact kV_of e4
end
/-- the j-th statement of a class's body -/
def inCls (s : Stmt) (j : Nat) : Stmt := match s with
  | .ClassDef _ _ _ body _ _ _ _ _ _ _ => body.getD j (.Pass ⟨0, 0, 0, 0⟩)
  | _ => .Pass ⟨0, 0, 0, 0⟩
theorem b_range : bootBuiltins "range" = some (.type "range") := by kernel_rfl
/-- [k for k in range(n)] -/
theorem comp_ids {cp : List (Nat × Str)} {σ : St} {n : Nat} {D : Addr} {Q : VK} {H1 : Hp} (hn : n ≤ 1000) (q : Q (.ref D) (upd H1 D (.lst (rangeV 0 n)))) : tLoop cp tYes (tVar 0) σ (Itr 0 n) D Q H1 := by
  refine comp_range (fun i ys H => ys = rangeV 0 i ∧ H = upd H1 D (.lst ys)) ⟨rfl, rfl⟩ ?_ ?_
  · rintro i ys H hi hD ⟨rfl, rfl⟩
    refine ⟨_, rfl, hD, ?_, ?_, ?_⟩
    · rw [rangeV_len]
      exact small1000 (by omega)
    · unfold rangeV
      rw [List.range_succ, List.map_append]
      rfl
    · rw [upd_upd]
  · rintro ys H hD ⟨rfl, rfl⟩
    exact q
/-! ### methods and classes, by what they promise -/
structure KnownM (P : Program) (w : World) (K : PySem.W.Frag) (mg : Str → Option Value) (base : Heap) (CX : CXT) (k : Nat) (C : Addr) (m : Str) (ps : List Str) (sp : Sp) : Prop where
  ex : ∃ f fd, FnOk P w K mg base CX k f fd ps sp ∧ Meth K C m f ∧ Binds K fd ps []
structure KnownI (P : Program) (w : World) (K : PySem.W.Frag) (mg : Str → Option Value) (base : Heap) (CX : CXT) (k : Nat) (C : Addr) (ps : List Str) (sp : Sp) : Prop where
  ex : ∃ f fd, FnOk P w K mg base CX k f fd ps sp ∧ Mk K C f ∧ Binds K fd ps []
structure Mth (K : PySem.W.Frag) (C : Addr) (m qual : Str) (st : Stmt) : Prop where
  ex : ∃ f fd, Fun K m qual st f fd ∧ PySem.W.findIn K (.ref C) m = some (some (.ref f)) ∧ PySem.W.isFn K (.ref f) = true
section
variable {P : Program} {w : World} {K : PySem.W.Frag} {mg : Str → Option Value} {base : Heap} {C : Addr}
theorem mth_mk {m qual : Str} {st : Stmt} {f : Addr} {oc : Value} {od an : Option Addr} {osl : Array (Option Value)} {kV doc pm cdv ct : Value} (a : PySem.W.findIn K (.ref C) m = some (some (.ref f))) (i : PySem.W.isFn K (.ref f) = true)
    (l : K.lookup f = some ⟨oc, od, .func (PySem.W.fnOf m qual (defArgs st) (defBody st) (defScope st) .none kV doc pm an cdv ct), osl⟩) (c : PySem.W.codeIn K cdv qual = true) (k : PySem.W.keepIn K (.ref f) = true) : Mth K C m qual st :=
  ⟨f, _, fun_mk l c k, a, i⟩
theorem Mth.known {m qual : Str} {st : Stmt} {N ps : List Str} {k : Nat} {sp : Sp} (D : Mth K C m qual st) (S : FnScope N ps (defScope st))
    (hb : ∀ (kV doc pm : Value) (an : Option Addr) (cdv ct : Value) (us : List Value), us.length = ps.length → bindArgs (PySem.W.fnOf m qual (defArgs st) (defBody st) (defScope st) .none kV doc pm an cdv ct) ⟨us, []⟩ = pure (ps.zip us))
    (len : ∀ vs H Q E, sp vs H Q E → vs.length = ps.length)
    (hbody : ∀ (f : Addr) (cdv : Value) (A : Around) (outer : List Env) (s : Shared) (H : Hp) (vs : List V) (Q : VK) (E : XK), Room k (A.deeper (envOfC qual (defScope st) s.heap.objs.size f cdv)) → sp vs H Q E →
      ∃ t, PSs (cxOf CX0 P w K mg base N qual (defScope st) f cdv A outer s H E).nox (defBody st) t ∧ t { nx := fun _ H' => Q .non H', rt := Q } (start N vs) H) : KnownM P w K mg base CX0 (k + 1) C m ps sp := by
  obtain ⟨f, fd, F, ha, hi⟩ := D.ex
  exact ⟨f, fd, F.ok S len fun cdv A outer s H vs Q E hr h => hbody f cdv A outer s H vs Q E hr h, ⟨ha, hi, F.kp⟩, F.binds hb⟩
theorem Mth.knownE {m qual : Str} {st : Stmt} {N ps : List Str} {k : Nat} {sp : Sp} (D : Mth K C m qual st) (S : FnScope N ps (defScope st))
    (hb : ∀ (kV doc pm : Value) (an : Option Addr) (cdv ct : Value) (us : List Value), us.length = ps.length → bindArgs (PySem.W.fnOf m qual (defArgs st) (defBody st) (defScope st) .none kV doc pm an cdv ct) ⟨us, []⟩ = pure (ps.zip us))
    (len : ∀ vs H Q E, sp vs H Q E → vs.length = ps.length)
    (hbody : ∀ (f : Addr) (cdv : Value) (A : Around) (outer : List Env) (s : Shared) (H : Hp) (vs : List V) (Q : VK) (E : XK), Room k (A.deeper (envOfC qual (defScope st) s.heap.objs.size f cdv)) → sp vs H Q E →
      ∃ t, PSs (bodyCx P w K mg base N qual (defScope st) f cdv A outer s H E) (defBody st) t ∧ t { nx := fun _ H' => Q .non H', rt := Q } (start N vs) H) : KnownM P w K mg base (CXE P w) (k + 1) C m ps sp := by
  obtain ⟨f, fd, F, ha, hi⟩ := D.ex
  exact ⟨f, fd, F.okE S len fun cdv A outer s H vs Q E hr h => hbody f cdv A outer s H vs Q E hr h, ⟨ha, hi, F.kp⟩, F.binds hb⟩
theorem KnownM.init {CX : CXT} {k : Nat} {ps : List Str} {sp : Sp} (G : KnownM P w K mg base CX k C "__init__" ps sp) (mk : PySem.W.makesIn K C = true) (kc : PySem.W.keepIn K (.ref C) = true) : KnownI P w K mg base CX k C ps sp := by
  obtain ⟨f, fd, F, hm, hb⟩ := G.ex
  exact ⟨f, fd, F, ⟨mk, hm.at_, hm.fn, kc⟩, hb⟩
end
section
variable {X : Cx} {CX : CXT} {k : Nat} {C : Addr} {ps : List Str} {sp : Sp} {E : XK} {x m : Str} {p pos apos : Pos} {e o : Expr} {es : List Expr} {t : TA} {ta : TE}
theorem pe_methN {pl : Sem Bool} (he : PE X o ta) (c : Cls X.K C) (G : KnownM X.prog X.w X.K X.mg X.base CX k C m ps sp) (hr : Room k X.A) (hx : Passes CX X E) (ha : PA X (e :: es) t)
    (hst : starEach (e :: es) X.env = (false, eval e X.env) :: starEach es X.env := by rfl) (hpl : (backTo pos (starEach es X.env)).any (·.1) = false := by rfl)
    (ht : eval (.Call (.Attribute o m apos) (e :: es) [] pos) X.env = (do
      let ov ← eval o X.env
      standAt apos.atName
      let (f, first) ← holding [ov] (getMethod ov m pl)
      callWith pos f first (backTo pos (starEach (e :: es) X.env)) (backToKw pos (keywordEach [] X.env))) := by rfl) :
    PE X (.Call (.Attribute o m apos) (e :: es) [] pos) (tMeth C m sp [] E ta t) := by
  obtain ⟨f, fd, F, hm, hb⟩ := G.ex
  exact pe_meth (pl := pl) he c hm F hr hb .nil hx ha hst hpl ht
theorem pe_methN0 {pl : Sem Bool} (he : PE X o ta) (c : Cls X.K C) (G : KnownM X.prog X.w X.K X.mg X.base CX k C m ps sp) (hr : Room k X.A) (hx : Passes CX X E)
    (ht : eval (.Call (.Attribute o m apos) [] [] pos) X.env = (do
      let ov ← eval o X.env
      standAt apos.atName
      let (f, first) ← holding [ov] (getMethod ov m pl)
      callWith pos f first (backTo pos (starEach [] X.env)) (backToKw pos (keywordEach [] X.env))) := by rfl) :
    PE X (.Call (.Attribute o m apos) [] [] pos) (tMeth C m sp [] E ta tNil) := by
  obtain ⟨f, fd, F, hm, hb⟩ := G.ex
  exact pe_meth0 (pl := pl) he c hm F hr hb .nil hx ht
theorem pe_makeN (G : KnownI X.prog X.w X.K X.mg X.base CX k C ps sp) (hr : Room (k + 1) X.A) (hm : X.mg x = some (.ref C)) (hx : Passes CX X E)
    (ha : PA X (e :: es) t) (hg : Gl X x := by rfl) (hdb : (x == ("__debug__" : Str)) = false := by decide) (he : starEach (e :: es) X.env = (false, eval e X.env) :: starEach es X.env := by rfl) (hpl : (backTo pos (starEach es X.env)).any (·.1) = false := by rfl) :
    PE X (.Call (.Name x p) (e :: es) [] pos) (tMake C sp [] E t) := by
  obtain ⟨f, fd, F, M, hb⟩ := G.ex
  exact pe_make M F hr hg hm hb .nil hx ha hdb he hpl
end
end L2

namespace L2
open PySem PySem.Spec PyProof.Rows
/-! ### what a comprehension catches -/
def clFold (cells : List (Str × Addr)) : List (Str × NameKind) → List (Str × Addr) → List (Str × Addr)
  | [], acc => acc
  | (n, k) :: r, acc => clFold cells r (if k == .free then (n, (cells.lookup n).getD 0) :: acc else acc)
theorem closureFor_fold {env : Env} : ∀ {names : List (Str × NameKind)} {acc : List (Str × Addr)}, (∀ y ∈ names, y.2 = .free → ∃ c, env.cells.lookup y.1 = some c) →
    (forIn names acc fun (x : Str × NameKind) (cs : List (Str × Addr)) => (do
      let (name, kind) := x
      if kind == NameKind.free then (do let a ← cellOf env name; pure (ForInStep.yield ((name, a) :: cs))) else pure (ForInStep.yield cs) : Sem (ForInStep (List (Str × Addr))))) = pure (clFold env.cells names acc)
  | [], acc, _ => rfl
  | (n, k) :: r, acc, h => by
    rw [List.forIn_cons]
    by_cases hk : (k == NameKind.free) = true
    · obtain ⟨c, hc⟩ := h (n, k) List.mem_cons_self (by simpa using hk)
      have e : cellOf env n = pure c := by unfold cellOf; rw [show env.cells.lookup n = some c from hc]
      have ih := closureFor_fold (env := env) (names := r) (acc := (n, c) :: acc) fun y hy => h y (List.mem_cons_of_mem _ hy)
      show (do let r ← (if k == NameKind.free then (do let a ← cellOf env n; pure (ForInStep.yield ((n, a) :: acc))) else pure (ForInStep.yield acc) : Sem (ForInStep (List (Str × Addr)))); _) = _
      rw [if_pos hk, e, pure_bind, pure_bind]
      refine Eq.trans ih ?_
      show _ = pure (clFold env.cells r (if (k == NameKind.free) = true then (n, (env.cells.lookup n).getD 0) :: acc else acc))
      rw [if_pos hk, show env.cells.lookup n = some c from hc]
      rfl
    · have ih := closureFor_fold (env := env) (names := r) (acc := acc) fun y hy => h y (List.mem_cons_of_mem _ hy)
      show (do let r ← (if k == NameKind.free then (do let a ← cellOf env n; pure (ForInStep.yield ((n, a) :: acc))) else pure (ForInStep.yield acc) : Sem (ForInStep (List (Str × Addr)))); _) = _
      rw [if_neg hk, pure_bind]
      refine Eq.trans ih ?_
      show _ = pure (clFold env.cells r (if (k == NameKind.free) = true then (n, (env.cells.lookup n).getD 0) :: acc else acc))
      rw [if_neg hk]
theorem clFold_sub {cells : List (Str × Addr)} : ∀ {names : List (Str × NameKind)} {acc : List (Str × Addr)}, (∀ y ∈ names, y.2 = .free → ∃ c, cells.lookup y.1 = some c) → (∀ x c, acc.lookup x = some c → cells.lookup x = some c) →
    ∀ x c, (clFold cells names acc).lookup x = some c → cells.lookup x = some c
  | [], _, _, h => h
  | (n, k) :: r, acc, hf, h => by
    refine clFold_sub (names := r) (fun y hy => hf y (List.mem_cons_of_mem _ hy)) ?_
    intro x c e
    by_cases hk : (k == NameKind.free) = true
    · obtain ⟨c', hc⟩ := hf (n, k) List.mem_cons_self (by simpa using hk)
      have hc' : cells.lookup n = some c' := hc
      rw [if_pos hk, hc', List.lookup_cons] at e
      by_cases hx : (x == n) = true
      · rw [hx] at e
        cases e
        have : x = n := by simpa using hx
        rw [this]
        exact hc'
      · rw [show (x == n) = false by simpa using hx] at e
        exact h x c e
    · rw [if_neg hk] at e
      exact h x c e
theorem clFold_keep {cells : List (Str × Addr)} : ∀ {names : List (Str × NameKind)} {acc : List (Str × Addr)} {x : Str}, (∃ c, acc.lookup x = some c) → ∃ c, (clFold cells names acc).lookup x = some c
  | [], _, _, h => h
  | (n, k) :: r, acc, x, ⟨c, h⟩ => by
    refine clFold_keep (names := r) ?_
    by_cases hk : (k == NameKind.free) = true
    · rw [if_pos hk, List.lookup_cons]
      cases hx : x == n with
      | true => exact ⟨_, rfl⟩
      | false => exact ⟨c, h⟩
    · rw [if_neg hk]
      exact ⟨c, h⟩
theorem clFold_has {cells : List (Str × Addr)} : ∀ {names : List (Str × NameKind)} {acc : List (Str × Addr)} {x : Str}, (x, NameKind.free) ∈ names → ∃ c, (clFold cells names acc).lookup x = some c
  | (n, k) :: r, acc, x, h => by
    rcases List.mem_cons.mp h with e | h
    · cases e
      refine clFold_keep (names := r) ⟨(cells.lookup n).getD 0, ?_⟩
      rw [if_pos (by rfl), List.lookup_cons, beq_self_eq_true]
    · exact clFold_has (names := r) h
theorem relabel_kind {env : Env} : ∀ {names : List (Str × NameKind)} {x : Str}, names.lookup x = some .free →
    (names.map fun (n, k) => if (k == NameKind.free && env.scope.kind == .function && env.kindOf n == some .cell) then (n, NameKind.cell) else (n, k)).lookup x = some .cell ∨
    (names.map fun (n, k) => if (k == NameKind.free && env.scope.kind == .function && env.kindOf n == some .cell) then (n, NameKind.cell) else (n, k)).lookup x = some .free
  | [], _, h => by simp at h
  | (n, k) :: r, x, h => by
    have ih := @relabel_kind env r x
    rw [List.lookup_cons] at h
    rw [List.map_cons]
    cases hx : x == n with
    | true =>
      rw [hx] at h
      cases h
      by_cases hc : (NameKind.free == NameKind.free && env.scope.kind == .function && env.kindOf n == some .cell) = true
      · simp only [hc, if_true, List.lookup_cons, hx]
        exact .inl trivial
      · simp only [hc, if_false, List.lookup_cons, hx, Bool.false_eq_true]
        exact .inr trivial
    | false =>
      rw [hx] at h
      by_cases hc : (k == NameKind.free && env.scope.kind == .function && env.kindOf n == some .cell) = true
      · simp only [hc, if_true, List.lookup_cons, hx]
        exact ih h
      · simp only [hc, if_false, List.lookup_cons, hx, Bool.false_eq_true]
        exact ih h
theorem caps_of {X : Cx} {scope : Scope} {cp : List (Nat × Str)} {sc : Scope} {N : List Str} (hcell : ∀ x, X.env.scope.names.lookup x = some .cell → ∃ c, X.env.cells.lookup x = some c) (hs : X.env.scope = sc := by rfl) (hN : X.N = N := by rfl)
    (kind : scope.kind = .function := by rfl) (plain : ∀ y ∈ scope.names, y.2 ≠ .cell := by decide) (names : ∀ y ∈ scope.names, y.2 = .local → scope.names.lookup y.1 = some .local := by decide +kernel)
    (free : ∀ y ∈ scope.names, y.2 = .free → sc.names.lookup y.1 = some .cell := by decide +kernel) (at' : ∀ p ∈ cp, N[p.1]? = some p.2 ∧ sc.names.lookup p.2 = some .cell ∧ scope.names.lookup p.2 = some .free := by decide +kernel) :
    Caps X scope (clFold X.env.cells scope.names []) cp := by
  subst hs hN
  have hf : ∀ y ∈ scope.names, y.2 = .free → ∃ c, X.env.cells.lookup y.1 = some c := fun y hy e => hcell _ (free y hy e)
  refine ⟨kind, plain, names, ?_, clFold_sub hf (fun x c e => by cases e), fun x h => ?_, fun p hp => ?_⟩
  · show closureFor scope X.env = _
    simp only [closureFor]
    have := closureFor_fold (env := X.env) (acc := []) hf
    exact (congrArg (fun z => z >>= fun r => pure r) this).trans (pure_bind _ _)
  · have hm : ∀ k, (relabel scope X.env).names.lookup x = some k → (k = .cell ∨ k = .free) → (x, NameKind.free) ∈ scope.names := fun k e hk => by
      have m := PySem.mem_of_lookup e
      unfold relabel at m
      obtain ⟨⟨n, k'⟩, hy, e'⟩ := List.mem_map.mp m
      have nc := plain _ hy
      by_cases hc : (k' == NameKind.free && X.env.scope.kind == .function && X.env.kindOf n == some .cell) = true
      · simp only [hc, if_true] at e'
        have e1 : n = x := congrArg (·.1) e'
        have : k' = .free := by simp only [Bool.and_eq_true, beq_iff_eq] at hc; exact hc.1.1
        subst e1 this
        exact hy
      · simp only [hc, if_false, Bool.false_eq_true] at e'
        have e1 : n = x := congrArg (·.1) e'
        have e2 : k' = k := congrArg (·.2) e'
        subst e1 e2
        rcases hk with z | z
        · exact absurd z nc
        · subst z; exact hy
    rcases h with h | h
    · exact clFold_has (hm _ h (.inl rfl))
    · exact clFold_has (hm _ h (.inr rfl))
  · obtain ⟨h1, h2, h3⟩ := at' p hp
    exact ⟨h1, .inl h2, relabel_kind h3⟩
end L2

namespace L2
open PySem PySem.Spec PyProof.Rows PySem.Builtin PySem.Builtin.Str
/-! ### what a slice of a text is -/
theorem slice_mem {x : Str} {lo hi : Option Int} {c : Nat} (h : c ∈ (Txt.slice x lo hi).cps.toList) : c ∈ x.cps.toList := by
  unfold Txt.slice at h
  split at h
  · exact h
  · simp only [List.mem_filterMap] at h
    obtain ⟨i, _, e⟩ := h
    rw [← Array.getElem?_toList] at e
    exact List.mem_of_getElem? e
theorem slice_len {x : Str} {a b : Nat} (hab : a ≤ b) (hb : b ≤ x.length) : (Txt.slice x (some (a : Int)) (some (b : Int))).length = b - a := by
  unfold Txt.slice
  split
  · rename_i h
    rw [StrLaws.strSliceIndices_plain hab hb] at h
    simp at h
    exact h.symm
  · show (List.toArray _).size = _
    rw [List.size_toArray, StrLaws.sliced_plain x hab hb, List.length_take, List.length_drop]
    have : x.cps.toList.length = x.length := by rw [Array.length_toList]; rfl
    omega
theorem slice_0 {x : Str} {hi : Option Int} : Txt.slice x none hi = Txt.slice x (some (0 : Nat)) hi := by
  have e : strSliceIndices none hi 1 x.length = strSliceIndices (some ((0 : Nat) : Int)) hi 1 x.length := by
    have e1 : max (0 : Int) (min 0 (x.length : Int)) = 0 := by omega
    simp [strSliceIndices, e1]
  unfold Txt.slice
  rw [e]
end L2

namespace L2
open PySem PySem.Spec PyProof.Rows
/-! ### for over a dict: it stands still while it is walked -/
/-- d was no tuple, nothing known and no table at the entry -/
def NoF (X : Cx) (d : Addr) : Prop := (∀ xs, X.H₀ d ≠ some (.tup xs)) ∧ (∀ o u, X.H₀ d ≠ some (.frz o u)) ∧ ∀ ps, X.H₀ d ≠ some (.tbl ps)
section
variable {X : Cx} {pins : List (Addr × Obj)} {σ : St} {H : Hp} {s : Shared} {d : Addr}
/-- the same thing, under another word -/
theorem Inv.retag {u u' : HO} (I : Inv X pins σ H s) (e : H d = some u) (nf : NoF X d) (no : ∀ x, u ≠ .own x) (nt : ∀ xs, u ≠ .tup xs) (new : ObjOk X.prog X.w (upd H d u') s.heap d u') : Inv X pins σ (upd H d u') s := by
  have hn : ∀ b, H b = none → upd H d u' b = none := fun b n => by rw [upd_ne (ne_of_none e n).symm]; exact n
  refine ⟨I.ok, I.os, I.bare, ⟨I.base.keep, I.base.slot, fun b o q n hx => hn b (I.base.free b o q n hx), I.base.there, fun b xs q => ?_, fun b o v q => ?_, fun b ps q => ?_⟩, I.loc, I.cell, hn _ I.free, fun x c q => hn _ (I.freeC x c q), fun p hp => ?_, fun b v q => ?_, I.len⟩
  · have : b ≠ d := fun z => nf.1 xs (z ▸ q)
    rw [upd_ne this]
    exact I.base.tups b xs q
  · have : b ≠ d := fun z => nf.2.1 o v (z ▸ q)
    rw [upd_ne this]
    exact I.base.frzs b o v q
  · have : b ≠ d := fun z => nf.2.2 ps (z ▸ q)
    rw [upd_ne this]
    exact I.base.tbls b ps q
  · obtain ⟨a1, a2, a3, a4, a5⟩ := I.pin p hp
    exact ⟨a1, hn _ a2, a3, a4, a5⟩
  · by_cases hb : b = d
    · subst hb
      rw [upd_same] at q
      cases q
      exact new
    · rw [upd_ne hb] at q
      refine (I.hok b v q).stay (fun _ _ _ r => r) (fun c r => ?_) fun c xs r => ?_
      · rw [upd_ne (ne_of r e (fun z => no _ z.symm))]
        exact r
      · rw [upd_ne (ne_of r e (fun z => nt _ z.symm))]
        exact r
theorem Inv.nof {u : HO} (I : Inv X pins σ H s) (e : H d = some u) (h1 : ∀ xs, u ≠ .tup xs) (h2 : ∀ o v, u ≠ .frz o v) (h3 : ∀ ps, u ≠ .tbl ps) : NoF X d := by
  refine ⟨fun xs q => ?_, fun o v q => ?_, fun ps q => ?_⟩
  · have := (I.base.tups d xs q).symm.trans e
    exact h1 xs (Option.some.inj this).symm
  · have := (I.base.frzs d o v q).symm.trans e
    exact h2 o v (Option.some.inj this).symm
  · obtain ⟨m, q'⟩ := I.base.tbls d ps q
    have := q'.symm.trans e
    exact h3 _ (Option.some.inj this).symm
theorem Inv.freeze {kvs : List (Key × V)} (I : Inv X pins σ H s) (e : H d = some (.dK kvs)) : NoF X d ∧ ∃ o, s.heap.get? d = some o ∧ Inv X pins σ (upd H d (.frz o (.dK kvs))) s := by
  have nf : NoF X d := I.nof e (by intro _ z; cases z) (by intro _ _ z; cases z) (by intro _ z; cases z)
  have ok : ObjOk X.prog X.w H s.heap d (.dK kvs) := I.hok d _ e
  obtain ⟨z, hs, vs, rel, o, es, ep, ho, r⟩ := id ok
  exact ⟨nf, o, ho, I.retag e nf (by intro _ z; cases z) (by intro _ z; cases z) ⟨ho, z, hs, vs, rel, o, es, ep, ho, r⟩⟩
theorem Inv.thaw {o : Obj} {kvs : List (Key × V)} (I : Inv X pins σ H s) (nf : NoF X d) (e : H d = some (.frz o (.dK kvs))) : Inv X pins σ (upd H d (.dK kvs)) s := by
  obtain ⟨_, q⟩ := (show ObjOk X.prog X.w H s.heap d (.frz o (.dK kvs)) from I.hok d _ e)
  exact I.retag e nf (by intro _ z; cases z) (by intro _ z; cases z) q
end
/-- the keys of the dict at a, one by one -/
def Itd (a : Addr) (o : Obj) (kvs : List (Key × V)) : It :=
  ⟨fun i H => H a = some (.frz o (.dK kvs)) ∧ i < kvs.length, fun i H x H' => H' = H ∧ ∃ p, kvs[i]? = some p ∧ x = kV p.1, fun i H => H a = some (.frz o (.dK kvs)) ∧ kvs.length ≤ i⟩
theorem frz_at {P : Program} {w : World} {H : Hp} {h : Heap} {a : Addr} {o : Obj} {kvs : List (Key × V)} {es : Array DictEntry} {ep : Nat} (ok : HOk P w H h) (e : H a = some (.frz o (.dK kvs))) (ho : o.data = .dict es ep) :
    (a == sysModules) = false ∧ ∃ vs, KV kvs vs ∧ h.DictAt (mixKind P w) a vs ep := by
  obtain ⟨e1, z, hs, vs, rel, o', es', ep', ho', r1, r2, r3⟩ := (show ObjOk P w H h a (.frz o (.dK kvs)) from ok a _ e)
  rw [e1] at ho'
  cases ho'
  have := r2.symm.trans ho
  cases this
  exact ⟨hs, vs, rel, o, _, e1, r1, r2, r3⟩
theorem turn_dict {P : Program} {w : World} {K : PySem.W.Frag} {tg : Expr} (a it : Addr) (o : Obj) (kvs : List (Key × V)) {es : Array DictEntry} {ep : Nat} (hod : o.data = .dict es ep) : Turn P w K tg (Itd a o kvs) [it] it (fun i h => h.IsKeyIter it a i kvs.length ep) where
  mem := by simp
  obj := fun i h st b hb => by
    have e : b = it := by simpa using hb
    subst e
    obtain ⟨o, e, c, d⟩ := st
    exact ⟨o, e, fun v z => by rw [d] at z; cases z⟩
  keep := fun i h h' st k => st.at fun o e => k it (by simp) o e
  item := by
    intro X hP hw hK hc i pins s σ H E I hf st hg
    subst hP hw hK
    obtain ⟨ha, hi⟩ := hg
    obtain ⟨_, vs, rel, dat⟩ := frz_at I.hok ha hod
    have hl : kvs.length = vs.length := Paired.length rel
    obtain ⟨⟨k, x⟩, hx⟩ : ∃ p, vs[i]? = some p := ⟨vs[i]'(by omega), by simp⟩
    obtain ⟨f0, f1, f2, f3, f4, f5⟩ := hf it (by simp)
    rw [hl] at st
    refine wpAny_pyNext_dict_item st dat hx fun u h' hu st' sb => ?_
    have I1 : Inv X pins σ H { s with heap := h' } := I.turned (t' := s.toks) (fun b o hb e => sb.extBut b o hb e) f0 f1 f3 f4 f5
    obtain ⟨o1, e1, c1, d1⟩ := id st'
    refine ⟨u, rfl, go_of (s := { s with heap := h' }) e1 c1 d1 (by decide) ⟨kV k, H, I1, kV_of hu, ⟨rfl, ?_⟩, by rw [hl]; exact st', fun b hb => (hf b hb).1⟩⟩
    refine ⟨kvs[i], by simp [hi], ?_⟩
    have e5 : (kvs.map (·.1))[i]? = some k := by rw [KV.fst rel, List.getElem?_map, hx]; rfl
    rw [List.getElem?_map, List.getElem?_eq_getElem hi] at e5
    rw [← Option.some.inj e5]
  done := by
    intro X hP hw hK hc i pins s σ H E I hf st hg
    subst hP hw hK
    obtain ⟨ha, hi⟩ := hg
    obtain ⟨_, vs, rel, dat⟩ := frz_at I.hok ha hod
    have hl : kvs.length = vs.length := Paired.length rel
    obtain ⟨f0, f1, f2, f3, f4, f5⟩ := hf it (by simp)
    rw [hl] at st
    exact wpAny_pyNext_dict_end (I.ok.hd hc) st dat (by simp; omega) fun h' eb => ⟨rfl, I.turned (t' := s.toks) (fun b o hb e => eb b o hb e) f0 f1 f3 f4 f5⟩
  self := fun _ _ _ _ _ st h => wpAny_pyIter_keyiter st h
section
variable {X : Cx} {tg : Expr}
def iDict (X : Cx) (tl : TE) : TI := fun σ H R => tl σ H fun x H1 => ∃ a kvs, x = .ref a ∧ H1 a = some (.dK kvs) ∧ (NoF X a → ∀ o, R (Itd a o kvs) (upd H1 a (.frz o (.dK kvs))))
theorem pi_dict {l : Expr} {tl : TE} (hl : PE X l tl) : PI X tg l (iDict X tl) := by
  intro pins s σ H R I h
  refine thn (hl pins s σ H _ I h) fun v s1 ⟨x, H1, I1, r1, q1⟩ => ?_
  obtain ⟨a, kvs, e, ha, q⟩ := q1
  subst e
  cases r1
  obtain ⟨nf, o, ho, I2⟩ := I1.freeze ha
  obtain ⟨z, hs, vs, rel, o', es, ep, ho', r1, r2, r3⟩ := (show ObjOk X.prog X.w H1 s1.heap a (.dK kvs) from I1.hok a _ ha)
  rw [ho] at ho'
  cases ho'
  have hl : kvs.length = vs.length := Paired.length rel
  have dat : s1.heap.DictAt (mixKind X.prog X.w) a vs ep := ⟨o, es, ho, r1, r2, r3⟩
  refine wpAny_pyIter_dict hs dat ?_
  refine ⟨s1.heap.objs.size, [s1.heap.objs.size], _, _, _, rfl, I2.kept (t' := s1.toks) fun b o e => Heap.get?_push_of_some _ e, turn_dict a _ o kvs r2, ⟨_, Heap.get?_push_size _ rfl, rfl, by rw [hl]; rfl⟩, fun b hb => ?_, q nf o⟩
  have e : b = s1.heap.objs.size := by simpa using hb
  subst e
  exact I2.fpOk (Nat.le_refl _) (I2.hok.fresh (Nat.le_refl _))
/-- behind the loop the dict is as any other -/
def thawE (X : Cx) (D : Ends) : Ends where
  nx := fun σ H => ∃ a o kvs, NoF X a ∧ H a = some (.frz o (.dK kvs)) ∧ D.nx σ (upd H a (.dK kvs))
  rt := fun v H => ∃ a o kvs, NoF X a ∧ H a = some (.frz o (.dK kvs)) ∧ D.rt v (upd H a (.dK kvs))
  bk := D.bk
  ct := D.ct
def tForD (X : Cx) (tl : TE) (g : TG) (tb : TS) : TS := fun D σ H => tFor (iDict X tl) g tb (thawE X D) σ H
theorem ps_forD {iter : Expr} {body : List Stmt} {tl : TE} {g : TG} {tb : TS} {pos : Pos} (hp : PassesOwn (model X.prog X.w) X.A X.env X.xe) (hc : X.calm = true) (hl : PE X iter tl) (hg : PG X tg g) (hb : PSs X body tb)
    (hs : ∀ x, foldedSetIterable iter X.env x = pure x := by intro _; rfl) : PS X (.For tg iter body [] pos) (tForD X tl g tb) := by
  intro pins s σ H D I h
  refine thn (ps_for hp hc (pi_dict hl) hg hb hs pins s σ H (thawE X D) I h) fun f s' q => ?_
  cases f with
  | next => obtain ⟨σ', H', I', a, o, kvs, nf, e, q⟩ := q; exact ⟨σ', _, I'.thaw nf e, q⟩
  | cont => exact q
  | brk => exact q
  | ret v => obtain ⟨x, σ', H', I', r, a, o, kvs, nf, e, q⟩ := q; exact ⟨x, σ', _, I'.thaw nf e, r, q⟩
end
theorem for_dict {a : Addr} {ob : Obj} {kvs : List (Key × V)} {g : TG} {tb : TS} {D : Ends} {σ : St} {H : Hp} (Pv : Nat → St → Hp → Prop) (h0 : Pv 0 σ H) (hl : ∀ i σ H, i ≤ kvs.length → Pv i σ H → H a = some (.frz ob (.dK kvs)))
    (hs : ∀ i p σ H, kvs[i]? = some p → Pv i σ H → g (kV p.1) σ H fun σ2 H2 => tb { D with nx := Pv (i + 1), ct := Pv (i + 1), bk := D.nx } σ2 H2) (hd : ∀ σ H, Pv kvs.length σ H → D.nx σ H) :
    ∃ W : Nat → Nat → St → Hp → Prop, (∃ m, W 0 m σ H) ∧ ∀ i m σ H, W i m σ H →
      ((Itd a ob kvs).stop i H ∧ D.nx σ H) ∨ ((Itd a ob kvs).go i H ∧ ∃ N : St → Hp → Prop, (∀ σ' H', N σ' H' → ∃ m', m' < m ∧ W (i + 1) m' σ' H') ∧ ∀ x H', (Itd a ob kvs).yld i H x H' → g x σ H' fun σ2 H2 => tb { D with nx := N, ct := N, bk := D.nx } σ2 H2) := by
  refine ⟨fun i m σ H => m = kvs.length - i ∧ i ≤ kvs.length ∧ Pv i σ H, ⟨kvs.length, by simp, Nat.zero_le _, h0⟩, ?_⟩
  rintro i m σ H ⟨rfl, hi, p⟩
  have q := hl i σ H hi p
  by_cases hlt : i < kvs.length
  · refine .inr ⟨⟨q, hlt⟩, Pv (i + 1), fun σ' H' p' => ⟨kvs.length - (i + 1), by omega, rfl, hlt, p'⟩, fun x H' y => ?_⟩
    obtain ⟨e, pr, hp, ex⟩ := y
    subst e ex
    exact hs i pr σ _ hp p
  · have e : i = kvs.length := by omega
    subst e
    exact .inl ⟨⟨q, Nat.le_refl _⟩, hd σ H p⟩
theorem Same.thaw {H H2 : Hp} {d : Addr} {o : Obj} {u : HO} (e : H d = some u) (s : Same (upd H d (.frz o u)) H2) : Same H (upd H2 d u) := fun b v q => by
  by_cases hb : b = d
  · subst hb
    rw [upd_same]
    exact e.symm.trans q
  · rw [upd_ne hb]
    exact s b v (by rw [upd_ne hb]; exact q)
end L2

namespace L2
open PySem PySem.Spec PyProof.Rows
/-! ### list.insert -/
def insV {α : Type} (xs : List α) (k : Nat) (y : α) : List α := xs.take k ++ y :: xs.drop k
theorem insV_len {α : Type} (xs : List α) (k : Nat) (y : α) : (insV xs k y).length = xs.length + 1 := by
  unfold insV
  rw [List.length_append, List.length_cons, List.length_take, List.length_drop]
  omega
def rInsert : V → List V → Hp → VK → Prop := fun x vs H Q => ∃ l xs i y, x = .ref l ∧ vs = [.int i, y] ∧ H l = some (.lst xs) ∧ 0 ≤ i ∧ i ≤ xs.length ∧ xs.length < sizeLine ∧ Q .non (upd H l (.lst (insV xs i.toNat y)))
section
variable {X : Cx}
theorem mt_insert : MtM X "list.insert" rInsert := by
  intro pins s σ H x vs v us Q I rx rv h
  obtain ⟨l, xs, i, y, rfl, rfl, hH, h0, h1, hz, q⟩ := h
  cases rx
  cases rv with
  | @cons _ u1 _ us' r1 rr =>
    cases rr with
    | @cons _ u2 _ us'' r2 rr =>
      cases rr
      obtain ⟨t, rfl⟩ := r1
      obtain ⟨z, its, n, r, hl, e⟩ := I.lstM hH
      have h63 := line63
      have hfit : Builtin.List.listFitsIndex i = true := fitsIndex_both (by omega) (by omega)
      refine call_meets F.slot_list_insert ⟨_, e, rfl⟩ F.entry_list_insert (F.args_list_insert_3 _ _ _) (PySem.AutoSeq1.list_insert_list_int_val_1 l its.toArray n i t u2 (by rw [hfit]; decide) (by rw [List.size_toArray]; omega)) ⟨e, ?_⟩
      refine ⟨.non, _, I.lset (its' := its.take i.toNat ++ u2 :: its.drop i.toNat) hH e ?_ ((r.take i.toNat).append (.cons r2 (r.drop i.toNat))) ?_, rfl, q⟩
      · show (its.toArray.extract 0 (if i < 0 then (i + (its.toArray.size : Int)).toNat else min i.toNat its.toArray.size)).push u2 ++ its.toArray.extract (if i < 0 then (i + (its.toArray.size : Int)).toNat else min i.toNat its.toArray.size) = _
        rw [PySem.W.kl_ins_eq, List.size_toArray, if_neg (by omega), Nat.min_eq_left (by omega)]
      · have := insV_len xs i.toNat y
        unfold insV at this
        omega
/-! ### dict(d) -/
theorem call_dict_of : CallR X (.type "dict") (fun xs H Q => ∃ a kvs, xs = [.ref a] ∧ Rd H a (.dK kvs) ∧ ∀ d, H d = none → Q (.ref d) (upd H d (.dK kvs))) := by
  intro pins s σ H xs us Q I r h
  obtain ⟨a, kvs, rfl, ha, q⟩ := h
  obtain ⟨u, rfl, rx⟩ := vals1 r
  cases rx
  obtain ⟨z, hs, vs, rel, dd⟩ := dk_rd I.hok ha
  have hl : kvs.length = vs.length := Paired.length rel
  refine kt_call_dict hs dd (by rw [← hl]; exact z) fun h' hm sb => ?_
  refine ⟨.ref s.heap.objs.size, _, I.laid (t' := s.toks) (o := .dK kvs) (fun b o e => sb.extBut b o (Nat.ne_of_lt (Heap.lt_size e)) (Heap.get?_push_of_some _ e)) (Nat.le_refl _) ?_, rfl, q _ (I.hok.fresh (Nat.le_refl _))⟩
  refine ⟨z, ?_, vs, rel, hm⟩
  exact beq_eq_false_iff_ne.mpr (Nat.ne_of_gt I.big)
/-! ### d != e, where both hold the same things -/
end
/-! ### for k, v in d.items() -/
def Iti (a : Addr) (o : Obj) (kvs : List (Key × V)) : It :=
  ⟨fun i H => H a = some (.frz o (.dK kvs)) ∧ i < kvs.length, fun i H x H' => ∃ p q, kvs[i]? = some q ∧ H p = none ∧ x = .ref p ∧ H' = upd H p (.tup [kV q.1, q.2]), fun i H => H a = some (.frz o (.dK kvs)) ∧ kvs.length ≤ i⟩
theorem KV.at {kvs : List (Key × V)} {vs : List (Key × Value)} : KV kvs vs → ∀ (i : Nat) (k : Key) (v : Value), vs[i]? = some (k, v) → ∃ x, kvs[i]? = some (k, x) ∧ RelV x v := by
  intro r
  induction r with
  | nil => intro i k v h; simp at h
  | @cons p q ps qs hq t ih =>
    intro i k v h
    cases i with
    | zero =>
      simp at h
      subst h
      exact ⟨p.2, by simp; exact Prod.ext hq.1 rfl, hq.2⟩
    | succ i => simpa using ih i k v (by simpa using h)
theorem turn_items {P : Program} {w : World} {K : PySem.W.Frag} {elts : List Expr} {x1 : Nat} {tpos : Pos} (a it : Addr) (o : Obj) (kvs : List (Key × V)) {es : Array DictEntry} {ep : Nat} (hod : o.data = .dict es ep) : Turn P w K (.Tuple elts x1 tpos) (Iti a o kvs) [it] it (fun i h => ∃ ok ov, IsItemIter h it a i kvs.length ep ok ov) where
  mem := by simp
  obj := fun i h st b hb => by
    have e : b = it := by simpa using hb
    subst e
    obtain ⟨ok, ov, e⟩ := st
    exact ⟨_, e, fun v z => by
      have z' : Data.fields _ = Data.cell v := z
      cases z'⟩
  keep := fun i h h' st k => by
    obtain ⟨ok, ov, e⟩ := st
    exact ⟨ok, ov, k it (by simp) _ e⟩
  item := by
    intro X hP hw hK hc i pins s σ H E I hf st hg
    subst hP hw hK
    obtain ⟨ha, hi⟩ := hg
    obtain ⟨ok, ov, st⟩ := st
    obtain ⟨_, vs, rel, dat⟩ := frz_at I.hok ha hod
    have hl : kvs.length = vs.length := Paired.length rel
    obtain ⟨⟨k, x⟩, hx⟩ : ∃ p, vs[i]? = some p := ⟨vs[i]'(by omega), by simp⟩
    obtain ⟨f0, f1, f2, f3, f4, f5⟩ := hf it (by simp)
    rw [hl] at st
    obtain ⟨y, hy, ry⟩ := KV.at rel i k x hx
    have hpn : H s.heap.objs.size = none := I.hok.fresh (Nat.le_refl _)
    have hit : it ≠ s.heap.objs.size := Nat.ne_of_lt (Heap.lt_size st)
    refine wpAny_pyNext_items_item st dat hx fun u h' hu st' htup hsz kk => ?_
    have I1 : Inv X pins σ (upd H s.heap.objs.size (.tup [kV k, y])) { s with heap := s.heap.push { cls := .type "tuple", data := .seq #[u, x] } } := by
      refine I.laid (t' := s.toks) (o := .tup [kV k, y]) (fun b ob q => Heap.get?_push_of_some _ q) (Nat.le_refl _) ?_
      refine ⟨by show 2 ≤ sizeLine; exact sl, [u, x], .cons (kV_of hu) (.cons ry .nil), _, Heap.get?_push_size _ rfl, rfl, 0, rfl⟩
    have g0 : upd H s.heap.objs.size (.tup [kV k, y]) it = none := by rw [upd_ne hit]; exact f0
    have I2 : Inv X pins σ (upd H s.heap.objs.size (.tup [kV k, y])) { s with heap := h' } := by
      have kp : ∀ b ob, b ≠ it → (s.heap.push { cls := .type "tuple", data := .seq #[u, x] }).get? b = some ob → h'.get? b = some ob := fun b ob hb e => by
        rcases Heap.get?_push_cases e with ⟨rfl, rfl⟩ | e
        · exact htup
        · exact kk b ob hb e
      have I2 := Inv.turned (s := { s with heap := s.heap.push { cls := .type "tuple", data := .seq #[u, x] } }) (h' := h') (t' := s.toks) (it := it) I1 kp g0 f1 f3 f4 f5
      exact I2
    refine ⟨_, rfl, wpAny_letOwnedTupleGo_items (s := { s with heap := h' }) st' fun h'' st'' sb => ?_⟩
    have I3 : Inv X pins σ (upd H s.heap.objs.size (.tup [kV k, y])) { s with heap := h'' } := by
      have I3 := Inv.turned (s := { s with heap := h' }) (h' := h'') (t' := s.toks) (it := it) I2 (fun b ob hb e => sb.extBut b ob hb e) g0 f1 f3 f4 f5
      exact I3
    refine ⟨.ref s.heap.objs.size, _, I3, rfl, ⟨s.heap.objs.size, (k, y), hy, hpn, rfl, rfl⟩, ⟨_, _, by rw [hl]; exact st''⟩, fun b hb => ?_⟩
    have e : b = it := by simpa using hb
    subst e
    exact g0
  done := by
    intro X hP hw hK hc i pins s σ H E I hf st hg
    subst hP hw hK
    obtain ⟨ha, hi⟩ := hg
    obtain ⟨ok, ov, st⟩ := st
    obtain ⟨_, vs, rel, dat⟩ := frz_at I.hok ha hod
    have hl : kvs.length = vs.length := Paired.length rel
    obtain ⟨f0, f1, f2, f3, f4, f5⟩ := hf it (by simp)
    rw [hl] at st
    exact wpAny_pyNext_items_end (I.ok.hd hc) st dat (by simp; omega) fun h' eb => ⟨rfl, I.turned (t' := s.toks) (fun b o hb e => eb b o hb e) f0 f1 f3 f4 f5⟩
  self := fun A i s Q E st h => by
    obtain ⟨ok, ov, st⟩ := st
    exact PySem.W.kcp_self st h
section
variable {X : Cx} {elts : List Expr} {x1 : Nat} {tpos apos pos : Pos}
def iItems (X : Cx) (tl : TE) : TI := fun σ H R => tl σ H fun x H1 => ∃ a kvs, x = .ref a ∧ H1 a = some (.dK kvs) ∧ (NoF X a → ∀ o, R (Iti a o kvs) (upd H1 a (.frz o (.dK kvs))))
theorem pi_items {l : Expr} {tl : TE} (hl : PE X l tl) (hbase : attributeBase l "items" X.env (eval l X.env) = eval l X.env := by rfl) (hline : (apos.endLine == pos.line) = true := by rfl) :
    PI X (.Tuple elts x1 tpos) (.Call (.Attribute l "items" apos) [] [] pos) (iItems X tl) := by
  intro pins s σ H R I h
  refine wpAny_Call_method0_late hbase hline (thn (hl pins s σ H _ I h) fun v s1 ⟨x, H1, I1, r1, q1⟩ => ?_)
  obtain ⟨a, kvs, e, ha, q⟩ := q1
  subst e
  cases r1
  obtain ⟨t1, t2, _⟩ := isD_at I1 (.inl ⟨kvs, .inl ha⟩)
  obtain ⟨nf, o, ho, I2⟩ := I1.freeze ha
  obtain ⟨z, hs, vs, rel, o', es, ep, ho', r1, r2, r3⟩ := (show ObjOk X.prog X.w H1 s1.heap a (.dK kvs) from I1.hok a _ ha)
  rw [ho] at ho'
  cases ho'
  have hl : kvs.length = vs.length := Paired.length rel
  have dat : s1.heap.DictAt (mixKind X.prog X.w) a vs ep := ⟨o, es, ho, r1, r2, r3⟩
  refine ⟨"dict", _, PySem.F.plainAttrs_dict, PySem.F.slot_dict_items, PySem.F.type_dict_items, t1, t2, Calls.callWith_builtin rfl (PySem.evalArgs_none ?_)⟩
  refine call_meetsIn PySem.F.slot_dict_items dat.dictOf.typeIs PySem.F.entry_dict_items (PySem.F.args_dict_items_1 _) (meets_dict_items (mixKind X.prog X.w) a hs) ⟨⟨vs, dat.dictOf⟩, ?_⟩
  refine wpAny_pyIter_items ⟨_, Heap.get?_push_size _ rfl, rfl, rfl⟩ (dat.push _) ?_
  have I3 : Inv X pins σ (upd H1 a (.frz o (.dK kvs))) { s1 with heap := s1.heap.push { cls := .type "dict_items", data := .fields #[.ref a] } } := I2.kept (t' := s1.toks) fun b o e => Heap.get?_push_of_some _ e
  refine ⟨_, [_], _, _, _, rfl, I3.kept (t' := s1.toks) fun b o e => Heap.get?_push_of_some _ e, turn_items a _ o kvs r2, ⟨.none, .none, ?_⟩, fun b hb => ?_, q nf o⟩
  · rw [hl]
    exact Heap.get?_push_size _ rfl
  · have e : b = (s1.heap.push { cls := .type "dict_items", data := .fields #[.ref a] }).objs.size := by simpa using hb
    subst e
    exact I3.fpOk (Nat.le_refl _) (I3.hok.fresh (Nat.le_refl _))
def tForI (X : Cx) (tl : TE) (g : TG) (tb : TS) : TS := fun D σ H => tFor (iItems X tl) g tb (thawE X D) σ H
theorem ps_forI {l : Expr} {body : List Stmt} {tl : TE} {g : TG} {tb : TS} {fpos : Pos} (hp : PassesOwn (model X.prog X.w) X.A X.env X.xe) (hc : X.calm = true) (hl : PE X l tl) (hg : PG X (.Tuple elts x1 tpos) g) (hb : PSs X body tb)
    (hbase : attributeBase l "items" X.env (eval l X.env) = eval l X.env := by rfl) (hline : (apos.endLine == pos.line) = true := by rfl)
    (hs : ∀ x, foldedSetIterable (.Call (.Attribute l "items" apos) [] [] pos) X.env x = pure x := by intro _; rfl) : PS X (.For (.Tuple elts x1 tpos) (.Call (.Attribute l "items" apos) [] [] pos) body [] fpos) (tForI X tl g tb) := by
  intro pins s σ H D I h
  refine thn (ps_for hp hc (pi_items hl hbase hline) hg hb hs pins s σ H (thawE X D) I h) fun f s' q => ?_
  cases f with
  | next => obtain ⟨σ', H', I', a, o, kvs, nf, e, q⟩ := q; exact ⟨σ', _, I'.thaw nf e, q⟩
  | cont => exact q
  | brk => exact q
  | ret v => obtain ⟨x, σ', H', I', r, a, o, kvs, nf, e, q⟩ := q; exact ⟨x, σ', _, I'.thaw nf e, r, q⟩
end
theorem for_items {a : Addr} {ob : Obj} {kvs : List (Key × V)} {g : TG} {tb : TS} {D : Ends} {σ : St} {H : Hp} (Pv : Nat → St → Hp → Prop) (h0 : Pv 0 σ H) (hl : ∀ i σ H, i ≤ kvs.length → Pv i σ H → H a = some (.frz ob (.dK kvs)))
    (hs : ∀ i q σ H p, kvs[i]? = some q → Pv i σ H → H p = none → g (.ref p) σ (upd H p (.tup [kV q.1, q.2])) fun σ2 H2 => tb { D with nx := Pv (i + 1), ct := Pv (i + 1), bk := D.nx } σ2 H2) (hd : ∀ σ H, Pv kvs.length σ H → D.nx σ H) :
    ∃ W : Nat → Nat → St → Hp → Prop, (∃ m, W 0 m σ H) ∧ ∀ i m σ H, W i m σ H →
      ((Iti a ob kvs).stop i H ∧ D.nx σ H) ∨ ((Iti a ob kvs).go i H ∧ ∃ N : St → Hp → Prop, (∀ σ' H', N σ' H' → ∃ m', m' < m ∧ W (i + 1) m' σ' H') ∧ ∀ x H', (Iti a ob kvs).yld i H x H' → g x σ H' fun σ2 H2 => tb { D with nx := N, ct := N, bk := D.nx } σ2 H2) := by
  refine ⟨fun i m σ H => m = kvs.length - i ∧ i ≤ kvs.length ∧ Pv i σ H, ⟨kvs.length, by simp, Nat.zero_le _, h0⟩, ?_⟩
  rintro i m σ H ⟨rfl, hi, p⟩
  have q := hl i σ H hi p
  by_cases hlt : i < kvs.length
  · refine .inr ⟨⟨q, hlt⟩, Pv (i + 1), fun σ' H' p' => ⟨kvs.length - (i + 1), by omega, rfl, hlt, p'⟩, fun x H' y => ?_⟩
    obtain ⟨pa, pr, hp, hn, ex, eh⟩ := y
    subst eh ex
    exact hs i pr σ _ pa hp p hn
  · have e : i = kvs.length := by omega
    subst e
    exact .inl ⟨⟨q, Nat.le_refl _⟩, hd σ H p⟩
/-! ### xs != [], xs[::-1], what is never come to -/
section
variable {X : Cx} {e st : Expr} {te : TE} {ts : TO} {p2 pos : Pos}
theorem ps_dead {st : Stmt} : PS X st (fun _ _ _ => False) := fun _ _ _ _ _ _ h => h.elim
end
end L2

namespace My
open PySem L2
def top (i : Nat) : Stmt := PySem.Challenge.pw_lazycols_k10_whole_table.main.body.getD i (.Pass ⟨0, 0, 0, 0⟩)
abbrev s_is_whole : Stmt := top 12
abbrev s_is_number : Stmt := top 13
abbrev s_is_name : Stmt := top 14
abbrev s_is_fault : Stmt := top 15
abbrev s_is_value : Stmt := top 16
abbrev s_check_size : Stmt := top 20
abbrev s_check_place : Stmt := top 21
abbrev s_check_value : Stmt := top 22
abbrev s_check_values : Stmt := top 23
abbrev s_check_row : Stmt := top 24
abbrev s_law_cell : Stmt := top 27
abbrev s_law_names : Stmt := top 28
abbrev s_law_value : Stmt := top 29
abbrev s_law_refused : Stmt := top 30
abbrev s_law_stands : Stmt := top 31
abbrev s_law_given : Stmt := top 32
abbrev s_law_entered : Stmt := top 33
abbrev s_law_taken : Stmt := top 34
abbrev s_law_spoilt : Stmt := top 35
abbrev s_law : Stmt := top 36
/-- where the refusals stand -/
structure Ad where
  ColsError : Addr
  NoName : Addr
  NoValue : Addr
  NoColumn : Addr
  NoPlace : Addr
  NoSize : Addr
  TooMuch : Addr
structure Excs (K : PySem.W.Frag) (mg : Str → Option Value) (c : Ad) : Prop where
  c_ColsError : mg "ColsError" = some (.ref c.ColsError)
  c_NoName : mg "NoName" = some (.ref c.NoName)
  c_NoValue : mg "NoValue" = some (.ref c.NoValue)
  c_NoColumn : mg "NoColumn" = some (.ref c.NoColumn)
  c_NoPlace : mg "NoPlace" = some (.ref c.NoPlace)
  c_NoSize : mg "NoSize" = some (.ref c.NoSize)
  c_TooMuch : mg "TooMuch" = some (.ref c.TooMuch)
  x_NoSize : PySem.W.excIn K c.NoSize mroV "ValueError.__new__" = true
  x_NoName : PySem.W.excIn K c.NoName mroV "ValueError.__new__" = true
  x_TooMuch : PySem.W.excIn K c.TooMuch mroV "ValueError.__new__" = true
  x_NoValue : PySem.W.excIn K c.NoValue mroV "ValueError.__new__" = true
  e_NoValue_ColsError : PySem.W.exmOne K (.ref c.NoValue) (.ref c.ColsError) = some true
  x_NoColumn : PySem.W.excIn K c.NoColumn mroV "ValueError.__new__" = true
  e_NoColumn_ColsError : PySem.W.exmOne K (.ref c.NoColumn) (.ref c.ColsError) = some true
  x_NoPlace : PySem.W.excIn K c.NoPlace mroV "ValueError.__new__" = true
  e_NoPlace_ColsError : PySem.W.exmOne K (.ref c.NoPlace) (.ref c.ColsError) = some true
abbrev s_Table_init : Stmt := inCls (top 25) 0
abbrev s_Table_many : Stmt := inCls (top 25) 1
abbrev s_Table_numbers : Stmt := inCls (top 25) 2
abbrev s_Table_columns : Stmt := inCls (top 25) 3
abbrev s_Table_give : Stmt := inCls (top 25) 4
abbrev s_Table_drop : Stmt := inCls (top 25) 5
abbrev s_Table_put : Stmt := inCls (top 25) 6
abbrev s_Table_at : Stmt := inCls (top 25) 7
abbrev s_Table_put_in : Stmt := inCls (top 25) 8
abbrev s_Table_take_out : Stmt := inCls (top 25) 9
abbrev s_Table_stand : Stmt := inCls (top 25) 10
abbrev s_Table_check_column : Stmt := inCls (top 25) 13
structure TTable (K : PySem.W.Frag) (mg : Str → Option Value) (C : Addr) : Prop where
  c : mg "Table" = some (.ref C)
  cl : Cls K C
  mks : PySem.W.makesIn K C = true
  kc : PySem.W.keepIn K (.ref C) = true
  hc : PySem.W.findIn K (.ref C) "__class__" = some (some (.builtin "object.__class__"))
  n_row_numbers : NoAttr K C "row_numbers"
  n_fresh_number : NoAttr K C "fresh_number"
  n_kept : NoAttr K C "kept"
  m_init : Mth K C "__init__" "Table.__init__" s_Table_init
  m_many : Mth K C "many" "Table.many" s_Table_many
  m_numbers : Mth K C "numbers" "Table.numbers" s_Table_numbers
  m_columns : Mth K C "columns" "Table.columns" s_Table_columns
  m_give : Mth K C "give" "Table.give" s_Table_give
  m_drop : Mth K C "drop" "Table.drop" s_Table_drop
  m_put : Mth K C "put" "Table.put" s_Table_put
  m_at : Mth K C "at" "Table.at" s_Table_at
  m_put_in : Mth K C "put_in" "Table.put_in" s_Table_put_in
  m_take_out : Mth K C "take_out" "Table.take_out" s_Table_take_out
  m_stand : Mth K C "stand" "Table.stand" s_Table_stand
  m_check_column : Mth K C "check_column" "Table.check_column" s_Table_check_column
structure Tops (K : PySem.W.Frag) (mg : Str → Option Value) : Prop where
  len : mg "len" = none
  isinstance : mg "isinstance" = none
  int : mg "int" = none
  bool : mg "bool" = none
  str : mg "str" = none
  all : mg "all" = none
  range : mg "range" = none
  abs : mg "abs" = none
  list : mg "list" = none
  tuple : mg "tuple" = none
  dict : mg "dict" = none
  ValueError : mg "ValueError" = none
  g_LETTERS : ∃ t, mg "LETTERS" = some (.str ("abcdefghijklmnopqrstuvwxyz" : Str) t)
  g_MOST_LETTERS : ∃ t, mg "MOST_LETTERS" = some (.int 8 t)
  g_MOST_ROWS : ∃ t, mg "MOST_ROWS" = some (.int 30 t)
  g_MOST_COLUMNS : ∃ t, mg "MOST_COLUMNS" = some (.int 8 t)
  d_is_whole : Def K mg "is_whole" s_is_whole
  d_is_number : Def K mg "is_number" s_is_number
  d_is_name : Def K mg "is_name" s_is_name
  d_is_fault : Def K mg "is_fault" s_is_fault
  d_is_value : Def K mg "is_value" s_is_value
  d_check_size : Def K mg "check_size" s_check_size
  d_check_place : Def K mg "check_place" s_check_place
  d_check_value : Def K mg "check_value" s_check_value
  d_check_values : Def K mg "check_values" s_check_values
  d_check_row : Def K mg "check_row" s_check_row
  d_law_cell : Def K mg "_law_cell" s_law_cell
  d_law_names : Def K mg "_law_names" s_law_names
  d_law_value : Def K mg "_law_value" s_law_value
  d_law_refused : Def K mg "_law_refused" s_law_refused
  d_law_stands : Def K mg "_law_stands" s_law_stands
  d_law_given : Def K mg "_law_given" s_law_given
  d_law_entered : Def K mg "_law_entered" s_law_entered
  d_law_taken : Def K mg "_law_taken" s_law_taken
  d_law_spoilt : Def K mg "_law_spoilt" s_law_spoilt
  d_law : Def K mg "law" s_law
  exc : ∃ c : Ad, Excs K mg c
  t_Table : ∃ C, TTable K mg C
end My

namespace My
open PySem L2
abbrev letters : Str := "abcdefghijklmnopqrstuvwxyz"
def inL (c : Nat) : Bool := !(Builtin.Str.occurrences letters ⟨#[c]⟩ 0 letters.length 1).isEmpty
def nameS (t : Str) : Bool := decide ((1 : Int) ≤ t.length) && decide ((t.length : Int) ≤ 8) && t.cps.toList.all inL
def wholeD : PyData → Bool
  | .int _ => true
  | _ => false
def numD : PyData → Bool
  | .int i => decide ((if i < 0 then -i else i) < 10 ^ (60 : Int).toNat)
  | _ => false
def nameD : PyData → Bool
  | .str t => nameS t
  | _ => false
def faultD : PyData → Bool
  | .tuple [.str z, d] => decide (z = "fault") && nameD d
  | _ => false
def valueD (d : PyData) : Bool := numD d || faultD d
/-- a text is short; the texts in a tuple are -/
def shortS (d : PyData) : Prop := ∀ t, d = .str t → t.length ≤ 1000
def shortD (d : PyData) : Prop := ∀ ds, d = .tuple ds → ∀ e ∈ ds, shortS e
theorem shortS_str {t : Str} (h : t.length ≤ 1000) : shortS (.str t) := fun z e => by cases e; exact h
theorem shortD_not {d : PyData} (h : kdD d ≠ .tup) : shortD d := fun z e => by subst e; exact absurd rfl h
theorem shortD_tup {ds : List PyData} (h : ∀ e ∈ ds, shortS e) : shortD (.tuple ds) := fun z e => by cases e; exact h
section
variable {P : Program} {w : World} {K : PySem.W.Frag} {mg : Str → Option Value} {base : Heap}
def spWhole (K : PySem.W.Frag) : Sp := fun vs H Q _ => ∃ x d, vs = [x] ∧ Dt K H x d ∧ Q (.bl (wholeD d)) H
theorem sc_is_whole : FnScope ["thing"] ["thing"] (defScope s_is_whole) := ⟨rfl, rfl, rfl, by decide +kernel, rfl, by decide +kernel, by decide +kernel⟩
theorem k_is_whole (T : Tops K mg) : Known P w K mg base CX0 1 "is_whole" ["thing"] (spWhole K) := by
  refine T.d_is_whole.known sc_is_whole (fun _ _ _ _ _ _ us hl => match us, hl with | [_], _ => rfl) (fun vs H Q E h => ?_) (fun f cdv A outer s H vs Q E hr h => ?_)
  · obtain ⟨x, a, rfl, _⟩ := h
    rfl
  · obtain ⟨x, d, rfl, hd, q⟩ := h
    refine ⟨_, (pss_one (ps_ret (pe_and (pe_callB call_isT rfl T.isinstance b_isinstance (pa_cons (pv 0) (pa_cons (pe_ty T.int b_int) pa_nil))) (pe_one (pe_not (pe_callB call_isT rfl T.isinstance b_isinstance (pa_cons (pv 0) (pa_cons (pe_ty T.bool b_bool) pa_nil)))))))), ?_⟩
    refine ⟨_, rfl, x, "int", d, _, rfl, hd, kit_int K _, _, rfl, ?_⟩
    refine ite2 (fun h1 => ?_) (fun h1 => ?_)
    · refine ⟨_, rfl, x, "bool", d, _, rfl, hd, kit_bool K _, _, rfl, ?_⟩
      have e : (!decide (kdD d = Kd.bl)) = wholeD d := by cases d <;> simp [kdD, wholeD] at h1 ⊢
      show Q (.bl (!decide (kdD d = Kd.bl))) H
      rw [e]
      exact q
    · have e : false = wholeD d := by cases d <;> simp [kdD, wholeD] at h1 ⊢
      show Q (.bl false) H
      rw [e]
      exact q
def spName (K : PySem.W.Frag) : Sp := fun vs H Q _ => ∃ x d, vs = [x] ∧ Dt K H x d ∧ shortS d ∧ ∀ H', Same H H' → Q (.bl (nameD d)) H'
theorem sc_is_name : FnScope ["thing"] ["thing"] (defScope s_is_name) := ⟨rfl, rfl, rfl, by decide +kernel, rfl, by decide +kernel, by decide +kernel⟩
theorem k_is_name (T : Tops K mg) : Known P w K mg base CX0 1 "is_name" ["thing"] (spName K) := by
  refine T.d_is_name.known sc_is_name (fun _ _ _ _ _ _ us hl => match us, hl with | [_], _ => rfl) (fun vs H Q E h => ?_) (fun f cdv A outer s H vs Q E hr h => ?_)
  · obtain ⟨x, a, rfl, _⟩ := h
    rfl
  · obtain ⟨x, d, rfl, hd, hsh, q⟩ := h
    refine ⟨_, (pss_cons (ps_if (PW.pt (pw_or (pt_not (pt_val (pe_callB call_isT rfl T.isinstance b_isinstance (pa_cons (pv 0) (pa_cons (pe_ty T.str b_str) pa_nil))) (fun _ => rfl))) (pw_or1 (pt_not (pt_chain op_le op_le pe_int (pe_callB call_len rfl T.len b_len (pa_cons (pv 0) pa_nil)) (pe_gI T.g_MOST_LETTERS)))))) (pss_one (ps_ret pe_bl)) pss_nil)
      (pss_one (ps_ret (pe_callB (call_all rfl) rfl T.all b_all (pa_cons (pe_comp caps0 rfl rfl (by decide) (pi_str (pv 0)) (fun _ _ _ _ _ => pts_nil) (fun _ _ _ _ _ => (pe_cmpR op_in_str (pv 0) (pe_gS T.g_LETTERS) (by with_unfolding_all rfl)))) pa_nil))))), ?_⟩
    refine ⟨_, rfl, x, "str", d, _, rfl, hd, kit_str K _, _, rfl, ?_⟩
    by_cases hk : kdD d = .str
    · obtain ⟨t, rfl⟩ : ∃ t, d = .str t := by cases d <;> simp [kdD] at hk ⊢
      cases hd
      have ht : t.length ≤ 1000 := hsh t rfl
      refine iteF ?_
      refine ⟨_, rfl, _, _, rfl, ⟨sl ht, rfl⟩, _, _, rfl, rfl, _, rfl, ?_⟩
      refine ite2 (fun h1 => ?_) (fun h1 => ?_)
      · refine ⟨_, _, rfl, rfl, _, rfl, ?_⟩
        refine ite2 (fun h2 => ?_) (fun h2 => ?_)
        · have e : nameD (.str t) = false := by
            show nameS t = false
            unfold nameS
            have : decide ((t.length : Int) ≤ 8) = false := by simpa using h2
            rw [this, Bool.and_false, Bool.false_and]
          rw [← e]
          exact q H (Same.refl H)
        · have h8 : t.cps.size ≤ 8 := by
            have : (t.length : Int) ≤ 8 := by simpa using h2
            show t.length ≤ 8
            omega
          refine ⟨_, rfl, t, rfl, fun D hD => ?_⟩
          refine comp_str (x := t) (fun i ys H2 => ys = (t.cps.toList.take i).map (fun c => V.bl (inL c)) ∧ Same H H2) ⟨rfl, Same.new hD⟩ ?_ ?_
          · rintro i c ys H2 hc h2D ⟨rfl, s2⟩
            have hi : i < t.cps.size := (Array.getElem?_eq_some_iff.mp hc).1
            refine ⟨_, rfl, _, _, rfl, rfl, h2D, ?_, ?_, s2.on hD⟩
            · rw [List.length_map, List.length_take, Array.length_toList]
              exact small1000 (by omega)
            · rw [List.take_add_one, List.map_append, Array.getElem?_toList, hc]
              rfl
          · rintro ys H2 h2D ⟨rfl, s2⟩
            refine ⟨D, t.cps.toList.map inL, rfl, SqL.of ?_, ?_⟩
            · rw [h2D, List.take_of_length_le (by simp), List.map_map]
              rfl
            · have e : nameD (.str t) = (t.cps.toList.map inL).all id := by
                show nameS t = _
                unfold nameS
                have e1 : decide ((1 : Int) ≤ t.length) = true := h1
                have e2 : decide ((t.length : Int) ≤ 8) = true := by simpa using h2
                rw [e1, e2, Bool.true_and, Bool.true_and, List.all_map]
                rfl
              rw [← e]
              exact q H2 s2
      · refine ⟨_, rfl, ?_⟩
        refine iteT ?_
        have e : nameD (.str t) = false := by
          show nameS t = false
          unfold nameS
          have : decide ((1 : Int) ≤ t.length) = false := by simpa using h1
          rw [this, Bool.false_and, Bool.false_and]
        rw [← e]
        exact q H (Same.refl H)
    · rw [decide_eq_false hk]
      refine iteT (iteT ?_)
      have e : nameD d = false := by cases d <;> simp [kdD] at hk <;> rfl
      rw [← e]
      exact q H (Same.refl H)
def spNumber (K : PySem.W.Frag) : Sp := fun vs H Q _ => ∃ x d, vs = [x] ∧ Dt K H x d ∧ Q (.bl (numD d)) H
theorem sc_is_number : FnScope ["thing"] ["thing"] (defScope s_is_number) := ⟨rfl, rfl, rfl, by decide +kernel, rfl, by decide +kernel, by decide +kernel⟩
theorem k_is_number (T : Tops K mg) : Known P w K mg base CX0 2 "is_number" ["thing"] (spNumber K) := by
  have G_is_whole : Known P w K mg base CX0 1 "is_whole" ["thing"] (spWhole K) := k_is_whole T
  refine T.d_is_number.known sc_is_number (fun _ _ _ _ _ _ us hl => match us, hl with | [_], _ => rfl) (fun vs H Q E h => ?_) (fun f cdv A outer s H vs Q E hr h => ?_)
  · obtain ⟨x, a, rfl, _⟩ := h
    rfl
  · obtain ⟨x, d, rfl, hd, q⟩ := h
    refine ⟨_, (pss_one (ps_ret (pe_and (pe_callN G_is_whole (hr.mono (by decide)) pass0 (pa_cons (pv 0) pa_nil)) (pe_one (pe_cmpR op_lt (pe_callB call_abs rfl T.abs b_abs (pa_cons (pv 0) pa_nil)) (pe_op op_pow pe_int pe_int) (nomark _)))))), ?_⟩
    refine ⟨_, rfl, x, d, rfl, hd, _, rfl, ?_⟩
    refine ite2 (fun h1 => ?_) (fun h1 => ?_)
    · obtain ⟨i, rfl⟩ : ∃ i, d = .int i := by cases d <;> simp [wholeD] at h1 ⊢
      cases hd
      exact ⟨_, rfl, i, rfl, _, _, rfl, rfl, ⟨by decide, by decide, by decide⟩, _, _, rfl, rfl, q⟩
    · have e : numD d = false := by cases d <;> simp [wholeD] at h1 <;> rfl
      show Q (.bl false) H
      rw [← e]
      exact q
def spFault (K : PySem.W.Frag) : Sp := fun vs H Q _ => ∃ x d, vs = [x] ∧ Dt K H x d ∧ shortD d ∧ ∀ H', Same H H' → Q (.bl (faultD d)) H'
theorem sc_is_fault : FnScope ["thing"] ["thing"] (defScope s_is_fault) := ⟨rfl, rfl, rfl, by decide +kernel, rfl, by decide +kernel, by decide +kernel⟩
theorem faultD_len {ds : List PyData} (h : ds.length ≠ 2) : faultD (.tuple ds) = false := by
  match ds, h with
  | [], _ => rfl
  | [a], _ => cases a <;> rfl
  | [a, b], h => exact absurd rfl h
  | a :: b :: c :: r, _ => cases a <;> rfl
theorem k_is_fault (T : Tops K mg) : Known P w K mg base CX0 2 "is_fault" ["thing"] (spFault K) := by
  have G_is_name : Known P w K mg base CX0 1 "is_name" ["thing"] (spName K) := k_is_name T
  refine T.d_is_fault.known sc_is_fault (fun _ _ _ _ _ _ us hl => match us, hl with | [_], _ => rfl) (fun vs H Q E h => ?_) (fun f cdv A outer s H vs Q E hr h => ?_)
  · obtain ⟨x, a, rfl, _⟩ := h
    rfl
  · obtain ⟨x, d, rfl, hd, hsh, q⟩ := h
    refine ⟨_, (pss_cons (ps_if (PW.pt (pw_or (pt_not (pt_val (pe_callB call_isT rfl T.isinstance b_isinstance (pa_cons (pv 0) (pa_cons (pe_ty T.tuple b_tuple) pa_nil))) (fun _ => rfl))) (pw_or1 (pt_cmpR op_ne (pe_callB call_len rfl T.len b_len (pa_cons (pv 0) pa_nil)) pe_int (nomark _))))) (pss_one (ps_ret pe_bl)) pss_nil)
      (pss_one (ps_ret (pe_and (pe_callB call_isT rfl T.isinstance b_isinstance (pa_cons (pe_ix ix_tup (pv 0) pe_int (fun _ _ => rfl)) (pa_cons (pe_ty T.str b_str) pa_nil))) (pe_and (pe_cmpR op_eq (pe_ix ix_tup (pv 0) pe_int (fun _ _ => rfl)) pe_str (nomark _)) (pe_one (pe_callN G_is_name (hr.mono (by decide)) pass0 (pa_cons (pe_ix ix_tup (pv 0) pe_int (fun _ _ => rfl)) pa_nil)))))))), ?_⟩
    refine ⟨_, rfl, x, "tuple", d, _, rfl, hd, kit_tuple K _, _, rfl, ?_⟩
    by_cases hk : kdD d = .tup
    · obtain ⟨ds, rfl⟩ : ∃ ds, d = .tuple ds := by cases d <;> simp [kdD] at hk ⊢
      cases hd with
      | @tup a xs _ hq hall =>
        refine iteF ?_
        refine ⟨_, rfl, _, _, rfl, .inr ⟨_, hq, rfl⟩, rfl, _, rfl, ?_⟩
        have hl := hall.length
        refine ite2 (fun h1 => ?_) (fun h1 => ?_)
        · have h1' : xs.length ≠ 2 := by
            intro z
            rw [z] at h1
            exact absurd h1 (by decide)
          have e := faultD_len (ds := ds) (by rw [← hl]; exact h1')
          rw [← e]
          exact q H (Same.refl H)
        · have h1' : xs.length = 2 := by
            have z : ¬ (!decide (V.int (xs.length : Int) = V.int 2)) = true := h1
            have z2 : (xs.length : Int) = 2 := by simpa using z
            omega
          match xs, ds, hall, h1', hl with
          | [y, z], _, .cons (d := d1) h2 (.cons (d := d2) h3 .nil), _, _ =>
            have a0 : atI [y, z] 0 = some y := rfl
            have a1 : atI [y, z] 1 = some z := rfl
            refine ⟨_, rfl, _, _, _, _, rfl, rfl, hq, a0, y, "str", d1, _, rfl, h2, kit_str K _, _, rfl, ?_⟩
            refine ite2 (fun h4 => ?_) (fun h4 => ?_)
            · obtain ⟨t, rfl⟩ : ∃ t, d1 = .str t := by cases d1 <;> simp [kdD] at h4 ⊢
              cases h2
              refine ⟨_, rfl, _, _, _, _, rfl, rfl, hq, a0, rfl, _, rfl, ?_⟩
              refine ite2 (fun h5 => ?_) (fun h5 => ?_)
              · have h5' : t = "fault" := by
                  have z5 : V.str t = V.str "fault" := by simpa using h5
                  exact V.str.inj z5
                refine ⟨_, rfl, _, _, _, _, rfl, rfl, hq, a1, z, d2, rfl, h3, hsh _ rfl _ (List.mem_cons_of_mem _ List.mem_cons_self), fun H' s' => ?_⟩
                · have e : faultD (.tuple [.str t, d2]) = nameD d2 := by
                    show (decide (t = "fault") && nameD d2) = nameD d2
                    rw [decide_eq_true h5', Bool.true_and]
                  rw [← e]
                  exact q H' s'
              · have h5' : t ≠ "fault" := fun z5 => h5 (by rw [z5]; rfl)
                have e : faultD (.tuple [.str t, d2]) = false := by
                  show (decide (t = "fault") && nameD d2) = false
                  rw [decide_eq_false h5', Bool.false_and]
                show Q (.bl false) H
                rw [← e]
                exact q H (Same.refl H)
            · have e : faultD (.tuple [d1, d2]) = false := by cases d1 <;> simp [kdD] at h4 <;> rfl
              show Q (.bl false) H
              rw [← e]
              exact q H (Same.refl H)
    · rw [decide_eq_false hk]
      refine iteT (iteT ?_)
      have e : faultD d = false := by cases d <;> simp [kdD] at hk <;> rfl
      rw [← e]
      exact q H (Same.refl H)
def spValue (K : PySem.W.Frag) : Sp := fun vs H Q _ => ∃ x d, vs = [x] ∧ Dt K H x d ∧ shortD d ∧ ∀ H', Same H H' → Q (.bl (valueD d)) H'
theorem sc_is_value : FnScope ["thing"] ["thing"] (defScope s_is_value) := ⟨rfl, rfl, rfl, by decide +kernel, rfl, by decide +kernel, by decide +kernel⟩
theorem k_is_value (T : Tops K mg) : Known P w K mg base CX0 3 "is_value" ["thing"] (spValue K) := by
  have G_is_number : Known P w K mg base CX0 2 "is_number" ["thing"] (spNumber K) := k_is_number T
  have G_is_fault : Known P w K mg base CX0 2 "is_fault" ["thing"] (spFault K) := k_is_fault T
  refine T.d_is_value.known sc_is_value (fun _ _ _ _ _ _ us hl => match us, hl with | [_], _ => rfl) (fun vs H Q E h => ?_) (fun f cdv A outer s H vs Q E hr h => ?_)
  · obtain ⟨x, a, rfl, _⟩ := h
    rfl
  · obtain ⟨x, d, rfl, hd, hsh, q⟩ := h
    refine ⟨_, (pss_one (ps_ret (pe_or (pe_callN G_is_number (hr.mono (by decide)) pass0 (pa_cons (pv 0) pa_nil)) (pe_one (pe_callN G_is_fault (hr.mono (by decide)) pass0 (pa_cons (pv 0) pa_nil)))))), ?_⟩
    refine ⟨_, rfl, x, d, rfl, hd, _, rfl, ?_⟩
    refine ite2 (fun h1 => ?_) (fun h1 => ?_)
    · have e : valueD d = true := by unfold valueD; rw [h1, Bool.true_or]
      show Q (.bl true) H
      rw [← e]
      exact q H (Same.refl H)
    · refine ⟨_, rfl, x, d, rfl, hd, hsh, fun H' s' => ?_⟩
      have e : valueD d = faultD d := by
        unfold valueD
        have : numD d = false := by simpa using h1
        rw [this, Bool.false_or]
      rw [← e]
      exact q H' s'
end
end My

namespace My
open PySem L2
def cellZ (ns : List Int) (k : Int) : Int := if k < ns.length then ns.getD k.toNat 0 else ((if 0 < (ns.length : Int) then ns.getD (k % ns.length).toNat 0 % 2147483647 else 41) + k * k + 5) * (48271 + 16807 * k) % 2147483629
section
variable {P : Program} {w : World} {K : PySem.W.Frag} {mg : Str → Option Value} {base : Heap}
def spCell (K : PySem.W.Frag) : Sp := fun vs H Q _ => ∃ (a : Addr) (ns : List Int) (k : Int), vs = [.ref a, .int k] ∧ SqL K H a (ns.map V.int) ∧ ns.length ≤ 63 ∧ 0 ≤ k ∧ k ≤ 1000000 ∧ Q (.int (cellZ ns k)) H
theorem sc_law_cell : FnScope ["_law_script", "_law_k", "_law_seed"] ["_law_script", "_law_k"] (defScope s_law_cell) := ⟨rfl, rfl, rfl, by decide +kernel, rfl, by decide +kernel, by decide +kernel⟩
theorem k_law_cell (T : Tops K mg) : Known P w K mg base CX0 1 "_law_cell" ["_law_script", "_law_k"] (spCell K) := by
  refine T.d_law_cell.known sc_law_cell (fun _ _ _ _ _ _ us hl => match us, hl with | [_, _], _ => rfl) (fun vs H Q E h => ?_) (fun f cdv A outer s H vs Q E hr h => ?_)
  · obtain ⟨a, ns, k, rfl, _⟩ := h
    rfl
  · obtain ⟨a, ns, k, rfl, hS, hl, h0, h6, q⟩ := h
    refine ⟨_, (pss_cons (ps_if (pt_cmpR op_lt (pv 1) (pe_callB call_len rfl T.len b_len (pa_cons (pv 0) pa_nil)) (nomark _)) (pss_one (ps_ret (pe_ix ix_list (pv 0) (pv 1) (fun _ _ => rfl)))) pss_nil)
      (pss_cons (ps_set (i := 2) sc_law_cell.nd rfl (Or.inl rfl) pe_int)
      (pss_cons (ps_if (pt_cmpR op_gt (pe_callB call_len rfl T.len b_len (pa_cons (pv 0) pa_nil)) pe_int (nomark _)) (pss_one (ps_set (i := 2) sc_law_cell.nd rfl (Or.inl rfl) (pe_op op_mod (pe_ix ix_list (pv 0) (pe_op op_mod (pv 1) (pe_callB call_len rfl T.len b_len (pa_cons (pv 0) pa_nil))) (fun _ _ => rfl)) pe_int))) pss_nil)
      (pss_one (ps_ret (pe_op op_mod (pe_op op_mul (pe_op op_add (pe_op op_add (pv 2) (pe_op op_mul (pv 1) (pv 1))) pe_int) (pe_op op_add pe_int (pe_op op_mul pe_int (pv 1)))) pe_int)))))), ?_⟩
    have el : ((ns.map V.int).length : Int) = (ns.length : Int) := by rw [List.length_map]
    refine ⟨_, rfl, _, rfl, _, _, rfl, .inl ⟨_, hS, rfl⟩, _, _, rfl, rfl, _, rfl, ?_⟩
    rw [el]
    refine ite2 (fun h1 => ?_) (fun h1 => ?_)
    · have h1' : k < ns.length := by simpa using h1
      refine ⟨_, rfl, _, rfl, a, _, k, _, rfl, rfl, hS, at_map ns k h0 h1', ?_⟩
      have e : cellZ ns k = ns.getD k.toNat 0 := by unfold cellZ; rw [if_pos h1']
      rw [← e]
      exact q
    · have h1' : ¬ k < ns.length := by simpa using h1
      refine ⟨_, rfl, _, _, rfl, .inl ⟨_, hS, rfl⟩, _, _, rfl, rfl, _, rfl, ?_⟩
      rw [el]
      have fin : ∀ seed : Int, cellZ ns k = (seed + k * k + 5) * (48271 + 16807 * k) % 2147483629 →
          tRet (tOp (rI (fun _ j => 0 < j) fun i j => .int (i % j)) (tOp (rI CMul fun i j => .int (i * j)) (tOp (rI0 fun i j => .int (i + j)) (tOp (rI0 fun i j => .int (i + j)) (tVar 2) (tOp (rI CMul fun i j => .int (i * j)) (tVar 1) (tVar 1))) (tC (.int 5))) (tOp (rI0 fun i j => .int (i + j)) (tC (.int 48271)) (tOp (rI CMul fun i j => .int (i * j)) (tC (.int 16807)) (tVar 1)))) (tC (.int 2147483629)))
            { nx := fun _ H' => Q .non H', rt := Q } [some (.ref a), some (.int k), some (.int seed)] H := fun seed e => by
        refine ⟨_, rfl, _, rfl, _, rfl, _, _, rfl, rfl, .inl ⟨by omega, by omega⟩, _, _, rfl, rfl, _, _, rfl, rfl, _, rfl, _, _, rfl, rfl, .inl ⟨by decide, by decide⟩, _, _, rfl, rfl, _, _, rfl, rfl, .inr ⟨by omega, by omega⟩, _, _, rfl, rfl, (show (0 : Int) < 2147483629 by decide), ?_⟩
        show Q (.int ((seed + k * k + 5) * (48271 + 16807 * k) % 2147483629)) H
        rw [← e]
        exact q
      refine ite2 (fun h2 => ?_) (fun h2 => ?_)
      · have h2' : 0 < (ns.length : Int) := by simpa using h2
        have hm := Int.emod_nonneg k (Int.ne_of_gt h2')
        have hm' := Int.emod_lt_of_pos k h2'
        refine ⟨_, rfl, _, rfl, _, rfl, _, _, rfl, .inl ⟨_, hS, rfl⟩, _, _, rfl, rfl, by rw [el]; exact h2', a, _, _, _, rfl, rfl, hS, by rw [el]; exact at_map ns _ hm hm', _, _, rfl, rfl, (show (0 : Int) < 2147483647 by decide), ?_⟩
        refine fin _ ?_
        unfold cellZ
        rw [if_neg h1', if_pos h2']
      · have h2' : ¬ 0 < (ns.length : Int) := by simpa using h2
        refine fin 41 ?_
        unfold cellZ
        rw [if_neg h1', if_neg h2']
theorem let_lt : ∀ c ∈ letters.cps.toList, c < 128 := by decide +kernel
theorem let_in : ∀ c ∈ letters.cps.toList, inL c = true := by decide +kernel
theorem let_len : letters.cps.toList.length = 26 := by decide +kernel
/-- a word of small letters -/
def Word (cs : List Nat) : Prop := 1 ≤ cs.length ∧ cs.length ≤ 8 ∧ ∀ c ∈ cs, c ∈ letters.cps.toList
theorem Word.name {cs : List Nat} (h : Word cs) : nameS ⟨cs.toArray⟩ = true := by
  obtain ⟨h1, h2, h3⟩ := h
  have e : (⟨cs.toArray⟩ : Str).length = cs.length := by show cs.toArray.size = _; simp
  unfold nameS
  rw [e]
  have a1 : decide ((1 : Int) ≤ cs.length) = true := by simp; omega
  have a2 : decide ((cs.length : Int) ≤ 8) = true := by simp; omega
  have a3 : cs.toArray.toList.all inL = true := by
    rw [List.all_eq_true]
    intro c hc
    exact let_in c (h3 c (by simpa using hc))
  rw [a1, a2]
  exact a3
theorem Word.short {cs : List Nat} (h : Word cs) : (⟨cs.toArray⟩ : Str).length ≤ 8 := by
  show cs.toArray.size ≤ 8
  rw [List.size_toArray]
  exact h.2.1
end
end My

namespace My
open PySem L2
/-- a Table's attributes, in the order in which __init__ stores them -/
def flds (r : Addr) (n : Int) (d : Addr) : List (Str × V) := [("row_numbers", V.ref r), ("fresh_number", V.int n), ("kept", V.ref d)]
theorem flds_rows (r : Addr) (n : Int) (d : Addr) : (flds r n d).lookup ("row_numbers" : Str) = some (.ref r) := rfl
theorem flds_fresh (r : Addr) (n : Int) (d : Addr) : (flds r n d).lookup ("fresh_number" : Str) = some (.int n) := by
  show (match (("fresh_number" : Str) == ("row_numbers" : Str)) with | true => some (V.ref r) | false => _) = _
  rw [show (("fresh_number" : Str) == ("row_numbers" : Str)) = false by decide +kernel]
  rfl
theorem flds_kept (r : Addr) (n : Int) (d : Addr) : (flds r n d).lookup ("kept" : Str) = some (.ref d) := by
  show (match (("kept" : Str) == ("row_numbers" : Str)) with | true => some (V.ref r) | false => (match (("kept" : Str) == ("fresh_number" : Str)) with | true => some (V.int n) | false => _)) = _
  rw [show (("kept" : Str) == ("row_numbers" : Str)) = false by decide +kernel, show (("kept" : Str) == ("fresh_number" : Str)) = false by decide +kernel]
  rfl
theorem flds_no {r : Addr} {n : Int} {d : Addr} {m : Str} (h : (m == ("row_numbers" : Str) || m == ("fresh_number" : Str) || m == ("kept" : Str)) = false := by decide +kernel) : (flds r n d).lookup m = none := by
  simp only [Bool.or_eq_false_iff] at h
  obtain ⟨⟨h1, h2⟩, h3⟩ := h
  show (match (m == ("row_numbers" : Str)) with | true => some (V.ref r) | false => (match (m == ("fresh_number" : Str)) with | true => some (V.int n) | false => (match (m == ("kept" : Str)) with | true => some (V.ref d) | false => none))) = none
  rw [h1, h2, h3]
theorem flds_mk (r : Addr) (n : Int) (d : Addr) : putF "kept" (.ref d) (putF "fresh_number" (.int n) (putF "row_numbers" (.ref r) [])) = flds r n d := by
  show putF "kept" (.ref d) (if ("row_numbers" : Str) = "fresh_number" then _ else _) = _
  rw [if_neg (by decide +kernel)]
  show (if ("row_numbers" : Str) = "kept" then _ else _ :: (if ("fresh_number" : Str) = "kept" then _ else _)) = _
  rw [if_neg (by decide +kernel), if_neg (by decide +kernel)]
  rfl
/-- a Table stands at p: its list of numbers at r, its dict of columns at d -/
structure TabAt (C : Addr) (H : Hp) (p r d : Addr) (xs : List V) (n : Int) (kvs : List (Key × V)) : Prop where
  at_ : ∃ dx, H p = some (.ins C dx (flds r n d))
  rows : H r = some (.lst xs)
  kept : H d = some (.dK kvs)
theorem TabAt.same {C : Addr} {H H' : Hp} {p r d : Addr} {xs : List V} {n : Int} {kvs : List (Key × V)} (T : TabAt C H p r d xs n kvs) (s : Same H H') : TabAt C H' p r d xs n kvs := by
  obtain ⟨dx, h⟩ := T.at_
  exact ⟨⟨dx, s _ _ h⟩, s _ _ T.rows, s _ _ T.kept⟩
def sizeD : PyData → Bool
  | .int i => decide (0 ≤ i) && decide (i ≤ 30)
  | _ => false
section
variable {P : Program} {w : World} {K : PySem.W.Frag} {mg : Str → Option Value} {base : Heap}
def spSize (K : PySem.W.Frag) (c : Ad) : Sp := fun vs H Q E => ∃ x d, vs = [x] ∧ Dt K H x d ∧ (sizeD d = true → Q .non H) ∧ (sizeD d = false → E (.ref c.NoSize) none H)
theorem sc_check_size : FnScope ["many"] ["many"] (defScope s_check_size) := ⟨rfl, rfl, rfl, by decide +kernel, rfl, by decide +kernel, by decide +kernel⟩
theorem k_check_size (T : Tops K mg) {c : Ad} (X : Excs K mg c) : Known P w K mg base (CXE P w) 2 "check_size" ["many"] (spSize K c) := by
  have G_is_whole : Known P w K mg base CX0 1 "is_whole" ["thing"] (spWhole K) := k_is_whole T
  refine T.d_check_size.knownE sc_check_size (fun _ _ _ _ _ _ us hl => match us, hl with | [_], _ => rfl) (fun vs H Q E h => ?_) (fun f cdv A outer s H vs Q E hr h => ?_)
  · obtain ⟨x, d, rfl, _⟩ := h
    rfl
  · obtain ⟨x, d, rfl, hd, q1, q2⟩ := h
    refine ⟨_, (pss_one (ps_if (PW.pt (pw_or (pt_not (pt_val (pe_callN G_is_whole (hr.mono (by decide)) pass0 (pa_cons (pv 0) pa_nil)) (fun _ => rfl))) (pw_or1 (pt_not (pt_chain op_le op_le pe_int (pv 0) (pe_gI T.g_MOST_ROWS)))))) (pss_one (ps_raise X.c_NoSize X.x_NoSize (pa_cons pe_str pa_nil))) pss_nil)), ?_⟩
    refine ⟨_, rfl, x, d, rfl, hd, _, rfl, ?_⟩
    by_cases hk : wholeD d = true
    · obtain ⟨i, rfl⟩ : ∃ i, d = .int i := by cases d <;> simp [wholeD] at hk ⊢
      cases hd
      refine iteF ?_
      refine ⟨_, rfl, _, _, rfl, rfl, _, rfl, ?_⟩
      refine ite2 (fun h1 => ?_) (fun h1 => ?_)
      · refine ⟨_, _, rfl, rfl, _, rfl, ?_⟩
        refine ite2 (fun h2 => ?_) (fun h2 => ?_)
        · exact ⟨sl, q2 (by show (decide (0 ≤ i) && decide (i ≤ 30)) = false; have : decide (i ≤ 30) = false := by simpa using h2
                            rw [this, Bool.and_false])⟩
        · exact q1 (by show (decide (0 ≤ i) && decide (i ≤ 30)) = true; have e2 : decide (i ≤ 30) = true := by simpa using h2
                       have e1 : decide (0 ≤ i) = true := h1
                       rw [e1, e2]; rfl)
      · refine ⟨_, rfl, iteT ?_⟩
        exact ⟨sl, q2 (by show (decide (0 ≤ i) && decide (i ≤ 30)) = false; have : decide (0 ≤ i) = false := by simpa using h1
                          rw [this, Bool.false_and])⟩
    · have hk' : wholeD d = false := by simpa using hk
      rw [hk']
      refine iteT (iteT ?_)
      exact ⟨sl, q2 (by cases d <;> simp [wholeD] at hk' <;> rfl)⟩

def spInit (K : PySem.W.Frag) (C : Addr) (c : Ad) : Sp := fun vs H Q E => ∃ p dx x d, vs = [.ref p, x] ∧ H p = some (.ins C dx []) ∧ Dt K H x d ∧
  (∀ i, d = .int i → 0 ≤ i → i ≤ 30 → ∀ H' r e, TabAt C H' p r e (rangeV 0 i.toNat) i [] → H r = none → H e = none → r ≠ e → (∀ b o, H b = some o → b ≠ p → H' b = some o) → Q .non H') ∧ (sizeD d = false → E (.ref c.NoSize) none H)
theorem sc_Table_init : FnScope ["self", "many"] ["self", "many"] (defScope s_Table_init) := ⟨rfl, rfl, rfl, by decide +kernel, rfl, by decide +kernel, by decide +kernel⟩
theorem k_Table_init (T : Tops K mg) {c : Ad} (X : Excs K mg c) {C : Addr} (Y : TTable K mg C) : KnownI P w K mg base (CXE P w) 3 C ["self", "many"] (spInit K C c) := by
  have G_check_size : Known P w K mg base (CXE P w) 2 "check_size" ["many"] (spSize K c) := k_check_size T X
  refine (Y.m_init.knownE sc_Table_init (fun _ _ _ _ _ _ us hl => match us, hl with | [_, _], _ => rfl) (fun vs H Q E h => ?_) (fun f cdv A outer s H vs Q E hr h => ?_)).init Y.mks Y.kc
  · obtain ⟨p, dx, x, d, rfl, _⟩ := h
    rfl
  · obtain ⟨p, dx, x, d, rfl, hp, hd, q1, q2⟩ := h
    refine ⟨_, (pss_cons (ps_expr (pe_callN G_check_size (hr.mono (by decide)) passE (pa_cons (pv 1) pa_nil)))
      (pss_cons (ps_fld (pv 0) (pe_callTy (call_list_rng rfl) rfl T.list b_list (pa_cons (pe_callTy call_rng1 rfl T.range b_range (pa_cons (pv 1) pa_nil)) pa_nil)) rfl)
      (pss_cons (ps_fld (pv 0) (pe_callB call_len rfl T.len b_len (pa_cons (pe_fld (pv 0) rfl) pa_nil)) rfl)
      (pss_one (ps_fld (pv 0) pe_dnewK rfl))))), ?_⟩
    refine ⟨_, rfl, x, d, rfl, hd, (fun hs => ?_), fun hs => q2 hs⟩
    obtain ⟨i, rfl, h0, h30⟩ : ∃ i, d = .int i ∧ 0 ≤ i ∧ i ≤ 30 := by
      cases d <;> simp [sizeD] at hs
      exact ⟨_, rfl, hs.1, hs.2⟩
    cases hd
    refine ⟨_, rfl, i, rfl, fun g hg => ⟨g, 0, i, rfl, upd_same, by omega, by omega, by omega, by omega, by omega, fun r hr0 => ?_⟩⟩
    have ngp : p ≠ g := ne_of_none hp hg
    have hgr : r ≠ g := fun z => by rw [z, upd_same] at hr0; cases hr0
    have hr' : H r = none := by rw [upd_ne hgr] at hr0; exact hr0
    have npr : p ≠ r := ne_of_none hp hr'
    rw [Int.sub_zero] at *
    refine ⟨_, rfl, p, C, dx, [], rfl, (by rw [upd_ne npr, upd_ne ngp]; exact hp), Y.cl, Y.n_row_numbers, (by show 0 < 1000; decide), ?_⟩
    refine ⟨_, rfl, p, C, dx, _, _, rfl, upd_same, Y.cl, Y.n_row_numbers, rfl, _, _, rfl, .inl ⟨_, SqL.of (by rw [upd_ne npr.symm, upd_same]), rfl⟩, ?_⟩
    refine ⟨_, rfl, p, C, dx, _, rfl, upd_same, Y.cl, Y.n_fresh_number, (by show 1 < 1000; decide), ?_⟩
    intro e he
    have npe : p ≠ e := fun z => by rw [← z, upd_same] at he; cases he
    have nre : r ≠ e := fun z => by rw [← z, upd_ne npr.symm, upd_ne npr.symm, upd_same] at he; cases he
    have nge : g ≠ e := fun z => by rw [← z, upd_ne ngp.symm, upd_ne ngp.symm, upd_ne hgr.symm, upd_same] at he; cases he
    have he' : H e = none := by rw [upd_ne npe.symm, upd_ne npe.symm, upd_ne nre.symm, upd_ne nge.symm] at he; exact he
    refine ⟨_, rfl, p, C, dx, _, rfl, (by rw [upd_ne npe]; exact upd_same), Y.cl, Y.n_kept, (by show (putF "fresh_number" _ (putF "row_numbers" _ [])).length < 1000; show (if ("row_numbers" : Str) = "fresh_number" then _ else _ : List (Str × V)).length < 1000; rw [if_neg (by decide +kernel)]; show 2 < 1000; decide), ?_⟩
    refine q1 i rfl h0 h30 _ r e ⟨⟨dx, ?_⟩, ?_, ?_⟩ hr' he' nre fun b o hb hbp => ?_
    · rw [upd_same]
      refine congrArg (fun l => some (HO.ins C dx l)) ?_
      have := flds_mk r (rangeV 0 i.toNat).length e
      rw [rangeV_len, Int.toNat_of_nonneg h0] at this
      rw [rangeV_len, Int.toNat_of_nonneg h0]
      exact this
    · rw [upd_ne npr.symm, upd_ne nre, upd_ne npr.symm, upd_ne npr.symm, upd_same]
    · rw [upd_ne npe.symm, upd_same]
    · rw [upd_ne hbp, upd_ne (ne_of_none hb he'), upd_ne hbp, upd_ne hbp, upd_ne (ne_of_none hb hr'), upd_ne (ne_of_none hb hg)]
      exact hb
def spMany (C : Addr) : Sp := fun vs H Q _ => ∃ p r d xs n kvs, vs = [.ref p] ∧ TabAt C H p r d xs n kvs ∧ Q (.int xs.length) H
theorem sc_Table_many : FnScope ["self"] ["self"] (defScope s_Table_many) := ⟨rfl, rfl, rfl, by decide +kernel, rfl, by decide +kernel, by decide +kernel⟩
theorem k_Table_many (T : Tops K mg) {C : Addr} (Y : TTable K mg C) : KnownM P w K mg base CX0 1 C "many" ["self"] (spMany C) := by
  refine Y.m_many.known sc_Table_many (fun _ _ _ _ _ _ us hl => match us, hl with | [_], _ => rfl) (fun vs H Q E h => ?_) (fun f cdv A outer s H vs Q E hr h => ?_)
  · obtain ⟨p, r, d, xs, n, kvs, rfl, _⟩ := h
    rfl
  · obtain ⟨p, r, d, xs, n, kvs, rfl, ⟨⟨dx, hp⟩, hr', hd⟩, q⟩ := h
    refine ⟨_, (pss_one (ps_ret (pe_callB call_len rfl T.len b_len (pa_cons (pe_fld (pv 0) rfl) pa_nil)))), ?_⟩
    exact ⟨_, rfl, p, C, dx, _, _, rfl, hp, Y.cl, Y.n_row_numbers, flds_rows _ _ _, _, _, rfl, .inl ⟨_, SqL.of hr', rfl⟩, q⟩
def spNumbers (C : Addr) : Sp := fun vs H Q _ => ∃ p r d xs n kvs, vs = [.ref p] ∧ TabAt C H p r d xs n kvs ∧ ∀ l, H l = none → Q (.ref l) (upd H l (.lst xs))
theorem sc_Table_numbers : FnScope ["self"] ["self"] (defScope s_Table_numbers) := ⟨rfl, rfl, rfl, by decide +kernel, rfl, by decide +kernel, by decide +kernel⟩
theorem k_Table_numbers (T : Tops K mg) {C : Addr} (Y : TTable K mg C) : KnownM P w K mg base CX0 1 C "numbers" ["self"] (spNumbers C) := by
  refine Y.m_numbers.known sc_Table_numbers (fun _ _ _ _ _ _ us hl => match us, hl with | [_], _ => rfl) (fun vs H Q E h => ?_) (fun f cdv A outer s H vs Q E hr h => ?_)
  · obtain ⟨p, r, d, xs, n, kvs, rfl, _⟩ := h
    rfl
  · obtain ⟨p, r, d, xs, n, kvs, rfl, ⟨⟨dx, hp⟩, hr', hd⟩, q⟩ := h
    refine ⟨_, (pss_one (ps_ret (pe_callTy call_list_of rfl T.list b_list (pa_cons (pe_fld (pv 0) rfl) pa_nil)))), ?_⟩
    exact ⟨_, rfl, p, C, dx, _, _, rfl, hp, Y.cl, Y.n_row_numbers, flds_rows _ _ _, _, _, rfl, .inl (SqL.of hr'), q⟩
def spColumns (C : Addr) : Sp := fun vs H Q _ => ∃ p r d xs n kvs, vs = [.ref p] ∧ TabAt C H p r d xs n kvs ∧ ∀ l, H l = none → Q (.ref l) (upd H l (.lst (kvs.map fun p => kV p.1)))
theorem sc_Table_columns : FnScope ["self"] ["self"] (defScope s_Table_columns) := ⟨rfl, rfl, rfl, by decide +kernel, rfl, by decide +kernel, by decide +kernel⟩
theorem k_Table_columns (T : Tops K mg) {C : Addr} (Y : TTable K mg C) : KnownM P w K mg base CX0 1 C "columns" ["self"] (spColumns C) := by
  refine Y.m_columns.known sc_Table_columns (fun _ _ _ _ _ _ us hl => match us, hl with | [_], _ => rfl) (fun vs H Q E h => ?_) (fun f cdv A outer s H vs Q E hr h => ?_)
  · obtain ⟨p, r, d, xs, n, kvs, rfl, _⟩ := h
    rfl
  · obtain ⟨p, r, d, xs, n, kvs, rfl, ⟨⟨dx, hp⟩, hr', hd⟩, q⟩ := h
    refine ⟨_, (pss_one (ps_ret (pe_callTy (call_list_dK rfl) rfl T.list b_list (pa_cons (pe_fld (pv 0) rfl) pa_nil)))), ?_⟩
    exact ⟨_, rfl, p, C, dx, _, _, rfl, hp, Y.cl, Y.n_kept, flds_kept _ _ _, _, _, rfl, hd, q⟩
end
end My

namespace My
open PySem L2
def placeD (m : Int) : PyData → Bool
  | .int i => decide (0 ≤ i) && decide (i < m)
  | _ => false
def valuesD (m : Int) : PyData → Bool
  | .list ds => decide ((ds.length : Int) = m) && ds.all valueD
  | _ => false
/-- a column that is there -/
def colD (kvs : List (Key × V)) : PyData → Bool
  | .str t => nameS t && (valV kvs (.inr t : Key)).isSome
  | _ => false
section
variable {P : Program} {w : World} {K : PySem.W.Frag} {mg : Str → Option Value} {base : Heap}
def spPlace (K : PySem.W.Frag) (c : Ad) : Sp := fun vs H Q E => ∃ x d m, vs = [x, .int m] ∧ Dt K H x d ∧ (placeD m d = true → Q .non H) ∧ (placeD m d = false → E (.ref c.NoPlace) none H)
theorem sc_check_place : FnScope ["place", "places"] ["place", "places"] (defScope s_check_place) := ⟨rfl, rfl, rfl, by decide +kernel, rfl, by decide +kernel, by decide +kernel⟩
theorem k_check_place (T : Tops K mg) {c : Ad} (X : Excs K mg c) : Known P w K mg base (CXE P w) 2 "check_place" ["place", "places"] (spPlace K c) := by
  have G_is_whole : Known P w K mg base CX0 1 "is_whole" ["thing"] (spWhole K) := k_is_whole T
  refine T.d_check_place.knownE sc_check_place (fun _ _ _ _ _ _ us hl => match us, hl with | [_, _], _ => rfl) (fun vs H Q E h => ?_) (fun f cdv A outer s H vs Q E hr h => ?_)
  · obtain ⟨x, d, m, rfl, _⟩ := h
    rfl
  · obtain ⟨x, d, m, rfl, hd, q1, q2⟩ := h
    refine ⟨_, (pss_one (ps_if (PW.pt (pw_or (pt_not (pt_val (pe_callN G_is_whole (hr.mono (by decide)) pass0 (pa_cons (pv 0) pa_nil)) (fun _ => rfl))) (pw_or1 (pt_not (pt_chain op_le op_lt pe_int (pv 0) (pv 1)))))) (pss_one (ps_raise X.c_NoPlace X.x_NoPlace (pa_cons pe_str pa_nil))) pss_nil)), ?_⟩
    refine ⟨_, rfl, x, d, rfl, hd, _, rfl, ?_⟩
    by_cases hk : wholeD d = true
    · obtain ⟨i, rfl⟩ : ∃ i, d = .int i := by cases d <;> simp [wholeD] at hk ⊢
      cases hd
      refine iteF ?_
      refine ⟨_, rfl, _, _, rfl, rfl, _, rfl, ?_⟩
      refine ite2 (fun h1 => ?_) (fun h1 => ?_)
      · refine ⟨_, rfl, _, _, rfl, rfl, _, rfl, ?_⟩
        refine ite2 (fun h2 => ?_) (fun h2 => ?_)
        · exact ⟨sl, q2 (by show (decide (0 ≤ i) && decide (i < m)) = false; have : decide (i < m) = false := by simpa using h2
                            rw [this, Bool.and_false])⟩
        · exact q1 (by show (decide (0 ≤ i) && decide (i < m)) = true; have e2 : decide (i < m) = true := by simpa using h2
                       have e1 : decide (0 ≤ i) = true := h1
                       rw [e1, e2]; rfl)
      · refine ⟨_, rfl, iteT ?_⟩
        exact ⟨sl, q2 (by show (decide (0 ≤ i) && decide (i < m)) = false; have : decide (0 ≤ i) = false := by simpa using h1
                          rw [this, Bool.false_and])⟩
    · have hk' : wholeD d = false := by simpa using hk
      rw [hk']
      refine iteT (iteT ?_)
      exact ⟨sl, q2 (by cases d <;> simp [wholeD] at hk' <;> rfl)⟩
def spCValue (K : PySem.W.Frag) (c : Ad) : Sp := fun vs H Q E => ∃ x d, vs = [x] ∧ Dt K H x d ∧ shortD d ∧ (valueD d = true → ∀ H', Same H H' → Q .non H') ∧ (valueD d = false → ∀ H', Same H H' → E (.ref c.NoValue) none H')
theorem sc_check_value : FnScope ["value"] ["value"] (defScope s_check_value) := ⟨rfl, rfl, rfl, by decide +kernel, rfl, by decide +kernel, by decide +kernel⟩
theorem k_check_value (T : Tops K mg) {c : Ad} (X : Excs K mg c) : Known P w K mg base (CXE P w) 4 "check_value" ["value"] (spCValue K c) := by
  have G_is_value : Known P w K mg base CX0 3 "is_value" ["thing"] (spValue K) := k_is_value T
  refine T.d_check_value.knownE sc_check_value (fun _ _ _ _ _ _ us hl => match us, hl with | [_], _ => rfl) (fun vs H Q E h => ?_) (fun f cdv A outer s H vs Q E hr h => ?_)
  · obtain ⟨x, d, rfl, _⟩ := h
    rfl
  · obtain ⟨x, d, rfl, hd, hsh, q1, q2⟩ := h
    refine ⟨_, (pss_one (ps_if (pt_not (pt_val (pe_callN G_is_value (hr.mono (by decide)) pass0 (pa_cons (pv 0) pa_nil)) (fun _ => rfl))) (pss_one (ps_raise X.c_NoValue X.x_NoValue (pa_cons pe_str pa_nil))) pss_nil)), ?_⟩
    refine ⟨_, rfl, x, d, rfl, hd, hsh, fun H' s' => ⟨_, rfl, ?_⟩⟩
    refine ite2 (fun h1 => ?_) (fun h1 => ?_)
    · exact ⟨sl, q2 (by simpa using h1) H' s'⟩
    · exact q1 (by simpa using h1) H' s'
def spCValues (K : PySem.W.Frag) (c : Ad) : Sp := fun vs H Q E => ∃ x d m, vs = [x, .int m] ∧ Dt K H x d ∧ (∀ ds, d = .list ds → ds.length ≤ 1000 ∧ ∀ e ∈ ds, shortD e) ∧ (valuesD m d = true → ∀ H', Same H H' → Q .non H') ∧ (valuesD m d = false → ∀ H', Same H H' → E (.ref c.NoValue) none H')
theorem sc_check_values : FnScope ["values", "many"] ["values", "many"] (defScope s_check_values) := ⟨rfl, rfl, rfl, by decide +kernel, rfl, by decide +kernel, by decide +kernel⟩
theorem k_check_values (T : Tops K mg) {c : Ad} (X : Excs K mg c) : Known P w K mg base (CXE P w) 4 "check_values" ["values", "many"] (spCValues K c) := by
  have G_is_value : Known P w K mg base CX0 3 "is_value" ["thing"] (spValue K) := k_is_value T
  refine T.d_check_values.knownE sc_check_values (fun _ _ _ _ _ _ us hl => match us, hl with | [_, _], _ => rfl) (fun vs H Q E h => ?_) (fun f cdv A outer s H vs Q E hr h => ?_)
  · obtain ⟨x, d, m, rfl, _⟩ := h
    rfl
  · obtain ⟨x, d, m, rfl, hd, hsh, q1, q2⟩ := h
    refine ⟨_, (pss_one (ps_if (PW.pt (pw_or (pt_not (pt_val (pe_callB call_isT rfl T.isinstance b_isinstance (pa_cons (pv 0) (pa_cons (pe_ty T.list b_list) pa_nil))) (fun _ => rfl))) (pw_or (pt_cmpR op_ne (pe_callB call_len rfl T.len b_len (pa_cons (pv 0) pa_nil)) (pv 1) (nomark _)) (pw_or1 (pt_not (pt_val (pe_callB (call_all rfl) rfl T.all b_all (pa_cons (pe_comp caps0 rfl rfl (by decide) (pi_list (pv 0)) (fun _ _ _ _ _ => pts_nil) (fun _ _ _ _ _ => (pe_callN G_is_value (hr.mono (by decide)) pass0 (pa_cons (pv 0) pa_nil)))) pa_nil)) (fun _ => rfl))))))) (pss_one (ps_raise X.c_NoValue X.x_NoValue (pa_cons pe_str pa_nil))) pss_nil)), ?_⟩
    refine ⟨_, rfl, x, "list", d, _, rfl, hd, kit_list K _, _, rfl, ?_⟩
    by_cases hk : kdD d = .lst
    · obtain ⟨ds, rfl⟩ : ∃ ds, d = .list ds := by cases d <;> simp [kdD] at hk ⊢
      obtain ⟨hlen, hsd⟩ := hsh ds rfl
      cases hd with
      | @lst a xs _ hq hall =>
        have hl := hall.length
        refine iteF ?_
        refine ⟨_, rfl, _, _, rfl, .inl ⟨_, hq, rfl⟩, _, rfl, rfl, _, rfl, ?_⟩
        refine ite2 (fun h1 => ?_) (fun h1 => ?_)
        · have z : (xs.length : Int) ≠ m := by
            intro z
            rw [z] at h1
            simp at h1
          refine iteT ?_
          exact ⟨sl, q2 (by show (decide ((ds.length : Int) = m) && ds.all valueD) = false
                            rw [decide_eq_false (by rw [← hl]; exact z), Bool.false_and]) H (Same.refl H)⟩
        · have z : (xs.length : Int) = m := by
            have z1 : ¬ (!decide (V.int (xs.length : Int) = V.int m)) = true := h1
            simpa using z1
          refine ⟨_, rfl, a, rfl, ⟨_, hq⟩, fun D hD => ?_⟩
          refine comp_list (K := K) (a := a) (xs := xs) (fun i ys H2 => ys = (ds.take i).map (fun e => V.bl (valueD e)) ∧ Same H H2) ⟨rfl, Same.new hD⟩ (fun i ys H2 _ ⟨_, s2⟩ => s2.seq hq) ?_ ?_
          · rintro i v ys H2 hv h2D ⟨rfl, s2⟩
            obtain ⟨e, he, hde⟩ := hall.get hv
            refine ⟨_, rfl, v, e, rfl, hde.same s2, hsd e (List.mem_of_getElem? he), fun H3 s3 => ⟨s3 _ _ h2D, ?_, ?_, ?_⟩⟩
            · rw [List.length_map, List.length_take]
              exact small1000 (by omega)
            · rw [List.take_add_one, List.map_append, he]
              rfl
            · exact (s2.trans s3).on hD
          · rintro ys H2 h2D ⟨rfl, s2⟩
            refine ⟨D, ds.map valueD, rfl, SqL.of ?_, _, rfl, ?_⟩
            · rw [h2D, List.take_of_length_le (by rw [hl]; exact Nat.le_refl _), List.map_map]
              rfl
            · have e : (ds.map valueD).all id = ds.all valueD := by rw [List.all_map]; rfl
              have ev : valuesD m (.list ds) = ds.all valueD := by
                show (decide ((ds.length : Int) = m) && ds.all valueD) = _
                rw [decide_eq_true (by rw [← hl]; exact z), Bool.true_and]
              rw [e]
              refine ite2 (fun h2 => ?_) (fun h2 => ?_)
              · exact ⟨sl, q2 (by rw [ev]; simpa using h2) H2 s2⟩
              · exact q1 (by rw [ev]; simpa using h2) H2 s2
    · rw [decide_eq_false hk]
      refine iteT (iteT ?_)
      exact ⟨sl, q2 (by cases d <;> simp [kdD] at hk <;> rfl) H (Same.refl H)⟩
def spCCol (K : PySem.W.Frag) (C : Addr) (c : Ad) : Sp := fun vs H Q E => ∃ p r d xs n kvs x dx, vs = [.ref p, x] ∧ TabAt C H p r d xs n kvs ∧ Dt K H x dx ∧ shortS dx ∧ (colD kvs dx = true → ∀ H', Same H H' → Q .non H') ∧ (colD kvs dx = false → ∀ H', Same H H' → E (.ref c.NoColumn) none H')
theorem sc_Table_check_column : FnScope ["self", "column"] ["self", "column"] (defScope s_Table_check_column) := ⟨rfl, rfl, rfl, by decide +kernel, rfl, by decide +kernel, by decide +kernel⟩
theorem k_Table_check_column (T : Tops K mg) {c : Ad} (X : Excs K mg c) {C : Addr} (Y : TTable K mg C) : KnownM P w K mg base (CXE P w) 2 C "check_column" ["self", "column"] (spCCol K C c) := by
  have G_is_name : Known P w K mg base CX0 1 "is_name" ["thing"] (spName K) := k_is_name T
  refine Y.m_check_column.knownE sc_Table_check_column (fun _ _ _ _ _ _ us hl => match us, hl with | [_, _], _ => rfl) (fun vs H Q E h => ?_) (fun f cdv A outer s H vs Q E hr h => ?_)
  · obtain ⟨p, r, d, xs, n, kvs, x, dx, rfl, _⟩ := h
    rfl
  · obtain ⟨p, r, d, xs, n, kvs, x, dd, rfl, TA, hd, hsh, q1, q2⟩ := h
    refine ⟨_, (pss_one (ps_if (PW.pt (pw_or (pt_not (pt_val (pe_callN G_is_name (hr.mono (by decide)) pass0 (pa_cons (pv 1) pa_nil)) (fun _ => rfl))) (pw_or1 (pt_cmp (pc_dnotin (hu_of hr) (pv 1) (pe_fld (pv 0) rfl)))))) (pss_one (ps_raise X.c_NoColumn X.x_NoColumn (pa_cons pe_str pa_nil))) pss_nil)), ?_⟩
    refine ⟨_, rfl, x, dd, rfl, hd, hsh, fun H' s' => ⟨_, rfl, ?_⟩⟩
    by_cases hk : nameD dd = true
    · obtain ⟨t, rfl⟩ : ∃ t, dd = .str t := by cases dd <;> simp [nameD] at hk ⊢
      cases hd
      rw [hk]
      refine iteF ?_
      obtain ⟨⟨dx, h1⟩, _, h3⟩ := TA.same s'
      refine ⟨_, rfl, _, rfl, p, C, dx, _, _, rfl, h1, Y.cl, Y.n_kept, flds_kept _ _ _, d, _, rfl, DGet.k (k := Sum.inr t) h3, _, rfl, ?_⟩
      have ec : colD kvs (.str t) = (valV kvs (.inr t : Key)).isSome := by
        show (nameS t && _) = _
        rw [show nameS t = true from hk, Bool.true_and]
      refine ite2 (fun h4 => ?_) (fun h4 => ?_)
      · exact ⟨sl, q2 (by rw [ec]; revert h4; cases (valV kvs (.inr t : Key)).isSome <;> simp) H' s'⟩
      · exact q1 (by rw [ec]; revert h4; cases (valV kvs (.inr t : Key)).isSome <;> simp) H' s'
    · have hk' : nameD dd = false := by simpa using hk
      rw [hk']
      refine iteT (iteT ?_)
      refine ⟨sl, q2 ?_ H' s'⟩
      cases dd with
      | str t => show (nameS t && _) = false; rw [show nameS t = false from hk', Bool.false_and]
      | _ => rfl

def spAt (K : PySem.W.Frag) (C : Addr) (c : Ad) : Sp := fun vs H Q E => ∃ p r d xs n kvs x dx y dy, vs = [.ref p, x, y] ∧ TabAt C H p r d xs n kvs ∧ Dt K H x dx ∧ shortS dx ∧ Dt K H y dy ∧
  (∀ t l ys i v, dx = .str t → nameS t = true → valV kvs (.inr t : Key) = some (.ref l) → H l = some (.lst ys) → dy = .int i → 0 ≤ i → i < xs.length → atI ys i = some v → ∀ H', Same H H' → Q v H') ∧
  (colD kvs dx = true → placeD xs.length dy = true → ∃ t l ys i v, dx = .str t ∧ nameS t = true ∧ valV kvs (.inr t : Key) = some (.ref l) ∧ H l = some (.lst ys) ∧ dy = .int i ∧ 0 ≤ i ∧ i < xs.length ∧ atI ys i = some v) ∧
  (colD kvs dx = false → ∀ H', Same H H' → E (.ref c.NoColumn) none H') ∧ (colD kvs dx = true → placeD xs.length dy = false → ∀ H', Same H H' → E (.ref c.NoPlace) none H')
theorem sc_Table_at : FnScope ["self", "column", "place"] ["self", "column", "place"] (defScope s_Table_at) := ⟨rfl, rfl, rfl, by decide +kernel, rfl, by decide +kernel, by decide +kernel⟩
theorem k_Table_at (T : Tops K mg) {c : Ad} (X : Excs K mg c) {C : Addr} (Y : TTable K mg C) : KnownM P w K mg base (CXE P w) 3 C "at" ["self", "column", "place"] (spAt K C c) := by
  have G_check_column : KnownM P w K mg base (CXE P w) 2 C "check_column" ["self", "column"] (spCCol K C c) := k_Table_check_column T X Y
  have G_check_place : Known P w K mg base (CXE P w) 2 "check_place" ["place", "places"] (spPlace K c) := k_check_place T X
  have G_many : KnownM P w K mg base CX0 1 C "many" ["self"] (spMany C) := k_Table_many T Y
  refine Y.m_at.knownE sc_Table_at (fun _ _ _ _ _ _ us hl => match us, hl with | [_, _, _], _ => rfl) (fun vs H Q E h => ?_) (fun f cdv A outer s H vs Q E hr h => ?_)
  · obtain ⟨p, r, d, xs, n, kvs, x, dx, y, dy, rfl, _⟩ := h
    rfl
  · obtain ⟨p, r, d, xs, n, kvs, x, dd, y, dy, rfl, TA, hd, hsh, hy, q1, q0, q2, q3⟩ := h
    refine ⟨_, (pss_cons (ps_expr (pe_methN (pv 0) Y.cl G_check_column (hr.mono (by decide)) passE (pa_cons (pv 1) pa_nil)))
      (pss_cons (ps_expr (pe_callN G_check_place (hr.mono (by decide)) passE (pa_cons (pv 2) (pa_cons (pe_methN0 (pv 0) Y.cl G_many (hr.mono (by decide)) pass0) pa_nil))))
      (pss_one (ps_ret (pe_ix ix_list (pe_dget (hu_of hr) (pe_fld (pv 0) rfl) (pv 1) (fun _ _ => rfl)) (pv 2) (fun _ _ => rfl)))))), ?_⟩
    obtain ⟨⟨dx, h1⟩, h2, h3⟩ := id TA
    refine ⟨_, rfl, p, dx, _, rfl, h1, flds_no, _, rfl, p, r, d, xs, n, kvs, x, dd, rfl, TA, hd, hsh, (fun hc H1 s1 => ?_), fun hc H1 s1 => q2 hc H1 s1⟩
    have TB := TA.same s1
    refine ⟨_, rfl, _, rfl, p, dx, _, rfl, s1 _ _ h1, flds_no, p, r, d, xs, n, kvs, rfl, TB, y, dy, _, rfl, hy.same s1, (fun hp => ?_), fun hp => q3 hc hp H1 s1⟩
    obtain ⟨t, l, ys, i, v, rfl, hn, hv, hl, rfl, h0, hi, ha⟩ := q0 hc hp
    cases hd
    cases hy
    refine ⟨_, rfl, p, C, dx, _, _, rfl, s1 _ _ h1, Y.cl, Y.n_kept, flds_kept _ _ _, _, rfl, d, .ref l, rfl, hv ▸ DGet.k (k := Sum.inr t) (s1 _ _ h3), _, rfl, l, _, i, v, rfl, rfl, SqL.of (s1 _ _ hl), ha, ?_⟩
    exact q1 t l ys i v rfl hn hv hl rfl h0 hi ha H1 s1

def spPut (K : PySem.W.Frag) (C : Addr) (c : Ad) : Sp := fun vs H Q E => ∃ p r d xs n kvs x dx y dy z dz, vs = [.ref p, x, y, z] ∧ TabAt C H p r d xs n kvs ∧ Dt K H x dx ∧ shortS dx ∧ Dt K H y dy ∧ Dt K H z dz ∧ shortD dz ∧
  (colD kvs dx = true → placeD xs.length dy = true → valueD dz = true → ∃ t l ys i j, dx = .str t ∧ nameS t = true ∧ valV kvs (.inr t : Key) = some (.ref l) ∧ H l = some (.lst ys) ∧ dy = .int i ∧ ixN ys.length i = some j ∧ ∀ H', Same H H' → Q .non (upd H' l (.lst (ys.set j z)))) ∧
  (colD kvs dx = false → ∀ H', Same H H' → E (.ref c.NoColumn) none H') ∧ (colD kvs dx = true → placeD xs.length dy = false → ∀ H', Same H H' → E (.ref c.NoPlace) none H') ∧
  (colD kvs dx = true → placeD xs.length dy = true → valueD dz = false → ∀ H', Same H H' → E (.ref c.NoValue) none H')
theorem sc_Table_put : FnScope ["self", "column", "place", "value"] ["self", "column", "place", "value"] (defScope s_Table_put) := ⟨rfl, rfl, rfl, by decide +kernel, rfl, by decide +kernel, by decide +kernel⟩
theorem k_Table_put (T : Tops K mg) {c : Ad} (X : Excs K mg c) {C : Addr} (Y : TTable K mg C) : KnownM P w K mg base (CXE P w) 5 C "put" ["self", "column", "place", "value"] (spPut K C c) := by
  have G_check_column : KnownM P w K mg base (CXE P w) 2 C "check_column" ["self", "column"] (spCCol K C c) := k_Table_check_column T X Y
  have G_check_place : Known P w K mg base (CXE P w) 2 "check_place" ["place", "places"] (spPlace K c) := k_check_place T X
  have G_check_value : Known P w K mg base (CXE P w) 4 "check_value" ["value"] (spCValue K c) := k_check_value T X
  have G_many : KnownM P w K mg base CX0 1 C "many" ["self"] (spMany C) := k_Table_many T Y
  refine Y.m_put.knownE sc_Table_put (fun _ _ _ _ _ _ us hl => match us, hl with | [_, _, _, _], _ => rfl) (fun vs H Q E h => ?_) (fun f cdv A outer s H vs Q E hr h => ?_)
  · obtain ⟨p, r, d, xs, n, kvs, x, dx, y, dy, z, dz, rfl, _⟩ := h
    rfl
  · obtain ⟨p, r, d, xs, n, kvs, x, dd, y, dy, z, dz, rfl, TA, hd, hsh, hy, hz, hsz, q0, q2, q3, q4⟩ := h
    refine ⟨_, (pss_cons (ps_expr (pe_methN (pv 0) Y.cl G_check_column (hr.mono (by decide)) passE (pa_cons (pv 1) pa_nil)))
      (pss_cons (ps_expr (pe_callN G_check_place (hr.mono (by decide)) passE (pa_cons (pv 2) (pa_cons (pe_methN0 (pv 0) Y.cl G_many (hr.mono (by decide)) pass0) pa_nil))))
      (pss_cons (ps_expr (pe_callN G_check_value (hr.mono (by decide)) passE (pa_cons (pv 3) pa_nil)))
      (pss_one (ps_asg (pv 3) (pg_sub (pe_dget (hu_of hr) (pe_fld (pv 0) rfl) (pv 1) (fun _ _ => rfl)) (pv 2) set_list (fun _ => rfl))))))), ?_⟩
    obtain ⟨⟨dx, h1⟩, h2, h3⟩ := id TA
    refine ⟨_, rfl, p, dx, _, rfl, h1, flds_no, _, rfl, p, r, d, xs, n, kvs, x, dd, rfl, TA, hd, hsh, (fun hc H1 s1 => ?_), fun hc H1 s1 => q2 hc H1 s1⟩
    have TB := TA.same s1
    refine ⟨_, rfl, _, rfl, p, dx, _, rfl, s1 _ _ h1, flds_no, p, r, d, xs, n, kvs, rfl, TB, y, dy, _, rfl, hy.same s1, (fun hp => ?_), fun hp => q3 hc hp H1 s1⟩
    refine ⟨_, rfl, z, dz, rfl, hz.same s1, hsz, (fun hv H2 s2 => ?_), fun hv H2 s2 => q4 hc hp hv H2 (s1.trans s2)⟩
    have s12 := s1.trans s2
    obtain ⟨t, l, ys, i, j, rfl, hn, hvl, hl, rfl, hj, q⟩ := q0 hc hp hv
    cases hd
    cases hy
    refine ⟨_, rfl, _, rfl, p, C, dx, _, _, rfl, s12 _ _ h1, Y.cl, Y.n_kept, flds_kept _ _ _, _, rfl, d, .ref l, rfl, hvl ▸ DGet.k (k := Sum.inr t) (s12 _ _ h3), _, rfl, l, ys, i, j, rfl, rfl, s12 _ _ hl, hj, ?_⟩
    exact q H2 s12

def spGive (K : PySem.W.Frag) (C : Addr) (c : Ad) : Sp := fun vs H Q E => ∃ p r d xs n kvs x dx y dy, vs = [.ref p, x, y] ∧ TabAt C H p r d xs n kvs ∧ Dt K H x dx ∧ shortS dx ∧ Dt K H y dy ∧ (∀ ds, dy = .list ds → ds.length ≤ 1000 ∧ ∀ e ∈ ds, shortD e) ∧
  (∀ t, dx = .str t → nameS t = true → ((valV kvs (.inr t : Key)).isSome = true ∨ kvs.length < 8) → valuesD xs.length dy = true → kvs.length ≤ 1000 ∧ ∃ a ys, y = .ref a ∧ SqL K H a ys ∧
    ∀ H' l, Same H H' → H' l = none → Q .non (upd (upd H' l (.lst ys)) d (.dK (putK kvs (.inr t : Key) (.ref l))))) ∧
  (nameD dx = false → ∀ H', Same H H' → E (.ref c.NoName) none H') ∧ (∀ t, dx = .str t → nameS t = true → (valV kvs (.inr t : Key)) = none → 8 ≤ kvs.length → ∀ H', Same H H' → E (.ref c.TooMuch) none H') ∧
  (∀ t, dx = .str t → nameS t = true → ((valV kvs (.inr t : Key)).isSome = true ∨ kvs.length < 8) → valuesD xs.length dy = false → ∀ H', Same H H' → E (.ref c.NoValue) none H')
theorem sc_Table_give : FnScope ["self", "column", "values"] ["self", "column", "values"] (defScope s_Table_give) := ⟨rfl, rfl, rfl, by decide +kernel, rfl, by decide +kernel, by decide +kernel⟩
theorem k_Table_give (T : Tops K mg) {c : Ad} (X : Excs K mg c) {C : Addr} (Y : TTable K mg C) : KnownM P w K mg base (CXE P w) 5 C "give" ["self", "column", "values"] (spGive K C c) := by
  have G_is_name : Known P w K mg base CX0 1 "is_name" ["thing"] (spName K) := k_is_name T
  have G_check_values : Known P w K mg base (CXE P w) 4 "check_values" ["values", "many"] (spCValues K c) := k_check_values T X
  have G_many : KnownM P w K mg base CX0 1 C "many" ["self"] (spMany C) := k_Table_many T Y
  refine Y.m_give.knownE sc_Table_give (fun _ _ _ _ _ _ us hl => match us, hl with | [_, _, _], _ => rfl) (fun vs H Q E h => ?_) (fun f cdv A outer s H vs Q E hr h => ?_)
  · obtain ⟨p, r, d, xs, n, kvs, x, dx, y, dy, rfl, _⟩ := h
    rfl
  · obtain ⟨p, r, d, xs, n, kvs, x, dd, y, dy, rfl, TA, hd, hsh, hy, hsy, q0, q1, q2, q3⟩ := h
    have rest : ∃ t, PSs (bodyCx P w K mg base ["self", "column", "values"] "Table.give" (defScope s_Table_give) f cdv A outer s H E) ((defBody s_Table_give).drop 2) t ∧
        ∀ (t' : Str) (H1 : Hp), dd = .str t' → nameS t' = true → ((valV kvs (.inr t' : Key)).isSome = true ∨ kvs.length < 8) → Same H H1 → t { nx := fun _ H' => Q .non H', rt := Q } [some (.ref p), some x, some y] H1 := by
      refine ⟨_, (pss_cons (ps_expr (pe_callN G_check_values (hr.mono (by decide)) passE (pa_cons (pv 2) (pa_cons (pe_methN0 (pv 0) Y.cl G_many (hr.mono (by decide)) pass0) pa_nil))))
        (pss_one (ps_dput (hu_of hr) (pe_fld (pv 0) rfl) (pv 1) (pe_callTy call_list_of rfl T.list b_list (pa_cons (pv 2) pa_nil)) rfl))), fun t' H1 et hn hc s1 => ?_⟩
      subst et
      cases hd
      obtain ⟨⟨dx, h1⟩, h2, h3⟩ := TA.same s1
      refine ⟨_, rfl, _, rfl, p, dx, _, rfl, h1, flds_no, p, r, d, xs, n, kvs, rfl, TA.same s1, y, dy, _, rfl, hy.same s1, hsy, (fun hv H2 s2 => ?_), fun hv H2 s2 => q3 t' rfl hn hc hv H2 (s1.trans s2)⟩
      have s12 := s1.trans s2
      obtain ⟨hk, a, ys, rfl, hs, q⟩ := q0 t' rfl hn hc hv
      refine ⟨_, rfl, a, ys, rfl, .inl (s12.seq hs), fun l hl => ?_⟩
      have c1 : Same H2 (upd H2 l (.lst ys)) := Same.new hl
      refine ⟨_, rfl, p, C, dx, _, _, rfl, c1 _ _ (s2 _ _ h1), Y.cl, Y.n_kept, flds_kept _ _ _, _, rfl, d, _, rfl, DPut.k (k := Sum.inr t') (c1 _ _ (s2 _ _ h3)) (small1000 hk), ?_⟩
      exact q H2 l s12 hl
    obtain ⟨t2, ht2, r2⟩ := rest
    refine ⟨_, (pss_cons (ps_if (pt_not (pt_val (pe_callN G_is_name (hr.mono (by decide)) pass0 (pa_cons (pv 1) pa_nil)) (fun _ => rfl))) (pss_one (ps_raise X.c_NoName X.x_NoName (pa_cons pe_str pa_nil))) pss_nil)
      (pss_cons (ps_if (PW.pt (pw_and (pt_cmp (pc_dnotin (hu_of hr) (pv 1) (pe_fld (pv 0) rfl))) (pw_and1 (pt_cmpR op_ge (pe_callB call_lenD rfl T.len b_len (pa_cons (pe_fld (pv 0) rfl) pa_nil)) (pe_gI T.g_MOST_COLUMNS) (nomark _))))) (pss_one (ps_raise X.c_TooMuch X.x_TooMuch (pa_cons pe_str pa_nil))) pss_nil)
      ht2)), ?_⟩
    refine ⟨_, rfl, x, dd, rfl, hd, hsh, fun H1 s1 => ⟨_, rfl, ?_⟩⟩
    refine ite2 (fun h1 => ?_) (fun h1 => ?_)
    · exact ⟨sl, q1 (by simpa using h1) H1 s1⟩
    · have hk : nameD dd = true := by simpa using h1
      obtain ⟨t, rfl⟩ : ∃ t, dd = .str t := by cases dd <;> simp [nameD] at hk ⊢
      cases hd
      obtain ⟨⟨dx, h2⟩, _, h3⟩ := TA.same s1
      refine ⟨_, rfl, _, rfl, p, C, dx, _, _, rfl, h2, Y.cl, Y.n_kept, flds_kept _ _ _, d, _, rfl, DGet.k (k := Sum.inr t) h3, _, rfl, ?_⟩
      cases e : valV kvs (Sum.inr t : Key) with
      | some v =>
        refine iteF (iteF ?_)
        exact r2 t H1 rfl hk (.inl (by rw [e]; rfl)) s1
      | none =>
        refine iteT ?_
        refine ⟨_, rfl, p, C, dx, _, _, rfl, h2, Y.cl, Y.n_kept, flds_kept _ _ _, d, kvs, rfl, h3, _, _, rfl, rfl, _, rfl, ?_⟩
        refine ite2 (fun h4 => ?_) (fun h4 => ?_)
        · have h4' : (8 : Int) ≤ kvs.length := by simpa using h4
          exact ⟨sl, q2 t rfl hk e (by omega) H1 s1⟩
        · have h4' : ¬ (8 : Int) ≤ kvs.length := by simpa using h4
          exact r2 t H1 rfl hk (.inr (by omega)) s1
end
end My

namespace My
open PySem L2
section
variable {P : Program} {w : World} {K : PySem.W.Frag} {mg : Str → Option Value} {base : Heap}
def spDrop (K : PySem.W.Frag) (C : Addr) (c : Ad) : Sp := fun vs H Q E => ∃ p r d xs n kvs x dx, vs = [.ref p, x] ∧ TabAt C H p r d xs n kvs ∧ Dt K H x dx ∧ shortS dx ∧
  (∀ t, dx = .str t → nameS t = true → (valV kvs (.inr t : Key)).isSome = true → ∀ H', Same H H' → Q .non (upd H' d (.dK (dropK kvs (.inr t : Key))))) ∧ (colD kvs dx = false → ∀ H', Same H H' → E (.ref c.NoColumn) none H')
theorem sc_Table_drop : FnScope ["self", "column"] ["self", "column"] (defScope s_Table_drop) := ⟨rfl, rfl, rfl, by decide +kernel, rfl, by decide +kernel, by decide +kernel⟩
theorem k_Table_drop (T : Tops K mg) {c : Ad} (X : Excs K mg c) {C : Addr} (Y : TTable K mg C) : KnownM P w K mg base (CXE P w) 3 C "drop" ["self", "column"] (spDrop K C c) := by
  have G_check_column : KnownM P w K mg base (CXE P w) 2 C "check_column" ["self", "column"] (spCCol K C c) := k_Table_check_column T X Y
  refine Y.m_drop.knownE sc_Table_drop (fun _ _ _ _ _ _ us hl => match us, hl with | [_, _], _ => rfl) (fun vs H Q E h => ?_) (fun f cdv A outer s H vs Q E hr h => ?_)
  · obtain ⟨p, r, d, xs, n, kvs, x, dx, rfl, _⟩ := h
    rfl
  · obtain ⟨p, r, d, xs, n, kvs, x, dd, rfl, TA, hd, hsh, q1, q2⟩ := h
    refine ⟨_, (pss_cons (ps_expr (pe_methN (pv 0) Y.cl G_check_column (hr.mono (by decide)) passE (pa_cons (pv 1) pa_nil)))
      (pss_one (ps_expr (pe_dpop1 (pe_fld (pv 0) rfl) (pv 1) ⟨rfl, rfl, rfl, rfl⟩)))), ?_⟩
    obtain ⟨⟨dx, h1⟩, h2, h3⟩ := id TA
    refine ⟨_, rfl, p, dx, _, rfl, h1, flds_no, _, rfl, p, r, d, xs, n, kvs, x, dd, rfl, TA, hd, hsh, (fun hc H1 s1 => ?_), fun hc H1 s1 => q2 hc H1 s1⟩
    obtain ⟨t, rfl, hn, hv⟩ : ∃ t, dd = .str t ∧ nameS t = true ∧ (valV kvs (.inr t : Key)).isSome = true := by
      cases dd with
      | str t => exact ⟨t, rfl, (Bool.and_eq_true _ _ ▸ hc : _ ∧ _).1, (Bool.and_eq_true _ _ ▸ hc : _ ∧ _).2⟩
      | _ => cases hc
    cases hd
    obtain ⟨v, ev⟩ := Option.isSome_iff_exists.mp hv
    refine ⟨_, rfl, p, C, dx, _, _, rfl, s1 _ _ h1, Y.cl, Y.n_kept, flds_kept _ _ _, d, rfl, .inl ⟨_, .inl (s1 _ _ h3)⟩, _, rfl, kvs, Sum.inr t, v, s1 _ _ h3, rfl, ev, ?_⟩
    exact q1 t rfl hn hv H1 s1
end
end My

namespace My
open PySem L2
abbrev F60 : Int := 10 ^ (60 : Int).toNat
theorem F60_pos : (0 : Int) < F60 := by decide +kernel
/-- what a value's data are like -/
def ValOk (d : PyData) : Prop := valueD d = true ∧ d.canLay0 = true ∧ d.depth ≤ 64 ∧ kdD d ≠ .bl ∧ shortD d
/-- a value, by its own: a number, or a tuple of the heap -/
def Vd (H : Hp) (v : V) (d : PyData) : Prop := ValOk d ∧ ((∃ i, v = .int i ∧ d = .int i) ∨ ∃ p t, v = .ref p ∧ d = .tuple [.str "fault", .str t] ∧ H p = some (.tup [.str "fault", .str t]))
theorem Vd.dt {K : PySem.W.Frag} {H : Hp} {v : V} {d : PyData} (h : Vd H v d) : Dt K H v d := by
  obtain ⟨_, ⟨i, rfl, rfl⟩ | ⟨p, t, rfl, rfl, e⟩⟩ := h
  · exact .int i
  · exact .tup (SqT.of e) (.cons (.str _) (.cons (.str _) .nil))
/-- tuples stay -/
def Tups (H H' : Hp) : Prop := ∀ b xs, H b = some (.tup xs) → H' b = some (.tup xs)
theorem Vd.keep {H H' : Hp} {v : V} {d : PyData} (h : Vd H v d) (k : Tups H H') : Vd H' v d := by
  obtain ⟨ok, ⟨i, rfl, rfl⟩ | ⟨p, t, rfl, rfl, e⟩⟩ := h
  · exact ⟨ok, .inl ⟨i, rfl, rfl⟩⟩
  · exact ⟨ok, .inr ⟨p, t, rfl, rfl, k _ _ e⟩⟩
theorem Tups.same {H H' : Hp} (s : Same H H') : Tups H H' := fun b xs e => s b _ e
theorem Tups.upd {H : Hp} {a : Addr} {o u : HO} (h : H a = some o) (ho : ∀ xs, o ≠ .tup xs) : Tups H (L2.upd H a u) := fun b xs e => by
  rw [upd_ne (ne_of e h (fun z => ho xs z.symm))]
  exact e
/-- values, one by one -/
inductive VdAll (H : Hp) : List V → List PyData → Prop
  | nil : VdAll H [] []
  | cons {v : V} {d : PyData} {vs : List V} {ds : List PyData} : Vd H v d → VdAll H vs ds → VdAll H (v :: vs) (d :: ds)
theorem VdAll.dt {K : PySem.W.Frag} {H : Hp} : ∀ {vs : List V} {ds : List PyData}, VdAll H vs ds → DtAll K H vs ds
  | _, _, .nil => .nil
  | _, _, .cons h t => .cons h.dt t.dt
theorem VdAll.keep {H H' : Hp} (k : Tups H H') : ∀ {vs : List V} {ds : List PyData}, VdAll H vs ds → VdAll H' vs ds
  | _, _, .nil => .nil
  | _, _, .cons h t => .cons (h.keep k) (t.keep k)
theorem VdAll.ok {H : Hp} : ∀ {vs : List V} {ds : List PyData}, VdAll H vs ds → ∀ d ∈ ds, ValOk d
  | _, _, .nil, d, h => by cases h
  | _, _, .cons h t, d, hd => by
    rcases List.mem_cons.mp hd with rfl | hd
    · exact h.1
    · exact t.ok d hd
theorem VdAll.length {H : Hp} : ∀ {vs : List V} {ds : List PyData}, VdAll H vs ds → vs.length = ds.length
  | _, _, .nil => rfl
  | _, _, .cons _ t => by rw [List.length_cons, List.length_cons, t.length]
theorem VdAll.snoc {H : Hp} {v : V} {d : PyData} (h : Vd H v d) : ∀ {vs : List V} {ds : List PyData}, VdAll H vs ds → VdAll H (vs ++ [v]) (ds ++ [d])
  | _, _, .nil => .cons h .nil
  | _, _, .cons h' t => .cons h' (t.snoc h)
theorem VdAll.values {H : Hp} {vs : List V} {ds : List PyData} {m : Int} (h : VdAll H vs ds) (hl : (ds.length : Int) = m) : valuesD m (.list ds) = true := by
  show (decide ((ds.length : Int) = m) && ds.all valueD) = true
  rw [decide_eq_true hl, Bool.true_and, List.all_eq_true]
  exact fun d hd => (h.ok d hd).1
theorem ok_int {i : Int} (h1 : -F60 < i) (h2 : i < F60) : ValOk (.int i) := by
  have pos := F60_pos
  refine ⟨?_, rfl, (by simp [PyData.depth]), (by intro z; cases z), shortD_not (by intro z; cases z)⟩
  unfold valueD
  have : numD (.int i) = true := by
    show decide ((if i < 0 then -i else i) < F60) = true
    generalize F60 = F at *
    rw [decide_eq_true_eq]
    split <;> omega
  rw [this, Bool.true_or]
theorem ok_fault {cs : List Nat} (hw : Word cs) : ValOk (.tuple [.str "fault", .str ⟨cs.toArray⟩]) := by
  have hl := lay_text fun c hc => let_lt c (hw.2.2 c hc)
  refine ⟨?_, ?_, (by simp [PyData.depth, PyData.depthAll]), (by intro z; cases z), shortD_tup fun e he => ?_⟩
  · show (false || (decide (("fault" : Str) = "fault") && nameS ⟨cs.toArray⟩)) = true
    rw [hw.name]
    decide
  · have f : PyData.canLay0 (.str "fault") = true := by decide +kernel
    rw [PyData.canLay0, PyData.canLayAll0, PyData.canLayAll0, PyData.canLayAll0, f, hl]
    rfl
  · simp only [List.mem_cons, List.not_mem_nil, or_false] at he
    rcases he with rfl | rfl
    · exact shortS_str (by decide +kernel)
    · exact shortS_str (by have := hw.short; omega)
theorem mul_word (c : Nat) (n : Int) : Txt.mul ⟨#[c]⟩ n = ⟨(List.replicate n.toNat c).toArray⟩ := by
  have e := PyProof.Rows.mul_one_list c n
  generalize Txt.mul ⟨#[c]⟩ n = z at e
  obtain ⟨⟨l⟩⟩ := z
  have e' : l = List.replicate n.toNat c := e
  rw [e']
section
variable {P : Program} {w : World} {K : PySem.W.Frag} {mg : Str → Option Value} {base : Heap}
def spVal : Sp := fun vs H Q _ => ∃ n, vs = [.int n] ∧ ∀ v d H', Same H H' → Vd H' v d → Q v H'
theorem sc_law_value : FnScope ["_law_cell_here", "_law_far"] ["_law_cell_here"] (defScope s_law_value) := ⟨rfl, rfl, rfl, by decide +kernel, rfl, by decide +kernel, by decide +kernel⟩
theorem k_law_value (T : Tops K mg) : Known P w K mg base CX0 1 "_law_value" ["_law_cell_here"] spVal := by
  refine T.d_law_value.known sc_law_value (fun _ _ _ _ _ _ us hl => match us, hl with | [_], _ => rfl) (fun vs H Q E h => ?_) (fun f cdv A outer s H vs Q E hr h => ?_)
  · obtain ⟨n, rfl, _⟩ := h
    rfl
  · obtain ⟨n, rfl, q⟩ := h
    refine ⟨_, (pss_cons (ps_set (i := 1) sc_law_value.nd rfl (Or.inl rfl) (pe_op op_sub (pe_op op_pow pe_int pe_int) pe_int))
      (pss_cons (ps_if (pt_cmpR op_eq (pe_op op_mod (pv 0) pe_int) pe_int (nomark _)) (pss_one (ps_ret (pe_tup (pa_cons pe_str (pa_cons (pe_op op_mul_str (pe_ix ix_str pe_str (pe_op op_mod (pe_op op_fdiv (pv 0) pe_int) pe_int) (fun _ _ => rfl)) (pe_op op_add pe_int (pe_op op_mod (pe_op op_fdiv (pv 0) pe_int) pe_int))) pa_nil))))) pss_nil)
      (pss_cons (ps_if (pt_cmpR op_eq (pe_op op_mod (pv 0) pe_int) pe_int (nomark _)) (pss_one (ps_ret (pe_op op_sub (pe_op op_mod (pe_op op_fdiv (pv 0) pe_int) (pe_op op_add (pe_op op_mul pe_int (pv 1)) pe_int)) (pv 1)))) pss_nil)
      (pss_one (ps_ret (pe_op op_sub (pe_op op_mod (pe_op op_fdiv (pv 0) pe_int) pe_int) pe_int)))))), ?_⟩
    have pos := F60_pos
    refine ⟨_, _, rfl, rfl, ⟨by decide, by decide, by decide⟩, _, _, rfl, rfl, ?_⟩
    refine ⟨_, rfl, _, _, rfl, rfl, (show (0 : Int) < 5 by decide), rfl, _, rfl, ?_⟩
    refine ite2 (fun _ => ?_) (fun _ => ?_)
    · have hd0 := Int.emod_nonneg (n / 5) (show (26 : Int) ≠ 0 by decide)
      have hd1 := Int.emod_lt_of_pos (n / 5) (show (0 : Int) < 26 by decide)
      have he0 := Int.emod_nonneg (n / 130) (show (8 : Int) ≠ 0 by decide)
      have he1 := Int.emod_lt_of_pos (n / 130) (show (0 : Int) < 8 by decide)
      obtain ⟨c, hat, hcm⟩ := at_some letters.cps.toList (n / 5 % 26) hd0 (by rw [let_len]; exact hd1)
      refine ⟨_, rfl, _, _, rfl, rfl, ⟨by decide, by decide⟩, _, _, rfl, rfl, (show (0 : Int) < 26 by decide), letters, _, c, rfl, rfl, (by decide +kernel), hat, ?_⟩
      refine ⟨_, rfl, _, _, rfl, rfl, ⟨by decide, by decide⟩, _, _, rfl, rfl, (show (0 : Int) < 8 by decide), _, _, rfl, rfl, _, _, rfl, rfl, (show (1 : Nat) ≤ 64 by decide), by omega, by omega, sl, fun p hp => ?_⟩
      have hw : Word (List.replicate (1 + n / 130 % 8).toNat c) := ⟨by rw [List.length_replicate]; omega, by rw [List.length_replicate]; omega, fun z hz => by rw [(List.mem_replicate.mp hz).2]; exact List.mem_of_getElem? hcm⟩
      refine q _ (.tuple [.str "fault", .str ⟨(List.replicate (1 + n / 130 % 8).toNat c).toArray⟩]) _ (Same.new hp) ⟨ok_fault hw, .inr ⟨p, _, rfl, rfl, ?_⟩⟩
      rw [upd_same, ← mul_word]
    · refine ⟨_, rfl, _, _, rfl, rfl, (show (0 : Int) < 5 by decide), rfl, _, rfl, ?_⟩
      refine ite2 (fun _ => ?_) (fun _ => ?_)
      · have hn0 := Int.emod_nonneg (n / 5) (show 2 * (F60 - 1) + 1 ≠ 0 by decide +kernel)
        have hn1 := Int.emod_lt_of_pos (n / 5) (show 0 < 2 * (F60 - 1) + 1 by decide +kernel)
        refine ⟨_, rfl, _, _, rfl, rfl, ⟨by decide, by decide⟩, _, rfl, _, _, rfl, rfl, .inl ⟨by decide, by decide⟩, _, _, rfl, rfl, _, _, rfl, rfl, (show (0 : Int) < 2 * (F60 - 1) + 1 by decide +kernel), _, rfl, _, _, rfl, rfl, ?_⟩
        exact q _ (.int _) H (Same.refl H) ⟨ok_int (by show -F60 < n / 5 % (2 * (F60 - 1) + 1) - (F60 - 1); generalize F60 = F at *; omega) (by show n / 5 % (2 * (F60 - 1) + 1) - (F60 - 1) < F60; generalize F60 = F at *; omega), .inl ⟨_, rfl, rfl⟩⟩
      · have hn0 := Int.emod_nonneg (n / 5) (show (21 : Int) ≠ 0 by decide)
        have hn1 := Int.emod_lt_of_pos (n / 5) (show (0 : Int) < 21 by decide)
        have big : (100 : Int) < F60 := by decide +kernel
        refine ⟨_, rfl, _, _, rfl, rfl, ⟨by decide, by decide⟩, _, _, rfl, rfl, (show (0 : Int) < 21 by decide), _, _, rfl, rfl, ?_⟩
        exact q _ (.int _) H (Same.refl H) ⟨ok_int (by generalize F60 = F at *; omega) (by generalize F60 = F at *; omega), .inl ⟨_, rfl, rfl⟩⟩
end
end My

namespace My
open PySem L2
theorem nameS_of {t : Str} (h1 : 1 ≤ t.length) (h2 : t.length ≤ 8) (h3 : ∀ c ∈ t.cps.toList, c ∈ letters.cps.toList) : nameS t = true := by
  unfold nameS
  have a1 : decide ((1 : Int) ≤ t.length) = true := by rw [decide_eq_true_eq]; omega
  have a2 : decide ((t.length : Int) ≤ 8) = true := by rw [decide_eq_true_eq]; omega
  have a3 : t.cps.toList.all inL = true := by
    rw [List.all_eq_true]
    intro c hc
    exact let_in c (h3 c hc)
  rw [a1, a2, a3]
  rfl
/-- a name, by its letters -/
def Nm (t : Str) : Prop := nameS t = true ∧ t.length ≤ 8 ∧ ∀ c ∈ t.cps.toList, c ∈ letters.cps.toList
theorem Nm.of {t : Str} (h1 : 1 ≤ t.length) (h2 : t.length ≤ 8) (h3 : ∀ c ∈ t.cps.toList, c ∈ letters.cps.toList) : Nm t := ⟨nameS_of h1 h2 h3, h2, h3⟩
theorem Nm.lay {z : Str} (h : Nm z) : PyData.canLay0 (.str z) = true := by
  obtain ⟨⟨l⟩⟩ := z
  exact lay_text fun c hc => let_lt c (h.2.2 c hc)
theorem cat_len (a b : Str) : (a ++ b).length = a.length + b.length := by
  show (a.cps ++ b.cps).size = _
  rw [Array.size_append]
  rfl
theorem cat_mem {a b : Str} {c : Nat} (h : c ∈ (a ++ b).cps.toList) : c ∈ a.cps.toList ∨ c ∈ b.cps.toList := by
  have h' : c ∈ (a.cps ++ b.cps).toList := h
  rwa [Array.toList_append, List.mem_append] at h'
section
variable {P : Program} {w : World} {K : PySem.W.Frag} {mg : Str → Option Value} {base : Heap}
def spNames (K : PySem.W.Frag) : Sp := fun vs H Q _ => ∃ (a : Addr) (ns : List Int), vs = [.ref a] ∧ SqL K H a (ns.map V.int) ∧ ns.length ≤ 63 ∧ ∀ H' p (zs : List Str), Same H H' → H' p = some (.lst (zs.map V.str)) → zs.length = 5 → (∀ z ∈ zs, Nm z) → Q (.ref p) H'
abbrev Nnames : List Str := ["_law_script", "_law_cell_here", "_law_letters", "_law_stem", "_law_size", "_law_at", "_law_names_here", "_law_k", "_law_sign"]
theorem sc_law_names : FnScope Nnames ["_law_script"] (defScope s_law_names) := ⟨rfl, rfl, rfl, by decide +kernel, rfl, by decide +kernel, by decide +kernel⟩
theorem k_law_names (T : Tops K mg) : Known P w K mg base CX0 2 "_law_names" ["_law_script"] (spNames K) := by
  have G_law_cell : Known P w K mg base CX0 1 "_law_cell" ["_law_script", "_law_k"] (spCell K) := k_law_cell T
  refine T.d_law_names.known sc_law_names (fun _ _ _ _ _ _ us hl => match us, hl with | [_], _ => rfl) (fun vs H Q E h => ?_) (fun f cdv A outer s H vs Q E hr h => ?_)
  · obtain ⟨a, ns, rfl, _⟩ := h
    rfl
  · obtain ⟨a, ns, rfl, hS, hl, q⟩ := h
    have hcl : ∀ x, (cxOf CX0 P w K mg base Nnames "_law_names" (defScope s_law_names) f cdv A outer s H E).nox.env.scope.names.lookup x = some .cell → ∃ c, (cxOf CX0 P w K mg base Nnames "_law_names" (defScope s_law_names) f cdv A outer s H E).nox.env.cells.lookup x = some c := fun x hx => Option.isSome_iff_exists.mp (PySem.W.cellsFrom_some _ _ _ (.inl hx))
    have rest : ∃ t, PSs (cxOf CX0 P w K mg base Nnames "_law_names" (defScope s_law_names) f cdv A outer s H E).nox ((defBody s_law_names).drop 3) t ∧
        ∀ (n : Int) (st : Str) (H1 : Hp), 0 ≤ n → st.length = 5 → (∀ c ∈ st.cps.toList, c ∈ letters.cps.toList) → Same H H1 → t { nx := fun _ H' => Q .non H', rt := Q } [some (.ref a), some (.int n), some (.str letters), some (.str st), none, none, none, none, none] H1 := by
      refine ⟨_, (pss_cons (ps_if (pt_cmpR op_eq (pe_op op_mod (pv 1) pe_int) pe_int (nomark _)) (pss_one (ps_ret (pe_comp (caps_of (sc := defScope s_law_names) (N := Nnames) (cp := [(3, "_law_stem")]) hcl) rfl rfl (by decide) (pi_range1 rfl T.range (pa_cons pe_int pa_nil)) (fun _ _ _ _ _ => pts_nil) (fun _ _ _ _ _ => (pe_slice sl_str (pv 1) po_none (po_some (pe_op op_add (pv 0) pe_int))))))) pss_nil)
      (pss_cons (ps_set (i := 4) sc_law_names.nd rfl (by first | exact Or.inl rfl | exact Or.inr rfl) (pe_op op_mod (pe_op op_fdiv (pv 1) pe_int) pe_int))
      (pss_cons (ps_set (i := 5) sc_law_names.nd rfl (by first | exact Or.inl rfl | exact Or.inr rfl) (pe_op op_mod (pe_op op_fdiv (pv 1) pe_int) (pe_op op_add (pv 4) pe_int)))
      (pss_cons (ps_set (i := 3) sc_law_names.nd rfl (by first | exact Or.inl rfl | exact Or.inr rfl) (pe_op op_add_str (pv 3) (pv 3)))
      (pss_cons (ps_set (i := 6) sc_law_names.nd rfl (by first | exact Or.inl rfl | exact Or.inr rfl) (pe_lst pa_nil))
      (pss_cons (ps_for PassesOwn.never rfl (pi_range1 rfl T.range (pa_cons pe_int pa_nil)) (pg_name (i := 7) sc_law_names.nd rfl (by first | exact Or.inl rfl | exact Or.inr rfl)) (pss_cons (ps_set (i := 8) sc_law_names.nd rfl (by first | exact Or.inl rfl | exact Or.inr rfl) (pe_ix ix_str (pv 2) (pe_op op_mod (pe_op op_add (pe_op op_fdiv (pv 1) pe_int) (pe_op op_mul pe_int (pv 7))) pe_int) (fun _ _ => rfl)))
      (pss_one (ps_expr (pe_bm PySem.F.plainAttrs_list PySem.F.slot_list_append PySem.F.type_list_append mt_append (pv 6) (pa_cons (pe_op op_add_str (pe_op op_add_str (pe_slice sl_str (pv 3) po_none (po_some (pv 5))) (pv 8)) (pe_slice sl_str (pv 3) (po_some (pv 5)) (po_some (pv 4)))) pa_nil))))))
      (pss_one (ps_ret (pv 6))))))))), fun n st H1 hn h5 hin s1 => ?_⟩
      refine ⟨_, rfl, _, _, rfl, rfl, (show (0 : Int) < 3 by decide), rfl, _, rfl, ?_⟩
      refine ite2 (fun _ => ?_) (fun _ => ?_)
      · refine ⟨5, rfl, by decide, by decide, fun D hD => ?_⟩
        refine comp_range (lo := 0) (n := 5) (fun i ys H2 => ∃ zs : List Str, ys = zs.map V.str ∧ zs.length = i ∧ (∀ z ∈ zs, Nm z) ∧ Same H1 H2) ⟨[], rfl, rfl, (fun _ h => by cases h), Same.new hD⟩ ?_ ?_
        · rintro i ys H2 hi h2 ⟨zs, rfl, hz, hall, s2⟩
          have e : (0 + (i : Int) + 1) = ((i + 1 : Nat) : Int) := by omega
          have el : (Txt.slice st none (some (0 + (i : Int) + 1))).length = i + 1 := by
            rw [slice_0, e, slice_len (Nat.zero_le _) (by omega)]
            omega
          refine ⟨_, rfl, _, rfl, _, _, rfl, rfl, _, rfl, st, rfl, sl (by omega), h2, ?_, zs ++ [Txt.slice st none (some (0 + (i : Int) + 1))], by rw [List.map_append]; rfl, by rw [List.length_append, hz]; rfl, ?_, s2.on hD⟩
          · rw [List.length_map, hz]
            exact small1000 (by omega)
          · intro z hz'
            rcases List.mem_append.mp hz' with hz' | hz'
            · exact hall z hz'
            · rw [List.mem_singleton.mp hz']
              exact Nm.of (by rw [el]; omega) (by rw [el]; omega) (fun c hc => hin c (slice_mem hc))
        · rintro ys H2 h2 ⟨zs, rfl, hz, hall, s2⟩
          exact q H2 D zs (s1.trans s2) h2 hz hall
      · have z0 := Int.emod_nonneg (n / 3) (show (8 : Int) ≠ 0 by decide)
        have z1 := Int.emod_lt_of_pos (n / 3) (show (0 : Int) < 8 by decide)
        have y0 := Int.emod_nonneg (n / 24) (show n / 3 % 8 + 1 ≠ 0 by omega)
        have y1 := Int.emod_lt_of_pos (n / 24) (show 0 < n / 3 % 8 + 1 by omega)
        refine ⟨_, rfl, _, _, rfl, rfl, ⟨by decide, by decide⟩, _, _, rfl, rfl, (show (0 : Int) < 8 by decide), ?_⟩
        refine ⟨_, rfl, _, _, rfl, rfl, ⟨by decide, by decide⟩, _, rfl, _, _, rfl, rfl, _, _, rfl, rfl, (show 0 < n / 3 % 8 + 1 by omega), ?_⟩
        refine ⟨_, rfl, _, rfl, _, _, rfl, rfl, sl (by omega), sl, fun p hp => ?_⟩
        obtain ⟨sz, hsz, esz⟩ : ∃ k : Nat, k ≤ 7 ∧ n / 3 % 8 = (k : Int) := ⟨(n / 3 % 8).toNat, by omega, by omega⟩
        obtain ⟨at', hat', eat⟩ : ∃ k : Nat, k ≤ sz ∧ n / 24 % (n / 3 % 8 + 1) = (k : Int) := ⟨(n / 24 % (n / 3 % 8 + 1)).toNat, by omega, by omega⟩
        have l2 : (st ++ st).length = 10 := by rw [cat_len]; omega
        have in2 : ∀ c ∈ (st ++ st).cps.toList, c ∈ letters.cps.toList := fun c hc => (cat_mem hc).elim (hin c) (hin c)
        refine ⟨5, rfl, by decide, by decide, ?_⟩
        refine for_range (lo := 0) (n := 5) (fun i σ H2 => ∃ (zs : List Str) (o1 o2 : Option V), σ = [some (.ref a), some (.int n), some (.str letters), some (.str (st ++ st)), some (.int (n / 3 % 8)), some (.int (n / 24 % (n / 3 % 8 + 1))), some (.ref p), o1, o2] ∧ Same H1 H2 ∧ H2 p = some (.lst (zs.map V.str)) ∧ zs.length = i ∧ ∀ z ∈ zs, Nm z) ⟨[], _, _, rfl, Same.new hp, upd_same, rfl, fun _ h => by cases h⟩ ?_ ?_
        · rintro i σ H2 hi ⟨zs, o1, o2, rfl, s2, h2, hz, hall⟩
          have d0 := Int.emod_nonneg (n / 216 + 5 * (0 + (i : Int))) (show (26 : Int) ≠ 0 by decide)
          have d1 := Int.emod_lt_of_pos (n / 216 + 5 * (0 + (i : Int))) (show (0 : Int) < 26 by decide)
          obtain ⟨c, hat, hcm⟩ := at_some letters.cps.toList ((n / 216 + 5 * (0 + (i : Int))) % 26) d0 (by rw [let_len]; exact d1)
          have ea : (Txt.slice (st ++ st) none (some (n / 24 % (n / 3 % 8 + 1)))).length = at' := by
            rw [eat, slice_0, slice_len (Nat.zero_le _) (by omega)]
            omega
          have eb : (Txt.slice (st ++ st) (some (n / 24 % (n / 3 % 8 + 1))) (some (n / 3 % 8))).length = sz - at' := by
            rw [eat, esz, slice_len hat' (by omega)]
          have ec : (⟨#[c]⟩ : Str).length = 1 := rfl
          refine ⟨_, rfl, _, rfl, _, _, rfl, rfl, ⟨by decide, by decide⟩, _, rfl, _, _, rfl, rfl, .inl ⟨by decide, by decide⟩, _, _, rfl, rfl, _, _, rfl, rfl, (show (0 : Int) < 26 by decide), letters, _, c, rfl, rfl, (by decide +kernel), hat, ?_⟩
          refine ⟨_, rfl, .inl ⟨rfl, _, SqL.of h2⟩, _, rfl, _, rfl, _, rfl, _, rfl, sl (by omega), _, rfl, _, _, rfl, rfl, sl (by rw [ea, ec]; omega), ?_⟩
          refine ⟨_, rfl, _, rfl, _, rfl, _, rfl, _, rfl, _, rfl, sl (by omega), _, _, rfl, rfl, sl (by rw [cat_len, ea, eb, ec]; omega), p, _, _, rfl, rfl, h2, ?_, ?_⟩
          · rw [List.length_map, hz]
            exact small1000 (by omega)
          · refine ⟨zs ++ [Txt.slice (st ++ st) none (some (n / 24 % (n / 3 % 8 + 1))) ++ ⟨#[c]⟩ ++ Txt.slice (st ++ st) (some (n / 24 % (n / 3 % 8 + 1))) (some (n / 3 % 8))], _, _, rfl, s2.on hp, by rw [upd_same, List.map_append]; rfl, by rw [List.length_append, hz]; rfl, fun z hz' => ?_⟩
            rcases List.mem_append.mp hz' with hz' | hz'
            · exact hall z hz'
            · rw [List.mem_singleton.mp hz']
              have el : (Txt.slice (st ++ st) none (some (n / 24 % (n / 3 % 8 + 1))) ++ ⟨#[c]⟩ ++ Txt.slice (st ++ st) (some (n / 24 % (n / 3 % 8 + 1))) (some (n / 3 % 8))).length = sz + 1 := by
                rw [cat_len, cat_len, ea, eb, ec]
                omega
              refine Nm.of (by rw [el]; omega) (by rw [el]; omega) (fun k hk => ?_)
              rcases cat_mem hk with hk | hk
              · rcases cat_mem hk with hk | hk
                · exact in2 k (slice_mem hk)
                · have : k = c := by simpa using hk
                  rw [this]
                  exact List.mem_of_getElem? hcm
              · exact in2 k (slice_mem hk)
        · rintro σ H2 ⟨zs, o1, o2, rfl, s2, h2, hz, hall⟩
          exact ⟨_, rfl, q H2 p zs (s1.trans s2) h2 hz hall⟩
    obtain ⟨t2, ht2, q2⟩ := rest
    refine ⟨_, (pss_cons (ps_set (i := 1) sc_law_names.nd rfl (by first | exact Or.inl rfl | exact Or.inr rfl) (pe_op op_mod (pe_callN G_law_cell (hr.mono (by decide)) pass0 (pa_cons (pv 0) (pa_cons pe_int pa_nil))) pe_int))
      (pss_cons (ps_set (i := 2) sc_law_names.nd rfl (by first | exact Or.inl rfl | exact Or.inr rfl) pe_str)
      (pss_cons (ps_set (i := 3) sc_law_names.nd rfl (by first | exact Or.inl rfl | exact Or.inr rfl) (pe_bm PySem.F.plainAttrs_str PySem.F.slot_str_join PySem.F.type_str_join mt_join pe_str (pa_cons (pe_comp (caps_of (sc := defScope s_law_names) (N := Nnames) (cp := [(2, "_law_letters"), (1, "_law_cell_here")]) hcl) rfl rfl (by decide) (pi_range1 rfl T.range (pa_cons pe_int pa_nil)) (fun _ _ _ _ _ => pts_nil) (fun _ _ _ _ _ => (pe_ix ix_str (pv 1) (pe_op op_mod (pe_op op_fdiv (pv 2) (pe_op op_add (pv 0) pe_int)) pe_int) (fun _ _ => rfl)))) pa_nil)))
      ht2))), ?_⟩
    have n0 := Int.emod_nonneg (cellZ ns 1) (show (1000003 : Int) ≠ 0 by decide)
    refine ⟨_, rfl, a, ns, 1, rfl, hS, hl, by decide, by decide, _, _, rfl, rfl, (show (0 : Int) < 1000003 by decide), ?_⟩
    refine ⟨rfl, 5, rfl, by decide, by decide, fun D hD => ?_⟩
    refine comp_range (lo := 0) (n := 5) (fun i ys H2 => ∃ cs : List Nat, ys = (cs.map one).map V.str ∧ cs.length = i ∧ (∀ c ∈ cs, c ∈ letters.cps.toList) ∧ Same H H2) ⟨[], rfl, rfl, (fun _ h => by cases h), Same.new hD⟩ ?_ ?_
    · rintro i ys H2 hi h2 ⟨cs, rfl, hc, hall, s2⟩
      have d0 := Int.emod_nonneg (cellZ ns 1 % 1000003 / (0 + (i : Int) + 2)) (show (26 : Int) ≠ 0 by decide)
      have d1 := Int.emod_lt_of_pos (cellZ ns 1 % 1000003 / (0 + (i : Int) + 2)) (show (0 : Int) < 26 by decide)
      obtain ⟨c, hat, hcm⟩ := at_some letters.cps.toList (cellZ ns 1 % 1000003 / (0 + (i : Int) + 2) % 26) d0 (by rw [let_len]; exact d1)
      refine ⟨_, rfl, _, rfl, _, rfl, _, _, rfl, rfl, _, _, rfl, rfl, ⟨by omega, by omega⟩, _, _, rfl, rfl, (show (0 : Int) < 26 by decide), letters, _, c, rfl, rfl, (by decide +kernel), hat, h2, ?_, cs ++ [c], by rw [List.map_append, List.map_append]; rfl, by rw [List.length_append, hc]; rfl, fun z hz => ?_, s2.on hD⟩
      · rw [List.length_map, List.length_map, hc]
        exact small1000 (by omega)
      · rcases List.mem_append.mp hz with hz | hz
        · exact hall z hz
        · rw [List.mem_singleton.mp hz]
          exact List.mem_of_getElem? hcm
    · rintro ys H2 h2 ⟨cs, rfl, hc, hall, s2⟩
      refine ⟨_, D, cs.map one, rfl, rfl, SqL.of h2, join_room (by omega), ?_⟩
      rw [join_ones]
      exact q2 _ _ H2 n0 (by show cs.toArray.size = 5; rw [List.size_toArray, hc]) (fun c hc' => hall c (by simpa using hc')) s2
end
end My

namespace My
open PySem L2
/-- a column of a table by itself -/
structure TCol where
  nm : Str
  l : Addr
  ys : List V
def tk (ts : List TCol) : List (Key × V) := ts.map fun c => ((Sum.inr c.nm : Key), V.ref c.l)
/-- a table with its columns -/
structure Tbl (C : Addr) (H : Hp) (p r e : Addr) (xs : List V) (n : Int) (ts : List TCol) : Prop where
  tab : TabAt C H p r e xs n (tk ts)
  lst : ∀ c ∈ ts, H c.l = some (.lst c.ys)
  len : ∀ c ∈ ts, c.ys.length = xs.length
  nms : ∀ c ∈ ts, nameS c.nm = true ∧ c.nm.length ≤ 8
  nod : (ts.map (·.nm)).Nodup
  apt : (ts.map (·.l)).Nodup
  apr : ∀ c ∈ ts, c.l ≠ r
  few : ts.length ≤ 8
theorem Tbl.same {C : Addr} {H H' : Hp} {p r e : Addr} {xs : List V} {n : Int} {ts : List TCol} (W : Tbl C H p r e xs n ts) (s : Same H H') : Tbl C H' p r e xs n ts :=
  ⟨W.tab.same s, fun c hc => s _ _ (W.lst c hc), W.len, W.nms, W.nod, W.apt, W.apr, W.few⟩
theorem tk_val {ts : List TCol} {c : TCol} (nod : (ts.map (·.nm)).Nodup) (h : c ∈ ts) : valV (tk ts) (.inr c.nm : Key) = some (.ref c.l) := by
  induction ts with
  | nil => cases h
  | cons d r ih =>
    rw [List.map_cons, List.nodup_cons] at nod
    by_cases hd : d.nm = c.nm
    · rcases List.mem_cons.mp h with rfl | h
      · exact valV_pos rfl
      · exact absurd (List.mem_map.mpr ⟨c, h, hd.symm⟩) nod.1
    · rcases List.mem_cons.mp h with rfl | h
      · exact absurd rfl hd
      · show valV (((Sum.inr d.nm : Key), V.ref d.l) :: tk r) _ = _
        rw [valV_neg (fun z => hd (Sum.inr.inj z))]
        exact ih nod.2 h
theorem tk_keys {ts : List TCol} : (tk ts).map (fun p => kV p.1) = (ts.map (·.nm)).map V.str := by
  unfold tk
  rw [List.map_map, List.map_map]
  rfl
theorem nod_l {ts : List TCol} (h : (ts.map (·.l)).Nodup) {j k : Nat} {c d : TCol} (hc : ts[j]? = some c) (hd : ts[k]? = some d) (n : j ≠ k) : c.l ≠ d.l := fun z => by
  have e1 : (ts.map (·.l))[j]? = some c.l := by rw [List.getElem?_map, hc]; rfl
  have e2 : (ts.map (·.l))[k]? = some c.l := by rw [List.getElem?_map, hd, z]; rfl
  have hj : j < (ts.map (·.l)).length := (List.getElem?_eq_some_iff.mp e1).1
  exact n ((List.getElem?_inj hj h).mp (e1.trans e2.symm))
theorem flds_put (r : Addr) (n m : Int) (d : Addr) : putF "fresh_number" (.int m) (flds r n d) = flds r m d := by
  show (if ("row_numbers" : Str) = "fresh_number" then _ else _ :: (if ("fresh_number" : Str) = "fresh_number" then _ else _)) = _
  rw [if_neg (by decide +kernel), if_pos rfl]
  rfl
/-- what a walk over the columns leaves behind: those of ts turned by g, all else as it was -/
def Turned (H H' : Hp) (ts : List TCol) (g : TCol → List V) : Prop := (∀ b o, H b = some o → (∀ c ∈ ts, b ≠ c.l) → H' b = some o) ∧ ∀ c ∈ ts, H' c.l = some (.lst (g c))
section
variable {P : Program} {w : World} {K : PySem.W.Frag} {mg : Str → Option Value} {base : Heap}
/-- take_out, where the place is there -/
def spTake (C : Addr) : Sp := fun vs H Q _ => ∃ p r e xs n ts i, vs = [.ref p, .int i] ∧ Tbl C H p r e xs n ts ∧ 0 ≤ i ∧ i < xs.length ∧ xs.length ≤ 1000 ∧
  ∀ H', (∀ b o, H b = some o → b ≠ r → (∀ c ∈ ts, b ≠ c.l) → H' b = some o) → (∀ c ∈ ts, H' c.l = some (.lst (c.ys.eraseIdx i.toNat))) → H' r = some (.lst (xs.eraseIdx i.toNat)) → Q .non H'
theorem sc_Table_take_out : FnScope ["self", "place", "column"] ["self", "place"] (defScope s_Table_take_out) := ⟨rfl, rfl, rfl, by decide +kernel, rfl, by decide +kernel, by decide +kernel⟩
theorem k_Table_take_out (T : Tops K mg) {c : Ad} (X : Excs K mg c) {C : Addr} (Y : TTable K mg C) : KnownM P w K mg base CX0 3 C "take_out" ["self", "place"] (spTake C) := by
  have G_check_place : Known P w K mg base (CXE P w) 2 "check_place" ["place", "places"] (spPlace K c) := k_check_place T X
  have G_many : KnownM P w K mg base CX0 1 C "many" ["self"] (spMany C) := k_Table_many T Y
  have G_columns : KnownM P w K mg base CX0 1 C "columns" ["self"] (spColumns C) := k_Table_columns T Y
  refine Y.m_take_out.known sc_Table_take_out (fun _ _ _ _ _ _ us hl => match us, hl with | [_, _], _ => rfl) (fun vs H Q E h => ?_) (fun f cdv A outer s H vs Q E hr h => ?_)
  · obtain ⟨p, r, e, xs, n, ts, i, rfl, _⟩ := h
    rfl
  · obtain ⟨p, r, e, xs, n, ts, i, rfl, W, i0, i1, x1, q⟩ := h
    refine ⟨_, (pss_cons (ps_expr (pe_callN G_check_place (hr.mono (by decide)) passN (pa_cons (pv 1) (pa_cons (pe_methN0 (pv 0) Y.cl G_many (hr.mono (by decide)) pass0) pa_nil))))
      (pss_cons (ps_for PassesOwn.never rfl (pi_list (pe_methN0 (pv 0) Y.cl G_columns (hr.mono (by decide)) pass0)) (pg_name (i := 2) sc_Table_take_out.nd rfl (Or.inl rfl)) (pss_one (ps_expr (pe_bm PySem.F.plainAttrs_list PySem.F.slot_list_pop PySem.F.type_list_pop mt_popAt (pe_dget (hu_of hr) (pe_fld (pv 0) rfl) (pv 2) (fun _ _ => rfl)) (pa_cons (pv 1) pa_nil)))))
      (pss_one (ps_expr (pe_bm PySem.F.plainAttrs_list PySem.F.slot_list_pop PySem.F.type_list_pop mt_popAt (pe_fld (pv 0) rfl) (pa_cons (pv 1) pa_nil)))))), ?_⟩
    obtain ⟨⟨dx, g1⟩, g2, g3⟩ := W.tab
    refine ⟨_, rfl, _, rfl, p, dx, _, rfl, g1, flds_no, p, r, e, xs, n, _, rfl, W.tab, .int i, .int i, _, rfl, .int i, (fun _ => ?_), fun z => ?_⟩
    · refine ⟨_, rfl, p, dx, _, rfl, g1, flds_no, p, r, e, xs, n, _, rfl, W.tab, fun lc hlc => ?_⟩
      rw [tk_keys]
      have c1 : Same H (upd H lc (.lst ((ts.map (·.nm)).map V.str))) := Same.new hlc
      have hc1 : upd H lc (.lst ((ts.map (·.nm)).map V.str)) lc = some (.lst ((ts.map (·.nm)).map V.str)) := upd_same
      generalize upd H lc (.lst ((ts.map (·.nm)).map V.str)) = H1 at c1 hc1 ⊢
      have W1 := W.same c1
      have lne : ∀ c ∈ ts, lc ≠ c.l := fun c hc => (ne_of_none (W.lst c hc) hlc).symm
      refine ⟨lc, rfl, ⟨_, SqL.of hc1⟩, ?_⟩
      refine for_list (K := K) (a := lc) (xs := (ts.map (·.nm)).map V.str) (fun j σ H2 => (∃ y, σ = [some (.ref p), some (.int i), y]) ∧ Turned H1 H2 (ts.take j) fun c => c.ys.eraseIdx i.toNat) ⟨⟨_, rfl⟩, fun b o q _ => q, fun c hc => by simp at hc⟩ (fun j σ H2 _ ⟨_, t⟩ => SqL.of (t.1 _ _ hc1 fun c hc => lne c (List.mem_of_mem_take hc))) ?_ ?_
      · rintro j v σ H2 hv ⟨⟨y, rfl⟩, t1, t2⟩
        obtain ⟨c, hj, rfl⟩ : ∃ c, ts[j]? = some c ∧ v = .str c.nm := by
          rw [List.getElem?_map, List.getElem?_map] at hv
          cases z : ts[j]? with
          | none => rw [z] at hv; cases hv
          | some c => rw [z] at hv; cases hv; exact ⟨c, rfl, rfl⟩
        have hc := List.mem_of_getElem? hj
        have apart : ∀ d ∈ ts.take j, c.l ≠ d.l := fun d hd => by
          obtain ⟨k, hk⟩ := List.getElem?_of_mem hd
          rw [List.getElem?_take] at hk
          split at hk
          · exact nod_l W.apt hj hk (by omega)
          · cases hk
        have k2 : ∀ b o, H1 b = some o → (∀ xs, o ≠ .lst xs) → H2 b = some o := fun b o q nn => t1 b o q fun d hd => ne_of q (W1.lst d (List.mem_of_mem_take hd)) (nn _)
        have hcl : H2 c.l = some (.lst c.ys) := t1 _ _ (W1.lst c hc) apart
        obtain ⟨⟨dx, h1⟩, h2, h3⟩ := W1.tab
        have hlen := W.len c hc
        have hk : seqIndex? i c.ys.length = some i.toNat := seqIndex_of i0 (by omega)
        obtain ⟨y0, hy0⟩ : ∃ y0, c.ys[i.toNat]? = some y0 := ⟨c.ys[i.toNat]'(by omega), by simp⟩
        refine ⟨_, rfl, p, C, dx, _, _, rfl, k2 _ _ h1 (by intro _ z; cases z), Y.cl, Y.n_kept, flds_kept _ _ _, _, rfl, e, .ref c.l, rfl, tk_val W.nod hc ▸ DGet.k (k := Sum.inr c.nm) (k2 _ _ h3 (by intro _ z; cases z)), .inl ⟨rfl, _, SqL.of hcl⟩, _, rfl, c.l, c.ys, i, i.toNat, y0, rfl, rfl, hcl, by omega, by omega, hk, hy0, ?_⟩
        refine ⟨⟨_, rfl⟩, fun b o q nb => ?_, fun d hd => ?_⟩
        · rw [upd_ne (nb c (by rw [List.take_add_one, hj]; simp))]
          exact t1 b o q fun d hd => nb d (by rw [List.take_add_one]; exact List.mem_append_left _ hd)
        · rw [List.take_add_one, hj] at hd
          rcases List.mem_append.mp hd with hd | hd
          · rw [upd_ne (apart d hd).symm]
            exact t2 d hd
          · have : d = c := by simpa using hd
            subst this
            exact upd_same
      · rintro σ H2 ⟨⟨y, rfl⟩, t1, t2⟩
        have hl : ((ts.map (·.nm)).map V.str).length = ts.length := by rw [List.length_map, List.length_map]
        rw [hl, List.take_length] at t1 t2
        have k2 : ∀ b o, H1 b = some o → (∀ xs, o ≠ .lst xs) → H2 b = some o := fun b o q nn => t1 b o q fun d hd => ne_of q (W1.lst d hd) (nn _)
        obtain ⟨⟨dx, h1⟩, h2, h3⟩ := W1.tab
        have hr2 := t1 _ _ h2 fun d hd => (W.apr d hd).symm
        obtain ⟨y0, hy0⟩ : ∃ y0, xs[i.toNat]? = some y0 := ⟨xs[i.toNat]'(by omega), by simp⟩
        refine ⟨_, rfl, p, C, dx, _, _, rfl, k2 _ _ h1 (by intro _ z; cases z), Y.cl, Y.n_row_numbers, flds_rows _ _ _, .inl ⟨rfl, _, SqL.of hr2⟩, _, rfl, r, xs, i, i.toNat, y0, rfl, rfl, hr2, by omega, by omega, seqIndex_of i0 i1, hy0, ?_⟩
        refine q _ (fun b o qb nr nb => ?_) (fun d hd => ?_) upd_same
        · rw [upd_ne nr]
          exact t1 b o (c1 _ _ qb) nb
        · rw [upd_ne (W.apr d hd)]
          exact t2 d hd
    · exact absurd z (by show ¬ (decide (0 ≤ i) && decide (i < (xs.length : Int))) = false; rw [decide_eq_true i0, decide_eq_true i1]; decide)
/-- stand: a row is put at a place -/
def spStand (C : Addr) : Sp := fun vs H Q _ => ∃ p r e xs n ts i num a kvs, ∃ f : TCol → V, vs = [.ref p, .int i, .int num, .ref a] ∧ Tbl C H p r e xs n ts ∧ 0 ≤ i ∧ i ≤ xs.length ∧ xs.length < 1000 ∧ H a = some (.dK kvs) ∧ (∀ c ∈ ts, valV kvs (.inr c.nm : Key) = some (f c)) ∧
  ∀ H', (∀ b o, H b = some o → b ≠ r → (∀ c ∈ ts, b ≠ c.l) → H' b = some o) → (∀ c ∈ ts, H' c.l = some (.lst (insV c.ys i.toNat (f c)))) → H' r = some (.lst (insV xs i.toNat (.int num))) → Q .non H'
theorem sc_Table_stand : FnScope ["self", "place", "number", "values", "column"] ["self", "place", "number", "values"] (defScope s_Table_stand) := ⟨rfl, rfl, rfl, by decide +kernel, rfl, by decide +kernel, by decide +kernel⟩
theorem k_Table_stand (T : Tops K mg) {C : Addr} (Y : TTable K mg C) : KnownM P w K mg base CX0 2 C "stand" ["self", "place", "number", "values"] (spStand C) := by
  have G_columns : KnownM P w K mg base CX0 1 C "columns" ["self"] (spColumns C) := k_Table_columns T Y
  refine Y.m_stand.known sc_Table_stand (fun _ _ _ _ _ _ us hl => match us, hl with | [_, _, _, _], _ => rfl) (fun vs H Q E h => ?_) (fun f cdv A outer s H vs Q E hr h => ?_)
  · obtain ⟨p, r, e, xs, n, ts, i, num, a, kvs, g, rfl, _⟩ := h
    rfl
  · obtain ⟨p, r, e, xs, n, ts, i, num, a, kvs, g, rfl, W, i0, i1, x1, ha, hg, q⟩ := h
    refine ⟨_, (pss_cons (ps_for PassesOwn.never rfl (pi_list (pe_methN0 (pv 0) Y.cl G_columns (hr.mono (by decide)) pass0)) (pg_name (i := 4) sc_Table_stand.nd rfl (Or.inl rfl)) (pss_one (ps_expr (pe_bm PySem.F.plainAttrs_list PySem.F.slot_list_insert PySem.F.type_list_insert mt_insert (pe_dget (hu_of hr) (pe_fld (pv 0) rfl) (pv 4) (fun _ _ => rfl)) (pa_cons (pv 1) (pa_cons (pe_dget (hu_of hr) (pv 3) (pv 4) (fun _ _ => rfl)) pa_nil))))))
      (pss_one (ps_expr (pe_bm PySem.F.plainAttrs_list PySem.F.slot_list_insert PySem.F.type_list_insert mt_insert (pe_fld (pv 0) rfl) (pa_cons (pv 1) (pa_cons (pv 2) pa_nil)))))), ?_⟩
    obtain ⟨⟨dx, g1⟩, g2, g3⟩ := W.tab
    refine ⟨_, rfl, p, dx, _, rfl, g1, flds_no, p, r, e, xs, n, _, rfl, W.tab, fun lc hlc => ?_⟩
    rw [tk_keys]
    have c1 : Same H (upd H lc (.lst ((ts.map (·.nm)).map V.str))) := Same.new hlc
    have hc1 : upd H lc (.lst ((ts.map (·.nm)).map V.str)) lc = some (.lst ((ts.map (·.nm)).map V.str)) := upd_same
    generalize upd H lc (.lst ((ts.map (·.nm)).map V.str)) = H1 at c1 hc1 ⊢
    have W1 := W.same c1
    have lne : ∀ c ∈ ts, lc ≠ c.l := fun c hc => (ne_of_none (W.lst c hc) hlc).symm
    refine ⟨lc, rfl, ⟨_, SqL.of hc1⟩, ?_⟩
    refine for_list (K := K) (a := lc) (xs := (ts.map (·.nm)).map V.str) (fun j σ H2 => (∃ y, σ = [some (.ref p), some (.int i), some (.int num), some (.ref a), y]) ∧ Turned H1 H2 (ts.take j) fun c => insV c.ys i.toNat (g c)) ⟨⟨_, rfl⟩, fun b o q _ => q, fun c hc => by simp at hc⟩ (fun j σ H2 _ ⟨_, t⟩ => SqL.of (t.1 _ _ hc1 fun c hc => lne c (List.mem_of_mem_take hc))) ?_ ?_
    · rintro j v σ H2 hv ⟨⟨y, rfl⟩, t1, t2⟩
      obtain ⟨c, hj, rfl⟩ : ∃ c, ts[j]? = some c ∧ v = .str c.nm := by
        rw [List.getElem?_map, List.getElem?_map] at hv
        cases z : ts[j]? with
        | none => rw [z] at hv; cases hv
        | some c => rw [z] at hv; cases hv; exact ⟨c, rfl, rfl⟩
      have hc := List.mem_of_getElem? hj
      have apart : ∀ d ∈ ts.take j, c.l ≠ d.l := fun d hd => by
        obtain ⟨k, hk⟩ := List.getElem?_of_mem hd
        rw [List.getElem?_take] at hk
        split at hk
        · exact nod_l W.apt hj hk (by omega)
        · cases hk
      have k2 : ∀ b o, H1 b = some o → (∀ xs, o ≠ .lst xs) → H2 b = some o := fun b o q nn => t1 b o q fun d hd => ne_of q (W1.lst d (List.mem_of_mem_take hd)) (nn _)
      have hcl : H2 c.l = some (.lst c.ys) := t1 _ _ (W1.lst c hc) apart
      obtain ⟨⟨dx, h1⟩, h2, h3⟩ := W1.tab
      have hlen := W.len c hc
      refine ⟨_, rfl, p, C, dx, _, _, rfl, k2 _ _ h1 (by intro _ z; cases z), Y.cl, Y.n_kept, flds_kept _ _ _, _, rfl, e, .ref c.l, rfl, tk_val W.nod hc ▸ DGet.k (k := Sum.inr c.nm) (k2 _ _ h3 (by intro _ z; cases z)), .inl ⟨rfl, _, SqL.of hcl⟩, _, rfl, _, rfl, _, rfl, a, g c, rfl, hg c hc ▸ DGet.k (k := Sum.inr c.nm) (k2 _ _ (c1 _ _ ha) (by intro _ z; cases z)), c.l, c.ys, i, g c, rfl, rfl, hcl, i0, by omega, small1000 (by omega), ?_⟩
      refine ⟨⟨_, rfl⟩, fun b o q nb => ?_, fun d hd => ?_⟩
      · rw [upd_ne (nb c (by rw [List.take_add_one, hj]; simp))]
        exact t1 b o q fun d hd => nb d (by rw [List.take_add_one]; exact List.mem_append_left _ hd)
      · rw [List.take_add_one, hj] at hd
        rcases List.mem_append.mp hd with hd | hd
        · rw [upd_ne (apart d hd).symm]
          exact t2 d hd
        · have : d = c := by simpa using hd
          subst this
          exact upd_same
    · rintro σ H2 ⟨⟨y, rfl⟩, t1, t2⟩
      have hl : ((ts.map (·.nm)).map V.str).length = ts.length := by rw [List.length_map, List.length_map]
      rw [hl, List.take_length] at t1 t2
      have k2 : ∀ b o, H1 b = some o → (∀ xs, o ≠ .lst xs) → H2 b = some o := fun b o q nn => t1 b o q fun d hd => ne_of q (W1.lst d hd) (nn _)
      obtain ⟨⟨dx, h1⟩, h2, h3⟩ := W1.tab
      have hr2 := t1 _ _ h2 fun d hd => (W.apr d hd).symm
      refine ⟨_, rfl, p, C, dx, _, _, rfl, k2 _ _ h1 (by intro _ z; cases z), Y.cl, Y.n_row_numbers, flds_rows _ _ _, .inl ⟨rfl, _, SqL.of hr2⟩, _, rfl, _, rfl, r, xs, i, .int num, rfl, rfl, hr2, i0, i1, small1000 (by omega), ?_⟩
      refine q _ (fun b o qb nr nb => ?_) (fun d hd => ?_) upd_same
      · rw [upd_ne nr]
        exact t1 b o (c1 _ _ qb) nb
      · rw [upd_ne (W.apr d hd)]
        exact t2 d hd
/-- check_row of a row that is as it should be -/
def spRow (K : PySem.W.Frag) : Sp := fun vs H Q _ => ∃ (a lc : Addr) (kvs : List (Key × V)) (names : List Str), vs = [.ref a, .ref lc] ∧ H a = some (.dK kvs) ∧ H lc = some (.lst (names.map V.str)) ∧ kvs.length = names.length ∧
  (∀ q ∈ kvs, ∃ t d, q.1 = .inr t ∧ t ∈ names ∧ nameS t = true ∧ t.length ≤ 8 ∧ Vd H q.2 d) ∧ ∀ H', Same H H' → Q .non H'
theorem sc_check_row : FnScope ["values", "columns", "column", "value"] ["values", "columns"] (defScope s_check_row) := ⟨rfl, rfl, rfl, by decide +kernel, rfl, by decide +kernel, by decide +kernel⟩
theorem flat_strs : ∀ zs : List Str, (zs.map V.str).all flatV = true
  | [] => rfl
  | z :: r => by rw [List.map_cons, List.all_cons, flat_strs r]; rfl
theorem inV_strs {t : Str} : ∀ {zs : List Str}, t ∈ zs → inV (.str t) (zs.map V.str) = true
  | z :: r, h => by
    unfold inV
    rw [List.map_cons, List.any_cons]
    rcases List.mem_cons.mp h with rfl | h
    · have : eqV (.str t) (.str t) = true := by show (t == t) = true; exact beq_self_eq_true t
      rw [this, Bool.true_or]
    · have := inV_strs h
      unfold inV at this
      rw [this, Bool.or_true]
theorem k_check_row (T : Tops K mg) {c : Ad} (X : Excs K mg c) : Known P w K mg base CX0 5 "check_row" ["values", "columns"] (spRow K) := by
  have G_is_name : Known P w K mg base CX0 1 "is_name" ["thing"] (spName K) := k_is_name T
  have G_check_value : Known P w K mg base (CXE P w) 4 "check_value" ["value"] (spCValue K c) := k_check_value T X
  refine T.d_check_row.known sc_check_row (fun _ _ _ _ _ _ us hl => match us, hl with | [_, _], _ => rfl) (fun vs H Q E h => ?_) (fun f cdv A outer s H vs Q E hr h => ?_)
  · obtain ⟨a, lc, kvs, names, rfl, _⟩ := h
    rfl
  · obtain ⟨a, lc, kvs, names, rfl, ha, hlc, hlen, hall, q⟩ := h
    refine ⟨_, (pss_cons (ps_if (PW.pt (pw_or (pt_not (pt_val (pe_callB call_isT rfl T.isinstance b_isinstance (pa_cons (pv 0) (pa_cons (pe_ty T.dict b_dict) pa_nil))) (fun _ => rfl))) (pw_or1 (pt_cmpR op_ne (pe_callB call_lenD rfl T.len b_len (pa_cons (pv 0) pa_nil)) (pe_callB call_len rfl T.len b_len (pa_cons (pv 1) pa_nil)) (nomark _))))) (pss_one ps_dead) pss_nil)
      (pss_one (ps_forI PassesOwn.never rfl (pv 0) (pg_tup rfl (pgs_cons (pg_name (i := 2) sc_check_row.nd rfl (Or.inl rfl)) (pgs_cons (pg_name (i := 3) sc_check_row.nd rfl (Or.inl rfl)) pgs_nil))) (pss_cons (ps_if (PW.pt (pw_or (pt_not (pt_val (pe_callN G_is_name (hr.mono (by decide)) pass0 (pa_cons (pv 2) pa_nil)) (fun _ => rfl))) (pw_or1 (pt_cmpR op_notIn_seq (pv 2) (pv 1) (by with_unfolding_all rfl))))) (pss_one ps_dead) pss_nil)
      (pss_one (ps_expr (pe_callN G_check_value (hr.mono (by decide)) passN (pa_cons (pv 3) pa_nil)))))))), ?_⟩
    refine ⟨_, rfl, _, "dict", _, _, rfl, Dt.dK ha, kit_dict K _, _, rfl, iteF ?_⟩
    refine ⟨_, rfl, a, kvs, rfl, ha, _, rfl, _, _, rfl, .inl ⟨_, SqL.of hlc, rfl⟩, ?_⟩
    rw [List.length_map, hlen]
    refine ⟨rfl, _, rfl, iteNS rfl ?_⟩
    refine ⟨_, rfl, a, kvs, rfl, ha, fun nf ob => ?_⟩
    have tup0 : ∀ b xs, H b = some (.tup xs) → upd H a (.frz ob (.dK kvs)) b = some (.tup xs) := fun b xs qb => by rw [upd_ne (ne_of qb ha (by intro z; cases z))]; exact qb
    have hlc' : upd H a (.frz ob (.dK kvs)) lc = some (.lst (names.map V.str)) := by rw [upd_ne (ne_of hlc ha (by intro z; cases z))]; exact hlc
    refine for_items (a := a) (ob := ob) (kvs := kvs) (fun i σ H2 => (∃ y z, σ = [some (.ref a), some (.ref lc), y, z]) ∧ Same (upd H a (.frz ob (.dK kvs))) H2) ⟨⟨_, _, rfl⟩, Same.refl _⟩ (fun i σ H2 _ ⟨_, s2⟩ => s2 _ _ upd_same) ?_ ?_
    · rintro i qv σ H2 pp hq ⟨⟨y, z, rfl⟩, s2⟩ hpp
      obtain ⟨t, d, e1, htn, hn1, hn2, vd⟩ := hall qv (List.mem_of_getElem? hq)
      have c3 : Same H2 (upd H2 pp (.tup [kV qv.1, qv.2])) := Same.new hpp
      have s3 := s2.trans c3
      rw [e1]
      refine ⟨pp, _, rfl, SqT.of upd_same, rfl, _, _, rfl, _, _, rfl, rfl, ?_⟩
      rw [e1] at c3 s3
      have vd3 : Vd (upd H2 pp (.tup [kV (.inr t : Key), qv.2])) qv.2 d := vd.keep fun b xs qb => s3 _ _ (tup0 b xs qb)
      refine ⟨_, rfl, .str t, .str t, rfl, .str t, shortS_str (by omega), fun H4 s4 => ⟨_, rfl, ?_⟩⟩
      rw [show nameD (.str t) = nameS t from rfl, hn1]
      refine iteF ?_
      refine ⟨_, rfl, _, rfl, lc, _, rfl, .inl (SqL.of ((s3.trans s4) _ _ hlc')), rfl, flat_strs names, _, rfl, ?_⟩
      refine ite2 (fun zz => ?_) (fun _ => ?_)
      · have zz' : (!inV (.str t) (names.map V.str)) = true := zz
        rw [inV_strs htn] at zz'
        cases zz'
      have vd4 := vd3.keep (.same s4)
      refine ⟨_, rfl, qv.2, d, rfl, vd4.dt, vd4.1.2.2.2.2, (fun _ H5 s5 => ⟨⟨_, _, rfl⟩, s3.trans (s4.trans s5)⟩), fun z => ?_⟩
      rw [vd4.1.1] at z
      cases z
    · rintro σ H2 ⟨⟨y, z, rfl⟩, s2⟩
      exact ⟨a, ob, kvs, nf, s2 _ _ upd_same, q _ (Same.thaw ha s2)⟩
/-- put_in, where nothing is refused -/
def spPutIn (K : PySem.W.Frag) (C : Addr) : Sp := fun vs H Q _ => ∃ p r e xs n ts i a kvs, ∃ f : TCol → V, vs = [.ref p, .int i, .ref a] ∧ Tbl C H p r e xs n ts ∧ 0 ≤ i ∧ i ≤ xs.length ∧ xs.length < 30 ∧ H a = some (.dK kvs) ∧ kvs.length = ts.length ∧
  (∀ q ∈ kvs, ∃ t d, q.1 = .inr t ∧ t ∈ ts.map (·.nm) ∧ Vd H q.2 d) ∧ (∀ c ∈ ts, valV kvs (.inr c.nm : Key) = some (f c)) ∧
  ∀ H', (∀ b o, H b = some o → b ≠ p → b ≠ r → (∀ c ∈ ts, b ≠ c.l) → H' b = some o) → (∀ c ∈ ts, H' c.l = some (.lst (insV c.ys i.toNat (f c)))) → TabAt C H' p r e (insV xs i.toNat (.int n)) (n + 1) (tk ts) → Q .non H'
theorem sc_Table_put_in : FnScope ["self", "place", "values"] ["self", "place", "values"] (defScope s_Table_put_in) := ⟨rfl, rfl, rfl, by decide +kernel, rfl, by decide +kernel, by decide +kernel⟩
theorem k_Table_put_in (T : Tops K mg) {c : Ad} (X : Excs K mg c) {C : Addr} (Y : TTable K mg C) : KnownM P w K mg base CX0 6 C "put_in" ["self", "place", "values"] (spPutIn K C) := by
  have G_check_place : Known P w K mg base (CXE P w) 2 "check_place" ["place", "places"] (spPlace K c) := k_check_place T X
  have G_check_row : Known P w K mg base CX0 5 "check_row" ["values", "columns"] (spRow K) := k_check_row T X
  have G_many : KnownM P w K mg base CX0 1 C "many" ["self"] (spMany C) := k_Table_many T Y
  have G_columns : KnownM P w K mg base CX0 1 C "columns" ["self"] (spColumns C) := k_Table_columns T Y
  have G_stand : KnownM P w K mg base CX0 2 C "stand" ["self", "place", "number", "values"] (spStand C) := k_Table_stand T Y
  refine Y.m_put_in.known sc_Table_put_in (fun _ _ _ _ _ _ us hl => match us, hl with | [_, _, _], _ => rfl) (fun vs H Q E h => ?_) (fun f cdv A outer s H vs Q E hr h => ?_)
  · obtain ⟨p, r, e, xs, n, ts, i, a, kvs, g, rfl, _⟩ := h
    rfl
  · obtain ⟨p, r, e, xs, n, ts, i, a, kvs, g, rfl, W, i0, i1, x1, ha, hlen, hall, hg, q⟩ := h
    refine ⟨_, (pss_cons (ps_expr (pe_callN G_check_place (hr.mono (by decide)) passN (pa_cons (pv 1) (pa_cons (pe_op op_add (pe_methN0 (pv 0) Y.cl G_many (hr.mono (by decide)) pass0) pe_int) pa_nil))))
      (pss_cons (ps_if (pt_cmpR op_ge (pe_methN0 (pv 0) Y.cl G_many (hr.mono (by decide)) pass0) (pe_gI T.g_MOST_ROWS) (nomark _)) (pss_one ps_dead) pss_nil)
      (pss_cons (ps_expr (pe_callN G_check_row (hr.mono (by decide)) pass0 (pa_cons (pv 2) (pa_cons (pe_methN0 (pv 0) Y.cl G_columns (hr.mono (by decide)) pass0) pa_nil))))
      (pss_cons (ps_expr (pe_methN (pv 0) Y.cl G_stand (hr.mono (by decide)) pass0 (pa_cons (pv 1) (pa_cons (pe_fld (pv 0) rfl) (pa_cons (pv 2) pa_nil)))))
      (pss_one (ps_fld (pv 0) (pe_op op_add (pe_fld (pv 0) rfl) pe_int) rfl)))))), ?_⟩
    obtain ⟨⟨dx, g1⟩, g2, g3⟩ := W.tab
    refine ⟨_, rfl, _, rfl, p, dx, _, rfl, g1, flds_no, p, r, e, xs, n, _, rfl, W.tab, _, _, rfl, rfl, .int i, .int i, _, rfl, .int i, (fun _ => ?_), fun z => ?_⟩
    · refine ⟨_, rfl, p, dx, _, rfl, g1, flds_no, p, r, e, xs, n, _, rfl, W.tab, _, _, rfl, rfl, _, rfl, ?_⟩
      refine ite2 (fun z => absurd z (by simp; omega)) fun _ => ?_
      refine ⟨_, rfl, _, rfl, p, dx, _, rfl, g1, flds_no, p, r, e, xs, n, _, rfl, W.tab, fun lc hlc => ?_⟩
      rw [tk_keys]
      have c1 : Same H (upd H lc (.lst ((ts.map (·.nm)).map V.str))) := Same.new hlc
      refine ⟨a, lc, kvs, ts.map (·.nm), rfl, c1 _ _ ha, upd_same, by rw [List.length_map]; exact hlen, (fun qv hq => ?_), fun H2 s2 => ?_⟩
      · obtain ⟨t, d, e1, ht, vd⟩ := hall qv hq
        obtain ⟨c, hc, rfl⟩ := List.mem_map.mp ht
        exact ⟨c.nm, d, e1, ht, (W.nms c hc).1, (W.nms c hc).2, vd.keep (.same c1)⟩
      have s12 := c1.trans s2
      have W2 := W.same s12
      refine ⟨_, rfl, p, dx, _, rfl, s12 _ _ g1, flds_no, _, rfl, _, rfl, p, C, dx, _, _, rfl, s12 _ _ g1, Y.cl, Y.n_fresh_number, flds_fresh _ _ _, _, rfl, ?_⟩
      refine ⟨p, r, e, xs, n, ts, i, n, a, kvs, g, rfl, W2, i0, i1, by omega, s12 _ _ ha, hg, fun H3 k3 l3 r3 => ?_⟩
      have nl : ∀ b o, H2 b = some o → (∀ xs, o ≠ .lst xs) → H3 b = some o := fun b o qb nn => k3 b o qb (ne_of qb W2.tab.rows (nn _)) fun d hd => ne_of qb (W2.lst d hd) (nn _)
      have g13 := nl _ _ (s12 _ _ g1) (by intro _ z; cases z)
      refine ⟨_, rfl, p, C, dx, _, _, rfl, g13, Y.cl, Y.n_fresh_number, flds_fresh _ _ _, _, _, rfl, rfl, _, rfl, p, C, dx, _, rfl, g13, Y.cl, Y.n_fresh_number, (by show 3 < 1000; decide), ?_⟩
      rw [flds_put]
      have npr : p ≠ r := ne_of (s12 _ _ g1) W2.tab.rows (by intro z; cases z)
      have npe : p ≠ e := ne_of (s12 _ _ g1) W2.tab.kept (by intro z; cases z)
      refine q _ (fun b o qb np nr nb => ?_) (fun d hd => ?_) ⟨⟨dx, upd_same⟩, ?_, ?_⟩
      · rw [upd_ne np]
        exact k3 b o (s12 _ _ qb) nr nb
      · rw [upd_ne (ne_of (s12 _ _ g1) (W2.lst d hd) (by intro z; cases z)).symm]
        exact l3 d hd
      · rw [upd_ne npr.symm]
        exact r3
      · rw [upd_ne npe.symm]
        exact nl _ _ (s12 _ _ W.tab.kept) (by intro _ z; cases z)
    · exact absurd z (by show ¬ (decide (0 ≤ i) && decide (i < (xs.length : Int) + 1)) = false; rw [decide_eq_true i0, decide_eq_true (by omega)]; decide)
end
end My

namespace My
open PySem L2
/-- a column: its name, its list in the table, its list beside, its data -/
structure Col where
  nm : Str
  l : Addr
  m : Addr
  ys : List V
def kX (g : Col → Addr) (cs : List Col) : List (Key × V) := cs.map fun c => ((Sum.inr c.nm : Key), V.ref (g c))
def putC (cs : List Col) (c : Col) : List Col := if (cs.any fun d => decide (d.nm = c.nm)) = true then cs.map (fun d => if d.nm = c.nm then c else d) else cs ++ [c]
def dropC (cs : List Col) (t : Str) : List Col := cs.filter fun d => decide (d.nm ≠ t)
section
variable {g : Col → Addr} {cs : List Col} {c : Col} {t : Str}
theorem kX_len : (kX g cs).length = cs.length := by unfold kX; rw [List.length_map]
theorem kX_any : ((kX g cs).any fun kv => decide (kv.1 = (Sum.inr t : Key))) = cs.any fun d => decide (d.nm = t) := by
  unfold kX
  rw [List.any_map]
  congr 1
  funext d
  simp
theorem kX_put : putK (kX g cs) (.inr c.nm : Key) (.ref (g c)) = kX g (putC cs c) := by
  unfold putK putC
  rw [kX_any]
  by_cases h : (cs.any fun d => decide (d.nm = c.nm)) = true
  · rw [if_pos h, if_pos h]
    unfold kX
    rw [List.map_map, List.map_map]
    refine List.map_congr_left fun d _ => ?_
    show (if (Sum.inr d.nm : Key) = Sum.inr c.nm then ((Sum.inr d.nm : Key), V.ref (g c)) else (Sum.inr d.nm, V.ref (g d))) = ((Sum.inr (if d.nm = c.nm then c else d).nm : Key), V.ref (g (if d.nm = c.nm then c else d)))
    by_cases hd : d.nm = c.nm
    · rw [if_pos (by rw [hd]), if_pos hd, hd]
    · rw [if_neg (fun z => hd (Sum.inr.inj z)), if_neg hd]
  · rw [if_neg h, if_neg h]
    unfold kX
    rw [List.map_append]
    rfl
theorem kX_drop : dropK (kX g cs) (.inr t : Key) = kX g (dropC cs t) := by
  unfold dropK dropC kX
  rw [List.filter_map]
  refine congrArg _ (List.filter_congr fun d _ => ?_)
  simp
theorem kX_val (nod : (cs.map (·.nm)).Nodup) (h : c ∈ cs) : valV (kX g cs) (.inr c.nm : Key) = some (.ref (g c)) := by
  induction cs with
  | nil => cases h
  | cons d r ih =>
    rw [List.map_cons, List.nodup_cons] at nod
    by_cases hd : d.nm = c.nm
    · rcases List.mem_cons.mp h with rfl | h
      · exact valV_pos rfl
      · exact absurd (List.mem_map.mpr ⟨c, h, hd.symm⟩) nod.1
    · rcases List.mem_cons.mp h with rfl | h
      · exact absurd rfl hd
      · show valV (((Sum.inr d.nm : Key), V.ref (g d)) :: kX g r) _ = _
        rw [valV_neg (fun z => hd (Sum.inr.inj z))]
        exact ih nod.2 h
theorem kX_isSome : (valV (kX g cs) (.inr t : Key)).isSome = cs.any fun d => decide (d.nm = t) := by rw [← valV_any, kX_any]
theorem kX_keys : (kX g cs).map (fun p => kV p.1) = (cs.map (·.nm)).map V.str := by
  unfold kX
  rw [List.map_map, List.map_map]
  rfl
theorem any_of (h : (cs.any fun d => decide (d.nm = t)) = true) : ∃ c ∈ cs, c.nm = t := by
  obtain ⟨c, hc, e⟩ := List.any_eq_true.mp h
  exact ⟨c, hc, by simpa using e⟩
theorem putC_nms : (putC cs c).map (·.nm) = if (cs.any fun d => decide (d.nm = c.nm)) = true then cs.map (·.nm) else cs.map (·.nm) ++ [c.nm] := by
  unfold putC
  by_cases h : (cs.any fun d => decide (d.nm = c.nm)) = true
  · rw [if_pos h, if_pos h, List.map_map]
    refine List.map_congr_left fun d _ => ?_
    show (if d.nm = c.nm then c else d).nm = d.nm
    split
    · rename_i e
      exact e.symm
    · rfl
  · rw [if_neg h, if_neg h, List.map_append]
    rfl
theorem putC_nod (nod : (cs.map (·.nm)).Nodup) : ((putC cs c).map (·.nm)).Nodup := by
  rw [putC_nms]
  split
  · exact nod
  · rename_i h
    rw [List.nodup_append]
    refine ⟨nod, by simp, fun a ha b hb => ?_⟩
    rw [List.mem_singleton.mp hb]
    rintro rfl
    obtain ⟨d, hd, e⟩ := List.mem_map.mp ha
    exact h (List.any_eq_true.mpr ⟨d, hd, by simpa using e⟩)
theorem putC_mem {d : Col} (h : d ∈ putC cs c) : d = c ∨ (d ∈ cs ∧ d.nm ≠ c.nm) := by
  unfold putC at h
  split at h
  · obtain ⟨e, he, rfl⟩ := List.mem_map.mp h
    by_cases z : e.nm = c.nm
    · rw [if_pos z]; exact .inl rfl
    · rw [if_neg z]; exact .inr ⟨he, z⟩
  · rename_i n
    rcases List.mem_append.mp h with h | h
    · exact .inr ⟨h, fun z => n (List.any_eq_true.mpr ⟨d, h, by simpa using z⟩)⟩
    · exact .inl (List.mem_singleton.mp h)
theorem dropC_mem {d : Col} (h : d ∈ dropC cs t) : d ∈ cs ∧ d.nm ≠ t := by
  unfold dropC at h
  have := List.mem_filter.mp h
  exact ⟨this.1, by simpa using this.2⟩
theorem dropC_nod (nod : (cs.map (·.nm)).Nodup) : ((dropC cs t).map (·.nm)).Nodup := List.Nodup.sublist (List.Sublist.map _ List.filter_sublist) nod
end
theorem few_of : ∀ (l m : List Str), l.Nodup → (∀ x ∈ l, x ∈ m) → l.length ≤ m.length
  | [], m, _, _ => Nat.zero_le _
  | x :: r, m, nod, h => by
    rw [List.nodup_cons] at nod
    have hx : x ∈ m := h x List.mem_cons_self
    have := few_of r (m.erase x) nod.2 fun y hy => (List.mem_erase_of_ne (fun (z : y = x) => nod.1 (by rw [← z]; exact hy))).mpr (h y (List.mem_cons_of_mem _ hy))
    rw [List.length_erase_of_mem hx] at this
    have : 0 < m.length := List.length_pos_of_mem hx
    rw [List.length_cons]
    omega
theorem Rd.same {H H' : Hp} {a : Addr} {u : HO} (r : Rd H a u) (s : Same H H') : Rd H' a u := by
  rcases r with r | ⟨o, r⟩
  · exact .inl (s _ _ r)
  · exact .inr ⟨o, s _ _ r⟩
end My

namespace My
open PySem L2
theorem DGet.rd {H : Hp} {a : Addr} {kvs : List (Key × V)} {k : Key} (e : Rd H a (.dK kvs)) : DGet H a (kV k) (valV kvs k) := .inl ⟨kvs, k, e, rfl, rfl⟩
def tsOf (cs : List Col) : List TCol := cs.map fun c => ⟨c.nm, c.l, c.ys⟩
theorem tk_of {cs : List Col} : tk (tsOf cs) = kX (·.l) cs := by unfold tk tsOf kX; rw [List.map_map]; rfl
theorem tsOf_mem {cs : List Col} {c : TCol} (h : c ∈ tsOf cs) : ∃ d ∈ cs, c = ⟨d.nm, d.l, d.ys⟩ := by
  obtain ⟨d, hd, e⟩ := List.mem_map.mp h
  exact ⟨d, hd, e.symm⟩
theorem tsOf_nm {cs : List Col} : (tsOf cs).map (·.nm) = cs.map (·.nm) := by unfold tsOf; rw [List.map_map]; rfl
/-- what is true of a column by itself -/
structure COk (H : Hp) (r rl : Addr) (sz : Nat) (c : Col) : Prop where
  l : H c.l = some (.lst c.ys)
  m : H c.m = some (.lst c.ys)
  len : c.ys.length = sz
  nm : Nm c.nm
  val : ∀ v ∈ c.ys, ∃ d, Vd H v d
  lr : c.l ≠ r ∧ c.l ≠ rl
  mr : c.m ≠ r ∧ c.m ≠ rl
/-- a table, its columns held beside in a dict, its numbers in a list -/
structure W10 (C : Addr) (H : Hp) (p r e h rl : Addr) (nums : List Int) (n : Int) (cs : List Col) : Prop where
  tab : TabAt C H p r e (nums.map V.int) n (kX (·.l) cs)
  hld : Rd H h (.dK (kX (·.m) cs))
  hrl : H rl = some (.lst (nums.map V.int))
  col : ∀ c ∈ cs, COk H r rl nums.length c
  nod : (cs.map (·.nm)).Nodup
  il : ∀ c ∈ cs, ∀ d ∈ cs, c.l = d.l → c.nm = d.nm
  im : ∀ c ∈ cs, ∀ d ∈ cs, c.m = d.m → c.nm = d.nm
  ilm : ∀ c ∈ cs, ∀ d ∈ cs, c.l ≠ d.m
  nrr : r ≠ rl
  neD : e ≠ h
  few : cs.length ≤ 8
/-- b is none of the lists that turn -/
def Out (r rl : Addr) (cs : List Col) (b : Addr) : Prop := b ≠ r ∧ b ≠ rl ∧ ∀ c ∈ cs, b ≠ c.l ∧ b ≠ c.m
section
variable {C : Addr} {H H' : Hp} {p r e h rl : Addr} {nums nums' : List Int} {n n' : Int} {cs cs' : List Col}
theorem COk.keep {sz : Nat} {c : Col} (x : COk H r rl sz c) (k1 : ∀ b ys, H b = some (.lst ys) → H' b = some (.lst ys)) (k2 : Tups H H') : COk H' r rl sz c :=
  ⟨k1 _ _ x.l, k1 _ _ x.m, x.len, x.nm, fun v hv => by obtain ⟨d, q⟩ := x.val v hv; exact ⟨d, q.keep k2⟩, x.lr, x.mr⟩
theorem W10.same (W : W10 C H p r e h rl nums n cs) (s : Same H H') : W10 C H' p r e h rl nums n cs :=
  ⟨W.tab.same s, Rd.same W.hld s, s _ _ W.hrl, fun c hc => (W.col c hc).keep (fun b ys q => s _ _ q) (.same s), W.nod, W.il, W.im, W.ilm, W.nrr, W.neD, W.few⟩
theorem one_c {c d : Col} (nod : (cs.map (·.nm)).Nodup) (hc : c ∈ cs) (hd : d ∈ cs) (e : c.nm = d.nm) : c = d := by
  obtain ⟨i, hi⟩ := List.getElem?_of_mem hc
  obtain ⟨j, hj⟩ := List.getElem?_of_mem hd
  have e1 : (cs.map (·.nm))[i]? = some c.nm := by rw [List.getElem?_map, hi]; rfl
  have e2 : (cs.map (·.nm))[j]? = some c.nm := by rw [List.getElem?_map, hj, e]; rfl
  have := (List.getElem?_inj (List.getElem?_eq_some_iff.mp e1).1 nod).mp (e1.trans e2.symm)
  subst this
  rw [hi] at hj
  exact Option.some.inj hj
theorem W10.out_k (W : W10 C H p r e h rl nums n cs) {b : Addr} {o : HO} (q : H b = some o) (nn : ∀ xs, o ≠ .lst xs) : Out r rl cs b :=
  ⟨ne_of q W.tab.rows (nn _), ne_of q W.hrl (nn _), fun c hc => ⟨ne_of q (W.col c hc).l (nn _), ne_of q (W.col c hc).m (nn _)⟩⟩
theorem nod_of (nod : (cs.map (·.nm)).Nodup) (il : ∀ c ∈ cs, ∀ d ∈ cs, c.l = d.l → c.nm = d.nm) : (cs.map (·.l)).Nodup := by
  have h : List.Pairwise (fun c d : Col => c.nm ≠ d.nm) cs := List.pairwise_map.mp nod
  refine List.pairwise_map.mpr (List.Pairwise.imp_of_mem (fun {a b} ha hb n z => n (il a ha b hb z)) h)
theorem W10.tbl (W : W10 C H p r e h rl nums n cs) : Tbl C H p r e (nums.map V.int) n (tsOf cs) := by
  refine ⟨by rw [tk_of]; exact W.tab, fun c hc => ?_, fun c hc => ?_, fun c hc => ?_, by rw [tsOf_nm]; exact W.nod, ?_, fun c hc => ?_, by unfold tsOf; rw [List.length_map]; exact W.few⟩
  · obtain ⟨d, hd, rfl⟩ := tsOf_mem hc
    exact (W.col d hd).l
  · obtain ⟨d, hd, rfl⟩ := tsOf_mem hc
    rw [List.length_map]
    exact (W.col d hd).len
  · obtain ⟨d, hd, rfl⟩ := tsOf_mem hc
    exact ⟨(W.col d hd).nm.1, (W.col d hd).nm.2.1⟩
  · have : (tsOf cs).map (·.l) = cs.map (·.l) := by unfold tsOf; rw [List.map_map]; rfl
    rw [this]
    exact nod_of W.nod W.il
  · obtain ⟨d, hd, rfl⟩ := tsOf_mem hc
    exact (W.col d hd).lr.1
def mapC (cs : List Col) (g : Col → List V) : List Col := cs.map fun c => ⟨c.nm, c.l, c.m, g c⟩
theorem mapC_mem {g : Col → List V} {c : Col} (hc : c ∈ mapC cs g) : ∃ d ∈ cs, c = ⟨d.nm, d.l, d.m, g d⟩ := by
  obtain ⟨d, hd, e⟩ := List.mem_map.mp hc
  exact ⟨d, hd, e.symm⟩
theorem mapC_kX {g : Col → List V} {f : Col → Addr} (hf : ∀ c ys, f ⟨c.nm, c.l, c.m, ys⟩ = f c) : kX f (mapC cs g) = kX f cs := by
  unfold kX mapC
  rw [List.map_map]
  refine List.map_congr_left fun c _ => ?_
  show ((Sum.inr c.nm : Key), V.ref (f ⟨c.nm, c.l, c.m, g c⟩)) = _
  rw [hf]
theorem mapC_nm {g : Col → List V} : (mapC cs g).map (·.nm) = cs.map (·.nm) := by unfold mapC; rw [List.map_map]; rfl
theorem mapC_out {g : Col → List V} {b : Addr} : Out r rl (mapC cs g) b ↔ Out r rl cs b := by
  constructor
  · rintro ⟨h1, h2, h3⟩
    exact ⟨h1, h2, fun c hc => h3 ⟨c.nm, c.l, c.m, g c⟩ (List.mem_map.mpr ⟨c, hc, rfl⟩)⟩
  · rintro ⟨h1, h2, h3⟩
    refine ⟨h1, h2, fun c hc => ?_⟩
    obtain ⟨d, hd, rfl⟩ := mapC_mem hc
    exact h3 d hd
/-- the lists turn -/
theorem W10.map (W : W10 C H p r e h rl nums n cs) (g : Col → List V) (keep : ∀ b o, H b = some o → b ≠ p → Out r rl cs b → H' b = some o) (tab : TabAt C H' p r e (nums'.map V.int) n' (kX (·.l) cs)) (hl : ∀ c ∈ cs, H' c.l = some (.lst (g c)) ∧ H' c.m = some (.lst (g c))) (hrl : H' rl = some (.lst (nums'.map V.int)))
    (len : ∀ c ∈ cs, (g c).length = nums'.length) (val : ∀ c ∈ cs, ∀ v ∈ g c, ∃ d, Vd H' v d) : W10 C H' p r e h rl nums' n' (mapC cs g) := by
  obtain ⟨⟨dx, g1⟩, g2, g3⟩ := W.tab
  refine ⟨by rw [mapC_kX (fun _ _ => rfl)]; exact tab, by
    rw [mapC_kX (fun _ _ => rfl)]
    rcases W.hld with q | ⟨o, q⟩
    · exact .inl (keep _ _ q (ne_of q g1 (by intro z; cases z)) (W.out_k q (by intro _ z; cases z)))
    · exact .inr ⟨o, keep _ _ q (ne_of q g1 (by intro z; cases z)) (W.out_k q (by intro _ z; cases z))⟩, hrl, fun c hc => ?_, by rw [mapC_nm]; exact W.nod, fun c hc d hd z => ?_, fun c hc d hd z => ?_, fun c hc d hd z => ?_, W.nrr, W.neD, by unfold mapC; rw [List.length_map]; exact W.few⟩
  · obtain ⟨d, hd, rfl⟩ := mapC_mem hc
    exact ⟨(hl d hd).1, (hl d hd).2, len d hd, (W.col d hd).nm, val d hd, (W.col d hd).lr, (W.col d hd).mr⟩
  · obtain ⟨c', hc', rfl⟩ := mapC_mem hc
    obtain ⟨d', hd', rfl⟩ := mapC_mem hd
    exact W.il c' hc' d' hd' z
  · obtain ⟨c', hc', rfl⟩ := mapC_mem hc
    obtain ⟨d', hd', rfl⟩ := mapC_mem hd
    exact W.im c' hc' d' hd' z
  · obtain ⟨c', hc', rfl⟩ := mapC_mem hc
    obtain ⟨d', hd', rfl⟩ := mapC_mem hd
    exact W.ilm c' hc' d' hd' z
/-- the columns turn -/
theorem W10.cols (W : W10 C H p r e h rl nums n cs) (hh : ∃ kvs, H h = some (.dK kvs)) (keep : ∀ b o, H b = some o → b ≠ e → b ≠ h → H' b = some o) (he : H' e = some (.dK (kX (·.l) cs'))) (hh' : H' h = some (.dK (kX (·.m) cs'))) (nod : (cs'.map (·.nm)).Nodup) (few : cs'.length ≤ 8)
    (new : ∀ d ∈ cs', d ∈ cs ∨ (COk H' r rl nums.length d ∧ (∀ c ∈ cs, d.l ≠ c.l ∧ d.l ≠ c.m ∧ d.m ≠ c.l ∧ d.m ≠ c.m) ∧ d.l ≠ d.m ∧ ∀ c ∈ cs', c ∈ cs ∨ c = d)) : W10 C H' p r e h rl nums n cs' := by
  obtain ⟨kvs, hh⟩ := hh
  obtain ⟨⟨dx, g1⟩, g2, g3⟩ := W.tab
  have k : ∀ b o, H b = some o → (∀ q, o ≠ .dK q) → H' b = some o := fun b o q nn => keep b o q (ne_of q g3 (nn _)) (ne_of q hh (nn _))
  refine ⟨⟨⟨dx, k _ _ g1 (by intro _ z; cases z)⟩, k _ _ g2 (by intro _ z; cases z), he⟩, .inl hh', k _ _ W.hrl (by intro _ z; cases z), fun d hd => ?_, nod, fun c hc d hd z => ?_, fun c hc d hd z => ?_, fun c hc d hd z => ?_, W.nrr, W.neD, few⟩
  · rcases new d hd with y | y
    · exact (W.col d y).keep (fun b ys q => k _ _ q (by intro _ z; cases z)) fun b ys q => k _ _ q (by intro _ z; cases z)
    · exact y.1
  · rcases new c hc with y | y <;> rcases new d hd with x | x
    · exact W.il c y d x z
    · exact absurd z.symm (x.2.1 c y).1
    · exact absurd z (y.2.1 d x).1
    · rcases y.2.2.2 d hd with u | u
      · exact absurd z (y.2.1 d u).1
      · rw [u]
  · rcases new c hc with y | y <;> rcases new d hd with x | x
    · exact W.im c y d x z
    · exact absurd z.symm (x.2.1 c y).2.2.2
    · exact absurd z (y.2.1 d x).2.2.2
    · rcases y.2.2.2 d hd with u | u
      · exact absurd z (y.2.1 d u).2.2.2
      · rw [u]
  · rcases new c hc with y | y <;> rcases new d hd with x | x
    · exact W.ilm c y d x z
    · exact absurd z.symm (x.2.1 c y).2.2.1
    · exact absurd z (y.2.1 d x).2.1
    · rcases y.2.2.2 d hd with u | u
      · exact absurd z (y.2.1 d u).2.1
      · rw [u] at z
        exact absurd z y.2.2.1
theorem W10.frz {ob : Obj} (W : W10 C H p r e h rl nums n cs) (hh : H h = some (.dK (kX (·.m) cs))) : W10 C (upd H h (.frz ob (.dK (kX (·.m) cs)))) p r e h rl nums n cs := by
  have k : ∀ b o, H b = some o → (∀ q, o ≠ .dK q) → upd H h (.frz ob (.dK (kX (·.m) cs))) b = some o := fun b o q nn => by rw [upd_ne (ne_of q hh (nn _))]; exact q
  obtain ⟨⟨dx, h1⟩, h2, h3⟩ := W.tab
  exact ⟨⟨⟨dx, k _ _ h1 (by intro _ z; cases z)⟩, k _ _ h2 (by intro _ z; cases z), by rw [upd_ne W.neD]; exact h3⟩, .inr ⟨ob, upd_same⟩, k _ _ W.hrl (by intro _ z; cases z), fun d hd => (W.col d hd).keep (fun b ys q => k _ _ q (by intro _ z; cases z)) fun b ys q => k _ _ q (by intro _ z; cases z), W.nod, W.il, W.im, W.ilm, W.nrr, W.neD, W.few⟩
end
end My

namespace My
open PySem L2
section
variable {α β : Type}
theorem insV_map (f : α → β) (xs : List α) (k : Nat) (y : α) : (insV xs k y).map f = insV (xs.map f) k (f y) := by
  unfold insV
  rw [List.map_append, List.map_cons, List.map_take, List.map_drop]
theorem insV_perm (xs : List α) (k : Nat) (y : α) : (insV xs k y).Perm (y :: xs) := by
  unfold insV
  have := List.perm_middle (a := y) (l₁ := xs.take k) (l₂ := xs.drop k)
  rwa [List.take_append_drop] at this
theorem insV_mem {xs : List α} {k : Nat} {x y : α} : x ∈ insV xs k y ↔ x = y ∨ x ∈ xs := by rw [(insV_perm xs k y).mem_iff, List.mem_cons]
theorem erase_map (f : α → β) : ∀ (xs : List α) (k : Nat), (xs.eraseIdx k).map f = (xs.map f).eraseIdx k
  | [], _ => rfl
  | x :: r, 0 => rfl
  | x :: r, k + 1 => by
    rw [List.eraseIdx_cons_succ, List.map_cons, List.map_cons, List.eraseIdx_cons_succ, erase_map f r k]
end
/-- pairs of names and values, as a dict -/
def kP (ps : List (Str × V)) : List (Key × V) := ps.map fun q => ((Sum.inr q.1 : Key), q.2)
theorem kP_len {ps : List (Str × V)} : (kP ps).length = ps.length := by unfold kP; rw [List.length_map]
theorem kP_none {ps : List (Str × V)} {t : Str} (h : t ∉ ps.map (·.1)) : valV (kP ps) (.inr t : Key) = none := by
  induction ps with
  | nil => rfl
  | cons q r ih =>
    rw [List.map_cons, List.mem_cons, not_or] at h
    show valV (((Sum.inr q.1 : Key), q.2) :: kP r) _ = _
    rw [valV_neg (fun z => h.1 (Sum.inr.inj z).symm)]
    exact ih h.2
theorem kP_some {ps : List (Str × V)} {q : Str × V} (nod : (ps.map (·.1)).Nodup) (h : q ∈ ps) : valV (kP ps) (.inr q.1 : Key) = some q.2 := by
  induction ps with
  | nil => cases h
  | cons d r ih =>
    rw [List.map_cons, List.nodup_cons] at nod
    by_cases hd : d.1 = q.1
    · rcases List.mem_cons.mp h with rfl | h
      · exact valV_pos rfl
      · exact absurd (List.mem_map.mpr ⟨q, h, hd.symm⟩) nod.1
    · rcases List.mem_cons.mp h with rfl | h
      · exact absurd rfl hd
      · show valV (((Sum.inr d.1 : Key), d.2) :: kP r) _ = _
        rw [valV_neg (fun z => hd (Sum.inr.inj z))]
        exact ih nod.2 h
theorem kP_snoc {ps : List (Str × V)} {t : Str} {v : V} (h : t ∉ ps.map (·.1)) : putK (kP ps) (.inr t : Key) v = kP (ps ++ [(t, v)]) := by
  rw [putK_new v (kP_none h)]
  unfold kP
  rw [List.map_append]
  rfl
theorem not_take {zs : List Str} (nod : zs.Nodup) {j : Nat} {z : Str} (h : zs[j]? = some z) : z ∉ zs.take j := fun hz => by
  obtain ⟨i, hi⟩ := List.getElem?_of_mem hz
  rw [List.getElem?_take] at hi
  split at hi
  · have := (List.getElem?_inj (List.getElem?_eq_some_iff.mp hi).1 nod).mp (hi.trans h.symm)
    omega
  · cases hi
end My

namespace My
open PySem L2
theorem lay_is (zs : List Int) : (PyData.list (zs.map PyData.int)).canLay0 = true ∧ (PyData.list (zs.map PyData.int)).depth ≤ 64 := by
  obtain ⟨h1, h2⟩ := lay_ints zs
  rw [PyData.canLay0, PyData.depth, h1, h2]
  exact ⟨rfl, by decide⟩
theorem lay_nms {cs : List Col} (h : ∀ c ∈ cs, Nm c.nm) : (PyData.list ((cs.map (·.nm)).map PyData.str)).canLay0 = true ∧ (PyData.list ((cs.map (·.nm)).map PyData.str)).depth ≤ 64 := by
  obtain ⟨h1, h2⟩ := lay_strs (cs.map (·.nm)) fun z hz => by
    obtain ⟨c, hc, rfl⟩ := List.mem_map.mp hz
    exact (h c hc).lay
  rw [PyData.canLay0, PyData.depth, h1, h2]
  exact ⟨rfl, by decide⟩
theorem kX_get {g : Col → Addr} {cs : List Col} {j : Nat} {p : Key × V} (h : (kX g cs)[j]? = some p) : ∃ c, c ∈ cs ∧ cs[j]? = some c ∧ p = ((Sum.inr c.nm : Key), V.ref (g c)) := by
  unfold kX at h
  rw [List.getElem?_map] at h
  cases z : cs[j]? with
  | none => rw [z] at h; cases h
  | some c =>
    rw [z] at h
    cases h
    exact ⟨c, List.mem_of_getElem? z, rfl, rfl⟩
theorem at_cols {cs : List Col} {j k : Nat} {c d : Col} (nod : (cs.map (·.nm)).Nodup) (hc : cs[j]? = some c) (hd : cs[k]? = some d) (e : c.nm = d.nm) : j = k := by
  have e1 : (cs.map (·.nm))[j]? = some c.nm := by rw [List.getElem?_map, hc]; rfl
  have e2 : (cs.map (·.nm))[k]? = some c.nm := by rw [List.getElem?_map, hd, e]; rfl
  exact (List.getElem?_inj (List.getElem?_eq_some_iff.mp e1).1 nod).mp (e1.trans e2.symm)
theorem take_ne {cs : List Col} {j : Nat} {c d : Col} (nod : (cs.map (·.nm)).Nodup) (hc : cs[j]? = some c) (hd : d ∈ cs.take j) : d ∈ cs ∧ c.nm ≠ d.nm := by
  obtain ⟨k, hk⟩ := List.getElem?_of_mem hd
  rw [List.getElem?_take] at hk
  split at hk
  · exact ⟨List.mem_of_getElem? hk, fun z => by have := at_cols nod hc hk z; omega⟩
  · cases hk
section
variable {P : Program} {w : World} {K : PySem.W.Frag} {mg : Str → Option Value} {base : Heap}
def spStands (K : PySem.W.Frag) (C : Addr) : Sp := fun vs H Q _ => ∃ (p r e h rl : Addr) (nums : List Int) (n : Int) (cs : List Col), vs = [.ref p, .ref h, .ref rl] ∧ W10 C H p r e h rl nums n cs ∧ H h = some (.dK (kX (·.m) cs)) ∧ nums.length ≤ 30 ∧ ∀ H', Same H H' → Q (.bl true) H'
theorem sc_law_stands : FnScope ["_law_table", "_law_held", "_law_rows", "_law_column", "_law_place", "_law_value_here"] ["_law_table", "_law_held", "_law_rows"] (defScope s_law_stands) := ⟨rfl, rfl, rfl, by decide +kernel, rfl, by decide +kernel, by decide +kernel⟩
theorem k_law_stands (T : Tops K mg) {ad : Ad} (X : Excs K mg ad) {C : Addr} (Y : TTable K mg C) : Known P w K mg base CX0 4 "_law_stands" ["_law_table", "_law_held", "_law_rows"] (spStands K C) := by
  have G_at : KnownM P w K mg base (CXE P w) 3 C "at" ["self", "column", "place"] (spAt K C ad) := k_Table_at T X Y
  have G_many : KnownM P w K mg base CX0 1 C "many" ["self"] (spMany C) := k_Table_many T Y
  have G_numbers : KnownM P w K mg base CX0 1 C "numbers" ["self"] (spNumbers C) := k_Table_numbers T Y
  have G_columns : KnownM P w K mg base CX0 1 C "columns" ["self"] (spColumns C) := k_Table_columns T Y
  refine T.d_law_stands.known sc_law_stands (fun _ _ _ _ _ _ us hl => match us, hl with | [_, _, _], _ => rfl) (fun vs H Q E h => ?_) (fun f cdv A outer s H vs Q E hr h => ?_)
  · obtain ⟨p, r, e, h, rl, nums, n, cs, rfl, _⟩ := h
    rfl
  · obtain ⟨p, r, e, h, rl, nums, n, cs, rfl, W, hh, hn30, q⟩ := h
    refine ⟨_, (pss_cons (ps_if (PW.pt (pw_or (pt_cmpR (op_neD hr.units) (pe_methN0 (pv 0) Y.cl G_numbers (hr.mono (by decide)) pass0) (pv 2) (nomark _)) (pw_or (pt_cmpR (op_neD hr.units) (pe_methN0 (pv 0) Y.cl G_columns (hr.mono (by decide)) pass0) (pe_callTy (call_list_dK rfl) rfl T.list b_list (pa_cons (pv 1) pa_nil)) (nomark _)) (pw_or1 (pt_cmpR op_ne (pe_methN0 (pv 0) Y.cl G_many (hr.mono (by decide)) pass0) (pe_callB call_len rfl T.len b_len (pa_cons (pv 2) pa_nil)) (nomark _)))))) (pss_one (ps_ret pe_bl)) pss_nil)
      (pss_cons (ps_forD PassesOwn.never rfl (pv 1) (pg_name (i := 3) sc_law_stands.nd rfl (Or.inl rfl)) (pss_one (ps_for PassesOwn.never rfl (pi_range1 rfl T.range (pa_cons (pe_callB call_len rfl T.len b_len (pa_cons (pv 2) pa_nil)) pa_nil)) (pg_name (i := 4) sc_law_stands.nd rfl (Or.inl rfl)) (pss_cons (ps_set (i := 5) sc_law_stands.nd rfl (Or.inl rfl) (pe_methN (pv 0) Y.cl G_at (hr.mono (by decide)) passN (pa_cons (pv 3) (pa_cons (pv 4) pa_nil))))
      (pss_one (ps_if (PW.pt (pw_or (pt_val (pe_callB call_isT rfl T.isinstance b_isinstance (pa_cons (pv 5) (pa_cons (pe_ty T.bool b_bool) pa_nil))) (fun _ => rfl)) (pw_or1 (pt_cmpR (op_neD hr.units) (pv 5) (pe_ix ix_list (pe_dget (hu_of hr) (pv 1) (pv 3) (fun _ _ => rfl)) (pv 4) (fun _ _ => rfl)) (nomark _))))) (pss_one (ps_ret pe_bl)) pss_nil))))))
      (pss_one (ps_ret pe_bl)))), ?_⟩
    obtain ⟨⟨dx, g1⟩, g2, g3⟩ := W.tab
    have exs : ((nums.map V.int).length : Int) = (nums.length : Int) := by rw [List.length_map]
    refine ⟨_, rfl, p, dx, _, rfl, g1, flds_no, p, r, e, _, _, _, rfl, W.tab, fun l1 hl1 => ?_⟩
    have c1 : Same H (upd H l1 (.lst (nums.map V.int))) := Same.new hl1
    obtain ⟨lay, dep⟩ := lay_is nums
    refine ⟨_, rfl, _, _, .lst (SqL.of upd_same) (dt_ints nums), .lst (SqL.of (c1 _ _ W.hrl)) (dt_ints nums), lay, lay, dep, _, rfl, ?_⟩
    rw [SeqAt.eqv_refl _ lay]
    refine iteF ?_
    generalize upd H l1 (.lst (nums.map V.int)) = H1 at c1 ⊢
    have W1 := W.same c1
    refine ⟨_, rfl, p, dx, _, rfl, c1 _ _ g1, flds_no, p, r, e, _, _, _, rfl, W1.tab, fun l2 hl2 => ?_⟩
    rw [kX_keys]
    have c2 : Same H1 (upd H1 l2 (.lst ((cs.map (·.nm)).map V.str))) := Same.new hl2
    have h2' : upd H1 l2 (.lst ((cs.map (·.nm)).map V.str)) l2 = some (.lst ((cs.map (·.nm)).map V.str)) := upd_same
    generalize upd H1 l2 (.lst ((cs.map (·.nm)).map V.str)) = H2 at c2 h2' ⊢
    obtain ⟨layn, depn⟩ := lay_nms fun c hc => (W.col c hc).nm
    refine ⟨_, rfl, h, _, rfl, (c1.trans c2) _ _ hh, fun l3 hl3 => ?_⟩
    rw [kX_keys]
    have c3 : Same H2 (upd H2 l3 (.lst ((cs.map (·.nm)).map V.str))) := Same.new hl3
    refine ⟨_, _, .lst (SqL.of (c3 _ _ h2')) (dt_strs _), .lst (SqL.of upd_same) (dt_strs _), layn, layn, depn, _, rfl, ?_⟩
    rw [SeqAt.eqv_refl _ layn]
    refine iteF ?_
    generalize upd H2 l3 (.lst ((cs.map (·.nm)).map V.str)) = H3 at c3 ⊢
    have s3 := c1.trans (c2.trans c3)
    have W3 := W.same s3
    refine ⟨_, rfl, p, dx, _, rfl, s3 _ _ g1, flds_no, p, r, e, _, _, _, rfl, W3.tab, _, rfl, _, _, rfl, .inl ⟨_, SqL.of W3.hrl, rfl⟩, ?_⟩
    refine ⟨rfl, _, rfl, iteNS rfl ?_⟩
    have hh3 := s3 _ _ hh
    refine ⟨_, rfl, h, _, rfl, hh3, fun nf ob => ?_⟩
    have Wf := W3.frz (ob := ob) hh3
    obtain ⟨Hf, eHf⟩ : ∃ Hf, Hf = upd H3 h (.frz ob (.dK (kX (·.m) cs))) := ⟨_, rfl⟩
    rw [← eHf] at Wf ⊢
    have hhf : Hf h = some (.frz ob (.dK (kX (·.m) cs))) := by rw [eHf, upd_same]
    refine for_dict (a := h) (ob := ob) (kvs := kX (·.m) cs) (fun i σ H2 => (∃ x y z, σ = [some (.ref p), some (.ref h), some (.ref rl), x, y, z]) ∧ Same Hf H2) ⟨⟨_, _, _, rfl⟩, Same.refl _⟩ (fun i σ H2 _ ⟨_, s2⟩ => s2 _ _ hhf) ?_ ?_
    · rintro j pr σ H4 hp ⟨⟨x, y, z, rfl⟩, s4⟩
      obtain ⟨c, hc, _, rfl⟩ := kX_get hp
      have W4 := Wf.same s4
      refine ⟨_, rfl, _, _, rfl, .inl ⟨_, SqL.of W4.hrl, rfl⟩, ?_⟩
      rw [exs]
      refine ⟨_, rfl, by omega, by omega, ?_⟩
      refine for_range (lo := 0) (n := (nums.length : Int).toNat) (fun k σ H5 => (∃ y z, σ = [some (.ref p), some (.ref h), some (.ref rl), some (.str c.nm), y, z]) ∧ Same Hf H5) ⟨⟨_, _, rfl⟩, s4⟩ ?_ ?_
      · rintro k σ H5 hk ⟨⟨y, z, rfl⟩, s5⟩
        have W5 := Wf.same s5
        have hkm : k < nums.length := by omega
        have ck := W5.col c hc
        have hys := ck.len
        obtain ⟨hn1, hn2, _⟩ := ck.nm
        obtain ⟨⟨dx, q1⟩, q2, q3⟩ := W5.tab
        obtain ⟨v1, a1, b1⟩ := at_some c.ys (0 + (k : Int)) (by omega) (by omega)
        have hcol : colD (kX (·.l) cs) (.str c.nm) = true := by
          show (nameS c.nm && _) = true
          rw [hn1, kX_val W.nod hc]
          rfl
        have hpl : placeD ((nums.map V.int).length : Int) (.int (0 + (k : Int))) = true := by
          show (decide (0 ≤ 0 + (k : Int)) && decide (0 + (k : Int) < ((nums.map V.int).length : Int))) = true
          rw [List.length_map, decide_eq_true (by omega), decide_eq_true (by omega)]
          rfl
        refine ⟨_, rfl, p, dx, _, rfl, q1, flds_no, _, rfl, _, rfl, ?_⟩
        refine ⟨p, r, e, _, _, _, _, .str c.nm, _, .int (0 + (k : Int)), rfl, W5.tab, .str _, shortS_str (by omega), .int _, ?_, (fun _ _ => ⟨c.nm, c.l, c.ys, 0 + (k : Int), v1, rfl, hn1, kX_val W.nod hc, ck.l, rfl, by omega, by rw [List.length_map]; omega, a1⟩), (fun z => by rw [hcol] at z; cases z), fun _ z => by rw [hpl] at z; cases z⟩
        intro t' l' ys' i' v' et en ev el ei e0 elt ea H6 s6
        cases et
        cases ei
        obtain rfl : l' = c.l := by have := (kX_val (g := (·.l)) W.nod hc).symm.trans ev; simpa using this.symm
        obtain rfl : ys' = c.ys := by have := el.symm.trans ck.l; simpa using this
        obtain rfl : v' = v1 := by have := ea.symm.trans a1; simpa using this
        have W6 := W5.same s6
        obtain ⟨d1, vd⟩ := (W6.col c hc).val v' (List.mem_of_getElem? b1)
        refine ⟨_, rfl, _, "bool", d1, _, rfl, vd.dt, kit_bool K _, _, rfl, ?_⟩
        rw [decide_eq_false vd.1.2.2.2.1]
        refine iteF ?_
        refine ⟨_, rfl, _, rfl, _, rfl, h, .ref c.m, rfl, (kX_val (g := (·.m)) W.nod hc) ▸ DGet.rd (k := Sum.inr c.nm) W6.hld, _, rfl, c.m, c.ys, _, v', rfl, rfl, SqL.of (W6.col c hc).m, a1, ?_⟩
        refine ⟨_, _, vd.dt, vd.dt, vd.1.2.1, vd.1.2.1, vd.1.2.2.1, _, rfl, ?_⟩
        rw [SeqAt.eqv_refl _ vd.1.2.1]
        exact iteF ⟨⟨_, _, rfl⟩, s5.trans s6⟩
      · rintro σ H5 ⟨⟨y, z, rfl⟩, s5⟩
        exact ⟨⟨_, _, _, rfl⟩, s5⟩
    · rintro σ H4 ⟨⟨x, y, z, rfl⟩, s4⟩
      refine ⟨h, ob, _, nf, s4 _ _ hhf, ?_⟩
      rw [eHf] at s4
      exact q _ (s3.trans (Same.thaw hh3 s4))
def spGiven (K : PySem.W.Frag) (C : Addr) : Sp := fun vs H Q _ => ∃ (p r e h rl : Addr) (nums : List Int) (n : Int) (cs : List Col) (z : Str) (a : Addr) (ns : List Int) (kk : Int), vs = [.ref p, .ref h, .ref rl, .str z, .ref a, .int kk] ∧ W10 C H p r e h rl nums n cs ∧ H h = some (.dK (kX (·.m) cs)) ∧ nums.length ≤ 30 ∧ Nm z ∧ cs.length ≤ 5 ∧ SqL K H a (ns.map V.int) ∧ ns.length ≤ 63 ∧ 0 ≤ kk ∧ kk ≤ 100 ∧
  ∀ (H' : Hp) (c : Col), c.nm = z → H c.l = none → H c.m = none → W10 C H' p r e h rl nums n (putC cs c) → H' h = some (.dK (kX (·.m) (putC cs c))) → (∀ b o, H b = some o → b ≠ e → b ≠ h → H' b = some o) → Q .non H'
theorem sc_law_given : FnScope ["_law_table", "_law_held", "_law_rows", "_law_column", "_law_script", "_law_k", "_law_values"] ["_law_table", "_law_held", "_law_rows", "_law_column", "_law_script", "_law_k"] (defScope s_law_given) := ⟨rfl, rfl, rfl, by decide +kernel, rfl, by decide +kernel, by decide +kernel⟩
theorem putC_len {cs : List Col} {c : Col} : (putC cs c).length ≤ cs.length + 1 := by
  unfold putC
  split
  · rw [List.length_map]; omega
  · rw [List.length_append]; simp
theorem VdAll.mem {H : Hp} : ∀ {vs : List V} {ds : List PyData}, VdAll H vs ds → ∀ v ∈ vs, ∃ d, Vd H v d
  | _, _, .nil, v, h => by cases h
  | _, _, .cons h t, v, hv => by
    rcases List.mem_cons.mp hv with rfl | hv
    · exact ⟨_, h⟩
    · exact t.mem v hv
theorem k_law_given (T : Tops K mg) {ad : Ad} (X : Excs K mg ad) {C : Addr} (Y : TTable K mg C) : Known P w K mg base CX0 6 "_law_given" ["_law_table", "_law_held", "_law_rows", "_law_column", "_law_script", "_law_k"] (spGiven K C) := by
  have G_law_cell : Known P w K mg base CX0 1 "_law_cell" ["_law_script", "_law_k"] (spCell K) := k_law_cell T
  have G_law_value : Known P w K mg base CX0 1 "_law_value" ["_law_cell_here"] spVal := k_law_value T
  have G_give : KnownM P w K mg base (CXE P w) 5 C "give" ["self", "column", "values"] (spGive K C ad) := k_Table_give T X Y
  refine T.d_law_given.known sc_law_given (fun _ _ _ _ _ _ us hl => match us, hl with | [_, _, _, _, _, _], _ => rfl) (fun vs H Q E h => ?_) (fun f cdv A outer s H vs Q E hr h => ?_)
  · obtain ⟨p, r, e, h, rl, nums, n, cs, z, a, ns, kk, rfl, _⟩ := h
    rfl
  · obtain ⟨p, r, e, h, rl, nums, n, cs, z, a, ns, kk, rfl, W, hh, hn30, nz, hcs, hS, hl, k0, k1, q⟩ := h
    refine ⟨_, (pss_cons (ps_setComp (i := 6) sc_law_given.nd rfl rfl (caps_of (sc := defScope s_law_given) (N := ["_law_table", "_law_held", "_law_rows", "_law_column", "_law_script", "_law_k", "_law_values"]) (cp := [(4, "_law_script"), (5, "_law_k")]) (fun x hx => Option.isSome_iff_exists.mp (PySem.W.cellsFrom_some _ _ _ (.inl hx)))) rfl rfl (by decide) (pi_range1 rfl T.range (pa_cons (pe_callB call_len rfl T.len b_len (pa_cons (pv 2) pa_nil)) pa_nil)) (fun _ _ _ _ _ => pts_nil) (fun _ _ _ _ _ => (pe_callN G_law_value (hr.mono (by decide)) pass0 (pa_cons (pe_callN G_law_cell (hr.mono (by decide)) pass0 (pa_cons (pv 1) (pa_cons (pe_op op_add (pe_op op_add pe_int (pe_op op_mul pe_int (pv 2))) (pv 0)) pa_nil))) pa_nil))) rfl)
      (pss_cons (ps_expr (pe_methN (pv 0) Y.cl G_give (hr.mono (by decide)) passN (pa_cons (pv 3) (pa_cons (pe_callTy call_list_of rfl T.list b_list (pa_cons (pv 6) pa_nil)) pa_nil))))
      (pss_one (ps_dput (hu_of hr) (pv 1) (pv 3) (pv 6) rfl)))), ?_⟩
    have exs : ((nums.map V.int).length : Int) = (nums.length : Int) := by rw [List.length_map]
    refine ⟨_, rfl, _, _, rfl, .inl ⟨_, SqL.of W.hrl, rfl⟩, ?_⟩
    rw [exs]
    refine ⟨_, rfl, by omega, by omega, fun D0 hD0 => ?_⟩
    refine comp_range (lo := 0) (n := (nums.length : Int).toNat) (fun k ys H4 => ∃ ds, VdAll H4 ys ds ∧ ds.length = k ∧ Same H H4) ⟨[], .nil, rfl, Same.new hD0⟩ ?_ ?_
    · rintro k ys H4 hk hD4 ⟨ds, vd, hds, s4⟩
      refine ⟨_, rfl, _, rfl, _, _, rfl, rfl, .inl ⟨by decide, by decide⟩, _, _, rfl, rfl, _, rfl, _, _, rfl, rfl, a, ns, _, rfl, s4.seq hS, hl, ?_, ?_, _, rfl, fun v d H5 s5 vv => ⟨s5 _ _ hD4, ?_, ?_⟩⟩
      · omega
      · omega
      · rw [vd.length, hds]
        exact small1000 (by omega)
      · have tp : Tups H5 (upd H5 D0 (.lst (ys ++ [v]))) := Tups.upd (s5 _ _ hD4) (by intro _ z; cases z)
        exact ⟨ds ++ [d], ((vd.keep (.same s5)).snoc vv).keep tp, by rw [List.length_append, hds]; rfl, (s4.trans s5).on hD0⟩
    · rintro vs H4 hD4 ⟨ds, vd, hds, s4⟩
      have hdm : ds.length = nums.length := by omega
      have hvm : vs.length = nums.length := by rw [vd.length, hdm]
      have W4 := W.same s4
      have hh4 := s4 _ _ hh
      obtain ⟨⟨dx, g1⟩, g2, g3⟩ := W4.tab
      refine ⟨_, rfl, p, dx, _, rfl, g1, flds_no, _, rfl, _, rfl, D0, vs, rfl, .inl (SqL.of hD4), fun p2 hp2 => ?_⟩
      have c6 : Same H4 (upd H4 p2 (.lst vs)) := Same.new hp2
      have hval : valuesD ((nums.map V.int).length : Int) (.list ds) = true := vd.values (by rw [List.length_map, hdm])
      have kl : (kX (·.l) cs).length ≤ 5 := by rw [kX_len]; exact hcs
      refine ⟨p, r, e, _, _, _, _, .str z, _, .list ds, rfl, W4.tab.same c6, .str _, shortS_str (by have := nz.2.1; omega), .lst (SqL.of upd_same) ((vd.keep (.same c6)).dt), (fun ds' z => by cases z; exact ⟨by omega, fun d hd => (vd.ok d hd).2.2.2.2⟩), (fun t' et _ _ _ => ?_), (fun z' => by rw [show nameD (.str z) = nameS z from rfl, nz.1] at z'; cases z'), (fun _ _ _ _ z => by omega), fun _ _ _ _ z => by rw [hval] at z; cases z⟩
      cases et
      refine ⟨by omega, p2, vs, rfl, SqL.of upd_same, fun H6 l s6 hl6 => ?_⟩
      obtain ⟨c, ec⟩ : ∃ c : Col, c = ⟨z, l, D0, vs⟩ := ⟨_, rfl⟩
      have ep1 : putK (kX (·.l) cs) (.inr z : Key) (.ref l) = kX (·.l) (putC cs c) := by rw [ec]; exact kX_put (g := (·.l)) (c := ⟨z, l, D0, vs⟩)
      have ep2 : putK (kX (·.m) cs) (.inr z : Key) (.ref D0) = kX (·.m) (putC cs c) := by rw [ec]; exact kX_put (g := (·.m)) (c := ⟨z, l, D0, vs⟩)
      rw [ep1]
      have s46 := c6.trans s6
      have he6 := s46 _ _ g3
      have hle : l ≠ e := fun y => by rw [y, he6] at hl6; cases hl6
      have hlh : l ≠ h := fun y => by rw [y, s46 _ _ hh4] at hl6; cases hl6
      have hl4 : H4 l = none := s46.free hl6
      have k7 : ∀ b o, H4 b = some o → b ≠ e → upd (upd H6 l (.lst vs)) e (.dK (kX (·.l) (putC cs c))) b = some o := fun b o qb nb => by
        rw [upd_ne nb, upd_ne (ne_of_none (s46 _ _ qb) hl6)]
        exact s46 _ _ qb
      have hl7 : upd (upd H6 l (.lst vs)) e (.dK (kX (·.l) (putC cs c))) l = some (.lst vs) := by rw [upd_ne hle, upd_same]
      have he7 : upd (upd H6 l (.lst vs)) e (.dK (kX (·.l) (putC cs c))) e = some (.dK (kX (·.l) (putC cs c))) := upd_same
      generalize upd (upd H6 l (.lst vs)) e (.dK (kX (·.l) (putC cs c))) = H7 at k7 hl7 he7 ⊢
      have hh7 := k7 _ _ hh4 W.neD.symm
      refine ⟨_, rfl, _, rfl, _, rfl, h, _, rfl, DPut.k (k := Sum.inr z) hh7 (by rw [kX_len]; exact small1000 (by omega)), ?_⟩
      rw [ep2]
      have k8 : ∀ b o, H4 b = some o → b ≠ e → b ≠ h → upd H7 h (.dK (kX (·.m) (putC cs c))) b = some o := fun b o qb n1 n2 => by
        rw [upd_ne n2]
        exact k7 _ _ qb n1
      have ecl : c.l = l := by rw [ec]
      have ecm : c.m = D0 := by rw [ec]
      have ecy : c.ys = vs := by rw [ec]
      have ecn : c.nm = z := by rw [ec]
      have hD0e : D0 ≠ e := ne_of hD4 g3 (by intro z; cases z)
      have hD0h : D0 ≠ h := ne_of hD4 hh4 (by intro z; cases z)
      have t8 : Tups H4 (upd H7 h (.dK (kX (·.m) (putC cs c)))) := fun b ys qb => k8 _ _ qb (ne_of qb g3 (by intro z; cases z)) (ne_of qb hh4 (by intro z; cases z))
      have nl : ∀ b o, H4 b = some o → b ≠ l := fun b o qb => ne_of_none qb hl4
      have nD : ∀ b o, H b = some o → b ≠ D0 := fun b o qb => ne_of_none qb hD0
      have W8 := W4.cols (H' := upd H7 h (.dK (kX (·.m) (putC cs c)))) (cs' := putC cs c) ⟨_, hh4⟩ k8 (by rw [upd_ne W.neD]; exact he7) upd_same (putC_nod W.nod) (Nat.le_trans putC_len (by omega)) (fun d hd => by
        rcases putC_mem hd with rfl | ⟨hd, _⟩
        · refine .inr ⟨⟨?_, ?_, ?_, ?_, ?_, ?_, ?_⟩, fun x hx => ?_, ?_, fun x hx => ?_⟩
          · rw [ecl, ecy, upd_ne hlh]
            exact hl7
          · rw [ecm, ecy]
            exact k8 _ _ hD4 hD0e hD0h
          · rw [ecy]
            exact hvm
          · rw [ecn]
            exact nz
          · rw [ecy]
            intro v hv
            obtain ⟨d', h'⟩ := vd.mem v hv
            exact ⟨d', h'.keep t8⟩
          · rw [ecl]
            exact ⟨(nl _ _ g2).symm, (nl _ _ W4.hrl).symm⟩
          · rw [ecm]
            exact ⟨(nD _ _ W.tab.rows).symm, (nD _ _ W.hrl).symm⟩
          · rw [ecl, ecm]
            exact ⟨(nl _ _ (W4.col x hx).l).symm, (nl _ _ (W4.col x hx).m).symm, (nD _ _ (W.col x hx).l).symm, (nD _ _ (W.col x hx).m).symm⟩
          · rw [ecl, ecm]
            exact (nl _ _ hD4).symm
          · rcases putC_mem hx with rfl | ⟨hx, _⟩
            · exact .inr rfl
            · exact .inl hx
        · exact .inl hd)
      exact q _ c ecn (by rw [ecl]; exact s4.free hl4) (by rw [ecm]; exact hD0) W8 upd_same fun b o qb n1 n2 => k8 _ _ (s4 _ _ qb) n1 n2
def spTaken (K : PySem.W.Frag) (C : Addr) : Sp := fun vs H Q _ => ∃ (p r e h rl : Addr) (nums : List Int) (n : Int) (cs : List Col) (i : Int), vs = [.ref p, .ref h, .ref rl, .int i] ∧ W10 C H p r e h rl nums n cs ∧ H h = some (.dK (kX (·.m) cs)) ∧ nums.length ≤ 30 ∧ 0 ≤ i ∧ i < nums.length ∧
  ∀ (H' : Hp), W10 C H' p r e h rl (nums.eraseIdx i.toNat) n (mapC cs fun c => c.ys.eraseIdx i.toNat) → H' h = some (.dK (kX (·.m) cs)) → (∀ b o, H b = some o → b ≠ p → Out r rl cs b → H' b = some o) → Q .non H'
theorem sc_law_taken : FnScope ["_law_table", "_law_held", "_law_rows", "_law_place", "_law_column"] ["_law_table", "_law_held", "_law_rows", "_law_place"] (defScope s_law_taken) := ⟨rfl, rfl, rfl, by decide +kernel, rfl, by decide +kernel, by decide +kernel⟩
theorem k_law_taken (T : Tops K mg) {ad : Ad} (X : Excs K mg ad) {C : Addr} (Y : TTable K mg C) : Known P w K mg base CX0 4 "_law_taken" ["_law_table", "_law_held", "_law_rows", "_law_place"] (spTaken K C) := by
  have G_take_out : KnownM P w K mg base CX0 3 C "take_out" ["self", "place"] (spTake C) := k_Table_take_out T X Y
  refine T.d_law_taken.known sc_law_taken (fun _ _ _ _ _ _ us hl => match us, hl with | [_, _, _, _], _ => rfl) (fun vs H Q E h => ?_) (fun f cdv A outer s H vs Q E hr h => ?_)
  · obtain ⟨p, r, e, h, rl, nums, n, cs, i, rfl, _⟩ := h
    rfl
  · obtain ⟨p, r, e, h, rl, nums, n, cs, i, rfl, W, hh, hn30, i0, i1, q⟩ := h
    refine ⟨_, (pss_cons (ps_expr (pe_methN (pv 0) Y.cl G_take_out (hr.mono (by decide)) pass0 (pa_cons (pv 3) pa_nil)))
      (pss_cons (ps_expr (pe_bm PySem.F.plainAttrs_list PySem.F.slot_list_pop PySem.F.type_list_pop mt_popAt (pv 2) (pa_cons (pv 3) pa_nil)))
      (pss_one (ps_forD PassesOwn.never rfl (pv 1) (pg_name (i := 4) sc_law_taken.nd rfl (Or.inl rfl)) (pss_one (ps_expr (pe_bm PySem.F.plainAttrs_list PySem.F.slot_list_pop PySem.F.type_list_pop mt_popAt (pe_dget (hu_of hr) (pv 1) (pv 4) (fun _ _ => rfl)) (pa_cons (pv 3) pa_nil)))))))), ?_⟩
    obtain ⟨⟨dx, g1⟩, g2, g3⟩ := W.tab
    obtain ⟨k, hk, ek⟩ : ∃ k : Nat, k < nums.length ∧ i = (k : Int) := ⟨i.toNat, by omega, by omega⟩
    have kt : i.toNat = k := by omega
    refine ⟨_, rfl, p, dx, _, rfl, g1, flds_no, _, rfl, p, r, e, _, n, tsOf cs, i, rfl, W.tbl, i0, by rw [List.length_map]; exact i1, by rw [List.length_map]; omega, fun H5 k5 l5 r5 => ?_⟩
    rw [kt] at l5 r5 q
    have k5' : ∀ b o, H b = some o → b ≠ r → (∀ c ∈ cs, b ≠ c.l) → H5 b = some o := fun b o qb n1 n2 => k5 b o qb n1 fun c hc => by
      obtain ⟨d, hd, rfl⟩ := tsOf_mem hc
      exact n2 d hd
    have l5' : ∀ c ∈ cs, H5 c.l = some (.lst (c.ys.eraseIdx k)) := fun c hc => l5 ⟨c.nm, c.l, c.ys⟩ (List.mem_map.mpr ⟨c, hc, rfl⟩)
    have hrl5 := k5' _ _ W.hrl W.nrr.symm fun c hc => (W.col c hc).lr.2.symm
    obtain ⟨y0, hy0⟩ : ∃ y0, (nums.map V.int)[k]? = some y0 := ⟨(nums.map V.int)[k]'(by rw [List.length_map]; exact hk), by simp⟩
    refine ⟨_, rfl, .inl ⟨rfl, _, SqL.of hrl5⟩, _, rfl, rl, _, i, k, y0, rfl, rfl, hrl5, by omega, by omega, by rw [← kt]; exact seqIndex_of i0 (by rw [List.length_map]; exact i1), hy0, ?_⟩
    have k6 : ∀ b o, H b = some o → b ≠ r → b ≠ rl → (∀ c ∈ cs, b ≠ c.l) → upd H5 rl (.lst ((nums.map V.int).eraseIdx k)) b = some o := fun b o qb n1 n2 n3 => by
      rw [upd_ne n2]
      exact k5' b o qb n1 n3
    have l6 : ∀ c ∈ cs, upd H5 rl (.lst ((nums.map V.int).eraseIdx k)) c.l = some (.lst (c.ys.eraseIdx k)) := fun c hc => by
      rw [upd_ne (W.col c hc).lr.2]
      exact l5' c hc
    have r6 : upd H5 rl (.lst ((nums.map V.int).eraseIdx k)) r = some (.lst ((nums.map V.int).eraseIdx k)) := by
      rw [upd_ne W.nrr]
      exact r5
    have rl6 : upd H5 rl (.lst ((nums.map V.int).eraseIdx k)) rl = some (.lst ((nums.map V.int).eraseIdx k)) := upd_same
    generalize upd H5 rl (.lst ((nums.map V.int).eraseIdx k)) = H6 at k6 l6 r6 rl6 ⊢
    have keepK6 : ∀ b o, H b = some o → (∀ xs, o ≠ .lst xs) → H6 b = some o := fun b o qb nn => by
      have := W.out_k qb nn
      exact k6 b o qb this.1 this.2.1 fun c hc => (this.2.2 c hc).1
    have m6 : ∀ c ∈ cs, H6 c.m = some (.lst c.ys) := fun c hc => k6 _ _ (W.col c hc).m (W.col c hc).mr.1 (W.col c hc).mr.2 fun d hd => (W.ilm d hd c hc).symm
    have hh6 := keepK6 _ _ hh (by intro _ z; cases z)
    refine ⟨_, rfl, h, _, rfl, hh6, fun nf ob => ?_⟩
    refine for_dict (a := h) (ob := ob) (kvs := kX (·.m) cs) (fun j σ H7 => (∃ x, σ = [some (.ref p), some (.ref h), some (.ref rl), some (.int i), x]) ∧ (∀ b o, upd H6 h (.frz ob (.dK (kX (·.m) cs))) b = some o → (∀ c ∈ cs.take j, b ≠ c.m) → H7 b = some o) ∧ ∀ c ∈ cs.take j, H7 c.m = some (.lst (c.ys.eraseIdx k)))
      ⟨⟨_, rfl⟩, fun b o qb _ => qb, fun c hc => by simp at hc⟩ (fun j σ H7 _ ⟨_, t1, _⟩ => t1 _ _ upd_same fun c hc => (ne_of (m6 c (List.mem_of_mem_take hc)) hh6 (by intro z; cases z)).symm) ?_ ?_
    · rintro j pr σ H7 hp ⟨⟨x, rfl⟩, t1, t2⟩
      obtain ⟨c, hc, hj, rfl⟩ := kX_get hp
      have apart : ∀ d ∈ cs.take j, c.m ≠ d.m := fun d hd z => by
        obtain ⟨hd', ne⟩ := take_ne W.nod hj hd
        exact ne (W.im c hc d hd' z)
      have hcm : H7 c.m = some (.lst c.ys) := t1 _ _ (by rw [upd_ne (ne_of (m6 c hc) hh6 (by intro z; cases z))]; exact m6 c hc) apart
      have hh7 : H7 h = some (.frz ob (.dK (kX (·.m) cs))) := t1 _ _ upd_same fun d hd => (ne_of (m6 d (List.mem_of_mem_take hd)) hh6 (by intro z; cases z)).symm
      have hlen := (W.col c hc).len
      obtain ⟨y1, hy1⟩ : ∃ y1, c.ys[k]? = some y1 := ⟨c.ys[k]'(by omega), by simp⟩
      refine ⟨_, rfl, _, rfl, h, .ref c.m, rfl, (kX_val (g := (·.m)) W.nod hc) ▸ DGet.rd (k := Sum.inr c.nm) (.inr ⟨ob, hh7⟩), .inl ⟨rfl, _, SqL.of hcm⟩, _, rfl, c.m, c.ys, i, k, y1, rfl, rfl, hcm, by omega, by omega, by rw [← kt]; exact seqIndex_of i0 (by omega), hy1, ?_⟩
      refine ⟨⟨_, rfl⟩, fun b o qb nb => ?_, fun d hd => ?_⟩
      · rw [upd_ne (nb c (by rw [List.take_add_one, hj]; simp))]
        exact t1 b o qb fun d hd => nb d (by rw [List.take_add_one]; exact List.mem_append_left _ hd)
      · rw [List.take_add_one, hj] at hd
        rcases List.mem_append.mp hd with hd | hd
        · rw [upd_ne (apart d hd).symm]
          exact t2 d hd
        · have : d = c := by simpa using hd
          subst this
          exact upd_same
    · rintro σ H7 ⟨⟨x, rfl⟩, t1, t2⟩
      rw [kX_len, List.take_length] at t1 t2
      have hmh : ∀ c ∈ cs, h ≠ c.m := fun c hc => (ne_of (m6 c hc) hh6 (by intro z; cases z)).symm
      refine ⟨h, ob, _, nf, t1 _ _ upd_same hmh, ?_⟩
      have k8 : ∀ b o, H6 b = some o → (∀ c ∈ cs, b ≠ c.m) → upd H7 h (.dK (kX (·.m) cs)) b = some o := fun b o qb nb => by
        by_cases hb : b = h
        · rw [hb] at qb ⊢
          rw [upd_same]
          exact hh6.symm.trans qb
        · rw [upd_ne hb]
          exact t1 b o (by rw [upd_ne hb]; exact qb) nb
      have keep : ∀ b o, H b = some o → b ≠ p → Out r rl cs b → upd H7 h (.dK (kX (·.m) cs)) b = some o := fun b o qb _ ob' => k8 b o (k6 b o qb ob'.1 ob'.2.1 fun c hc => (ob'.2.2 c hc).1) fun c hc => (ob'.2.2 c hc).2
      have W8 := W.map (H' := upd H7 h (.dK (kX (·.m) cs))) (nums' := nums.eraseIdx k) (n' := n) (fun c => c.ys.eraseIdx k) keep
        ⟨⟨dx, k8 _ _ (keepK6 _ _ g1 (by intro _ z; cases z)) fun c hc => ne_of g1 (W.col c hc).m (by intro z; cases z)⟩, by rw [erase_map]; exact k8 _ _ r6 fun c hc => (W.col c hc).mr.1.symm, k8 _ _ (keepK6 _ _ g3 (by intro _ z; cases z)) fun c hc => ne_of g3 (W.col c hc).m (by intro z; cases z)⟩
        (fun c hc => ⟨k8 _ _ (l6 c hc) fun d hd => W.ilm c hc d hd, by rw [upd_ne (hmh c hc).symm]; exact t2 c hc⟩) (by rw [erase_map]; exact k8 _ _ rl6 fun c hc => (W.col c hc).mr.2.symm)
        (fun c hc => by rw [List.length_eraseIdx, List.length_eraseIdx, (W.col c hc).len]) (fun c hc v hv => by
          obtain ⟨d, vd⟩ := (W.col c hc).val v (List.mem_of_mem_eraseIdx hv)
          exact ⟨d, vd.keep fun b xs qb => keep _ _ qb (ne_of qb g1 (by intro z; cases z)) (W.out_k qb (by intro _ z; cases z))⟩)
      exact q _ W8 upd_same keep
end
end My

namespace My
open PySem L2
theorem sq_ne {K : PySem.W.Frag} {H : Hp} {h a : Addr} {kvs : List (Key × V)} {xs : List V} (q : SqL K (upd H h (.dK kvs)) a xs) : SqL K H a xs := by
  rcases q with (q | ⟨o, q⟩) | q
  · have : a ≠ h := by rintro rfl; rw [upd_same] at q; cases q
    rw [upd_ne this] at q
    exact .inl (.inl q)
  · have : a ≠ h := by rintro rfl; rw [upd_same] at q; cases q
    rw [upd_ne this] at q
    exact .inl (.inr ⟨o, q⟩)
  · exact .inr q
section
variable {P : Program} {w : World} {K : PySem.W.Frag} {mg : Str → Option Value} {base : Heap}
def spEntered (K : PySem.W.Frag) (C : Addr) : Sp := fun vs H Q _ => ∃ (p r e h rl : Addr) (nums : List Int) (n : Int) (cs : List Col) (i : Int) (a : Addr) (ns : List Int) (kk : Int), vs = [.ref p, .ref h, .ref rl, .int n, .int i, .ref a, .int kk] ∧ W10 C H p r e h rl nums n cs ∧ H h = some (.dK (kX (·.m) cs)) ∧ nums.length < 30 ∧ 0 ≤ i ∧ i ≤ nums.length ∧ SqL K H a (ns.map V.int) ∧ ns.length ≤ 63 ∧ 0 ≤ kk ∧ kk ≤ 100 ∧
  ∀ (H' : Hp) (g : Col → V), W10 C H' p r e h rl (insV nums i.toNat n) (n + 1) (mapC cs fun c => insV c.ys i.toNat (g c)) → H' h = some (.dK (kX (·.m) cs)) → (∀ b o, H b = some o → b ≠ p → Out r rl cs b → H' b = some o) → Q .non H'
theorem sc_law_entered : FnScope ["_law_table", "_law_held", "_law_rows", "_law_coming", "_law_place", "_law_script", "_law_k", "_law_values", "_law_column"] ["_law_table", "_law_held", "_law_rows", "_law_coming", "_law_place", "_law_script", "_law_k"] (defScope s_law_entered) := ⟨rfl, rfl, rfl, by decide +kernel, rfl, by decide +kernel, by decide +kernel⟩
theorem k_law_entered (T : Tops K mg) {ad : Ad} (X : Excs K mg ad) {C : Addr} (Y : TTable K mg C) : Known P w K mg base CX0 7 "_law_entered" ["_law_table", "_law_held", "_law_rows", "_law_coming", "_law_place", "_law_script", "_law_k"] (spEntered K C) := by
  have G_law_cell : Known P w K mg base CX0 1 "_law_cell" ["_law_script", "_law_k"] (spCell K) := k_law_cell T
  have G_law_value : Known P w K mg base CX0 1 "_law_value" ["_law_cell_here"] spVal := k_law_value T
  have G_put_in : KnownM P w K mg base CX0 6 C "put_in" ["self", "place", "values"] (spPutIn K C) := k_Table_put_in T X Y
  refine T.d_law_entered.known sc_law_entered (fun _ _ _ _ _ _ us hl => match us, hl with | [_, _, _, _, _, _, _], _ => rfl) (fun vs H Q E h => ?_) (fun f cdv A outer s H vs Q E hr h => ?_)
  · obtain ⟨p, r, e, h, rl, nums, n, cs, i, a, ns, kk, rfl, _⟩ := h
    rfl
  · obtain ⟨p, r, e, h, rl, nums, n, cs, i, a, ns, kk, rfl, W, hh, hn30, i0, i1, hS, hl, k0, k1, q⟩ := h
    refine ⟨_, (pss_cons (ps_set (i := 7) sc_law_entered.nd rfl (Or.inl rfl) pe_dnewK)
      (pss_cons (ps_forD PassesOwn.never rfl (pv 1) (pg_name (i := 8) sc_law_entered.nd rfl (Or.inl rfl)) (pss_one (ps_dput (hu_of hr) (pv 7) (pv 8) (pe_callN G_law_value (hr.mono (by decide)) pass0 (pa_cons (pe_callN G_law_cell (hr.mono (by decide)) pass0 (pa_cons (pv 5) (pa_cons (pe_op op_add (pe_op op_add pe_int (pe_op op_mul pe_int (pv 6))) (pe_callB call_lenD rfl T.len b_len (pa_cons (pv 7) pa_nil))) pa_nil))) pa_nil)) rfl)))
      (pss_cons (ps_expr (pe_methN (pv 0) Y.cl G_put_in (hr.mono (by decide)) pass0 (pa_cons (pv 4) (pa_cons (pe_callTy call_dict_of rfl T.dict b_dict (pa_cons (pv 7) pa_nil)) pa_nil))))
      (pss_cons (ps_expr (pe_bm PySem.F.plainAttrs_list PySem.F.slot_list_insert PySem.F.type_list_insert mt_insert (pv 2) (pa_cons (pv 4) (pa_cons (pv 3) pa_nil))))
      (pss_one (ps_forD PassesOwn.never rfl (pv 1) (pg_name (i := 8) sc_law_entered.nd rfl (Or.inl rfl)) (pss_one (ps_expr (pe_bm PySem.F.plainAttrs_list PySem.F.slot_list_insert PySem.F.type_list_insert mt_insert (pe_dget (hu_of hr) (pv 1) (pv 8) (fun _ _ => rfl)) (pa_cons (pv 4) (pa_cons (pe_dget (hu_of hr) (pv 7) (pv 8) (fun _ _ => rfl)) pa_nil))))))))))), ?_⟩
    obtain ⟨⟨dx, g1⟩, g2, g3⟩ := W.tab
    obtain ⟨k, hk, ek⟩ : ∃ k : Nat, k ≤ nums.length ∧ i = (k : Int) := ⟨i.toNat, by omega, by omega⟩
    have kt : i.toNat = k := by omega
    rw [kt] at q
    intro dV hdV
    have c1 : Same H (upd H dV (.dK [])) := Same.new hdV
    have hdV1 : upd H dV (.dK []) dV = some (.dK []) := upd_same
    generalize upd H dV (.dK []) = H1 at c1 hdV1 ⊢
    have hh1 := c1 _ _ hh
    have ndh : dV ≠ h := (ne_of_none hh hdV).symm
    have nkl : (cs.map (·.nm)).length = cs.length := by rw [List.length_map]
    refine ⟨_, rfl, h, _, rfl, hh1, fun nf ob => ?_⟩
    refine for_dict (a := h) (ob := ob) (kvs := kX (·.m) cs) (fun j σ H2 => ∃ (x8 : Option V) (ps : List (Str × V)), σ = [some (.ref p), some (.ref h), some (.ref rl), some (.int n), some (.int i), some (.ref a), some (.int kk), some (.ref dV), x8] ∧ ps.map (·.1) = (cs.map (·.nm)).take j ∧ H2 dV = some (.dK (kP ps)) ∧ (∀ q ∈ ps, ∃ d, Vd H2 q.2 d) ∧ ∀ b o, upd H1 h (.frz ob (.dK (kX (·.m) cs))) b = some o → b ≠ dV → H2 b = some o)
      ⟨_, [], rfl, rfl, by rw [upd_ne ndh]; exact hdV1, (fun q hq => by cases hq), fun b o qb _ => qb⟩ (fun j σ H2 _ ⟨_, _, _, _, _, _, k2⟩ => k2 _ _ upd_same ndh.symm) ?_ ?_
    · rintro j pr σ H2 hp ⟨x8, ps, rfl, hps, h2, hvd, k2⟩
      obtain ⟨c, hc, hj, rfl⟩ := kX_get hp
      have hjl : j < cs.length := (List.getElem?_eq_some_iff.mp hj).1
      have hfew := W.few
      have lps : ps.length = j := by
        have := congrArg List.length hps
        rw [List.length_map, List.length_take, nkl] at this
        omega
      have hS2 : SqL K H2 a (ns.map V.int) := by
        have s2' : Same H (upd H2 h (.dK (kX (·.m) cs))) := fun b o qb => by
          by_cases hb : b = h
          · rw [hb] at qb ⊢
            rw [upd_same]
            exact hh.symm.trans qb
          · rw [upd_ne hb]
            exact k2 b o (by rw [upd_ne hb]; exact c1 _ _ qb) (ne_of_none qb hdV)
        have q1 := s2'.seq hS
        exact sq_ne q1
      refine ⟨_, rfl, _, rfl, _, _, rfl, rfl, .inl ⟨by decide, by decide⟩, _, _, rfl, rfl, _, rfl, dV, _, rfl, h2, _, _, rfl, rfl, a, ns, _, rfl, hS2, hl, by omega, by rw [kP_len, lps]; omega, _, rfl, fun v d H4 s4 vd => ?_⟩
      refine ⟨_, rfl, _, rfl, dV, _, rfl, DPut.k (k := Sum.inr c.nm) (s4 _ _ h2) (by rw [kP_len, lps]; exact small1000 (by omega)), ?_⟩
      have hzj : (cs.map (·.nm))[j]? = some c.nm := by rw [List.getElem?_map, hj]; rfl
      rw [kP_snoc (by rw [hps]; exact not_take W.nod hzj)]
      have tp : Tups H4 (upd H4 dV (.dK (kP (ps ++ [(c.nm, v)])))) := Tups.upd (s4 _ _ h2) (by intro _ z; cases z)
      refine ⟨_, ps ++ [(c.nm, v)], rfl, ?_, upd_same, fun q' hq => ?_, fun b o qb nb => ?_⟩
      · rw [List.map_append, hps, List.take_add_one, hzj]
        rfl
      · rcases List.mem_append.mp hq with hq | hq
        · obtain ⟨d', h'⟩ := hvd q' hq
          exact ⟨d', (h'.keep (.same s4)).keep tp⟩
        · have : q' = (c.nm, v) := by simpa using hq
          rw [this]
          exact ⟨d, vd.keep tp⟩
      · rw [upd_ne nb]
        exact s4 _ _ (k2 b o qb nb)
    · rintro σ H2 ⟨x8, ps, rfl, hps, h2, hvd, k2⟩
      rw [kX_len, ← nkl, List.take_length] at hps
      refine ⟨h, ob, _, nf, k2 _ _ upd_same ndh.symm, ?_⟩
      have s3 : Same H (upd H2 h (.dK (kX (·.m) cs))) := fun b o qb => by
        by_cases hb : b = h
        · rw [hb] at qb ⊢
          rw [upd_same]
          exact hh.symm.trans qb
        · rw [upd_ne hb]
          exact k2 b o (by rw [upd_ne hb]; exact c1 _ _ qb) (ne_of_none qb hdV)
      have h3 : upd H2 h (.dK (kX (·.m) cs)) dV = some (.dK (kP ps)) := by rw [upd_ne ndh]; exact h2
      have hvd3 : ∀ q ∈ ps, ∃ d, Vd (upd H2 h (.dK (kX (·.m) cs))) q.2 d := fun q' hq => by
        obtain ⟨d, h'⟩ := hvd q' hq
        exact ⟨d, h'.keep fun b xs qb => by
          have : b ≠ h := ne_of qb (k2 _ _ upd_same ndh.symm) (by intro z; cases z)
          rw [upd_ne this]
          exact qb⟩
      generalize upd H2 h (.dK (kX (·.m) cs)) = H3 at s3 h3 hvd3 ⊢
      have hfew := W.few
      have lps : ps.length = cs.length := by
        have := congrArg List.length hps
        rw [List.length_map, nkl] at this
        exact this
      refine ⟨_, rfl, p, dx, _, rfl, s3 _ _ g1, flds_no, _, rfl, _, rfl, dV, kP ps, rfl, .inl h3, fun dh hdh => ?_⟩
      have c4 : Same H3 (upd H3 dh (.dK (kP ps))) := Same.new hdh
      have hdh4 : upd H3 dh (.dK (kP ps)) dh = some (.dK (kP ps)) := upd_same
      have hdV4 := c4 _ _ h3
      have hvd4 : ∀ q ∈ ps, ∃ d, Vd (upd H3 dh (.dK (kP ps))) q.2 d := fun q' hq => by obtain ⟨d, h'⟩ := hvd3 q' hq; exact ⟨d, h'.keep (.same c4)⟩
      have s4 := s3.trans c4
      generalize upd H3 dh (.dK (kP ps)) = H4 at c4 s4 hdh4 hdV4 hvd4 ⊢
      have W4 := W.same s4
      have hh4 := s4 _ _ hh
      obtain ⟨⟨dx4, g14⟩, g24, g34⟩ := W4.tab
      have nodp : (ps.map (·.1)).Nodup := by rw [hps]; exact W.nod
      have hg : ∀ c ∈ cs, valV (kP ps) (.inr c.nm : Key) = some ((valV (kP ps) (.inr c.nm : Key)).getD .non) := fun c hc => by
        have : c.nm ∈ ps.map (·.1) := by rw [hps]; exact List.mem_map.mpr ⟨c, hc, rfl⟩
        obtain ⟨q', hq, e1⟩ := List.mem_map.mp this
        rw [← e1, kP_some nodp hq]
        rfl
      have tsl : (tsOf cs).length = cs.length := by unfold tsOf; rw [List.length_map]
      refine ⟨p, r, e, _, n, tsOf cs, i, dh, kP ps, (fun c => (valV (kP ps) (.inr c.nm : Key)).getD .non), rfl, W4.tbl, i0, by rw [List.length_map]; exact i1, by rw [List.length_map]; exact hn30, hdh4, by rw [kP_len, lps, tsl], (fun q' hq => ?_), (fun c hc => ?_), fun H5 k5 l5 t5 => ?_⟩
      · obtain ⟨q'', hq', rfl⟩ := List.mem_map.mp hq
        obtain ⟨d, h'⟩ := hvd4 q'' hq'
        refine ⟨q''.1, d, rfl, ?_, h'⟩
        rw [tsOf_nm, ← hps]
        exact List.mem_map.mpr ⟨q'', hq', rfl⟩
      · obtain ⟨d, hd, rfl⟩ := tsOf_mem hc
        exact hg d hd
      rw [kt] at l5 t5
      have k5' : ∀ b o, H4 b = some o → b ≠ p → b ≠ r → (∀ c ∈ cs, b ≠ c.l) → H5 b = some o := fun b o qb n0 n1 n2 => k5 b o qb n0 n1 fun c hc => by
        obtain ⟨d, hd, rfl⟩ := tsOf_mem hc
        exact n2 d hd
      have l5' : ∀ c ∈ cs, H5 c.l = some (.lst (insV c.ys k ((valV (kP ps) (.inr c.nm : Key)).getD .non))) := fun c hc => l5 ⟨c.nm, c.l, c.ys⟩ (List.mem_map.mpr ⟨c, hc, rfl⟩)
      have kK5 : ∀ b o, H4 b = some o → (∀ xs, o ≠ .lst xs) → (∀ a b c, o ≠ .ins a b c) → H5 b = some o := fun b o qb nn ni => by
        have := W4.out_k qb nn
        exact k5' b o qb (ne_of qb g14 (ni _ _ _)) this.1 fun c hc => (this.2.2 c hc).1
      have hrl5 := k5' _ _ W4.hrl (ne_of W4.hrl g14 (by intro z; cases z)) W.nrr.symm fun c hc => (W.col c hc).lr.2.symm
      have hdV5 := kK5 _ _ hdV4 (by intro _ z; cases z) (by intro _ _ _ z; cases z)
      have hh5 := kK5 _ _ hh4 (by intro _ z; cases z) (by intro _ _ _ z; cases z)
      have m5 : ∀ c ∈ cs, H5 c.m = some (.lst c.ys) := fun c hc => k5' _ _ (W4.col c hc).m (ne_of (W4.col c hc).m g14 (by intro z; cases z)) (W.col c hc).mr.1 fun d hd => (W.ilm d hd c hc).symm
      refine ⟨_, rfl, .inl ⟨rfl, _, SqL.of hrl5⟩, _, rfl, _, rfl, rl, _, i, .int n, rfl, rfl, hrl5, i0, by rw [List.length_map]; exact i1, by rw [List.length_map]; exact small1000 (by omega), ?_⟩
      rw [kt]
      obtain ⟨⟨dx5, t51⟩, t52, t53⟩ := t5
      rw [tk_of] at t53
      have up6 : ∀ b o, H5 b = some o → b ≠ rl → upd H5 rl (.lst (insV (nums.map V.int) k (.int n))) b = some o := fun b o qb nb => by rw [upd_ne nb]; exact qb
      have rl6 : upd H5 rl (.lst (insV (nums.map V.int) k (.int n))) rl = some (.lst (insV (nums.map V.int) k (.int n))) := upd_same
      generalize upd H5 rl (.lst (insV (nums.map V.int) k (.int n))) = H6 at up6 rl6 ⊢
      have nk : ∀ b o, H5 b = some o → (∀ xs, o ≠ .lst xs) → H6 b = some o := fun b o qb nn => up6 b o qb (ne_of qb hrl5 (nn _))
      have hh6 := nk _ _ hh5 (by intro _ z; cases z)
      have hdV6 := nk _ _ hdV5 (by intro _ z; cases z)
      have m6 : ∀ c ∈ cs, H6 c.m = some (.lst c.ys) := fun c hc => up6 _ _ (m5 c hc) (W.col c hc).mr.2
      refine ⟨_, rfl, h, _, rfl, hh6, fun nf2 ob2 => ?_⟩
      refine for_dict (a := h) (ob := ob2) (kvs := kX (·.m) cs) (fun j σ H7 => (∃ x, σ = [some (.ref p), some (.ref h), some (.ref rl), some (.int n), some (.int i), some (.ref a), some (.int kk), some (.ref dV), x]) ∧ (∀ b o, upd H6 h (.frz ob2 (.dK (kX (·.m) cs))) b = some o → (∀ c ∈ cs.take j, b ≠ c.m) → H7 b = some o) ∧ ∀ c ∈ cs.take j, H7 c.m = some (.lst (insV c.ys k ((valV (kP ps) (.inr c.nm : Key)).getD .non))))
        ⟨⟨_, rfl⟩, fun b o qb _ => qb, fun c hc => by simp at hc⟩ (fun j σ H7 _ ⟨_, t1, _⟩ => t1 _ _ upd_same fun c hc => (ne_of (m6 c (List.mem_of_mem_take hc)) hh6 (by intro z; cases z)).symm) ?_ ?_
      · rintro j pr σ H7 hp ⟨⟨x, rfl⟩, t1, t2⟩
        obtain ⟨c, hc, hj, rfl⟩ := kX_get hp
        have apart : ∀ d ∈ cs.take j, c.m ≠ d.m := fun d hd z => by
          obtain ⟨hd', ne⟩ := take_ne W.nod hj hd
          exact ne (W.im c hc d hd' z)
        have hcm : H7 c.m = some (.lst c.ys) := t1 _ _ (by rw [upd_ne (ne_of (m6 c hc) hh6 (by intro z; cases z))]; exact m6 c hc) apart
        have hh7 : H7 h = some (.frz ob2 (.dK (kX (·.m) cs))) := t1 _ _ upd_same fun d hd => (ne_of (m6 d (List.mem_of_mem_take hd)) hh6 (by intro z; cases z)).symm
        have hdV7 : H7 dV = some (.dK (kP ps)) := t1 _ _ (by rw [upd_ne ndh]; exact hdV6) fun d hd => ne_of hdV6 (m6 d (List.mem_of_mem_take hd)) (by intro z; cases z)
        have hlen := (W.col c hc).len
        refine ⟨_, rfl, _, rfl, h, .ref c.m, rfl, (kX_val (g := (·.m)) W.nod hc) ▸ DGet.rd (k := Sum.inr c.nm) (.inr ⟨ob2, hh7⟩), .inl ⟨rfl, _, SqL.of hcm⟩, _, rfl, _, rfl, _, rfl, dV, _, rfl, hg c hc ▸ DGet.k (k := Sum.inr c.nm) hdV7, c.m, c.ys, i, _, rfl, rfl, hcm, i0, by omega, small1000 (by omega), ?_⟩
        rw [kt]
        refine ⟨⟨_, rfl⟩, fun b o qb nb => ?_, fun d hd => ?_⟩
        · rw [upd_ne (nb c (by rw [List.take_add_one, hj]; simp))]
          exact t1 b o qb fun d hd => nb d (by rw [List.take_add_one]; exact List.mem_append_left _ hd)
        · rw [List.take_add_one, hj] at hd
          rcases List.mem_append.mp hd with hd | hd
          · rw [upd_ne (apart d hd).symm]
            exact t2 d hd
          · have : d = c := by simpa using hd
            subst this
            exact upd_same
      · rintro σ H7 ⟨⟨x, rfl⟩, t1, t2⟩
        rw [kX_len, List.take_length] at t1 t2
        have hmh : ∀ c ∈ cs, h ≠ c.m := fun c hc => (ne_of (m6 c hc) hh6 (by intro z; cases z)).symm
        refine ⟨h, ob2, _, nf2, t1 _ _ upd_same hmh, ?_⟩
        have k8 : ∀ b o, H6 b = some o → (∀ c ∈ cs, b ≠ c.m) → upd H7 h (.dK (kX (·.m) cs)) b = some o := fun b o qb nb => by
          by_cases hb : b = h
          · rw [hb] at qb ⊢
            rw [upd_same]
            exact hh6.symm.trans qb
          · rw [upd_ne hb]
            exact t1 b o (by rw [upd_ne hb]; exact qb) nb
        have kk8 : ∀ b o, H4 b = some o → b ≠ p → Out r rl cs b → upd H7 h (.dK (kX (·.m) cs)) b = some o := fun b o qb np ob' => k8 b o (up6 b o (k5' b o qb np ob'.1 fun c hc => (ob'.2.2 c hc).1) ob'.2.1) fun c hc => (ob'.2.2 c hc).2
        have keep : ∀ b o, H b = some o → b ≠ p → Out r rl cs b → upd H7 h (.dK (kX (·.m) cs)) b = some o := fun b o qb np ob' => kk8 b o (s4 _ _ qb) np ob'
        have t8 : Tups H4 (upd H7 h (.dK (kX (·.m) cs))) := fun b xs qb => kk8 _ _ qb (ne_of qb g14 (by intro z; cases z)) (W4.out_k qb (by intro _ z; cases z))
        have W8 := W.map (H' := upd H7 h (.dK (kX (·.m) cs))) (nums' := insV nums k n) (n' := n + 1) (fun c => insV c.ys k ((valV (kP ps) (.inr c.nm : Key)).getD .non)) keep
          ⟨⟨dx5, k8 _ _ (nk _ _ t51 (by intro _ z; cases z)) fun c hc => ne_of t51 (m5 c hc) (by intro z; cases z)⟩, by rw [insV_map]; exact k8 _ _ (up6 _ _ t52 W.nrr) fun c hc => (W.col c hc).mr.1.symm, k8 _ _ (nk _ _ t53 (by intro _ z; cases z)) fun c hc => ne_of t53 (m5 c hc) (by intro z; cases z)⟩
          (fun c hc => ⟨k8 _ _ (up6 _ _ (l5' c hc) (W.col c hc).lr.2) fun d hd => W.ilm c hc d hd, by rw [upd_ne (hmh c hc).symm]; exact t2 c hc⟩) (by rw [insV_map]; exact k8 _ _ rl6 fun c hc => (W.col c hc).mr.2.symm)
          (fun c hc => by rw [insV_len, insV_len, (W.col c hc).len]) (fun c hc v hv => by
            rcases insV_mem.mp hv with rfl | hv
            · have : c.nm ∈ ps.map (·.1) := by rw [hps]; exact List.mem_map.mpr ⟨c, hc, rfl⟩
              obtain ⟨q', hq, e1⟩ := List.mem_map.mp this
              obtain ⟨d, h'⟩ := hvd4 q' hq
              refine ⟨d, ?_⟩
              rw [← e1, kP_some nodp hq]
              exact h'.keep t8
            · obtain ⟨d, vd⟩ := (W4.col c hc).val v hv
              exact ⟨d, vd.keep t8⟩)
        exact q _ _ W8 upd_same keep
end
end My

namespace L2
open PySem PySem.Spec PyProof.Rows
theorem comp_listF {K : PySem.W.Frag} {cp : List (Nat × Str)} {tt : TT} {te : TE} {σ : St} {a : Addr} {xs : List V} {D : Addr} {Q : VK} {H1 : Hp} (Pv : Nat → List V → Hp → Prop) (h0 : Pv 0 [] (upd H1 D (.lst [])))
    (hl : ∀ i ys H, H D = some (.lst ys) → Pv i ys H → SqL K H a xs)
    (hs : ∀ i x ys H, xs[i]? = some x → H D = some (.lst ys) → Pv i ys H → tt (some x :: capσ cp σ) H fun b H4 => if b = true then te (some x :: capσ cp σ) H4 (Nxt D Pv i ys) else ∃ ys', H4 D = some (.lst ys') ∧ Pv (i + 1) ys' H4)
    (hd : ∀ ys H, H D = some (.lst ys) → Pv xs.length ys H → Q (.ref D) H) : tLoop cp tt te σ (Itl K a) D Q H1 := by
  refine ⟨fun i m H => m = xs.length - i ∧ i ≤ xs.length ∧ ∃ ys, H D = some (.lst ys) ∧ Pv i ys H, ⟨xs.length, by simp, Nat.zero_le _, [], upd_same, h0⟩, ?_⟩
  rintro i m H ⟨rfl, hi, ys, hD, p⟩
  by_cases hlt : i < xs.length
  · refine .inr ⟨⟨xs, xs[i], hl i ys H hD p, by simp [hlt]⟩, Nxt D Pv i ys, fun H4 => ∃ ys', H4 D = some (.lst ys') ∧ Pv (i + 1) ys' H4, fun y H5 ⟨h1, h2, h3⟩ => ⟨ys, xs.length - (i + 1), h1, h2, by omega, rfl, hlt, _, upd_same, h3⟩, fun H4 ⟨ys', h1, h2⟩ => ⟨xs.length - (i + 1), by omega, rfl, hlt, ys', h1, h2⟩, fun v H' y => ?_⟩
    obtain ⟨e, y⟩ := y
    subst e
    exact hs i v ys _ (y xs (hl i ys _ hD p)) hD p
  · have e : i = xs.length := by omega
    subst e
    exact .inl ⟨⟨xs, hl _ ys H hD p, Nat.le_refl _⟩, hd ys H hD p⟩
theorem op_eqNoD {X : Cx} (hu : X.A.units < cLine) : OpR X (compareOp .Eq) (fun x y H Q => ∃ a b kvs, x = .ref a ∧ y = .ref b ∧ Rd H a (.dK kvs) ∧ Rd H b (.dK []) ∧ Q (.bl (decide (kvs.length = 0))) H) := by
  intro pins s σ H x y v u Q I rx ry h
  obtain ⟨a, b, kvs, rfl, rfl, ha, hb, q⟩ := h
  cases rx
  cases ry
  obtain ⟨z1, hs1, va, ra, da⟩ := dk_rd I.hok ha
  obtain ⟨z2, hs2, vb, rb, db⟩ := dk_rd I.hok hb
  have hla : kvs.length = va.length := Paired.length ra
  have hlb : ([] : List (Key × V)).length = vb.length := Paired.length rb
  have hlb' : vb.length = 0 := hlb.symm
  refine PySem.W.keq_eq (r := true) hs1 hs2 da db hu (fun he => ?_) ?_
  · have : va = [] := List.eq_nil_of_length_eq_zero (by omega)
    rw [this]
    exact .nil
  · refine ⟨.bl (decide (kvs.length = 0)), H, I, ?_, q⟩
    rw [hla, hlb', Bool.and_true]
    show Value.bool (va.length == 0) = Value.bool (decide (va.length = 0))
    rfl
end L2
namespace My
open PySem L2
section
variable {P : Program} {w : World} {K : PySem.W.Frag} {mg : Str → Option Value} {base : Heap}
def spRowNo (K : PySem.W.Frag) (c : Ad) : Sp := fun vs H _ E => ∃ (a lc : Addr) (kvs : List (Key × V)) (xs : List V), vs = [.ref a, .ref lc] ∧ H a = some (.dK kvs) ∧ H lc = some (.lst xs) ∧ kvs.length ≠ xs.length ∧ E (.ref c.NoValue) none H
theorem k_check_row_no (T : Tops K mg) {c : Ad} (X : Excs K mg c) : Known P w K mg base (CXE P w) 1 "check_row" ["values", "columns"] (spRowNo K c) := by
  refine T.d_check_row.knownE sc_check_row (fun _ _ _ _ _ _ us hl => match us, hl with | [_, _], _ => rfl) (fun vs H Q E h => ?_) (fun f cdv A outer s H vs Q E hr h => ?_)
  · obtain ⟨a, lc, kvs, xs, rfl, _⟩ := h
    rfl
  · obtain ⟨a, lc, kvs, xs, rfl, ha, hlc, hne, q⟩ := h
    refine ⟨_, (pss_cons (ps_if (PW.pt (pw_or (pt_not (pt_val (pe_callB call_isT rfl T.isinstance b_isinstance (pa_cons (pv 0) (pa_cons (pe_ty T.dict b_dict) pa_nil))) (fun _ => rfl))) (pw_or1 (pt_cmpR op_ne (pe_callB call_lenD rfl T.len b_len (pa_cons (pv 0) pa_nil)) (pe_callB call_len rfl T.len b_len (pa_cons (pv 1) pa_nil)) (nomark _))))) (pss_one (ps_raise X.c_NoValue X.x_NoValue (pa_cons pe_str pa_nil))) pss_nil)
      (pss_one ps_dead)), ?_⟩
    refine ⟨_, rfl, _, "dict", _, _, rfl, Dt.dK ha, kit_dict K _, _, rfl, iteF ?_⟩
    refine ⟨_, rfl, a, kvs, rfl, ha, _, rfl, _, _, rfl, .inl ⟨_, SqL.of hlc, rfl⟩, rfl, _, rfl, ?_⟩
    refine ite2 (fun _ => ⟨sl, q⟩) (fun z => ?_)
    exfalso
    have z' : ¬ (!decide (V.int (kvs.length : Int) = V.int (xs.length : Int))) = true := z
    rw [decide_eq_false (fun y => hne (by have := V.int.inj y; omega))] at z'
    exact z' rfl
def spPutInNo (K : PySem.W.Frag) (C : Addr) (c : Ad) : Sp := fun vs H _ E => ∃ p r e xs n kl i a kvs, vs = [.ref p, .int i, .ref a] ∧ TabAt C H p r e xs n kl ∧ 0 ≤ i ∧ i ≤ xs.length ∧ xs.length < 30 ∧ H a = some (.dK kvs) ∧ kvs.length ≠ kl.length ∧ ∀ H', Same H H' → E (.ref c.NoValue) none H'
theorem k_put_in_no (T : Tops K mg) {c : Ad} (X : Excs K mg c) {C : Addr} (Y : TTable K mg C) : KnownM P w K mg base (CXE P w) 3 C "put_in" ["self", "place", "values"] (spPutInNo K C c) := by
  have G_check_place : Known P w K mg base (CXE P w) 2 "check_place" ["place", "places"] (spPlace K c) := k_check_place T X
  have G_check_row : Known P w K mg base (CXE P w) 1 "check_row" ["values", "columns"] (spRowNo K c) := k_check_row_no T X
  have G_many : KnownM P w K mg base CX0 1 C "many" ["self"] (spMany C) := k_Table_many T Y
  have G_columns : KnownM P w K mg base CX0 1 C "columns" ["self"] (spColumns C) := k_Table_columns T Y
  refine Y.m_put_in.knownE sc_Table_put_in (fun _ _ _ _ _ _ us hl => match us, hl with | [_, _, _], _ => rfl) (fun vs H Q E h => ?_) (fun f cdv A outer s H vs Q E hr h => ?_)
  · obtain ⟨p, r, e, xs, n, kl, i, a, kvs, rfl, _⟩ := h
    rfl
  · obtain ⟨p, r, e, xs, n, kl, i, a, kvs, rfl, TA, i0, i1, x1, ha, hne, q⟩ := h
    refine ⟨_, (pss_cons (ps_expr (pe_callN G_check_place (hr.mono (by decide)) passE (pa_cons (pv 1) (pa_cons (pe_op op_add (pe_methN0 (pv 0) Y.cl G_many (hr.mono (by decide)) pass0) pe_int) pa_nil))))
      (pss_cons (ps_if (pt_cmpR op_ge (pe_methN0 (pv 0) Y.cl G_many (hr.mono (by decide)) pass0) (pe_gI T.g_MOST_ROWS) (nomark _)) (pss_one ps_dead) pss_nil)
      (pss_cons (ps_expr (pe_callN G_check_row (hr.mono (by decide)) passE (pa_cons (pv 2) (pa_cons (pe_methN0 (pv 0) Y.cl G_columns (hr.mono (by decide)) pass0) pa_nil))))
      (pss_cons ps_dead
      (pss_one ps_dead))))), ?_⟩
    obtain ⟨⟨dx, g1⟩, g2, g3⟩ := id TA
    refine ⟨_, rfl, _, rfl, p, dx, _, rfl, g1, flds_no, p, r, e, xs, n, _, rfl, TA, _, _, rfl, rfl, .int i, .int i, _, rfl, .int i, (fun _ => ?_), fun z => ?_⟩
    · refine ⟨_, rfl, p, dx, _, rfl, g1, flds_no, p, r, e, xs, n, _, rfl, TA, _, _, rfl, rfl, _, rfl, ?_⟩
      refine ite2 (fun z => absurd z (by simp; omega)) fun _ => ?_
      refine ⟨_, rfl, _, rfl, p, dx, _, rfl, g1, flds_no, p, r, e, xs, n, _, rfl, TA, fun lc hlc => ?_⟩
      have c1 : Same H (upd H lc (.lst (kl.map fun p => kV p.1))) := Same.new hlc
      exact ⟨a, lc, kvs, _, rfl, c1 _ _ ha, upd_same, by rw [List.length_map]; exact hne, q _ c1⟩
    · exact absurd z (by show ¬ (decide (0 ≤ i) && decide (i < (xs.length : Int) + 1)) = false; rw [decide_eq_true i0, decide_eq_true (by omega)]; decide)
def spTakeNo (K : PySem.W.Frag) (C : Addr) (c : Ad) : Sp := fun vs H _ E => ∃ p r e xs n kl i, vs = [.ref p, .int i] ∧ TabAt C H p r e xs n kl ∧ (xs.length : Int) ≤ i ∧ E (.ref c.NoPlace) none H
theorem k_take_no (T : Tops K mg) {c : Ad} (X : Excs K mg c) {C : Addr} (Y : TTable K mg C) : KnownM P w K mg base (CXE P w) 3 C "take_out" ["self", "place"] (spTakeNo K C c) := by
  have G_check_place : Known P w K mg base (CXE P w) 2 "check_place" ["place", "places"] (spPlace K c) := k_check_place T X
  have G_many : KnownM P w K mg base CX0 1 C "many" ["self"] (spMany C) := k_Table_many T Y
  refine Y.m_take_out.knownE sc_Table_take_out (fun _ _ _ _ _ _ us hl => match us, hl with | [_, _], _ => rfl) (fun vs H Q E h => ?_) (fun f cdv A outer s H vs Q E hr h => ?_)
  · obtain ⟨p, r, e, xs, n, kl, i, rfl, _⟩ := h
    rfl
  · obtain ⟨p, r, e, xs, n, kl, i, rfl, TA, i1, q⟩ := h
    refine ⟨_, (pss_cons (ps_expr (pe_callN G_check_place (hr.mono (by decide)) passE (pa_cons (pv 1) (pa_cons (pe_methN0 (pv 0) Y.cl G_many (hr.mono (by decide)) pass0) pa_nil))))
      (pss_cons ps_dead
      (pss_one ps_dead))), ?_⟩
    obtain ⟨⟨dx, g1⟩, g2, g3⟩ := id TA
    refine ⟨_, rfl, _, rfl, p, dx, _, rfl, g1, flds_no, p, r, e, xs, n, _, rfl, TA, .int i, .int i, _, rfl, .int i, (fun z => ?_), fun _ => q⟩
    exfalso
    have z' : (decide (0 ≤ i) && decide (i < (xs.length : Int))) = true := z
    rw [Bool.and_eq_true, decide_eq_true_eq, decide_eq_true_eq] at z'
    omega
def spRef (K : PySem.W.Frag) (C : Addr) : Sp := fun vs H Q _ => ∃ (p r e : Addr) (xs : List V) (n : Int) (kl : List (Key × V)) (way : Int) (z : Str) (i : Int) (a : Addr), vs = [.ref p, .int way, .str z, .int i, .ref a] ∧ TabAt C H p r e xs n kl ∧
  ((way = 0 ∧ 0 ≤ i ∧ i ≤ xs.length ∧ xs.length < 30 ∧ ∃ kvs, H a = some (.dK kvs) ∧ kvs.length ≠ kl.length) ∨ (way = 1 ∧ colD kl (.str z) = false ∧ z.length ≤ 1000) ∨ (way = 2 ∧ (xs.length : Int) ≤ i)) ∧ ∀ H', Same H H' → Q (.bl true) H'
theorem sc_law_refused : FnScope ["_law_table", "_law_way", "_law_column", "_law_place", "_law_values", "_law_caught", "e"] ["_law_table", "_law_way", "_law_column", "_law_place", "_law_values"] (defScope s_law_refused) := ⟨rfl, rfl, rfl, by decide +kernel, rfl, by decide +kernel, by decide +kernel⟩
theorem k_law_refused (T : Tops K mg) {c : Ad} (X : Excs K mg c) {C : Addr} (Y : TTable K mg C) : Known P w K mg base CX0 7 "_law_refused" ["_law_table", "_law_way", "_law_column", "_law_place", "_law_values"] (spRef K C) := by
  have G_put_in : KnownM P w K mg base (CXE P w) 3 C "put_in" ["self", "place", "values"] (spPutInNo K C c) := k_put_in_no T X Y
  have G_take_out : KnownM P w K mg base (CXE P w) 3 C "take_out" ["self", "place"] (spTakeNo K C c) := k_take_no T X Y
  have G_put : KnownM P w K mg base (CXE P w) 5 C "put" ["self", "column", "place", "value"] (spPut K C c) := k_Table_put T X Y
  refine T.d_law_refused.known sc_law_refused (fun _ _ _ _ _ _ us hl => match us, hl with | [_, _, _, _, _], _ => rfl) (fun vs H Q E h => ?_) (fun f cdv A outer s H vs Q E hr h => ?_)
  · obtain ⟨p, r, e, xs, n, kl, way, z, i, a, rfl, _⟩ := h
    rfl
  · obtain ⟨p, r, e, xs, n, kl, way, z, i, a, rfl, TA, hcase, q⟩ := h
    refine ⟨_, (pss_cons (ps_set (i := 5) sc_law_refused.nd rfl (Or.inl rfl) pe_non)
      (pss_cons (ps_try (j := 6) rfl rfl rfl sc_law_refused.nd rfl rfl X.c_ColsError (fun pn E' E1 hp => pss_one (ps_if (pt_cmpR op_eq (pv 1) pe_int (nomark _)) (pss_one (ps_expr (pe_methN (pv 0) Y.cl G_put_in (hr.mono (by decide)) hp (pa_cons (pv 3) (pa_cons (pv 4) pa_nil)))))
        (pss_one (ps_if (pt_cmpR op_eq (pv 1) pe_int (nomark _)) (pss_one (ps_expr (pe_methN (pv 0) Y.cl G_put (hr.mono (by decide)) hp (pa_cons (pv 2) (pa_cons (pv 3) (pa_cons pe_int pa_nil)))))) (pss_one (ps_expr (pe_methN (pv 0) Y.cl G_take_out (hr.mono (by decide)) hp (pa_cons (pv 3) pa_nil)))))))) (fun ea => pss_one (ps_set (i := 5) sc_law_refused.nd rfl (Or.inl rfl) (pv 6))))
      (pss_one (ps_ret (pe_cmpR op_notN (pv 5) pe_non (nomark _)))))), ?_⟩
    obtain ⟨⟨dx, g1⟩, g2, g3⟩ := id TA
    refine ⟨_, rfl, rfl, _, rfl, ?_⟩
    rcases hcase with ⟨rfl, i0, i1, x1, kvs, ha, hne⟩ | ⟨rfl, hno, hz⟩ | ⟨rfl, hi⟩
    · refine ite2 (fun _ => ?_) (fun y => absurd (decide_eq_true rfl) y)
      refine ⟨_, rfl, p, dx, _, rfl, g1, flds_no, _, rfl, _, rfl, p, r, e, xs, n, kl, i, a, kvs, rfl, TA, i0, i1, x1, ha, hne, fun H' s' => ⟨X.e_NoValue_ColsError, fun ea hea => ⟨_, rfl, ?_⟩⟩⟩
      exact ⟨_, rfl, rfl, q _ (s'.trans (Same.new hea))⟩
    · refine ite2 (fun y => absurd (of_decide_eq_true y) (by intro y; cases y)) (fun _ => ?_)
      refine ⟨_, rfl, rfl, _, rfl, ?_⟩
      refine ite2 (fun _ => ?_) (fun y => absurd (decide_eq_true rfl) y)
      refine ⟨_, rfl, p, dx, _, rfl, g1, flds_no, _, rfl, _, rfl, ?_⟩
      refine ⟨p, r, e, xs, n, kl, .str z, .str z, .int i, .int i, .int 5, .int 5, rfl, TA, .str z, shortS_str hz, .int i, .int 5, shortD_not (by intro y; cases y), (fun y => by rw [hno] at y; cases y), (fun _ H' s' => ⟨X.e_NoColumn_ColsError, fun ea hea => ⟨_, rfl, ?_⟩⟩), (fun y => by rw [hno] at y; cases y), fun y => by rw [hno] at y; cases y⟩
      exact ⟨_, rfl, rfl, q _ (s'.trans (Same.new hea))⟩
    · refine ite2 (fun y => absurd (of_decide_eq_true y) (by intro y; cases y)) (fun _ => ?_)
      refine ⟨_, rfl, rfl, _, rfl, ?_⟩
      refine ite2 (fun y => absurd (of_decide_eq_true y) (by intro y; cases y)) (fun _ => ?_)
      refine ⟨_, rfl, p, dx, _, rfl, g1, flds_no, _, rfl, p, r, e, xs, n, kl, i, rfl, TA, hi, X.e_NoPlace_ColsError, fun ea hea => ⟨_, rfl, ?_⟩⟩
      exact ⟨_, rfl, rfl, q _ (Same.new hea)⟩
end
end My

namespace My
open PySem L2
theorem cut_drop (xs : List V) : cutV xs (some 1) none = xs.drop 1 := by
  unfold cutV
  cases xs with
  | nil => rfl
  | cons x r =>
    have e1 : HT.sIx (x :: r).length 0 (some 1) = 1 := by
      unfold HT.sIx
      simp only []
      rw [if_neg (by decide)]
      show min 1 (r.length + 1) = 1
      omega
    have e2 : HT.sIx (x :: r).length (x :: r).length none = (x :: r).length := rfl
    rw [e1, e2]
    show (r.take ((x :: r).length - 1)) = r
    rw [List.length_cons, Nat.add_sub_cancel, List.take_length]
section
variable {P : Program} {w : World} {K : PySem.W.Frag} {mg : Str → Option Value} {base : Heap}
def spSpoilt (K : PySem.W.Frag) (C : Addr) : Sp := fun vs H Q _ => ∃ (p r e h rl nl : Addr) (nums : List Int) (n : Int) (cs : List Col) (x : Int) (zs : List Str), vs = [.ref p, .ref h, .ref rl, .int x, .ref nl] ∧ W10 C H p r e h rl nums n cs ∧ H h = some (.dK (kX (·.m) cs)) ∧ nums.length < 30 ∧ H nl = some (.lst (zs.map V.str)) ∧ (∀ z ∈ zs, z.length ≤ 8) ∧ zs.length ≤ 5 ∧ ∀ H', Same H H' → Q (.bl true) H'
abbrev Nspoilt : List Str := ["_law_table", "_law_held", "_law_rows", "_law_cell_here", "_law_names_here", "_law_values", "_law_column", "_law_lost"]
theorem sc_law_spoilt : FnScope Nspoilt ["_law_table", "_law_held", "_law_rows", "_law_cell_here", "_law_names_here"] (defScope s_law_spoilt) := ⟨rfl, rfl, rfl, by decide +kernel, rfl, by decide +kernel, by decide +kernel⟩
theorem k_law_spoilt (T : Tops K mg) {c : Ad} (X : Excs K mg c) {C : Addr} (Y : TTable K mg C) : Known P w K mg base CX0 8 "_law_spoilt" ["_law_table", "_law_held", "_law_rows", "_law_cell_here", "_law_names_here"] (spSpoilt K C) := by
  have G_law_refused : Known P w K mg base CX0 7 "_law_refused" ["_law_table", "_law_way", "_law_column", "_law_place", "_law_values"] (spRef K C) := k_law_refused T X Y
  refine T.d_law_spoilt.known sc_law_spoilt (fun _ _ _ _ _ _ us hl => match us, hl with | [_, _, _, _, _], _ => rfl) (fun vs H Q E h => ?_) (fun f cdv A outer s H vs Q E hr h => ?_)
  · obtain ⟨p, r, e, h, rl, nl, nums, n, cs, x, zs, rfl, _⟩ := h
    rfl
  · obtain ⟨p, r, e, h, rl, nl, nums, n, cs, x, zs, rfl, W, hh, hn30, hnl, hz8, hz5, q⟩ := h
    have exs : ((nums.map V.int).length : Int) = (nums.length : Int) := by rw [List.length_map]
    have rest : ∃ t, PSs (cxOf CX0 P w K mg base Nspoilt "_law_spoilt" (defScope s_law_spoilt) f cdv A outer s H E).nox ((defBody s_law_spoilt).drop 3) t ∧
        ∀ (H3 : Hp) (dV : Addr) (kv : List (Key × V)) (y6 : Option V), Same H H3 → H3 dV = some (.dK kv) → kv.length ≠ cs.length → t { nx := fun _ H' => Q .non H', rt := Q } [some (.ref p), some (.ref h), some (.ref rl), some (.int x), some (.ref nl), some (.ref dV), y6, none] H3 := by
      refine ⟨_, (pss_cons (ps_if (pt_cmpR op_eq (pe_op op_mod (pv 3) pe_int) pe_int (nomark _)) (pss_one (ps_ret (pe_callN G_law_refused (hr.mono (by decide)) pass0 (pa_cons (pv 0) (pa_cons pe_int (pa_cons pe_str (pa_cons (pe_op op_mod (pe_op op_fdiv (pv 3) pe_int) (pe_op op_add (pe_callB call_len rfl T.len b_len (pa_cons (pv 2) pa_nil)) pe_int)) (pa_cons (pv 5) pa_nil)))))))) pss_nil)
      (pss_cons (ps_if (pt_cmpR op_eq (pe_op op_mod (pv 3) pe_int) pe_int (nomark _)) (pss_cons (ps_set (i := 7) sc_law_spoilt.nd rfl (by first | exact Or.inl rfl | exact Or.inr rfl) (pe_op op_cat (pe_comp (caps_of (sc := defScope s_law_spoilt) (N := Nspoilt) (cp := [(1, "_law_held")]) (fun x hx => Option.isSome_iff_exists.mp (PySem.W.cellsFrom_some _ _ _ (.inl hx)))) rfl rfl (by decide) (pi_list (pv 4)) (fun _ _ _ _ _ => (pts_one (pt_cmp (pc_dnotin (hu_of hr) (pv 0) (pv 1))))) (fun _ _ _ _ _ => (pv 0))) (pe_lst (pa_cons pe_str pa_nil))))
      (pss_one (ps_ret (pe_callN G_law_refused (hr.mono (by decide)) pass0 (pa_cons (pv 0) (pa_cons pe_int (pa_cons (pe_ix ix_list (pv 7) pe_int (fun _ _ => rfl)) (pa_cons pe_int (pa_cons pe_dnewK pa_nil))))))))) pss_nil)
      (pss_one (ps_ret (pe_callN G_law_refused (hr.mono (by decide)) pass0 (pa_cons (pv 0) (pa_cons pe_int (pa_cons pe_str (pa_cons (pe_op op_add (pe_callB call_len rfl T.len b_len (pa_cons (pv 2) pa_nil)) (pe_op op_mod (pe_op op_fdiv (pv 3) pe_int) pe_int)) (pa_cons pe_dnewK pa_nil)))))))))), fun H3 dV kv y6 s3 hdV hkv => ?_⟩
      have W3 := W.same s3
      refine ⟨_, rfl, _, _, rfl, rfl, (show (0 : Int) < 3 by decide), rfl, _, rfl, ?_⟩
      refine ite2 (fun _ => ?_) (fun _ => ?_)
      · have p0 := Int.emod_nonneg (x / 3) (show (nums.length : Int) + 1 ≠ 0 by omega)
        have p1 := Int.emod_lt_of_pos (x / 3) (show (0 : Int) < (nums.length : Int) + 1 by omega)
        refine ⟨_, rfl, _, rfl, _, _, rfl, rfl, ⟨by decide, by decide⟩, _, rfl, _, _, rfl, .inl ⟨_, SqL.of W3.hrl, rfl⟩, ?_⟩
        rw [exs]
        refine ⟨_, _, rfl, rfl, _, _, rfl, rfl, (show (0 : Int) < (nums.length : Int) + 1 by omega), _, rfl, ?_⟩
        exact ⟨p, r, e, _, n, _, 0, "", _, dV, rfl, W3.tab, .inl ⟨rfl, p0, by rw [List.length_map]; omega, by rw [List.length_map]; exact hn30, kv, hdV, by rw [kX_len]; exact hkv⟩, fun H' s' => q _ (s3.trans s')⟩
      · refine ⟨_, rfl, _, _, rfl, rfl, (show (0 : Int) < 3 by decide), rfl, _, rfl, ?_⟩
        refine ite2 (fun _ => ?_) (fun _ => ?_)
        · refine ⟨_, rfl, nl, rfl, ⟨_, SqL.of (s3 _ _ hnl)⟩, fun D hD => ?_⟩
          have hh3 := s3 _ _ hh
          refine comp_listF (K := K) (a := nl) (xs := zs.map V.str) (fun i ys H4 => ys.length ≤ i ∧ (∀ y ∈ ys, ∃ z, y = V.str z ∧ z.length ≤ 8 ∧ valV (kX (·.m) cs) (.inr z : Key) = none) ∧ Same H3 H4) ⟨Nat.le_refl _, (fun y hy => by cases hy), Same.new hD⟩ (fun i ys H4 _ ⟨_, _, s4⟩ => SqL.of (s4 _ _ (s3 _ _ hnl))) ?_ ?_
          · rintro i v ys H4 hv hD4 ⟨hlen, hall, s4⟩
            obtain ⟨z, hz, rfl⟩ := List.mem_map.mp (List.mem_of_getElem? hv)
            have hi : i < 5 := by
              have := (List.getElem?_eq_some_iff.mp hv).1
              rw [List.length_map] at this
              omega
            refine ⟨_, rfl, _, rfl, h, _, rfl, DGet.k (k := Sum.inr z) (s4 _ _ hh3), _, rfl, ?_⟩
            cases hval : valV (kX (·.m) cs) (.inr z : Key) with
            | some u => exact iteF ⟨ys, hD4, by omega, hall, s4⟩
            | none =>
              refine iteT ⟨_, rfl, hD4, small1000 (by omega), by rw [List.length_append]; simp; omega, fun y hy => ?_, s4.on hD⟩
              rcases List.mem_append.mp hy with hy | hy
              · exact hall y hy
              · have : y = V.str z := by simpa using hy
                exact ⟨z, this, hz8 z hz, hval⟩
          · rintro ys H4 hD4 ⟨hlen, hall, s4⟩
            refine ⟨sl, fun l1 hl1 => ?_⟩
            have c5 : Same H4 (upd H4 l1 (.lst [V.str ""])) := Same.new hl1
            have hzl : ys.length ≤ 5 := by rw [List.length_map] at hlen; omega
            refine ⟨D, l1, ys, _, rfl, rfl, c5 _ _ hD4, upd_same, sl (by show ys.length + 1 ≤ 1000; omega), fun l2 hl2 => ?_⟩
            have c6 : Same (upd H4 l1 (.lst [V.str ""])) (upd (upd H4 l1 (.lst [V.str ""])) l2 (.lst (ys ++ [V.str ""]))) := Same.new hl2
            have h6 : upd (upd H4 l1 (.lst [V.str ""])) l2 (.lst (ys ++ [V.str ""])) l2 = some (.lst (ys ++ [V.str ""])) := upd_same
            have s6 := s3.trans (s4.trans (c5.trans c6))
            generalize upd (upd H4 l1 (.lst [V.str ""])) l2 (.lst (ys ++ [V.str ""])) = H6 at h6 s6 ⊢
            obtain ⟨z, hat, hno, hzl'⟩ : ∃ z, atI (ys ++ [V.str ""]) 0 = some (V.str z) ∧ colD (kX (·.l) cs) (.str z) = false ∧ z.length ≤ 1000 := by
              obtain ⟨u, hu1, hu2⟩ := at_some (ys ++ [V.str ""]) 0 (by decide) (by rw [List.length_append]; simp)
              rcases List.mem_append.mp (List.mem_of_getElem? hu2) with hm | hm
              · obtain ⟨z, rfl, hz, hval⟩ := hall u hm
                refine ⟨z, hu1, ?_, by omega⟩
                show (nameS z && (valV (kX (·.l) cs) (.inr z : Key)).isSome) = false
                have e1 := kX_isSome (g := (·.m)) (cs := cs) (t := z)
                rw [hval] at e1
                rw [kX_isSome, ← e1]
                exact Bool.and_false _
              · have : u = V.str "" := by simpa using hm
                rw [this] at hu1
                refine ⟨"", hu1, ?_, by decide +kernel⟩
                show (nameS "" && (valV (kX (·.l) cs) (.inr "" : Key)).isSome) = false
                rw [show nameS "" = false by decide +kernel, Bool.false_and]
            refine ⟨_, rfl, _, rfl, l2, _, _, _, rfl, rfl, SqL.of h6, hat, fun d0 hd0 => ?_⟩
            have c7 : Same H6 (upd H6 d0 (.dK [])) := Same.new hd0
            exact ⟨p, r, e, _, n, _, 1, z, 0, d0, rfl, (W.same (s6.trans c7)).tab, .inr (.inl ⟨rfl, hno, hzl'⟩), fun H' s' => q _ (s6.trans (c7.trans s'))⟩
        · have p0 := Int.emod_nonneg (x / 3) (show (2 : Int) ≠ 0 by decide)
          refine ⟨_, rfl, _, rfl, _, _, rfl, .inl ⟨_, SqL.of W3.hrl, rfl⟩, ?_⟩
          rw [exs]
          refine ⟨_, rfl, _, _, rfl, rfl, ⟨by decide, by decide⟩, _, _, rfl, rfl, (show (0 : Int) < 2 by decide), _, _, rfl, rfl, fun d0 hd0 => ?_⟩
          have c7 : Same H3 (upd H3 d0 (.dK [])) := Same.new hd0
          exact ⟨p, r, e, _, n, _, 2, "", _, d0, rfl, (W3.same c7).tab, .inr (.inr ⟨rfl, by rw [List.length_map]; omega⟩), fun H' s' => q _ (s3.trans (c7.trans s'))⟩
    obtain ⟨t2, ht2, q2⟩ := rest
    refine ⟨_, (pss_cons (ps_set (i := 5) sc_law_spoilt.nd rfl (by first | exact Or.inl rfl | exact Or.inr rfl) pe_dnewK)
      (pss_cons (ps_for PassesOwn.never rfl (pi_list (pe_slice sl_list (pe_callTy (call_list_dK rfl) rfl T.list b_list (pa_cons (pv 1) pa_nil)) (po_some pe_int) po_none)) (pg_name (i := 6) sc_law_spoilt.nd rfl (by first | exact Or.inl rfl | exact Or.inr rfl)) (pss_one (ps_dput (hu_of hr) (pv 5) (pv 6) pe_int rfl)))
      (pss_cons (ps_if (pt_cmpR (op_eqNoD (Nat.lt_of_succ_lt (hu_of hr))) (pv 1) pe_dnewK (nomark _)) (pss_one (ps_dput (hu_of hr) (pv 5) pe_str pe_int rfl)) pss_nil)
      ht2))), ?_⟩
    intro dV hdV
    have c1 : Same H (upd H dV (.dK [])) := Same.new hdV
    have hdV1 : upd H dV (.dK []) dV = some (.dK []) := upd_same
    generalize upd H dV (.dK []) = H1 at c1 hdV1 ⊢
    refine ⟨_, rfl, h, _, rfl, c1 _ _ hh, fun l1 hl1 => ?_⟩
    rw [kX_keys]
    have c2 : Same H1 (upd H1 l1 (.lst ((cs.map (·.nm)).map V.str))) := Same.new hl1
    refine ⟨_, rfl, l1, _, rfl, SqL.of upd_same, fun l2 hl2 => ?_⟩
    rw [cut_drop, ← List.map_drop]
    have c3 : Same (upd H1 l1 (.lst ((cs.map (·.nm)).map V.str))) (upd (upd H1 l1 (.lst ((cs.map (·.nm)).map V.str))) l2 (.lst (((cs.map (·.nm)).drop 1).map V.str))) := Same.new hl2
    have h2 : upd (upd H1 l1 (.lst ((cs.map (·.nm)).map V.str))) l2 (.lst (((cs.map (·.nm)).drop 1).map V.str)) l2 = some (.lst (((cs.map (·.nm)).drop 1).map V.str)) := upd_same
    have s3 := c2.trans c3
    generalize upd (upd H1 l1 (.lst ((cs.map (·.nm)).map V.str))) l2 (.lst (((cs.map (·.nm)).drop 1).map V.str)) = H2 at c3 h2 s3 ⊢
    have hdV2 := s3 _ _ hdV1
    have n2 : l2 ≠ dV := ne_of h2 hdV2 (by intro z; cases z)
    have hfew := W.few
    have hnd : ((cs.map (·.nm)).drop 1).Nodup := List.Nodup.sublist (List.drop_sublist 1 _) W.nod
    refine ⟨l2, rfl, ⟨_, SqL.of h2⟩, ?_⟩
    refine for_list (K := K) (a := l2) (xs := ((cs.map (·.nm)).drop 1).map V.str) (fun j σ H3 => ∃ (y6 : Option V) (ps : List (Str × V)), σ = [some (.ref p), some (.ref h), some (.ref rl), some (.int x), some (.ref nl), some (.ref dV), y6, none] ∧ ps.map (·.1) = ((cs.map (·.nm)).drop 1).take j ∧ H3 dV = some (.dK (kP ps)) ∧ ∀ b o, H2 b = some o → b ≠ dV → H3 b = some o)
      ⟨_, [], rfl, rfl, hdV2, fun b o qb _ => qb⟩ (fun j σ H3 _ ⟨_, _, _, _, _, k3⟩ => SqL.of (k3 _ _ h2 n2)) ?_ ?_
    · rintro j v σ H3 hv ⟨y6, ps, rfl, hps, h3, k3⟩
      obtain ⟨z, hz, rfl⟩ : ∃ z, ((cs.map (·.nm)).drop 1)[j]? = some z ∧ v = V.str z := by
        rw [List.getElem?_map] at hv
        cases y : ((cs.map (·.nm)).drop 1)[j]? with
        | none => rw [y] at hv; cases hv
        | some z => rw [y] at hv; cases hv; exact ⟨z, rfl, rfl⟩
      have hj : j < 8 := by
        have := (List.getElem?_eq_some_iff.mp hz).1
        rw [List.length_drop, List.length_map] at this
        omega
      have lps : ps.length ≤ j := by
        have := congrArg List.length hps
        rw [List.length_map, List.length_take] at this
        omega
      refine ⟨_, rfl, _, rfl, dV, _, rfl, DPut.k (k := Sum.inr z) h3 (by rw [kP_len]; exact small1000 (by omega)), ?_⟩
      rw [kP_snoc (by rw [hps]; exact not_take hnd hz)]
      refine ⟨_, ps ++ [(z, .int 0)], rfl, ?_, upd_same, fun b o qb nb => ?_⟩
      · rw [List.map_append, hps, List.take_add_one, hz]
        rfl
      · rw [upd_ne nb]
        exact k3 b o qb nb
    · rintro σ H3 ⟨y6, ps, rfl, hps, h3, k3⟩
      rw [List.length_map, List.take_length] at hps
      have lps : ps.length = cs.length - 1 := by
        have := congrArg List.length hps
        rw [List.length_map, List.length_drop, List.length_map] at this
        exact this
      have sH3 : Same H H3 := fun b o qb => k3 b o (s3 _ _ (c1 _ _ qb)) (ne_of_none qb hdV)
      refine ⟨_, rfl, fun d2 hd2 => ?_⟩
      have c4 : Same H3 (upd H3 d2 (.dK [])) := Same.new hd2
      have h4 : upd H3 d2 (.dK []) d2 = some (.dK []) := upd_same
      generalize upd H3 d2 (.dK []) = H4 at c4 h4 ⊢
      refine ⟨h, d2, _, rfl, rfl, .inl (c4 _ _ (sH3 _ _ hh)), .inl h4, _, rfl, ?_⟩
      refine ite2 (fun hc => ?_) (fun hc => ?_)
      · have hc' : cs.length = 0 := by
          have : decide ((kX (·.m) cs).length = 0) = true := hc
          rw [decide_eq_true_eq, kX_len] at this
          exact this
        have hps0 : ps = [] := List.eq_nil_of_length_eq_zero (by omega)
        subst hps0
        refine ⟨_, rfl, dV, _, rfl, DPut.k (k := Sum.inr "a") (c4 _ _ h3) (small1000 (by show 0 ≤ 1000; omega)), ?_⟩
        refine q2 _ dV _ _ ((sH3.trans c4).on hdV) upd_same ?_
        rw [hc']
        show (putK (kP []) (.inr "a" : Key) (.int 1)).length ≠ 0
        decide
      · have hc' : cs.length ≠ 0 := by
          have : ¬ decide ((kX (·.m) cs).length = 0) = true := hc
          rw [decide_eq_true_eq, kX_len] at this
          exact this
        exact q2 _ dV _ _ (sH3.trans c4) (c4 _ _ h3) (by rw [kP_len]; omega)
end
end My

namespace My
open PySem L2
def forB : Stmt → List Stmt
  | .For _ _ b _ _ => b
  | _ => []
def ifE : Stmt → List Stmt
  | .If _ _ e _ => e
  | _ => []
/-- lists of ints, one by one -/
inductive Prs (H : Hp) : List Addr → List (List Int) → Prop
  | nil : Prs H [] []
  | cons {a : Addr} {d : List Int} {as : List Addr} {ds : List (List Int)} : H a = some (.lst (d.map V.int)) → Prs H as ds → Prs H (a :: as) (d :: ds)
theorem Prs.keep {H H' : Hp} : ∀ {as : List Addr} {ds : List (List Int)}, Prs H as ds → (∀ a ∈ as, ∀ xs, H a = some (.lst xs) → H' a = some (.lst xs)) → Prs H' as ds
  | _, _, .nil, _ => .nil
  | _, _, .cons h t, k => .cons (k _ List.mem_cons_self _ h) (t.keep fun a ha => k a (List.mem_cons_of_mem _ ha))
theorem Prs.snoc {H : Hp} {a : Addr} {d : List Int} (h : H a = some (.lst (d.map V.int))) : ∀ {as : List Addr} {ds : List (List Int)}, Prs H as ds → Prs H (as ++ [a]) (ds ++ [d])
  | _, _, .nil => .cons h .nil
  | _, _, .cons h' t => .cons h' (t.snoc h)
theorem Prs.len {H : Hp} : ∀ {as : List Addr} {ds : List (List Int)}, Prs H as ds → as.length = ds.length
  | _, _, .nil => rfl
  | _, _, .cons _ t => by rw [List.length_cons, List.length_cons, t.len]
theorem Prs.there {H : Hp} : ∀ {as : List Addr} {ds : List (List Int)}, Prs H as ds → ∀ a ∈ as, ∃ xs, H a = some (.lst xs)
  | _, _, .nil, a, h => by cases h
  | _, _, .cons h t, a, ha => by
    rcases List.mem_cons.mp ha with rfl | ha
    · exact ⟨_, h⟩
    · exact t.there a ha
theorem Prs.dt {K : PySem.W.Frag} {H : Hp} : ∀ {as : List Addr} {ds : List (List Int)}, Prs H as ds → DtAll K H (as.map V.ref) (ds.map fun d => PyData.list (d.map PyData.int))
  | _, _, .nil => .nil
  | _, _, .cons h t => .cons (.lst (SqL.of h) (dt_ints _)) t.dt
theorem lay_dd : ∀ ds : List (List Int), PyData.canLayAll0 (ds.map fun d => PyData.list (d.map PyData.int)) = true ∧ PyData.depthAll (ds.map fun d => PyData.list (d.map PyData.int)) ≤ 1
  | [] => ⟨rfl, by decide⟩
  | d :: r => by
    obtain ⟨h1, h2⟩ := lay_dd r
    obtain ⟨g1, g2⟩ := lay_ints d
    constructor
    · rw [List.map_cons, PyData.canLayAll0, h1, PyData.canLay0, g1]
      rfl
    · rw [List.map_cons, PyData.depthAll, PyData.depth, g2]
      omega
/-- what was told, and what was kept beside -/
structure Told (H : Hp) (td kp r rl : Addr) (cs : List Col) (ta ka : List Addr) (dd : List (List Int)) : Prop where
  htd : H td = some (.lst (ta.map V.ref))
  hkp : H kp = some (.lst (ka.map V.ref))
  pt : Prs H ta dd
  pk : Prs H ka dd
  out : ∀ x ∈ td :: kp :: (ta ++ ka), Out r rl cs x
  ne : td ≠ kp
  nt : ∀ x ∈ ta ++ ka, x ≠ td ∧ x ≠ kp
theorem Told.keep {H H' : Hp} {td kp r rl : Addr} {cs cs' : List Col} {ta ka : List Addr} {dd : List (List Int)} (T : Told H td kp r rl cs ta ka dd) (k : ∀ b xs, H b = some (.lst xs) → Out r rl cs b → H' b = some (.lst xs)) (o : ∀ b xs, H b = some (.lst xs) → Out r rl cs b → Out r rl cs' b) : Told H' td kp r rl cs' ta ka dd := by
  refine ⟨k _ _ T.htd (T.out _ (by simp)), k _ _ T.hkp (T.out _ (by simp)), T.pt.keep fun a ha xs q => k _ _ q (T.out a (by simp [ha])), T.pk.keep fun a ha xs q => k _ _ q (T.out a (by simp [ha])), fun x hx => ?_, T.ne, T.nt⟩
  have hx' := hx
  simp only [List.mem_cons, List.mem_append] at hx'
  rcases hx' with rfl | rfl | h | h
  · exact o _ _ T.htd (T.out _ hx)
  · exact o _ _ T.hkp (T.out _ hx)
  · obtain ⟨xs, q⟩ := T.pt.there x h
    exact o _ _ q (T.out _ hx)
  · obtain ⟨xs, q⟩ := T.pk.there x h
    exact o _ _ q (T.out _ hx)
section
variable {P : Program} {w : World} {K : PySem.W.Frag} {mg : Str → Option Value} {base : Heap}
def spLaw (K : PySem.W.Frag) : Sp := fun vs H Q _ => ∃ (a : Addr) (ns : List Int), vs = [.ref a] ∧ SqL K H a (ns.map V.int) ∧ ns.length ≤ 63 ∧ ∀ H', Q (.bl true) H'
abbrev Nlaw : List Str := ["_law_script", "_law_names_here", "_law_rows", "_law_table", "_law_held", "_law_coming", "_law_told", "_law_kept", "_law_k", "_law_cell_here", "_law_way", "_law_column", "_law_place"]
theorem sc_law : FnScope Nlaw ["_law_script"] (defScope s_law) := ⟨rfl, rfl, rfl, by decide +kernel, rfl, by decide +kernel, by decide +kernel⟩
/-- the places that stay through the law -/
structure Pl where
  p : Addr
  r : Addr
  e : Addr
  h : Addr
  rl : Addr
  nl : Addr
  td : Addr
  kp : Addr
structure Now (C : Addr) (H0 H : Hp) (L : Pl) (zs : List Str) (nums : List Int) (n : Int) (cs : List Col) (ta ka : List Addr) (dd : List (List Int)) : Prop where
  s : Same H0 H
  W : W10 C H L.p L.r L.e L.h L.rl nums n cs
  hh : H L.h = some (.dK (kX (·.m) cs))
  T : Told H L.td L.kp L.r L.rl cs ta ka dd
  f : ∀ x ∈ [L.p, L.r, L.e, L.h, L.rl, L.td, L.kp], H0 x = none
  fc : ∀ c ∈ cs, H0 c.l = none ∧ H0 c.m = none
  nl : H0 L.nl = some (.lst (zs.map V.str))
  zs5 : zs.length = 5
  zsn : ∀ z ∈ zs, Nm z
  sub : ∀ c ∈ cs, c.nm ∈ zs
section
variable {C : Addr} {H0 H H' : Hp} {L : Pl} {zs : List Str} {nums nums' : List Int} {n n' : Int} {cs cs' : List Col} {ta ka : List Addr} {dd : List (List Int)}
theorem Now.same (N : Now C H0 H L zs nums n cs ta ka dd) (s : Same H H') : Now C H0 H' L zs nums n cs ta ka dd :=
  ⟨N.s.trans s, N.W.same s, s _ _ N.hh, N.T.keep (fun b xs q _ => s _ _ q) (fun _ _ _ o => o), N.f, N.fc, N.nl, N.zs5, N.zsn, N.sub⟩
theorem Now.few (N : Now C H0 H L zs nums n cs ta ka dd) : cs.length ≤ 5 := by
  have := few_of (cs.map (·.nm)) zs N.W.nod fun x hx => by
    obtain ⟨c, hc, rfl⟩ := List.mem_map.mp hx
    exact N.sub c hc
  rw [List.length_map, N.zs5] at this
  exact this
theorem Now.out (N : Now C H0 H L zs nums n cs ta ka dd) {b : Addr} {o : HO} (q : H0 b = some o) : b ≠ L.p ∧ b ≠ L.e ∧ b ≠ L.h ∧ Out L.r L.rl cs b :=
  ⟨ne_of_none q (N.f _ (by simp)), ne_of_none q (N.f _ (by simp)), ne_of_none q (N.f _ (by simp)), ne_of_none q (N.f _ (by simp)), ne_of_none q (N.f _ (by simp)), fun c hc => ⟨ne_of_none q (N.fc c hc).1, ne_of_none q (N.fc c hc).2⟩⟩
/-- the lists turn -/
theorem Now.map (N : Now C H0 H L zs nums n cs ta ka dd) {g : Col → List V} (W : W10 C H' L.p L.r L.e L.h L.rl nums' n' (mapC cs g)) (hh : H' L.h = some (.dK (kX (·.m) cs))) (keep : ∀ b o, H b = some o → b ≠ L.p → Out L.r L.rl cs b → H' b = some o) : Now C H0 H' L zs nums' n' (mapC cs g) ta ka dd := by
  obtain ⟨⟨dx, g1⟩, _, _⟩ := N.W.tab
  refine ⟨fun b o q => keep b o (N.s _ _ q) (N.out q).1 (N.out q).2.2.2, W, by rw [mapC_kX (fun _ _ => rfl)]; exact hh, N.T.keep (fun b xs q o => keep b _ q (ne_of q g1 (by intro z; cases z)) o) (fun b xs q o => mapC_out.mpr o), N.f, fun c hc => ?_, N.nl, N.zs5, N.zsn, fun c hc => ?_⟩
  · obtain ⟨d, hd, rfl⟩ := mapC_mem hc
    exact N.fc d hd
  · obtain ⟨d, hd, rfl⟩ := mapC_mem hc
    exact N.sub d hd
/-- the columns turn -/
theorem Now.cols (N : Now C H0 H L zs nums n cs ta ka dd) (W : W10 C H' L.p L.r L.e L.h L.rl nums n cs') (hh : H' L.h = some (.dK (kX (·.m) cs'))) (keep : ∀ b o, H b = some o → b ≠ L.e → b ≠ L.h → H' b = some o) (new : ∀ d ∈ cs', d ∈ cs ∨ (H d.l = none ∧ H d.m = none ∧ d.nm ∈ zs)) : Now C H0 H' L zs nums n cs' ta ka dd := by
  obtain ⟨⟨dx, g1⟩, _, g3⟩ := N.W.tab
  refine ⟨fun b o q => keep b o (N.s _ _ q) (N.out q).2.1 (N.out q).2.2.1, W, hh, N.T.keep (fun b xs q o => keep b _ q (ne_of q g3 (by intro z; cases z)) (ne_of q N.hh (by intro z; cases z))) (fun b xs q o => ⟨o.1, o.2.1, fun d hd => ?_⟩), N.f, fun d hd => ?_, N.nl, N.zs5, N.zsn, fun d hd => ?_⟩
  · rcases new d hd with y | ⟨y1, y2, _⟩
    · exact o.2.2 d y
    · exact ⟨ne_of_none q y1, ne_of_none q y2⟩
  · rcases new d hd with y | ⟨y1, y2, _⟩
    · exact N.fc d y
    · exact ⟨N.s.free y1, N.s.free y2⟩
  · rcases new d hd with y | ⟨_, _, y⟩
    · exact N.sub d y
    · exact y
end
def St (C : Addr) (H0 : Hp) (a : Addr) (L : Pl) (zs : List Str) (B M : Nat) (σ : L2.St) (H : Hp) : Prop := ∃ (nums : List Int) (n : Int) (cs : List Col) (ta ka : List Addr) (dd : List (List Int)) (y8 y9 y10 y11 y12 : Option V), σ = [some (.ref a), some (.ref L.nl), some (.ref L.rl), some (.ref L.p), some (.ref L.h), some (.int n), some (.ref L.td), some (.ref L.kp), y8, y9, y10, y11, y12] ∧ Now C H0 H L zs nums n cs ta ka dd ∧ nums.length ≤ B ∧ dd.length ≤ M
abbrev sFor : Stmt := (defBody s_law).getD 7 (.Pass ⟨0, 0, 0, 0⟩)
abbrev sI1 : Stmt := (forB sFor).getD 4 (.Pass ⟨0, 0, 0, 0⟩)
abbrev sI2 : Stmt := (ifE sI1).getD 0 (.Pass ⟨0, 0, 0, 0⟩)
abbrev sI3 : Stmt := (ifE sI2).getD 0 (.Pass ⟨0, 0, 0, 0⟩)
abbrev sI4 : Stmt := (ifE sI3).getD 0 (.Pass ⟨0, 0, 0, 0⟩)
abbrev sI5 : Stmt := (ifE sI4).getD 0 (.Pass ⟨0, 0, 0, 0⟩)
/-- a part of the turn: it comes to the state with one row more at most -/
def Part (C : Addr) (H0 : Hp) (a : Addr) (t : TS) : Prop := ∀ (D : Ends) (H : Hp) (L : Pl) (zs : List Str) (nums : List Int) (n : Int) (cs : List Col) (ta ka : List Addr) (dd : List (List Int)) (B M : Nat) (k x pl : Int) (z : Str), Now C H0 H L zs nums n cs ta ka dd → nums.length ≤ B → dd.length ≤ M → B ≤ 25 → 0 ≤ k → k ≤ 100 → z ∈ zs → 0 ≤ pl → pl ≤ nums.length →
  (∀ σ' H', St C H0 a L zs (B + 1) M σ' H' → D.nx σ' H') → t D [some (.ref a), some (.ref L.nl), some (.ref L.rl), some (.ref L.p), some (.ref L.h), some (.int n), some (.ref L.td), some (.ref L.kp), some (.int k), some (.int x), some (.int (x % 7)), some (.str z), some (.int pl)] H
section
variable {f : Addr} {cdv : Value} {A : Around} {outer : List Env} {s : Shared} {H : Hp} {E : XK} {a : Addr} {ns : List Int}
theorem tail5 (T : Tops K mg) {ad : Ad} (X : Excs K mg ad) {C : Addr} (Y : TTable K mg C) (hr : Room 9 (A.deeper (PyProof.Rows.envOfC "law" (defScope s_law) s.heap.objs.size f cdv))) :
    ∃ t, PSs (cxOf CX0 P w K mg base Nlaw "law" (defScope s_law) f cdv A outer s H E).nox (ifE sI5) t ∧ ∀ H0, Part C H0 a t := by
  have G_law_spoilt : Known P w K mg base CX0 8 "_law_spoilt" ["_law_table", "_law_held", "_law_rows", "_law_cell_here", "_law_names_here"] (spSpoilt K C) := k_law_spoilt T X Y
  refine ⟨_, (pss_one (ps_if (pt_not (pt_val (pe_callN G_law_spoilt (hr.mono (by decide)) pass0 (pa_cons (pv 3) (pa_cons (pv 4) (pa_cons (pv 2) (pa_cons (pe_op op_fdiv (pv 9) pe_int) (pa_cons (pv 1) pa_nil)))))) (fun _ => rfl))) (pss_one (ps_ret pe_bl)) pss_nil)), fun H0 D H1 L zs nums n cs ta ka dd B M k x pl z N hB hdd hB25 k0 k1 hz pl0 pl1 qD => ?_⟩
  refine ⟨_, rfl, _, rfl, _, rfl, _, rfl, _, _, rfl, rfl, ⟨by decide, by decide⟩, _, rfl, ?_⟩
  refine ⟨L.p, L.r, L.e, L.h, L.rl, L.nl, nums, n, cs, _, zs, rfl, N.W, N.hh, by omega, N.s _ _ N.nl, (fun z hz => (N.zsn z hz).2.1), by rw [N.zs5]; exact Nat.le_refl _, fun H2 s2 => ⟨_, rfl, iteF ?_⟩⟩
  exact qD _ _ ⟨_, _, _, _, _, _, _, _, _, _, _, rfl, N.same s2, by omega, by omega⟩
theorem tail4 (T : Tops K mg) {ad : Ad} (X : Excs K mg ad) {C : Addr} (Y : TTable K mg C) (hr : Room 9 (A.deeper (PyProof.Rows.envOfC "law" (defScope s_law) s.heap.objs.size f cdv))) :
    ∃ t, PSs (cxOf CX0 P w K mg base Nlaw "law" (defScope s_law) f cdv A outer s H E).nox (ifE sI4) t ∧ ∀ H0, Part C H0 a t := by
  have G_law_taken : Known P w K mg base CX0 4 "_law_taken" ["_law_table", "_law_held", "_law_rows", "_law_place"] (spTaken K C) := k_law_taken T X Y
  obtain ⟨t5, ht5, q5⟩ := tail5 (P := P) (w := w) (base := base) (outer := outer) (H := H) (E := E) (a := a) T X Y hr
  refine ⟨_, (pss_one (ps_if (PW.pt (pw_and (pt_cmpR op_eq (pv 10) pe_int (nomark _)) (pw_and1 (pt_cmpR op_lt (pv 12) (pe_callB call_len rfl T.len b_len (pa_cons (pv 2) pa_nil)) (nomark _))))) (pss_one (ps_expr (pe_callN G_law_taken (hr.mono (by decide)) pass0 (pa_cons (pv 3) (pa_cons (pv 4) (pa_cons (pv 2) (pa_cons (pv 12) pa_nil))))))) ht5)), fun H0 D H1 L zs nums n cs ta ka dd B M k x pl z N hB hdd hB25 k0 k1 hz pl0 pl1 qD => ?_⟩
  have exs : ((nums.map V.int).length : Int) = (nums.length : Int) := by rw [List.length_map]
  refine ⟨_, rfl, rfl, _, rfl, ?_⟩
  refine ite2 (fun _ => ?_) (fun _ => iteF (q5 H0 D H1 L zs nums n cs ta ka dd B M k x pl z N hB hdd hB25 k0 k1 hz pl0 pl1 qD))
  refine ⟨_, rfl, _, rfl, _, _, rfl, .inl ⟨_, SqL.of N.W.hrl, rfl⟩, ?_⟩
  rw [exs]
  refine ⟨_, _, rfl, rfl, _, rfl, ?_⟩
  refine ite2 (fun hlt => ?_) (fun _ => q5 H0 D H1 L zs nums n cs ta ka dd B M k x pl z N hB hdd hB25 k0 k1 hz pl0 pl1 qD)
  have hlt' : pl < nums.length := by
    have : decide (pl < (nums.length : Int)) = true := hlt
    rwa [decide_eq_true_eq] at this
  refine ⟨_, rfl, _, rfl, _, rfl, _, rfl, L.p, L.r, L.e, L.h, L.rl, nums, n, cs, pl, rfl, N.W, N.hh, by omega, pl0, hlt', fun H2 W2 hh2 keep => ?_⟩
  exact qD _ _ ⟨_, _, _, _, _, _, _, _, _, _, _, rfl, N.map W2 hh2 keep, by rw [List.length_eraseIdx]; split <;> omega, by omega⟩
theorem tail3 (T : Tops K mg) {ad : Ad} (X : Excs K mg ad) {C : Addr} (Y : TTable K mg C) (hr : Room 9 (A.deeper (PyProof.Rows.envOfC "law" (defScope s_law) s.heap.objs.size f cdv))) (hS : SqL K H a (ns.map V.int)) (hl : ns.length ≤ 63) :
    ∃ t, PSs (cxOf CX0 P w K mg base Nlaw "law" (defScope s_law) f cdv A outer s H E).nox (ifE sI3) t ∧ ∀ H0, Same H H0 → Part C H0 a t := by
  have G_law_entered : Known P w K mg base CX0 7 "_law_entered" ["_law_table", "_law_held", "_law_rows", "_law_coming", "_law_place", "_law_script", "_law_k"] (spEntered K C) := k_law_entered T X Y
  obtain ⟨t4, ht4, q4⟩ := tail4 (P := P) (w := w) (base := base) (outer := outer) (H := H) (E := E) (a := a) T X Y hr
  refine ⟨_, (pss_one (ps_if (pt_cmpR op_eq (pv 10) pe_int (nomark _)) (pss_cons (ps_expr (pe_callN G_law_entered (hr.mono (by decide)) pass0 (pa_cons (pv 3) (pa_cons (pv 4) (pa_cons (pv 2) (pa_cons (pv 5) (pa_cons (pv 12) (pa_cons (pv 0) (pa_cons (pv 8) pa_nil)))))))))
      (pss_one (ps_set (i := 5) sc_law.nd rfl (by first | exact Or.inl rfl | exact Or.inr rfl) (pe_op op_add (pv 5) pe_int)))) ht4)), fun H0 s0 D H1 L zs nums n cs ta ka dd B M k x pl z N hB hdd hB25 k0 k1 hz pl0 pl1 qD => ?_⟩
  refine ⟨_, rfl, rfl, _, rfl, ?_⟩
  refine ite2 (fun _ => ?_) (fun _ => q4 H0 D H1 L zs nums n cs ta ka dd B M k x pl z N hB hdd hB25 k0 k1 hz pl0 pl1 qD)
  refine ⟨_, rfl, _, rfl, _, rfl, _, rfl, _, rfl, _, rfl, _, rfl, L.p, L.r, L.e, L.h, L.rl, nums, n, cs, pl, a, ns, k, rfl, N.W, N.hh, by omega, pl0, pl1, (s0.trans N.s).seq hS, hl, k0, k1, fun H2 g W2 hh2 keep => ?_⟩
  refine ⟨_, rfl, _, _, rfl, rfl, ?_⟩
  exact qD _ _ ⟨_, _, _, _, _, _, _, _, _, _, _, rfl, N.map W2 hh2 keep, by rw [insV_len]; omega, by omega⟩
theorem tail2 (T : Tops K mg) {ad : Ad} (X : Excs K mg ad) {C : Addr} (Y : TTable K mg C) (hr : Room 9 (A.deeper (PyProof.Rows.envOfC "law" (defScope s_law) s.heap.objs.size f cdv))) (hS : SqL K H a (ns.map V.int)) (hl : ns.length ≤ 63) :
    ∃ t, PSs (cxOf CX0 P w K mg base Nlaw "law" (defScope s_law) f cdv A outer s H E).nox (ifE sI2) t ∧ ∀ H0, Same H H0 → Part C H0 a t := by
  have G_law_value : Known P w K mg base CX0 1 "_law_value" ["_law_cell_here"] spVal := k_law_value T
  have G_put : KnownM P w K mg base (CXE P w) 5 C "put" ["self", "column", "place", "value"] (spPut K C ad) := k_Table_put T X Y
  obtain ⟨t3, ht3, q3⟩ := tail3 (P := P) (w := w) (base := base) (outer := outer) (H := H) (E := E) (a := a) T X Y hr hS hl
  refine ⟨_, (pss_one (ps_if (PW.pt (pw_and (pt_cmpR op_eq (pv 10) pe_int (nomark _)) (pw_and (pt_cmp (pc_din (hu_of hr) (pv 11) (pv 4))) (pw_and1 (pt_cmpR op_lt (pv 12) (pe_callB call_len rfl T.len b_len (pa_cons (pv 2) pa_nil)) (nomark _)))))) (pss_cons (ps_asg (pe_callN G_law_value (hr.mono (by decide)) pass0 (pa_cons (pe_op op_fdiv (pv 9) pe_int) pa_nil)) (pg_sub (pe_dget (hu_of hr) (pv 4) (pv 11) (fun _ _ => rfl)) (pv 12) set_list (fun _ => rfl)))
      (pss_one (ps_expr (pe_methN (pv 3) Y.cl G_put (hr.mono (by decide)) passN (pa_cons (pv 11) (pa_cons (pv 12) (pa_cons (pe_ix ix_list (pe_dget (hu_of hr) (pv 4) (pv 11) (fun _ _ => rfl)) (pv 12) (fun _ _ => rfl)) pa_nil))))))) ht3)), fun H0 s0 D H1 L zs nums n cs ta ka dd B M k x pl z N hB hdd hB25 k0 k1 hz pl0 pl1 qD => ?_⟩
  have exs : ((nums.map V.int).length : Int) = (nums.length : Int) := by rw [List.length_map]
  refine ⟨_, rfl, rfl, _, rfl, ?_⟩
  refine ite2 (fun _ => ?_) (fun _ => iteF (q3 H0 s0 D H1 L zs nums n cs ta ka dd B M k x pl z N hB hdd hB25 k0 k1 hz pl0 pl1 qD))
  refine ⟨_, rfl, _, rfl, L.h, _, rfl, DGet.k (k := Sum.inr z) N.hh, _, rfl, ?_⟩
  refine ite2 (fun hin => ?_) (fun _ => iteF (q3 H0 s0 D H1 L zs nums n cs ta ka dd B M k x pl z N hB hdd hB25 k0 k1 hz pl0 pl1 qD))
  refine ⟨_, rfl, _, rfl, _, _, rfl, .inl ⟨_, SqL.of N.W.hrl, rfl⟩, ?_⟩
  rw [exs]
  refine ⟨_, _, rfl, rfl, _, rfl, ?_⟩
  refine ite2 (fun hlt => ?_) (fun _ => q3 H0 s0 D H1 L zs nums n cs ta ka dd B M k x pl z N hB hdd hB25 k0 k1 hz pl0 pl1 qD)
  have hlt' : pl < nums.length := by
    have : decide (pl < (nums.length : Int)) = true := hlt
    rwa [decide_eq_true_eq] at this
  have hin' : (valV (kX (·.m) cs) (.inr z : Key)).isSome = true := hin
  rw [kX_isSome] at hin'
  obtain ⟨c, hc, rfl⟩ := any_of hin'
  obtain ⟨j, hj, ej⟩ : ∃ j : Nat, j < nums.length ∧ pl = (j : Int) := ⟨pl.toNat, by omega, by omega⟩
  refine ⟨_, rfl, _, _, rfl, rfl, ⟨by decide, by decide⟩, _, rfl, fun v d H2 s2 vd => ?_⟩
  have N2 := N.same s2
  have ck := N2.W.col c hc
  have hys := ck.len
  have hix : ixN c.ys.length pl = some j := by rw [ej, ix_some (by omega) (by omega)]; rfl
  refine ⟨_, rfl, _, rfl, L.h, .ref c.m, rfl, (kX_val (g := (·.m)) N2.W.nod hc) ▸ DGet.k (k := Sum.inr c.nm) N2.hh, _, rfl, c.m, c.ys, pl, j, rfl, rfl, ck.m, hix, ?_⟩
  obtain ⟨⟨dx, g1⟩, g2, g3⟩ := N2.W.tab
  have kK : ∀ b o, H2 b = some o → (∀ xs, o ≠ .lst xs) → upd H2 c.m (.lst (c.ys.set j v)) b = some o := fun b o q nn => by rw [upd_ne (ne_of q ck.m (nn _))]; exact q
  have hm3 : upd H2 c.m (.lst (c.ys.set j v)) c.m = some (.lst (c.ys.set j v)) := upd_same
  have hl3 : upd H2 c.m (.lst (c.ys.set j v)) c.l = some (.lst c.ys) := by rw [upd_ne (N2.W.ilm c hc c hc)]; exact ck.l
  have hh3 := kK _ _ N2.hh (by intro _ z; cases z)
  have k3 : ∀ b o, H2 b = some o → b ≠ c.m → upd H2 c.m (.lst (c.ys.set j v)) b = some o := fun b o q nn => by rw [upd_ne nn]; exact q
  have tab3 : TabAt C (upd H2 c.m (.lst (c.ys.set j v))) L.p L.r L.e (nums.map V.int) n (kX (·.l) cs) := ⟨⟨dx, kK _ _ g1 (by intro _ z; cases z)⟩, by rw [upd_ne ck.mr.1.symm]; exact g2, kK _ _ g3 (by intro _ z; cases z)⟩
  have vd3 : Vd (upd H2 c.m (.lst (c.ys.set j v))) v d := vd.keep (Tups.upd ck.m (by intro _ z; cases z))
  have g13 := kK _ _ g1 (by intro _ z; cases z)
  generalize upd H2 c.m (.lst (c.ys.set j v)) = H3 at kK hm3 hl3 hh3 k3 tab3 vd3 g13 ⊢
  have hat : atI (c.ys.set j v) pl = some v := by
    obtain ⟨u, hu1, hu2⟩ := at_some (c.ys.set j v) pl pl0 (by rw [List.length_set]; omega)
    have : pl.toNat = j := by omega
    rw [this, List.getElem?_set_self (by omega)] at hu2
    rw [hu1]
    exact hu2.symm
  obtain ⟨hn1, hn2, _⟩ := ck.nm
  have hcol : colD (kX (·.l) cs) (.str c.nm) = true := by
    show (nameS c.nm && _) = true
    rw [hn1, kX_val N2.W.nod hc]
    rfl
  have hpl : placeD ((nums.map V.int).length : Int) (.int pl) = true := by
    show (decide (0 ≤ pl) && decide (pl < ((nums.map V.int).length : Int))) = true
    rw [List.length_map, decide_eq_true pl0, decide_eq_true hlt']
    rfl
  refine ⟨_, rfl, L.p, dx, _, rfl, g13, flds_no, _, rfl, _, rfl, _, rfl, _, rfl, L.h, .ref c.m, rfl, (kX_val (g := (·.m)) N2.W.nod hc) ▸ DGet.k (k := Sum.inr c.nm) hh3, _, rfl, c.m, _, _, v, rfl, rfl, SqL.of hm3, hat, ?_⟩
  refine ⟨L.p, L.r, L.e, _, _, _, _, .str c.nm, _, .int pl, v, d, rfl, tab3, .str _, shortS_str (by omega), .int _, vd3.dt, vd3.1.2.2.2.2, (fun _ _ _ => ⟨c.nm, c.l, c.ys, pl, j, rfl, hn1, kX_val N2.W.nod hc, hl3, rfl, hix, fun H4 s4 => ?_⟩), (fun z => by rw [hcol] at z; cases z), (fun _ z => by rw [hpl] at z; cases z), fun _ _ z => by rw [vd3.1.1] at z; cases z⟩
  have up5 : ∀ b o, H4 b = some o → b ≠ c.l → upd H4 c.l (.lst (c.ys.set j v)) b = some o := fun b o q nb => by rw [upd_ne nb]; exact q
  have l5 : upd H4 c.l (.lst (c.ys.set j v)) c.l = some (.lst (c.ys.set j v)) := upd_same
  generalize upd H4 c.l (.lst (c.ys.set j v)) = H5 at up5 l5 ⊢
  have keep : ∀ b o, H2 b = some o → b ≠ L.p → Out L.r L.rl cs b → H5 b = some o := fun b o q _ ob => up5 _ _ (s4 _ _ (k3 b o q (ob.2.2 c hc).2)) (ob.2.2 c hc).1
  have kL5 : ∀ d ∈ cs, d.nm ≠ c.nm → H5 d.l = some (.lst d.ys) ∧ H5 d.m = some (.lst d.ys) := fun d hd ne =>
    ⟨up5 _ _ (s4 _ _ (k3 _ _ (N2.W.col d hd).l (N2.W.ilm d hd c hc))) (fun y => ne (N2.W.il d hd c hc y)), up5 _ _ (s4 _ _ (k3 _ _ (N2.W.col d hd).m (fun y => ne (N2.W.im d hd c hc y)))) (N2.W.ilm c hc d hd).symm⟩
  have tups5 : Tups H2 H5 := fun b xs q => keep _ _ q (ne_of q g1 (by intro z; cases z)) (N2.W.out_k q (by intro _ z; cases z))
  have W5 := N2.W.map (H' := H5) (nums' := nums) (n' := n) (fun d => if d.nm = c.nm then d.ys.set j v else d.ys) keep
    ⟨⟨dx, up5 _ _ (s4 _ _ g13) (ne_of g1 ck.l (by intro z; cases z))⟩, up5 _ _ (s4 _ _ tab3.rows) ck.lr.1.symm, up5 _ _ (s4 _ _ tab3.kept) (ne_of g3 ck.l (by intro z; cases z))⟩
    (fun d hd => by
      by_cases e : d.nm = c.nm
      · obtain rfl := one_c N2.W.nod hd hc e
        rw [if_pos rfl]
        exact ⟨l5, up5 _ _ (s4 _ _ hm3) (N2.W.ilm d hd d hd).symm⟩
      · rw [if_neg e]
        exact kL5 d hd e) (up5 _ _ (s4 _ _ (k3 _ _ N2.W.hrl ck.mr.2.symm)) ck.lr.2.symm)
    (fun d hd => by
      have := (N2.W.col d hd).len
      split
      · rw [List.length_set]; exact this
      · exact this) (fun d hd u hu => by
      split at hu
      · rcases List.mem_or_eq_of_mem_set hu with y | rfl
        · obtain ⟨d', h'⟩ := (N2.W.col d hd).val u y
          exact ⟨d', h'.keep tups5⟩
        · exact ⟨_, vd.keep tups5⟩
      · obtain ⟨d', h'⟩ := (N2.W.col d hd).val u hu
        exact ⟨d', h'.keep tups5⟩)
  exact qD _ _ ⟨_, _, _, _, _, _, _, _, _, _, _, rfl, N2.map W5 (up5 _ _ (s4 _ _ hh3) (ne_of N2.hh ck.l (by intro z; cases z))) keep, by omega, by omega⟩
theorem tail1 (T : Tops K mg) {ad : Ad} (X : Excs K mg ad) {C : Addr} (Y : TTable K mg C) (hr : Room 9 (A.deeper (PyProof.Rows.envOfC "law" (defScope s_law) s.heap.objs.size f cdv))) (hS : SqL K H a (ns.map V.int)) (hl : ns.length ≤ 63) :
    ∃ t, PSs (cxOf CX0 P w K mg base Nlaw "law" (defScope s_law) f cdv A outer s H E).nox (ifE sI1) t ∧ ∀ H0, Same H H0 → Part C H0 a t := by
  have G_drop : KnownM P w K mg base (CXE P w) 3 C "drop" ["self", "column"] (spDrop K C ad) := k_Table_drop T X Y
  obtain ⟨t2, ht2, q2⟩ := tail2 (P := P) (w := w) (base := base) (outer := outer) (H := H) (E := E) (a := a) T X Y hr hS hl
  refine ⟨_, (pss_one (ps_if (PW.pt (pw_and (pt_cmpR op_eq (pv 10) pe_int (nomark _)) (pw_and1 (pt_cmp (pc_din (hu_of hr) (pv 11) (pv 4)))))) (pss_cons (ps_expr (pe_methN (pv 3) Y.cl G_drop (hr.mono (by decide)) passN (pa_cons (pv 11) pa_nil)))
      (pss_one (ps_expr (pe_dpop1 (pv 4) (pv 11) ⟨rfl, rfl, rfl, rfl⟩)))) ht2)), fun H0 s0 D H1 L zs nums n cs ta ka dd B M k x pl z N hB hdd hB25 k0 k1 hz pl0 pl1 qD => ?_⟩
  refine ⟨_, rfl, rfl, _, rfl, ?_⟩
  refine ite2 (fun _ => ?_) (fun _ => iteF (q2 H0 s0 D H1 L zs nums n cs ta ka dd B M k x pl z N hB hdd hB25 k0 k1 hz pl0 pl1 qD))
  refine ⟨_, rfl, _, rfl, L.h, _, rfl, DGet.k (k := Sum.inr z) N.hh, _, rfl, ?_⟩
  refine ite2 (fun hin => ?_) (fun _ => q2 H0 s0 D H1 L zs nums n cs ta ka dd B M k x pl z N hB hdd hB25 k0 k1 hz pl0 pl1 qD)
  have hin' : (valV (kX (·.m) cs) (.inr z : Key)).isSome = true := hin
  rw [kX_isSome] at hin'
  obtain ⟨c, hc, rfl⟩ := any_of hin'
  obtain ⟨⟨dx, g1⟩, g2, g3⟩ := N.W.tab
  have nz := (N.W.col c hc).nm
  have hcol : colD (kX (·.l) cs) (.str c.nm) = true := by
    show (nameS c.nm && _) = true
    rw [nz.1, kX_val N.W.nod hc]
    rfl
  refine ⟨_, rfl, L.p, dx, _, rfl, g1, flds_no, _, rfl, L.p, L.r, L.e, _, _, _, .str c.nm, .str c.nm, rfl, N.W.tab, .str _, shortS_str (by have := nz.2.1; omega), (fun t' et _ _ H3 s3 => ?_), fun z => by rw [hcol] at z; cases z⟩
  cases et
  have N3 := N.same s3
  have neD := N3.W.neD
  have hh3 : upd H3 L.e (.dK (dropK (kX (·.l) cs) (.inr c.nm : Key))) L.h = some (.dK (kX (·.m) cs)) := by rw [upd_ne neD.symm]; exact N3.hh
  refine ⟨_, rfl, L.h, rfl, .inl ⟨_, .inl hh3⟩, _, rfl, kX (·.m) cs, Sum.inr c.nm, .ref c.m, hh3, rfl, kX_val N3.W.nod hc, ?_⟩
  rw [kX_drop, kX_drop]
  have keep : ∀ b o, H3 b = some o → b ≠ L.e → b ≠ L.h → upd (upd H3 L.e (.dK (kX (·.l) (dropC cs c.nm)))) L.h (.dK (kX (·.m) (dropC cs c.nm))) b = some o := fun b o q n1 n2 => by rw [upd_ne n2, upd_ne n1]; exact q
  have W4 := N3.W.cols (cs' := dropC cs c.nm) ⟨_, N3.hh⟩ keep (by rw [upd_ne neD, upd_same]) upd_same (dropC_nod N3.W.nod) (by have := N.few; have h' : (dropC cs c.nm).length ≤ cs.length := List.length_filter_le _ _; omega) fun d hd => .inl (dropC_mem hd).1
  exact qD _ _ ⟨_, _, _, _, _, _, _, _, _, _, _, rfl, N3.cols W4 upd_same keep fun d hd => .inl (dropC_mem hd).1, by omega, by omega⟩
end
end
end My

namespace My
open PySem L2
def idn (m : Nat) : List Int := (List.range m).map fun (i : Nat) => (i : Int)
theorem idn_len (m : Nat) : (idn m).length = m := by unfold idn; rw [List.length_map, List.length_range]
theorem rangeV_idn (m : Nat) : rangeV 0 m = (idn m).map V.int := by
  unfold rangeV idn
  rw [List.map_map]
  refine List.map_congr_left fun i _ => ?_
  show V.int (0 + (i : Int)) = V.int (i : Int)
  rw [Int.zero_add]
theorem made_same {H : Hp} {x dx : Addr} {o u : HO} (hx : H x = none) (hdx : H dx = none) : Same H (upd (upd H dx o) x u) := fun b q e => by
  rw [upd_ne (ne_of_none e hx), upd_ne (ne_of_none e hdx)]
  exact e
/-- two lists beside turn -/
theorem W10.side {C : Addr} {H H' : Hp} {p r e h rl x y : Addr} {nums : List Int} {n : Int} {cs : List Col} {xs ys : List V} (W : W10 C H p r e h rl nums n cs) (hx : H x = some (.lst xs)) (hy : H y = some (.lst ys)) (ox : Out r rl cs x) (oy : Out r rl cs y) (keep : ∀ b o, H b = some o → b ≠ x → b ≠ y → H' b = some o) : W10 C H' p r e h rl nums n cs := by
  have k : ∀ b o, H b = some o → (∀ q, o ≠ .lst q) → H' b = some o := fun b o q nn => keep b o q (ne_of q hx (nn _)) (ne_of q hy (nn _))
  obtain ⟨⟨dx, g1⟩, g2, g3⟩ := W.tab
  refine ⟨⟨⟨dx, k _ _ g1 (by intro _ z; cases z)⟩, keep _ _ g2 ox.1.symm oy.1.symm, k _ _ g3 (by intro _ z; cases z)⟩, ?_, keep _ _ W.hrl ox.2.1.symm oy.2.1.symm, fun c hc => ?_, W.nod, W.il, W.im, W.ilm, W.nrr, W.neD, W.few⟩
  · rcases W.hld with q | ⟨o, q⟩
    · exact .inl (k _ _ q (by intro _ z; cases z))
    · exact .inr ⟨o, k _ _ q (by intro _ z; cases z)⟩
  · have c' := W.col c hc
    exact ⟨keep _ _ c'.l (ox.2.2 c hc).1.symm (oy.2.2 c hc).1.symm, keep _ _ c'.m (ox.2.2 c hc).2.symm (oy.2.2 c hc).2.symm, c'.len, c'.nm, fun v hv => by
      obtain ⟨d, vd⟩ := c'.val v hv
      exact ⟨d, vd.keep fun b xs q => k _ _ q (by intro _ z; cases z)⟩, c'.lr, c'.mr⟩
section
variable {P : Program} {w : World} {K : PySem.W.Frag} {mg : Str → Option Value} {base : Heap}
section
variable {f : Addr} {cdv : Value} {A : Around} {outer : List Env} {s : Shared} {H : Hp} {E : XK} {a : Addr} {ns : List Int}
theorem tailZ (T : Tops K mg) {ad : Ad} (X : Excs K mg ad) {C : Addr} (Y : TTable K mg C) (hr : Room 9 (A.deeper (PyProof.Rows.envOfC "law" (defScope s_law) s.heap.objs.size f cdv))) :
    ∃ t, PSs (cxOf CX0 P w K mg base Nlaw "law" (defScope s_law) f cdv A outer s H E).nox ((forB sFor).drop 5) t ∧ ∀ (H0 : Hp) (D : Ends) (H1 : Hp) (L : Pl) (zs : List Str) (B M : Nat) (σ : L2.St), St C H0 a L zs B M σ H1 → B ≤ 30 → M ≤ 100 → (∀ σ' H', St C H0 a L zs B (M + 1) σ' H' → D.nx σ' H') → t D σ H1 := by
  have G_law_stands : Known P w K mg base CX0 4 "_law_stands" ["_law_table", "_law_held", "_law_rows"] (spStands K C) := k_law_stands T X Y
  have G_numbers : KnownM P w K mg base CX0 1 C "numbers" ["self"] (spNumbers C) := k_Table_numbers T Y
  refine ⟨_, (pss_cons (ps_if (pt_not (pt_val (pe_callN G_law_stands (hr.mono (by decide)) pass0 (pa_cons (pv 3) (pa_cons (pv 4) (pa_cons (pv 2) pa_nil)))) (fun _ => rfl))) (pss_one (ps_ret pe_bl)) pss_nil)
      (pss_cons (ps_expr (pe_bm PySem.F.plainAttrs_list PySem.F.slot_list_append PySem.F.type_list_append mt_append (pv 6) (pa_cons (pe_methN0 (pv 3) Y.cl G_numbers (hr.mono (by decide)) pass0) pa_nil)))
      (pss_one (ps_expr (pe_bm PySem.F.plainAttrs_list PySem.F.slot_list_append PySem.F.type_list_append mt_append (pv 7) (pa_cons (pe_callTy call_list_of rfl T.list b_list (pa_cons (pv 2) pa_nil)) pa_nil)))))), fun H0 D H1 L zs B M σ hs hB hM qD => ?_⟩
  obtain ⟨nums, n, cs, ta, ka, dd, y8, y9, y10, y11, y12, rfl, N, hnB, hdM⟩ := hs
  refine ⟨_, rfl, _, rfl, _, rfl, L.p, L.r, L.e, L.h, L.rl, nums, n, cs, rfl, N.W, N.hh, by omega, fun H2 s2 => ⟨_, rfl, iteF ?_⟩⟩
  have N2 := N.same s2
  obtain ⟨⟨dx, g1⟩, g2, g3⟩ := N2.W.tab
  have lta := N2.T.pt.len
  have lka := N2.T.pk.len
  refine ⟨_, rfl, .inl ⟨rfl, _, SqL.of N2.T.htd⟩, _, rfl, L.p, dx, _, rfl, g1, flds_no, L.p, L.r, L.e, _, _, _, rfl, N2.W.tab, fun l1 hl1 => ?_⟩
  have c3 : Same H2 (upd H2 l1 (.lst (nums.map V.int))) := Same.new hl1
  have hl3 : upd H2 l1 (.lst (nums.map V.int)) l1 = some (.lst (nums.map V.int)) := upd_same
  have n1 : ∀ b o, H2 b = some o → b ≠ l1 := fun b o q => ne_of_none q hl1
  generalize upd H2 l1 (.lst (nums.map V.int)) = H3 at c3 hl3 ⊢
  have N3 := N2.same c3
  refine ⟨L.td, _, .ref l1, rfl, rfl, N3.T.htd, by rw [List.length_map]; exact small1000 (by omega), ?_⟩
  have k4 : ∀ b o, H3 b = some o → b ≠ L.td → upd H3 L.td (.lst (ta.map V.ref ++ [V.ref l1])) b = some o := fun b o q nb => by rw [upd_ne nb]; exact q
  have td4 : upd H3 L.td (.lst (ta.map V.ref ++ [V.ref l1])) L.td = some (.lst (ta.map V.ref ++ [V.ref l1])) := upd_same
  generalize upd H3 L.td (.lst (ta.map V.ref ++ [V.ref l1])) = H4 at k4 td4 ⊢
  have kp4 := k4 _ _ N3.T.hkp N.T.ne.symm
  have otd := N.T.out L.td (by simp)
  have okp := N.T.out L.kp (by simp)
  have hrl4 := k4 _ _ N3.W.hrl otd.2.1.symm
  refine ⟨_, rfl, .inl ⟨rfl, _, SqL.of kp4⟩, _, rfl, L.rl, _, rfl, .inl (SqL.of hrl4), fun l2 hl2 => ?_⟩
  have c5 : Same H4 (upd H4 l2 (.lst (nums.map V.int))) := Same.new hl2
  have hl5 : upd H4 l2 (.lst (nums.map V.int)) l2 = some (.lst (nums.map V.int)) := upd_same
  have n2 : ∀ b o, H4 b = some o → b ≠ l2 := fun b o q => ne_of_none q hl2
  generalize upd H4 l2 (.lst (nums.map V.int)) = H5 at c5 hl5 ⊢
  refine ⟨L.kp, _, .ref l2, rfl, rfl, c5 _ _ kp4, by rw [List.length_map]; exact small1000 (by omega), ?_⟩
  have k6 : ∀ b o, H5 b = some o → b ≠ L.kp → upd H5 L.kp (.lst (ka.map V.ref ++ [V.ref l2])) b = some o := fun b o q nb => by rw [upd_ne nb]; exact q
  have kp6 : upd H5 L.kp (.lst (ka.map V.ref ++ [V.ref l2])) L.kp = some (.lst (ka.map V.ref ++ [V.ref l2])) := upd_same
  generalize upd H5 L.kp (.lst (ka.map V.ref ++ [V.ref l2])) = H6 at k6 kp6 ⊢
  have keep : ∀ b o, H3 b = some o → b ≠ L.td → b ≠ L.kp → H6 b = some o := fun b o q h1 h2 => k6 _ _ (c5 _ _ (k4 _ _ q h1)) h2
  have W6 := N3.W.side N3.T.htd N3.T.hkp otd okp keep
  have l1td : l1 ≠ L.td := (n1 _ _ N2.T.htd).symm
  have l1kp : l1 ≠ L.kp := (n1 _ _ N2.T.hkp).symm
  have kp4' : H4 L.kp = some (.lst (ka.map V.ref)) := kp4
  have l2td : l2 ≠ L.td := (n2 _ _ td4).symm
  have l2kp : l2 ≠ L.kp := (n2 _ _ kp4').symm
  have o1 : Out L.r L.rl cs l1 := ⟨(n1 _ _ g2).symm, (n1 _ _ N2.W.hrl).symm, fun c hc => ⟨(n1 _ _ (N2.W.col c hc).l).symm, (n1 _ _ (N2.W.col c hc).m).symm⟩⟩
  have o2 : Out L.r L.rl cs l2 := by
    refine ⟨(n2 _ _ (k4 _ _ N3.W.tab.rows otd.1.symm)).symm, (n2 _ _ hrl4).symm, fun c hc => ⟨(n2 _ _ (k4 _ _ (N3.W.col c hc).l (otd.2.2 c hc).1.symm)).symm, (n2 _ _ (k4 _ _ (N3.W.col c hc).m (otd.2.2 c hc).2.symm)).symm⟩⟩
  refine qD _ _ ⟨nums, n, cs, ta ++ [l1], ka ++ [l2], dd ++ [nums], _, _, _, _, _, rfl, ⟨fun b o q => keep b o (c3 _ _ (N2.s _ _ q)) (ne_of_none q (N.f _ (by simp))) (ne_of_none q (N.f _ (by simp))), W6, keep _ _ N3.hh (ne_of N3.hh N3.T.htd (by intro z; cases z)) (ne_of N3.hh N3.T.hkp (by intro z; cases z)), ⟨?_, ?_, ?_, ?_, fun x hx => ?_, N.T.ne, fun x hx => ?_⟩, N.f, N.fc, N.nl, N.zs5, N.zsn, N.sub⟩, by omega, by rw [List.length_append]; simp; omega⟩
  · rw [List.map_append]
    exact k6 _ _ (c5 _ _ td4) N.T.ne
  · rw [List.map_append]
    exact kp6
  · exact (N3.T.pt.keep fun x hx xs q => keep _ _ q (N.T.nt x (by simp [hx])).1 (N.T.nt x (by simp [hx])).2).snoc (keep _ _ hl3 l1td l1kp)
  · exact (N3.T.pk.keep fun x hx xs q => keep _ _ q (N.T.nt x (by simp [hx])).1 (N.T.nt x (by simp [hx])).2).snoc (k6 _ _ hl5 l2kp)
  · simp only [List.mem_cons, List.mem_append, List.mem_singleton, List.not_mem_nil, or_false] at hx
    rcases hx with rfl | rfl | (h | rfl) | (h | rfl)
    · exact otd
    · exact okp
    · exact N.T.out x (by simp [h])
    · exact o1
    · exact N.T.out x (by simp [h])
    · exact o2
  · simp only [List.mem_append, List.mem_singleton] at hx
    rcases hx with (h | rfl) | (h | rfl)
    · exact N.T.nt x (by simp [h])
    · exact ⟨l1td, l1kp⟩
    · exact N.T.nt x (by simp [h])
    · exact ⟨l2td, l2kp⟩
theorem law_loop (T : Tops K mg) {ad : Ad} (X : Excs K mg ad) {C : Addr} (Y : TTable K mg C) {Q : VK} (hr : Room 9 (A.deeper (PyProof.Rows.envOfC "law" (defScope s_law) s.heap.objs.size f cdv))) (hS : SqL K H a (ns.map V.int)) (hl : ns.length ≤ 63) (q : ∀ H', Q (.bl true) H') :
    ∃ t, PSs (cxOf CX0 P w K mg base Nlaw "law" (defScope s_law) f cdv A outer s H E).nox ((defBody s_law).drop 7) t ∧ ∀ (H0 H1 : Hp) (L : Pl) (zs : List Str) (σ : L2.St), Same H H0 → St C H0 a L zs 5 2 σ H1 → t { nx := fun _ H' => Q .non H', rt := Q } σ H1 := by
  have G_law_cell : Known P w K mg base CX0 1 "_law_cell" ["_law_script", "_law_k"] (spCell K) := k_law_cell T
  have G_law_given : Known P w K mg base CX0 6 "_law_given" ["_law_table", "_law_held", "_law_rows", "_law_column", "_law_script", "_law_k"] (spGiven K C) := k_law_given T X Y
  obtain ⟨t1, ht1, q1⟩ := tail1 (P := P) (w := w) (base := base) (outer := outer) (H := H) (E := E) (a := a) T X Y hr hS hl
  obtain ⟨tz, htz, qz⟩ := tailZ (P := P) (w := w) (base := base) (outer := outer) (H := H) (E := E) (a := a) T X Y hr
  refine ⟨_, (pss_cons (ps_for PassesOwn.never rfl (pi_range1 rfl T.range (pa_cons (pe_op op_mod (pe_callN G_law_cell (hr.mono (by decide)) pass0 (pa_cons (pv 0) (pa_cons pe_int pa_nil))) pe_int) pa_nil)) (pg_name (i := 8) sc_law.nd rfl (by first | exact Or.inl rfl | exact Or.inr rfl)) (pss_cons (ps_set (i := 9) sc_law.nd rfl (by first | exact Or.inl rfl | exact Or.inr rfl) (pe_op op_mod (pe_callN G_law_cell (hr.mono (by decide)) pass0 (pa_cons (pv 0) (pa_cons (pe_op op_add pe_int (pv 8)) pa_nil))) pe_int))
      (pss_cons (ps_set (i := 10) sc_law.nd rfl (by first | exact Or.inl rfl | exact Or.inr rfl) (pe_op op_mod (pv 9) pe_int))
      (pss_cons (ps_set (i := 11) sc_law.nd rfl (by first | exact Or.inl rfl | exact Or.inr rfl) (pe_ix ix_list (pv 1) (pe_op op_mod (pe_op op_fdiv (pv 9) pe_int) pe_int) (fun _ _ => rfl)))
      (pss_cons (ps_set (i := 12) sc_law.nd rfl (by first | exact Or.inl rfl | exact Or.inr rfl) (pe_op op_mod (pe_op op_fdiv (pv 9) pe_int) (pe_op op_add (pe_callB call_len rfl T.len b_len (pa_cons (pv 2) pa_nil)) pe_int)))
      (pss_cons (ps_if (pt_cmpR op_lt (pv 10) pe_int (nomark _)) (pss_one (ps_expr (pe_callN G_law_given (hr.mono (by decide)) pass0 (pa_cons (pv 3) (pa_cons (pv 4) (pa_cons (pv 2) (pa_cons (pv 11) (pa_cons (pv 0) (pa_cons (pv 8) pa_nil))))))))) ht1)
      htz))))))
      (pss_one (ps_ret (pe_cmpR (op_eqD hr.units) (pv 6) (pv 7) (nomark _))))), fun H0 H1 L zs σ s0 hs => ?_⟩
  obtain ⟨nums, n, cs, ta, ka, dd, y8, y9, y10, y11, y12, rfl, N, hnB, hdM⟩ := hs
  have hm0 := Int.emod_nonneg (cellZ ns 2) (show (17 : Int) ≠ 0 by decide)
  have hm1 := Int.emod_lt_of_pos (cellZ ns 2) (show (0 : Int) < 17 by decide)
  refine ⟨_, rfl, a, ns, 2, rfl, (s0.trans N.s).seq hS, hl, by decide, by decide, _, _, rfl, rfl, (show (0 : Int) < 17 by decide), _, rfl, by omega, by omega, ?_⟩
  refine for_range (lo := 0) (n := (cellZ ns 2 % 17).toNat) (fun i σ H2 => St C H0 a L zs (5 + i) (2 + i) σ H2) ⟨_, _, _, _, _, _, _, _, _, _, _, rfl, N, hnB, hdM⟩ ?_ ?_
  · rintro i σ H2 hi ⟨nums, n, cs, ta, ka, dd, y8, y9, y10, y11, y12, rfl, N2, hnB, hdM⟩
    have exs : ((nums.map V.int).length : Int) = (nums.length : Int) := by rw [List.length_map]
    refine ⟨_, rfl, _, rfl, _, _, rfl, rfl, a, ns, _, rfl, (s0.trans N2.s).seq hS, hl, by omega, by omega, _, _, rfl, rfl, (show (0 : Int) < 1000000007 by decide), ?_⟩
    obtain ⟨x, hx⟩ : ∃ x : Int, cellZ ns (3 + (0 + (i : Int))) % 1000000007 = x := ⟨_, rfl⟩
    have w0 := Int.emod_nonneg (x / 7) (show (5 : Int) ≠ 0 by decide)
    have w1 := Int.emod_lt_of_pos (x / 7) (show (0 : Int) < 5 by decide)
    obtain ⟨zv, hat, hget⟩ := at_some (zs.map V.str) (x / 7 % 5) w0 (by rw [List.length_map, N2.zs5]; exact w1)
    obtain ⟨z, hz, rfl⟩ : ∃ z, z ∈ zs ∧ zv = V.str z := by
      obtain ⟨z, hz, e⟩ := List.mem_map.mp (List.mem_of_getElem? hget)
      exact ⟨z, hz, e.symm⟩
    refine ⟨_, rfl, _, _, rfl, rfl, (show (0 : Int) < 7 by decide), ?_⟩
    refine ⟨_, rfl, _, rfl, _, _, rfl, rfl, ⟨by decide, by decide⟩, _, _, rfl, rfl, (show (0 : Int) < 5 by decide), L.nl, _, _, V.str z, rfl, rfl, SqL.of (N2.s _ _ N2.nl), (by show atI _ (cellZ ns (3 + (0 + (i : Int))) % 1000000007 / 7 % 5) = _; rw [hx]; exact hat), ?_⟩
    refine ⟨_, rfl, _, _, rfl, rfl, ⟨by decide, by decide⟩, _, rfl, _, _, rfl, .inl ⟨_, SqL.of N2.W.hrl, rfl⟩, ?_⟩
    rw [exs]
    refine ⟨_, _, rfl, rfl, _, _, rfl, rfl, (show (0 : Int) < (nums.length : Int) + 1 by omega), ?_⟩
    have p0 := Int.emod_nonneg (x / 35) (show (nums.length : Int) + 1 ≠ 0 by omega)
    have p1 := Int.emod_lt_of_pos (x / 35) (show (0 : Int) < (nums.length : Int) + 1 by omega)
    have fin : ∀ σ' H', St C H0 a L zs (5 + i + 1) (2 + i) σ' H' → tz { nx := (fun i σ H2 => St C H0 a L zs (5 + i) (2 + i) σ H2) (i + 1), ct := (fun i σ H2 => St C H0 a L zs (5 + i) (2 + i) σ H2) (i + 1), bk := fun σ H' => tRet (tOp (fun x y H Q => ∃ dx dy, Dt K H x dx ∧ Dt K H y dy ∧ dx.canLay0 = true ∧ dy.canLay0 = true ∧ dx.depth ≤ 64 ∧ Q (.bl (PyData.eqv dx dy)) H) (tVar 6) (tVar 7)) { nx := fun _ H' => Q .non H', rt := Q } σ H', rt := Q } σ' H' := fun σ' H' h' => qz H0 _ H' L zs (5 + i + 1) (2 + i) σ' h' (by omega) (by omega) fun σ'' H'' h'' => h''
    refine ⟨_, rfl, _, _, rfl, rfl, _, rfl, ?_⟩
    refine ite2 (fun _ => ?_) (fun _ => ?_)
    · refine ⟨_, rfl, _, rfl, _, rfl, _, rfl, _, rfl, _, rfl, L.p, L.r, L.e, L.h, L.rl, nums, n, cs, z, a, ns, 0 + (i : Int), rfl, N2.W, N2.hh, by omega, N2.zsn z hz, N2.few, (s0.trans N2.s).seq hS, hl, by omega, by omega, fun H3 c e1 f1 f2 W3 hh3 keep => ?_⟩
      refine fin _ _ ⟨_, _, _, _, _, _, _, _, _, _, _, rfl, N2.cols W3 hh3 keep fun d hd => ?_, by omega, hdM⟩
      rcases putC_mem hd with rfl | ⟨hd, _⟩
      · exact .inr ⟨f1, f2, by rw [e1]; exact hz⟩
      · exact .inl hd
    · exact q1 H0 s0 _ H2 L zs nums n cs ta ka dd (5 + i) (2 + i) (0 + (i : Int)) _ _ z N2 hnB hdM (by omega) (by omega) (by omega) hz (by rw [hx]; exact p0) (by rw [hx]; omega) fin
  · rintro σ H2 ⟨nums, n, cs, ta, ka, dd, y8, y9, y10, y11, y12, rfl, N2, hnB, hdM⟩
    obtain ⟨h1, h2⟩ := lay_dd dd
    have lay : (PyData.list (dd.map fun d => PyData.list (d.map PyData.int))).canLay0 = true := by rw [PyData.canLay0, h1]
    have dep : (PyData.list (dd.map fun d => PyData.list (d.map PyData.int))).depth ≤ 64 := by rw [PyData.depth]; omega
    refine ⟨_, rfl, _, rfl, _, _, .lst (SqL.of N2.T.htd) N2.T.pt.dt, .lst (SqL.of N2.T.hkp) N2.T.pk.dt, lay, lay, dep, ?_⟩
    rw [SeqAt.eqv_refl _ lay]
    exact q _
end
theorem ok_law (T : Tops K mg) {f : Addr} {fd : FuncData} (F : Fun K "law" "law" s_law f fd) : FnOk P w K mg base CX0 10 f fd ["_law_script"] (spLaw K) := by
  obtain ⟨ad, X⟩ := T.exc
  obtain ⟨C, Y⟩ := T.t_Table
  have G_law_cell : Known P w K mg base CX0 1 "_law_cell" ["_law_script", "_law_k"] (spCell K) := k_law_cell T
  have G_law_names : Known P w K mg base CX0 2 "_law_names" ["_law_script"] (spNames K) := k_law_names T
  have G_Table : KnownI P w K mg base (CXE P w) 3 C ["self", "many"] (spInit K C ad) := k_Table_init T X Y
  have G_numbers : KnownM P w K mg base CX0 1 C "numbers" ["self"] (spNumbers C) := k_Table_numbers T Y
  have G_columns : KnownM P w K mg base CX0 1 C "columns" ["self"] (spColumns C) := k_Table_columns T Y
  refine F.ok sc_law (fun vs H Q E h => ?_) (fun cdv A outer s H vs Q E hr h => ?_)
  · obtain ⟨a, ns, rfl, _⟩ := h
    rfl
  · obtain ⟨a, ns, rfl, hS, hl, q⟩ := h
    obtain ⟨t3, ht3, q3⟩ := law_loop (P := P) (w := w) (base := base) (outer := outer) (E := E) T X Y hr hS hl q
    refine ⟨_, (pss_cons (ps_set (i := 1) sc_law.nd rfl (by first | exact Or.inl rfl | exact Or.inr rfl) (pe_callN G_law_names (hr.mono (by decide)) pass0 (pa_cons (pv 0) pa_nil)))
      (pss_cons (ps_setComp (i := 2) sc_law.nd rfl rfl caps0 rfl rfl (by decide) (pi_range1 rfl T.range (pa_cons (pe_op op_mod (pe_callN G_law_cell (hr.mono (by decide)) pass0 (pa_cons (pv 0) (pa_cons pe_int pa_nil))) pe_int) pa_nil)) (fun _ _ _ _ _ => pts_nil) (fun _ _ _ _ _ => (pv 0)) rfl)
      (pss_cons (ps_set (i := 3) sc_law.nd rfl (by first | exact Or.inl rfl | exact Or.inr rfl) (pe_makeN G_Table (hr.mono (by decide)) Y.c passN (pa_cons (pe_callB call_len rfl T.len b_len (pa_cons (pv 2) pa_nil)) pa_nil)))
      (pss_cons (ps_set (i := 4) sc_law.nd rfl (by first | exact Or.inl rfl | exact Or.inr rfl) pe_dnewK)
      (pss_cons (ps_set (i := 5) sc_law.nd rfl (by first | exact Or.inl rfl | exact Or.inr rfl) (pe_callB call_len rfl T.len b_len (pa_cons (pv 2) pa_nil)))
      (pss_cons (ps_set (i := 6) sc_law.nd rfl (by first | exact Or.inl rfl | exact Or.inr rfl) (pe_lst (pa_cons (pe_methN0 (pv 3) Y.cl G_numbers (hr.mono (by decide)) pass0) (pa_cons (pe_methN0 (pv 3) Y.cl G_columns (hr.mono (by decide)) pass0) pa_nil))))
      (pss_cons (ps_set (i := 7) sc_law.nd rfl (by first | exact Or.inl rfl | exact Or.inr rfl) (pe_lst (pa_cons (pe_callTy call_list_of rfl T.list b_list (pa_cons (pv 2) pa_nil)) (pa_cons (pe_lst pa_nil) pa_nil))))
      ht3))))))), ?_⟩
    refine ⟨_, rfl, a, ns, rfl, hS, hl, fun H0 nl zs s0 hnl h5 hall => ?_⟩
    have a0 := Int.emod_nonneg (cellZ ns 0) (show (6 : Int) ≠ 0 by decide)
    have a1 := Int.emod_lt_of_pos (cellZ ns 0) (show (0 : Int) < 6 by decide)
    obtain ⟨m, hm, em⟩ : ∃ m : Nat, m ≤ 5 ∧ cellZ ns 0 % 6 = (m : Int) := ⟨(cellZ ns 0 % 6).toNat, by omega, by omega⟩
    have emt : (cellZ ns 0 % 6).toNat = m := by omega
    refine ⟨_, rfl, a, ns, 0, rfl, s0.seq hS, hl, by decide, by decide, _, _, rfl, rfl, (show (0 : Int) < 6 by decide), _, rfl, by omega, by omega, fun rl hrl => comp_ids (n := (cellZ ns 0 % 6).toNat) (by omega) ?_⟩
    rw [emt, rangeV_idn]
    have c1 : Same H0 (upd H0 rl (.lst ((idn m).map V.int))) := Same.new hrl
    have hrl1 : upd H0 rl (.lst ((idn m).map V.int)) rl = some (.lst ((idn m).map V.int)) := upd_same
    generalize upd H0 rl (.lst ((idn m).map V.int)) = H1 at c1 hrl1 ⊢
    have exs : (((idn m).map V.int).length : Int) = (m : Int) := by rw [List.length_map, idn_len]
    refine ⟨_, rfl, _, _, rfl, .inl ⟨_, SqL.of hrl1, rfl⟩, ?_⟩
    rw [exs]
    refine fun t1 dt1 ht1 hdt1 hne1 => ⟨t1, dt1, .int (m : Int), .int (m : Int), rfl, upd_same, .int _, (fun i z h0 h30 H2 r1 e1 A1 hr1 he1 hre1 keep1 => ?_), fun z => absurd z (by simp [sizeD]; omega)⟩
    cases z
    have s2 : Same H1 H2 := fun b o e => keep1 b o (made_same ht1 hdt1 b o e) (ne_of_none e ht1)
    have fe : H0 e1 = none := (c1.trans (made_same ht1 hdt1)).free he1
    have fr : H0 r1 = none := (c1.trans (made_same ht1 hdt1)).free hr1
    have ft : H0 t1 = none := c1.free ht1
    have nrr : r1 ≠ rl := (ne_of_none (made_same ht1 hdt1 _ _ hrl1) hr1).symm
    clear keep1
    rw [show ((m : Int)).toNat = m from rfl, rangeV_idn] at A1
    have hrl2 := s2 _ _ hrl1
    refine ⟨rfl, ?_⟩
    intro h hh
    have c3 : Same H2 (upd H2 h (.dK [])) := Same.new hh
    have hh3 : upd H2 h (.dK []) h = some (.dK []) := upd_same
    have fh : H0 h = none := (c1.trans s2).free hh
    have neD : e1 ≠ h := ne_of_none A1.kept hh
    generalize upd H2 h (.dK []) = H3 at c3 hh3 ⊢
    have A3 := A1.same c3
    have hrl3 := c3 _ _ hrl2
    have s03 := c1.trans (s2.trans c3)
    refine ⟨_, rfl, _, _, rfl, .inl ⟨_, SqL.of hrl3, rfl⟩, ?_⟩
    rw [exs]
    obtain ⟨⟨dx, g1⟩, g2, g3⟩ := A3
    refine ⟨_, rfl, t1, dx, _, rfl, g1, flds_no, t1, r1, e1, _, _, _, rfl, A1.same c3, fun l1 hl1 => ?_⟩
    have d1 : Same H3 (upd H3 l1 (.lst ((idn m).map V.int))) := Same.new hl1
    have e1' : upd H3 l1 (.lst ((idn m).map V.int)) l1 = some (.lst ((idn m).map V.int)) := upd_same
    generalize upd H3 l1 (.lst ((idn m).map V.int)) = H4 at d1 e1' ⊢
    refine ⟨_, rfl, t1, dx, _, rfl, d1 _ _ g1, flds_no, t1, r1, e1, _, _, _, rfl, (A1.same c3).same d1, fun l2 hl2 => ⟨sl, fun td htd => ?_⟩⟩
    have d2 : Same H4 (upd H4 l2 (.lst (List.map (fun (p : Key × V) => kV p.1) []))) := Same.new hl2
    have e2' : upd H4 l2 (.lst (List.map (fun (p : Key × V) => kV p.1) [])) l2 = some (.lst (([] : List Int).map V.int)) := upd_same
    generalize upd H4 l2 (.lst (List.map (fun (p : Key × V) => kV p.1) [])) = H5 at d2 e2' htd ⊢
    have d3 : Same H5 (upd H5 td (.lst [V.ref l1, V.ref l2])) := Same.new htd
    have e3' : upd H5 td (.lst [V.ref l1, V.ref l2]) td = some (.lst [V.ref l1, V.ref l2]) := upd_same
    generalize upd H5 td (.lst [V.ref l1, V.ref l2]) = H6 at d3 e3' ⊢
    have s36 := d1.trans (d2.trans d3)
    refine ⟨_, rfl, rl, _, rfl, .inl (SqL.of (s36 _ _ hrl3)), fun l3 hl3 => ⟨sl, fun l4 hl4 => ⟨sl, fun kp hkp => ?_⟩⟩⟩
    have d4 : Same H6 (upd H6 l3 (.lst ((idn m).map V.int))) := Same.new hl3
    have e4' : upd H6 l3 (.lst ((idn m).map V.int)) l3 = some (.lst ((idn m).map V.int)) := upd_same
    generalize upd H6 l3 (.lst ((idn m).map V.int)) = H7 at d4 e4' hl4 hkp ⊢
    have d5 : Same H7 (upd H7 l4 (.lst [])) := Same.new hl4
    have e5' : upd H7 l4 (.lst []) l4 = some (.lst (([] : List Int).map V.int)) := upd_same
    generalize upd H7 l4 (.lst []) = H8 at d5 e5' hkp ⊢
    have d6 : Same H8 (upd H8 kp (.lst [V.ref l3, V.ref l4])) := Same.new hkp
    have e6' : upd H8 kp (.lst [V.ref l3, V.ref l4]) kp = some (.lst [V.ref l3, V.ref l4]) := upd_same
    generalize upd H8 kp (.lst [V.ref l3, V.ref l4]) = H9 at d6 e6' ⊢
    have s69 := d4.trans (d5.trans d6)
    have s39 := s36.trans s69
    have s09 := s03.trans s39
    refine q3 H0 H9 ⟨t1, r1, e1, h, rl, nl, td, kp⟩ zs _ s0 ⟨idn m, (m : Int), [], [l1, l2], [l3, l4], [idn m, []], _, _, _, _, _, rfl, ⟨s09, ⟨(A1.same c3).same s39, .inl (s39 _ _ hh3), s39 _ _ hrl3, (fun c hc => by cases hc), List.nodup_nil, (fun c hc => by cases hc), (fun c hc => by cases hc), (fun c hc => by cases hc), nrr, neD, Nat.zero_le _⟩, s39 _ _ hh3, ⟨s69 _ _ e3', e6', .cons ((d2.trans (d3.trans s69)) _ _ e1') (.cons ((d3.trans s69) _ _ e2') .nil), .cons ((d5.trans d6) _ _ e4') (.cons (d6 _ _ e5') .nil), fun x hx => ?_, ?_, fun x hx => ?_⟩, fun x hx => ?_, (fun c hc => by cases hc), hnl, h5, hall, fun c hc => by cases hc⟩, by rw [idn_len]; omega, by show 2 ≤ 2; omega⟩
    · have g2' := c3 _ _ A1.rows
      have out : ∀ y, (∃ Hy, Same H3 Hy ∧ Hy y = none) → Out r1 rl [] y := fun y ⟨Hy, sy, hy⟩ => ⟨(ne_of_none (sy _ _ g2') hy).symm, (ne_of_none (sy _ _ hrl3) hy).symm, fun c hc => by cases hc⟩
      simp only [List.mem_cons, List.mem_append, List.not_mem_nil, or_false] at hx
      rcases hx with rfl | rfl | (rfl | rfl) | (rfl | rfl)
      · exact out _ ⟨H5, d1.trans d2, htd⟩
      · exact out _ ⟨H8, s36.trans (d4.trans d5), hkp⟩
      · exact out _ ⟨H3, Same.refl _, hl1⟩
      · exact out _ ⟨H4, d1, hl2⟩
      · exact out _ ⟨H6, s36, hl3⟩
      · exact out _ ⟨H7, s36.trans d4, hl4⟩
    · exact ne_of_none ((d4.trans d5) _ _ e3') hkp
    · simp only [List.mem_cons, List.mem_append, List.not_mem_nil, or_false] at hx
      rcases hx with (rfl | rfl) | (rfl | rfl)
      · exact ⟨ne_of_none (d2 _ _ e1') htd, ne_of_none ((d2.trans (d3.trans (d4.trans d5))) _ _ e1') hkp⟩
      · exact ⟨ne_of_none e2' htd, ne_of_none ((d3.trans (d4.trans d5)) _ _ e2') hkp⟩
      · exact ⟨(ne_of_none e3' hl3).symm, ne_of_none (d5 _ _ e4') hkp⟩
      · exact ⟨(ne_of_none (d4 _ _ e3') hl4).symm, ne_of_none e5' hkp⟩
    · simp only [List.mem_cons, List.not_mem_nil, or_false] at hx
      rcases hx with rfl | rfl | rfl | rfl | rfl | rfl | rfl
      · exact ft
      · exact fr
      · exact fe
      · exact fh
      · exact hrl
      · exact (s03.trans (d1.trans d2)).free htd
      · exact (s03.trans (s36.trans (d4.trans d5))).free hkp
end
end My

namespace My
open PySem L2
theorem tops_mk {K : PySem.W.Frag} {h : Heap} {mg : Str → Option Value} (X : K.In h) (G : h.Ns mainGlobals mg)
    (n_len : PySem.W.nsIn K mainGlobals "len" = some none)
    (n_isinstance : PySem.W.nsIn K mainGlobals "isinstance" = some none)
    (n_int : PySem.W.nsIn K mainGlobals "int" = some none)
    (n_bool : PySem.W.nsIn K mainGlobals "bool" = some none)
    (n_str : PySem.W.nsIn K mainGlobals "str" = some none)
    (n_all : PySem.W.nsIn K mainGlobals "all" = some none)
    (n_range : PySem.W.nsIn K mainGlobals "range" = some none)
    (n_abs : PySem.W.nsIn K mainGlobals "abs" = some none)
    (n_list : PySem.W.nsIn K mainGlobals "list" = some none)
    (n_tuple : PySem.W.nsIn K mainGlobals "tuple" = some none)
    (n_dict : PySem.W.nsIn K mainGlobals "dict" = some none)
    (n_ValueError : PySem.W.nsIn K mainGlobals "ValueError" = some none)
    {t_LETTERS : Tok} (i_LETTERS : PySem.W.nsIn K mainGlobals "LETTERS" = some (some (.str ("abcdefghijklmnopqrstuvwxyz" : Str) t_LETTERS)))
    {t_MOST_LETTERS : Tok} (i_MOST_LETTERS : PySem.W.nsIn K mainGlobals "MOST_LETTERS" = some (some (.int 8 t_MOST_LETTERS)))
    {t_MOST_ROWS : Tok} (i_MOST_ROWS : PySem.W.nsIn K mainGlobals "MOST_ROWS" = some (some (.int 30 t_MOST_ROWS)))
    {t_MOST_COLUMNS : Tok} (i_MOST_COLUMNS : PySem.W.nsIn K mainGlobals "MOST_COLUMNS" = some (some (.int 8 t_MOST_COLUMNS)))
    {f_is_whole : Addr} {oc_is_whole kV_is_whole doc_is_whole pm_is_whole cd_is_whole ct_is_whole : Value} {od_is_whole an_is_whole : Option Addr} {sl_is_whole : Array (Option Value)} (a_is_whole : PySem.W.nsIn K mainGlobals "is_whole" = some (some (.ref f_is_whole)))
    (l_is_whole : K.lookup f_is_whole = some ⟨oc_is_whole, od_is_whole, .func (PySem.W.fnOf "is_whole" "is_whole" (defArgs s_is_whole) (defBody s_is_whole) (defScope s_is_whole) .none kV_is_whole doc_is_whole pm_is_whole an_is_whole cd_is_whole ct_is_whole), sl_is_whole⟩)
    (c_is_whole : PySem.W.codeIn K cd_is_whole "is_whole" = true) (k_is_whole : PySem.W.keepIn K (.ref f_is_whole) = true)
    {f_is_number : Addr} {oc_is_number kV_is_number doc_is_number pm_is_number cd_is_number ct_is_number : Value} {od_is_number an_is_number : Option Addr} {sl_is_number : Array (Option Value)} (a_is_number : PySem.W.nsIn K mainGlobals "is_number" = some (some (.ref f_is_number)))
    (l_is_number : K.lookup f_is_number = some ⟨oc_is_number, od_is_number, .func (PySem.W.fnOf "is_number" "is_number" (defArgs s_is_number) (defBody s_is_number) (defScope s_is_number) .none kV_is_number doc_is_number pm_is_number an_is_number cd_is_number ct_is_number), sl_is_number⟩)
    (c_is_number : PySem.W.codeIn K cd_is_number "is_number" = true) (k_is_number : PySem.W.keepIn K (.ref f_is_number) = true)
    {f_is_name : Addr} {oc_is_name kV_is_name doc_is_name pm_is_name cd_is_name ct_is_name : Value} {od_is_name an_is_name : Option Addr} {sl_is_name : Array (Option Value)} (a_is_name : PySem.W.nsIn K mainGlobals "is_name" = some (some (.ref f_is_name)))
    (l_is_name : K.lookup f_is_name = some ⟨oc_is_name, od_is_name, .func (PySem.W.fnOf "is_name" "is_name" (defArgs s_is_name) (defBody s_is_name) (defScope s_is_name) .none kV_is_name doc_is_name pm_is_name an_is_name cd_is_name ct_is_name), sl_is_name⟩)
    (c_is_name : PySem.W.codeIn K cd_is_name "is_name" = true) (k_is_name : PySem.W.keepIn K (.ref f_is_name) = true)
    {f_is_fault : Addr} {oc_is_fault kV_is_fault doc_is_fault pm_is_fault cd_is_fault ct_is_fault : Value} {od_is_fault an_is_fault : Option Addr} {sl_is_fault : Array (Option Value)} (a_is_fault : PySem.W.nsIn K mainGlobals "is_fault" = some (some (.ref f_is_fault)))
    (l_is_fault : K.lookup f_is_fault = some ⟨oc_is_fault, od_is_fault, .func (PySem.W.fnOf "is_fault" "is_fault" (defArgs s_is_fault) (defBody s_is_fault) (defScope s_is_fault) .none kV_is_fault doc_is_fault pm_is_fault an_is_fault cd_is_fault ct_is_fault), sl_is_fault⟩)
    (c_is_fault : PySem.W.codeIn K cd_is_fault "is_fault" = true) (k_is_fault : PySem.W.keepIn K (.ref f_is_fault) = true)
    {f_is_value : Addr} {oc_is_value kV_is_value doc_is_value pm_is_value cd_is_value ct_is_value : Value} {od_is_value an_is_value : Option Addr} {sl_is_value : Array (Option Value)} (a_is_value : PySem.W.nsIn K mainGlobals "is_value" = some (some (.ref f_is_value)))
    (l_is_value : K.lookup f_is_value = some ⟨oc_is_value, od_is_value, .func (PySem.W.fnOf "is_value" "is_value" (defArgs s_is_value) (defBody s_is_value) (defScope s_is_value) .none kV_is_value doc_is_value pm_is_value an_is_value cd_is_value ct_is_value), sl_is_value⟩)
    (c_is_value : PySem.W.codeIn K cd_is_value "is_value" = true) (k_is_value : PySem.W.keepIn K (.ref f_is_value) = true)
    {f_check_size : Addr} {oc_check_size kV_check_size doc_check_size pm_check_size cd_check_size ct_check_size : Value} {od_check_size an_check_size : Option Addr} {sl_check_size : Array (Option Value)} (a_check_size : PySem.W.nsIn K mainGlobals "check_size" = some (some (.ref f_check_size)))
    (l_check_size : K.lookup f_check_size = some ⟨oc_check_size, od_check_size, .func (PySem.W.fnOf "check_size" "check_size" (defArgs s_check_size) (defBody s_check_size) (defScope s_check_size) .none kV_check_size doc_check_size pm_check_size an_check_size cd_check_size ct_check_size), sl_check_size⟩)
    (c_check_size : PySem.W.codeIn K cd_check_size "check_size" = true) (k_check_size : PySem.W.keepIn K (.ref f_check_size) = true)
    {f_check_place : Addr} {oc_check_place kV_check_place doc_check_place pm_check_place cd_check_place ct_check_place : Value} {od_check_place an_check_place : Option Addr} {sl_check_place : Array (Option Value)} (a_check_place : PySem.W.nsIn K mainGlobals "check_place" = some (some (.ref f_check_place)))
    (l_check_place : K.lookup f_check_place = some ⟨oc_check_place, od_check_place, .func (PySem.W.fnOf "check_place" "check_place" (defArgs s_check_place) (defBody s_check_place) (defScope s_check_place) .none kV_check_place doc_check_place pm_check_place an_check_place cd_check_place ct_check_place), sl_check_place⟩)
    (c_check_place : PySem.W.codeIn K cd_check_place "check_place" = true) (k_check_place : PySem.W.keepIn K (.ref f_check_place) = true)
    {f_check_value : Addr} {oc_check_value kV_check_value doc_check_value pm_check_value cd_check_value ct_check_value : Value} {od_check_value an_check_value : Option Addr} {sl_check_value : Array (Option Value)} (a_check_value : PySem.W.nsIn K mainGlobals "check_value" = some (some (.ref f_check_value)))
    (l_check_value : K.lookup f_check_value = some ⟨oc_check_value, od_check_value, .func (PySem.W.fnOf "check_value" "check_value" (defArgs s_check_value) (defBody s_check_value) (defScope s_check_value) .none kV_check_value doc_check_value pm_check_value an_check_value cd_check_value ct_check_value), sl_check_value⟩)
    (c_check_value : PySem.W.codeIn K cd_check_value "check_value" = true) (k_check_value : PySem.W.keepIn K (.ref f_check_value) = true)
    {f_check_values : Addr} {oc_check_values kV_check_values doc_check_values pm_check_values cd_check_values ct_check_values : Value} {od_check_values an_check_values : Option Addr} {sl_check_values : Array (Option Value)} (a_check_values : PySem.W.nsIn K mainGlobals "check_values" = some (some (.ref f_check_values)))
    (l_check_values : K.lookup f_check_values = some ⟨oc_check_values, od_check_values, .func (PySem.W.fnOf "check_values" "check_values" (defArgs s_check_values) (defBody s_check_values) (defScope s_check_values) .none kV_check_values doc_check_values pm_check_values an_check_values cd_check_values ct_check_values), sl_check_values⟩)
    (c_check_values : PySem.W.codeIn K cd_check_values "check_values" = true) (k_check_values : PySem.W.keepIn K (.ref f_check_values) = true)
    {f_check_row : Addr} {oc_check_row kV_check_row doc_check_row pm_check_row cd_check_row ct_check_row : Value} {od_check_row an_check_row : Option Addr} {sl_check_row : Array (Option Value)} (a_check_row : PySem.W.nsIn K mainGlobals "check_row" = some (some (.ref f_check_row)))
    (l_check_row : K.lookup f_check_row = some ⟨oc_check_row, od_check_row, .func (PySem.W.fnOf "check_row" "check_row" (defArgs s_check_row) (defBody s_check_row) (defScope s_check_row) .none kV_check_row doc_check_row pm_check_row an_check_row cd_check_row ct_check_row), sl_check_row⟩)
    (c_check_row : PySem.W.codeIn K cd_check_row "check_row" = true) (k_check_row : PySem.W.keepIn K (.ref f_check_row) = true)
    {f_law_cell : Addr} {oc_law_cell kV_law_cell doc_law_cell pm_law_cell cd_law_cell ct_law_cell : Value} {od_law_cell an_law_cell : Option Addr} {sl_law_cell : Array (Option Value)} (a_law_cell : PySem.W.nsIn K mainGlobals "_law_cell" = some (some (.ref f_law_cell)))
    (l_law_cell : K.lookup f_law_cell = some ⟨oc_law_cell, od_law_cell, .func (PySem.W.fnOf "_law_cell" "_law_cell" (defArgs s_law_cell) (defBody s_law_cell) (defScope s_law_cell) .none kV_law_cell doc_law_cell pm_law_cell an_law_cell cd_law_cell ct_law_cell), sl_law_cell⟩)
    (c_law_cell : PySem.W.codeIn K cd_law_cell "_law_cell" = true) (k_law_cell : PySem.W.keepIn K (.ref f_law_cell) = true)
    {f_law_names : Addr} {oc_law_names kV_law_names doc_law_names pm_law_names cd_law_names ct_law_names : Value} {od_law_names an_law_names : Option Addr} {sl_law_names : Array (Option Value)} (a_law_names : PySem.W.nsIn K mainGlobals "_law_names" = some (some (.ref f_law_names)))
    (l_law_names : K.lookup f_law_names = some ⟨oc_law_names, od_law_names, .func (PySem.W.fnOf "_law_names" "_law_names" (defArgs s_law_names) (defBody s_law_names) (defScope s_law_names) .none kV_law_names doc_law_names pm_law_names an_law_names cd_law_names ct_law_names), sl_law_names⟩)
    (c_law_names : PySem.W.codeIn K cd_law_names "_law_names" = true) (k_law_names : PySem.W.keepIn K (.ref f_law_names) = true)
    {f_law_value : Addr} {oc_law_value kV_law_value doc_law_value pm_law_value cd_law_value ct_law_value : Value} {od_law_value an_law_value : Option Addr} {sl_law_value : Array (Option Value)} (a_law_value : PySem.W.nsIn K mainGlobals "_law_value" = some (some (.ref f_law_value)))
    (l_law_value : K.lookup f_law_value = some ⟨oc_law_value, od_law_value, .func (PySem.W.fnOf "_law_value" "_law_value" (defArgs s_law_value) (defBody s_law_value) (defScope s_law_value) .none kV_law_value doc_law_value pm_law_value an_law_value cd_law_value ct_law_value), sl_law_value⟩)
    (c_law_value : PySem.W.codeIn K cd_law_value "_law_value" = true) (k_law_value : PySem.W.keepIn K (.ref f_law_value) = true)
    {f_law_refused : Addr} {oc_law_refused kV_law_refused doc_law_refused pm_law_refused cd_law_refused ct_law_refused : Value} {od_law_refused an_law_refused : Option Addr} {sl_law_refused : Array (Option Value)} (a_law_refused : PySem.W.nsIn K mainGlobals "_law_refused" = some (some (.ref f_law_refused)))
    (l_law_refused : K.lookup f_law_refused = some ⟨oc_law_refused, od_law_refused, .func (PySem.W.fnOf "_law_refused" "_law_refused" (defArgs s_law_refused) (defBody s_law_refused) (defScope s_law_refused) .none kV_law_refused doc_law_refused pm_law_refused an_law_refused cd_law_refused ct_law_refused), sl_law_refused⟩)
    (c_law_refused : PySem.W.codeIn K cd_law_refused "_law_refused" = true) (k_law_refused : PySem.W.keepIn K (.ref f_law_refused) = true)
    {f_law_stands : Addr} {oc_law_stands kV_law_stands doc_law_stands pm_law_stands cd_law_stands ct_law_stands : Value} {od_law_stands an_law_stands : Option Addr} {sl_law_stands : Array (Option Value)} (a_law_stands : PySem.W.nsIn K mainGlobals "_law_stands" = some (some (.ref f_law_stands)))
    (l_law_stands : K.lookup f_law_stands = some ⟨oc_law_stands, od_law_stands, .func (PySem.W.fnOf "_law_stands" "_law_stands" (defArgs s_law_stands) (defBody s_law_stands) (defScope s_law_stands) .none kV_law_stands doc_law_stands pm_law_stands an_law_stands cd_law_stands ct_law_stands), sl_law_stands⟩)
    (c_law_stands : PySem.W.codeIn K cd_law_stands "_law_stands" = true) (k_law_stands : PySem.W.keepIn K (.ref f_law_stands) = true)
    {f_law_given : Addr} {oc_law_given kV_law_given doc_law_given pm_law_given cd_law_given ct_law_given : Value} {od_law_given an_law_given : Option Addr} {sl_law_given : Array (Option Value)} (a_law_given : PySem.W.nsIn K mainGlobals "_law_given" = some (some (.ref f_law_given)))
    (l_law_given : K.lookup f_law_given = some ⟨oc_law_given, od_law_given, .func (PySem.W.fnOf "_law_given" "_law_given" (defArgs s_law_given) (defBody s_law_given) (defScope s_law_given) .none kV_law_given doc_law_given pm_law_given an_law_given cd_law_given ct_law_given), sl_law_given⟩)
    (c_law_given : PySem.W.codeIn K cd_law_given "_law_given" = true) (k_law_given : PySem.W.keepIn K (.ref f_law_given) = true)
    {f_law_entered : Addr} {oc_law_entered kV_law_entered doc_law_entered pm_law_entered cd_law_entered ct_law_entered : Value} {od_law_entered an_law_entered : Option Addr} {sl_law_entered : Array (Option Value)} (a_law_entered : PySem.W.nsIn K mainGlobals "_law_entered" = some (some (.ref f_law_entered)))
    (l_law_entered : K.lookup f_law_entered = some ⟨oc_law_entered, od_law_entered, .func (PySem.W.fnOf "_law_entered" "_law_entered" (defArgs s_law_entered) (defBody s_law_entered) (defScope s_law_entered) .none kV_law_entered doc_law_entered pm_law_entered an_law_entered cd_law_entered ct_law_entered), sl_law_entered⟩)
    (c_law_entered : PySem.W.codeIn K cd_law_entered "_law_entered" = true) (k_law_entered : PySem.W.keepIn K (.ref f_law_entered) = true)
    {f_law_taken : Addr} {oc_law_taken kV_law_taken doc_law_taken pm_law_taken cd_law_taken ct_law_taken : Value} {od_law_taken an_law_taken : Option Addr} {sl_law_taken : Array (Option Value)} (a_law_taken : PySem.W.nsIn K mainGlobals "_law_taken" = some (some (.ref f_law_taken)))
    (l_law_taken : K.lookup f_law_taken = some ⟨oc_law_taken, od_law_taken, .func (PySem.W.fnOf "_law_taken" "_law_taken" (defArgs s_law_taken) (defBody s_law_taken) (defScope s_law_taken) .none kV_law_taken doc_law_taken pm_law_taken an_law_taken cd_law_taken ct_law_taken), sl_law_taken⟩)
    (c_law_taken : PySem.W.codeIn K cd_law_taken "_law_taken" = true) (k_law_taken : PySem.W.keepIn K (.ref f_law_taken) = true)
    {f_law_spoilt : Addr} {oc_law_spoilt kV_law_spoilt doc_law_spoilt pm_law_spoilt cd_law_spoilt ct_law_spoilt : Value} {od_law_spoilt an_law_spoilt : Option Addr} {sl_law_spoilt : Array (Option Value)} (a_law_spoilt : PySem.W.nsIn K mainGlobals "_law_spoilt" = some (some (.ref f_law_spoilt)))
    (l_law_spoilt : K.lookup f_law_spoilt = some ⟨oc_law_spoilt, od_law_spoilt, .func (PySem.W.fnOf "_law_spoilt" "_law_spoilt" (defArgs s_law_spoilt) (defBody s_law_spoilt) (defScope s_law_spoilt) .none kV_law_spoilt doc_law_spoilt pm_law_spoilt an_law_spoilt cd_law_spoilt ct_law_spoilt), sl_law_spoilt⟩)
    (c_law_spoilt : PySem.W.codeIn K cd_law_spoilt "_law_spoilt" = true) (k_law_spoilt : PySem.W.keepIn K (.ref f_law_spoilt) = true)
    {f_law : Addr} {oc_law kV_law doc_law pm_law cd_law ct_law : Value} {od_law an_law : Option Addr} {sl_law : Array (Option Value)} (a_law : PySem.W.nsIn K mainGlobals "law" = some (some (.ref f_law)))
    (l_law : K.lookup f_law = some ⟨oc_law, od_law, .func (PySem.W.fnOf "law" "law" (defArgs s_law) (defBody s_law) (defScope s_law) .none kV_law doc_law pm_law an_law cd_law ct_law), sl_law⟩)
    (c_law : PySem.W.codeIn K cd_law "law" = true) (k_law : PySem.W.keepIn K (.ref f_law) = true)
    {C_ColsError : Addr} (q_ColsError : PySem.W.nsIn K mainGlobals "ColsError" = some (some (.ref C_ColsError)))
    {C_NoName : Addr} (q_NoName : PySem.W.nsIn K mainGlobals "NoName" = some (some (.ref C_NoName)))
    {C_NoValue : Addr} (q_NoValue : PySem.W.nsIn K mainGlobals "NoValue" = some (some (.ref C_NoValue)))
    {C_NoColumn : Addr} (q_NoColumn : PySem.W.nsIn K mainGlobals "NoColumn" = some (some (.ref C_NoColumn)))
    {C_NoPlace : Addr} (q_NoPlace : PySem.W.nsIn K mainGlobals "NoPlace" = some (some (.ref C_NoPlace)))
    {C_NoSize : Addr} (q_NoSize : PySem.W.nsIn K mainGlobals "NoSize" = some (some (.ref C_NoSize)))
    {C_TooMuch : Addr} (q_TooMuch : PySem.W.nsIn K mainGlobals "TooMuch" = some (some (.ref C_TooMuch)))
    (x_NoSize : PySem.W.excIn K C_NoSize mroV "ValueError.__new__" = true)
    (x_NoName : PySem.W.excIn K C_NoName mroV "ValueError.__new__" = true)
    (x_TooMuch : PySem.W.excIn K C_TooMuch mroV "ValueError.__new__" = true)
    (x_NoValue : PySem.W.excIn K C_NoValue mroV "ValueError.__new__" = true)
    (e_NoValue_ColsError : PySem.W.exmOne K (.ref C_NoValue) (.ref C_ColsError) = some true)
    (x_NoColumn : PySem.W.excIn K C_NoColumn mroV "ValueError.__new__" = true)
    (e_NoColumn_ColsError : PySem.W.exmOne K (.ref C_NoColumn) (.ref C_ColsError) = some true)
    (x_NoPlace : PySem.W.excIn K C_NoPlace mroV "ValueError.__new__" = true)
    (e_NoPlace_ColsError : PySem.W.exmOne K (.ref C_NoPlace) (.ref C_ColsError) = some true)
    {C_Table : Addr} (a_Table : PySem.W.nsIn K mainGlobals "Table" = some (some (.ref C_Table)))
    (pg_Table : PySem.W.plainGet K C_Table Str.empty = true) (hd_Table : PySem.W.hasDictIn K C_Table = true) (po_Table : PySem.W.plainOver K C_Table = true) (sa_Table : PySem.W.findIn K (.ref C_Table) "__setattr__" = some (some (.builtin "object.__setattr__"))) (mk_Table : PySem.W.makesIn K C_Table = true) (kc_Table : PySem.W.keepIn K (.ref C_Table) = true) (hc_Table : PySem.W.findIn K (.ref C_Table) "__class__" = some (some (.builtin "object.__class__")))
    (na_Table_row_numbers : PySem.W.findIn K (.ref C_Table) "row_numbers" = some none)
    (na_Table_fresh_number : PySem.W.findIn K (.ref C_Table) "fresh_number" = some none)
    (na_Table_kept : PySem.W.findIn K (.ref C_Table) "kept" = some none)
    {f_Table_init : Addr} {oc_Table_init kV_Table_init doc_Table_init pm_Table_init cd_Table_init ct_Table_init : Value} {od_Table_init an_Table_init : Option Addr} {sl_Table_init : Array (Option Value)} (a_Table_init : PySem.W.findIn K (.ref C_Table) "__init__" = some (some (.ref f_Table_init))) (j_Table_init : PySem.W.isFn K (.ref f_Table_init) = true)
    (l_Table_init : K.lookup f_Table_init = some ⟨oc_Table_init, od_Table_init, .func (PySem.W.fnOf "__init__" "Table.__init__" (defArgs s_Table_init) (defBody s_Table_init) (defScope s_Table_init) .none kV_Table_init doc_Table_init pm_Table_init an_Table_init cd_Table_init ct_Table_init), sl_Table_init⟩)
    (c_Table_init : PySem.W.codeIn K cd_Table_init "Table.__init__" = true) (k_Table_init : PySem.W.keepIn K (.ref f_Table_init) = true)
    {f_Table_many : Addr} {oc_Table_many kV_Table_many doc_Table_many pm_Table_many cd_Table_many ct_Table_many : Value} {od_Table_many an_Table_many : Option Addr} {sl_Table_many : Array (Option Value)} (a_Table_many : PySem.W.findIn K (.ref C_Table) "many" = some (some (.ref f_Table_many))) (j_Table_many : PySem.W.isFn K (.ref f_Table_many) = true)
    (l_Table_many : K.lookup f_Table_many = some ⟨oc_Table_many, od_Table_many, .func (PySem.W.fnOf "many" "Table.many" (defArgs s_Table_many) (defBody s_Table_many) (defScope s_Table_many) .none kV_Table_many doc_Table_many pm_Table_many an_Table_many cd_Table_many ct_Table_many), sl_Table_many⟩)
    (c_Table_many : PySem.W.codeIn K cd_Table_many "Table.many" = true) (k_Table_many : PySem.W.keepIn K (.ref f_Table_many) = true)
    {f_Table_numbers : Addr} {oc_Table_numbers kV_Table_numbers doc_Table_numbers pm_Table_numbers cd_Table_numbers ct_Table_numbers : Value} {od_Table_numbers an_Table_numbers : Option Addr} {sl_Table_numbers : Array (Option Value)} (a_Table_numbers : PySem.W.findIn K (.ref C_Table) "numbers" = some (some (.ref f_Table_numbers))) (j_Table_numbers : PySem.W.isFn K (.ref f_Table_numbers) = true)
    (l_Table_numbers : K.lookup f_Table_numbers = some ⟨oc_Table_numbers, od_Table_numbers, .func (PySem.W.fnOf "numbers" "Table.numbers" (defArgs s_Table_numbers) (defBody s_Table_numbers) (defScope s_Table_numbers) .none kV_Table_numbers doc_Table_numbers pm_Table_numbers an_Table_numbers cd_Table_numbers ct_Table_numbers), sl_Table_numbers⟩)
    (c_Table_numbers : PySem.W.codeIn K cd_Table_numbers "Table.numbers" = true) (k_Table_numbers : PySem.W.keepIn K (.ref f_Table_numbers) = true)
    {f_Table_columns : Addr} {oc_Table_columns kV_Table_columns doc_Table_columns pm_Table_columns cd_Table_columns ct_Table_columns : Value} {od_Table_columns an_Table_columns : Option Addr} {sl_Table_columns : Array (Option Value)} (a_Table_columns : PySem.W.findIn K (.ref C_Table) "columns" = some (some (.ref f_Table_columns))) (j_Table_columns : PySem.W.isFn K (.ref f_Table_columns) = true)
    (l_Table_columns : K.lookup f_Table_columns = some ⟨oc_Table_columns, od_Table_columns, .func (PySem.W.fnOf "columns" "Table.columns" (defArgs s_Table_columns) (defBody s_Table_columns) (defScope s_Table_columns) .none kV_Table_columns doc_Table_columns pm_Table_columns an_Table_columns cd_Table_columns ct_Table_columns), sl_Table_columns⟩)
    (c_Table_columns : PySem.W.codeIn K cd_Table_columns "Table.columns" = true) (k_Table_columns : PySem.W.keepIn K (.ref f_Table_columns) = true)
    {f_Table_give : Addr} {oc_Table_give kV_Table_give doc_Table_give pm_Table_give cd_Table_give ct_Table_give : Value} {od_Table_give an_Table_give : Option Addr} {sl_Table_give : Array (Option Value)} (a_Table_give : PySem.W.findIn K (.ref C_Table) "give" = some (some (.ref f_Table_give))) (j_Table_give : PySem.W.isFn K (.ref f_Table_give) = true)
    (l_Table_give : K.lookup f_Table_give = some ⟨oc_Table_give, od_Table_give, .func (PySem.W.fnOf "give" "Table.give" (defArgs s_Table_give) (defBody s_Table_give) (defScope s_Table_give) .none kV_Table_give doc_Table_give pm_Table_give an_Table_give cd_Table_give ct_Table_give), sl_Table_give⟩)
    (c_Table_give : PySem.W.codeIn K cd_Table_give "Table.give" = true) (k_Table_give : PySem.W.keepIn K (.ref f_Table_give) = true)
    {f_Table_drop : Addr} {oc_Table_drop kV_Table_drop doc_Table_drop pm_Table_drop cd_Table_drop ct_Table_drop : Value} {od_Table_drop an_Table_drop : Option Addr} {sl_Table_drop : Array (Option Value)} (a_Table_drop : PySem.W.findIn K (.ref C_Table) "drop" = some (some (.ref f_Table_drop))) (j_Table_drop : PySem.W.isFn K (.ref f_Table_drop) = true)
    (l_Table_drop : K.lookup f_Table_drop = some ⟨oc_Table_drop, od_Table_drop, .func (PySem.W.fnOf "drop" "Table.drop" (defArgs s_Table_drop) (defBody s_Table_drop) (defScope s_Table_drop) .none kV_Table_drop doc_Table_drop pm_Table_drop an_Table_drop cd_Table_drop ct_Table_drop), sl_Table_drop⟩)
    (c_Table_drop : PySem.W.codeIn K cd_Table_drop "Table.drop" = true) (k_Table_drop : PySem.W.keepIn K (.ref f_Table_drop) = true)
    {f_Table_put : Addr} {oc_Table_put kV_Table_put doc_Table_put pm_Table_put cd_Table_put ct_Table_put : Value} {od_Table_put an_Table_put : Option Addr} {sl_Table_put : Array (Option Value)} (a_Table_put : PySem.W.findIn K (.ref C_Table) "put" = some (some (.ref f_Table_put))) (j_Table_put : PySem.W.isFn K (.ref f_Table_put) = true)
    (l_Table_put : K.lookup f_Table_put = some ⟨oc_Table_put, od_Table_put, .func (PySem.W.fnOf "put" "Table.put" (defArgs s_Table_put) (defBody s_Table_put) (defScope s_Table_put) .none kV_Table_put doc_Table_put pm_Table_put an_Table_put cd_Table_put ct_Table_put), sl_Table_put⟩)
    (c_Table_put : PySem.W.codeIn K cd_Table_put "Table.put" = true) (k_Table_put : PySem.W.keepIn K (.ref f_Table_put) = true)
    {f_Table_at : Addr} {oc_Table_at kV_Table_at doc_Table_at pm_Table_at cd_Table_at ct_Table_at : Value} {od_Table_at an_Table_at : Option Addr} {sl_Table_at : Array (Option Value)} (a_Table_at : PySem.W.findIn K (.ref C_Table) "at" = some (some (.ref f_Table_at))) (j_Table_at : PySem.W.isFn K (.ref f_Table_at) = true)
    (l_Table_at : K.lookup f_Table_at = some ⟨oc_Table_at, od_Table_at, .func (PySem.W.fnOf "at" "Table.at" (defArgs s_Table_at) (defBody s_Table_at) (defScope s_Table_at) .none kV_Table_at doc_Table_at pm_Table_at an_Table_at cd_Table_at ct_Table_at), sl_Table_at⟩)
    (c_Table_at : PySem.W.codeIn K cd_Table_at "Table.at" = true) (k_Table_at : PySem.W.keepIn K (.ref f_Table_at) = true)
    {f_Table_put_in : Addr} {oc_Table_put_in kV_Table_put_in doc_Table_put_in pm_Table_put_in cd_Table_put_in ct_Table_put_in : Value} {od_Table_put_in an_Table_put_in : Option Addr} {sl_Table_put_in : Array (Option Value)} (a_Table_put_in : PySem.W.findIn K (.ref C_Table) "put_in" = some (some (.ref f_Table_put_in))) (j_Table_put_in : PySem.W.isFn K (.ref f_Table_put_in) = true)
    (l_Table_put_in : K.lookup f_Table_put_in = some ⟨oc_Table_put_in, od_Table_put_in, .func (PySem.W.fnOf "put_in" "Table.put_in" (defArgs s_Table_put_in) (defBody s_Table_put_in) (defScope s_Table_put_in) .none kV_Table_put_in doc_Table_put_in pm_Table_put_in an_Table_put_in cd_Table_put_in ct_Table_put_in), sl_Table_put_in⟩)
    (c_Table_put_in : PySem.W.codeIn K cd_Table_put_in "Table.put_in" = true) (k_Table_put_in : PySem.W.keepIn K (.ref f_Table_put_in) = true)
    {f_Table_take_out : Addr} {oc_Table_take_out kV_Table_take_out doc_Table_take_out pm_Table_take_out cd_Table_take_out ct_Table_take_out : Value} {od_Table_take_out an_Table_take_out : Option Addr} {sl_Table_take_out : Array (Option Value)} (a_Table_take_out : PySem.W.findIn K (.ref C_Table) "take_out" = some (some (.ref f_Table_take_out))) (j_Table_take_out : PySem.W.isFn K (.ref f_Table_take_out) = true)
    (l_Table_take_out : K.lookup f_Table_take_out = some ⟨oc_Table_take_out, od_Table_take_out, .func (PySem.W.fnOf "take_out" "Table.take_out" (defArgs s_Table_take_out) (defBody s_Table_take_out) (defScope s_Table_take_out) .none kV_Table_take_out doc_Table_take_out pm_Table_take_out an_Table_take_out cd_Table_take_out ct_Table_take_out), sl_Table_take_out⟩)
    (c_Table_take_out : PySem.W.codeIn K cd_Table_take_out "Table.take_out" = true) (k_Table_take_out : PySem.W.keepIn K (.ref f_Table_take_out) = true)
    {f_Table_stand : Addr} {oc_Table_stand kV_Table_stand doc_Table_stand pm_Table_stand cd_Table_stand ct_Table_stand : Value} {od_Table_stand an_Table_stand : Option Addr} {sl_Table_stand : Array (Option Value)} (a_Table_stand : PySem.W.findIn K (.ref C_Table) "stand" = some (some (.ref f_Table_stand))) (j_Table_stand : PySem.W.isFn K (.ref f_Table_stand) = true)
    (l_Table_stand : K.lookup f_Table_stand = some ⟨oc_Table_stand, od_Table_stand, .func (PySem.W.fnOf "stand" "Table.stand" (defArgs s_Table_stand) (defBody s_Table_stand) (defScope s_Table_stand) .none kV_Table_stand doc_Table_stand pm_Table_stand an_Table_stand cd_Table_stand ct_Table_stand), sl_Table_stand⟩)
    (c_Table_stand : PySem.W.codeIn K cd_Table_stand "Table.stand" = true) (k_Table_stand : PySem.W.keepIn K (.ref f_Table_stand) = true)
    {f_Table_check_column : Addr} {oc_Table_check_column kV_Table_check_column doc_Table_check_column pm_Table_check_column cd_Table_check_column ct_Table_check_column : Value} {od_Table_check_column an_Table_check_column : Option Addr} {sl_Table_check_column : Array (Option Value)} (a_Table_check_column : PySem.W.findIn K (.ref C_Table) "check_column" = some (some (.ref f_Table_check_column))) (j_Table_check_column : PySem.W.isFn K (.ref f_Table_check_column) = true)
    (l_Table_check_column : K.lookup f_Table_check_column = some ⟨oc_Table_check_column, od_Table_check_column, .func (PySem.W.fnOf "check_column" "Table.check_column" (defArgs s_Table_check_column) (defBody s_Table_check_column) (defScope s_Table_check_column) .none kV_Table_check_column doc_Table_check_column pm_Table_check_column an_Table_check_column cd_Table_check_column ct_Table_check_column), sl_Table_check_column⟩)
    (c_Table_check_column : PySem.W.codeIn K cd_Table_check_column "Table.check_column" = true) (k_Table_check_column : PySem.W.keepIn K (.ref f_Table_check_column) = true) : Tops K mg where
  len := PySem.W.mg_none_of X G n_len
  isinstance := PySem.W.mg_none_of X G n_isinstance
  int := PySem.W.mg_none_of X G n_int
  bool := PySem.W.mg_none_of X G n_bool
  str := PySem.W.mg_none_of X G n_str
  all := PySem.W.mg_none_of X G n_all
  range := PySem.W.mg_none_of X G n_range
  abs := PySem.W.mg_none_of X G n_abs
  list := PySem.W.mg_none_of X G n_list
  tuple := PySem.W.mg_none_of X G n_tuple
  dict := PySem.W.mg_none_of X G n_dict
  ValueError := PySem.W.mg_none_of X G n_ValueError
  g_LETTERS := ⟨_, PySem.W.mg_of X G i_LETTERS⟩
  g_MOST_LETTERS := ⟨_, PySem.W.mg_of X G i_MOST_LETTERS⟩
  g_MOST_ROWS := ⟨_, PySem.W.mg_of X G i_MOST_ROWS⟩
  g_MOST_COLUMNS := ⟨_, PySem.W.mg_of X G i_MOST_COLUMNS⟩
  d_is_whole := top_def X G a_is_whole l_is_whole c_is_whole k_is_whole
  d_is_number := top_def X G a_is_number l_is_number c_is_number k_is_number
  d_is_name := top_def X G a_is_name l_is_name c_is_name k_is_name
  d_is_fault := top_def X G a_is_fault l_is_fault c_is_fault k_is_fault
  d_is_value := top_def X G a_is_value l_is_value c_is_value k_is_value
  d_check_size := top_def X G a_check_size l_check_size c_check_size k_check_size
  d_check_place := top_def X G a_check_place l_check_place c_check_place k_check_place
  d_check_value := top_def X G a_check_value l_check_value c_check_value k_check_value
  d_check_values := top_def X G a_check_values l_check_values c_check_values k_check_values
  d_check_row := top_def X G a_check_row l_check_row c_check_row k_check_row
  d_law_cell := top_def X G a_law_cell l_law_cell c_law_cell k_law_cell
  d_law_names := top_def X G a_law_names l_law_names c_law_names k_law_names
  d_law_value := top_def X G a_law_value l_law_value c_law_value k_law_value
  d_law_refused := top_def X G a_law_refused l_law_refused c_law_refused k_law_refused
  d_law_stands := top_def X G a_law_stands l_law_stands c_law_stands k_law_stands
  d_law_given := top_def X G a_law_given l_law_given c_law_given k_law_given
  d_law_entered := top_def X G a_law_entered l_law_entered c_law_entered k_law_entered
  d_law_taken := top_def X G a_law_taken l_law_taken c_law_taken k_law_taken
  d_law_spoilt := top_def X G a_law_spoilt l_law_spoilt c_law_spoilt k_law_spoilt
  d_law := top_def X G a_law l_law c_law k_law
  exc := ⟨⟨C_ColsError, C_NoName, C_NoValue, C_NoColumn, C_NoPlace, C_NoSize, C_TooMuch⟩, { c_ColsError := PySem.W.mg_of X G q_ColsError, c_NoName := PySem.W.mg_of X G q_NoName, c_NoValue := PySem.W.mg_of X G q_NoValue, c_NoColumn := PySem.W.mg_of X G q_NoColumn, c_NoPlace := PySem.W.mg_of X G q_NoPlace, c_NoSize := PySem.W.mg_of X G q_NoSize, c_TooMuch := PySem.W.mg_of X G q_TooMuch, x_NoSize := x_NoSize, x_NoName := x_NoName, x_TooMuch := x_TooMuch, x_NoValue := x_NoValue, e_NoValue_ColsError := e_NoValue_ColsError, x_NoColumn := x_NoColumn, e_NoColumn_ColsError := e_NoColumn_ColsError, x_NoPlace := x_NoPlace, e_NoPlace_ColsError := e_NoPlace_ColsError }⟩
  t_Table := ⟨C_Table, { c := PySem.W.mg_of X G a_Table, cl := ⟨pg_Table, hd_Table, po_Table, sa_Table⟩, mks := mk_Table, kc := kc_Table, hc := hc_Table, n_row_numbers := na_Table_row_numbers, n_fresh_number := na_Table_fresh_number, n_kept := na_Table_kept, m_init := mth_mk a_Table_init j_Table_init l_Table_init c_Table_init k_Table_init, m_many := mth_mk a_Table_many j_Table_many l_Table_many c_Table_many k_Table_many, m_numbers := mth_mk a_Table_numbers j_Table_numbers l_Table_numbers c_Table_numbers k_Table_numbers, m_columns := mth_mk a_Table_columns j_Table_columns l_Table_columns c_Table_columns k_Table_columns, m_give := mth_mk a_Table_give j_Table_give l_Table_give c_Table_give k_Table_give, m_drop := mth_mk a_Table_drop j_Table_drop l_Table_drop c_Table_drop k_Table_drop, m_put := mth_mk a_Table_put j_Table_put l_Table_put c_Table_put k_Table_put, m_at := mth_mk a_Table_at j_Table_at l_Table_at c_Table_at k_Table_at, m_put_in := mth_mk a_Table_put_in j_Table_put_in l_Table_put_in c_Table_put_in k_Table_put_in, m_take_out := mth_mk a_Table_take_out j_Table_take_out l_Table_take_out c_Table_take_out k_Table_take_out, m_stand := mth_mk a_Table_stand j_Table_stand l_Table_stand c_Table_stand k_Table_stand, m_check_column := mth_mk a_Table_check_column j_Table_check_column l_Table_check_column c_Table_check_column k_Table_check_column }⟩
theorem walk {l : PySem.W.OpenLaw} {q : Program} {loose : List Str} {XP : (Str → Option Value) → Heap → Prop} {YP : World → Heap → Prop} {d : DefRec} {K : Params → PySem.W.Frag} (hn : l.most = some 63) (hdf : d.params.defaults = []) (hdn : d.name = "law")
    (hY : ∀ (w : World) (h : Heap), YP w h → (K w.params).In h)
    (F : ∀ (w : World) (mg : Str → Option Value) (h : Heap), (K w.params).In h → h.Ns mainGlobals mg → Tops (K w.params) mg) :
    PySem.W.WalkO q loose XP YP l.row.toRowW d [] (fun f vs => PySem.call f vs) :=
  L2.walk_of (n := 63) (k := 10) (x := "_law_script") (CX := fun _ => CX0) (sp := fun w => spLaw (K w.params)) hn (by decide) hdf ⟨rfl, by decide, by decide⟩ hY
    (fun w mg fa h KX G hmg => by
      have T := F w mg h KX G
      obtain ⟨f, fd, F4, hm⟩ := T.d_law.ex
      rw [hdn] at hmg
      have e := hmg.symm.trans hm
      cases e
      refine ⟨fd, fun s u => ?_, fun base kb nb => ?_⟩
      · obtain ⟨oc, od, kV, doc, pm, an, cdv, ct, osl, rfl, _⟩ := F4.ex
        exact .of_eq rfl
      · exact ok_law T F4)
    (fun _ _ a ns hl _ hS => ⟨a, ns, rfl, hS, hl, fun _ => rfl⟩) fun _ _ _ _ _ z => z
end My
def PySem.W.Fast.tw11024487707916225831 : Unit := ()
def PySem.W.Fast.tw12566887946322965965 : Unit := ()
def PySem.W.Fast.tw6031423198811477381 : Unit := ()
def PySem.W.Fast.tw4837972174577816654 : Unit := ()
def PySem.W.Fast.tw17975257091097042668 : Unit := ()
def PySem.W.Fast.tw13249125752361366120 : Unit := ()
def PySem.W.Fast.tw9143431471777890887 : Unit := ()
def PySem.W.Fast.tw6347522741154179347 : Unit := ()
def PySem.W.Fast.tw5635904445099209012 : Unit := ()
def PySem.W.Fast.tw8846252460071202178 : Unit := ()
def PySem.W.Fast.tw5451963655895017618 : Unit := ()
def PySem.W.Fast.tw8148553322205675276 : Unit := ()
def PySem.W.Fast.tw10581970214063560707 : Unit := ()
def PySem.W.Fast.tw10982569122037335907 : Unit := ()
def PySem.W.Fast.tw1731764918241469103 : Unit := ()
def PySem.W.Fast.tw4424362053812073731 : Unit := ()
def PySem.W.Fast.tw11540072624234198623 : Unit := ()
def PySem.W.Fast.tw217323134925703609 : Unit := ()
def PySem.W.Fast.tw1735595009345022666 : Unit := ()
def PySem.W.Fast.tw12998821639770131181 : Unit := ()
def PySem.W.Fast.tw12410342652655768286 : Unit := ()
def PySem.W.Fast.tw13379247554942755088 : Unit := ()
def PySem.W.Fast.tw12974879720739176791 : Unit := ()
def PySem.W.Fast.tw17745590170105655008 : Unit := ()
def PySem.W.Fast.tw9675840055415246192 : Unit := ()
def PySem.W.Fast.tw4687754724506201783 : Unit := ()
def PySem.W.Fast.tw17120958729822690024 : Unit := ()
def PySem.W.Fast.tw8874452027630778522 : Unit := ()
def PySem.W.Fast.tw12786164726853690028 : Unit := ()
def PySem.W.Fast.tw5656153035062295968 : Unit := ()
def PySem.W.Fast.tw6738882809703174602 : Unit := ()
def PySem.W.Fast.tw660189133817112158 : Unit := ()
def PySem.W.Fast.tw12945631583778010611 : Unit := ()
def PySem.W.Fast.tw17561680373678505194 : Unit := ()
def PySem.W.Fast.tw4830734310540270470 : Unit := ()
def PySem.W.Fast.tw3612699498303819404 : Unit := ()
def PySem.W.Fast.tw7146528334239215942 : Unit := ()
def PySem.W.Fast.tw2650692937269781486 : Unit := ()
def PySem.W.Fast.tw6082628327431919388 : Unit := ()
def PySem.W.Fast.tw4065262219281378125 : Unit := ()
def PySem.W.Fast.tw1528786444058424628 : Unit := ()
def PySem.W.Fast.tw10856427402086101825 : Unit := ()
def PySem.W.Fast.tw8581891914582733083 : Unit := ()
def PySem.W.Fast.tw11438935924591522078 : Unit := ()
def PySem.W.Fast.tw4563777118688940436 : Unit := ()
def PySem.W.Fast.tw11129895723774989436 : Unit := ()
def PySem.W.Fast.tw8138118052813722388 : Unit := ()
def PySem.W.Fast.tw7435534815441223361 : Unit := ()
def PySem.W.Fast.tw745191558906617859 : Unit := ()
def PySem.W.Fast.tw17035727330315469600 : Unit := ()
def PySem.W.Fast.tw11989384441292711930 : Unit := ()
def PySem.W.Fast.tw6683252577067225818 : Unit := ()
def PySem.W.Fast.tw17037260290051674395 : Unit := ()
def PySem.W.Fast.tw1060091387191556137 : Unit := ()
def PySem.W.Fast.tw8300880332744629421 : Unit := ()
def PySem.W.Fast.tw4687442227056418554 : Unit := ()
def PySem.W.Fast.tw10026108191262748006 : Unit := ()
def PySem.W.Fast.tw13350770218315793290 : Unit := ()
def PySem.W.Fast.tw14859362062259297366 : Unit := ()
def PySem.W.Fast.tw13701530737457836595 : Unit := ()
def PySem.W.Fast.tw572402670743034757 : Unit := ()
def PySem.W.Fast.tw10711337499278911764 : Unit := ()
def PySem.W.Fast.tw14888222004536595835 : Unit := ()
def PySem.W.Fast.tw12791563901172947844 : Unit := ()
def PySem.W.Fast.tw7082178235099434285 : Unit := ()
def PySem.W.Fast.tw5760838759609686488 : Unit := ()
def PySem.W.Fast.tw3361277172848249029 : Unit := ()
def PySem.W.Fast.tw5533530001761196414 : Unit := ()
def PySem.W.Fast.tw2538790179870828179 : Unit := ()
def PySem.W.Fast.tw17614678449095845878 : Unit := ()
def PySem.W.Fast.tw9823514184600260338 : Unit := ()
def PySem.W.Fast.tw11667870593060799254 : Unit := ()
def PySem.W.Fast.tw4999757289021603547 : Unit := ()
def PySem.W.Fast.tw10613801967765857291 : Unit := ()
def PySem.W.Fast.tw1947099713085708077 : Unit := ()
def PySem.W.Fast.tw4974506604828573406 : Unit := ()
def PySem.W.Fast.tw10776608181578456980 : Unit := ()
def PySem.W.Fast.tw5626472494781391208 : Unit := ()
def PySem.W.Fast.tw15815982539895632357 : Unit := ()
def PySem.W.Fast.tw6587259164378621796 : Unit := ()
def PySem.W.Fast.tw8930201678770558152 : Unit := ()
def PySem.W.Fast.tw1745684368648750018 : Unit := ()
def PySem.W.Fast.tw4477590317514408487 : Unit := ()
def PySem.W.Fast.tw10716623408388178152 : Unit := ()
def PySem.W.Fast.tw363168914896023500 : Unit := ()
def PySem.W.Fast.tw7773979662770722363 : Unit := ()
def PySem.W.Fast.tw3807499580339221077 : Unit := ()
def PySem.W.Fast.tw17753036092142970500 : Unit := ()
def PySem.W.Fast.tw12972335347921094261 : Unit := ()
def PySem.W.Fast.tw8790719870064078322 : Unit := ()
def PySem.W.Fast.tw1855227108830697030 : Unit := ()
def PySem.W.Fast.tw15074354396105440230 : Unit := ()
def PySem.W.Fast.tw1697860564039581295 : Unit := ()
def PySem.W.Fast.tw10831534567359862253 : Unit := ()
def PySem.W.Fast.tw17574983189272492022 : Unit := ()
def PySem.W.Fast.tw1549879842433373870 : Unit := ()
def PySem.W.Fast.tw16359262940558648947 : Unit := ()
def PySem.W.Fast.tw3750672150431932680 : Unit := ()
def PySem.W.Fast.tw1412103342239208354 : Unit := ()
def PySem.W.Fast.tw6680614003697805642 : Unit := ()
def PySem.W.Fast.tw12471316337759662465 : Unit := ()
def PySem.W.Fast.tw16111438881440056150 : Unit := ()
def PySem.W.Fast.tw2548070821014074173 : Unit := ()
def PySem.W.Fast.tw17783798599691820662 : Unit := ()
def PySem.W.Fast.tw10665757651019577829 : Unit := ()
def PySem.W.Fast.tw4875880117786248924 : Unit := ()
def PySem.W.Fast.tw15898400409746347631 : Unit := ()
def PySem.W.Fast.tw12820064157203989552 : Unit := ()
def PySem.W.Fast.tw6527435021054103394 : Unit := ()
def PySem.W.Fast.tw5286385159600967760 : Unit := ()
def PySem.W.Fast.tw5227324504522225080 : Unit := ()
def PySem.W.Fast.tw15042280982627449447 : Unit := ()
def PySem.W.Fast.tw318199093507320325 : Unit := ()
def PySem.W.Fast.tw10225358084677300902 : Unit := ()
def PySem.W.Fast.tw5448462168374556640 : Unit := ()
def PySem.W.Fast.tw934036126761454283 : Unit := ()
def PySem.W.Fast.tw5153062743067659642 : Unit := ()
def PySem.W.Fast.tw14626068257326992684 : Unit := ()
def PySem.W.Fast.tw4364447704836440645 : Unit := ()
def PySem.W.Fast.tw16648708080013841729 : Unit := ()
def PySem.W.Fast.tw13102276248292097755 : Unit := ()
def PySem.W.Fast.tw17412264322801937374 : Unit := ()
def PySem.W.Fast.tw13005989065773564523 : Unit := ()
def PySem.W.Fast.tw3208281201921959849 : Unit := ()
def PySem.W.Fast.tw9267255311426092909 : Unit := ()
def PySem.W.Fast.tw439144069985638645 : Unit := ()
def PySem.W.Fast.tw17706225816842028268 : Unit := ()
def PySem.W.Fast.tw2338502493108177764 : Unit := ()
def PySem.W.Fast.tw278719902056438777 : Unit := ()
def PySem.W.Fast.tw2667266077259722058 : Unit := ()
def PySem.W.Fast.tw15807770996967248081 : Unit := ()
def PySem.W.Fast.tw12043580638463702308 : Unit := ()
def PySem.W.Fast.tw5734039051025730114 : Unit := ()
def PySem.W.Fast.tw16408029312419793544 : Unit := ()
def PySem.W.Fast.tw15920541789081218918 : Unit := ()
def PySem.W.Fast.tw2120621777718230490 : Unit := ()
def PySem.W.Fast.tw13958576392331817079 : Unit := ()
def PySem.W.Fast.tw11645762462349816680 : Unit := ()
def PySem.W.Fast.tw5273172998103778412 : Unit := ()
def PySem.W.Fast.tw11020531718993172218 : Unit := ()
def PySem.W.Fast.tw15839376786956935982 : Unit := ()
def PySem.W.Fast.tw5462767294948903006 : Unit := ()
def PySem.W.Fast.tw2949758855074007736 : Unit := ()
def PySem.W.Fast.tw8612298000621797447 : Unit := ()
def PySem.W.Fast.tw10295425119664535248 : Unit := ()
def PySem.W.Fast.tw11660437048944720610 : Unit := ()
def PySem.W.Fast.tw14567790211900846047 : Unit := ()
def PySem.W.Fast.tw10832213608368074331 : Unit := ()
def PySem.W.Fast.tw9738709409655829723 : Unit := ()
def PySem.W.Fast.tw18009529523736872363 : Unit := ()
def PySem.W.Fast.tw14335104858840009478 : Unit := ()
def PySem.W.Fast.tw4753426345197148553 : Unit := ()
def PySem.W.Fast.tw15603217000662105638 : Unit := ()
def PySem.W.Fast.tw8259030352521625544 : Unit := ()
def PySem.W.Fast.tw12029621672653733981 : Unit := ()
def PySem.W.Fast.tw15646793625806488763 : Unit := ()
def PySem.W.Fast.tw8051088813004027909 : Unit := ()
def PySem.W.Fast.tw7630705354922222467 : Unit := ()
def PySem.W.Fast.tw16038439836932344093 : Unit := ()
def PySem.W.Fast.tw12808919299151008835 : Unit := ()
def PySem.W.Fast.tw5283835632533882327 : Unit := ()
def PySem.W.Fast.tw794153283646821183 : Unit := ()
def PySem.W.Fast.tw576746041079307323 : Unit := ()
def PySem.W.Fast.tw13278423784425759144 : Unit := ()
def PySem.W.Fast.tw663752352231603795 : Unit := ()
def PySem.W.Fast.tw11492608042358385666 : Unit := ()
def PySem.W.Fast.tw6000389536382749547 : Unit := ()
def PySem.W.Fast.tw15316700615074023329 : Unit := ()
def PySem.W.Fast.tw7302950596487469357 : Unit := ()
def PySem.W.Fast.tw6421918404803985578 : Unit := ()
def PySem.W.Fast.tw8481912323368054554 : Unit := ()
def PySem.W.Fast.tw6645722114672435446 : Unit := ()
def PySem.W.Fast.tw13560295884024482893 : Unit := ()
def PySem.W.Fast.tw15097418706342007854 : Unit := ()
def PySem.W.Fast.tw7100271353872174957 : Unit := ()
def PySem.W.Fast.tw247036224356473865 : Unit := ()
def PySem.W.Fast.tw5428390615188299815 : Unit := ()
def PySem.W.Fast.tw3991022980232202284 : Unit := ()
def PySem.W.Fast.tw12093247081953943383 : Unit := ()
def PySem.W.Fast.tw6836981143325455704 : Unit := ()
def PySem.W.Fast.tw3477771955297337275 : Unit := ()
def PySem.W.Fast.tw13277020937882266323 : Unit := ()
def PySem.W.Fast.tw1559867822189123941 : Unit := ()
def PySem.W.Fast.tw13249493746762936219 : Unit := ()
def PySem.W.Fast.tw15087068096085963228 : Unit := ()
def PySem.W.Fast.tw16444394143599840334 : Unit := ()
def PySem.W.Fast.tw8227926394307530375 : Unit := ()
def PySem.W.Fast.tw13855458411329899913 : Unit := ()
def PySem.W.Fast.tw14444125784936099728 : Unit := ()
def PySem.W.Fast.tw5237910403355951242 : Unit := ()
def PySem.W.Fast.tw11554777761827080058 : Unit := ()
def PySem.W.Fast.tw17893160054710983520 : Unit := ()
def PySem.W.Fast.tw16652528136963524099 : Unit := ()
def PySem.W.Fast.tw11760026739929842886 : Unit := ()
def PySem.W.Fast.tw4046633462374142844 : Unit := ()
def PySem.W.Fast.tw9380056258821527106 : Unit := ()
def PySem.W.Fast.tw2919391090549357105 : Unit := ()
def PySem.W.Fast.tw9327067466208264715 : Unit := ()
def PySem.W.Fast.tw14791685864161324442 : Unit := ()
def PySem.W.Fast.tw13007101462318469227 : Unit := ()
def PySem.W.Fast.tw12905015373398559078 : Unit := ()
def PySem.W.Fast.tw2185866130090694906 : Unit := ()
def PySem.W.Fast.tw13426654259235136795 : Unit := ()
def PySem.W.Fast.tw8051453276246821933 : Unit := ()
def PySem.W.Fast.tw18379302233681514691 : Unit := ()
def PySem.W.Fast.tw16429896786455133029 : Unit := ()
def PySem.W.Fast.tw12002032116939605762 : Unit := ()
def PySem.W.Fast.tw11326148957579552347 : Unit := ()
def PySem.W.Fast.tw3403800466503516508 : Unit := ()
def PySem.W.Fast.tw10878061174174573394 : Unit := ()
def PySem.W.Fast.tw10840257975526420018 : Unit := ()
def PySem.W.Fast.tw14502297227857560788 : Unit := ()
def PySem.W.Fast.tw21277691768872840 : Unit := ()
def PySem.W.Fast.tw2372057979842329179 : Unit := ()
def PySem.W.Fast.tw9462158022485324874 : Unit := ()
def PySem.W.Fast.tw17444923108219522442 : Unit := ()
def PySem.W.Fast.tw13800609284952065548 : Unit := ()
def PySem.W.Fast.tw12843509333522915321 : Unit := ()
def PySem.W.Fast.tw18300352080168754787 : Unit := ()
def PySem.W.Fast.tw4080959332128562363 : Unit := ()
def PySem.W.Fast.tw12041200784140963885 : Unit := ()
def PySem.W.Fast.tw2519581117316797597 : Unit := ()
def PySem.W.Fast.tw888504050831518815 : Unit := ()
def PySem.W.Fast.tw17090503502592159407 : Unit := ()
def PySem.W.Fast.tw16004827973599321703 : Unit := ()
def PySem.W.Fast.tw17472547321921971292 : Unit := ()
def PySem.W.Fast.tw13241639196207561354 : Unit := ()
def PySem.W.Fast.tw10547814141626995271 : Unit := ()
def PySem.W.Fast.tw9233830805857562824 : Unit := ()
def PySem.W.Fast.tw14344662321284927047 : Unit := ()
def PySem.W.Fast.tw16841665813294962018 : Unit := ()
def PySem.W.Fast.tw17560919204605624214 : Unit := ()
def PySem.W.Fast.tw6575945425190590628 : Unit := ()
def PySem.W.Fast.tw17596917643477393240 : Unit := ()
def PySem.W.Fast.tw15669462901811079784 : Unit := ()
def PySem.W.Fast.tw18432587699163012197 : Unit := ()
def PySem.W.Fast.tw2894692776599643889 : Unit := ()
def PySem.W.Fast.tw15980124612541130548 : Unit := ()
def PySem.W.Fast.tw9226737315501893975 : Unit := ()
def PySem.W.Fast.tw211961188334664859 : Unit := ()
def PySem.W.Fast.tw2864648458439851607 : Unit := ()
def PySem.W.Fast.tw3698618984973770019 : Unit := ()
def PySem.W.Fast.tw169938730853156218 : Unit := ()
def PySem.W.Fast.tw7903239400808816213 : Unit := ()
def PySem.W.Fast.tw15148347909357873837 : Unit := ()
def PySem.W.Fast.tw8523196409586792685 : Unit := ()
def PySem.W.Fast.tw4296172171489797917 : Unit := ()
def PySem.W.Fast.tw6985014996582497709 : Unit := ()
def PySem.W.Fast.tw3367944281635085659 : Unit := ()
def PySem.W.Fast.tw4049145817068836045 : Unit := ()
def PySem.W.Fast.tw16163062941164550508 : Unit := ()
def PySem.W.Fast.tw4063156049872703357 : Unit := ()
def PySem.W.Fast.tw6877227162478818086 : Unit := ()
def PySem.W.Fast.tw1247986126595300199 : Unit := ()
def PySem.W.Fast.tw16316562810203953535 : Unit := ()
def PySem.W.Fast.tw9705684805176148096 : Unit := ()
def PySem.W.Fast.tw2591271333414194084 : Unit := ()
def PySem.W.Fast.tw16589837673587337799 : Unit := ()
def PySem.W.Fast.tw14192972594163090054 : Unit := ()
def PySem.W.Fast.tw7105778072327755395 : Unit := ()
def PySem.W.Fast.tw12439556407930013224 : Unit := ()
def PySem.W.Fast.tw8793829789477216444 : Unit := ()
def PySem.W.Fast.tw10258999925747132195 : Unit := ()
def PySem.W.Fast.tw18158760211359789255 : Unit := ()
def PySem.W.Fast.tw7890010508848932940 : Unit := ()
def PySem.W.Fast.tw7476162586637991538 : Unit := ()
def PySem.W.Fast.tw15368320199802166481 : Unit := ()
def PySem.W.Fast.tw18365330983947472697 : Unit := ()
def PySem.W.Fast.tw7669884706111715710 : Unit := ()
def PySem.W.Fast.tw7550034628143929507 : Unit := ()
def PySem.W.Fast.tw10327241756723262506 : Unit := ()
def PySem.W.Fast.tw13689958415539502888 : Unit := ()
def PySem.W.Fast.tw8740352720726211282 : Unit := ()
def PySem.W.Fast.tw15021207078771940928 : Unit := ()
def PySem.W.Fast.tw11845845507466219809 : Unit := ()
def PySem.W.Fast.tw2869147864032470538 : Unit := ()
def PySem.W.Fast.tw15280980461955884733 : Unit := ()
def PySem.W.Fast.tw4402912368206256543 : Unit := ()
def PySem.W.Fast.tw534089760588046692 : Unit := ()
def PySem.W.Fast.tw4707234779100749334 : Unit := ()
def PySem.W.Fast.tw17426366018078468120 : Unit := ()
def PySem.W.Fast.tw9425556380543636770 : Unit := ()
def PySem.W.Fast.tw7905649234612317844 : Unit := ()
def PySem.W.Fast.tw17236947275501629539 : Unit := ()
def PySem.W.Fast.tw8227127555919866219 : Unit := ()
def PySem.W.Fast.tw15228292212834379088 : Unit := ()
def PySem.W.Fast.tw16573490771900986639 : Unit := ()
def PySem.W.Fast.tw413793425328268192 : Unit := ()
def PySem.W.Fast.tw242972749422204121 : Unit := ()
def PySem.W.Fast.tw6102647098328278138 : Unit := ()
def PySem.W.Fast.tw1242483154088428354 : Unit := ()
def PySem.W.Fast.tw7539407105225141990 : Unit := ()
def PySem.W.Fast.tw468720080266244352 : Unit := ()
def PySem.W.Fast.tw12909095993776571445 : Unit := ()
def PySem.W.Fast.tw16642316772262397031 : Unit := ()
def PySem.W.Fast.tw2461309217566564946 : Unit := ()
def PySem.W.Fast.tw11424660068557292022 : Unit := ()
def PySem.W.Fast.tw12443453809831989958 : Unit := ()
def PySem.W.Fast.tw4387798836899646065 : Unit := ()
def PySem.W.Fast.tw10930738421708468118 : Unit := ()
def PySem.W.Fast.tw11427974922792473307 : Unit := ()
def PySem.W.Fast.tw10143150554898592962 : Unit := ()
def PySem.W.Fast.tw7879210031129370555 : Unit := ()
def PySem.W.Fast.tw3775972245312945402 : Unit := ()
def PySem.W.Fast.tw10393836848861406983 : Unit := ()
def PySem.W.Fast.tw6663650211293717008 : Unit := ()
def PySem.W.Fast.tw2061035681815637357 : Unit := ()
def PySem.W.Fast.tw12697859650177092244 : Unit := ()
def PySem.W.Fast.tw14438540654774098674 : Unit := ()
def PySem.W.Fast.tw9179984579279546777 : Unit := ()
def PySem.W.Fast.tw14731434791793366930 : Unit := ()
def PySem.W.Fast.tw6079420867038009658 : Unit := ()
def PySem.W.Fast.tw13405990449650173604 : Unit := ()
def PySem.W.Fast.tw13990592505228886215 : Unit := ()
def PySem.W.Fast.tw6056210509184643579 : Unit := ()
def PySem.W.Fast.tw11012088755849655563 : Unit := ()
def PySem.W.Fast.tw4989385660173667123 : Unit := ()
def PySem.W.Fast.tw5162222383133504270 : Unit := ()
def PySem.W.Fast.tw10325599652748908655 : Unit := ()
def PySem.W.Fast.tw3874592779146185053 : Unit := ()
def PySem.W.Fast.tw13240969716497665582 : Unit := ()
def PySem.W.Fast.tw18003448717921217864 : Unit := ()
def PySem.W.Fast.tw9852487721333427077 : Unit := ()
def PySem.W.Fast.tw10327721018232580347 : Unit := ()
def PySem.W.Fast.tw5988865320797584777 : Unit := ()
def PySem.W.Fast.tw5062994201741825049 : Unit := ()
def PySem.W.Fast.tw4211488577661925851 : Unit := ()
def PySem.W.Fast.tw172621009972135980 : Unit := ()
def PySem.W.Fast.tw14456676619157109654 : Unit := ()
def PySem.W.Fast.tw13873736039874769685 : Unit := ()
def PySem.W.Fast.tw14771571591792985113 : Unit := ()
def PySem.W.Fast.tw14182116061435211276 : Unit := ()
def PySem.W.Fast.tw130185499131459571 : Unit := ()
def PySem.W.Fast.tw4419018365701021153 : Unit := ()
def PySem.W.Fast.tw9948369100686775992 : Unit := ()
def PySem.W.Fast.tw6833854544016514212 : Unit := ()
def PySem.W.Fast.tw16553526111396584944 : Unit := ()
def PySem.W.Fast.tw346626724297591987 : Unit := ()
def PySem.W.Fast.tw3918641774575345080 : Unit := ()
def PySem.W.Fast.tw160881623068669949 : Unit := ()
def PySem.W.Fast.tw1656568818104852730 : Unit := ()
def PySem.W.Fast.tw14655529022017485294 : Unit := ()
def PySem.W.Fast.tw9334602649185836558 : Unit := ()
def PySem.W.Fast.tw11184739509479996342 : Unit := ()
def PySem.W.Fast.tw11832276758390178025 : Unit := ()
def PySem.W.Fast.tw4113613431736927403 : Unit := ()
def PySem.W.Fast.tw2882943296580909765 : Unit := ()
def PySem.W.Fast.tw7443650304127661896 : Unit := ()
def PySem.W.Fast.tw14280081661770722501 : Unit := ()
def PySem.W.Fast.tw7327342930207841240 : Unit := ()
def PySem.W.Fast.tw2745241304643793647 : Unit := ()
def PySem.W.Fast.tw17965378452073508039 : Unit := ()
def PySem.W.Fast.tw556056920138638592 : Unit := ()
def PySem.W.Fast.tw17910694099341656012 : Unit := ()
def PySem.W.Fast.tw12017866180642254355 : Unit := ()
def PySem.W.Fast.tw6996599202581589886 : Unit := ()
def PySem.W.Fast.tw15089294915204884783 : Unit := ()
def PySem.W.Fast.tw3712493668289473787 : Unit := ()
def PySem.W.Fast.tw12575762563472653999 : Unit := ()
def PySem.W.Fast.tw18305252077517750067 : Unit := ()
def PySem.W.Fast.tw4660448961216243061 : Unit := ()
def PySem.W.Fast.tw8333073468028422421 : Unit := ()
def PySem.W.Fast.tw14442780135622822664 : Unit := ()
def PySem.W.Fast.tw15012311763585233449 : Unit := ()
def PySem.W.Fast.tw13371993555008913470 : Unit := ()
def PySem.W.Fast.tw2850444840944073209 : Unit := ()
def PySem.W.Fast.tw10041911139468991303 : Unit := ()
def PySem.W.Fast.tw14459274468659575466 : Unit := ()
def PySem.W.Fast.tw14714719286951480978 : Unit := ()
def PySem.W.Fast.tw17923677949411369265 : Unit := ()
def PySem.W.Fast.tw16789987905012907666 : Unit := ()
def PySem.W.Fast.tw16337874425301033031 : Unit := ()
def PySem.W.Fast.tw14614939836291849991 : Unit := ()
def PySem.W.Fast.tw11390881276549142137 : Unit := ()
def PySem.W.Fast.tw6934322730905429878 : Unit := ()
def PySem.W.Fast.tw4053062039549815583 : Unit := ()
def PySem.W.Fast.tw2332533862902876177 : Unit := ()
def PySem.W.Fast.tw11471061814181027810 : Unit := ()
def PySem.W.Fast.tw2396580414735823647 : Unit := ()
def PySem.W.Fast.tw5713884547714796287 : Unit := ()
def PySem.W.Fast.tw5479689765693020115 : Unit := ()
def PySem.W.Fast.tw502745515336030829 : Unit := ()
def PySem.W.Fast.tw8569558495580860989 : Unit := ()
def PySem.W.Fast.tw14842180072255592811 : Unit := ()
def PySem.W.Fast.tw11032999286417887608 : Unit := ()
def PySem.W.Fast.tw15292703029883391753 : Unit := ()
def PySem.W.Fast.tw15892999098967124290 : Unit := ()
def PySem.W.Fast.tw11543292392319397031 : Unit := ()
def PySem.W.Fast.tw10647434923505716754 : Unit := ()
def PySem.W.Fast.tw4690881631284380481 : Unit := ()
def PySem.W.Fast.tw9758976683471388166 : Unit := ()
def PySem.W.Fast.tw835437776152182718 : Unit := ()
def PySem.W.Fast.tw15179048425945107897 : Unit := ()
def PySem.W.Fast.tw9933972418697244637 : Unit := ()
def PySem.W.Fast.tw9263588343598725118 : Unit := ()
def PySem.W.Fast.tw14232258781730374923 : Unit := ()
def PySem.W.Fast.tw11032194168028594427 : Unit := ()
def PySem.W.Fast.tw14428533560678835604 : Unit := ()
def PySem.W.Fast.tw10758096569259353891 : Unit := ()
def PySem.W.Fast.tw10272139505574208097 : Unit := ()
def PySem.W.Fast.tw1115113062897437778 : Unit := ()
def PySem.W.Fast.tw17850762393552151899 : Unit := ()
def PySem.W.Fast.tw14263506822114017261 : Unit := ()
def PySem.W.Fast.tw7892170528910607284 : Unit := ()
def PySem.W.Fast.tw15553195118934114530 : Unit := ()
def PySem.W.Fast.tw3458666553564981700 : Unit := ()
def PySem.W.Fast.tw17546178668629320026 : Unit := ()
def PySem.W.Fast.tw3151943587332791819 : Unit := ()
def PySem.W.Fast.tw16364511743433764186 : Unit := ()
open PySem PySem.W PyProof.Rows
set_option maxRecDepth 100000 in
set_option maxHeartbeats 0 in
theorem PySem.Challenge.cw_lazycols_k10_whole_table_holds : PySem.Challenge.rw_lazycols_k10_whole_table.Holds := by
  w_on; o_law; k_head; (case hw => w_witness2)
  k_fill
  refine My.walk (l := PySem.Challenge.rw_lazycols_k10_whole_table) rfl rfl rfl (fun w h Y => PySem.W.kIn_of Y) ?F
  case F =>
    intro w mg h KX G
    refine' My.tops_mk KX G ?n_len ?n_isinstance ?n_int ?n_bool ?n_str ?n_all ?n_range ?n_abs ?n_list ?n_tuple ?n_dict ?n_ValueError ?i_LETTERS ?i_MOST_LETTERS ?i_MOST_ROWS ?i_MOST_COLUMNS ?a_is_whole ?l_is_whole ?c_is_whole ?k_is_whole ?a_is_number ?l_is_number ?c_is_number ?k_is_number ?a_is_name ?l_is_name ?c_is_name ?k_is_name ?a_is_fault ?l_is_fault ?c_is_fault ?k_is_fault ?a_is_value ?l_is_value ?c_is_value ?k_is_value ?a_check_size ?l_check_size ?c_check_size ?k_check_size ?a_check_place ?l_check_place ?c_check_place ?k_check_place ?a_check_value ?l_check_value ?c_check_value ?k_check_value ?a_check_values ?l_check_values ?c_check_values ?k_check_values ?a_check_row ?l_check_row ?c_check_row ?k_check_row ?a_law_cell ?l_law_cell ?c_law_cell ?k_law_cell ?a_law_names ?l_law_names ?c_law_names ?k_law_names ?a_law_value ?l_law_value ?c_law_value ?k_law_value ?a_law_refused ?l_law_refused ?c_law_refused ?k_law_refused ?a_law_stands ?l_law_stands ?c_law_stands ?k_law_stands ?a_law_given ?l_law_given ?c_law_given ?k_law_given ?a_law_entered ?l_law_entered ?c_law_entered ?k_law_entered ?a_law_taken ?l_law_taken ?c_law_taken ?k_law_taken ?a_law_spoilt ?l_law_spoilt ?c_law_spoilt ?k_law_spoilt ?a_law ?l_law ?c_law ?k_law ?q_ColsError ?q_NoName ?q_NoValue ?q_NoColumn ?q_NoPlace ?q_NoSize ?q_TooMuch ?x_NoSize ?x_NoName ?x_TooMuch ?x_NoValue ?e_NoValue_ColsError ?x_NoColumn ?e_NoColumn_ColsError ?x_NoPlace ?e_NoPlace_ColsError ?a_Table ?pg_Table ?hd_Table ?po_Table ?sa_Table ?mk_Table ?kc_Table ?hc_Table ?na_Table_row_numbers ?na_Table_fresh_number ?na_Table_kept ?a_Table_init ?j_Table_init ?l_Table_init ?c_Table_init ?k_Table_init ?a_Table_many ?j_Table_many ?l_Table_many ?c_Table_many ?k_Table_many ?a_Table_numbers ?j_Table_numbers ?l_Table_numbers ?c_Table_numbers ?k_Table_numbers ?a_Table_columns ?j_Table_columns ?l_Table_columns ?c_Table_columns ?k_Table_columns ?a_Table_give ?j_Table_give ?l_Table_give ?c_Table_give ?k_Table_give ?a_Table_drop ?j_Table_drop ?l_Table_drop ?c_Table_drop ?k_Table_drop ?a_Table_put ?j_Table_put ?l_Table_put ?c_Table_put ?k_Table_put ?a_Table_at ?j_Table_at ?l_Table_at ?c_Table_at ?k_Table_at ?a_Table_put_in ?j_Table_put_in ?l_Table_put_in ?c_Table_put_in ?k_Table_put_in ?a_Table_take_out ?j_Table_take_out ?l_Table_take_out ?c_Table_take_out ?k_Table_take_out ?a_Table_stand ?j_Table_stand ?l_Table_stand ?c_Table_stand ?k_Table_stand ?a_Table_check_column ?j_Table_check_column ?l_Table_check_column ?c_Table_check_column ?k_Table_check_column
    (case n_len => k_is)
    (case n_isinstance => k_is)
    (case n_int => k_is)
    (case n_bool => k_is)
    (case n_str => k_is)
    (case n_all => k_is)
    (case n_range => k_is)
    (case n_abs => k_is)
    (case n_list => k_is)
    (case n_tuple => k_is)
    (case n_dict => k_is)
    (case n_ValueError => k_is)
    (case i_LETTERS => k_is)
    (case i_MOST_LETTERS => k_is)
    (case i_MOST_ROWS => k_is)
    (case i_MOST_COLUMNS => k_is)
    (case a_is_whole => k_is)
    (case l_is_whole => k_is)
    (case c_is_whole => k_is)
    (case k_is_whole => k_is)
    (case a_is_number => k_is)
    (case l_is_number => k_is)
    (case c_is_number => k_is)
    (case k_is_number => k_is)
    (case a_is_name => k_is)
    (case l_is_name => k_is)
    (case c_is_name => k_is)
    (case k_is_name => k_is)
    (case a_is_fault => k_is)
    (case l_is_fault => k_is)
    (case c_is_fault => k_is)
    (case k_is_fault => k_is)
    (case a_is_value => k_is)
    (case l_is_value => k_is)
    (case c_is_value => k_is)
    (case k_is_value => k_is)
    (case a_check_size => k_is)
    (case l_check_size => k_is)
    (case c_check_size => k_is)
    (case k_check_size => k_is)
    (case a_check_place => k_is)
    (case l_check_place => k_is)
    (case c_check_place => k_is)
    (case k_check_place => k_is)
    (case a_check_value => k_is)
    (case l_check_value => k_is)
    (case c_check_value => k_is)
    (case k_check_value => k_is)
    (case a_check_values => k_is)
    (case l_check_values => k_is)
    (case c_check_values => k_is)
    (case k_check_values => k_is)
    (case a_check_row => k_is)
    (case l_check_row => k_is)
    (case c_check_row => k_is)
    (case k_check_row => k_is)
    (case a_law_cell => k_is)
    (case l_law_cell => k_is)
    (case c_law_cell => k_is)
    (case k_law_cell => k_is)
    (case a_law_names => k_is)
    (case l_law_names => k_is)
    (case c_law_names => k_is)
    (case k_law_names => k_is)
    (case a_law_value => k_is)
    (case l_law_value => k_is)
    (case c_law_value => k_is)
    (case k_law_value => k_is)
    (case a_law_refused => k_is)
    (case l_law_refused => k_is)
    (case c_law_refused => k_is)
    (case k_law_refused => k_is)
    (case a_law_stands => k_is)
    (case l_law_stands => k_is)
    (case c_law_stands => k_is)
    (case k_law_stands => k_is)
    (case a_law_given => k_is)
    (case l_law_given => k_is)
    (case c_law_given => k_is)
    (case k_law_given => k_is)
    (case a_law_entered => k_is)
    (case l_law_entered => k_is)
    (case c_law_entered => k_is)
    (case k_law_entered => k_is)
    (case a_law_taken => k_is)
    (case l_law_taken => k_is)
    (case c_law_taken => k_is)
    (case k_law_taken => k_is)
    (case a_law_spoilt => k_is)
    (case l_law_spoilt => k_is)
    (case c_law_spoilt => k_is)
    (case k_law_spoilt => k_is)
    (case a_law => k_is)
    (case l_law => k_is)
    (case c_law => k_is)
    (case k_law => k_is)
    (case q_ColsError => k_is)
    (case q_NoName => k_is)
    (case q_NoValue => k_is)
    (case q_NoColumn => k_is)
    (case q_NoPlace => k_is)
    (case q_NoSize => k_is)
    (case q_TooMuch => k_is)
    (case x_NoSize => k_exc)
    (case x_NoName => k_exc)
    (case x_TooMuch => k_exc)
    (case x_NoValue => k_exc)
    (case e_NoValue_ColsError => kts_exm)
    (case x_NoColumn => k_exc)
    (case e_NoColumn_ColsError => kts_exm)
    (case x_NoPlace => k_exc)
    (case e_NoPlace_ColsError => kts_exm)
    (case a_Table => k_is)
    (case pg_Table => k_is)
    (case hd_Table => k_is)
    (case po_Table => k_is)
    (case sa_Table => k_is)
    (case mk_Table => k_is)
    (case kc_Table => k_is)
    (case hc_Table => k_is)
    (case na_Table_row_numbers => k_is)
    (case na_Table_fresh_number => k_is)
    (case na_Table_kept => k_is)
    (case a_Table_init => k_is)
    (case j_Table_init => k_is)
    (case l_Table_init => k_is)
    (case c_Table_init => k_is)
    (case k_Table_init => k_is)
    (case a_Table_many => k_is)
    (case j_Table_many => k_is)
    (case l_Table_many => k_is)
    (case c_Table_many => k_is)
    (case k_Table_many => k_is)
    (case a_Table_numbers => k_is)
    (case j_Table_numbers => k_is)
    (case l_Table_numbers => k_is)
    (case c_Table_numbers => k_is)
    (case k_Table_numbers => k_is)
    (case a_Table_columns => k_is)
    (case j_Table_columns => k_is)
    (case l_Table_columns => k_is)
    (case c_Table_columns => k_is)
    (case k_Table_columns => k_is)
    (case a_Table_give => k_is)
    (case j_Table_give => k_is)
    (case l_Table_give => k_is)
    (case c_Table_give => k_is)
    (case k_Table_give => k_is)
    (case a_Table_drop => k_is)
    (case j_Table_drop => k_is)
    (case l_Table_drop => k_is)
    (case c_Table_drop => k_is)
    (case k_Table_drop => k_is)
    (case a_Table_put => k_is)
    (case j_Table_put => k_is)
    (case l_Table_put => k_is)
    (case c_Table_put => k_is)
    (case k_Table_put => k_is)
    (case a_Table_at => k_is)
    (case j_Table_at => k_is)
    (case l_Table_at => k_is)
    (case c_Table_at => k_is)
    (case k_Table_at => k_is)
    (case a_Table_put_in => k_is)
    (case j_Table_put_in => k_is)
    (case l_Table_put_in => k_is)
    (case c_Table_put_in => k_is)
    (case k_Table_put_in => k_is)
    (case a_Table_take_out => k_is)
    (case j_Table_take_out => k_is)
    (case l_Table_take_out => k_is)
    (case c_Table_take_out => k_is)
    (case k_Table_take_out => k_is)
    (case a_Table_stand => k_is)
    (case j_Table_stand => k_is)
    (case l_Table_stand => k_is)
    (case c_Table_stand => k_is)
    (case k_Table_stand => k_is)
    (case a_Table_check_column => k_is)
    (case j_Table_check_column => k_is)
    (case l_Table_check_column => k_is)
    (case c_Table_check_column => k_is)
    (case k_Table_check_column => k_is)
