import PyProof.Rows.All
import Wide.All
import OpenK.AllK
import Wide.FinOn
import PyProof.EqAt
import PyProof.EqKinds
import PyProof.TupleCall
import Lean
import PySem.Challenge.RW_lazycols_k53_above_rules_read
set_option Elab.async false
set_option linter.all false
set_option maxRecDepth 100000
set_option maxHeartbeats 4000000
set_option genSizeOfSpec false
/-! THE HAND LAYER, for ints, bools, texts, own classes, LISTS and tuples (index, slices, in, append, pop ..), calls, loops. Paste it whole ahead of your own text; what your proof does not reach may be deleted. -/
namespace L2
open PySem PySem.Spec PyProof.Rows

/-- a key: an int or a str -/
abbrev Key := Sum Int Str
def keyIs : Key → Value → Bool
  | .inl k, v => Value.isInt k v
  | .inr x, v => Value.isStrOf x v
def keyH (w : World) : Key → Int
  | .inl k => hashInt k
  | .inr x => hashStr w x
theorem keyIs_shape : ∀ {k : Key} {v : Value}, keyIs k v = true → (∃ i t, k = Sum.inl i ∧ v = Value.int i t) ∨ (∃ x t, k = Sum.inr x ∧ v = Value.str x t)
  | .inl i, v, h => by
    obtain ⟨t, e⟩ := Value.isInt_shape (k := i) (v := v) h
    exact .inl ⟨i, t, rfl, e⟩
  | .inr x, v, h => by
    obtain ⟨t, e⟩ := Value.isStrOf_shape (x := x) (v := v) h
    exact .inr ⟨x, t, rfl, e⟩
theorem keyIs_int (i : Int) (t : Tok) : keyIs (.inl i) (.int i t) = true := by simp [keyIs, Value.isInt]
theorem keyIs_str (x : Str) (t : Tok) : keyIs (.inr x) (.str x t) = true := by simp [keyIs, Value.isStrOf]
theorem key_ll (a b : Int) : decide ((Sum.inl a : Key) = Sum.inl b) = (a == b) := by
  by_cases e : a = b
  · subst e; simp
  · have h : ¬ (Sum.inl a : Key) = Sum.inl b := fun q => e (Sum.inl.inj q)
    rw [decide_eq_false h]
    exact (beq_eq_false_iff_ne.mpr e).symm
theorem key_rr (a b : Str) : decide ((Sum.inr a : Key) = Sum.inr b) = decide (a = b) := by
  by_cases e : a = b
  · subst e; simp
  · have h : ¬ (Sum.inr a : Key) = Sum.inr b := fun q => e (Sum.inr.inj q)
    rw [decide_eq_false h, decide_eq_false e]
theorem key_lr (a : Int) (b : Str) : decide ((Sum.inl a : Key) = Sum.inr b) = false := decide_eq_false (fun q => nomatch q)
theorem key_rl (a : Str) (b : Int) : decide ((Sum.inr a : Key) = Sum.inl b) = false := decide_eq_false (fun q => nomatch q)

def mixKind (prog : Program) (w : World) : PySem.KeyKind prog w Key where
  is := keyIs
  hash := keyH w
  inj := fun v a b ha hb => by
    rcases keyIs_shape ha with ⟨i, t, rfl, rfl⟩ | ⟨x, t, rfl, rfl⟩
    · rcases keyIs_shape hb with ⟨j, u, rfl, e⟩ | ⟨y, u, rfl, e⟩
      · injection e with e1 _; rw [e1]
      · exact nomatch e
    · rcases keyIs_shape hb with ⟨j, u, rfl, e⟩ | ⟨y, u, rfl, e⟩
      · exact nomatch e
      · injection e with e1 _; rw [e1]
  byValue := fun k v h => by
    rcases keyIs_shape h with ⟨i, t, rfl, rfl⟩ | ⟨x, t, rfl, rfl⟩ <;> rfl
  pyHash := fun hv h => by
    rcases keyIs_shape hv with ⟨i, t, rfl, rfl⟩ | ⟨x, t, rfl, rfl⟩
    · exact wpAny_pyHash_int h
    · exact wpAny_pyHash_str h
  eqBool := fun hu hv h => by
    rcases keyIs_shape hu with ⟨i, t, rfl, rfl⟩ | ⟨x, t, rfl, rfl⟩
    · rcases keyIs_shape hv with ⟨j, u, rfl, rfl⟩ | ⟨y, u, rfl, rfl⟩
      · rw [key_ll] at h; exact wpAny_eqBool_int h
      · rw [key_lr] at h; exact SeqAt.EqAt.int_str i t y u _ _ _ _ h
    · rcases keyIs_shape hv with ⟨j, u, rfl, rfl⟩ | ⟨y, u, rfl, rfl⟩
      · rw [key_rl] at h; exact SeqAt.EqAt.str_int x t j u _ _ _ _ h
      · rw [key_rr] at h; exact wpAny_eqBool_str h
  «strs» := fun k x t v h => by
    rcases keyIs_shape h with ⟨i, u, rfl, e⟩ | ⟨y, u, rfl, e⟩
    · exact nomatch e
    · injection e with e1 _
      subst e1
      cases v <;> rfl

theorem mixKind_int (prog : Program) (w : World) (i : Int) (t : Tok) : (mixKind prog w).is (.inl i) (.int i t) = true := keyIs_int i t
theorem mixKind_str (prog : Program) (w : World) (x : Str) (t : Tok) : (mixKind prog w).is (.inr x) (.str x t) = true := keyIs_str x t
end L2

namespace L2
open PySem PySem.Spec PyProof.Rows

/-- a value, without the heap -/
inductive V where
  | non | bl (b : Bool) | int (i : Int) | str (x : Str) | byt (b : Array UInt8) | flt (b : UInt64) | ref (a : Addr) | ty (n : String)
  deriving DecidableEq

def RelV : V → Value → Prop
  | .non, u => u = Value.none
  | .bl b, u => u = Value.bool b
  | .int i, u => ∃ t, u = Value.int i t
  | .str x, u => ∃ t, u = Value.str x t
  | .byt b, u => ∃ t, u = Value.bytes b t
  | .flt b, u => ∃ t, u = Value.float b t
  | .ref a, u => u = Value.ref a
  | .ty n, u => u = Value.type n

abbrev Vals : List V → List Value → Prop := Paired RelV
theorem Vals.length {xs : List V} {us : List Value} (r : Vals xs us) : xs.length = us.length := Paired.length r
theorem Vals.get : ∀ {xs : List V} {us : List Value} {i : Nat} {x : V}, Vals xs us → xs[i]? = some x → ∃ u, us[i]? = some u ∧ RelV x u
  | _, _, _, _, .nil, e => by simp at e
  | _, _, 0, _, .cons r _, e => by simp at e; subst e; exact ⟨_, rfl, r⟩
  | _, _, i + 1, x, .cons _ t, e => by
    obtain ⟨u, h1, h2⟩ := Vals.get (i := i) (x := x) t (by simpa using e)
    exact ⟨u, by simpa using h1, h2⟩
theorem Vals.set {x : V} {u : Value} (r : RelV x u) : ∀ {xs : List V} {us : List Value} (i : Nat), Vals xs us → Vals (xs.set i x) (us.set i u)
  | _, _, _, .nil => .nil
  | _, _, 0, .cons _ t => .cons r t
  | _, _, i + 1, .cons q t => .cons q (Vals.set r i t)
theorem Vals.append : ∀ {xs ys : List V} {us ws : List Value}, Vals xs us → Vals ys ws → Vals (xs ++ ys) (us ++ ws)
  | _, _, _, _, .nil, s => s
  | _, _, _, _, .cons r t, s => .cons r (Vals.append t s)
theorem Vals.take : ∀ {xs : List V} {us : List Value} (n : Nat), Vals xs us → Vals (xs.take n) (us.take n)
  | _, _, 0, _ => .nil
  | _, _, _ + 1, .nil => .nil
  | _, _, n + 1, .cons r t => .cons r (Vals.take n t)
theorem Vals.drop : ∀ {xs : List V} {us : List Value} (n : Nat), Vals xs us → Vals (xs.drop n) (us.drop n)
  | _, _, 0, r => r
  | _, _, _ + 1, .nil => .nil
  | _, _, n + 1, .cons _ t => Vals.drop n t
def RelO : Option V → Option Value → Prop
  | some v, some u => RelV v u
  | none, none => True
  | _, _ => False
def KV {κ : Type} : List (κ × V) → List (κ × Value) → Prop := Paired fun (p : κ × V) (q : κ × Value) => p.1 = q.1 ∧ RelV p.2 q.2

/-- a key of a dict (00_mix): an int or a text -/
def kV : Key → V
  | .inl i => .int i
  | .inr x => .str x

/-- what stands at a tracked address -/
inductive HO where
  /-- a list -/
  | lst (xs : List V)
  /-- a tuple (never changes) -/
  | tup (xs : List V)
  /-- a dict whose keys are ints and texts; one whose keys are tuples of ints and texts (the empty one is both) -/
  | dK (kvs : List (Key × V)) | dT (kvs : List (List Key × V))
  /-- a set of ints: its members, its size -/
  | set (S : Int → Bool) (n : Nat)
  /-- an instance of the class at C, its dict at dx, its attributes -/
  | ins (C dx : Addr) (fs : List (Str × V))
  /-- the dict of the instance at x -/
  | own (x : Addr)
  /-- the dict of an exception -/
  | xd (fs : List (Str × V))
  /-- a bound method, f of x -/
  | met (f x : Addr)
  /-- a range object lo, lo + 1, .. below hi -/
  | rng (lo hi : Int)
  /-- a thing that is known to the object (the script; a dict while a loop walks it): read, never written while it is so -/
  | frz (o : Obj) (u : HO)
  /-- a code object's table -/
  | tbl (ps : Array Value)
  /-- any other thing, by what is true of its one object (a def of one's own: SetO a S n := HO.ext fun h => ..) -/
  | ext (φ : Heap → Prop)

abbrev Hp := Addr → Option HO
def upd (H : Hp) (a : Addr) (o : HO) : Hp := fun b => if b = a then some o else H b
theorem upd_same {H : Hp} {a : Addr} {o : HO} : upd H a o a = some o := by unfold upd; rw [if_pos rfl]
theorem upd_ne {H : Hp} {a b : Addr} {o : HO} (h : b ≠ a) : upd H a o b = H b := by unfold upd; rw [if_neg h]
/-- two objects of different content stand apart -/
theorem ne_of {H : Hp} {a b : Addr} {o u : HO} (h : H a = some o) (h' : H b = some u) (d : o ≠ u) : a ≠ b := by
  intro e; subst e; rw [h] at h'; exact d (Option.some.inj h')
theorem ne_of_none {H : Hp} {a b : Addr} {o : HO} (h : H a = some o) (h' : H b = none) : a ≠ b := by
  intro e; subst e; rw [h] at h'; cases h'

section
variable (P : Program) (w : World)
def ObjOk (H : Hp) (h : Heap) (a : Addr) : HO → Prop
  | .lst xs => xs.length ≤ sizeLine ∧ ∃ (its : List Value) (n : Nat), Vals xs its ∧ h.get? a = some { cls := .type "list", data := .seq its.toArray n }
  | .tup xs => xs.length ≤ sizeLine ∧ ∃ its : List Value, Vals xs its ∧ IsTup h a its.toArray
  | .dK kvs => kvs.length ≤ sizeLine ∧ (a == sysModules) = false ∧ ∃ vs, KV kvs vs ∧ h.DictOf (mixKind P w) a vs
  | .dT kvs => kvs.length ≤ sizeLine ∧ (a == sysModules) = false ∧ ∃ xs : List (List Key × Addr × Value),
      Paired (fun (p : List Key × V) (q : List Key × Addr × Value) => p.1 = q.1 ∧ H q.2.1 = some (.tup (p.1.map kV)) ∧ RelV p.2 q.2.2) kvs xs ∧
      ∃ o es ep, h.get? a = some o ∧ o.ExactDict ∧ o.data = .dict es ep ∧ es.toList = xs.map (entryOfKey (tupleKind (mixKind P w))) ∧ (xs.map (·.1)).Nodup
  | .set S n => h.SetOf (intKind P w) a S n
  | .ins C dx fs => H dx = some (.own a) ∧ fs.length ≤ 1000 ∧ dx ≠ a ∧ h.get? a = some (PySem.W.instObj C dx) ∧
      ∃ mA, h.Ns1 dx mA ∧ (∀ f, RelO (fs.lookup f) (mA f)) ∧ PySem.Within mA (fs.map (·.1))
  | .own _ => ∃ o, h.get? a = some o
  | .xd fs => ∃ mA, h.Ns1 a mA ∧ ∀ f, RelO (fs.lookup f) (mA f)
  | .rng lo hi => ∃ t u v, h.get? a = some { cls := .type "range", data := .fields #[.int lo t, .int hi u, .int 1 v] }
  | .frz o u => h.get? a = some o ∧ ObjOk H h a u
  | .tbl ps => h.get? a = some { cls := .none, data := .fields ps }
  | .met f x => h.get? a = some (PySem.W.methodObj (.ref f) (.ref x))
  | .ext φ => φ h ∧ (∃ o, h.get? a = some o) ∧ ∀ h1 h2 : Heap, φ h1 → (∀ o, h1.get? a = some o → h2.get? a = some o) → φ h2
/-- the abstract heap is held -/
def HOk (H : Hp) (h : Heap) : Prop := ∀ a o, H a = some o → ObjOk P w H h a o
end

section
variable {P : Program} {w : World} {H H' : Hp} {h h' : Heap} {a : Addr} {o : HO}
theorem ObjOk.lt (x : ObjOk P w H h a o) : a < h.objs.size := by
  cases o with
  | lst xs => obtain ⟨_, _, _, _, e⟩ := x; exact Heap.lt_size e
  | tup xs => obtain ⟨_, _, _, p⟩ := x; exact p.lt
  | dK kvs => obtain ⟨_, _, _, _, o, _, _, e, _⟩ := x; exact Heap.lt_size e
  | dT kvs => obtain ⟨_, _, _, _, o, _, _, e, _⟩ := x; exact Heap.lt_size e
  | set S n => obtain ⟨o, _, _, _, e, _⟩ := x; exact Heap.lt_size e
  | ins C dx fs => obtain ⟨_, _, _, e, _⟩ := x; exact Heap.lt_size e
  | own y => obtain ⟨_, e⟩ := x; exact Heap.lt_size e
  | xd fs => obtain ⟨_, ⟨_, _, _, e, _⟩, _⟩ := x; exact Heap.lt_size e
  | rng lo hi => obtain ⟨_, _, _, e⟩ := x; exact Heap.lt_size e
  | frz ob u => obtain ⟨e, _⟩ := x; exact Heap.lt_size e
  | tbl ps => exact Heap.lt_size (show h.get? a = some _ from x)
  | met f y => exact Heap.lt_size (show h.get? a = some _ from x)
  | ext φ => obtain ⟨_, ⟨_, e⟩, _⟩ := x; exact Heap.lt_size e
theorem Paired.mapP {α β : Type} {F G : α → β → Prop} : ∀ {l₁ : List α} {l₂ : List β}, Paired F l₁ l₂ → (∀ a b, F a b → G a b) → Paired G l₁ l₂
  | _, _, .nil, _ => .nil
  | _, _, .cons r t, f => .cons (f _ _ r) (Paired.mapP t f)
/-- what an object's description leans on: its own object, its own dict, the tuples -/
theorem ObjOk.stay (x : ObjOk P w H h a o) (k : ∀ b u, (b = a ∨ H b = some (.own a)) → h.get? b = some u → h'.get? b = some u)
    (ho : ∀ b, H b = some (.own a) → H' b = some (.own a)) (ht : ∀ b xs, H b = some (.tup xs) → H' b = some (.tup xs)) : ObjOk P w H' h' a o := by
  induction o with
  | lst xs => obtain ⟨z, its, n, r, e⟩ := x; exact ⟨z, its, n, r, k _ _ (.inl rfl) e⟩
  | tup xs => obtain ⟨z, its, r, ob, e, c⟩ := x; exact ⟨z, its, r, ob, k _ _ (.inl rfl) e, c⟩
  | dK kvs => obtain ⟨z, y, vs, r, ob, es, ep, e, c⟩ := x; exact ⟨z, y, vs, r, ob, es, ep, k _ _ (.inl rfl) e, c⟩
  | dT kvs =>
    obtain ⟨z, y, xs, r, ob, es, ep, e, c⟩ := x
    exact ⟨z, y, xs, Paired.mapP r fun p q z => ⟨z.1, ht _ _ z.2.1, z.2.2⟩, ob, es, ep, k _ _ (.inl rfl) e, c⟩
  | set S n => obtain ⟨ob, es, ep, t, e, c⟩ := x; exact ⟨ob, es, ep, t, k _ _ (.inl rfl) e, c⟩
  | ins C dx fs =>
    obtain ⟨d, z, ne, e, mA, ⟨od, es, ep, e2, c⟩, r⟩ := x
    exact ⟨ho _ d, z, ne, k _ _ (.inl rfl) e, mA, ⟨od, es, ep, k _ _ (.inr d) e2, c⟩, r⟩
  | own y => obtain ⟨ob, e⟩ := x; exact ⟨ob, k _ _ (.inl rfl) e⟩
  | xd fs => obtain ⟨mA, ⟨od, es, ep, e, c⟩, r⟩ := x; exact ⟨mA, ⟨od, es, ep, k _ _ (.inl rfl) e, c⟩, r⟩
  | rng lo hi => obtain ⟨t, u, v, e⟩ := x; exact ⟨t, u, v, k _ _ (.inl rfl) e⟩
  | frz ob u ih => obtain ⟨e, q⟩ := x; exact ⟨k _ _ (.inl rfl) e, ih q⟩
  | tbl ps =>
    have e : h.get? a = some { cls := .none, data := .fields ps } := x
    show h'.get? a = some { cls := .none, data := .fields ps }
    exact k a _ (.inl rfl) e
  | met f y =>
    have e : h.get? a = some (PySem.W.methodObj (.ref f) (.ref y)) := x
    show h'.get? a = some (PySem.W.methodObj (.ref f) (.ref y))
    exact k a _ (.inl rfl) e
  | ext φ => obtain ⟨p, ⟨o, e⟩, st⟩ := x; exact ⟨st _ _ p fun o q => k _ _ (.inl rfl) q, ⟨o, k _ _ (.inl rfl) e⟩, st⟩
theorem HOk.lt (x : HOk P w H h) (e : H a = some o) : a < h.objs.size := (x a o e).lt
theorem HOk.fresh (x : HOk P w H h) (e : h.objs.size ≤ a) : H a = none := by
  cases q : H a with
  | none => rfl
  | some u => exact absurd (Nat.lt_of_lt_of_le (x.lt q) e) (Nat.lt_irrefl _)
/-- every object of the heap is kept -/
theorem HOk.kept (x : HOk P w H h) (k : ∀ b u, h.get? b = some u → h'.get? b = some u) : HOk P w H h' := fun a o e =>
  (x a o e).stay (fun b u _ q => k b u q) (fun _ q => q) fun _ _ q => q
/-- a new object is laid and tracked -/
theorem HOk.laid (x : HOk P w H h) (k : ∀ b u, h.get? b = some u → h'.get? b = some u) (hp : h.objs.size ≤ a) (new : ObjOk P w (upd H a o) h' a o) : HOk P w (upd H a o) h' := fun b u e => by
  have hn := x.fresh hp
  by_cases hb : b = a
  · subst hb; rw [upd_same] at e; cases e; exact new
  · rw [upd_ne hb] at e
    exact (x b u e).stay (fun c v _ q => k c v q) (fun c q => by rw [upd_ne (ne_of_none q hn)]; exact q) fun c xs q => by rw [upd_ne (ne_of_none q hn)]; exact q
end

/-- what may be read as u: it is u, or a known u -/
def Rd (H : Hp) (a : Addr) (u : HO) : Prop := H a = some u ∨ ∃ o, H a = some (.frz o u)
theorem Rd.ok {P : Program} {w : World} {H : Hp} {h : Heap} {a : Addr} {u : HO} (r : Rd H a u) (x : HOk P w H h) : ObjOk P w H h a u := by
  rcases r with r | ⟨o, r⟩
  · exact x a u r
  · obtain ⟨_, q⟩ := x a _ r
    exact q
/-- what may be written -/
def Mut : Option HO → Prop
  | some (.lst _) => True
  | some (.dK _) => True
  | some (.dT _) => True
  | some (.set _ _) => True
  | some (.ins _ _ _) => True
  | some (.ext _) => True
  | _ => False
section
variable {P : Program} {w : World} {H : Hp} {h h' : Heap} {x e : Addr} {o' : HO}
/-- the object at e is changed: x itself, or the dict of the instance x -/
theorem HOk.write (ok : HOk P w H h) (mu : Mut (H x)) (he : e = x ∨ H e = some (.own x)) (k : ∀ b u, b ≠ e → h.get? b = some u → h'.get? b = some u) (heo : ∃ u, h'.get? e = some u)
    (new : ObjOk P w (upd H x o') h' x o') : HOk P w (upd H x o') h' := fun b u q => by
  have nown : ∀ c y, H c = some (.own y) → c ≠ x := fun c y r z => by subst z; rw [r] at mu; exact mu
  have ntup : ∀ c xs, H c = some (.tup xs) → c ≠ x := fun c xs r z => by subst z; rw [r] at mu; exact mu
  by_cases hb : b = x
  · subst hb; rw [upd_same] at q; cases q; exact new
  · rw [upd_ne hb] at q
    by_cases hbe : b = e
    · have q' : H b = some (.own x) := by
        rcases he with z | z
        · exact absurd (hbe.trans z) hb
        · rw [hbe]; exact z
      rw [q] at q'; cases q'
      obtain ⟨v, hv⟩ := heo
      exact ⟨v, by rw [hbe]; exact hv⟩
    · refine (ok b u q).stay (fun c v hc r => k c v ?_ r) (fun c r => by rw [upd_ne (nown c b r)]; exact r) fun c xs r => by rw [upd_ne (ntup c xs r)]; exact r
      rcases hc with rfl | hc
      · exact hbe
      · rintro rfl
        rcases he with z | z
        · exact nown c b hc z
        · rw [hc] at z; cases z; exact hb rfl
end

/-! ### kept unless tracked; of the frames at fs (the callers') the slots may change (an exception that passes writes there); of the records at ex (iterators) nothing is said -/
structure Un (fs ex : List Addr) (H H' : Hp) (h h' : Heap) : Prop where
  keep : ∀ b o, h.get? b = some o → H b = none → b ∉ fs → b ∉ ex → h'.get? b = some o
  slot : ∀ b o, h.get? b = some o → H b = none → b ∈ fs → b ∉ ex → ∃ sl, h'.get? b = some { o with slots := sl }
  free : ∀ b o, h.get? b = some o → H b = none → b ∉ ex → H' b = none
  there : ∀ b o, h.get? b = some o → b ∉ ex → ∃ o', h'.get? b = some o'
  tups : ∀ b xs, H b = some (.tup xs) → H' b = some (.tup xs)
  frzs : ∀ b o u, H b = some (.frz o u) → H' b = some (.frz o u)
  tbls : ∀ b ps, H b = some (.tbl ps) → ∃ more, H' b = some (.tbl (ps ++ more))
section
variable {fs fs' ex ex' : List Addr} {H H1 H2 : Hp} {h h1 h2 h' : Heap} {a x e : Addr} {o : HO}
theorem Un.any (u : Un fs ex H H1 h h1) {b : Addr} {ob : Obj} (q : h.get? b = some ob) (n : H b = none) (hx : b ∉ ex) : ∃ sl, h1.get? b = some { ob with slots := sl } := by
  by_cases hb : b ∈ fs
  · exact u.slot b ob q n hb hx
  · exact ⟨ob.slots, u.keep b ob q n hb hx⟩
theorem Un.kept (k : ∀ b u, h.get? b = some u → h'.get? b = some u) : Un fs ex H H h h' :=
  ⟨fun b ob q _ _ _ => k b ob q, fun b ob q _ _ _ => ⟨ob.slots, k b ob q⟩, fun _ _ _ n _ => n, fun b ob q _ => ⟨ob, k b ob q⟩, fun _ _ q => q, fun _ _ _ q => q, fun _ ps q => ⟨#[], by rw [q]; simp⟩⟩
theorem Un.refl : Un fs ex H H h h := Un.kept fun _ _ q => q
theorem Un.laid (k : ∀ b u, h.get? b = some u → h'.get? b = some u) (hp : h.objs.size ≤ a) (hn : H a = none) : Un fs ex H (upd H a o) h h' where
  keep := fun b u q _ _ _ => k b u q
  slot := fun b u q _ _ _ => ⟨u.slots, k b u q⟩
  free := fun b u q n _ => by rw [upd_ne (Nat.ne_of_lt (Nat.lt_of_lt_of_le (Heap.lt_size q) hp))]; exact n
  there := fun b u q _ => ⟨u, k b u q⟩
  tups := fun b xs q => by rw [upd_ne (ne_of_none q hn)]; exact q
  frzs := fun b u xs q => by rw [upd_ne (ne_of_none q hn)]; exact q
  tbls := fun b ps q => ⟨#[], by rw [upd_ne (ne_of_none q hn), q]; simp⟩
theorem Un.write (mu : Mut (H x)) (he : e = x ∨ H e = some (.own x)) (k : ∀ b u, b ≠ e → h.get? b = some u → h'.get? b = some u) (heo : ∃ u, h'.get? e = some u) : Un fs ex H (upd H x o) h h' := by
  have hx : ∀ b, H b = none → b ≠ x := fun b n z => by subst z; rw [n] at mu; exact mu
  have hb : ∀ b, H b = none → b ≠ e := fun b n z => by
    subst z
    rcases he with r | r
    · exact hx b n r
    · rw [n] at r; cases r
  have hm : ∀ b u, H b = some u → ¬ Mut (some u) → b ≠ x := fun b u q nm z => by subst z; rw [q] at mu; exact nm mu
  refine ⟨fun b u q n _ _ => k b u (hb b n) q, fun b u q n _ _ => ⟨u.slots, k b u (hb b n) q⟩, fun b u q n _ => by rw [upd_ne (hx b n)]; exact n, fun b u q _ => ?_,
    fun b xs q => by rw [upd_ne (hm b _ q fun z => z)]; exact q, fun b u xs q => by rw [upd_ne (hm b _ q fun z => z)]; exact q, fun b ps q => ⟨#[], by rw [upd_ne (hm b _ q fun z => z), q]; simp⟩⟩
  by_cases hbe : b = e
  · subst hbe; exact heo
  · exact ⟨u, k b u hbe q⟩
end

/-! ### the heap without what is tracked -/
def trk (h : Heap) (H : Hp) : List Addr := (List.range h.objs.size).filter fun a => (H a).isSome
def hidT (h : Heap) (H : Hp) : Heap := PySem.W.hideAll h (trk h H)
theorem hidT_size (h : Heap) (H : Hp) : (hidT h H).objs.size = h.objs.size := PySem.W.hideAll_size _ _
theorem hidT_get {h : Heap} {H : Hp} {b : Addr} {o : Obj} (e : h.get? b = some o) (n : H b = none) : (hidT h H).get? b = some o :=
  PySem.W.hideAll_get _ e fun hm => by
    have q : (H b).isSome = true := (List.mem_filter.mp hm).2
    rw [n] at q; simp at q
theorem of_hidT {h : Heap} {H : Hp} {b : Addr} {o : Obj} (e : (hidT h H).get? b = some o) : h.get? b = some o ∧ H b = none := by
  have e' : h.get? b = some o := PySem.W.of_hideAll (trk h H) e
  refine ⟨e', ?_⟩
  cases q : H b with
  | none => rfl
  | some x =>
    have hm : b ∈ trk h H := List.mem_filter.mpr ⟨List.mem_range.mpr (Heap.lt_size e'), by simp [q]⟩
    have z : (hidT h H).get? b = none := PySem.W.hideAll_none (trk h H) hm
    rw [z] at e; cases e

/-! ### OpenK's ledger, filled with every new object but one -/
def allNews (g h : Heap) (L : Addr) : List (Addr × Obj) := (List.range h.objs.size).filterMap fun a => if a = L ∨ (g.get? a).isSome = true then none else (h.get? a).map fun o => (a, o)
def rest (g h : Heap) (L d : Addr) : List (Addr × Obj) := (allNews g h L).filter fun p => decide (p.1 ≠ d)
end L2

namespace L2
open PySem PySem.Spec PyProof.Rows

/-- the module's facts, over the base: the heap at the law's entry without what is tracked there -/
structure Mod (K : PySem.W.Frag) (mg : Str → Option Value) (base : Heap) : Prop where
  kin : K.In base
  glob : base.Ns mainGlobals mg
  blt : ∃ mb, base.Ns builtinsNs mb ∧ ∀ x : Str, x ≠ "__name__" → mb x = bootBuiltins x
  nolimit : base.NoLimit

/-- the context: a def's body (or a comprehension's block) running. base: fixed through the whole law; s₀, H₀: the entry; outer: the frames whose slots others may change (a def's callers); stack: all frames that run;
   ex: iterators that were made ahead of the entry and are walked here (a comprehension's); fn: the names whose cells were made at the entry (a def: all; a comprehension's block: its own); calm: not within an except suite; pn: pins that every state bears; xe: what is wanted of an exception that leaves the code -/
structure Cx where
  prog : Program
  w : World
  K : PySem.W.Frag
  mg : Str → Option Value
  base : Heap
  A : Around
  N : List Str
  s₀ : Shared
  H₀ : Hp
  env : Env
  outer : List Env
  stack : List Env
  ex : List Addr
  fn : Str → Bool
  calm : Bool
  pn : List (Addr × Obj)
  xe : Value → Shared → Prop
/-- the callers' frames -/
def frs (l : List Env) : List Addr := l.filterMap (·.frame)
abbrev Cx.fs (X : Cx) : List Addr := frs X.outer

def Vis (sc : Scope) (x : Str) : Prop := sc.names.lookup x = some .local ∨ sc.names.lookup x = some .cell ∨ sc.names.lookup x = some .free
def Loc (sc : Scope) (x : Str) : Prop := sc.names.lookup x = some .local ∨ sc.names.lookup x = some .cell
def Look (env : Env) (h : Heap) (m : Str → Option Value) (x : Str) (u : Value) : Prop :=
  (env.kindOf x = some .local ∧ m x = some u) ∨ ((env.kindOf x = some .cell ∨ env.kindOf x = some .free) ∧ ∃ c, env.cells.lookup x = some c ∧ h.IsCell c (some u))

structure Cx.Ok (X : Cx) : Prop where
  mod : Mod X.K X.mg X.base
  kind : X.env.scope.kind = .function
  glob : X.env.globals = mainGlobals
  blt : X.env.builtins = builtinsNs
  above : X.s₀.heap.objs.size ≤ X.env.locals
  inj : ∀ x y c, X.env.cells.lookup x = some c → X.env.cells.lookup y = some c → x = y
  has : ∀ x, (X.env.kindOf x = some .cell ∨ X.env.kindOf x = some .free) → ∃ c, X.env.cells.lookup x = some c
  cab : ∀ x c, X.fn x = true → X.env.cells.lookup x = some c → X.s₀.heap.objs.size ≤ c
  hd : X.calm = true → X.A.handled = none
  frames : X.A.frames = some X.stack
  stk : X.stack = X.outer ∨ (X.stack = X.env :: X.outer ∧ X.env.frame = some X.env.locals)
  exf : ∀ b ∈ X.ex, b ≠ X.env.locals ∧ ∀ x c, X.env.cells.lookup x = some c → c ≠ b
  bs : ∀ b o, X.base.get? b = some o → X.s₀.heap.get? b = some o ∧ X.H₀ b = none
  bsz : X.base.objs.size ≤ X.s₀.heap.objs.size
  noex : ∀ b o, X.base.get? b = some o → b ∉ X.ex
  exfs : ∀ b ∈ X.ex, b ∉ X.fs
  funs : X.s₀.heap.FunFrames X.base X.outer
  frf : ∀ b ∈ X.fs, X.H₀ b = none

structure Inv (X : Cx) (pins : List (Addr × Obj)) (σ : List (Option V)) (H : Hp) (s : Shared) : Prop where
  ok : X.Ok
  os : s.os = X.s₀.os
  bare : AllBare s.gens
  base : Un X.fs X.ex X.H₀ H X.s₀.heap s.heap
  loc : ∃ m, s.heap.Ns X.env.locals m ∧ ∀ (i : Nat) (x : Str) (v : V), X.N[i]? = some x → σ[i]? = some (some v) → Vis X.env.scope x → ∃ u, RelV v u ∧ Look X.env s.heap m x u
  cell : ∀ x c, X.env.cells.lookup x = some c → ∃ v, s.heap.IsCell c v
  free : H X.env.locals = none
  freeC : ∀ x c, X.env.cells.lookup x = some c → H c = none
  pin : ∀ p ∈ X.pn ++ pins, s.heap.get? p.1 = some p.2 ∧ H p.1 = none ∧ p.1 ≠ X.env.locals ∧ p.1 ∉ X.fs ∧ ∀ v, p.2.data ≠ .cell v
  hok : HOk X.prog X.w H s.heap
  len : σ.length = X.N.length

section
variable {X : Cx} {pins : List (Addr × Obj)} {σ : List (Option V)} {H H' : Hp} {s : Shared} {h' : Heap}

theorem Cx.Ok.nofr (ok : X.Ok) {b : Addr} {o : Obj} (e : X.base.get? b = some o) : b ∉ X.fs := fun hb => by
  have := (ok.funs.mem hb).1
  rw [e] at this; cases this
theorem Inv.bs (I : Inv X pins σ H s) : ∀ b o, X.base.get? b = some o → s.heap.get? b = some o ∧ H b = none := fun b o e =>
  ⟨I.base.keep b o (I.ok.bs b o e).1 (I.ok.bs b o e).2 (I.ok.nofr e) (I.ok.noex b o e), I.base.free b o (I.ok.bs b o e).1 (I.ok.bs b o e).2 (I.ok.noex b o e)⟩
theorem Inv.bk (I : Inv X pins σ H s) : ∀ b o, X.base.get? b = some o → s.heap.get? b = some o := fun b o e => (I.bs b o e).1
theorem Inv.mod (I : Inv X pins σ H s) : Mod X.K X.mg X.base := I.ok.mod
theorem Inv.kIn (I : Inv X pins σ H s) : X.K.In s.heap := I.ok.mod.kin.keeps I.bk
theorem Inv.lt (I : Inv X pins σ H s) : X.env.locals < s.heap.objs.size := let ⟨_, hn, _⟩ := I.loc; hn.lt
theorem Inv.sz (I : Inv X pins σ H s) : X.s₀.heap.objs.size ≤ s.heap.objs.size := Nat.le_trans I.ok.above (Nat.le_of_lt I.lt)
theorem Inv.nofs (I : Inv X pins σ H s) {a : Addr} (h : s.heap.objs.size ≤ a) : a ∉ X.fs := fun hb => by
  obtain ⟨_, o, ho, _⟩ := I.ok.funs.mem hb
  exact absurd (Nat.lt_of_lt_of_le (Heap.lt_size ho) (Nat.le_trans I.sz h)) (Nat.lt_irrefl _)
theorem Inv.cne (I : Inv X pins σ H s) : ∀ x c, X.env.cells.lookup x = some c → c ≠ X.env.locals := fun x c e z => by
  obtain ⟨v, o, ho, hd⟩ := I.cell x c e
  obtain ⟨m, ⟨o', es, ep, ho', hd', _⟩, _⟩ := I.loc
  rw [z, ho'] at ho; cases ho; rw [hd'] at hd; cases hd
theorem Inv.funs (I : Inv X pins σ H s) : s.heap.FunFrames X.base X.outer := by
  have all : ∀ (l : List Env), (∀ b ∈ frs l, b ∈ X.fs) → X.s₀.heap.FunFrames X.base l → s.heap.FunFrames X.base l := by
    intro l
    induction l with
    | nil => intro _ _; trivial
    | cons env r ih =>
      intro hs hl
      obtain ⟨hk, ⟨L, o, hf, hn, ho, hd⟩, hr⟩ := hl
      have hL : L ∈ X.fs := hs L (by unfold frs; rw [List.filterMap_cons, hf]; exact List.mem_cons_self)
      obtain ⟨sl, e⟩ := I.base.slot L o ho (I.ok.frf L hL) hL fun z => I.ok.exfs L z hL
      exact ⟨hk, ⟨L, _, hf, hn, e, hd⟩, ih (fun b hb => hs b (by unfold frs; rw [List.filterMap_cons, hf]; exact List.mem_cons_of_mem _ hb)) hr⟩
  exact all X.outer (fun _ hb => hb) I.ok.funs

/-- the frames that run, for a call -/
theorem Inv.stack (I : Inv X pins σ H s) : s.heap.FunFrames X.base X.stack := by
  rcases I.ok.stk with e | ⟨e, hf⟩
  · rw [e]; exact I.funs
  · rw [e]
    obtain ⟨m, hn, _⟩ := I.loc
    refine .cons (by rw [I.ok.kind]; decide) hf hn ?_ I.funs
    exact Heap.get?_none_of_le (Nat.le_trans I.ok.bsz I.ok.above)
theorem Inv.stkSub (I : Inv X pins σ H s) : ∀ b ∈ frs X.stack, b ∈ X.env.locals :: X.fs := fun b hb => by
  rcases I.ok.stk with e | ⟨e, hf⟩
  · rw [e] at hb; exact List.mem_cons_of_mem _ hb
  · rw [e] at hb
    unfold frs at hb
    rw [List.filterMap_cons, hf] at hb
    exact hb
theorem Inv.stkFree (I : Inv X pins σ H s) : ∀ b ∈ frs X.stack, H b = none := fun b hb => by
  rcases List.mem_cons.mp (I.stkSub b hb) with e | hb
  · rw [e]; exact I.free
  · obtain ⟨_, o, ho, _⟩ := I.ok.funs.mem hb
    exact I.base.free b o ho (I.ok.frf b hb) fun z => I.ok.exfs b z hb

/-- THE STEP: the untracked objects but the frame and the records at ch are kept (the callers' frames up to slots), the frame's map is kept, the new abstract heap is held -/
theorem Inv.step {g' : Array GenState} {t' : Nat} {d' : Drawn} {ch : List Addr} (I : Inv X pins σ H s)
    (hch : ∀ b ∈ ch, (b ∈ X.ex ∨ X.s₀.heap.objs.size ≤ b) ∧ b ≠ X.env.locals ∧ (∀ x c, X.env.cells.lookup x = some c → c ≠ b) ∧ ∀ p ∈ X.pn ++ pins, p.1 ≠ b)
    (keep : ∀ b o, b ≠ X.env.locals → b ∉ X.fs → b ∉ ch → s.heap.get? b = some o → H b = none → h'.get? b = some o)
    (slot : ∀ b o, b ≠ X.env.locals → b ∈ X.fs → b ∉ ch → s.heap.get? b = some o → H b = none → ∃ sl, h'.get? b = some { o with slots := sl }) (free : ∀ b o, b ∉ ch → s.heap.get? b = some o → H b = none → H' b = none)
    (there : ∀ b o, b ∉ ch → s.heap.get? b = some o → ∃ o', h'.get? b = some o')
    (tups : ∀ b xs, H b = some (.tup xs) → H' b = some (.tup xs)) (frzs : ∀ b o u, H b = some (.frz o u) → H' b = some (.frz o u)) (tbls : ∀ b ps, H b = some (.tbl ps) → ∃ more, H' b = some (.tbl (ps ++ more)))
    (ns : ∀ m, s.heap.Ns X.env.locals m → h'.Ns X.env.locals m) (hok : HOk X.prog X.w H' h') (hg : AllBare g') :
    Inv X pins σ H' { s with heap := h', gens := g', drawn := d', toks := t' } := by
  have neL : ∀ b o, X.s₀.heap.get? b = some o → b ≠ X.env.locals := fun b o e => Nat.ne_of_lt (Nat.lt_of_lt_of_le (Heap.lt_size e) I.ok.above)
  have neC : ∀ b o, X.s₀.heap.get? b = some o → b ∉ X.ex → b ∉ ch := fun b o e hx hb => by
    rcases (hch b hb).1 with z | z
    · exact hx z
    · exact absurd (Nat.lt_of_lt_of_le (Heap.lt_size e) z) (Nat.lt_irrefl _)
  have cellK : ∀ x c, X.env.cells.lookup x = some c → ∀ v, s.heap.IsCell c v → h'.IsCell c v := fun x c e v ⟨o, ho, hd⟩ => by
    have nch : c ∉ ch := fun z => (hch c z).2.2.1 x c e rfl
    by_cases hc : c ∈ X.fs
    · obtain ⟨sl, q⟩ := slot c o (I.cne x c e) hc nch ho (I.freeC x c e)
      exact ⟨_, q, hd⟩
    · exact ⟨o, keep c o (I.cne x c e) hc nch ho (I.freeC x c e), hd⟩
  refine ⟨I.ok, I.os, hg, ⟨fun b o e n hb hx => ?_, fun b o e n hb hx => ?_, fun b o e n hx => ?_, fun b o e hx => ?_, fun b xs e => tups b xs (I.base.tups b xs e), fun b o xs e => frzs b o xs (I.base.frzs b o xs e), fun b ps e => ?_⟩, ?_, fun x c e => ?_, ?_, fun x c e => ?_, fun p hp => ?_, hok, I.len⟩
  · exact keep b o (neL b o e) hb (neC b o e hx) (I.base.keep b o e n hb hx) (I.base.free b o e n hx)
  · obtain ⟨sl, e1⟩ := I.base.slot b o e n hb hx
    obtain ⟨sl', e2⟩ := slot b _ (neL b o e) hb (neC b o e hx) e1 (I.base.free b o e n hx)
    exact ⟨sl', e2⟩
  · obtain ⟨o', e1⟩ := I.base.there b o e hx
    exact free b o' (neC b o e hx) e1 (I.base.free b o e n hx)
  · obtain ⟨o', e1⟩ := I.base.there b o e hx
    exact there b o' (neC b o e hx) e1
  · obtain ⟨m1, e1⟩ := I.base.tbls b ps e
    obtain ⟨m2, e2⟩ := tbls b _ e1
    exact ⟨m1 ++ m2, by rw [e2, Array.append_assoc]⟩
  · obtain ⟨m, hn, hl⟩ := I.loc
    refine ⟨m, ns m hn, fun i x v e1 e2 e3 => ?_⟩
    obtain ⟨u, r, l⟩ := hl i x v e1 e2 e3
    refine ⟨u, r, ?_⟩
    rcases l with l | ⟨k, c, e, z⟩
    · exact .inl l
    · exact .inr ⟨k, c, e, cellK x c e _ z⟩
  · obtain ⟨v, z⟩ := I.cell x c e
    exact ⟨v, cellK x c e v z⟩
  · obtain ⟨m, ⟨o, _, _, ho, _⟩, _⟩ := I.loc
    exact free _ o (fun z => (hch _ z).2.1 rfl) ho I.free
  · obtain ⟨v, o, ho, hd⟩ := I.cell x c e
    exact free c o (fun z => (hch c z).2.2.1 x c e rfl) ho (I.freeC x c e)
  · obtain ⟨e, n, ne, nf, d⟩ := I.pin p hp
    have nch : p.1 ∉ ch := fun z => (hch p.1 z).2.2.2 p hp rfl
    exact ⟨keep p.1 p.2 ne nf nch e n, free p.1 p.2 nch e n, ne, nf, d⟩
/-- .. where the frame's own object is kept too -/
theorem Inv.un {t' : Nat} (I : Inv X pins σ H s) (u : Un X.fs [] H H' s.heap h') (hok : HOk X.prog X.w H' h') : Inv X pins σ H' { s with heap := h', toks := t' } := by
  obtain ⟨m, ⟨o, es, ep, ho, r⟩, _⟩ := id I.loc
  obtain ⟨sl, hL⟩ := u.any ho I.free (by simp)
  exact I.step (g' := s.gens) (d' := s.drawn) (ch := []) (fun _ z => nomatch z) (fun b o _ hb _ e n => u.keep b o e n hb (by simp)) (fun b o _ hb _ e n => u.slot b o e n hb (by simp)) (fun b o _ e n => u.free b o e n (by simp)) (fun b o _ e => u.there b o e (by simp)) u.tups u.frzs u.tbls (fun m' hm => by
    obtain ⟨o', es', ep', ho', r'⟩ := hm
    rw [ho] at ho'; cases ho'
    exact ⟨_, es', ep', hL, r'⟩) hok I.bare
/-- behind a call (or a comprehension's block): the slots of this frame may have changed too, the records at ch may have turned -/
theorem Inv.call {g' : Array GenState} {t' : Nat} {d' : Drawn} {ch : List Addr} (I : Inv X pins σ H s) (u : Un (frs X.stack) ch H H' s.heap h') (hok : HOk X.prog X.w H' h') (hg : AllBare g')
    (hch : ∀ b ∈ ch, (b ∈ X.ex ∨ X.s₀.heap.objs.size ≤ b) ∧ b ≠ X.env.locals ∧ (∀ x c, X.env.cells.lookup x = some c → c ≠ b) ∧ ∀ p ∈ X.pn ++ pins, p.1 ≠ b) :
    Inv X pins σ H' { s with heap := h', gens := g', drawn := d', toks := t' } := by
  obtain ⟨m, ⟨o, es, ep, ho, r⟩, _⟩ := id I.loc
  obtain ⟨sl, hL⟩ := u.any ho I.free fun z => (hch _ z).2.1 rfl
  exact I.step (ch := ch) hch (fun b o hL hb hc e n => u.keep b o e n (fun z => (List.mem_cons.mp (I.stkSub b z)).elim hL hb) hc) (fun b o _ _ hc e n => u.any e n hc) (fun b o hc e n => u.free b o e n hc) (fun b o hc e => u.there b o e hc) u.tups u.frzs u.tbls (fun m' hm => by
    obtain ⟨o', es', ep', ho', r'⟩ := hm
    rw [ho] at ho'; cases ho'
    exact ⟨_, es', ep', hL, r'⟩) hok hg
/-- an untracked record of ours (an iterator) has turned -/
theorem Inv.turned {t' : Nat} {it : Addr} (I : Inv X pins σ H s) (k : ∀ b o, b ≠ it → s.heap.get? b = some o → h'.get? b = some o) (hn : H it = none) (hL : it ≠ X.env.locals)
    (h1 : it ∈ X.ex ∨ X.s₀.heap.objs.size ≤ it) (h2 : ∀ x c, X.env.cells.lookup x = some c → c ≠ it) (h3 : ∀ p ∈ X.pn ++ pins, p.1 ≠ it) : Inv X pins σ H { s with heap := h', toks := t' } := by
  have nit : ∀ b u, H b = some u → b ≠ it := fun b u e z => by rw [z, hn] at e; cases e
  refine I.step (g' := s.gens) (d' := s.drawn) (ch := [it]) (fun b hb => ?_) (fun b o _ _ hc e _ => k b o (fun z => hc (by simp [z])) e) (fun b o _ _ hc e _ => ⟨o.slots, k b o (fun z => hc (by simp [z])) e⟩) (fun _ _ _ _ n => n)
    (fun b o hc e => ⟨o, k b o (fun z => hc (by simp [z])) e⟩) (fun _ _ e => e) (fun _ _ _ e => e) (fun b ps e => ⟨#[], by rw [e]; simp⟩) (fun m hm => ?_) (fun b u e => ?_) I.bare
  · have e : b = it := by simpa using hb
    subst e
    exact ⟨h1, hL, h2, h3⟩
  · obtain ⟨o, es, ep, ho, r⟩ := hm
    exact ⟨o, es, ep, k _ o (Ne.symm hL) ho, r⟩
  · refine (I.hok b u e).stay (fun c v hc q => k c v ?_ q) (fun _ q => q) fun _ _ q => q
    rcases hc with z | z
    · rw [z]; exact nit b u e
    · exact nit c _ z
theorem Inv.tok (I : Inv X pins σ H s) (t : Nat) : Inv X pins σ H { s with toks := t } := I.un (h' := s.heap) (t' := t) Un.refl I.hok
/-- all objects kept -/
theorem Inv.kept {t' : Nat} (I : Inv X pins σ H s) (k : ∀ b u, s.heap.get? b = some u → h'.get? b = some u) : Inv X pins σ H { s with heap := h', toks := t' } := I.un (Un.kept k) (I.hok.kept k)
/-- a new object laid and tracked -/
theorem Inv.laid {a : Addr} {o : HO} {t' : Nat} (I : Inv X pins σ H s) (k : ∀ b u, s.heap.get? b = some u → h'.get? b = some u) (hp : s.heap.objs.size ≤ a) (new : ObjOk X.prog X.w (upd H a o) h' a o) :
    Inv X pins σ (upd H a o) { s with heap := h', toks := t' } := I.un (Un.laid k hp (I.hok.fresh hp)) (I.hok.laid k hp new)
/-- an object written -/
theorem Inv.write {x e : Addr} {o : HO} {t' : Nat} (I : Inv X pins σ H s) (mu : Mut (H x)) (he : e = x ∨ H e = some (.own x)) (k : ∀ b u, b ≠ e → s.heap.get? b = some u → h'.get? b = some u) (heo : ∃ u, h'.get? e = some u)
    (new : ObjOk X.prog X.w (upd H x o) h' x o) : Inv X pins σ (upd H x o) { s with heap := h', toks := t' } := I.un (Un.write mu he k heo) (I.hok.write mu he k heo new)
theorem Inv.pins_of {pins' : List (Addr × Obj)} (I : Inv X pins σ H s) (h : ∀ p ∈ pins', s.heap.get? p.1 = some p.2 ∧ H p.1 = none ∧ p.1 ≠ X.env.locals ∧ p.1 ∉ X.fs ∧ ∀ v, p.2.data ≠ .cell v) : Inv X pins' σ H s :=
  ⟨I.ok, I.os, I.bare, I.base, I.loc, I.cell, I.free, I.freeC, fun p hp => (List.mem_append.mp hp).elim (fun z => I.pin p (List.mem_append_left _ z)) (h p), I.hok, I.len⟩

theorem nodup_ix {N : List Str} (hN : N.Nodup) {i j : Nat} {x : Str} (a : N[i]? = some x) (b : N[j]? = some x) : i = j := by
  obtain ⟨h1, e1⟩ := List.getElem?_eq_some_iff.mp a
  obtain ⟨h2, e2⟩ := List.getElem?_eq_some_iff.mp b
  exact (List.getElem_inj hN).mp (e1.trans e2.symm)

/-- a name is stored; what changed -/
theorem store_ok2 {M : Model} {A : Around} {E : Value → Shared → Prop} {i : Nat} {x : Str} {v : V} {u : Value} {Q : Unit → Shared → Prop} (I : Inv X pins σ H s) (hN : X.N.Nodup) (hi : X.N[i]? = some x) (hx : Loc X.env.scope x) (r : RelV v u)
    (h : ∀ s', Inv X pins (σ.set i (some v)) H s' → (∃ a, Heap.SameBut a s.heap s'.heap ∧ (a = X.env.locals ∨ X.env.cells.lookup x = some a)) → Q () s') (hf : X.fn x = true ∨ X.env.scope.names.lookup x = some .local := by first | exact .inl rfl | exact .inr rfl | assumption) : wpAny M A (storeName X.env x u) Q E s := by
  obtain ⟨m, hn, hl⟩ := id I.loc
  have hcls : (X.env.scope.kind == .class || (X.env.scope.kind == .module && X.env.locals != X.env.globals)) = false := by rw [I.ok.kind]; rfl
  have hiσ : i < σ.length := by rw [I.len]; exact (List.getElem?_eq_some_iff.mp hi).1
  have cne := I.cne
  have tracked : ∀ {a : Addr} {h' : Heap}, (∃ o, s.heap.get? a = some o ∧ H a = none) → Heap.SameBut a s.heap h' → HOk X.prog X.w H h' := fun {a h'} ha hs b ob e => by
    obtain ⟨_, _, hfree⟩ := ha
    refine (I.hok b ob e).stay (fun c w' hc q => (hs.2 c ?_).trans q) (fun _ q => q) fun _ _ q => q
    rintro rfl
    rcases hc with rfl | hc
    · rw [hfree] at e; cases e
    · rw [hfree] at hc; cases hc
  rcases hx with hk | hk
  · refine wpAny_storeName_local hk hn (fun h' hn' hs => ?_) hcls
    obtain ⟨oL, _, _, hoL, _⟩ := id hn
    refine h _ ⟨I.ok, I.os, I.bare, ⟨fun b o e n hb hx => ?_, fun b o e n hb hx => ?_, I.base.free, fun b o e hx => ?_, I.base.tups, I.base.frzs, I.base.tbls⟩, ⟨_, hn', fun j y v' e1 e2 e3 => ?_⟩, fun y c e => ?_, I.free, I.freeC, fun p hp => ?_, tracked ⟨oL, hoL, I.free⟩ hs, by simpa using I.len⟩ ⟨_, hs, .inl rfl⟩
    · exact (hs.2 b (Nat.ne_of_lt (Nat.lt_of_lt_of_le (Heap.lt_size e) I.ok.above))).trans (I.base.keep b o e n hb hx)
    · obtain ⟨sl, e1⟩ := I.base.slot b o e n hb hx
      exact ⟨sl, (hs.2 b (Nat.ne_of_lt (Nat.lt_of_lt_of_le (Heap.lt_size e) I.ok.above))).trans e1⟩
    · obtain ⟨o', e1⟩ := I.base.there b o e hx
      exact ⟨o', (hs.2 b (Nat.ne_of_lt (Nat.lt_of_lt_of_le (Heap.lt_size e) I.ok.above))).trans e1⟩
    · by_cases hj : j = i
      · subst hj
        rw [hi] at e1; cases e1
        rw [List.getElem?_set_self hiσ] at e2
        cases e2
        exact ⟨u, r, .inl ⟨hk, by simp⟩⟩
      · rw [List.getElem?_set_ne (Ne.symm hj)] at e2
        obtain ⟨u', r', q⟩ := hl j y v' e1 e2 e3
        refine ⟨u', r', ?_⟩
        rcases q with ⟨k, e⟩ | ⟨k, c, e, z⟩
        · refine .inl ⟨k, ?_⟩
          have : y ≠ x := fun e => hj (nodup_ix hN e1 (e ▸ hi))
          simp [this, e]
        · exact .inr ⟨k, c, e, z.sameBut hs (cne y c e)⟩
    · obtain ⟨w', z⟩ := I.cell y c e
      exact ⟨w', z.sameBut hs (cne y c e)⟩
    · obtain ⟨e, n, ne, nf, d⟩ := I.pin p hp
      exact ⟨(hs.2 p.1 ne).trans e, n, ne, nf, d⟩
  · have hfn : X.fn x = true := by
      rcases hf with z | z
      · exact z
      · rw [z] at hk; cases hk
    obtain ⟨c, hc⟩ := I.ok.has x (.inl hk)
    obtain ⟨w', z⟩ := I.cell x c hc
    refine wpAny_storeName_cell I.ok.kind hk hc z (fun h' hc' hs => ?_)
    obtain ⟨oc, hoc, hocd⟩ := id z
    refine h { s with heap := h' } ⟨I.ok, I.os, I.bare, ⟨fun b o e n hb hx => ?_, fun b o e n hb hx => ?_, I.base.free, fun b o e hx => ?_, I.base.tups, I.base.frzs, I.base.tbls⟩, ⟨m, hn.sameBut hs (Ne.symm (cne x c hc)), fun j y v' e1 e2 e3 => ?_⟩, fun y c' e => ?_, I.free, I.freeC, fun p hp => ?_, tracked ⟨oc, hoc, I.freeC x c hc⟩ hs, by simpa using I.len⟩ ⟨c, hs, .inr hc⟩
    · exact (hs.2 b (Nat.ne_of_lt (Nat.lt_of_lt_of_le (Heap.lt_size e) (I.ok.cab x c hfn hc)))).trans (I.base.keep b o e n hb hx)
    · obtain ⟨sl, e1⟩ := I.base.slot b o e n hb hx
      exact ⟨sl, (hs.2 b (Nat.ne_of_lt (Nat.lt_of_lt_of_le (Heap.lt_size e) (I.ok.cab x c hfn hc)))).trans e1⟩
    · obtain ⟨o', e1⟩ := I.base.there b o e hx
      exact ⟨o', (hs.2 b (Nat.ne_of_lt (Nat.lt_of_lt_of_le (Heap.lt_size e) (I.ok.cab x c hfn hc)))).trans e1⟩
    · by_cases hj : j = i
      · subst hj
        rw [hi] at e1; cases e1
        rw [List.getElem?_set_self hiσ] at e2
        cases e2
        exact ⟨u, r, .inr ⟨.inl hk, c, hc, hc'⟩⟩
      · rw [List.getElem?_set_ne (Ne.symm hj)] at e2
        obtain ⟨u', r', q⟩ := hl j y v' e1 e2 e3
        refine ⟨u', r', ?_⟩
        rcases q with q | ⟨k, c', e, z'⟩
        · exact .inl q
        · refine .inr ⟨k, c', e, z'.sameBut hs ?_⟩
          rintro rfl
          exact hj (nodup_ix hN e1 (I.ok.inj _ _ _ e hc ▸ hi))
    · by_cases hcc : c' = c
      · subst hcc; exact ⟨_, hc'⟩
      · obtain ⟨w2, z2⟩ := I.cell y c' e
        exact ⟨w2, z2.sameBut hs hcc⟩
    · obtain ⟨e, n, ne, nf, d⟩ := I.pin p hp
      refine ⟨(hs.2 p.1 ?_).trans e, n, ne, nf, d⟩
      intro q
      rw [q, hoc] at e
      have q' : oc = p.2 := Option.some.inj e
      exact d w' (by rw [← q']; exact hocd)
theorem store_ok {M : Model} {A : Around} {E : Value → Shared → Prop} {i : Nat} {x : Str} {v : V} {u : Value} {Q : Unit → Shared → Prop} (I : Inv X pins σ H s) (hN : X.N.Nodup) (hi : X.N[i]? = some x) (hx : Loc X.env.scope x) (r : RelV v u)
    (h : ∀ s', Inv X pins (σ.set i (some v)) H s' → Q () s') (hf : X.fn x = true ∨ X.env.scope.names.lookup x = some .local := by first | exact .inl rfl | exact .inr rfl | assumption) : wpAny M A (storeName X.env x u) Q E s :=
  store_ok2 I hN hi hx r (fun s' I' _ => h s' I') hf
/-- behind a call or a block, the state as it is -/
theorem Inv.call' {s' : Shared} {ch : List Addr} (I : Inv X pins σ H s) (ho : s'.os = s.os) (u : Un (frs X.stack) ch H H' s.heap s'.heap) (hok : HOk X.prog X.w H' s'.heap) (hg : AllBare s'.gens)
    (hch : ∀ b ∈ ch, (b ∈ X.ex ∨ X.s₀.heap.objs.size ≤ b) ∧ b ≠ X.env.locals ∧ (∀ x c, X.env.cells.lookup x = some c → c ≠ b) ∧ ∀ p ∈ X.pn ++ pins, p.1 ≠ b) : Inv X pins σ H' s' := by
  obtain ⟨h', g', d', t', o'⟩ := s'
  have e : o' = s.os := ho
  subst e
  exact I.call (g' := g') (t' := t') (d' := d') u hok hg hch
end

/-! ### the judgements -/
/-- an exception: its class, its own dict's address (where it has one), the abstract heap behind it -/
abbrev XK := Value → Option Addr → Hp → Prop
abbrev St := List (Option V)
abbrev VK := V → Hp → Prop
/-- an expression's reading; a test's; an argument list's -/
abbrev TE := St → Hp → VK → Prop
abbrev TT := St → Hp → (Bool → Hp → Prop) → Prop
abbrev TA := St → Hp → (List V → Hp → Prop) → Prop
/-- what is wanted behind a statement -/
structure Ends where
  nx : St → Hp → Prop
  rt : VK
  bk : St → Hp → Prop := fun _ _ => False
  ct : St → Hp → Prop := fun _ _ => False
abbrev TS := Ends → St → Hp → Prop

def EP (X : Cx) (pins : List (Addr × Obj)) (σ : St) (Q : VK) (u : Value) (s' : Shared) : Prop := ∃ v H', Inv X pins σ H' s' ∧ RelV v u ∧ Q v H'
def TP (X : Cx) (pins : List (Addr × Obj)) (σ : St) (Q : Bool → Hp → Prop) (b : Bool) (s' : Shared) : Prop := ∃ H', Inv X pins σ H' s' ∧ Q b H'
def AP (X : Cx) (pins : List (Addr × Obj)) (σ : St) (Q : List V → Hp → Prop) (us : List Value) (s' : Shared) : Prop := ∃ vs H', Inv X pins σ H' s' ∧ Vals vs us ∧ Q vs H'
def SP (X : Cx) (pins : List (Addr × Obj)) (D : Ends) (f : Flow) (s' : Shared) : Prop :=
  match f with
  | .next => ∃ σ' H', Inv X pins σ' H' s' ∧ D.nx σ' H'
  | .brk => ∃ σ' H', Inv X pins σ' H' s' ∧ D.bk σ' H'
  | .cont => ∃ σ' H', Inv X pins σ' H' s' ∧ D.ct σ' H'
  | .ret u => ∃ v σ' H', Inv X pins σ' H' s' ∧ RelV v u ∧ D.rt v H'

def PE (X : Cx) (e : Expr) (t : TE) : Prop :=
  ∀ (pins : List (Addr × Obj)) (s : Shared) (σ : St) (H : Hp) (Q : VK), Inv X pins σ H s → t σ H Q → wpAny (model X.prog X.w) X.A (eval e X.env) (EP X pins σ Q) X.xe s
def PT (X : Cx) (e : Expr) (t : TT) : Prop :=
  ∀ (pins : List (Addr × Obj)) (s : Shared) (σ : St) (H : Hp) (Q : Bool → Hp → Prop), Inv X pins σ H s → t σ H Q → wpAny (model X.prog X.w) X.A (isTrue e X.env (eval e X.env)) (TP X pins σ Q) X.xe s
/-- a test whatever its 'whole' is (and, or) -/
def PW (X : Cx) (e : Expr) (t : TT) : Prop :=
  ∀ (whole : Sem Value) (pins : List (Addr × Obj)) (s : Shared) (σ : St) (H : Hp) (Q : Bool → Hp → Prop), Inv X pins σ H s → t σ H Q → wpAny (model X.prog X.w) X.A (isTrue e X.env whole) (TP X pins σ Q) X.xe s
theorem PW.pt {X : Cx} {e : Expr} {t : TT} (h : PW X e t) : PT X e t := h _
/-- an argument list (no star), from the left -/
def PA (X : Cx) (es : List Expr) (t : TA) : Prop :=
  ∀ (pos : Pos) (pins : List (Addr × Obj)) (s : Shared) (σ : St) (H : Hp) (Q : List V → Hp → Prop), Inv X pins σ H s → t σ H Q → wpAny (model X.prog X.w) X.A (spliced (backTo pos (starEach es X.env))) (AP X pins σ Q) X.xe s
def PS (X : Cx) (st : Stmt) (t : TS) : Prop :=
  ∀ (pins : List (Addr × Obj)) (s : Shared) (σ : St) (H : Hp) (D : Ends), Inv X pins σ H s → t D σ H → wpAny (model X.prog X.w) X.A (exec st X.env) (SP X pins D) X.xe s
def PSs (X : Cx) (st : List Stmt) (t : TS) : Prop :=
  ∀ (pins : List (Addr × Obj)) (s : Shared) (σ : St) (H : Hp) (D : Ends), Inv X pins σ H s → t D σ H → wpAny (model X.prog X.w) X.A (execs st X.env) (SP X pins D) X.xe s
/-- weaken the end -/
theorem thn {α : Type} {t : Sem α} {Q Q' : α → Shared → Prop} {M : Model} {A : Around} {E : Value → Shared → Prop} {s : Shared} (h : wpAny M A t Q E s) (hQ : ∀ a s, Q a s → Q' a s) : wpAny M A t Q' E s := wpAny_mono h hQ fun _ _ x => x
end L2

namespace L2
open PySem PySem.Spec PyProof.Rows
section
variable {X : Cx}

/-- two expressions in a row -/
theorem bin {a b : Expr} {ta tb : TE} (ha : PE X a ta) (hb : PE X b tb) {pins : List (Addr × Obj)} {s : Shared} {σ : St} {H : Hp} {R : V → V → Hp → Prop} (I : Inv X pins σ H s) (h : ta σ H fun x H1 => tb σ H1 fun y H2 => R x y H2)
    {α : Type} {Q : α → Shared → Prop} {f : Value → Value → Sem α}
    (hf : ∀ v u s2 x y H2, Inv X pins σ H2 s2 → RelV x v → RelV y u → R x y H2 → wpAny (model X.prog X.w) X.A (f v u) Q X.xe s2) :
    wpAny (model X.prog X.w) X.A (eval a X.env) (fun v s₁ => wpAny (model X.prog X.w) X.A (eval b X.env) (fun u s₂ => wpAny (model X.prog X.w) X.A (f v u) Q X.xe s₂) X.xe s₁) X.xe s := by
  refine thn (ha pins s σ H _ I h) fun v s1 ⟨x, H1, I1, r1, q1⟩ => ?_
  refine thn (hb pins s1 σ H1 _ I1 q1) fun u s2 ⟨y, H2, I2, r2, q2⟩ => ?_
  exact hf v u s2 x y H2 I2 r1 r2 q2

/-! ### names and constants -/
def tVar (i : Nat) : TE := fun σ H Q => ∃ v, σ[i]? = some (some v) ∧ Q v H
def tC (v : V) : TE := fun _ H Q => Q v H
theorem pe_var {i : Nat} {x : Str} {pos : Pos} (hN : X.N[i]? = some x) (hv : Vis X.env.scope x) (hd : (x == ("__debug__" : Str)) = false := by decide) (hcd : (x == ("__classdict__" : Str)) = false := by decide) : PE X (.Name x pos) (tVar i) := by
  intro pins s σ H Q I h
  obtain ⟨v, e, h⟩ := h
  obtain ⟨m, hn, hl⟩ := I.loc
  obtain ⟨u, r, l⟩ := hl i x v hN e hv
  have fin : EP X pins σ Q u s := ⟨v, H, I, r, h⟩
  rcases l with ⟨hk, hm⟩ | ⟨hk, c, hc, hcell⟩
  · exact wpAny_Name (wpAny_loadName_local I.ok.kind hk hn hm fin) hd
  · rcases hk with hk | hk
    · exact wpAny_Name (wpAny_loadName_cell I.ok.kind hk hc hcell fin) hd
    · exact wpAny_Name (wpAny_loadName_free I.ok.kind hk hc hcell fin hcd) hd
theorem pe_int {i j pos} : PE X (.Constant (.int i) j pos) (tC (.int i)) := fun _ _ _ H _ I h => wpAny_Constant_int ⟨.int i, H, I.tok _, ⟨_, rfl⟩, h⟩
theorem pe_bl {b j pos} : PE X (.Constant (.bool b) j pos) (tC (.bl b)) := fun _ _ _ H _ I h => Constant_bool ⟨.bl b, H, I, rfl, h⟩
theorem pe_str {x j pos} : PE X (.Constant (.str x) j pos) (tC (.str x)) := fun _ _ _ H _ I h => Calls.Constant_str ⟨.str x, H, I.tok _, ⟨_, rfl⟩, h⟩

/-- a global name of the def -/
def Gl (X : Cx) (x : Str) : Prop := X.env.kindOf x = some .globalImplicit
theorem ld_glob {E : Value → Shared → Prop} {pins : List (Addr × Obj)} {s : Shared} {σ : St} {H : Hp} {x : Str} {u : Value} {pos : Pos} {Q : Value → Shared → Prop} (I : Inv X pins σ H s) (hg : Gl X x) (hm : X.mg x = some u) (h : Q u s)
    (hd : (x == ("__debug__" : Str)) = false := by decide) : wpAny (model X.prog X.w) X.A (eval (.Name x pos) X.env) Q E s :=
  Calls.Name_function_global I.ok.kind hg (Calls.loadGlobal_global (by rw [I.ok.glob]; exact I.mod.glob.keeps I.bk) hm h) hd
theorem ld_blt {E : Value → Shared → Prop} {pins : List (Addr × Obj)} {s : Shared} {σ : St} {H : Hp} {x : Str} {u : Value} {pos : Pos} {Q : Value → Shared → Prop} (I : Inv X pins σ H s) (hg : Gl X x) (hm : X.mg x = none) (hv : bootBuiltins x = some u) (h : Q u s)
    (hn : x ≠ "__name__" := by decide) (hd : (x == ("__debug__" : Str)) = false := by decide) : wpAny (model X.prog X.w) X.A (eval (.Name x pos) X.env) Q E s := by
  obtain ⟨mb, h1, h2⟩ := I.mod.blt
  exact Calls.Name_function_global I.ok.kind hg (Calls.loadGlobal_builtin (by rw [I.ok.glob]; exact I.mod.glob.keeps I.bk) hm (by rw [I.ok.blt]; exact h1.keeps I.bk) ((h2 x hn).trans hv) h) hd
/-- a module's constant, a class, a function, as a value -/
theorem pe_glob {x : Str} {v : V} {u : Value} {pos : Pos} (hg : Gl X x) (hm : X.mg x = some u) (r : RelV v u) (hd : (x == ("__debug__" : Str)) = false := by decide) : PE X (.Name x pos) (tC v) :=
  fun _ _ _ H _ I h => ld_glob I hg hm ⟨v, H, I, r, h⟩ hd
theorem pe_bltn {x : Str} {v : V} {u : Value} {pos : Pos} (hg : Gl X x) (hm : X.mg x = none) (hv : bootBuiltins x = some u) (r : RelV v u) (hn : x ≠ "__name__" := by decide) (hd : (x == ("__debug__" : Str)) = false := by decide) : PE X (.Name x pos) (tC v) :=
  fun _ _ _ H _ I h => ld_blt I hg hm hv ⟨v, H, I, r, h⟩ hn hd

/-! ### arithmetic -/
variable {a b : Expr} {ta tb : TE} {pos : Pos}
/-! ### comparisons -/
def PC (X : Cx) (op : CmpOp) (a b : Expr) (t : TE) : Prop :=
  ∀ (pins : List (Addr × Obj)) (s : Shared) (σ : St) (H : Hp) (Q : VK), Inv X pins σ H s → t σ H Q →
    wpAny (model X.prog X.w) X.A (eval a X.env) (fun v s₁ => wpAny (model X.prog X.w) X.A (eval b X.env) (fun u s₂ => wpAny (model X.prog X.w) X.A (compareOp op v u) (EP X pins σ Q) X.xe s₂) X.xe s₁) X.xe s
theorem nobehind (b : Expr) {op : CmpOp} (h : op ≠ .In) (h2 : op ≠ .NotIn) : behindInMarks op b = false := by
  have e1 : (op == CmpOp.In) = false := by cases op <;> first | rfl | exact absurd rfl h
  have e2 : (op == CmpOp.NotIn) = false := by cases op <;> first | rfl | exact absurd rfl h2
  cases b <;> simp [behindInMarks, e1, e2]
/-- a comparison as a value, as a test -/
def tB (t : TE) : TT := fun σ H Q => t σ H fun x H1 => ∃ c, x = .bl c ∧ Q c H1
theorem pe_cmp {op : CmpOp} {t : TE} (h : PC X op a b t) (h1 : behindInMarks op b = false := by first | exact nobehind _ (by decide) (by decide) | rfl) : PE X (.Compare a [op] [b] pos) t := fun pins s σ H Q I hw => wpAny_Compare1 (h pins s σ H Q I hw) h1
theorem pt_cmp {op : CmpOp} {t : TE} (h : PC X op a b t) (h1 : behindInMarks op b = false := by first | exact nobehind _ (by decide) (by decide) | rfl) : PT X (.Compare a [op] [b] pos) (tB t) := by
  intro pins s σ H Q I hw
  refine wpAny_isTrue_Compare1 (thn (h pins s σ H _ I hw) fun v s1 h1 => thn h1 fun u s2 h2 => thn h2 fun c s3 ⟨x, H1, I1, r1, q1⟩ => ?_) h1
  obtain ⟨d, rfl, q⟩ := q1
  cases r1
  exact wpAny_truthy_bool ⟨H1, I1, q⟩
/-- an expression whose value is a bool, as a test -/
theorem pt_val {e : Expr} {t : TE} (h : PE X e t) (he : ∀ whole, isTrue e X.env whole = (do let v ← whole; standAt e.pos; holding [v] (truthy v)) := by intro _; rfl) : PT X e (tB t) := by
  intro pins s σ H Q I hw
  refine isTrue_plain (thn (h pins s σ H _ I hw) fun v s1 ⟨x, H1, I1, r1, q1⟩ => ?_) (he _)
  obtain ⟨d, rfl, q⟩ := q1
  cases r1
  exact wpAny_truthy_bool ⟨H1, I1, q⟩

/-! ### and, or, not -/
variable {tA tB' : TT} {rest : List Expr}
def tAnd (t u : TT) : TT := fun σ H Q => t σ H fun c H1 => if c = true then u σ H1 Q else Q false H1
def tOr (t u : TT) : TT := fun σ H Q => t σ H fun c H1 => if c = true then Q true H1 else u σ H1 Q
def tNot (t : TT) : TT := fun σ H Q => t σ H fun c H1 => Q (!c) H1
theorem pw_and1 (ha : PT X a tA) : PW X (.BoolOp .And [a] pos) tA := by
  intro wh pins s σ H Q I h
  refine isTrue_and (thn (ha pins s σ H Q I h) fun c s1 e => ?_)
  cases c with
  | true => exact isTrue_and_nil e
  | false => exact e
theorem pw_or1 (ha : PT X a tA) : PW X (.BoolOp .Or [a] pos) tA := by
  intro wh pins s σ H Q I h
  refine isTrue_or (thn (ha pins s σ H Q I h) fun c s1 e => ?_)
  cases c with
  | false => exact isTrue_or_nil e
  | true => exact e
theorem pw_and (ha : PT X a tA) (hb : PW X (.BoolOp .And (b :: rest) pos) tB') : PW X (.BoolOp .And (a :: b :: rest) pos) (tAnd tA tB') := by
  intro wh pins s σ H Q I h
  refine isTrue_and (thn (ha pins s σ H _ I h) fun c s1 ⟨H1, I1, q1⟩ => ?_)
  cases c with
  | true => exact hb wh pins s1 σ H1 Q I1 q1
  | false => exact ⟨H1, I1, q1⟩
theorem pw_or (ha : PT X a tA) (hb : PW X (.BoolOp .Or (b :: rest) pos) tB') : PW X (.BoolOp .Or (a :: b :: rest) pos) (tOr tA tB') := by
  intro wh pins s σ H Q I h
  refine isTrue_or (thn (ha pins s σ H _ I h) fun c s1 ⟨H1, I1, q1⟩ => ?_)
  cases c with
  | true => exact ⟨H1, I1, q1⟩
  | false => exact hb wh pins s1 σ H1 Q I1 q1
theorem pt_not (ha : PT X a tA) : PT X (.UnaryOp .Not a pos) (tNot tA) := by
  intro pins s σ H Q I h
  exact isTrue_not (ha pins s σ H (fun c H1 => Q (!c) H1) I h)
/-- .. as values (bools) -/
def tAndV (ta tb : TE) : TE := fun σ H Q => ta σ H fun x H1 => ∃ c, x = .bl c ∧ if c = true then tb σ H1 Q else Q (.bl false) H1
def tOrV (ta tb : TE) : TE := fun σ H Q => ta σ H fun x H1 => ∃ c, x = .bl c ∧ if c = true then Q (.bl true) H1 else tb σ H1 Q
def tNotV (ta : TE) : TE := fun σ H Q => ta σ H fun x H1 => ∃ c, x = .bl c ∧ Q (.bl (!c)) H1
theorem pe_one {op} {t : TE} (h : PE X a t) : PE X (.BoolOp op [a] pos) t := fun pins s σ H Q I hw => BoolOp_one (h pins s σ H Q I hw)
theorem pe_and (ha : PE X a ta) (hb : PE X (.BoolOp .And (b :: rest) pos) tb) : PE X (.BoolOp .And (a :: b :: rest) pos) (tAndV ta tb) := by
  intro pins s σ H Q I h
  refine BoolOp_and (thn (ha pins s σ H _ I h) fun v s1 ⟨x, H1, I1, r1, q1⟩ => ?_)
  obtain ⟨c, rfl, q1⟩ := q1
  cases r1
  refine wpAny_truthy_bool ?_
  cases c with
  | true => exact hb pins s1 σ H1 Q I1 q1
  | false => exact ⟨.bl false, H1, I1, rfl, q1⟩
theorem pe_or (ha : PE X a ta) (hb : PE X (.BoolOp .Or (b :: rest) pos) tb) : PE X (.BoolOp .Or (a :: b :: rest) pos) (tOrV ta tb) := by
  intro pins s σ H Q I h
  refine BoolOp_or (thn (ha pins s σ H _ I h) fun v s1 ⟨x, H1, I1, r1, q1⟩ => ?_)
  obtain ⟨c, rfl, q1⟩ := q1
  cases r1
  refine wpAny_truthy_bool ?_
  cases c with
  | false => exact hb pins s1 σ H1 Q I1 q1
  | true => exact ⟨.bl true, H1, I1, rfl, q1⟩
theorem pe_not (ha : PE X a ta) : PE X (.UnaryOp .Not a pos) (tNotV ta) := by
  intro pins s σ H Q I h
  refine UnaryOp_ (thn (ha pins s σ H _ I h) fun v s1 ⟨x, H1, I1, r1, q1⟩ => ?_)
  obtain ⟨c, rfl, q1⟩ := q1
  cases r1
  exact not_of (wpAny_truthy_bool ⟨.bl (!c), H1, I1, rfl, q1⟩)
/-- a if t else b -/
def tIf (t : TT) (ta tb : TE) : TE := fun σ H Q => t σ H fun c H1 => if c = true then ta σ H1 Q else tb σ H1 Q
theorem pe_ifExp {c : Expr} (hc : PT X c tA) (ha : PE X a ta) (hb : PE X b tb) : PE X (.IfExp c a b pos) (tIf tA ta tb) := by
  intro pins s σ H Q I h
  refine wpAny_IfExp (thn (hc pins s σ H _ I h) fun d s1 ⟨H1, I1, q1⟩ => ?_)
  cases d with
  | true => exact ha pins s1 σ H1 Q I1 q1
  | false => exact hb pins s1 σ H1 Q I1 q1
end
end L2

namespace L2
open PySem PySem.Spec PyProof.Rows

/-! ### a list, a tuple that is read: tracked, frozen, or an object of the module -/
def SqL (K : PySem.W.Frag) (H : Hp) (a : Addr) (xs : List V) : Prop :=
  Rd H a (.lst xs) ∨
    ∃ (o : Obj) (its : Array Value) (n : Nat), K.lookup a = some o ∧ o.cls = .type "list" ∧ o.dict = none ∧ o.data = .seq its n ∧ its.size ≤ sizeLine ∧ Vals xs its.toList
def SqT (K : PySem.W.Frag) (H : Hp) (a : Addr) (xs : List V) : Prop :=
  Rd H a (.tup xs) ∨
    ∃ (o : Obj) (its : Array Value) (n : Nat), K.lookup a = some o ∧ o.cls = .type "tuple" ∧ o.data = .seq its n ∧ its.size ≤ sizeLine ∧ Vals xs its.toList
def absV : Value → Option V
  | .none => some .non
  | .bool b => some (.bl b)
  | .int i _ => some (.int i)
  | .str x _ => some (.str x)
  | .bytes b _ => some (.byt b)
  | .float b _ => some (.flt b)
  | .ref a => some (.ref a)
  | .type n => some (.ty n)
  | _ => none
theorem RelV.abs {x : V} {u : Value} (r : RelV x u) : absV u = some x := by
  cases x with
  | non => cases r; rfl
  | bl _ => cases r; rfl
  | int _ => obtain ⟨t, rfl⟩ := r; rfl
  | str _ => obtain ⟨t, rfl⟩ := r; rfl
  | byt _ => obtain ⟨t, rfl⟩ := r; rfl
  | flt _ => obtain ⟨t, rfl⟩ := r; rfl
  | ref _ => cases r; rfl
  | ty _ => cases r; rfl
theorem RelV.inj {x y : V} {u : Value} (r : RelV x u) (q : RelV y u) : x = y := Option.some.inj (r.abs.symm.trans q.abs)
theorem Vals.inj : ∀ {xs ys : List V} {us : List Value}, Vals xs us → Vals ys us → xs = ys
  | _, _, _, .nil, .nil => rfl
  | _, _, _, .cons r t, .cons r' t' => by rw [r.inj r', Vals.inj t t']
section
variable {X : Cx} {pins : List (Addr × Obj)} {σ : St} {H : Hp} {s : Shared} {a : Addr} {xs ys : List V}
theorem SqL.of {K : PySem.W.Frag} (h : H a = some (.lst xs)) : SqL K H a xs := .inl (.inl h)
theorem SqT.of {K : PySem.W.Frag} (h : H a = some (.tup xs)) : SqT K H a xs := .inl (.inl h)
theorem Inv.list (I : Inv X pins σ H s) (h : SqL X.K H a xs) : ∃ its : List Value, Vals xs its ∧ PlainL s.heap a its.toArray ∧ xs.length ≤ sizeLine := by
  rcases h with h | ⟨o, its, n, hk, hc, hd, hs, hz, r⟩
  · obtain ⟨z, its, n, r, e⟩ := h.ok I.hok
    exact ⟨its, r, ⟨_, n, e, rfl, rfl, rfl⟩, z⟩
  · refine ⟨its.toList, r, ⟨o, n, I.kIn a o hk, hc, hd, by simpa using hs⟩, ?_⟩
    have e := r.length
    simp only [Array.length_toList] at e
    omega
theorem Inv.tuple (I : Inv X pins σ H s) (h : SqT X.K H a xs) : ∃ its : List Value, Vals xs its ∧ IsTup s.heap a its.toArray ∧ xs.length ≤ sizeLine := by
  rcases h with h | ⟨o, its, n, hk, hc, hs, hz, r⟩
  · obtain ⟨z, its, r, p⟩ := h.ok I.hok
    exact ⟨its, r, p, z⟩
  · refine ⟨its.toList, r, ⟨o, I.kIn a o hk, hc, n, by simpa using hs⟩, ?_⟩
    have e := r.length
    simp only [Array.length_toList] at e
    omega
theorem Inv.list_inj (I : Inv X pins σ H s) (h : SqL X.K H a xs) (h' : SqL X.K H a ys) : xs = ys := by
  obtain ⟨its, r, ⟨o, n, e, _, _, d⟩, _⟩ := I.list h
  obtain ⟨its', r', ⟨o', n', e', _, _, d'⟩, _⟩ := I.list h'
  rw [e] at e'; cases e'
  rw [d] at d'
  injection d' with d1 _
  have : its = its' := by simpa using congrArg Array.toList d1
  subst this
  exact r.inj r'
end

/-! ### another wish about exceptions -/
abbrev Cx.wish (X : Cx) (E : Value → Shared → Prop) : Cx := { X with xe := E }
/-- no exception leaves -/
abbrev Cx.nox (X : Cx) : Cx := X.wish fun _ _ => False
theorem Cx.Ok.wish {X : Cx} (ok : X.Ok) (E : Value → Shared → Prop) : (X.wish E).Ok :=
  ⟨ok.mod, ok.kind, ok.glob, ok.blt, ok.above, ok.inj, ok.has, ok.cab, ok.hd, ok.frames, ok.stk, ok.exf, ok.bs, ok.bsz, ok.noex, ok.exfs, ok.funs, ok.frf⟩
theorem Cx.Ok.unwish {X : Cx} {E : Value → Shared → Prop} (ok : (X.wish E).Ok) : X.Ok :=
  ⟨ok.mod, ok.kind, ok.glob, ok.blt, ok.above, ok.inj, ok.has, ok.cab, ok.hd, ok.frames, ok.stk, ok.exf, ok.bs, ok.bsz, ok.noex, ok.exfs, ok.funs, ok.frf⟩
section
variable {X : Cx} {pins : List (Addr × Obj)} {σ : St} {H : Hp} {s : Shared} {E : Value → Shared → Prop}
theorem Inv.wish (I : Inv X pins σ H s) (E : Value → Shared → Prop) : Inv (X.wish E) pins σ H s := ⟨I.ok.wish E, I.os, I.bare, I.base, I.loc, I.cell, I.free, I.freeC, I.pin, I.hok, I.len⟩
theorem Inv.unwish (I : Inv (X.wish E) pins σ H s) : Inv X pins σ H s := ⟨I.ok.unwish, I.os, I.bare, I.base, I.loc, I.cell, I.free, I.freeC, I.pin, I.hok, I.len⟩
theorem SP.unwish {D : Ends} {f : Flow} {s' : Shared} (h : SP (X.wish E) pins D f s') : SP X pins D f s' := by
  cases f with
  | next => obtain ⟨σ', H', I, q⟩ := h; exact ⟨σ', H', I.unwish, q⟩
  | brk => obtain ⟨σ', H', I, q⟩ := h; exact ⟨σ', H', I.unwish, q⟩
  | cont => obtain ⟨σ', H', I, q⟩ := h; exact ⟨σ', H', I.unwish, q⟩
  | ret u => obtain ⟨v, σ', H', I, r, q⟩ := h; exact ⟨v, σ', H', I.unwish, r, q⟩
theorem PSs.nox {st : List Stmt} {t : TS} (h : PSs X.nox st t) : PSs X st t := fun pins s σ H D I hw =>
  wpAny_mono (h pins s σ H D (I.wish _) hw) (fun _ _ q => q.unwish) fun _ _ z => False.elim z
end

/-! ### blocks and small statements -/
section
variable {X : Cx} {st : Stmt} {rest : List Stmt} {t u : TS} {e : Expr} {te : TE} {pos : Pos}
def tNext : TS := fun D σ H => D.nx σ H
def tSeq (t u : TS) : TS := fun D σ H => t { D with nx := u D } σ H
theorem pss_nil : PSs X [] tNext := fun _ _ σ H _ I h => wpAny_execs_nil ⟨σ, H, I, h⟩
theorem pss_cons (h1 : PS X st t) (h2 : PSs X rest u) : PSs X (st :: rest) (tSeq t u) := by
  intro pins s σ H D I h
  refine wpAny_execs_cons (thn (h1 pins s σ H { D with nx := u D } I h) fun f s1 q => ?_)
  cases f with
  | next =>
    obtain ⟨σ', H', I', q⟩ := q
    exact h2 pins s1 σ' H' D I' q
  | ret v => exact q
  | brk => exact q
  | cont => exact q
theorem pss_one (h1 : PS X st t) : PSs X [st] t := by
  intro pins s σ H D I h
  refine wpAny_execs_cons (thn (h1 pins s σ H D I h) fun f s1 q => ?_)
  cases f with
  | next => exact wpAny_execs_nil q
  | ret v => exact q
  | brk => exact q
  | cont => exact q
/-- in a def's body nothing is shown -/
theorem Inv.quiet {pins : List (Addr × Obj)} {σ : St} {H : Hp} {s : Shared} (I : Inv X pins σ H s) : interactive X.env = false := by simp [interactive, I.ok.kind]
/-- an expression whose value is dropped -/
def tDrop (te : TE) : TS := fun D σ H => te σ H fun _ H1 => D.nx σ H1
theorem ps_expr (he : PE X e te) (hs : swapsWith e none pos.line X.env = pure false := by rfl) : PS X (.Expr e pos) (tDrop te) := by
  intro pins s σ H D I h
  exact wpAny_Expr_any (thn (he pins s σ H _ I h) fun v s1 ⟨x, H1, I1, r1, q1⟩ => ⟨σ, H1, I1, q1⟩) I.quiet hs
def tRet (te : TE) : TS := fun D σ H => te σ H D.rt
theorem ps_ret (he : PE X e te) : PS X (.Return (some e) pos) (tRet te) := by
  intro pins s σ H D I h
  exact wpAny_Return_some (thn (he pins s σ H _ I h) fun v s1 ⟨x, H1, I1, r1, q1⟩ => ⟨x, σ, H1, I1, r1, q1⟩)
def tIfS (c : TT) (t u : TS) : TS := fun D σ H => c σ H fun b H1 => if b = true then t D σ H1 else u D σ H1
theorem ps_if {c : Expr} {a b : List Stmt} {tc : TT} (hc : PT X c tc) (ha : PSs X a t) (hb : PSs X b u) : PS X (.If c a b pos) (tIfS tc t u) := by
  intro pins s σ H D I h
  refine wpAny_If (thn (hc pins s σ H _ I h) fun d s1 ⟨H1, I1, q1⟩ => ?_)
  cases d with
  | true => exact ha pins s1 σ H1 D I1 q1
  | false => exact hb pins s1 σ H1 D I1 q1
end

/-! ### targets -/
abbrev TG := V → St → Hp → (St → Hp → Prop) → Prop
abbrev TGs := List V → St → Hp → (St → Hp → Prop) → Prop
def PG (X : Cx) (target : Expr) (t : TG) : Prop :=
  ∀ (pins : List (Addr × Obj)) (s : Shared) (σ : St) (H : Hp) (v : V) (u : Value) (Q : St → Hp → Prop), Inv X pins σ H s → RelV v u → t v σ H Q →
    wpAny (model X.prog X.w) X.A (assign target X.env u) (fun _ s' => ∃ σ' H', Inv X pins σ' H' s' ∧ Q σ' H') X.xe s
/-- several targets, one after another -/
def PGs (X : Cx) (ts : List Expr) (t : TGs) : Prop :=
  ∀ (pins : List (Addr × Obj)) (s : Shared) (σ : St) (H : Hp) (vs : List V) (us : List Value) (Q : St → Hp → Prop), Inv X pins σ H s → Vals vs us → t vs σ H Q →
    wpAny (model X.prog X.w) X.A (assignInOrder ((assignEach ts X.env).map (·.2)) us) (fun _ s' => ∃ σ' H', Inv X pins σ' H' s' ∧ Q σ' H') X.xe s
/-- o[i] = v, by values -/
abbrev TSet := V → V → V → Hp → (Hp → Prop) → Prop
def PSet (X : Cx) (t : TSet) : Prop :=
  ∀ (pins : List (Addr × Obj)) (s : Shared) (σ : St) (H : Hp) (o i v : V) (ov iv u : Value) (Q : Hp → Prop), Inv X pins σ H s → RelV o ov → RelV i iv → RelV v u → t o i v H Q →
    wpAny (model X.prog X.w) X.A (setItem ov iv u) (fun _ s' => ∃ H', Inv X pins σ H' s' ∧ Q H') X.xe s
section
variable {X : Cx} {pos : Pos}
def gName (i : Nat) : TG := fun v σ H Q => Q (σ.set i (some v)) H
theorem pg_name {i : Nat} {x : Str} (hN : X.N.Nodup) (hi : X.N[i]? = some x) (hx : Loc X.env.scope x) (hf : X.fn x = true ∨ X.env.scope.names.lookup x = some .local := by first | exact .inl rfl | exact .inr rfl | assumption) : PG X (.Name x pos) (gName i) := by
  intro pins s σ H v u Q I r h
  exact wpAny_assign_Name (store_ok I hN hi hx r (fun s' I' => ⟨_, H, I', h⟩) hf)
def gNil : TGs := fun vs σ H Q => vs = [] ∧ Q σ H
def gCons (t : TG) (u : TGs) : TGs := fun vs σ H Q => ∃ v r, vs = v :: r ∧ t v σ H fun σ' H' => u r σ' H' Q
theorem pgs_nil : PGs X [] gNil := by
  intro pins s σ H vs us Q I r h
  obtain ⟨e, h⟩ := h
  subst e
  cases r
  exact assignInOrder_nil ⟨σ, H, I, h⟩
theorem pgs_cons {e : Expr} {es : List Expr} {t : TG} {u : TGs} (h1 : PG X e t) (h2 : PGs X es u)
    (hs : (assignEach (e :: es) X.env).map (·.2) = assign e X.env :: (assignEach es X.env).map (·.2) := by rfl) : PGs X (e :: es) (gCons t u) := by
  intro pins s σ H vs us Q I r h
  obtain ⟨v, vr, e1, h⟩ := h
  subst e1
  cases r with
  | cons r rr =>
    rw [hs]
    refine assignInOrder_cons (thn (h1 pins s σ H _ _ _ I r h) fun _ s1 ⟨σ1, H1, I1, q1⟩ => ?_)
    exact h2 pins s1 σ1 H1 _ _ Q I1 rr q1
/-- (a, b, ..) = a tuple of that length -/
def gTup (K : PySem.W.Frag) (n : Nat) (t : TGs) : TG := fun v σ H Q => ∃ a xs, v = .ref a ∧ SqT K H a xs ∧ xs.length = n ∧ t xs σ H Q
theorem pg_tup {es : List Expr} {k : Nat} {t : TGs} {n : Nat} (hc : X.calm = true) (h : PGs X es t)
    (hn : (assignEach es X.env).length = n := by rfl) (hst : (assignEach es X.env).findIdx? (·.1) = none := by rfl) : PG X (.Tuple es k pos) (gTup X.K n t) := by
  intro pins s σ H v u Q I r hw
  obtain ⟨a, xs, e1, hq, hl, hw⟩ := hw
  subst e1
  cases r
  obtain ⟨its, rv, ht, hz⟩ := I.tuple hq
  refine assign_Tuple_tuple (I.ok.hd hc) ht (by simp [hn, ← hl, rv.length]) hst fun h' hx => ?_
  have I1 : Inv X pins σ H { s with heap := h' } := I.kept (t' := s.toks) fun b o e => hx b o (Nat.ne_of_lt (Heap.lt_size e)) e
  exact h pins _ σ H xs _ Q I1 (by simpa using rv) hw
/-- o[i] = .. -/
def gSub (to ti : TE) (t : TSet) : TG := fun v σ H Q => to σ H fun o H1 => ti σ H1 fun i H2 => t o i v H2 fun H3 => Q σ H3
theorem pg_sub {o i : Expr} {to ti : TE} {t : TSet} (ho : PE X o to) (hi : PE X i ti) (hs : PSet X t)
    (ha : ∀ v, assign (.Subscript o i pos) X.env v = (do
      let ov ← holding [v] (eval o X.env)
      let iv ← holding [v, ov] (eval i X.env)
      standAt pos
      holding [v, ov, iv] (setItem ov iv v)
      release [v, ov, iv] []) := by intro _; rfl) : PG X (.Subscript o i pos) (gSub to ti t) := by
  intro pins s σ H v u Q I r h
  rw [ha]
  refine wpAny_bind (wpAny_holding (thn (ho pins s σ H _ I h) fun ov s1 ⟨x, H1, I1, r1, q1⟩ => ?_))
  refine wpAny_bind (wpAny_holding (thn (hi pins s1 σ H1 _ I1 q1) fun iv s2 ⟨y, H2, I2, r2, q2⟩ => ?_))
  refine wpAny_bind (wpAny_standAt (wpAny_bind (wpAny_holding (thn (hs pins s2 σ H2 x y v ov iv u _ I2 r1 r2 r q2) fun _ s3 ⟨H3, I3, q3⟩ => ?_))))
  exact wpAny_release ⟨σ, H3, I3, q3⟩
/-- target = value -/
def tAsg (te : TE) (g : TG) : TS := fun D σ H => te σ H fun x H1 => g x σ H1 D.nx
theorem ps_asg {tg e : Expr} {te : TE} {g : TG} (he : PE X e te) (hg : PG X tg g) (hs : swapsWithSole [tg] e pos.line X.env = pure false := by rfl) (hw : swappedStores [tg] e X.env = pure none := by rfl)
    (h1 : (assignEach [tg] X.env).map (·.2) = [assign tg X.env] := by rfl) : PS X (.Assign [tg] e pos) (tAsg te g) := by
  intro pins s σ H D I h
  refine wpAny_Assign_stores (thn (he pins s σ H _ I h) fun v s1 ⟨x, H1, I1, r1, q1⟩ => ?_) hs hw
  rw [h1]
  exact thn (hg pins s1 σ H1 x v _ I1 r1 q1) fun _ s2 q => q
/-- name = value -/
theorem ps_set {i : Nat} {x : Str} {e : Expr} {te : TE} {pos' : Pos} (hN : X.N.Nodup) (hi : X.N[i]? = some x) (hx : Loc X.env.scope x) (he : PE X e te) (hs : swapsWith e (some (.Name x pos')) pos.line X.env = pure false := by rfl) (hf : X.fn x = true ∨ X.env.scope.names.lookup x = some .local := by first | exact .inl rfl | exact .inr rfl | assumption) :
    PS X (.Assign [.Name x pos'] e pos) (tAsg te (gName i)) := by
  intro pins s σ H D I h
  refine wpAny_Assign_Name (thn (he pins s σ H _ I h) fun v s1 ⟨y, H1, I1, r1, q1⟩ => ?_) hs
  exact store_ok I1 hN hi hx r1 (fun s2 I2 => ⟨_, H1, I2, q1⟩) hf
end

/-! ### while -/
section
variable {X : Cx} {pos : Pos}
end

/-! ### what a loop or a comprehension walks -/
/-- at turn i: it yields x (the heap may grow), or it stops -/
structure It where
  go : Nat → Hp → Prop
  yld : Nat → Hp → V → Hp → Prop
  stop : Nat → Hp → Prop
/-- the iterator's own objects may turn: they are not the frame's, not pinned, younger than the entry (or a comprehension's own) -/
def FpOk (X : Cx) (pins : List (Addr × Obj)) (H : Hp) (b : Addr) : Prop :=
  H b = none ∧ b ≠ X.env.locals ∧ b ∉ X.fs ∧ (b ∈ X.ex ∨ X.s₀.heap.objs.size ≤ b) ∧ (∀ x c, X.env.cells.lookup x = some c → c ≠ b) ∧ ∀ p ∈ X.pn ++ pins, p.1 ≠ b
theorem Inv.fpOk {X : Cx} {pins : List (Addr × Obj)} {σ : St} {H H' : Hp} {s : Shared} {b : Addr} (I : Inv X pins σ H s) (hb : s.heap.objs.size ≤ b) (hn : H' b = none) : FpOk X pins H' b := by
  refine ⟨hn, Nat.ne_of_gt (Nat.lt_of_lt_of_le I.lt hb), I.nofs hb, .inr (Nat.le_trans I.sz hb), fun x c e z => ?_, fun p hp z => ?_⟩
  · obtain ⟨v, q⟩ := I.cell x c e
    exact absurd (Nat.lt_of_lt_of_le q.lt (by rw [z]; exact hb)) (Nat.lt_irrefl _)
  · exact absurd (Nat.lt_of_lt_of_le (Heap.lt_size (I.pin p hp).1) (by rw [z]; exact hb)) (Nat.lt_irrefl _)
structure Turn (P : Program) (w : World) (K : PySem.W.Frag) (tg : Expr) (J : It) (fp : List Addr) (it : Addr) (tn : Nat → Heap → Prop) : Prop where
  mem : it ∈ fp
  obj : ∀ i h, tn i h → ∀ b ∈ fp, ∃ o, h.get? b = some o ∧ ∀ v, o.data ≠ .cell v
  keep : ∀ i h h', tn i h → (∀ b ∈ fp, ∀ o, h.get? b = some o → h'.get? b = some o) → tn i h'
  item : ∀ (X : Cx), X.prog = P → X.w = w → X.K = K → X.calm = true → ∀ (i : Nat) (pins : List (Addr × Obj)) (s : Shared) (σ : St) (H : Hp) (E : Value → Shared → Prop), Inv X pins σ H s → (∀ b ∈ fp, FpOk X pins H b) → tn i s.heap → J.go i H →
    wpAny (model P w) X.A (pyNext (.ref it)) (fun r s1 => ∃ u, r = some u ∧
      wpAny (model P w) X.A (letOwnedTupleGo tg (.ref it) u) (fun _ s2 => ∃ x H', Inv X pins σ H' s2 ∧ RelV x u ∧ J.yld i H x H' ∧ tn (i + 1) s2.heap ∧ ∀ b ∈ fp, H' b = none) E s1) E s
  done : ∀ (X : Cx), X.prog = P → X.w = w → X.K = K → X.calm = true → ∀ (i : Nat) (pins : List (Addr × Obj)) (s : Shared) (σ : St) (H : Hp) (E : Value → Shared → Prop), Inv X pins σ H s → (∀ b ∈ fp, FpOk X pins H b) → tn i s.heap → J.stop i H →
    wpAny (model P w) X.A (pyNext (.ref it)) (fun r s1 => r = none ∧ Inv X pins σ H s1) E s
  self : ∀ (A : Around) (i : Nat) (s : Shared) (Q : Value → Shared → Prop) (E : Value → Shared → Prop), tn i s.heap → Q (.ref it) s → wpAny (model P w) A (pyIter (.ref it)) Q E s
abbrev TI := St → Hp → (It → Hp → Prop) → Prop
/-- an iterator has come -/
def PIE (X : Cx) (pins : List (Addr × Obj)) (σ : St) (tg : Expr) (R : It → Hp → Prop) (itv : Value) (s2 : Shared) : Prop :=
  ∃ (it : Addr) (fp : List Addr) (tn : Nat → Heap → Prop) (J : It) (H' : Hp), itv = .ref it ∧ Inv X pins σ H' s2 ∧ Turn X.prog X.w X.K tg J fp it tn ∧ tn 0 s2.heap ∧ (∀ b ∈ fp, FpOk X pins H' b) ∧ R J H'
def PI (X : Cx) (tg iter : Expr) (wi : TI) : Prop :=
  ∀ (pins : List (Addr × Obj)) (s : Shared) (σ : St) (H : Hp) (R : It → Hp → Prop), Inv X pins σ H s → wi σ H R →
    wpAny (model X.prog X.w) X.A (eval iter X.env) (fun v s1 => wpAny (model X.prog X.w) X.A (pyIter v) (PIE X pins σ tg R) X.xe s1) X.xe s

/-- the step ahead of the store is nothing for an iterator that keeps no tuple -/
theorem go_of {M : Model} {A : Around} {E : Value → Shared → Prop} {s : Shared} {tg : Expr} {it : Addr} {u : Value} {o : Obj} {n : String} {vs : Array Value} {Q : Unit → Shared → Prop} (ho : s.heap.get? it = some o) (hc : o.cls = .type n) (hd : o.data = .fields vs)
    (hn : ["enumerate", "zip", "dict_itemiterator", "dict_reverseitemiterator", "odict_iterator", "itertools.zip_longest", "itertools.pairwise"].contains n = false) (hQ : Q () s) : wpAny M A (letOwnedTupleGo tg (.ref it) u) Q E s := by
  unfold letOwnedTupleGo
  cases tg <;> first
    | exact wpAny_pure hQ
    | (cases u <;> first
        | exact wpAny_pure hQ
        | (refine wpAny_bind (wpAny_load ho ?_)
           rw [hc, hd]
           show wpAny M A (if (["enumerate", "zip", "dict_itemiterator", "dict_reverseitemiterator", "odict_iterator", "itertools.zip_longest", "itertools.pairwise"].contains n && vs[0]? == some (rawInt _)) = true then _ else _) Q E s
           rw [if_neg (by intro h; rw [hn, Bool.false_and] at h; cases h)]
           exact wpAny_pure hQ))

/-- the list at a, as it stands at each turn (a loop may append to it) -/
def Itl (K : PySem.W.Frag) (a : Addr) : It :=
  ⟨fun i H => ∃ xs x, SqL K H a xs ∧ xs[i]? = some x, fun i H x H' => H' = H ∧ ∀ xs, SqL K H a xs → xs[i]? = some x, fun i H => ∃ xs, SqL K H a xs ∧ xs.length ≤ i⟩
/-- lo, lo + 1, .. (n of them) -/
def Itr (lo : Int) (n : Nat) : It := ⟨fun i _ => i < n, fun i H x H' => H' = H ∧ x = .int (lo + i), fun i _ => n ≤ i⟩
theorem turn_list {P : Program} {w : World} {K : PySem.W.Frag} {tg : Expr} (a it : Addr) : Turn P w K tg (Itl K a) [it] it (fun i h => h.IsListIter it a i) where
  mem := by simp
  obj := fun i h st b hb => by
    have e : b = it := by simpa using hb
    subst e
    obtain ⟨o, e, c, d⟩ := st
    exact ⟨o, e, fun v z => by rw [d] at z; cases z⟩
  keep := fun i h h' st k => st.at fun o e => k it (by simp) o e
  item := by
    intro X hP hw hK hc i pins s σ H E I hf st hg
    subst hP hw hK
    obtain ⟨xs, x, hq, hx⟩ := hg
    obtain ⟨its, rv, p, hz⟩ := I.list hq
    obtain ⟨u, hu, ru⟩ := rv.get hx
    obtain ⟨f0, f1, f2, f3, f4, f5⟩ := hf it (by simp)
    refine wpAny_pyNext_list_item st p.isList (x := u) (by simpa using hu) fun h' st' sb => ?_
    have I1 : Inv X pins σ H { s with heap := h' } := I.turned (t' := s.toks) (fun b o hb e => (sb.2 b hb).trans e) f0 f1 f3 f4 f5
    obtain ⟨o, e, c, d⟩ := id st'
    exact ⟨u, rfl, go_of (s := { s with heap := h' }) e c d (by decide) ⟨x, H, I1, ru, ⟨rfl, fun ys hy => by rw [I.list_inj hy hq]; exact hx⟩, st', fun b hb => (hf b hb).1⟩⟩
  done := by
    intro X hP hw hK hc i pins s σ H E I hf st hg
    subst hP hw hK
    obtain ⟨xs, hq, hx⟩ := hg
    obtain ⟨its, rv, p, hz⟩ := I.list hq
    obtain ⟨f0, f1, f2, f3, f4, f5⟩ := hf it (by simp)
    have hl := rv.length
    exact wpAny_pyNext_list_end (I.ok.hd hc) st p.isList (by simp; omega) fun h' eb => ⟨rfl, I.turned (t' := s.toks) (fun b o hb e => eb b o hb e) f0 f1 f3 f4 f5⟩
  self := fun _ _ _ _ _ st h => wpAny_pyIter_listiter st h
theorem turn_range {P : Program} {w : World} {K : PySem.W.Frag} {tg : Expr} (it : Addr) (lo : Int) (n : Nat) : Turn P w K tg (Itr lo n) [it] it (fun i h => IsRangeIter h it (lo + (i : Nat) * 1) ((n : Int) - (i : Nat)) 1) where
  mem := by simp
  obj := fun i h st b hb => by
    have e : b = it := by simpa using hb
    subst e
    exact ⟨_, st, fun v z => by
      have z' : Data.fields _ = Data.cell v := z
      cases z'⟩
  keep := fun i h h' st k => k it (by simp) _ st
  item := by
    intro X hP hw hK hc i pins s σ H E I hf st hg
    subst hP hw hK
    obtain ⟨f0, f1, f2, f3, f4, f5⟩ := hf it (by simp)
    have W := Walks.range (prog := X.prog) (w := X.w) (I.ok.hd hc) it lo 1 n
    refine W.item i s _ _ hg st fun v h' tk hv st' kk => ?_
    obtain ⟨t, rfl⟩ := hv
    have I1 : Inv X pins σ H { s with heap := h', toks := tk } := I.turned (fun b o hb e => kk b o (by simpa using hb) e) f0 f1 f3 f4 f5
    refine ⟨_, rfl, go_of (s := { s with heap := h', toks := tk }) (n := "range_iterator") st' rfl rfl (by decide) ⟨.int (lo + i), H, I1, ⟨t, ?_⟩, ⟨rfl, rfl⟩, st', fun b hb => (hf b hb).1⟩⟩
    rw [Int.mul_one]
  done := by
    intro X hP hw hK hc i pins s σ H E I hf st hg
    subst hP hw hK
    obtain ⟨f0, f1, f2, f3, f4, f5⟩ := hf it (by simp)
    exact wpAny_pyNext_range_end (I.ok.hd hc) st (by have : n ≤ i := hg; omega) fun h' eb => ⟨rfl, I.turned (t' := s.toks) (fun b o hb e => eb b o hb e) f0 f1 f3 f4 f5⟩
  self := fun _ _ _ _ _ st h => wpAny_pyIter_rangeiter st h
end L2

namespace L2
open PySem PySem.Spec PyProof.Rows
section
variable {X : Cx} {tg : Expr}
def iList (K : PySem.W.Frag) (tl : TE) : TI := fun σ H R => tl σ H fun x H1 => ∃ a, x = .ref a ∧ (∃ xs, SqL K H1 a xs) ∧ R (Itl K a) H1
theorem pi_list {l : Expr} {tl : TE} (hl : PE X l tl) : PI X tg l (iList X.K tl) := by
  intro pins s σ H R I h
  refine thn (hl pins s σ H _ I h) fun v s1 ⟨x, H1, I1, r1, q1⟩ => ?_
  obtain ⟨a, e, ⟨xs, hq⟩, q⟩ := q1
  subst e
  cases r1
  obtain ⟨its, rv, p, hz⟩ := I1.list hq
  refine wpAny_pyIter_list p.isList ?_
  refine ⟨s1.heap.objs.size, [s1.heap.objs.size], _, _, H1, rfl, I1.kept (t' := s1.toks) fun b o e => Heap.get?_push_of_some _ e, turn_list a _, ⟨_, Heap.get?_push_size _ rfl, rfl, rfl⟩, fun b hb => ?_, q⟩
  have e : b = s1.heap.objs.size := by simpa using hb
  subst e
  exact I1.fpOk (Nat.le_refl _) (I1.hok.fresh (Nat.le_refl _))
/-- a range object just made, walked -/
theorem range_it {pins : List (Addr × Obj)} {σ : St} {H : Hp} {s : Shared} {R : It → Hp → Prop} {E : Value → Shared → Prop} {lo hi : Int} {t u v : Tok} {tk : Nat} (I : Inv X pins σ H s) (h1 : -(2 ^ 62) ≤ lo) (h2 : lo < 2 ^ 62) (h3 : -(2 ^ 62) ≤ hi) (h4 : hi < 2 ^ 62)
    (q : R (Itr lo (hi - lo).toNat) H) : wpAny (model X.prog X.w) X.A (pyIter (.ref s.heap.objs.size)) (PIE X pins σ tg R) E { s with heap := s.heap.push { cls := .type "range", data := .fields #[.int lo t, .int hi u, .int 1 v] }, toks := tk } := by
  refine wpAny_pyIter_range (IsRange.new ..) (small_one h1 h2 h3 h4) ?_
  have I1 : Inv X pins σ H { s with heap := s.heap.push { cls := .type "range", data := .fields #[.int lo t, .int hi u, .int 1 v] }, toks := tk } := I.kept fun b o e => Heap.get?_push_of_some _ e
  refine ⟨(s.heap.push { cls := .type "range", data := .fields #[.int lo t, .int hi u, .int 1 v] }).objs.size, [(s.heap.push { cls := .type "range", data := .fields #[.int lo t, .int hi u, .int 1 v] }).objs.size], _, _, H, rfl,
    I1.kept (t' := tk) fun b o e => Heap.get?_push_of_some _ e, turn_range _ lo (hi - lo).toNat, ?_, fun b hb => ?_, q⟩
  · have e1 : lo + ((0 : Nat) : Int) * 1 = lo := by simp
    have e2 : (((hi - lo).toNat : Nat) : Int) - ((0 : Nat) : Int) = Builtin.Range.rangeSize lo hi 1 := by rw [rangeSize_one]; split <;> omega
    show IsRangeIter _ _ (lo + ((0 : Nat) : Int) * 1) ((((hi - lo).toNat : Nat) : Int) - ((0 : Nat) : Int)) 1
    rw [e1, e2]
    exact Heap.get?_push_size _ rfl
  · have e : b = (s.heap.push { cls := .type "range", data := .fields #[.int lo t, .int hi u, .int 1 v] }).objs.size := by simpa using hb
    subst e
    exact I1.fpOk (Nat.le_refl _) (I1.hok.fresh (Nat.le_refl _))
def iRng1 (ta : TA) : TI := fun σ H R => ta σ H fun vs H1 => ∃ j : Int, vs = [.int j] ∧ -(2 ^ 62) ≤ j ∧ j < 2 ^ 62 ∧ R (Itr 0 j.toNat) H1
theorem pi_range1 {a : Expr} {ta : TA} {p pos : Pos} (hg : Gl X "range") (hm : X.mg "range" = none) (ha : PA X [a] ta) (hs : starEach [a] X.env = [(false, eval a X.env)] := by rfl) : PI X tg (.Call (.Name "range" p) [a] [] pos) (iRng1 ta) := by
  intro pins s σ H R I h
  refine Call_ (ld_blt I hg hm boot_range (PyProof.Rows.callWith_type1 (thn (ha pos pins s σ H _ I h) fun us s1 ⟨vs, H1, I1, r1, q1⟩ => ?_) hs rfl))
  obtain ⟨j, e, q1, q2, q⟩ := q1
  subst e
  cases r1 with
  | cons r rr =>
    cases rr
    obtain ⟨t, rfl⟩ := r
    exact call_range_1 (range_it I1 (by omega) (by omega) q1 q2 (by simpa using q))
/-! ### for -/
/-- W: the invariant by the turn and a measure; N: what the body is to reach -/
def tFor (wi : TI) (g : TG) (tb : TS) : TS := fun D σ H => wi σ H fun J H1 => ∃ W : Nat → Nat → St → Hp → Prop, (∃ m, W 0 m σ H1) ∧ ∀ i m σ H, W i m σ H →
  (J.stop i H ∧ D.nx σ H) ∨ (J.go i H ∧ ∃ N : St → Hp → Prop, (∀ σ' H', N σ' H' → ∃ m', m' < m ∧ W (i + 1) m' σ' H') ∧ ∀ x H', J.yld i H x H' → g x σ H' fun σ2 H2 => tb { D with nx := N, ct := N, bk := D.nx } σ2 H2)
/-- the records at fp as they stand -/
def pinsAt (fp : List Addr) (h : Heap) : List (Addr × Obj) := fp.filterMap fun b => (h.get? b).map fun o => (b, o)
theorem mem_pinsAt {fp : List Addr} {h : Heap} {b : Addr} {o : Obj} (hb : b ∈ fp) (e : h.get? b = some o) : (b, o) ∈ pinsAt fp h := List.mem_filterMap.mpr ⟨b, hb, by rw [e]; rfl⟩
theorem of_pinsAt {fp : List Addr} {h : Heap} {p : Addr × Obj} (hp : p ∈ pinsAt fp h) : p.1 ∈ fp ∧ h.get? p.1 = some p.2 := by
  obtain ⟨b, hb, e⟩ := List.mem_filterMap.mp hp
  cases q : h.get? b with
  | none => rw [q] at e; cases e
  | some o =>
    rw [q] at e
    have e' : (b, o) = p := Option.some.inj e
    subst e'
    exact ⟨hb, q⟩
theorem Inv.pinned {pins : List (Addr × Obj)} {σ : St} {H : Hp} {s : Shared} {fp : List Addr} (I : Inv X pins σ H s) (hf : ∀ b ∈ fp, FpOk X pins H b) (ho : ∀ b ∈ fp, ∃ o, s.heap.get? b = some o ∧ ∀ v, o.data ≠ .cell v) : Inv X (pins ++ pinsAt fp s.heap) σ H s :=
  I.pins_of fun p hp => (List.mem_append.mp hp).elim (fun z => I.pin p (List.mem_append_right _ z)) fun z => by
    obtain ⟨hb, e⟩ := of_pinsAt z
    obtain ⟨f0, f1, f2, _⟩ := hf p.1 hb
    obtain ⟨o, e', d⟩ := ho p.1 hb
    rw [e] at e'; cases e'
    exact ⟨e, f0, f1, f2, d⟩
theorem Inv.unpinned {pins pl : List (Addr × Obj)} {σ : St} {H : Hp} {s : Shared} (I : Inv X (pins ++ pl) σ H s) : Inv X pins σ H s := I.pins_of fun p hp => I.pin p (List.mem_append_right _ (List.mem_append_left _ hp))
theorem ps_for {iter : Expr} {body : List Stmt} {wi : TI} {g : TG} {tb : TS} {pos : Pos} (hp : PassesOwn (model X.prog X.w) X.A X.env X.xe) (hc : X.calm = true) (hi : PI X tg iter wi) (hg : PG X tg g) (hb : PSs X body tb)
    (hs : ∀ x, foldedSetIterable iter X.env x = pure x := by intro _; rfl) : PS X (.For tg iter body [] pos) (tFor wi g tb) := by
  intro pins s σ H D I h
  refine wpAny_For (thn (hi pins s σ H _ I h) fun v s1 h1 => thn h1 fun itv s2 h2 => ?_) hs
  obtain ⟨it, fp, tn, J, H2, e, I2, T, st2, f2, W, ⟨m0, w0⟩, turn⟩ := h2
  subst e
  -- what stays true of the iterator's objects through the loop
  have stat : ∀ {H' : Hp}, (∀ b ∈ fp, H' b = none) → ∀ b ∈ fp, FpOk X pins H' b := fun hn b hb => ⟨hn b hb, (f2 b hb).2⟩
  refine codeAny_forLoop_any (fun n s' => ∃ i σ' H', Inv X pins σ' H' s' ∧ tn i s'.heap ∧ (∀ b ∈ fp, H' b = none) ∧ W i n σ' H') ?_ m0 ⟨0, σ, H2, I2, st2, fun b hb => (f2 b hb).1, w0⟩
  rintro n s3 ⟨i, σ3, H3, I3, st3, fr3, w3⟩
  rcases turn i n σ3 H3 w3 with ⟨stop, qn⟩ | ⟨go, N, hN, step⟩
  · refine wpAny_passesOwn hp (thn (T.done X rfl rfl rfl hc i pins s3 σ3 H3 X.xe I3 (stat fr3) st3 stop) fun r s4 ⟨hr, I4⟩ => ?_)
    subst hr
    exact wpAny_execs_nil ⟨σ3, H3, I4, qn⟩
  · refine wpAny_passesOwn hp (thn (T.item X rfl rfl rfl hc i pins s3 σ3 H3 X.xe I3 (stat fr3) st3 go) fun r s4 ⟨u, hr, h4⟩ => ?_)
    subst hr
    refine wpAny_passesOwn hp (thn h4 fun _ s5 ⟨x, H5, I5, r5, y5, st5, fr5⟩ => ?_)
    have I5' := I5.pinned (stat fr5) (T.obj _ _ st5)
    refine wpAny_passesOwn hp (thn (hg _ s5 σ3 H5 x u _ I5' r5 (step x H5 y5)) fun _ s6 ⟨σ6, H6, I6, q6⟩ => ?_)
    refine wpAny_passesOwn hp (thn (hb _ s6 σ6 H6 _ I6 q6) fun f s7 q7 => ?_)
    have again : ∀ {σ7 : St} {H7 : Hp}, Inv X (pins ++ pinsAt fp s5.heap) σ7 H7 s7 → N σ7 H7 → ∃ m, m < n ∧ ∃ i σ' H', Inv X pins σ' H' s7 ∧ tn i s7.heap ∧ (∀ b ∈ fp, H' b = none) ∧ W i m σ' H' := fun {σ7 H7} I7 n7 => by
      obtain ⟨m', hm, w7⟩ := hN σ7 H7 n7
      refine ⟨m', hm, i + 1, σ7, H7, I7.unpinned, T.keep _ _ _ st5 fun b hb o e => (I7.pin (b, o) (List.mem_append_right _ (List.mem_append_right _ (mem_pinsAt hb e)))).1, fun b hb => ?_, w7⟩
      obtain ⟨o, e, d⟩ := T.obj _ _ st5 b hb
      exact (I7.pin (b, o) (List.mem_append_right _ (List.mem_append_right _ (mem_pinsAt hb e)))).2.1
    cases f with
    | next => obtain ⟨σ7, H7, I7, n7⟩ := q7; exact again I7 n7
    | cont => obtain ⟨σ7, H7, I7, n7⟩ := q7; exact again I7 n7
    | brk => obtain ⟨σ7, H7, I7, q7⟩ := q7; exact ⟨σ7, H7, I7.unpinned, q7⟩
    | ret v => obtain ⟨x7, σ7, H7, I7, r7, q7⟩ := q7; exact ⟨x7, σ7, H7, I7.unpinned, r7, q7⟩
end

/-! ### the forms one uses -/
/-- over a list that the body leaves as it is -/
theorem for_list {K : PySem.W.Frag} {a : Addr} {xs : List V} {g : TG} {tb : TS} {D : Ends} {σ : St} {H : Hp} (Pv : Nat → St → Hp → Prop) (h0 : Pv 0 σ H) (hl : ∀ i σ H, i ≤ xs.length → Pv i σ H → SqL K H a xs)
    (hs : ∀ i x σ H, xs[i]? = some x → Pv i σ H → g x σ H fun σ2 H2 => tb { D with nx := Pv (i + 1), ct := Pv (i + 1), bk := D.nx } σ2 H2) (hd : ∀ σ H, Pv xs.length σ H → D.nx σ H) :
    ∃ W : Nat → Nat → St → Hp → Prop, (∃ m, W 0 m σ H) ∧ ∀ i m σ H, W i m σ H →
      ((Itl K a).stop i H ∧ D.nx σ H) ∨ ((Itl K a).go i H ∧ ∃ N : St → Hp → Prop, (∀ σ' H', N σ' H' → ∃ m', m' < m ∧ W (i + 1) m' σ' H') ∧ ∀ x H', (Itl K a).yld i H x H' → g x σ H' fun σ2 H2 => tb { D with nx := N, ct := N, bk := D.nx } σ2 H2) := by
  refine ⟨fun i m σ H => m = xs.length - i ∧ i ≤ xs.length ∧ Pv i σ H, ⟨xs.length, by simp, Nat.zero_le _, h0⟩, ?_⟩
  rintro i m σ H ⟨rfl, hi, p⟩
  have q := hl i σ H hi p
  by_cases hlt : i < xs.length
  · refine .inr ⟨⟨xs, xs[i], q, by simp [hlt]⟩, Pv (i + 1), fun σ' H' p' => ⟨xs.length - (i + 1), by omega, rfl, hlt, p'⟩, fun x H' y => ?_⟩
    obtain ⟨e, y⟩ := y
    subst e
    exact hs i x σ _ (y xs q) p
  · have e : i = xs.length := by omega
    subst e
    exact .inl ⟨⟨xs, q, Nat.le_refl _⟩, hd σ H p⟩
theorem for_range {lo : Int} {n : Nat} {g : TG} {tb : TS} {D : Ends} {σ : St} {H : Hp} (Pv : Nat → St → Hp → Prop) (h0 : Pv 0 σ H)
    (hs : ∀ i σ H, i < n → Pv i σ H → g (.int (lo + i)) σ H fun σ2 H2 => tb { D with nx := Pv (i + 1), ct := Pv (i + 1), bk := D.nx } σ2 H2) (hd : ∀ σ H, Pv n σ H → D.nx σ H) :
    ∃ W : Nat → Nat → St → Hp → Prop, (∃ m, W 0 m σ H) ∧ ∀ i m σ H, W i m σ H →
      ((Itr lo n).stop i H ∧ D.nx σ H) ∨ ((Itr lo n).go i H ∧ ∃ N : St → Hp → Prop, (∀ σ' H', N σ' H' → ∃ m', m' < m ∧ W (i + 1) m' σ' H') ∧ ∀ x H', (Itr lo n).yld i H x H' → g x σ H' fun σ2 H2 => tb { D with nx := N, ct := N, bk := D.nx } σ2 H2) := by
  refine ⟨fun i m σ H => m = n - i ∧ i ≤ n ∧ Pv i σ H, ⟨n, by simp, Nat.zero_le _, h0⟩, ?_⟩
  rintro i m σ H ⟨rfl, hi, p⟩
  by_cases hlt : i < n
  · refine .inr ⟨hlt, Pv (i + 1), fun σ' H' p' => ⟨n - (i + 1), by omega, rfl, hlt, p'⟩, fun x H' y => ?_⟩
    obtain ⟨e, y⟩ := y
    subst e y
    exact hs i σ _ hlt p
  · have e : i = n := by omega
    subst e
    exact .inl ⟨Nat.le_refl _, hd σ H p⟩
end L2

namespace L2
open PySem PySem.Spec PyProof.Rows

abbrev R2 := V → V → Hp → VK → Prop
/-- a two-place operation on values: f is binaryOp op, inplaceOp op or compareOp op -/
def OpR (X : Cx) (f : Value → Value → Sem Value) (r : R2) : Prop :=
  ∀ (pins : List (Addr × Obj)) (s : Shared) (σ : St) (H : Hp) (x y : V) (v u : Value) (Q : VK), Inv X pins σ H s → RelV x v → RelV y u → r x y H Q →
    wpAny (model X.prog X.w) X.A (f v u) (EP X pins σ Q) X.xe s
/-- a one-place operation -/
def UnR (X : Cx) (f : Value → Sem Value) (r : V → Hp → VK → Prop) : Prop :=
  ∀ (pins : List (Addr × Obj)) (s : Shared) (σ : St) (H : Hp) (x : V) (v : Value) (Q : VK), Inv X pins σ H s → RelV x v → r x H Q →
    wpAny (model X.prog X.w) X.A (f v) (EP X pins σ Q) X.xe s
/-- a call of a value that is known (a builtin, a type) with values -/
def CallR (X : Cx) (f : Value) (r : List V → Hp → VK → Prop) : Prop :=
  ∀ (pins : List (Addr × Obj)) (s : Shared) (σ : St) (H : Hp) (xs : List V) (us : List Value) (Q : VK), Inv X pins σ H s → Vals xs us → r xs H Q →
    wpAny (model X.prog X.w) X.A (call f us) (EP X pins σ Q) X.xe s
/-- a value's truth -/
def TruR (X : Cx) (r : V → Hp → (Bool → Hp → Prop) → Prop) : Prop :=
  ∀ (pins : List (Addr × Obj)) (s : Shared) (σ : St) (H : Hp) (x : V) (v : Value) (Q : Bool → Hp → Prop), Inv X pins σ H s → RelV x v → r x H Q →
    wpAny (model X.prog X.w) X.A (truthy v) (TP X pins σ Q) X.xe s

def tOp (r : R2) (ta tb : TE) : TE := fun σ H Q => ta σ H fun x H1 => tb σ H1 fun y H2 => r x y H2 Q
def tUn (r : V → Hp → VK → Prop) (ta : TE) : TE := fun σ H Q => ta σ H fun x H1 => r x H1 Q
/-- ints in, under C, and a value out -/
def rI (C : Int → Int → Prop) (g : Int → Int → V) : R2 := fun x y H Q => ∃ i j, x = .int i ∧ y = .int j ∧ C i j ∧ Q (g i j) H
def rI0 (g : Int → Int → V) : R2 := fun x y H Q => ∃ i j, x = .int i ∧ y = .int j ∧ Q (g i j) H
def rU (g : Int → V) : V → Hp → VK → Prop := fun x H Q => ∃ i, x = .int i ∧ Q (g i) H

section
variable {X : Cx} {a b c : Expr} {ta tb tc : TE} {pos : Pos}

theorem binT (ha : PE X a ta) (hb : PE X b tb) {pins : List (Addr × Obj)} {s : Shared} {σ : St} {H : Hp} {R : V → V → Hp → Prop} (I : Inv X pins σ H s)
    (h : ta σ H fun x H1 => tb σ H1 fun y H2 => R x y H2) {Q : Value → Shared → Prop} {f : Value → Value → Sem Value}
    (hf : ∀ v u s2 x y H2, Inv X pins σ H2 s2 → RelV x v → RelV y u → R x y H2 → wpAny (model X.prog X.w) X.A (f v u) Q X.xe s2) :
    wpAny (model X.prog X.w) X.A (eval a X.env) (fun v s₁ => wpAny (model X.prog X.w) X.A (eval b X.env) (fun u s₂ => wpAny (model X.prog X.w) X.A (f v u) Q X.xe s₂) X.xe s₁) X.xe s := by
  refine thn (ha pins s σ H _ I h) fun v s1 ⟨x, H1, I1, r1, q1⟩ => ?_
  refine thn (hb pins s1 σ H1 _ I1 q1) fun u s2 ⟨y, H2, I2, r2, q2⟩ => ?_
  exact hf v u s2 x y H2 I2 r1 r2 q2

theorem pe_op {op : Operator} {r : R2} (ho : OpR X (binaryOp op) r) (ha : PE X a ta) (hb : PE X b tb) : PE X (.BinOp a op b pos) (tOp r ta tb) := by
  intro pins s σ H Q I h
  exact wpAny_BinOp (binT ha hb I h fun v u s2 x y H2 I2 rx ry q => ho pins s2 σ H2 x y v u Q I2 rx ry q)
theorem pe_un {op : UnaryOp} {r : V → Hp → VK → Prop} (ho : UnR X (unaryOp op) r) (ha : PE X a ta) : PE X (.UnaryOp op a pos) (tUn r ta) := by
  intro pins s σ H Q I h
  exact UnaryOp_ (thn (ha pins s σ H _ I h) fun v s1 ⟨x, H1, I1, r1, q1⟩ => ho pins s1 σ H1 x v Q I1 r1 q1)
/-! ### ints -/
theorem opI {f : Value → Value → Sem Value} {C : Int → Int → Prop} {g : Int → Int → Int}
    (rule : ∀ (i j : Int) (t u : Tok) (s : Shared) (Q : Value → Shared → Prop) (E : Value → Shared → Prop), C i j → Q (.int (g i j) s.toks) { s with toks := s.toks + 1 } → wpAny (model X.prog X.w) X.A (f (.int i t) (.int j u)) Q E s) :
    OpR X f (rI C fun i j => .int (g i j)) := by
  intro pins s σ H x y v u Q I rx ry h
  obtain ⟨i, j, rfl, rfl, hc, q⟩ := h
  obtain ⟨t, rfl⟩ := rx
  obtain ⟨t', rfl⟩ := ry
  exact rule i j t t' s _ _ hc ⟨.int (g i j), H, I.tok _, ⟨_, rfl⟩, q⟩
theorem opI0 {f : Value → Value → Sem Value} {g : Int → Int → Int}
    (rule : ∀ (i j : Int) (t u : Tok) (s : Shared) (Q : Value → Shared → Prop) (E : Value → Shared → Prop), Q (.int (g i j) s.toks) { s with toks := s.toks + 1 } → wpAny (model X.prog X.w) X.A (f (.int i t) (.int j u)) Q E s) :
    OpR X f (rI0 fun i j => .int (g i j)) := by
  intro pins s σ H x y v u Q I rx ry h
  obtain ⟨i, j, rfl, rfl, q⟩ := h
  obtain ⟨t, rfl⟩ := rx
  obtain ⟨t', rfl⟩ := ry
  exact rule i j t t' s _ _ ⟨.int (g i j), H, I.tok _, ⟨_, rfl⟩, q⟩
theorem opB0 {f : Value → Value → Sem Value} {g : Int → Int → Bool}
    (rule : ∀ (i j : Int) (t u : Tok) (s : Shared) (Q : Value → Shared → Prop) (E : Value → Shared → Prop), Q (.bool (g i j)) s → wpAny (model X.prog X.w) X.A (f (.int i t) (.int j u)) Q E s) :
    OpR X f (rI0 fun i j => .bl (g i j)) := by
  intro pins s σ H x y v u Q I rx ry h
  obtain ⟨i, j, rfl, rfl, q⟩ := h
  obtain ⟨t, rfl⟩ := rx
  obtain ⟨t', rfl⟩ := ry
  exact rule i j t t' s _ _ ⟨.bl (g i j), H, I, rfl, q⟩

def CDiv (i j : Int) : Prop := 0 < j ∧ j < 1073741824
def CPow (i j : Int) : Prop := 0 ≤ j ∧ j ≤ 1000000 ∧ i.natAbs < 2 ^ 64
def CMul (i j : Int) : Prop := (-(2 ^ 64) < i ∧ i < 2 ^ 64) ∨ (-(2 ^ 64) < j ∧ j < 2 ^ 64)
theorem CMul.ok {i j : Int} (h : CMul i j) : IntMulOk i j := by
  rcases h with ⟨h1, h2⟩ | ⟨h1, h2⟩
  · exact .of_left (intBits_le_64 h1 h2)
  · exact .of_right (intBits_le_64 h1 h2)
theorem op_add : OpR X (binaryOp .Add) (rI0 fun i j => .int (i + j)) := opI0 fun _ _ _ _ _ _ _ q => add_int q
theorem op_sub : OpR X (binaryOp .Sub) (rI0 fun i j => .int (i - j)) := opI0 fun _ _ _ _ _ _ _ q => sub_int q
theorem op_mul : OpR X (binaryOp .Mult) (rI CMul fun i j => .int (i * j)) := opI fun _ _ _ _ _ _ _ hc q => mul_int q hc.ok
/-- // by a positive divisor -/
theorem op_fdiv : OpR X (binaryOp .FloorDiv) (rI CDiv fun i j => .int (i / j)) := opI fun i j _ _ _ _ _ hc q => by
  have h1 : (0 : Int) < j := hc.1
  have h2 : j < 1073741824 := hc.2
  exact floordiv_int (by omega) (by rw [Int.fdiv_eq_ediv_of_nonneg i (by omega)]; exact q) (.inl (PyProof.noPylong_small (by omega)))
/-- % by a positive divisor of any size -/
theorem op_mod : OpR X (binaryOp .Mod) (rI (fun _ j => 0 < j) fun i j => .int (i % j)) := opI fun i j _ _ _ _ _ hc q => by
  have h1 : (0 : Int) < j := hc
  exact mod_int' (by omega) (by rw [Int.fmod_eq_emod_of_nonneg i (by omega)]; exact q)
theorem op_modN : OpR X (binaryOp .Mod) (rI (fun _ j => j ≠ 0) fun i j => .int (i.fmod j)) := opI fun _ _ _ _ _ _ _ hc q => mod_int' hc q
theorem op_pow : OpR X (binaryOp .Pow) (rI CPow fun i j => .int (i ^ j.toNat)) := opI fun _ _ _ _ _ _ _ hc q => pow_int_small hc.1 hc.2.1 hc.2.2 q
theorem unI {f : Value → Sem Value} {g : Int → Int}
    (rule : ∀ (i : Int) (t : Tok) (s : Shared) (Q : Value → Shared → Prop) (E : Value → Shared → Prop), Q (.int (g i) s.toks) { s with toks := s.toks + 1 } → wpAny (model X.prog X.w) X.A (f (.int i t)) Q E s) :
    UnR X f (rU fun i => .int (g i)) := by
  intro pins s σ H x v Q I rx h
  obtain ⟨i, rfl, q⟩ := h
  obtain ⟨t, rfl⟩ := rx
  exact rule i t s _ _ ⟨.int (g i), H, I.tok _, ⟨_, rfl⟩, q⟩
theorem un_neg : UnR X (unaryOp .USub) (rU fun i => .int (-i)) := unI fun _ _ _ _ _ q => neg_int q
/-! ### bools among ints: n += (a < b) -/
end

/-! ### comparisons -/
/-- the scalars that == tells apart as data does -/
def scal : V → V → Bool
  | .non, .non => true | .non, .int _ => true | .int _, .non => true | .non, .bl _ => true | .bl _, .non => true | .non, .str _ => true | .str _, .non => true
  | .int _, .int _ => true | .bl _, .bl _ => true | .str _, .str _ => true | .byt _, .byt _ => true
  | .int _, .str _ => true | .str _, .int _ => true | .bl _, .str _ => true | .str _, .bl _ => true
  | _, _ => false
def rEq : R2 := fun x y H Q => scal x y = true ∧ Q (.bl (decide (x = y))) H
def rNe : R2 := fun x y H Q => scal x y = true ∧ Q (.bl (!decide (x = y))) H

theorem dec_int {i j : Int} : decide (V.int i = V.int j) = (i == j) := by
  rw [Bool.eq_iff_iff]
  simp
theorem dec_bl {i j : Bool} : decide (V.bl i = V.bl j) = (i == j) := by
  rw [Bool.eq_iff_iff]
  simp
theorem dec_str {i j : Str} : decide (V.str i = V.str j) = (i == j) := by
  rw [Bool.eq_iff_iff]
  simp
theorem dec_byt {i j : Array UInt8} : decide (V.byt i = V.byt j) = (i.toList == j.toList) := by
  rw [Bool.eq_iff_iff]
  cases i
  cases j
  simp

section
variable {X : Cx} {a b c : Expr} {ta tb tc : TE} {pos : Pos}
theorem fin_bl {pins : List (Addr × Obj)} {σ : St} {H : Hp} {s : Shared} {Q : VK} {k k' : Bool} (I : Inv X pins σ H s) (q : Q (.bl k) H) (e : k = k') : EP X pins σ Q (.bool k') s := by
  subst e
  exact ⟨.bl k, H, I, rfl, q⟩
theorem op_eq : OpR X (compareOp .Eq) rEq := by
  intro pins s σ H x y v u Q I rx ry h
  obtain ⟨hs, q⟩ := h
  cases x with
  | non =>
    cases rx
    cases y with
    | non => cases ry; exact PySem.EqNone.eq_none_none (fin_bl I q (by simp))
    | bl j => cases ry; exact PySem.EqNone.eq_none_bool (fin_bl I q (by simp))
    | int j => obtain ⟨t', rfl⟩ := ry; exact PySem.EqNone.eq_none_int (fin_bl I q (by simp))
    | str j => obtain ⟨t', rfl⟩ := ry; exact PySem.EqNone.eq_none_str (fin_bl I q (by simp))
    | _ => exact absurd (show false = true from hs) Bool.false_ne_true
  | bl i =>
    cases rx
    cases y with
    | non => cases ry; exact PySem.EqNone.eq_bool_none (fin_bl I q (by simp))
    | bl j => cases ry; exact eq_bool (fin_bl I q dec_bl)
    | str j => obtain ⟨t', rfl⟩ := ry; exact PySem.EqMixed.eq_bool_str (fin_bl I q (by simp))
    | _ => exact absurd (show false = true from hs) Bool.false_ne_true
  | int i =>
    obtain ⟨t, rfl⟩ := rx
    cases y with
    | non => cases ry; exact PySem.EqNone.eq_int_none (fin_bl I q (by simp))
    | int j => obtain ⟨t', rfl⟩ := ry; exact eq_int (fin_bl I q dec_int)
    | str j => obtain ⟨t', rfl⟩ := ry; exact PySem.EqMixed.eq_int_str (fin_bl I q (by simp))
    | _ => exact absurd (show false = true from hs) Bool.false_ne_true
  | str i =>
    obtain ⟨t, rfl⟩ := rx
    cases y with
    | non => cases ry; exact PySem.EqNone.eq_str_none (fin_bl I q (by simp))
    | bl j => cases ry; exact PySem.EqMixed.eq_str_bool (fin_bl I q (by simp))
    | int j => obtain ⟨t', rfl⟩ := ry; exact PySem.EqMixed.eq_str_int (fin_bl I q (by simp))
    | str j => obtain ⟨t', rfl⟩ := ry; exact eq_str (fin_bl I q dec_str)
    | _ => exact absurd (show false = true from hs) Bool.false_ne_true
  | byt i =>
    obtain ⟨t, rfl⟩ := rx
    cases y with
    | byt j => obtain ⟨t', rfl⟩ := ry; exact PySem.W.eq_bytes (fin_bl I q dec_byt)
    | _ => exact absurd (show false = true from hs) Bool.false_ne_true
  | _ => cases y <;> exact absurd (show false = true from hs) Bool.false_ne_true
theorem op_ne : OpR X (compareOp .NotEq) rNe := by
  intro pins s σ H x y v u Q I rx ry h
  obtain ⟨hs, q⟩ := h
  cases x with
  | non =>
    cases rx
    cases y with
    | non => cases ry; exact PySem.EqNone.ne_none_none (fin_bl I q (by simp))
    | bl j => cases ry; exact PySem.EqNone.ne_none_bool (fin_bl I q (by simp))
    | int j => obtain ⟨t', rfl⟩ := ry; exact PySem.EqNone.ne_none_int (fin_bl I q (by simp))
    | str j => obtain ⟨t', rfl⟩ := ry; exact PySem.EqNone.ne_none_str (fin_bl I q (by simp))
    | _ => exact absurd (show false = true from hs) Bool.false_ne_true
  | bl i =>
    cases rx
    cases y with
    | non => cases ry; exact PySem.EqNone.ne_bool_none (fin_bl I q (by simp))
    | bl j => cases ry; exact ne_bool (fin_bl I q (congrArg not dec_bl))
    | str j => obtain ⟨t', rfl⟩ := ry; exact PySem.EqMixed.ne_bool_str (fin_bl I q (by simp))
    | _ => exact absurd (show false = true from hs) Bool.false_ne_true
  | int i =>
    obtain ⟨t, rfl⟩ := rx
    cases y with
    | non => cases ry; exact PySem.EqNone.ne_int_none (fin_bl I q (by simp))
    | int j => obtain ⟨t', rfl⟩ := ry; exact ne_int (fin_bl I q (congrArg not dec_int))
    | str j => obtain ⟨t', rfl⟩ := ry; exact PySem.EqMixed.ne_int_str (fin_bl I q (by simp))
    | _ => exact absurd (show false = true from hs) Bool.false_ne_true
  | str i =>
    obtain ⟨t, rfl⟩ := rx
    cases y with
    | non => cases ry; exact PySem.EqNone.ne_str_none (fin_bl I q (by simp))
    | bl j => cases ry; exact PySem.EqMixed.ne_str_bool (fin_bl I q (by simp))
    | int j => obtain ⟨t', rfl⟩ := ry; exact PySem.EqMixed.ne_str_int (fin_bl I q (by simp))
    | str j => obtain ⟨t', rfl⟩ := ry; exact ne_str (fin_bl I q (congrArg not dec_str))
    | _ => exact absurd (show false = true from hs) Bool.false_ne_true
  | byt i =>
    obtain ⟨t, rfl⟩ := rx
    cases y with
    | byt j => obtain ⟨t', rfl⟩ := ry; exact PySem.W.ne_bytes (fin_bl I q (congrArg not dec_byt))
    | _ => exact absurd (show false = true from hs) Bool.false_ne_true
  | _ => cases y <;> exact absurd (show false = true from hs) Bool.false_ne_true

theorem op_lt : OpR X (compareOp .Lt) (rI0 fun i j => .bl (decide (i < j))) := opB0 fun _ _ _ _ _ _ _ q => lt_int q
theorem op_le : OpR X (compareOp .LtE) (rI0 fun i j => .bl (decide (i ≤ j))) := opB0 fun _ _ _ _ _ _ _ q => le_int q
theorem op_gt : OpR X (compareOp .Gt) (rI0 fun i j => .bl (decide (j < i))) := opB0 fun _ _ _ _ _ _ _ q => gt_int q
theorem op_ge : OpR X (compareOp .GtE) (rI0 fun i j => .bl (decide (j ≤ i))) := opB0 fun _ _ _ _ _ _ _ q => ge_int q
/-- the one string within the other -/
theorem op_in_str : OpR X (compareOp .In) (fun x y H Q => ∃ i j, x = .str i ∧ y = .str j ∧ Q (.bl (!(Builtin.Str.occurrences j i 0 j.length 1).isEmpty)) H) := by
  intro pins s σ H x y v u Q I rx ry h
  obtain ⟨i, j, rfl, rfl, q⟩ := h
  obtain ⟨t, rfl⟩ := rx
  obtain ⟨t', rfl⟩ := ry
  exact in_str (fin_bl I q rfl)

theorem nomark (b : Expr) {op : CmpOp} (h : op ≠ .In := by decide) (h2 : op ≠ .NotIn := by decide) : behindInMarks op b = false := by
  have e1 : (op == CmpOp.In) = false := by cases op <;> first | rfl | exact absurd rfl h
  have e2 : (op == CmpOp.NotIn) = false := by cases op <;> first | rfl | exact absurd rfl h2
  cases b <;> simp [behindInMarks, e1, e2]
/-- a comparison as a value; hm: nomark b, or (for in, not in) by with_unfolding_all rfl -/
theorem pe_cmpR {op : CmpOp} {r : R2} (ho : OpR X (compareOp op) r) (ha : PE X a ta) (hb : PE X b tb) (hm : behindInMarks op b = false) : PE X (.Compare a [op] [b] pos) (tOp r ta tb) := by
  intro pins s σ H Q I h
  exact wpAny_Compare1 (binT ha hb I h fun v u s2 x y H2 I2 rx ry q => ho pins s2 σ H2 x y v u Q I2 rx ry q) hm
/-- a reading of a value as a test -/
def tTest (t : TE) : TT := fun σ H Q => t σ H fun x H' => ∃ k, x = .bl k ∧ Q k H'
theorem pt_cmpR {op : CmpOp} {r : R2} (ho : OpR X (compareOp op) r) (ha : PE X a ta) (hb : PE X b tb) (hm : behindInMarks op b = false) : PT X (.Compare a [op] [b] pos) (tTest (tOp r ta tb)) := by
  intro pins s σ H Q I h
  refine wpAny_isTrue_Compare1 (thn (ha pins s σ H _ I h) fun v s1 ⟨x, H1, I1, r1, q1⟩ => thn (hb pins s1 σ H1 _ I1 q1) fun u s2 ⟨y, H2, I2, r2, q2⟩ =>
    thn (ho pins s2 σ H2 x y v u _ I2 r1 r2 q2) fun c s3 ⟨z, H3, I3, r3, k, e, q3⟩ => ?_) hm
  subst e
  cases r3
  exact wpAny_truthy_bool ⟨H3, I3, q3⟩
/-- a op1 b op2 c -/
def tChain (r r' : R2) (ta tb tc : TE) : TE := fun σ H Q => ta σ H fun x H1 => tb σ H1 fun y H2 => r x y H2 fun z H3 => ∃ k, z = .bl k ∧
  (if k = true then tc σ H3 fun w' H4 => r' y w' H4 Q else Q (.bl false) H3)
theorem pt_chain {op op' : CmpOp} {r r' : R2} (ho : OpR X (compareOp op) r) (ho' : OpR X (compareOp op') r') (ha : PE X a ta) (hb : PE X b tb) (hc : PE X c tc)
    (hm : lastMarks [op, op'] [b, c] = false := by with_unfolding_all rfl) : PT X (.Compare a [op, op'] [b, c] pos) (tTest (tChain r r' ta tb tc)) := by
  intro pins s σ H Q I h
  refine isTrue_chain (thn (ha pins s σ H _ I h) fun v s1 ⟨x, H1, I1, r1, q1⟩ => test_link (thn (hb pins s1 σ H1 _ I1 q1) fun u s2 ⟨y, H2, I2, r2, q2⟩ =>
    thn (ho pins s2 σ H2 x y v u _ I2 r1 r2 q2) fun d s3 ⟨z, H3, I3, r3, k, e, q3⟩ => ?_)) hm
  subst e
  cases r3
  refine wpAny_truthy_bool ?_
  cases k with
  | false =>
    obtain ⟨k', e', q'⟩ := q3
    cases e'
    exact ite_ff ⟨H3, I3, q'⟩
  | true =>
    refine ite_tt (test_last (thn (hc pins s3 σ H3 _ I3 q3) fun w' s4 ⟨z', H4, I4, r4, q4⟩ => thn (ho' pins s4 σ H4 y z' u w' _ I4 r2 r4 q4) fun d' s5 ⟨z2, H5, I5, r5, k2, e2, q5⟩ => ?_))
    subst e2
    cases r5
    exact wpAny_truthy_bool ⟨H5, I5, q5⟩

/-! ### truth -/
/-- a value's truth by the abstract heap -/
def TruV (K : PySem.W.Frag) (x : V) (H : Hp) (k : Bool) : Prop :=
  match x with
  | .non => k = false
  | .bl b => k = b
  | .int i => k = (i != 0)
  | .str y => y.length ≤ sizeLine ∧ k = ((y.length : Int) != 0)
  | .byt y => y.size ≤ sizeLine ∧ k = ((y.size : Int) != 0)
  | .ref p => (∃ xs, SqL K H p xs ∧ k = !xs.isEmpty) ∨ (∃ xs, SqT K H p xs ∧ k = !xs.isEmpty) ∨ ∃ kvs, H p = some (.dK kvs) ∧ k = !kvs.isEmpty
  | _ => False
theorem isEmpty_kv {κ : Type} {kvs : List (κ × V)} {vs : List (κ × Value)} (r : KV kvs vs) : (!vs.isEmpty) = !kvs.isEmpty := by
  cases r <;> rfl
theorem isEmpty_of {xs : List V} {its : List Value} (r : Vals xs its) : (!its.toArray.isEmpty) = !xs.isEmpty := by
  cases r <;> simp
theorem line63 : (sizeLine : Nat) < 2 ^ 63 := by rw [sizeLine_eq]; decide
theorem tru_ok : TruR X (fun x H Q => ∃ k, TruV X.K x H k ∧ Q k H) := by
  intro pins s σ H x v Q I rx h
  obtain ⟨k, e, q⟩ := h
  have hl := line63
  have hs : sizeLine = 16777216 := sizeLine_eq
  cases x with
  | non =>
    cases rx
    have e' : k = false := e
    subst e'
    exact truthy_none ⟨H, I, q⟩
  | bl b =>
    cases rx
    have e' : k = b := e
    subst e'
    exact wpAny_truthy_bool ⟨H, I, q⟩
  | int i =>
    obtain ⟨t, rfl⟩ := rx
    have e' : k = (i != 0) := e
    subst e'
    exact PySem.P.truthy_int ⟨H, I, q⟩
  | str y =>
    obtain ⟨t, rfl⟩ := rx
    obtain ⟨hy, e'⟩ : y.length ≤ sizeLine ∧ k = ((y.length : Int) != 0) := e
    subst e'
    exact PySem.P.truthy_str (by omega) ⟨H, I.tok _, q⟩
  | byt y =>
    obtain ⟨t, rfl⟩ := rx
    obtain ⟨hy, e'⟩ : y.size ≤ sizeLine ∧ k = ((y.size : Int) != 0) := e
    subst e'
    exact PySem.W.truthy_bytes (by omega) ⟨H, I.tok _, q⟩
  | ref p =>
    cases rx
    have e' : (∃ xs, SqL X.K H p xs ∧ k = !xs.isEmpty) ∨ (∃ xs, SqT X.K H p xs ∧ k = !xs.isEmpty) ∨ ∃ kvs, H p = some (.dK kvs) ∧ k = !kvs.isEmpty := e
    rcases e' with ⟨xs, hx, e'⟩ | ⟨xs, hx, e'⟩ | ⟨kvs, hx, e'⟩
    · subst e'
      obtain ⟨its, r, pl, hz⟩ := I.list hx
      have hlen := r.length
      exact wpAny_truthy_list pl.isList (by simp only [List.size_toArray]; omega) ⟨H, I.tok _, by rw [isEmpty_of r]; exact q⟩
    · subst e'
      obtain ⟨its, r, pl, hz⟩ := I.tuple hx
      have hlen := r.length
      exact truthy_tuple pl (by simp only [List.size_toArray]; omega) ⟨H, I.tok _, by rw [isEmpty_of r]; exact q⟩
    · subst e'
      obtain ⟨hz, hS, vs, r, m⟩ : kvs.length ≤ sizeLine ∧ (p == sysModules) = false ∧ ∃ vs, KV kvs vs ∧ s.heap.DictOf (mixKind X.prog X.w) p vs := I.hok p _ hx
      have hlen : kvs.length = vs.length := Paired.length r
      exact wpAny_truthy_dict hS m (by omega) ⟨H, I.tok _, by rw [isEmpty_kv r]; exact q⟩
  | _ => exact (show False from e).elim
/-! ### strs and bytes -/
theorem op_add_str : OpR X (binaryOp .Add) (fun x y H Q => ∃ i j, x = .str i ∧ y = .str j ∧ i.length + j.length ≤ sizeLine ∧ Q (.str (i ++ j)) H) := by
  intro pins s σ H x y v u Q I rx ry h
  obtain ⟨i, j, rfl, rfl, hz, q⟩ := h
  obtain ⟨t, rfl⟩ := rx
  obtain ⟨t', rfl⟩ := ry
  exact add_str (fun t' tk => ⟨.str (i ++ j), H, I.tok _, ⟨_, rfl⟩, q⟩) hz
/-! ### scalar builtins, by CallR -/
theorem vals1 {x : V} {us : List Value} (r : Vals [x] us) : ∃ u, us = [u] ∧ RelV x u := by
  cases r with
  | cons r1 r2 => cases r2; exact ⟨_, rfl, r1⟩
theorem vals2 {x y : V} {us : List Value} (r : Vals [x, y] us) : ∃ u w', us = [u, w'] ∧ RelV x u ∧ RelV y w' := by
  cases r with
  | cons r1 r2 =>
    cases r2 with
    | cons r3 r4 => cases r4; exact ⟨_, _, rfl, r1, r3⟩
theorem call_abs : CallR X (.builtin "abs") (fun xs H Q => ∃ i, xs = [.int i] ∧ Q (.int (if i < 0 then -i else i)) H) := by
  intro pins s σ H xs us Q I r h
  obtain ⟨i, rfl, q⟩ := h
  obtain ⟨u, rfl, t, rfl⟩ := vals1 r
  exact call_abs_int fun u tk => ⟨.int (if i < 0 then -i else i), H, I.tok _, ⟨_, rfl⟩, q⟩
theorem call_int1 : CallR X (.type "int") (fun xs H Q => (∃ i, xs = [.int i] ∧ Q (.int i) H) ∨ ∃ k, xs = [.bl k] ∧ Q (.int (if k then 1 else 0)) H) := by
  intro pins s σ H xs us Q I r h
  rcases h with ⟨i, rfl, q⟩ | ⟨k, rfl, q⟩
  · obtain ⟨u, rfl, t, rfl⟩ := vals1 r
    exact call_int_int ⟨.int i, H, I, ⟨_, rfl⟩, q⟩
  · obtain ⟨u, rfl, r1⟩ := vals1 r
    cases r1
    exact call_int_bool ⟨.int (if k then 1 else 0), H, I.tok _, ⟨_, rfl⟩, q⟩
theorem call_str_int : CallR X (.type "str") (fun xs H Q => ∃ i, xs = [.int i] ∧ i.natAbs.log2 < 1920 ∧ Q (.str (toString i)) H) := by
  intro pins s σ H xs us Q I r h
  obtain ⟨i, rfl, hz, q⟩ := h
  obtain ⟨u, rfl, t, rfl⟩ := vals1 r
  exact PySem.P.str_of_int hz ⟨.str _, H, I.tok _, ⟨_, rfl⟩, q⟩
/-- len of a str, a bytes, a list, a tuple -/
def LenV (K : PySem.W.Frag) (x : V) (H : Hp) (n : Nat) : Prop :=
  match x with
  | .str y => y.length ≤ sizeLine ∧ n = y.length
  | .byt y => y.size ≤ sizeLine ∧ n = y.size
  | .ref p => (∃ xs, SqL K H p xs ∧ n = xs.length) ∨ ∃ xs, SqT K H p xs ∧ n = xs.length
  | _ => False
theorem call_len : CallR X (.builtin "len") (fun xs H Q => ∃ x n, xs = [x] ∧ LenV X.K x H n ∧ Q (.int n) H) := by
  intro pins s σ H xs us Q I r h
  obtain ⟨x, n, rfl, e, q⟩ := h
  obtain ⟨u, rfl, rx⟩ := vals1 r
  have hl := line63
  have hs : sizeLine = 16777216 := sizeLine_eq
  cases x with
  | str y =>
    obtain ⟨t, rfl⟩ := rx
    obtain ⟨hy, e'⟩ : y.length ≤ sizeLine ∧ n = y.length := e
    subst e'
    exact len_str (by omega) ⟨.int _, H, I.tok _, ⟨_, rfl⟩, q⟩
  | byt y =>
    obtain ⟨t, rfl⟩ := rx
    obtain ⟨hy, e'⟩ : y.size ≤ sizeLine ∧ n = y.size := e
    subst e'
    exact PySem.W.len_bytes (by omega) ⟨.int _, H, I.tok _, ⟨_, rfl⟩, q⟩
  | ref p =>
    cases rx
    have e' : (∃ xs, SqL X.K H p xs ∧ n = xs.length) ∨ ∃ xs, SqT X.K H p xs ∧ n = xs.length := e
    rcases e' with ⟨xs, hx, e'⟩ | ⟨xs, hx, e'⟩
    · subst e'
      obtain ⟨its, r', pl, hz⟩ := I.list hx
      have hlen := r'.length
      exact Calls.call_len_list pl.isList (by simp only [List.size_toArray]; omega) ⟨.int xs.length, H, I.tok _, ⟨_, by simp only [List.size_toArray]; rw [hlen]⟩, q⟩
    · subst e'
      obtain ⟨its, r', pl, hz⟩ := I.tuple hx
      have hlen := r'.length
      exact len_tuple pl (by simp only [List.size_toArray]; omega) ⟨.int xs.length, H, I.tok _, ⟨_, by simp only [List.size_toArray]; rw [hlen]⟩, q⟩
  | _ => exact (show False from e).elim
end
end L2

namespace L2
open PySem PySem.Spec PyProof.Rows

/-! ### an instance, its attributes a map -/
structure ObjM (h : Heap) (x dx C : Addr) (mA : Str → Option Value) : Prop where
  obj : h.get? x = some (PySem.W.instObj C dx)
  ns : h.Ns1 dx mA
  ne : dx ≠ x

theorem lookIn_ns {h : Heap} {dx : Addr} {mA : Str → Option Value} (n : h.Ns1 dx mA) : ∃ od, h.get? dx = some od ∧ ∀ name, PySem.W.lookIn name od = some (mA name) := by
  obtain ⟨o, es, ep, ho, hd, hk, _, hm⟩ := n
  refine ⟨o, ho, fun name => ?_⟩
  have e := hm name
  unfold nsFind findBy at e
  rw [← Array.find?_toList] at e
  unfold PySem.W.lookIn
  rw [hd]
  dsimp only
  split
  · rename_i y q
    rw [q] at e
    exact congrArg some e
  · rename_i q
    rw [q] at e
    have a : es.toList.any (·.refKey) = false := by
      rw [List.any_eq_false]
      intro y hy
      obtain ⟨z, t, hkey⟩ := hk y (Array.mem_toList_iff.mp hy)
      simp [DictEntry.refKey, hkey]
    have a' : ¬ es.toList.any (·.refKey) = true := by rw [a]; exact Bool.false_ne_true
    rw [if_neg a']
    exact congrArg some e

theorem ObjM.look {h : Heap} {x dx C : Addr} {mA : Str → Option Value} (I : ObjM h x dx C mA) : ∃ od, PySem.W.InstAt h x (PySem.W.instObj C dx) C (some od) ∧ ∀ name, PySem.W.lookIn name od = some (mA name) :=
  let ⟨od, ho, hl⟩ := lookIn_ns I.ns
  ⟨od, ⟨I.obj, rfl, rfl, ho⟩, hl⟩

section
variable {prog : Program} {w : World} {A : Around} {E : Value → Shared → Prop} {s : Shared} {K : PySem.W.Frag} {x dx C f : Addr} {mA : Str → Option Value} {name : Str} {v : Value}

theorem get_map {expr : Bool} {Q : Value → Shared → Prop} (X : K.In s.heap) (I : ObjM s.heap x dx C mA) (hg : PySem.W.plainGet K C name = true) (hh : PySem.W.hasDictIn K C = true)
    (ha : PySem.W.findIn K (.ref C) name = some none) (hv : mA name = some v) (hv' : PySem.W.handedIn v = true) (h : Q v { s with toks := s.toks + 1 }) :
    wpAny (model prog w) A (getAttr (.ref x) name expr) Q E s := by
  obtain ⟨od, J, hl⟩ := I.look
  exact PySem.W.get_value X J (PySem.W.plainGet_of hg).1 (PySem.W.findObj_own hh ha rfl (by rw [hl, hv])) hv' h

theorem get_meth {pl : Sem Bool} {Q : Value × List Value → Shared → Prop} (X : K.In s.heap) (I : ObjM s.heap x dx C mA) (hg : PySem.W.plainGet K C name = true)
    (hf : PySem.W.findIn K (.ref C) name = some (some (.ref f))) (ht : PySem.W.isFn K (.ref f) = true) (hv : mA name = none) (h : Q (.ref f, [.ref x]) s) :
    wpAny (model prog w) A (getMethod (.ref x) name pl) Q E s := by
  obtain ⟨od, J, hl⟩ := I.look
  exact PySem.W.method_fn X J (PySem.W.plainGet_of hg).1 (PySem.W.plainGet_of hg).2 hf (beq_iff_eq.mp ht) (by show (PySem.W.lookIn name od).map (·.isSome) = some false; rw [hl, hv]; rfl) h

theorem set_map {ns : List Str} {Q : Unit → Shared → Prop} (X : K.In s.heap) (I : ObjM s.heap x dx C mA)
    (hs : PySem.W.findIn K (.ref C) "__setattr__" = some (some (.builtin "object.__setattr__"))) (hp : PySem.W.plainOver K C = true) (ht : PySem.W.takerIn K C name = some none) (hh : PySem.W.hasDictIn K C = true)
    (hw : PySem.Within mA ns) (hsz : ns.length ≤ sizeLine)
    (h : ∀ h', ObjM h' x dx C (fun y => if y = name then some v else mA y) → Heap.SameBut dx s.heap h' → Q () { s with heap := h', toks := s.toks + 2 }) :
    wpAny (model prog w) A (setAttr (.ref x) name v) Q E s := by
  obtain ⟨od, J, hl⟩ := I.look
  refine PySem.W.set_plain X J hs (PySem.W.osa_open (s := { s with toks := s.toks + 1 }) (r := none) X J hp ht fun b => ?_)
  obtain ⟨cd, hc, hd'⟩ := PySem.W.any_some hh
  have hx : s.heap.get? x = some ⟨.ref C, some dx, .plain, #[]⟩ := I.obj
  refine wpAny_bind (wpAny_pure (wpAny_bind (wpAny_bind (wpAny_loadPart hx (wpAny_bind (PySem.W.Looks.here (s := { s with toks := s.toks + 1 }) (PySem.W.looks_clsIn X hc) ?_))))))
  rw [hd']
  refine wpAny_pure (a := some dx) (wpAny_bind (wpAny_pure (wpAny_bind ?_)))
  refine wpAny_nsSet1 (s := { s with toks := s.toks + 1 }) I.ns fun h' hn2 hs2 => ?_
  obtain ⟨oD, esD, epD, hoD, hdD, hcD⟩ := hn2.count (PySem.Within.cons name v hw)
  refine wpAny_bind (wpAny_lookBehind hoD (by rw [hdD]; exact pastItsLine_dict (Nat.le_trans hcD (by rw [List.length_cons]; omega))) ?_)
  exact wpAny_pure (h _ ⟨(hs2.2 _ (Ne.symm I.ne)).trans I.obj, hn2, I.ne⟩ hs2)

/-- C(..): the dict at the heap's end, the instance behind it; then its __init__ -/
theorem make_map {R : Result → Shared → Prop} {vs : List Value} {kw : List (Str × Value)} (X : K.In s.heap) (hm : PySem.W.makesIn K C = true)
    (hi : PySem.W.findIn K (.ref C) "__init__" = some (some (.ref f))) (hf : PySem.W.typeIn K (.ref f) = some (.type "function"))
    (h : codeAny (model prog w) (A.under (.builtin "type.__call__" ⟨.ref C :: vs, kw⟩)) (.call (.ref f) ⟨.ref (s.heap.objs.size + 1) :: vs, kw⟩) (PySem.W.InitBack (s.heap.objs.size + 1) R)
      { s with heap := (s.heap.push PySem.W.emptyDict).push (PySem.W.instObj C s.heap.objs.size) }) :
    codeAny (model prog w) A (.call (.ref C) ⟨vs, kw⟩) R s := by
  obtain ⟨hh, g, d, t, os⟩ := s
  exact PySem.W.make_core (PySem.W.makes_of X hm) (PySem.W.looks_findIn X hi) (fun self => PySem.W.bind_fn X self hf) (.inl rfl) h
end

/-! ### the attributes as a list of pairs -/
def putF (f : Str) (v : V) : List (Str × V) → List (Str × V)
  | [] => [(f, v)]
  | (g, x) :: r => if g = f then (g, v) :: r else (g, x) :: putF f v r
theorem lookup_putF (f g : Str) (v : V) : ∀ fs : List (Str × V), (putF f v fs).lookup g = if g = f then some v else fs.lookup g
  | [] => by
    show List.lookup g [(f, v)] = _
    by_cases h : g = f
    · have hb : (g == f) = true := beq_iff_eq.mpr h
      simp only [List.lookup, hb, if_pos h]
    · have hb : (g == f) = false := beq_eq_false_iff_ne.mpr h
      simp only [List.lookup, hb, if_neg h]
  | (k, x) :: r => by
    have ih := lookup_putF f g v r
    rw [show putF f v ((k, x) :: r) = (if k = f then (k, v) :: r else (k, x) :: putF f v r) from rfl]
    by_cases hk : k = f
    · rw [if_pos hk]
      by_cases h : g = k
      · have hb : (g == k) = true := beq_iff_eq.mpr h
        simp only [List.lookup, hb, if_pos (h.trans hk)]
      · have hb : (g == k) = false := beq_eq_false_iff_ne.mpr h
        simp only [List.lookup, hb, if_neg (fun e : g = f => h (e.trans hk.symm))]
    · rw [if_neg hk]
      by_cases h : g = k
      · have hb : (g == k) = true := beq_iff_eq.mpr h
        simp only [List.lookup, hb, if_neg (fun e : g = f => hk (h.symm.trans e))]
      · have hb : (g == k) = false := beq_eq_false_iff_ne.mpr h
        simp only [List.lookup, hb]
        exact ih
theorem keys_putF (f : Str) (v : V) : ∀ fs : List (Str × V), f ∈ (putF f v fs).map (·.1) ∧ ∀ g, g ∈ fs.map (·.1) → g ∈ (putF f v fs).map (·.1)
  | [] => ⟨by simp [putF], fun g h => by simp at h⟩
  | (k, x) :: r => by
    obtain ⟨i1, i2⟩ := keys_putF f v r
    rw [show putF f v ((k, x) :: r) = (if k = f then (k, v) :: r else (k, x) :: putF f v r) from rfl]
    by_cases hk : k = f
    · rw [if_pos hk]
      subst hk
      exact ⟨by simp, fun g h => by simpa using h⟩
    · rw [if_neg hk]
      refine ⟨?_, fun g h => ?_⟩
      · rw [List.map_cons]
        exact List.mem_cons_of_mem _ i1
      · rw [List.map_cons] at h ⊢
        rcases List.mem_cons.mp h with e | e
        · exact List.mem_cons.mpr (.inl e)
        · exact List.mem_cons_of_mem _ (i2 g e)
theorem length_putF (f : Str) (v : V) : ∀ fs : List (Str × V), (putF f v fs).length ≤ fs.length + 1
  | [] => by simp [putF]
  | (k, x) :: r => by
    have ih := length_putF f v r
    rw [show putF f v ((k, x) :: r) = (if k = f then (k, v) :: r else (k, x) :: putF f v r) from rfl]
    by_cases hk : k = f
    · rw [if_pos hk, List.length_cons, List.length_cons]; omega
    · rw [if_neg hk, List.length_cons, List.length_cons]; omega

theorem RelO.some_of {v : V} {o : Option Value} (r : RelO (some v) o) : ∃ u, o = some u ∧ RelV v u := by
  cases o with
  | none => exact (show False from r).elim
  | some u => exact ⟨u, rfl, r⟩
theorem RelO.none_of {o : Option Value} (r : RelO none o) : o = none := by
  cases o with
  | none => rfl
  | some u => exact (show False from r).elim
theorem handed_of {v : V} {u : Value} (r : RelV v u) : PySem.W.handedIn u = true := by
  cases v with
  | non => cases (show u = Value.none from r); rfl
  | bl b => cases (show u = Value.bool b from r); rfl
  | int i => obtain ⟨t, e⟩ := (show ∃ t, u = Value.int i t from r); cases e; rfl
  | str x => obtain ⟨t, e⟩ := (show ∃ t, u = Value.str x t from r); cases e; rfl
  | byt b => obtain ⟨t, e⟩ := (show ∃ t, u = Value.bytes b t from r); cases e; rfl
  | flt b => obtain ⟨t, e⟩ := (show ∃ t, u = Value.float b t from r); cases e; rfl
  | ref a => cases (show u = Value.ref a from r); rfl
  | ty n => cases (show u = Value.type n from r); rfl

section
variable {P : Program} {w : World} {H H' : Hp} {h h' : Heap} {a C dx : Addr} {fs fs' : List (Str × V)}
theorem ins_get (hok : HOk P w H h) (e : H a = some (.ins C dx fs)) : ∃ mA, ObjM h a dx C mA ∧ (∀ f, RelO (fs.lookup f) (mA f)) ∧ PySem.Within mA (fs.map (·.1)) ∧ fs.length ≤ 1000 ∧ H dx = some (.own a) := by
  obtain ⟨d, z, ne, ob, mA, n, r, q⟩ := (show ObjOk P w H h a (.ins C dx fs) from hok a _ e)
  exact ⟨mA, ⟨ob, n, ne⟩, r, q, z, d⟩
end

/-! ### what of the text a class must have -/
structure Cls (K : PySem.W.Frag) (C : Addr) : Prop where
  pg : PySem.W.plainGet K C Str.empty = true
  hd : PySem.W.hasDictIn K C = true
  po : PySem.W.plainOver K C = true
  sa : PySem.W.findIn K (.ref C) "__setattr__" = some (some (.builtin "object.__setattr__"))
theorem Cls.get {K : PySem.W.Frag} {C : Addr} (c : Cls K C) (f : Str) : PySem.W.plainGet K C f = true := c.pg
/-- no class of it has the name -/
def NoAttr (K : PySem.W.Frag) (C : Addr) (f : Str) : Prop := PySem.W.findIn K (.ref C) f = some none
theorem NoAttr.taker {K : PySem.W.Frag} {C : Addr} {f : Str} (n : NoAttr K C f) : PySem.W.takerIn K C f = some none := by
  unfold PySem.W.takerIn
  rw [show PySem.W.findIn K (.ref C) f = some none from n]
  rfl
/-- a constant of the class -/
structure Con (K : PySem.W.Frag) (C : Addr) (f : Str) (v : V) (u : Value) : Prop where
  at_ : PySem.W.findIn K (.ref C) f = some (some u)
  rel : RelV v u
  get : PySem.W.specialIn K u "__get__" = some none
  cp : PySem.W.copiedNames.contains f = false
/-- a method: a plain def of the class or of one above it -/
structure Meth (K : PySem.W.Frag) (C : Addr) (m : Str) (f : Addr) : Prop where
  at_ : PySem.W.findIn K (.ref C) m = some (some (.ref f))
  fn : PySem.W.isFn K (.ref f) = true
  kp : PySem.W.keepIn K (.ref f) = true

section
variable {X : Cx} {pins : List (Addr × Obj)} {σ : St} {H : Hp} {s : Shared} {a C dx : Addr} {fs : List (Str × V)} {f : Str} {v : V} {A : Around} {E : Value → Shared → Prop}

theorem getattr_ok {b : Bool} {Q : Value → Shared → Prop} (I : Inv X pins σ H s) (e : H a = some (.ins C dx fs)) (c : Cls X.K C) (n : NoAttr X.K C f) (l : fs.lookup f = some v)
    (h : ∀ u s', Inv X pins σ H s' → RelV v u → Q u s') : wpAny (model X.prog X.w) A (getAttr (.ref a) f b) Q E s := by
  obtain ⟨mA, O, r, _, _, _⟩ := ins_get I.hok e
  obtain ⟨u, hu, ru⟩ := RelO.some_of (v := v) (o := mA f) (by rw [← l]; exact r f)
  exact get_map I.kIn O (c.get f) c.hd n hu (handed_of ru) (h u _ (I.tok _) ru)

theorem getmeth_ok {m : Str} {g : Addr} {pl : Sem Bool} {Q : Value × List Value → Shared → Prop} (I : Inv X pins σ H s) (e : H a = some (.ins C dx fs)) (c : Cls X.K C) (k : Meth X.K C m g) (l : fs.lookup m = none)
    (h : Q (.ref g, [.ref a]) s) : wpAny (model X.prog X.w) A (getMethod (.ref a) m pl) Q E s := by
  obtain ⟨mA, O, r, _, _, _⟩ := ins_get I.hok e
  have hn : mA m = none := RelO.none_of (by rw [← l]; exact r m)
  exact get_meth I.kIn O (c.get m) k.at_ k.fn hn h

theorem setattr_ok {y : V} {u : Value} {Q : Unit → Shared → Prop} (I : Inv X pins σ H s) (e : H a = some (.ins C dx fs)) (c : Cls X.K C) (n : NoAttr X.K C f) (hl : fs.length < 1000) (ry : RelV y u)
    (h : ∀ s', Inv X pins σ (upd H a (.ins C dx (putF f y fs))) s' → Q () s') : wpAny (model X.prog X.w) A (setAttr (.ref a) f u) Q E s := by
  obtain ⟨mA, O, r, wi, _, ho⟩ := ins_get I.hok e
  have hz : (fs.map (·.1)).length ≤ sizeLine := by rw [List.length_map, sizeLine_eq]; omega
  refine set_map I.kIn O c.sa c.po n.taker c.hd wi hz fun h' O' sb => h _ ?_
  have hd : ∃ o, h'.get? dx = some o := let ⟨o, _, _, e', _⟩ := O'.ns; ⟨o, e'⟩
  refine I.write (x := a) (e := dx) (by rw [e]; exact True.intro) (.inr ho) (fun b q hb z => (sb.2 b hb).trans z) hd ?_
  refine ⟨by rw [upd_ne O.ne]; exact ho, ?_, O.ne, O'.obj, _, O'.ns, fun g => ?_, fun g hg => ?_⟩
  · have := length_putF f y fs; omega
  · show RelO ((putF f y fs).lookup g) (if g = f then some u else mA g)
    rw [lookup_putF]
    by_cases q : g = f
    · rw [if_pos q, if_pos q]; exact ry
    · rw [if_neg q, if_neg q]; exact r g
  · by_cases q : g = f
    · rw [q]; exact (keys_putF f y fs).1
    · refine (keys_putF f y fs).2 g (wi g fun z => hg ?_)
      show (if g = f then some u else mA g) = none
      rw [if_neg q]; exact z

/-- a new instance, tracked, without attributes -/
theorem Inv.made (I : Inv X pins σ H s) : Inv X pins σ (upd (upd H s.heap.objs.size (.own (s.heap.objs.size + 1))) (s.heap.objs.size + 1) (.ins C s.heap.objs.size []))
    { s with heap := (s.heap.push PySem.W.emptyDict).push (PySem.W.instObj C s.heap.objs.size) } := by
  have e1 : (s.heap.push PySem.W.emptyDict).get? s.heap.objs.size = some PySem.W.emptyDict := Heap.get?_push_size s.heap rfl
  have e2 : ((s.heap.push PySem.W.emptyDict).push (PySem.W.instObj C s.heap.objs.size)).get? (s.heap.objs.size + 1) = some (PySem.W.instObj C s.heap.objs.size) := by
    have := Heap.get?_push_size (s.heap.push PySem.W.emptyDict) (o := PySem.W.instObj C s.heap.objs.size) rfl
    rwa [Heap.size_push] at this
  have e3 : (s.heap.push PySem.W.emptyDict).Ns s.heap.objs.size (fun _ => none) := ⟨PySem.W.emptyDict, #[], _, e1, rfl, (fun e he => absurd he (by simp)), fun _ => rfl⟩
  have I1 := I.laid (a := s.heap.objs.size) (o := .own (s.heap.objs.size + 1)) (h' := s.heap.push PySem.W.emptyDict) (t' := s.toks) (fun b u q => Heap.get?_push_of_some _ q) (Nat.le_refl _) ⟨_, e1⟩
  refine I1.laid (a := s.heap.objs.size + 1) (o := .ins C s.heap.objs.size []) (t' := s.toks) (fun b u q => Heap.get?_push_of_some _ q) (Nat.le_of_eq (Heap.size_push _ _)) ?_
  have ne : s.heap.objs.size ≠ s.heap.objs.size + 1 := Nat.ne_of_lt (Nat.lt_succ_self _)
  refine ⟨by rw [upd_ne ne, upd_same], Nat.zero_le _, ne, e2, fun _ => none, (Heap.Ns1.of_empty e3).at fun o q => Heap.get?_push_of_some _ q, fun _ => True.intro, fun y hy => absurd rfl hy⟩

/-- e.f where nothing but the object is asked: through attributeBase (super) and the last hold -/
theorem attr_of {prog : Program} {w : World} {env : Env} {e : Expr} {f : Str} {pos : Pos} {s : Shared} {Q : Value → Shared → Prop} (hb : attributeBase e f env (eval e env) = eval e env)
    (h : wpAny (model prog w) A (eval e env) (fun o s₁ => wpAny (model prog w) A (getAttr o f true) Q E s₁) E s) : wpAny (model prog w) A (eval (.Attribute e f pos) env) Q E s :=
  Attribute_any_ h (by rw [arm_eval_Attribute, hb])
end

/-! ### readings and rules -/
/-- e.f, an attribute of the instance -/
def tFld (K : PySem.W.Frag) (ta : TE) (f : Str) : TE := fun σ H Q => ta σ H fun x H1 => ∃ a C dx fs v, x = .ref a ∧ H1 a = some (.ins C dx fs) ∧ Cls K C ∧ NoAttr K C f ∧ fs.lookup f = some v ∧ Q v H1
/-- e.f = value -/
def sFld (K : PySem.W.Frag) (ta tv : TE) (f : Str) : TS := fun D σ H => tv σ H fun y H1 => ta σ H1 fun x H2 => ∃ a C dx fs, x = .ref a ∧ H2 a = some (.ins C dx fs) ∧ Cls K C ∧ NoAttr K C f ∧ fs.length < 1000 ∧
  D.nx σ (upd H2 a (.ins C dx (putF f y fs)))
section
variable {X : Cx} {o e value : Expr} {f : Str} {pos pos' tpos : Pos} {ta tv : TE}
theorem pe_fld (he : PE X e ta) (hb : attributeBase e f X.env (eval e X.env) = eval e X.env) : PE X (.Attribute e f pos) (tFld X.K ta f) := by
  intro pins s σ H Q I h
  refine attr_of hb (thn (he pins s σ H _ I h) fun u s1 ⟨x, H1, I1, rx, a, C, dx, fs, v, ex, ea, c, n, l, q⟩ => ?_)
  subst ex
  obtain rfl : u = Value.ref a := rx
  exact getattr_ok I1 ea c n l fun u' s2 I2 ru => ⟨v, H1, I2, ru, q⟩
theorem ps_fld (ha : PE X o ta) (hv : PE X value tv) (hs : swapsWith value (some (.Attribute o f pos')) pos.line X.env = pure false) : PS X (.Assign [.Attribute o f pos'] value pos) (sFld X.K ta tv f) := by
  intro pins s σ H D I h
  refine plainObj_wpAny_Assign_Attribute (thn (hv pins s σ H _ I h) fun u s1 ⟨y, H1, I1, ry, q⟩ => thn (ha pins s1 σ H1 _ I1 q) fun ov s2 ⟨x, H2, I2, rx, a, C, dx, fs, ex, ea, c, n, l, q2⟩ => ?_) hs
  subst ex
  obtain rfl : ov = Value.ref a := rx
  exact setattr_ok I2 ea c n l ry fun s3 I3 => ⟨σ, _, I3, q2⟩
/-- what is between an instance and its method: the tree of a method call -/
theorem methcall_of {pl : Sem Bool} {m : Str} {apos : Pos} {args : List Expr} {pins : List (Addr × Obj)} {s : Shared} {σ : St} {H : Hp} {Q : Value → Shared → Prop} {te : TE} (he : PE X e te) (I : Inv X pins σ H s)
    (h : te σ H fun x H1 => ∃ a C dx fs g, x = .ref a ∧ H1 a = some (.ins C dx fs) ∧ Cls X.K C ∧ Meth X.K C m g ∧ fs.lookup m = none ∧
      ∀ s1, Inv X pins σ H1 s1 → wpAny (model X.prog X.w) X.A (callWith pos (.ref g) [.ref a] (backTo pos (starEach args X.env)) (backToKw pos (keywordEach [] X.env))) Q X.xe s1)
    (ht : eval (.Call (.Attribute e m apos) args [] pos) X.env = (do
      let ov ← eval e X.env
      standAt apos.atName
      let (f, first) ← holding [ov] (getMethod ov m pl)
      callWith pos f first (backTo pos (starEach args X.env)) (backToKw pos (keywordEach [] X.env)))) :
    wpAny (model X.prog X.w) X.A (eval (.Call (.Attribute e m apos) args [] pos) X.env) Q X.xe s := by
  refine PySem.W.methodCall_KW (pl := pl) (thn (he pins s σ H _ I h) fun u s1 ⟨x, H1, I1, rx, a, C, dx, fs, g, ex, ea, c, k, l, q⟩ => ?_) ht
  subst ex
  obtain rfl : u = Value.ref a := rx
  exact getmeth_ok I1 ea c k l (q s1 I1)
end

/-! ### isinstance -/
section
variable {X : Cx} {pins : List (Addr × Obj)} {σ : St} {H : Hp} {s : Shared} {A : Around} {E : Value → Shared → Prop} {Q : Value → Shared → Prop} {c : Value} {b : Bool}
/-- the type of a value, as the fragment's deciders take it; for an instance its class -/
inductive TyOf (K : PySem.W.Frag) (H : Hp) : V → Value → Prop where
  | non : TyOf K H .non (.type "NoneType")
  | bl (x : Bool) : TyOf K H (.bl x) (.type "bool")
  | int (i : Int) : TyOf K H (.int i) (.type "int")
  | str (x : Str) : TyOf K H (.str x) (.type "str")
  | flt (x : UInt64) : TyOf K H (.flt x) (.type "float")
  | lst {a : Addr} {xs : List V} (e : H a = some (.lst xs)) : TyOf K H (.ref a) (.type "list")
  | frz {a : Addr} {o : Obj} {xs : List V} (e : H a = some (.frz o (.lst xs))) : TyOf K H (.ref a) (.type "list")
  | tup {a : Addr} {xs : List V} (e : H a = some (.tup xs)) : TyOf K H (.ref a) (.type "tuple")
  | dK {a : Addr} {kvs : List (Key × V)} (e : H a = some (.dK kvs)) : TyOf K H (.ref a) (.type "dict")
  | dT {a : Addr} {kvs : List (List Key × V)} (e : H a = some (.dT kvs)) : TyOf K H (.ref a) (.type "dict")
  | ins {a C dx : Addr} {fs : List (Str × V)} (e : H a = some (.ins C dx fs)) (cl : Cls K C) (ha : PySem.W.findIn K (.ref C) "__class__" = some (some (.builtin "object.__class__")))
      (hn : PySem.W.specialIn K (.builtin "object.__class__") "__get__" = some (some (.builtin "getset_descriptor.__get__"))) (htk : PySem.W.takesIn K (.builtin "object.__class__") = some true)
      (hm : PySem.W.mroIn K C (.type "object") = some true) : TyOf K H (.ref a) (.ref C)
/-- isinstance(x, c) for one class c, a built-in or an own one: kitOne's answer -/
theorem isinst_ok {x : V} {u t : Value} (I : Inv X pins σ H s) (rx : RelV x u) (ty : TyOf X.K H x t) (e : PySem.W.kitOne X.K t c = some b) (h : ∀ tk, Q (.bool b) { s with toks := tk }) :
    wpAny (model X.prog X.w) A (call (.builtin "isinstance") [u, c]) Q E s := by
  cases ty with
  | non => cases (show u = Value.none from rx); exact PySem.W.kia_one PySem.W.kitx_none I.kIn True.intro e (fun z => nomatch z) h
  | bl y => cases (show u = Value.bool y from rx); exact PySem.W.kia_one PySem.W.kitx_bool I.kIn True.intro e (fun z => nomatch z) h
  | int i => obtain ⟨t, q⟩ := (show ∃ t, u = Value.int i t from rx); cases q; exact PySem.W.kia_one PySem.W.kitx_int I.kIn True.intro e (fun z => nomatch z) h
  | str y => obtain ⟨t, q⟩ := (show ∃ t, u = Value.str y t from rx); cases q; exact PySem.W.kia_one PySem.W.kitx_str I.kIn True.intro e (fun z => nomatch z) h
  | flt y => obtain ⟨t, q⟩ := (show ∃ t, u = Value.float y t from rx); cases q; exact PySem.W.kia_one PySem.W.kitx_float I.kIn True.intro e (fun z => nomatch z) h
  | @lst a xs ea =>
    cases (show u = Value.ref a from rx)
    obtain ⟨_, _, n, _, h1⟩ := (show ObjOk X.prog X.w H s.heap a (.lst xs) from I.hok a _ ea)
    exact PySem.W.kia_one PySem.W.kitx_list I.kIn ⟨_, h1, rfl⟩ e (fun z => nomatch z) h
  | @frz a ob xs ea =>
    cases (show u = Value.ref a from rx)
    obtain ⟨_, _, _, n, _, h1⟩ := (show ObjOk X.prog X.w H s.heap a (.frz ob (.lst xs)) from I.hok a _ ea)
    exact PySem.W.kia_one PySem.W.kitx_list I.kIn ⟨_, h1, rfl⟩ e (fun z => nomatch z) h
  | @tup a xs ea =>
    cases (show u = Value.ref a from rx)
    obtain ⟨_, _, _, p⟩ := (show ObjOk X.prog X.w H s.heap a (.tup xs) from I.hok a _ ea)
    obtain ⟨o, h1, h2, _⟩ := p
    exact PySem.W.kia_one PySem.W.kitx_tuple I.kIn ⟨o, h1, h2⟩ e (fun z => nomatch z) h
  | @dK a kvs ea =>
    cases (show u = Value.ref a from rx)
    obtain ⟨_, _, vs, _, p⟩ := (show ObjOk X.prog X.w H s.heap a (.dK kvs) from I.hok a _ ea)
    obtain ⟨o, es, ep, h1, h2, _⟩ := p
    exact PySem.W.kia_one PySem.W.kitx_dict I.kIn ⟨o, h1, h2.1⟩ e (fun z => nomatch z) h
  | @dT a kvs ea =>
    cases (show u = Value.ref a from rx)
    obtain ⟨_, _, xs, _, o, es, ep, h1, h2, _⟩ := (show ObjOk X.prog X.w H s.heap a (.dT kvs) from I.hok a _ ea)
    exact PySem.W.kia_one PySem.W.kitx_dict I.kIn ⟨o, h1, h2.1⟩ e (fun z => nomatch z) h
  | @ins a C dx fs ea cl ha hn htk hm =>
    cases (show u = Value.ref a from rx)
    obtain ⟨mA, O, _⟩ := ins_get I.hok ea
    obtain ⟨od, J, _⟩ := O.look
    exact PySem.W.kia_one (PySem.W.kitx_own (cl.get _) cl.hd ha hn htk hm) I.kIn J e (fun z => nomatch z) h
end
end L2

namespace L2
open PySem PySem.Spec PyProof.Rows

/-! ### room -/
structure Room (k : Nat) (A : Around) : Prop where
  hd : A.handled = none
  dp : A.depth + 3 * k + 5 < recursionLimit
  un : A.units + 16 * k + 200 < cLine
theorem Room.mono {j k : Nat} {A : Around} (r : Room k A) (h : j ≤ k) : Room j A := ⟨r.hd, by have := r.dp; omega, by have := r.un; omega⟩
theorem Room.deeper {k : Nat} {A : Around} (r : Room (k + 1) A) (env : Env) : Room k (A.deeper env) :=
  ⟨r.hd, by have := r.dp; show A.depth + 1 + 3 * k + 5 < _; omega, by have := r.un; show A.units + 3 + 16 * k + 200 < _; omega⟩
theorem make_depth {A : Around} {C : Addr} {us : List Value} {kw : List (Str × Value)} : (A.under (.builtin "type.__call__" ⟨.ref C :: us, kw⟩)).depth = A.depth + 1 := by
  first | rfl | simp [Around.under, Code.weight, Code.isCreation, Code.isGuard, Code.isCaller, Code.frames, Code.isFrame, guardIds]
theorem make_units {A : Around} {C : Addr} {us : List Value} {kw : List (Str × Value)} : (A.under (.builtin "type.__call__" ⟨.ref C :: us, kw⟩)).units = A.units + 1 := by
  first | rfl | simp [Around.under, Code.cUnits, Code.frames, Code.isFrame]
theorem Room.make {k : Nat} {A : Around} (r : Room (k + 1) A) (C : Addr) (us : List Value) (kw : List (Str × Value)) : Room k (A.under (.builtin "type.__call__" ⟨.ref C :: us, kw⟩)) :=
  ⟨r.hd, by have := r.dp; rw [make_depth]; omega, by have := r.un; rw [make_units]; omega⟩
theorem Room.depth {k : Nat} {A : Around} (r : Room k A) : A.depth < recursionLimit := by have := r.dp; omega
theorem Room.units {k : Nat} {A : Around} (r : Room k A) : A.units + 64 < cLine := by have := r.un; omega
/-! ### argument lists and displays -/
def tNil : TA := fun _ H Q => Q [] H
def tCons (ta : TE) (tr : TA) : TA := fun σ H Q => ta σ H fun x H1 => tr σ H1 fun xs H2 => Q (x :: xs) H2
section
variable {X : Cx} {e : Expr} {es : List Expr} {te : TE} {t : TA} {pos : Pos}
theorem pa_nil : PA X [] tNil := fun _ _ _ _ H Q I h => Calls.spliced_nil ⟨[], H, I, .nil, h⟩
theorem pa_cons (ha : PE X e te) (hr : PA X es t) (hs : starEach (e :: es) X.env = (false, eval e X.env) :: starEach es X.env := by rfl) : PA X (e :: es) (tCons te t) := by
  intro pos pins s σ H Q I h
  rw [hs]
  show wpAny _ _ (spliced ((false, eval e X.env) :: backTo pos (starEach es X.env))) _ _ s
  refine Calls.spliced_cons (thn (ha pins s σ H _ I h) fun u s1 ⟨x, H1, I1, r1, q1⟩ => ?_)
  exact thn (hr pos pins s1 σ H1 _ I1 q1) fun us s2 ⟨xs, H2, I2, r2, q2⟩ => ⟨x :: xs, H2, I2, .cons r1 r2, q2⟩

/-- a tuple, a list of written items -/
def tTup (t : TA) : TE := fun σ H Q => t σ H fun xs H1 => xs.length ≤ sizeLine ∧ ∀ p, H1 p = none → Q (.ref p) (upd H1 p (.tup xs))
def tLst (t : TA) : TE := fun σ H Q => t σ H fun xs H1 => xs.length ≤ sizeLine ∧ ∀ p, H1 p = none → Q (.ref p) (upd H1 p (.lst xs))
theorem pe_tup {x1} (h : PA X es t) : PE X (.Tuple es x1 pos) (tTup t) := by
  intro pins s σ H Q I hq
  refine wpAny_Tuple_spliced (thn (h pos pins s σ H _ I hq) fun us s1 ⟨xs, H1, I1, r, z, q⟩ => ⟨by rw [← r.length]; exact z, ?_⟩)
  have hf : H1 s1.heap.objs.size = none := I1.hok.fresh (Nat.le_refl _)
  refine ⟨.ref s1.heap.objs.size, upd H1 s1.heap.objs.size (.tup xs), I1.laid (t' := s1.toks) (fun b u e => Heap.get?_push_of_some _ e) (Nat.le_refl _) ?_, rfl, q _ hf⟩
  exact ⟨z, us, r, ⟨_, Heap.get?_push_size _ rfl, rfl, _, rfl⟩⟩
theorem pe_lst (h : PA X es t) : PE X (.List es pos) (tLst t) := by
  intro pins s σ H Q I hq
  refine wpAny_List_spliced (thn (h pos pins s σ H _ I hq) fun us s1 ⟨xs, H1, I1, r, z, q⟩ => ⟨by rw [← r.length]; exact z, ?_⟩)
  have hf : H1 s1.heap.objs.size = none := I1.hok.fresh (Nat.le_refl _)
  refine ⟨.ref s1.heap.objs.size, upd H1 s1.heap.objs.size (.lst xs), I1.laid (t' := s1.toks) (fun b u e => Heap.get?_push_of_some _ e) (Nat.le_refl _) ?_, rfl, q _ hf⟩
  exact ⟨z, us, 0, r, Heap.get?_push_size _ rfl⟩
end

/-! ### what a def promises -/
/-- a def's promise: the bound arguments in the parameters' order, the heap, the wanted end, the wanted exception -/
abbrev Sp := List V → Hp → VK → XK → Prop
/-- how an exception lies behind a call (file 08 gives it): the callers' frames, abstract heap and state ahead of the call, the wish, the exception, the state -/
abbrev CXT := List Env → Hp → Shared → XK → Value → Shared → Prop

/-- the state at a call -/
structure Env0 (P : Program) (w : World) (K : PySem.W.Frag) (mg : Str → Option Value) (base : Heap) (A : Around) (outer : List Env) (s : Shared) (H : Hp) : Prop where
  frames : A.frames = some outer
  mod : Mod K mg base
  bs : ∀ b o, base.get? b = some o → s.heap.get? b = some o ∧ H b = none
  bsz : base.objs.size ≤ s.heap.objs.size
  funs : s.heap.FunFrames base outer
  frf : ∀ b ∈ frs outer, H b = none
  hok : HOk P w H s.heap
  bare : AllBare s.gens
/-- a call's end -/
def CE (outer : List Env) (P : Program) (w : World) (H : Hp) (s : Shared) (Q : VK) (u : Value) (s' : Shared) : Prop :=
  ∃ v H', s'.os = s.os ∧ AllBare s'.gens ∧ Un (frs outer) [] H H' s.heap s'.heap ∧ HOk P w H' s'.heap ∧ RelV v u ∧ Q v H'
def CR (CX : CXT) (outer : List Env) (P : Program) (w : World) (H : Hp) (s : Shared) (Q : VK) (E : XK) (r : Result) (s' : Shared) : Prop :=
  match r with
  | .ok (.ret u) => CE outer P w H s Q u s'
  | .ok _ => False
  | .error e => CX outer H s E e s'
structure FnOk (P : Program) (w : World) (K : PySem.W.Frag) (mg : Str → Option Value) (base : Heap) (CX : CXT) (k : Nat) (f : Addr) (fd : FuncData) (ps : List Str) (sp : Sp) : Prop where
  len : ∀ vs H Q E, sp vs H Q E → vs.length = ps.length
  run : ∀ (A : Around) (outer : List Env) (s : Shared) (H : Hp) (args : Args) (us : List Value) (vs : List V) (Q : VK) (E : XK), Room k A → Env0 P w K mg base A outer s H → BindsTo s fd args (ps.zip us) → Vals vs us → sp vs H Q E →
    codeAny (model P w) A (.call (.ref f) args) (CR CX outer P w H s Q E) s
theorem Env0.make {P : Program} {w : World} {K : PySem.W.Frag} {mg : Str → Option Value} {base : Heap} {A : Around} {outer : List Env} {s : Shared} {H : Hp} (e : Env0 P w K mg base A outer s H) (C : Addr) (us : List Value) (kw : List (Str × Value)) :
    Env0 P w K mg base (A.under (.builtin "type.__call__" ⟨.ref C :: us, kw⟩)) outer s H := ⟨by first | exact e.frames | (simpa [Around.under, Code.envs, Code.isFrame, pushEnvs] using e.frames), e.mod, e.bs, e.bsz, e.funs, e.frf, e.hok, e.bare⟩
section
variable {X : Cx} {pins : List (Addr × Obj)} {σ : St} {H : Hp} {s s' : Shared}
/-- from a body: what a callee wants -/
theorem Inv.env0 (I : Inv X pins σ H s) : Env0 X.prog X.w X.K X.mg X.base X.A X.stack s H :=
  ⟨I.ok.frames, I.ok.mod, I.bs, Nat.le_trans I.ok.bsz I.sz, I.stack, I.stkFree, I.hok, I.bare⟩
/-- behind a call -/
theorem Inv.after {Q : VK} {u : Value} (I : Inv X pins σ H s) (h : CE X.stack X.prog X.w H s Q u s') : EP X pins σ Q u s' := by
  obtain ⟨v, H', os, bare, un, hok, r, q⟩ := h
  obtain ⟨hh, g, d, t, os'⟩ := s'
  obtain rfl : os' = s.os := os
  exact ⟨v, H', I.call (h' := hh) (g' := g) (d' := d) (t' := t) (ch := []) un hok bare (fun b z => absurd z (by simp)), r, q⟩
end

/-! ### calls -/
/-- f(..): the written arguments, then the defaults dvs; E: what is wanted of an exception -/
def tCall (sp : Sp) (dvs : List V) (E : XK) (t : TA) : TE := fun σ H Q => t σ H fun vs H1 => sp (vs ++ dvs) H1 Q E
/-- o.m(..) of an instance of the class at C -/
def tMeth (C : Addr) (m : Str) (sp : Sp) (dvs : List V) (E : XK) (ta : TE) (t : TA) : TE := fun σ H Q => ta σ H fun x H1 => ∃ a dx fs, x = .ref a ∧ H1 a = some (.ins C dx fs) ∧ fs.lookup m = none ∧
  t σ H1 fun vs H2 => sp (x :: (vs ++ dvs)) H2 Q E
/-- C(..): a new instance and its dict, then __init__ -/
def tMake (C : Addr) (sp : Sp) (dvs : List V) (E : XK) (t : TA) : TE := fun σ H Q => t σ H fun vs H1 => ∀ x dx, H1 x = none → H1 dx = none → dx ≠ x →
  sp (.ref x :: (vs ++ dvs)) (upd (upd H1 dx (.own x)) x (.ins C dx [])) (fun v H2 => v = .non ∧ Q (.ref x) H2) E

/-- how the parameters are bound: us the positional arguments, kw the keywords' values by name, ds the defaults that fill up -/
def Binds (K : PySem.W.Frag) (fd : FuncData) (ps : List Str) (ds : List Value) : Prop :=
  ∀ (s : Shared) (us : List Value), K.In s.heap → (us ++ ds).length = ps.length → BindsTo s fd ⟨us, []⟩ (ps.zip (us ++ ds))
/-- every parameter is given -/
theorem Binds.all {K : PySem.W.Frag} {fd : FuncData} {ps : List Str} (h : ∀ us : List Value, us.length = ps.length → bindArgs fd ⟨us, []⟩ = pure (ps.zip us)) : Binds K fd ps [] := fun s us _ hl => by
  rw [List.append_nil] at hl ⊢
  exact .of_eq (h us hl)

/-- an exception of a callee reaches what this body wants of exceptions -/
def Passes (CX : CXT) (X : Cx) (E : XK) : Prop := ∀ (pins : List (Addr × Obj)) (σ : St) (H : Hp) (s : Shared) (e : Value) (s' : Shared), Inv X pins σ H s → CX X.stack H s E e s' → X.xe e s'

section
variable {X : Cx} {CX : CXT} {k : Nat} {f C : Addr} {fd : FuncData} {ps : List Str} {sp : Sp} {dvs : List V} {ds : List Value} {E : XK} {x m : Str} {p pos apos : Pos} {e o : Expr} {es : List Expr} {ta : TE} {t : TA}

/-- the callee runs -/
theorem run_fn {pins : List (Addr × Obj)} {σ : St} {H : Hp} {s : Shared} {Q : VK} {us : List Value} {vs : List V} (F : FnOk X.prog X.w X.K X.mg X.base CX k f fd ps sp) (hr : Room k X.A) (hb : Binds X.K fd ps ds) (hd : Vals dvs ds) (hx : Passes CX X E)
    (I : Inv X pins σ H s) (r : Vals vs us) (h : sp (vs ++ dvs) H Q E) : wpAny (model X.prog X.w) X.A (call (.ref f) us) (EP X pins σ Q) X.xe s := by
  have r2 : Vals (vs ++ dvs) (us ++ ds) := r.append hd
  have hl : (us ++ ds).length = ps.length := by rw [← r2.length]; exact F.len _ _ _ _ h
  refine wpAny_call (codeAny_mono (F.run X.A X.stack s H ⟨us, []⟩ (us ++ ds) (vs ++ dvs) Q E hr I.env0 (hb s us I.kIn hl) r2 h) fun r s' hq => ?_)
  cases r with
  | error e => exact hx pins σ H s e s' I hq
  | ok fl =>
    cases fl with
    | ret u => exact I.after hq
    | next => exact False.elim hq
    | brk => exact False.elim hq
    | cont => exact False.elim hq

theorem pe_call (F : FnOk X.prog X.w X.K X.mg X.base CX k f fd ps sp) (hr : Room k X.A) (hg : Gl X x) (hm : X.mg x = some (.ref f)) (hk : PySem.W.keepIn X.K (.ref f) = true) (hb : Binds X.K fd ps ds) (hd : Vals dvs ds) (hx : Passes CX X E)
    (ha : PA X (e :: es) t) (hdb : (x == ("__debug__" : Str)) = false := by decide) (he : starEach (e :: es) X.env = (false, eval e X.env) :: starEach es X.env := by rfl) (hpl : (backTo pos (starEach es X.env)).any (·.1) = false := by rfl) :
    PE X (.Call (.Name x p) (e :: es) [] pos) (tCall sp dvs E t) := by
  intro pins s σ H Q I h
  refine wpAny_Call_Name_kw (ld_glob I hg hm ?_ hdb)
  refine PySem.W.callWith_K (h₀ := X.base) I.ok.mod.kin hk (thn (ha pos pins s σ H _ I h) fun us s1 ⟨vs, H1, I1, r, q⟩ => ⟨I1.kIn, ?_⟩) he hpl
  exact run_fn F hr hb hd hx I1 r q
/-- o.m(e, ..) -/
theorem pe_meth {pl : Sem Bool} (he : PE X o ta) (c : Cls X.K C) (hm : Meth X.K C m f) (F : FnOk X.prog X.w X.K X.mg X.base CX k f fd ps sp) (hr : Room k X.A) (hb : Binds X.K fd ps ds) (hd : Vals dvs ds) (hx : Passes CX X E) (ha : PA X (e :: es) t)
    (hst : starEach (e :: es) X.env = (false, eval e X.env) :: starEach es X.env := by rfl) (hpl : (backTo pos (starEach es X.env)).any (·.1) = false := by rfl)
    (ht : eval (.Call (.Attribute o m apos) (e :: es) [] pos) X.env = (do
      let ov ← eval o X.env
      standAt apos.atName
      let (f, first) ← holding [ov] (getMethod ov m pl)
      callWith pos f first (backTo pos (starEach (e :: es) X.env)) (backToKw pos (keywordEach [] X.env))) := by rfl) :
    PE X (.Call (.Attribute o m apos) (e :: es) [] pos) (tMeth C m sp dvs E ta t) := by
  intro pins s σ H Q I h
  refine PySem.W.methodCall_KW (pl := pl) (thn (he pins s σ H _ I h) fun u s1 ⟨x, H1, I1, rx, a, dx, fs, ex, ea, l, q⟩ => ?_) ht
  subst ex
  obtain rfl : u = Value.ref a := rx
  refine getmeth_ok I1 ea c hm l ?_
  refine PySem.W.callWith_K (first := [.ref a]) (h₀ := X.base) I.ok.mod.kin hm.kp (thn (ha pos pins s1 σ H1 _ I1 q) fun us s2 ⟨vs, H2, I2, r, q2⟩ => ⟨I2.kIn, ?_⟩) hst hpl
  exact run_fn (us := .ref a :: us) (vs := .ref a :: vs) F hr hb hd hx I2 (.cons rfl r) q2
/-- what a class must have to be made -/
structure Mk (K : PySem.W.Frag) (C f : Addr) : Prop where
  makes : PySem.W.makesIn K C = true
  init : PySem.W.findIn K (.ref C) "__init__" = some (some (.ref f))
  fn : PySem.W.isFn K (.ref f) = true
  kp : PySem.W.keepIn K (.ref C) = true

theorem run_make {pins : List (Addr × Obj)} {σ : St} {H : Hp} {s : Shared} {Q : VK} {us : List Value} {vs : List V} (M : Mk X.K C f) (F : FnOk X.prog X.w X.K X.mg X.base CX k f fd ps sp) (hr : Room (k + 1) X.A) (hb : Binds X.K fd ps ds) (hd : Vals dvs ds)
    (hx : Passes CX X E) (I : Inv X pins σ H s) (r : Vals vs us)
    (h : ∀ x dx, H x = none → H dx = none → dx ≠ x → sp (.ref x :: (vs ++ dvs)) (upd (upd H dx (.own x)) x (.ins C dx [])) (fun v H2 => v = .non ∧ Q (.ref x) H2) E) :
    wpAny (model X.prog X.w) X.A (call (.ref C) us) (EP X pins σ Q) X.xe s := by
  have hq := h (s.heap.objs.size + 1) s.heap.objs.size (I.hok.fresh (Nat.le_succ _)) (I.hok.fresh (Nat.le_refl _)) (Nat.ne_of_lt (Nat.lt_succ_self _))
  have I2 := Inv.made (C := C) I
  have r2 : Vals (V.ref (s.heap.objs.size + 1) :: (vs ++ dvs)) (Value.ref (s.heap.objs.size + 1) :: (us ++ ds)) := .cons rfl (r.append hd)
  have hl : (Value.ref (s.heap.objs.size + 1) :: us ++ ds).length = ps.length := by
    have e := r2.length
    rw [F.len _ _ _ _ hq] at e
    exact e.symm
  refine wpAny_call (make_map (f := f) I.kIn M.makes M.init (beq_iff_eq.mp M.fn) (codeAny_mono (F.run _ X.stack _ _ ⟨Value.ref (s.heap.objs.size + 1) :: us, []⟩ (Value.ref (s.heap.objs.size + 1) :: (us ++ ds)) _ _ E (hr.make C us [])
    (I2.env0.make C us []) (hb _ (Value.ref (s.heap.objs.size + 1) :: us) I2.kIn hl) r2 hq) fun r s' hq' => ?_))
  cases r with
  | error e => exact hx pins σ _ _ e s' I2 hq'
  | ok fl =>
    cases fl with
    | ret u =>
      obtain ⟨v, H', I3, rv, ev, q3⟩ := I2.after hq'
      subst ev
      exact ⟨rv, ⟨V.ref (s.heap.objs.size + 1), H', I3, rfl, q3⟩⟩
    | next => exact False.elim hq'
    | brk => exact False.elim hq'
    | cont => exact False.elim hq'
theorem pe_make (M : Mk X.K C f) (F : FnOk X.prog X.w X.K X.mg X.base CX k f fd ps sp) (hr : Room (k + 1) X.A) (hg : Gl X x) (hm : X.mg x = some (.ref C)) (hb : Binds X.K fd ps ds) (hd : Vals dvs ds) (hx : Passes CX X E)
    (ha : PA X (e :: es) t) (hdb : (x == ("__debug__" : Str)) = false := by decide) (he : starEach (e :: es) X.env = (false, eval e X.env) :: starEach es X.env := by rfl) (hpl : (backTo pos (starEach es X.env)).any (·.1) = false := by rfl) :
    PE X (.Call (.Name x p) (e :: es) [] pos) (tMake C sp dvs E t) := by
  intro pins s σ H Q I h
  refine wpAny_Call_Name_kw (ld_glob I hg hm ?_ hdb)
  refine PySem.W.callWith_K (h₀ := X.base) I.ok.mod.kin M.kp (thn (ha pos pins s σ H _ I h) fun us s1 ⟨vs, H1, I1, r, q⟩ => ⟨I1.kIn, ?_⟩) he hpl
  exact run_make M F hr hb hd hx I1 r q
end

/-! ### keywords -/
section
variable {X : Cx} {CX : CXT} {k : Nat} {f C : Addr} {fd : FuncData} {ps ks : List Str} {sp : Sp} {E : XK} {x m : Str} {p pos apos kpos : Pos} {e o : Expr} {es : List Expr} {kws : List Keyword} {te ta : TE} {t tk : TA} {nm : Option Str}
/-- how a call with keywords binds: g puts the positional values us and the keywords' values ws (names ks) in the parameters' order, defaults among them -/
structure KBinds (K : PySem.W.Frag) (fd : FuncData) (ps ks : List Str) (g : List Value → List Value → List Value) (gV : List V → List V → List V) : Prop where
  to : ∀ (s : Shared) (us ws : List Value), K.In s.heap → (g us ws).length = ps.length → BindsTo s fd ⟨us, ks.zip ws⟩ (ps.zip (g us ws))
  rel : ∀ {vs : List V} {us : List Value} {zs : List V} {ws : List Value}, Vals vs us → Vals zs ws → Vals (gV vs zs) (g us ws)
variable {g : List Value → List Value → List Value} {gV : List V → List V → List V}
end

/-! ### a def's body keeps its promise -/
/-- names: the parameters first -/
structure FnScope (N P : List Str) (sc : Scope) : Prop where
  kind : sc.kind = .function
  co : sc.isCoroutine = false
  gen : sc.isGenerator = false
  nd : N.Nodup
  pre : N.take P.length = P
  par : ∀ x ∈ P, sc.names.lookup x = some .local ∨ sc.names.lookup x = some .cell
  nofree : ∀ y ∈ sc.names, y.2 ≠ .free

theorem bindL_out {kindOf : Str → Option NameKind} {x : Str} : ∀ {binds : List (Str × Value)} {m : Str → Option Value}, (∀ v, (x, v) ∉ binds) → bindL kindOf binds m x = m x
  | [], _, _ => rfl
  | (n, v) :: r, m, h => by
    unfold bindL
    rw [bindL_out fun w hw => h w (List.mem_cons_of_mem _ hw)]
    split
    · have : x ≠ n := by rintro rfl; exact h v List.mem_cons_self
      simp [this]
    · rfl
theorem bindC_out {kindOf : Str → Option NameKind} {x : Str} : ∀ {binds : List (Str × Value)} {m : Str → Option Value}, (∀ v, (x, v) ∉ binds) → bindC kindOf binds m x = m x
  | [], _, _ => rfl
  | (n, v) :: r, m, h => by
    unfold bindC
    rw [bindC_out fun w hw => h w (List.mem_cons_of_mem _ hw)]
    split
    · rfl
    · have : x ≠ n := by rintro rfl; exact h v List.mem_cons_self
      simp [this]
theorem bindL_get {kindOf : Str → Option NameKind} {x : Str} {v : Value} : ∀ {P : List Str} {vs : List Value} {i : Nat} {m : Str → Option Value}, P.Nodup → P[i]? = some x → vs[i]? = some v → kindOf x = some .local →
    bindL kindOf (P.zip vs) m x = some v
  | [], _, _, _, _, h, _, _ => by simp at h
  | _ :: _, [], _, _, _, _, h, _ => by simp at h
  | p :: P, w :: vs, 0, m, nd, h1, h2, hk => by
    simp at h1 h2; subst h1; subst h2
    show bindL kindOf ((p, w) :: P.zip vs) m p = _
    unfold bindL
    rw [bindL_out fun v hv => (List.nodup_cons.mp nd).1 (List.of_mem_zip hv).1, if_pos hk]
    simp
  | p :: P, w :: vs, i + 1, m, nd, h1, h2, hk => by
    show bindL kindOf ((p, w) :: P.zip vs) m x = _
    unfold bindL
    exact bindL_get (i := i) (List.nodup_cons.mp nd).2 (by simpa using h1) (by simpa using h2) hk
theorem bindC_get {kindOf : Str → Option NameKind} {x : Str} {v : Value} : ∀ {P : List Str} {vs : List Value} {i : Nat} {m : Str → Option Value}, P.Nodup → P[i]? = some x → vs[i]? = some v → kindOf x ≠ some .local →
    bindC kindOf (P.zip vs) m x = some v
  | [], _, _, _, _, h, _, _ => by simp at h
  | _ :: _, [], _, _, _, _, h, _ => by simp at h
  | p :: P, w :: vs, 0, m, nd, h1, h2, hk => by
    simp at h1 h2; subst h1; subst h2
    show bindC kindOf ((p, w) :: P.zip vs) m p = _
    unfold bindC
    rw [bindC_out fun v hv => (List.nodup_cons.mp nd).1 (List.of_mem_zip hv).1, if_neg hk]
    simp
  | p :: P, w :: vs, i + 1, m, nd, h1, h2, hk => by
    show bindC kindOf ((p, w) :: P.zip vs) m x = _
    unfold bindC
    exact bindC_get (i := i) (List.nodup_cons.mp nd).2 (by simpa using h1) (by simpa using h2) hk

/-- the names' values at the entry -/
def start (N : List Str) (vs : List V) : St := vs.map some ++ List.replicate (N.length - vs.length) none

/-- the context of a def's body, at its entry; an exception leaves the frame, then lies as CX says -/
def cxOf (CX : CXT) (P : Program) (w : World) (K : PySem.W.Frag) (mg : Str → Option Value) (base : Heap) (N : List Str) (qual : Str) (scope : Scope) (f : Addr) (cd : Value) (A : Around) (outer : List Env) (s : Shared) (H : Hp) (E : XK) : Cx where
  prog := P
  w := w
  K := K
  mg := mg
  base := base
  A := A.deeper (envOfC qual scope s.heap.objs.size f cd)
  N := N
  s₀ := s
  H₀ := H
  env := envOfC qual scope s.heap.objs.size f cd
  outer := outer
  stack := envOfC qual scope s.heap.objs.size f cd :: outer
  ex := []
  calm := true
  fn := fun _ => true
  pn := []
  xe := fun e s' => wpAny (model P w) (A.deeper (envOfC qual scope s.heap.objs.size f cd)) (leaving (envOfC qual scope s.heap.objs.size f cd) e) (fun _ s'' => CX outer H s E e s'') (fun e' s'' => CX outer H s E e' s'') s'

theorem cell_has {sc : Scope} {n : Nat} {x : Str} (h : sc.names.lookup x = some .cell) : ∃ c, (cellsFrom n sc.names []).lookup x = some c := by
  have q := PySem.W.cellsFrom_some sc.names n [] (.inl h)
  exact Option.isSome_iff_exists.mp q

theorem inv_start {CX : CXT} {P : Program} {w : World} {K : PySem.W.Frag} {mg : Str → Option Value} {base : Heap} {N ps : List Str} {qual : Str} {scope : Scope} {f : Addr} {cd : Value} {A : Around} {outer : List Env} {s s1 : Shared} {H : Hp} {E : XK} {us : List Value} {vs : List V}
    (S : FnScope N ps scope) (hd : A.handled = none) (e0 : Env0 P w K mg base A outer s H) (hl : vs.length = ps.length) (r : Vals vs us)
    (x : InCallC s s.heap.objs.size (bindL (envOfC qual scope s.heap.objs.size f cd).kindOf (ps.zip us) fun _ => none) (cellsFrom (s.heap.objs.size + 1) scope.names []) (bindC (envOfC qual scope s.heap.objs.size f cd).kindOf (ps.zip us) fun _ => none) s1) :
    Inv (cxOf CX P w K mg base N qual scope f cd A outer s H E) [] (start N vs) H s1 := by
  have hpl : ps.length ≤ N.length := by have := congrArg List.length S.pre; rw [List.length_take] at this; omega
  obtain ⟨h1, tk, rfl, hk⟩ := x.done
  have noA : ∀ b : Addr, b ∉ (cxOf CX P w K mg base N qual scope f cd A outer s H E).ex := fun b z => absurd (show b ∈ ([] : List Addr) from z) (by simp)
  refine ⟨⟨e0.mod, S.kind, rfl, rfl, Nat.le_refl _, fun y z c h1 h2 => ?_, fun y hy => ?_, fun y c _ h => ?_, fun _ => hd, Around.frames_deeper e0.frames, .inr ⟨rfl, rfl⟩, fun b z => absurd z (noA b), e0.bs, e0.bsz, fun b _ _ => noA b, fun b z => absurd z (noA b), e0.funs, e0.frf⟩,
    rfl, e0.bare, Un.kept hk, ⟨_, x.toInCall.ns, fun i y v h1 h2 h3 => ?_⟩, fun y c h => ⟨_, x.cell y c h⟩, e0.hok.fresh (Nat.le_refl _), fun y c h => ?_, fun p hp => absurd (show p ∈ ([] : List (Addr × Obj)) from hp) (by simp), e0.hok.kept hk, ?_⟩
  · exact name_of_addr x.apart (PySem.mem_of_lookup h1) (PySem.mem_of_lookup h2)
  · have hy : scope.names.lookup y = some .cell ∨ scope.names.lookup y = some .free := hy
    rcases hy with hy | hy
    · exact cell_has hy
    · exact absurd rfl (S.nofree _ (PySem.mem_of_lookup hy))
  · exact Nat.le_of_lt (x.above y c (PySem.mem_of_lookup h))
  · have hi : i < vs.length := by
      unfold start at h2
      by_cases hi : i < vs.length
      · exact hi
      · rw [List.getElem?_append_right (by simpa using hi)] at h2
        rw [List.getElem?_replicate] at h2
        split at h2 <;> cases h2
    have ha : vs[i]? = some v := by
      unfold start at h2
      rw [List.getElem?_append_left (by simpa using hi), List.getElem?_map] at h2
      cases e : vs[i]? with
      | none => rw [e] at h2; cases h2
      | some a => rw [e] at h2; cases h2; rfl
    obtain ⟨u, hu, rv⟩ := r.get ha
    have hp : ps[i]? = some y := by
      rw [← S.pre, List.getElem?_take_of_lt (by omega)]; exact h1
    have ndP : ps.Nodup := by rw [← S.pre]; exact S.nd.sublist (List.take_sublist _ _)
    refine ⟨u, rv, ?_⟩
    rcases S.par y (List.mem_of_getElem? hp) with k | k
    · exact .inl ⟨k, bindL_get ndP hp hu k⟩
    · obtain ⟨c, e⟩ := cell_has (n := s.heap.objs.size + 1) k
      refine .inr ⟨.inl k, c, e, ?_⟩
      have q := x.cell y c e
      rw [bindC_get ndP hp hu (by show scope.names.lookup y ≠ _; rw [k]; decide)] at q
      exact q
  · exact e0.hok.fresh (Nat.le_of_lt (x.above y c (PySem.mem_of_lookup h)))
  · unfold start
    show _ = N.length
    rw [List.length_append, List.length_map, List.length_replicate]
    omega

/-- THE RULE: a def (or a method) of the text, by its body. The body's reading t is chosen for each entry; it is run at the parameters' values -/
theorem fn_of {CX : CXT} {P : Program} {w : World} {K : PySem.W.Frag} {mg : Str → Option Value} {base : Heap} {k : Nat} {f : Addr} {name qual : Str} {params : Arguments} {body : List Stmt} {scope : Scope} {dV kV doc pm cdv ct oc : Value} {an od : Option Addr}
    {osl : Array (Option Value)} {N ps : List Str} {sp : Sp} (lk : K.lookup f = some ⟨oc, od, .func (PySem.W.fnOf name qual params body scope dV kV doc pm an cdv ct), osl⟩) (hcd : PySem.W.codeIn K cdv qual = true) (S : FnScope N ps scope)
    (len : ∀ vs H Q E, sp vs H Q E → vs.length = ps.length)
    (hbody : ∀ (A : Around) (outer : List Env) (s : Shared) (H : Hp) (vs : List V) (Q : VK) (E : XK), Room k (A.deeper (envOfC qual scope s.heap.objs.size f cdv)) → sp vs H Q E →
      ∃ t, PSs (cxOf CX P w K mg base N qual scope f cdv A outer s H E) body t ∧ t { nx := fun _ H' => Q .non H', rt := Q } (start N vs) H) :
    FnOk P w K mg base CX (k + 1) f (PySem.W.fnOf name qual params body scope dV kV doc pm an cdv ct) ps sp := by
  refine ⟨len, fun A outer s H args us vs Q E hr e0 hb r hsp => ?_⟩
  have hl := len _ _ _ _ hsp
  have KX : K.In s.heap := e0.mod.kin.keeps fun b o e => (e0.bs b o e).1
  have lim : s.heap.NoLimit := e0.mod.nolimit.keeps fun b o e => (e0.bs b o e).1
  have hkind : ∀ y ∈ ps.zip us, scope.names.lookup y.1 = some .local ∨ (scope.names.lookup y.1 = some .cell ∧ ((cellsFrom (s.heap.objs.size + 1) scope.names []).lookup y.1).isSome = true) := fun ⟨n, v⟩ hy => by
    rcases S.par n (List.of_mem_zip hy).1 with q | q
    · exact .inl q
    · exact .inr ⟨q, PySem.W.cellsFrom_some _ _ _ (.inl q)⟩
  refine codeAny_call_function hr.depth (KX _ _ lk) rfl S.co S.gen rfl (PySem.W.codeRec_of KX hcd) (hb _ _ _ _ ?_)
  refine wpAny_newFunctionEnv_cells S.kind hkind fun env he s1 x => ?_
  subst he
  refine ⟨lim.keeps x.toInCall.keep, codeAny_func ?_⟩
  obtain ⟨t, ht, hq⟩ := hbody A outer s H vs Q E (hr.deeper _) hsp
  have I : Inv (cxOf CX P w K mg base N qual scope f cdv A outer s H E) [] (start N vs) H s1 := inv_start S hr.hd e0 hl r x
  refine wpAny_mono (ht [] s1 (start N vs) H _ I hq) (fun fl s' hs => ?_) fun e s' hs => hs
  have fin : ∀ {σ' : St} {H' : Hp} {v : V} {u : Value}, Inv (cxOf CX P w K mg base N qual scope f cdv A outer s H E) [] σ' H' s' → RelV v u → Q v H' → CE outer P w H s Q u s' :=
    fun {σ' H' v u} J rv q => ⟨v, H', J.os, J.bare, J.base, J.hok, rv, q⟩
  cases fl with
  | ret u =>
    obtain ⟨v, σ', H', J, rv, q⟩ := hs
    exact fin J rv q
  | next =>
    obtain ⟨σ', H', J, q⟩ := hs
    exact fin (v := V.non) (u := Value.none) J rfl q
  | brk =>
    obtain ⟨_, _, _, q⟩ := hs
    exact False.elim q
  | cont =>
    obtain ⟨_, _, _, q⟩ := hs
    exact False.elim q
end L2

namespace L2
open PySem PySem.Spec PyProof.Rows
section
variable {X : Cx} {x : Str} {p pos : Pos} {e : Expr} {es : List Expr} {t : TA} {id T : String} {r : List V → Hp → VK → Prop}

def tCB (r : List V → Hp → VK → Prop) (t : TA) : TE := fun σ H Q => t σ H fun vs H1 => r vs H1 Q
/-- f(e, ..), f a built-in function -/
theorem pe_callB (hc : CallR X (.builtin id) r) (hg : Gl X x) (hm : X.mg x = none) (hv : bootBuiltins x = some (.builtin id)) (ha : PA X (e :: es) t) (hn : x ≠ "__name__" := by decide) (hdb : (x == ("__debug__" : Str)) = false := by decide)
    (he : starEach (e :: es) X.env = (false, eval e X.env) :: starEach es X.env := by rfl) (hpl : (backTo pos (starEach es X.env)).any (·.1) = false := by rfl) : PE X (.Call (.Name x p) (e :: es) [] pos) (tCB r t) := by
  intro pins s σ H Q I h
  refine wpAny_Call_Name_kw (ld_blt I hg hm hv ?_ hn hdb)
  exact PyProof.Rows.callWith_builtin1 (thn (ha pos pins s σ H _ I h) fun us s1 ⟨vs, H1, I1, r1, q1⟩ => hc pins s1 σ H1 vs us Q I1 r1 q1) he hpl
/-- T(e, ..), T a built-in type -/
theorem pe_callTy (hc : CallR X (.type T) r) (hg : Gl X x) (hm : X.mg x = none) (hv : bootBuiltins x = some (.type T)) (ha : PA X (e :: es) t) (hn : x ≠ "__name__" := by decide) (hdb : (x == ("__debug__" : Str)) = false := by decide)
    (he : starEach (e :: es) X.env = (false, eval e X.env) :: starEach es X.env := by rfl) (hpl : (backTo pos (starEach es X.env)).any (·.1) = false := by rfl) : PE X (.Call (.Name x p) (e :: es) [] pos) (tCB r t) := by
  intro pins s σ H Q I h
  refine wpAny_Call_Name_kw (ld_blt I hg hm hv ?_ hn hdb)
  exact PyProof.Rows.callWith_type1 (thn (ha pos pins s σ H _ I h) fun us s1 ⟨vs, H1, I1, r1, q1⟩ => hc pins s1 σ H1 vs us Q I1 r1 q1) he hpl
end
end L2

namespace HT
open PySem PyProof.Rows

section
open PySem.SeqAt
open PySem.AutoSeq1 (wpAny_loadPart')
open PySem.MeetsSeq PySem.MeetsSeq2 PySem.MeetsSeq3

end

section
variable {prog : Program} {w : World} {A : Around} {E : Value → Shared → Prop} {s : Shared}

/-! ### t[a:b], not the whole -/
/-- a slice's bound as a place among n (d where it is left out) -/
def sIx (n d : Nat) : Option Int → Nat
  | none => d
  | some v => if v < 0 then (v + (n : Int)).toNat else min v.toNat n
theorem sIx_none (n d : Nat) : sIx n d none = d := rfl
theorem sIx_nat (n d k : Nat) : sIx n d (some (k : Int)) = min k n := by
  show (if (k : Int) < 0 then ((k : Int) + (n : Int)).toNat else min (k : Int).toNat n) = min k n
  rw [if_neg (by omega), Int.toNat_natCast]
end
end HT

namespace L2
open PySem PySem.Spec PyProof.Rows

/-! ### the parts of a slice -/
abbrev TO := St → Hp → (Option Int → Hp → Prop) → Prop
/-- a slice's part (left out, or an int) -/
def PO (X : Cx) (e : Option Expr) (t : TO) : Prop :=
  ∀ (pins : List (Addr × Obj)) (s : Shared) (σ : St) (H : Hp) (Q : Option Int → Hp → Prop), Inv X pins σ H s → t σ H Q →
    wpAny (model X.prog X.w) X.A (evalPart e X.env) (fun u s' => ∃ o H', Inv X pins σ H' s' ∧ IsPart u o ∧ Q o H') X.xe s
def tNoPart : TO := fun _ H Q => Q none H
def tPart (t : TE) : TO := fun σ H Q => t σ H fun x H1 => ∃ i, x = .int i ∧ Q (some i) H1

section
variable {X : Cx} {e : Expr} {te : TE} {lo hi : Option Expr} {tl th : TO} {pos p2 : Pos}

theorem po_none : PO X none tNoPart := by
  intro pins s σ H Q I h
  rw [evalPart_none]
  exact wpAny_pure ⟨none, H, I, .none, h⟩
theorem po_some (h : PE X e te) : PO X (some e) (tPart te) := by
  intro pins s σ H Q I hw
  rw [evalPart_some]
  refine thn (h pins s σ H _ I hw) fun u s1 ⟨x, H1, I1, r1, q1⟩ => ?_
  obtain ⟨i, rfl, q⟩ := q1
  obtain ⟨t, rfl⟩ := r1
  exact ⟨some i, H1, I1, .int i t, q⟩

/-- what a slice of a value is, by values: the slice object stands at sl -/
def SlR (X : Cx) (r : V → Option Int → Option Int → Hp → VK → Prop) : Prop :=
  ∀ (pins : List (Addr × Obj)) (s : Shared) (σ : St) (H : Hp) (x : V) (v vl vu : Value) (lo hi : Option Int) (sl : Addr) (Q : VK), Inv X pins σ H s → RelV x v → s.heap.IsSliceOf sl vl vu .none → IsPart vl lo → IsPart vu hi → r x lo hi H Q →
    ∃ T id, typeLookup (.type T) "__getitem__" = pure (some (.builtin id)) ∧ s.TypeIs v T ∧ wpAny (model X.prog X.w) X.A (getItem v (.ref sl)) (EP X pins σ Q) X.xe s
def tSl (r : V → Option Int → Option Int → Hp → VK → Prop) (te : TE) (tl th : TO) : TE := fun σ H Q => te σ H fun x H1 => tl σ H1 fun l H2 => th σ H2 fun u H3 => r x l u H3 Q
/-- a[lo:hi], any a -/
theorem pe_slice {r : V → Option Int → Option Int → Hp → VK → Prop} (hr : SlR X r) (he : PE X e te) (hl : PO X lo tl) (hu : PO X hi th) : PE X (.Subscript e (.Slice lo hi none p2) pos) (tSl r te tl th) := by
  intro pins s σ H Q I h
  refine Subscript_ (thn (he pins s σ H _ I h) fun v s1 ⟨x, H1, I1, r1, q1⟩ => ?_)
  refine wpAny_Slice (thn (hl pins s1 σ H1 _ I1 q1) fun vl s2 ⟨l, H2, I2, pl, q2⟩ => thn (hu pins s2 σ H2 _ I2 q2) fun vu s3 ⟨u, H3, I3, pu, q3⟩ => ?_)
  rw [evalPart_none]
  refine wpAny_pure ?_
  have I4 : Inv X pins σ H3 { s3 with heap := s3.heap.push { cls := .type "slice", data := .fields #[vl, vu, .none] } } := I3.kept (t' := s3.toks) fun b ob q => Heap.get?_push_of_some _ q
  obtain ⟨T, id, hT, ht, hg⟩ := hr pins { s3 with heap := s3.heap.push { cls := .type "slice", data := .fields #[vl, vu, .none] } } σ H3 x v vl vu l u s3.heap.objs.size Q I4 r1 (Heap.IsSliceOf.new ..) pl pu q3
  show wpAny (model X.prog X.w) X.A (subscriptTail e (.Slice lo hi none p2) v (.ref s3.heap.objs.size)) (EP X pins σ Q) X.xe { s3 with heap := s3.heap.push { cls := .type "slice", data := .fields #[vl, vu, .none] } }
  exact tail_any (ops := [.ref s3.heap.objs.size, v]) ht hT hg (by with_unfolding_all rfl)

/-- the items of xs[lo:hi] -/
def cutV (xs : List V) (lo hi : Option Int) : List V := (xs.drop (HT.sIx xs.length 0 lo)).take (HT.sIx xs.length xs.length hi - HT.sIx xs.length 0 lo)
theorem cutV_length (xs : List V) (lo hi : Option Int) : (cutV xs lo hi).length ≤ xs.length := by
  unfold cutV
  rw [List.length_take, List.length_drop]
  omega
/-! ### t < u, t + u -/
end
end L2

namespace L2
open PySem PySem.Spec PyProof.Rows

/-! ### places -/
/-- the place that an index of any sign means -/
def ixN (n : Nat) (i : Int) : Option Nat := if 0 ≤ i then (if i < n then some i.toNat else none) else if -(n : Int) ≤ i then some (i + n).toNat else none
def atI {α : Type} (xs : List α) (i : Int) : Option α := (ixN xs.length i).bind fun j => xs[j]?
theorem ixN_seq {n : Nat} {i : Int} {j : Nat} (h : ixN n i = some j) : seqIndex? i n = some j ∧ j < n ∧ -(n : Int) ≤ i ∧ i < n := by
  unfold ixN at h
  by_cases h0 : 0 ≤ i
  · rw [if_pos h0] at h
    by_cases h1 : i < n
    · rw [if_pos h1] at h
      have e : i.toNat = j := Option.some.inj h
      exact ⟨by rw [seqIndex_of h0 h1, e], by omega, by omega, h1⟩
    · rw [if_neg h1] at h; cases h
  · rw [if_neg h0] at h
    by_cases h1 : -(n : Int) ≤ i
    · rw [if_pos h1] at h
      have e : (i + n).toNat = j := Option.some.inj h
      exact ⟨by rw [seqIndex_neg (by omega) h1, e], by omega, h1, by omega⟩
    · rw [if_neg h1] at h; cases h
theorem atI_get {α : Type} {xs : List α} {i : Int} {v : α} (h : atI xs i = some v) : ∃ j, seqIndex? i xs.length = some j ∧ xs[j]? = some v ∧ j < xs.length ∧ -(xs.length : Int) ≤ i ∧ i < xs.length := by
  unfold atI at h
  cases e : ixN xs.length i with
  | none => rw [e] at h; cases h
  | some j =>
    rw [e] at h
    obtain ⟨h1, h2, h3, h4⟩ := ixN_seq e
    exact ⟨j, h1, h, h2, h3, h4⟩
theorem atI_nat {α : Type} {xs : List α} {j : Nat} {v : α} (h : xs[j]? = some v) : atI xs (j : Int) = some v := by
  have hj : j < xs.length := (List.getElem?_eq_some_iff.mp h).1
  have e : ixN xs.length (j : Int) = some j := by
    unfold ixN
    rw [if_pos (by omega), if_pos (by omega)]; simp
  unfold atI; rw [e]; exact h
/-! ### what may be subscripted -/
/-- what stands as an index of a plain subscript -/
def PlainIx (b : Expr) : Prop := ∀ o i, subscripted b false o i = operate [o, i] (getItem o i)
/-- a subscript by values -/
def IxR (X : Cx) (r : R2) : Prop :=
  ∀ (value slice : Expr) (pins : List (Addr × Obj)) (s : Shared) (σ : St) (H : Hp) (x y : V) (v u : Value) (Q : VK), Inv X pins σ H s → RelV x v → RelV y u → r x y H Q →
    subscripted slice false v u = operate [v, u] (getItem v u) → wpAny (model X.prog X.w) X.A (subscriptTail value slice v u) (EP X pins σ Q) X.xe s
/-- a call of a builtin's method by values: the receiver, the arguments -/
def MtR (X : Cx) (id : String) (r : V → List V → Hp → VK → Prop) : Prop :=
  ∀ (pins : List (Addr × Obj)) (s : Shared) (σ : St) (H : Hp) (x : V) (xs : List V) (v : Value) (us : List Value) (Q : VK), Inv X pins σ H s → RelV x v → Vals xs us → r x xs H Q →
    wpAny (model X.prog X.w) X.A (call (.builtin id) (v :: us)) (EP X pins σ Q) X.xe s
section
variable {X : Cx} {a b : Expr} {ta tb : TE} {pos : Pos}
/-- a[b] -/
theorem pe_ix {r : R2} (hr : IxR X r) (ha : PE X a ta) (hb : PE X b tb) (hs : PlainIx b) : PE X (.Subscript a b pos) (tOp r ta tb) := by
  intro pins s σ H Q I h
  exact Subscript_ (binT ha hb I h fun v u s2 x y H2 I2 rx ry q => hr a b pins s2 σ H2 x y v u Q I2 rx ry q (hs _ _))

def rIxL (K : PySem.W.Frag) : R2 := fun x y H Q => ∃ p xs i v, x = .ref p ∧ y = .int i ∧ SqL K H p xs ∧ atI xs i = some v ∧ Q v H
def rIxT (K : PySem.W.Frag) : R2 := fun x y H Q => ∃ p xs i v, x = .ref p ∧ y = .int i ∧ SqT K H p xs ∧ atI xs i = some v ∧ Q v H
def rIxS : R2 := fun x y H Q => ∃ z i c, x = .str z ∧ y = .int i ∧ z.length ≤ sizeLine ∧ atI z.cps.toList i = some c ∧ Q (.str ⟨#[c]⟩) H
theorem ix_list : IxR X (rIxL X.K) := by
  intro value slice pins s σ H x y v u Q I rx ry h hs
  obtain ⟨p, xs, i, z, rfl, rfl, hq, he, q⟩ := h
  cases rx
  obtain ⟨t, rfl⟩ := ry
  obtain ⟨its, r, pl, hz⟩ := I.list hq
  obtain ⟨j, h1, h2, h3, h4, h5⟩ := atI_get he
  obtain ⟨w, ew, rw'⟩ := r.get h2
  have hl := r.length
  have hn := line63
  have fin : EP X pins σ Q w s := ⟨z, H, I, rw', q⟩
  by_cases h0 : 0 ≤ i
  · have hj : i.toNat = j := by
      rw [seqIndex_of h0 h5] at h1
      exact Option.some.inj h1
    exact item_listR pl.isList h0 (by omega) (by rw [hj]; simpa using ew) fin hs
  · have hj : (i + (its.toArray.size : Int)).toNat = j := by
      rw [seqIndex_neg (by omega) h4] at h1
      rw [List.size_toArray, ← hl]
      exact Option.some.inj h1
    exact subscriptTail_builtinR (x := w) pl.isList.typeIs slot_list_getitem.lookup
      (wpAny_getItem_list_neg (Q := fun r s' => r = w ∧ EP X pins σ Q r s') pl.isList (by omega) (by rw [List.size_toArray] <;> omega) (by omega) (by rw [hj]; simpa using ew) ⟨rfl, fin⟩) hs
theorem ix_tup : IxR X (rIxT X.K) := by
  intro value slice pins s σ H x y v u Q I rx ry h hs
  obtain ⟨p, xs, i, z, rfl, rfl, hq, he, q⟩ := h
  cases rx
  obtain ⟨t, rfl⟩ := ry
  obtain ⟨its, r, pl, hz⟩ := I.tuple hq
  obtain ⟨j, h1, h2, h3, h4, h5⟩ := atI_get he
  obtain ⟨w, ew, rw'⟩ := r.get h2
  have hl := r.length
  have hn := line63
  have fin : EP X pins σ Q w s := ⟨z, H, I, rw', q⟩
  exact subscriptTail_builtinR (x := w) pl.typeIs slot_tuple_getitem.lookup
    (getItem_tuple (j := j) (Q := fun r s' => r = w ∧ EP X pins σ Q r s') pl (by omega) (by omega) (by rw [List.size_toArray, ← hl]; exact h1) (by simpa using ew) ⟨rfl, fin⟩) hs
theorem ix_str : IxR X rIxS := by
  intro value slice pins s σ H x y v u Q I rx ry h hs
  obtain ⟨z, i, c, rfl, rfl, hz, he, q⟩ := h
  obtain ⟨t, rfl⟩ := rx
  obtain ⟨t', rfl⟩ := ry
  obtain ⟨j, h1, h2, h3, h4, h5⟩ := atI_get he
  have hl : z.cps.toList.length = z.length := by simp [Str.length]
  rw [hl] at h1 h4 h5
  have hn := line63
  exact tail_any (typeIs_str s z t) slot_str_getitem.lookup (getItem_str (c := c) (by
    have e1 : decide (i < -(2 ^ 63 : Int)) = false := decide_eq_false (by omega)
    have e2 : decide (i ≥ 2 ^ 63) = false := decide_eq_false (by omega)
    rw [e1, e2, Bool.or_false]) (by rw [h1]; simpa using h2) ⟨.str ⟨#[c]⟩, H, I.tok _, ⟨_, rfl⟩, q⟩) hs
/-! ### xs[i] = v, any sign -/
/-- the list's object behind a store -/
theorem mapSeq_set (its : List Value) (n j : Nat) (u : Value) : Obj.mapSeq (·.setIfInBounds j u) { cls := .type "list", data := .seq its.toArray n } = { cls := .type "list", data := .seq (its.set j u).toArray n } := by
  simp [Obj.mapSeq]
theorem Inv.lst {pins : List (Addr × Obj)} {σ : St} {H : Hp} {s : Shared} {p : Addr} {xs : List V} (I : Inv X pins σ H s) (h : H p = some (.lst xs)) :
    ∃ (its : List Value) (n : Nat), Vals xs its ∧ s.heap.get? p = some { cls := .type "list", data := .seq its.toArray n } ∧ xs.length ≤ sizeLine := by
  obtain ⟨z, its, n, r, e⟩ := I.hok p _ h
  exact ⟨its, n, r, e, z⟩
/-- the list at p is written by an update of its object -/
theorem Inv.lstUpd {pins : List (Addr × Obj)} {σ : St} {H : Hp} {s : Shared} {p : Addr} {xs ys : List V} {its its' : List Value} {n n' : Nat} {f : Obj → Obj} (I : Inv X pins σ H s) (h : H p = some (.lst xs))
    (ho : s.heap.get? p = some { cls := .type "list", data := .seq its.toArray n }) (hf : f { cls := .type "list", data := .seq its.toArray n } = { cls := .type "list", data := .seq its'.toArray n' }) (r : Vals ys its') (hz : ys.length ≤ sizeLine) (t : Nat) :
    Inv X pins σ (upd H p (.lst ys)) { s with heap := s.heap.update p f, toks := t } := by
  have e : (s.heap.update p f).get? p = some { cls := .type "list", data := .seq its'.toArray n' } := by
    rw [Heap.get?_update_self f ho (by rw [hf] <;> rfl), hf]
  refine I.write (x := p) (e := p) (by rw [h]; trivial) (.inl rfl) (fun b u hb q => (Heap.get?_update_other _ _ (Ne.symm hb)).trans q) ⟨_, e⟩ ?_
  exact ⟨hz, its', n', r, e⟩
def rSetL : V → V → V → Hp → (Hp → Prop) → Prop := fun o i v H Q => ∃ p xs k j, o = .ref p ∧ i = .int k ∧ H p = some (.lst xs) ∧ ixN xs.length k = some j ∧ Q (upd H p (.lst (xs.set j v)))
theorem set_list : PSet X rSetL := by
  intro pins s σ H o i v ov iv u Q I ro ri rv h
  obtain ⟨p, xs, k, j, rfl, rfl, hp, hj, q⟩ := h
  cases ro
  obtain ⟨t, rfl⟩ := ri
  obtain ⟨its, n, r, ho, hz⟩ := I.lst hp
  obtain ⟨h1, h2, h3, h4⟩ := ixN_seq hj
  have hl := r.length
  have hn := line63
  have I' : Inv X pins σ (upd H p (.lst (xs.set j v))) { s with heap := s.heap.update p (Obj.mapSeq (·.setIfInBounds j u)) } :=
    I.lstUpd hp ho (mapSeq_set its n j u) (r.set rv j) (by rw [List.length_set]; exact hz) s.toks
  by_cases h0 : 0 ≤ k
  · have hk : k.toNat = j := by
      rw [seqIndex_of h0 h4] at h1
      exact Option.some.inj h1
    exact PySem.W.ki_setAt ho h0 (by omega) (by rw [List.size_toArray, ← hl]; exact h4) (by rw [hk]; exact ⟨_, I', q⟩)
  · have hk : (k + (its.toArray.size : Int)).toNat = j := by
      rw [seqIndex_neg (by omega) h3] at h1
      rw [List.size_toArray, ← hl]
      exact Option.some.inj h1
    exact PySem.W.ki_setBack ho (by omega) (by rw [List.size_toArray, ← hl]; exact h3) (by omega) (by rw [hk]; exact ⟨_, I', q⟩)

/-! ### slices -/
theorem slice_bounds (lo hi : Option Int) (n : Nat) : (sliceBounds lo hi none n).1 = ((HT.sIx n 0 lo : Nat) : Int) ∧ (sliceBounds lo hi none n).2.1 = ((HT.sIx n n hi : Nat) : Int) ∧ (sliceBounds lo hi none n).2.2 = 1 := by
  refine ⟨?_, ?_, rfl⟩
  · cases lo with
    | none => simp [sliceBounds, HT.sIx]
    | some i =>
      simp only [sliceBounds, HT.sIx, Option.getD_none, show (1 : Int) > 0 by decide, if_true]
      by_cases h : i < 0
      · simp only [h, if_true] <;> omega
      · simp only [h, if_false] <;> omega
  · cases hi with
    | none => simp [sliceBounds, HT.sIx]
    | some i =>
      simp only [sliceBounds, HT.sIx, Option.getD_none, show (1 : Int) > 0 by decide, if_true]
      by_cases h : i < 0
      · simp only [h, if_true] <;> omega
      · simp only [h, if_false] <;> omega
theorem slicePick_cut (its : List Value) (lo hi : Option Int) : slicePick its.toArray lo hi none = ((its.drop (HT.sIx its.length 0 lo)).take (HT.sIx its.length its.length hi - HT.sIx its.length 0 lo)).toArray := by
  obtain ⟨h1, h2, h3⟩ := slice_bounds lo hi its.toArray.size
  unfold slicePick
  rw [h1, h2, h3]
  simp only [sliceRange_one, pick_run, List.size_toArray] <;> rfl
/-- xs[lo:hi] of a list: a new list -/
def rSlL (K : PySem.W.Frag) : V → Option Int → Option Int → Hp → VK → Prop := fun x lo hi H Q => ∃ a xs, x = .ref a ∧ SqL K H a xs ∧ ∀ p, H p = none → Q (.ref p) (upd H p (.lst (cutV xs lo hi)))
theorem sl_list : SlR X (rSlL X.K) := by
  intro pins s σ H x v vl vu lo hi sl Q I rx hs pl pu h
  obtain ⟨a, xs, rfl, hx, q⟩ := h
  cases rx
  obtain ⟨its, r, ht, hz⟩ := I.list hx
  have hlen := r.length
  refine ⟨"list", _, slot_list_getitem.lookup, ht.isList.typeIs, ?_⟩
  refine wpAny_getItem_list_slice ht.isList hs pl pu .none (by simp) ?_ (by rw [List.size_toArray] <;> omega)
  rw [slicePick_cut, ← hlen]
  refine ⟨.ref s.heap.objs.size, _, I.laid (t' := s.toks) (o := .lst (cutV xs lo hi)) (fun b ob q => Heap.get?_push_of_some _ q) (Nat.le_refl _) ?_, rfl, q _ (I.hok.fresh (Nat.le_refl _))⟩
  exact ⟨Nat.le_trans (cutV_length xs lo hi) hz, _, 0, (r.drop (HT.sIx xs.length 0 lo)).take (HT.sIx xs.length xs.length hi - HT.sIx xs.length 0 lo), Heap.get?_push_size _ rfl⟩

/-! ### in, not in: flat items -/
def flatV : V → Bool
  | .non => true
  | .bl _ => true
  | .int _ => true
  | .str _ => true
  | _ => false
/-- == of flat values -/
def eqV : V → V → Bool
  | .non, .non => true
  | .bl a, .bl b => a == b
  | .bl a, .int b => (if a then 1 else 0) == b
  | .int a, .bl b => a == (if b then 1 else 0)
  | .int a, .int b => a == b
  | .str a, .str b => a == b
  | _, _ => false
theorem eqAt_V {A : Around} {s : Shared} {y x : V} {u v : Value} (ry : RelV y u) (rx : RelV x v) (fy : flatV y = true) (fx : flatV x = true) : SeqAt.EqAt A s u v (eqV y x) := by
  cases y with
  | non =>
    cases ry
    cases x with
    | non => cases rx; exact SeqAt.EqAt.same _
    | bl b => cases rx; exact SeqAt.EqAt.none_bool b
    | int b => obtain ⟨t, rfl⟩ := rx; exact SeqAt.EqAt.none_int b t
    | str b => obtain ⟨t, rfl⟩ := rx; exact SeqAt.EqAt.none_str b t
    | _ => exact absurd (show false = true from fx) Bool.false_ne_true
  | bl a =>
    cases ry
    cases x with
    | non => cases rx; exact SeqAt.EqAt.bool_none a
    | bl b => cases rx; exact SeqAt.EqAt.bool_bool a b
    | int b => obtain ⟨t, rfl⟩ := rx; exact SeqAt.EqAt.bool_int a b t
    | str b => obtain ⟨t, rfl⟩ := rx; exact SeqAt.EqAt.bool_str a b t
    | _ => exact absurd (show false = true from fx) Bool.false_ne_true
  | int a =>
    obtain ⟨t', rfl⟩ := ry
    cases x with
    | non => cases rx; exact SeqAt.EqAt.int_none a t'
    | bl b => cases rx; exact SeqAt.EqAt.int_bool a t' b
    | int b => obtain ⟨t, rfl⟩ := rx; exact SeqAt.EqAt.int_int a t' b t
    | str b => obtain ⟨t, rfl⟩ := rx; exact SeqAt.EqAt.int_str a t' b t
    | _ => exact absurd (show false = true from fx) Bool.false_ne_true
  | str a =>
    obtain ⟨t', rfl⟩ := ry
    cases x with
    | non => cases rx; exact SeqAt.EqAt.str_none a t'
    | bl b => cases rx; exact SeqAt.EqAt.str_bool a t' b
    | int b => obtain ⟨t, rfl⟩ := rx; exact SeqAt.EqAt.str_int a t' b t
    | str b => obtain ⟨t, rfl⟩ := rx; exact SeqAt.EqAt.str_str a t' b t
    | _ => exact absurd (show false = true from fx) Bool.false_ne_true
  | _ => exact absurd (show false = true from fy) Bool.false_ne_true
/-- the items' answers, read off the values (a value's own answer does not lean on its token) -/
def eqU (x : V) (u : Value) : Bool := match u with
  | .none => eqV .non x
  | .bool b => eqV (.bl b) x
  | .int i _ => eqV (.int i) x
  | .str z _ => eqV (.str z) x
  | _ => false
theorem eqU_of {x y : V} {u : Value} (r : RelV y u) (f : flatV y = true) : eqU x u = eqV y x := by
  cases y with
  | non => cases r; rfl
  | bl b => cases r; rfl
  | int i => obtain ⟨t, rfl⟩ := r; rfl
  | str z => obtain ⟨t, rfl⟩ := r; rfl
  | _ => exact absurd (show false = true from f) Bool.false_ne_true
theorem any_eqU {x : V} : ∀ {xs : List V} {us : List Value}, Vals xs us → xs.all flatV = true → us.any (eqU x) = xs.any fun y => eqV y x
  | _, _, .nil, _ => rfl
  | y :: xs, u :: us, .cons r t, f => by
    rw [List.all_cons, Bool.and_eq_true] at f
    rw [List.any_cons, List.any_cons, eqU_of r f.1, any_eqU t f.2]
theorem mem_eqAt {A : Around} {s : Shared} {x : V} {v : Value} (rx : RelV x v) (fx : flatV x = true) : ∀ {xs : List V} {us : List Value}, Vals xs us → xs.all flatV = true → ∀ u ∈ us, SeqAt.EqAt A s u v (eqU x u)
  | _, _, .nil, _ => fun u hu => by cases hu
  | y :: xs, u :: us, .cons r t, f => fun u' hu => by
    rw [List.all_cons, Bool.and_eq_true] at f
    rcases List.mem_cons.mp hu with rfl | hu
    · rw [eqU_of r f.1]; exact eqAt_V r rx f.1 fx
    · exact mem_eqAt rx fx t f.2 u' hu
def inV (x : V) (xs : List V) : Bool := xs.any fun y => eqV y x
/-- x in a list or tuple of flat items -/
def rIn (K : PySem.W.Frag) (neg : Bool) : R2 := fun x y H Q => ∃ p xs, y = .ref p ∧ (SqL K H p xs ∨ SqT K H p xs) ∧ flatV x = true ∧ xs.all flatV = true ∧ Q (.bl (if neg then !inV x xs else inV x xs)) H
theorem op_in_seq : OpR X (compareOp .In) (rIn X.K false) := by
  intro pins s σ H x y v u Q I rx ry h
  obtain ⟨p, xs, rfl, hq, fx, fs, q⟩ := h
  cases ry
  rcases hq with hq | hq
  · obtain ⟨its, r, pl, hz⟩ := I.list hq
    refine SeqAt.in_listAt (eqU x) pl.isList (fun w hw => mem_eqAt rx fx r fs w (by simpa using hw)) ⟨.bl _, H, I, rfl, ?_⟩
    rw [show its.toArray.any (eqU x) = its.any (eqU x) by simp, any_eqU r fs]
    exact q
  · obtain ⟨its, r, pl, hz⟩ := I.tuple hq
    refine SeqAt.in_tupleAt (eqU x) pl (fun w hw => mem_eqAt rx fx r fs w (by simpa using hw)) ⟨.bl _, H, I, rfl, ?_⟩
    rw [show its.toArray.any (eqU x) = its.any (eqU x) by simp, any_eqU r fs]
    exact q
theorem op_notIn_seq : OpR X (compareOp .NotIn) (rIn X.K true) := by
  intro pins s σ H x y v u Q I rx ry h
  obtain ⟨p, xs, rfl, hq, fx, fs, q⟩ := h
  cases ry
  rcases hq with hq | hq
  · obtain ⟨its, r, pl, hz⟩ := I.list hq
    refine SeqAt.notIn_listAt (eqU x) pl.isList (fun w hw => mem_eqAt rx fx r fs w (by simpa using hw)) ⟨.bl _, H, I, rfl, ?_⟩
    rw [show its.toArray.any (eqU x) = its.any (eqU x) by simp, any_eqU r fs]
    exact q
  · obtain ⟨its, r, pl, hz⟩ := I.tuple hq
    refine SeqAt.notIn_tupleAt (eqU x) pl (fun w hw => mem_eqAt rx fx r fs w (by simpa using hw)) ⟨.bl _, H, I, rfl, ?_⟩
    rw [show its.toArray.any (eqU x) = its.any (eqU x) by simp, any_eqU r fs]
    exact q
/-! ### len, list(x), tuple(x) of any list or tuple that is read -/
theorem call_list_of : CallR X (.type "list") (fun xs H Q => ∃ p ys, xs = [.ref p] ∧ (SqL X.K H p ys ∨ SqT X.K H p ys) ∧ ∀ l, H l = none → Q (.ref l) (upd H l (.lst ys))) := by
  intro pins s σ H xs us Q I r h
  obtain ⟨p, ys, rfl, hq, q⟩ := h
  obtain ⟨u, rfl, rx⟩ := vals1 r
  cases rx
  have fin : ∀ (its : List Value), Vals ys its → ys.length ≤ sizeLine → ∀ (h' : Heap) (c' : Nat), (∀ b o', s.heap.get? b = some o' → h'.get? b = some o') →
      h'.get? s.heap.objs.size = some { cls := .type "list", dict := none, data := .seq its.toArray c', slots := #[] } → EP X pins σ Q (.ref s.heap.objs.size) { s with heap := h' } := fun its r' hz h' c' kp e =>
    ⟨.ref s.heap.objs.size, _, I.laid (t' := s.toks) kp (Nat.le_refl _) (show ObjOk X.prog X.w _ h' _ (.lst ys) from ⟨hz, its, c', r', e⟩), rfl, q _ (I.hok.fresh (Nat.le_refl _))⟩
  rcases hq with hq | hq
  · obtain ⟨its, r', pl, hz⟩ := I.list hq
    have hlen := r'.length
    obtain ⟨o, ho, hc, n, hd⟩ := pl.isList
    exact call_list_seq p (.inl rfl) ho hc hd (fun h' c' kp e => fin its r' hz h' c' kp e) (by simp only [List.size_toArray] <;> omega)
  · obtain ⟨its, r', pl, hz⟩ := I.tuple hq
    have hlen := r'.length
    obtain ⟨o, ho, hc, n, hd⟩ := pl
    exact call_list_seq p (.inr rfl) ho hc hd (fun h' c' kp e => fin its r' hz h' c' kp e) (by simp only [List.size_toArray] <;> omega)
/-! ### the call of a builtin's method: o.m(..) -/
/-- the value is of that builtin type -/
def tyV (K : PySem.W.Frag) (T : String) (x : V) (H : Hp) : Prop := match x with
  | .str _ => T = "str"
  | .int _ => T = "int"
  | .ref p => (T = "list" ∧ ∃ xs, SqL K H p xs) ∨ (T = "tuple" ∧ ∃ o, K.lookup p = some o ∧ o.cls = .type "tuple" ∧ o.dict = none) ∨
      (T = "dict" ∧ ((∃ kvs, H p = some (.dK kvs)) ∨ ∃ kvs, H p = some (.dT kvs))) ∨ (T = "set" ∧ ∃ S n, H p = some (.set S n))
  | _ => False
theorem tyV_is {pins : List (Addr × Obj)} {σ : St} {H : Hp} {s : Shared} {T : String} {x : V} {v : Value} (I : Inv X pins σ H s) (r : RelV x v) (ty : tyV X.K T x H) :
    s.TypeIs v T ∧ ∀ a, v = .ref a → ∃ ob, s.heap.get? a = some ob ∧ ob.dict = none := by
  cases x with
  | str z =>
    obtain ⟨t, rfl⟩ := r
    cases (show T = "str" from ty)
    exact ⟨typeIs_str s z t, fun _ e => nomatch e⟩
  | int i =>
    obtain ⟨t, rfl⟩ := r
    cases (show T = "int" from ty)
    exact ⟨typeIs_int s i t, fun _ e => nomatch e⟩
  | ref p =>
    cases r
    rcases ty with ⟨rfl, xs, hq⟩ | ⟨rfl, o, hk, hc, hd⟩ | ⟨rfl, hk⟩ | ⟨rfl, S, n, hk⟩
    · obtain ⟨its, _, pl, _⟩ := I.list hq
      refine ⟨pl.isList.typeIs, fun a e => ?_⟩
      cases e
      obtain ⟨o, n, e, c, hd, _⟩ := pl
      exact ⟨o, e, hd⟩
    · refine ⟨⟨o, I.kIn p o hk, hc⟩, fun a e => ?_⟩
      cases e
      exact ⟨o, I.kIn _ o hk, hd⟩
    · have z : ∃ o, s.heap.get? p = some o ∧ o.ExactDict := by
        rcases hk with ⟨kvs, hk⟩ | ⟨kvs, hk⟩
        · obtain ⟨_, _, _, _, o, _, _, e, ex, _⟩ := I.hok p _ hk
          exact ⟨o, e, ex⟩
        · obtain ⟨_, _, _, _, o, _, _, e, ex, _⟩ := I.hok p _ hk
          exact ⟨o, e, ex⟩
      obtain ⟨o, e, ex⟩ := z
      refine ⟨⟨o, e, ex.1⟩, fun a e2 => ?_⟩
      cases e2
      exact ⟨o, e, ex.2.1⟩
    · obtain ⟨o, _, _, _, e, ex, _⟩ := I.hok p _ hk
      refine ⟨⟨o, e, ex.1⟩, fun a e2 => ?_⟩
      cases e2
      exact ⟨o, e, ex.2.1⟩
  | _ => exact False.elim ty
def tBM0 (K : PySem.W.Frag) (T : String) (r : V → List V → Hp → VK → Prop) (to : TE) : TE := fun σ H Q => to σ H fun x H1 => tyV K T x H1 ∧ r x [] H1 Q
def tBM (K : PySem.W.Frag) (T : String) (r : V → List V → Hp → VK → Prop) (to : TE) (t : TA) : TE := fun σ H Q => to σ H fun x H1 => tyV K T x H1 ∧ t σ H1 fun xs H2 => r x xs H2 Q
variable {o e : Expr} {es : List Expr} {to : TE} {t : TA} {name : Str} {apos cpos : Pos} {T id : String} {r : V → List V → Hp → VK → Prop}
theorem pe_bm0 (pa : PlainAttrs T) (slot : Slot T name id) (hty : typeOf (.builtin id) = pure (.type "method_descriptor")) (hm : MtR X id r) (ho : PE X o to)
    (hbase : attributeBase o name X.env (eval o X.env) = eval o X.env := by rfl) (hline : (apos.endLine == cpos.line) = true := by rfl) : PE X (.Call (.Attribute o name apos) [] [] cpos) (tBM0 X.K T r to) := by
  intro pins s σ H Q I h
  refine wpAny_Call_method0_late hbase hline (thn (ho pins s σ H _ I h) fun v s1 ⟨x, H1, I1, r1, ty, q1⟩ => ?_)
  obtain ⟨h1, h2⟩ := tyV_is I1 r1 ty
  exact ⟨T, id, pa, slot, hty, h1, h2, Calls.callWith_builtin rfl (PySem.evalArgs_none (hm pins s1 σ H1 x [] v [] Q I1 r1 .nil q1))⟩
theorem pe_bm (pa : PlainAttrs T) (slot : Slot T name id) (hty : typeOf (.builtin id) = pure (.type "method_descriptor")) (hm : MtR X id r) (ho : PE X o to) (ha : PA X (e :: es) t)
    (hbase : attributeBase o name X.env (eval o X.env) = eval o X.env := by rfl)
    (hfew : ((backTo cpos (starEach (e :: es) X.env)).all (fun x => !x.1) && (backToKw cpos (keywordEach [] X.env)).all (fun x => x.1.isSome)
      && decide ((e :: es).length + ([] : List Keyword).length + (if ([] : List Keyword).isEmpty then 0 else 1) < 30)) = true := by rfl)
    (hline : (apos.endLine == cpos.line) = true := by rfl) (hs : starEach (e :: es) X.env = (false, eval e X.env) :: starEach es X.env := by rfl) (hplain : (backTo cpos (starEach es X.env)).any (·.1) = false := by rfl) :
    PE X (.Call (.Attribute o name apos) (e :: es) [] cpos) (tBM X.K T r to t) := by
  intro pins s σ H Q I h
  refine wpAny_Call_method_late hbase hfew hline rfl (thn (ho pins s σ H _ I h) fun v s1 ⟨x, H1, I1, r1, ty, q1⟩ => ?_)
  obtain ⟨h1, h2⟩ := tyV_is I1 r1 ty
  refine ⟨T, id, pa, slot, hty, h1, h2, ?_⟩
  have hA := ha cpos pins s1 σ H1 _ I1 q1
  rw [hs] at hA ⊢
  refine Calls.callWith_builtin (by show (false || (backTo cpos (starEach es X.env)).any (·.1)) = false; rw [hplain] <;> rfl) (Calls.evalArgs_plain ?_)
  exact thn hA fun us s2 ⟨vs, H2, I2, r2, q2⟩ => hm pins s2 σ H2 x vs v us Q I2 r1 r2 q2
/- xs.append(e), list.index on a module's tuple .. are MtR facts of 06m -/
end
end L2

namespace L2
open PySem PySem.Spec PyProof.Rows

def MtM (X : Cx) (id : String) (r : V → List V → Hp → VK → Prop) : Prop :=
  ∀ (pins : List (Addr × Obj)) (s : Shared) (σ : St) (H : Hp) (x : V) (xs : List V) (v : Value) (us : List Value) (Q : VK), Inv X pins σ H s → RelV x v → Vals xs us → r x xs H Q →
    wpAny (model X.prog X.w) X.A (call (.builtin id) (v :: us)) (EP X pins σ Q) X.xe s

/-! ### lists of values -/
theorem Vals.one : ∀ {x : V} {us : List Value}, Vals [x] us → ∃ u, us = [u] ∧ RelV x u
  | _, _, .cons r .nil => ⟨_, rfl, r⟩
theorem Vals.two : ∀ {x y : V} {us : List Value}, Vals [x, y] us → ∃ u v, us = [u, v] ∧ RelV x u ∧ RelV y v
  | _, _, _, .cons r (.cons q .nil) => ⟨_, _, rfl, r, q⟩
theorem Vals.zero : ∀ {us : List Value}, Vals [] us → us = []
  | _, .nil => rfl
theorem Vals.dropLast {xs : List V} {us : List Value} (h : Vals xs us) : Vals xs.dropLast us.dropLast := by
  induction h with
  | nil => exact .nil
  | cons r t ih =>
    cases t with
    | nil => exact .nil
    | cons q t' => exact .cons r ih
theorem erase_last {α : Type} (l : List α) : l.eraseIdx (l.length - 1) = l.dropLast := by
  induction l with
  | nil => rfl
  | cons a r ih =>
    cases r with
    | nil => rfl
    | cons b r =>
      have e : (a :: b :: r).length - 1 = ((b :: r).length - 1) + 1 := by
        have h1 : (a :: b :: r).length = r.length + 2 := rfl
        have h2 : (b :: r).length = r.length + 1 := rfl
        omega
      rw [e, List.eraseIdx_cons_succ, ih]
      all_goals rfl
section
variable {X : Cx} {pins : List (Addr × Obj)} {σ : St} {H : Hp} {s : Shared} {l b : Addr} {xs ys zs : List V}

/-! ### the two steps: a tracked list is rewritten, a new list is laid -/
theorem Inv.lset {its its' : List Value} {n : Nat} {f : Array Value → Array Value} {t' : Nat} (I : Inv X pins σ H s) (hH : H l = some (.lst xs))
    (e : s.heap.get? l = some { cls := .type "list", data := .seq its.toArray n }) (hf : f its.toArray = its'.toArray) (hv : Vals ys its') (hz : ys.length ≤ sizeLine) :
    Inv X pins σ (upd H l (.lst ys)) { s with heap := s.heap.update l (Obj.mapSeq f), toks := t' } := by
  have q := PySem.IsL.update e f
  rw [hf] at q
  refine I.write (x := l) (e := l) (by rw [hH]; exact trivial) (.inl rfl) (fun b' u hb hu => (Heap.get?_update_other s.heap (Obj.mapSeq f) (Ne.symm hb)).trans hu) ⟨_, q⟩ ?_
  exact ⟨hz, its', _, hv, q⟩
theorem Inv.lnew {its : List Value} {t' : Nat} (I : Inv X pins σ H s) (hv : Vals ys its) (hz : ys.length ≤ sizeLine) :
    Inv X pins σ (upd H s.heap.objs.size (.lst ys)) { s with heap := s.heap.push { cls := .type "list", data := .seq its.toArray }, toks := t' } :=
  I.laid (fun _ _ q => Heap.get?_push_of_some _ q) (Nat.le_refl _) ⟨hz, its, 0, hv, Heap.get?_push_size _ rfl⟩
theorem Inv.fresh (I : Inv X pins σ H s) : H s.heap.objs.size = none := I.hok.fresh (Nat.le_refl _)
theorem Inv.lstM (I : Inv X pins σ H s) (hH : H l = some (.lst xs)) : xs.length ≤ sizeLine ∧ ∃ (its : List Value) (n : Nat), Vals xs its ∧ xs.length = its.length ∧ s.heap.get? l = some { cls := .type "list", data := .seq its.toArray n } := by
  obtain ⟨z, its, n, r, e⟩ := I.hok l _ hH
  exact ⟨z, its, n, r, r.length, e⟩

theorem notLongL {n : Nat} (h : n ≤ sizeLine) : Builtin.List.listTooLong n = false := by
  unfold Builtin.List.listTooLong
  exact decide_eq_false (by omega)
end

section
variable {X : Cx}

/-! ### methods -/
def rAppend : V → List V → Hp → VK → Prop := fun x vs H Q => ∃ l xs y, x = .ref l ∧ vs = [y] ∧ H l = some (.lst xs) ∧ xs.length < sizeLine ∧ Q .non (upd H l (.lst (xs ++ [y])))
theorem mt_append : MtM X "list.append" rAppend := by
  intro pins s σ H x vs v us Q I rx rv h
  obtain ⟨l, xs, y, rfl, rfl, hH, hz, q⟩ := h
  cases rx
  obtain ⟨u, rfl, ru⟩ := rv.one
  obtain ⟨z, its, n, r, hl, e⟩ := I.lstM hH
  refine call_meets F.slot_list_append ⟨_, e, rfl⟩ F.entry_list_append (F.args_list_append_2 _ _) (PySem.list_append l its.toArray n u (by rw [List.size_toArray]; omega)) ⟨e, ?_⟩
  refine ⟨.non, _, I.lset (its' := its ++ [u]) hH e (by simp) (r.append (.cons ru .nil)) ?_, rfl, q⟩
  rw [List.length_append, List.length_singleton]
  omega

def rExtend : V → List V → Hp → VK → Prop := fun x vs H Q => ∃ l b xs zs, x = .ref l ∧ vs = [.ref b] ∧ H l = some (.lst xs) ∧ H b = some (.lst zs) ∧ xs.length + zs.length ≤ sizeLine ∧ Q .non (upd H l (.lst (xs ++ zs)))
theorem mt_extend : MtM X "list.extend" rExtend := by
  intro pins s σ H x vs v us Q I rx rv h
  obtain ⟨l, b, xs, zs, rfl, rfl, hH, hB, hz, q⟩ := h
  cases rx
  obtain ⟨u, rfl, ru⟩ := rv.one
  cases ru
  obtain ⟨z, its, n, r, hl, e⟩ := I.lstM hH
  obtain ⟨z2, its2, n2, r2, hl2, e2⟩ := I.lstM hB
  have hsz : its.toArray.size + its2.toArray.size ≤ sizeLine := by rw [List.size_toArray, List.size_toArray]; omega
  have hlong : ¬ (!its.toArray.isEmpty && Builtin.List.listTooLong (its.toArray.size + its2.toArray.size)) = true := by
    rw [notLongL hsz, Bool.and_false]
    exact Bool.false_ne_true
  refine call_meets F.slot_list_extend ⟨_, e, rfl⟩ F.entry_list_extend (F.args_list_extend_2 _ _)
    (AutoSeq1.list_extend_list_list_0 l its.toArray n b its2.toArray n2 hlong (by rw [List.size_toArray]; omega) (by omega)) ⟨e, e2, ?_⟩
  refine ⟨.non, _, I.lset (its' := its ++ its2) hH e (by simp) (r.append r2) ?_, rfl, q⟩
  rw [List.length_append]
  omega

def rPop : V → List V → Hp → VK → Prop := fun x vs H Q => ∃ l xs y, x = .ref l ∧ vs = [] ∧ H l = some (.lst xs) ∧ xs[xs.length - 1]? = some y ∧ Q y (upd H l (.lst xs.dropLast))
theorem mt_pop : MtM X "list.pop" rPop := by
  intro pins s σ H x vs v us Q I rx rv h
  obtain ⟨l, xs, y, rfl, rfl, hH, hy, q⟩ := h
  cases rx
  have hus := rv.zero
  subst hus
  obtain ⟨z, its, n, r, hl, e⟩ := I.lstM hH
  obtain ⟨u, hu, ru⟩ := r.get hy
  have hy' : its.toArray[its.toArray.size - 1]? = some u := by
    show its.toArray[its.length - 1]? = some u
    rw [← Array.getElem?_toList, ← hl]
    exact hu
  refine call_meets F.slot_list_pop ⟨_, e, rfl⟩ F.entry_list_pop (F.args_list_pop_1 _) (MeetsSeq.list_pop_last l its.toArray n u hy' (by rw [List.size_toArray]; omega)) ⟨e, ?_⟩
  refine ⟨y, _, I.lset (its' := its.dropLast) hH e ?_ r.dropLast ?_, ru, q⟩
  · show its.toArray.eraseIdxIfInBounds (its.toArray.size - 1) = its.dropLast.toArray
    rw [List.size_toArray, List.eraseIdxIfInBounds_toArray, erase_last]
  · rw [List.length_dropLast]
    omega

/-! ### list + list, list += list, list * int -/
def rCat : R2 := fun x y H Q => ∃ l b xs zs, x = .ref l ∧ y = .ref b ∧ H l = some (.lst xs) ∧ H b = some (.lst zs) ∧ xs.length + zs.length ≤ sizeLine ∧ ∀ p, H p = none → Q (.ref p) (upd H p (.lst (xs ++ zs)))
theorem op_cat : OpR X (binaryOp .Add) rCat := by
  intro pins s σ H x y v u Q I rx ry h
  obtain ⟨l, b, xs, zs, rfl, rfl, hH, hB, hz, q⟩ := h
  cases rx
  cases ry
  obtain ⟨z, its, n, r, hl, e⟩ := I.lstM hH
  obtain ⟨z2, its2, n2, r2, hl2, e2⟩ := I.lstM hB
  refine PySem.P.add_list e e2 ?_ (by rw [List.size_toArray, List.size_toArray]; omega)
  have ea : its.toArray ++ its2.toArray = (its ++ its2).toArray := by simp
  rw [ea]
  exact ⟨.ref _, _, I.lnew (t' := s.toks) (r.append r2) (by rw [List.length_append]; omega), rfl, q _ I.fresh⟩
/-! ### del xs[i] -/
end

/-! ### xs[a:b] = ys -/
section
variable {prog : Program} {w : World} {A : Around} {E : Value → Shared → Prop} {s : Shared}
set_option maxRecDepth 100000 in
end

section
variable {X : Cx}
end
end L2

namespace L2
open PySem PySem.Spec PyProof.Rows

/-! ### lists of pairs as tables -/
section
variable {κ : Type} [DecidableEq κ]
def valV (kvs : List (κ × V)) (k : κ) : Option V := (kvs.find? fun kv => decide (kv.1 = k)).map (·.2)
/-- in its place, or at the end -/
def putK (kvs : List (κ × V)) (k : κ) (v : V) : List (κ × V) :=
  if (kvs.any fun kv => decide (kv.1 = k)) = true then kvs.map (fun kv => if kv.1 = k then (kv.1, v) else kv) else kvs ++ [(k, v)]
theorem valV_pos {p : κ × V} {r : List (κ × V)} {k : κ} (e : p.1 = k) : valV (p :: r) k = some p.2 := by simp [valV, List.find?_cons, e]
theorem valV_neg {p : κ × V} {r : List (κ × V)} {k : κ} (e : ¬ p.1 = k) : valV (p :: r) k = valV r k := by simp [valV, List.find?_cons, e]
theorem valV_any (k : κ) : ∀ kvs : List (κ × V), (kvs.any fun kv => decide (kv.1 = k)) = (valV kvs k).isSome
  | [] => rfl
  | p :: r => by
    rw [List.any_cons]
    by_cases e : p.1 = k
    · simp only [valV_pos e, decide_eq_true e, Bool.true_or, Option.isSome_some]
    · rw [valV_neg e, decide_eq_false e, Bool.false_or]; exact valV_any k r
theorem valV_snoc (k j : κ) (y : V) : ∀ kvs : List (κ × V), valV kvs k = none → valV (kvs ++ [(k, y)]) j = if j = k then some y else valV kvs j
  | [], _ => by
    by_cases e : k = j
    · rw [if_pos e.symm]; exact valV_pos (p := (k, y)) e
    · rw [if_neg (fun z => e z.symm)]; exact valV_neg (p := (k, y)) e
  | p :: r, hn => by
    rw [List.cons_append]
    have hk : ¬ p.1 = k := fun z => by rw [valV_pos z] at hn; cases hn
    rw [valV_neg hk] at hn
    have ih := valV_snoc k j y r hn
    by_cases e : p.1 = j
    · rw [valV_pos e, valV_pos e, if_neg (fun z => hk (e.trans z))]
    · rw [valV_neg e, valV_neg e, ih]
theorem length_putK (kvs : List (κ × V)) (k : κ) (v : V) : (putK kvs k v).length ≤ kvs.length + 1 := by
  unfold putK
  split
  · rw [List.length_map]; omega
  · rw [List.length_append, List.length_cons, List.length_nil]; omega
theorem putK_new {kvs : List (κ × V)} {k : κ} (v : V) (h : valV kvs k = none) : putK kvs k v = kvs ++ [(k, v)] := by
  unfold putK
  rw [valV_any, h]
  exact if_neg (by decide)

theorem RelO.isSome_eq {o : Option V} {u : Option Value} (r : RelO o u) : o.isSome = u.isSome := by
  cases o with
  | none => cases u with
    | none => rfl
    | some _ => exact (show False from r).elim
  | some _ => cases u with
    | none => exact (show False from r).elim
    | some _ => rfl
/-- raw tables of the same keys -/
theorem KV.val {kvs : List (κ × V)} {vs : List (κ × Value)} (r : KV kvs vs) (k : κ) : RelO (valV kvs k) (valueAt vs k) := by
  unfold KV at r
  induction r with
  | nil => exact True.intro
  | @cons p q ps qs h t ih =>
    obtain ⟨h1, h2⟩ := h
    by_cases e : p.1 = k
    · have e' : q.1 = k := h1.symm.trans e
      have b : valueAt (q :: qs) k = some q.2 := by simp [valueAt, List.find?_cons, e']
      rw [valV_pos e, b]; exact h2
    · have e' : ¬ q.1 = k := fun z => e (h1.trans z)
      have b : valueAt (q :: qs) k = valueAt qs k := by simp [valueAt, List.find?_cons, e']
      rw [valV_neg e, b]; exact ih
theorem KV.any {kvs : List (κ × V)} {vs : List (κ × Value)} (r : KV kvs vs) (k : κ) : (kvs.any fun kv => decide (kv.1 = k)) = vs.any fun kv => decide (kv.1 = k) := by
  unfold KV at r
  induction r with
  | nil => rfl
  | cons h t ih => rw [List.any_cons, List.any_cons, ih, h.1]
theorem KV.repl {kvs : List (κ × V)} {vs : List (κ × Value)} (r : KV kvs vs) (k : κ) {y : V} {u : Value} (ry : RelV y u) :
    KV (kvs.map fun kv => if kv.1 = k then (kv.1, y) else kv) (vs.map fun kv => if kv.1 = k then (kv.1, u) else kv) := by
  unfold KV at r ⊢
  induction r with
  | nil => exact .nil
  | @cons p q ps qs h t ih =>
    rw [List.map_cons, List.map_cons]
    refine .cons ?_ ih
    obtain ⟨h1, h2⟩ := h
    by_cases e : p.1 = k
    · rw [if_pos e, if_pos (h1.symm.trans e)]; exact ⟨h1, ry⟩
    · rw [if_neg e, if_neg (fun z => e (h1.trans z))]; exact ⟨h1, h2⟩
theorem KV.put {kvs : List (κ × V)} {vs : List (κ × Value)} (r : KV kvs vs) (k : κ) {y : V} {u : Value} (ry : RelV y u) : KV (putK kvs k y) (stored vs k u) := by
  unfold putK stored
  rw [r.any k]
  by_cases e : (vs.any fun kv => decide (kv.1 = k)) = true
  · rw [if_pos e, if_pos e]; exact r.repl k ry
  · rw [if_neg e, if_neg e]; exact Paired.snoc r ⟨rfl, ry⟩
theorem KV.length {kvs : List (κ × V)} {vs : List (κ × Value)} (r : KV kvs vs) : kvs.length = vs.length := Paired.length r
end

/-! ### a tracked dict, its keys ints and texts or tuples of these -/
theorem kV_is {P : Program} {w : World} {k : Key} {u : Value} (r : RelV (kV k) u) : (mixKind P w).is k u = true := by
  cases k with
  | inl i => obtain ⟨t, e⟩ := (show ∃ t, u = Value.int i t from r); subst e; exact mixKind_int P w i t
  | inr x => obtain ⟨t, e⟩ := (show ∃ t, u = Value.str x t from r); subst e; exact mixKind_str P w x t
theorem items_are {P : Program} {w : World} : ∀ {ks : List Key} {us : List Value}, Vals (ks.map kV) us → ItemsAre (mixKind P w) ks us
  | [], _, r => by rw [List.map_nil] at r; cases r; exact .nil
  | k :: ks, _, r => by
    rw [List.map_cons] at r
    cases r with
    | cons h t => exact .cons (kV_is h) (items_are t)

/-- raw entries of a dict with tuple keys -/
abbrev KT (H : Hp) : List (List Key × V) → List (List Key × Addr × Value) → Prop := Paired fun p q => p.1 = q.1 ∧ H q.2.1 = some (.tup (p.1.map kV)) ∧ RelV p.2 q.2.2
theorem KT.val {H : Hp} {kvs : List (List Key × V)} {xs : List (List Key × Addr × Value)} (r : KT H kvs xs) (k : List Key) : RelO (valV kvs k) ((atKey xs k).map (·.2)) := by
  induction r with
  | nil => exact True.intro
  | @cons p q ps qs h t ih =>
    obtain ⟨h1, _, h2⟩ := h
    by_cases e : p.1 = k
    · have e' : q.1 = k := h1.symm.trans e
      have b : atKey (q :: qs) k = some q.2 := by simp [atKey, List.find?_cons, e']
      rw [valV_pos e, b]; exact h2
    · have e' : ¬ q.1 = k := fun z => e (h1.trans z)
      have b : atKey (q :: qs) k = atKey qs k := by simp [atKey, List.find?_cons, e']
      rw [valV_neg e, b]; exact ih
theorem KT.repl {H : Hp} {kvs : List (List Key × V)} {xs : List (List Key × Addr × Value)} (r : KT H kvs xs) (k : List Key) {y : V} {u : Value} (ry : RelV y u) :
    KT H (kvs.map fun kv => if kv.1 = k then (kv.1, y) else kv) (xs.map (putAt k u)) := by
  induction r with
  | nil => exact .nil
  | @cons p q ps qs h t ih =>
    rw [List.map_cons, List.map_cons]
    refine .cons ?_ ih
    obtain ⟨h1, h2, h3⟩ := h
    unfold putAt
    by_cases e : p.1 = k
    · rw [if_pos e, if_pos (h1.symm.trans e)]; exact ⟨h1, h2, ry⟩
    · rw [if_neg e, if_neg (fun z => e (h1.trans z))]; exact ⟨h1, h2, h3⟩
theorem KT.put {H : Hp} {kvs : List (List Key × V)} {xs : List (List Key × Addr × Value)} (r : KT H kvs xs) (k : List Key) {b : Addr} {y : V} {u : Value} (hb : H b = some (.tup (k.map kV))) (ry : RelV y u) :
    KT H (putK kvs k y) (storedH xs k b u) := by
  have e : (kvs.any fun kv => decide (kv.1 = k)) = (atKey xs k).isSome := by
    rw [valV_any, (r.val k).isSome_eq, Option.isSome_map]
  unfold putK storedH
  rw [e]
  by_cases q : (atKey xs k).isSome = true
  · rw [if_pos q, if_pos q]; exact r.repl k ry
  · rw [if_neg q, if_neg q]; exact Paired.snoc r ⟨rfl, hb, ry⟩
theorem KT.keeps {H H' : Hp} {kvs : List (List Key × V)} {xs : List (List Key × Addr × Value)} (r : KT H kvs xs) (ht : ∀ b ys, H b = some (.tup ys) → H' b = some (.tup ys)) : KT H' kvs xs :=
  Paired.mapP r fun _ _ z => ⟨z.1, ht _ _ z.2.1, z.2.2⟩

section
variable {P : Program} {w : World} {H : Hp} {h : Heap} {a : Addr}
theorem rd_of {u : HO} (ok : HOk P w H h) (e : Rd H a u) : ObjOk P w H h a u := e.ok ok
theorem dk_rd {kvs : List (Key × V)} (ok : HOk P w H h) (e : Rd H a (.dK kvs)) : kvs.length ≤ sizeLine ∧ (a == sysModules) = false ∧ ∃ vs, KV kvs vs ∧ h.DictOf (mixKind P w) a vs :=
  show ObjOk P w H h a (.dK kvs) from rd_of ok e
theorem dk_of {kvs : List (Key × V)} (ok : HOk P w H h) (e : H a = some (.dK kvs)) : kvs.length ≤ sizeLine ∧ (a == sysModules) = false ∧ ∃ vs, KV kvs vs ∧ h.DictOf (mixKind P w) a vs := dk_rd ok (.inl e)
/-- a tracked tuple of ints and texts is a key -/
theorem key_of {ks : List Key} (ok : HOk P w H h) (e : H a = some (.tup (ks.map kV))) : (tupleKind (mixKind P w)).is h ks a := by
  obtain ⟨_, its, r, o, h1, h2, n, h3⟩ := (show ObjOk P w H h a (.tup (ks.map kV)) from ok a _ e)
  exact ⟨o, its.toArray, n, h1, h2, h3, by simpa using items_are r⟩
theorem dt_rd {kvs : List (List Key × V)} (ok : HOk P w H h) (e : Rd H a (.dT kvs)) : kvs.length ≤ sizeLine ∧ (a == sysModules) = false ∧
    ∃ xs, KT H kvs xs ∧ h.DictOfH (tupleKind (mixKind P w)) a xs := by
  obtain ⟨z, y, xs, r, o, es, ep, h1, h2, h3, h4, h5⟩ := (show ObjOk P w H h a (.dT kvs) from rd_of ok e)
  refine ⟨z, y, xs, r, o, es, ep, h1, h2, h3, h4, fun x hx => ?_, h5⟩
  have all : ∀ {l : List (List Key × V)} {m : List (List Key × Addr × Value)}, KT H l m → ∀ x ∈ m, (tupleKind (mixKind P w)).is h x.1 x.2.1 := by
    intro l m q
    induction q with
    | nil => intro x hx; exact nomatch hx
    | @cons p q ps qs hq t ih =>
      intro x hx
      rcases List.mem_cons.mp hx with e | hx
      · subst e
        exact key_of ok (by rw [← hq.1]; exact hq.2.1)
      · exact ih x hx
  exact all r x hx
theorem dt_of {kvs : List (List Key × V)} (ok : HOk P w H h) (e : H a = some (.dT kvs)) : kvs.length ≤ sizeLine ∧ (a == sysModules) = false ∧
    ∃ xs, KT H kvs xs ∧ h.DictOfH (tupleKind (mixKind P w)) a xs := dt_rd ok (.inl e)
end

/-- what the dict at a holds at the key y -/
def DGet (H : Hp) (a : Addr) (y : V) (r : Option V) : Prop :=
  (∃ kvs k, Rd H a (.dK kvs) ∧ y = kV k ∧ r = valV kvs k) ∨ ∃ kvs k b, Rd H a (.dT kvs) ∧ y = .ref b ∧ H b = some (.tup (k.map kV)) ∧ r = valV kvs k
/-- the heap behind a[y] = v -/
def DPut (H : Hp) (a : Addr) (y v : V) (H' : Hp) : Prop :=
  (∃ kvs k, H a = some (.dK kvs) ∧ y = kV k ∧ kvs.length < sizeLine ∧ H' = upd H a (.dK (putK kvs k v))) ∨
  ∃ kvs k b, H a = some (.dT kvs) ∧ y = .ref b ∧ H b = some (.tup (k.map kV)) ∧ kvs.length < sizeLine ∧ H' = upd H a (.dT (putK kvs k v))
theorem DGet.k {H : Hp} {a : Addr} {kvs : List (Key × V)} {k : Key} (e : H a = some (.dK kvs)) : DGet H a (kV k) (valV kvs k) := .inl ⟨kvs, k, .inl e, rfl, rfl⟩
theorem DPut.k {H : Hp} {a : Addr} {kvs : List (Key × V)} {k : Key} {v : V} (e : H a = some (.dK kvs)) (hl : kvs.length < sizeLine) : DPut H a (kV k) v (upd H a (.dK (putK kvs k v))) := .inl ⟨kvs, k, e, rfl, hl, rfl⟩
section
variable {X : Cx} {pins : List (Addr × Obj)} {σ : St} {H : Hp} {s : Shared} {a : Addr} {y v : V} {u r : Value} {o : Option V} {A : Around} {E : Value → Shared → Prop}

theorem Inv.big (I : Inv X pins σ H s) : sysModules < s.heap.objs.size := by
  have h : mainGlobals < s.heap.objs.size := (I.mod.glob.keeps I.bk).lt
  exact Nat.lt_trans (by decide) h

/-- d[y], there -/
theorem d_getItem {Q : Value → Shared → Prop} (hu : A.units + 1 < cLine) (I : Inv X pins σ H s) (g : DGet H a y (some v)) (ry : RelV y u) (h : ∀ w' s', Inv X pins σ H s' → RelV v w' → Q w' s') :
    wpAny (model X.prog X.w) A (getItem (.ref a) u) Q E s := by
  rcases g with ⟨kvs, k, e, ey, l⟩ | ⟨kvs, k, b, e, ey, eb, l⟩
  · subst ey
    obtain ⟨z, hd, vs, rel, dd⟩ := dk_rd I.hok e
    obtain ⟨w', hw, rw'⟩ := RelO.some_of (v := v) (o := valueAt vs k) (by rw [l]; exact rel.val k)
    exact wpAny_getItem_of (kV_is ry) dd.mapOf hw (h w' _ (I.tok _) rw')
  · subst ey
    cases (show u = Value.ref b from ry)
    obtain ⟨z, hd, xs, rel, dd⟩ := dt_rd I.hok e
    obtain ⟨w', hw, rw'⟩ := RelO.some_of (v := v) (o := (atKey xs k).map (·.2)) (by rw [l]; exact rel.val k)
    obtain ⟨p, hp, hp2⟩ := Option.map_eq_some_iff.mp hw
    refine wpAny_getItem_heap (tupleKind_room_in1 hu) (key_of I.hok eb) dd hp ?_
    rw [hp2]
    exact h w' _ (I.tok _) rw'
/-- y in d -/
theorem d_in {Q : Value → Shared → Prop} (hu : A.units + 1 < cLine) (I : Inv X pins σ H s) (g : DGet H a y o) (ry : RelV y u) (h : ∀ s', Inv X pins σ H s' → Q (.bool o.isSome) s') :
    wpAny (model X.prog X.w) A (compareOp .In u (.ref a)) Q E s := by
  rcases g with ⟨kvs, k, e, ey, l⟩ | ⟨kvs, k, b, e, ey, eb, l⟩
  · subst ey
    obtain ⟨z, hd, vs, rel, dd⟩ := dk_rd I.hok e
    refine wpAny_in_of (kV_is ry) hd dd.mapOf ?_
    rw [← (rel.val k).isSome_eq, ← l]
    exact h _ (I.tok _)
  · subst ey
    cases (show u = Value.ref b from ry)
    obtain ⟨z, hd, xs, rel, dd⟩ := dt_rd I.hok e
    refine wpAny_in_heap (tupleKind_room_in1 hu) (key_of I.hok eb) hd dd ?_
    have q := (rel.val k).isSome_eq
    rw [Option.isSome_map] at q
    rw [← q, ← l]
    exact h _ (I.tok _)
/-- a dict's object is replaced -/
theorem d_write {h' : Heap} {t' : Nat} {ob : HO} (I : Inv X pins σ H s) (mu : Mut (H a)) (hs : Heap.SameBut a s.heap h') (he : ∃ q, h'.get? a = some q) (new : ObjOk X.prog X.w (upd H a ob) h' a ob) :
    Inv X pins σ (upd H a ob) { s with heap := h', toks := t' } :=
  I.write (x := a) (e := a) mu (.inl rfl) (fun b q hb z => (hs.2 b hb).trans z) he new
theorem dk_new {P : Program} {w : World} {H' : Hp} {h' : Heap} {kvs : List (Key × V)} {vs : List (Key × Value)} (z : kvs.length ≤ sizeLine) (hd : (a == sysModules) = false) (rel : KV kvs vs) (dd : h'.DictOf (mixKind P w) a vs) :
    ObjOk P w H' h' a (.dK kvs) := ⟨z, hd, vs, rel, dd⟩
/-- d[y] = v -/
theorem d_setItem {H' : Hp} {Q : Unit → Shared → Prop} (hu : A.units + 1 < cLine) (I : Inv X pins σ H s) (g : DPut H a y v H') (ry : RelV y u) (rv : RelV v r) (h : ∀ s', Inv X pins σ H' s' → Q () s') :
    wpAny (model X.prog X.w) A (setItem (.ref a) u r) Q E s := by
  rcases g with ⟨kvs, k, e, ey, l, eH⟩ | ⟨kvs, k, b, e, ey, eb, l, eH⟩
  · subst ey eH
    obtain ⟨z, hd, vs, rel, dd⟩ := dk_of I.hok e
    have hz : vs.length ≤ sizeLine := by rw [← rel.length]; exact z
    have hl : (putK kvs k v).length ≤ sizeLine := by have := length_putK kvs k v; omega
    refine wpAny_setItem_pairs (hsz := hz) (kV_is ry) dd fun h' dd' hs => h _ ?_
    have he : ∃ q, h'.get? a = some q := let ⟨q, _, _, hq, _⟩ := dd'; ⟨q, hq⟩
    exact d_write I (by rw [e]; exact True.intro) hs he (dk_new hl hd (rel.put k rv) dd')
  · subst ey eH
    cases (show u = Value.ref b from ry)
    obtain ⟨z, hd, xs, rel, dd⟩ := dt_of I.hok e
    have hz : xs.length ≤ sizeLine := by rw [← Paired.length rel]; exact z
    have hl : (putK kvs k v).length ≤ sizeLine := by have := length_putK kvs k v; omega
    refine wpAny_setItem_heap (hsz := hz) (tupleKind_room_in1 hu) (key_of I.hok eb) dd fun h' dd' hs => h _ ?_
    obtain ⟨q, es, ep, hq, h2, h3, h4, _, h5⟩ := dd'
    refine d_write I (by rw [e]; exact True.intro) hs ⟨q, hq⟩ ⟨hl, hd, _, (rel.put k eb rv).keeps fun c ys ec => ?_, q, es, ep, hq, h2, h3, h4, h5⟩
    rw [upd_ne (ne_of ec e (fun z => nomatch z))]
    exact ec
end

section
variable {X : Cx} {pins : List (Addr × Obj)} {σ : St} {H : Hp} {s : Shared} {a : Addr} {kvs : List (Key × V)} {k : Key} {u : Value} {A : Around} {E : Value → Shared → Prop}
end

/-! ### readings and rules -/
/-- the element of a subscription, not a slice -/
def NoSl (i : Expr) : Prop := ∀ ov iv, subscripted i false ov iv = operate [ov, iv] (getItem ov iv)
theorem subD_of {prog : Program} {w : World} {A : Around} {E : Value → Shared → Prop} {s : Shared} {env : Env} {value slice : Expr} {pos : Pos} {T id : String} {Q : Value → Shared → Prop}
    (hl : typeLookup (.type T) "__getitem__" = pure (some (.builtin id))) (hs : NoSl slice)
    (h : wpAny (model prog w) A (eval value env) (fun o s₁ => wpAny (model prog w) A (eval slice env) (fun i s₂ => s₂.TypeIs o T ∧ wpAny (model prog w) A (getItem o i) Q E s₂) E s₁) E s) :
    wpAny (model prog w) A (eval (.Subscript value slice pos) env) Q E s := by
  refine Subscript_ (wpAny_mono h (fun o s₁ h₁ => wpAny_mono h₁ (fun i s₂ h₂ => ?_) fun _ _ x => x) fun _ _ x => x)
  obtain ⟨hT, h₂⟩ := h₂
  unfold subscriptTail
  refine wpAny_bind ?_
  rw [getitemInPython_of_ne hT.not_modules]
  refine wpAny_bind (wpAny_specialOf hT hl ?_)
  have fin : wpAny (model prog w) A (subscripted slice false o i) (fun r s₃ => wpAny (model prog w) A (letTemporaryGo value o r >>= fun _ => pure r) Q E s₃) E s₂ := by
    rw [hs o i]
    exact wpAny_operating (wpAny_mono h₂ (fun r s₃ h₃ => wpAny_bind (wpAny_letTemporaryGo (wpAny_pure h₃))) fun _ _ x => x)
  first
    | exact wpAny_pure (wpAny_bind fin)
    | exact wpAny_bind (wpAny_pure (wpAny_bind fin))
    | exact wpAny_bind fin

theorem dict_typeIs {X : Cx} {pins : List (Addr × Obj)} {σ : St} {H : Hp} {s : Shared} {a : Addr} {y : V} {o : Option V} (I : Inv X pins σ H s) (g : DGet H a y o) : s.TypeIs (.ref a) "dict" := by
  rcases g with ⟨kvs, k, e, _, _⟩ | ⟨kvs, k, b, e, _, _, _⟩
  · obtain ⟨_, _, vs, _, dd⟩ := dk_rd I.hok e
    exact dd.typeIs
  · obtain ⟨_, _, xs, _, dd⟩ := dt_rd I.hok e
    exact dd.typeIs
/-- d[y] -/
def tDGet (td ty : TE) : TE := fun σ H Q => td σ H fun x H1 => ty σ H1 fun y H2 => ∃ a v, x = .ref a ∧ DGet H2 a y (some v) ∧ Q v H2
/-- y in d, y not in d -/
def tDIn (ty td : TE) : TE := fun σ H Q => ty σ H fun y H1 => td σ H1 fun x H2 => ∃ a o, x = .ref a ∧ DGet H2 a y o ∧ Q (.bl o.isSome) H2
/-- d[y] = v -/
def sDPut (td ty tv : TE) : TS := fun D σ H => tv σ H fun v H1 => td σ H1 fun x H2 => ty σ H2 fun y H3 => ∃ a H4, x = .ref a ∧ DPut H3 a y v H4 ∧ D.nx σ H4
section
variable {X : Cx} {o i e value : Expr} {pos pos' tpos : Pos} {td ty tv : TE}
theorem pe_dget (hu : X.A.units + 1 < cLine) (ho : PE X o td) (hi : PE X i ty) (hs : NoSl i) : PE X (.Subscript o i pos) (tDGet td ty) := by
  intro pins s σ H Q I h
  refine subD_of PySem.F.slot_dict_getitem.lookup hs (thn (ho pins s σ H _ I h) fun u s1 ⟨x, H1, I1, rx, q1⟩ => thn (hi pins s1 σ H1 _ I1 q1) fun iv s2 ⟨y, H2, I2, ry, a, v, ex, g, q2⟩ => ?_)
  subst ex
  obtain rfl : u = Value.ref a := rx
  exact ⟨dict_typeIs I2 g, d_getItem hu I2 g ry fun w' s3 I3 rw' => ⟨v, H2, I3, rw', q2⟩⟩
theorem pc_din (hu : X.A.units + 1 < cLine) (hi : PE X i ty) (ho : PE X o td) : PC X .In i o (tDIn ty td) := by
  intro pins s σ H Q I h
  refine thn (hi pins s σ H _ I h) fun iv s1 ⟨y, H1, I1, ry, q1⟩ => thn (ho pins s1 σ H1 _ I1 q1) fun u s2 ⟨x, H2, I2, rx, a, ov, ex, g, q2⟩ => ?_
  subst ex
  obtain rfl : u = Value.ref a := rx
  exact d_in hu I2 g ry fun s3 I3 => ⟨.bl ov.isSome, H2, I3, rfl, q2⟩
theorem ps_dput (hu : X.A.units + 1 < cLine) (ho : PE X o td) (hi : PE X i ty) (hv : PE X value tv) (hs : swapsWith value (some (.Subscript o i pos')) pos.line X.env = pure false) :
    PS X (.Assign [.Subscript o i pos'] value pos) (sDPut td ty tv) := by
  intro pins s σ H D I h
  refine wpAny_Assign_Subscript (thn (hv pins s σ H _ I h) fun r s1 ⟨v, H1, I1, rv, q1⟩ => thn (ho pins s1 σ H1 _ I1 q1) fun u s2 ⟨x, H2, I2, rx, q2⟩ => thn (hi pins s2 σ H2 _ I2 q2) fun iv s3 ⟨y, H3, I3, ry, a, H4, ex, g, q3⟩ => ?_) hs
  subst ex
  obtain rfl : u = Value.ref a := rx
  exact d_setItem hu I3 g ry rv fun s4 I4 => ⟨σ, H4, I4, q3⟩
end

/-! ### displays -/
theorem dk_empty {P : Program} {w : World} {H : Hp} (h : Heap) (hb : sysModules < h.objs.size) : ObjOk P w H (h.push { cls := .type "dict", data := .dict #[] }) h.objs.size (.dK []) :=
  ⟨Nat.zero_le _, beq_eq_false_iff_ne.mpr (Ne.symm (Nat.ne_of_lt hb)), [], .nil, Heap.DictOf.new h⟩
/-- {}, to be a dict of the kind that is wanted -/
def tDNewK : TE := fun _ H Q => ∀ p, H p = none → Q (.ref p) (upd H p (.dK []))
section
variable {X : Cx} {pos : Pos}
theorem pe_dnewK : PE X (.Dict [] [] pos) tDNewK := fun pins s σ H Q I h =>
  wpAny_Dict_empty ⟨.ref s.heap.objs.size, _, I.laid (a := s.heap.objs.size) (o := .dK []) (t' := s.toks) (fun _ _ q => Heap.get?_push_of_some _ q) (Nat.le_refl _) (dk_empty s.heap I.big), rfl, h _ (I.hok.fresh (Nat.le_refl _))⟩
end

/-- the pairs of a display, from the left -/
def tPairs : List (TE × TE) → St → Hp → (List (V × V) → Hp → Prop) → Prop
  | [], _, H, Q => Q [] H
  | (tk, tv) :: r, σ, H, Q => tk σ H fun x H1 => tv σ H1 fun y H2 => tPairs r σ H2 fun ps H3 => Q ((x, y) :: ps) H3
abbrev VV : List (V × V) → List (Value × Value) → Prop := Paired fun p q => RelV p.1 q.1 ∧ RelV p.2 q.2
def PPs (X : Cx) (pos : Pos) (keys : List (Option Expr)) (values : List Expr) (trs : List (TE × TE)) : Prop :=
  ∀ (pins : List (Addr × Obj)) (s : Shared) (σ : St) (H : Hp) (Q : List (V × V) → Hp → Prop), Inv X pins σ H s → tPairs trs σ H Q →
    wpAny (model X.prog X.w) X.A (evalPairs (pairTrees keys values X.env pos)) (fun vs s' => ∃ ps H', Inv X pins σ H' s' ∧ VV ps vs ∧ Q ps H') X.xe s
/-! ### methods -/
/-- a method call o.m(e) of a built-in, with one argument: what must be seen of the text -/
structure M1 (X : Cx) (o : Expr) (m : Str) (apos : Pos) (e : Expr) (cpos : Pos) : Prop where
  base : attributeBase o m X.env (eval o X.env) = eval o X.env
  few : ((backTo cpos (starEach [e] X.env)).all (fun x => !x.1) && (backToKw cpos (keywordEach [] X.env)).all (fun x => x.1.isSome)
    && decide (([e] : List Expr).length + ([] : List Keyword).length + (if ([] : List Keyword).isEmpty then 0 else 1) < 30)) = true
  line : (apos.endLine == cpos.line) = true
  trees : backTo cpos (starEach [e] X.env) = [(false, eval e X.env)]
structure M2 (X : Cx) (o : Expr) (m : Str) (apos : Pos) (e f : Expr) (cpos : Pos) : Prop where
  base : attributeBase o m X.env (eval o X.env) = eval o X.env
  few : ((backTo cpos (starEach [e, f] X.env)).all (fun x => !x.1) && (backToKw cpos (keywordEach [] X.env)).all (fun x => x.1.isSome)
    && decide (([e, f] : List Expr).length + ([] : List Keyword).length + (if ([] : List Keyword).isEmpty then 0 else 1) < 30)) = true
  line : (apos.endLine == cpos.line) = true
  trees : backTo cpos (starEach [e, f] X.env) = [(false, eval e X.env), (false, eval f X.env)]

section
variable {X : Cx} {pins : List (Addr × Obj)} {σ : St} {H : Hp} {s : Shared} {a : Addr} {y d : V} {u r : Value} {o : Option V} {A : Around} {E : Value → Shared → Prop}
end

section
variable {X : Cx} {o e f : Expr} {apos cpos : Pos} {td ty tx : TE}
end

/-! ### dict(d): a copy -/
section
variable {X : Cx} {pins : List (Addr × Obj)} {σ : St} {H : Hp} {s : Shared} {a : Addr} {kvs : List (Key × V)} {A : Around} {E : Value → Shared → Prop}
end

section
variable {X : Cx} {pins : List (Addr × Obj)} {σ : St} {H : Hp} {s : Shared} {a : Addr} {y : V} {u : Value} {A : Around} {E : Value → Shared → Prop}
end
end L2

namespace Att
open PySem PySem.W PySem.Calls PyProof.Rows

/-! ### the script -/
theorem ints_of_wellAll {P : Params} {h : Heap} : ∀ (ns : List Int) (vs : List Value), WellAll P h vs (ns.map WData.int) → IntsAre vs ns := by
  intro ns
  induction ns with
  | nil =>
    intro vs w
    rw [List.map_nil] at w
    cases w
    exact .nil
  | cons n ns ih =>
    intro vs w
    rw [List.map_cons] at w
    cases w with
    | cons a b =>
      cases a
      exact .cons _ _ (ih _ b)

theorem script_of {l : OpenLaw} {n : Nat} (hn : l.most = some n) {P : Params} {h : Heap} {args : List WData} {vals : List Value}
    (hpre : l.row.toRowW.claim.pre args = true) (hwl : WellAll P h vals args) :
    ∃ a vs ns, vals = [Value.ref a] ∧ args = [WData.list (ns.map WData.int)] ∧ h.get? a = some { cls := .type "list", data := .seq vs.toArray } ∧ IntsAre vs ns ∧ ns.length ≤ n := by
  have hsh : WShape.hasAll [] args [.list .int] = true := (pre_splitW hpre).1
  have hc : l.pre.holds [] { args := args } = true := (pre_splitW hpre).2
  obtain ⟨d, r, rfl, h1, h2⟩ := hasAllW_cons hsh
  obtain rfl := hasAllW_nil h2
  obtain ⟨xs, rfl, h3⟩ := hasW_list h1
  obtain ⟨ns, rfl⟩ := items_int h3
  have hlen : ns.length ≤ n := by
    unfold OpenLaw.pre at hc
    have h4 : (WTm.not (.lt (.lit (.int (n : Int))) (.len (.arg 0)))).holds [] { args := [.list (ns.map .int)] } = true := by
      have h4 := (holds_andW hc).1
      rw [hn] at h4
      exact h4
    have h5 := condW_of h4 (w_not (w_lt w_lit (w_len_list (w_arg rfl))))
    rw [List.length_map] at h5
    refine Nat.le_of_not_lt fun q => ?_
    have q' : (n : Int) < ((ns.length : Nat) : Int) := by omega
    first
      | (rw [decide_eq_true q'] at h5; exact absurd h5 (by decide))
      | (simp at h5; omega)
  cases hwl with
  | cons w1 w2 =>
    cases w2
    cases w1 with
    | list ho hall => exact ⟨_, _, ns, rfl, rfl, ho, ints_of_wellAll ns _ hall, hlen⟩

theorem post_true (l : OpenLaw) (args : List WData) : l.row.toRowW.claim.post args (.bool true) args = true :=
  postW_of (r := l.row.toRowW) (X := (true == true))
    (show WShape.has [] (.bool true) .bool = true by first | rfl | decide | simp [WShape.has, WShape.arms, WShape.armsAll])
    (show (WTm.eq .res (.lit (.bool true))).value [] { args := args, res := some (.bool true), after := args } = some (.bool (true == true)) from w_eq_bool (w_res rfl) w_lit) rfl

/-! ### the attachment: holds_open's last premise (the goal 'hc' behind k_head) from a wpAny of the law's body -/
/-- the same from a codeAny of the CALL (for a layer whose function contracts speak of calls) -/
theorem attach_call {l : OpenLaw} {n : Nat} {q : Program} {loose : List Str} {XP : (Str → Option Value) → Heap → Prop} {YP : World → Heap → Prop} {d : DefRec}
    (hn : l.most = some n) (hdf : d.params.defaults = [])
    (call : ∀ (w : World) (s₀ s₁ : Shared) (mg mb : Str → Option Value) (fa : Addr) (o : Obj) (pm cd doc : Value) (a : Addr) (vs : List Value) (ns : List Int),
      Ground q loose [] XP w s₀ mg mb s₁.heap → YP w s₁.heap →
      s₁.heap.get? fa = some o → o.data = .func (docDef d.name d.params d.body d.scope pm cd doc) → s₁.heap.CodeRec cd d.name → mg d.name = some (.ref fa) →
      s₁.heap.get? a = some { cls := .type "list", data := .seq vs.toArray } → IntsAre vs ns → ns.length ≤ n → s₁.gens = #[] →
      codeAny (model l.prog w) callerA (.call (.ref fa) ⟨[.ref a], []⟩) (fun r s' => r = .ok (.ret (.bool true)) ∧ OldK s₁.heap s'.heap ∧ s'.os = s₁.os ∧ AllBare s'.gens) s₁) :
    WalkO q loose XP YP l.row.toRowW d [] (fun f vs => PySem.call f vs) := by
  intro w s₀ s₁ mg mb G Y fa o pm cd doc dV kV ho hd hcd hD hmg hg args vals as hpre hlay hrd hwl hlo
  obtain rfl : dV = .none := Dflts.none hD hdf
  obtain rfl : kV = .none := Dflts.noKw hD
  obtain ⟨a, vs, ns, rfl, rfl, hobj, hints, hlen⟩ := script_of hn hpre hwl
  refine enter_call (codeAny_mono (call w s₀ s₁ mg mb fa o pm cd doc a vs ns G Y ho (fd_plain hd) hcd hmg hobj hints hlen hg) fun r s' hq => ?_)
  obtain ⟨rfl, h2, h3, h4⟩ := hq
  exact ⟨.inl ⟨.bool true, .bool true, [], rfl, fun _ => rfl, .bool true, post_true l _, fun _ => ⟨List.Pairwise.nil, fun _ hm => (nomatch hm)⟩⟩, h2, h3, h4⟩

/-! ### rules over ANY heap (no ledger) from facts about the written part K: the library's own take a ledger (News) for what they write -/
section
variable {prog : Program} {w : World} {A : Around} {E : Value → Shared → Prop} {s : Shared} {K : Frag}

/-! the whole heap as the ledger: makes every rule that writes through a ledger a rule over any heap -/
def ledger (h : Heap) (L d : Addr) : List (Addr × Obj) := (List.range h.objs.size).filterMap fun a => if a = L ∨ a = d then none else (h.get? a).map fun o => (a, o)
end
end Att

namespace L2
open PySem PySem.Spec PyProof.Rows

theorem vals_ints : ∀ {vs : List Value} {ns : List Int}, IntsAre vs ns → Vals (ns.map V.int) vs
  | _, _, .nil => .nil
  | _, _, .cons n t h => .cons ⟨t, rfl⟩ (vals_ints h)

end L2

namespace L2
open PySem PySem.Spec PyProof.Rows

end L2

/-! SHORT WORDS over the layer: a def of the text, its body, what a loop and a test want. -/
namespace L2
open PySem PySem.Spec PyProof.Rows

/-! ### the text by places -/
def defArgs (s : Stmt) : Arguments := match s with
  | .FunctionDef _ a _ _ _ _ _ _ _ _ => a
  | _ => { posonlyargs := [], args := [], vararg := none, kwonlyargs := [], kw_defaults := [], kwarg := none, defaults := [] }
def defBody (s : Stmt) : List Stmt := match s with
  | .FunctionDef _ _ b _ _ _ _ _ _ _ => b
  | _ => []
def defScope (s : Stmt) : Scope := match s with
  | .FunctionDef _ _ _ _ _ _ sc _ _ _ => sc
  | _ => { kind := .function, names := [], isGenerator := false, isCoroutine := false }

/-! ### no exception leaves a def -/
abbrev CX0 : CXT := fun _ _ _ _ _ _ => False
abbrev E0 : XK := fun _ _ _ => False
theorem pass0 {X : Cx} : Passes CX0 X E0 := fun _ _ _ _ _ _ _ h => h.elim

/-! ### a def (or method) of the text as it stands behind the top -/
structure Fun (K : PySem.W.Frag) (x qual : Str) (st : Stmt) (f : Addr) (fd : FuncData) : Prop where
  ex : ∃ (oc : Value) (od : Option Addr) (kV doc pm : Value) (an : Option Addr) (cdv ct : Value) (osl : Array (Option Value)),
    fd = PySem.W.fnOf x qual (defArgs st) (defBody st) (defScope st) .none kV doc pm an cdv ct ∧ K.lookup f = some ⟨oc, od, .func fd, osl⟩ ∧ PySem.W.codeIn K cdv qual = true
  kp : PySem.W.keepIn K (.ref f) = true
section
variable {P : Program} {w : World} {K : PySem.W.Frag} {mg : Str → Option Value} {base : Heap}
/-- THE RULE for a def: its body as a term of rules, and the reading of that term -/
theorem Fun.ok {x qual : Str} {st : Stmt} {f : Addr} {fd : FuncData} {N ps : List Str} {k : Nat} {sp : Sp} (F : Fun K x qual st f fd) (S : FnScope N ps (defScope st)) (len : ∀ vs H Q E, sp vs H Q E → vs.length = ps.length)
    (hbody : ∀ (cdv : Value) (A : Around) (outer : List Env) (s : Shared) (H : Hp) (vs : List V) (Q : VK) (E : XK), Room k (A.deeper (envOfC qual (defScope st) s.heap.objs.size f cdv)) → sp vs H Q E →
      ∃ t, PSs (cxOf CX0 P w K mg base N qual (defScope st) f cdv A outer s H E).nox (defBody st) t ∧ t { nx := fun _ H' => Q .non H', rt := Q } (start N vs) H) : FnOk P w K mg base CX0 (k + 1) f fd ps sp := by
  obtain ⟨oc, od, kV, doc, pm, an, cdv, ct, osl, rfl, lk, hcd⟩ := F.ex
  refine fn_of lk hcd S len fun A outer s H vs Q E hr hsp => ?_
  obtain ⟨t, h, q⟩ := hbody cdv A outer s H vs Q E hr hsp
  exact ⟨t, h.nox, q⟩
/-- how its arguments bind (no defaults): h is «fun _ _ _ _ _ _ us hl => match us, hl with | [_, _], _ => rfl», one _ a parameter -/
theorem Fun.binds {x qual : Str} {st : Stmt} {f : Addr} {fd : FuncData} {ps : List Str} (F : Fun K x qual st f fd)
    (h : ∀ (kV doc pm : Value) (an : Option Addr) (cdv ct : Value) (us : List Value), us.length = ps.length → bindArgs (PySem.W.fnOf x qual (defArgs st) (defBody st) (defScope st) .none kV doc pm an cdv ct) ⟨us, []⟩ = pure (ps.zip us)) : Binds K fd ps [] := by
  obtain ⟨oc, od, kV, doc, pm, an, cdv, ct, osl, rfl, lk, hcd⟩ := F.ex
  exact .all (h kV doc pm an cdv ct)
theorem fun_mk {x qual : Str} {st : Stmt} {f : Addr} {oc : Value} {od an : Option Addr} {osl : Array (Option Value)} {kV doc pm cdv ct : Value} (l : K.lookup f = some ⟨oc, od, .func (PySem.W.fnOf x qual (defArgs st) (defBody st) (defScope st) .none kV doc pm an cdv ct), osl⟩)
    (c : PySem.W.codeIn K cdv qual = true) (k : PySem.W.keepIn K (.ref f) = true) : Fun K x qual st f (PySem.W.fnOf x qual (defArgs st) (defBody st) (defScope st) .none kV doc pm an cdv ct) := ⟨⟨oc, od, kV, doc, pm, an, cdv, ct, osl, rfl, l, c⟩, k⟩
end
theorem hu_of {A : Around} {k : Nat} (hr : Room k A) : A.units + 1 < cLine := Nat.lt_of_le_of_lt (Nat.add_le_add_left (by decide : 1 ≤ 64) _) hr.units
theorem small1000 {n : Nat} (h : n ≤ 1000) : n < sizeLine := Nat.lt_of_le_of_lt h (by decide)

/-! ### expressions in short: the name that stands in the i-th slot -/
section
variable {X : Cx}
theorem pv (i : Nat) {x : Str} {pos : Pos} (hN : X.N[i]? = some x := by rfl) (hv : Vis X.env.scope x := by first | exact Or.inl rfl | exact Or.inr (Or.inl rfl) | exact Or.inr (Or.inr rfl)) (hd : (x == ("__debug__" : Str)) = false := by decide)
    (hcd : (x == ("__classdict__" : Str)) = false := by decide) : PE X (.Name x pos) (tVar i) := pe_var hN hv hd hcd
end

/-! ### tests -/
theorem iteF {A B : Prop} (h : B) : if false = true then A else B := by
  rw [if_neg Bool.false_ne_true]
  exact h
theorem iteT {A B : Prop} (h : A) : if true = true then A else B := by
  rw [if_pos rfl]
  exact h
theorem ite2 {c A B : Prop} [Decidable c] (h1 : c → A) (h2 : ¬ c → B) : if c then A else B := by
  by_cases h : c
  · rw [if_pos h]
    exact h1 h
  · rw [if_neg h]
    exact h2 h
theorem iteNS {c A B : Prop} [Decidable c] (hc : c) (h : B) : if (!decide c) = true then A else B := by
  rw [decide_eq_true hc]
  exact iteF h

/-! ### heaps -/
/-- all that was tracked is as it was -/
def Same (H H' : Hp) : Prop := ∀ b o, H b = some o → H' b = some o
theorem Same.refl (H : Hp) : Same H H := fun _ _ h => h
theorem Same.trans {H H1 H2 : Hp} (a : Same H H1) (b : Same H1 H2) : Same H H2 := fun c o h => b c o (a c o h)
theorem Same.seq {K : PySem.W.Frag} {H H' : Hp} {a : Addr} {xs : List V} (e : Same H H') (h : SqL K H a xs) : SqL K H' a xs := by
  rcases h with (h | ⟨o, h⟩) | h
  · exact .inl (.inl (e _ _ h))
  · exact .inl (.inr ⟨o, e _ _ h⟩)
  · exact .inr h

/-! ### a dict's pairs: keys that differ -/
section
variable {κ : Type} [DecidableEq κ]
end
end L2

namespace L2
open PySem PySem.Spec PyProof.Rows

/-! ### small rules -/
section
variable {X : Cx} {a b c : Expr} {ta tb tc : TE} {pos : Pos}
/-- a name of the top that holds an int, a text, an object -/
theorem pe_gI {x : Str} {i : Int} (h : ∃ t, X.mg x = some (.int i t)) (hg : Gl X x := by rfl) (hd : (x == ("__debug__" : Str)) = false := by decide) : PE X (.Name x pos) (tC (.int i)) := by
  obtain ⟨t, h⟩ := h
  exact pe_glob hg h ⟨t, rfl⟩ hd
theorem pe_gS {x z : Str} (h : ∃ t, X.mg x = some (.str z t)) (hg : Gl X x := by rfl) (hd : (x == ("__debug__" : Str)) = false := by decide) : PE X (.Name x pos) (tC (.str z)) := by
  obtain ⟨t, h⟩ := h
  exact pe_glob hg h ⟨t, rfl⟩ hd
theorem pe_gR {x : Str} {f : Addr} (h : X.mg x = some (.ref f)) (hg : Gl X x := by rfl) (hd : (x == ("__debug__" : Str)) = false := by decide) : PE X (.Name x pos) (tC (.ref f)) := pe_glob hg h rfl hd
/-- a built-in type as a value -/
theorem pe_ty {x : Str} {T : String} (hm : X.mg x = none) (hv : bootBuiltins x = some (.type T)) (hg : Gl X x := by rfl) (hn : x ≠ "__name__" := by decide) (hd : (x == ("__debug__" : Str)) = false := by decide) : PE X (.Name x pos) (tC (.ty T)) := pe_bltn hg hm hv rfl hn hd
/-- isinstance(x, C), C an own class -/
theorem call_isC : CallR X (.builtin "isinstance") (fun xs H Q => ∃ x C t k, xs = [x, .ref C] ∧ TyOf X.K H x t ∧ PySem.W.kitOne X.K t (.ref C) = some k ∧ Q (.bl k) H) := by
  intro pins s σ H xs us Q I r h
  obtain ⟨x, C, t, k, rfl, ty, e, q⟩ := h
  cases r with
  | cons r1 rr =>
    cases rr with
    | cons r2 rr =>
      cases rr
      cases r2
      exact isinst_ok I r1 ty e fun tk => ⟨.bl k, H, I.tok tk, rfl, q⟩
end

/-! ### data -/
mutual
inductive Dt (K : PySem.W.Frag) (H : Hp) : V → PyData → Prop where
  | non : Dt K H .non .none
  | bl (b : Bool) : Dt K H (.bl b) (.bool b)
  | int (i : Int) : Dt K H (.int i) (.int i)
  | str (x : Str) : Dt K H (.str x) (.str x)
  | lst {a : Addr} {xs : List V} {ds : List PyData} : SqL K H a xs → DtAll K H xs ds → Dt K H (.ref a) (.list ds)
  | tup {a : Addr} {xs : List V} {ds : List PyData} : SqT K H a xs → DtAll K H xs ds → Dt K H (.ref a) (.tuple ds)
  | dK {a : Addr} {kvs : List (Key × V)} : H a = some (.dK kvs) → Dt K H (.ref a) (.dict [])
  | dT {a : Addr} {kvs : List (List Key × V)} : H a = some (.dT kvs) → Dt K H (.ref a) (.dict [])
inductive DtAll (K : PySem.W.Frag) (H : Hp) : List V → List PyData → Prop where
  | nil : DtAll K H [] []
  | cons {v : V} {d : PyData} {vs : List V} {ds : List PyData} : Dt K H v d → DtAll K H vs ds → DtAll K H (v :: vs) (d :: ds)
end
section
variable {X : Cx} {pins : List (Addr × Obj)} {σ : St} {H H' : Hp} {s : Shared}
mutual
theorem Dt.reads (I : Inv X pins σ H s) : ∀ {v : V} {d : PyData} {u : Value}, Dt X.K H v d → RelV v u → d.canLay0 = true → ∃ as, Reads s.heap u d as
  | _, _, _, .non, r, _ => by cases r; exact ⟨_, .none⟩
  | _, _, _, .bl b, r, _ => by cases r; exact ⟨_, .bool b⟩
  | _, _, _, .int i, r, _ => by obtain ⟨t, rfl⟩ := r; exact ⟨_, .int i t⟩
  | _, _, _, .str x, r, _ => by obtain ⟨t, rfl⟩ := r; exact ⟨_, .str x t⟩
  | _, _, _, .lst h hd, r, l => by
    cases r
    obtain ⟨its, rv, ⟨o, n, e, hc, _, hs⟩, _⟩ := I.list h
    obtain ⟨as, ra⟩ := DtAll.reads I hd rv (by rw [PyData.canLay0] at l; exact l)
    exact ⟨_, .list e hc hs (by simpa using ra)⟩
  | _, _, _, .tup h hd, r, l => by
    cases r
    obtain ⟨its, rv, ⟨o, e, hc, n, hs⟩, _⟩ := I.tuple h
    obtain ⟨as, ra⟩ := DtAll.reads I hd rv (by rw [PyData.canLay0] at l; exact l)
    exact ⟨_, .tuple e hc hs (by simpa using ra)⟩
  | _, _, _, .dK _, _, l => by rw [PyData.canLay0] at l; cases l
  | _, _, _, .dT _, _, l => by rw [PyData.canLay0] at l; cases l
theorem DtAll.reads (I : Inv X pins σ H s) : ∀ {vs : List V} {ds : List PyData} {us : List Value}, DtAll X.K H vs ds → Vals vs us → PyData.canLayAll0 ds = true → ∃ as, ReadsAll s.heap us ds as
  | _, _, _, .nil, r, _ => by cases r; exact ⟨_, .nil⟩
  | _, _, _, .cons h hd, r, l => by
    rw [PyData.canLayAll0, Bool.and_eq_true] at l
    cases r with
    | cons r1 rr =>
      obtain ⟨as, ra⟩ := Dt.reads I h r1 l.1
      obtain ⟨bs, rb⟩ := DtAll.reads I hd rr l.2
      exact ⟨_, .cons ra rb⟩
end
theorem Same.seqT {K : PySem.W.Frag} {a : Addr} {xs : List V} (e : Same H H') (h : SqT K H a xs) : SqT K H' a xs := by
  rcases h with (h | ⟨o, h⟩) | h
  · exact .inl (.inl (e _ _ h))
  · exact .inl (.inr ⟨o, e _ _ h⟩)
  · exact .inr h
mutual
theorem Dt.same {K : PySem.W.Frag} (e : Same H H') : ∀ {v : V} {d : PyData}, Dt K H v d → Dt K H' v d
  | _, _, .non => .non
  | _, _, .bl b => .bl b
  | _, _, .int i => .int i
  | _, _, .str x => .str x
  | _, _, .lst h hd => .lst (e.seq h) (DtAll.same e hd)
  | _, _, .tup h hd => .tup (Same.seqT e h) (DtAll.same e hd)
  | _, _, .dK h => .dK (e _ _ h)
  | _, _, .dT h => .dT (e _ _ h)
theorem DtAll.same {K : PySem.W.Frag} (e : Same H H') : ∀ {vs : List V} {ds : List PyData}, DtAll K H vs ds → DtAll K H' vs ds
  | _, _, .nil => .nil
  | _, _, .cons h hd => .cons (Dt.same e h) (DtAll.same e hd)
end
theorem DtAll.get {K : PySem.W.Frag} : ∀ {vs : List V} {ds : List PyData} {i : Nat} {v : V}, DtAll K H vs ds → vs[i]? = some v → ∃ d, ds[i]? = some d ∧ Dt K H v d
  | _, _, _, _, .nil, e => by simp at e
  | _, _, 0, _, .cons h _, e => by simp at e; subst e; exact ⟨_, rfl, h⟩
  | _, _, i + 1, v, .cons _ t, e => by
    obtain ⟨d, h1, h2⟩ := DtAll.get (i := i) (v := v) t (by simpa using e)
    exact ⟨d, by simpa using h1, h2⟩
theorem DtAll.length {K : PySem.W.Frag} : ∀ {vs : List V} {ds : List PyData}, DtAll K H vs ds → vs.length = ds.length
  | _, _, .nil => rfl
  | _, _, .cons _ t => by rw [List.length_cons, List.length_cons, DtAll.length t]
/-- == of data -/
theorem op_eqD (hu : X.A.units + 64 < cLine) : OpR X (compareOp .Eq) (fun x y H Q => ∃ dx dy, Dt X.K H x dx ∧ Dt X.K H y dy ∧ dx.canLay0 = true ∧ dy.canLay0 = true ∧ dx.depth ≤ 64 ∧ Q (.bl (PyData.eqv dx dy)) H) := by
  intro pins s σ H x y v u Q I rx ry h
  obtain ⟨dx, dy, hx, hy, lx, ly, hd, q⟩ := h
  obtain ⟨as, ra⟩ := Dt.reads I hx rx lx
  obtain ⟨bs, rb⟩ := Dt.reads I hy ry ly
  exact SeqAt.compareEq_reads ra rb lx ly (by have := Nat.min_le_left dx.depth dy.depth; omega) ⟨.bl _, H, I, rfl, q⟩
theorem op_neD (hu : X.A.units + 64 < cLine) : OpR X (compareOp .NotEq) (fun x y H Q => ∃ dx dy, Dt X.K H x dx ∧ Dt X.K H y dy ∧ dx.canLay0 = true ∧ dy.canLay0 = true ∧ dx.depth ≤ 64 ∧ Q (.bl (!PyData.eqv dx dy)) H) := by
  intro pins s σ H x y v u Q I rx ry h
  obtain ⟨dx, dy, hx, hy, lx, ly, hd, q⟩ := h
  obtain ⟨as, ra⟩ := Dt.reads I hx rx lx
  obtain ⟨bs, rb⟩ := Dt.reads I hy ry ly
  exact SeqAt.compareNe_reads ra rb lx ly (by have := Nat.min_le_left dx.depth dy.depth; omega) ⟨.bl _, H, I, rfl, q⟩
end

/-! ### the signs of a text, walked -/
def Its (x : Str) : It := ⟨fun i _ => i < x.cps.size, fun i H v H' => H' = H ∧ ∃ c, x.cps[i]? = some c ∧ v = .str ⟨#[c]⟩, fun i _ => x.cps.size ≤ i⟩
theorem turn_str {P : Program} {w : World} {K : PySem.W.Frag} {tg : Expr} (it : Addr) (x : Str) (t : Tok) : ∀ ty : String, (ty = "str_ascii_iterator" ∨ ty = "str_iterator") → Turn P w K tg (Its x) [it] it (fun i h => h.IsStrIter it ty x t i) := by
  intro ty hty
  refine ⟨by simp, ?_, ?_, ?_, ?_, ?_⟩
  · intro i h st b hb
    have e : b = it := by simpa using hb
    subst e
    obtain ⟨o, e, c, d⟩ := st
    exact ⟨o, e, fun v z => by rw [d] at z; cases z⟩
  · intro i h h' st k
    obtain ⟨o, e, c, d⟩ := st
    exact ⟨o, k it (by simp) o e, c, d⟩
  · intro X hP hw hK hc i pins s σ H E I hf st hg
    subst hP hw hK
    obtain ⟨f0, f1, f2, f3, f4, f5⟩ := hf it (by simp)
    have hi : i < x.cps.size := hg
    have hx : x.cps[i]? = some x.cps[i] := by simp [hi]
    have fin : ∀ h', h'.IsStrIter it ty x t (i + 1) → Heap.SameBut it s.heap h' → ∃ u, some (Value.str ⟨#[x.cps[i]]⟩ s.toks) = some u ∧
        wpAny (model X.prog X.w) X.A (letOwnedTupleGo tg (.ref it) u) (fun _ s2 => ∃ y H', Inv X pins σ H' s2 ∧ RelV y u ∧ (Its x).yld i H y H' ∧ s2.heap.IsStrIter it ty x t (i + 1) ∧ ∀ b ∈ [it], H' b = none) E { s with heap := h', toks := s.toks + 1 } := by
      intro h' st' sb
      have I1 : Inv X pins σ H { s with heap := h', toks := s.toks + 1 } := I.turned (fun b o hb e => (sb.2 b hb).trans e) f0 f1 f3 f4 f5
      obtain ⟨o, e, c, d⟩ := id st'
      refine ⟨_, rfl, go_of (s := { s with heap := h', toks := s.toks + 1 }) e c d ?_ ⟨.str ⟨#[x.cps[i]]⟩, H, I1, ⟨_, rfl⟩, ⟨rfl, _, hx, rfl⟩, st', fun b hb => (hf b hb).1⟩⟩
      rcases hty with rfl | rfl <;> decide
    rcases hty with rfl | rfl
    · exact wpAny_pyNext_ascii_item st hx fin
    · exact wpAny_pyNext_wide_item st hx fin
  · intro X hP hw hK hc i pins s σ H E I hf st hg
    subst hP hw hK
    obtain ⟨f0, f1, f2, f3, f4, f5⟩ := hf it (by simp)
    have hi : x.cps.size ≤ i := hg
    have hx : x.cps[i]? = none := by simp [hi]
    have fin : ∀ h', Heap.ExtBut it s.heap h' → (none : Option Value) = none ∧ Inv X pins σ H { s with heap := h' } := fun h' eb => ⟨rfl, I.turned (t' := s.toks) (fun b o hb e => eb b o hb e) f0 f1 f3 f4 f5⟩
    rcases hty with rfl | rfl
    · exact wpAny_pyNext_ascii_end (I.ok.hd hc) st hx fin
    · exact wpAny_pyNext_wide_end (I.ok.hd hc) st hx fin
  · intro A i s Q E st h
    rcases hty with rfl | rfl
    · exact wpAny_pyIter_striter_ascii st h
    · exact wpAny_pyIter_striter_wide st h
section
variable {X : Cx} {tg : Expr}
def iStr (tl : TE) : TI := fun σ H R => tl σ H fun v H1 => ∃ x, v = .str x ∧ R (Its x) H1
theorem pi_str {l : Expr} {tl : TE} (hl : PE X l tl) : PI X tg l (iStr tl) := by
  intro pins s σ H R I h
  refine thn (hl pins s σ H _ I h) fun v s1 ⟨y, H1, I1, r1, q1⟩ => ?_
  obtain ⟨x, e, q⟩ := q1
  subst e
  obtain ⟨t, rfl⟩ := r1
  have fin : ∀ ty : String, (ty = "str_ascii_iterator" ∨ ty = "str_iterator") → PIE X pins σ tg R (.ref s1.heap.objs.size) { s1 with heap := s1.heap.push { cls := .type ty, data := .fields #[.str x t, .int 0 0] } } := fun ty hty => by
    refine ⟨s1.heap.objs.size, [s1.heap.objs.size], _, _, H1, rfl, I1.kept (t' := s1.toks) fun b o e => Heap.get?_push_of_some _ e, turn_str _ x t ty hty, ⟨_, Heap.get?_push_size _ rfl, rfl, rfl⟩, fun b hb => ?_, q⟩
    have e : b = s1.heap.objs.size := by simpa using hb
    subst e
    exact I1.fpOk (Nat.le_refl _) (I1.hok.fresh (Nat.le_refl _))
  cases ha : x.cps.all (· < 128)
  · exact wpAny_pyIter_wide ha (fin _ (.inr rfl))
  · exact wpAny_pyIter_ascii ha (fin _ (.inl rfl))
end
end L2

namespace L2
open PySem PySem.Spec PyProof.Rows

/-! ### a list's comprehension -/
section
variable {prog : Program} {w : World} {A : Around} {R : Result → Shared → Prop} {s : Shared}
theorem compLoop_own {elt target iter : Expr} {ifs : List Expr} {scope : Scope} {pos : Pos} {it acc : Value} {env : Env} (I : Nat → Shared → Prop)
    (turn : ∀ n s, I n s → wpAny (model prog w) A (pyNext it) (fun r s₁ => match r with
      | none => R (.ok .next) s₁
      | some v => wpAny (model prog w) A (letOwnedTupleGo target it v) (fun _ s₁' => wpAny (model prog w) A (assign target env v) (fun _ s₂ =>
          wpAny (model prog w) A (forIn ifs true fun c r => if r = true then do let ok ← isTrue c env (eval c env); pure (ForInStep.yield ok) else pure (ForInStep.yield r)) (fun ok s₃ =>
            if ok = true then wpAny (model prog w) A (eval elt env) (fun x s₄ =>
              wpAny (model prog w) A (call (.builtin "list.append") [acc, x]) (fun _ s₅ => ∃ m, m < n ∧ I m s₅) (fun _ _ => False) s₄) (fun _ _ => False) s₃
            else ∃ m, m < n ∧ I m s₃) (fun _ _ => False) s₂) (fun _ _ => False) s₁') (fun _ _ => False) s₁) (fun _ _ => False) s)
    (n : Nat) (h : I n s) :
    codeAny (model prog w) A (.compLoop (.ListComp elt [⟨target, iter, ifs, 0⟩] scope pos) 0 it acc env) R s := by
  refine codeAny_loop rfl I (fun n s hI => ?_) n h
  show wpAny _ A ((compTurn (.ListComp elt [⟨target, iter, ifs, 0⟩] scope pos) 0 it acc env).onRaise (fun x => do noteFrame x env; theTreesLotGoes x)) _ _ s
  refine wpAny_noted ?_
  rw [compTurn_list]
  refine wpAny_bind (wpAny_standAt (wpAny_bind (wpAny_mono (turn n s hI) (fun r s₁ h₁ => ?_) fun _ _ h' => h'.elim)))
  cases r with
  | none => exact wpAny_pure h₁
  | some v =>
    refine wpAny_bind (wpAny_mono h₁ (fun _ s₁' h₁' => ?_) fun _ _ h' => h'.elim)
    refine wpAny_bind (wpAny_mono h₁' (fun _ s₂ h₂ => wpAny_bind (wpAny_mono h₂ (fun ok s₃ h₃ => ?_) fun _ _ h' => h'.elim)) fun _ _ h' => h'.elim)
    cases ok with
    | false => exact wpAny_pure ⟨rfl, h₃⟩
    | true =>
      exact wpAny_bind (wpAny_bind (wpAny_mono h₃ (fun x s₄ h₄ => wpAny_bind (wpAny_mono h₄ (fun _ s₅ h₅ => wpAny_pure (wpAny_pure ⟨rfl, h₅⟩)) fun _ _ h' => h'.elim)) fun _ _ h' => h'.elim))
end

/-- the context of a comprehension's block -/
def cxComp (X : Cx) (scope : Scope) (cl : List (Str × Addr)) (C : Addr) (N' : List Str) (fp : List Addr) (pins : List (Addr × Obj)) (s : Shared) (H : Hp) : Cx where
  prog := X.prog
  w := X.w
  K := X.K
  mg := X.mg
  base := X.base
  A := X.A
  N := N'
  s₀ := s
  H₀ := H
  env := compEnvC scope cl C X.env
  outer := X.stack
  stack := X.stack
  ex := fp
  calm := X.calm
  fn := fun _ => false
  pn := X.pn ++ pins
  xe := fun _ _ => False
/-- the cells that the block sees -/
structure Caps (X : Cx) (scope : Scope) (cl : List (Str × Addr)) (cp : List (Nat × Str)) : Prop where
  kind : scope.kind = .function
  nocell : ∀ y ∈ scope.names, y.2 ≠ .cell
  names : ∀ y ∈ scope.names, y.2 = .local → scope.names.lookup y.1 = some .local
  clos : closureFor scope X.env = pure cl
  sub : ∀ x c, cl.lookup x = some c → X.env.cells.lookup x = some c
  has : ∀ x, ((relabel scope X.env).names.lookup x = some .cell ∨ (relabel scope X.env).names.lookup x = some .free) → ∃ c, cl.lookup x = some c
  at' : ∀ p ∈ cp, X.N[p.1]? = some p.2 ∧ (X.env.scope.names.lookup p.2 = some .cell ∨ X.env.scope.names.lookup p.2 = some .free) ∧ ((relabel scope X.env).names.lookup p.2 = some .cell ∨ (relabel scope X.env).names.lookup p.2 = some .free)
def capσ (cp : List (Nat × Str)) (σ : St) : St := cp.map fun p => (σ[p.1]?).getD none
section
variable {X : Cx} {pins : List (Addr × Obj)} {σ : St} {H : Hp} {s : Shared} {scope : Scope} {cl : List (Str × Addr)} {cp : List (Nat × Str)} {fp : List Addr} {x : Str}
theorem inv_comp (I : Inv X pins σ H s) (c : Caps X scope cl cp) (hf : ∀ b ∈ fp, FpOk X pins H b) (hfo : ∀ b ∈ fp, b < s.heap.objs.size) {h' : Heap} {ty : String} {tk : Nat} {m : Str → Option Value} (hm : h'.Ns s.heap.objs.size m)
    (sb : Heap.SameBut s.heap.objs.size (s.heap.push { cls := .type ty, data := .dict #[] }) h') :
    Inv (cxComp X scope cl s.heap.objs.size (x :: cp.map (·.2)) fp pins s H) [] (none :: capσ cp σ) H { s with heap := h', toks := tk } := by
  have old : ∀ b o, s.heap.get? b = some o → h'.get? b = some o := fun b o e => (sb.2 b (Nat.ne_of_lt (Heap.lt_size e))).trans (Heap.get?_push_of_some _ e)
  have hC : H s.heap.objs.size = none := I.hok.fresh (Nat.le_refl _)
  refine ⟨⟨I.ok.mod, c.kind, I.ok.glob, I.ok.blt, Nat.le_refl _, fun y z k h1 h2 => I.ok.inj y z k (c.sub _ _ h1) (c.sub _ _ h2), c.has, fun y k z => (Bool.noConfusion z), I.ok.hd, I.ok.frames, .inl rfl, fun b hb => ?_, fun b o e => I.bs b o e, Nat.le_trans I.ok.bsz I.sz, fun b o e hb => ?_, fun b hb hz => ?_, I.stack, I.stkFree⟩,
    rfl, I.bare, Un.kept old, ⟨m, hm, fun i y v h1 h2 h3 => ?_⟩, fun y k e => ?_, hC, fun y k e => I.freeC y k (c.sub y k e), fun p hp => ?_, I.hok.kept old, ?_⟩
  · obtain ⟨f0, f1, f2, f3, f4, f5⟩ := hf b hb
    exact ⟨Nat.ne_of_lt (hfo b hb), fun y k e => f4 y k (c.sub y k e)⟩
  · obtain ⟨f0, f1, f2, f3, f4, f5⟩ := hf b hb
    rcases f3 with z | z
    · exact I.ok.noex b o e z
    · exact absurd (Nat.lt_of_lt_of_le (Heap.lt_size (I.ok.bs b o e).1) z) (Nat.lt_irrefl _)
  · obtain ⟨f0, f1, f2, f3, f4, f5⟩ := hf b hb
    rcases List.mem_cons.mp (I.stkSub b hz) with e | e
    · exact f1 e
    · exact f2 e
  · cases i with
    | zero => simp at h2
    | succ i =>
      have h1' : (cp.map (·.2))[i]? = some y := by
        have z : (x :: cp.map (·.2))[i + 1]? = some y := h1
        rw [List.getElem?_cons_succ] at z
        exact z
      have h2' : (capσ cp σ)[i]? = some (some v) := by simpa using h2
      unfold capσ at h2'
      rw [List.getElem?_map] at h1' h2'
      cases e : cp[i]? with
      | none => rw [e] at h1'; cases h1'
      | some p =>
        rw [e] at h1' h2'
        simp only [Option.map_some, Option.some.injEq] at h1' h2'
        obtain ⟨k1, k2, k3⟩ := c.at' p (List.mem_of_getElem? e)
        subst h1'
        have h2'' : σ[p.1]? = some (some v) := by
          cases q : σ[p.1]? with
          | none => rw [q] at h2'; cases h2'
          | some z => rw [q] at h2'; simpa using h2'
        obtain ⟨m0, hn0, hl0⟩ := I.loc
        obtain ⟨u, r, l⟩ := hl0 p.1 p.2 v k1 h2'' (k2.elim (fun z => .inr (.inl z)) fun z => .inr (.inr z))
        refine ⟨u, r, .inr ⟨k3, ?_⟩⟩
        rcases l with ⟨z, _⟩ | ⟨_, cc, e1, e2⟩
        · have z' : X.env.scope.names.lookup p.2 = some .local := z
          rcases k2 with k | k <;> (rw [z'] at k; cases k)
        · obtain ⟨cc', e3⟩ := c.has p.2 k3
          have e4 := c.sub _ _ e3
          rw [e1] at e4
          cases e4
          obtain ⟨o, ho, hd⟩ := e2
          exact ⟨cc, e3, o, old _ _ ho, hd⟩
  · obtain ⟨v, o, ho, hd⟩ := I.cell y k (c.sub y k e)
    exact ⟨v, o, old _ _ ho, hd⟩
  · have hp' : p ∈ X.pn ++ pins := by
      rcases List.mem_append.mp hp with z | z
      · exact z
      · cases z
    obtain ⟨e, n, ne, nf, d⟩ := I.pin p hp'
    refine ⟨old _ _ e, n, Nat.ne_of_lt (Heap.lt_size e), fun hz => ?_, d⟩
    rcases List.mem_cons.mp (I.stkSub p.1 hz) with q | q
    · exact ne q
    · exact nf q
  · show (none :: capσ cp σ).length = (x :: cp.map (·.2)).length
    simp [capσ]
/-- behind the block -/
theorem Inv.uncomp {C : Addr} {N' : List Str} {σ' : St} {H' : Hp} {s' : Shared} {h'' : Heap} (I : Inv X pins σ H s) (hC : C = s.heap.objs.size) (hf : ∀ b ∈ fp, FpOk X pins H b) (J : Inv (cxComp X scope cl C N' fp pins s H) [] σ' H' s') (sb : Heap.SameBut C s'.heap h'') :
    Inv X pins σ H' { s' with heap := h'' } := by
  have ne : ∀ b o, s.heap.get? b = some o → b ≠ C := fun b o e => by rw [hC]; exact Nat.ne_of_lt (Heap.lt_size e)
  have B : Un (frs X.stack) fp H H' s.heap s'.heap := J.base
  refine I.call' (s' := { s' with heap := h'' }) (ch := fp) (show s'.os = s.os from J.os) ⟨fun b o e n hb hx => ?_, fun b o e n hb hx => ?_, B.free, fun b o e hx => ?_, B.tups, B.frzs, B.tbls⟩ (fun b ob e => ?_) J.bare fun b hb => ?_
  · exact (sb.2 b (ne b o e)).trans (B.keep b o e n hb hx)
  · obtain ⟨sl, q⟩ := B.slot b o e n hb hx
    exact ⟨sl, (sb.2 b (ne b o e)).trans q⟩
  · obtain ⟨o', q⟩ := B.there b o e hx
    exact ⟨o', (sb.2 b (ne b o e)).trans q⟩
  · have hfree : H' C = none := J.free
    refine (J.hok b ob e).stay (fun k w' hk q => (sb.2 k ?_).trans q) (fun _ q => q) fun _ _ q => q
    rintro rfl
    rcases hk with rfl | hk
    · rw [hfree] at e; cases e
    · rw [hfree] at hk; cases hk
  · obtain ⟨f0, f1, f2, f3, f4, f5⟩ := hf b hb
    exact ⟨f3, f1, f4, f5⟩
end

/-- the tests behind the for -/
def PTs (X : Cx) (ifs : List Expr) (t : TT) : Prop :=
  ∀ (pins : List (Addr × Obj)) (s : Shared) (σ : St) (H : Hp) (Q : Bool → Hp → Prop), Inv X pins σ H s → t σ H Q →
    wpAny (model X.prog X.w) X.A (forIn ifs true fun c r => if r = true then do let ok ← isTrue c X.env (eval c X.env); pure (ForInStep.yield ok) else pure (ForInStep.yield r)) (TP X pins σ Q) X.xe s
def tYes : TT := fun _ H Q => Q true H
theorem pts_nil {X : Cx} : PTs X [] tYes := fun _ _ _ H _ I h => wpAny_tests_nil ⟨H, I, h⟩
theorem pts_one {X : Cx} {c : Expr} {t : TT} (h : PT X c t) : PTs X [c] t := fun pins s σ H Q I q => wpAny_tests_one (h pins s σ H Q I q)
/-- the loop of a comprehension: W by the turn and a measure; the list grows at D -/
def tLoop (cp : List (Nat × Str)) (tt : TT) (te : TE) (σ : St) (J : It) (D : Addr) (Q : VK) (H1 : Hp) : Prop :=
  ∃ W : Nat → Nat → Hp → Prop, (∃ m, W 0 m (upd H1 D (.lst []))) ∧ ∀ i m H2, W i m H2 → (J.stop i H2 ∧ Q (.ref D) H2) ∨
    (J.go i H2 ∧ ∃ (N : VK) (N' : Hp → Prop), (∀ y H5, N y H5 → ∃ ys m', H5 D = some (.lst ys) ∧ ys.length < sizeLine ∧ m' < m ∧ W (i + 1) m' (upd H5 D (.lst (ys ++ [y])))) ∧ (∀ H4, N' H4 → ∃ m', m' < m ∧ W (i + 1) m' H4) ∧
      ∀ v H3, J.yld i H2 v H3 → tt (some v :: capσ cp σ) H3 fun b H4 => if b = true then te (some v :: capσ cp σ) H4 N else N' H4)
def tComp (cp : List (Nat × Str)) (wi : TI) (tt : TT) (te : TE) : TE := fun σ H Q => wi σ H fun J H1 => ∀ D, H1 D = none → tLoop cp tt te σ J D Q H1
section
variable {X : Cx} {scope : Scope} {cl : List (Str × Addr)} {cp : List (Nat × Str)} {x : Str} {px pos : Pos} {elt iter : Expr} {ifs : List Expr} {wi : TI} {tt : TT} {te : TE}
theorem comp_core {pins : List (Addr × Obj)} {σ : St} {H2 : Hp} {s2 : Shared} {it : Addr} {fp : List Addr} {tn : Nat → Heap → Prop} {J : It} {Q : VK} {R : Addr → Result → Shared → Prop} {E : Value → Shared → Prop} (c : Caps X scope cl cp) (hcalm : X.calm = true) (hx : scope.names.lookup x = some .local) (hnd : (x :: cp.map (·.2)).Nodup)
    (ht : ∀ C fp pins s H, PTs (cxComp X scope cl C (x :: cp.map (·.2)) fp pins s H) ifs tt) (he : ∀ C fp pins s H, PE (cxComp X scope cl C (x :: cp.map (·.2)) fp pins s H) elt te)
    (I2 : Inv X pins σ H2 s2) (T : Turn X.prog X.w X.K (.Name x px) J fp it tn) (st2 : tn 0 s2.heap) (f2 : ∀ b ∈ fp, FpOk X pins H2 b) (q : tLoop cp tt te σ J s2.heap.objs.size Q H2)
    (hR : ∀ (C : Addr) (H' : Hp) (s' : Shared), (∃ m, s'.heap.Ns C m) → X.s₀.heap.objs.size ≤ C → H' C = none → C ≠ X.env.locals → (∀ x c, X.env.cells.lookup x = some c → c ≠ C) → (∀ p ∈ X.pn ++ pins, p.1 ≠ C) → (∀ h'', Heap.SameBut C s'.heap h'' → Inv X pins σ H' { s' with heap := h'' }) → Q (.ref s2.heap.objs.size) H' → R C (.ok .next) s') :
    wpAny (model X.prog X.w) X.A (newList []) (fun acc s₃ => wpAny (model X.prog X.w) X.A (newFunctionEnv scope X.env.globals cl [] X.env.qual none .none (some X.env)) (fun cenv s₄ =>
      acc = .ref s2.heap.objs.size ∧ codeAny (model X.prog X.w) X.A (.compStart (.ListComp elt [⟨.Name x px, iter, ifs, 0⟩] scope pos) 0 (.ref it) acc { cenv with scope := relabel scope X.env }) (R cenv.locals) s₄) E s₃) E s2 := by
  obtain ⟨W, ⟨m0, w0⟩, turn⟩ := q
  refine wpAny_newObj_type ?_
  have I3 : Inv X pins σ (upd H2 s2.heap.objs.size (.lst [])) { s2 with heap := s2.heap.push { cls := .type "list", dict := none, data := .seq ([] : List Value).toArray } } :=
    I2.lnew (t' := s2.toks) (ys := []) (its := []) .nil (Nat.zero_le _)
  have fpo : ∀ b ∈ fp, b < s2.heap.objs.size := fun b hb => by
    obtain ⟨o, e, _⟩ := T.obj _ _ st2 b hb
    exact Heap.lt_size e
  have f3 : ∀ b ∈ fp, FpOk X pins (upd H2 s2.heap.objs.size (.lst [])) b := fun b hb => ⟨by rw [upd_ne (Nat.ne_of_lt (fpo b hb))]; exact (f2 b hb).1, (f2 b hb).2⟩
  generalize hs3 : ({ s2 with heap := s2.heap.push { cls := .type "list", dict := none, data := .seq ([] : List Value).toArray } } : Shared) = s3 at I3
  have e3 : s3.heap = s2.heap.push { cls := .type "list", dict := none, data := .seq ([] : List Value).toArray } := by rw [← hs3]
  have sz3 : s2.heap.objs.size < s3.heap.objs.size := by rw [e3, Heap.size_push]; exact Nat.lt_succ_self _
  refine wpAny_newFunctionEnv c.nocell (by intro y hy; cases hy) (fun h₁ hns sb => ?_) c.kind
  have J3 := inv_comp (x := x) (tk := s3.toks + ([] : List (Str × Value)).length) I3 c f3 (fun b hb => Nat.lt_trans (fpo b hb) sz3) hns sb
  refine ⟨rfl, ?_⟩
  have st3 : tn 0 h₁ := T.keep _ _ _ st2 fun b hb o e => (sb.2 b (Nat.ne_of_lt (Nat.lt_trans (fpo b hb) sz3))).trans (Heap.get?_push_of_some _ (by rw [e3]; exact Heap.get?_push_of_some _ e))
  generalize hX : cxComp X scope cl s3.heap.objs.size (x :: cp.map (·.2)) fp pins s3 (upd H2 s2.heap.objs.size (.lst [])) = X' at J3
  have eA : X'.A = X.A := by rw [← hX]; rfl
  have eP : X'.prog = X.prog := by rw [← hX]; rfl
  have ew : X'.w = X.w := by rw [← hX]; rfl
  have eK : X'.K = X.K := by rw [← hX]; rfl
  have ec : X'.calm = true := by rw [← hX]; exact hcalm
  have ee : X'.env = compEnvC scope cl s3.heap.objs.size X.env := by rw [← hX]; rfl
  have ex : X'.xe = fun _ _ => False := by rw [← hX]; rfl
  have fpX : ∀ {H' : Hp}, (∀ b ∈ fp, H' b = none) → ∀ b ∈ fp, FpOk X' [] H' b := fun hn b hb => by
    obtain ⟨f0, f1, f2', f3', f4, f5⟩ := f3 b hb
    subst hX
    refine ⟨hn b hb, Nat.ne_of_lt (Nat.lt_trans (fpo b hb) sz3), fun hz => ?_, .inl hb, fun y k e => f4 y k (c.sub y k e), fun p hp => ?_⟩
    · rcases List.mem_cons.mp (I3.stkSub b hz) with e | e
      · exact f1 e
      · exact f2' e
    · rcases List.mem_append.mp hp with z | z
      · exact f5 p z
      · cases z
  have pT := ht s3.heap.objs.size fp pins s3 (upd H2 s2.heap.objs.size (.lst []))
  have pE := he s3.heap.objs.size fp pins s3 (upd H2 s2.heap.objs.size (.lst []))
  have pG : PG X' (.Name x px) (gName 0) := by
    subst hX
    exact pg_name hnd rfl (.inl (lookup_relabel_local hx)) (.inr (lookup_relabel_local hx))
  rw [hX] at pT pE
  have loop : codeAny (model X.prog X.w) X.A (.compLoop (.ListComp elt [⟨.Name x px, iter, ifs, 0⟩] scope pos) 0 (.ref it) (.ref s2.heap.objs.size) (compEnvC scope cl s3.heap.objs.size X.env)) (R s3.heap.objs.size) { s3 with heap := h₁, toks := s3.toks + ([] : List (Str × Value)).length } := by
    refine compLoop_own (fun n s' => ∃ i o H', Inv X' [] (o :: capσ cp σ) H' s' ∧ tn i s'.heap ∧ (∀ b ∈ fp, H' b = none) ∧ W i n H') ?_ m0 ⟨0, none, _, J3, st3, fun b hb => (f3 b hb).1, w0⟩
    rintro n s5 ⟨i, o, H5, J5, st5, fr5, w5⟩
    rcases turn i n H5 w5 with ⟨stop, qn⟩ | ⟨go, N, N', hN, hN', step⟩
    · have z := T.done X' eP ew eK ec i [] s5 _ H5 (fun _ _ => False) J5 (fpX fr5) st5 stop
      rw [eA] at z
      refine thn z fun r s6 ⟨hr, J6⟩ => ?_
      subst hr
      subst hX
      obtain ⟨m6, hn6, _⟩ := J6.loc
      refine hR s3.heap.objs.size H5 s6 ⟨m6, hn6⟩ I3.sz J6.free (Nat.ne_of_gt I3.lt) (fun y k e z => ?_) (fun p hp z => ?_) (fun h'' sb' => I3.uncomp rfl f3 J6 sb') qn
      · obtain ⟨v, w'⟩ := I3.cell y k e
        exact absurd w'.lt (by rw [z]; exact Nat.lt_irrefl _)
      · exact absurd (Heap.lt_size (I3.pin p hp).1) (by rw [z]; exact Nat.lt_irrefl _)
    · have z := T.item X' eP ew eK ec i [] s5 _ H5 (fun _ _ => False) J5 (fpX fr5) st5 go
      rw [eA] at z
      refine thn z fun r s6 ⟨u, hr, h6⟩ => ?_
      subst hr
      refine thn h6 fun _ s7 ⟨v, H7, J7, r7, y7, st7, fr7⟩ => ?_
      have J7' := J7.pinned (fpX fr7) (T.obj _ _ st7)
      have z8 := pG _ s7 _ H7 v u (fun σ' H' => σ' = some v :: capσ cp σ ∧ H' = H7) J7' r7 ⟨rfl, rfl⟩
      rw [eA, eP, ew, ee, ex] at z8
      refine thn z8 fun _ s8 ⟨σ8, H8, J8, e8, e8'⟩ => ?_
      subst e8 e8'
      have z9 := pT _ s8 _ H8 _ J8 (step v H8 y7)
      rw [eA, eP, ew, ee, ex] at z9
      refine thn z9 fun ok s9 ⟨H9, J9, q9⟩ => ?_
      have fin : ∀ {H' : Hp} {s' : Shared}, Inv X' ([] ++ pinsAt fp s7.heap) (some v :: capσ cp σ) H' s' → (∃ m', m' < n ∧ W (i + 1) m' H') → ∃ m, m < n ∧ ∃ i o H', Inv X' [] (o :: capσ cp σ) H' s' ∧ tn i s'.heap ∧ (∀ b ∈ fp, H' b = none) ∧ W i m H' := fun {H' s'} K' ⟨m', hm, w'⟩ => by
        refine ⟨m', hm, i + 1, some v, H', K'.unpinned, T.keep _ _ _ st7 fun b hb ob e => (K'.pin (b, ob) (List.mem_append_right _ (List.mem_append_right _ (mem_pinsAt hb e)))).1, fun b hb => ?_, w'⟩
        obtain ⟨ob, e, d⟩ := T.obj _ _ st7 b hb
        exact (K'.pin (b, ob) (List.mem_append_right _ (List.mem_append_right _ (mem_pinsAt hb e)))).2.1
      cases ok with
      | false =>
        rw [if_neg Bool.false_ne_true] at q9 ⊢
        exact fin J9 (hN' _ q9)
      | true =>
        rw [if_pos rfl] at q9 ⊢
        have z10 := pE _ s9 _ H9 _ J9 q9
        rw [eA, eP, ew, ee, ex] at z10
        refine thn z10 fun u10 s10 ⟨y, H10, J10, r10, n10⟩ => ?_
        obtain ⟨ys, m', hD, hz, hm, w'⟩ := hN y H10 n10
        have z11 := mt_append (X := X') _ s10 _ H10 (.ref s2.heap.objs.size) [y] (.ref s2.heap.objs.size) [u10] (fun _ H' => H' = upd H10 s2.heap.objs.size (.lst (ys ++ [y]))) J10 rfl (.cons r10 .nil) ⟨_, ys, y, rfl, rfl, hD, hz, rfl⟩
        rw [eA, eP, ew, ex] at z11
        refine thn z11 fun u11 s11 ⟨y', H11, J11, r11, e11⟩ => ?_
        subst e11
        exact fin J11 ⟨m', hm, w'⟩
  exact codeAny_compStart_list loop (T.self _ 0 _ _ _ st3 loop)
theorem pe_comp (c : Caps X scope cl cp) (hcalm : X.calm = true) (hx : scope.names.lookup x = some .local) (hnd : (x :: cp.map (·.2)).Nodup) (hi : PI X (.Name x px) iter wi)
    (ht : ∀ C fp pins s H, PTs (cxComp X scope cl C (x :: cp.map (·.2)) fp pins s H) ifs tt) (he : ∀ C fp pins s H, PE (cxComp X scope cl C (x :: cp.map (·.2)) fp pins s H) elt te)
    (hs : ∀ v, foldedSetIterable iter X.env v = pure v := by intro _; rfl) : PE X (.ListComp elt [⟨.Name x px, iter, ifs, 0⟩] scope pos) (tComp cp wi tt te) := by
  intro pins s σ H Q I h
  rw [eval_ListComp]
  refine wpAny_comprehension_free (use := none) (g := ⟨.Name x px, iter, ifs, 0⟩) (gs := []) (cl := cl) rfl hs c.clos c.kind c.names ?_
  refine thn (hi pins s σ H _ I h) fun v s1 h1 => thn h1 fun itv s2 h2 => ?_
  obtain ⟨it, fp, tn, J, H2, e, I2, T, st2, f2, q⟩ := h2
  subst e
  refine thn (comp_core (iter := iter) (pos := pos) (R := fun C => compPost (model X.prog X.w) X.A X.xe none (EP X pins σ Q) (.ref s2.heap.objs.size) C) c hcalm hx hnd ht he I2 T st2 f2 (q _ (I2.hok.fresh (Nat.le_refl _))) ?_) fun acc s3 h3 => thn h3 fun cenv s4 h4 => ?_
  · rintro C H' s' ⟨m, hn⟩ _ _ _ _ _ hI hq
    exact ⟨m, hn, fun h'' sb => ⟨.ref s2.heap.objs.size, H', hI h'' sb, rfl, hq⟩⟩
  · obtain ⟨e, h4⟩ := h4
    subst e
    exact h4
end
end L2

namespace L2
open PySem PySem.Spec PyProof.Rows

section
variable {X : Cx} {scope : Scope} {cl : List (Str × Addr)} {cp : List (Nat × Str)} {x : Str} {px pos : Pos} {elt iter : Expr} {ifs : List Expr} {wi : TI} {tt : TT} {te : TE}
/-- y = [.. for ..]: the store comes ahead of the letting go -/
theorem ps_setComp {i : Nat} {y : Str} {py : Pos} {pos' : Pos} (hN : X.N.Nodup) (hi' : X.N[i]? = some y) (hy : X.env.scope.names.lookup y = some .local) (c : Caps X scope cl cp) (hcalm : X.calm = true) (hx : scope.names.lookup x = some .local) (hnd : (x :: cp.map (·.2)).Nodup) (hi : PI X (.Name x px) iter wi)
    (ht : ∀ C fp pins s H, PTs (cxComp X scope cl C (x :: cp.map (·.2)) fp pins s H) ifs tt) (he : ∀ C fp pins s H, PE (cxComp X scope cl C (x :: cp.map (·.2)) fp pins s H) elt te)
    (hsw : swapsWith (.ListComp elt [⟨.Name x px, iter, ifs, 0⟩] scope pos) (some (.Name y py)) pos'.line X.env = pure true)
    (hs : ∀ v, foldedSetIterable iter X.env v = pure v := by intro _; rfl) : PS X (.Assign [.Name y py] (.ListComp elt [⟨.Name x px, iter, ifs, 0⟩] scope pos) pos') (tAsg (tComp cp wi tt te) (gName i)) := by
  intro pins s σ H D I h
  rw [exec_Assign_Name_used _ _ _ _ hsw]
  refine wpAny_bind (wpAny_standAt (wpAny_bind (wpAny_bind ?_)))
  refine wpAny_comprehension_free (use := some (assign (.Name y py) X.env)) (g := ⟨.Name x px, iter, ifs, 0⟩) (gs := []) (cl := cl) rfl hs c.clos c.kind c.names ?_
  refine thn (hi pins s σ H _ I h) fun v s1 h1 => thn h1 fun itv s2 h2 => ?_
  obtain ⟨it, fp, tn, J, H2, e, I2, T, st2, f2, q⟩ := h2
  subst e
  refine thn (comp_core (iter := iter) (pos := pos) (R := fun C => compPost (model X.prog X.w) X.A X.xe (some (assign (.Name y py) X.env)) (fun _ s' => wpAny (model X.prog X.w) X.A (pure ()) (fun _ s' => wpAny (model X.prog X.w) X.A (pure Flow.next) (SP X pins D) X.xe s') X.xe s') (.ref s2.heap.objs.size) C) c hcalm hx hnd ht he I2 T st2 f2 (q _ (I2.hok.fresh (Nat.le_refl _))) ?_) fun acc s3 h3 => thn h3 fun cenv s4 h4 => ?_
  · rintro C H' s' ⟨m, hn⟩ hC0 hCn hCL hCc hCp hI hq
    have I' : Inv X pins σ H' s' := hI s'.heap (Heap.SameBut.refl ..)
    refine wpAny_assign_Name (store_ok2 (v := .ref s2.heap.objs.size) I' hN hi' (.inl hy) rfl (fun s'' I'' hb => ?_) (.inr hy))
    obtain ⟨a, sb, ha⟩ := hb
    have hne : C ≠ a := by
      rcases ha with z | z
      · rw [z]; exact hCL
      · exact fun e => hCc y a z e.symm
    refine ⟨m, hn.sameBut sb hne, fun h'' sb'' => wpAny_pure (wpAny_pure ⟨_, H', ?_, hq⟩)⟩
    exact I''.turned (t' := s''.toks) (fun b o hb e => (sb''.2 b hb).trans e) hCn hCL (.inr hC0) hCc hCp
  · obtain ⟨e, h4⟩ := h4
    subst e
    exact h4
end

/-! ### all, join -/
theorem bools_of : ∀ {bs : List Bool} {us : List Value}, Vals (bs.map V.bl) us → ∀ (i : Nat) (v : Value), us[i]? = some v → ∃ b : Bool, bs[i]? = some b ∧ v = Value.bool b
  | [], _, .nil, i, v, h => by simp at h
  | b :: bs, u :: us, .cons r t, 0, v, h => by
    simp at h
    subst h
    cases r
    exact ⟨b, rfl, rfl⟩
  | b :: bs, u :: us, .cons r t, i + 1, v, h => by
    obtain ⟨b', e1, e2⟩ := bools_of t i v (by simpa using h)
    exact ⟨b', by simpa using e1, e2⟩
theorem strs_of : ∀ {ys : List Str} {us : List Value}, Vals (ys.map V.str) us → StrsAre us ys
  | [], _, .nil => .nil
  | y :: ys, u :: us, .cons r t => by
    obtain ⟨k, rfl⟩ := r
    exact .cons y k (strs_of t)
section
variable {X : Cx}
theorem call_all (hc : X.calm = true) : CallR X (.builtin "all") (fun xs H Q => ∃ (a : Addr) (bs : List Bool), xs = [.ref a] ∧ SqL X.K H a (bs.map V.bl) ∧ Q (.bl (bs.all id)) H) := by
  intro pins s σ H xs us Q I r h
  obtain ⟨a, bs, rfl, hq, q⟩ := h
  obtain ⟨u, rfl, ru⟩ := r.one
  cases ru
  obtain ⟨its, rv, pl, hz⟩ := I.list hq
  have hl : s.heap.IsList a its.toArray := pl.isList
  have hlt : a < s.heap.objs.size := by obtain ⟨_, e, _⟩ := hl; exact Heap.lt_size e
  refine call_all_walk (wpAny_pyIter_list hl ?_)
  refine ⟨s.heap.objs.size, [s.heap.objs.size, a], [s.heap.objs.size], its.toArray.size, _, _, fun i => (bs[i]?).getD true, rfl, Walks.list (A := X.A.in1) (I.ok.hd hc) _ a (Nat.ne_of_lt hlt) its.toArray,
    ⟨⟨_, Heap.get?_push_size _ rfl, rfl, rfl⟩, hl.push _⟩, fun i v s' Q' E' hP hQ => ?_, fun h' tk hk => ?_⟩
  · obtain ⟨b, e, rfl⟩ := bools_of rv i v (by simpa using hP)
    simp only [e, Option.getD_some] at hQ
    exact wpAny_truthy_bool hQ
  · have e : ((List.range its.toArray.size).all fun i => (bs[i]?).getD true) = bs.all id := by
      have := rv.length
      rw [List.length_map] at this
      rw [List.size_toArray, ← this]
      exact PyProof.Rows.LSm.range_all bs
    rw [e]
    refine ⟨.bl _, H, I.kept (t' := tk) fun b o e' => hk b o (fun hm => ?_) (Heap.get?_push_of_some _ e'), rfl, q⟩
    rw [List.mem_singleton.mp hm] at e'
    exact Nat.lt_irrefl _ (Heap.lt_size e')
def rJoin (K : PySem.W.Frag) : V → List V → Hp → VK → Prop := fun x vs H Q => ∃ (z : Str) (a : Addr) (ys : List Str), x = .str z ∧ vs = [.ref a] ∧ SqL K H a (ys.map V.str) ∧ (ys.map (·.length)).sum + ys.length * z.length ≤ 16777216 ∧ Q (.str (Txt.join z ys)) H
theorem mt_join : MtR X "str.join" (rJoin X.K) := by
  intro pins s σ H x vs v us Q I rx rv h
  obtain ⟨z, a, ys, rfl, rfl, hq, hz, q⟩ := h
  obtain ⟨t, rfl⟩ := rx
  obtain ⟨u, rfl, ru⟩ := rv.one
  cases ru
  obtain ⟨its, r, pl, _⟩ := I.list hq
  exact join_list pl.isList (by simpa using strs_of r) hz fun t' k => ⟨.str _, H, I.tok k, ⟨_, rfl⟩, q⟩
end

/-! ### a def that is known: its promise and how it is called -/
structure Known (P : Program) (w : World) (K : PySem.W.Frag) (mg : Str → Option Value) (base : Heap) (CX : CXT) (k : Nat) (x : Str) (ps : List Str) (sp : Sp) : Prop where
  ex : ∃ f fd, FnOk P w K mg base CX k f fd ps sp ∧ mg x = some (.ref f) ∧ PySem.W.keepIn K (.ref f) = true ∧ Binds K fd ps []
section
variable {X : Cx} {CX : CXT} {k : Nat} {ps : List Str} {sp : Sp} {E : XK} {x : Str} {p pos : Pos} {e : Expr} {es : List Expr} {t : TA}
theorem pe_callN (G : Known X.prog X.w X.K X.mg X.base CX k x ps sp) (hr : Room k X.A) (hx : Passes CX X E) (ha : PA X (e :: es) t) (hg : Gl X x := by rfl) (hdb : (x == ("__debug__" : Str)) = false := by decide)
    (he : starEach (e :: es) X.env = (false, eval e X.env) :: starEach es X.env := by rfl) (hpl : (backTo pos (starEach es X.env)).any (·.1) = false := by rfl) : PE X (.Call (.Name x p) (e :: es) [] pos) (tCall sp [] E t) := by
  obtain ⟨f, fd, F, hm, hk, hb⟩ := G.ex
  exact pe_call F hr hg hm hk hb .nil hx ha hdb he hpl
end
/-! ### the forms of a comprehension that one uses: Pv by the turn, the list so far, the heap (in which it stands at D) -/
def Nxt (D : Addr) (Pv : Nat → List V → Hp → Prop) (i : Nat) (ys : List V) : VK := fun y H5 => H5 D = some (.lst ys) ∧ ys.length < sizeLine ∧ Pv (i + 1) (ys ++ [y]) (upd H5 D (.lst (ys ++ [y])))
theorem comp_it {cp : List (Nat × Str)} {te : TE} {σ : St} {J : It} {n : Nat} {D : Addr} {Q : VK} {H1 : Hp} (Pv : Nat → List V → Hp → Prop) (h0 : Pv 0 [] (upd H1 D (.lst []))) 
    (hg : ∀ i ys H, H D = some (.lst ys) → Pv i ys H → (i < n → J.go i H) ∧ (i = n → J.stop i H))
    (hs : ∀ i ys H v H', i < n → H D = some (.lst ys) → Pv i ys H → J.yld i H v H' → te (some v :: capσ cp σ) H' (Nxt D Pv i ys))
    (hd : ∀ ys H, H D = some (.lst ys) → Pv n ys H → Q (.ref D) H) : tLoop cp tYes te σ J D Q H1 := by
  refine ⟨fun i m H => m = n - i ∧ i ≤ n ∧ ∃ ys, H D = some (.lst ys) ∧ Pv i ys H, ⟨n, by simp, Nat.zero_le _, [], upd_same, h0⟩, ?_⟩
  rintro i m H ⟨rfl, hi, ys, hD, p⟩
  by_cases hlt : i < n
  · refine .inr ⟨(hg i ys H hD p).1 hlt, Nxt D Pv i ys, fun _ => False, fun y H5 ⟨h1, h2, h3⟩ => ⟨ys, n - (i + 1), h1, h2, by omega, rfl, hlt, _, upd_same, h3⟩, fun _ z => z.elim, fun v H' y => ?_⟩
    exact hs i ys H v H' hlt hD p y
  · have e : i = n := by omega
    subst e
    exact .inl ⟨(hg i ys H hD p).2 rfl, hd ys H hD p⟩
theorem comp_str {cp : List (Nat × Str)} {te : TE} {σ : St} {x : Str} {D : Addr} {Q : VK} {H1 : Hp} (Pv : Nat → List V → Hp → Prop) (h0 : Pv 0 [] (upd H1 D (.lst [])))
    (hs : ∀ i c ys H, x.cps[i]? = some c → H D = some (.lst ys) → Pv i ys H → te (some (.str ⟨#[c]⟩) :: capσ cp σ) H (Nxt D Pv i ys))
    (hd : ∀ ys H, H D = some (.lst ys) → Pv x.cps.size ys H → Q (.ref D) H) : tLoop cp tYes te σ (Its x) D Q H1 :=
  comp_it (n := x.cps.size) Pv h0 (fun i ys H _ _ => ⟨fun h => h, fun h => by subst h; exact Nat.le_refl _⟩) (fun i ys H v H' hi hD p y => by
    obtain ⟨e, c, hc, rfl⟩ := y
    subst e
    exact hs i c ys _ hc hD p) hd
theorem comp_list {K : PySem.W.Frag} {cp : List (Nat × Str)} {te : TE} {σ : St} {a : Addr} {xs : List V} {D : Addr} {Q : VK} {H1 : Hp} (Pv : Nat → List V → Hp → Prop) (h0 : Pv 0 [] (upd H1 D (.lst [])))
    (hl : ∀ i ys H, H D = some (.lst ys) → Pv i ys H → SqL K H a xs)
    (hs : ∀ i x ys H, xs[i]? = some x → H D = some (.lst ys) → Pv i ys H → te (some x :: capσ cp σ) H (Nxt D Pv i ys))
    (hd : ∀ ys H, H D = some (.lst ys) → Pv xs.length ys H → Q (.ref D) H) : tLoop cp tYes te σ (Itl K a) D Q H1 :=
  comp_it (n := xs.length) Pv h0 (fun i ys H hD p => ⟨fun h => ⟨xs, xs[i], hl i ys H hD p, by simp [h]⟩, fun h => by subst h; exact ⟨xs, hl _ ys H hD p, Nat.le_refl _⟩⟩) (fun i ys H v H' hi hD p y => by
    obtain ⟨e, y⟩ := y
    subst e
    exact hs i v ys _ (y xs (hl i ys _ hD p)) hD p) hd
end L2

namespace L2
open PySem PySem.Spec PyProof.Rows

/-! ### the kinds of plain things, isinstance of them -/
inductive Kd where
  | non | bl | int | str | lst | tup | dct
  deriving DecidableEq
def Kd.nm : Kd → String
  | .non => "NoneType" | .bl => "bool" | .int => "int" | .str => "str" | .lst => "list" | .tup => "tuple" | .dct => "dict"
theorem kit_int (K : PySem.W.Frag) (a : Kd) : PySem.W.kitOne K (.type a.nm) (.type "int") = some (decide (a = .int ∨ a = .bl)) := by cases a <;> kernel_rfl
theorem kit_bool (K : PySem.W.Frag) (a : Kd) : PySem.W.kitOne K (.type a.nm) (.type "bool") = some (decide (a = .bl)) := by cases a <;> kernel_rfl
theorem kit_str (K : PySem.W.Frag) (a : Kd) : PySem.W.kitOne K (.type a.nm) (.type "str") = some (decide (a = .str)) := by cases a <;> kernel_rfl
theorem kit_list (K : PySem.W.Frag) (a : Kd) : PySem.W.kitOne K (.type a.nm) (.type "list") = some (decide (a = .lst)) := by cases a <;> kernel_rfl
theorem kit_tuple (K : PySem.W.Frag) (a : Kd) : PySem.W.kitOne K (.type a.nm) (.type "tuple") = some (decide (a = .tup)) := by cases a <;> kernel_rfl
def kdD : PyData → Kd
  | .none => .non | .bool _ => .bl | .int _ => .int | .str _ => .str | .list _ => .lst | .tuple _ => .tup | .dict _ => .dct
/-- isinstance(x, T), T a built-in type -/
theorem call_isT {X : Cx} : CallR X (.builtin "isinstance") (fun xs H Q => ∃ x T d k, xs = [x, .ty T] ∧ Dt X.K H x d ∧ PySem.W.kitOne X.K (.type (kdD d).nm) (.type T) = some k ∧ Q (.bl k) H) := by
  intro pins s σ H xs us Q I r h
  obtain ⟨x, T, d, k, rfl, hd, e, q⟩ := h
  obtain ⟨u, c, rfl, r1, r2⟩ := r.two
  cases r2
  have fin : ∀ tk, EP X pins σ Q (.bool k) { s with toks := tk } := fun tk => ⟨.bl k, H, I.tok tk, rfl, q⟩
  cases hd with
  | non => cases r1; exact PySem.W.kia_one PySem.W.kitx_none I.kIn True.intro e (fun z => nomatch z) fin
  | bl b => cases r1; exact PySem.W.kia_one PySem.W.kitx_bool I.kIn True.intro e (fun z => nomatch z) fin
  | int i => obtain ⟨t, rfl⟩ := r1; exact PySem.W.kia_one PySem.W.kitx_int I.kIn True.intro e (fun z => nomatch z) fin
  | str z => obtain ⟨t, rfl⟩ := r1; exact PySem.W.kia_one PySem.W.kitx_str I.kIn True.intro e (fun z => nomatch z) fin
  | lst hq _ =>
    cases r1
    obtain ⟨its, _, ⟨o, n, eo, hc, _, _⟩, _⟩ := I.list hq
    exact PySem.W.kia_one PySem.W.kitx_list I.kIn ⟨o, eo, hc⟩ e (fun z => nomatch z) fin
  | tup hq _ =>
    cases r1
    obtain ⟨its, _, ⟨o, eo, hc, _⟩, _⟩ := I.tuple hq
    exact PySem.W.kia_one PySem.W.kitx_tuple I.kIn ⟨o, eo, hc⟩ e (fun z => nomatch z) fin
  | dK ea =>
    cases r1
    obtain ⟨_, _, vs, _, o, es, ep, h1, h2, _⟩ := I.hok _ _ ea
    exact PySem.W.kia_one PySem.W.kitx_dict I.kIn ⟨o, h1, h2.1⟩ e (fun z => nomatch z) fin
  | dT ea =>
    cases r1
    obtain ⟨_, _, zs, _, o, es, ep, h1, h2, _⟩ := I.hok _ _ ea
    exact PySem.W.kia_one PySem.W.kitx_dict I.kIn ⟨o, h1, h2.1⟩ e (fun z => nomatch z) fin

/-! ### no cell is caught -/
theorem caps0 {X : Cx} {scope : Scope} (kind : scope.kind = .function := by rfl) (plain : ∀ y ∈ scope.names, y.2 = .local ∨ y.2 = .globalImplicit := by decide) (names : ∀ y ∈ scope.names, y.2 = .local → scope.names.lookup y.1 = some .local := by decide +kernel) : Caps X scope [] [] where
  kind := kind
  nocell := fun y hy z => by rcases plain y hy with h | h <;> rw [h] at z <;> cases z
  names := names
  clos := closureFor_none fun y hy z => by rcases plain y hy with h | h <;> rw [h] at z <;> cases z
  sub := fun x c e => by cases e
  has := fun x h => by
    have hm : ∀ (k : NameKind), (relabel scope X.env).names.lookup x = some k → k = .local ∨ k = .globalImplicit := fun k e => by
      have m := PySem.mem_of_lookup e
      unfold relabel at m
      obtain ⟨⟨n, k'⟩, hy, e'⟩ := List.mem_map.mp m
      have q := plain _ hy
      have nf : (k' == NameKind.free) = false := by rcases q with h | h <;> (have h' : k' = _ := h; subst h'; rfl)
      simp only [nf, Bool.false_and, Bool.false_eq_true, if_false] at e'
      have : k' = k := congrArg (·.2) e'
      rw [← this]
      exact q
    rcases h with h | h
    · rcases hm _ h with z | z <;> cases z
    · rcases hm _ h with z | z <;> cases z
  at' := fun p hp => by cases hp

/-! ### a def of the text -/
structure Def (K : PySem.W.Frag) (mg : Str → Option Value) (x : Str) (st : Stmt) : Prop where
  ex : ∃ f fd, Fun K x x st f fd ∧ mg x = some (.ref f)
section
variable {P : Program} {w : World} {K : PySem.W.Frag} {mg : Str → Option Value} {base : Heap}
theorem top_def {h : Heap} {x : Str} {st : Stmt} {f : Addr} {oc : Value} {od an : Option Addr} {osl : Array (Option Value)} {kV doc pm cdv ct : Value} (X : K.In h) (G : h.Ns mainGlobals mg) (a : PySem.W.nsIn K mainGlobals x = some (some (.ref f)))
    (l : K.lookup f = some ⟨oc, od, .func (PySem.W.fnOf x x (defArgs st) (defBody st) (defScope st) .none kV doc pm an cdv ct), osl⟩) (c : PySem.W.codeIn K cdv x = true) (k : PySem.W.keepIn K (.ref f) = true) : Def K mg x st :=
  ⟨f, _, fun_mk l c k, PySem.W.mg_of X G a⟩
theorem Def.known {x : Str} {st : Stmt} {N ps : List Str} {k : Nat} {sp : Sp} (D : Def K mg x st) (S : FnScope N ps (defScope st))
    (hb : ∀ (kV doc pm : Value) (an : Option Addr) (cdv ct : Value) (us : List Value), us.length = ps.length → bindArgs (PySem.W.fnOf x x (defArgs st) (defBody st) (defScope st) .none kV doc pm an cdv ct) ⟨us, []⟩ = pure (ps.zip us))
    (len : ∀ vs H Q E, sp vs H Q E → vs.length = ps.length)
    (hbody : ∀ (f : Addr) (cdv : Value) (A : Around) (outer : List Env) (s : Shared) (H : Hp) (vs : List V) (Q : VK) (E : XK), Room k (A.deeper (envOfC x (defScope st) s.heap.objs.size f cdv)) → sp vs H Q E →
      ∃ t, PSs (cxOf CX0 P w K mg base N x (defScope st) f cdv A outer s H E).nox (defBody st) t ∧ t { nx := fun _ H' => Q .non H', rt := Q } (start N vs) H) : Known P w K mg base CX0 (k + 1) x ps sp := by
  obtain ⟨f, fd, F, hm⟩ := D.ex
  exact ⟨f, fd, F.ok S len fun cdv A outer s H vs Q E hr h => hbody f cdv A outer s H vs Q E hr h, hm, F.kp, F.binds hb⟩
end

/-! ### heaps that grow -/
theorem Same.new {H : Hp} {D : Addr} {o : HO} (h : H D = none) : Same H (upd H D o) := fun b u e => by rw [upd_ne (ne_of_none e h)]; exact e
/-- a new thing is turned -/
theorem Same.on {H H2 : Hp} {D : Addr} {o : HO} (e : Same H H2) (h : H D = none) : Same H (upd H2 D o) := fun b u z => by rw [upd_ne (ne_of_none z h)]; exact e b u z

/-! ### a new list, a new tuple of data -/
/-! ### texts -/
abbrev one (c : Nat) : Str := ⟨#[c]⟩
theorem at_some {α : Type} (xs : List α) (i : Int) (h0 : 0 ≤ i) (h : i < xs.length) : ∃ v, atI xs i = some v ∧ xs[i.toNat]? = some v := by
  have e : i = (i.toNat : Int) := by omega
  have hl : i.toNat < xs.length := by omega
  generalize i.toNat = j at e hl
  subst e
  exact ⟨_, atI_nat (List.getElem?_eq_getElem hl), List.getElem?_eq_getElem hl⟩
theorem at_map (ns : List Int) (i : Int) (h0 : 0 ≤ i) (h : i < ns.length) : atI (ns.map V.int) i = some (V.int (ns.getD i.toNat 0)) := by
  have e : i = (i.toNat : Int) := by omega
  have hl : i.toNat < ns.length := by omega
  generalize i.toNat = j at e hl
  subst e
  refine atI_nat ?_
  rw [List.getElem?_map, List.getElem?_eq_getElem hl]
  simp [List.getD, hl]

/-! ### data of texts and ints -/
theorem dt_strs {K : PySem.W.Frag} {H : Hp} : ∀ zs : List Str, DtAll K H (zs.map V.str) (zs.map PyData.str)
  | [] => .nil
  | z :: r => .cons (.str z) (dt_strs r)
theorem dt_ints {K : PySem.W.Frag} {H : Hp} : ∀ zs : List Int, DtAll K H (zs.map V.int) (zs.map PyData.int)
  | [] => .nil
  | z :: r => .cons (.int z) (dt_ints r)
theorem lay_ints : ∀ zs : List Int, PyData.canLayAll0 (zs.map PyData.int) = true ∧ PyData.depthAll (zs.map PyData.int) = 0
  | [] => ⟨rfl, rfl⟩
  | z :: r => by
    obtain ⟨h1, h2⟩ := lay_ints r
    constructor
    · rw [List.map_cons, PyData.canLayAll0, h1]; rfl
    · rw [List.map_cons, PyData.depthAll, h2]; rfl
theorem lay_text {cs : List Nat} (h : ∀ c ∈ cs, c < 128) : PyData.canLay0 (.str ⟨cs.toArray⟩) = true := by
  have : ∀ c ∈ cs, c < 1114112 := fun c hc => by have := h c hc; omega
  simp [PyData.canLay0, PyData.strOk]
  exact this

theorem sl {n : Nat} (h : n ≤ 1000 := by simp) : n ≤ sizeLine := Nat.le_of_lt (small1000 h)

/-! ### names of Python's own -/
theorem b_all : bootBuiltins "all" = some (.builtin "all") := by kernel_rfl
theorem b_isinstance : bootBuiltins "isinstance" = some (.builtin "isinstance") := by kernel_rfl
theorem b_abs : bootBuiltins "abs" = some (.builtin "abs") := by kernel_rfl
theorem b_len : bootBuiltins "len" = some (.builtin "len") := by kernel_rfl
theorem b_int : bootBuiltins "int" = some (.type "int") := by kernel_rfl
theorem b_bool : bootBuiltins "bool" = some (.type "bool") := by kernel_rfl
theorem b_str : bootBuiltins "str" = some (.type "str") := by kernel_rfl
theorem b_list : bootBuiltins "list" = some (.type "list") := by kernel_rfl
theorem b_tuple : bootBuiltins "tuple" = some (.type "tuple") := by kernel_rfl
theorem b_dict : bootBuiltins "dict" = some (.type "dict") := by kernel_rfl
end L2

namespace L2
open PySem PySem.Spec PyProof.Rows

/-! ### exceptions -/
/-- what passing through the frames fs changes: the exception's own objects, the frames' slots -/
structure Flew (fs own : List Addr) (h h' : Heap) : Prop where
  keep : ∀ b o, b ∉ own → b ∉ fs → h.get? b = some o → h'.get? b = some o
  slot : ∀ b o, b ∉ own → h.get? b = some o → ∃ sl, h'.get? b = some { o with slots := sl }
section
variable {M : Model} {A : Around} {E : Value → Shared → Prop} {s : Shared} {base : Heap} {env : Env} {outer : List Env} {L ea T : Addr} {C : Value}
end
end L2

namespace L2
open PySem PySem.Spec PyProof.Rows

section
variable {P : Program} {w : World} {K : PySem.W.Frag} {mg : Str → Option Value} {base : Heap} {N : List Str} {qual : Str} {scope : Scope} {f : Addr} {cd : Value} {A : Around} {outer : List Env} {s : Shared} {H : Hp} {E : XK}
end

/-! ### raise C(..), C an own class below ValueError -/
section
variable {P : Program} {w : World} {K : PySem.W.Frag} {mg : Str → Option Value} {base : Heap} {N : List Str} {qual : Str} {scope : Scope} {f : Addr} {cd : Value} {A : Around} {outer : List Env} {s : Shared} {H : Hp} {E : XK}
end
end L2

namespace L2
open PySem PySem.Spec PyProof.Rows

/-! ### try .. except C as n -/
section
variable {X : Cx} {pins : List (Addr × Obj)} {σ : St} {H : Hp} {s : Shared}
end
section
variable {X : Cx} {pins : List (Addr × Obj)} {σ : St} {H : Hp} {s : Shared}
end
/-! ### isinstance of a caught exception -/
structure ExcK (K : PySem.W.Frag) (C : Addr) : Prop where
  hga : PySem.W.findIn K (.ref C) "__getattribute__" = some (some (.builtin "BaseException.__getattribute__"))
  hk : PySem.W.findIn K (.ref C) "__getattr__" = some none
  hc : ∃ cd, PySem.W.clsIn K C = some cd
  ha : PySem.W.findIn K (.ref C) "__class__" = some (some (.builtin "object.__class__"))
  hn : PySem.W.specialIn K (.builtin "object.__class__") "__get__" = some (some (.builtin "getset_descriptor.__get__"))
  ht : PySem.W.takesIn K (.builtin "object.__class__") = some true
  hm : PySem.W.mroIn K C (.type "object") = some true
  hb : PySem.W.mroIn K C (.type "BaseException") = some true
end L2

namespace L2
open PySem PySem.Spec PyProof.Rows
/-! ### a slice of a text -/
theorem sl_str {X : Cx} : SlR X (fun x lo hi H Q => ∃ z, x = .str z ∧ z.length ≤ sizeLine ∧ Q (.str (Txt.slice z lo hi)) H) := by
  intro pins s σ H x v vl vu lo hi sl Q I rx hs pl pu h
  obtain ⟨z, rfl, hz, q⟩ := h
  obtain ⟨t, rfl⟩ := rx
  have part : ∀ {u : Value} {o : Option Int}, IsPart u o → ∃ l : Option (Int × Tok), partValue l = u ∧ l.map (·.1) = o := fun p => by
    cases p with
    | none => exact ⟨none, rfl, rfl⟩
    | int i t => exact ⟨some (i, t), rfl, rfl⟩
  obtain ⟨l, rfl, rfl⟩ := part pl
  obtain ⟨u, rfl, rfl⟩ := part pu
  exact ⟨"str", _, F.slot_str_getitem.lookup, typeIs_str _ _ _, wpAny_getItem_str_slice (l := l) (u := u) (st := none) hs rfl
    (post_val_or_str ⟨Nat.le_trans (Txt.slice_le z _ _) hz, fun t' k => ⟨.str _, H, I.tok k, ⟨_, rfl⟩, q⟩⟩)⟩
end L2

namespace L2
open PySem PySem.Spec PyProof.Rows
/-! ### list(range(n)), list(d) -/
section
variable {X : Cx}
end
/-- the j-th statement of a class's body -/
def inCls (s : Stmt) (j : Nat) : Stmt := match s with
  | .ClassDef _ _ _ body _ _ _ _ _ _ _ => body.getD j (.Pass ⟨0, 0, 0, 0⟩)
  | _ => .Pass ⟨0, 0, 0, 0⟩
/-! ### methods and classes, by what they promise -/
structure KnownM (P : Program) (w : World) (K : PySem.W.Frag) (mg : Str → Option Value) (base : Heap) (CX : CXT) (k : Nat) (C : Addr) (m : Str) (ps : List Str) (sp : Sp) : Prop where
  ex : ∃ f fd, FnOk P w K mg base CX k f fd ps sp ∧ Meth K C m f ∧ Binds K fd ps []
structure KnownI (P : Program) (w : World) (K : PySem.W.Frag) (mg : Str → Option Value) (base : Heap) (CX : CXT) (k : Nat) (C : Addr) (ps : List Str) (sp : Sp) : Prop where
  ex : ∃ f fd, FnOk P w K mg base CX k f fd ps sp ∧ Mk K C f ∧ Binds K fd ps []
structure Mth (K : PySem.W.Frag) (C : Addr) (m qual : Str) (st : Stmt) : Prop where
  ex : ∃ f fd, Fun K m qual st f fd ∧ PySem.W.findIn K (.ref C) m = some (some (.ref f)) ∧ PySem.W.isFn K (.ref f) = true
section
variable {P : Program} {w : World} {K : PySem.W.Frag} {mg : Str → Option Value} {base : Heap} {C : Addr}
theorem mth_mk {m qual : Str} {st : Stmt} {f : Addr} {oc : Value} {od an : Option Addr} {osl : Array (Option Value)} {kV doc pm cdv ct : Value} (a : PySem.W.findIn K (.ref C) m = some (some (.ref f))) (i : PySem.W.isFn K (.ref f) = true)
    (l : K.lookup f = some ⟨oc, od, .func (PySem.W.fnOf m qual (defArgs st) (defBody st) (defScope st) .none kV doc pm an cdv ct), osl⟩) (c : PySem.W.codeIn K cdv qual = true) (k : PySem.W.keepIn K (.ref f) = true) : Mth K C m qual st :=
  ⟨f, _, fun_mk l c k, a, i⟩
theorem Mth.known {m qual : Str} {st : Stmt} {N ps : List Str} {k : Nat} {sp : Sp} (D : Mth K C m qual st) (S : FnScope N ps (defScope st))
    (hb : ∀ (kV doc pm : Value) (an : Option Addr) (cdv ct : Value) (us : List Value), us.length = ps.length → bindArgs (PySem.W.fnOf m qual (defArgs st) (defBody st) (defScope st) .none kV doc pm an cdv ct) ⟨us, []⟩ = pure (ps.zip us))
    (len : ∀ vs H Q E, sp vs H Q E → vs.length = ps.length)
    (hbody : ∀ (f : Addr) (cdv : Value) (A : Around) (outer : List Env) (s : Shared) (H : Hp) (vs : List V) (Q : VK) (E : XK), Room k (A.deeper (envOfC qual (defScope st) s.heap.objs.size f cdv)) → sp vs H Q E →
      ∃ t, PSs (cxOf CX0 P w K mg base N qual (defScope st) f cdv A outer s H E).nox (defBody st) t ∧ t { nx := fun _ H' => Q .non H', rt := Q } (start N vs) H) : KnownM P w K mg base CX0 (k + 1) C m ps sp := by
  obtain ⟨f, fd, F, ha, hi⟩ := D.ex
  exact ⟨f, fd, F.ok S len fun cdv A outer s H vs Q E hr h => hbody f cdv A outer s H vs Q E hr h, ⟨ha, hi, F.kp⟩, F.binds hb⟩
theorem KnownM.init {CX : CXT} {k : Nat} {ps : List Str} {sp : Sp} (G : KnownM P w K mg base CX k C "__init__" ps sp) (mk : PySem.W.makesIn K C = true) (kc : PySem.W.keepIn K (.ref C) = true) : KnownI P w K mg base CX k C ps sp := by
  obtain ⟨f, fd, F, hm, hb⟩ := G.ex
  exact ⟨f, fd, F, ⟨mk, hm.at_, hm.fn, kc⟩, hb⟩
end
section
variable {X : Cx} {CX : CXT} {k : Nat} {C : Addr} {ps : List Str} {sp : Sp} {E : XK} {x m : Str} {p pos apos : Pos} {e o : Expr} {es : List Expr} {t : TA} {ta : TE}
theorem pe_methN {pl : Sem Bool} (he : PE X o ta) (c : Cls X.K C) (G : KnownM X.prog X.w X.K X.mg X.base CX k C m ps sp) (hr : Room k X.A) (hx : Passes CX X E) (ha : PA X (e :: es) t)
    (hst : starEach (e :: es) X.env = (false, eval e X.env) :: starEach es X.env := by rfl) (hpl : (backTo pos (starEach es X.env)).any (·.1) = false := by rfl)
    (ht : eval (.Call (.Attribute o m apos) (e :: es) [] pos) X.env = (do
      let ov ← eval o X.env
      standAt apos.atName
      let (f, first) ← holding [ov] (getMethod ov m pl)
      callWith pos f first (backTo pos (starEach (e :: es) X.env)) (backToKw pos (keywordEach [] X.env))) := by rfl) :
    PE X (.Call (.Attribute o m apos) (e :: es) [] pos) (tMeth C m sp [] E ta t) := by
  obtain ⟨f, fd, F, hm, hb⟩ := G.ex
  exact pe_meth (pl := pl) he c hm F hr hb .nil hx ha hst hpl ht
theorem pe_makeN (G : KnownI X.prog X.w X.K X.mg X.base CX k C ps sp) (hr : Room (k + 1) X.A) (hm : X.mg x = some (.ref C)) (hx : Passes CX X E)
    (ha : PA X (e :: es) t) (hg : Gl X x := by rfl) (hdb : (x == ("__debug__" : Str)) = false := by decide) (he : starEach (e :: es) X.env = (false, eval e X.env) :: starEach es X.env := by rfl) (hpl : (backTo pos (starEach es X.env)).any (·.1) = false := by rfl) :
    PE X (.Call (.Name x p) (e :: es) [] pos) (tMake C sp [] E t) := by
  obtain ⟨f, fd, F, M, hb⟩ := G.ex
  exact pe_make M F hr hg hm hb .nil hx ha hdb he hpl
end
end L2

namespace L2
open PySem PySem.Spec PyProof.Rows
/-! ### what a comprehension catches -/
def clFold (cells : List (Str × Addr)) : List (Str × NameKind) → List (Str × Addr) → List (Str × Addr)
  | [], acc => acc
  | (n, k) :: r, acc => clFold cells r (if k == .free then (n, (cells.lookup n).getD 0) :: acc else acc)
theorem closureFor_fold {env : Env} : ∀ {names : List (Str × NameKind)} {acc : List (Str × Addr)}, (∀ y ∈ names, y.2 = .free → ∃ c, env.cells.lookup y.1 = some c) →
    (forIn names acc fun (x : Str × NameKind) (cs : List (Str × Addr)) => (do
      let (name, kind) := x
      if kind == NameKind.free then (do let a ← cellOf env name; pure (ForInStep.yield ((name, a) :: cs))) else pure (ForInStep.yield cs) : Sem (ForInStep (List (Str × Addr))))) = pure (clFold env.cells names acc)
  | [], acc, _ => rfl
  | (n, k) :: r, acc, h => by
    rw [List.forIn_cons]
    by_cases hk : (k == NameKind.free) = true
    · obtain ⟨c, hc⟩ := h (n, k) List.mem_cons_self (by simpa using hk)
      have e : cellOf env n = pure c := by unfold cellOf; rw [show env.cells.lookup n = some c from hc]
      have ih := closureFor_fold (env := env) (names := r) (acc := (n, c) :: acc) fun y hy => h y (List.mem_cons_of_mem _ hy)
      show (do let r ← (if k == NameKind.free then (do let a ← cellOf env n; pure (ForInStep.yield ((n, a) :: acc))) else pure (ForInStep.yield acc) : Sem (ForInStep (List (Str × Addr)))); _) = _
      rw [if_pos hk, e, pure_bind, pure_bind]
      refine Eq.trans ih ?_
      show _ = pure (clFold env.cells r (if (k == NameKind.free) = true then (n, (env.cells.lookup n).getD 0) :: acc else acc))
      rw [if_pos hk, show env.cells.lookup n = some c from hc]
      rfl
    · have ih := closureFor_fold (env := env) (names := r) (acc := acc) fun y hy => h y (List.mem_cons_of_mem _ hy)
      show (do let r ← (if k == NameKind.free then (do let a ← cellOf env n; pure (ForInStep.yield ((n, a) :: acc))) else pure (ForInStep.yield acc) : Sem (ForInStep (List (Str × Addr)))); _) = _
      rw [if_neg hk, pure_bind]
      refine Eq.trans ih ?_
      show _ = pure (clFold env.cells r (if (k == NameKind.free) = true then (n, (env.cells.lookup n).getD 0) :: acc else acc))
      rw [if_neg hk]
theorem clFold_sub {cells : List (Str × Addr)} : ∀ {names : List (Str × NameKind)} {acc : List (Str × Addr)}, (∀ y ∈ names, y.2 = .free → ∃ c, cells.lookup y.1 = some c) → (∀ x c, acc.lookup x = some c → cells.lookup x = some c) →
    ∀ x c, (clFold cells names acc).lookup x = some c → cells.lookup x = some c
  | [], _, _, h => h
  | (n, k) :: r, acc, hf, h => by
    refine clFold_sub (names := r) (fun y hy => hf y (List.mem_cons_of_mem _ hy)) ?_
    intro x c e
    by_cases hk : (k == NameKind.free) = true
    · obtain ⟨c', hc⟩ := hf (n, k) List.mem_cons_self (by simpa using hk)
      have hc' : cells.lookup n = some c' := hc
      rw [if_pos hk, hc', List.lookup_cons] at e
      by_cases hx : (x == n) = true
      · rw [hx] at e
        cases e
        have : x = n := by simpa using hx
        rw [this]
        exact hc'
      · rw [show (x == n) = false by simpa using hx] at e
        exact h x c e
    · rw [if_neg hk] at e
      exact h x c e
theorem clFold_keep {cells : List (Str × Addr)} : ∀ {names : List (Str × NameKind)} {acc : List (Str × Addr)} {x : Str}, (∃ c, acc.lookup x = some c) → ∃ c, (clFold cells names acc).lookup x = some c
  | [], _, _, h => h
  | (n, k) :: r, acc, x, ⟨c, h⟩ => by
    refine clFold_keep (names := r) ?_
    by_cases hk : (k == NameKind.free) = true
    · rw [if_pos hk, List.lookup_cons]
      cases hx : x == n with
      | true => exact ⟨_, rfl⟩
      | false => exact ⟨c, h⟩
    · rw [if_neg hk]
      exact ⟨c, h⟩
theorem clFold_has {cells : List (Str × Addr)} : ∀ {names : List (Str × NameKind)} {acc : List (Str × Addr)} {x : Str}, (x, NameKind.free) ∈ names → ∃ c, (clFold cells names acc).lookup x = some c
  | (n, k) :: r, acc, x, h => by
    rcases List.mem_cons.mp h with e | h
    · cases e
      refine clFold_keep (names := r) ⟨(cells.lookup n).getD 0, ?_⟩
      rw [if_pos (by rfl), List.lookup_cons, beq_self_eq_true]
    · exact clFold_has (names := r) h
theorem relabel_kind {env : Env} : ∀ {names : List (Str × NameKind)} {x : Str}, names.lookup x = some .free →
    (names.map fun (n, k) => if (k == NameKind.free && env.scope.kind == .function && env.kindOf n == some .cell) then (n, NameKind.cell) else (n, k)).lookup x = some .cell ∨
    (names.map fun (n, k) => if (k == NameKind.free && env.scope.kind == .function && env.kindOf n == some .cell) then (n, NameKind.cell) else (n, k)).lookup x = some .free
  | [], _, h => by simp at h
  | (n, k) :: r, x, h => by
    have ih := @relabel_kind env r x
    rw [List.lookup_cons] at h
    rw [List.map_cons]
    cases hx : x == n with
    | true =>
      rw [hx] at h
      cases h
      by_cases hc : (NameKind.free == NameKind.free && env.scope.kind == .function && env.kindOf n == some .cell) = true
      · simp only [hc, if_true, List.lookup_cons, hx]
        exact .inl trivial
      · simp only [hc, if_false, List.lookup_cons, hx, Bool.false_eq_true]
        exact .inr trivial
    | false =>
      rw [hx] at h
      by_cases hc : (k == NameKind.free && env.scope.kind == .function && env.kindOf n == some .cell) = true
      · simp only [hc, if_true, List.lookup_cons, hx]
        exact ih h
      · simp only [hc, if_false, List.lookup_cons, hx, Bool.false_eq_true]
        exact ih h
theorem caps_of {X : Cx} {scope : Scope} {cp : List (Nat × Str)} {sc : Scope} {N : List Str} (hcell : ∀ x, X.env.scope.names.lookup x = some .cell → ∃ c, X.env.cells.lookup x = some c) (hs : X.env.scope = sc := by rfl) (hN : X.N = N := by rfl)
    (kind : scope.kind = .function := by rfl) (plain : ∀ y ∈ scope.names, y.2 ≠ .cell := by decide) (names : ∀ y ∈ scope.names, y.2 = .local → scope.names.lookup y.1 = some .local := by decide +kernel)
    (free : ∀ y ∈ scope.names, y.2 = .free → sc.names.lookup y.1 = some .cell := by decide +kernel) (at' : ∀ p ∈ cp, N[p.1]? = some p.2 ∧ sc.names.lookup p.2 = some .cell ∧ scope.names.lookup p.2 = some .free := by decide +kernel) :
    Caps X scope (clFold X.env.cells scope.names []) cp := by
  subst hs hN
  have hf : ∀ y ∈ scope.names, y.2 = .free → ∃ c, X.env.cells.lookup y.1 = some c := fun y hy e => hcell _ (free y hy e)
  refine ⟨kind, plain, names, ?_, clFold_sub hf (fun x c e => by cases e), fun x h => ?_, fun p hp => ?_⟩
  · show closureFor scope X.env = _
    simp only [closureFor]
    have := closureFor_fold (env := X.env) (acc := []) hf
    exact (congrArg (fun z => z >>= fun r => pure r) this).trans (pure_bind _ _)
  · have hm : ∀ k, (relabel scope X.env).names.lookup x = some k → (k = .cell ∨ k = .free) → (x, NameKind.free) ∈ scope.names := fun k e hk => by
      have m := PySem.mem_of_lookup e
      unfold relabel at m
      obtain ⟨⟨n, k'⟩, hy, e'⟩ := List.mem_map.mp m
      have nc := plain _ hy
      by_cases hc : (k' == NameKind.free && X.env.scope.kind == .function && X.env.kindOf n == some .cell) = true
      · simp only [hc, if_true] at e'
        have e1 : n = x := congrArg (·.1) e'
        have : k' = .free := by simp only [Bool.and_eq_true, beq_iff_eq] at hc; exact hc.1.1
        subst e1 this
        exact hy
      · simp only [hc, if_false, Bool.false_eq_true] at e'
        have e1 : n = x := congrArg (·.1) e'
        have e2 : k' = k := congrArg (·.2) e'
        subst e1 e2
        rcases hk with z | z
        · exact absurd z nc
        · subst z; exact hy
    rcases h with h | h
    · exact clFold_has (hm _ h (.inl rfl))
    · exact clFold_has (hm _ h (.inr rfl))
  · obtain ⟨h1, h2, h3⟩ := at' p hp
    exact ⟨h1, .inl h2, relabel_kind h3⟩
end L2

namespace L2
open PySem PySem.Spec PyProof.Rows PySem.Builtin PySem.Builtin.Str
/-! ### what a slice of a text is -/
end L2

namespace L2
open PySem PySem.Spec PyProof.Rows
/-! ### for over a dict: it stands still while it is walked -/
section
variable {X : Cx} {pins : List (Addr × Obj)} {σ : St} {H : Hp} {s : Shared} {d : Addr}
end
section
variable {X : Cx} {tg : Expr}
end
end L2

namespace L2
open PySem PySem.Spec PyProof.Rows
/-! ### list.insert -/
section
variable {X : Cx}
/-! ### dict(d) -/
/-! ### d != e, where both hold the same things -/
end
/-! ### for k, v in d.items() -/
section
variable {X : Cx} {elts : List Expr} {x1 : Nat} {tpos apos pos : Pos}
end
/-! ### xs != [], xs[::-1], what is never come to -/
section
variable {X : Cx} {e st : Expr} {te : TE} {ts : TO} {p2 pos : Pos}
theorem ps_dead {st : Stmt} : PS X st (fun _ _ _ => False) := fun _ _ _ _ _ _ h => h.elim
end
end L2

namespace L2
open PySem PySem.Spec PyProof.Rows
/-! ### lambdas: the table of the code that makes them is tracked by what is true of it -/
/-- what the base tells of the code that makes lambdas -/
structure Maker (mg : Str → Option Value) (base : Heap) (c P : Addr) : Prop where
  hd : PySem.W.CodeHd base c P
  bt : base.BuiltinsAt mg P
section
variable {X : Cx}
theorem triples_app : ∀ {xs : List Value} {l c : Nat} {a : Addr}, TriplesOk xs → TriplesOk (xs ++ [rawInt l, rawInt c, .ref a])
  | [], _, _, _, _ => trivial
  | .int _ _ :: .int _ _ :: _ :: rest, _, _, _, t => triples_app (xs := rest) t
theorem triples_more {ps : Array Value} {l c : Nat} {a : Addr} (t : TriplesOk ps.toList) : TriplesOk (ps ++ #[rawInt l, rawInt c, .ref a]).toList := by
  rw [Array.toList_append]
  exact triples_app t
end
/-! ### the head, with tables -/
/-- a def whose code's table stands in the written part -/
structure TabOf (q : Program) (K : PySem.W.Frag) (z : Addr × Addr) : Prop where
  ex : ∃ x : Str, ((recsOf q).find? (fun e => e.name == x)).isSome = true ∧ PySem.W.tabIn K x = some z
theorem noTab {K : PySem.W.Frag} {h : Heap} {a : Addr} {ps : Array Value} (hK : PySem.W.noTabs K = true) (X : K.In h) (e : h.get? a = some (PySem.W.tabObj ps)) : K.lookup a = none := by
  cases q : K.lookup a with
  | none => rfl
  | some o =>
    have e2 := X a o q
    rw [e] at e2
    cases e2
    have h2 := List.all_eq_true.mp hK (a, _) (PySem.W.mem_of_lookupK q)
    exact absurd (show false = true from h2) Bool.false_ne_true
end L2

namespace L2
open PySem PySem.Spec PyProof.Rows
/-! ### C.m(x, ..): a method called through its class -/
/-- what the written part tells of a class whose method m is read from it -/
structure ClsM (K : PySem.W.Frag) (C : Addr) (m : Str) : Prop where
  ga : PySem.W.specialIn K (.ref C) "__getattribute__" = some (some (.builtin "type.__getattribute__"))
  ex : ∃ (mc : Value) (f : Addr), PySem.W.readsIn K C mc = true ∧ PySem.W.findCls K (.ref C) mc m = some (.val (.ref f)) ∧ PySem.W.findIn K (.ref C) m = some (some (.ref f))
section
variable {X : Cx} {CX : CXT} {k : Nat} {C : Addr} {ps : List Str} {sp : Sp} {E : XK} {x m : Str} {p pos apos : Pos} {e o : Expr} {es : List Expr} {t : TA} {ta : TE}
theorem pe_clsN {pl : Sem Bool} (he : PE X o (tC (.ref C))) (c : ClsM X.K C m) (G : KnownM X.prog X.w X.K X.mg X.base CX k C m ps sp) (hr : Room k X.A) (hx : Passes CX X E) (ha : PA X (e :: es) t)
    (hst : starEach (e :: es) X.env = (false, eval e X.env) :: starEach es X.env := by rfl) (hpl : (backTo pos (starEach es X.env)).any (·.1) = false := by rfl)
    (ht : eval (.Call (.Attribute o m apos) (e :: es) [] pos) X.env = (do
      let ov ← eval o X.env
      standAt apos.atName
      let (f, first) ← holding [ov] (getMethod ov m pl)
      callWith pos f first (backTo pos (starEach (e :: es) X.env)) (backToKw pos (keywordEach [] X.env))) := by rfl) :
    PE X (.Call (.Attribute o m apos) (e :: es) [] pos) (tCall sp [] E t) := by
  obtain ⟨f, fd, F, hm, hb⟩ := G.ex
  intro pins s σ H Q I h
  refine PySem.W.methodCall_KW (pl := pl) (thn (he pins s σ H (fun v H1 => v = .ref C ∧ H1 = H) I ⟨rfl, rfl⟩) fun u s1 ⟨x, H1, I1, rx, q⟩ => ?_) ht
  obtain ⟨rfl, rfl⟩ := q
  obtain rfl : u = Value.ref C := rx
  obtain ⟨mc, f', h1, h2, h3⟩ := c.ex
  have e1 := hm.at_
  rw [h3] at e1
  cases e1
  refine PySem.W.method_cls I1.kIn c.ga (PySem.W.cls_value I1.kIn h1 h2 rfl ?_)
  refine PySem.W.callWith_K (first := []) (h₀ := X.base) I.ok.mod.kin hm.kp (thn (ha pos pins _ σ _ _ (I1.tok _) h) fun us s2 ⟨vs, H2, I2, r, q2⟩ => ⟨I2.kIn, ?_⟩) hst hpl
  exact run_fn (us := us) (vs := vs) F hr hb .nil hx I2 r q2
end
end L2
namespace L2
open PySem PySem.Spec PyProof.Rows
/-! ### a def that makes lambdas: its code's table -/
structure DefT (K : PySem.W.Frag) (mg : Str → Option Value) (x : Str) (st : Stmt) (z : Addr × Addr) : Prop where
  ex : ∃ f fd, Fun K x x st f fd ∧ mg x = some (.ref f) ∧ fd.code = .ref z.1
  tab : PySem.W.tabIn K x = some z
section
variable {P : Program} {w : World} {K : PySem.W.Frag} {mg : Str → Option Value} {base : Heap}
theorem tab_mk {x : Str} {f c p : Addr} {oc wo : Value} {od wd : Option Addr} {fd : FuncData} {osl ws : Array (Option Value)} {vs : Array Value} (a : PySem.W.nsIn K mainGlobals x = some (some (.ref f)))
    (l : K.lookup f = some ⟨oc, od, .func fd, osl⟩) (hc : fd.code = .ref c) (w : K.lookup c = some ⟨wo, wd, .fields vs, ws⟩) (h : vs[11]? = some (.ref p)) : PySem.W.tabIn K x = some (c, p) := by
  unfold PySem.W.tabIn
  rw [a]
  dsimp only
  rw [l]
  dsimp only
  rw [hc]
  dsimp only
  rw [w]
  dsimp only
  rw [h]
theorem top_defT {h : Heap} {x : Str} {st : Stmt} {f c p : Addr} {oc wo : Value} {od an wd : Option Addr} {osl ws : Array (Option Value)} {kV doc pm ct : Value} {vs : Array Value} (X : K.In h) (G : h.Ns mainGlobals mg) (a : PySem.W.nsIn K mainGlobals x = some (some (.ref f)))
    (l : K.lookup f = some ⟨oc, od, .func (PySem.W.fnOf x x (defArgs st) (defBody st) (defScope st) .none kV doc pm an (.ref c) ct), osl⟩) (hc : PySem.W.codeIn K (.ref c) x = true) (k : PySem.W.keepIn K (.ref f) = true)
    (w : K.lookup c = some ⟨wo, wd, .fields vs, ws⟩) (t : vs[11]? = some (.ref p)) : DefT K mg x st (c, p) :=
  ⟨⟨f, _, fun_mk l hc k, PySem.W.mg_of X G a, rfl⟩, tab_mk a l rfl w t⟩
end
end L2

namespace L2
open PySem PySem.Spec PyProof.Rows
/-! ### text.index(text) -/
end L2

namespace L2
open PySem PySem.Spec PyProof.Rows
/-! ### x in a list, by the data -/
section
variable {X : Cx}
theorem op_inD (hu : X.A.units + 64 < cLine) : OpR X (compareOp .In) (fun x y H Q => ∃ d ds, Dt X.K H x d ∧ Dt X.K H y (.list ds) ∧ d.canLay0 = true ∧ (PyData.list ds).canLay0 = true ∧ d.depth ≤ 62 ∧ Q (.bl (ds.any fun z => PyData.eqv z d)) H) := by
  intro pins s σ H x y v u Q I rx ry h
  obtain ⟨d, ds, hx, hy, lx, ly, hd, q⟩ := h
  obtain ⟨as, ra⟩ := Dt.reads I hx rx lx
  obtain ⟨bs, rb⟩ := Dt.reads I hy ry ly
  exact SeqAt.in_list_reads rb ra ly lx (by have := Nat.min_le_right (PyData.depthAll ds) d.depth; omega) ⟨.bl _, H, I, rfl, q⟩
theorem op_notinD (hu : X.A.units + 64 < cLine) : OpR X (compareOp .NotIn) (fun x y H Q => ∃ d ds, Dt X.K H x d ∧ Dt X.K H y (.list ds) ∧ d.canLay0 = true ∧ (PyData.list ds).canLay0 = true ∧ d.depth ≤ 62 ∧ Q (.bl (!ds.any fun z => PyData.eqv z d)) H) := by
  intro pins s σ H x y v u Q I rx ry h
  obtain ⟨d, ds, hx, hy, lx, ly, hd, q⟩ := h
  obtain ⟨as, ra⟩ := Dt.reads I hx rx lx
  obtain ⟨bs, rb⟩ := Dt.reads I hy ry ly
  exact SeqAt.notIn_list_reads rb ra ly lx (by have := Nat.min_le_right (PyData.depthAll ds) d.depth; omega) ⟨.bl _, H, I, rfl, q⟩
end
/-! ### spots: pairs of texts -/
abbrev spD (p : Str × Str) : PyData := .tuple [.str p.1, .str p.2]
theorem spD_eqv (p q : Str × Str) : PyData.eqv (spD p) (spD q) = decide (p = q) := by
  obtain ⟨a, b⟩ := p
  obtain ⟨c, d⟩ := q
  show (a == c && (b == d && true)) = decide ((a, b) = (c, d))
  rw [Bool.and_true]
  by_cases h1 : a = c
  · by_cases h2 : b = d
    · subst h1; subst h2
      simp
    · rw [decide_eq_false (fun e => h2 (Prod.mk.inj e).2), beq_eq_false_iff_ne.mpr h2, Bool.and_false]
  · rw [decide_eq_false (fun e => h1 (Prod.mk.inj e).1), beq_eq_false_iff_ne.mpr h1, Bool.false_and]
theorem spD_any (p : Str × Str) : ∀ ps : List (Str × Str), ((ps.map spD).any fun z => PyData.eqv z (spD p)) = decide (p ∈ ps)
  | [] => rfl
  | q :: ps => by
    rw [List.map_cons, List.any_cons, spD_any p ps, spD_eqv]
    by_cases h : p = q
    · subst h; simp
    · rw [decide_eq_false (fun e => h e.symm), Bool.false_or]
      simp [h]
/-- what is told more than once, once -/
def onceOf (ps : List (Str × Str)) : List (Str × Str) := ps.foldl (fun acc p => if p ∈ acc then acc else acc ++ [p]) []
theorem onceOf_snoc (ps : List (Str × Str)) (p : Str × Str) : onceOf (ps ++ [p]) = if p ∈ onceOf ps then onceOf ps else onceOf ps ++ [p] := by
  unfold onceOf
  rw [List.foldl_append]
  rfl
theorem onceOf_le : ∀ ps : List (Str × Str), (onceOf ps).length ≤ ps.length := by
  suffices h : ∀ (ps acc : List (Str × Str)), (ps.foldl (fun acc p => if p ∈ acc then acc else acc ++ [p]) acc).length ≤ acc.length + ps.length by
    intro ps
    have := h ps []
    simpa [onceOf] using this
  intro ps
  induction ps with
  | nil => intro acc; simp
  | cons p ps ih =>
    intro acc
    rw [List.foldl_cons]
    refine Nat.le_trans (ih _) ?_
    split
    · simp
    · simp; omega
theorem onceOf_mem : ∀ {ps : List (Str × Str)} {p : Str × Str}, p ∈ onceOf ps → p ∈ ps := by
  suffices h : ∀ (ps acc : List (Str × Str)) (p : Str × Str), p ∈ ps.foldl (fun acc p => if p ∈ acc then acc else acc ++ [p]) acc → p ∈ acc ∨ p ∈ ps by
    intro ps p hp
    rcases h ps [] p hp with h | h
    · cases h
    · exact h
  intro ps
  induction ps with
  | nil => intro acc p h; exact .inl h
  | cons q ps ih =>
    intro acc p h
    rw [List.foldl_cons] at h
    rcases ih _ p h with h | h
    · split at h
      · exact .inl h
      · rcases List.mem_append.mp h with h | h
        · exact .inl h
        · exact .inr (by rw [List.mem_singleton.mp h]; exact List.mem_cons_self)
    · exact .inr (List.mem_cons_of_mem _ h)
end L2

namespace L2
open PySem PySem.Spec PyProof.Rows
/-! ### lambdas that are called -/
/-- a thing that is known to the object, and nothing more -/
def Fz (o : Obj) : HO := .frz o (.ext fun _ => True)
theorem fz_ok {P : Program} {w : World} {H : Hp} {h : Heap} {a : Addr} {o : Obj} (e : h.get? a = some o) : ObjOk P w H h a (Fz o) := ⟨e, trivial, ⟨o, e⟩, fun _ _ _ _ => trivial⟩
theorem fz_get {P : Program} {w : World} {H : Hp} {h : Heap} {a : Addr} {o : Obj} (x : HOk P w H h) (e : H a = some (Fz o)) : h.get? a = some o := (x a _ e).1
def CodeO (q : Str) (o : Obj) : Prop := ∃ vs t, o.data = .fields vs ∧ vs[1]? = some (.str q t)
/-- a code object's table: the code in it stands at S -/
def TabC (P : Addr) (S : List Addr) : HO := .ext fun h => ∃ ps : Array Value, h.get? P = some (PySem.W.tabObj ps) ∧ TriplesOk ps.toList ∧ ∀ pos cv, codeAmong pos ps.toList = some cv → ∃ c ∈ S, cv = .ref c
def TabIn (q : Str) (H : Hp) (P : Addr) : Prop := ∃ S, H P = some (TabC P S) ∧ ∀ c ∈ S, ∃ o, H c = some (Fz o) ∧ CodeO q o
def LamAt (q : Str) (params : Arguments) (body : Expr) (scope : Scope) (clos : List (Str × Addr)) (H : Hp) (fa : Addr) : Prop :=
  ∃ pm c ctv o, H fa = some (Fz (PySem.W.kla_obj "<lambda>" q params body scope clos pm c ctv)) ∧ H c = some (Fz o) ∧ CodeO q o
theorem tabC_ok {P : Program} {w : World} {H : Hp} {h : Heap} {a : Addr} {ps : Array Value} {S : List Addr} (e : h.get? a = some (PySem.W.tabObj ps)) (t : TriplesOk ps.toList) (c : ∀ pos cv, codeAmong pos ps.toList = some cv → ∃ c ∈ S, cv = .ref c) : ObjOk P w H h a (TabC a S) :=
  ⟨⟨ps, e, t, c⟩, ⟨_, e⟩, fun h1 h2 ⟨qs, e1, t1⟩ k => ⟨qs, k _ e1, t1⟩⟩
theorem among_app {pos : Pos} {l c : Nat} {a : Addr} {cv : Value} : ∀ {xs : List Value}, TriplesOk xs → codeAmong pos (xs ++ [rawInt l, rawInt c, .ref a]) = some cv → codeAmong pos xs = some cv ∨ cv = .ref a
  | [], _, h => by
    right
    simp only [List.nil_append, rawInt, codeAmong] at h
    split at h
    · exact (Option.some.inj h).symm
    · cases h
  | .int x _ :: .int y _ :: z :: rest, t, h => by
    simp only [List.cons_append, codeAmong] at h ⊢
    split at h
    · rename_i e
      rw [if_pos e]
      exact .inl h
    · rename_i e
      rw [if_neg e]
      exact among_app (xs := rest) t h
theorem hok_fz {P : Program} {w : World} {H : Hp} {h : Heap} {c : Addr} {o : Obj} (x : HOk P w H h) (hn : H c = none) (e : h.get? c = some o) : HOk P w (upd H c (Fz o)) h := fun b u q => by
  by_cases hb : b = c
  · subst hb; rw [upd_same] at q; cases q; exact fz_ok e
  · rw [upd_ne hb] at q
    exact (x b u q).stay (fun _ _ _ z => z) (fun d z => by rw [upd_ne (ne_of_none z hn)]; exact z) fun d xs z => by rw [upd_ne (ne_of_none z hn)]; exact z
/-- all but what stands at P is as it was -/
def SameX (P : Addr) (H H' : Hp) : Prop := ∀ b o, b ≠ P → H b = some o → H' b = some o
def tLamF (P : Addr) (q : Str) (params : Arguments) (body : Expr) (scope : Scope) (clos : List (Str × Addr)) : TE := fun _ H Q => TabIn q H P ∧ ∀ a H', H a = none → SameX P H H' → TabIn q H' P → LamAt q params body scope clos H' a → Q (.ref a) H'
section
variable {X : Cx}
theorem pe_lamF {params : Arguments} {body : Expr} {scope : Scope} {pos : Pos} {c P : Addr} {clos : List (Str × Addr)} (M : Maker X.mg X.base c P) (hc : X.env.code = .ref c) (hcl : closureFor scope X.env = pure clos) (hdef : defaultsOf params X.env = ([], [])) :
    PE X (.Lambda params body scope pos) (tLamF P (X.env.qual ++ "<lambda>") params body scope clos) := by
  intro pins s σ H Q I h
  obtain ⟨⟨S, hP, hS⟩, q⟩ := h
  obtain ⟨⟨ps, e, t, tc⟩, _, _⟩ := I.hok P _ hP
  have hg : s.heap.Ns mainGlobals X.mg := I.mod.glob.keeps I.bk
  have C := M.hd.keeps I.bk
  have hb : s.heap.BuiltinsAt X.mg P := let ⟨bm, o, b1, b2, b3, b4, b5, r⟩ := M.bt; ⟨bm, o, b1, b2, b3, b4, I.bk _ _ b5, r⟩
  have hgP : mainGlobals ≠ P := fun z => by
    obtain ⟨o, es, ep, e1, hd, _⟩ := hg
    rw [z, e] at e1; cases e1; cases hd
  refine PySem.W.kla_eval hdef ?_
  cases hf : codeAmong pos ps.toList with
  | none =>
    refine PySem.W.kla_makeFunction (mg := X.mg) hcl I.ok.glob hg hc C e t hf hgP hb fun c' ctv h' tk hx hge hlt hrec htb => ?_
    obtain ⟨c1, oc, vs, tq, ec, goc, doc, dq⟩ := hrec
    obtain rfl : c' = c1 := by cases ec; rfl
    have nP : ∀ b, H b = none → b ≠ P := fun b n z => by rw [z, hP] at n; cases n
    have hPlt : P < s.heap.objs.size := Heap.lt_size e
    have goc' : (h'.push (PySem.W.kla_obj "<lambda>" (X.env.qual ++ "<lambda>") params body scope clos ((X.mg "__name__").getD .none) c' ctv)).get? c' = some oc := Heap.get?_push_of_some _ goc
    have cP : c' ≠ P := Nat.ne_of_gt (Nat.lt_of_lt_of_le hPlt hge)
    have aP : h'.objs.size ≠ P := Nat.ne_of_gt (Nat.lt_of_lt_of_le hPlt (Nat.le_of_lt (Nat.lt_of_le_of_lt hge hlt)))
    have ac : h'.objs.size ≠ c' := Nat.ne_of_gt hlt
    have fr : ∀ b, s.heap.objs.size ≤ b → H b = none := fun b z => I.hok.fresh z
    have hk : ∀ b u, b ≠ P → s.heap.get? b = some u → (h'.push (PySem.W.kla_obj "<lambda>" (X.env.qual ++ "<lambda>") params body scope clos ((X.mg "__name__").getD .none) c' ctv)).get? b = some u := fun b u nb eb => Heap.get?_push_of_some _ (hx b u nb eb)
    have hok1 : HOk X.prog X.w (upd H P (TabC P (c' :: S))) (h'.push (PySem.W.kla_obj "<lambda>" (X.env.qual ++ "<lambda>") params body scope clos ((X.mg "__name__").getD .none) c' ctv)) :=
      I.hok.write (x := P) (e := P) (by rw [hP]; trivial) (.inl rfl) hk ⟨_, Heap.get?_push_of_some _ htb⟩ (tabC_ok (Heap.get?_push_of_some _ htb) (triples_more t) fun pos cv z => by
        rw [Array.toList_append] at z
        rcases among_app t z with z | z
        · obtain ⟨d, hd, r⟩ := tc pos cv z
          exact ⟨d, List.mem_cons_of_mem _ hd, r⟩
        · exact ⟨c', List.mem_cons_self, z⟩)
    have n1 : upd H P (TabC P (c' :: S)) c' = none := by rw [upd_ne cP]; exact fr _ hge
    have hok2 := hok_fz hok1 n1 goc'
    have n2 : upd (upd H P (TabC P (c' :: S))) c' (Fz oc) h'.objs.size = none := by rw [upd_ne ac, upd_ne aP]; exact fr _ (Nat.le_of_lt (Nat.lt_of_le_of_lt hge hlt))
    have hok3 := hok_fz hok2 n2 (Heap.get?_push_size _ rfl)
    have sm : ∀ b, b ≠ P → H b ≠ none → upd (upd (upd H P (TabC P (c' :: S))) c' (Fz oc)) h'.objs.size (Fz (PySem.W.kla_obj "<lambda>" (X.env.qual ++ "<lambda>") params body scope clos ((X.mg "__name__").getD .none) c' ctv)) b = H b := fun b z1 z2 => by
      have y1 : b ≠ h'.objs.size := fun z => z2 (by rw [z]; exact fr _ (Nat.le_of_lt (Nat.lt_of_le_of_lt hge hlt)))
      have y2 : b ≠ c' := fun z => z2 (by rw [z]; exact fr _ hge)
      rw [upd_ne y1, upd_ne y2, upd_ne z1]
    have sv : ∀ b o, b ≠ P → H b = some o → upd (upd (upd H P (TabC P (c' :: S))) c' (Fz oc)) h'.objs.size (Fz (PySem.W.kla_obj "<lambda>" (X.env.qual ++ "<lambda>") params body scope clos ((X.mg "__name__").getD .none) c' ctv)) b = some o := fun b o z1 z2 => by
      rw [sm b z1 (by rw [z2]; intro z; cases z)]; exact z2
    have J := I.step (h' := h'.push (PySem.W.kla_obj "<lambda>" (X.env.qual ++ "<lambda>") params body scope clos ((X.mg "__name__").getD .none) c' ctv)) (g' := s.gens) (t' := tk) (d' := s.drawn) (ch := []) (fun _ z => nomatch z)
      (fun b o _ _ _ eb n => hk b o (nP b n) eb) (fun b o _ _ _ eb n => ⟨o.slots, hk b o (nP b n) eb⟩)
      (fun b o _ eb n => by rw [upd_ne (Nat.ne_of_lt (Nat.lt_of_lt_of_le (Heap.lt_size eb) (Nat.le_of_lt (Nat.lt_of_le_of_lt hge hlt)))), upd_ne (Nat.ne_of_lt (Nat.lt_of_lt_of_le (Heap.lt_size eb) hge)), upd_ne (nP b n)]; exact n)
      (fun b o _ eb => by
        by_cases z : b = P
        · subst z; exact ⟨_, Heap.get?_push_of_some _ htb⟩
        · exact ⟨o, hk b o z eb⟩)
      (fun b xs z => sv b _ (fun y => by rw [y, hP] at z; cases z) z) (fun b o u z => sv b _ (fun y => by rw [y, hP] at z; cases z) z) (fun b ps z => ⟨#[], by rw [sv b _ (fun y => by rw [y, hP] at z; cases z) z]; simp⟩)
      (fun m ⟨o, es, ep, ho, r⟩ => ⟨o, es, ep, hk _ o (nP _ I.free) ho, r⟩) hok3 I.bare
    refine ⟨.ref h'.objs.size, _, J, rfl, q _ _ (fr _ (Nat.le_of_lt (Nat.lt_of_le_of_lt hge hlt))) (fun b o z1 z2 => sv b o z1 z2) ⟨c' :: S, ?_, fun d hd => ?_⟩ ⟨_, c', ctv, oc, upd_same, ?_, vs, tq, doc, dq⟩⟩
    · rw [upd_ne (Ne.symm aP), upd_ne (Ne.symm cP), upd_same]
    · rcases List.mem_cons.mp hd with rfl | hd
      · exact ⟨oc, by rw [upd_ne (Ne.symm ac), upd_same], vs, tq, doc, dq⟩
      · obtain ⟨o, e1, e2⟩ := hS d hd
        exact ⟨o, sv d _ (fun y => by rw [y, hP] at e1; cases e1) e1, e2⟩
    · rw [upd_ne (Ne.symm ac), upd_same]
  | some cv =>
    obtain ⟨d, hd, rfl⟩ := tc _ _ hf
    obtain ⟨od, e1, e2⟩ := hS d hd
    refine PySem.W.kla_makeFunctionHit (mg := X.mg) hcl I.ok.glob hg hc C e t hf hb fun ctv h' tk hk hsz => ?_
    have fr : H h'.objs.size = none := I.hok.fresh hsz
    have sv : ∀ b o, H b = some o → upd H h'.objs.size (Fz (PySem.W.kla_obj "<lambda>" (X.env.qual ++ "<lambda>") params body scope clos ((X.mg "__name__").getD .none) d ctv)) b = some o := fun b o z => by
      rw [upd_ne (ne_of_none z fr)]; exact z
    refine ⟨.ref h'.objs.size, _, I.laid (a := h'.objs.size) (o := Fz (PySem.W.kla_obj "<lambda>" (X.env.qual ++ "<lambda>") params body scope clos ((X.mg "__name__").getD .none) d ctv)) (fun b o eb => Heap.get?_push_of_some _ (hk b o eb)) hsz (fz_ok (Heap.get?_push_size _ rfl)), rfl,
      q _ _ fr (fun b o _ z => sv b o z) ⟨S, sv _ _ hP, fun d' hd' => ?_⟩ ⟨_, d, ctv, od, upd_same, sv _ _ e1, e2⟩⟩
    obtain ⟨o, e3, e4⟩ := hS d' hd'
    exact ⟨o, sv _ _ e3, e4⟩
end
end L2

namespace L2
open PySem PySem.Spec PyProof.Rows
/-! ### the maker's cells, lent to those that it calls -/
abbrev Lend := Addr → Option Obj
def lend (f : Lend) (H : Hp) : Hp := fun b => match f b with
  | some o => some (Fz o)
  | none => H b
def unl (f : Lend) (H : Hp) : Hp := fun b => match f b with
  | some _ => none
  | none => H b
theorem lend_at {f : Lend} {H : Hp} {b : Addr} {o : Obj} (e : f b = some o) : lend f H b = some (Fz o) := by unfold lend; rw [e]
theorem lend_no {f : Lend} {H : Hp} {b : Addr} (e : f b = none) : lend f H b = H b := by unfold lend; rw [e]
theorem unl_at {f : Lend} {H : Hp} {b : Addr} {o : Obj} (e : f b = some o) : unl f H b = none := by unfold unl; rw [e]
theorem unl_no {f : Lend} {H : Hp} {b : Addr} (e : f b = none) : unl f H b = H b := by unfold unl; rw [e]
section
variable {P : Program} {w : World} {H H' : Hp} {h h' : Heap} {f : Lend} {fs : List Addr}
theorem hok_lend (x : HOk P w H h) (hf : ∀ b o, f b = some o → H b = none ∧ h.get? b = some o) : HOk P w (lend f H) h := fun b u q => by
  have keep : ∀ c v, H c = some v → lend f H c = some v := fun c v z => by
    cases e : f c with
    | none => rw [lend_no e]; exact z
    | some o => rw [(hf c o e).1] at z; cases z
  cases e : f b with
  | none =>
    rw [lend_no e] at q
    exact (x b u q).stay (fun _ _ _ z => z) (fun c z => keep c _ z) fun c xs z => keep c _ z
  | some o =>
    rw [lend_at e] at q
    cases q
    exact fz_ok (hf b o e).2
theorem hok_unl (x : HOk P w H h) (hf : ∀ b o, f b = some o → H b = some (Fz o)) : HOk P w (unl f H) h := fun b u q => by
  cases e : f b with
  | some o => rw [unl_at e] at q; cases q
  | none =>
    rw [unl_no e] at q
    refine (x b u q).stay (fun _ _ _ z => z) (fun c z => ?_) fun c xs z => ?_
    · cases e2 : f c with
      | none => rw [unl_no e2]; exact z
      | some o => rw [hf c o e2] at z; cases z
    · cases e2 : f c with
      | none => rw [unl_no e2]; exact z
      | some o => rw [hf c o e2] at z; cases z
/-- what a callee does to the lent heap, of the maker's own -/
theorem un_lent (hf : ∀ b o, f b = some o → H b = none ∧ h.get? b = some o) (u : Un fs [] (lend f H) H' h h') (hok : HOk P w H' h') : Un fs [] H (unl f H') h h' ∧ HOk P w (unl f H') h' := by
  have at' : ∀ b o, f b = some o → H' b = some (Fz o) := fun b o e => u.frzs b o _ (lend_at e)
  have nf : ∀ b v, H b = some v → f b = none := fun b v z => by
    cases e : f b with
    | none => rfl
    | some o => rw [(hf b o e).1] at z; cases z
  refine ⟨⟨fun b o e n hb hx => ?_, fun b o e n hb hx => ?_, fun b o e n hx => ?_, fun b o e hx => u.there b o e hx, fun b xs z => ?_, fun b o v z => ?_, fun b ps z => ?_⟩, hok_unl hok at'⟩
  · cases e2 : f b with
    | none => exact u.keep b o e (by rw [lend_no e2]; exact n) hb hx
    | some o2 =>
      have := (hf b o2 e2).2
      rw [e] at this
      cases this
      exact fz_get hok (at' b o e2)
  · cases e2 : f b with
    | none => exact u.slot b o e (by rw [lend_no e2]; exact n) hb hx
    | some o2 =>
      have := (hf b o2 e2).2
      rw [e] at this
      cases this
      exact ⟨o.slots, fz_get hok (at' b o e2)⟩
  · cases e2 : f b with
    | none => rw [unl_no e2]; exact u.free b o e (by rw [lend_no e2]; exact n) hx
    | some o2 => exact unl_at e2
  · rw [unl_no (nf b _ z)]; exact u.tups b xs (by rw [lend_no (nf b _ z)]; exact z)
  · rw [unl_no (nf b _ z)]; exact u.frzs b o v (by rw [lend_no (nf b _ z)]; exact z)
  · rw [unl_no (nf b _ z)]; exact u.tbls b ps (by rw [lend_no (nf b _ z)]; exact z)
/-- what a lambda's body does to the heap without the cells, of the whole -/
theorem un_back (hf : ∀ b o, f b = some o → H b = some (Fz o)) (hok0 : HOk P w H h) (hfs : ∀ b ∈ fs, H b = none) (u : Un fs [] (unl f H) H' h h') (hok : HOk P w H' h') : Un fs [] H (lend f H') h h' ∧ HOk P w (lend f H') h' := by
  have fr : ∀ b o, f b = some o → H' b = none ∧ h'.get? b = some o := fun b o e => by
    have g := fz_get hok0 (hf b o e)
    exact ⟨u.free b o g (unl_at e) (by simp), u.keep b o g (unl_at e) (fun z => by have := hfs b z; rw [hf b o e] at this; cases this) (by simp)⟩
  have nf : ∀ b, H b = none → f b = none := fun b z => by
    cases e : f b with
    | none => rfl
    | some o => rw [hf b o e] at z; cases z
  have nz : ∀ b v, H b = some v → (∀ o, v ≠ Fz o) → f b = none := fun b v z ne => by
    cases e : f b with
    | none => rfl
    | some o => rw [hf b o e] at z; exact absurd (Option.some.inj z).symm (ne o)
  refine ⟨⟨fun b o e n hb hx => u.keep b o e (by rw [unl_no (nf b n)]; exact n) hb hx, fun b o e n hb hx => u.slot b o e (by rw [unl_no (nf b n)]; exact n) hb hx, fun b o e n hx => ?_, fun b o e hx => u.there b o e hx, fun b xs z => ?_, fun b o v z => ?_, fun b ps z => ?_⟩, hok_lend hok fr⟩
  · rw [lend_no (nf b n)]; exact u.free b o e (by rw [unl_no (nf b n)]; exact n) hx
  · have e := nz b _ z (fun o q => by cases q)
    rw [lend_no e]; exact u.tups b xs (by rw [unl_no e]; exact z)
  · cases e : f b with
    | none => rw [lend_no e]; exact u.frzs b o v (by rw [unl_no e]; exact z)
    | some o2 => rw [lend_at e, ← hf b o2 e]; exact z
  · have e := nz b _ z (fun o q => by cases q)
    rw [lend_no e]; exact u.tbls b ps (by rw [unl_no e]; exact z)
end
structure Lent (X : Cx) (σ : St) (H : Hp) (f : Lend) : Prop where
  free : ∀ b o, f b = some o → H b = none
  cell : ∀ x c, X.env.cells.lookup x = some c → ∃ o v, f c = some o ∧ o.data = .cell v
  val : ∀ (i : Nat) x v, X.N[i]? = some x → σ[i]? = some (some v) → X.env.scope.names.lookup x = some .cell → ∃ c o u, X.env.cells.lookup x = some c ∧ f c = some o ∧ o.data = .cell (some u) ∧ RelV v u
  inj : ∀ x y c, X.env.cells.lookup x = some c → X.env.cells.lookup y = some c → x = y
theorem lent_of {X : Cx} {pins : List (Addr × Obj)} {σ : St} {H : Hp} {s : Shared} (I : Inv X pins σ H s) (hfn : ∀ x, X.fn x = true) : ∃ f : Lend, Lent X σ H f ∧ (∀ b o, f b = some o → H b = none ∧ s.heap.get? b = some o ∧ X.base.get? b = none ∧ b ∉ frs X.stack) := by
  classical
  let f : Lend := fun b => if (∃ x, X.env.cells.lookup x = some b) then s.heap.get? b else none
  have fe : ∀ {b o}, f b = some o → (∃ x, X.env.cells.lookup x = some b) ∧ s.heap.get? b = some o := fun {b o} e => by
    by_cases z : ∃ x, X.env.cells.lookup x = some b
    · exact ⟨z, by rw [show f b = s.heap.get? b from if_pos z] at e; exact e⟩
    · rw [show f b = none from if_neg z] at e; cases e
  have ff : ∀ {x c}, X.env.cells.lookup x = some c → f c = s.heap.get? c := fun {x c} e => if_pos ⟨x, e⟩
  refine ⟨f, ⟨fun b o e => ?_, fun x c e => ?_, fun i x v e1 e2 e3 => ?_, I.ok.inj⟩, fun b o e => ?_⟩
  · obtain ⟨⟨x, z⟩, _⟩ := fe e
    exact I.freeC x b z
  · obtain ⟨v, o, ho, hd⟩ := I.cell x c e
    exact ⟨o, v, by rw [ff e]; exact ho, hd⟩
  · obtain ⟨m, _, hl⟩ := I.loc
    obtain ⟨u, r, l⟩ := hl i x v e1 e2 (.inr (.inl e3))
    rcases l with ⟨k, _⟩ | ⟨_, c, ec, o, ho, hd⟩
    · have k' : X.env.scope.names.lookup x = some .local := k
      rw [e3] at k'; cases k'
    · exact ⟨c, o, u, ec, by rw [ff ec]; exact ho, hd, r⟩
  · obtain ⟨⟨x, z⟩, g⟩ := fe e
    refine ⟨I.freeC x b z, g, ?_, fun hb => ?_⟩
    · exact Heap.get?_none_of_le (Nat.le_trans I.ok.bsz (I.ok.cab x b (hfn x) z))
    · rcases List.mem_cons.mp (I.stkSub b hb) with e2 | hb
      · exact I.cne x b z e2
      · obtain ⟨_, ob, ho, _⟩ := I.ok.funs.mem hb
        exact absurd (Nat.lt_of_lt_of_le (Heap.lt_size ho) (I.ok.cab x b (hfn x) z)) (Nat.lt_irrefl _)
/-- a call, the cells lent -/
theorem run_lent {X : Cx} {k : Nat} {fa : Addr} {fd : FuncData} {ps : List Str} {sp : Sp} {pins : List (Addr × Obj)} {σ : St} {H : Hp} {s : Shared} {Q : VK} {us : List Value} {vs : List V} (hfn : ∀ x, X.fn x = true) (F : FnOk X.prog X.w X.K X.mg X.base CX0 k fa fd ps sp) (hr : Room k X.A) (hb : Binds X.K fd ps [])
    (I : Inv X pins σ H s) (r : Vals vs us) (h : ∀ f, Lent X σ H f → sp vs (lend f H) (fun v H' => Q v (unl f H')) E0) : wpAny (model X.prog X.w) X.A (call (.ref fa) us) (EP X pins σ Q) X.xe s := by
  obtain ⟨f, L, hf⟩ := lent_of I hfn
  have q := h f L
  have hl : (us ++ []).length = ps.length := by rw [List.append_nil, ← r.length]; exact F.len _ _ _ _ q
  have e0 : Env0 X.prog X.w X.K X.mg X.base X.A X.stack s (lend f H) := by
    have e := I.env0
    refine ⟨e.frames, e.mod, fun b o z => ⟨(e.bs b o z).1, ?_⟩, e.bsz, e.funs, fun b z => ?_, hok_lend e.hok fun b o z => ⟨(hf b o z).1, (hf b o z).2.1⟩, e.bare⟩
    · cases q2 : f b with
      | none => rw [lend_no q2]; exact (e.bs b o z).2
      | some ob => rw [(hf b ob q2).2.2.1] at z; cases z
    · cases q2 : f b with
      | none => rw [lend_no q2]; exact e.frf b z
      | some ob => exact absurd z (hf b ob q2).2.2.2
  have bd := hb s us I.kIn hl
  rw [List.append_nil] at bd
  refine wpAny_call (codeAny_mono (F.run X.A X.stack s (lend f H) ⟨us, []⟩ us vs _ E0 hr e0 bd r q) fun r s' hq => ?_)
  cases r with
  | error e => exact False.elim hq
  | ok fl =>
    cases fl with
    | ret u =>
      obtain ⟨v, H', os, bare, un, hok, rv, qv⟩ := hq
      obtain ⟨u1, u2⟩ := un_lent (fun b o z => ⟨(hf b o z).1, (hf b o z).2.1⟩) un hok
      exact I.after ⟨v, _, os, bare, u1, u2, rv, qv⟩
    | next => exact False.elim hq
    | brk => exact False.elim hq
    | cont => exact False.elim hq
/-- o.m(..), the cells lent -/
def tMethL (X : Cx) (C : Addr) (m : Str) (sp : Sp) (ta : TE) (t : TA) : TE := fun σ H Q => ta σ H fun x H1 => ∃ a dx fs, x = .ref a ∧ H1 a = some (.ins C dx fs) ∧ fs.lookup m = none ∧
  t σ H1 fun vs H2 => ∀ f, Lent X σ H2 f → sp (x :: vs) (lend f H2) (fun v H' => Q v (unl f H')) E0
section
variable {X : Cx} {k : Nat} {C : Addr} {ps : List Str} {sp : Sp} {x m : Str} {p pos apos : Pos} {e o : Expr} {es : List Expr} {t : TA} {ta : TE}
theorem pe_methL {pl : Sem Bool} (he : PE X o ta) (c : Cls X.K C) (G : KnownM X.prog X.w X.K X.mg X.base CX0 k C m ps sp) (hr : Room k X.A) (ha : PA X (e :: es) t) (hfn : ∀ x, X.fn x = true := by exact fun _ => rfl)
    (hst : starEach (e :: es) X.env = (false, eval e X.env) :: starEach es X.env := by rfl) (hpl : (backTo pos (starEach es X.env)).any (·.1) = false := by rfl)
    (ht : eval (.Call (.Attribute o m apos) (e :: es) [] pos) X.env = (do
      let ov ← eval o X.env
      standAt apos.atName
      let (f, first) ← holding [ov] (getMethod ov m pl)
      callWith pos f first (backTo pos (starEach (e :: es) X.env)) (backToKw pos (keywordEach [] X.env))) := by rfl) :
    PE X (.Call (.Attribute o m apos) (e :: es) [] pos) (tMethL X C m sp ta t) := by
  obtain ⟨f, fd, F, hm, hb⟩ := G.ex
  intro pins s σ H Q I h
  refine PySem.W.methodCall_KW (pl := pl) (thn (he pins s σ H _ I h) fun u s1 ⟨x, H1, I1, rx, a, dx, fs, ex, ea, l, q⟩ => ?_) ht
  subst ex
  obtain rfl : u = Value.ref a := rx
  refine getmeth_ok I1 ea c hm l ?_
  refine PySem.W.callWith_K (first := [.ref a]) (h₀ := X.base) I.ok.mod.kin hm.kp (thn (ha pos pins s1 σ H1 _ I1 q) fun us s2 ⟨vs, H2, I2, r, q2⟩ => ⟨I2.kIn, ?_⟩) hst hpl
  exact run_lent (us := .ref a :: us) (vs := .ref a :: vs) hfn F hr hb I2 (.cons rfl r) q2
end
/-! ### a lambda runs -/
structure LamFn (P : Program) (w : World) (K : PySem.W.Frag) (mg : Str → Option Value) (base : Heap) (k : Nat) (fa : Addr) (sp : Sp) : Prop where
  fn : ∀ vs H Q E, sp vs H Q E → ∃ c d fd sl, H fa = some (Fz ⟨c, d, .func fd, sl⟩)
  run : ∀ (A : Around) (outer : List Env) (s : Shared) (H : Hp) (us : List Value) (vs : List V) (Q : VK) (E : XK), Room k A → Env0 P w K mg base A outer s H → Vals vs us → sp vs H Q E →
    codeAny (model P w) A (.call (.ref fa) ⟨us, []⟩) (CR CX0 outer P w H s Q E) s
theorem LamFn.imp {P : Program} {w : World} {K : PySem.W.Frag} {mg : Str → Option Value} {base : Heap} {k : Nat} {fa : Addr} {sp sp' : Sp} (F : LamFn P w K mg base k fa sp) (h : ∀ vs H Q E, sp' vs H Q E → sp vs H Q E) : LamFn P w K mg base k fa sp' :=
  ⟨fun vs H Q E z => F.fn vs H Q E (h _ _ _ _ z), fun A outer s H us vs Q E hr e0 r z => F.run A outer s H us vs Q E hr e0 r (h _ _ _ _ z)⟩
def tCallV (P : Program) (w : World) (K : PySem.W.Frag) (mg : Str → Option Value) (base : Heap) (k : Nat) (i : Nat) (t : TA) : TE := fun σ H Q => ∃ fa sp, σ[i]? = some (some (.ref fa)) ∧ LamFn P w K mg base k fa sp ∧ t σ H fun vs H1 => sp vs H1 Q E0
section
variable {X : Cx} {k : Nat} {x : Str} {p pos : Pos} {e : Expr} {es : List Expr} {t : TA}
theorem pe_callV (i : Nat) (hr : Room k X.A) (ha : PA X (e :: es) t) (hN : X.N[i]? = some x := by rfl) (hv : Vis X.env.scope x := by first | exact Or.inl rfl | exact Or.inr (Or.inl rfl) | exact Or.inr (Or.inr rfl)) (hd : (x == ("__debug__" : Str)) = false := by decide)
    (hcd : (x == ("__classdict__" : Str)) = false := by decide) (he : starEach (e :: es) X.env = (false, eval e X.env) :: starEach es X.env := by rfl) (hpl : (backTo pos (starEach es X.env)).any (·.1) = false := by rfl) :
    PE X (.Call (.Name x p) (e :: es) [] pos) (tCallV X.prog X.w X.K X.mg X.base k i t) := by
  intro pins s σ H Q I h
  obtain ⟨fa, sp, e1, F, h⟩ := h
  refine wpAny_Call_Name_kw (thn (pe_var hN hv hd hcd pins s σ H (fun v H1 => v = .ref fa ∧ H1 = H) I ⟨_, e1, rfl, rfl⟩) fun u s1 ⟨v, H1, I1, rv, q⟩ => ?_)
  obtain ⟨rfl, rfl⟩ := q
  obtain rfl : u = Value.ref fa := rv
  show wpAny _ _ (callWith pos (.ref fa) [] (backTo pos (starEach (e :: es) X.env)) []) _ _ _
  rw [he]
  refine PySem.W.callWith_of (P := fun h => ∃ c d fd sl, h.get? fa = some ⟨c, d, .func fd, sl⟩) (by show ((false || (backTo pos (starEach es X.env)).any (·.1)) || false) = false; rw [hpl]; rfl)
    (fun h ⟨c, d, fd, sl, z⟩ => ⟨.frame, .inl rfl, (PySem.W.Looks.ld (part := none) z).andThen .now⟩) (PySem.Calls.evalArgs_plain ?_)
  have ha' := ha pos pins s1 σ H1 _ I1 h
  rw [he] at ha'
  refine thn ha' fun us s2 ⟨vs, H2, I2, r, q2⟩ => ?_
  obtain ⟨c, d, fd, sl, z⟩ := F.fn _ _ _ _ q2
  refine ⟨⟨c, d, fd, sl, fz_get I2.hok z⟩, ?_⟩
  refine wpAny_call (codeAny_mono (F.run X.A X.stack s2 H2 us vs Q E0 hr I2.env0 r q2) fun r s' hq => ?_)
  cases r with
  | error e => exact False.elim hq
  | ok fl =>
    cases fl with
    | ret u => exact I2.after hq
    | next => exact False.elim hq
    | brk => exact False.elim hq
    | cont => exact False.elim hq
end
end L2

namespace L2
open PySem PySem.Spec PyProof.Rows
/-! ### what a lambda promises -/
theorem lookup_mem {α : Type} {x : Str} {u : α} : ∀ {l : List (Str × α)}, (l.map (·.1)).Nodup → (x, u) ∈ l → l.lookup x = some u
  | (y, v) :: r, nd, h => by
    rw [List.map_cons, List.nodup_cons] at nd
    rw [List.lookup_cons]
    rcases List.mem_cons.mp h with e | h2
    · cases e; rw [beq_self_eq_true]
    · have : (x == y) = false := by
        cases z : x == y with
        | false => rfl
        | true =>
          have : x = y := by simpa using z
          subst this
          exact absurd (show x ∈ r.map (·.1) from List.mem_map.mpr ⟨(x, u), h2, rfl⟩) nd.1
      rw [this]
      exact lookup_mem nd.2 h2
theorem zip_get {ps : List Str} {us : List Value} {i : Nat} {x : Str} {u : Value} (nd : ps.Nodup) (hl : us.length = ps.length) (h1 : ps[i]? = some x) (h2 : us[i]? = some u) : (ps.zip us).reverse.lookup x = some u := by
  refine lookup_mem ?_ ?_
  · rw [List.map_reverse]
    refine List.pairwise_reverse.mpr ?_
    rw [List.map_fst_zip (by omega)]
    exact nd.imp Ne.symm
  · rw [List.mem_reverse]
    have : (ps.zip us)[i]? = some (x, u) := by rw [List.getElem?_zip_eq_some]; exact ⟨h1, h2⟩
    exact List.mem_of_getElem? this
/-- the context of a lambda's body -/
def cxLam (P : Program) (w : World) (K : PySem.W.Frag) (mg : Str → Option Value) (base : Heap) (N : List Str) (q : Str) (scope : Scope) (fa : Addr) (cd : Value) (clos : List (Str × Addr)) (A : Around) (outer : List Env) (s : Shared) (H : Hp) : Cx where
  prog := P
  w := w
  K := K
  mg := mg
  base := base
  A := A.deeper (PySem.W.envX q scope s.heap.objs.size fa cd clos)
  N := N
  s₀ := s
  H₀ := H
  env := PySem.W.envX q scope s.heap.objs.size fa cd clos
  outer := outer
  stack := PySem.W.envX q scope s.heap.objs.size fa cd clos :: outer
  ex := []
  calm := true
  fn := fun _ => false
  pn := []
  xe := fun _ _ => False
def spLam (fa : Addr) (f : Lend) (q : Str) (params : Arguments) (body : Expr) (scope : Scope) (clos : List (Str × Addr)) (n : Nat) (spB : List V → Hp → VK → Prop) : Sp := fun vs H Q _ =>
  vs.length = n ∧ LamAt q params body scope clos H fa ∧ (∀ b o, f b = some o → H b = some (Fz o)) ∧ spB vs (unl f H) fun v H' => (∀ b o, f b = some o → H' b = none) → Q v (lend f H')
theorem lam_of {X : Cx} {σ : St} {H₁ : Hp} {f : Lend} {q : Str} {params : Arguments} {body : Expr} {scope : Scope} {fa : Addr} {ps : List Str} {cp : List (Nat × Str)} {cv : List V} {k : Nat} {spB : List V → Hp → VK → Prop} (L : Lent X σ H₁ f)
    (hcell : ∀ x, X.env.scope.names.lookup x = some .cell → ∃ c, X.env.cells.lookup x = some c)
    (hcv : cp.map (fun p => σ[p.1]?) = cv.map fun v => some (some v))
    (hcp : ∀ p ∈ cp, X.N[p.1]? = some p.2 ∧ X.env.scope.names.lookup p.2 = some .cell ∧ scope.names.lookup p.2 = some .free)
    (free : ∀ y ∈ scope.names, y.2 = .free → X.env.scope.names.lookup y.1 = some .cell)
    (kind : scope.kind = .function) (co : scope.isCoroutine = false) (gen : scope.isGenerator = false) (nocell : ∀ y ∈ scope.names, y.2 ≠ .cell) (par : ∀ x ∈ ps, scope.names.lookup x = some .local) (nd : (ps ++ cp.map (·.2)).Nodup)
    (hb : ∀ (pm ctv : Value) (c : Addr) (clos : List (Str × Addr)) (us : List Value), us.length = ps.length → bindArgs (PySem.W.kla_fn "<lambda>" q params body scope clos pm (.ref c) ctv) ⟨us, []⟩ = pure (ps.zip us))
    (hbody : ∀ (cd : Value) (A : Around) (outer : List Env) (s : Shared) (H : Hp) (vs : List V) (Q : VK), Room k (A.deeper (PySem.W.envX q scope s.heap.objs.size fa cd (clFold X.env.cells scope.names []))) → spB vs H Q →
      ∃ t, PE (cxLam X.prog X.w X.K X.mg X.base (ps ++ cp.map (·.2)) q scope fa cd (clFold X.env.cells scope.names []) A outer s H) body t ∧ t ((vs ++ cv).map some) H Q) :
    LamFn X.prog X.w X.K X.mg X.base (k + 1) fa (spLam fa f q params body scope (clFold X.env.cells scope.names []) ps.length spB) := by
  have sub := clFold_sub (cells := X.env.cells) (names := scope.names) (acc := []) (fun y hy e => hcell _ (free y hy e)) (fun x c e => by cases e)
  refine ⟨fun vs H Q E ⟨_, ⟨pm, c, ctv, o, e1, _⟩, _⟩ => ⟨_, _, _, _, e1⟩, fun A outer s H us vs Q E hr e0 r ⟨hl, ⟨pm, c, ctv, o, e1, e2, ws, tq, e3, e4⟩, hf, hsp⟩ => ?_⟩
  have hus : us.length = ps.length := by rw [← r.length]; exact hl
  have hcd : s.heap.CodeRec (.ref c) q := ⟨c, o, ws, tq, rfl, fz_get e0.hok e2, e3, e4⟩
  have lim : s.heap.NoLimit := e0.mod.nolimit.keeps fun b o e => (e0.bs b o e).1
  refine PySem.W.kla_callFunE hr.depth (fz_get e0.hok e1) rfl co gen rfl hcd ?_
  rw [hb pm ctv c _ us hus]
  refine wpAny_pure (wpAny_newFunctionEnv nocell (fun y hy => par y.1 (List.of_mem_zip hy).1) (fun h₁ hns hsb => ⟨lim.fresh _ hsb, ?_⟩) kind)
  show codeAny _ _ (.expr body (PySem.W.envX q scope s.heap.objs.size fa (.ref c) (clFold X.env.cells scope.names []))) _ _
  have hk : ∀ b o, s.heap.get? b = some o → h₁.get? b = some o := fun b o e => hsb.extBut b o (Nat.ne_of_lt (Heap.lt_size e)) (Heap.get?_push_of_some _ e)
  obtain ⟨t, ht, hq⟩ := hbody (.ref c) A outer s (unl f H) vs _ (hr.deeper _) hsp
  have hok' : HOk X.prog X.w (unl f H) s.heap := hok_unl e0.hok hf
  have hl2 : (vs ++ cv).length = (ps ++ cp.map (·.2)).length := by
    rw [List.length_append, List.length_append, List.length_map, hl]
    have := congrArg List.length hcv
    rw [List.length_map, List.length_map] at this
    omega
  have cl : ∀ x c, (clFold X.env.cells scope.names []).lookup x = some c → ∃ o v, f c = some o ∧ o.data = .cell v ∧ h₁.get? c = some o := fun x c e => by
    obtain ⟨o, v, h1, h2⟩ := L.cell x c (sub x c e)
    exact ⟨o, v, h1, h2, hk _ _ (fz_get e0.hok (hf c o h1))⟩
  have unN : ∀ b, H b = none → unl f H b = none := fun b z => by
    cases e : f b with
    | none => rw [unl_no e]; exact z
    | some o => exact unl_at e
  have I : Inv (cxLam X.prog X.w X.K X.mg X.base (ps ++ cp.map (·.2)) q scope fa (.ref c) (clFold X.env.cells scope.names []) A outer s (unl f H)) [] ((vs ++ cv).map some) (unl f H) { s with heap := h₁, toks := s.toks + (ps.zip us).length } := by
    have noA : ∀ b : Addr, b ∉ (cxLam X.prog X.w X.K X.mg X.base (ps ++ cp.map (·.2)) q scope fa (.ref c) (clFold X.env.cells scope.names []) A outer s (unl f H)).ex := fun b z => absurd (show b ∈ ([] : List Addr) from z) (by simp)
    refine ⟨⟨e0.mod, kind, rfl, rfl, Nat.le_refl _, fun y z c h1 h2 => L.inj y z c (sub _ _ h1) (sub _ _ h2), fun y hy => ?_, (fun y c z _ => by cases z), fun _ => hr.hd, Around.frames_deeper e0.frames, .inr ⟨rfl, rfl⟩, fun b z => absurd z (noA b), fun b o z => ⟨(e0.bs b o z).1, unN b (e0.bs b o z).2⟩, e0.bsz, fun b _ _ => noA b, fun b z => absurd z (noA b), e0.funs, fun b z => unN b (e0.frf b z)⟩,
      rfl, e0.bare, Un.kept hk, ⟨_, hns, fun i y v h1 h2 h3 => ?_⟩, fun y c h => ?_, hok'.fresh (Nat.le_refl _), fun y c h => ?_, fun p hp => absurd (show p ∈ ([] : List (Addr × Obj)) from hp) (by simp), hok'.kept hk, by rw [List.length_map]; exact hl2⟩
    · have hy' : scope.names.lookup y = some .cell ∨ scope.names.lookup y = some .free := hy
      rcases hy' with hy' | hy'
      · exact absurd rfl (nocell _ (PySem.mem_of_lookup hy'))
      · exact clFold_has (PySem.mem_of_lookup hy')
    · rw [List.getElem?_map] at h2
      have h2' : (vs ++ cv)[i]? = some v := by
        cases z : (vs ++ cv)[i]? with
        | none => rw [z] at h2; cases h2
        | some v' => rw [z] at h2; cases h2; rfl
      by_cases hi : i < ps.length
      · have h1' : ps[i]? = some y := by
          have : (ps ++ cp.map (·.2))[i]? = some y := h1
          rw [List.getElem?_append_left hi] at this
          exact this
        rw [List.getElem?_append_left (by omega)] at h2'
        obtain ⟨u, hu, ru⟩ := r.get h2'
        exact ⟨u, ru, .inl ⟨par y (List.mem_of_getElem? h1'), zip_get (List.nodup_append.mp nd).1 hus h1' hu⟩⟩
      · have h1' : (cp.map (·.2))[i - ps.length]? = some y := by
          have : (ps ++ cp.map (·.2))[i]? = some y := h1
          rw [List.getElem?_append_right (by omega)] at this
          exact this
        rw [List.getElem?_append_right (by omega), hl] at h2'
        rw [List.getElem?_map] at h1'
        cases hp : cp[i - ps.length]? with
        | none => rw [hp] at h1'; cases h1'
        | some p =>
          rw [hp] at h1'
          cases h1'
          have h4 : σ[p.1]? = some (some v) := by
            have := congrArg (fun l => l[i - ps.length]?) hcv
            simp only [List.getElem?_map, hp, h2', Option.map_some] at this
            exact Option.some.inj this
          obtain ⟨g1, g2, g3⟩ := hcp p (List.mem_of_getElem? hp)
          obtain ⟨c', o', u, k1, k2, k3, k4⟩ := L.val p.1 p.2 v g1 h4 g2
          obtain ⟨c2, k5⟩ := clFold_has (cells := X.env.cells) (acc := []) (PySem.mem_of_lookup g3)
          have k6 := sub _ _ k5
          rw [k1] at k6
          cases k6
          exact ⟨u, k4, .inr ⟨.inr g3, c', k5, o', hk _ _ (fz_get e0.hok (hf c' o' k2)), k3⟩⟩
    · obtain ⟨o, v, _, z1, z2⟩ := cl y c h
      exact ⟨v, o, z2, z1⟩
    · obtain ⟨o, v, z, _⟩ := cl y c h
      exact unl_at z
  refine PySem.W.kla_codeExpr (wpAny_mono (ht [] _ _ _ _ I hq) (fun u s' ⟨v, H', J, rv, qv⟩ => ?_) fun e s' hs => False.elim hs)
  obtain ⟨u1, u2⟩ := un_back hf e0.hok e0.frf (show Un (frs outer) [] (unl f H) H' s.heap s'.heap from J.base) J.hok
  exact ⟨v, lend f H', J.os, J.bare, u1, u2, rv, qv fun b o e => J.base.free b o (fz_get e0.hok (hf b o e)) (unl_at e) (by simp [cxLam])⟩
/-! ### the head, with tables of code that is called -/
abbrev TabsIn0 (tabs : List (Addr × Addr)) (H : Hp) : Prop := ∀ z ∈ tabs, H z.2 = some (TabC z.2 [])
abbrev TabsOut (tabs : List (Addr × Addr)) (H : Hp) : Prop := ∀ z ∈ tabs, ∃ S, H z.2 = some (TabC z.2 S)
theorem law_callC {P : Program} {w : World} {K : PySem.W.Frag} {mg mb : Str → Option Value} {CX : CXT} {k : Nat} {fa a : Addr} {fd : FuncData} {x : Str} {sp : Sp} {s₁ : Shared} {vs : List Value} {ns : List Int} {tabs : List (Addr × Addr)}
    (KX : K.In s₁.heap) (hns : s₁.heap.Ns mainGlobals mg) (hb : s₁.heap.Ns builtinsNs mb) (hbb : ∀ x : Str, x ≠ "__name__" → mb x = bootBuiltins x) (hlim : s₁.heap.NoLimit) (hg : s₁.gens = #[])
    (ha : s₁.heap.get? a = some { cls := .type "list", data := .seq vs.toArray }) (hi : IntsAre vs ns) (hl : ns.length ≤ sizeLine) (hr : Room k callerA)
    (hT : ∀ z ∈ tabs, PySem.W.CodeHd s₁.heap z.1 z.2 ∧ s₁.heap.get? z.2 = some (PySem.W.tabObj #[]) ∧ K.lookup z.2 = none)
    (hbm : ∃ bm ob, mg "__builtins__" = some (.ref bm) ∧ bm ≠ builtinsNs ∧ s₁.heap.get? bm = some ob ∧ ob.cls = .type "module" ∧ ob.dict = some builtinsNs ∧ ob.data = .plain)
    (F : ∀ base : Heap, K.In base → base.Ns mainGlobals mg → (∀ z ∈ tabs, Maker mg base z.1 z.2) → FnOk P w K mg base CX k fa fd [x] sp) (hbind : ∀ (s : Shared) (u : Value), BindsTo s fd ⟨[u], []⟩ [(x, u)])
    (hsp : ∀ H : Hp, TabsIn0 tabs H → SqL K H a (ns.map V.int) → sp [.ref a] H (fun v H' => v = .bl true ∧ TabsOut tabs H') fun _ _ _ => False)
    (hCX : ∀ H e s', CX [] H s₁ (fun _ _ _ => False) e s' → False) :
    codeAny (model P w) callerA (.call (.ref fa) ⟨[.ref a], []⟩) (fun r s' => r = .ok (.ret (.bool true)) ∧ OldK s₁.heap s'.heap ∧ s'.os = s₁.os ∧ AllBare s'.gens) s₁ := by
  have rv := vals_ints hi
  have lenV := hi.length
  have neT : ∀ z ∈ tabs, z.2 ≠ a := fun z hz e => by
    have e1 := (hT z hz).2.1
    rw [e, ha] at e1
    cases e1
  have core : ∀ H : Hp, TabsIn0 tabs H → (∀ b, H b = none ∨ (b = a ∧ K.lookup a = none ∧ ∃ o xs, H b = some (.frz o (.lst xs))) ∨ ∃ z ∈ tabs, b = z.2) → SqL K H a (ns.map V.int) → HOk P w H s₁.heap →
      codeAny (model P w) callerA (.call (.ref fa) ⟨[.ref a], []⟩) (fun r s' => r = .ok (.ret (.bool true)) ∧ OldK s₁.heap s'.heap ∧ s'.os = s₁.os ∧ AllBare s'.gens) s₁ := by
    intro H hTb hO hS hok
    have base_of : ∀ {b : Addr} {o : Obj}, s₁.heap.get? b = some o → H b = none → (hidT s₁.heap H).get? b = some o := fun e n => hidT_get e n
    have free : ∀ {b : Addr} {o : Obj}, s₁.heap.get? b = some o → o ≠ { cls := .type "list", data := .seq vs.toArray } → o ≠ PySem.W.tabObj #[] → H b = none := fun {b o} e n1 n2 => by
      rcases hO b with z | ⟨rfl, _, _⟩ | ⟨z, hz, rfl⟩
      · exact z
      · rw [ha] at e; exact absurd (Option.some.inj e).symm n1
      · rw [(hT z hz).2.1] at e; exact absurd (Option.some.inj e).symm n2
    have noA : ∀ {b : Addr} {o : Obj} {es : Array DictEntry} {ep : Nat}, s₁.heap.get? b = some o → o.data = .dict es ep → H b = none := fun {b o es ep} e d =>
      free e (fun z => by rw [z] at d; cases d) (fun z => by rw [z] at d; cases d)
    have nsK : ∀ {b : Addr} {m : Str → Option Value}, s₁.heap.Ns b m → (hidT s₁.heap H).Ns b m := fun {b m} ⟨o, es, ep, e, d, r⟩ => ⟨o, es, ep, base_of e (noA e d), d, r⟩
    have hKb : K.In (hidT s₁.heap H) := fun b o e => base_of (KX b o e) (by
      rcases hO b with z | ⟨rfl, z, _⟩ | ⟨z, hz, rfl⟩
      · exact z
      · rw [z] at e; cases e
      · rw [(hT z hz).2.2] at e; cases e)
    have hM : Mod K mg (hidT s₁.heap H) := ⟨hKb, nsK hns, ⟨mb, nsK hb, hbb⟩, let ⟨mc, h1, h2⟩ := hlim; ⟨mc, nsK h1, h2⟩⟩
    have e0 : Env0 P w K mg (hidT s₁.heap H) callerA [] s₁ H := ⟨rfl, hM, fun b o e => of_hidT e, Nat.le_of_eq (hidT_size _ _), trivial, fun b hb => absurd (show b ∈ ([] : List Addr) from hb) (by simp), hok, .of_eq hg⟩
    have hMk : ∀ z ∈ tabs, Maker mg (hidT s₁.heap H) z.1 z.2 := fun z hz => by
      obtain ⟨⟨o, ws, file, tf, flags, tg, inF, text, tt, e1, e2, r⟩, e3, _⟩ := hT z hz
      obtain ⟨bm, ob, b1, b2, b3, b4, b5, b6⟩ := hbm
      refine ⟨⟨o, ws, file, tf, flags, tg, inF, text, tt, base_of e1 (free e1 (fun q => by rw [q] at e2; exact absurd (Value.type.inj e2) (by decide)) (fun q => by rw [q] at e2; cases e2)), e2, r⟩, bm, ob, b1, b2, fun q => ?_, fun q => ?_, base_of b3 (free b3 (fun q => by rw [q] at b4; exact absurd (Value.type.inj b4) (by decide)) (fun q => by rw [q] at b4; cases b4)), b4, b5, b6⟩
      · obtain ⟨o', es, ep, e', d', _⟩ := hns
        rw [q, e'] at b3; cases b3; rw [d'] at b6; cases b6
      · rw [q, e3] at b3; cases b3; cases b4
    refine codeAny_mono ((F _ hKb (nsK hns) hMk).run callerA [] s₁ H ⟨[.ref a], []⟩ [.ref a] [.ref a] _ _ hr e0 (hbind s₁ (.ref a)) (.cons rfl .nil) (hsp H hTb hS)) fun r s' h => ?_
    cases r with
    | error e => exact (hCX H e s' h).elim
    | ok fl =>
      cases fl with
      | next => exact False.elim h
      | brk => exact False.elim h
      | cont => exact False.elim h
      | ret u =>
        obtain ⟨v, H', os, bare, un, hok', r', q⟩ := h
        obtain ⟨q', hT'⟩ : v = .bl true ∧ TabsOut tabs H' := q
        subst q'
        obtain rfl : u = Value.bool true := r'
        refine ⟨rfl, ⟨fun b o e => ?_, fun b o e => un.there b o e (by simp)⟩, os, bare⟩
        rcases hO b with z | ⟨rfl, _, ob, xs, z⟩ | ⟨z, hz, rfl⟩
        · exact .inl (un.keep b o e z (by intro z; exact absurd (show b ∈ ([] : List Addr) from z) (by simp)) (by simp))
        · have z2 := un.frzs b ob _ z
          obtain ⟨e1, _⟩ := hok b _ z
          obtain ⟨e2, _⟩ := hok' b _ z2
          rw [e] at e1; cases e1
          exact .inl e2
        · obtain ⟨S4, z4⟩ := hT' z hz
          obtain ⟨⟨ps, e4, _⟩, _⟩ := hok' z.2 _ z4
          have e3 := (hT z hz).2.1
          rw [e3] at e
          cases e
          exact .inr (.inl ⟨((hT z hz).1.tab e3).isCodeTable, rfl, #[], ps, rfl, by rw [e4, Array.empty_append]⟩)
  have hTok : ∀ (H : Hp) (z : Addr × Addr), z ∈ tabs → ObjOk P w H s₁.heap z.2 (TabC z.2 []) := fun H z hz => tabC_ok (hT z hz).2.1 trivial fun pos cv e => by cases e
  classical
  let Ht : Hp := fun b => if b ∈ tabs.map (·.2) then some (TabC b []) else none
  have hHt : TabsIn0 tabs Ht := fun z hz => if_pos (List.mem_map_of_mem hz)
  have ofHt : ∀ b u, Ht b = some u → ∃ z ∈ tabs, b = z.2 ∧ u = TabC z.2 [] := fun b u e => by
    by_cases hb : b ∈ tabs.map (·.2)
    · have e' := (if_pos hb).symm.trans e
      obtain ⟨z, hz, rfl⟩ := List.mem_map.mp hb
      exact ⟨z, hz, rfl, (Option.some.inj e').symm⟩
    · have e' := (if_neg hb).symm.trans e
      cases e'
  cases hk : K.lookup a with
  | some o =>
    have e := KX a o hk
    rw [ha] at e
    cases e
    refine core Ht hHt (fun b => ?_) (.inr ⟨_, vs.toArray, _, hk, rfl, rfl, rfl, by rw [List.size_toArray, lenV]; exact hl, by simpa using rv⟩) (fun b u z => ?_)
    · cases q : Ht b with
      | none => exact .inl rfl
      | some u => obtain ⟨z, hz, e, _⟩ := ofHt b u q; exact .inr (.inr ⟨z, hz, e⟩)
    · obtain ⟨y, hy, rfl, rfl⟩ := ofHt b u z
      exact hTok _ y hy
  | none =>
    refine core (fun b => if b = a then some (.frz { cls := .type "list", data := .seq vs.toArray } (.lst (ns.map V.int))) else Ht b) (fun z hz => ?_) (fun b => ?_) (.inl (.inr ⟨{ cls := .type "list", data := .seq vs.toArray }, if_pos rfl⟩)) (fun b u z => ?_)
    · exact (if_neg (neT z hz)).trans (hHt z hz)
    · by_cases hb : b = a
      · exact .inr (.inl ⟨hb, hk, _, _, if_pos hb⟩)
      · cases q : Ht b with
        | none => exact .inl (if_neg hb)
        | some u => obtain ⟨z, hz, e, _⟩ := ofHt b u q; exact .inr (.inr ⟨z, hz, e⟩)
    · by_cases hb : b = a
      · have z' := (if_pos hb).symm.trans z
        cases z'
        subst hb
        exact ⟨ha, by rw [List.length_map]; exact hl, vs, _, rv, ha⟩
      · have z' := (if_neg hb).symm.trans z
        obtain ⟨y, hy, rfl, rfl⟩ := ofHt b u z'
        exact hTok _ y hy
theorem walk_ofC {l : PySem.W.OpenLaw} {n k : Nat} {q : Program} {loose : List Str} {XP : (Str → Option Value) → Heap → Prop} {YP : World → Heap → Prop} {d : DefRec} {K : Params → PySem.W.Frag} {CX : World → CXT} {sp : World → List (Addr × Addr) → Sp} {x : Str}
    (hn : l.most = some n) (hn2 : n ≤ sizeLine) (hdf : d.params.defaults = []) (hr : Room k callerA)
    (hY : ∀ (w : World) (h : Heap), YP w h → (K w.params).In h)
    (F : ∀ (w : World) (mg : Str → Option Value) (fa : Addr) (h : Heap), (K w.params).In h → h.Ns mainGlobals mg → mg d.name = some (.ref fa) →
      PySem.W.noTabs (K w.params) = true ∧ ∃ tabs : List (Addr × Addr), (∀ z ∈ tabs, TabOf q (K w.params) z) ∧ ∃ fd : FuncData, (∀ (s : Shared) (u : Value), BindsTo s fd ⟨[u], []⟩ [(x, u)]) ∧
        ∀ base : Heap, (K w.params).In base → base.Ns mainGlobals mg → (∀ z ∈ tabs, Maker mg base z.1 z.2) → FnOk l.prog w (K w.params) mg base (CX w) k fa fd [x] (sp w tabs))
    (hsp : ∀ (w : World) (tabs : List (Addr × Addr)) (H : Hp) (a : Addr) (ns : List Int), ns.length ≤ n → TabsIn0 tabs H → SqL (K w.params) H a (ns.map V.int) → sp w tabs [.ref a] H (fun v H' => v = .bl true ∧ TabsOut tabs H') fun _ _ _ => False)
    (hCX : ∀ (w : World) (H : Hp) (s : Shared) (e : Value) (s' : Shared), CX w [] H s (fun _ _ _ => False) e s' → False) :
    PySem.W.WalkO q loose XP YP l.row.toRowW d [] (fun f vs => PySem.call f vs) := by
  refine Att.attach_call hn hdf fun w s₀ s₁ mg mb fa o pm cd doc a vs ns G Y ho hd hcd hmg hobj hints hlen hg => ?_
  have KX := hY w _ Y
  obtain ⟨hnT, tabs, hTb, fd, hb, hF⟩ := F w mg fa _ KX G.T.g hmg
  refine law_callC KX G.T.g G.T.b G.T.builtins G.T.nolimit hg hobj hints (Nat.le_trans hlen hn2) hr (fun z hz => ?_) G.T.bmain hF hb (fun H hO hS => hsp w tabs H a ns hlen hO hS) fun H e s' => hCX w H s₁ e s'
  obtain ⟨y, h1, h2⟩ := (hTb z hz).ex
  obtain ⟨d', h1⟩ := Option.isSome_iff_exists.mp h1
  obtain ⟨t1, t2⟩ := PySem.W.tab_of G.T KX h1 h2
  exact ⟨t1, t2, noTab hnT KX t2⟩
end L2

namespace L2
open PySem PySem.Spec PyProof.Rows
/-! ### o.f(..), f a field of the instance: a lambda -/
def tCallF (P : Program) (w : World) (K : PySem.W.Frag) (mg : Str → Option Value) (base : Heap) (k : Nat) (m : Str) (ta : TE) (t : TA) : TE := fun σ H Q => ta σ H fun x H1 => ∃ a C dx fs fa sp, x = .ref a ∧ H1 a = some (.ins C dx fs) ∧ Cls K C ∧ NoAttr K C m ∧ fs.lookup m = some (.ref fa) ∧ LamFn P w K mg base k fa sp ∧ t σ H1 fun vs H2 => sp vs H2 Q E0
section
variable {X : Cx} {k : Nat} {m : Str} {p pos apos : Pos} {e o : Expr} {es : List Expr} {ta : TE} {t : TA}
theorem pe_callF {pl : Sem Bool} (he : PE X o ta) (hr : Room k X.A) (ha : PA X (e :: es) t)
    (hst : starEach (e :: es) X.env = (false, eval e X.env) :: starEach es X.env := by rfl) (hpl : (backTo pos (starEach es X.env)).any (·.1) = false := by rfl)
    (ht : eval (.Call (.Attribute o m apos) (e :: es) [] pos) X.env = (do
      let ov ← eval o X.env
      standAt apos.atName
      let (f, first) ← holding [ov] (getMethod ov m pl)
      callWith pos f first (backTo pos (starEach (e :: es) X.env)) (backToKw pos (keywordEach [] X.env))) := by rfl) :
    PE X (.Call (.Attribute o m apos) (e :: es) [] pos) (tCallF X.prog X.w X.K X.mg X.base k m ta t) := by
  intro pins s σ H Q I h
  refine PySem.W.methodCall_KW (pl := pl) (thn (he pins s σ H _ I h) fun u s1 ⟨x, H1, I1, rx, a, C, dx, fs, fa, sp, ex, ea, c, n, l, F, q⟩ => ?_) ht
  subst ex
  obtain rfl : u = Value.ref a := rx
  obtain ⟨mA, O, _, _, _, _⟩ := ins_get I1.hok ea
  obtain ⟨od, J, _⟩ := O.look
  refine PySem.W.method_usual (r := none) I1.kIn J (PySem.W.plainGet_of (c.get m)).1 (PySem.W.plainGet_of (c.get m)).2 n rfl ?_
  refine getattr_ok I1 ea c n l fun u2 s2 I2 ru => ?_
  obtain rfl : u2 = Value.ref fa := ru
  show wpAny _ _ (callWith pos (.ref fa) [] (backTo pos (starEach (e :: es) X.env)) []) _ _ _
  rw [hst]
  refine PySem.W.callWith_of (P := fun h => ∃ c d fd sl, h.get? fa = some ⟨c, d, .func fd, sl⟩) (by show ((false || (backTo pos (starEach es X.env)).any (·.1)) || false) = false; rw [hpl]; rfl)
    (fun h ⟨c, d, fd, sl, z⟩ => ⟨.frame, .inl rfl, (PySem.W.Looks.ld (part := none) z).andThen .now⟩) (PySem.Calls.evalArgs_plain ?_)
  have ha' := ha pos pins s2 σ H1 _ I2 q
  rw [hst] at ha'
  refine thn ha' fun us s3 ⟨vs, H2, I3, r, q2⟩ => ?_
  obtain ⟨c, d, fd, sl, z⟩ := F.fn _ _ _ _ q2
  refine ⟨⟨c, d, fd, sl, fz_get I3.hok z⟩, ?_⟩
  refine wpAny_call (codeAny_mono (F.run X.A X.stack s3 H2 us vs Q E0 hr I3.env0 r q2) fun r s' hq => ?_)
  cases r with
  | error e => exact False.elim hq
  | ok fl =>
    cases fl with
    | ret u => exact I3.after hq
    | next => exact False.elim hq
    | brk => exact False.elim hq
    | cont => exact False.elim hq
end
/-! ### a def that returns a closure: its cells stay, known to the object -/
structure EndsR where
  nx : St → Hp → Prop
  rt : V → St → Hp → Prop
abbrev TSR := EndsR → St → Hp → Prop
def SPR (X : Cx) (pins : List (Addr × Obj)) (D : EndsR) (f : Flow) (s' : Shared) : Prop :=
  match f with
  | .next => ∃ σ' H', Inv X pins σ' H' s' ∧ D.nx σ' H'
  | .ret u => ∃ v σ' H', Inv X pins σ' H' s' ∧ RelV v u ∧ D.rt v σ' H'
  | _ => False
def PSR (X : Cx) (st : Stmt) (t : TSR) : Prop :=
  ∀ (pins : List (Addr × Obj)) (s : Shared) (σ : St) (H : Hp) (D : EndsR), Inv X pins σ H s → t D σ H → wpAny (model X.prog X.w) X.A (exec st X.env) (SPR X pins D) X.xe s
def PSRs (X : Cx) (st : List Stmt) (t : TSR) : Prop :=
  ∀ (pins : List (Addr × Obj)) (s : Shared) (σ : St) (H : Hp) (D : EndsR), Inv X pins σ H s → t D σ H → wpAny (model X.prog X.w) X.A (execs st X.env) (SPR X pins D) X.xe s
section
variable {X : Cx} {st : Stmt} {rest : List Stmt} {t u : TSR} {e : Expr} {te : TE} {pos : Pos}
def rRet (te : TE) : TSR := fun D σ H => te σ H fun v H1 => D.rt v σ H1
theorem psr_one (h1 : PSR X st t) : PSRs X [st] t := by
  intro pins s σ H D I h
  refine wpAny_execs_cons (thn (h1 pins s σ H D I h) fun f s1 q => ?_)
  cases f with
  | next => exact wpAny_execs_nil q
  | ret v => exact q
  | brk => exact q
  | cont => exact q
theorem psr_ret (he : PE X e te) : PSR X (.Return (some e) pos) (rRet te) := by
  intro pins s σ H D I h
  exact wpAny_Return_some (thn (he pins s σ H _ I h) fun v s1 ⟨x, H1, I1, r1, q1⟩ => ⟨x, σ, H1, I1, r1, q1⟩)
end
theorem lent_dom {X : Cx} {pins : List (Addr × Obj)} {σ : St} {H : Hp} {s : Shared} (I : Inv X pins σ H s) : ∃ f : Lend, Lent X σ H f ∧ (∀ b o, f b = some o → H b = none ∧ s.heap.get? b = some o ∧ ∃ x, X.env.cells.lookup x = some b) := by
  classical
  let f : Lend := fun b => if (∃ x, X.env.cells.lookup x = some b) then s.heap.get? b else none
  have fe : ∀ {b o}, f b = some o → (∃ x, X.env.cells.lookup x = some b) ∧ s.heap.get? b = some o := fun {b o} e => by
    by_cases z : ∃ x, X.env.cells.lookup x = some b
    · exact ⟨z, by rw [show f b = s.heap.get? b from if_pos z] at e; exact e⟩
    · rw [show f b = none from if_neg z] at e; cases e
  have ff : ∀ {x c}, X.env.cells.lookup x = some c → f c = s.heap.get? c := fun {x c} e => if_pos ⟨x, e⟩
  refine ⟨f, ⟨fun b o e => ?_, fun x c e => ?_, fun i x v e1 e2 e3 => ?_, I.ok.inj⟩, fun b o e => ?_⟩
  · obtain ⟨⟨x, z⟩, _⟩ := fe e
    exact I.freeC x b z
  · obtain ⟨v, o, ho, hd⟩ := I.cell x c e
    exact ⟨o, v, by rw [ff e]; exact ho, hd⟩
  · obtain ⟨m, _, hl⟩ := I.loc
    obtain ⟨u, r, l⟩ := hl i x v e1 e2 (.inr (.inl e3))
    rcases l with ⟨k, _⟩ | ⟨_, c, ec, o, ho, hd⟩
    · have k' : X.env.scope.names.lookup x = some .local := k
      rw [e3] at k'; cases k'
    · exact ⟨c, o, u, ec, by rw [ff ec]; exact ho, hd, r⟩
  · obtain ⟨⟨x, z⟩, g⟩ := fe e
    exact ⟨I.freeC x b z, g, x, z⟩
theorem fn_ofR {P : Program} {w : World} {K : PySem.W.Frag} {mg : Str → Option Value} {base : Heap} {k : Nat} {f : Addr} {name qual : Str} {params : Arguments} {body : List Stmt} {scope : Scope} {dV kV doc pm cdv ct oc : Value} {an od : Option Addr}
    {osl : Array (Option Value)} {N ps : List Str} {sp : Sp} (lk : K.lookup f = some ⟨oc, od, .func (PySem.W.fnOf name qual params body scope dV kV doc pm an cdv ct), osl⟩) (hcd : PySem.W.codeIn K cdv qual = true) (S : FnScope N ps scope)
    (len : ∀ vs H Q E, sp vs H Q E → vs.length = ps.length)
    (hbody : ∀ (A : Around) (outer : List Env) (s : Shared) (H : Hp) (vs : List V) (Q : VK) (E : XK), Room k (A.deeper (envOfC qual scope s.heap.objs.size f cdv)) → sp vs H Q E →
      ∃ t, PSRs (cxOf CX0 P w K mg base N qual scope f cdv A outer s H E).nox body t ∧ t { nx := fun _ _ => False, rt := fun v σ H' => ∀ g, Lent (cxOf CX0 P w K mg base N qual scope f cdv A outer s H E).nox σ H' g → Q v (lend g H') } (start N vs) H) :
    FnOk P w K mg base CX0 (k + 1) f (PySem.W.fnOf name qual params body scope dV kV doc pm an cdv ct) ps sp := by
  refine ⟨len, fun A outer s H args us vs Q E hr e0 hb r hsp => ?_⟩
  have hl := len _ _ _ _ hsp
  have KX : K.In s.heap := e0.mod.kin.keeps fun b o e => (e0.bs b o e).1
  have lim : s.heap.NoLimit := e0.mod.nolimit.keeps fun b o e => (e0.bs b o e).1
  have hkind : ∀ y ∈ ps.zip us, scope.names.lookup y.1 = some .local ∨ (scope.names.lookup y.1 = some .cell ∧ ((cellsFrom (s.heap.objs.size + 1) scope.names []).lookup y.1).isSome = true) := fun ⟨n, v⟩ hy => by
    rcases S.par n (List.of_mem_zip hy).1 with q | q
    · exact .inl q
    · exact .inr ⟨q, PySem.W.cellsFrom_some _ _ _ (.inl q)⟩
  refine codeAny_call_function hr.depth (KX _ _ lk) rfl S.co S.gen rfl (PySem.W.codeRec_of KX hcd) (hb _ _ _ _ ?_)
  refine wpAny_newFunctionEnv_cells S.kind hkind fun env he s1 x => ?_
  subst he
  refine ⟨lim.keeps x.toInCall.keep, codeAny_func ?_⟩
  obtain ⟨t, ht, hq⟩ := hbody A outer s H vs Q E (hr.deeper _) hsp
  have I0 : Inv (cxOf CX0 P w K mg base N qual scope f cdv A outer s H E) [] (start N vs) H s1 := inv_start S hr.hd e0 hl r x
  have I : Inv (cxOf CX0 P w K mg base N qual scope f cdv A outer s H E).nox [] (start N vs) H s1 := ⟨⟨I0.ok.mod, I0.ok.kind, I0.ok.glob, I0.ok.blt, I0.ok.above, I0.ok.inj, I0.ok.has, I0.ok.cab, I0.ok.hd, I0.ok.frames, I0.ok.stk, I0.ok.exf, I0.ok.bs, I0.ok.bsz, I0.ok.noex, I0.ok.exfs, I0.ok.funs, I0.ok.frf⟩, I0.os, I0.bare, I0.base, I0.loc, I0.cell, I0.free, I0.freeC, I0.pin, I0.hok, I0.len⟩
  refine wpAny_mono (ht [] s1 (start N vs) H _ I hq) (fun fl s' hs => ?_) fun e s' hs => False.elim hs
  cases fl with
  | ret u =>
    obtain ⟨v, σ', H', J, rv, q⟩ := hs
    obtain ⟨g, L, hg⟩ := lent_dom J
    have hnew : ∀ b o, s.heap.get? b = some o → g b = none := fun b o e => by
      cases z : g b with
      | none => rfl
      | some ob =>
        exfalso
        obtain ⟨x', hx'⟩ : ∃ y, (cxOf CX0 P w K mg base N qual scope f cdv A outer s H E).nox.env.cells.lookup y = some b := (hg b ob z).2.2
        exact absurd (Nat.lt_of_lt_of_le (Heap.lt_size e) (J.ok.cab x' b rfl hx')) (Nat.lt_irrefl _)
    have hB : Un (frs outer) [] H H' s.heap s'.heap := J.base
    refine ⟨v, lend g H', J.os, J.bare, ⟨hB.keep, hB.slot, fun b o e n hx => ?_, hB.there, fun b xs z => ?_, fun b o xs z => ?_, fun b ps z => ?_⟩, hok_lend J.hok fun b o z => ⟨(hg b o z).1, (hg b o z).2.1⟩, rv, q g L⟩
    · rw [lend_no (hnew b o e)]
      exact hB.free b o e n hx
    · have := hB.tups b xs z
      cases y : g b with
      | none => rw [lend_no y]; exact this
      | some ob => rw [(hg b ob y).1] at this; cases this
    · have := hB.frzs b o xs z
      cases y : g b with
      | none => rw [lend_no y]; exact this
      | some ob => rw [(hg b ob y).1] at this; cases this
    · obtain ⟨more, this⟩ := hB.tbls b ps z
      refine ⟨more, ?_⟩
      cases y : g b with
      | none => rw [lend_no y]; exact this
      | some ob => rw [(hg b ob y).1] at this; cases this
  | next =>
    obtain ⟨_, _, _, q⟩ := hs
    exact False.elim q
  | brk => exact False.elim hs
  | cont => exact False.elim hs
theorem DefT.knownR {P : Program} {w : World} {K : PySem.W.Frag} {mg : Str → Option Value} {base : Heap} {x : Str} {st : Stmt} {N ps : List Str} {k : Nat} {sp : Sp} {z : Addr × Addr} (D : DefT K mg x st z) (S : FnScope N ps (defScope st))
    (hb : ∀ (kV doc pm : Value) (an : Option Addr) (cdv ct : Value) (us : List Value), us.length = ps.length → bindArgs (PySem.W.fnOf x x (defArgs st) (defBody st) (defScope st) .none kV doc pm an cdv ct) ⟨us, []⟩ = pure (ps.zip us))
    (len : ∀ vs H Q E, sp vs H Q E → vs.length = ps.length)
    (hbody : ∀ (f : Addr) (A : Around) (outer : List Env) (s : Shared) (H : Hp) (vs : List V) (Q : VK) (E : XK), Room k (A.deeper (envOfC x (defScope st) s.heap.objs.size f (.ref z.1))) → sp vs H Q E →
      ∃ t, PSRs (cxOf CX0 P w K mg base N x (defScope st) f (.ref z.1) A outer s H E).nox (defBody st) t ∧ t { nx := fun _ _ => False, rt := fun v σ H' => ∀ g, Lent (cxOf CX0 P w K mg base N x (defScope st) f (.ref z.1) A outer s H E).nox σ H' g → Q v (lend g H') } (start N vs) H) : Known P w K mg base CX0 (k + 1) x ps sp := by
  obtain ⟨f, fd, F, hm, hc⟩ := D.ex
  refine ⟨f, fd, ?_, hm, F.kp, F.binds hb⟩
  obtain ⟨oc, od, kV, doc, pm, an, cdv, ct, osl, rfl, lk, hcd⟩ := F.ex
  have e : cdv = .ref z.1 := hc
  subst e
  exact fn_ofR lk hcd S len fun A outer s H vs Q E hr hsp => hbody f A outer s H vs Q E hr hsp
end L2

namespace L2
open PySem PySem.Spec PyProof.Rows
section
variable {P : Program} {w : World} {K : PySem.W.Frag} {mg : Str → Option Value} {base : Heap} {N : List Str} {qual : Str} {scope : Scope} {f : Addr} {cd : Value} {A : Around} {outer : List Env} {s : Shared} {H : Hp} {E : XK}
end
end L2

namespace L2
open PySem PySem.Spec PyProof.Rows
/-! ### isinstance with a tuple of own classes -/
end L2

namespace L2
open PySem PySem.Spec PyProof.Rows
/-! ### rules laid in boxes: what is in them stays closed while the parts are fitted -/
structure PEw (X : Cx) (e : Expr) (t : TE) : Prop where
  run : PE X e t
structure PAw (X : Cx) (es : List Expr) (t : TA) : Prop where
  run : PA X es t
structure PTw (X : Cx) (e : Expr) (t : TT) : Prop where
  run : PT X e t
structure PSw (X : Cx) (st : Stmt) (t : TS) : Prop where
  run : PS X st t
structure PSsw (X : Cx) (st : List Stmt) (t : TS) : Prop where
  run : PSs X st t
section
variable {X : Cx} {es : List Expr} {te : TE} {t u : TA}
end
section
variable {X : Cx} {st : Stmt} {rest : List Stmt} {t u : TS} {pos : Pos}
end
end L2

namespace L2
open PySem PySem.Spec PyProof.Rows
/-! ### text.startswith(text), text.upper(), int(text) -/
theorem mt_starts {X : Cx} : MtR X "str.startswith" (fun x xs H Q => ∃ z y : Str, x = .str z ∧ xs = [.str y] ∧ Q (.bl (Txt.startswith z y)) H) := by
  intro pins s σ H x vs v us Q I rx rv h
  obtain ⟨z, y, rfl, rfl, q⟩ := h
  obtain ⟨t, rfl⟩ := rx
  obtain ⟨u, rfl, ru⟩ := rv.one
  obtain ⟨t', rfl⟩ := ru
  exact call_gives F.slot_str_startswith (typeIs_str _ _ _) F.entry_str_startswith (F.args_str_startswith_2 _ _) (gives_str_startswith z y t t') ⟨.bl (Txt.startswith z y), H, I, rfl, q⟩
theorem call_int_text {X : Cx} : CallR X (.type "int") (fun xs H Q => ∃ (x : Str) (n : Int), xs = [.str x] ∧ PySem.intText? x = some n ∧ x.length ≤ 640 ∧ Q (.int n) H) := by
  intro pins s σ H xs us Q I r h
  obtain ⟨x, n, rfl, hn, hl, q⟩ := h
  obtain ⟨u, rfl, t, rfl⟩ := vals1 r
  exact PySem.W.KIN.call_text hn hl ⟨.int n, H, I.tok _, ⟨_, rfl⟩, q⟩
/-! ### what these texts are -/
theorem str_ext {a b : Str} (h : a.cps.toList = b.cps.toList) : a = b := by
  obtain ⟨a⟩ := a
  obtain ⟨b⟩ := b
  exact congrArg Str.mk (Array.toList_inj.mp h)
theorem len_list (a : Str) : a.length = a.cps.toList.length := by
  show a.cps.size = _
  rw [Array.length_toList]
theorem slice_list {x : Str} {a b : Nat} (hab : a ≤ b) (hb : b ≤ x.length) : (Txt.slice x (some (a : Int)) (some (b : Int))).cps.toList = (x.cps.toList.drop a).take (b - a) := by
  unfold Txt.slice
  split
  · rename_i h
    rw [StrLaws.strSliceIndices_plain hab hb] at h
    have hl : x.cps.toList.length = x.length := by rw [Array.length_toList]; rfl
    have e : b - a = x.length := by simpa using h
    have ea : a = 0 := by omega
    rw [ea, List.drop_zero, List.take_of_length_le (by omega)]
  · show (List.toArray _).toList = _
    rw [List.toList_toArray, StrLaws.sliced_plain x hab hb]
theorem slice_end {x : Str} {a : Nat} : Txt.slice x (some (a : Int)) none = Txt.slice x (some (a : Int)) (some (x.length : Int)) := by
  have e : Builtin.Str.strSliceIndices (some (a : Int)) none 1 x.length = Builtin.Str.strSliceIndices (some (a : Int)) (some (x.length : Int)) 1 x.length := by
    have e1 : max (0 : Int) (min (x.length : Int) (x.length : Int)) = (x.length : Int) := by omega
    have e2 : ¬ ((x.length : Int) < 0) := by omega
    simp [Builtin.Str.strSliceIndices, e1, e2]
  unfold Txt.slice
  rw [e]
theorem slice1_list (z : Str) (h : 1 ≤ z.length) : (Txt.slice z (some (1 : Int)) none).cps.toList = z.cps.toList.drop 1 := by
  have e : Txt.slice z (some (1 : Int)) none = Txt.slice z (some ((1 : Nat) : Int)) (some (z.length : Int)) := slice_end (a := 1)
  have hl : z.cps.toList.length = z.length := by rw [Array.length_toList]; rfl
  rw [e, slice_list h (Nat.le_refl _), List.take_of_length_le (by rw [List.length_drop, hl]; exact Nat.le_refl _)]
theorem starts_one (z : Str) (c : Nat) : Txt.startswith z ⟨#[c]⟩ = decide (z.cps.toList.head? = some c) := by
  obtain ⟨l⟩ := z
  obtain ⟨l⟩ := l
  show (decide (0 + 1 ≤ l.length) && (l.toArray.extract 0 (0 + 1) == #[c])) = decide (l.head? = some c)
  cases l with
  | nil => rfl
  | cons x xs =>
    by_cases h : x = c
    · subst h
      simp
    · simp [h]
end L2

namespace L2
open PySem PySem.Spec PyProof.Rows
/-! ### for over a dict whose keys are tuples -/
section
variable {prog : Program} {w : World} {A : Around} {E : Value → Shared → Prop} {s : Shared} {it d : Addr} {i n ep : Nat} {od : Obj} {es : Array DictEntry}
end
section
variable {X : Cx} {pins : List (Addr × Obj)} {σ : St} {H : Hp} {s : Shared} {d : Addr}
end
section
variable {X : Cx} {tg : Expr}
end
end L2

namespace L2
open PySem PySem.Spec PyProof.Rows
section
variable {X : Cx} {CX : CXT} {k : Nat} {R : Addr → Sp → Prop} {ps : List Str} {E : XK} {m : Str} {pos apos : Pos} {e o : Expr} {es : List Expr} {t : TA} {ta : TE}
end
end L2

namespace L2
open PySem PySem.Spec PyProof.Rows
/-! ### list(reversed(xs)) -/
section
variable {prog : Program} {w : World} {A : Around} {s : Shared}
end
section
variable {X : Cx} {e : Expr} {te : TE} {x x' : Str} {p p' pos pos' : Pos}
end
/-! ### xs.count(y), the items refs -/
section
variable {X : Cx}
end
/-! ### d != e of dicts whose keys are tuples, alike -/
section
variable {prog : Program} {w : World} {K : Type} [DecidableEq K] {knd : HeapKind prog w K} {A : Around} {E : Value → Shared → Prop} {s : Shared}
end
section
variable {X : Cx}
end
end L2

namespace L2
open PySem PySem.Spec PyProof.Rows
/-! ### {k: v, ..} where the keys are tuples -/
section
variable {X : Cx} {pins : List (Addr × Obj)} {σ : St} {A : Around} {E : Value → Shared → Prop} {a : Addr}
end
/-! in boxes -/
structure PPw (X : Cx) (pos : Pos) (keys : List (Option Expr)) (values : List Expr) (trs : List (TE × TE)) : Prop where
  run : PPs X pos keys values trs
section
variable {X : Cx} {pos : Pos} {keys : List (Option Expr)} {values : List Expr} {trs : List (TE × TE)} {k v : Expr} {tk tv : TE}
end
end L2

namespace L2
open PySem PySem.Spec PyProof.Rows
/-! ### a statement that leaves by an exception, while a dict is gone through -/
section
variable {X : Cx} {st : Stmt} {t u : TS}
end
end L2

namespace L2
open PySem PySem.Spec PyProof.Rows
/-! ### xs.count(y), xs.index(y), all of them flat -/
section
variable {X : Cx}
end
end L2

namespace L2
open PySem PySem.Spec PyProof.Rows
/-! ### dict(enumerate(xs)) -/
theorem wpAny_alive {M : Model} {A : Around} {E : Value → Shared → Prop} {s : Shared} {a : Addr} {Q : Option Obj → Shared → Prop} (h : Q (s.heap.get? a) s) : wpAny M A (loadIfAlive a) Q E s := fun Γ p _ => by
  unfold loadIfAlive
  rw [Sem.wp_loadIfAlive]
  exact h
section
variable {prog : Program} {w : World} {A : Around} {E : Value → Shared → Prop} {s : Shared}
end
end L2

namespace L2
open PySem PySem.Spec PyProof.Rows
theorem entry_dict_loop : entryFor table "dict.update.loop" = some Builtin.«dict.update.loop» := entryFor_of_tree (by kernel_rfl)
theorem plain_dict_loop : plainId "dict.update.loop" = true := by decide +kernel
section
variable {prog : Program} {w : World} {A : Around} {R : Result → Shared → Prop}
end
section
variable {prog : Program} {w : World} {A : Around} {E : Value → Shared → Prop} {s : Shared}
end
section
variable {X : Cx} {e : Expr} {te : TE} {x x' : Str} {p p' pos pos' : Pos}
end
end L2

namespace L2
open PySem PySem.Spec PyProof.Rows
/-! ### a dict of the module, its keys texts -/
structure KDict (P : Params) (K : PySem.W.Frag) (p : Addr) : Prop where
  ex : ∃ (es : Array DictEntry) (n : Nat), K.lookup p = some ⟨.type "dict", none, .dict es n, #[]⟩ ∧ PySem.W.KeysLit P es.toList
  lo : (p == sysModules) = false
def tKGet (K : PySem.W.Frag) (to ty : TE) : TE := fun σ H Q => to σ H fun x H1 => ty σ H1 fun y H2 => ∃ p z f, x = .ref p ∧ y = .str z ∧ PySem.W.nsIn K p z = some (some (.ref f)) ∧ Q (.ref f) H2
def tKIn (K : PySem.W.Frag) (ty to : TE) : TE := fun σ H Q => ty σ H fun y H1 => to σ H1 fun x H2 => ∃ p z r, x = .ref p ∧ y = .str z ∧ PySem.W.nsIn K p z = some r ∧ Q (.bl r.isSome) H2
section
variable {X : Cx} {i o : Expr} {to ty : TE} {pos : Pos}
theorem pe_kget {p : Addr} (D : KDict X.w.params X.K p) (ho : PE X o (tC (.ref p))) (hi : PE X i ty) (hs : NoSl i) : PE X (.Subscript o i pos) (tKGet X.K (tC (.ref p)) ty) := by
  intro pins s σ H Q I h
  obtain ⟨es, n, hl, hk⟩ := D.ex
  refine subD_of PySem.F.slot_dict_getitem.lookup hs (thn (ho pins s σ H (fun x H1 => x = .ref p ∧ ty σ H1 fun y H2 => ∃ p z f, x = .ref p ∧ y = .str z ∧ PySem.W.nsIn X.K p z = some (some (.ref f)) ∧ Q (.ref f) H2) I ⟨rfl, h⟩) fun u s1 ⟨x, H1, I1, rx, ex, q1⟩ => thn (hi pins s1 σ H1 _ I1 q1) fun iv s2 ⟨y, H2, I2, ry, p', z, f, ex', ey, e, q2⟩ => ?_)
  subst ex
  cases ex'
  subst ey
  obtain rfl : u = Value.ref p := rx
  obtain ⟨t, rfl⟩ := ry
  have hm := PySem.W.mapOf_K (prog := X.prog) (w := X.w) I2.kIn hl hk
  exact ⟨hm.typeIs, wpAny_getItem_of (PySem.strKind_is X.prog X.w z t) hm (PySem.W.find_K hl e) ⟨.ref f, H2, I2.tok _, rfl, q2⟩⟩
theorem pc_kin {p : Addr} (D : KDict X.w.params X.K p) (hi : PE X i ty) (ho : PE X o (tC (.ref p))) : PC X .In i o (tKIn X.K ty (tC (.ref p))) := by
  intro pins s σ H Q I h
  obtain ⟨es, n, hl, hk⟩ := D.ex
  refine thn (hi pins s σ H _ I h) fun iv s1 ⟨y, H1, I1, ry, q1⟩ => thn (ho pins s1 σ H1 (fun x H2 => x = .ref p ∧ ∃ p z r, x = .ref p ∧ y = .str z ∧ PySem.W.nsIn X.K p z = some r ∧ Q (.bl r.isSome) H2) I1 ⟨rfl, q1⟩) fun u s2 ⟨x, H2, I2, rx, ex, p', z, r, ex', ey, e, q2⟩ => ?_
  subst ex
  cases ex'
  subst ey
  obtain rfl : u = Value.ref p := rx
  obtain ⟨t, rfl⟩ := ry
  refine wpAny_in_of (PySem.strKind_is X.prog X.w z t) D.lo (PySem.W.mapOf_K (prog := X.prog) (w := X.w) I2.kIn hl hk) ?_
  rw [PySem.W.find_K hl e]
  exact ⟨.bl r.isSome, H2, I2.tok _, rfl, q2⟩
end
/-! ### d[k](e, ..), where a def of the module is found -/
theorem arm_Call_Sub (o i : Expr) (p : Pos) (args : List Expr) (keywords : List Keyword) (pos : Pos) (env : Env) : eval (.Call (.Subscript o i p) args keywords pos) env = (do
    callWith pos (← eval (.Subscript o i p) env) [] (backTo pos (starEach args env)) (backToKw pos (keywordEach keywords env))) := rfl
def tCallG (mg : Str → Option Value) (x : Str) (sp : Sp) (E : XK) (tf : TE) (t : TA) : TE := fun σ H Q => tf σ H fun y H1 => ∃ f, y = .ref f ∧ mg x = some (.ref f) ∧ t σ H1 fun vs H2 => sp (vs ++ []) H2 Q E
section
variable {X : Cx} {CX : CXT} {k : Nat} {ps : List Str} {sp : Sp} {E : XK} {x : Str} {p pos : Pos} {o i e : Expr} {es : List Expr} {tf : TE} {t : TA}
theorem pe_callS (G : Known X.prog X.w X.K X.mg X.base CX k x ps sp) (hr : Room k X.A) (hx : Passes CX X E) (hf : PE X (.Subscript o i p) tf) (ha : PA X (e :: es) t)
    (he : starEach (e :: es) X.env = (false, eval e X.env) :: starEach es X.env := by rfl) (hpl : (backTo pos (starEach es X.env)).any (·.1) = false := by rfl) : PE X (.Call (.Subscript o i p) (e :: es) [] pos) (tCallG X.mg x sp E tf t) := by
  obtain ⟨f, fd, F, hm, hk, hb⟩ := G.ex
  intro pins s σ H Q I h
  rw [arm_Call_Sub]
  refine wpAny_bind (thn (hf pins s σ H _ I h) fun u s1 ⟨y, H1, I1, ry, f', ey, hm', q⟩ => ?_)
  subst ey
  rw [hm] at hm'
  cases hm'
  obtain rfl : u = Value.ref f := ry
  refine PySem.W.callWith_K (h₀ := X.base) I1.ok.mod.kin hk (thn (ha pos pins s1 σ H1 _ I1 q) fun us s2 ⟨vs, H2, I2, r, q2⟩ => ⟨I2.kIn, ?_⟩) he hpl
  exact run_fn F hr hb .nil hx I2 r q2
end
/-! ### text.split(text) -/
theorem vals_strValues : ∀ l : List (Str × Tok), Vals ((l.map (·.1)).map V.str) (strValues l)
  | [] => .nil
  | q :: r => .cons ⟨q.2, rfl⟩ (vals_strValues r)
end L2

namespace L2
open PySem PySem.Spec PyProof.Rows
/-! ### sum(xs), max(xs), min(xs) of a list of whole numbers -/
section
variable {X : Cx}
end
/-! ### o.f(e, ..), where f holds a def of the module -/
structure FnV (P : Program) (w : World) (K : PySem.W.Frag) (mg : Str → Option Value) (base : Heap) (k : Nat) (fa : Addr) (sp : Sp) : Prop where
  kp : PySem.W.keepIn K (.ref fa) = true
  run : ∀ (A : Around) (outer : List Env) (s : Shared) (H : Hp) (us : List Value) (vs : List V) (Q : VK) (E : XK), Room k A → Env0 P w K mg base A outer s H → K.In s.heap → Vals vs us → sp vs H Q E →
    codeAny (model P w) A (.call (.ref fa) ⟨us, []⟩) (CR CX0 outer P w H s Q E) s
section
variable {X : Cx} {k : Nat} {m : Str} {p pos apos : Pos} {e o : Expr} {es : List Expr} {ta : TE} {t : TA}
end
end L2

namespace L2
open PySem PySem.Spec PyProof.Rows
/-! ### a def within a def, then a lambda: the table of code by places -/
def TabQ (P : Addr) (S : List (Nat × Nat × Addr)) : HO := .ext fun h => ∃ ps : Array Value, h.get? P = some (PySem.W.tabObj ps) ∧ TriplesOk ps.toList ∧ ∀ pos cv, codeAmong pos ps.toList = some cv → ∃ c, (pos.line, pos.col, c) ∈ S ∧ cv = .ref c
theorem tabQ_ok {P : Program} {w : World} {H : Hp} {h : Heap} {a : Addr} {ps : Array Value} {S : List (Nat × Nat × Addr)} (e : h.get? a = some (PySem.W.tabObj ps)) (t : TriplesOk ps.toList) (c : ∀ pos cv, codeAmong pos ps.toList = some cv → ∃ c, (pos.line, pos.col, c) ∈ S ∧ cv = .ref c) : ObjOk P w H h a (TabQ a S) :=
  ⟨⟨ps, e, t, c⟩, ⟨_, e⟩, fun h1 h2 ⟨qs, e1, t1⟩ k => ⟨qs, k _ e1, t1⟩⟩
theorem among_at {pos : Pos} {l c : Nat} {a : Addr} {cv : Value} : ∀ {xs : List Value}, TriplesOk xs → codeAmong pos (xs ++ [rawInt l, rawInt c, .ref a]) = some cv → codeAmong pos xs = some cv ∨ (cv = .ref a ∧ pos.line = l ∧ pos.col = c)
  | [], _, h => by
    right
    simp only [List.nil_append, rawInt, codeAmong] at h
    split at h
    · rename_i e
      rw [Bool.and_eq_true, beq_iff_eq, beq_iff_eq] at e
      exact ⟨(Option.some.inj h).symm, by omega, by omega⟩
    · cases h
  | .int x _ :: .int y _ :: z :: rest, t, h => by
    simp only [List.cons_append, codeAmong] at h ⊢
    split at h
    · rename_i e
      rw [if_pos e]
      exact .inl h
    · rename_i e
      rw [if_neg e]
      exact among_at (xs := rest) t h
def DefAt (q name : Str) (params : Arguments) (body : List Stmt) (scope : Scope) (clos : List (Str × Addr)) (H : Hp) (fa : Addr) : Prop :=
  ∃ doc pm c ctv o, H fa = some (Fz (PySem.W.fnMade name q params body scope clos doc pm c ctv)) ∧ H c = some (Fz o) ∧ CodeO q o
section
variable {X : Cx} {pins : List (Addr × Obj)} {σ : St} {H : Hp} {s : Shared} {P : Addr}
/-- a function is made, its code is new -/
theorem made_fn {φ : Heap → Prop} {h' : Heap} {tk : Nat} {c' : Addr} {oc fo oP : Obj} {nt : HO} (I : Inv X pins σ H s) (hP : H P = some (.ext φ)) (e : s.heap.get? P = some oP) (hx : Heap.ExtBut P s.heap h') (hge : s.heap.objs.size ≤ c') (hlt : c' < h'.objs.size) (goc : h'.get? c' = some oc) (htb : ∃ o, h'.get? P = some o) (hfo : fo.isFreed = false)
    (ntk : ObjOk X.prog X.w (upd H P nt) (h'.push fo) P nt) :
    Inv X pins σ (upd (upd (upd H P nt) c' (Fz oc)) h'.objs.size (Fz fo)) { s with heap := h'.push fo, toks := tk } ∧ H h'.objs.size = none ∧ H c' = none ∧ c' ≠ P ∧ h'.objs.size ≠ P ∧ h'.objs.size ≠ c' ∧
      ∀ b o, b ≠ P → H b = some o → upd (upd (upd H P nt) c' (Fz oc)) h'.objs.size (Fz fo) b = some o := by
  have nP : ∀ b, H b = none → b ≠ P := fun b n z => by rw [z, hP] at n; cases n
  have hPlt : P < s.heap.objs.size := Heap.lt_size e
  have goc' : (h'.push fo).get? c' = some oc := Heap.get?_push_of_some _ goc
  have cP : c' ≠ P := Nat.ne_of_gt (Nat.lt_of_lt_of_le hPlt hge)
  have aP : h'.objs.size ≠ P := Nat.ne_of_gt (Nat.lt_of_lt_of_le hPlt (Nat.le_of_lt (Nat.lt_of_le_of_lt hge hlt)))
  have ac : h'.objs.size ≠ c' := Nat.ne_of_gt hlt
  have fr : ∀ b, s.heap.objs.size ≤ b → H b = none := fun b z => I.hok.fresh z
  have hk : ∀ b u, b ≠ P → s.heap.get? b = some u → (h'.push fo).get? b = some u := fun b u nb eb => Heap.get?_push_of_some _ (hx b u nb eb)
  obtain ⟨oP', htb⟩ := htb
  have hok1 : HOk X.prog X.w (upd H P nt) (h'.push fo) := I.hok.write (x := P) (e := P) (by rw [hP]; trivial) (.inl rfl) hk ⟨_, Heap.get?_push_of_some _ htb⟩ ntk
  have n1 : upd H P nt c' = none := by rw [upd_ne cP]; exact fr _ hge
  have hok2 := hok_fz hok1 n1 goc'
  have n2 : upd (upd H P nt) c' (Fz oc) h'.objs.size = none := by rw [upd_ne ac, upd_ne aP]; exact fr _ (Nat.le_of_lt (Nat.lt_of_le_of_lt hge hlt))
  have hok3 := hok_fz hok2 n2 (Heap.get?_push_size _ hfo)
  have sm : ∀ b, b ≠ P → H b ≠ none → upd (upd (upd H P nt) c' (Fz oc)) h'.objs.size (Fz fo) b = H b := fun b z1 z2 => by
    have y1 : b ≠ h'.objs.size := fun z => z2 (by rw [z]; exact fr _ (Nat.le_of_lt (Nat.lt_of_le_of_lt hge hlt)))
    have y2 : b ≠ c' := fun z => z2 (by rw [z]; exact fr _ hge)
    rw [upd_ne y1, upd_ne y2, upd_ne z1]
  have sv : ∀ b o, b ≠ P → H b = some o → upd (upd (upd H P nt) c' (Fz oc)) h'.objs.size (Fz fo) b = some o := fun b o z1 z2 => by
    rw [sm b z1 (by rw [z2]; intro z; cases z)]; exact z2
  have J := I.step (h' := h'.push fo) (g' := s.gens) (t' := tk) (d' := s.drawn) (ch := []) (fun _ z => nomatch z)
    (fun b o _ _ _ eb n => hk b o (nP b n) eb) (fun b o _ _ _ eb n => ⟨o.slots, hk b o (nP b n) eb⟩)
    (fun b o _ eb n => by rw [upd_ne (Nat.ne_of_lt (Nat.lt_of_lt_of_le (Heap.lt_size eb) (Nat.le_of_lt (Nat.lt_of_le_of_lt hge hlt)))), upd_ne (Nat.ne_of_lt (Nat.lt_of_lt_of_le (Heap.lt_size eb) hge)), upd_ne (nP b n)]; exact n)
    (fun b o _ eb => by
      by_cases z : b = P
      · subst z; exact ⟨_, Heap.get?_push_of_some _ htb⟩
      · exact ⟨o, hk b o z eb⟩)
    (fun b xs z => sv b _ (fun y => by rw [y, hP] at z; cases z) z) (fun b o u z => sv b _ (fun y => by rw [y, hP] at z; cases z) z) (fun b ps z => ⟨#[], by rw [sv b _ (fun y => by rw [y, hP] at z; cases z) z]; simp⟩)
    (fun m ⟨o, es, ep, ho, r⟩ => ⟨o, es, ep, hk _ o (nP _ I.free) ho, r⟩) hok3 I.bare
  exact ⟨J, fr _ (Nat.le_of_lt (Nat.lt_of_le_of_lt hge hlt)), fr _ hge, cP, aP, ac, sv⟩
end
/-- the def is the first that is made here -/
def tDefF (P : Addr) (pos : Pos) (i : Nat) (q name : Str) (params : Arguments) (body : List Stmt) (scope : Scope) (clos : List (Str × Addr)) : TS := fun D σ H => H P = some (TabC P []) ∧
  ∀ a c H', H a = none → SameX P H H' → H' P = some (TabQ P [(pos.line, pos.col, c)]) → DefAt q name params body scope clos H' a → D.nx (σ.set i (some (.ref a))) H'
/-- a lambda behind it, made in another place, and the last one -/
def tLamQ (P : Addr) (pos : Pos) (q : Str) (params : Arguments) (body : Expr) (scope : Scope) (clos : List (Str × Addr)) : TE := fun _ H Q => (∃ S, H P = some (TabQ P S) ∧ ∀ x ∈ S, ¬ (x.1 = pos.line ∧ x.2.1 = pos.col)) ∧
  ∀ a H', H a = none → SameX P H H' → (∃ S, H' P = some (TabC P S)) → LamAt q params body scope clos H' a → Q (.ref a) H'
section
variable {X : Cx}
theorem ps_defF {name : Str} {params : Arguments} {body : List Stmt} {scope : Scope} {pos : Pos} {c P : Addr} {clos : List (Str × Addr)} {i : Nat} (M : Maker X.mg X.base c P) (hc : X.env.code = .ref c) (hcl : closureFor scope X.env = pure clos) (hd0 : params.defaults = []) (hk0 : params.kw_defaults = []) (ha : annTrees params none X.env = [])
    (hN : X.N.Nodup) (hi : X.N[i]? = some name) (hx : Loc X.env.scope name) (hf : X.fn name = true ∨ X.env.scope.names.lookup name = some .local) :
    PS X (.FunctionDef name params body [] none [] scope none name pos) (tDefF P pos i (qualnameIn X.env name name) name params body scope clos) := by
  intro pins s σ H D I h
  obtain ⟨hP, q⟩ := h
  obtain ⟨⟨ps, e, t, tc⟩, _, _⟩ := I.hok P _ hP
  have hg : s.heap.Ns mainGlobals X.mg := I.mod.glob.keeps I.bk
  have C := M.hd.keeps I.bk
  have hb : s.heap.BuiltinsAt X.mg P := let ⟨bm, o, b1, b2, b3, b4, b5, r⟩ := M.bt; ⟨bm, o, b1, b2, b3, b4, I.bk _ _ b5, r⟩
  have hgP : mainGlobals ≠ P := fun z => by
    obtain ⟨o, es, ep, e1, hd, _⟩ := hg
    rw [z, e] at e1; cases e1; cases hd
  have hf0 : ∀ p, codeAmong p ps.toList = none := fun p => by
    cases hz : codeAmong p ps.toList with
    | none => rfl
    | some cv => obtain ⟨d, hd, _⟩ := tc _ _ hz; cases hd
  refine PySem.W.nestDef_K hd0 hk0 ha ?_
  refine PySem.W.makeFunction_K (mg := X.mg) hcl I.ok.glob hg hc C e t (hf0 pos) hgP hb fun c' ctv doc h' tk hx' hge hlt hrec htb => ?_
  obtain ⟨c1, oc, vs, tq, ec, goc, doc', dq⟩ := hrec
  obtain rfl : c' = c1 := by cases ec; rfl
  obtain ⟨J, f1, f2, cP, aP, ac, sv⟩ := made_fn (tk := tk) (nt := TabQ P [(pos.line, pos.col, c')]) (fo := PySem.W.fnMade name (qualnameIn X.env name name) params body scope clos doc ((X.mg "__name__").getD .none) c' ctv) I hP e hx' hge hlt goc ⟨_, htb⟩ rfl
    (tabQ_ok (Heap.get?_push_of_some _ htb) (triples_more t) fun p cv z => by
      rw [Array.toList_append] at z
      rcases among_at t z with z | ⟨z, z1, z2⟩
      · rw [hf0] at z; cases z
      · exact ⟨c', by rw [z1, z2]; exact List.mem_cons_self, z⟩)
  refine store_ok J hN hi hx (show RelV (.ref h'.objs.size) (.ref h'.objs.size) from rfl) (fun s2 I2 => ⟨_, _, I2, q _ c' _ f1 (fun b o z1 z2 => sv b o z1 z2) ?_ ⟨doc, _, c', ctv, oc, upd_same, ?_, vs, tq, doc', dq⟩⟩) hf
  · rw [upd_ne (Ne.symm aP), upd_ne (Ne.symm cP), upd_same]
  · rw [upd_ne (Ne.symm ac), upd_same]
theorem pe_lamQ {params : Arguments} {body : Expr} {scope : Scope} {pos : Pos} {c P : Addr} {clos : List (Str × Addr)} (M : Maker X.mg X.base c P) (hc : X.env.code = .ref c) (hcl : closureFor scope X.env = pure clos) (hdef : defaultsOf params X.env = ([], [])) :
    PE X (.Lambda params body scope pos) (tLamQ P pos (X.env.qual ++ "<lambda>") params body scope clos) := by
  intro pins s σ H Q I h
  obtain ⟨⟨S, hP, hS⟩, q⟩ := h
  obtain ⟨⟨ps, e, t, tc⟩, _, _⟩ := I.hok P _ hP
  have hg : s.heap.Ns mainGlobals X.mg := I.mod.glob.keeps I.bk
  have C := M.hd.keeps I.bk
  have hb : s.heap.BuiltinsAt X.mg P := let ⟨bm, o, b1, b2, b3, b4, b5, r⟩ := M.bt; ⟨bm, o, b1, b2, b3, b4, I.bk _ _ b5, r⟩
  have hgP : mainGlobals ≠ P := fun z => by
    obtain ⟨o, es, ep, e1, hd, _⟩ := hg
    rw [z, e] at e1; cases e1; cases hd
  have hf : codeAmong pos ps.toList = none := by
    cases hz : codeAmong pos ps.toList with
    | none => rfl
    | some cv => obtain ⟨d, hd, _⟩ := tc _ _ hz; exact absurd ⟨rfl, rfl⟩ (hS _ hd)
  refine PySem.W.kla_eval hdef ?_
  refine PySem.W.kla_makeFunction (mg := X.mg) hcl I.ok.glob hg hc C e t hf hgP hb fun c' ctv h' tk hx hge hlt hrec htb => ?_
  obtain ⟨c1, oc, vs, tq, ec, goc, doc', dq⟩ := hrec
  obtain rfl : c' = c1 := by cases ec; rfl
  obtain ⟨J, f1, f2, cP, aP, ac, sv⟩ := made_fn (tk := tk) (nt := TabC P (c' :: S.map (·.2.2))) (fo := PySem.W.kla_obj "<lambda>" (X.env.qual ++ "<lambda>") params body scope clos ((X.mg "__name__").getD .none) c' ctv) I hP e hx hge hlt goc ⟨_, htb⟩ rfl
    (tabC_ok (Heap.get?_push_of_some _ htb) (triples_more t) fun p cv z => by
      rw [Array.toList_append] at z
      rcases among_app t z with z | z
      · obtain ⟨d, hd, r⟩ := tc p cv z
        exact ⟨d, List.mem_cons_of_mem _ (List.mem_map.mpr ⟨_, hd, rfl⟩), r⟩
      · exact ⟨c', List.mem_cons_self, z⟩)
  refine ⟨.ref h'.objs.size, _, J, rfl, q _ _ f1 (fun b o z1 z2 => sv b o z1 z2) ⟨c' :: S.map (·.2.2), ?_⟩ ⟨_, c', ctv, oc, upd_same, ?_, vs, tq, doc', dq⟩⟩
  · rw [upd_ne (Ne.symm aP), upd_ne (Ne.symm cP), upd_same]
  · rw [upd_ne (Ne.symm ac), upd_same]
end
end L2

namespace L2
open PySem PySem.Spec PyProof.Rows
/-! ### what a def within a def promises -/
def spDef (fa : Addr) (f : Lend) (q name : Str) (params : Arguments) (body : List Stmt) (scope : Scope) (clos : List (Str × Addr)) (n : Nat) (spB : List V → Hp → VK → Prop) : Sp := fun vs H Q _ =>
  vs.length = n ∧ DefAt q name params body scope clos H fa ∧ (∀ b o, f b = some o → H b = some (Fz o)) ∧ spB vs (unl f H) fun v H' => (∀ b o, f b = some o → H' b = none) → Q v (lend f H')
theorem def_of {X : Cx} {σ : St} {H₁ : Hp} {f : Lend} {q name : Str} {params : Arguments} {body : List Stmt} {scope : Scope} {fa : Addr} {ps : List Str} {cp : List (Nat × Str)} {cv : List V} {k : Nat} {spB : List V → Hp → VK → Prop} (L : Lent X σ H₁ f)
    (hcell : ∀ x, X.env.scope.names.lookup x = some .cell → ∃ c, X.env.cells.lookup x = some c)
    (hcv : cp.map (fun p => σ[p.1]?) = cv.map fun v => some (some v))
    (hcp : ∀ p ∈ cp, X.N[p.1]? = some p.2 ∧ X.env.scope.names.lookup p.2 = some .cell ∧ scope.names.lookup p.2 = some .free)
    (free : ∀ y ∈ scope.names, y.2 = .free → X.env.scope.names.lookup y.1 = some .cell)
    (kind : scope.kind = .function) (co : scope.isCoroutine = false) (gen : scope.isGenerator = false) (nocell : ∀ y ∈ scope.names, y.2 ≠ .cell) (par : ∀ x ∈ ps, scope.names.lookup x = some .local) (nd : (ps ++ cp.map (·.2)).Nodup)
    (hb : ∀ (doc pm ctv : Value) (c : Addr) (clos : List (Str × Addr)) (us : List Value), us.length = ps.length → bindArgs (PySem.W.fnX name q params body scope clos .none .none doc pm none (.ref c) ctv) ⟨us, []⟩ = pure (ps.zip us))
    (hbody : ∀ (cd : Value) (A : Around) (outer : List Env) (s : Shared) (H : Hp) (vs : List V) (Q : VK), Room k (A.deeper (PySem.W.envX q scope s.heap.objs.size fa cd (clFold X.env.cells scope.names []))) → spB vs H Q →
      ∃ t, PSs (cxLam X.prog X.w X.K X.mg X.base (ps ++ cp.map (·.2)) q scope fa cd (clFold X.env.cells scope.names []) A outer s H) body t ∧ t { nx := fun _ _ => False, rt := Q } ((vs ++ cv).map some) H) :
    LamFn X.prog X.w X.K X.mg X.base (k + 1) fa (spDef fa f q name params body scope (clFold X.env.cells scope.names []) ps.length spB) := by
  have sub := clFold_sub (cells := X.env.cells) (names := scope.names) (acc := []) (fun y hy e => hcell _ (free y hy e)) (fun x c e => by cases e)
  refine ⟨fun vs H Q E ⟨_, ⟨doc, pm, c, ctv, o, e1, _⟩, _⟩ => ⟨_, _, _, _, e1⟩, fun A outer s H us vs Q E hr e0 r ⟨hl, ⟨doc, pm, c, ctv, o, e1, e2, ws, tq, e3, e4⟩, hf, hsp⟩ => ?_⟩
  have hus : us.length = ps.length := by rw [← r.length]; exact hl
  have hcd : s.heap.CodeRec (.ref c) q := ⟨c, o, ws, tq, rfl, fz_get e0.hok e2, e3, e4⟩
  have lim : s.heap.NoLimit := e0.mod.nolimit.keeps fun b o e => (e0.bs b o e).1
  refine codeAny_call_function hr.depth (fz_get e0.hok e1) rfl co gen rfl hcd ?_
  rw [hb doc pm ctv c _ us hus]
  refine wpAny_pure (wpAny_newFunctionEnv nocell (fun y hy => par y.1 (List.of_mem_zip hy).1) (fun h₁ hns hsb => ⟨lim.fresh _ hsb, ?_⟩) kind)
  show codeAny _ _ (.func body (PySem.W.envX q scope s.heap.objs.size fa (.ref c) (clFold X.env.cells scope.names []))) _ _
  have hk : ∀ b o, s.heap.get? b = some o → h₁.get? b = some o := fun b o e => hsb.extBut b o (Nat.ne_of_lt (Heap.lt_size e)) (Heap.get?_push_of_some _ e)
  obtain ⟨t, ht, hq⟩ := hbody (.ref c) A outer s (unl f H) vs _ (hr.deeper _) hsp
  have hok' : HOk X.prog X.w (unl f H) s.heap := hok_unl e0.hok hf
  have hl2 : (vs ++ cv).length = (ps ++ cp.map (·.2)).length := by
    rw [List.length_append, List.length_append, List.length_map, hl]
    have := congrArg List.length hcv
    rw [List.length_map, List.length_map] at this
    omega
  have cl : ∀ x c, (clFold X.env.cells scope.names []).lookup x = some c → ∃ o v, f c = some o ∧ o.data = .cell v ∧ h₁.get? c = some o := fun x c e => by
    obtain ⟨o, v, h1, h2⟩ := L.cell x c (sub x c e)
    exact ⟨o, v, h1, h2, hk _ _ (fz_get e0.hok (hf c o h1))⟩
  have unN : ∀ b, H b = none → unl f H b = none := fun b z => by
    cases e : f b with
    | none => rw [unl_no e]; exact z
    | some o => exact unl_at e
  have I : Inv (cxLam X.prog X.w X.K X.mg X.base (ps ++ cp.map (·.2)) q scope fa (.ref c) (clFold X.env.cells scope.names []) A outer s (unl f H)) [] ((vs ++ cv).map some) (unl f H) { s with heap := h₁, toks := s.toks + (ps.zip us).length } := by
    have noA : ∀ b : Addr, b ∉ (cxLam X.prog X.w X.K X.mg X.base (ps ++ cp.map (·.2)) q scope fa (.ref c) (clFold X.env.cells scope.names []) A outer s (unl f H)).ex := fun b z => absurd (show b ∈ ([] : List Addr) from z) (by simp)
    refine ⟨⟨e0.mod, kind, rfl, rfl, Nat.le_refl _, fun y z c h1 h2 => L.inj y z c (sub _ _ h1) (sub _ _ h2), fun y hy => ?_, (fun y c z _ => by cases z), fun _ => hr.hd, Around.frames_deeper e0.frames, .inr ⟨rfl, rfl⟩, fun b z => absurd z (noA b), fun b o z => ⟨(e0.bs b o z).1, unN b (e0.bs b o z).2⟩, e0.bsz, fun b _ _ => noA b, fun b z => absurd z (noA b), e0.funs, fun b z => unN b (e0.frf b z)⟩,
      rfl, e0.bare, Un.kept hk, ⟨_, hns, fun i y v h1 h2 h3 => ?_⟩, fun y c h => ?_, hok'.fresh (Nat.le_refl _), fun y c h => ?_, fun p hp => absurd (show p ∈ ([] : List (Addr × Obj)) from hp) (by simp), hok'.kept hk, by rw [List.length_map]; exact hl2⟩
    · have hy' : scope.names.lookup y = some .cell ∨ scope.names.lookup y = some .free := hy
      rcases hy' with hy' | hy'
      · exact absurd rfl (nocell _ (PySem.mem_of_lookup hy'))
      · exact clFold_has (PySem.mem_of_lookup hy')
    · rw [List.getElem?_map] at h2
      have h2' : (vs ++ cv)[i]? = some v := by
        cases z : (vs ++ cv)[i]? with
        | none => rw [z] at h2; cases h2
        | some v' => rw [z] at h2; cases h2; rfl
      by_cases hi : i < ps.length
      · have h1' : ps[i]? = some y := by
          have : (ps ++ cp.map (·.2))[i]? = some y := h1
          rw [List.getElem?_append_left hi] at this
          exact this
        rw [List.getElem?_append_left (by omega)] at h2'
        obtain ⟨u, hu, ru⟩ := r.get h2'
        exact ⟨u, ru, .inl ⟨par y (List.mem_of_getElem? h1'), zip_get (List.nodup_append.mp nd).1 hus h1' hu⟩⟩
      · have h1' : (cp.map (·.2))[i - ps.length]? = some y := by
          have : (ps ++ cp.map (·.2))[i]? = some y := h1
          rw [List.getElem?_append_right (by omega)] at this
          exact this
        rw [List.getElem?_append_right (by omega), hl] at h2'
        rw [List.getElem?_map] at h1'
        cases hp : cp[i - ps.length]? with
        | none => rw [hp] at h1'; cases h1'
        | some p =>
          rw [hp] at h1'
          cases h1'
          have h4 : σ[p.1]? = some (some v) := by
            have := congrArg (fun l => l[i - ps.length]?) hcv
            simp only [List.getElem?_map, hp, h2', Option.map_some] at this
            exact Option.some.inj this
          obtain ⟨g1, g2, g3⟩ := hcp p (List.mem_of_getElem? hp)
          obtain ⟨c', o', u, k1, k2, k3, k4⟩ := L.val p.1 p.2 v g1 h4 g2
          obtain ⟨c2, k5⟩ := clFold_has (cells := X.env.cells) (acc := []) (PySem.mem_of_lookup g3)
          have k6 := sub _ _ k5
          rw [k1] at k6
          cases k6
          exact ⟨u, k4, .inr ⟨.inr g3, c', k5, o', hk _ _ (fz_get e0.hok (hf c' o' k2)), k3⟩⟩
    · obtain ⟨o, v, _, z1, z2⟩ := cl y c h
      exact ⟨v, o, z2, z1⟩
    · obtain ⟨o, v, z, _⟩ := cl y c h
      exact unl_at z
  refine codeAny_func (wpAny_mono (ht [] _ _ _ _ I hq) (fun fl s' hs => ?_) fun e s' hs => False.elim hs)
  cases fl with
  | ret u =>
    obtain ⟨v, σ', H', J, rv, qv⟩ := hs
    obtain ⟨u1, u2⟩ := un_back hf e0.hok e0.frf (show Un (frs outer) [] (unl f H) H' s.heap s'.heap from J.base) J.hok
    exact ⟨v, lend f H', J.os, J.bare, u1, u2, rv, qv fun b o e => J.base.free b o (fz_get e0.hok (hf b o e)) (unl_at e) (by simp [cxLam])⟩
  | next =>
    obtain ⟨_, _, _, q⟩ := hs
    exact False.elim q
  | brk =>
    obtain ⟨_, _, _, q⟩ := hs
    exact False.elim q
  | cont =>
    obtain ⟨_, _, _, q⟩ := hs
    exact False.elim q
end L2

namespace L2
open PySem PySem.Spec PyProof.Rows
/-! ### what a split at one sign is -/
open PySem.StrLaws PySem.Builtin.Str in
theorem occ_filter (x : Str) (c limit : Nat) : ∀ (n a : Nat) (st : Array Nat × Nat), st.snd ≤ a → st.fst.size + n ≤ limit → (forIn (List.range' a n) st (occBody x ⟨#[c]⟩ x.length limit)).run.fst.toList = st.fst.toList ++ (List.range' a n).filter (fun i => x.cps.toList[i]? == some c)
  | 0, a, st, _, _ => by simp
  | n + 1, a, st, h1, h2 => by
    rw [List.range'_succ, List.forIn_cons]
    unfold occBody
    have one := subAt_one x c a
    by_cases hc : x.cps.toList[a]? = some c
    · obtain ⟨g1, g2⟩ := one.mpr hc
      rw [if_pos ⟨⟨⟨by omega, h1⟩, g1⟩, g2⟩]
      have ih := occ_filter x c limit n (a + 1) (st.fst.push a, a + (⟨#[c]⟩ : Str).length) (by show a + 1 ≤ a + 1; omega) (by simp; omega)
      refine ih.trans ?_
      rw [List.filter_cons, hc]
      simp
    · rw [if_neg (fun z => hc (one.mp ⟨z.1.2, z.2⟩))]
      have ih := occ_filter x c limit n (a + 1) (st.fst, st.snd) (by show st.snd ≤ a + 1; omega) (by show st.fst.size + n ≤ limit; omega)
      refine ih.trans ?_
      rw [List.filter_cons]
      have : (x.cps.toList[a]? == some c) = false := by
        cases z : x.cps.toList[a]? == some c with
        | false => rfl
        | true => exact absurd (by simpa using z) hc
      rw [this]
      simp
def cutsOf (c : Nat) (l : List Nat) : List Nat := (List.range' 0 (l.length + 1)).filter (fun i => l[i]? == some c)
theorem occ_cuts (x : Str) (c : Nat) : Builtin.Str.occurrences x ⟨#[c]⟩ 0 x.length (x.length + 1) = cutsOf c x.cps.toList := by
  rw [StrLaws.occ_eq]
  have h := occ_filter x c (x.length + 1) (x.length + 1 - 0) 0 (#[], 0) (Nat.le_refl _) (by show 0 + (x.length + 1 - 0) ≤ x.length + 1; omega)
  refine h.trans ?_
  unfold cutsOf
  have : x.cps.toList.length = x.length := by simp [Str.length]
  rw [this]
  simp
theorem cuts_none {c : Nat} {l : List Nat} (h : c ∉ l) : cutsOf c l = [] := by
  unfold cutsOf
  rw [List.filter_eq_nil_iff]
  intro i _ z
  exact h (List.mem_of_getElem? (by simpa using z))
theorem cuts_cons {c : Nat} {w r : List Nat} (h : c ∉ w) : cutsOf c (w ++ c :: r) = w.length :: (cutsOf c r).map (· + (w.length + 1)) := by
  unfold cutsOf
  have e1 : List.range' 0 ((w ++ c :: r).length + 1) = List.range' 0 w.length ++ (w.length :: List.range' (w.length + 1) (r.length + 1)) := by
    have : (w ++ c :: r).length + 1 = w.length + (1 + (r.length + 1)) := by rw [List.length_append, List.length_cons]; omega
    rw [this, ← List.range'_append_1, Nat.zero_add, Nat.add_comm 1, List.range'_succ]
  rw [e1, List.filter_append]
  have e2 : (List.range' 0 w.length).filter (fun i => (w ++ c :: r)[i]? == some c) = [] := by
    rw [List.filter_eq_nil_iff]
    intro i hi z
    have hi' : i < w.length := by simpa using hi
    rw [List.getElem?_append_left hi'] at z
    exact h (List.mem_of_getElem? (by simpa using z))
  rw [e2, List.nil_append, List.filter_cons]
  have e3 : ((w ++ c :: r)[w.length]? == some c) = true := by
    rw [List.getElem?_append_right (Nat.le_refl _), Nat.sub_self]
    simp
  rw [e3, if_pos rfl]
  have e4 : List.range' (w.length + 1) (r.length + 1) = (List.range' 0 (r.length + 1)).map (· + (w.length + 1)) := by
    have e5 : (fun x : Nat => x + (w.length + 1)) = fun x => w.length + 1 + x := funext fun x => Nat.add_comm _ _
    rw [e5, List.map_add_range']
  rw [e4, List.filter_map]
  congr 2
  refine List.filter_congr fun i _ => ?_
  show ((w ++ c :: r)[i + (w.length + 1)]? == some c) = _
  rw [List.getElem?_append_right (by omega), show i + (w.length + 1) - w.length = i + 1 by omega, List.getElem?_cons_succ]
/-- the parts of a text between the signs c -/
def splitC (c : Nat) (x : Str) : List Str := Builtin.Str.partsBetween x (cutsOf c x.cps.toList) 1
theorem parts_nil (x : Str) : Builtin.Str.partsBetween x [] 1 = [x] := by
  simp [Builtin.Str.partsBetween, Builtin.Str.strSub, Str.length]
theorem kind_ge (x : Str) : 1 ≤ Builtin.Str.strKind x := by
  unfold Builtin.Str.strKind
  split
  · exact Nat.le_refl _
  · split <;> omega
theorem split_eq {c : Nat} (hc : c < 256) (x : Str) : Txt.split x ⟨#[c]⟩ = splitC c x := by
  unfold Txt.split splitC
  rw [occ_cuts]
  have hk : Builtin.Str.strKind ⟨#[c]⟩ = 1 := by
    unfold Builtin.Str.strKind
    rw [if_pos (by simp [hc])]
  split
  · rename_i h
    have h0 : x.length = 0 := by
      rw [hk] at h
      have := kind_ge x
      rw [Bool.or_eq_true, decide_eq_true_eq, decide_eq_true_eq] at h
      rcases h with h | h
      · have h' : x.length < 1 := h
        omega
      · omega
    have e : x.cps.toList = [] := by
      have : x.cps.toList.length = 0 := by simpa [Str.length] using h0
      exact List.length_eq_zero_iff.mp this
    rw [e, cuts_none (by simp), parts_nil]
  · split
    · rename_i h
      have : cutsOf c x.cps.toList = [] := by simpa using h
      rw [this, parts_nil]
    · rfl
theorem splitC_none {c : Nat} {x : Str} (h : c ∉ x.cps.toList) : splitC c x = [x] := by
  unfold splitC
  rw [cuts_none h, parts_nil]
theorem parts_shift (x r : Str) (k : Nat) (hx : x.cps.toList.drop k = r.cps.toList) (hl : x.length = r.length + k) (w : Nat) : ∀ (cuts : List Nat) (a : Nat),
    (((a + k) :: (cuts.map (· + k)).map (· + w)).zip (cuts.map (· + k) ++ [x.length])).map (fun p => Builtin.Str.strSub x p.1 p.2) = ((a :: cuts.map (· + w)).zip (cuts ++ [r.length])).map (fun p => Builtin.Str.strSub r p.1 p.2) := by
  have one : ∀ i j, Builtin.Str.strSub x (i + k) (j + k) = Builtin.Str.strSub r i j := fun i j => by
    unfold Builtin.Str.strSub
    congr 1
    apply Array.toList_inj.mp
    rw [Array.toList_extract, Array.toList_extract, List.extract_eq_take_drop, List.extract_eq_take_drop, ← hx, List.drop_drop]
    congr 1
    · omega
    · congr 1; omega
  intro cuts
  induction cuts with
  | nil =>
    intro a
    simp only [List.map_nil, List.nil_append, List.zip_cons_cons, List.zip_nil_right, List.map_cons]
    rw [hl, one]
  | cons q cuts ih =>
    intro a
    simp only [List.map_cons, List.cons_append, List.zip_cons_cons]
    rw [one]
    have := ih (q + w)
    have e : q + k + w = q + w + k := by omega
    rw [e]
    rw [← this]
theorem splitC_cons {c : Nat} {w r : Str} (h : c ∉ w.cps.toList) : splitC c (w ++ ⟨#[c]⟩ ++ r) = w :: splitC c r := by
  have el : (w ++ ⟨#[c]⟩ ++ r).cps.toList = w.cps.toList ++ c :: r.cps.toList := by
    show (w.cps ++ #[c] ++ r.cps).toList = _
    rw [Array.toList_append, Array.toList_append]
    simp
  have ew : w.cps.toList.length = w.length := by simp [Str.length]
  have en : (w ++ ⟨#[c]⟩ ++ r).length = r.length + (w.length + 1) := by
    have := congrArg List.length el
    have e1 : (w ++ ⟨#[c]⟩ ++ r).cps.toList.length = (w ++ ⟨#[c]⟩ ++ r).length := by simp [Str.length]
    have e2 : r.cps.toList.length = r.length := by simp [Str.length]
    rw [e1, List.length_append, List.length_cons, ew, e2] at this
    omega
  unfold splitC
  rw [el, cuts_cons h, ew]
  unfold Builtin.Str.partsBetween
  simp only [List.map_cons, List.cons_append, List.zip_cons_cons, List.map_cons]
  congr 1
  · unfold Builtin.Str.strSub
    cases w with
    | mk wc =>
      congr 1
      apply Array.toList_inj.mp
      rw [Array.toList_extract, List.extract_eq_take_drop, el]
      show List.take ((⟨wc⟩ : Str).length - 0) (List.drop 0 (wc.toList ++ c :: r.cps.toList)) = wc.toList
      have : (⟨wc⟩ : Str).length = wc.toList.length := by simp [Str.length]
      rw [List.drop_zero, Nat.sub_zero, this]
      simp
  · have := parts_shift (w ++ ⟨#[c]⟩ ++ r) r (w.length + 1) (by rw [el, ← ew, List.drop_append]; simp) en 1 (cutsOf c r.cps.toList) 0
    rw [Nat.zero_add] at this
    exact this
end L2

namespace L2
open PySem PySem.Spec PyProof.Rows
/-! ### dict(zip(xs, ys)) -/
/-- a zip; the tuple that it handed out is still there -/
def ZipAt (h : Heap) (z TI TO i1 i2 : Addr) : Prop := IsZip h z TI TO .none ∨ ∃ (b : Bool) (a : Addr) (o : Obj), h.get? z = some { cls := .type "zip", dict := none, data := .fields #[rawInt a, .bool b, .bool false, .ref TI, .ref TO], slots := #[] } ∧ h.get? a = some o ∧ a ≠ z ∧ a ≠ TO ∧ a ≠ i1 ∧ a ≠ i2 ∧ o.cls = .type "tuple"
section
variable {prog : Program} {w : World} {A : Around} {E : Value → Shared → Prop} {s : Shared}
theorem free_no {z a TI TO : Addr} {b : Bool} {oa : Obj} {Q : Bool → Shared → Prop} (hz : s.heap.get? z = some { cls := .type "zip", dict := none, data := .fields #[rawInt a, .bool b, .bool false, .ref TI, .ref TO], slots := #[] }) (ha : s.heap.get? a = some oa)
    (hQ : ∀ h' b', h'.get? z = some { cls := .type "zip", dict := none, data := .fields #[rawInt a, .bool b', .bool false, .ref TI, .ref TO], slots := #[] } → Heap.SameBut z s.heap h' → Q false { s with heap := h' }) : wpAny (model prog w) A (Builtin.SmallTypes.ownedTupleIsFree (.ref z)) Q E s := by
  unfold Builtin.SmallTypes.ownedTupleIsFree
  refine wpAny_bind (wpAny_field hz rfl (x := rawInt a) rfl ?_)
  show wpAny _ _ (loadIfAlive ((a : Int).toNat) >>= _) _ _ _
  refine wpAny_bind (wpAny_alive ?_)
  rw [Int.toNat_natCast]
  show wpAny _ _ (if (s.heap.get? a).isNone = true then _ else _) _ _ _
  rw [ha, if_neg (by simp)]
  refine wpAny_bind (wpAny_field hz rfl (x := .bool b) rfl ?_)
  cases b with
  | true =>
    rw [if_neg (by decide)]
    exact wpAny_pure (hQ s.heap true hz ⟨rfl, fun _ _ => rfl⟩)
  | false =>
    rw [if_pos (by decide)]
    refine wpAny_bind (wpAny_setField_rec hz (by simp) fun h₅ he₅ hs₅ => ?_)
    exact wpAny_pure (hQ h₅ true he₅ hs₅)
theorem zip_item {z TI TO i1 i2 l1 l2 : Addr} {k : Nat} {xs ys : Array Value} {x y : Value} {Q : Option Value → Shared → Prop} (D : ZipApart z TI TO i1 i2 l1 l2)
    (hz : ZipAt s.heap z TI TO i1 i2) (hTI : IsPair s.heap TI (.ref i1) (.ref i2)) (hTO : ∃ a b, IsPair s.heap TO a b)
    (h1 : s.heap.IsListIter i1 l1 k) (h2 : s.heap.IsListIter i2 l2 k) (hl1 : s.heap.IsList l1 xs) (hl2 : s.heap.IsList l2 ys) (hx : xs[k]? = some x) (hy : ys[k]? = some y)
    (hQ : ∀ h', ZipAt h' z TI TO i1 i2 → (∃ a b, IsPair h' TO a b) → h'.IsListIter i1 l1 (k + 1) → h'.IsListIter i2 l2 (k + 1) → IsPair h' s.heap.objs.size x y →
      (∀ c o, c ≠ z → c ≠ TO → c ≠ i1 → c ≠ i2 → s.heap.get? c = some o → h'.get? c = some o) → Q (some (.ref s.heap.objs.size)) { s with heap := h' }) :
    wpAny (model prog w) A (pyNext (.ref z)) Q E s := by
  obtain ⟨ta, tb, hTO⟩ := hTO
  have lt : ∀ {c o}, s.heap.get? c = some o → s.heap.objs.size ≠ c := fun e => Nat.ne_of_gt (Heap.lt_size e)
  have ltI1 : s.heap.objs.size ≠ i1 := by obtain ⟨_, e, _⟩ := h1; exact lt e
  have ltI2 : s.heap.objs.size ≠ i2 := by obtain ⟨_, e, _⟩ := h2; exact lt e
  rcases hz with hz | ⟨b, a, oa, hz, ha, a1, a2, a3, a4, a5⟩
  · exact wpAny_pyNext_zip_item D hz hTI hTO h1 h2 hl1 hl2 hx hy fun h' b1 b2 b3 b4 b5 b6 hk => hQ h' (.inr ⟨false, _, _, b1, b5, lt hz, lt hTO, ltI1, ltI2, rfl⟩) ⟨_, _, b2⟩ b3 b4 b5 hk
  · have hT : s.TypeIs (.ref z) "zip" := ⟨_, hz, rfl⟩
    unfold pyNext
    refine wpAny_bind (wpAny_attempt (wpAny_callSpecial?_slot (name := Str.ofString "__next__") hT F.slot_zip_next (wpAny_call_entry F.slot_zip_next hT F.entry_zip_next ?_ (F.args_zip_next_1 _))))
    show wpAny _ _ (field (.ref z) 2 >>= _) _ _ _
    refine wpAny_bind (wpAny_field hz rfl (x := .bool false) rfl ?_)
    show wpAny _ _ (field (.ref z) 3 >>= _) _ _ _
    refine wpAny_bind (wpAny_field hz rfl (x := .ref TI) rfl ?_)
    refine wpAny_bind (wpAny_seqItems hTI rfl ?_)
    show wpAny _ _ (Builtin.SmallTypes.ownedTupleIsFree (.ref z) >>= _) _ _ _
    refine wpAny_bind (free_no hz ha fun h₀ b' hz₀ hs₀ => ?_)
    rw [if_neg (by decide)]
    show wpAny _ _ (forIn (#[Value.ref i1, Value.ref i2] : Array Value) _ _ >>= _) _ _ _
    rw [← Array.forIn_toList]
    refine wpAny_bind ?_
    simp only [List.forIn_cons, List.forIn_nil]
    refine wpAny_bind (wpAny_bind (wpAny_holding ?_))
    show wpAny _ _ (Builtin.SmallTypes.nextOf (.ref i1) >>= _) _ _ _
    refine wpAny_bind (wpAny_nextOf_list_item (h1.extBut hs₀.extBut D.i1z) (hl1.extBut hs₀.extBut D.l1z) hx fun h₂ h1₂ hs₂ => wpAny_pure (wpAny_pure ?_))
    refine wpAny_bind (wpAny_bind (wpAny_holding ?_))
    show wpAny _ _ (Builtin.SmallTypes.nextOf (.ref i2) >>= _) _ _ _
    refine wpAny_bind (wpAny_nextOf_list_item ((h2.extBut hs₀.extBut D.i2z).extBut hs₂.extBut D.i12.symm) ((hl2.extBut hs₀.extBut D.l2z).extBut hs₂.extBut D.l2i1) hy fun h₄ h2₄ hs₄ => wpAny_pure (wpAny_pure (wpAny_pure ?_)))
    show wpAny _ _ (newTuple [x, y] >>= _) _ _ _
    refine wpAny_bind (wpAny_newTuple ?_)
    have hsz : h₄.objs.size = s.heap.objs.size := by rw [hs₄.1, hs₂.1, hs₀.1]
    have up : ∀ c o, c ≠ z → c ≠ i1 → c ≠ i2 → s.heap.get? c = some o → (h₄.push { cls := .type "tuple", data := .seq #[x, y] }).get? c = some o := fun c o c1 c3 c4 e => Heap.get?_push_of_some _ (hs₄.extBut _ _ c4 (hs₂.extBut _ _ c3 (hs₀.extBut _ _ c1 e)))
    refine wpAny_pure ⟨_, rfl, wpAny_pure ?_⟩
    show Q (some (.ref h₄.objs.size)) _
    have hT₄ : IsPair (h₄.push { cls := .type "tuple", data := .seq #[x, y] }) h₄.objs.size x y := Heap.get?_push_size _ rfl
    rw [hsz] at hT₄ ⊢
    refine hQ _ (.inr ⟨b', a, oa, Heap.get?_push_of_some _ (hs₄.extBut _ _ D.i2z.symm (hs₂.extBut _ _ D.i1z.symm hz₀)), up _ _ a1 a3 a4 ha, a1, a2, a3, a4, a5⟩) ⟨_, _, up _ _ D.TOz D.TOi1 D.TOi2 hTO⟩ ?_ ?_ hT₄ fun c o c1 _ c3 c4 e => up c o c1 c3 c4 e
    · exact (h1₂.extBut hs₄.extBut D.i12).at fun o e => Heap.get?_push_of_some _ e
    · exact h2₄.at fun o e => Heap.get?_push_of_some _ e
theorem zip_end {z TI TO i1 i2 l1 l2 : Addr} {k : Nat} {xs ys : Array Value} {Q : Option Value → Shared → Prop} (hh : A.handled = none) (D : ZipApart z TI TO i1 i2 l1 l2)
    (hz : ZipAt s.heap z TI TO i1 i2) (hTI : IsPair s.heap TI (.ref i1) (.ref i2)) (hTO : ∃ a b, IsPair s.heap TO a b)
    (h1 : s.heap.IsListIter i1 l1 k) (h2 : s.heap.IsListIter i2 l2 k) (hl1 : s.heap.IsList l1 xs) (hl2 : s.heap.IsList l2 ys) (hx : xs[k]? = none)
    (hQ : ∀ h', (∀ c o, c ≠ z → c ≠ TO → c ≠ i1 → c ≠ i2 → s.heap.get? c = some o → h'.get? c = some o) → Q none { s with heap := h' }) : wpAny (model prog w) A (pyNext (.ref z)) Q E s := by
  obtain ⟨ta, tb, hTO⟩ := hTO
  rcases hz with hz | ⟨b, a, oa, hz, ha, a1, a2, a3, a4, a5⟩
  · exact wpAny_pyNext_zip_end hh D hz hTI hTO h1 h2 hl1 hl2 (.inl hx) hQ
  · have hT : s.TypeIs (.ref z) "zip" := ⟨_, hz, rfl⟩
    unfold pyNext
    refine wpAny_bind (wpAny_attempt (wpAny_callSpecial?_slot (name := Str.ofString "__next__") hT F.slot_zip_next (wpAny_call_entry F.slot_zip_next hT F.entry_zip_next ?_ (F.args_zip_next_1 _))))
    show wpAny _ _ (field (.ref z) 2 >>= _) _ _ _
    refine wpAny_bind (wpAny_field hz rfl (x := .bool false) rfl ?_)
    show wpAny _ _ (field (.ref z) 3 >>= _) _ _ _
    refine wpAny_bind (wpAny_field hz rfl (x := .ref TI) rfl ?_)
    refine wpAny_bind (wpAny_seqItems hTI rfl ?_)
    show wpAny _ _ (Builtin.SmallTypes.ownedTupleIsFree (.ref z) >>= _) _ _ _
    refine wpAny_bind (free_no hz ha fun h₀ b' hz₀ hs₀ => ?_)
    rw [if_neg (by decide)]
    show wpAny _ _ (forIn (#[Value.ref i1, Value.ref i2] : Array Value) _ _ >>= _) _ _ _
    rw [← Array.forIn_toList]
    refine wpAny_bind ?_
    simp only [List.forIn_cons, List.forIn_nil]
    refine wpAny_bind (wpAny_bind (wpAny_holding ?_))
    show wpAny _ _ (Builtin.SmallTypes.nextOf (.ref i1) >>= _) _ _ _
    refine wpAny_bind (wpAny_nextOf_list_end hh (h1.extBut hs₀.extBut D.i1z) (hl1.extBut hs₀.extBut D.l1z) hx fun h₂ e hs₂ he => ?_)
    obtain ⟨o, ho, hc⟩ := he
    refine wpAny_bind (wpAny_isInstance (T := "StopIteration") (b := true) ⟨o, ho, hc⟩ isSubtype_stop ?_)
    exact wpAny_pure (hQ _ fun c o c1 _ c3 _ e => hs₂ _ _ c3 (hs₀.extBut _ _ c1 e))
end
theorem entry_zip_ga : entryFor table "zip.__getattribute__" = some Builtin.«object.__getattribute__» :=
  entryFor_alias (id' := "object.__getattribute__") (by kernel_rfl) (by first | rfl | decide +kernel) (by decide +kernel) (by kernel_rfl)
theorem zip_getattr_none : typeLookup (.type "zip") "__getattr__" = pure none := by rw [typeLookup_type, builtinLookup_eq_fast]; kernel_rfl
theorem zip_keys_none : typeLookup (.type "zip") "keys" = pure none := by rw [typeLookup_type, builtinLookup_eq_fast]; kernel_rfl
theorem meets_ga_zip (a : Addr) (f : Array Value) (u : Tok) :
    Meets (Builtin.«object.__getattribute__» ⟨[.ref a, .str "keys" u], []⟩) (fun A R s => s.heap.get? a = some { cls := .type "zip", dict := none, data := .fields f, slots := #[] } ∧ raisesAttr (.ref a) "keys" A R s) :=
  Meets.of_wp fun prog w A R s hs => by
    obtain ⟨hp, g, d, tk, os⟩ := s
    obtain ⟨ho, hs⟩ := hs
    have hT : (⟨hp, g, d, tk, os⟩ : Shared).TypeIs (.ref a) "zip" := ⟨_, ho, rfl⟩
    have hm := zip_keys_none
    unfold Builtin.«object.__getattribute__»
    repeat (any_goals (first | assumption | wp_step))
    exact wpAny_raiseAttrError hs.1 hs.2 (attrMsg_fits (by decide +kernel) (by size_fits))
theorem zkeys_miss {prog : Program} {w : World} {A : Around} {E : Value → Shared → Prop} {s : Shared} {a : Addr} {f : Array Value} {Q : Option Value → Shared → Prop} (hA : A.handled = none) (ho : s.heap.get? a = some { cls := .type "zip", dict := none, data := .fields f, slots := #[] })
    (h : ∀ h' tk, (∀ b o, s.heap.get? b = some o → h'.get? b = some o) → Q none { s with heap := h', toks := tk }) : wpAny (model prog w) A (getAttr? (.ref a) "keys") Q E s := by
  obtain ⟨hp, g, d, tk, os⟩ := s
  have hT : (⟨hp, g, d, tk, os⟩ : Shared).TypeIs (.ref a) "zip" := ⟨_, ho, rfl⟩
  have hT1 : ∀ t', (⟨hp, g, d, t', os⟩ : Shared).TypeIs (.ref a) "zip" := fun t' => ⟨_, ho, rfl⟩
  have f1 := sub_AttributeError
  have f3 := F.slot_zip_getattribute.lookup
  have f4 := F.slot_zip_getattribute.bind (.ref a)
  have f5 := zip_getattr_none
  unfold getAttr? getAttrBy? getAttrBy
  repeat (any_goals (first | assumption | exact hT1 _ | ((with_reducible show wpAny _ _ (call (Value.builtin "zip.__getattribute__") _ _) _ _ _); refine call_meets F.slot_zip_getattribute (hT1 _) entry_zip_ga (F.args_zip_getattribute_2 _ _) (meets_ga_zip a f _) ⟨ho, hA, fun h' tk' e hx => ?_⟩) | wp_step))
  obtain ⟨t', u', he⟩ := hx.there
  show wpAny _ _ (getattributeRaised _ _ _ _ _ _ _) _ _ _
  unfold getattributeRaised
  repeat (any_goals (first | assumption | wp_step))
  exact h h' tk' hx.keeps
end L2

namespace L2
open PySem PySem.Spec PyProof.Rows
/-- the pairs of a zip of texts and things -/
def zipP {α : Type} (zs : List Str) (ys : List α) (n : Nat) : List (Key × α) := ((zs.zip ys).take n).map fun p => ((.inr p.1 : Key), p.2)
theorem zipP_succ {α : Type} {zs : List Str} {ys : List α} {n : Nat} {z : Str} {y : α} (h1 : zs[n]? = some z) (h2 : ys[n]? = some y) : zipP zs ys (n + 1) = zipP zs ys n ++ [((.inr z : Key), y)] := by
  unfold zipP
  have : (zs.zip ys)[n]? = some (z, y) := by rw [List.getElem?_zip_eq_some]; exact ⟨h1, h2⟩
  rw [List.take_add_one, this, List.map_append]
  rfl
theorem zipP_len {α : Type} (zs : List Str) (ys : List α) (n : Nat) : (zipP zs ys n).length ≤ n := by
  unfold zipP
  rw [List.length_map, List.length_take]
  exact Nat.min_le_left _ _
theorem zipP_new {α : Type} {zs : List Str} {ys : List α} {n : Nat} {z : Str} (nd : zs.Nodup) (h1 : zs[n]? = some z) : ∀ kv ∈ zipP zs ys n, kv.1 ≠ (.inr z : Key) := by
  intro kv h e
  unfold zipP at h
  obtain ⟨p, hp, rfl⟩ := List.mem_map.mp h
  have e' : p.1 = z := Sum.inr.inj e
  obtain ⟨i, hi⟩ := List.getElem?_of_mem hp
  rw [List.getElem?_take] at hi
  split at hi
  · rename_i hlt
    have h3 : zs[i]? = some p.1 := (List.getElem?_zip_eq_some.mp hi).1
    rw [e'] at h3
    have hn : n < zs.length := (List.getElem?_eq_some_iff.mp h1).1
    have hi' : i < zs.length := (List.getElem?_eq_some_iff.mp h3).1
    have := (List.getElem?_inj hi' nd).mp (h3.trans h1.symm)
    omega
  · cases hi
section
variable {prog : Program} {w : World} {A : Around} {R : Result → Shared → Prop}
theorem zip_loop (hh : A.handled = none) {z TI TO i1 i2 l1 l2 d : Addr} {zs : List Str} {ks ys : List Value} (D : ZipApart z TI TO i1 i2 l1 l2) (hd0 : d ≠ z ∧ d ≠ TI ∧ d ≠ TO ∧ d ≠ i1 ∧ d ≠ i2 ∧ d ≠ l1 ∧ d ≠ l2) (hk : ∀ (i : Nat) (zt : Str), zs[i]? = some zt → ∃ t, ks[i]? = some (Value.str zt t)) (hlk : ks.length = zs.length) (hly : ys.length = zs.length) (nd : zs.Nodup) (hsz : zs.length ≤ sizeLine) :
    ∀ (k i : Nat) (s : Shared), zs.length - i = k → i ≤ zs.length → ZipAt s.heap z TI TO i1 i2 → IsPair s.heap TI (.ref i1) (.ref i2) → (∃ a b, IsPair s.heap TO a b) → s.heap.IsListIter i1 l1 i → s.heap.IsListIter i2 l2 i → s.heap.IsList l1 ks.toArray → s.heap.IsList l2 ys.toArray → s.heap.DictOf (mixKind prog w) d (zipP zs ys i) →
      (∀ h' tk, h'.DictOf (mixKind prog w) d (zipP zs ys zs.length) → (∀ b o, b ≠ z → b ≠ TO → b ≠ i1 → b ≠ i2 → b ≠ d → s.heap.get? b = some o → h'.get? b = some o) → R (.ok (.ret .none)) { s with heap := h', toks := tk }) →
      codeAny (model prog w) A (.builtin "dict.update.loop" ⟨[.ref d, .ref z, rawInt i, .none], []⟩) R s := by
  obtain ⟨dz, dTI, dTO, di1, di2, dl1, dl2⟩ := hd0
  intro k
  induction k with
  | zero =>
    intro i s hk' hi he hTI hTO hit1 hit2 hl1 hl2 hd hR
    have hin : i = zs.length := by omega
    subst hin
    refine codeAny_builtin entry_dict_loop ?_
    rw [Around.under_plainId plain_dict_loop _]
    show wpAny _ A.in1 (pyNext (.ref z) >>= _) _ _ s
    refine wpAny_bind (zip_end hh D he hTI hTO hit1 hit2 hl1 hl2 (by simp [hlk]) fun h' hx => ?_)
    show wpAny _ A.in1 (Builtin.Dict.addKeywords d [] >>= _) _ _ _
    refine wpAny_bind (wpAny_pure ?_)
    refine wpAny_pure (hR h' s.toks ?_ fun b o h1 h2 h3 h4 _ x => hx b o h1 h2 h3 h4 x)
    obtain ⟨o, es, ep, ho, r⟩ := hd
    exact ⟨o, es, ep, hx d o dz dTO di1 di2 ho, r⟩
  | succ k ih =>
    intro i s hk' hi he hTI hTO hit1 hit2 hl1 hl2 hd hR
    have hlt : i < zs.length := by omega
    obtain ⟨zt, hzt⟩ : ∃ zt, zs[i]? = some zt := ⟨_, List.getElem?_eq_getElem hlt⟩
    obtain ⟨t, hkt⟩ := hk i zt hzt
    obtain ⟨y, hy⟩ : ∃ y, ys[i]? = some y := ⟨_, List.getElem?_eq_getElem (by omega)⟩
    refine codeAny_builtin entry_dict_loop ?_
    rw [Around.under_plainId plain_dict_loop _]
    show wpAny _ A.in1 (pyNext (.ref z) >>= _) _ _ s
    refine wpAny_bind (zip_item D he hTI hTO hit1 hit2 hl1 hl2 (by simpa using hkt) (by simpa using hy) fun h' he' hTO' hit1' hit2' ht hk' => ?_)
    show wpAny _ A.in1 (holding [Value.ref s.heap.objs.size] _ >>= _) _ _ _
    refine wpAny_bind (wpAny_holding ?_)
    refine wpAny_bind (wpAny_tryCatch ?_)
    unfold Builtin.Dict.pairItems
    refine wpAny_bind (wpAny_typeOf (T := "tuple") (s := { s with heap := h' }) ⟨_, ht, rfl⟩ ?_)
    rw [if_pos (by decide)]
    refine wpAny_bind (wpAny_seqItems (s := { s with heap := h' }) ht rfl ?_)
    refine wpAny_pure ?_
    show wpAny _ A.in1 (holding [Value.str zt t, y] (dictSet d (Value.str zt t) y)) _ _ _
    have ltd : d < s.heap.objs.size := let ⟨_, _, _, ho, _⟩ := hd; Heap.lt_size ho
    have hd' : h'.DictOf (mixKind prog w) d (zipP zs ys i) := by
      obtain ⟨o, es, ep, ho, r⟩ := hd
      exact ⟨o, es, ep, hk' d o dz dTO di1 di2 ho, r⟩
    refine wpAny_holding (wpAny_dictSet_pairs (s := { s with heap := h' }) (hsz := Nat.le_trans (zipP_len _ _ _) (by omega)) (knd := mixKind prog w) (k := (.inr zt : Key)) (kV_is (k := (.inr zt : Key)) ⟨t, rfl⟩) hd' fun h2 hd2 hs2 => ?_)
    have e1 : stored (zipP zs ys i) (.inr zt : Key) y = zipP zs ys (i + 1) := by
      rw [zipP_succ hzt hy]
      unfold stored
      rw [if_neg]
      intro hany
      obtain ⟨kv, h1, h2⟩ := List.any_eq_true.mp hany
      exact zipP_new nd hzt kv h1 (of_decide_eq_true h2)
    rw [e1] at hd2
    have oth : ∀ b o, b ≠ z → b ≠ TO → b ≠ i1 → b ≠ i2 → b ≠ d → s.heap.get? b = some o → h2.get? b = some o := fun b o h1 h2 h3 h4 h5 x => (hs2.2 b h5).trans (hk' b o h1 h2 h3 h4 x)
    have he2 : ZipAt h2 z TI TO i1 i2 := by
      rcases he' with he' | ⟨b, a, oa, he', ha, a1, a2, a3, a4, hta⟩
      · exact .inl ((hs2.2 z dz.symm).trans he')
      · refine .inr ⟨b, a, oa, (hs2.2 z dz.symm).trans he', (hs2.2 a (fun y => ?_)).trans ha, a1, a2, a3, a4, hta⟩
        subst y
        obtain ⟨o, es, ep, ho, hc, _⟩ := hd'
        rw [ho] at ha
        cases ha
        have := hc.1
        rw [hta] at this
        exact absurd this (by decide)
    have hc : ((i : Int) + 1) = ((i + 1 : Nat) : Int) := by push_cast; rfl
    obtain ⟨ta, tb, hTO'⟩ := hTO'
    show wpAny _ A.in1 (again _) _ _ _
    refine wpAny_pure ⟨plainId_quiet plain_dict_loop _, ?_⟩
    show codeAny _ A (.builtin "dict.update.loop" ⟨[.ref d, .ref z, rawInt ((i : Int) + 1), .none], []⟩) R _
    rw [hc]
    exact ih (i + 1) _ (by omega) hlt he2 (oth _ _ D.TIz D.TITO D.TIi1 D.TIi2 dTI.symm hTI) ⟨ta, tb, (hs2.2 TO dTO.symm).trans hTO'⟩ (hit1'.at fun o x => (hs2.2 i1 di1.symm).trans x) (hit2'.at fun o x => (hs2.2 i2 di2.symm).trans x)
      (hl1.at fun o x => oth l1 o D.l1z D.l1TO D.l1i1 D.l1i2 dl1.symm x) (hl2.at fun o x => oth l2 o D.l2z D.l2TO D.l2i1 D.l2i2 dl2.symm x) hd2 fun h3 tk3 hd3 hk3 => hR h3 tk3 hd3 fun b o h1 h2 h3' h4 h5 x => hk3 b o h1 h2 h3' h4 h5 (oth b o h1 h2 h3' h4 h5 x)
end
section
variable {prog : Program} {w : World} {A : Around} {E : Value → Shared → Prop} {s : Shared}
theorem zip_call {Q : Value → Shared → Prop} (hh : A.handled = none) {z TI TO i1 i2 l1 l2 : Addr} {zs : List Str} {ks ys : List Value} (D : ZipApart z TI TO i1 i2 l1 l2) (hk : ∀ (i : Nat) (zt : Str), zs[i]? = some zt → ∃ t, ks[i]? = some (Value.str zt t)) (hlk : ks.length = zs.length) (hly : ys.length = zs.length) (nd : zs.Nodup) (hsz : zs.length ≤ sizeLine)
    (he : IsZip s.heap z TI TO .none) (hTI : IsPair s.heap TI (.ref i1) (.ref i2)) (hTO : IsPair s.heap TO .none .none) (hit1 : s.heap.IsListIter i1 l1 0) (hit2 : s.heap.IsListIter i2 l2 0) (hl1 : s.heap.IsList l1 ks.toArray) (hl2 : s.heap.IsList l2 ys.toArray)
    (hQ : ∀ h' tk, h'.DictOf (mixKind prog w) s.heap.objs.size (zipP zs ys zs.length) → (∀ b o, b ≠ z → b ≠ TO → b ≠ i1 → b ≠ i2 → s.heap.get? b = some o → h'.get? b = some o) → Q (.ref s.heap.objs.size) { s with heap := h', toks := tk }) :
    wpAny (model prog w) A (call (.type "dict") [.ref z]) Q E s := by
  refine callType_codes (Q₁ := fun obj s₁ => obj = .ref s.heap.objs.size ∧ s₁ = { s with heap := s.heap.push { cls := .type "dict", data := .dict #[] } }) F.kt_called_dict (F.kt_typeCall_dict_1 _) F.entry_dict_init (kt_code_dict_new _ ⟨rfl, rfl⟩) ?_
  rintro obj s₁ ⟨rfl, rfl⟩
  have hnew : (s.heap.push { cls := .type "dict", data := .dict #[] }).DictOf (mixKind prog w) s.heap.objs.size [] := Heap.DictOf.new s.heap
  have he1 : IsZip (s.heap.push { cls := .type "dict", data := .dict #[] }) z TI TO .none := Heap.get?_push_of_some _ he
  have lt : ∀ {c o}, s.heap.get? c = some o → s.heap.objs.size ≠ c := fun e => Nat.ne_of_gt (Heap.lt_size e)
  have q1 : s.heap.objs.size ≠ i1 := by obtain ⟨_, e, _⟩ := hit1; exact lt e
  have q2 : s.heap.objs.size ≠ i2 := by obtain ⟨_, e, _⟩ := hit2; exact lt e
  have q3 : s.heap.objs.size ≠ l1 := by obtain ⟨_, e, _⟩ := hl1; exact lt e
  have q4 : s.heap.objs.size ≠ l2 := by obtain ⟨_, e, _⟩ := hl2; exact lt e
  refine ⟨hnew.typeIs, F.args_dict_init_2 _ _, ?_⟩
  unfold Builtin.«dict.__init__»
  refine wpAny_bind ?_
  unfold Builtin.Dict.selfAndRest
  refine wpAny_bind (wpAny_notOrdered_dict hnew.typeIs ?_)
  show wpAny _ _ (pure (s.heap.objs.size, [Value.ref z])) _ _ _
  refine wpAny_pure ?_
  show wpAny _ _ (Builtin.Dict.updateFrom "dict.__init__" s.heap.objs.size (.ref z) [] .none) _ _ _
  unfold Builtin.Dict.updateFrom
  refine wpAny_bind (wpAny_typeOf (T := "zip") ⟨_, he1, rfl⟩ ?_)
  rw [if_pos (by decide)]
  refine wpAny_bind (zkeys_miss (s := { s with heap := s.heap.push { cls := .type "dict", data := .dict #[] } }) hh he1 fun h1 tk1 hk1 => ?_)
  rw [if_pos (by decide)]
  refine wpAny_bind (wpAny_rule ?_)
  have he2 : IsZip h1 z TI TO .none := hk1 _ _ he1
  have hk2 : ∀ b o, s.heap.get? b = some o → h1.get? b = some o := fun b o x => hk1 b o (Heap.get?_push_of_some _ x)
  refine wpAny_bind (wpAny_pyIter_zip (s := { s with heap := h1, toks := tk1 }) he2 ?_)
  have hd1 : h1.DictOf (mixKind prog w) s.heap.objs.size (zipP zs ys 0) := by
    obtain ⟨o, es, ep, ho, r⟩ := hnew
    exact ⟨o, es, ep, hk1 _ _ ho, r⟩
  refine wpAny_pure ⟨plainId_quiet plain_dict_loop _, ?_⟩
  refine zip_loop (A := A.in1) hh D ⟨lt he, lt hTI, lt hTO, q1, q2, q3, q4⟩ hk hlk hly nd hsz zs.length 0 { s with heap := h1, toks := tk1 } rfl (Nat.zero_le _) (.inl he2) (hk2 _ _ hTI) ⟨_, _, hk2 _ _ hTO⟩ (hit1.at fun o x => hk2 _ _ x) (hit2.at fun o x => hk2 _ _ x) (hl1.at fun o x => hk2 _ _ x) (hl2.at fun o x => hk2 _ _ x) hd1 fun h3 tk3 hd3 hk3 => ?_
  exact ⟨rfl, hQ h3 tk3 hd3 fun b o h1 h2 h3 h4 x => hk3 b o h1 h2 h3 h4 (Nat.ne_of_lt (Heap.lt_size x)) (hk2 b o x)⟩
end
theorem sz1000 : (1000 : Nat) ≤ sizeLine := by decide
/-- dict(zip(a, b)): texts, all unlike, and as many things -/
def tDictZip (K : PySem.W.Frag) (ta : TA) : TE := fun σ H Q => ta σ H fun vs H1 => ∃ p q zs ys, vs = [.ref p, .ref q] ∧ SqL K H1 p (zs.map V.str) ∧ SqL K H1 q ys ∧ ys.length = zs.length ∧ zs.length ≤ 1000 ∧ zs.Nodup ∧ ∀ d, H1 d = none → Q (.ref d) (upd H1 d (.dK (zipP zs ys zs.length)))
theorem KV.zipP {zs : List Str} {ys : List V} {its : List Value} (r : Vals ys its) : ∀ n : Nat, KV (L2.zipP zs ys n) (L2.zipP zs its n)
  | 0 => .nil
  | n + 1 => by
    have ih := KV.zipP (zs := zs) r n
    have app : ∀ {a c : List (Key × V)} {b d : List (Key × Value)}, KV a b → KV c d → KV (a ++ c) (b ++ d) := by
      intro a c b d h1 h2
      unfold KV at h1 h2 ⊢
      induction h1 with
      | nil => exact h2
      | cons r t ih => exact .cons r ih
    cases e1 : zs[n]? with
    | none =>
      have q : zs.length ≤ n := List.getElem?_eq_none_iff.mp e1
      have w1 : ∀ {α : Type} (us : List α), L2.zipP zs us (n + 1) = L2.zipP zs us n := fun us => by
        unfold L2.zipP
        rw [List.take_of_length_le (by rw [List.length_zip]; omega), List.take_of_length_le (by rw [List.length_zip]; omega)]
      rw [w1, w1]; exact ih
    | some z =>
      cases e : ys[n]? with
      | none =>
        have h1 := List.getElem?_eq_none_iff.mp e
        have w1 : ∀ {α : Type} (us : List α), us.length = ys.length → L2.zipP zs us (n + 1) = L2.zipP zs us n := fun us hu => by
          unfold L2.zipP
          rw [List.take_of_length_le (by rw [List.length_zip]; omega), List.take_of_length_le (by rw [List.length_zip]; omega)]
        rw [w1 ys rfl, w1 its r.length.symm]; exact ih
      | some v =>
        obtain ⟨u, e2, ru⟩ := Vals.get r e
        rw [zipP_succ e1 e, zipP_succ e1 e2]
        exact app ih (.cons ⟨rfl, ru⟩ .nil)
section
variable {X : Cx} {e1 e2 : Expr} {ta : TA} {x x' : Str} {p p' pos pos' : Pos}
theorem pe_dictzip (hc : X.calm = true) (ha : PA X [e1, e2] ta) (hg : Gl X x) (hm : X.mg x = none) (hv : bootBuiltins x = some (.type "dict")) (hg' : Gl X x') (hm' : X.mg x' = none) (hv' : bootBuiltins x' = some (.type "zip"))
    (hn : x ≠ "__name__" := by decide) (hdb : (x == ("__debug__" : Str)) = false := by decide) (hn' : x' ≠ "__name__" := by decide) (hdb' : (x' == ("__debug__" : Str)) = false := by decide)
    (hs : starEach [e1, e2] X.env = [(false, eval e1 X.env), (false, eval e2 X.env)] := by rfl) (hs2 : starEach [e2] X.env = [(false, eval e2 X.env)] := by rfl) (h2 : starEach [.Call (.Name x' p') [e1, e2] [] pos'] X.env = [(false, eval (.Call (.Name x' p') [e1, e2] [] pos') X.env)] := by rfl) :
    PE X (.Call (.Name x p) [.Call (.Name x' p') [e1, e2] [] pos'] [] pos) (tDictZip X.K ta) := by
  intro pins s σ H Q I h
  refine wpAny_Call_Name_kw (ld_blt I hg hm hv ?_ hn hdb)
  refine PyProof.Rows.callWith_type1 ?_ h2 rfl
  rw [h2]
  refine Calls.spliced_cons ?_
  refine wpAny_Call_Name_kw (ld_blt I hg' hm' hv' ?_ hn' hdb')
  refine PyProof.Rows.callWith_type1 (thn (ha pos' pins s σ H _ I h) fun us s1 ⟨vs, H1, I1, r1, q1⟩ => ?_) (by rw [hs, hs2]) (by rw [hs2]; rfl)
  obtain ⟨p1, p2, zs, ys, ex, hq1, hq2, hly, hlz, nd, k⟩ := q1
  subst ex
  obtain ⟨u1, u2, rfl, ru1, ru2⟩ := vals2 r1
  cases ru1
  cases ru2
  obtain ⟨ks, rk, pl1, hz1⟩ := I1.list hq1
  obtain ⟨its, r', pl2, hz2⟩ := I1.list hq2
  have hlk : ks.length = zs.length := by rw [← rk.length, List.length_map]
  have hli := r'.length
  refine call_zip_2 pl1.isList pl2.isList fun ha' hz hTI hTO hit1 hit2 hsza hka => ?_
  refine Calls.spliced_nil ?_
  have lt1 : p1 < s1.heap.objs.size := by obtain ⟨o, ho, _⟩ := pl1.isList; exact Heap.lt_size ho
  have lt2 : p2 < s1.heap.objs.size := by obtain ⟨o, ho, _⟩ := pl2.isList; exact Heap.lt_size ho
  have I2 : Inv X pins σ H1 { s1 with heap := ha' } := I1.kept (t' := s1.toks) hka
  have hkk : ∀ (i : Nat) (zt : Str), zs[i]? = some zt → ∃ t, ks[i]? = some (Value.str zt t) := fun i zt hi => by
    have : (zs.map V.str)[i]? = some (V.str zt) := by rw [List.getElem?_map, hi]; rfl
    obtain ⟨u, e, ru⟩ := Vals.get rk this
    obtain ⟨t, rfl⟩ := ru
    exact ⟨t, e⟩
  refine zip_call (s := { s1 with heap := ha' }) (zs := zs) (ks := ks) (ys := its) (I2.ok.hd hc) (zipApart_new lt1 lt2) hkk hlk (by omega) nd (Nat.le_trans hlz sz1000) hz hTI hTO hit1 hit2 (pl1.isList.at fun o e => hka p1 o e) (pl2.isList.at fun o e => hka p2 o e) fun h' tk hd hk => ?_
  obtain ⟨od, es, ep, hod, hrest⟩ := hd
  have hk0 : ∀ b o, s1.heap.get? b = some o → h'.get? b = some o := fun b o x => by
    exact hk b o (Nat.ne_of_lt (Nat.lt_add_right 4 (Heap.lt_size x))) (Nat.ne_of_lt (Nat.lt_add_right 3 (Heap.lt_size x))) (Nat.ne_of_lt (Heap.lt_size x)) (Nat.ne_of_lt (Nat.lt_add_right 1 (Heap.lt_size x))) (hka b o x)
  refine ⟨.ref ha'.objs.size, _, I1.laid (t' := tk) (a := ha'.objs.size) (o := .dK (zipP zs ys zs.length)) hk0 (by show s1.heap.objs.size ≤ ha'.objs.size; omega) ?_, rfl, k _ (I2.hok.fresh (Nat.le_refl _))⟩
  have hnl := zipP_len zs ys zs.length
  refine ⟨Nat.le_trans hnl (Nat.le_trans hlz sz1000), beq_eq_false_iff_ne.mpr (Nat.ne_of_gt (Nat.lt_of_lt_of_le I1.big (by omega))), zipP zs its zs.length, KV.zipP r' _, od, es, ep, hod, hrest⟩
end
theorem b_zip : bootBuiltins "zip" = some (.type "zip") := by kernel_rfl
end L2

namespace L2
open PySem PySem.Spec PyProof.Rows
/-! ### for x in reversed(xs) -/
def Itv (K : PySem.W.Frag) (a : Addr) (n : Nat) : It :=
  ⟨fun i H => i < n ∧ ∃ xs, SqL K H a xs ∧ xs.length = n, fun i H x H' => H' = H ∧ ∀ xs, SqL K H a xs → xs[n - 1 - i]? = some x, fun i H => i = n ∧ ∃ xs, SqL K H a xs ∧ xs.length = n⟩
theorem turn_rev {P : Program} {w : World} {K : PySem.W.Frag} {tg : Expr} (a it : Addr) (n : Nat) : Turn P w K tg (Itv K a n) [it] it (fun i h => h.IsRevIter it a ((n : Int) - 1 - (i : Int))) where
  mem := by simp
  obj := fun i h st b hb => by
    have e : b = it := by simpa using hb
    subst e
    obtain ⟨o, e, c, d⟩ := st
    exact ⟨o, e, fun v z => by rw [d] at z; cases z⟩
  keep := fun i h h' st k => st.at fun o e => k it (by simp) o e
  item := by
    intro X hP hw hK hc i pins s σ H E I hf st hg
    subst hP hw hK
    obtain ⟨hlt, xs, hq, hn⟩ := hg
    obtain ⟨its, rv, p, hz⟩ := I.list hq
    have hx : xs[n - 1 - i]? = some (xs[n - 1 - i]'(by omega)) := List.getElem?_eq_getElem (by omega)
    obtain ⟨u, hu, ru⟩ := rv.get hx
    obtain ⟨f0, f1, f2, f3, f4, f5⟩ := hf it (by simp)
    have e : (n : Int) - 1 - (i : Int) = ((n - 1 - i : Nat) : Int) := by omega
    rw [e] at st
    refine wpAny_pyNext_rev_item st p.isList (x := u) (by simpa using hu) fun h' st' sb => ?_
    have e2 : ((n - 1 - i : Nat) : Int) - 1 = (n : Int) - 1 - ((i + 1 : Nat) : Int) := by omega
    rw [e2] at st'
    have I1 : Inv X pins σ H { s with heap := h' } := I.turned (t' := s.toks) (fun b o hb e => (sb.2 b hb).trans e) f0 f1 f3 f4 f5
    obtain ⟨o, e, c, d⟩ := id st'
    exact ⟨u, rfl, go_of (s := { s with heap := h' }) e c d (by decide) ⟨_, H, I1, ru, ⟨rfl, fun ys hy => by rw [I.list_inj hy hq]; exact hx⟩, st', fun b hb => (hf b hb).1⟩⟩
  done := by
    intro X hP hw hK hc i pins s σ H E I hf st hg
    subst hP hw hK
    obtain ⟨hi, xs, hq, hn⟩ := hg
    subst hi
    obtain ⟨f0, f1, f2, f3, f4, f5⟩ := hf it (by simp)
    have e : (i : Int) - 1 - (i : Int) = -1 := by omega
    rw [e] at st
    exact wpAny_pyNext_rev_end (I.ok.hd hc) st fun h' eb => ⟨rfl, I.turned (t' := s.toks) (fun b o hb e => eb b o hb e) f0 f1 f3 f4 f5⟩
  self := fun _ _ _ _ _ st h => wpAny_pyIter_revIter st h
def iRev (K : PySem.W.Frag) (tl : TE) : TI := fun σ H R => tl σ H fun x H1 => ∃ a xs, x = .ref a ∧ SqL K H1 a xs ∧ R (Itv K a xs.length) H1
section
variable {X : Cx} {tg e : Expr} {te : TE} {x' : Str} {p' pos' : Pos}
theorem pi_rev (he : PE X e te) (hg' : Gl X x') (hm' : X.mg x' = none) (hv' : bootBuiltins x' = some (.type "reversed")) (hn' : x' ≠ "__name__" := by decide) (hdb' : (x' == ("__debug__" : Str)) = false := by decide) (h1 : starEach [e] X.env = [(false, eval e X.env)] := by rfl) :
    PI X tg (.Call (.Name x' p') [e] [] pos') (iRev X.K te) := by
  intro pins s σ H R I h
  refine wpAny_Call_Name_kw (ld_blt I hg' hm' hv' ?_ hn' hdb')
  refine PyProof.Rows.callWith_type1 ?_ h1 rfl
  rw [h1]
  refine Calls.spliced_cons (thn (he pins s σ H _ I h) fun u s1 ⟨v, H1, I1, rv, q, ys, ex, hq, k⟩ => ?_)
  subst ex
  cases rv
  refine Calls.spliced_nil ?_
  obtain ⟨its, r', pl, hz⟩ := I1.list hq
  have hlen := r'.length
  refine call_reversed_list pl.isList ?_
  have hsz : its.toArray.size = its.length := by simp
  have kp1 : ∀ b o, s1.heap.get? b = some o → (s1.heap.push (revObj q ((its.toArray.size : Int) - 1))).get? b = some o := fun b o e => Heap.get?_push_of_some _ e
  have hD : (s1.heap.push (revObj q ((its.toArray.size : Int) - 1))).get? s1.heap.objs.size = some (revObj q ((its.toArray.size : Int) - 1)) := Heap.get?_push_size _ rfl
  have hit : (s1.heap.push (revObj q ((its.toArray.size : Int) - 1))).IsRevIter s1.heap.objs.size q ((its.toArray.size : Int) - 1) := ⟨_, hD, rfl, rfl⟩
  refine wpAny_pyIter_revIter (s := { s1 with heap := s1.heap.push (revObj q ((its.toArray.size : Int) - 1)) }) hit ?_
  refine ⟨s1.heap.objs.size, [s1.heap.objs.size], _, _, H1, rfl, I1.kept (t' := s1.toks) kp1, turn_rev q _ ys.length, ?_, fun b hb => ?_, k⟩
  · have e : (ys.length : Int) - 1 - ((0 : Nat) : Int) = (its.toArray.size : Int) - 1 := by rw [hsz]; omega
    show Heap.IsRevIter _ _ _ _
    rw [e]
    exact hit
  · have e : b = s1.heap.objs.size := by simpa using hb
    subst e
    exact I1.fpOk (Nat.le_refl _) (I1.hok.fresh (Nat.le_refl _))
end
theorem for_rev {K : PySem.W.Frag} {a : Addr} {xs : List V} {g : TG} {tb : TS} {D : Ends} {σ : St} {H : Hp} (Pv : Nat → St → Hp → Prop) (h0 : Pv 0 σ H) (hl : ∀ i σ H, i ≤ xs.length → Pv i σ H → SqL K H a xs)
    (hs : ∀ i x σ H, xs.reverse[i]? = some x → Pv i σ H → g x σ H fun σ2 H2 => tb { D with nx := Pv (i + 1), ct := Pv (i + 1), bk := D.nx } σ2 H2) (hd : ∀ σ H, Pv xs.length σ H → D.nx σ H) :
    ∃ W : Nat → Nat → St → Hp → Prop, (∃ m, W 0 m σ H) ∧ ∀ i m σ H, W i m σ H →
      ((Itv K a xs.length).stop i H ∧ D.nx σ H) ∨ ((Itv K a xs.length).go i H ∧ ∃ N : St → Hp → Prop, (∀ σ' H', N σ' H' → ∃ m', m' < m ∧ W (i + 1) m' σ' H') ∧ ∀ x H', (Itv K a xs.length).yld i H x H' → g x σ H' fun σ2 H2 => tb { D with nx := N, ct := N, bk := D.nx } σ2 H2) := by
  refine ⟨fun i m σ H => m = xs.length - i ∧ i ≤ xs.length ∧ Pv i σ H, ⟨xs.length, by simp, Nat.zero_le _, h0⟩, ?_⟩
  rintro i m σ H ⟨rfl, hi, p⟩
  have q := hl i σ H hi p
  by_cases hlt : i < xs.length
  · refine .inr ⟨⟨hlt, xs, q, rfl⟩, Pv (i + 1), fun σ' H' p' => ⟨xs.length - (i + 1), by omega, rfl, hlt, p'⟩, fun x H' y => ?_⟩
    obtain ⟨e, y⟩ := y
    subst e
    exact hs i x σ _ (by rw [List.getElem?_reverse hlt]; exact y xs q) p
  · have e : i = xs.length := by omega
    subst e
    exact .inl ⟨⟨rfl, xs, q, rfl⟩, hd σ H p⟩
theorem b_reversed' : bootBuiltins "reversed" = some (.type "reversed") := by kernel_rfl
/-! ### texts among texts -/
theorem inV_str (z : Str) : ∀ zs : List Str, inV (.str z) (zs.map V.str) = decide (z ∈ zs)
  | [] => rfl
  | y :: r => by
    have ih := inV_str z r
    unfold inV at ih ⊢
    rw [List.map_cons, List.any_cons, ih]
    have e : eqV (.str y) (.str z) = decide (y = z) := by
      by_cases h : y = z <;> simp [eqV, h]
    rw [e, ← Bool.decide_or]
    congr 1
    rw [List.mem_cons]
    exact propext ⟨fun h => h.imp Eq.symm id, fun h => h.imp Eq.symm id⟩
theorem flat_strs : ∀ zs : List Str, (zs.map V.str).all flatV = true
  | [] => rfl
  | y :: r => by
    rw [List.map_cons, List.all_cons, flat_strs r]
    rfl
end L2

namespace L2
open PySem PySem.Spec PyProof.Rows
/-! ### * and // of greater numbers, a split of a longer text -/
section
variable {X : Cx}
def Bg (i : Int) : Prop := i.natAbs < 2 ^ 4000
theorem Bg.bits {i : Int} (h : Bg i) : Builtin.Int.intBits i ≤ 2 ^ 20 := Nat.le_trans (PyProof.Rows.intBits_le (k := 4000) h) (by decide)
theorem op_mulB : OpR X (binaryOp .Mult) (rI (fun i j => Bg i ∧ Bg j) fun i j => .int (i * j)) := opI fun _ _ _ _ _ _ _ hc q => mul_int q (IntMulOk.of_bits hc.1.bits hc.2.bits)
theorem Bg.log {i : Int} (h : Bg i) : i.natAbs.log2 < 9000 := by
  by_cases h0 : i.natAbs = 0
  · rw [h0]; decide
  · exact Nat.lt_of_lt_of_le ((Nat.log2_lt h0).mpr h) (by decide)
theorem op_fdivB : OpR X (binaryOp .FloorDiv) (rI (fun _ j => j ≠ 0 ∧ Bg j) fun i j => .int (i.fdiv j)) := opI fun _ _ _ _ _ _ _ hc q => floordiv_int hc.1 q (.inl (PyProof.noPylong_of_log2 hc.2.log))
end
def rSplitB : V → List V → Hp → VK → Prop := fun x xs H Q => ∃ (z y : Str), x = .str z ∧ xs = [.str y] ∧ (y.length == 0) = false ∧ z.length ≤ 9000 ∧ ∀ p, H p = none → Q (.ref p) (upd H p (.lst ((Txt.split z y).map V.str)))
theorem mt_splitB {X : Cx} : MtR X "str.split" rSplitB := by
  intro pins s σ H x vs v us Q I rx rv h
  obtain ⟨z, y, rfl, rfl, hy, hz, q⟩ := h
  obtain ⟨t, rfl⟩ := rx
  obtain ⟨u, rfl, ru⟩ := rv.one
  obtain ⟨t', rfl⟩ := ru
  have hszl : (9010 : Nat) ≤ sizeLine := by decide
  have fin : ∀ (l : List (Str × Tok)) (tk : Nat), l.map (·.1) = Txt.split z y → l.length ≤ sizeLine → EP X pins σ Q (.ref s.heap.objs.size) { s with heap := s.heap.push { cls := .type "list", data := .seq (strValues l).toArray }, toks := tk } := fun l tk el hl => by
    refine ⟨.ref s.heap.objs.size, _, I.laid (t' := tk) (o := .lst ((Txt.split z y).map V.str)) (fun b o e => Heap.get?_push_of_some _ e) (Nat.le_refl _) ?_, rfl, q _ (I.hok.fresh (Nat.le_refl _))⟩
    rw [← el]
    exact ⟨by rw [List.length_map, List.length_map]; exact hl, strValues l, _, vals_strValues l, Heap.get?_push_size _ rfl⟩
  have hn : (Builtin.Str.partsBetween z (Builtin.Str.occurrences z y 0 z.length (z.length + 1)) y.length).length ≤ sizeLine := by
    have e1 := StrLaws.occ_length_le z y 0 z.length (z.length + 1)
    rw [length_partsBetween]; omega
  cases h1 : (decide (z.length < y.length) || decide (Builtin.Str.strKind z < Builtin.Str.strKind y))
  · cases hf : (Builtin.Str.occurrences z y 0 z.length (z.length + 1)).isEmpty
    · refine call_meets F.slot_str_split (typeIs_str _ _ _) F.entry_str_split (F.args_str_split_2 _ _) (meets_str_split_sep z y t t' h1 hy hf (by omega) hn) ?_
      show wants (EP X pins σ Q) X.xe _ { s with toks := _, heap := s.heap.push { cls := .type "list", data := .seq (strsFrom s.toks (Builtin.Str.partsBetween z (Builtin.Str.occurrences z y 0 z.length (z.length + 1)) y.length)).toArray } }
      rw [strsFrom_eq]
      exact fin (PySem.numbered s.toks _) _ ((numbered_texts _ _).trans ((if_neg (ne_true_of_eq_false h1)).trans (if_neg (ne_true_of_eq_false hf))).symm) (by
        have := congrArg List.length (numbered_texts s.toks (Builtin.Str.partsBetween z (Builtin.Str.occurrences z y 0 z.length (z.length + 1)) y.length))
        rw [List.length_map] at this
        omega)
    · exact call_meets F.slot_str_split (typeIs_str _ _ _) F.entry_str_split (F.args_str_split_2 _ _) (meets_str_split_not_found z y t t' h1 hy hf)
        (fin [(z, t)] s.toks ((if_neg (ne_true_of_eq_false h1)).trans (if_pos hf)).symm (by show 1 ≤ sizeLine; omega))
  · exact call_meets F.slot_str_split (typeIs_str _ _ _) F.entry_str_split (F.args_str_split_2 _ _) (meets_str_split_cannot_occur z y t t' h1)
      (fin [(z, t)] s.toks (if_pos h1).symm (by show 1 ≤ sizeLine; omega))
end L2

namespace My
open PySem L2
def top (i : Nat) : Stmt := PySem.Challenge.pw_lazycols_k53_above_rules_read.main.body.getD i (.Pass ⟨0, 0, 0, 0⟩)
abbrev s_is_whole : Stmt := top 9
abbrev s_is_number : Stmt := top 10
abbrev s_is_name : Stmt := top 11
abbrev s_is_fault : Stmt := top 12
abbrev s_is_value : Stmt := top 13
abbrev s_settled : Stmt := top 14
abbrev s_check_name : Stmt := top 18
abbrev s_checked_names : Stmt := top 19
abbrev s_each_once : Stmt := top 20
abbrev s_look_in_turn : Stmt := top 21
abbrev s_writes_number : Stmt := top 31
abbrev s_is_reckoning : Stmt := top 37
abbrev s_names_in : Stmt := top 38
abbrev s_bounded : Stmt := top 39
abbrev s_reckoned : Stmt := top 40
abbrev s_joined : Stmt := top 41
abbrev s_number_of : Stmt := top 42
abbrev s_sum_of : Stmt := top 45
abbrev s_most_of : Stmt := top 46
abbrev s_least_of : Stmt := top 47
abbrev s_how_many : Stmt := top 48
abbrev s_refuse_unless : Stmt := top 50
abbrev s_check_names : Stmt := top 51
abbrev s_columns_in : Stmt := top 52
abbrev s_function_of : Stmt := top 53
abbrev s_read_cells : Stmt := top 54
abbrev s_read_above : Stmt := top 55
abbrev s_read_group : Stmt := top 56
abbrev s_read_lookup : Stmt := top 57
abbrev s_read_mend : Stmt := top 58
abbrev s_read_rule : Stmt := top 60
abbrev s_law_cell : Stmt := top 62
abbrev s_law_number : Stmt := top 63
abbrev s_law_words : Stmt := top 64
abbrev s_law_signed : Stmt := top 65
abbrev s_law_due : Stmt := top 66
abbrev s_law_once : Stmt := top 67
abbrev s_law : Stmt := top 68
abbrev s_Rule_init : Stmt := inCls (top 22) 0
abbrev s_Rule_reckon : Stmt := inCls (top 22) 1
abbrev s_Cells_init : Stmt := inCls (top 23) 0
abbrev s_Cells_leans : Stmt := inCls (top 23) 1
abbrev s_Cells_gather : Stmt := inCls (top 23) 2
abbrev s_Above_init : Stmt := inCls (top 24) 0
abbrev s_Above_leans : Stmt := inCls (top 24) 1
abbrev s_Above_gather : Stmt := inCls (top 24) 2
abbrev s_Group_init : Stmt := inCls (top 25) 0
abbrev s_Group_leans : Stmt := inCls (top 25) 1
abbrev s_Group_gather : Stmt := inCls (top 25) 2
abbrev s_Lookup_init : Stmt := inCls (top 26) 0
abbrev s_Lookup_leans : Stmt := inCls (top 26) 1
abbrev s_Lookup_gather : Stmt := inCls (top 26) 2
abbrev s_Mend_init : Stmt := inCls (top 27) 0
abbrev s_Mend_leans : Stmt := inCls (top 27) 1
abbrev s_Mend_gather : Stmt := inCls (top 27) 2
structure TRule (K : PySem.W.Frag) (mg : Str → Option Value) (C : Addr) : Prop where
  c : mg "Rule" = some (.ref C)
  cl : Cls K C
  mks : PySem.W.makesIn K C = true
  kc : PySem.W.keepIn K (.ref C) = true
  hc : PySem.W.findIn K (.ref C) "__class__" = some (some (.builtin "object.__class__"))
  n_function : NoAttr K C "function"
  m_init : Mth K C "__init__" "Rule.__init__" s_Rule_init
  v_init : ClsM K C "__init__"
  m_reckon : Mth K C "reckon" "Rule.reckon" s_Rule_reckon
  si_Above : ∃ D, mg "Above" = some (.ref D) ∧ PySem.W.kitOne K (.ref C) (.ref D) = some false
  own : PySem.W.mroIn K C (.type "object") = some true ∧ PySem.W.specialIn K (.builtin "object.__class__") "__get__" = some (some (.builtin "getset_descriptor.__get__")) ∧ PySem.W.takesIn K (.builtin "object.__class__") = some true
structure TCells (K : PySem.W.Frag) (mg : Str → Option Value) (C : Addr) : Prop where
  c : mg "Cells" = some (.ref C)
  cl : Cls K C
  mks : PySem.W.makesIn K C = true
  kc : PySem.W.keepIn K (.ref C) = true
  hc : PySem.W.findIn K (.ref C) "__class__" = some (some (.builtin "object.__class__"))
  n_function : NoAttr K C "function"
  n_names : NoAttr K C "names"
  m_init : Mth K C "__init__" "Cells.__init__" s_Cells_init
  m_leans : Mth K C "leans" "Cells.leans" s_Cells_leans
  m_gather : Mth K C "gather" "Cells.gather" s_Cells_gather
  m_reckon : Mth K C "reckon" "Rule.reckon" s_Rule_reckon
  si_Above : ∃ D, mg "Above" = some (.ref D) ∧ PySem.W.kitOne K (.ref C) (.ref D) = some false
  own : PySem.W.mroIn K C (.type "object") = some true ∧ PySem.W.specialIn K (.builtin "object.__class__") "__get__" = some (some (.builtin "getset_descriptor.__get__")) ∧ PySem.W.takesIn K (.builtin "object.__class__") = some true
structure TAbove (K : PySem.W.Frag) (mg : Str → Option Value) (C : Addr) : Prop where
  c : mg "Above" = some (.ref C)
  cl : Cls K C
  mks : PySem.W.makesIn K C = true
  kc : PySem.W.keepIn K (.ref C) = true
  hc : PySem.W.findIn K (.ref C) "__class__" = some (some (.builtin "object.__class__"))
  n_function : NoAttr K C "function"
  n_names : NoAttr K C "names"
  n_first : NoAttr K C "first"
  m_init : Mth K C "__init__" "Above.__init__" s_Above_init
  m_leans : Mth K C "leans" "Above.leans" s_Above_leans
  m_gather : Mth K C "gather" "Above.gather" s_Above_gather
  m_reckon : Mth K C "reckon" "Rule.reckon" s_Rule_reckon
  si_Above : ∃ D, mg "Above" = some (.ref D) ∧ PySem.W.kitOne K (.ref C) (.ref D) = some true
  own : PySem.W.mroIn K C (.type "object") = some true ∧ PySem.W.specialIn K (.builtin "object.__class__") "__get__" = some (some (.builtin "getset_descriptor.__get__")) ∧ PySem.W.takesIn K (.builtin "object.__class__") = some true
structure TGroup (K : PySem.W.Frag) (mg : Str → Option Value) (C : Addr) : Prop where
  c : mg "Group" = some (.ref C)
  cl : Cls K C
  mks : PySem.W.makesIn K C = true
  kc : PySem.W.keepIn K (.ref C) = true
  hc : PySem.W.findIn K (.ref C) "__class__" = some (some (.builtin "object.__class__"))
  n_function : NoAttr K C "function"
  n_key : NoAttr K C "key"
  n_name : NoAttr K C "name"
  m_init : Mth K C "__init__" "Group.__init__" s_Group_init
  m_leans : Mth K C "leans" "Group.leans" s_Group_leans
  m_gather : Mth K C "gather" "Group.gather" s_Group_gather
  m_reckon : Mth K C "reckon" "Rule.reckon" s_Rule_reckon
  si_Above : ∃ D, mg "Above" = some (.ref D) ∧ PySem.W.kitOne K (.ref C) (.ref D) = some false
  own : PySem.W.mroIn K C (.type "object") = some true ∧ PySem.W.specialIn K (.builtin "object.__class__") "__get__" = some (some (.builtin "getset_descriptor.__get__")) ∧ PySem.W.takesIn K (.builtin "object.__class__") = some true
structure TLookup (K : PySem.W.Frag) (mg : Str → Option Value) (C : Addr) : Prop where
  c : mg "Lookup" = some (.ref C)
  cl : Cls K C
  mks : PySem.W.makesIn K C = true
  kc : PySem.W.keepIn K (.ref C) = true
  hc : PySem.W.findIn K (.ref C) "__class__" = some (some (.builtin "object.__class__"))
  n_function : NoAttr K C "function"
  n_key : NoAttr K C "key"
  n_other : NoAttr K C "other"
  n_theirs : NoAttr K C "theirs"
  n_names : NoAttr K C "names"
  m_init : Mth K C "__init__" "Lookup.__init__" s_Lookup_init
  m_leans : Mth K C "leans" "Lookup.leans" s_Lookup_leans
  m_gather : Mth K C "gather" "Lookup.gather" s_Lookup_gather
  m_reckon : Mth K C "reckon" "Rule.reckon" s_Rule_reckon
  si_Above : ∃ D, mg "Above" = some (.ref D) ∧ PySem.W.kitOne K (.ref C) (.ref D) = some false
  own : PySem.W.mroIn K C (.type "object") = some true ∧ PySem.W.specialIn K (.builtin "object.__class__") "__get__" = some (some (.builtin "getset_descriptor.__get__")) ∧ PySem.W.takesIn K (.builtin "object.__class__") = some true
structure TMend (K : PySem.W.Frag) (mg : Str → Option Value) (C : Addr) : Prop where
  c : mg "Mend" = some (.ref C)
  cl : Cls K C
  mks : PySem.W.makesIn K C = true
  kc : PySem.W.keepIn K (.ref C) = true
  hc : PySem.W.findIn K (.ref C) "__class__" = some (some (.builtin "object.__class__"))
  n_function : NoAttr K C "function"
  n_name : NoAttr K C "name"
  m_init : Mth K C "__init__" "Mend.__init__" s_Mend_init
  m_leans : Mth K C "leans" "Mend.leans" s_Mend_leans
  m_gather : Mth K C "gather" "Mend.gather" s_Mend_gather
  m_reckon : Mth K C "reckon" "Rule.reckon" s_Rule_reckon
  si_Above : ∃ D, mg "Above" = some (.ref D) ∧ PySem.W.kitOne K (.ref C) (.ref D) = some false
  own : PySem.W.mroIn K C (.type "object") = some true ∧ PySem.W.specialIn K (.builtin "object.__class__") "__get__" = some (some (.builtin "getset_descriptor.__get__")) ∧ PySem.W.takesIn K (.builtin "object.__class__") = some true
structure Tops (K : PySem.W.Frag) (mg : Str → Option Value) : Prop where
  len : mg "len" = none
  isinstance : mg "isinstance" = none
  int : mg "int" = none
  bool : mg "bool" = none
  str : mg "str" = none
  all : mg "all" = none
  range : mg "range" = none
  abs : mg "abs" = none
  list : mg "list" = none
  tuple : mg "tuple" = none
  dict : mg "dict" = none
  max : mg "max" = none
  min : mg "min" = none
  sum : mg "sum" = none
  reversed : mg "reversed" = none
  zip : mg "zip" = none
  ValueError : mg "ValueError" = none
  g_LETTERS : ∃ t, mg "LETTERS" = some (.str ("abcdefghijklmnopqrstuvwxyz" : Str) t)
  g_MOST_LETTERS : ∃ t, mg "MOST_LETTERS" = some (.int 8 t)
  g_ODD : ∃ p, mg "ODD" = some (.ref p) ∧ ∀ H, SqT K H p [V.str ("fault" : Str), V.str ("odd" : Str)]
  g_MOST_NAMES : ∃ t, mg "MOST_NAMES" = some (.int 6 t)
  g_LACKS : ∃ p, mg "LACKS" = some (.ref p) ∧ ∀ H, SqT K H p [V.str ("fault" : Str), V.str ("lacks" : Str)]
  g_FIGURES : ∃ t, mg "FIGURES" = some (.str ("0123456789" : Str) t)
  g_MOST_FIGURES : ∃ t, mg "MOST_FIGURES" = some (.int 60 t)
  g_MOST_WORDS : ∃ t, mg "MOST_WORDS" = some (.int 24 t)
  g_SIGNS : ∃ p, mg "SIGNS" = some (.ref p) ∧ ∀ H, SqT K H p [V.str ("+" : Str), V.str ("-" : Str), V.str ("*" : Str), V.str ("/" : Str), V.str (":" : Str), V.str ("<" : Str), V.str ("=" : Str)]
  g_NOUGHT : ∃ p, mg "NOUGHT" = some (.ref p) ∧ ∀ H, SqT K H p [V.str ("fault" : Str), V.str ("nought" : Str)]
  g_GREAT : ∃ p, mg "GREAT" = some (.ref p) ∧ ∀ H, SqT K H p [V.str ("fault" : Str), V.str ("great" : Str)]
  g_UP : ∃ t, mg "UP" = some (.str ("up" : Str) t)
  d_is_whole : Def K mg "is_whole" s_is_whole
  d_is_number : Def K mg "is_number" s_is_number
  d_is_name : Def K mg "is_name" s_is_name
  d_is_fault : Def K mg "is_fault" s_is_fault
  d_is_value : Def K mg "is_value" s_is_value
  d_settled : Def K mg "settled" s_settled
  d_check_name : Def K mg "check_name" s_check_name
  d_checked_names : Def K mg "checked_names" s_checked_names
  d_each_once : Def K mg "each_once" s_each_once
  d_look_in_turn : Def K mg "look_in_turn" s_look_in_turn
  d_writes_number : Def K mg "writes_number" s_writes_number
  d_is_reckoning : Def K mg "is_reckoning" s_is_reckoning
  d_names_in : Def K mg "names_in" s_names_in
  d_bounded : Def K mg "bounded" s_bounded
  d_reckoned : Def K mg "reckoned" s_reckoned
  d_joined : Def K mg "joined" s_joined
  d_number_of : Def K mg "number_of" s_number_of
  d_sum_of : Def K mg "sum_of" s_sum_of
  d_most_of : Def K mg "most_of" s_most_of
  d_least_of : Def K mg "least_of" s_least_of
  d_how_many : Def K mg "how_many" s_how_many
  d_refuse_unless : Def K mg "refuse_unless" s_refuse_unless
  d_check_names : Def K mg "check_names" s_check_names
  d_columns_in : Def K mg "columns_in" s_columns_in
  d_function_of : Def K mg "function_of" s_function_of
  d_read_cells : Def K mg "read_cells" s_read_cells
  d_read_above : Def K mg "read_above" s_read_above
  d_read_group : Def K mg "read_group" s_read_group
  d_read_lookup : Def K mg "read_lookup" s_read_lookup
  d_read_mend : Def K mg "read_mend" s_read_mend
  d_read_rule : Def K mg "read_rule" s_read_rule
  d_law_cell : Def K mg "_law_cell" s_law_cell
  d_law_number : Def K mg "_law_number" s_law_number
  d_law_words : Def K mg "_law_words" s_law_words
  d_law_signed : Def K mg "_law_signed" s_law_signed
  d_law_due : Def K mg "_law_due" s_law_due
  d_law_once : Def K mg "_law_once" s_law_once
  d_law : Def K mg "law" s_law
  bs : ∃ z_function_of z_law : Addr × Addr, DefT K mg "function_of" s_function_of z_function_of ∧ DefT K mg "law" s_law z_law ∧ z_function_of.2 ≠ z_law.2
  notabs : PySem.W.noTabs K = true
  t_Rule : ∃ C, TRule K mg C
  t_Cells : ∃ C, TCells K mg C
  t_Above : ∃ C, TAbove K mg C
  t_Group : ∃ C, TGroup K mg C
  t_Lookup : ∃ C, TLookup K mg C
  t_Mend : ∃ C, TMend K mg C
/-- the dicts of the module -/
structure Dcs (PP : Params) (K : PySem.W.Frag) (mg : Str → Option Value) : Prop where
  g_OF_GROUPS : ∃ p, mg "OF_GROUPS" = some (.ref p) ∧ KDict PP K p ∧ (∃ f, mg "sum_of" = some (.ref f) ∧ PySem.W.nsIn K p "sum" = some (some (.ref f))) ∧ (∃ f, mg "most_of" = some (.ref f) ∧ PySem.W.nsIn K p "most" = some (some (.ref f))) ∧ (∃ f, mg "least_of" = some (.ref f) ∧ PySem.W.nsIn K p "least" = some (some (.ref f))) ∧ (∃ f, mg "how_many" = some (.ref f) ∧ PySem.W.nsIn K p "many" = some (some (.ref f)))
  g_KINDS : ∃ p, mg "KINDS" = some (.ref p) ∧ KDict PP K p ∧ (∃ f, mg "read_cells" = some (.ref f) ∧ PySem.W.nsIn K p "cells" = some (some (.ref f))) ∧ (∃ f, mg "read_above" = some (.ref f) ∧ PySem.W.nsIn K p "above" = some (some (.ref f))) ∧ (∃ f, mg "read_group" = some (.ref f) ∧ PySem.W.nsIn K p "group" = some (some (.ref f))) ∧ (∃ f, mg "read_lookup" = some (.ref f) ∧ PySem.W.nsIn K p "lookup" = some (some (.ref f))) ∧ (∃ f, mg "read_mend" = some (.ref f) ∧ PySem.W.nsIn K p "mend" = some (some (.ref f)))
end My

namespace My
open PySem L2
abbrev letters : Str := "abcdefghijklmnopqrstuvwxyz"
def inL (c : Nat) : Bool := !(Builtin.Str.occurrences letters ⟨#[c]⟩ 0 letters.length 1).isEmpty
def nameS (t : Str) : Bool := decide ((1 : Int) ≤ t.length) && decide ((t.length : Int) ≤ 8) && t.cps.toList.all inL
def wholeD : PyData → Bool
  | .int _ => true
  | _ => false
def numD : PyData → Bool
  | .int i => decide ((if i < 0 then -i else i) < 10 ^ (60 : Int).toNat)
  | _ => false
def nameD : PyData → Bool
  | .str t => nameS t
  | _ => false
def faultD : PyData → Bool
  | .tuple [.str z, d] => decide (z = "fault") && nameD d
  | _ => false
def valueD (d : PyData) : Bool := numD d || faultD d
/-- a text is short; the texts in a tuple are -/
def shortS (d : PyData) : Prop := ∀ t, d = .str t → t.length ≤ 1000
def shortD (d : PyData) : Prop := ∀ ds, d = .tuple ds → ∀ e ∈ ds, shortS e
theorem shortS_str {t : Str} (h : t.length ≤ 1000) : shortS (.str t) := fun z e => by cases e; exact h
theorem shortD_not {d : PyData} (h : kdD d ≠ .tup) : shortD d := fun z e => by subst e; exact absurd rfl h
theorem shortD_tup {ds : List PyData} (h : ∀ e ∈ ds, shortS e) : shortD (.tuple ds) := fun z e => by cases e; exact h
section
variable {P : Program} {w : World} {K : PySem.W.Frag} {mg : Str → Option Value} {base : Heap}
def spWhole (K : PySem.W.Frag) : Sp := fun vs H Q _ => ∃ x d, vs = [x] ∧ Dt K H x d ∧ Q (.bl (wholeD d)) H
theorem sc_is_whole : FnScope ["thing"] ["thing"] (defScope s_is_whole) := ⟨rfl, rfl, rfl, by decide +kernel, rfl, by decide +kernel, by decide +kernel⟩
theorem k_is_whole (T : Tops K mg) : Known P w K mg base CX0 1 "is_whole" ["thing"] (spWhole K) := by
  refine T.d_is_whole.known sc_is_whole (fun _ _ _ _ _ _ us hl => match us, hl with | [_], _ => rfl) (fun vs H Q E h => ?_) (fun f cdv A outer s H vs Q E hr h => ?_)
  · obtain ⟨x, a, rfl, _⟩ := h
    rfl
  · obtain ⟨x, d, rfl, hd, q⟩ := h
    refine ⟨_, (pss_one (ps_ret (pe_and (pe_callB call_isT rfl T.isinstance b_isinstance (pa_cons (pv 0) (pa_cons (pe_ty T.int b_int) pa_nil))) (pe_one (pe_not (pe_callB call_isT rfl T.isinstance b_isinstance (pa_cons (pv 0) (pa_cons (pe_ty T.bool b_bool) pa_nil)))))))), ?_⟩
    refine ⟨_, rfl, x, "int", d, _, rfl, hd, kit_int K _, _, rfl, ?_⟩
    refine ite2 (fun h1 => ?_) (fun h1 => ?_)
    · refine ⟨_, rfl, x, "bool", d, _, rfl, hd, kit_bool K _, _, rfl, ?_⟩
      have e : (!decide (kdD d = Kd.bl)) = wholeD d := by cases d <;> simp [kdD, wholeD] at h1 ⊢
      show Q (.bl (!decide (kdD d = Kd.bl))) H
      rw [e]
      exact q
    · have e : false = wholeD d := by cases d <;> simp [kdD, wholeD] at h1 ⊢
      show Q (.bl false) H
      rw [e]
      exact q
def spName (K : PySem.W.Frag) : Sp := fun vs H Q _ => ∃ x d, vs = [x] ∧ Dt K H x d ∧ shortS d ∧ ∀ H', Same H H' → Q (.bl (nameD d)) H'
theorem sc_is_name : FnScope ["thing"] ["thing"] (defScope s_is_name) := ⟨rfl, rfl, rfl, by decide +kernel, rfl, by decide +kernel, by decide +kernel⟩
theorem k_is_name (T : Tops K mg) : Known P w K mg base CX0 1 "is_name" ["thing"] (spName K) := by
  refine T.d_is_name.known sc_is_name (fun _ _ _ _ _ _ us hl => match us, hl with | [_], _ => rfl) (fun vs H Q E h => ?_) (fun f cdv A outer s H vs Q E hr h => ?_)
  · obtain ⟨x, a, rfl, _⟩ := h
    rfl
  · obtain ⟨x, d, rfl, hd, hsh, q⟩ := h
    refine ⟨_, (pss_cons (ps_if (PW.pt (pw_or (pt_not (pt_val (pe_callB call_isT rfl T.isinstance b_isinstance (pa_cons (pv 0) (pa_cons (pe_ty T.str b_str) pa_nil))) (fun _ => rfl))) (pw_or1 (pt_not (pt_chain op_le op_le pe_int (pe_callB call_len rfl T.len b_len (pa_cons (pv 0) pa_nil)) (pe_gI T.g_MOST_LETTERS)))))) (pss_one (ps_ret pe_bl)) pss_nil)
      (pss_one (ps_ret (pe_callB (call_all rfl) rfl T.all b_all (pa_cons (pe_comp caps0 rfl rfl (by decide) (pi_str (pv 0)) (fun _ _ _ _ _ => pts_nil) (fun _ _ _ _ _ => (pe_cmpR op_in_str (pv 0) (pe_gS T.g_LETTERS) (by with_unfolding_all rfl)))) pa_nil))))), ?_⟩
    refine ⟨_, rfl, x, "str", d, _, rfl, hd, kit_str K _, _, rfl, ?_⟩
    by_cases hk : kdD d = .str
    · obtain ⟨t, rfl⟩ : ∃ t, d = .str t := by cases d <;> simp [kdD] at hk ⊢
      cases hd
      have ht : t.length ≤ 1000 := hsh t rfl
      refine iteF ?_
      refine ⟨_, rfl, _, _, rfl, ⟨sl ht, rfl⟩, _, _, rfl, rfl, _, rfl, ?_⟩
      refine ite2 (fun h1 => ?_) (fun h1 => ?_)
      · refine ⟨_, _, rfl, rfl, _, rfl, ?_⟩
        refine ite2 (fun h2 => ?_) (fun h2 => ?_)
        · have e : nameD (.str t) = false := by
            show nameS t = false
            unfold nameS
            have : decide ((t.length : Int) ≤ 8) = false := by simpa using h2
            rw [this, Bool.and_false, Bool.false_and]
          rw [← e]
          exact q H (Same.refl H)
        · have h8 : t.cps.size ≤ 8 := by
            have : (t.length : Int) ≤ 8 := by simpa using h2
            show t.length ≤ 8
            omega
          refine ⟨_, rfl, t, rfl, fun D hD => ?_⟩
          refine comp_str (x := t) (fun i ys H2 => ys = (t.cps.toList.take i).map (fun c => V.bl (inL c)) ∧ Same H H2) ⟨rfl, Same.new hD⟩ ?_ ?_
          · rintro i c ys H2 hc h2D ⟨rfl, s2⟩
            have hi : i < t.cps.size := (Array.getElem?_eq_some_iff.mp hc).1
            refine ⟨_, rfl, _, _, rfl, rfl, h2D, ?_, ?_, s2.on hD⟩
            · rw [List.length_map, List.length_take, Array.length_toList]
              exact small1000 (by omega)
            · rw [List.take_add_one, List.map_append, Array.getElem?_toList, hc]
              rfl
          · rintro ys H2 h2D ⟨rfl, s2⟩
            refine ⟨D, t.cps.toList.map inL, rfl, SqL.of ?_, ?_⟩
            · rw [h2D, List.take_of_length_le (by simp), List.map_map]
              rfl
            · have e : nameD (.str t) = (t.cps.toList.map inL).all id := by
                show nameS t = _
                unfold nameS
                have e1 : decide ((1 : Int) ≤ t.length) = true := h1
                have e2 : decide ((t.length : Int) ≤ 8) = true := by simpa using h2
                rw [e1, e2, Bool.true_and, Bool.true_and, List.all_map]
                rfl
              rw [← e]
              exact q H2 s2
      · refine ⟨_, rfl, ?_⟩
        refine iteT ?_
        have e : nameD (.str t) = false := by
          show nameS t = false
          unfold nameS
          have : decide ((1 : Int) ≤ t.length) = false := by simpa using h1
          rw [this, Bool.false_and, Bool.false_and]
        rw [← e]
        exact q H (Same.refl H)
    · rw [decide_eq_false hk]
      refine iteT (iteT ?_)
      have e : nameD d = false := by cases d <;> simp [kdD] at hk <;> rfl
      rw [← e]
      exact q H (Same.refl H)
def spNumber (K : PySem.W.Frag) : Sp := fun vs H Q _ => ∃ x d, vs = [x] ∧ Dt K H x d ∧ Q (.bl (numD d)) H
theorem sc_is_number : FnScope ["thing"] ["thing"] (defScope s_is_number) := ⟨rfl, rfl, rfl, by decide +kernel, rfl, by decide +kernel, by decide +kernel⟩
theorem k_is_number (T : Tops K mg) : Known P w K mg base CX0 2 "is_number" ["thing"] (spNumber K) := by
  have G_is_whole : Known P w K mg base CX0 1 "is_whole" ["thing"] (spWhole K) := k_is_whole T
  refine T.d_is_number.known sc_is_number (fun _ _ _ _ _ _ us hl => match us, hl with | [_], _ => rfl) (fun vs H Q E h => ?_) (fun f cdv A outer s H vs Q E hr h => ?_)
  · obtain ⟨x, a, rfl, _⟩ := h
    rfl
  · obtain ⟨x, d, rfl, hd, q⟩ := h
    refine ⟨_, (pss_one (ps_ret (pe_and (pe_callN G_is_whole (hr.mono (by decide)) pass0 (pa_cons (pv 0) pa_nil)) (pe_one (pe_cmpR op_lt (pe_callB call_abs rfl T.abs b_abs (pa_cons (pv 0) pa_nil)) (pe_op op_pow pe_int pe_int) (nomark _)))))), ?_⟩
    refine ⟨_, rfl, x, d, rfl, hd, _, rfl, ?_⟩
    refine ite2 (fun h1 => ?_) (fun h1 => ?_)
    · obtain ⟨i, rfl⟩ : ∃ i, d = .int i := by cases d <;> simp [wholeD] at h1 ⊢
      cases hd
      exact ⟨_, rfl, i, rfl, _, _, rfl, rfl, ⟨by decide, by decide, by decide⟩, _, _, rfl, rfl, q⟩
    · have e : numD d = false := by cases d <;> simp [wholeD] at h1 <;> rfl
      show Q (.bl false) H
      rw [← e]
      exact q
def spFault (K : PySem.W.Frag) : Sp := fun vs H Q _ => ∃ x d, vs = [x] ∧ Dt K H x d ∧ shortD d ∧ ∀ H', Same H H' → Q (.bl (faultD d)) H'
theorem sc_is_fault : FnScope ["thing"] ["thing"] (defScope s_is_fault) := ⟨rfl, rfl, rfl, by decide +kernel, rfl, by decide +kernel, by decide +kernel⟩
theorem faultD_len {ds : List PyData} (h : ds.length ≠ 2) : faultD (.tuple ds) = false := by
  match ds, h with
  | [], _ => rfl
  | [a], _ => cases a <;> rfl
  | [a, b], h => exact absurd rfl h
  | a :: b :: c :: r, _ => cases a <;> rfl
theorem k_is_fault (T : Tops K mg) : Known P w K mg base CX0 2 "is_fault" ["thing"] (spFault K) := by
  have G_is_name : Known P w K mg base CX0 1 "is_name" ["thing"] (spName K) := k_is_name T
  refine T.d_is_fault.known sc_is_fault (fun _ _ _ _ _ _ us hl => match us, hl with | [_], _ => rfl) (fun vs H Q E h => ?_) (fun f cdv A outer s H vs Q E hr h => ?_)
  · obtain ⟨x, a, rfl, _⟩ := h
    rfl
  · obtain ⟨x, d, rfl, hd, hsh, q⟩ := h
    refine ⟨_, (pss_cons (ps_if (PW.pt (pw_or (pt_not (pt_val (pe_callB call_isT rfl T.isinstance b_isinstance (pa_cons (pv 0) (pa_cons (pe_ty T.tuple b_tuple) pa_nil))) (fun _ => rfl))) (pw_or1 (pt_cmpR op_ne (pe_callB call_len rfl T.len b_len (pa_cons (pv 0) pa_nil)) pe_int (nomark _))))) (pss_one (ps_ret pe_bl)) pss_nil)
      (pss_one (ps_ret (pe_and (pe_callB call_isT rfl T.isinstance b_isinstance (pa_cons (pe_ix ix_tup (pv 0) pe_int (fun _ _ => rfl)) (pa_cons (pe_ty T.str b_str) pa_nil))) (pe_and (pe_cmpR op_eq (pe_ix ix_tup (pv 0) pe_int (fun _ _ => rfl)) pe_str (nomark _)) (pe_one (pe_callN G_is_name (hr.mono (by decide)) pass0 (pa_cons (pe_ix ix_tup (pv 0) pe_int (fun _ _ => rfl)) pa_nil)))))))), ?_⟩
    refine ⟨_, rfl, x, "tuple", d, _, rfl, hd, kit_tuple K _, _, rfl, ?_⟩
    by_cases hk : kdD d = .tup
    · obtain ⟨ds, rfl⟩ : ∃ ds, d = .tuple ds := by cases d <;> simp [kdD] at hk ⊢
      cases hd with
      | @tup a xs _ hq hall =>
        refine iteF ?_
        refine ⟨_, rfl, _, _, rfl, .inr ⟨_, hq, rfl⟩, rfl, _, rfl, ?_⟩
        have hl := hall.length
        refine ite2 (fun h1 => ?_) (fun h1 => ?_)
        · have h1' : xs.length ≠ 2 := by
            intro z
            rw [z] at h1
            exact absurd h1 (by decide)
          have e := faultD_len (ds := ds) (by rw [← hl]; exact h1')
          rw [← e]
          exact q H (Same.refl H)
        · have h1' : xs.length = 2 := by
            have z : ¬ (!decide (V.int (xs.length : Int) = V.int 2)) = true := h1
            have z2 : (xs.length : Int) = 2 := by simpa using z
            omega
          match xs, ds, hall, h1', hl with
          | [y, z], _, .cons (d := d1) h2 (.cons (d := d2) h3 .nil), _, _ =>
            have a0 : atI [y, z] 0 = some y := rfl
            have a1 : atI [y, z] 1 = some z := rfl
            refine ⟨_, rfl, _, _, _, _, rfl, rfl, hq, a0, y, "str", d1, _, rfl, h2, kit_str K _, _, rfl, ?_⟩
            refine ite2 (fun h4 => ?_) (fun h4 => ?_)
            · obtain ⟨t, rfl⟩ : ∃ t, d1 = .str t := by cases d1 <;> simp [kdD] at h4 ⊢
              cases h2
              refine ⟨_, rfl, _, _, _, _, rfl, rfl, hq, a0, rfl, _, rfl, ?_⟩
              refine ite2 (fun h5 => ?_) (fun h5 => ?_)
              · have h5' : t = "fault" := by
                  have z5 : V.str t = V.str "fault" := by simpa using h5
                  exact V.str.inj z5
                refine ⟨_, rfl, _, _, _, _, rfl, rfl, hq, a1, z, d2, rfl, h3, hsh _ rfl _ (List.mem_cons_of_mem _ List.mem_cons_self), fun H' s' => ?_⟩
                · have e : faultD (.tuple [.str t, d2]) = nameD d2 := by
                    show (decide (t = "fault") && nameD d2) = nameD d2
                    rw [decide_eq_true h5', Bool.true_and]
                  rw [← e]
                  exact q H' s'
              · have h5' : t ≠ "fault" := fun z5 => h5 (by rw [z5]; rfl)
                have e : faultD (.tuple [.str t, d2]) = false := by
                  show (decide (t = "fault") && nameD d2) = false
                  rw [decide_eq_false h5', Bool.false_and]
                show Q (.bl false) H
                rw [← e]
                exact q H (Same.refl H)
            · have e : faultD (.tuple [d1, d2]) = false := by cases d1 <;> simp [kdD] at h4 <;> rfl
              show Q (.bl false) H
              rw [← e]
              exact q H (Same.refl H)
    · rw [decide_eq_false hk]
      refine iteT (iteT ?_)
      have e : faultD d = false := by cases d <;> simp [kdD] at hk <;> rfl
      rw [← e]
      exact q H (Same.refl H)
def spValue (K : PySem.W.Frag) : Sp := fun vs H Q _ => ∃ x d, vs = [x] ∧ Dt K H x d ∧ shortD d ∧ ∀ H', Same H H' → Q (.bl (valueD d)) H'
theorem sc_is_value : FnScope ["thing"] ["thing"] (defScope s_is_value) := ⟨rfl, rfl, rfl, by decide +kernel, rfl, by decide +kernel, by decide +kernel⟩
theorem k_is_value (T : Tops K mg) : Known P w K mg base CX0 3 "is_value" ["thing"] (spValue K) := by
  have G_is_number : Known P w K mg base CX0 2 "is_number" ["thing"] (spNumber K) := k_is_number T
  have G_is_fault : Known P w K mg base CX0 2 "is_fault" ["thing"] (spFault K) := k_is_fault T
  refine T.d_is_value.known sc_is_value (fun _ _ _ _ _ _ us hl => match us, hl with | [_], _ => rfl) (fun vs H Q E h => ?_) (fun f cdv A outer s H vs Q E hr h => ?_)
  · obtain ⟨x, a, rfl, _⟩ := h
    rfl
  · obtain ⟨x, d, rfl, hd, hsh, q⟩ := h
    refine ⟨_, (pss_one (ps_ret (pe_or (pe_callN G_is_number (hr.mono (by decide)) pass0 (pa_cons (pv 0) pa_nil)) (pe_one (pe_callN G_is_fault (hr.mono (by decide)) pass0 (pa_cons (pv 0) pa_nil)))))), ?_⟩
    refine ⟨_, rfl, x, d, rfl, hd, _, rfl, ?_⟩
    refine ite2 (fun h1 => ?_) (fun h1 => ?_)
    · have e : valueD d = true := by unfold valueD; rw [h1, Bool.true_or]
      show Q (.bl true) H
      rw [← e]
      exact q H (Same.refl H)
    · refine ⟨_, rfl, x, d, rfl, hd, hsh, fun H' s' => ?_⟩
      have e : valueD d = faultD d := by
        unfold valueD
        have : numD d = false := by simpa using h1
        rw [this, Bool.false_or]
      rw [← e]
      exact q H' s'
end
end My

namespace My
open PySem L2
def cellZ (ns : List Int) (k : Int) : Int := if k < ns.length then ns.getD k.toNat 0 else ((if 0 < (ns.length : Int) then ns.getD (k % ns.length).toNat 0 % 2147483647 else 41) + k * k + 5) * (48271 + 16807 * k) % 2147483629
section
variable {P : Program} {w : World} {K : PySem.W.Frag} {mg : Str → Option Value} {base : Heap}
def spCell (K : PySem.W.Frag) : Sp := fun vs H Q _ => ∃ (a : Addr) (ns : List Int) (k : Int), vs = [.ref a, .int k] ∧ SqL K H a (ns.map V.int) ∧ ns.length ≤ 63 ∧ 0 ≤ k ∧ k ≤ 1000000 ∧ Q (.int (cellZ ns k)) H
theorem sc_law_cell : FnScope ["_law_script", "_law_k", "_law_seed"] ["_law_script", "_law_k"] (defScope s_law_cell) := ⟨rfl, rfl, rfl, by decide +kernel, rfl, by decide +kernel, by decide +kernel⟩
theorem k_law_cell (T : Tops K mg) : Known P w K mg base CX0 1 "_law_cell" ["_law_script", "_law_k"] (spCell K) := by
  refine T.d_law_cell.known sc_law_cell (fun _ _ _ _ _ _ us hl => match us, hl with | [_, _], _ => rfl) (fun vs H Q E h => ?_) (fun f cdv A outer s H vs Q E hr h => ?_)
  · obtain ⟨a, ns, k, rfl, _⟩ := h
    rfl
  · obtain ⟨a, ns, k, rfl, hS, hl, h0, h6, q⟩ := h
    refine ⟨_, (pss_cons (ps_if (pt_cmpR op_lt (pv 1) (pe_callB call_len rfl T.len b_len (pa_cons (pv 0) pa_nil)) (nomark _)) (pss_one (ps_ret (pe_ix ix_list (pv 0) (pv 1) (fun _ _ => rfl)))) pss_nil)
      (pss_cons (ps_set (i := 2) sc_law_cell.nd rfl (Or.inl rfl) pe_int)
      (pss_cons (ps_if (pt_cmpR op_gt (pe_callB call_len rfl T.len b_len (pa_cons (pv 0) pa_nil)) pe_int (nomark _)) (pss_one (ps_set (i := 2) sc_law_cell.nd rfl (Or.inl rfl) (pe_op op_mod (pe_ix ix_list (pv 0) (pe_op op_mod (pv 1) (pe_callB call_len rfl T.len b_len (pa_cons (pv 0) pa_nil))) (fun _ _ => rfl)) pe_int))) pss_nil)
      (pss_one (ps_ret (pe_op op_mod (pe_op op_mul (pe_op op_add (pe_op op_add (pv 2) (pe_op op_mul (pv 1) (pv 1))) pe_int) (pe_op op_add pe_int (pe_op op_mul pe_int (pv 1)))) pe_int)))))), ?_⟩
    have el : ((ns.map V.int).length : Int) = (ns.length : Int) := by rw [List.length_map]
    refine ⟨_, rfl, _, rfl, _, _, rfl, .inl ⟨_, hS, rfl⟩, _, _, rfl, rfl, _, rfl, ?_⟩
    rw [el]
    refine ite2 (fun h1 => ?_) (fun h1 => ?_)
    · have h1' : k < ns.length := by simpa using h1
      refine ⟨_, rfl, _, rfl, a, _, k, _, rfl, rfl, hS, at_map ns k h0 h1', ?_⟩
      have e : cellZ ns k = ns.getD k.toNat 0 := by unfold cellZ; rw [if_pos h1']
      rw [← e]
      exact q
    · have h1' : ¬ k < ns.length := by simpa using h1
      refine ⟨_, rfl, _, _, rfl, .inl ⟨_, hS, rfl⟩, _, _, rfl, rfl, _, rfl, ?_⟩
      rw [el]
      have fin : ∀ seed : Int, cellZ ns k = (seed + k * k + 5) * (48271 + 16807 * k) % 2147483629 →
          tRet (tOp (rI (fun _ j => 0 < j) fun i j => .int (i % j)) (tOp (rI CMul fun i j => .int (i * j)) (tOp (rI0 fun i j => .int (i + j)) (tOp (rI0 fun i j => .int (i + j)) (tVar 2) (tOp (rI CMul fun i j => .int (i * j)) (tVar 1) (tVar 1))) (tC (.int 5))) (tOp (rI0 fun i j => .int (i + j)) (tC (.int 48271)) (tOp (rI CMul fun i j => .int (i * j)) (tC (.int 16807)) (tVar 1)))) (tC (.int 2147483629)))
            { nx := fun _ H' => Q .non H', rt := Q } [some (.ref a), some (.int k), some (.int seed)] H := fun seed e => by
        refine ⟨_, rfl, _, rfl, _, rfl, _, _, rfl, rfl, .inl ⟨by omega, by omega⟩, _, _, rfl, rfl, _, _, rfl, rfl, _, rfl, _, _, rfl, rfl, .inl ⟨by decide, by decide⟩, _, _, rfl, rfl, _, _, rfl, rfl, .inr ⟨by omega, by omega⟩, _, _, rfl, rfl, (show (0 : Int) < 2147483629 by decide), ?_⟩
        show Q (.int ((seed + k * k + 5) * (48271 + 16807 * k) % 2147483629)) H
        rw [← e]
        exact q
      refine ite2 (fun h2 => ?_) (fun h2 => ?_)
      · have h2' : 0 < (ns.length : Int) := by simpa using h2
        have hm := Int.emod_nonneg k (Int.ne_of_gt h2')
        have hm' := Int.emod_lt_of_pos k h2'
        refine ⟨_, rfl, _, rfl, _, rfl, _, _, rfl, .inl ⟨_, hS, rfl⟩, _, _, rfl, rfl, by rw [el]; exact h2', a, _, _, _, rfl, rfl, hS, by rw [el]; exact at_map ns _ hm hm', _, _, rfl, rfl, (show (0 : Int) < 2147483647 by decide), ?_⟩
        refine fin _ ?_
        unfold cellZ
        rw [if_neg h1', if_pos h2']
      · have h2' : ¬ 0 < (ns.length : Int) := by simpa using h2
        refine fin 41 ?_
        unfold cellZ
        rw [if_neg h1', if_neg h2']
end
end My

namespace My
open PySem L2
/-- a name, by its letters -/
def Nl (t : Str) : Prop := 1 ≤ t.length ∧ t.length ≤ 8 ∧ ∀ c ∈ t.cps.toList, c ∈ letters.cps.toList
end My

namespace My
open PySem L2
theorem Nl.name {t : Str} (h : Nl t) : nameS t = true := by
  unfold nameS
  have a1 : decide ((1 : Int) ≤ t.length) = true := by rw [decide_eq_true_eq]; have := h.1; omega
  have a2 : decide ((t.length : Int) ≤ 8) = true := by rw [decide_eq_true_eq]; have := h.2.1; omega
  have a3 : t.cps.toList.all inL = true := by
    rw [List.all_eq_true]
    intro c hc
    have : ∀ c ∈ letters.cps.toList, inL c = true := by decide +kernel
    exact this c (h.2.2 c hc)
  rw [a1, a2, a3]
  rfl
theorem Nl.lay {z : Str} (h : Nl z) : PyData.canLay0 (.str z) = true := by
  obtain ⟨⟨l⟩⟩ := z
  have : ∀ c ∈ letters.cps.toList, c < 128 := by decide +kernel
  exact lay_text fun c hc => this c (h.2.2 c hc)
theorem spD_lay {p : Str × Str} (h1 : Nl p.1) (h2 : Nl p.2) : (spD p).canLay0 = true := by
  show PyData.canLayAll0 [.str p.1, .str p.2] = true
  show (PyData.canLay0 (.str p.1) && (PyData.canLay0 (.str p.2) && true)) = true
  rw [h1.lay, h2.lay]
  rfl
/-- spots of good names -/
def Spots (K : PySem.W.Frag) (H : Hp) (xs : List V) (ps : List (Str × Str)) : Prop := DtAll K H xs (ps.map spD) ∧ ∀ p ∈ ps, Nl p.1 ∧ Nl p.2
theorem lay_spots : ∀ {ps : List (Str × Str)}, (∀ p ∈ ps, Nl p.1 ∧ Nl p.2) → (PyData.list (ps.map spD)).canLay0 = true
  | [], _ => rfl
  | p :: ps, h => by
    show ((spD p).canLay0 && PyData.canLayAll0 (ps.map spD)) = true
    have e : PyData.canLayAll0 (ps.map spD) = true := lay_spots fun q hq => h q (List.mem_cons_of_mem _ hq)
    rw [e, spD_lay (h p List.mem_cons_self).1 (h p List.mem_cons_self).2]
    rfl
theorem Spots.lay {K : PySem.W.Frag} {H : Hp} {xs : List V} {ps : List (Str × Str)} (h : Spots K H xs ps) : (PyData.list (ps.map spD)).canLay0 = true := lay_spots h.2
theorem DtAll.snoc {K : PySem.W.Frag} {H : Hp} : ∀ {xs : List V} {ds : List PyData} {x : V} {d : PyData}, DtAll K H xs ds → Dt K H x d → DtAll K H (xs ++ [x]) (ds ++ [d])
  | _, _, _, _, .nil, h => .cons h .nil
  | _, _, _, _, .cons h t, q => .cons h (DtAll.snoc t q)
section
variable {P : Program} {w : World} {K : PySem.W.Frag} {mg : Str → Option Value} {base : Heap}
def spCName : Sp := fun vs H Q _ => ∃ z : Str, vs = [.str z] ∧ Nl z ∧ ∀ H', Same H H' → Q .non H'
theorem sc_check_name : FnScope ["name"] ["name"] (defScope s_check_name) := ⟨rfl, rfl, rfl, by decide +kernel, rfl, by decide +kernel, by decide +kernel⟩
theorem k_check_name (T : Tops K mg) : Known P w K mg base CX0 2 "check_name" ["name"] spCName := by
  have G_is_name : Known P w K mg base CX0 1 "is_name" ["thing"] (spName K) := k_is_name T
  refine T.d_check_name.known sc_check_name (fun _ _ _ _ _ _ us hl => match us, hl with | [_], _ => rfl) (fun vs H Q E h => ?_) (fun f cdv A outer s H vs Q E hr h => ?_)
  · obtain ⟨z, rfl, _⟩ := h
    rfl
  · obtain ⟨z, rfl, hz, q⟩ := h
    refine ⟨_, (pss_one (ps_if (pt_not (pt_val (pe_callN G_is_name (hr.mono (by decide)) pass0 (pa_cons (pv 0) pa_nil)) (fun _ => rfl))) (pss_one ps_dead) pss_nil)), ?_⟩
    have h8 := hz.2.1
    refine ⟨_, rfl, _, _, rfl, .str z, shortS_str (by omega), fun H' s' => ⟨_, rfl, ?_⟩⟩
    rw [show nameD (.str z) = true from hz.name]
    exact iteF (q H' s')
def spCNames (K : PySem.W.Frag) : Sp := fun vs H Q _ => ∃ (a : Addr) (zs : List Str), vs = [.ref a] ∧ SqL K H a (zs.map V.str) ∧ zs.length ≤ 6 ∧ (∀ z ∈ zs, Nl z) ∧ ∀ H' l, Same H H' → H l = none → H' l = some (.lst (zs.map V.str)) → Q (.ref l) H'
theorem dt_strs {K : PySem.W.Frag} {H : Hp} : ∀ zs : List Str, DtAll K H (zs.map V.str) (zs.map PyData.str)
  | [] => .nil
  | z :: zs => .cons (.str z) (dt_strs zs)
theorem sc_checked_names : FnScope ["names", "name"] ["names"] (defScope s_checked_names) := ⟨rfl, rfl, rfl, by decide +kernel, rfl, by decide +kernel, by decide +kernel⟩
theorem k_checked_names (T : Tops K mg) : Known P w K mg base CX0 3 "checked_names" ["names"] (spCNames K) := by
  have G_check_name : Known P w K mg base CX0 2 "check_name" ["name"] spCName := k_check_name T
  refine T.d_checked_names.known sc_checked_names (fun _ _ _ _ _ _ us hl => match us, hl with | [_], _ => rfl) (fun vs H Q E h => ?_) (fun f cdv A outer s H vs Q E hr h => ?_)
  · obtain ⟨a, zs, rfl, _⟩ := h
    rfl
  · obtain ⟨a, zs, rfl, hq, h6, hz, q⟩ := h
    refine ⟨_, (pss_cons (ps_if (PW.pt (pw_or (pt_not (pt_val (pe_callB call_isT rfl T.isinstance b_isinstance (pa_cons (pv 0) (pa_cons (pe_ty T.list b_list) pa_nil))) (fun _ => rfl))) (pw_or1 (pt_cmpR op_gt (pe_callB call_len rfl T.len b_len (pa_cons (pv 0) pa_nil)) (pe_gI T.g_MOST_NAMES) (nomark _))))) (pss_one ps_dead) pss_nil)
      (pss_cons (ps_for PassesOwn.never rfl (pi_list (pv 0)) (pg_name (i := 1) sc_checked_names.nd rfl (Or.inl rfl)) (pss_one (ps_expr (pe_callN G_check_name (hr.mono (by decide)) pass0 (pa_cons (pv 1) pa_nil)))))
      (pss_one (ps_ret (pe_callTy call_list_of rfl T.list b_list (pa_cons (pv 0) pa_nil)))))), ?_⟩
    refine ⟨_, rfl, _, "list", _, _, rfl, Dt.lst hq (dt_strs zs), kit_list K _, _, rfl, iteF ?_⟩
    refine ⟨_, rfl, _, _, rfl, .inl ⟨_, hq, rfl⟩, _, _, rfl, rfl, _, rfl, ?_⟩
    rw [List.length_map, decide_eq_false (by omega)]
    refine iteF ?_
    refine ⟨_, rfl, a, rfl, ⟨_, hq⟩, ?_⟩
    refine for_list (K := K) (a := a) (xs := zs.map V.str) (fun i σ H2 => ∃ o, σ = [some (.ref a), o] ∧ Same H H2) ⟨_, rfl, Same.refl H⟩ (fun i σ H2 _ ⟨_, _, s2⟩ => s2.seq hq) ?_ ?_
    · rintro i x σ H2 hx ⟨o, rfl, s2⟩
      rw [List.getElem?_map] at hx
      cases e : zs[i]? with
      | none => rw [e] at hx; cases hx
      | some z =>
        rw [e] at hx
        cases hx
        exact ⟨_, rfl, z, rfl, hz z (List.mem_of_getElem? e), fun H3 s3 => ⟨_, rfl, s2.trans s3⟩⟩
    · rintro σ H2 ⟨o, rfl, s2⟩
      refine ⟨_, rfl, a, _, rfl, .inl (s2.seq hq), fun l hl => ?_⟩
      have hl' : H l = none := by
        cases e : H l with
        | none => rfl
        | some u => rw [s2 _ _ e] at hl; cases hl
      exact q _ l (s2.trans (Same.new hl)) hl' upd_same
def spOnce (K : PySem.W.Frag) : Sp := fun vs H Q _ => ∃ (a : Addr) (xs : List V) (ps : List (Str × Str)), vs = [.ref a] ∧ SqL K H a xs ∧ Spots K H xs ps ∧ ps.length ≤ 100 ∧
  ∀ H' l ys, Same H H' → H l = none → H' l = some (.lst ys) → Spots K H' ys (onceOf ps) → Q (.ref l) H'
theorem sc_each_once : FnScope ["spots", "found", "spot"] ["spots"] (defScope s_each_once) := ⟨rfl, rfl, rfl, by decide +kernel, rfl, by decide +kernel, by decide +kernel⟩
theorem k_each_once (T : Tops K mg) : Known P w K mg base CX0 2 "each_once" ["spots"] (spOnce K) := by
  refine T.d_each_once.known sc_each_once (fun _ _ _ _ _ _ us hl => match us, hl with | [_], _ => rfl) (fun vs H Q E h => ?_) (fun f cdv A outer s H vs Q E hr h => ?_)
  · obtain ⟨a, xs, ps, rfl, _⟩ := h
    rfl
  · obtain ⟨a, xs, ps, rfl, hq, hsp, h100, q⟩ := h
    refine ⟨_, (pss_cons (ps_set (i := 1) sc_each_once.nd rfl (Or.inl rfl) (pe_lst pa_nil))
      (pss_cons (ps_for PassesOwn.never rfl (pi_list (pv 0)) (pg_name (i := 2) sc_each_once.nd rfl (Or.inl rfl)) (pss_one (ps_if (pt_cmpR (op_notinD hr.units) (pv 2) (pv 1) (by with_unfolding_all rfl)) (pss_one (ps_expr (pe_bm PySem.F.plainAttrs_list PySem.F.slot_list_append PySem.F.type_list_append mt_append (pv 1) (pa_cons (pv 2) pa_nil)))) pss_nil)))
      (pss_one (ps_ret (pv 1))))), ?_⟩
    have hlx : xs.length = ps.length := by rw [hsp.1.length, List.length_map]
    refine ⟨sl, fun l hl => ?_⟩
    refine ⟨_, rfl, a, rfl, ⟨_, (Same.new hl).seq hq⟩, ?_⟩
    refine for_list (K := K) (a := a) (xs := xs) (fun i σ H2 => ∃ o ys, σ = [some (.ref a), some (.ref l), o] ∧ Same H H2 ∧ H2 l = some (.lst ys) ∧ DtAll K H ys ((onceOf (ps.take i)).map spD)) ⟨_, [], rfl, Same.new hl, upd_same, .nil⟩ (fun i σ H2 _ ⟨_, _, _, s2, _⟩ => s2.seq hq) ?_ ?_
    · rintro i x σ H2 hx ⟨o, ys, rfl, s2, h2, hd⟩
      obtain ⟨d, hd1, hd2⟩ := hsp.1.get hx
      rw [List.getElem?_map] at hd1
      cases e : ps[i]? with
      | none => rw [e] at hd1; cases hd1
      | some p =>
        rw [e] at hd1
        cases hd1
        have hp := List.mem_of_getElem? e
        have hle : ((onceOf (ps.take i)).map spD).length = ys.length := hd.length.symm
        rw [List.length_map] at hle
        have hyl : ys.length ≤ 100 := by
          have h3 := onceOf_le (ps.take i)
          rw [List.length_take] at h3
          omega
        have lay2 : (PyData.list ((onceOf (ps.take i)).map spD)).canLay0 = true := lay_spots fun p' hp' => hsp.2 p' (List.mem_of_mem_take (onceOf_mem hp'))
        have et : onceOf (ps.take (i + 1)) = if p ∈ onceOf (ps.take i) then onceOf (ps.take i) else onceOf (ps.take i) ++ [p] := by
          rw [List.take_add_one, e]
          exact onceOf_snoc _ _
        refine ⟨_, rfl, _, rfl, spD p, _, hd2.same s2, Dt.lst (SqL.of h2) (DtAll.same s2 hd), spD_lay (hsp.2 p hp).1 (hsp.2 p hp).2, lay2, (show max 0 (max 0 0) + 1 ≤ 62 by decide), _, rfl, ?_⟩
        rw [spD_any]
        by_cases hm : p ∈ onceOf (ps.take i)
        · rw [decide_eq_true hm]
          rw [if_pos hm] at et
          exact iteF ⟨_, ys, rfl, s2, h2, by rw [et]; exact hd⟩
        · rw [decide_eq_false hm]
          rw [if_neg hm] at et
          refine iteT ?_
          refine ⟨_, rfl, .inl ⟨rfl, _, SqL.of h2⟩, _, rfl, l, _, _, rfl, rfl, h2, small1000 (by omega), ?_⟩
          have s3 : Same H (upd H2 l (.lst (ys ++ [x]))) := s2.on hl
          refine ⟨_, ys ++ [x], rfl, s3, upd_same, ?_⟩
          rw [et, List.map_append]
          exact DtAll.snoc hd hd2
    · rintro σ H2 ⟨o, ys, rfl, s2, h2, hd⟩
      refine ⟨_, rfl, q H2 l ys s2 hl h2 ⟨?_, fun p hp => hsp.2 p (onceOf_mem hp)⟩⟩
      rw [hlx, List.take_length] at hd
      exact DtAll.same s2 hd
end
end My

namespace My
open PySem L2
/-- all stays but the instance at p -/
def But (p : Addr) (H H' : Hp) : Prop := ∀ b o, b ≠ p → H b = some o → H' b = some o
theorem But.of {p : Addr} {H H' : Hp} (s : Same H H') : But p H H' := fun b o _ e => s b o e
theorem But.trans {p : Addr} {H H1 H2 : Hp} (a : But p H H1) (b : But p H1 H2) : But p H H2 := fun c o n e => b c o n (a c o n e)
theorem But.upd {p : Addr} {H : Hp} {o : HO} : But p H (upd H p o) := fun b u n e => by rw [upd_ne n]; exact e
theorem spot_inv {K : PySem.W.Frag} {H : Hp} {v : V} {p : Str × Str} (h : Dt K H v (spD p)) : ∃ a, v = .ref a ∧ SqT K H a [.str p.1, .str p.2] := by
  cases h with
  | @tup a xs _ hq hall =>
    cases hall with
    | cons h1 t1 =>
      cases t1 with
      | cons h2 t2 =>
        cases t2
        cases h1
        cases h2
        exact ⟨a, rfl, hq⟩
theorem spot_mk {K : PySem.W.Frag} {H : Hp} {a : Addr} {p : Str × Str} (h : SqT K H a [.str p.1, .str p.2]) : Dt K H (.ref a) (spD p) := .tup h (.cons (.str _) (.cons (.str _) .nil))
theorem sqT_upd {K : PySem.W.Frag} {H : Hp} {a D : Addr} {xs ys : List V} {o : HO} (hD : H D = some (.lst ys)) (h : SqT K H a xs) : SqT K (upd H D o) a xs := by
  rcases h with (h | ⟨o', h⟩) | h
  · exact .inl (.inl (by rw [upd_ne (ne_of h hD (fun z => by cases z))]; exact h))
  · exact .inl (.inr ⟨o', by rw [upd_ne (ne_of h hD (fun z => by cases z))]; exact h⟩)
  · exact .inr h
theorem spots_upd {K : PySem.W.Frag} {H : Hp} {D : Addr} {ys : List V} {o : HO} (hD : H D = some (.lst ys)) : ∀ {xs : List V} {ps : List (Str × Str)}, DtAll K H xs (ps.map spD) → DtAll K (upd H D o) xs (ps.map spD)
  | [], [], _ => .nil
  | _ :: _, p :: ps, .cons h t => by
    obtain ⟨a, rfl, hq⟩ := spot_inv h
    exact .cons (spot_mk (sqT_upd hD hq)) (spots_upd hD t)
theorem none_back {H H' : Hp} {l : Addr} (s : Same H H') (h : H' l = none) : H l = none := by
  cases e : H l with
  | none => rfl
  | some u => rw [s _ _ e] at h; cases h
section
variable {P : Program} {w : World} {K : PySem.W.Frag} {mg : Str → Option Value} {base : Heap}
def spRuleI (K : PySem.W.Frag) : Sp := fun vs H Q _ => ∃ (p C dx : Addr) (fs : List (Str × V)) (v : V), vs = [.ref p, v] ∧ H p = some (.ins C dx fs) ∧ Cls K C ∧ NoAttr K C "function" ∧ fs.length < 1000 ∧ Q .non (upd H p (.ins C dx (putF "function" v fs)))
theorem sc_Rule_init : FnScope ["self", "function"] ["self", "function"] (defScope s_Rule_init) := ⟨rfl, rfl, rfl, by decide +kernel, rfl, by decide +kernel, by decide +kernel⟩
theorem k_Rule_init (T : Tops K mg) {C : Addr} (Y : TRule K mg C) : KnownM P w K mg base CX0 1 C "__init__" ["self", "function"] (spRuleI K) := by
  refine Y.m_init.known sc_Rule_init (fun _ _ _ _ _ _ us hl => match us, hl with | [_, _], _ => rfl) (fun vs H Q E h => ?_) (fun f cdv A outer s H vs Q E hr h => ?_)
  · obtain ⟨p, C', dx, fs, v, rfl, _⟩ := h
    rfl
  · obtain ⟨p, C', dx, fs, v, rfl, hp, hC, hN, hl, q⟩ := h
    refine ⟨_, (pss_one (ps_fld (pv 0) (pv 1) rfl)), ?_⟩
    exact ⟨_, rfl, _, rfl, p, C', dx, fs, rfl, hp, hC, hN, hl, q⟩
def spSettled (K : PySem.W.Frag) (p : Addr) : Sp := fun vs H Q _ => ∃ x d, vs = [x] ∧ Dt K H x d ∧ shortD d ∧ ∀ H', Same H H' → Q (if valueD d then x else .ref p) H'
theorem sc_settled : FnScope ["thing"] ["thing"] (defScope s_settled) := ⟨rfl, rfl, rfl, by decide +kernel, rfl, by decide +kernel, by decide +kernel⟩
theorem k_settled (T : Tops K mg) {p : Addr} (hp : mg "ODD" = some (.ref p)) : Known P w K mg base CX0 4 "settled" ["thing"] (spSettled K p) := by
  have G_is_value : Known P w K mg base CX0 3 "is_value" ["thing"] (spValue K) := k_is_value T
  refine T.d_settled.known sc_settled (fun _ _ _ _ _ _ us hl => match us, hl with | [_], _ => rfl) (fun vs H Q E h => ?_) (fun f cdv A outer s H vs Q E hr h => ?_)
  · obtain ⟨x, d, rfl, _⟩ := h
    rfl
  · obtain ⟨x, d, rfl, hd, hsh, q⟩ := h
    refine ⟨_, (pss_cons (ps_if (pt_val (pe_callN G_is_value (hr.mono (by decide)) pass0 (pa_cons (pv 0) pa_nil)) (fun _ => rfl)) (pss_one (ps_ret (pv 0))) pss_nil)
      (pss_one (ps_ret (pe_gR hp)))), ?_⟩
    refine ⟨_, rfl, x, d, rfl, hd, hsh, fun H' s' => ⟨_, rfl, ?_⟩⟩
    have q' := q H' s'
    refine ite2 (fun h1 => ?_) (fun h1 => ?_)
    · rw [if_pos h1] at q'
      exact ⟨_, rfl, q'⟩
    · rw [if_neg h1] at q'
      exact q'
theorem sqL_but {K : PySem.W.Frag} {H H' : Hp} {p a : Addr} {xs : List V} (b : But p H H') (hp : ∃ C dx fs, H p = some (.ins C dx fs)) (h : SqL K H a xs) : SqL K H' a xs := by
  have na : ∀ u, H a = some u → (∀ C dx fs, u ≠ .ins C dx fs) → a ≠ p := fun u e n z => by
    obtain ⟨C, dx, fs, e'⟩ := hp
    rw [← z, e] at e'
    exact n _ _ _ (Option.some.inj e')
  rcases h with (h | ⟨o, h⟩) | h
  · exact .inl (.inl (b _ _ (na _ h (fun _ _ _ z => by cases z)) h))
  · exact .inl (.inr ⟨o, b _ _ (na _ h (fun _ _ _ z => by cases z)) h⟩)
  · exact .inr h
theorem comp_spots {cp : List (Nat × Str)} {σ : St} {H : Hp} {r D : Addr} {t : Str} {zs : List Str} {te : TE} {Q : VK} (hD : H D = none) (h4 : H r = some (.lst (zs.map V.str))) (h6 : zs.length ≤ 100)
    (hte : ∀ (z : Str) (H2 : Hp) (q : VK), Same H H2 → (∀ tp, H2 tp = none → q (.ref tp) (upd H2 tp (.tup [.str t, .str z]))) → te (some (.str z) :: capσ cp σ) H2 q)
    (hq : ∀ ys H2, H2 D = some (.lst ys) → Same H H2 → DtAll K H2 ys ((zs.map fun z => (t, z)).map spD) → Q (.ref D) H2) : tLoop cp tYes te σ (Itl K r) D Q H := by
  refine comp_list (K := K) (a := r) (xs := zs.map V.str) (fun i ys H2 => Same H H2 ∧ DtAll K H2 ys (((zs.take i).map fun z => (t, z)).map spD)) ⟨Same.new hD, .nil⟩ (fun i ys H2 _ ⟨s2, _⟩ => SqL.of (s2 _ _ h4)) ?_ ?_
  · rintro i x ys H2 hx h2D ⟨s2, hd⟩
    rw [List.getElem?_map] at hx
    cases e : zs[i]? with
    | none => rw [e] at hx; cases hx
    | some z =>
      rw [e] at hx
      cases hx
      have hi : i < zs.length := (List.getElem?_eq_some_iff.mp e).1
      have hyl : ys.length ≤ 100 := by
        have := hd.length
        rw [List.length_map, List.length_map, List.length_take] at this
        omega
      refine hte z H2 _ s2 fun tp htp => ?_
      have s3 : Same H2 (upd H2 tp (.tup [.str t, .str z])) := Same.new htp
      have h3D := s3 _ _ h2D
      refine ⟨h3D, small1000 (by omega), (s2.trans s3).on hD, ?_⟩
      have et : ((zs.take (i + 1)).map fun z => (t, z)).map spD = ((zs.take i).map fun z => (t, z)).map spD ++ [spD (t, z)] := by
        rw [List.take_add_one, e, List.map_append, List.map_append]
        rfl
      rw [et]
      exact DtAll.snoc (spots_upd h3D (DtAll.same s3 hd)) (spot_mk (p := (t, z)) (sqT_upd h3D (.inl (.inl upd_same))))
  · rintro ys H2 h2D ⟨s2, hd⟩
    rw [List.length_map, List.take_length] at hd
    exact hq ys H2 h2D s2 hd
/-- what every rule holds beside its own: no methods of its own, its function -/
def Flds (fs : List (Str × V)) (v : V) : Prop := fs.lookup ("leans" : Str) = none ∧ fs.lookup ("gather" : Str) = none ∧ fs.lookup ("reckon" : Str) = none ∧ fs.lookup ("function" : Str) = some v
theorem same_of_init {H H' : Hp} {x dx C : Addr} (hx : H x = none) (hdx : H dx = none) (bt : But x (upd (upd H dx (.own x)) x (.ins C dx [])) H') : Same H H' := fun b o e => by
  refine bt b o (ne_of_none e hx) ?_
  rw [upd_ne (ne_of_none e hx), upd_ne (ne_of_none e hdx)]
  exact e
end
end My

namespace L2
open PySem PySem.Spec PyProof.Rows
theorem Fun.okT {P : Program} {w : World} {K : PySem.W.Frag} {mg : Str → Option Value} {base : Heap} {x qual : Str} {st : Stmt} {f c : Addr} {fd : FuncData} {N ps : List Str} {k : Nat} {sp : Sp} (F : Fun K x qual st f fd) (hc : fd.code = .ref c) (S : FnScope N ps (defScope st)) (len : ∀ vs H Q E, sp vs H Q E → vs.length = ps.length)
    (hbody : ∀ (A : Around) (outer : List Env) (s : Shared) (H : Hp) (vs : List V) (Q : VK) (E : XK), Room k (A.deeper (envOfC qual (defScope st) s.heap.objs.size f (.ref c))) → sp vs H Q E →
      ∃ t, PSs (cxOf CX0 P w K mg base N qual (defScope st) f (.ref c) A outer s H E).nox (defBody st) t ∧ t { nx := fun _ H' => Q .non H', rt := Q } (start N vs) H) : FnOk P w K mg base CX0 (k + 1) f fd ps sp := by
  obtain ⟨oc, od, kV, doc, pm, an, cdv, ct, osl, rfl, lk, hcd⟩ := F.ex
  have e : cdv = .ref c := hc
  subst e
  refine fn_of lk hcd S len fun A outer s H vs Q E hr hsp => ?_
  obtain ⟨t, h, q⟩ := hbody A outer s H vs Q E hr hsp
  exact ⟨t, h.nox, q⟩
end L2
namespace My
open PySem L2
def Keep (H H' : Hp) : Prop := ∀ b o, (∀ xs, o ≠ .lst xs) → H b = some o → H' b = some o
theorem Keep.of {H H' : Hp} (s : Same H H') : Keep H H' := fun b o _ e => s b o e
theorem Keep.lst {H : Hp} {l : Addr} {xs ys : List V} (h : H l = some (.lst xs)) : Keep H (upd H l (.lst ys)) := fun b o n e => by
  rw [upd_ne (ne_of e h (n xs))]
  exact e
theorem Keep.but {H H' : Hp} {l : Addr} {xs : List V} (s : But l H H') (h : H l = some (.lst xs)) : Keep H H' := fun b o n e => s b o (ne_of e h (n xs)) e
theorem noneB {H H' : Hp} {l : Addr} (s : Same H H') (h : H' l = none) : H l = none := by
  cases e : H l with
  | none => rfl
  | some o => rw [s l o e] at h; cases h
/-! ### worlds -/
def WV (H : Hp) (v : V) : Prop := (∃ i, v = .int i) ∨ ∃ a z, v = .ref a ∧ H a = some (.tup [.str ("fault" : Str), .str z]) ∧ Nl z
theorem WV.keep {H H' : Hp} {v : V} (s : Keep H H') (h : WV H v) : WV H' v := by
  rcases h with ⟨i, e⟩ | ⟨a, z, e1, e2, e3⟩
  · exact .inl ⟨i, e⟩
  · exact .inr ⟨a, z, e1, s _ _ (fun xs q => by cases q) e2, e3⟩
abbrev Spot3 := Str × Str × Int
/-! ### the notes -/
def Nts (H : Hp) : List V → List Spot3 → Prop := Paired fun v z => ∃ a, v = .ref a ∧ H a = some (.tup [.str z.1, .str z.2.1, .int z.2.2])
theorem Nts.keep {H H' : Hp} (s : Keep H H') : ∀ {vs : List V} {ns : List Spot3}, Nts H vs ns → Nts H' vs ns
  | _, _, .nil => .nil
  | _, _, .cons ⟨a, e1, e2⟩ t => .cons ⟨a, e1, s _ _ (fun xs q => by cases q) e2⟩ (Nts.keep s t)
theorem Nts.snoc {H : Hp} {v : V} {z : Spot3} (h : ∃ a, v = .ref a ∧ H a = some (.tup [.str z.1, .str z.2.1, .int z.2.2])) : ∀ {vs : List V} {ns : List Spot3}, Nts H vs ns → Nts H (vs ++ [v]) (ns ++ [z])
  | _, _, .nil => .cons h .nil
  | _, _, .cons r t => .cons r (Nts.snoc h t)
theorem Nts.length {H : Hp} {vs : List V} {ns : List Spot3} (h : Nts H vs ns) : vs.length = ns.length := Paired.length h
abbrev sp3D (z : Spot3) : PyData := .tuple [.str z.1, .str z.2.1, .int z.2.2]
theorem Nts.dt {K : PySem.W.Frag} {H : Hp} : ∀ {vs : List V} {ns : List Spot3}, Nts H vs ns → DtAll K H vs (ns.map sp3D)
  | _, _, .nil => .nil
  | _, _, .cons ⟨a, e1, e2⟩ t => .cons (e1 ▸ .tup (SqT.of e2) (.cons (.str _) (.cons (.str _) (.cons (.int _) .nil)))) (Nts.dt t)
/-! ### what is looked at: cells by a function of the law -/
abbrev Vw := Spot3 → Option V
abbrev Mn := Str → Option Nat
def isRef : V → Bool
  | .ref _ => true
  | _ => false
def valAt (vw : Vw) (z : Spot3) : V := (vw z).getD .non
theorem valAt_of {vw : Vw} {z : Spot3} {v : V} (h : vw z = some v) : valAt vw z = v := by unfold valAt; rw [h]; rfl
def LkS (nl : Addr) (ns : List Spot3) (H : Hp) : Prop := ∃ as, H nl = some (.lst as) ∧ Nts H as ns
theorem LkS.keep {nl : Addr} {ns : List Spot3} {H H' : Hp} (s : Keep H H') (e : ∀ xs, H nl = some (.lst xs) → H' nl = some (.lst xs)) (h : LkS nl ns H) : LkS nl ns H' := by
  obtain ⟨as, h3, h4⟩ := h
  exact ⟨as, e _ h3, h4.keep s⟩
theorem LkS.same {nl : Addr} {ns : List Spot3} {H H' : Hp} (s : Same H H') (h : LkS nl ns H) : LkS nl ns H' := h.keep (Keep.of s) fun xs e => s _ _ e
theorem LkS.list {nl : Addr} {ns : List Spot3} {H : Hp} (h : LkS nl ns H) : ∃ as, H nl = some (.lst as) := let ⟨as, e, _⟩ := h; ⟨as, e⟩
/-- how look is asked: the cell is noted -/
def spLk (H0 : Hp) (nl : Addr) (vw : Vw) : Sp := fun vs H Q _ => ∃ (t c : Str) (p : Int) (v : V) (ns : List Spot3), vs = [.str t, .str c, .int p] ∧ But nl H0 H ∧ LkS nl ns H ∧ ns.length < 900 ∧ vw (t, c, p) = some v ∧
  ∀ H', But nl H H' → LkS nl (ns ++ [(t, c, p)]) H' → Q v H'
def spMn (H0 : Hp) (nl : Addr) (mn : Mn) : Sp := fun vs H Q _ => ∃ (t : Str) (m : Nat), vs = [.str t] ∧ But nl H0 H ∧ mn t = some m ∧ ∀ H', Same H H' → Q (.int (m : Int)) H'
/-! ### what is gathered -/
inductive Res where
  | val (v : V)
  | call (xs : List V)
/-- what is told: ("value", v) or ("call", a new list) -/
def Found (H H' : Hp) (fv : V) : Res → Prop
  | .val v => ∃ a, fv = .ref a ∧ H' a = some (.tup [.str ("value" : Str), v])
  | .call xs => ∃ a l, fv = .ref a ∧ H' a = some (.tup [.str ("call" : Str), .ref l]) ∧ H' l = some (.lst xs) ∧ H l = none
def onceG (ps : List Spot3) : List Spot3 := ps.foldl (fun acc p => if p ∈ acc then acc else acc ++ [p]) []
theorem onceG_snoc (ps : List Spot3) (p : Spot3) : onceG (ps ++ [p]) = if p ∈ onceG ps then onceG ps else onceG ps ++ [p] := by
  unfold onceG
  rw [List.foldl_append]
  rfl
theorem sp3D_eqv (p q : Spot3) : PyData.eqv (sp3D p) (sp3D q) = decide (p = q) := by
  obtain ⟨a, b, c⟩ := p
  obtain ⟨d, e, f⟩ := q
  simp only [PyData.eqv, PyData.eqvAll, Bool.and_true]
  by_cases h1 : a = d <;> by_cases h2 : b = e <;> by_cases h3 : c = f <;> simp_all
theorem sp3D_any (p : Spot3) : ∀ ps : List Spot3, ((ps.map sp3D).any fun z => PyData.eqv z (sp3D p)) = decide (p ∈ ps)
  | [] => rfl
  | q :: r => by
    rw [List.map_cons, List.any_cons, sp3D_any p r, sp3D_eqv]
    by_cases h1 : q = p <;> by_cases h2 : p ∈ r <;> simp_all [eq_comm]
theorem lay3 {z : Spot3} (h1 : Nl z.1) (h2 : Nl z.2.1) : (sp3D z).canLay0 = true := by
  have a := Nl.lay h1
  have b := Nl.lay h2
  show PyData.canLay0 (.tuple [.str z.1, .str z.2.1, .int z.2.2]) = true
  simp only [PyData.canLay0, PyData.canLayAll0] at a b ⊢
  simp [a, b]
theorem lay3s : ∀ {ps : List Spot3}, (∀ p ∈ ps, Nl p.1 ∧ Nl p.2.1) → (PyData.list (ps.map sp3D)).canLay0 = true
  | [], _ => by decide
  | p :: r, h => by
    have a := lay3 (h p List.mem_cons_self).1 (h p List.mem_cons_self).2
    have b := lay3s fun q hq => h q (List.mem_cons_of_mem _ hq)
    simp only [PyData.canLay0, List.map_cons, PyData.canLayAll0, Bool.and_true, Bool.and_eq_true] at a b ⊢
    exact ⟨a, b⟩
theorem onceG_le : ∀ ps : List Spot3, (onceG ps).length ≤ ps.length := by
  suffices h : ∀ (ps acc : List Spot3), (ps.foldl (fun acc p => if p ∈ acc then acc else acc ++ [p]) acc).length ≤ acc.length + ps.length by
    intro ps
    have := h ps []
    simpa [onceG] using this
  intro ps
  induction ps with
  | nil => intro acc; simp
  | cons p ps ih =>
    intro acc
    rw [List.foldl_cons]
    refine Nat.le_trans (ih _) ?_
    split
    · simp
    · simp; omega
theorem onceG_mem : ∀ {ps : List Spot3} {p : Spot3}, p ∈ onceG ps → p ∈ ps := by
  suffices h : ∀ (ps acc : List Spot3) (p : Spot3), p ∈ ps.foldl (fun acc p => if p ∈ acc then acc else acc ++ [p]) acc → p ∈ acc ∨ p ∈ ps by
    intro ps p hp
    rcases h ps [] p hp with h | h
    · cases h
    · exact h
  intro ps
  induction ps with
  | nil => intro acc p h; exact .inl h
  | cons q ps ih =>
    intro acc p h
    rw [List.foldl_cons] at h
    rcases ih _ p h with h | h
    · split at h
      · exact .inl h
      · rcases List.mem_append.mp h with h | h
        · exact .inl h
        · exact .inr (by simp at h; rw [h]; exact List.mem_cons_self)
    · exact .inr (List.mem_cons_of_mem _ h)
/-! ### all but what is told by a word of its own stays -/
def KeepC (H H' : Hp) : Prop := ∀ b o, (∀ φ, o ≠ .ext φ) → H b = some o → H' b = some o
theorem KeepC.of {H H' : Hp} (s : Same H H') : KeepC H H' := fun b o _ e => s b o e
theorem KeepC.trans {H H1 H2 : Hp} (a : KeepC H H1) (b : KeepC H1 H2) : KeepC H H2 := fun c o n e => b c o n (a c o n e)
theorem KeepC.tab {H H' : Hp} {P : Addr} {q : Str} (t : TabIn q H P) (s : SameX P H H') : KeepC H H' := fun b o n e => by
  obtain ⟨S, h, _⟩ := t
  exact s b o (fun z => by rw [z, h] at e; exact n _ (Option.some.inj e).symm) e
theorem KeepC.sqL {K : PySem.W.Frag} {H H' : Hp} {a : Addr} {xs : List V} (s : KeepC H H') (h : SqL K H a xs) : SqL K H' a xs := by
  rcases h with h | h
  · rcases h with h | ⟨o, h⟩
    · exact .inl (.inl (s _ _ (fun φ z => by cases z) h))
    · exact .inl (.inr ⟨o, s _ _ (fun φ z => by cases z) h⟩)
  · exact .inr h
theorem lam_by {X : Cx} {σ : St} {H₁ : Hp} {f : Lend} {q : Str} {params : Arguments} {body : Expr} {scope : Scope} {fa : Addr} {ps : List Str} {cp : List (Nat × Str)} {cv : List V} {k : Nat} {spB : List V → Hp → VK → Prop} {sc : Scope} {N : List Str} (la : LamAt q params body scope (clFold X.env.cells scope.names []) H₁ fa) (L : Lent X σ H₁ f)
    (hcell : ∀ x, X.env.scope.names.lookup x = some .cell → ∃ c, X.env.cells.lookup x = some c)
    (hcv : cp.map (fun p => σ[p.1]?) = cv.map fun v => some (some v))
    (hb : ∀ (pm ctv : Value) (c : Addr) (clos : List (Str × Addr)) (us : List Value), us.length = ps.length → bindArgs (PySem.W.kla_fn "<lambda>" q params body scope clos pm (.ref c) ctv) ⟨us, []⟩ = pure (ps.zip us))
    (hbody : ∀ (cd : Value) (A : Around) (outer : List Env) (s : Shared) (H : Hp) (vs : List V) (Q : VK), Room k (A.deeper (PySem.W.envX q scope s.heap.objs.size fa cd (clFold X.env.cells scope.names []))) → spB vs H Q →
      ∃ t, PE (cxLam X.prog X.w X.K X.mg X.base (ps ++ cp.map (·.2)) q scope fa cd (clFold X.env.cells scope.names []) A outer s H) body t ∧ t ((vs ++ cv).map some) H Q)
    (hs : X.env.scope = sc := by rfl) (hN : X.N = N := by rfl)
    (hcp : ∀ p ∈ cp, N[p.1]? = some p.2 ∧ sc.names.lookup p.2 = some .cell ∧ scope.names.lookup p.2 = some .free := by decide +kernel)
    (free : ∀ y ∈ scope.names, y.2 = .free → sc.names.lookup y.1 = some .cell := by decide +kernel)
    (kind : scope.kind = .function := by rfl) (co : scope.isCoroutine = false := by rfl) (gen : scope.isGenerator = false := by rfl) (nocell : ∀ y ∈ scope.names, y.2 ≠ .cell := by decide +kernel) (par : ∀ x ∈ ps, scope.names.lookup x = some .local := by decide +kernel) (nd : (ps ++ cp.map (·.2)).Nodup := by decide +kernel) :
    LamFn X.prog X.w X.K X.mg X.base (k + 1) fa (spLam fa f q params body scope (clFold X.env.cells scope.names []) ps.length spB) := by
  subst hs hN
  exact lam_of L hcell hcv hcp free kind co gen nocell par nd hb hbody
theorem def_by {X : Cx} {σ : St} {H₁ : Hp} {f : Lend} {q name : Str} {params : Arguments} {body : List Stmt} {scope : Scope} {fa : Addr} {ps : List Str} {cp : List (Nat × Str)} {cv : List V} {k : Nat} {spB : List V → Hp → VK → Prop} {sc : Scope} {N : List Str} (la : DefAt q name params body scope (clFold X.env.cells scope.names []) H₁ fa) (L : Lent X σ H₁ f)
    (hcell : ∀ x, X.env.scope.names.lookup x = some .cell → ∃ c, X.env.cells.lookup x = some c)
    (hcv : cp.map (fun p => σ[p.1]?) = cv.map fun v => some (some v))
    (hb : ∀ (doc pm ctv : Value) (c : Addr) (clos : List (Str × Addr)) (us : List Value), us.length = ps.length → bindArgs (PySem.W.fnX name q params body scope clos .none .none doc pm none (.ref c) ctv) ⟨us, []⟩ = pure (ps.zip us))
    (hbody : ∀ (cd : Value) (A : Around) (outer : List Env) (s : Shared) (H : Hp) (vs : List V) (Q : VK), Room k (A.deeper (PySem.W.envX q scope s.heap.objs.size fa cd (clFold X.env.cells scope.names []))) → spB vs H Q →
      ∃ t, PSs (cxLam X.prog X.w X.K X.mg X.base (ps ++ cp.map (·.2)) q scope fa cd (clFold X.env.cells scope.names []) A outer s H) body t ∧ t { nx := fun _ _ => False, rt := Q } ((vs ++ cv).map some) H)
    (hs : X.env.scope = sc := by rfl) (hN : X.N = N := by rfl)
    (hcp : ∀ p ∈ cp, N[p.1]? = some p.2 ∧ sc.names.lookup p.2 = some .cell ∧ scope.names.lookup p.2 = some .free := by decide +kernel)
    (free : ∀ y ∈ scope.names, y.2 = .free → sc.names.lookup y.1 = some .cell := by decide +kernel)
    (kind : scope.kind = .function := by rfl) (co : scope.isCoroutine = false := by rfl) (gen : scope.isGenerator = false := by rfl) (nocell : ∀ y ∈ scope.names, y.2 ≠ .cell := by decide +kernel) (par : ∀ x ∈ ps, scope.names.lookup x = some .local := by decide +kernel) (nd : (ps ++ cp.map (·.2)).Nodup := by decide +kernel) :
    LamFn X.prog X.w X.K X.mg X.base (k + 1) fa (spDef fa f q name params body scope (clFold X.env.cells scope.names []) ps.length spB) := by
  subst hs hN
  exact def_of L hcell hcv hcp free kind co gen nocell par nd hb hbody
theorem Nts.mapT {H H' : Hp} (h : ∀ a xs, H a = some (.tup xs) → H' a = some (.tup xs)) : ∀ {vs : List V} {ns : List Spot3}, Nts H vs ns → Nts H' vs ns
  | _, _, .nil => .nil
  | _, _, .cons ⟨a, e1, e2⟩ t => .cons ⟨a, e1, h _ _ e2⟩ (Nts.mapT h t)
theorem Nts.at {H : Hp} : ∀ {vs : List V} {ns : List Spot3} {i : Nat} {v : V}, Nts H vs ns → vs[i]? = some v → ∃ z, ns[i]? = some z ∧ ∃ a, v = .ref a ∧ H a = some (.tup [.str z.1, .str z.2.1, .int z.2.2])
  | _, _, _, _, .nil, e => by simp at e
  | _, _, 0, _, .cons r _, e => by simp at e; subst e; exact ⟨_, rfl, r⟩
  | _, _, i + 1, v, .cons _ t, e => by
    obtain ⟨z, h1, h2⟩ := Nts.at (i := i) (v := v) t (by simpa using e)
    exact ⟨z, by simpa using h1, h2⟩
theorem tabIn_same {q : Str} {H H' : Hp} {P : Addr} (s : Same H H') (h : TabIn q H P) : TabIn q H' P := by
  obtain ⟨S, e, r⟩ := h
  exact ⟨S, s _ _ e, fun c hc => let ⟨o, e1, e2⟩ := r c hc; ⟨o, s _ _ e1, e2⟩⟩
theorem lamAt_keepC {q : Str} {params : Arguments} {body : Expr} {scope : Scope} {clos : List (Str × Addr)} {H H' : Hp} {fa : Addr} (s : KeepC H H') (h : LamAt q params body scope clos H fa) : LamAt q params body scope clos H' fa := by
  obtain ⟨pm, c, ctv, o, e1, e2, e3⟩ := h
  exact ⟨pm, c, ctv, o, s _ _ (fun φ z => by cases z) e1, s _ _ (fun φ z => by cases z) e2, e3⟩
theorem defAt_keepC {q name : Str} {params : Arguments} {body : List Stmt} {scope : Scope} {clos : List (Str × Addr)} {H H' : Hp} {fa : Addr} (s : KeepC H H') (h : DefAt q name params body scope clos H fa) : DefAt q name params body scope clos H' fa := by
  obtain ⟨doc, pm, c, ctv, o, e1, e2, e3⟩ := h
  exact ⟨doc, pm, c, ctv, o, s _ _ (fun φ z => by cases z) e1, s _ _ (fun φ z => by cases z) e2, e3⟩
/-- what the look's body does: the cell is noted, its value told -/
def spBlook (G : Hp) (nl : Addr) (vw : Vw) : List V → Hp → VK → Prop := fun vs H Q => ∃ (t c : Str) (p : Int) (v : V) (as : List V), vs = [.str t, .str c, .int p] ∧ But nl G H ∧ H nl = some (.lst as) ∧ as.length < 1000 ∧ vw (t, c, p) = some v ∧
  ∀ H' a, But nl H H' → H' nl = some (.lst (as ++ [.ref a])) → H' a = some (.tup [.str t, .str c, .int p]) → Q v H'
def spBmany (G : Hp) (nl : Addr) (mn : Mn) : List V → Hp → VK → Prop := fun vs H Q => ∃ (t : Str) (m : Nat), vs = [.str t] ∧ But nl G H ∧ mn t = some m ∧ ∀ H', Same H H' → Q (.int (m : Int)) H'
theorem but_unl {f : Lend} {G H : Hp} {nl : Addr} (hf : ∀ b o, f b = some o → G b = none) (b : But nl (lend f G) H) : But nl G (unl f H) := fun c o n e => by
  have e2 : f c = none := by
    cases e3 : f c with
    | none => rfl
    | some ob => rw [hf c ob e3] at e; cases e
  rw [unl_no e2]
  exact b c o n (by rw [lend_no e2]; exact e)
theorem look_fn {P : Program} {w : World} {K : PySem.W.Frag} {mg : Str → Option Value} {base : Heap} {k : Nat} {q name : Str} {params : Arguments} {body : List Stmt} {scope : Scope} {clos : List (Str × Addr)} {fa : Addr} {f : Lend} {G : Hp} {nl : Addr} {vw : Vw} (hf : ∀ b o, f b = some o → G b = none) (hn : f nl = none) (la : DefAt q name params body scope clos G fa) (hnl : ∃ as, G nl = some (.lst as))
    (F : LamFn P w K mg base k fa (spDef fa f q name params body scope clos 3 (spBlook G nl vw))) : LamFn P w K mg base k fa (spLk (lend f G) nl vw) := by
  refine F.imp fun vs H Q E h => ?_
  obtain ⟨t, c, p, v, ns, rfl, b0, ⟨as, hn', hN⟩, hlen, hv, qq⟩ := h
  obtain ⟨as0, hn0⟩ := hnl
  have lf : ∀ b o, f b = some o → H b = some (Fz o) := fun b o e => b0 b _ (fun z => by rw [z, hn] at e; cases e) (lend_at e)
  have kp0 : KeepC G H ∨ True := .inr trivial
  have la' : DefAt q name params body scope clos H fa := by
    obtain ⟨doc, pm, c, ctv, o, e1, e2, e3⟩ := la
    have up : ∀ b u, G b = some (Fz u) → H b = some (Fz u) := fun b u e => by
      refine b0 b _ (fun z => by rw [z, hn0] at e; cases e) ?_
      cases e4 : f b with
      | none => rw [lend_no e4]; exact e
      | some ob => rw [hf b ob e4] at e; cases e
    exact ⟨doc, pm, c, ctv, o, up _ _ e1, up _ _ e2, e3⟩
  refine ⟨rfl, la', lf, t, c, p, v, as, rfl, but_unl hf b0, by rw [unl_no hn]; exact hn', by rw [hN.length]; omega, hv, fun H' a b' e1 e2 fr => ?_⟩
  have B : But nl H (lend f H') := fun b o nb e => by
    cases e3 : f b with
    | none => rw [lend_no e3]; exact b' b o nb (by rw [unl_no e3]; exact e)
    | some ob =>
      rw [lf b ob e3] at e
      rw [lend_at e3]; exact e
  have fa' : f a = none := by
    cases e3 : f a with
    | none => rfl
    | some ob => rw [fr a ob e3] at e2; cases e2
  have hnl' : lend f H' nl = some (.lst (as ++ [.ref a])) := by rw [lend_no hn]; exact e1
  have kp : Keep H (lend f H') := Keep.but B hn'
  exact qq _ B ⟨_, hnl', (hN.keep kp).snoc ⟨a, rfl, by rw [lend_no fa']; exact e2⟩⟩
theorem many_fn {P : Program} {w : World} {K : PySem.W.Frag} {mg : Str → Option Value} {base : Heap} {k : Nat} {q : Str} {params : Arguments} {body : Expr} {scope : Scope} {clos : List (Str × Addr)} {fa : Addr} {f : Lend} {G : Hp} {nl : Addr} {mn : Mn} (hf : ∀ b o, f b = some o → G b = none) (hn : f nl = none) (la : LamAt q params body scope clos G fa) (hnl : ∃ as, G nl = some (.lst as))
    (F : LamFn P w K mg base k fa (spLam fa f q params body scope clos 1 (spBmany G nl mn))) : LamFn P w K mg base k fa (spMn (lend f G) nl mn) := by
  refine F.imp fun vs H Q E h => ?_
  obtain ⟨t, m, rfl, b0, hv, qq⟩ := h
  obtain ⟨as0, hn0⟩ := hnl
  have lf : ∀ b o, f b = some o → H b = some (Fz o) := fun b o e => b0 b _ (fun z => by rw [z, hn] at e; cases e) (lend_at e)
  have la' : LamAt q params body scope clos H fa := by
    obtain ⟨pm, c, ctv, o, e1, e2, e3⟩ := la
    have up : ∀ b u, G b = some (Fz u) → H b = some (Fz u) := fun b u e => by
      refine b0 b _ (fun z => by rw [z, hn0] at e; cases e) ?_
      cases e4 : f b with
      | none => rw [lend_no e4]; exact e
      | some ob => rw [hf b ob e4] at e; cases e
    exact ⟨pm, c, ctv, o, up _ _ e1, up _ _ e2, e3⟩
  refine ⟨rfl, la', lf, t, m, rfl, but_unl hf b0, hv, fun H' s' fr => ?_⟩
  refine qq _ (fun b o e => ?_)
  cases e2 : f b with
  | none => rw [lend_no e2]; exact s' b o (by rw [unl_no e2]; exact e)
  | some ob =>
    rw [lf b ob e2] at e
    rw [lend_at e2]; exact e
theorem comp_listF {K : PySem.W.Frag} {cp : List (Nat × Str)} {tt : TT} {te : TE} {σ : St} {a : Addr} {xs : List V} {D : Addr} {Q : VK} {H1 : Hp} (Pv : Nat → List V → Hp → Prop) (h0 : Pv 0 [] (upd H1 D (.lst [])))
    (hl : ∀ i ys H, H D = some (.lst ys) → Pv i ys H → SqL K H a xs)
    (hs : ∀ i x ys H, xs[i]? = some x → H D = some (.lst ys) → Pv i ys H → tt (some x :: capσ cp σ) H fun b H4 => if b = true then te (some x :: capσ cp σ) H4 (Nxt D Pv i ys) else ∃ ys', H4 D = some (.lst ys') ∧ Pv (i + 1) ys' H4)
    (hd : ∀ ys H, H D = some (.lst ys) → Pv xs.length ys H → Q (.ref D) H) : tLoop cp tt te σ (Itl K a) D Q H1 := by
  refine ⟨fun i m H => m = xs.length - i ∧ i ≤ xs.length ∧ ∃ ys, H D = some (.lst ys) ∧ Pv i ys H, ⟨xs.length, by simp, Nat.zero_le _, [], upd_same, h0⟩, ?_⟩
  rintro i m H ⟨rfl, hi, ys, hD, p⟩
  by_cases hlt : i < xs.length
  · refine .inr ⟨⟨xs, xs[i], hl i ys H hD p, by simp [hlt]⟩, Nxt D Pv i ys, fun H4 => ∃ ys', H4 D = some (.lst ys') ∧ Pv (i + 1) ys' H4, fun y H5 ⟨h1, h2, h3⟩ => ⟨ys, xs.length - (i + 1), h1, h2, by omega, rfl, hlt, _, upd_same, h3⟩, fun H4 ⟨ys', h1, h2⟩ => ⟨xs.length - (i + 1), by omega, rfl, hlt, ys', h1, h2⟩, fun v H' y => ?_⟩
    obtain ⟨e, y⟩ := y
    subst e
    exact hs i v ys _ (y xs (hl i ys _ hD p)) hD p
  · have e : i = xs.length := by omega
    subst e
    exact .inl ⟨⟨xs, hl _ ys H hD p, Nat.le_refl _⟩, hd ys H hD p⟩
section
variable {K : PySem.W.Frag}
/-- the data of what a cell holds -/
theorem WV.dt {H : Hp} {v : V} (h : WV H v) : ∃ d, Dt K H v d ∧ d.canLay0 = true ∧ d.depth ≤ 64 ∧ PyData.eqv d d = true ∧ shortD d ∧ ((∃ i, v = .int i ∧ d = .int i) ∨ ∃ a z, v = .ref a ∧ H a = some (.tup [.str ("fault" : Str), .str z]) ∧ d = .tuple [.str "fault", .str z] ∧ faultD d = true) := by
  rcases h with ⟨i, rfl⟩ | ⟨a, z, rfl, h2, h3⟩
  · exact ⟨.int i, .int i, rfl, (show 0 ≤ 64 by decide), (by simp [PyData.eqv]), shortD_not (by intro z; cases z), .inl ⟨i, rfl, rfl⟩⟩
  · have lz := Nl.lay h3
    refine ⟨.tuple [.str "fault", .str z], .tup (SqT.of h2) (.cons (.str _) (.cons (.str _) .nil)), ?_, (show 1 ≤ 64 by decide), ?_, shortD_tup ?_, .inr ⟨a, z, rfl, h2, rfl, ?_⟩⟩
    · have l1 : PyData.canLay0 (.str ("fault" : Str)) = true := by decide +kernel
      simp only [PyData.canLay0, PyData.canLayAll0, Bool.and_true, Bool.and_eq_true] at l1 lz ⊢
      exact ⟨l1, lz⟩
    · simp [PyData.eqv, PyData.eqvAll]
    · intro e he
      simp only [List.mem_cons, List.not_mem_nil, or_false] at he
      rcases he with rfl | rfl
      · exact shortS_str (by decide)
      · exact shortS_str (by have := h3.2.1; omega)
    · show (decide (("fault" : Str) = "fault") && nameD (.str z)) = true
      rw [decide_eq_true rfl, Bool.true_and]
      exact Nl.name h3
end
/-! ### the rows of a group -/
section
variable {val : Spot3 → V} {own : V} {t k n : Str}
end
end My

namespace My
open PySem L2
/-! ### texts by their signs -/
abbrev figT : Str := "0123456789"
def inF (c : Nat) : Bool := !(Builtin.Str.occurrences figT ⟨#[c]⟩ 0 figT.length 1).isEmpty
theorem inF_lt : ∀ c, c < 128 → inF c = (decide (48 ≤ c) && decide (c ≤ 57)) := by decide +kernel
theorem inL_lt : ∀ c, c < 128 → inL c = (decide (97 ≤ c) && decide (c ≤ 122)) := by decide +kernel
def okF (ds : List Nat) : Bool := decide ((1 : Int) ≤ (ds.length : Int)) && decide ((ds.length : Int) ≤ 60) && ds.all inF
def numL (cs : List Nat) : Bool := if cs.head? = some 45 then okF (cs.drop 1) && !decide ((cs.drop 1).head? = some 48) else okF cs && (decide (cs = [48]) || !decide (cs.head? = some 48))
theorem name_no {ws : List Nat} {c : Nat} (h : c ∈ ws) (hc : inL c = false) : nameS ⟨ws.toArray⟩ = false := by
  unfold nameS
  have : (⟨ws.toArray⟩ : Str).cps.toList.all inL = false := List.all_eq_false.mpr ⟨c, by simpa using h, by rw [hc]; decide⟩
  rw [this, Bool.and_false]
/-- figures of a number over 0 -/
def Fig (ds : List Nat) : Prop := 1 ≤ ds.length ∧ ds.length ≤ 60 ∧ (∀ c ∈ ds, 48 ≤ c ∧ c ≤ 57) ∧ ds.head? ≠ some 48
theorem Fig.ok {ds : List Nat} (h : Fig ds) : okF ds = true := by
  obtain ⟨h1, h2, h3, _⟩ := h
  unfold okF
  have a : ds.all inF = true := List.all_eq_true.mpr fun c hc => by
    obtain ⟨g1, g2⟩ := h3 c hc
    rw [inF_lt c (by omega), decide_eq_true g1, decide_eq_true g2]
    rfl
  rw [a, decide_eq_true (by omega), decide_eq_true (by omega)]
  rfl
theorem Fig.head {ds : List Nat} (h : Fig ds) : ∃ c r, ds = c :: r ∧ 49 ≤ c ∧ c ≤ 57 := by
  obtain ⟨h1, h2, h3, h4⟩ := h
  cases ds with
  | nil => simp at h1
  | cons c r =>
    obtain ⟨g1, g2⟩ := h3 c (by simp)
    have : c ≠ 48 := fun e => h4 (by rw [e]; rfl)
    exact ⟨c, r, rfl, by omega, g2⟩
theorem Fig.num {ds : List Nat} (h : Fig ds) : numL ds = true := by
  obtain ⟨c, r, e, g1, g2⟩ := h.head
  unfold numL
  rw [if_neg (by rw [e]; simp; omega), h.ok, decide_eq_false h.2.2.2]
  simp
theorem Fig.neg {ds : List Nat} (h : Fig ds) : numL (45 :: ds) = true := by
  unfold numL
  rw [if_pos (show (45 :: ds).head? = some 45 from rfl), show (List.drop 1 (45 :: ds)) = ds from rfl, h.ok, decide_eq_false h.2.2.2]
  rfl
theorem num_zero : numL [48] = true := by decide +kernel
/-! ### the figures of a number -/
open PySem.NumText
def digL (n : Nat) : List Nat := if n = 0 then [] else (Nat.toDigits 10 n).map Char.toNat
theorem digL_step {n : Nat} (h : 0 < n) : digL n = digL (n / 10) ++ [48 + n % 10] := by
  have hd : ∀ d : Nat, d < 10 → [(Nat.digitChar d).toNat] = [48 + d] := by decide
  unfold digL
  rw [if_neg (by omega)]
  by_cases hn : n < 10
  · rw [if_pos (by omega), Nat.toDigits_of_lt_base hn, Nat.mod_eq_of_lt hn]
    exact hd n hn
  · rw [if_neg (by omega)]
    have hm : n % 10 < 10 := Nat.mod_lt n (by decide)
    have t : Nat.toDigits 10 (n / 10) ++ Nat.toDigits 10 (n % 10) = Nat.toDigits 10 (10 * (n / 10) + n % 10) := Nat.toDigits_append_toDigits (by decide) (by omega) hm
    rw [Nat.div_add_mod] at t
    rw [← t, List.map_append, Nat.toDigits_of_lt_base hm]
    congr 1
    exact hd _ hm
theorem digL_fig : ∀ (k n : Nat), 0 < n → n < 10 ^ k → 1 ≤ (digL n).length ∧ (digL n).length ≤ k ∧ (∀ c ∈ digL n, 48 ≤ c ∧ c ≤ 57) ∧ (digL n).head? ≠ some 48 ∧ digitsVal (digL n) = n
  | 0, n, h0, h1 => by simp at h1; omega
  | k + 1, n, h0, h1 => by
    have hm : n % 10 < 10 := Nat.mod_lt n (by decide)
    rw [digL_step h0]
    by_cases hn : n / 10 = 0
    · rw [hn, show digL 0 = [] from rfl]
      have e : n % 10 = n := Nat.mod_eq_of_lt (by omega)
      rw [e]
      refine ⟨by simp, by simp, fun c hc => by simp at hc; omega, by simp; omega, ?_⟩
      show 0 * 10 + (48 + n - 48) = n
      omega
    · have hlt : n / 10 < 10 ^ k := by
        rw [Nat.pow_succ] at h1
        omega
      obtain ⟨g1, g2, g3, g4, g5⟩ := digL_fig k (n / 10) (by omega) hlt
      refine ⟨by simp, by simp; omega, fun c hc => ?_, ?_, ?_⟩
      · rcases List.mem_append.mp hc with h | h
        · exact g3 c h
        · simp at h; omega
      · cases e : digL (n / 10) with
        | nil => rw [e] at g1; simp at g1
        | cons c r => rw [e] at g4; simpa using g4
      · rw [digitsVal_snoc, g5]
        omega
theorem fig_of {n : Nat} (h0 : 0 < n) (h1 : n < 10 ^ 60) : Fig (digL n) := by
  obtain ⟨g1, g2, g3, g4, _⟩ := digL_fig 60 n h0 h1
  exact ⟨g1, g2, g3, g4⟩
/-- how a whole number is written -/
def wrL (i : Int) : List Nat := if i = 0 then [48] else if i < 0 then 45 :: digL i.natAbs else digL i.natAbs
theorem wr_toString (i : Int) : (PySem.Str.ofString (toString i)).cps.toList = wrL i := by
  unfold wrL
  by_cases h0 : i = 0
  · subst h0
    decide +kernel
  · rw [if_neg h0]
    cases i with
    | ofNat m =>
      have hm : m ≠ 0 := fun e => h0 (by rw [e]; rfl)
      rw [if_neg (by simp)]
      have e : (Int.ofNat m).natAbs = m := rfl
      rw [e]
      unfold digL
      rw [if_neg hm]
      exact PySem.W.KIN.signs_num m
    | negSucc m =>
      rw [if_pos (Int.negSucc_lt_zero m)]
      have e : (Int.negSucc m).natAbs = m + 1 := rfl
      rw [e]
      unfold digL
      rw [if_neg (by omega), PyProof.Rows.signs_ofString]
      show ("-" ++ Nat.repr (m + 1)).toList.map Char.toNat = _
      rw [String.toList_append, List.map_append, Nat.toList_repr]
      rfl
theorem wr_num {i : Int} (h1 : -(10 ^ 60) < i) (h2 : i < 10 ^ 60) : numL (wrL i) = true := by
  have hn : i ≠ 0 → i.natAbs < 10 ^ 60 := fun _ => by omega
  unfold wrL
  split
  · exact num_zero
  · rename_i h0
    split
    · exact (fig_of (by omega) (hn h0)).neg
    · exact (fig_of (by omega) (hn h0)).num
end My

namespace My
open PySem L2
section
variable {P : Program} {w : World} {K : PySem.W.Frag} {mg : Str → Option Value} {base : Heap}
def spWrites : Sp := fun vs H Q _ => ∃ z : Str, vs = [.str z] ∧ z.length ≤ 1000 ∧ ∀ H', Same H H' → Q (.bl (numL z.cps.toList)) H'
theorem sc_writes_number : FnScope ["word", "figures"] ["word"] (defScope s_writes_number) := ⟨rfl, rfl, rfl, by decide +kernel, rfl, by decide +kernel, by decide +kernel⟩
theorem str_eq_list (z : Str) (cs : List Nat) : decide (V.str z = V.str ⟨cs.toArray⟩) = decide (z.cps.toList = cs) := by
  by_cases h : z.cps.toList = cs
  · rw [decide_eq_true h]
    refine decide_eq_true (congrArg V.str (str_ext ?_))
    rw [h]
  · rw [decide_eq_false h]
    exact decide_eq_false fun e => h (by rw [V.str.inj e])
theorem k_writes_number (T : Tops K mg) : Known P w K mg base CX0 1 "writes_number" ["word"] spWrites := by
  refine T.d_writes_number.known sc_writes_number (fun _ _ _ _ _ _ us hl => match us, hl with | [_], _ => rfl) (fun vs H Q E h => ?_) (fun f cdv A outer s H vs Q E hr h => ?_)
  · obtain ⟨z, rfl, _⟩ := h
    rfl
  · obtain ⟨z, rfl, hz, q⟩ := h
    have rest : ∃ t, PSs (cxOf CX0 P w K mg base ["word", "figures"] "writes_number" (defScope s_writes_number) f cdv A outer s H E).nox ((defBody s_writes_number).drop 1) t ∧
        ∀ y : Str, y.length ≤ 1000 → numL z.cps.toList = (okF y.cps.toList && (decide (z.cps.toList = [48]) || !decide (y.cps.toList.head? = some 48))) → t { nx := fun _ H' => Q .non H', rt := Q } [some (.str z), some (.str y)] H := by
      refine ⟨_, (pss_cons (ps_if (PW.pt (pw_or (pt_not (pt_chain op_le op_le pe_int (pe_callB call_len rfl T.len b_len (pa_cons (pv 1) pa_nil)) (pe_gI T.g_MOST_FIGURES))) (pw_or1 (pt_not (pt_val (pe_callB (call_all rfl) rfl T.all b_all (pa_cons (pe_comp caps0 rfl rfl (by decide) (pi_str (pv 1)) (fun _ _ _ _ _ => pts_nil) (fun _ _ _ _ _ => (pe_cmpR op_in_str (pv 0) (pe_gS T.g_FIGURES) (by with_unfolding_all rfl)))) pa_nil)) (fun _ => rfl)))))) (pss_one (ps_ret pe_bl)) pss_nil)
        (pss_one (ps_ret (pe_or (pe_cmpR op_eq (pv 0) pe_str (nomark _)) (pe_one (pe_cmpR op_ne (pe_ix ix_str (pv 1) pe_int (fun _ _ => rfl)) pe_str (nomark _))))))), fun t ht e => ?_⟩
      have no : okF t.cps.toList = false → ∀ H', Same H H' → Q (.bl false) H' := fun h H' s' => by
        have := q H' s'
        rw [e, h, Bool.false_and] at this
        exact this
      have el : (t.cps.toList.length : Int) = (t.length : Int) := by rw [len_list]
      refine ⟨_, rfl, _, _, rfl, ⟨sl ht, rfl⟩, _, _, rfl, rfl, _, rfl, ?_⟩
      refine ite2 (fun h1 => ?_) (fun h1 => ?_)
      · refine ⟨_, _, rfl, rfl, _, rfl, ?_⟩
        refine ite2 (fun h2 => ?_) (fun h2 => ?_)
        · refine no ?_ H (Same.refl H)
          unfold okF
          rw [el]
          have : decide ((t.length : Int) ≤ 60) = false := by simpa using h2
          rw [this, Bool.and_false, Bool.false_and]
        · have h8 : t.cps.size ≤ 60 := by
            have : (t.length : Int) ≤ 60 := by simpa using h2
            show t.length ≤ 60
            omega
          refine ⟨_, rfl, t, rfl, fun D hD => ?_⟩
          refine comp_str (x := t) (fun i ys H2 => ys = (t.cps.toList.take i).map (fun c => V.bl (inF c)) ∧ Same H H2) ⟨rfl, Same.new hD⟩ ?_ ?_
          · rintro i c ys H2 hc h2D ⟨rfl, s2⟩
            have hi : i < t.cps.size := (Array.getElem?_eq_some_iff.mp hc).1
            refine ⟨_, rfl, _, _, rfl, rfl, h2D, ?_, ?_, s2.on hD⟩
            · rw [List.length_map, List.length_take, Array.length_toList]
              exact small1000 (by omega)
            · rw [List.take_add_one, List.map_append, Array.getElem?_toList, hc]
              rfl
          · rintro ys H2 h2D ⟨rfl, s2⟩
            refine ⟨D, t.cps.toList.map inF, rfl, SqL.of ?_, ?_⟩
            · rw [h2D, List.take_of_length_le (by simp), List.map_map]
              rfl
            · have ek : okF t.cps.toList = (t.cps.toList.map inF).all id := by
                unfold okF
                rw [el]
                have e1 : decide ((1 : Int) ≤ t.length) = true := h1
                have e2 : decide ((t.length : Int) ≤ 60) = true := by simpa using h2
                rw [e1, e2, Bool.true_and, Bool.true_and, List.all_map]
                rfl
              rw [← ek]
              refine ⟨_, rfl, ite2 (fun h3 => ?_) (fun h3 => ?_)⟩
              · exact no (by simpa using h3) H2 s2
              · have h3 : okF t.cps.toList = true := by simpa using h3
                have hne : 1 ≤ t.cps.toList.length := by
                  have : (1 : Int) ≤ (t.length : Int) := by simpa using h1
                  omega
                obtain ⟨c, r, hc⟩ : ∃ c r, t.cps.toList = c :: r := by
                  cases hh : t.cps.toList with
                  | nil => rw [hh] at hne; simp at hne
                  | cons c r => exact ⟨c, r, rfl⟩
                have qq := q H2 s2
                rw [e, h3, Bool.true_and] at qq
                refine ⟨_, rfl, rfl, _, rfl, ?_⟩
                have e48 : decide (V.str z = V.str ("0" : Str)) = decide (z.cps.toList = [48]) := str_eq_list z [48]
                rw [e48]
                refine ite2 (fun h4 => ?_) (fun h4 => ?_)
                · rw [h4, Bool.true_or] at qq
                  exact qq
                · have h4 : decide (z.cps.toList = [48]) = false := by simpa using h4
                  rw [h4, Bool.false_or] at qq
                  refine ⟨_, rfl, t, 0, c, rfl, rfl, sl ht, ?_, rfl, ?_⟩
                  · rw [hc]; exact atI_nat (j := 0) rfl
                  · have e49 : decide (V.str ⟨#[c]⟩ = V.str ("0" : Str)) = decide (t.cps.toList.head? = some 48) := by
                      rw [hc]
                      by_cases h : c = 48
                      · rw [h, decide_eq_true (show (48 :: r).head? = some 48 from rfl)]
                        decide +kernel
                      · rw [decide_eq_false (p := (c :: r).head? = some 48) (by simpa using h)]
                        refine decide_eq_false fun e => h ?_
                        have := congrArg (fun s : Str => s.cps.toList) (V.str.inj e)
                        have e' : ([c] : List Nat) = [48] := this
                        simpa using e'
                    rw [← e49] at qq
                    exact qq
      · refine ⟨_, rfl, ?_⟩
        refine iteT ?_
        refine no ?_ H (Same.refl H)
        unfold okF
        rw [el]
        have : decide ((1 : Int) ≤ t.length) = false := by simpa using h1
        rw [this, Bool.false_and, Bool.false_and]
    obtain ⟨t, ht, qt⟩ := rest
    refine ⟨_, pss_cons (ps_set (i := 1) sc_writes_number.nd rfl (Or.inl rfl) (pe_ifExp (pt_val (pe_bm PySem.F.plainAttrs_str PySem.F.slot_str_startswith PySem.F.type_str_startswith mt_starts (pv 0) (pa_cons pe_str pa_nil)) (fun _ => rfl)) (pe_slice sl_str (pv 0) (po_some pe_int) po_none) (pv 0))) ht, ?_⟩
    refine ⟨_, rfl, rfl, z, "-", rfl, rfl, _, rfl, ?_⟩
    have e45 : Txt.startswith z ("-" : Str) = decide (z.cps.toList.head? = some 45) := starts_one z 45
    rw [e45]
    refine ite2 (fun h => ?_) (fun h => ?_)
    · have h : z.cps.toList.head? = some 45 := of_decide_eq_true h
      have h1 : 1 ≤ z.length := by
        rw [len_list]
        cases hh : z.cps.toList with
        | nil => rw [hh] at h; cases h
        | cons c r => simp
      refine ⟨_, rfl, 1, rfl, z, rfl, sl hz, qt _ ?_ ?_⟩
      · exact Nat.le_trans (Txt.slice_le z _ _) hz
      · rw [slice1_list z h1]
        unfold numL
        have h48 : decide (z.cps.toList = [48]) = false := decide_eq_false fun e => by rw [e] at h; cases h
        rw [if_pos h, h48, Bool.false_or]
    · have h : ¬ z.cps.toList.head? = some 45 := fun e => h (decide_eq_true e)
      refine ⟨_, rfl, qt z hz ?_⟩
      unfold numL
      rw [if_neg h]
/-! ### a fault, a value's text -/
end
end My

namespace My
open PySem L2
abbrev F60 : Int := 10 ^ (60 : Int).toNat
theorem F60_pos : (0 : Int) < F60 := by decide +kernel
theorem log_of {n : Int} (h1 : -F60 < n) (h2 : n < F60) : n.natAbs.log2 < 1920 := by
  have hb : n.natAbs < 2 ^ 1920 := by
    have e : F60 = ((10 ^ 60 : Nat) : Int) := by decide +kernel
    have e2 : (10 ^ 60 : Nat) < 2 ^ 1920 := by decide +kernel
    rw [e] at h1 h2
    omega
  by_cases h0 : n.natAbs = 0
  · rw [h0]; decide
  · exact (Nat.log2_lt h0).mpr hb
theorem numD_far {n : Int} (h : F60 ≤ n ∨ n ≤ -F60) : numD (.int n) = false := by
  have pos := F60_pos
  show decide ((if n < 0 then -n else n) < F60) = false
  generalize F60 = F at *
  rw [decide_eq_false_iff_not]
  split <;> omega
theorem numD_near {n : Int} (h1 : -F60 < n) (h2 : n < F60) : numD (.int n) = true := by
  show decide ((if n < 0 then -n else n) < F60) = true
  generalize F60 = F at *
  rw [decide_eq_true_eq]
  split <;> omega
def bnd (F : Int) (n : Int) : Prop := -F < n ∧ n < F
theorem numD_of {n : Int} (h : bnd F60 n) : numD (.int n) = true := numD_near h.1 h.2
theorem numD_no {n : Int} (h : ¬ bnd F60 n) : numD (.int n) = false := numD_far (by
  unfold bnd at h
  generalize F60 = F at *
  omega)
/-! ### what the words of a group tell -/
theorem short_int {n : Int} : shortD (.int n) := shortD_not (by intro z; cases z)
theorem value_int {n : Int} (h : numD (.int n) = true) : valueD (.int n) = true := by
  show (numD (.int n) || faultD (.int n)) = true
  rw [h]; rfl
theorem wr_reads {i : Int} {z : Str} (h1 : -F60 < i) (h2 : i < F60) (hz : z.cps.toList = wrL i) : PySem.intText? z = some i ∧ z.length ≤ 61 := by
  have e : F60 = ((10 ^ 60 : Nat) : Int) := by decide +kernel
  have nb : i.natAbs < 10 ^ 60 := by
    rw [e] at h1 h2
    generalize (10 ^ 60 : Nat) = F at *
    omega
  have zl := len_list z
  unfold wrL at hz
  by_cases h0 : i = 0
  · rw [if_pos h0] at hz
    have hl : z.length = 1 := by rw [zl, hz]; rfl
    refine ⟨?_, by omega⟩
    have := intText_digits (x := z) (by rw [hz]; intro c hc; simp at hc; omega) (by rw [hz]; simp) (by omega)
    rw [this, hz, h0]
    rfl
  · rw [if_neg h0] at hz
    obtain ⟨g1, g2, g3, g4, g5⟩ := digL_fig 60 i.natAbs (by omega) nb
    by_cases hn : i < 0
    · rw [if_pos hn] at hz
      have hl : z.length = (digL i.natAbs).length + 1 := by rw [zl, hz]; rfl
      refine ⟨?_, by omega⟩
      have := intText_neg (x := z) hz g3 (by intro e; rw [e] at g1; simp at g1) (by omega)
      rw [this, g5]
      congr 1
      omega
    · rw [if_neg hn] at hz
      have hl : z.length = (digL i.natAbs).length := by rw [zl, hz]
      refine ⟨?_, by omega⟩
      have := intText_digits (x := z) (by rw [hz]; exact g3) (by rw [hz]; intro e; rw [e] at g1; simp at g1) (by omega)
      rw [this, hz, g5]
      congr 1
      omega
end My

namespace My
open PySem L2
/-! ### reckonings: words with signs ahead -/
abbrev sgns : List Str := ["+", "-", "*", "/", ":", "<", "="]
/-- a word that writes the number i -/
def NumW (z : Str) (i : Int) : Prop := bnd F60 i ∧ z.cps.toList = wrL i
def Opd (z : Str) : Prop := Nl z ∨ ∃ i, NumW z i
theorem sgn_no : ∀ z ∈ sgns, nameS z = false ∧ z.length = 1 ∧ (32 : Nat) ∉ z.cps.toList ∧ ∀ c ∈ z.cps.toList, c = 43 ∨ c = 45 ∨ c = 42 ∨ c = 47 ∨ c = 58 ∨ c = 60 ∨ c = 61 := by decide +kernel
theorem NumW.num {z : Str} {i : Int} (h : NumW z i) : numL z.cps.toList = true := by
  rw [h.2]
  have e : F60 = 10 ^ 60 := by decide +kernel
  exact wr_num (by rw [← e]; exact h.1.1) (by rw [← e]; exact h.1.2)
theorem NumW.reads {z : Str} {i : Int} (h : NumW z i) : PySem.intText? z = some i ∧ z.length ≤ 61 := wr_reads h.1.1 h.1.2 h.2
theorem wr_chars {i : Int} (h : bnd F60 i) : (∀ c ∈ wrL i, c = 45 ∨ (48 ≤ c ∧ c ≤ 57)) ∧ ∃ d ∈ wrL i, 48 ≤ d ∧ d ≤ 57 := by
  have e : F60 = ((10 ^ 60 : Nat) : Int) := by decide +kernel
  have nb : i.natAbs < 10 ^ 60 := by
    have h1 := h.1
    have h2 := h.2
    rw [e] at h1 h2
    generalize (10 ^ 60 : Nat) = F at *
    omega
  unfold wrL
  by_cases h0 : i = 0
  · rw [if_pos h0]
    exact ⟨fun c hc => by rw [List.mem_singleton.mp hc]; exact .inr ⟨by decide, by decide⟩, 48, by simp, by decide, by decide⟩
  · rw [if_neg h0]
    obtain ⟨g1, _, g3, _, _⟩ := digL_fig 60 i.natAbs (by omega) nb
    obtain ⟨d, hd⟩ : ∃ d, d ∈ digL i.natAbs := List.exists_mem_of_length_pos (by omega)
    by_cases hn : i < 0
    · rw [if_pos hn]
      refine ⟨fun c hc => ?_, d, List.mem_cons_of_mem _ hd, g3 d hd⟩
      rcases List.mem_cons.mp hc with e | hc
      · exact .inl e
      · exact .inr (g3 c hc)
    · rw [if_neg hn]
      exact ⟨fun c hc => .inr (g3 c hc), d, hd, g3 d hd⟩
theorem NumW.nn {z : Str} {i : Int} (h : NumW z i) : nameS z = false := by
  obtain ⟨_, d, hd, h1, h2⟩ := wr_chars h.1
  have e : z = ⟨(wrL i).toArray⟩ := str_ext (by rw [h.2])
  rw [e]
  refine name_no hd ?_
  rw [inL_lt d (by omega)]
  have : ¬ 97 ≤ d := by omega
  rw [decide_eq_false this, Bool.false_and]
theorem NumW.ns {z : Str} {i : Int} (h : NumW z i) : z ∉ sgns := fun m => by
  obtain ⟨_, d, hd, h1, h2⟩ := wr_chars h.1
  rw [← h.2] at hd
  have := (sgn_no z m).2.2.2 d hd
  omega
theorem NumW.nb {z : Str} {i : Int} (h : NumW z i) : (32 : Nat) ∉ z.cps.toList := fun m => by
  rw [h.2] at m
  rcases (wr_chars h.1).1 32 m with e | ⟨e, _⟩
  · exact absurd e (by decide)
  · exact absurd e (by decide)
theorem Nl.is {z : Str} (h : Nl z) : nameS z = true := h.name
theorem Nl.ns {z : Str} (h : Nl z) : z ∉ sgns := fun m => by
  have := (sgn_no z m).1
  rw [h.is] at this
  cases this
theorem Opd.ns {z : Str} (h : Opd z) : z ∉ sgns := by
  rcases h with h | ⟨i, h⟩
  · exact h.ns
  · exact h.ns
theorem Opd.len {z : Str} (h : Opd z) : z.length ≤ 61 := by
  rcases h with h | ⟨i, h⟩
  · have := h.2.1; omega
  · exact h.reads.2
/-- the words, begun where n are lacking, leave m lacking -/
def Pre : List Str → Nat → Nat → Prop
  | [], n, m => n = m
  | z :: r, n, m => 0 < n ∧ ((z ∈ sgns ∧ Pre r (n + 1) m) ∨ (Opd z ∧ Pre r (n - 1) m))
theorem Pre.sgn {z : Str} (hz : z ∈ sgns) : ∀ {zs : List Str} {n m : Nat}, Pre zs n m → 0 < m → Pre (zs ++ [z]) n (m + 1)
  | [], n, m, h, h0 => by
    have e : n = m := h
    subst e
    exact ⟨h0, .inl ⟨hz, rfl⟩⟩
  | y :: r, n, m, h, h0 => ⟨h.1, h.2.imp (fun q => ⟨q.1, Pre.sgn hz q.2 h0⟩) (fun q => ⟨q.1, Pre.sgn hz q.2 h0⟩)⟩
theorem Pre.opd {z : Str} (hz : Opd z) : ∀ {zs : List Str} {n m : Nat}, Pre zs n m → 0 < m → Pre (zs ++ [z]) n (m - 1)
  | [], n, m, h, h0 => by
    have e : n = m := h
    subst e
    exact ⟨h0, .inr ⟨hz, rfl⟩⟩
  | y :: r, n, m, h, h0 => ⟨h.1, h.2.imp (fun q => ⟨q.1, Pre.opd hz q.2 h0⟩) (fun q => ⟨q.1, Pre.opd hz q.2 h0⟩)⟩
theorem Pre.all : ∀ {zs : List Str} {n m : Nat}, Pre zs n m → ∀ z ∈ zs, z ∈ sgns ∨ Opd z
  | [], _, _, _, z, hz => by cases hz
  | y :: r, n, m, h, z, hz => by
    rcases List.mem_cons.mp hz with rfl | hz
    · exact h.2.imp (fun q => q.1) (fun q => q.1)
    · rcases h.2 with q | q
      · exact Pre.all q.2 z hz
      · exact Pre.all q.2 z hz
/-! ### what comes -/
abbrev great : PyData := .tuple [.str "fault", .str "great"]
abbrev nought : PyData := .tuple [.str "fault", .str "nought"]
def opZ (s : Str) (x y : Int) : Int := if s = "+" then x + y else if s = "-" then x - y else if s = "*" then x * y else if s = "/" then x.fdiv y else if s = ":" then x.fmod y else if s = "<" then (if x < y then 1 else 0) else (if x = y then 1 else 0)
def bndD (n : Int) : PyData := if numD (.int n) then .int n else great
def joinD (s : Str) : PyData → PyData → PyData
  | .int x, .int y => if (s = "/" ∨ s = ":") ∧ y = 0 then nought else bndD (opZ s x y)
  | .int _, b => b
  | a, _ => a
def Rv (d : PyData) : Prop := (∃ i, d = .int i ∧ bnd F60 i) ∨ d = great ∨ d = nought
theorem bnd_of {n : Int} (h : numD (.int n) = true) : bnd F60 n := by
  by_cases c : bnd F60 n
  · exact c
  · rw [numD_no c] at h; cases h
theorem Rv.bnd {n : Int} : Rv (bndD n) := by
  unfold bndD
  by_cases h : numD (.int n) = true
  · rw [if_pos h]; exact .inl ⟨n, rfl, bnd_of h⟩
  · rw [if_neg h]; exact .inr (.inl rfl)
theorem Rv.join {s : Str} {a b : PyData} (ha : Rv a) (hb : Rv b) : Rv (joinD s a b) := by
  rcases ha with ⟨i, rfl, hi⟩ | rfl | rfl
  · rcases hb with ⟨j, rfl, hj⟩ | rfl | rfl
    · show Rv (if (s = "/" ∨ s = ":") ∧ j = 0 then nought else bndD (opZ s i j))
      split
      · exact .inr (.inr rfl)
      · exact Rv.bnd
    · exact .inr (.inl rfl)
    · exact .inr (.inr rfl)
  · exact .inr (.inl rfl)
  · exact .inr (.inr rfl)
structure RvF (d : PyData) : Prop where
  lay : d.canLay0 = true
  dep : d.depth ≤ 62
  sh : shortD d
  val : valueD d = true
  eq : PyData.eqv d d = true
theorem fault_short (y : Str) (h : y.length ≤ 1000) : shortD (.tuple [.str "fault", .str y]) := shortD_tup (by
  intro e he
  simp only [List.mem_cons, List.not_mem_nil, or_false] at he
  rcases he with rfl | rfl
  · exact shortS_str (by decide)
  · exact shortS_str h)
theorem Rv.fs {d : PyData} (h : Rv d) : RvF d := by
  rcases h with ⟨i, rfl, hi⟩ | rfl | rfl
  · exact ⟨rfl, (show 0 ≤ 62 by decide), short_int, value_int (numD_of hi), by simp [PyData.eqv]⟩
  · exact ⟨by decide +kernel, (show 1 ≤ 62 by decide), fault_short _ (by decide), by decide +kernel, by simp [PyData.eqv, PyData.eqvAll]⟩
  · exact ⟨by decide +kernel, (show 1 ≤ 62 by decide), fault_short _ (by decide), by decide +kernel, by simp [PyData.eqv, PyData.eqvAll]⟩
def wordZ (env : Str → Int) (z : Str) : Int := if nameS z = true then env z else (PySem.intText? z).getD 0
def stepD (env : Str → Int) (z : Str) (q : List PyData) : List PyData := if z ∈ sgns then (match q with
  | a :: b :: q => joinD z a b :: q
  | q => q) else .int (wordZ env z) :: q
/-- the pile behind the words, the last one first -/
def pileOf (env : Str → Int) : List Str → List PyData
  | [] => []
  | z :: r => stepD env z (pileOf env r)
theorem pile_ok {env : Str → Int} : ∀ {zs : List Str} {n : Nat}, Pre zs n 0 → (∀ z ∈ zs, Nl z → bnd F60 (env z)) → (pileOf env zs).length = n ∧ ∀ d ∈ pileOf env zs, Rv d
  | [], n, h, _ => by
    have e : n = 0 := h
    subst e
    exact ⟨rfl, fun d hd => by cases hd⟩
  | z :: r, n, h, hb => by
    obtain ⟨h0, h⟩ := h
    rcases h with ⟨hz, h⟩ | ⟨hz, h⟩
    · obtain ⟨l, q⟩ := pile_ok h fun z hz => hb z (List.mem_cons_of_mem _ hz)
      show (stepD env z (pileOf env r)).length = n ∧ ∀ d ∈ stepD env z (pileOf env r), Rv d
      unfold stepD
      rw [if_pos hz]
      match hp : pileOf env r, l, q with
      | [], l, _ => simp at l
      | [_], l, _ => simp at l; omega
      | a :: b :: t, l, q =>
        refine ⟨by simp at l ⊢; omega, fun d hd => ?_⟩
        rcases List.mem_cons.mp hd with rfl | hd
        · exact Rv.join (q a (by simp)) (q b (by simp))
        · exact q d (by simp [hd])
    · obtain ⟨l, q⟩ := pile_ok h fun z hz => hb z (List.mem_cons_of_mem _ hz)
      show (stepD env z (pileOf env r)).length = n ∧ ∀ d ∈ stepD env z (pileOf env r), Rv d
      unfold stepD
      rw [if_neg hz.ns]
      refine ⟨by rw [List.length_cons, l]; omega, fun d hd => ?_⟩
      rcases List.mem_cons.mp hd with rfl | hd
      · refine .inl ⟨_, rfl, ?_⟩
        unfold wordZ
        rcases hz with hz | ⟨i, hz⟩
        · rw [if_pos hz.is]; exact hb z List.mem_cons_self hz
        · rw [hz.nn, if_neg Bool.false_ne_true, hz.reads.1]; exact hz.1
      · exact q d hd
/-! ### each once -/
def onceS (zs : List Str) : List Str := zs.foldl (fun acc z => if z ∈ acc then acc else acc ++ [z]) []
theorem onceS_snoc (zs : List Str) (z : Str) : onceS (zs ++ [z]) = if z ∈ onceS zs then onceS zs else onceS zs ++ [z] := by
  unfold onceS
  rw [List.foldl_append]
  rfl
theorem onceS_at {zs : List Str} : ∀ i, i ≤ zs.length → (onceS (zs.take i)).Nodup ∧ (∀ z, z ∈ onceS (zs.take i) ↔ z ∈ zs.take i) ∧ (onceS (zs.take i)).length ≤ i
  | 0, _ => ⟨by simp [onceS], fun z => by simp [onceS], by simp [onceS]⟩
  | i + 1, h => by
    obtain ⟨h1, h2, h3⟩ := onceS_at (zs := zs) i (by omega)
    have hz : zs[i]? = some zs[i] := List.getElem?_eq_getElem (by omega)
    have e : zs.take (i + 1) = zs.take i ++ [zs[i]] := by rw [List.take_add_one, hz]; rfl
    rw [e, onceS_snoc]
    by_cases m : zs[i] ∈ onceS (zs.take i)
    · rw [if_pos m]
      refine ⟨h1, fun z => ?_, by omega⟩
      rw [h2 z, List.mem_append, List.mem_singleton]
      refine ⟨.inl, fun q => ?_⟩
      rcases q with q | rfl
      · exact q
      · exact (h2 _).mp m
    · rw [if_neg m]
      refine ⟨?_, fun z => ?_, by rw [List.length_append]; simp; omega⟩
      · rw [List.nodup_append]
        refine ⟨h1, by simp, fun a ha b hb e => ?_⟩
        rw [List.mem_singleton.mp hb] at e
        exact m (e ▸ ha)
      · rw [List.mem_append, List.mem_append, h2 z]
theorem onceS_all (zs : List Str) : (onceS zs).Nodup ∧ (∀ z, z ∈ onceS zs ↔ z ∈ zs) ∧ (onceS zs).length ≤ zs.length := by
  have := onceS_at (zs := zs) zs.length (Nat.le_refl _)
  rw [List.take_of_length_le (Nat.le_refl _)] at this
  exact this
theorem nodup_len {α : Type} [DecidableEq α] : ∀ {xs ys : List α}, xs.Nodup → (∀ x ∈ xs, x ∈ ys) → xs.length ≤ ys.length
  | [], ys, _, _ => Nat.zero_le _
  | x :: r, ys, nd, h => by
    have hx := h x List.mem_cons_self
    have nd' := List.nodup_cons.mp nd
    have := nodup_len (xs := r) (ys := ys.erase x) nd'.2 fun y hy => by
      have hne : y ≠ x := fun e => nd'.1 (e ▸ hy)
      exact (List.mem_erase_of_ne hne).mpr (h y (List.mem_cons_of_mem _ hy))
    rw [List.length_erase_of_mem hx] at this
    have : 0 < ys.length := List.length_pos_of_mem hx
    rw [List.length_cons]
    omega
end My

namespace My
open PySem L2
section
variable {P : Program} {w : World} {K : PySem.W.Frag} {mg : Str → Option Value} {base : Heap}
def spRefuse : Sp := fun vs H Q _ => vs = [.bl true] ∧ Q .non H
theorem sc_refuse_unless : FnScope ["holds"] ["holds"] (defScope s_refuse_unless) := ⟨rfl, rfl, rfl, by decide +kernel, rfl, by decide +kernel, by decide +kernel⟩
theorem k_refuse_unless (T : Tops K mg) : Known P w K mg base CX0 1 "refuse_unless" ["holds"] spRefuse := by
  refine T.d_refuse_unless.known sc_refuse_unless (fun _ _ _ _ _ _ us hl => match us, hl with | [_], _ => rfl) (fun vs H Q E h => ?_) (fun f cdv A outer s H vs Q E hr h => ?_)
  · obtain ⟨rfl, _⟩ := h
    rfl
  · obtain ⟨rfl, q⟩ := h
    refine ⟨_, (pss_one (ps_if (pt_not (pt_val (pv 0) (fun _ => rfl))) (pss_one ps_dead) pss_nil)), ?_⟩
    exact ⟨_, rfl, _, rfl, iteF q⟩
def spChkNames (K : PySem.W.Frag) : Sp := fun vs H Q _ => ∃ (a : Addr) (zs : List Str), vs = [.ref a] ∧ SqL K H a (zs.map V.str) ∧ (∀ z ∈ zs, Nl z) ∧ ∀ H', Same H H' → Q .non H'
theorem sc_check_names : FnScope ["words", "word"] ["words"] (defScope s_check_names) := ⟨rfl, rfl, rfl, by decide +kernel, rfl, by decide +kernel, by decide +kernel⟩
theorem k_check_names (T : Tops K mg) : Known P w K mg base CX0 2 "check_names" ["words"] (spChkNames K) := by
  have G_is_name : Known P w K mg base CX0 1 "is_name" ["thing"] (spName K) := k_is_name T
  have G_refuse_unless : Known P w K mg base CX0 1 "refuse_unless" ["holds"] spRefuse := k_refuse_unless T
  refine T.d_check_names.known sc_check_names (fun _ _ _ _ _ _ us hl => match us, hl with | [_], _ => rfl) (fun vs H Q E h => ?_) (fun f cdv A outer s H vs Q E hr h => ?_)
  · obtain ⟨a, zs, rfl, _⟩ := h
    rfl
  · obtain ⟨a, zs, rfl, hq, hz, q⟩ := h
    refine ⟨_, (pss_one (ps_for PassesOwn.never rfl (pi_list (pv 0)) (pg_name (i := 1) sc_check_names.nd rfl (Or.inl rfl)) (pss_one (ps_expr (pe_callN G_refuse_unless (hr.mono (by decide)) pass0 (pa_cons (pe_callN G_is_name (hr.mono (by decide)) pass0 (pa_cons (pv 1) pa_nil)) pa_nil)))))), ?_⟩
    refine ⟨_, rfl, a, rfl, ⟨_, hq⟩, ?_⟩
    refine for_list (K := K) (a := a) (xs := zs.map V.str) (fun i σ H2 => ∃ o, σ = [some (.ref a), o] ∧ Same H H2) ⟨_, rfl, Same.refl _⟩ (fun i σ H2 _ ⟨_, _, s2⟩ => s2.seq hq) ?_ ?_
    · rintro i x σ H2 hx ⟨o, rfl, s2⟩
      rw [List.getElem?_map] at hx
      cases e : zs[i]? with
      | none => rw [e] at hx; cases hx
      | some z =>
        rw [e] at hx
        cases hx
        have hzm := hz z (List.mem_of_getElem? e)
        have h8 := hzm.2.1
        refine ⟨_, rfl, _, _, rfl, .str z, shortS_str (by omega), fun H3 s3 => ?_⟩
        rw [show nameD (.str z) = true from hzm.name]
        exact ⟨rfl, _, rfl, s2.trans s3⟩
    · rintro σ H2 ⟨o, rfl, s2⟩
      exact q _ s2
end
end My

namespace My
open PySem L2
theorem str_at {zs : List Str} {i : Nat} {x : V} (h : (zs.map V.str)[i]? = some x) : ∃ z, zs[i]? = some z ∧ x = .str z := by
  rw [List.getElem?_map] at h
  cases e : zs[i]? with
  | none => rw [e] at h; cases h
  | some z => rw [e] at h; cases h; exact ⟨z, rfl, rfl⟩
theorem drop_at {α : Type} {zs : List α} {i : Nat} {z : α} (h : zs[i]? = some z) : zs.drop i = z :: zs.drop (i + 1) := by
  have hi := (List.getElem?_eq_some_iff.mp h).1
  rw [List.drop_eq_getElem_cons hi, (List.getElem?_eq_some_iff.mp h).2]
section
variable {P : Program} {w : World} {K : PySem.W.Frag} {mg : Str → Option Value} {base : Heap}
def spIsRk (K : PySem.W.Frag) : Sp := fun vs H Q _ => ∃ (a : Addr) (zs : List Str), vs = [.ref a] ∧ SqL K H a (zs.map V.str) ∧ zs.length ≤ 24 ∧ Pre zs 1 0 ∧ ∀ H', Same H H' → Q (.bl true) H'
theorem sc_is_reckoning : FnScope ["words", "lacking", "word"] ["words"] (defScope s_is_reckoning) := ⟨rfl, rfl, rfl, by decide +kernel, rfl, by decide +kernel, by decide +kernel⟩
theorem k_is_reckoning (T : Tops K mg) : Known P w K mg base CX0 2 "is_reckoning" ["words"] (spIsRk K) := by
  have G_is_name : Known P w K mg base CX0 1 "is_name" ["thing"] (spName K) := k_is_name T
  have G_writes_number : Known P w K mg base CX0 1 "writes_number" ["word"] spWrites := k_writes_number T
  obtain ⟨tW, hW⟩ := T.g_MOST_WORDS
  obtain ⟨pS, hS, hSq⟩ := T.g_SIGNS
  refine T.d_is_reckoning.known sc_is_reckoning (fun _ _ _ _ _ _ us hl => match us, hl with | [_], _ => rfl) (fun vs H Q E h => ?_) (fun f cdv A outer s H vs Q E hr h => ?_)
  · obtain ⟨a, zs, rfl, _⟩ := h
    rfl
  · obtain ⟨a, zs, rfl, hq, h24, hP, q⟩ := h
    refine ⟨_, (pss_cons (ps_if (pt_cmpR op_gt (pe_callB call_len rfl T.len b_len (pa_cons (pv 0) pa_nil)) (pe_gI T.g_MOST_WORDS) (nomark _)) (pss_one (ps_ret pe_bl)) pss_nil)
      (pss_cons (ps_set (i := 1) sc_is_reckoning.nd rfl (Or.inl rfl) pe_int)
      (pss_cons (ps_for PassesOwn.never rfl (pi_list (pv 0)) (pg_name (i := 2) sc_is_reckoning.nd rfl (Or.inl rfl)) (pss_cons (ps_if (pt_cmpR op_eq (pv 1) pe_int (nomark _)) (pss_one (ps_ret pe_bl)) pss_nil)
      (pss_one (ps_if (pt_cmpR op_in_seq (pv 2) (pe_gR hS) (by with_unfolding_all rfl)) (pss_one (ps_set (i := 1) sc_is_reckoning.nd rfl (Or.inl rfl) (pe_op op_add (pv 1) pe_int))) (pss_one (ps_if (PW.pt (pw_or (pt_val (pe_callN G_is_name (hr.mono (by decide)) pass0 (pa_cons (pv 2) pa_nil)) (fun _ => rfl)) (pw_or1 (pt_val (pe_callN G_writes_number (hr.mono (by decide)) pass0 (pa_cons (pv 2) pa_nil)) (fun _ => rfl))))) (pss_one (ps_set (i := 1) sc_is_reckoning.nd rfl (Or.inl rfl) (pe_op op_sub (pv 1) pe_int))) (pss_one (ps_ret pe_bl))))))))
      (pss_one (ps_ret (pe_cmpR op_eq (pv 1) pe_int (nomark _))))))), ?_⟩
    refine ⟨_, rfl, _, _, rfl, .inl ⟨_, hq, rfl⟩, _, _, rfl, rfl, _, rfl, ?_⟩
    refine ite2 (fun h => ?_) (fun _ => ?_)
    · exfalso
      have := of_decide_eq_true h
      rw [List.length_map] at this
      omega
    refine ⟨_, rfl, a, rfl, ⟨_, hq⟩, ?_⟩
    refine for_list (K := K) (a := a) (xs := zs.map V.str) (fun i σ H2 => ∃ (o : Option V) (m : Nat), σ = [some (.ref a), some (.int (m : Int)), o] ∧ Same H H2 ∧ Pre (zs.drop i) m 0) ⟨_, 1, rfl, Same.refl _, hP⟩ (fun i σ H2 _ ⟨_, _, _, s2, _⟩ => s2.seq hq) ?_ ?_
    · rintro i x σ H2 hx ⟨o, m, rfl, s2, hp⟩
      obtain ⟨z, hz, rfl⟩ := str_at hx
      rw [drop_at hz] at hp
      obtain ⟨h0, hp⟩ := hp
      refine ⟨_, rfl, rfl, _, rfl, ?_⟩
      refine ite2 (fun h => ?_) (fun _ => ?_)
      · exfalso
        have := V.int.inj (of_decide_eq_true h)
        omega
      refine ⟨_, rfl, pS, sgns.map V.str, rfl, .inr (hSq H2), rfl, flat_strs sgns, _, rfl, ?_⟩
      rw [show (if false = true then !inV (.str z) (sgns.map V.str) else inV (.str z) (sgns.map V.str)) = decide (z ∈ sgns) by rw [if_neg Bool.false_ne_true, inV_str]]
      refine ite2 (fun h => ?_) (fun h => ?_)
      · have h : z ∈ sgns := of_decide_eq_true h
        rcases hp with ⟨_, hp⟩ | ⟨hp, _⟩
        · refine ⟨_, rfl, _, _, rfl, rfl, ?_⟩
          exact ⟨_, m + 1, rfl, s2, hp⟩
        · exact absurd h hp.ns
      · have h : z ∉ sgns := fun y => h (decide_eq_true y)
        rcases hp with ⟨hp, _⟩ | ⟨hz', hp⟩
        · exact absurd hp h
        · have hl := hz'.len
          refine ⟨_, rfl, _, .str z, rfl, .str z, shortS_str (by omega), fun H3 s3 => ⟨_, rfl, ?_⟩⟩
          have fin : ∀ H4, Same H2 H4 → ∃ (o : Option V) (m' : Nat), ([some (.ref a), some (.int ((m : Int) - 1)), some (.str z)] : St) = [some (.ref a), some (.int (m' : Int)), o] ∧ Same H H4 ∧ Pre (zs.drop (i + 1)) m' 0 := fun H4 s4 =>
            ⟨_, m - 1, by rw [show ((m - 1 : Nat) : Int) = (m : Int) - 1 by omega], s2.trans s4, hp⟩
          rcases hz' with hz' | ⟨j, hz'⟩
          · rw [show nameD (.str z) = true from hz'.is]
            exact iteT ⟨_, rfl, _, _, rfl, rfl, fin H3 s3⟩
          · rw [show nameD (.str z) = false from hz'.nn]
            refine iteF ⟨_, rfl, z, rfl, by omega, fun H4 s4 => ⟨_, rfl, ?_⟩⟩
            rw [hz'.num]
            exact iteT ⟨_, rfl, _, _, rfl, rfl, fin H4 (s3.trans s4)⟩
    · rintro σ H2 ⟨o, m, rfl, s2, hp⟩
      rw [List.length_map, List.drop_length] at hp
      have e : m = 0 := hp
      subst e
      exact ⟨_, rfl, rfl, q _ s2⟩
/-- each of the texts once -/
def spOnceS (K : PySem.W.Frag) : Sp := fun vs H Q _ => ∃ (a : Addr) (zs : List Str), vs = [.ref a] ∧ SqL K H a (zs.map V.str) ∧ zs.length ≤ 100 ∧ ∀ H' l, Same H H' → H l = none → H' l = some (.lst ((onceS zs).map V.str)) → Q (.ref l) H'
theorem k_each_onceS (T : Tops K mg) : Known P w K mg base CX0 1 "each_once" ["spots"] (spOnceS K) := by
  refine T.d_each_once.known sc_each_once (fun _ _ _ _ _ _ us hl => match us, hl with | [_], _ => rfl) (fun vs H Q E h => ?_) (fun f cdv A outer s H vs Q E hr h => ?_)
  · obtain ⟨a, zs, rfl, _⟩ := h
    rfl
  · obtain ⟨a, zs, rfl, hq, h100, q⟩ := h
    refine ⟨_, (pss_cons (ps_set (i := 1) sc_each_once.nd rfl (Or.inl rfl) (pe_lst pa_nil))
      (pss_cons (ps_for PassesOwn.never rfl (pi_list (pv 0)) (pg_name (i := 2) sc_each_once.nd rfl (Or.inl rfl)) (pss_one (ps_if (pt_cmpR op_notIn_seq (pv 2) (pv 1) (by with_unfolding_all rfl)) (pss_one (ps_expr (pe_bm PySem.F.plainAttrs_list PySem.F.slot_list_append PySem.F.type_list_append mt_append (pv 1) (pa_cons (pv 2) pa_nil)))) pss_nil)))
      (pss_one (ps_ret (pv 1))))), ?_⟩
    refine ⟨sl, fun l hl => ?_⟩
    refine ⟨_, rfl, a, rfl, ⟨_, (Same.new hl).seq hq⟩, ?_⟩
    refine for_list (K := K) (a := a) (xs := zs.map V.str) (fun i σ H2 => ∃ o, σ = [some (.ref a), some (.ref l), o] ∧ Same H H2 ∧ H2 l = some (.lst ((onceS (zs.take i)).map V.str))) ⟨_, rfl, Same.new hl, upd_same⟩ (fun i σ H2 _ ⟨_, _, s2, _⟩ => s2.seq hq) ?_ ?_
    · rintro i x σ H2 hx ⟨o, rfl, s2, h2⟩
      obtain ⟨z, hz, rfl⟩ := str_at hx
      have hi : i < zs.length := (List.getElem?_eq_some_iff.mp hz).1
      have htk : zs.take (i + 1) = zs.take i ++ [z] := by rw [List.take_add_one, hz]; rfl
      have hlen := (onceS_at (zs := zs) i (by omega)).2.2
      refine ⟨_, rfl, _, rfl, l, _, rfl, .inl (SqL.of h2), rfl, flat_strs _, _, rfl, ?_⟩
      rw [show (if true = true then !inV (.str z) ((onceS (zs.take i)).map V.str) else inV (.str z) ((onceS (zs.take i)).map V.str)) = !decide (z ∈ onceS (zs.take i)) by rw [if_pos rfl, inV_str]]
      rw [htk, onceS_snoc]
      by_cases m : z ∈ onceS (zs.take i)
      · rw [if_pos m]
        exact iteNS m ⟨_, rfl, s2, h2⟩
      · rw [if_neg m, decide_eq_false m]
        refine iteT ⟨_, rfl, .inl ⟨rfl, _, SqL.of h2⟩, _, rfl, l, _, _, rfl, rfl, h2, small1000 (by rw [List.length_map]; omega), ?_⟩
        refine ⟨_, rfl, fun b o e => ?_, ?_⟩
        · rw [upd_ne (ne_of_none e hl)]
          exact s2 _ _ e
        · rw [List.map_append]
          exact upd_same
    · rintro σ H2 ⟨o, rfl, s2, h2⟩
      rw [List.length_map, List.take_of_length_le (Nat.le_refl _)] at h2
      exact ⟨_, rfl, q _ l s2 hl h2⟩
def spNamesIn (K : PySem.W.Frag) : Sp := fun vs H Q _ => ∃ (a : Addr) (zs : List Str), vs = [.ref a] ∧ SqL K H a (zs.map V.str) ∧ zs.length ≤ 24 ∧ (∀ z ∈ zs, z.length ≤ 1000) ∧ ∀ H' l, Same H H' → H l = none → H' l = some (.lst ((onceS (zs.filter nameS)).map V.str)) → Q (.ref l) H'
theorem sc_names_in : FnScope ["words"] ["words"] (defScope s_names_in) := ⟨rfl, rfl, rfl, by decide +kernel, rfl, by decide +kernel, by decide +kernel⟩
theorem k_names_in (T : Tops K mg) : Known P w K mg base CX0 2 "names_in" ["words"] (spNamesIn K) := by
  have G_is_name : Known P w K mg base CX0 1 "is_name" ["thing"] (spName K) := k_is_name T
  have G_each_once : Known P w K mg base CX0 1 "each_once" ["spots"] (spOnceS K) := k_each_onceS T
  refine T.d_names_in.known sc_names_in (fun _ _ _ _ _ _ us hl => match us, hl with | [_], _ => rfl) (fun vs H Q E h => ?_) (fun f cdv A outer s H vs Q E hr h => ?_)
  · obtain ⟨a, zs, rfl, _⟩ := h
    rfl
  · obtain ⟨a, zs, rfl, hq, h24, hlen, q⟩ := h
    refine ⟨_, (pss_one (ps_ret (pe_callN G_each_once (hr.mono (by decide)) pass0 (pa_cons (pe_comp (tt := tTest (tCall (spName K) [] E0 (tCons (tVar 0) tNil))) caps0 rfl rfl (by decide) (pi_list (pv 0)) (fun _ _ _ _ _ => (pts_one (pt_val (pe_callN G_is_name (hr.mono (by decide)) pass0 (pa_cons (pv 0) pa_nil)) (fun _ => rfl)))) (fun _ _ _ _ _ => (pv 0))) pa_nil)))), ?_⟩
    refine ⟨_, rfl, a, rfl, ⟨_, hq⟩, fun D hD => ?_⟩
    refine comp_listF (K := K) (a := a) (xs := zs.map V.str) (fun i ys H2 => Same H H2 ∧ ys = ((zs.take i).filter nameS).map V.str) ⟨Same.new hD, rfl⟩ (fun i ys H2 _ ⟨s2, _⟩ => s2.seq hq) ?_ ?_
    · rintro i x ys H2 hx h2D ⟨s2, rfl⟩
      obtain ⟨z, hz, rfl⟩ := str_at hx
      have htk : zs.take (i + 1) = zs.take i ++ [z] := by rw [List.take_add_one, hz]; rfl
      refine ⟨_, rfl, _, .str z, rfl, .str z, shortS_str (hlen z (List.mem_of_getElem? hz)), fun H3 s3 => ⟨_, rfl, ?_⟩⟩
      rw [show nameD (.str z) = nameS z from rfl]
      cases hn : nameS z with
      | true =>
        refine iteT ⟨_, rfl, s3 _ _ h2D, small1000 ?_, (s2.trans s3).on hD, ?_⟩
        · rw [List.length_map]
          refine Nat.le_trans (List.length_filter_le _ _) ?_
          rw [List.length_take]
          omega
        · show _ = ((zs.take (i + 1)).filter nameS).map V.str
          rw [htk, List.filter_append, List.map_append]
          simp [hn]
      | false =>
        refine iteF ⟨_, s3 _ _ h2D, s2.trans s3, ?_⟩
        rw [htk, List.filter_append, List.map_append]
        simp [hn]
    · rintro ys H2 h2D ⟨s2, rfl⟩
      rw [List.length_map, List.take_of_length_le (Nat.le_refl _)] at h2D
      refine ⟨D, _, rfl, SqL.of h2D, Nat.le_trans (List.length_filter_le _ _) (by omega), fun H3 l s3 hl h3 => q H3 l (s2.trans s3) (none_back s2 hl) h3⟩
abbrev Ncol : List Str := ["words", "others", "names"]
def spColumns (K : PySem.W.Frag) : Sp := fun vs H Q _ => ∃ (a b : Addr) (zs os : List Str), vs = [.ref a, .ref b] ∧ SqL K H a (zs.map V.str) ∧ SqL K H b (os.map V.str) ∧ zs.length ≤ 24 ∧ Pre zs 1 0 ∧ ((onceS (zs.filter nameS)).filter fun z => decide (z ∉ os)).length ≤ 6 ∧
  ∀ H' l, Same H H' → H l = none → H' l = some (.lst (((onceS (zs.filter nameS)).filter fun z => decide (z ∉ os)).map V.str)) → Q (.ref l) H'
theorem sc_columns_in : FnScope Ncol ["words", "others"] (defScope s_columns_in) := ⟨rfl, rfl, rfl, by decide +kernel, rfl, by decide +kernel, by decide +kernel⟩
theorem k_columns_in (T : Tops K mg) : Known P w K mg base CX0 3 "columns_in" ["words", "others"] (spColumns K) := by
  have G_refuse_unless : Known P w K mg base CX0 1 "refuse_unless" ["holds"] spRefuse := k_refuse_unless T
  have G_is_reckoning : Known P w K mg base CX0 2 "is_reckoning" ["words"] (spIsRk K) := k_is_reckoning T
  have G_names_in : Known P w K mg base CX0 2 "names_in" ["words"] (spNamesIn K) := k_names_in T
  refine T.d_columns_in.known sc_columns_in (fun _ _ _ _ _ _ us hl => match us, hl with | [_, _], _ => rfl) (fun vs H Q E h => ?_) (fun f cdv A outer s H vs Q E hr h => ?_)
  · obtain ⟨a, b, zs, os, rfl, _⟩ := h
    rfl
  · obtain ⟨a, b, zs, os, rfl, hq, hb, h24, hP, h6, q⟩ := h
    have hcl : ∀ x, (cxOf CX0 P w K mg base Ncol "columns_in" (defScope s_columns_in) f cdv A outer s H E).nox.env.scope.names.lookup x = some .cell → ∃ c, (cxOf CX0 P w K mg base Ncol "columns_in" (defScope s_columns_in) f cdv A outer s H E).nox.env.cells.lookup x = some c := fun x hx => Option.isSome_iff_exists.mp (PySem.W.cellsFrom_some _ _ _ (.inl hx))
    refine ⟨_, (pss_cons (ps_expr (pe_callN G_refuse_unless (hr.mono (by decide)) pass0 (pa_cons (pe_callN G_is_reckoning (hr.mono (by decide)) pass0 (pa_cons (pv 0) pa_nil)) pa_nil)))
      (pss_cons (ps_setComp (tt := tTest (tOp (rIn K true) (tVar 0) (tVar 1))) (i := 2) sc_columns_in.nd rfl rfl (caps_of (sc := defScope s_columns_in) (N := Ncol) (cp := [(1, "others")]) hcl) rfl rfl (by decide) (pi_list (pe_callN G_names_in (hr.mono (by decide)) pass0 (pa_cons (pv 0) pa_nil))) (fun _ _ _ _ _ => (pts_one (pt_cmpR op_notIn_seq (pv 0) (pv 1) (by with_unfolding_all rfl)))) (fun _ _ _ _ _ => (pv 0)) rfl)
      (pss_cons (ps_expr (pe_callN G_refuse_unless (hr.mono (by decide)) pass0 (pa_cons (pe_cmpR op_le (pe_callB call_len rfl T.len b_len (pa_cons (pv 2) pa_nil)) (pe_gI T.g_MOST_NAMES) (nomark _)) pa_nil)))
      (pss_one (ps_ret (pv 2)))))), ?_⟩
    refine ⟨_, rfl, a, zs, rfl, hq, h24, hP, fun H1 s1 => ⟨rfl, ?_⟩⟩
    have hzl : ∀ z ∈ zs, z.length ≤ 1000 := fun z hz => by
      rcases hP.all z hz with h | h
      · have := (sgn_no z h).2.1; omega
      · have := h.len; omega
    refine ⟨_, rfl, a, zs, rfl, s1.seq hq, h24, hzl, fun H2 l2 s2 hl2 h2 => ?_⟩
    have s02 := s1.trans s2
    have ol := (onceS_all (zs.filter nameS)).2.2
    have fl := List.length_filter_le nameS zs
    refine ⟨l2, rfl, ⟨_, SqL.of h2⟩, fun D hD => ?_⟩
    refine comp_listF (K := K) (a := l2) (xs := (onceS (zs.filter nameS)).map V.str) (fun i ys H3 => Same H2 H3 ∧ ys = (((onceS (zs.filter nameS)).take i).filter fun z => decide (z ∉ os)).map V.str) ⟨Same.new hD, rfl⟩ (fun i ys H3 _ ⟨s3, _⟩ => SqL.of (s3 _ _ h2)) ?_ ?_
    · rintro i x ys H3 hx h3D ⟨s3, rfl⟩
      obtain ⟨z, hz, rfl⟩ := str_at hx
      have htk : (onceS (zs.filter nameS)).take (i + 1) = (onceS (zs.filter nameS)).take i ++ [z] := by rw [List.take_add_one, hz]; rfl
      refine ⟨_, rfl, _, rfl, b, _, rfl, .inl ((s02.trans s3).seq hb), rfl, flat_strs os, _, rfl, ?_⟩
      rw [show (if true = true then !inV (.str z) (os.map V.str) else inV (.str z) (os.map V.str)) = !decide (z ∈ os) by rw [if_pos rfl, inV_str]]
      by_cases m : z ∈ os
      · refine iteNS m ⟨_, h3D, s3, ?_⟩
        rw [htk, List.filter_append, List.map_append]
        simp [m]
      · rw [decide_eq_false m]
        refine iteT ⟨_, rfl, h3D, small1000 ?_, s3.on hD, ?_⟩
        · rw [List.length_map]
          refine Nat.le_trans (List.length_filter_le _ _) ?_
          rw [List.length_take]
          omega
        · show _ = (((onceS (zs.filter nameS)).take (i + 1)).filter fun z => decide (z ∉ os)).map V.str
          rw [htk, List.filter_append, List.map_append]
          simp [m]
    · rintro ys H3 h3D ⟨s3, rfl⟩
      rw [List.length_map, List.take_of_length_le (Nat.le_refl _)] at h3D
      refine ⟨_, rfl, _, _, rfl, .inl ⟨_, SqL.of h3D, rfl⟩, _, _, rfl, rfl, ?_, _, rfl, ?_⟩
      · rw [List.length_map]
        exact congrArg (fun b => [V.bl b]) (decide_eq_true (by omega))
      · exact q _ D (s02.trans s3) (none_back s02 hD) h3D
end
end My

namespace My
open PySem L2
theorem bg_of {i : Int} (h : bnd F60 i) : Bg i := by
  have e : F60 = ((10 ^ 60 : Nat) : Int) := by decide +kernel
  have e2 : (10 ^ 60 : Nat) < 2 ^ 4000 := by decide +kernel
  have h1 := h.1
  have h2 := h.2
  rw [e] at h1 h2
  unfold Bg
  generalize (2 ^ 4000 : Nat) = G at e2 ⊢
  generalize (10 ^ 60 : Nat) = F at *
  omega
/-- a value in the pile -/
def PvV (K : PySem.W.Frag) (H : Hp) (v : V) (d : PyData) : Prop := (∃ i, v = .int i ∧ d = .int i ∧ bnd F60 i) ∨ ∃ a y, v = .ref a ∧ SqT K H a [.str ("fault" : Str), .str y] ∧ d = .tuple [.str "fault", .str y] ∧ (y = "great" ∨ y = "nought")
theorem PvV.dt {K : PySem.W.Frag} {H : Hp} {v : V} {d : PyData} (h : PvV K H v d) : Dt K H v d := by
  rcases h with ⟨i, rfl, rfl, _⟩ | ⟨a, y, rfl, hq, rfl, _⟩
  · exact .int i
  · exact .tup hq (.cons (.str _) (.cons (.str _) .nil))
theorem PvV.rv {K : PySem.W.Frag} {H : Hp} {v : V} {d : PyData} (h : PvV K H v d) : Rv d := by
  rcases h with ⟨i, rfl, rfl, hb⟩ | ⟨a, y, rfl, hq, rfl, rfl | rfl⟩
  · exact .inl ⟨i, rfl, hb⟩
  · exact .inr (.inl rfl)
  · exact .inr (.inr rfl)
theorem PvV.of {K : PySem.W.Frag} {H : Hp} {v : V} {d : PyData} (r : Rv d) (h : Dt K H v d) : PvV K H v d := by
  have tp : ∀ y : Str, Dt K H v (.tuple [.str "fault", .str y]) → ∃ a, v = .ref a ∧ SqT K H a [.str ("fault" : Str), .str y] := fun y h => by
    cases h with
    | @tup a xs _ hq hall =>
      cases hall with
      | cons h1 t1 =>
        cases t1 with
        | cons h2 t2 =>
          cases t2
          cases h1
          cases h2
          exact ⟨a, rfl, hq⟩
  rcases r with ⟨i, rfl, hb⟩ | rfl | rfl
  · cases h
    exact .inl ⟨i, rfl, rfl, hb⟩
  · obtain ⟨a, e, hq⟩ := tp _ h
    exact .inr ⟨a, _, e, hq, rfl, .inl rfl⟩
  · obtain ⟨a, e, hq⟩ := tp _ h
    exact .inr ⟨a, _, e, hq, rfl, .inr rfl⟩
theorem PvV.same {K : PySem.W.Frag} {H H' : Hp} {v : V} {d : PyData} (s : Same H H') (h : PvV K H v d) : PvV K H' v d := PvV.of h.rv (h.dt.same s)
theorem PvV.upd {K : PySem.W.Frag} {H : Hp} {D : Addr} {ys : List V} {o : HO} {v : V} {d : PyData} (hD : H D = some (.lst ys)) (h : PvV K H v d) : PvV K (upd H D o) v d := by
  rcases h with h | ⟨a, y, e, hq, r⟩
  · exact .inl h
  · exact .inr ⟨a, y, e, sqT_upd hD hq, r⟩
/-- the pile: its list has the last one first -/
def Pile (K : PySem.W.Frag) (H : Hp) (vs : List V) (ds : List PyData) : Prop := Paired (PvV K H) vs ds.reverse
theorem Paired.imp2 {α β : Type} {R S : α → β → Prop} (h : ∀ a b, R a b → S a b) : ∀ {xs : List α} {ys : List β}, Paired R xs ys → Paired S xs ys
  | _, _, .nil => .nil
  | _, _, .cons r t => .cons (h _ _ r) (Paired.imp2 h t)
theorem Paired.app {α β : Type} {R : α → β → Prop} : ∀ {xs xs' : List α} {ys ys' : List β}, Paired R xs ys → Paired R xs' ys' → Paired R (xs ++ xs') (ys ++ ys')
  | _, _, _, _, .nil, h => h
  | _, _, _, _, .cons r t, h => .cons r (Paired.app t h)
theorem Paired.split {α β : Type} {R : α → β → Prop} : ∀ {xs : List α} {ys zs : List β}, Paired R xs (ys ++ zs) → ∃ us vs, xs = us ++ vs ∧ Paired R us ys ∧ Paired R vs zs
  | xs, [], zs, h => ⟨[], xs, rfl, .nil, h⟩
  | _, y :: ys, zs, .cons r t => by
    obtain ⟨us, vs, e, h1, h2⟩ := Paired.split (ys := ys) t
    exact ⟨_ :: us, vs, by rw [e]; rfl, .cons r h1, h2⟩
theorem Pile.push {K : PySem.W.Frag} {H : Hp} {vs : List V} {ds : List PyData} {v : V} {d : PyData} (h : Pile K H vs ds) (hv : PvV K H v d) : Pile K H (vs ++ [v]) (d :: ds) := by
  unfold Pile at h ⊢
  rw [List.reverse_cons]
  exact Paired.app h (.cons hv .nil)
theorem Pile.pop {K : PySem.W.Frag} {H : Hp} {vs : List V} {ds : List PyData} {d : PyData} (h : Pile K H vs (d :: ds)) : ∃ us v, vs = us ++ [v] ∧ PvV K H v d ∧ Pile K H us ds := by
  unfold Pile at h ⊢
  rw [List.reverse_cons] at h
  obtain ⟨us, ws, e, h1, h2⟩ := Paired.split h
  cases h2 with
  | cons r t =>
    cases t
    exact ⟨us, _, e, r, h1⟩
theorem Pile.same {K : PySem.W.Frag} {H H' : Hp} {vs : List V} {ds : List PyData} (s : Same H H') (h : Pile K H vs ds) : Pile K H' vs ds := Paired.imp2 (fun _ _ q => q.same s) h
theorem Pile.upd {K : PySem.W.Frag} {H : Hp} {D : Addr} {ys : List V} {o : HO} {vs : List V} {ds : List PyData} (hD : H D = some (.lst ys)) (h : Pile K H vs ds) : Pile K (upd H D o) vs ds := Paired.imp2 (fun _ _ q => q.upd hD) h
theorem pop_last {us : List V} {v : V} : (us ++ [v])[(us ++ [v]).length - 1]? = some v ∧ (us ++ [v]).dropLast = us := by
  refine ⟨?_, by simp⟩
  rw [List.length_append]
  simp
section
variable {P : Program} {w : World} {K : PySem.W.Frag} {mg : Str → Option Value} {base : Heap}
def spBounded (p : Addr) : Sp := fun vs H Q _ => ∃ n : Int, vs = [.int n] ∧ Q (if numD (.int n) then .int n else .ref p) H
theorem sc_bounded : FnScope ["number"] ["number"] (defScope s_bounded) := ⟨rfl, rfl, rfl, by decide +kernel, rfl, by decide +kernel, by decide +kernel⟩
theorem k_bounded (T : Tops K mg) {p : Addr} (hp : mg "GREAT" = some (.ref p)) : Known P w K mg base CX0 3 "bounded" ["number"] (spBounded p) := by
  have G_is_number : Known P w K mg base CX0 2 "is_number" ["thing"] (spNumber K) := k_is_number T
  refine T.d_bounded.known sc_bounded (fun _ _ _ _ _ _ us hl => match us, hl with | [_], _ => rfl) (fun vs H Q E h => ?_) (fun f cdv A outer s H vs Q E hr h => ?_)
  · obtain ⟨n, rfl, _⟩ := h
    rfl
  · obtain ⟨n, rfl, q⟩ := h
    refine ⟨_, (pss_cons (ps_if (pt_val (pe_callN G_is_number (hr.mono (by decide)) pass0 (pa_cons (pv 0) pa_nil)) (fun _ => rfl)) (pss_one (ps_ret (pv 0))) pss_nil)
      (pss_one (ps_ret (pe_gR hp)))), ?_⟩
    refine ⟨_, rfl, _, _, rfl, .int n, _, rfl, ?_⟩
    refine ite2 (fun h1 => ?_) (fun h1 => ?_)
    · rw [if_pos h1] at q
      exact ⟨_, rfl, q⟩
    · rw [if_neg h1] at q
      exact q
def spNumOf : Sp := fun vs H Q _ => ∃ (s : Str) (x y : Int), vs = [.str s, .int x, .int y] ∧ Bg x ∧ Bg y ∧ ((s = "/" ∨ s = ":") → y ≠ 0) ∧ Q (.int (opZ s x y)) H
theorem sc_number_of : FnScope ["sign", "one", "other"] ["sign", "one", "other"] (defScope s_number_of) := ⟨rfl, rfl, rfl, by decide +kernel, rfl, by decide +kernel, by decide +kernel⟩
theorem k_number_of (T : Tops K mg) : Known P w K mg base CX0 1 "number_of" ["sign", "one", "other"] spNumOf := by
  refine T.d_number_of.known sc_number_of (fun _ _ _ _ _ _ us hl => match us, hl with | [_, _, _], _ => rfl) (fun vs H Q E h => ?_) (fun f cdv A outer s H vs Q E hr h => ?_)
  · obtain ⟨sg, x, y, rfl, _⟩ := h
    rfl
  · obtain ⟨sg, x, y, rfl, bx, yb, hy, q⟩ := h
    refine ⟨_, (pss_cons (ps_if (pt_cmpR op_eq (pv 0) pe_str (nomark _)) (pss_one (ps_ret (pe_op op_add (pv 1) (pv 2)))) pss_nil)
      (pss_cons (ps_if (pt_cmpR op_eq (pv 0) pe_str (nomark _)) (pss_one (ps_ret (pe_op op_sub (pv 1) (pv 2)))) pss_nil)
      (pss_cons (ps_if (pt_cmpR op_eq (pv 0) pe_str (nomark _)) (pss_one (ps_ret (pe_op op_mulB (pv 1) (pv 2)))) pss_nil)
      (pss_cons (ps_if (pt_cmpR op_eq (pv 0) pe_str (nomark _)) (pss_one (ps_ret (pe_op op_fdivB (pv 1) (pv 2)))) pss_nil)
      (pss_cons (ps_if (pt_cmpR op_eq (pv 0) pe_str (nomark _)) (pss_one (ps_ret (pe_op op_modN (pv 1) (pv 2)))) pss_nil)
      (pss_cons (ps_if (pt_cmpR op_eq (pv 0) pe_str (nomark _)) (pss_one (ps_ret (pe_ifExp (pt_cmpR op_lt (pv 1) (pv 2) (nomark _)) pe_int pe_int))) pss_nil)
      (pss_one (ps_ret (pe_ifExp (pt_cmpR op_eq (pv 1) (pv 2) (nomark _)) pe_int pe_int))))))))), ?_⟩
    unfold opZ at q
    refine ⟨_, rfl, rfl, _, rfl, ite2 (fun h => ?_) (fun h => ?_)⟩
    · rw [if_pos (V.str.inj (of_decide_eq_true h))] at q
      exact ⟨_, rfl, _, rfl, _, _, rfl, rfl, q⟩
    rw [if_neg (fun e => h (decide_eq_true (congrArg V.str e)))] at q
    clear h
    refine ⟨_, rfl, rfl, _, rfl, ite2 (fun h => ?_) (fun h => ?_)⟩
    · rw [if_pos (V.str.inj (of_decide_eq_true h))] at q
      exact ⟨_, rfl, _, rfl, _, _, rfl, rfl, q⟩
    rw [if_neg (fun e => h (decide_eq_true (congrArg V.str e)))] at q
    clear h
    refine ⟨_, rfl, rfl, _, rfl, ite2 (fun h => ?_) (fun h => ?_)⟩
    · rw [if_pos (V.str.inj (of_decide_eq_true h))] at q
      exact ⟨_, rfl, _, rfl, _, _, rfl, rfl, ⟨bx, yb⟩, q⟩
    rw [if_neg (fun e => h (decide_eq_true (congrArg V.str e)))] at q
    clear h
    refine ⟨_, rfl, rfl, _, rfl, ite2 (fun h => ?_) (fun h => ?_)⟩
    · have e := V.str.inj (of_decide_eq_true h)
      rw [if_pos e] at q
      exact ⟨_, rfl, _, rfl, _, _, rfl, rfl, ⟨hy (.inl e), yb⟩, q⟩
    rw [if_neg (fun e => h (decide_eq_true (congrArg V.str e)))] at q
    clear h
    refine ⟨_, rfl, rfl, _, rfl, ite2 (fun h => ?_) (fun h => ?_)⟩
    · have e := V.str.inj (of_decide_eq_true h)
      rw [if_pos e] at q
      exact ⟨_, rfl, _, rfl, _, _, rfl, rfl, hy (.inr e), q⟩
    rw [if_neg (fun e => h (decide_eq_true (congrArg V.str e)))] at q
    clear h
    refine ⟨_, rfl, rfl, _, rfl, ite2 (fun h => ?_) (fun h => ?_)⟩
    · rw [if_pos (V.str.inj (of_decide_eq_true h))] at q
      refine ⟨_, rfl, _, rfl, _, _, rfl, rfl, _, rfl, ite2 (fun h => ?_) (fun h => ?_)⟩
      · rw [if_pos (of_decide_eq_true h)] at q
        exact q
      · rw [if_neg (fun e => h (decide_eq_true e))] at q
        exact q
    rw [if_neg (fun e => h (decide_eq_true (congrArg V.str e)))] at q
    clear h
    refine ⟨_, rfl, _, rfl, rfl, _, rfl, ite2 (fun h => ?_) (fun h => ?_)⟩
    · rw [if_pos (V.int.inj (of_decide_eq_true h))] at q
      exact q
    · rw [if_neg (fun e => h (decide_eq_true (congrArg V.int e)))] at q
      exact q
def spJoin (K : PySem.W.Frag) : Sp := fun vs H Q _ => ∃ (s : Str) (v1 v2 : V) (d1 d2 : PyData), vs = [.str s, v1, v2] ∧ PvV K H v1 d1 ∧ PvV K H v2 d2 ∧ ∀ H' v, Same H H' → PvV K H' v (joinD s d1 d2) → Q v H'
theorem sc_joined : FnScope ["sign", "one", "other"] ["sign", "one", "other"] (defScope s_joined) := ⟨rfl, rfl, rfl, by decide +kernel, rfl, by decide +kernel, by decide +kernel⟩
theorem fault_gn {y : Str} (h : y = "great" ∨ y = "nought") : faultD (.tuple [.str "fault", .str y]) = true ∧ shortD (.tuple [.str "fault", .str y]) := by
  rcases h with rfl | rfl
  · exact ⟨by decide +kernel, fault_short _ (by decide)⟩
  · exact ⟨by decide +kernel, fault_short _ (by decide)⟩
theorem k_joined (T : Tops K mg) : Known P w K mg base CX0 4 "joined" ["sign", "one", "other"] (spJoin K) := by
  obtain ⟨pG, hpG, hG⟩ := T.g_GREAT
  obtain ⟨pN, hpN, hN⟩ := T.g_NOUGHT
  have G_is_fault : Known P w K mg base CX0 2 "is_fault" ["thing"] (spFault K) := k_is_fault T
  have G_number_of : Known P w K mg base CX0 1 "number_of" ["sign", "one", "other"] spNumOf := k_number_of T
  have G_bounded : Known P w K mg base CX0 3 "bounded" ["number"] (spBounded pG) := k_bounded T hpG
  refine T.d_joined.known sc_joined (fun _ _ _ _ _ _ us hl => match us, hl with | [_, _, _], _ => rfl) (fun vs H Q E h => ?_) (fun f cdv A outer s H vs Q E hr h => ?_)
  · obtain ⟨sg, v1, v2, d1, d2, rfl, _⟩ := h
    rfl
  · obtain ⟨sg, v1, v2, d1, d2, rfl, h1, h2, q⟩ := h
    refine ⟨_, (pss_cons (ps_if (pt_val (pe_callN G_is_fault (hr.mono (by decide)) pass0 (pa_cons (pv 1) pa_nil)) (fun _ => rfl)) (pss_one (ps_ret (pv 1))) pss_nil)
      (pss_cons (ps_if (pt_val (pe_callN G_is_fault (hr.mono (by decide)) pass0 (pa_cons (pv 2) pa_nil)) (fun _ => rfl)) (pss_one (ps_ret (pv 2))) pss_nil)
      (pss_cons (ps_if (PW.pt (pw_and (pt_cmpR op_in_seq (pv 0) (pe_tup (pa_cons pe_str (pa_cons pe_str pa_nil))) (by with_unfolding_all rfl)) (pw_and1 (pt_cmpR op_eq (pv 2) pe_int (nomark _))))) (pss_one (ps_ret (pe_gR hpN))) pss_nil)
      (pss_one (ps_ret (pe_callN G_bounded (hr.mono (by decide)) pass0 (pa_cons (pe_callN G_number_of (hr.mono (by decide)) pass0 (pa_cons (pv 0) (pa_cons (pv 1) (pa_cons (pv 2) pa_nil)))) pa_nil))))))), ?_⟩
    rcases h1 with ⟨x, rfl, rfl, bx⟩ | ⟨a, y, rfl, hq, rfl, hy⟩
    · refine ⟨_, rfl, _, .int x, rfl, .int x, short_int, fun H1 s1 => ⟨_, rfl, iteF ?_⟩⟩
      have h2' := h2.same s1
      rcases h2' with ⟨y, rfl, rfl, yb⟩ | ⟨a, y, rfl, hq, rfl, hy⟩
      · refine ⟨_, rfl, _, .int y, rfl, .int y, short_int, fun H2 s2 => ⟨_, rfl, iteF ?_⟩⟩
        refine ⟨_, rfl, sl, fun t1 ht1 => ?_⟩
        have s3 := Same.new (o := .tup [.str "/", .str ":"]) ht1
        have s03 := (s1.trans s2).trans s3
        refine ⟨t1, (["/", ":"] : List Str).map V.str, rfl, .inr (SqT.of upd_same), rfl, flat_strs _, _, rfl, ?_⟩
        rw [show (if false = true then !inV (.str sg) ((["/", ":"] : List Str).map V.str) else inV (.str sg) ((["/", ":"] : List Str).map V.str)) = decide (sg ∈ (["/", ":"] : List Str)) by rw [if_neg Bool.false_ne_true, inV_str]]
        have em : sg ∈ (["/", ":"] : List Str) ↔ (sg = "/" ∨ sg = ":") := by simp
        have rest : ¬ ((sg = "/" ∨ sg = ":") ∧ y = 0) → ∀ H4, Same H H4 → tRet (tCall (spBounded pG) [] E0 (tCons (tCall spNumOf [] E0 (tCons (tVar 0) (tCons (tVar 1) (tCons (tVar 2) tNil)))) tNil)) { nx := fun _ H' => Q .non H', rt := Q } [some (.str sg), some (.int x), some (.int y)] H4 := fun hno H4 s4 => by
          refine ⟨_, rfl, _, rfl, _, rfl, sg, x, y, rfl, bg_of bx, bg_of yb, fun e z => hno ⟨e, z⟩, _, rfl, ?_⟩
          refine q H4 _ s4 ?_
          show PvV K H4 _ (if (sg = "/" ∨ sg = ":") ∧ y = 0 then nought else bndD (opZ sg x y))
          rw [if_neg hno]
          unfold bndD
          by_cases hb : numD (.int (opZ sg x y)) = true
          · rw [if_pos hb, if_pos hb]
            exact .inl ⟨_, rfl, rfl, bnd_of hb⟩
          · rw [if_neg hb, if_neg hb]
            exact .inr ⟨pG, _, rfl, hG H4, rfl, .inl rfl⟩
        refine ite2 (fun h => ?_) (fun h => ?_)
        · have hs := em.mp (of_decide_eq_true h)
          refine ⟨_, rfl, rfl, _, rfl, ite2 (fun h => ?_) (fun h => ?_)⟩
          · have hy0 : y = 0 := V.int.inj (of_decide_eq_true h)
            refine q _ _ s03 ?_
            show PvV K _ _ (if (sg = "/" ∨ sg = ":") ∧ y = 0 then nought else bndD (opZ sg x y))
            rw [if_pos ⟨hs, hy0⟩]
            exact .inr ⟨pN, _, rfl, hN _, rfl, .inr rfl⟩
          · exact rest (fun z => h (decide_eq_true (congrArg V.int z.2))) _ s03
        · exact rest (fun z => h (decide_eq_true (em.mpr z.1))) _ s03
      · obtain ⟨f1, f2⟩ := fault_gn hy
        refine ⟨_, rfl, _, _, rfl, .tup hq (.cons (.str _) (.cons (.str _) .nil)), f2, fun H2 s2 => ⟨_, rfl, ?_⟩⟩
        rw [f1]
        exact iteT ⟨_, rfl, q _ _ (s1.trans s2) (.inr ⟨a, y, rfl, s2.seqT hq, rfl, hy⟩)⟩
    · obtain ⟨f1, f2⟩ := fault_gn hy
      refine ⟨_, rfl, _, _, rfl, .tup hq (.cons (.str _) (.cons (.str _) .nil)), f2, fun H1 s1 => ⟨_, rfl, ?_⟩⟩
      rw [f1]
      exact iteT ⟨_, rfl, q _ _ s1 (.inr ⟨a, y, rfl, s1.seqT hq, rfl, hy⟩)⟩
def envOf (kvs : List (Key × V)) (z : Str) : Int := match valV kvs (.inr z) with
  | some (.int i) => i
  | _ => 0
theorem envOf_of {kvs : List (Key × V)} {z : Str} {i : Int} (h : valV kvs (.inr z) = some (.int i)) : envOf kvs z = i := by unfold envOf; rw [h]
def EnvOk (kvs : List (Key × V)) (zs : List Str) : Prop := ∀ z ∈ zs, Nl z → ∃ i, valV kvs (.inr z) = some (.int i) ∧ bnd F60 i
/-- what the words come to -/
def valOf (kvs : List (Key × V)) (zs : List Str) : PyData := (pileOf (envOf kvs) zs).headD .none
def spReck (K : PySem.W.Frag) : Sp := fun vs H Q _ => ∃ (a d : Addr) (zs : List Str) (kvs : List (Key × V)), vs = [.ref a, .ref d] ∧ SqL K H a (zs.map V.str) ∧ H d = some (.dK kvs) ∧ zs.length ≤ 100 ∧ Pre zs 1 0 ∧ EnvOk kvs zs ∧ ∀ H' v, Same H H' → PvV K H' v (valOf kvs zs) → Q v H'
abbrev Nrk : List Str := ["words", "numbers", "waiting", "word", "one", "other"]
theorem sc_reckoned : FnScope Nrk ["words", "numbers"] (defScope s_reckoned) := ⟨rfl, rfl, rfl, by decide +kernel, rfl, by decide +kernel, by decide +kernel⟩
theorem pre_drop : ∀ {zs : List Str} {n m : Nat} (i : Nat), Pre zs n m → ∃ k, Pre (zs.drop i) k m
  | zs, n, m, 0, h => ⟨n, h⟩
  | [], n, m, i + 1, h => ⟨n, h⟩
  | z :: r, n, m, i + 1, h => by
    rcases h.2 with q | q
    · exact pre_drop i q.2
    · exact pre_drop i q.2
theorem k_reckoned (T : Tops K mg) : Known P w K mg base CX0 5 "reckoned" ["words", "numbers"] (spReck K) := by
  have G_is_name : Known P w K mg base CX0 1 "is_name" ["thing"] (spName K) := k_is_name T
  have G_joined : Known P w K mg base CX0 4 "joined" ["sign", "one", "other"] (spJoin K) := k_joined T
  obtain ⟨pS, hS, hSq⟩ := T.g_SIGNS
  refine T.d_reckoned.known sc_reckoned (fun _ _ _ _ _ _ us hl => match us, hl with | [_, _], _ => rfl) (fun vs H Q E h => ?_) (fun f cdv A outer s H vs Q E hr h => ?_)
  · obtain ⟨a, d, zs, kvs, rfl, _⟩ := h
    rfl
  · obtain ⟨a, d, zs, kvs, rfl, hq, hd, hl, hP, hE, q⟩ := h
    have hu := hu_of hr
    refine ⟨_, (pss_cons (ps_set (i := 2) sc_reckoned.nd rfl (Or.inl rfl) (pe_lst pa_nil))
      (pss_cons (ps_for PassesOwn.never rfl (pi_rev (pv 0) rfl T.reversed b_reversed') (pg_name (i := 3) sc_reckoned.nd rfl (Or.inl rfl)) (pss_one (ps_if (pt_cmpR op_in_seq (pv 3) (pe_gR hS) (by with_unfolding_all rfl)) (pss_cons (ps_set (i := 4) sc_reckoned.nd rfl (Or.inl rfl) (pe_bm0 PySem.F.plainAttrs_list PySem.F.slot_list_pop PySem.F.type_list_pop mt_pop (pv 2)))
      (pss_cons (ps_set (i := 5) sc_reckoned.nd rfl (Or.inl rfl) (pe_bm0 PySem.F.plainAttrs_list PySem.F.slot_list_pop PySem.F.type_list_pop mt_pop (pv 2)))
      (pss_one (ps_expr (pe_bm PySem.F.plainAttrs_list PySem.F.slot_list_append PySem.F.type_list_append mt_append (pv 2) (pa_cons (pe_callN G_joined (hr.mono (by decide)) pass0 (pa_cons (pv 3) (pa_cons (pv 4) (pa_cons (pv 5) pa_nil)))) pa_nil)))))) (pss_one (ps_if (pt_val (pe_callN G_is_name (hr.mono (by decide)) pass0 (pa_cons (pv 3) pa_nil)) (fun _ => rfl)) (pss_one (ps_expr (pe_bm PySem.F.plainAttrs_list PySem.F.slot_list_append PySem.F.type_list_append mt_append (pv 2) (pa_cons (pe_dget hu (pv 1) (pv 3) (fun _ _ => rfl)) pa_nil)))) (pss_one (ps_expr (pe_bm PySem.F.plainAttrs_list PySem.F.slot_list_append PySem.F.type_list_append mt_append (pv 2) (pa_cons (pe_callTy call_int_text rfl T.int b_int (pa_cons (pv 3) pa_nil)) pa_nil)))))))))
      (pss_one (ps_ret (pe_ix ix_list (pv 2) pe_int (fun _ _ => rfl)))))), ?_⟩
    refine ⟨sl, fun wl hwl => ?_⟩
    have s1 := Same.new (o := .lst []) hwl
    refine ⟨_, rfl, a, _, rfl, s1.seq hq, ?_⟩
    have hlz : (zs.map V.str).length = zs.length := List.length_map ..
    refine for_rev (K := K) (a := a) (xs := zs.map V.str) (fun i σ H2 => ∃ o3 o4 o5 vs, σ = [some (.ref a), some (.ref d), some (.ref wl), o3, o4, o5] ∧ Same H H2 ∧ H2 wl = some (.lst vs) ∧ Pile K H2 vs (pileOf (envOf kvs) (zs.drop (zs.length - i))))
      ⟨_, _, _, [], rfl, s1, upd_same, by rw [Nat.sub_zero, List.drop_length]; exact .nil⟩ (fun i σ H2 _ ⟨_, _, _, _, _, s2, _⟩ => s2.seq hq) ?_ ?_
    · rintro i x σ H2 hx ⟨o3, o4, o5, vs, rfl, s2, h2, hp⟩
      rw [← List.map_reverse] at hx
      obtain ⟨z, hz, rfl⟩ := str_at hx
      have hi : i < zs.length := by
        have := (List.getElem?_eq_some_iff.mp hz).1
        rw [List.length_reverse] at this
        exact this
      rw [List.getElem?_reverse hi] at hz
      have hzm := List.mem_of_getElem? hz
      have ed : zs.drop (zs.length - (i + 1)) = z :: zs.drop (zs.length - i) := by
        have e1 : zs.length - (i + 1) = zs.length - 1 - i := by omega
        have e2 : zs.length - i = zs.length - 1 - i + 1 := by omega
        rw [e1, e2, drop_at hz]
      have hpl : (pileOf (envOf kvs) (zs.drop (zs.length - (i + 1)))) = stepD (envOf kvs) z (pileOf (envOf kvs) (zs.drop (zs.length - i))) := by rw [ed]; rfl
      obtain ⟨k, hk⟩ := pre_drop (zs.length - (i + 1)) hP
      rw [ed] at hk
      have hbn : ∀ y ∈ zs, Nl y → bnd F60 (envOf kvs y) := fun y hy ny => by
        obtain ⟨j, e, b⟩ := hE y hy ny
        rw [envOf_of e]
        exact b
      have hlv : vs.length ≤ i := by
        have e1 : vs.length = (pileOf (envOf kvs) (zs.drop (zs.length - i))).length := by
          have := Paired.length hp
          rw [List.length_reverse] at this
          exact this
        have : ∀ ys : List Str, (pileOf (envOf kvs) ys).length ≤ ys.length := by
          intro ys
          induction ys with
          | nil => exact Nat.le_refl _
          | cons y r ih =>
            show (stepD _ y (pileOf _ r)).length ≤ r.length + 1
            unfold stepD
            split
            · split
              · rename_i e
                rw [e] at ih
                simp at ih ⊢
                omega
              · omega
            · simp; omega
        have := this (zs.drop (zs.length - i))
        rw [List.length_drop] at this
        omega
      refine ⟨_, rfl, pS, sgns.map V.str, rfl, .inr (hSq H2), rfl, flat_strs sgns, _, rfl, ?_⟩
      rw [show (if false = true then !inV (.str z) (sgns.map V.str) else inV (.str z) (sgns.map V.str)) = decide (z ∈ sgns) by rw [if_neg Bool.false_ne_true, inV_str]]
      refine ite2 (fun h => ?_) (fun h => ?_)
      · have hz' : z ∈ sgns := of_decide_eq_true h
        rcases hk.2 with ⟨_, hk⟩ | ⟨hk, _⟩
        · have h0 := hk
          obtain ⟨pl, _⟩ := pile_ok hk fun y hy => hbn y (List.mem_of_mem_drop hy)
          have k0 := ‹Pre (z :: zs.drop (zs.length - i)) k 0›.1
          match hpo : pileOf (envOf kvs) (zs.drop (zs.length - i)), pl, hp with
          | [], pl, _ => simp at pl
          | [_], pl, _ => simp at pl; omega
          | d1 :: d2 :: t, _, hp =>
            obtain ⟨us1, v1, rfl, hv1, hp1⟩ := Pile.pop hp
            obtain ⟨us, v2, rfl, hv2, hp2⟩ := Pile.pop hp1
            refine ⟨_, rfl, .inl ⟨rfl, _, SqL.of h2⟩, wl, _, v1, rfl, rfl, h2, pop_last.1, ?_⟩
            rw [pop_last.2]
            have g1 : upd H2 wl (.lst (us ++ [v2])) wl = some (.lst (us ++ [v2])) := upd_same
            refine ⟨_, rfl, .inl ⟨rfl, _, SqL.of g1⟩, wl, _, v2, rfl, rfl, g1, pop_last.1, ?_⟩
            rw [pop_last.2]
            have g2 : upd (upd H2 wl (.lst (us ++ [v2]))) wl (.lst us) wl = some (.lst us) := upd_same
            have s3 : Same H (upd (upd H2 wl (.lst (us ++ [v2]))) wl (.lst us)) := fun b o e => by
              rw [upd_ne (ne_of_none e hwl), upd_ne (ne_of_none e hwl)]
              exact s2 _ _ e
            have w1 := (hv1.upd (o := .lst (us ++ [v2])) h2).upd (o := .lst us) g1
            have w2 := (hv2.upd (o := .lst (us ++ [v2])) h2).upd (o := .lst us) g1
            have w3 := (hp2.upd (o := .lst (us ++ [v2])) h2).upd (o := .lst us) g1
            generalize upd (upd H2 wl (.lst (us ++ [v2]))) wl (.lst us) = H3 at g2 s3 w1 w2 w3 ⊢
            refine ⟨_, rfl, .inl ⟨rfl, _, SqL.of g2⟩, _, rfl, _, rfl, _, rfl, z, v1, v2, d1, d2, rfl, w1, w2, fun H4 v s4 hv => ?_⟩
            have g4 := s4 _ _ g2
            refine ⟨wl, _, _, rfl, rfl, g4, small1000 (by simp at hlv; omega), ?_⟩
            refine ⟨_, _, _, _, rfl, fun b o e => ?_, upd_same, ?_⟩
            · rw [upd_ne (ne_of_none e hwl)]
              exact s4 _ _ (s3 _ _ e)
            · rw [hpl, hpo]
              unfold stepD
              rw [if_pos hz']
              exact ((w3.same s4).push hv).upd g4
        · exact absurd hz' hk.ns
      · have hz' : z ∉ sgns := fun y => h (decide_eq_true y)
        rcases hk.2 with ⟨hk, _⟩ | ⟨ho, _⟩
        · exact absurd hk hz'
        · have hl1 := ho.len
          have est : stepD (envOf kvs) z (pileOf (envOf kvs) (zs.drop (zs.length - i))) = .int (wordZ (envOf kvs) z) :: pileOf (envOf kvs) (zs.drop (zs.length - i)) := by
            unfold stepD
            rw [if_neg hz']
          have fin : ∀ (H4 : Hp) (j : Int), Same H2 H4 → wordZ (envOf kvs) z = j → bnd F60 j → ∃ (o3 o4' o5' : Option V) (vs' : List V), ([some (.ref a), some (.ref d), some (.ref wl), some (.str z), o4, o5] : St) = [some (.ref a), some (.ref d), some (.ref wl), o3, o4', o5'] ∧ Same H (upd H4 wl (.lst (vs ++ [.int j]))) ∧ upd H4 wl (.lst (vs ++ [.int j])) wl = some (.lst vs') ∧ Pile K (upd H4 wl (.lst (vs ++ [.int j]))) vs' (pileOf (envOf kvs) (zs.drop (zs.length - (i + 1)))) := fun H4 j s4 ej bj => by
            refine ⟨_, _, _, _, rfl, fun b o e => ?_, upd_same, ?_⟩
            · rw [upd_ne (ne_of_none e hwl)]
              exact s4 _ _ (s2 _ _ e)
            · rw [hpl, est, ej]
              exact ((hp.same s4).push (.inl ⟨j, rfl, rfl, bj⟩)).upd (s4 _ _ h2)
          refine ⟨_, rfl, _, .str z, rfl, .str z, shortS_str (by omega), fun H3 s3 => ⟨_, rfl, ?_⟩⟩
          rcases ho with ho | ⟨j, ho⟩
          · rw [show nameD (.str z) = true from ho.is]
            obtain ⟨j, ej, bj⟩ := hE z hzm ho
            have ew : wordZ (envOf kvs) z = j := by unfold wordZ; rw [if_pos ho.is, envOf_of ej]
            refine iteT ⟨_, rfl, .inl ⟨rfl, _, SqL.of (s3 _ _ h2)⟩, _, rfl, _, rfl, d, _, rfl, ej ▸ DGet.k (k := Sum.inr z) ((s2.trans s3) _ _ hd), wl, _, _, rfl, rfl, s3 _ _ h2, small1000 (by omega), ?_⟩
            exact fin H3 j s3 ew bj
          · rw [show nameD (.str z) = false from ho.nn]
            have ew : wordZ (envOf kvs) z = j := by unfold wordZ; rw [ho.nn, if_neg Bool.false_ne_true, ho.reads.1]; rfl
            refine iteF ⟨_, rfl, .inl ⟨rfl, _, SqL.of (s3 _ _ h2)⟩, _, rfl, z, j, rfl, ho.reads.1, by omega, wl, _, _, rfl, rfl, s3 _ _ h2, small1000 (by omega), ?_⟩
            exact fin H3 j s3 ew ho.1
    · rintro σ H2 ⟨o3, o4, o5, vs, rfl, s2, h2, hp⟩
      rw [hlz, Nat.sub_self, List.drop_zero] at hp
      have hbn : ∀ y ∈ zs, Nl y → bnd F60 (envOf kvs y) := fun y hy ny => by
        obtain ⟨j, e, b⟩ := hE y hy ny
        rw [envOf_of e]
        exact b
      obtain ⟨pl, _⟩ := pile_ok hP hbn
      match hpo : pileOf (envOf kvs) zs, pl, hp with
      | [d1], _, hp =>
        obtain ⟨us, v, e, hv, hp1⟩ := Pile.pop hp
        have eu : us = [] := by
          have := Paired.length hp1
          simpa using this
        subst eu e
        refine ⟨_, rfl, wl, _, _, _, rfl, rfl, SqL.of h2, rfl, q _ _ s2 ?_⟩
        unfold valOf
        rw [hpo]
        exact hv
      | [], pl, _ => simp at pl
      | _ :: _ :: _, pl, _ => simp at pl
end
end My

namespace My
open PySem L2
section
variable {P : Program} {w : World} {K : PySem.W.Frag} {mg : Str → Option Value} {base : Heap}
/-- a rule read: its kind is called with its words -/
def spRdRule (kd : Str) (sp : Sp) : Sp := fun vs H Q _ => ∃ (z : Str) (ws : List Str), vs = [.str z] ∧ z.length ≤ 9000 ∧ Txt.split z " " = kd :: ws ∧ ∀ H1 c, Same H H1 → H c = none → H1 c = some (.lst (ws.map V.str)) → sp [.ref c] H1 Q E0
theorem sc_read_rule : FnScope ["text", "words"] ["text"] (defScope s_read_rule) := ⟨rfl, rfl, rfl, by decide +kernel, rfl, by decide +kernel, by decide +kernel⟩
theorem cut1 (kd : Str) (ws : List Str) : cutV ((kd :: ws).map V.str) (some 1) none = ws.map V.str := by
  unfold cutV
  rw [show HT.sIx ((kd :: ws).map V.str).length 0 (some 1) = 1 from (HT.sIx_nat _ _ 1).trans (by simp), HT.sIx_none]
  simp [List.take_of_length_le]
theorem at_cons {α : Type} (x : α) (r : List α) : atI (x :: r) 0 = some x := by
  obtain ⟨v, h1, h2⟩ := at_some (x :: r) 0 (by decide) (by simp)
  rw [h1]
  simpa using h2.symm
theorem k_read_rule (T : Tops K mg) {pK g : Addr} (hK : mg "KINDS" = some (.ref pK)) (DK : KDict w.params K pK) {kd x : Str} {n : Nat} {sp : Sp} (hn : 1 ≤ n) (G : Known P w K mg base CX0 n x ["words"] sp) (hg : mg x = some (.ref g)) (hkg : PySem.W.nsIn K pK kd = some (some (.ref g))) :
    Known P w K mg base CX0 (n + 1) "read_rule" ["text"] (spRdRule kd sp) := by
  have G_refuse_unless : Known P w K mg base CX0 1 "refuse_unless" ["holds"] spRefuse := k_refuse_unless T
  refine T.d_read_rule.known sc_read_rule (fun _ _ _ _ _ _ us hl => match us, hl with | [_], _ => rfl) (fun vs H Q E h => ?_) (fun f cdv A outer s H vs Q E hr h => ?_)
  · obtain ⟨z, ws, rfl, _⟩ := h
    rfl
  · obtain ⟨z, ws, rfl, hz, hsp, q⟩ := h
    refine ⟨_, (pss_cons (ps_expr (pe_callN G_refuse_unless (hr.mono hn) pass0 (pa_cons (pe_callB call_isT rfl T.isinstance b_isinstance (pa_cons (pv 0) (pa_cons (pe_ty T.str b_str) pa_nil))) pa_nil)))
      (pss_cons (ps_set (i := 1) sc_read_rule.nd rfl (Or.inl rfl) (pe_bm PySem.F.plainAttrs_str PySem.F.slot_str_split PySem.F.type_str_split mt_splitB (pv 0) (pa_cons pe_str pa_nil)))
      (pss_cons (ps_expr (pe_callN G_refuse_unless (hr.mono hn) pass0 (pa_cons (pe_cmp (pc_kin DK (pe_ix ix_list (pv 1) pe_int (fun _ _ => rfl)) (pe_gR hK)) (by with_unfolding_all rfl)) pa_nil)))
      (pss_one (ps_ret (pe_callS G hr pass0 (pe_kget DK (pe_gR hK) (pe_ix ix_list (pv 1) pe_int (fun _ _ => rfl)) (fun _ _ => rfl)) (pa_cons (pe_slice sl_list (pv 1) (po_some pe_int) po_none) pa_nil))))))), ?_⟩
    refine ⟨_, rfl, _, "str", .str z, _, rfl, .str z, kit_str K _, rfl, ?_⟩
    refine ⟨_, rfl, rfl, z, " ", rfl, rfl, by decide, hz, fun l hl => ?_⟩
    rw [hsp]
    have s1 := Same.new (o := .lst ((kd :: ws).map V.str)) hl
    have h1 : upd H l (.lst ((kd :: ws).map V.str)) l = some (.lst ((kd :: ws).map V.str)) := upd_same
    generalize upd H l (.lst ((kd :: ws).map V.str)) = H1 at s1 h1 ⊢
    have e0 : atI ((kd :: ws).map V.str) 0 = some (.str kd) := at_cons _ _
    refine ⟨_, rfl, l, _, _, _, rfl, rfl, SqL.of h1, e0, pK, kd, _, rfl, rfl, hkg, rfl, ?_⟩
    refine ⟨_, rfl, l, _, _, _, rfl, rfl, SqL.of h1, e0, pK, kd, g, rfl, rfl, hkg, g, rfl, hg, ?_⟩
    refine ⟨_, rfl, _, rfl, l, _, rfl, SqL.of h1, fun c hc => ?_⟩
    have s2 := Same.new (o := .lst (cutV ((kd :: ws).map V.str) (some 1) none)) hc
    exact q _ c (s1.trans s2) (none_back s1 hc) (by rw [cut1]; exact upd_same)
end
end My

namespace My
open PySem L2
/-! ### the function that a rule holds, a lambda -/
def KeepF (W : List Addr) (H H' : Hp) : Prop := ∀ b o, ((b ∈ W ∧ ∃ xs, o = HO.lst xs) ∨ ∃ u, o = Fz u) → H b = some o → H' b = some o
theorem KeepF.of {W : List Addr} {H H' : Hp} (s : Same H H') : KeepF W H H' := fun b o _ e => s b o e
theorem KeepF.c {W : List Addr} {H H' : Hp} (s : KeepC H H') : KeepF W H H' := fun b o n e => s b o (fun φ z => by
  rcases n with ⟨_, xs, y⟩ | ⟨u, y⟩
  · rw [y] at z; cases z
  · rw [y] at z; cases z) e
theorem KeepF.trans {W : List Addr} {H H1 H2 : Hp} (a : KeepF W H H1) (b : KeepF W H1 H2) : KeepF W H H2 := fun c o n e => b c o n (a c o n e)
theorem KeepF.but {W : List Addr} {H H' : Hp} {l : Addr} (hW : l ∉ W) (s : But l H H') (h : ∀ u, H l ≠ some (Fz u)) : KeepF W H H' := fun b o n e => s b o (fun z => by
  rcases n with ⟨n, _⟩ | ⟨u, y⟩
  · exact hW (z ▸ n)
  · rw [z, y] at e; exact h u e) e
def StabF (W : List Addr) (LP : Hp → Prop) : Prop := ∀ H H', KeepF W H H' → LP H → LP H'
def LPof (q : Str) (params : Arguments) (body : Expr) (scope : Scope) (clos : List (Str × Addr)) (fa : Addr) (f : Lend) : Hp → Prop := fun H => LamAt q params body scope clos H fa ∧ ∀ b o, f b = some o → H b = some (Fz o)
theorem stab_LPof {W : List Addr} {q : Str} {params : Arguments} {body : Expr} {scope : Scope} {clos : List (Str × Addr)} {fa : Addr} {f : Lend} : StabF W (LPof q params body scope clos fa f) := fun H H' s ⟨⟨pm, c, ctv, o, e1, e2, e3⟩, h⟩ =>
  ⟨⟨pm, c, ctv, o, s _ _ (.inr ⟨_, rfl⟩) e1, s _ _ (.inr ⟨_, rfl⟩) e2, e3⟩, fun b o e => s _ _ (.inr ⟨_, rfl⟩) (h b o e)⟩
/-- how it is called: pre says of what, g tells the data of what comes -/
def spLf (K : PySem.W.Frag) (LP : Hp → Prop) (pre : List Int → Prop) (g : List Int → PyData) : Sp := fun vs H Q _ => ∃ (l : Addr) (is : List Int), vs = [.ref l] ∧ LP H ∧ H l = some (.lst (is.map V.int)) ∧ is.length ≤ 100 ∧ pre is ∧ ∀ H' v, Same H H' → Dt K H' v (g is) → Q v H'
/-- lists that the function holds -/
def Holds (ls : List (Addr × List V)) (H : Hp) : Prop := ∀ p ∈ ls, H p.1 = some (.lst p.2)
def spBf (K : PySem.W.Frag) (ls : List (Addr × List V)) (pre : List Int → Prop) (g : List Int → PyData) : List V → Hp → VK → Prop := fun vs H Q => ∃ (l : Addr) (is : List Int), vs = [.ref l] ∧ Holds ls H ∧ H l = some (.lst (is.map V.int)) ∧ is.length ≤ 100 ∧ pre is ∧ ∀ H' v, Same H H' → Dt K H' v (g is) → Q v H'
theorem fn_lam {P : Program} {w : World} {K : PySem.W.Frag} {mg : Str → Option Value} {base : Heap} {k : Nat} {q : Str} {params : Arguments} {body : Expr} {scope : Scope} {clos : List (Str × Addr)} {fa : Addr} {f : Lend} {ls : List (Addr × List V)} {pre : List Int → Prop} {g : List Int → PyData}
    (F : LamFn P w K mg base k fa (spLam fa f q params body scope clos 1 (spBf K ls pre g))) : LamFn P w K mg base k fa (spLf K (fun H => LPof q params body scope clos fa f H ∧ Holds ls H) pre g) := by
  refine F.imp fun vs H Q E h => ?_
  obtain ⟨l, is, rfl, ⟨⟨la, lf⟩, hls⟩, hl, h1, h2, qq⟩ := h
  have fl : ∀ b xs, H b = some (.lst xs) → f b = none := fun b xs hb => by
    cases e : f b with
    | none => rfl
    | some o => rw [lf b o e] at hb; cases hb
  refine ⟨rfl, la, lf, l, is, rfl, fun p hp => by rw [unl_no (fl _ _ (hls p hp))]; exact hls p hp, by rw [unl_no (fl _ _ hl)]; exact hl, h1, h2, fun H' v s' hd fr => ?_⟩
  have sL : Same H' (lend f H') := fun b o e => by
    cases e2 : f b with
    | none => rw [lend_no e2]; exact e
    | some ob => rw [fr b ob e2] at e; cases e
  refine qq _ v (fun b o e => ?_) (hd.same sL)
  cases e2 : f b with
  | none => rw [lend_no e2]; exact s' b o (by rw [unl_no e2]; exact e)
  | some ob =>
    rw [lf b ob e2] at e
    rw [lend_at e2]; exact e
theorem stab_holds {ls : List (Addr × List V)} {q : Str} {params : Arguments} {body : Expr} {scope : Scope} {clos : List (Str × Addr)} {fa : Addr} {f : Lend} : StabF (ls.map (·.1)) (fun H => LPof q params body scope clos fa f H ∧ Holds ls H) := fun H H' s ⟨h1, h2⟩ =>
  ⟨stab_LPof _ _ s h1, fun p hp => s _ _ (.inl ⟨List.mem_map_of_mem hp, _, rfl⟩) (h2 p hp)⟩
/-- the function at fa, in H -/
def FnAt (P : Program) (w : World) (K : PySem.W.Frag) (mg : Str → Option Value) (base : Heap) (k : Nat) (W : List Addr) (H : Hp) (fa : Addr) (pre : List Int → Prop) (g : List Int → PyData) : Prop := ∃ LP, LamFn P w K mg base k fa (spLf K LP pre g) ∧ LP H ∧ StabF W LP
theorem FnAt.keep {P : Program} {w : World} {K : PySem.W.Frag} {mg : Str → Option Value} {base : Heap} {k : Nat} {W : List Addr} {H H' : Hp} {fa : Addr} {pre : List Int → Prop} {g : List Int → PyData} (s : KeepF W H H') (h : FnAt P w K mg base k W H fa pre g) : FnAt P w K mg base k W H' fa pre g := by
  obtain ⟨LP, h1, h2, h3⟩ := h
  exact ⟨LP, h1, h3 _ _ s h2, h3⟩
structure RC (K : PySem.W.Frag) (mg : Str → Option Value) (C : Addr) : Prop where
  cl : Cls K C
  n_function : NoAttr K C "function"
  m_reckon : Mth K C "reckon" "Rule.reckon" s_Rule_reckon
section
variable {P : Program} {w : World} {K : PySem.W.Frag} {mg : Str → Option Value} {base : Heap}
def spReckonF (P : Program) (w : World) (K : PySem.W.Frag) (mg : Str → Option Value) (base : Heap) (k : Nat) (C : Addr) : Sp := fun vs H Q _ => ∃ (p a fa dx : Addr) (W : List Addr) (fs : List (Str × V)) (pre : List Int → Prop) (g : List Int → PyData) (is : List Int), vs = [.ref p, .ref a] ∧ H p = some (.ins C dx fs) ∧ fs.lookup ("function" : Str) = some (.ref fa) ∧ FnAt P w K mg base k W H fa pre g ∧ SqL K H a (is.map V.int) ∧ is.length ≤ 100 ∧ pre is ∧ shortD (g is) ∧ valueD (g is) = true ∧
  ∀ H' v, Same H H' → Dt K H' v (g is) → Q v H'
theorem sc_Rule_reckon' : FnScope ["self", "some"] ["self", "some"] (defScope s_Rule_reckon) := ⟨rfl, rfl, rfl, by decide +kernel, rfl, by decide +kernel, by decide +kernel⟩
theorem k_reckonF (T : Tops K mg) {C : Addr} (Y : RC K mg C) {k : Nat} (hk : 4 ≤ k) : KnownM P w K mg base CX0 (k + 1) C "reckon" ["self", "some"] (spReckonF P w K mg base k C) := by
  obtain ⟨pO, hpO, hO⟩ := T.g_ODD
  have G_settled : Known P w K mg base CX0 4 "settled" ["thing"] (spSettled K pO) := k_settled T hpO
  refine Y.m_reckon.known sc_Rule_reckon' (fun _ _ _ _ _ _ us hl => match us, hl with | [_, _], _ => rfl) (fun vs H Q E h => ?_) (fun f cdv A outer s H vs Q E hr h => ?_)
  · obtain ⟨p, a, fa, dx, W, fs, pre, g, is, rfl, _⟩ := h
    rfl
  · obtain ⟨p, a, fa, dx, W, fs, pre, g, is, rfl, hp, hf, ⟨LP, F, lp, st⟩, hq, l1, hpre, sh, vd, q⟩ := h
    refine ⟨_, (pss_one (ps_ret (pe_callN G_settled (hr.mono hk) pass0 (pa_cons (pe_callF (k := k) (pv 0) hr (pa_cons (pe_callTy call_list_of rfl T.list b_list (pa_cons (pv 1) pa_nil)) pa_nil)) pa_nil)))), ?_⟩
    refine ⟨_, rfl, p, C, dx, fs, fa, _, rfl, hp, Y.cl, Y.n_function, hf, F, _, rfl, a, _, rfl, .inl hq, fun xl hxl => ?_⟩
    have s1 := Same.new (o := .lst (is.map V.int)) hxl
    refine ⟨xl, is, rfl, st _ _ (KeepF.of s1) lp, upd_same, l1, hpre, fun H3 v s3 hd => ?_⟩
    refine ⟨v, _, rfl, hd, sh, fun H4 s4 => ?_⟩
    rw [if_pos vd]
    exact q H4 v ((s1.trans s3).trans s4) (hd.same s4)
end
end My

namespace My
open PySem L2
/-! ### cells looked at in turn -/
def turnGo (val : Spot3 → V) : List Spot3 → List V → List Spot3 × Res
  | [], acc => ([], .call acc)
  | z :: r, acc => if isRef (val z) then ([z], .val (val z)) else (z :: (turnGo val r (acc ++ [val z])).1, (turnGo val r (acc ++ [val z])).2)
def turnOf (vw : Vw) (zs : List Spot3) : List Spot3 × Res := turnGo (valAt vw) zs []
theorem turnGo_app {val : Spot3 → V} : ∀ {xs ys : List Spot3} {acc : List V}, (∀ z ∈ xs, isRef (val z) = false) → turnGo val (xs ++ ys) acc = (xs ++ (turnGo val ys (acc ++ xs.map val)).1, (turnGo val ys (acc ++ xs.map val)).2)
  | [], ys, acc, _ => by simp
  | x :: xs, ys, acc, h => by
    rw [List.cons_append]
    show (if isRef (val x) then _ else _) = _
    rw [h x List.mem_cons_self, if_neg Bool.false_ne_true, turnGo_app (xs := xs) fun z hz => h z (List.mem_cons_of_mem _ hz)]
    simp [List.append_assoc]
theorem turn_end {vw : Vw} {zs : List Spot3} (h : ∀ z ∈ zs, isRef (valAt vw z) = false) : turnOf vw zs = (zs, .call (zs.map (valAt vw))) := by
  have := turnGo_app (val := valAt vw) (xs := zs) (ys := []) (acc := []) h
  rw [List.append_nil] at this
  unfold turnOf
  rw [this]
  simp [turnGo]
theorem turn_at {vw : Vw} {zs : List Spot3} {i : Nat} {z : Spot3} (hz : zs[i]? = some z) (h : ∀ y ∈ zs.take i, isRef (valAt vw y) = false) (hr : isRef (valAt vw z) = true) : turnOf vw zs = (zs.take (i + 1), .val (valAt vw z)) := by
  have hi := (List.getElem?_eq_some_iff.mp hz).1
  have e : zs = zs.take i ++ (z :: zs.drop (i + 1)) := by
    have h1 : zs.drop i = zs[i] :: zs.drop (i + 1) := List.drop_eq_getElem_cons hi
    rw [(List.getElem?_eq_some_iff.mp hz).2] at h1
    rw [← h1, List.take_append_drop]
  have := turnGo_app (val := valAt vw) (xs := zs.take i) (ys := z :: zs.drop (i + 1)) (acc := []) h
  unfold turnOf
  rw [← e] at this
  rw [this]
  simp only [turnGo, hr, if_true]
  rw [List.take_add_one, hz]
  rfl
/-- all cells are there -/
def There (vw : Vw) (H : Hp) (zs : List Spot3) : Prop := ∀ z ∈ zs, ∃ v, vw z = some v ∧ WV H v
theorem There.keep {vw : Vw} {H H' : Hp} {zs : List Spot3} (s : Keep H H') (h : There vw H zs) : There vw H' zs := fun z hz => let ⟨v, e, q⟩ := h z hz; ⟨v, e, q.keep s⟩
section
variable {P : Program} {w : World} {K : PySem.W.Frag} {mg : Str → Option Value} {base : Heap}
def spTurn (P : Program) (w : World) (K : PySem.W.Frag) (mg : Str → Option Value) (base : Heap) : Sp := fun vs H Q _ => ∃ (look cl nl : Addr) (H0 : Hp) (vw : Vw) (cv : List V) (zs ns : List Spot3), vs = [.ref look, .ref cl] ∧ LamFn P w K mg base 2 look (spLk H0 nl vw) ∧ But nl H0 H ∧ LkS nl ns H ∧ H cl = some (.lst cv) ∧ cl ≠ nl ∧ Nts H cv zs ∧ There vw H zs ∧ ns.length + zs.length ≤ 800 ∧
  ∀ H' fv, But nl H H' → LkS nl (ns ++ (turnOf vw zs).1) H' → Found H H' fv (turnOf vw zs).2 → Q fv H'
abbrev Nturn : List Str := ["look", "cells", "numbers", "table", "column", "place", "value"]
theorem sc_look_in_turn : FnScope Nturn ["look", "cells"] (defScope s_look_in_turn) := ⟨rfl, rfl, rfl, by decide +kernel, rfl, by decide +kernel, by decide +kernel⟩
theorem k_look_in_turn (T : Tops K mg) : Known P w K mg base CX0 3 "look_in_turn" ["look", "cells"] (spTurn P w K mg base) := by
  have G_is_fault : Known P w K mg base CX0 2 "is_fault" ["thing"] (spFault K) := k_is_fault T
  refine T.d_look_in_turn.known sc_look_in_turn (fun _ _ _ _ _ _ us hl => match us, hl with | [_, _], _ => rfl) (fun vs H Q E h => ?_) (fun f cdv A outer s H vs Q E hr h => ?_)
  · obtain ⟨look, cl, nl, H0, vw, cv, zs, ns, rfl, _⟩ := h
    rfl
  · obtain ⟨look, cl, nl, H0, vw, cv, zs, ns, rfl, F1, b0, lk, hc, hcn, hN, hT, hlen, q⟩ := h
    refine ⟨_, (pss_cons (ps_set (i := 2) sc_look_in_turn.nd rfl (Or.inl rfl) (pe_lst pa_nil))
      (pss_cons (ps_for PassesOwn.never rfl (pi_list (pv 1)) (pg_tup rfl (pgs_cons (pg_name (i := 3) sc_look_in_turn.nd rfl (Or.inl rfl)) (pgs_cons (pg_name (i := 4) sc_look_in_turn.nd rfl (Or.inl rfl)) (pgs_cons (pg_name (i := 5) sc_look_in_turn.nd rfl (Or.inl rfl)) pgs_nil)))) (pss_cons (ps_set (i := 6) sc_look_in_turn.nd rfl (Or.inl rfl) (pe_callV 0 hr (pa_cons (pv 3) (pa_cons (pv 4) (pa_cons (pv 5) pa_nil)))))
      (pss_cons (ps_if (pt_val (pe_callN G_is_fault (hr.mono (by decide)) pass0 (pa_cons (pv 6) pa_nil)) (fun _ => rfl)) (pss_one (ps_ret (pe_tup (pa_cons pe_str (pa_cons (pv 6) pa_nil))))) pss_nil)
      (pss_one (ps_expr (pe_bm PySem.F.plainAttrs_list PySem.F.slot_list_append PySem.F.type_list_append mt_append (pv 2) (pa_cons (pv 6) pa_nil)))))))
      (pss_one (ps_ret (pe_tup (pa_cons pe_str (pa_cons (pv 2) pa_nil))))))), ?_⟩
    refine ⟨sl, fun nm hnm => ?_⟩
    have s1 := Same.new (o := .lst []) hnm
    obtain ⟨as0, hn0⟩ := lk.list
    have nnm : nl ≠ nm := ne_of_none hn0 hnm
    have ncm : cl ≠ nm := ne_of_none hc hnm
    refine ⟨_, rfl, cl, rfl, ⟨_, SqL.of (s1 _ _ hc)⟩, ?_⟩
    refine for_list (K := K) (a := cl) (xs := cv) (fun i σ H2 => ∃ o3 o4 o5 o6, σ = [some (.ref look), some (.ref cl), some (.ref nm), o3, o4, o5, o6] ∧ But nl H H2 ∧ LkS nl (ns ++ zs.take i) H2 ∧ H2 nm = some (.lst ((zs.take i).map (valAt vw))) ∧ ∀ z ∈ zs.take i, isRef (valAt vw z) = false)
      ⟨_, _, _, _, rfl, But.of s1, by rw [List.take_zero, List.append_nil]; exact lk.same s1, upd_same, fun z hz => by simp at hz⟩ (fun i σ H2 _ ⟨_, _, _, _, _, b, _⟩ => SqL.of (b _ _ hcn hc)) ?_ ?_
    · rintro i x σ H2 hx ⟨o3, o4, o5, o6, rfl, b2, lk2, h2, hr2⟩
      obtain ⟨z, hz, a, rfl, ha⟩ := Nts.at hN hx
      have hzm : z ∈ zs := List.mem_of_getElem? hz
      have hi : i < zs.length := (List.getElem?_eq_some_iff.mp hz).1
      have htk : zs.take (i + 1) = zs.take i ++ [z] := by rw [List.take_add_one, hz]; rfl
      have kp2 := Keep.but b2 hn0
      have ha2 := kp2 _ _ (fun xs q => by cases q) ha
      obtain ⟨v, hv, hW⟩ := (hT.keep kp2) z hzm
      have ev := valAt_of hv
      refine ⟨a, _, rfl, SqT.of ha2, rfl, _, _, rfl, _, _, rfl, _, _, rfl, rfl, ?_⟩
      refine ⟨look, _, rfl, F1, _, rfl, _, rfl, _, rfl, z.1, z.2.1, z.2.2, v, ns ++ zs.take i, rfl, b0.trans b2, lk2, by rw [List.length_append, List.length_take]; omega, hv, fun H3 b3 lk3 => ?_⟩
      obtain ⟨as2, hn2⟩ := lk2.list
      have kp3 := Keep.but b3 hn2
      have hW3 := hW.keep kp3
      have h3 := b3 _ _ (Ne.symm nnm) h2
      obtain ⟨d, hd, _, _, _, hsh, kind⟩ := hW3.dt (K := K)
      refine ⟨_, rfl, v, d, rfl, hd, hsh, fun H4 s4 => ⟨_, rfl, ?_⟩⟩
      have lk4 := lk3.same s4
      have b4 := (b2.trans b3).trans (But.of s4)
      have lk4' : LkS nl (ns ++ zs.take (i + 1)) H4 := by rw [htk, ← List.append_assoc]; exact lk4
      rcases kind with ⟨j, rfl, rfl⟩ | ⟨b, y, rfl, hz', rfl, hf⟩
      · refine iteF ?_
        have h4 := s4 _ _ h3
        refine ⟨_, rfl, .inl ⟨rfl, _, SqL.of h4⟩, _, rfl, nm, _, _, rfl, rfl, h4, small1000 (by rw [List.length_map, List.length_take]; omega), ?_⟩
        have e5 : (zs.take (i + 1)).map (valAt vw) = (zs.take i).map (valAt vw) ++ [.int j] := by rw [htk, List.map_append, List.map_cons, ev]; rfl
        refine ⟨_, _, _, _, rfl, fun b o nb e => ?_, ?_, by rw [e5]; exact upd_same, fun y hy => ?_⟩
        · rw [upd_ne (ne_of_none e hnm)]
          exact b4 b o nb e
        · exact lk4'.keep (Keep.lst h4) fun xs e => by rw [upd_ne nnm]; exact e
        · rw [htk] at hy
          rcases List.mem_append.mp hy with hy | hy
          · exact hr2 y hy
          · rw [List.mem_singleton.mp hy, ev]; rfl
      · rw [hf]
        refine iteT ⟨_, rfl, sl, fun p hp => ?_⟩
        have s5 := Same.new (o := .tup [.str ("value" : Str), .ref b]) hp
        have et := turn_at hz hr2 (by rw [ev]; rfl)
        rw [et, ev] at q
        exact q _ _ (b4.trans (But.of s5)) (lk4'.same s5) ⟨p, rfl, upd_same⟩
    · rintro σ H2 ⟨o3, o4, o5, o6, rfl, b2, lk2, h2, hr2⟩
      rw [hN.length, List.take_of_length_le (Nat.le_refl _)] at lk2 h2 hr2
      refine ⟨_, rfl, sl, fun p hp => ?_⟩
      have s5 := Same.new (o := .tup [.str ("call" : Str), .ref nm]) hp
      rw [turn_end hr2] at q
      exact q _ _ (b2.trans (But.of s5)) (lk2.same s5) ⟨p, nm, rfl, upd_same, s5 _ _ h2, hnm⟩
theorem comp_spots3 {cp : List (Nat × Str)} {σ : St} {H : Hp} {r D : Addr} {t : Str} {p : Int} {zs : List Str} {te : TE} {Q : VK} (hD : H D = none) (h4 : H r = some (.lst (zs.map V.str))) (h6 : zs.length ≤ 100)
    (hte : ∀ (z : Str) (H2 : Hp) (q : VK), Same H H2 → (∀ tp, H2 tp = none → q (.ref tp) (upd H2 tp (.tup [.str t, .str z, .int p]))) → te (some (.str z) :: capσ cp σ) H2 q)
    (hq : ∀ ys H2, H2 D = some (.lst ys) → Same H H2 → Nts H2 ys (zs.map fun z => (t, z, p)) → Q (.ref D) H2) : tLoop cp tYes te σ (Itl K r) D Q H := by
  refine comp_list (K := K) (a := r) (xs := zs.map V.str) (fun i ys H2 => Same H H2 ∧ Nts H2 ys ((zs.take i).map fun z => (t, z, p))) ⟨Same.new hD, .nil⟩ (fun i ys H2 _ ⟨s2, _⟩ => SqL.of (s2 _ _ h4)) ?_ ?_
  · rintro i x ys H2 hx h2D ⟨s2, hd⟩
    rw [List.getElem?_map] at hx
    cases e : zs[i]? with
    | none => rw [e] at hx; cases hx
    | some z =>
      rw [e] at hx
      cases hx
      have hi : i < zs.length := (List.getElem?_eq_some_iff.mp e).1
      have hyl : ys.length ≤ 100 := by
        have := hd.length
        rw [List.length_map, List.length_take] at this
        omega
      refine hte z H2 _ s2 fun tp htp => ?_
      have s3 : Same H2 (upd H2 tp (.tup [.str t, .str z, .int p])) := Same.new htp
      have h3D := s3 _ _ h2D
      refine ⟨h3D, small1000 (by omega), (s2.trans s3).on hD, ?_⟩
      have et : (zs.take (i + 1)).map (fun z => (t, z, p)) = (zs.take i).map (fun z => (t, z, p)) ++ [(t, z, p)] := by
        rw [List.take_add_one, e, List.map_append]
        rfl
      rw [et]
      exact ((hd.keep (Keep.of s3)).keep (Keep.lst h3D)).snoc ⟨tp, rfl, Keep.lst h3D _ _ (fun xs q => by cases q) upd_same⟩
  · rintro ys H2 h2D ⟨s2, hd⟩
    rw [List.length_map, List.take_length] at hd
    exact hq ys H2 h2D s2 hd
/-- a rule's gather, where the rule has a list of its own -/
def spGat2 (P : Program) (w : World) (K : PySem.W.Frag) (mg : Str → Option Value) (base : Heap) {Rl : Type} (at' : Hp → Addr → Rl → Prop) (gat : Vw → Mn → Rl → Str → Str → Nat → List Spot3 × Res)
    (ok : Hp → Vw → Mn → Rl → Str → Str → Nat → Prop) : Sp := fun vs H Q _ => ∃ (self look many nl : Addr) (t c : Str) (p : Nat) (vw : Vw) (mn : Mn) (rl : Rl),
  vs = [.ref self, .ref look, .ref many, .str t, .str c, .int (p : Int)] ∧ at' H self rl ∧ (∀ H', But nl H H' → at' H' self rl) ∧ ok H vw mn rl t c p ∧ LamFn P w K mg base 2 look (spLk H nl vw) ∧ LamFn P w K mg base 2 many (spMn H nl mn) ∧ LkS nl [] H ∧
  ∀ H' fv, But nl H H' → LkS nl (gat vw mn rl t c p).1 H' → Found H H' fv (gat vw mn rl t c p).2 → Q fv H'
end
end My

namespace My
open PySem L2
section
variable {P : Program} {w : World} {K : PySem.W.Frag} {mg : Str → Option Value} {base : Heap}
/-- an Above: its first, its names, its function -/
def AbF (C : Addr) (H : Hp) (p : Addr) (i : Int) (zs : List Str) (v : V) : Prop := ∃ dx fs r, H p = some (.ins C dx fs) ∧ fs.lookup ("names" : Str) = some (.ref r) ∧ fs.lookup ("first" : Str) = some (.int i) ∧ Flds fs v ∧ H r = some (.lst (zs.map V.str)) ∧ ∀ z ∈ zs, Nl z
theorem AbF.keepC {C : Addr} {H H' : Hp} {p : Addr} {i : Int} {zs : List Str} {v : V} (s : KeepC H H') (h : AbF C H p i zs v) : AbF C H' p i zs v := by
  obtain ⟨dx, fs, r, h1, h2, h3, h4, h5, h6⟩ := h
  exact ⟨dx, fs, r, s _ _ (fun φ z => by cases z) h1, h2, h3, h4, s _ _ (fun φ z => by cases z) h5, h6⟩
theorem AbF.but {C nl : Addr} {H H' : Hp} {p : Addr} {i : Int} {zs : List Str} {v : V} {G : Hp} (hn : G nl = none) (g : AbF C G p i zs v) (sG : KeepC G H) (b : But nl H H') : AbF C H' p i zs v := by
  obtain ⟨dx, fs, r, h1, h2, h3, h4, h5, h6⟩ := g
  exact ⟨dx, fs, r, b _ _ (ne_of_none h1 hn) (sG _ _ (fun φ z => by cases z) h1), h2, h3, h4, b _ _ (ne_of_none h5 hn) (sG _ _ (fun φ z => by cases z) h5), h6⟩
def spAboveI (K : PySem.W.Frag) (C : Addr) : Sp := fun vs H Q _ => ∃ (p dx a : Addr) (i : Int) (v : V) (zs : List Str), vs = [.ref p, .int i, .ref a, v] ∧ numD (.int i) = true ∧ H p = some (.ins C dx []) ∧ SqL K H a (zs.map V.str) ∧ zs.length ≤ 6 ∧ (∀ z ∈ zs, Nl z) ∧ ∀ H', But p H H' → AbF C H' p i zs v → Q .non H'
theorem sc_Above_init : FnScope ["self", "first", "names", "function"] ["self", "first", "names", "function"] (defScope s_Above_init) := ⟨rfl, rfl, rfl, by decide +kernel, rfl, by decide +kernel, by decide +kernel⟩
theorem k_Above_init (T : Tops K mg) {R C : Addr} (Z : TRule K mg R) (Y : TAbove K mg C) : KnownI P w K mg base CX0 4 C ["self", "first", "names", "function"] (spAboveI K C) := by
  have G_init : KnownM P w K mg base CX0 1 R "__init__" ["self", "function"] (spRuleI K) := k_Rule_init T Z
  have G_checked_names : Known P w K mg base CX0 3 "checked_names" ["names"] (spCNames K) := k_checked_names T
  have G_is_number : Known P w K mg base CX0 2 "is_number" ["thing"] (spNumber K) := k_is_number T
  refine (Y.m_init.known sc_Above_init (fun _ _ _ _ _ _ us hl => match us, hl with | [_, _, _, _], _ => rfl) (fun vs H Q E h => ?_) (fun f cdv A outer s H vs Q E hr h => ?_)).init Y.mks Y.kc
  · obtain ⟨p, dx, a, i, v, zs, rfl, _⟩ := h
    rfl
  · obtain ⟨p, dx, a, i, v, zs, rfl, hi, hp, hq, h6, hz, q⟩ := h
    refine ⟨_, (pss_cons (ps_expr (pe_clsN (pe_gR Z.c) Z.v_init G_init (hr.mono (by decide)) pass0 (pa_cons (pv 0) (pa_cons (pv 3) pa_nil))))
      (pss_cons (ps_fld (pv 0) (pe_callN G_checked_names (hr.mono (by decide)) pass0 (pa_cons (pv 2) pa_nil)) rfl)
      (pss_cons (ps_if (pt_not (pt_val (pe_callN G_is_number (hr.mono (by decide)) pass0 (pa_cons (pv 1) pa_nil)) (fun _ => rfl))) (pss_one ps_dead) pss_nil)
      (pss_one (ps_fld (pv 0) (pv 1) rfl))))), ?_⟩
    have b1 : But p H (upd H p (.ins C dx (putF "function" v []))) := But.upd
    refine ⟨_, rfl, _, rfl, p, C, dx, [], v, rfl, hp, Y.cl, Y.n_function, by decide, ?_⟩
    refine ⟨_, rfl, a, zs, rfl, sqL_but b1 ⟨_, _, _, hp⟩ hq, h6, hz, fun H2 l s2 hl h2 => ?_⟩
    have nlp : l ≠ p := fun z => by rw [z, upd_same] at hl; cases hl
    refine ⟨_, rfl, p, C, dx, _, rfl, s2 _ _ upd_same, Y.cl, Y.n_names, (by show 1 < 1000; decide), ?_⟩
    refine ⟨_, rfl, _, _, rfl, .int i, _, rfl, ?_⟩
    rw [hi]
    refine iteF ?_
    refine ⟨_, rfl, _, rfl, p, C, dx, _, rfl, upd_same, Y.cl, Y.n_first, (by show 2 < 1000; decide), ?_⟩
    refine q _ (((b1.trans (But.of s2)).trans But.upd).trans But.upd) ⟨dx, _, l, upd_same, ?_, ?_, ⟨?_, ?_, ?_, ?_⟩, by rw [upd_ne nlp, upd_ne nlp]; exact h2, hz⟩
    · rw [lookup_putF, if_neg (by decide), lookup_putF, if_pos rfl]
    · rw [lookup_putF, if_pos rfl]
    · rw [lookup_putF, if_neg (by decide), lookup_putF, if_neg (by decide), lookup_putF, if_neg (by decide)]
      rfl
    · rw [lookup_putF, if_neg (by decide), lookup_putF, if_neg (by decide), lookup_putF, if_neg (by decide)]
      rfl
    · rw [lookup_putF, if_neg (by decide), lookup_putF, if_neg (by decide), lookup_putF, if_neg (by decide)]
      rfl
    · rw [lookup_putF, if_neg (by decide), lookup_putF, if_neg (by decide), lookup_putF, if_pos rfl]
def spLeansA (K : PySem.W.Frag) (C : Addr) : Sp := fun vs H Q _ => ∃ (p : Addr) (t : Str) (i : Int) (zs : List Str) (v : V), vs = [.ref p, .str t] ∧ AbF C H p i zs v ∧ zs.length ≤ 6 ∧ Nl t ∧
  ∀ H' l ys, Same H H' → H l = none → H' l = some (.lst ys) → Spots K H' ys (onceOf (zs.map fun z => (t, z))) → Q (.ref l) H'
theorem sc_Above_leans : FnScope ["self", "table"] ["self", "table"] (defScope s_Above_leans) := ⟨rfl, rfl, rfl, by decide +kernel, rfl, by decide +kernel, by decide +kernel⟩
theorem k_Above_leans (T : Tops K mg) {C : Addr} (Y : TAbove K mg C) : KnownM P w K mg base CX0 3 C "leans" ["self", "table"] (spLeansA K C) := by
  have G_each_once : Known P w K mg base CX0 2 "each_once" ["spots"] (spOnce K) := k_each_once T
  refine Y.m_leans.known sc_Above_leans (fun _ _ _ _ _ _ us hl => match us, hl with | [_, _], _ => rfl) (fun vs H Q E h => ?_) (fun f cdv A outer s H vs Q E hr h => ?_)
  · obtain ⟨p, t, i0, zs, v, rfl, _⟩ := h
    rfl
  · obtain ⟨p, t, i0, zs, v, rfl, ⟨dx, fs, r, h1, h2, h3a, h3, h4, h5⟩, h6, ht, q⟩ := h
    have hcl : ∀ x, (cxOf CX0 P w K mg base ["self", "table"] "Above.leans" (defScope s_Above_leans) f cdv A outer s H E).nox.env.scope.names.lookup x = some .cell → ∃ c, (cxOf CX0 P w K mg base ["self", "table"] "Above.leans" (defScope s_Above_leans) f cdv A outer s H E).nox.env.cells.lookup x = some c := fun x hx => Option.isSome_iff_exists.mp (PySem.W.cellsFrom_some _ _ _ (.inl hx))
    refine ⟨_, (pss_one (ps_ret (pe_callN G_each_once (hr.mono (by decide)) pass0 (pa_cons (pe_comp (caps_of (sc := defScope s_Above_leans) (N := ["self", "table"]) (cp := [(1, "table")]) hcl) rfl rfl (by decide) (pi_list (pe_fld (pv 0) rfl)) (fun _ _ _ _ _ => pts_nil) (fun _ _ _ _ _ => (pe_tup (pa_cons (pv 1) (pa_cons (pv 0) pa_nil))))) pa_nil)))), ?_⟩
    refine ⟨_, rfl, p, C, dx, fs, _, rfl, h1, Y.cl, Y.n_names, h2, r, rfl, ⟨_, SqL.of h4⟩, fun D hD => ?_⟩
    refine comp_spots (K := K) (t := t) hD h4 (by omega) (fun z H2 q2 s2 k => ⟨_, rfl, _, rfl, sl, fun tp htp => k tp htp⟩) fun ys H2 h2D s2 hd => ?_
    refine ⟨D, ys, _, rfl, SqL.of h2D, ⟨hd, fun p' hp' => ?_⟩, by rw [List.length_map]; omega, fun H3 l ys' s3 hl h3 hs3 => ?_⟩
    · obtain ⟨z, hz, rfl⟩ := List.mem_map.mp hp'
      exact ⟨ht, h5 z hz⟩
    · exact q H3 l ys' (s2.trans s3) (none_back s2 hl) h3 hs3
end
end My

namespace My
open PySem L2
def rowOf (t : Str) (p : Nat) (zs : List Str) : List Spot3 := zs.map fun z => (t, z, (p : Int))
theorem go_cases {vw : Vw} {H : Hp} : ∀ {zs : List Spot3} {is0 : List Int}, There vw H zs →
    ((∃ v, (turnGo (valAt vw) zs (is0.map V.int)).2 = .val v ∧ WV H v) ∨ ∃ is : List Int, (turnGo (valAt vw) zs (is0.map V.int)).2 = .call (is.map V.int) ∧ is.length = is0.length + zs.length)
  | [], is0, _ => .inr ⟨is0, rfl, by simp⟩
  | z :: r, is0, h => by
    obtain ⟨v, hv, hw⟩ := h z List.mem_cons_self
    have e := valAt_of hv
    have hr := h
    show (∃ v, (if isRef (valAt vw z) then _ else _ : List Spot3 × Res).2 = .val v ∧ WV H v) ∨ ∃ is : List Int, (if isRef (valAt vw z) then _ else _ : List Spot3 × Res).2 = .call (is.map V.int) ∧ _
    rw [e]
    rcases hw with ⟨i, rfl⟩ | ⟨a, y, rfl, g1, g2⟩
    · rw [show isRef (.int i) = false from rfl, if_neg Bool.false_ne_true]
      have ih := go_cases (vw := vw) (H := H) (zs := r) (is0 := is0 ++ [i]) (fun y hy => h y (List.mem_cons_of_mem _ hy))
      rw [List.map_append] at ih
      rcases ih with ih | ⟨is, e1, e2⟩
      · exact .inl ih
      · refine .inr ⟨is, e1, ?_⟩
        rw [e2, List.length_append, List.length_cons]
        simp
        omega
    · rw [show isRef (.ref a) = true from rfl, if_pos rfl]
      exact .inl ⟨_, rfl, .inr ⟨a, y, rfl, g1, g2⟩⟩
theorem turn_cases {vw : Vw} {H : Hp} {zs : List Spot3} (h : There vw H zs) : (∃ v, (turnOf vw zs).2 = .val v ∧ WV H v) ∨ ∃ is : List Int, (turnOf vw zs).2 = .call (is.map V.int) ∧ is.length = zs.length := by
  rcases go_cases (is0 := []) h with g | ⟨is, e1, e2⟩
  · exact .inl g
  · exact .inr ⟨is, e1, by simpa using e2⟩
theorem Found.pre {H H1 H' : Hp} {fv : V} {r : Res} (s : Same H H1) (h : Found H1 H' fv r) : Found H H' fv r := by
  cases r with
  | val v => exact h
  | call xs =>
    obtain ⟨a, l, e1, e2, e3, e4⟩ := h
    exact ⟨a, l, e1, e2, e3, noneB s e4⟩
section
variable {P : Program} {w : World} {K : PySem.W.Frag} {mg : Str → Option Value} {base : Heap}
/-- a number ahead of those that are told -/
def ahead (i : Int) (r : List Spot3 × Res) : List Spot3 × Res := (r.1, match r.2 with | .call xs => .call (.int i :: xs) | .val v => .val v)
def gatAbove (vw : Vw) (_ : Mn) (r : Int × List Str) (t c : Str) (p : Nat) : List Spot3 × Res :=
  if 0 < p then turnOf vw ((t, c, (p : Int) - 1) :: rowOf t p r.2) else ahead r.1 (turnOf vw (rowOf t p r.2))
def okAbove (H : Hp) (vw : Vw) (_ : Mn) (r : Int × List Str) (t c : Str) (p : Nat) : Prop := r.2.length ≤ 6 ∧ There vw H (rowOf t p r.2) ∧ (0 < p → There vw H [(t, c, (p : Int) - 1)])
abbrev Nag : List Str := ["self", "look", "many", "table", "column", "place", "cells", "told"]
theorem sc_Above_gather : FnScope Nag ["self", "look", "many", "table", "column", "place"] (defScope s_Above_gather) := ⟨rfl, rfl, rfl, by decide +kernel, rfl, by decide +kernel, by decide +kernel⟩
theorem k_Above_gather (T : Tops K mg) {C : Addr} (Y : TAbove K mg C) : KnownM P w K mg base CX0 4 C "gather" ["self", "look", "many", "table", "column", "place"] (spGat2 P w K mg base (fun H p (r : Int × List Str) => ∃ v, AbF C H p r.1 r.2 v) gatAbove okAbove) := by
  have G_look_in_turn : Known P w K mg base CX0 3 "look_in_turn" ["look", "cells"] (spTurn P w K mg base) := k_look_in_turn T
  refine Y.m_gather.known sc_Above_gather (fun _ _ _ _ _ _ us hl => match us, hl with | [_, _, _, _, _, _], _ => rfl) (fun vs H Q E h => ?_) (fun f cdv A outer s H vs Q E hr h => ?_)
  · obtain ⟨self, look, many, nl, t, c, p, vw, mn, rl, rfl, _⟩ := h
    rfl
  · obtain ⟨self, look, many, nl, t, c, p, vw, mn, ⟨i0, zs⟩, rfl, ⟨_, dx, fs, r, hp, hn, hf, _, hr', hN⟩, _, ⟨hz6, hT, hT1⟩, F1, F2, S, q⟩ := h
    have hcl : ∀ x, (cxOf CX0 P w K mg base Nag "Above.gather" (defScope s_Above_gather) f cdv A outer s H E).nox.env.scope.names.lookup x = some .cell → ∃ c, (cxOf CX0 P w K mg base Nag "Above.gather" (defScope s_Above_gather) f cdv A outer s H E).nox.env.cells.lookup x = some c := fun x hx => Option.isSome_iff_exists.mp (PySem.W.cellsFrom_some _ _ _ (.inl hx))
    refine ⟨_, (pss_cons (ps_setComp (i := 6) sc_Above_gather.nd rfl rfl (caps_of (sc := defScope s_Above_gather) (N := Nag) (cp := [(3, "table"), (5, "place")]) hcl) rfl rfl (by decide) (pi_list (pe_fld (pv 0) rfl)) (fun _ _ _ _ _ => pts_nil) (fun _ _ _ _ _ => (pe_tup (pa_cons (pv 1) (pa_cons (pv 0) (pa_cons (pv 2) pa_nil))))) rfl)
      (pss_cons (ps_if (pt_cmpR op_gt (pv 5) pe_int (nomark _)) (pss_one (ps_ret (pe_callN G_look_in_turn (hr.mono (by decide)) pass0 (pa_cons (pv 1) (pa_cons (pe_op op_cat (pe_lst (pa_cons (pe_tup (pa_cons (pv 3) (pa_cons (pv 4) (pa_cons (pe_op op_sub (pv 5) pe_int) pa_nil)))) pa_nil)) (pv 6)) pa_nil))))) pss_nil)
      (pss_cons (ps_set (i := 7) sc_Above_gather.nd rfl (Or.inl rfl) (pe_callN G_look_in_turn (hr.mono (by decide)) pass0 (pa_cons (pv 1) (pa_cons (pv 6) pa_nil))))
      (pss_cons (ps_if (pt_cmpR op_eq (pe_ix ix_tup (pv 7) pe_int (fun _ _ => rfl)) pe_str (nomark _)) (pss_one (ps_ret (pv 7))) pss_nil)
      (pss_one (ps_ret (pe_tup (pa_cons pe_str (pa_cons (pe_op op_cat (pe_lst (pa_cons (pe_fld (pv 0) rfl) pa_nil)) (pe_ix ix_tup (pv 7) pe_int (fun _ _ => rfl))) pa_nil))))))))), ?_⟩
    refine ⟨_, rfl, self, C, dx, fs, _, rfl, hp, Y.cl, Y.n_names, hn, r, rfl, ⟨_, SqL.of hr'⟩, fun D hD => ?_⟩
    refine comp_spots3 (t := t) (p := (p : Int)) (zs := zs) hD hr' (by have : zs.length ≤ 6 := hz6; omega) (fun z H2 q2 s2 k2 => ⟨_, rfl, _, rfl, _, rfl, sl, fun tp htp => k2 tp htp⟩) (fun ys H2 h2 s2 hy => ?_)
    have hz6' : zs.length ≤ 6 := hz6
    have hT : There vw H (rowOf t p zs) := hT
    have hyR : Nts H2 ys (rowOf t p zs) := hy
    have hrl : (rowOf t p zs).length ≤ 6 := by unfold rowOf; rw [List.length_map]; exact hz6'
    obtain ⟨as0, hn0⟩ := S.list
    refine ⟨_, rfl, _, _, rfl, rfl, _, rfl, ?_⟩
    refine ite2 (fun g => ?_) (fun g => ?_)
    · have hp0 : 0 < p := by have : (0 : Int) < (p : Int) := by simpa using g
                             omega
      have eg : gatAbove vw mn (i0, zs) t c p = turnOf vw ((t, c, (p : Int) - 1) :: rowOf t p zs) := by unfold gatAbove; rw [if_pos hp0]
      rw [eg] at q
      refine ⟨_, rfl, _, rfl, _, rfl, _, rfl, _, _, rfl, rfl, sl, fun tp htp => ⟨sl, fun l hl => ?_⟩⟩
      have s3 := Same.new (o := .tup [.str t, .str c, .int ((p : Int) - 1)]) htp
      have s4 := Same.new (o := .lst [.ref tp]) hl
      have s34 := s3.trans s4
      have hl2 := upd_same (H := upd H2 tp (.tup [.str t, .str c, .int ((p : Int) - 1)])) (a := l) (o := .lst [.ref tp])
      have htp2 := s4 _ _ (upd_same (H := H2) (a := tp) (o := .tup [.str t, .str c, .int ((p : Int) - 1)]))
      generalize upd (upd H2 tp (.tup [.str t, .str c, .int ((p : Int) - 1)])) l (.lst [.ref tp]) = H4 at s34 hl2 htp2 ⊢
      have hyl : ys.length ≤ 6 := by rw [hyR.length]; exact hrl
      refine ⟨_, rfl, l, D, _, _, rfl, rfl, hl2, s34 _ _ h2, sl (by simp; omega), fun l2 hl2' => ?_⟩
      have s5 := Same.new (o := .lst ([.ref tp] ++ ys)) hl2'
      have s2345 := s2.trans (s34.trans s5)
      have nlD : l2 ≠ nl := Ne.symm (ne_of_none ((s2.trans s34) _ _ hn0) hl2')
      have hNc : Nts (upd H4 l2 (.lst ([.ref tp] ++ ys))) ([.ref tp] ++ ys) ((t, c, (p : Int) - 1) :: rowOf t p zs) := Paired.cons (a := V.ref tp) (b := ((t, c, (p : Int) - 1) : Spot3)) ⟨tp, rfl, s5 _ _ htp2⟩ (hyR.keep (Keep.of (s34.trans s5)))
      refine ⟨look, l2, nl, H, vw, [.ref tp] ++ ys, (t, c, (p : Int) - 1) :: rowOf t p zs, [], rfl, F1, But.of s2345, S.same s2345, upd_same, nlD, hNc, ?_, by simp; omega, fun H3 fv b3 lk3 fo3 => ?_⟩
      · intro y hy'
        rcases List.mem_cons.mp hy' with rfl | hy'
        · exact ((hT1 hp0).keep (Keep.of s2345)) _ (by simp)
        · exact (hT.keep (Keep.of s2345)) y hy'
      · exact q H3 fv ((But.of s2345).trans b3) (by rw [List.nil_append] at lk3; exact lk3) (Found.pre s2345 fo3)
    · have hp0 : ¬ 0 < p := fun z => g (by simpa using (show (0 : Int) < (p : Int) by omega))
      have eg : gatAbove vw mn (i0, zs) t c p = ahead i0 (turnOf vw (rowOf t p zs)) := by unfold gatAbove; rw [if_neg hp0]
      rw [eg] at q
      refine ⟨_, rfl, _, rfl, look, D, nl, H, vw, ys, rowOf t p zs, [], rfl, F1, But.of s2, S.same s2, h2, Ne.symm (ne_of_none hn0 hD), hyR, hT.keep (Keep.of s2), by simp; omega, fun H3 fv b3 lk3 fo3 => ?_⟩
      rw [List.nil_append] at lk3
      have bb := (But.of s2).trans b3
      have noH : ∀ l, H3 l = none → H l = none := fun l e => by
        cases e2 : H l with
        | none => rfl
        | some o =>
          exfalso
          by_cases y : l = nl
          · obtain ⟨as2, e3⟩ := lk3.list
            rw [y, e3] at e; cases e
          · rw [bb l o y e2] at e; cases e
      cases e : (turnOf vw (rowOf t p zs)).2 with
      | val v =>
        rw [e] at fo3
        have e2 : (ahead i0 (turnOf vw (rowOf t p zs))).2 = .val v := by unfold ahead; rw [e]
        obtain ⟨a, rfl, ha⟩ := fo3
        have a0 : atI [V.str ("value" : Str), v] 0 = some (.str ("value" : Str)) := rfl
        refine ⟨_, rfl, _, _, _, _, rfl, rfl, SqT.of ha, a0, rfl, _, rfl, ?_⟩
        refine ite2 (fun _ => ?_) (fun g2 => absurd (by simp) g2)
        exact ⟨_, rfl, q H3 _ bb lk3 (by rw [e2]; exact ⟨a, rfl, ha⟩)⟩
      | call xs =>
        rw [e] at fo3
        have e2 : (ahead i0 (turnOf vw (rowOf t p zs))).2 = .call (.int i0 :: xs) := by unfold ahead; rw [e]
        obtain ⟨a, l, rfl, ha, hl, _⟩ := fo3
        have a0 : atI [V.str ("call" : Str), V.ref l] 0 = some (.str ("call" : Str)) := rfl
        have a1 : atI [V.str ("call" : Str), V.ref l] 1 = some (.ref l) := rfl
        have hp3 : H3 self = some (.ins C dx fs) := bb _ _ (ne_of hp hn0 (fun z => by cases z)) hp
        have hff : fs.lookup ("first" : Str) = some (.int i0) := hf
        have hxs : xs.length ≤ 6 := by
          rcases turn_cases hT with ⟨v, e5, _⟩ | ⟨is, e5, e6⟩
          · rw [e5] at e; cases e
          · rw [e5] at e; cases e; rw [List.length_map]; omega
        refine ⟨_, rfl, _, _, _, _, rfl, rfl, SqT.of ha, a0, rfl, _, rfl, ?_⟩
        refine ite2 (fun g2 => absurd g2 (by decide)) (fun _ => ?_)
        refine ⟨_, rfl, self, C, dx, fs, _, rfl, hp3, Y.cl, Y.n_first, hff, sl, fun l1 hl1 => ?_⟩
        have s6 := Same.new (o := .lst [.int i0]) hl1
        refine ⟨_, rfl, _, _, _, _, rfl, rfl, SqT.of (s6 _ _ ha), a1, l1, l, _, _, rfl, rfl, upd_same, s6 _ _ hl, sl (by simp; omega), fun l2 hl2 => ?_⟩
        have s7 := Same.new (o := .lst ([.int i0] ++ xs)) hl2
        have s67 := s6.trans s7
        refine ⟨sl, fun p2 hp2' => ?_⟩
        have s8 := Same.new (o := .tup [.str ("call" : Str), .ref l2]) hp2'
        have s678 := s67.trans s8
        refine q _ _ (bb.trans (But.of s678)) (lk3.same s678) ?_
        rw [e2]
        exact ⟨p2, l2, rfl, upd_same, s8 _ _ upd_same, noH l2 (noneB s6 hl2)⟩
end
end My

namespace My
open PySem L2
theorem sameX_lend {P : Addr} {H H' : Hp} {X : Cx} {σ : St} {g : Lend} (s : SameX P H H') (L : Lent X σ H' g) : SameX P H (lend g H') := fun b o n e => by
  have e' := s b o n e
  cases e2 : g b with
  | none => rw [lend_no e2]; exact e'
  | some ob => rw [L.free b ob e2] at e'; cases e'
theorem lent_same {H : Hp} {X : Cx} {σ : St} {g : Lend} (L : Lent X σ H g) : Same H (lend g H) := fun b o e => by
  cases e2 : g b with
  | none => rw [lend_no e2]; exact e
  | some ob => rw [L.free b ob e2] at e; cases e
theorem sx_of {P : Addr} {H H' : Hp} (s : Same H H') : SameX P H H' := fun b o _ e => s b o e
theorem sx_trans {P : Addr} {H H1 H2 : Hp} (a : SameX P H H1) (b : SameX P H1 H2) : SameX P H H2 := fun c o n e => b c o n (a c o n e)
/-- what a function of words tells of its numbers -/
def gWords (zs ns : List Str) (is : List Int) : PyData := valOf (zipP ns (is.map V.int) ns.length) zs
def preN (ns : List Str) (is : List Int) : Prop := is.length = ns.length ∧ ∀ i ∈ is, bnd F60 i
theorem valV_zip {ns : List Str} {is : List Int} (nd : ns.Nodup) (hl : is.length = ns.length) {z : Str} (hz : z ∈ ns) : ∃ i ∈ is, valV (zipP ns (is.map V.int) ns.length) (.inr z) = some (.int i) := by
  unfold zipP
  rw [List.take_of_length_le (by rw [List.length_zip]; omega)]
  induction ns generalizing is with
  | nil => cases hz
  | cons n r ih =>
    cases is with
    | nil => simp at hl
    | cons i t =>
      have nd' := List.nodup_cons.mp nd
      rcases List.mem_cons.mp hz with rfl | hz
      · exact ⟨i, List.mem_cons_self, by simp [valV]⟩
      · have hne : ¬ n = z := fun e => nd'.1 (e ▸ hz)
        obtain ⟨j, hj, e⟩ := ih nd'.2 (by simpa using hl) hz
        refine ⟨j, List.mem_cons_of_mem _ hj, ?_⟩
        rw [← e]
        unfold valV
        simp [hne]
theorem env_zip {zs ns : List Str} {is : List Int} (nd : ns.Nodup) (hp : preN ns is) (h : ∀ z ∈ zs, Nl z → z ∈ ns) : EnvOk (zipP ns (is.map V.int) ns.length) zs := fun z hz nz => by
  obtain ⟨i, hi, e⟩ := valV_zip nd hp.1 (h z hz nz)
  exact ⟨i, e, hp.2 i hi⟩
section
variable {P : Program} {w : World} {K : PySem.W.Frag} {mg : Str → Option Value} {base : Heap}
abbrev qFo : Str := ("function_of" : Str) ++ ".<locals>." ++ "<lambda>"
def spFnOf (P : Program) (w : World) (K : PySem.W.Frag) (mg : Str → Option Value) (base : Heap) (zt : Addr) : Sp := fun vs H Q _ => ∃ (a b : Addr) (zs ns : List Str), vs = [.ref a, .ref b] ∧ H a = some (.lst (zs.map V.str)) ∧ H b = some (.lst (ns.map V.str)) ∧ zs.length ≤ 24 ∧ ns.length ≤ 24 ∧ Pre zs 1 0 ∧ ns.Nodup ∧ (∀ z ∈ zs, Nl z → z ∈ ns) ∧ TabIn qFo H zt ∧
  ∀ H' fa, SameX zt H H' → TabIn qFo H' zt → FnAt P w K mg base 6 [a, b] H' fa (preN ns) (gWords zs ns) → Q (.ref fa) H'
theorem sc_function_of : FnScope ["words", "names"] ["words", "names"] (defScope s_function_of) := ⟨rfl, rfl, rfl, by decide +kernel, rfl, by decide +kernel, by decide +kernel⟩
theorem k_function_of (T : Tops K mg) {z : Addr × Addr} (B : DefT K mg "function_of" s_function_of z) (M : Maker mg base z.1 z.2) : Known P w K mg base CX0 1 "function_of" ["words", "names"] (spFnOf P w K mg base z.2) := by
  have G_reckoned : Known P w K mg base CX0 5 "reckoned" ["words", "numbers"] (spReck K) := k_reckoned T
  refine B.knownR sc_function_of (fun _ _ _ _ _ _ us hl => match us, hl with | [_, _], _ => rfl) (fun vs H Q E h => ?_) (fun f A outer s H vs Q E hr h => ?_)
  · obtain ⟨a, b, zs, ns, rfl, _⟩ := h
    rfl
  · obtain ⟨a, b, zs, ns, rfl, ha, hb, hlz, hln, hP, nd, hsub, hT, q⟩ := h
    have hcl : ∀ x, (cxOf CX0 P w K mg base ["words", "names"] "function_of" (defScope s_function_of) f (.ref z.1) A outer s H E).nox.env.scope.names.lookup x = some .cell → ∃ c, (cxOf CX0 P w K mg base ["words", "names"] "function_of" (defScope s_function_of) f (.ref z.1) A outer s H E).nox.env.cells.lookup x = some c := fun x hx => Option.isSome_iff_exists.mp (PySem.W.cellsFrom_some _ _ _ (.inl hx))
    refine ⟨_, psr_one (psr_ret (pe_lamF M rfl (caps_of (sc := defScope s_function_of) (N := ["words", "names"]) (cp := [(0, "words"), (1, "names")]) hcl).clos rfl)), ?_⟩
    refine ⟨hT, fun fa H1 hfa s1 tb1 la => fun g L => ?_⟩
    have k1 := KeepC.tab hT s1
    have sL := lent_same L
    have F := fn_lam (lam_by (sc := defScope s_function_of) (N := ["words", "names"]) (ps := ["numbers"]) (cp := [(0, "words"), (1, "names")]) (cv := [.ref a, .ref b]) (k := 5) (spB := spBf K [(a, zs.map V.str), (b, ns.map V.str)] (preN ns) (gWords zs ns)) la L hcl rfl (fun _ _ _ _ us hl => match us, hl with | [_], _ => rfl) (fun cd A' outer' s' H' vs Q' hr' h' => by
      obtain ⟨l', is, rfl, hls, hl', h1', h2', qq⟩ := h'
      have ea := hls (a, zs.map V.str) (by simp)
      have eb := hls (b, ns.map V.str) (by simp)
      refine ⟨_, pe_callN G_reckoned hr' pass0 (pa_cons (pv 1) (pa_cons (pe_dictzip rfl (pa_cons (pv 2) (pa_cons (pv 0) pa_nil)) rfl T.dict b_dict rfl T.zip b_zip) pa_nil)), ?_⟩
      refine ⟨_, rfl, _, rfl, _, rfl, b, l', ns, _, rfl, SqL.of eb, SqL.of hl', by rw [List.length_map]; exact h2'.1, by omega, nd, fun d hd => ?_⟩
      have u1 := Same.new (o := .dK (zipP ns (is.map V.int) ns.length)) hd
      refine ⟨a, d, zs, _, rfl, SqL.of (u1 _ _ ea), upd_same, by omega, hP, env_zip nd h2' hsub, fun H2 v u2 hv => qq _ v (u1.trans u2) hv.dt⟩))
    refine q _ fa (sameX_lend s1 L) (tabIn_same sL tb1) ⟨_, F, ⟨⟨lamAt_keepC (KeepC.of sL) la, fun b o e => lend_at e⟩, fun p hp => ?_⟩, stab_holds (ls := [(a, zs.map V.str), (b, ns.map V.str)])⟩
    simp only [List.mem_cons, List.not_mem_nil, or_false] at hp
    rcases hp with rfl | rfl
    · exact sL _ _ (k1 _ _ (fun φ z => by cases z) ha)
    · exact sL _ _ (k1 _ _ (fun φ z => by cases z) hb)
theorem names_ok {zs : List Str} (hP : Pre zs 1 0) : (∀ z ∈ onceS (zs.filter nameS), Nl z) ∧ ∀ z ∈ zs, Nl z → z ∈ onceS (zs.filter nameS) := by
  refine ⟨fun z hz => ?_, fun z hz nz => ((onceS_all _).2.1 z).mpr (List.mem_filter.mpr ⟨hz, nz.is⟩)⟩
  have h1 := List.mem_filter.mp (((onceS_all _).2.1 z).mp hz)
  rcases hP.all z h1.1 with h | h
  · have := (sgn_no z h).1
    rw [h1.2] at this
    cases this
  · rcases h with h | ⟨i, h⟩
    · exact h
    · have := h.nn
      rw [h1.2] at this
      cases this
end
end My

namespace My
open PySem L2
/-- the names but up -/
def colsOf (zs : List Str) : List Str := (onceS (zs.filter nameS)).filter fun z => decide (z ∉ (["up"] : List Str))
theorem once_filter (p : Str → Bool) (zs : List Str) : ∀ i, i ≤ zs.length → (onceS (zs.take i)).filter p = onceS ((zs.take i).filter p)
  | 0, _ => rfl
  | i + 1, h => by
    have ih := once_filter p zs i (by omega)
    have hz : zs[i]? = some zs[i] := List.getElem?_eq_getElem (by omega)
    have e : zs.take (i + 1) = zs.take i ++ [zs[i]] := by rw [List.take_add_one, hz]; rfl
    rw [e, onceS_snoc, List.filter_append]
    have m2 := fun z => (onceS_all ((zs.take i).filter p)).2.1 z
    have m1 := fun z => (onceS_all (zs.take i)).2.1 z
    cases hp : p zs[i] with
    | false =>
      rw [show [zs[i]].filter p = [] by simp [hp], List.append_nil, ← ih]
      split
      · rfl
      · rw [List.filter_append, show [zs[i]].filter p = [] by simp [hp], List.append_nil]
    | true =>
      rw [show [zs[i]].filter p = [zs[i]] by simp [hp], onceS_snoc, ← ih]
      by_cases c : zs[i] ∈ onceS (zs.take i)
      · rw [if_pos c, if_pos (List.mem_filter.mpr ⟨c, hp⟩)]
      · rw [if_neg c, if_neg (fun q => c (List.mem_filter.mp q).1), List.filter_append, show [zs[i]].filter p = [zs[i]] by simp [hp]]
theorem cols_eq (zs : List Str) : colsOf zs = onceS (zs.filter fun z => nameS z && decide (z ≠ "up")) := by
  unfold colsOf
  have := once_filter (fun z => decide (z ∉ (["up"] : List Str))) (zs.filter nameS) (zs.filter nameS).length (Nat.le_refl _)
  rw [List.take_of_length_le (Nat.le_refl _)] at this
  rw [this, List.filter_filter]
  congr 1
  apply List.filter_congr
  intro z _
  simp [Bool.and_comm]
theorem cols_ok {zs : List Str} (hP : Pre zs 1 0) : (∀ z ∈ colsOf zs, Nl z) ∧ (("up" : Str) :: colsOf zs).Nodup ∧ (∀ z ∈ zs, Nl z → z ∈ ("up" : Str) :: colsOf zs) ∧ (colsOf zs).length ≤ zs.length := by
  obtain ⟨h1, h2⟩ := names_ok hP
  refine ⟨fun z hz => h1 z (List.mem_filter.mp hz).1, List.nodup_cons.mpr ⟨fun m => ?_, (onceS_all _).1.filter _⟩, fun z hz nz => ?_, ?_⟩
  · have := (List.mem_filter.mp m).2
    simp at this
  · by_cases e : z = "up"
    · rw [e]; exact List.mem_cons_self
    · exact List.mem_cons_of_mem _ (List.mem_filter.mpr ⟨h2 z hz nz, by simpa using e⟩)
  · have a := List.length_filter_le (fun z => decide (z ∉ (["up"] : List Str))) (onceS (zs.filter nameS))
    have b := (onceS_all (zs.filter nameS)).2.2
    have c := List.length_filter_le nameS zs
    unfold colsOf
    omega
section
variable {P : Program} {w : World} {K : PySem.W.Frag} {mg : Str → Option Value} {base : Heap}
def spRdAbove (P : Program) (w : World) (K : PySem.W.Frag) (mg : Str → Option Value) (base : Heap) (C zt : Addr) : Sp := fun vs H Q _ => ∃ (a : Addr) (y : Str) (zs : List Str) (i : Int), vs = [.ref a] ∧ H a = some (.lst ((y :: zs).map V.str)) ∧ NumW y i ∧ zs.length ≤ 24 ∧ Pre zs 1 0 ∧ (colsOf zs).length ≤ 6 ∧ TabIn qFo H zt ∧
  ∀ H' r fa W, SameX zt H H' → TabIn qFo H' zt → AbF C H' r i (colsOf zs) (.ref fa) → FnAt P w K mg base 6 W H' fa (preN (("up" : Str) :: colsOf zs)) (gWords zs (("up" : Str) :: colsOf zs)) → (∀ x ∈ W, ∃ o, H' x = some (.lst o)) → Q (.ref r) H'
theorem sc_read_above : FnScope ["words", "reckoning", "names"] ["words"] (defScope s_read_above) := ⟨rfl, rfl, rfl, by decide +kernel, rfl, by decide +kernel, by decide +kernel⟩
theorem k_read_above (T : Tops K mg) {R C : Addr} (Z : TRule K mg R) (Y : TAbove K mg C) {z : Addr × Addr} (B : DefT K mg "function_of" s_function_of z) (M : Maker mg base z.1 z.2) : Known P w K mg base CX0 6 "read_above" ["words"] (spRdAbove P w K mg base C z.2) := by
  have G_refuse_unless : Known P w K mg base CX0 1 "refuse_unless" ["holds"] spRefuse := k_refuse_unless T
  have G_writes_number : Known P w K mg base CX0 1 "writes_number" ["word"] spWrites := k_writes_number T
  have G_columns_in : Known P w K mg base CX0 3 "columns_in" ["words", "others"] (spColumns K) := k_columns_in T
  have G_function_of : Known P w K mg base CX0 1 "function_of" ["words", "names"] (spFnOf P w K mg base z.2) := k_function_of T B M
  have GI : KnownI P w K mg base CX0 4 C ["self", "first", "names", "function"] (spAboveI K C) := k_Above_init T Z Y
  refine T.d_read_above.known sc_read_above (fun _ _ _ _ _ _ us hl => match us, hl with | [_], _ => rfl) (fun vs H Q E h => ?_) (fun f cdv A outer s H vs Q E hr h => ?_)
  · obtain ⟨a, y, zs, i, rfl, _⟩ := h
    rfl
  · obtain ⟨a, y, zs, i, rfl, ha, hy, hlz, hP, h6, hT, q⟩ := h
    obtain ⟨cn, cd, cs, cl⟩ := cols_ok hP
    refine ⟨_, (pss_cons (ps_expr (pe_callN G_refuse_unless (hr.mono (by decide)) pass0 (pa_cons (pe_and (pe_cmpR op_gt (pe_callB call_len rfl T.len b_len (pa_cons (pv 0) pa_nil)) pe_int (nomark _)) (pe_one (pe_callN G_writes_number (hr.mono (by decide)) pass0 (pa_cons (pe_ix ix_list (pv 0) pe_int (fun _ _ => rfl)) pa_nil)))) pa_nil)))
      (pss_cons (ps_set (i := 1) sc_read_above.nd rfl (Or.inl rfl) (pe_slice sl_list (pv 0) (po_some pe_int) po_none))
      (pss_cons (ps_set (i := 2) sc_read_above.nd rfl (Or.inl rfl) (pe_callN G_columns_in (hr.mono (by decide)) pass0 (pa_cons (pv 1) (pa_cons (pe_lst (pa_cons (pe_gS T.g_UP) pa_nil)) pa_nil))))
      (pss_one (ps_ret (pe_makeN GI (hr.mono (by decide)) Y.c pass0 (pa_cons (pe_callTy call_int_text rfl T.int b_int (pa_cons (pe_ix ix_list (pv 0) pe_int (fun _ _ => rfl)) pa_nil)) (pa_cons (pv 2) (pa_cons (pe_callN G_function_of (hr.mono (by decide)) pass0 (pa_cons (pv 1) (pa_cons (pe_op op_cat (pe_lst (pa_cons (pe_gS T.g_UP) pa_nil)) (pv 2)) pa_nil))) pa_nil))))))))), ?_⟩
    have e0 : atI ((y :: zs).map V.str) 0 = some (.str y) := at_cons _ _
    have yl := hy.reads.2
    refine ⟨_, rfl, _, _, rfl, .inl ⟨_, SqL.of ha, rfl⟩, _, _, rfl, rfl, _, rfl, ?_⟩
    rw [show decide ((((y :: zs).map V.str).length : Int) > 0) = true from decide_eq_true (by rw [List.length_map, List.length_cons]; omega)]
    refine iteT ⟨_, rfl, a, _, _, _, rfl, rfl, SqL.of ha, e0, y, rfl, by omega, fun H1 s1 => ?_⟩
    rw [hy.num]
    have ha1 := s1 _ _ ha
    refine ⟨rfl, _, rfl, _, rfl, a, _, rfl, SqL.of ha1, fun c hc => ?_⟩
    rw [cut1]
    have s2 := Same.new (o := .lst (zs.map V.str)) hc
    have s02 := s1.trans s2
    refine ⟨_, rfl, sl, fun ul hul => ?_⟩
    have s3 := Same.new (o := .lst [.str "up"]) hul
    have s03 := s02.trans s3
    refine ⟨c, ul, zs, ["up"], rfl, SqL.of (s3 _ _ upd_same), SqL.of upd_same, hlz, hP, h6, fun H4 l s4 hl h4 => ?_⟩
    have s04 := s03.trans s4
    have hc4 := s4 _ _ (s3 _ _ (upd_same (H := H1) (a := c) (o := .lst (zs.map V.str))))
    refine ⟨_, rfl, a, _, _, _, rfl, rfl, SqL.of (s04 _ _ ha), e0, y, i, rfl, hy.reads.1, by omega, _, rfl, _, rfl, sl, fun u2 hu2 => ?_⟩
    have s5 := Same.new (o := .lst [.str "up"]) hu2
    refine ⟨_, rfl, u2, l, _, _, rfl, rfl, upd_same, s5 _ _ h4, sl (by rw [List.length_map]; show 1 + (colsOf zs).length ≤ 1000; omega), fun b hb => ?_⟩
    have s6 := Same.new (o := .lst ([.str "up"] ++ (colsOf zs).map V.str)) hb
    have s06 := s04.trans (s5.trans s6)
    have hb6 : upd (upd H4 u2 (.lst [.str "up"])) b (.lst ([.str "up"] ++ (colsOf zs).map V.str)) b = some (.lst ((("up" : Str) :: colsOf zs).map V.str)) := upd_same
    have hc6 := s6 _ _ (s5 _ _ hc4)
    have hl6 := s6 _ _ (s5 _ _ h4)
    refine ⟨c, b, zs, _, rfl, hc6, hb6, hlz, by rw [List.length_cons]; omega, hP, cd, cs, tabIn_same s06 hT, fun H7 fa s7 tb7 FA => ?_⟩
    have k7 := KeepC.tab (tabIn_same s06 hT) s7
    intro x dx hx hdx ne
    have h7l := k7 _ _ (fun φ z => by cases z) hl6
    refine ⟨x, dx, l, i, .ref fa, _, rfl, numD_of hy.1, upd_same, SqL.of (by rw [upd_ne (ne_of_none h7l hx), upd_ne (ne_of_none h7l hdx)]; exact h7l), h6, cn, fun H8 b8 ab => ⟨rfl, ?_⟩⟩
    have s8 := same_of_init hx hdx b8
    refine q _ x fa _ (sx_trans (sx_of s06) (sx_trans s7 (sx_of s8))) (tabIn_same s8 tb7) ab (FA.keep (KeepF.of s8)) fun v hv => ?_
    simp only [List.mem_cons, List.not_mem_nil, or_false] at hv
    rcases hv with rfl | rfl
    · exact ⟨_, s8 _ _ (k7 _ _ (fun φ z => by cases z) hc6)⟩
    · exact ⟨_, s8 _ _ (k7 _ _ (fun φ z => by cases z) hb6)⟩
end
end My

namespace My
open PySem L2
section
variable {P : Program} {w : World} {K : PySem.W.Frag} {mg : Str → Option Value} {base : Heap}
def spNum : Sp := fun vs H Q _ => ∃ n : Int, vs = [.int n] ∧ ∀ H' m, Same H H' → bnd F60 m → Q (.int m) H'
theorem sc_law_number : FnScope ["_law_cell_here", "_law_far"] ["_law_cell_here"] (defScope s_law_number) := ⟨rfl, rfl, rfl, by decide +kernel, rfl, by decide +kernel, by decide +kernel⟩
theorem k_law_number (T : Tops K mg) : Known P w K mg base CX0 1 "_law_number" ["_law_cell_here"] spNum := by
  refine T.d_law_number.known sc_law_number (fun _ _ _ _ _ _ us hl => match us, hl with | [_], _ => rfl) (fun vs H Q E h => ?_) (fun f cdv A outer s H vs Q E hr h => ?_)
  · obtain ⟨n, rfl, _⟩ := h
    rfl
  · obtain ⟨n, rfl, q⟩ := h
    refine ⟨_, (pss_cons (ps_set (i := 1) sc_law_number.nd rfl (Or.inl rfl) (pe_op op_sub (pe_op op_pow pe_int pe_int) pe_int))
      (pss_cons (ps_if (pt_cmpR op_eq (pe_op op_mod (pv 0) pe_int) pe_int (nomark _)) (pss_one (ps_ret (pe_op op_sub (pe_op op_mod (pe_op op_fdiv (pv 0) pe_int) (pe_op op_add (pe_op op_mul pe_int (pv 1)) pe_int)) (pv 1)))) pss_nil)
      (pss_cons (ps_if (pt_cmpR op_eq (pe_op op_mod (pv 0) pe_int) pe_int (nomark _)) (pss_one (ps_ret (pe_ix ix_list (pe_lst (pa_cons (pv 1) (pa_cons (pe_op op_sub pe_int (pv 1)) (pa_cons pe_int (pa_cons (pe_op op_pow pe_int pe_int) (pa_cons (pe_op op_sub pe_int (pe_op op_pow pe_int pe_int)) pa_nil)))))) (pe_op op_mod (pe_op op_fdiv (pv 0) pe_int) pe_int) (fun _ _ => rfl)))) pss_nil)
      (pss_one (ps_ret (pe_op op_sub (pe_op op_mod (pe_op op_fdiv (pv 0) pe_int) pe_int) pe_int)))))), ?_⟩
    have pos := F60_pos
    have big : (1000 : Int) < F60 := by decide +kernel
    have b30 : (10 : Int) ^ (30 : Int).toNat < F60 := by decide +kernel
    have p30 : (0 : Int) < (10 : Int) ^ (30 : Int).toNat := by decide +kernel
    refine ⟨_, _, rfl, rfl, ⟨by decide, by decide, by decide⟩, _, _, rfl, rfl, ?_⟩
    refine ⟨_, rfl, _, _, rfl, rfl, (show (0 : Int) < 4 by decide), rfl, _, rfl, ?_⟩
    refine ite2 (fun h1 => ?_) (fun h1 => ?_)
    · refine ⟨_, rfl, _, _, rfl, rfl, ⟨by decide, by decide⟩, _, rfl, _, _, rfl, rfl, .inl ⟨by decide, by decide⟩, _, _, rfl, rfl, _, _, rfl, rfl, ?_, _, rfl, _, _, rfl, rfl, q _ _ (Same.refl _) ?_⟩
      · show (0 : Int) < 2 * (F60 - 1) + 1
        generalize F60 = F at *
        omega
      · show bnd F60 (n / 4 % (2 * (F60 - 1) + 1) - (F60 - 1))
        unfold bnd
        generalize F60 = F at *
        have e1 := Int.emod_nonneg (n / 4) (show (2 * (F - 1) + 1 : Int) ≠ 0 by omega)
        have e2 := Int.emod_lt_of_pos (n / 4) (show (0 : Int) < 2 * (F - 1) + 1 by omega)
        omega
    · refine ⟨_, rfl, _, _, rfl, rfl, (show (0 : Int) < 4 by decide), rfl, _, rfl, ?_⟩
      refine ite2 (fun h2 => ?_) (fun h2 => ?_)
      · refine ⟨_, rfl, _, rfl, _, _, rfl, rfl, _, _, rfl, rfl, ⟨by decide, by decide, by decide⟩, _, _, rfl, rfl, ⟨by decide, by decide, by decide⟩, _, _, rfl, rfl, sl, fun l hl => ?_⟩
        have s1 := Same.new (o := .lst [.int (F60 - 1), .int (0 - (F60 - 1)), .int 0, .int ((10 : Int) ^ (30 : Int).toNat), .int (0 - (10 : Int) ^ (30 : Int).toNat)]) hl
        have fin : ∀ v, (∃ m, v = V.int m ∧ bnd F60 m) → Q v (upd H l (.lst [.int (F60 - 1), .int (0 - (F60 - 1)), .int 0, .int ((10 : Int) ^ (30 : Int).toNat), .int (0 - (10 : Int) ^ (30 : Int).toNat)])) := fun v ⟨m, e, b⟩ => by rw [e]; exact q _ _ s1 b
        have hj : n / 4 % 5 = 0 ∨ n / 4 % 5 = 1 ∨ n / 4 % 5 = 2 ∨ n / 4 % 5 = 3 ∨ n / 4 % 5 = 4 := by omega
        have hat : ∃ v, atI [V.int (F60 - 1), .int (0 - (F60 - 1)), .int 0, .int ((10 : Int) ^ (30 : Int).toNat), .int (0 - (10 : Int) ^ (30 : Int).toNat)] (n / 4 % 5) = some v ∧ ∃ m, v = V.int m ∧ bnd F60 m := by
          unfold bnd
          generalize (10 : Int) ^ (30 : Int).toNat = G at *
          generalize F60 = F at *
          rcases hj with e | e | e | e | e <;> rw [e]
          · exact ⟨_, rfl, _, rfl, by omega, by omega⟩
          · exact ⟨_, rfl, _, rfl, by omega, by omega⟩
          · exact ⟨_, rfl, _, rfl, by omega, by omega⟩
          · exact ⟨_, rfl, _, rfl, by omega, by omega⟩
          · exact ⟨_, rfl, _, rfl, by omega, by omega⟩
        obtain ⟨v, hv, hb⟩ := hat
        exact ⟨_, rfl, _, _, rfl, rfl, ⟨by decide, by decide⟩, _, _, rfl, rfl, (show (0 : Int) < 5 by decide), l, _, _, _, rfl, rfl, SqL.of upd_same, hv, fin v hb⟩
      · refine ⟨_, rfl, _, _, rfl, rfl, ⟨by decide, by decide⟩, _, _, rfl, rfl, (show (0 : Int) < 15 by decide), _, _, rfl, rfl, q _ _ (Same.refl _) ?_⟩
        show bnd F60 (n / 4 % 15 - 7)
        unfold bnd
        generalize F60 = F at *
        omega
end
end My

namespace My
open PySem L2
section
variable {P : Program} {w : World} {K : PySem.W.Frag} {mg : Str → Option Value} {base : Heap}
def spOnce3 (K : PySem.W.Frag) : Sp := fun vs H Q _ => ∃ (a : Addr) (xs : List V) (zs : List Spot3), vs = [.ref a] ∧ H a = some (.lst xs) ∧ Nts H xs zs ∧ (∀ z ∈ zs, Nl z.1 ∧ Nl z.2.1) ∧ zs.length ≤ 900 ∧
  ∀ H' l ys, Same H H' → H l = none → H' l = some (.lst ys) → Nts H' ys (onceG zs) → Q (.ref l) H'
theorem sc_law_once : FnScope ["_law_spots", "_law_found", "_law_spot"] ["_law_spots"] (defScope s_law_once) := ⟨rfl, rfl, rfl, by decide +kernel, rfl, by decide +kernel, by decide +kernel⟩
theorem k_law_once (T : Tops K mg) : Known P w K mg base CX0 1 "_law_once" ["_law_spots"] (spOnce3 K) := by
  refine T.d_law_once.known sc_law_once (fun _ _ _ _ _ _ us hl => match us, hl with | [_], _ => rfl) (fun vs H Q E h => ?_) (fun f cdv A outer s H vs Q E hr h => ?_)
  · obtain ⟨a, xs, zs, rfl, _⟩ := h
    rfl
  · obtain ⟨nl, as, ls, rfl, hn, hN, hnl, hlen, q⟩ := h
    refine ⟨_, (pss_cons (ps_set (i := 1) sc_law_once.nd rfl (Or.inl rfl) (pe_lst pa_nil))
      (pss_cons (ps_for PassesOwn.never rfl (pi_list (pv 0)) (pg_name (i := 2) sc_law_once.nd rfl (Or.inl rfl)) (pss_one (ps_if (pt_cmpR (op_notinD hr.units) (pv 2) (pv 1) (by with_unfolding_all rfl)) (pss_one (ps_expr (pe_bm PySem.F.plainAttrs_list PySem.F.slot_list_append PySem.F.type_list_append mt_append (pv 1) (pa_cons (pv 2) pa_nil)))) pss_nil)))
      (pss_one (ps_ret (pv 1))))), ?_⟩
    refine ⟨sl, fun ol hol => ?_⟩
    have s6 := Same.new (o := .lst []) hol
    have non : nl ≠ ol := ne_of_none hn hol
    refine ⟨_, rfl, nl, rfl, ⟨_, SqL.of (s6 _ _ hn)⟩, ?_⟩
    refine for_list (K := K) (a := nl) (xs := as) (fun i σ H7 => ∃ (o2 : Option V) (os : List V), σ = [some (.ref nl), some (.ref ol), o2] ∧ But ol (upd H ol (.lst [])) H7 ∧ H7 ol = some (.lst os) ∧ Nts H7 os (onceG (ls.take i)))
      ⟨_, [], rfl, But.of (Same.refl _), upd_same, .nil⟩ (fun i σ H7 _ ⟨_, _, _, b, _⟩ => SqL.of (b _ _ non (s6 _ _ hn))) ?_ ?_
    · rintro i x σ H7 hx ⟨o2, os, rfl, b7, h7, n7⟩
      obtain ⟨y, hy, a, rfl, ha⟩ := Nts.at hN hx
      have hym : y ∈ ls := List.mem_of_getElem? hy
      have ha7 : H7 a = some (.tup [.str y.1, .str y.2.1, .int y.2.2]) := b7 _ _ (ne_of_none ha hol) (s6 _ _ ha)
      have hi : i < ls.length := (List.getElem?_eq_some_iff.mp hy).1
      have htk : ls.take (i + 1) = ls.take i ++ [y] := by rw [List.take_add_one, hy]; rfl
      have hol7 : os.length ≤ i := by
        rw [n7.length]
        refine Nat.le_trans (onceG_le _) ?_
        rw [List.length_take]
        exact Nat.min_le_left _ _
      refine ⟨_, rfl, _, rfl, sp3D y, (onceG (ls.take i)).map sp3D, .tup (SqT.of ha7) (.cons (.str _) (.cons (.str _) (.cons (.int _) .nil))), .lst (SqL.of h7) n7.dt, lay3 (hnl y hym).1 (hnl y hym).2, lay3s (fun r hr' => hnl r (List.mem_of_mem_take (onceG_mem hr'))), (by show 1 ≤ 62; decide), _, rfl, ?_⟩
      rw [sp3D_any]
      refine ite2 (fun g => ?_) (fun g => ?_)
      · have g' : y ∉ onceG (ls.take i) := by simpa using g
        refine ⟨_, rfl, .inl ⟨rfl, _, SqL.of h7⟩, _, rfl, ol, _, _, rfl, rfl, h7, small1000 (by omega), ?_⟩
        refine ⟨_, _, rfl, b7.trans But.upd, upd_same, ?_⟩
        rw [htk, onceG_snoc, if_neg g']
        exact (n7.keep (Keep.lst h7)).snoc ⟨a, rfl, Keep.lst h7 _ _ (fun xs z => by cases z) ha7⟩
      · have g' : y ∈ onceG (ls.take i) := by simpa using g
        refine ⟨_, _, rfl, b7, h7, ?_⟩
        rw [htk, onceG_snoc, if_pos g']
        exact n7
    · rintro σ H7 ⟨o2, os, rfl, b7, h7, n7⟩
      rw [hN.length, List.take_of_length_le (Nat.le_refl _)] at n7
      exact ⟨_, rfl, q _ ol os (fun b o e => b7 _ _ (ne_of_none e hol) (s6 _ _ e)) hol h7 n7⟩
end
end My

namespace My
open PySem L2
theorem mod_rng (c : Int) {n : Int} (h : 0 < n) : 0 ≤ c % n ∧ c % n < n := ⟨Int.emod_nonneg _ (by omega), Int.emod_lt_of_pos _ h⟩
theorem sgn_at {i : Int} (h0 : 0 ≤ i) (h7 : i < 7) : ∃ c, atI ("+-*/:<=" : Str).cps.toList i = some c ∧ (⟨#[c]⟩ : Str) ∈ sgns := by
  obtain ⟨n, rfl⟩ := Int.eq_ofNat_of_zero_le h0
  have hn : n < 7 := by omega
  have key : ∀ n : Fin 7, ∃ c, atI ("+-*/:<=" : Str).cps.toList (n.val : Int) = some c ∧ (⟨#[c]⟩ : Str) ∈ sgns := by
    intro n
    match n with
    | 0 => exact ⟨43, by decide +kernel, by decide +kernel⟩
    | 1 => exact ⟨45, by decide +kernel, by decide +kernel⟩
    | 2 => exact ⟨42, by decide +kernel, by decide +kernel⟩
    | 3 => exact ⟨47, by decide +kernel, by decide +kernel⟩
    | 4 => exact ⟨58, by decide +kernel, by decide +kernel⟩
    | 5 => exact ⟨60, by decide +kernel, by decide +kernel⟩
    | 6 => exact ⟨61, by decide +kernel, by decide +kernel⟩
  exact key ⟨n, hn⟩
theorem text_at {zs : List Str} {i : Int} (h0 : 0 ≤ i) (h : i < zs.length) : ∃ z, atI (zs.map V.str) i = some (.str z) ∧ z ∈ zs := by
  obtain ⟨v, h1, h2⟩ := at_some (zs.map V.str) i h0 (by rw [List.length_map]; exact h)
  rw [List.getElem?_map] at h2
  cases e : zs[i.toNat]? with
  | none => rw [e] at h2; cases h2
  | some z => rw [e] at h2; cases h2; exact ⟨z, h1, List.mem_of_getElem? e⟩
theorem set_last (xs : List V) (u v : V) : ixN (xs ++ [u]).length (-1) = some xs.length ∧ (xs ++ [u]).set xs.length v = xs ++ [v] := by
  constructor
  · unfold ixN
    rw [List.length_append]
    simp
    omega
  · simp
section
variable {P : Program} {w : World} {K : PySem.W.Frag} {mg : Str → Option Value} {base : Heap}
def WordsOk (names zs : List Str) : Prop := ∀ z ∈ zs, z ∈ sgns ∨ z ∈ names ∨ ∃ i, NumW z i
def spWords (K : PySem.W.Frag) : Sp := fun vs H Q _ => ∃ (a nl : Addr) (ns : List Int) (names : List Str), vs = [.ref a, .ref nl] ∧ SqL K H a (ns.map V.int) ∧ ns.length ≤ 63 ∧ H nl = some (.lst (names.map V.str)) ∧ 0 < names.length ∧ names.length ≤ 100 ∧ (∀ z ∈ names, Nl z) ∧
  ∀ H' l zs, Same H H' → H l = none → H' l = some (.lst (zs.map V.str)) → Pre zs 1 0 → zs.length ≤ 24 → WordsOk names zs → Q (.ref l) H'
theorem sc_law_words : FnScope ["_law_script", "_law_names", "_law_most", "_law_words_here", "_law_need", "_law_k", "_law_cell_here"] ["_law_script", "_law_names"] (defScope s_law_words) := ⟨rfl, rfl, rfl, by decide +kernel, rfl, by decide +kernel, by decide +kernel⟩
theorem k_law_words (T : Tops K mg) : Known P w K mg base CX0 2 "_law_words" ["_law_script", "_law_names"] (spWords K) := by
  have G_law_cell : Known P w K mg base CX0 1 "_law_cell" ["_law_script", "_law_k"] (spCell K) := k_law_cell T
  have G_law_number : Known P w K mg base CX0 1 "_law_number" ["_law_cell_here"] spNum := k_law_number T
  refine T.d_law_words.known sc_law_words (fun _ _ _ _ _ _ us hl => match us, hl with | [_, _], _ => rfl) (fun vs H Q E h => ?_) (fun f cdv A outer s H vs Q E hr h => ?_)
  · obtain ⟨a, nl, ns, names, rfl, _⟩ := h
    rfl
  · obtain ⟨a, nl, ns, names, rfl, hS, hl63, hnl, hn0, hn6, hnN, q⟩ := h
    refine ⟨_, (pss_cons (ps_set (i := 2) sc_law_words.nd rfl (Or.inl rfl) (pe_op op_add pe_int (pe_op op_mod (pe_callN G_law_cell (hr.mono (by decide)) pass0 (pa_cons (pv 0) (pa_cons pe_int pa_nil))) pe_int)))
      (pss_cons (ps_set (i := 3) sc_law_words.nd rfl (Or.inl rfl) (pe_lst pa_nil))
      (pss_cons (ps_set (i := 4) sc_law_words.nd rfl (Or.inl rfl) pe_int)
      (pss_cons (ps_for PassesOwn.never rfl (pi_range1 rfl T.range (pa_cons pe_int pa_nil)) (pg_name (i := 5) sc_law_words.nd rfl (Or.inl rfl)) (pss_one (ps_if (pt_cmpR op_gt (pv 4) pe_int (nomark _)) (pss_cons (ps_set (i := 6) sc_law_words.nd rfl (Or.inl rfl) (pe_callN G_law_cell (hr.mono (by decide)) pass0 (pa_cons (pv 0) (pa_cons (pe_op op_add pe_int (pv 5)) pa_nil))))
      (pss_one (ps_if (PW.pt (pw_and (pt_cmpR op_eq (pe_op op_mod (pv 6) pe_int) pe_int (nomark _)) (pw_and1 (pt_cmpR op_le (pe_op op_add (pe_op op_add (pe_callB call_len rfl T.len b_len (pa_cons (pv 3) pa_nil)) (pv 4)) pe_int) (pv 2) (nomark _))))) (pss_cons (ps_expr (pe_bm PySem.F.plainAttrs_list PySem.F.slot_list_append PySem.F.type_list_append mt_append (pv 3) (pa_cons (pe_ix ix_str pe_str (pe_op op_mod (pe_op op_fdiv (pv 6) pe_int) pe_int) (fun _ _ => rfl)) pa_nil)))
      (pss_one (ps_set (i := 4) sc_law_words.nd rfl (Or.inl rfl) (pe_op op_add (pv 4) pe_int)))) (pss_cons (ps_set (i := 4) sc_law_words.nd rfl (Or.inl rfl) (pe_op op_sub (pv 4) pe_int))
      (pss_cons (ps_expr (pe_bm PySem.F.plainAttrs_list PySem.F.slot_list_append PySem.F.type_list_append mt_append (pv 3) (pa_cons (pe_ix ix_list (pv 1) (pe_op op_mod (pe_op op_fdiv (pv 6) pe_int) (pe_callB call_len rfl T.len b_len (pa_cons (pv 1) pa_nil))) (fun _ _ => rfl)) pa_nil)))
      (pss_one (ps_if (pt_cmpR op_eq (pe_op op_mod (pe_op op_fdiv (pv 6) pe_int) pe_int) pe_int (nomark _)) (pss_one (ps_asg (pe_callTy call_str_int rfl T.str b_str (pa_cons (pe_callN G_law_number (hr.mono (by decide)) pass0 (pa_cons (pe_op op_fdiv (pv 6) pe_int) pa_nil)) pa_nil)) (pg_sub (pv 3) (pe_un un_neg pe_int) set_list (fun _ => rfl)))) pss_nil))))))) pss_nil)))
      (pss_one (ps_ret (pv 3))))))), ?_⟩
    obtain ⟨M, hM⟩ := Int.eq_ofNat_of_zero_le (show 0 ≤ 1 + cellZ ns 0 % 24 by have := (mod_rng (cellZ ns 0) (n := 24) (by decide)).1; omega)
    have hM2 : 1 ≤ M ∧ M ≤ 24 := by
      have := mod_rng (cellZ ns 0) (n := 24) (by decide)
      omega
    refine ⟨_, rfl, a, ns, 0, rfl, hS, hl63, by decide, by decide, _, _, rfl, rfl, (show (0 : Int) < 24 by decide), _, _, rfl, rfl, ?_⟩
    change tSeq _ _ _ [some (.ref a), some (.ref nl), some (.int (1 + cellZ ns 0 % 24)), none, none, none, none] H
    rw [hM]
    refine ⟨sl, fun wl hwl => ?_⟩
    have s1 := Same.new (o := .lst []) hwl
    refine ⟨24, rfl, by decide, by decide, ?_⟩
    refine for_range (lo := 0) (n := 24) (fun i σ H2 => ∃ (o5 o6 : Option V) (m : Nat) (zs : List Str), σ = [some (.ref a), some (.ref nl), some (.int (M : Int)), some (.ref wl), some (.int (m : Int)), o5, o6] ∧ Same H H2 ∧ H2 wl = some (.lst (zs.map V.str)) ∧ Pre zs 1 m ∧ zs.length + m ≤ M ∧ (m = 0 ∨ zs.length = i) ∧ WordsOk names zs)
      ⟨_, _, 1, [], rfl, s1, upd_same, rfl, by simp; omega, .inr rfl, fun z hz => by cases hz⟩ ?_ ?_
    · rintro i σ H2 hi ⟨o5, o6, m, zs, rfl, s2, h2, hp, hlm, hmi, hok⟩
      refine ⟨_, rfl, _, _, rfl, rfl, _, rfl, ?_⟩
      refine ite2 (fun h => ?_) (fun h => ?_)
      · have m0 : 0 < m := by
          have := of_decide_eq_true h
          omega
        have hlen : zs.length = i := by
          rcases hmi with e | e
          · omega
          · exact e
        have hS2 := s2.seq hS
        refine ⟨_, rfl, _, rfl, _, _, rfl, rfl, a, ns, _, rfl, hS2, hl63, by omega, by omega, ?_⟩
        generalize cellZ ns (10 + (0 + (i : Int))) = c
        refine ⟨_, rfl, _, _, rfl, rfl, (show (0 : Int) < 2 by decide), rfl, _, rfl, ?_⟩
        have upS : ∀ (H3 : Hp) (us : List V), Same H2 H3 → Same H (upd H3 wl (.lst us)) := fun H3 us s3 b o e => by
          rw [upd_ne (ne_of_none e hwl)]
          exact s3 _ _ (s2 _ _ e)
        refine ite2 (fun h1 => ?_) (fun h1 => ?_)
        · refine ⟨_, rfl, _, _, rfl, .inl ⟨_, SqL.of h2, rfl⟩, _, rfl, _, _, rfl, rfl, _, _, rfl, rfl, _, rfl, _, _, rfl, rfl, _, rfl, ?_⟩
          refine ite2 (fun h2' => ?_) (fun h2' => ?_)
          · have hle := of_decide_eq_true h2'
            rw [List.length_map] at hle
            have hc0 := mod_rng (c / 2) (n := 7) (by decide)
            obtain ⟨ch, hc1, hc2⟩ := sgn_at hc0.1 hc0.2
            refine ⟨_, rfl, .inl ⟨rfl, _, SqL.of h2⟩, _, rfl, _, _, rfl, rfl, ⟨by decide, by decide⟩, _, _, rfl, rfl, (show (0 : Int) < 7 by decide), _, _, ch, rfl, rfl, sl (by decide), hc1, wl, _, _, rfl, rfl, h2, small1000 (by rw [List.length_map]; omega), ?_⟩
            refine ⟨_, rfl, _, _, rfl, rfl, ?_⟩
            refine ⟨_, _, m + 1, zs ++ [⟨#[ch]⟩], rfl, upS H2 _ (Same.refl _), by rw [List.map_append]; exact upd_same, hp.sgn hc2 m0, by rw [List.length_append]; simp; omega, .inr (by rw [List.length_append, hlen]; rfl), fun z hz => ?_⟩
            rcases List.mem_append.mp hz with hz | hz
            · exact hok z hz
            · rw [List.mem_singleton.mp hz]; exact .inl hc2
          · refine ⟨_, rfl, _, _, rfl, rfl, ?_⟩
            have hc0 := mod_rng (c / 6) (n := (names.length : Int)) (by omega)
            obtain ⟨y, hy1, hy2⟩ := text_at (zs := names) hc0.1 hc0.2
            have hnl2 := s2 _ _ hnl
            refine ⟨_, rfl, .inl ⟨rfl, _, SqL.of h2⟩, _, rfl, _, rfl, _, _, rfl, rfl, ⟨by decide, by decide⟩, _, rfl, _, _, rfl, .inl ⟨_, SqL.of hnl2, rfl⟩, _, _, rfl, rfl, (show (0 : Int) < ((names.map V.str).length : Int) by rw [List.length_map]; omega), nl, _, _, _, rfl, rfl, SqL.of hnl2, (by rw [List.length_map]; exact hy1), wl, _, _, rfl, rfl, h2, small1000 (by rw [List.length_map]; omega), ?_⟩
            have g3 : upd H2 wl (.lst (zs.map V.str ++ [.str y])) wl = some (.lst (zs.map V.str ++ [.str y])) := upd_same
            have s3 := upS H2 (zs.map V.str ++ [.str y]) (Same.refl _)
            refine ⟨_, rfl, _, _, rfl, rfl, ⟨by decide, by decide⟩, _, _, rfl, rfl, (show (0 : Int) < 3 by decide), rfl, _, rfl, ?_⟩
            refine ite2 (fun _ => ?_) (fun _ => ?_)
            · refine ⟨_, rfl, _, _, rfl, rfl, ⟨by decide, by decide⟩, _, rfl, fun H4 j s4 hj => ⟨j, rfl, log_of hj.1 hj.2, ?_⟩⟩
              have hyw := wr_toString j
              generalize PySem.Str.ofString (toString j) = u at hyw ⊢
              have g4 := s4 _ _ g3
              obtain ⟨e1, e2⟩ := set_last (zs.map V.str) (.str y) (.str u)
              refine ⟨_, rfl, _, rfl, wl, _, _, _, rfl, rfl, g4, e1, ?_⟩
              rw [e2]
              have hw : NumW u j := ⟨hj, hyw⟩
              refine ⟨_, _, m - 1, zs ++ [u], (show ([some (.ref a), some (.ref nl), some (.int (M : Int)), some (.ref wl), some (.int ((m : Int) - 1)), some (.int (0 + (i : Int))), some (.int c)] : St) = [some (.ref a), some (.ref nl), some (.int (M : Int)), some (.ref wl), some (.int ((m - 1 : Nat) : Int)), some (.int (0 + (i : Int))), some (.int c)] by rw [show ((m - 1 : Nat) : Int) = (m : Int) - 1 by omega]), fun b o e => ?_, by rw [List.map_append]; exact upd_same, hp.opd (.inr ⟨j, hw⟩) m0, by rw [List.length_append]; simp; omega, .inr (by rw [List.length_append, hlen]; rfl), fun z hz => ?_⟩
              · rw [upd_ne (ne_of_none e hwl)]
                exact s4 _ _ (s3 _ _ e)
              · rcases List.mem_append.mp hz with hz | hz
                · exact hok z hz
                · rw [List.mem_singleton.mp hz]; exact .inr (.inr ⟨j, hw⟩)
            · refine ⟨_, _, m - 1, zs ++ [y], (show ([some (.ref a), some (.ref nl), some (.int (M : Int)), some (.ref wl), some (.int ((m : Int) - 1)), some (.int (0 + (i : Int))), some (.int c)] : St) = [some (.ref a), some (.ref nl), some (.int (M : Int)), some (.ref wl), some (.int ((m - 1 : Nat) : Int)), some (.int (0 + (i : Int))), some (.int c)] by rw [show ((m - 1 : Nat) : Int) = (m : Int) - 1 by omega]), s3, by rw [List.map_append]; exact upd_same, hp.opd (.inl (hnN y hy2)) m0, by rw [List.length_append]; simp; omega, .inr (by rw [List.length_append, hlen]; rfl), fun z hz => ?_⟩
              rcases List.mem_append.mp hz with hz | hz
              · exact hok z hz
              · rw [List.mem_singleton.mp hz]; exact .inr (.inl hy2)
        · refine ⟨_, rfl, _, _, rfl, rfl, ?_⟩
          have hc0 := mod_rng (c / 6) (n := (names.length : Int)) (by omega)
          obtain ⟨y, hy1, hy2⟩ := text_at (zs := names) hc0.1 hc0.2
          have hnl2 := s2 _ _ hnl
          refine ⟨_, rfl, .inl ⟨rfl, _, SqL.of h2⟩, _, rfl, _, rfl, _, _, rfl, rfl, ⟨by decide, by decide⟩, _, rfl, _, _, rfl, .inl ⟨_, SqL.of hnl2, rfl⟩, _, _, rfl, rfl, (show (0 : Int) < ((names.map V.str).length : Int) by rw [List.length_map]; omega), nl, _, _, _, rfl, rfl, SqL.of hnl2, (by rw [List.length_map]; exact hy1), wl, _, _, rfl, rfl, h2, small1000 (by rw [List.length_map]; omega), ?_⟩
          have g3 : upd H2 wl (.lst (zs.map V.str ++ [.str y])) wl = some (.lst (zs.map V.str ++ [.str y])) := upd_same
          have s3 := upS H2 (zs.map V.str ++ [.str y]) (Same.refl _)
          refine ⟨_, rfl, _, _, rfl, rfl, ⟨by decide, by decide⟩, _, _, rfl, rfl, (show (0 : Int) < 3 by decide), rfl, _, rfl, ?_⟩
          refine ite2 (fun _ => ?_) (fun _ => ?_)
          · refine ⟨_, rfl, _, _, rfl, rfl, ⟨by decide, by decide⟩, _, rfl, fun H4 j s4 hj => ⟨j, rfl, log_of hj.1 hj.2, ?_⟩⟩
            have hyw := wr_toString j
            generalize PySem.Str.ofString (toString j) = u at hyw ⊢
            have g4 := s4 _ _ g3
            obtain ⟨e1, e2⟩ := set_last (zs.map V.str) (.str y) (.str u)
            refine ⟨_, rfl, _, rfl, wl, _, _, _, rfl, rfl, g4, e1, ?_⟩
            rw [e2]
            have hw : NumW u j := ⟨hj, hyw⟩
            refine ⟨_, _, m - 1, zs ++ [u], (show ([some (.ref a), some (.ref nl), some (.int (M : Int)), some (.ref wl), some (.int ((m : Int) - 1)), some (.int (0 + (i : Int))), some (.int c)] : St) = [some (.ref a), some (.ref nl), some (.int (M : Int)), some (.ref wl), some (.int ((m - 1 : Nat) : Int)), some (.int (0 + (i : Int))), some (.int c)] by rw [show ((m - 1 : Nat) : Int) = (m : Int) - 1 by omega]), fun b o e => ?_, by rw [List.map_append]; exact upd_same, hp.opd (.inr ⟨j, hw⟩) m0, by rw [List.length_append]; simp; omega, .inr (by rw [List.length_append, hlen]; rfl), fun z hz => ?_⟩
            · rw [upd_ne (ne_of_none e hwl)]
              exact s4 _ _ (s3 _ _ e)
            · rcases List.mem_append.mp hz with hz | hz
              · exact hok z hz
              · rw [List.mem_singleton.mp hz]; exact .inr (.inr ⟨j, hw⟩)
          · refine ⟨_, _, m - 1, zs ++ [y], (show ([some (.ref a), some (.ref nl), some (.int (M : Int)), some (.ref wl), some (.int ((m : Int) - 1)), some (.int (0 + (i : Int))), some (.int c)] : St) = [some (.ref a), some (.ref nl), some (.int (M : Int)), some (.ref wl), some (.int ((m - 1 : Nat) : Int)), some (.int (0 + (i : Int))), some (.int c)] by rw [show ((m - 1 : Nat) : Int) = (m : Int) - 1 by omega]), s3, by rw [List.map_append]; exact upd_same, hp.opd (.inl (hnN y hy2)) m0, by rw [List.length_append]; simp; omega, .inr (by rw [List.length_append, hlen]; rfl), fun z hz => ?_⟩
            rcases List.mem_append.mp hz with hz | hz
            · exact hok z hz
            · rw [List.mem_singleton.mp hz]; exact .inr (.inl hy2)
      · have m0 : m = 0 := by
          have : ¬ (0 : Int) < (m : Int) := fun z => h (decide_eq_true z)
          omega
        exact ⟨_, _, m, zs, rfl, s2, h2, hp, hlm, .inl m0, hok⟩
    · rintro σ H2 ⟨o5, o6, m, zs, rfl, s2, h2, hp, hlm, hmi, hok⟩
      have m0 : m = 0 := by omega
      subst m0
      exact ⟨_, rfl, q _ wl zs s2 hwl h2 hp (by omega) hok⟩
end
end My

namespace My
open PySem L2
theorem in_slash : ∀ s ∈ sgns, (!(Builtin.Str.occurrences ("/:" : Str) s 0 ("/:" : Str).length 1).isEmpty) = decide (s = "/" ∨ s = ":") := by decide +kernel
theorem fdiv_alt (x : Int) {y : Int} (h : y ≠ 0) : (x - x.fmod y).fdiv y = x.fdiv y := by
  have e : x - x.fmod y = y * x.fdiv y := by
    have := Int.fmod_add_mul_fdiv x y
    omega
  rw [e, Int.mul_fdiv_cancel_left _ h]
theorem fmod_alt (x y : Int) : x - y * x.fdiv y = x.fmod y := by
  have := Int.fmod_add_mul_fdiv x y
  omega
theorem bg_fdiv {x y : Int} (hx : bnd F60 x) (hy : y ≠ 0) : Bg (x.fdiv y) := by
  have e : F60 = ((10 ^ 60 : Nat) : Int) := by decide +kernel
  have e2 : (10 ^ 60 : Nat) + 1 < 2 ^ 4000 := by decide +kernel
  have h1 := hx.1
  have h2 := hx.2
  rw [e] at h1 h2
  have key : (x.fdiv y).natAbs ≤ x.natAbs + 1 := by
    have hd := Int.fmod_add_mul_fdiv x y
    generalize hq : x.fdiv y = q at *
    generalize hr : x.fmod y = r at *
    have hr2 : r.natAbs ≤ y.natAbs := by
      have e3 := Int.fmod_eq_emod (a := x) (b := y)
      have e4 := Int.emod_nonneg x hy
      have e5 := Int.emod_lt x hy
      rw [hr] at e3
      split at e3 <;> omega
    have hm : (y * q).natAbs = y.natAbs * q.natAbs := Int.natAbs_mul y q
    have h3 : (y * q).natAbs ≤ x.natAbs + y.natAbs := by omega
    rw [hm] at h3
    have y1 : 1 ≤ y.natAbs := by omega
    rcases Nat.lt_or_ge (x.natAbs + 1) q.natAbs with hlt | hge
    · exfalso
      have h4 : y.natAbs * (x.natAbs + 2) ≤ y.natAbs * q.natAbs := Nat.mul_le_mul_left _ hlt
      have h5 : y.natAbs * (x.natAbs + 2) = y.natAbs * x.natAbs + y.natAbs * 2 := Nat.mul_add _ _ _
      have h6 : x.natAbs ≤ y.natAbs * x.natAbs := Nat.le_mul_of_pos_left _ y1
      omega
    · exact hge
  unfold Bg
  generalize (2 ^ 4000 : Nat) = G at e2 ⊢
  generalize (10 ^ 60 : Nat) = F at *
  omega
section
variable {P : Program} {w : World} {K : PySem.W.Frag} {mg : Str → Option Value} {base : Heap}
def spSigned (K : PySem.W.Frag) : Sp := fun vs H Q _ => ∃ (s : Str) (v1 v2 : V) (d1 d2 : PyData), vs = [.str s, v1, v2] ∧ s ∈ sgns ∧ PvV K H v1 d1 ∧ PvV K H v2 d2 ∧ ∀ H' v, Same H H' → PvV K H' v (joinD s d1 d2) → Q v H'
abbrev Nsg : List Str := ["_law_sign", "_law_one", "_law_other", "_law_found"]
theorem sc_law_signed : FnScope Nsg ["_law_sign", "_law_one", "_law_other"] (defScope s_law_signed) := ⟨rfl, rfl, rfl, by decide +kernel, rfl, by decide +kernel, by decide +kernel⟩
theorem k_law_signed (T : Tops K mg) : Known P w K mg base CX0 1 "_law_signed" ["_law_sign", "_law_one", "_law_other"] (spSigned K) := by
  refine T.d_law_signed.known sc_law_signed (fun _ _ _ _ _ _ us hl => match us, hl with | [_, _, _], _ => rfl) (fun vs H Q E h => ?_) (fun f cdv A outer s H vs Q E hr h => ?_)
  · obtain ⟨sg, v1, v2, d1, d2, rfl, _⟩ := h
    rfl
  · obtain ⟨sg, v1, v2, d1, d2, rfl, hsg, h1, h2, q⟩ := h
    have rest : ∃ t, PSs (cxOf CX0 P w K mg base Nsg "_law_signed" (defScope s_law_signed) f cdv A outer s H E).nox ((defBody s_law_signed).drop 10) t ∧
        ∀ (W : Int) (H1 : Hp) (o1 o2 : V), (∀ H' v, Same H1 H' → PvV K H' v (bndD W) → Q v H') → t { nx := fun _ H' => Q .non H', rt := Q } [some (.str sg), some o1, some o2, some (.int W)] H1 := by
      refine ⟨_, (pss_cons (ps_if (pt_cmpR op_ge (pe_callB call_abs rfl T.abs b_abs (pa_cons (pv 3) pa_nil)) (pe_op op_pow pe_int pe_int) (nomark _)) (pss_one (ps_ret (pe_tup (pa_cons pe_str (pa_cons pe_str pa_nil))))) pss_nil)
        (pss_one (ps_ret (pv 3)))), ?_⟩
      intro W H1 o1 o2 k
      refine ⟨_, rfl, W, rfl, _, _, rfl, rfl, ⟨by decide, by decide, by decide⟩, _, _, rfl, rfl, _, rfl, ?_⟩
      unfold bndD at k
      by_cases cc : bnd F60 W
      · rw [if_pos (numD_of cc)] at k
        have : decide ((if W < 0 then -W else W) ≥ F60) = false := decide_eq_false (by
          obtain ⟨c1, c2⟩ := cc
          generalize F60 = F at *
          split <;> omega)
        rw [this]
        exact iteF ⟨_, rfl, k _ _ (Same.refl _) (.inl ⟨W, rfl, rfl, cc⟩)⟩
      · rw [numD_no cc, if_neg Bool.false_ne_true] at k
        have : decide ((if W < 0 then -W else W) ≥ F60) = true := decide_eq_true (by
          unfold bnd at cc
          generalize F60 = F at *
          split <;> omega)
        rw [this]
        refine iteT ⟨sl, fun t1 ht1 => ?_⟩
        exact k _ _ (Same.new ht1) (.inr ⟨t1, _, rfl, SqT.of upd_same, rfl, .inl rfl⟩)
    obtain ⟨tR, hR, qR⟩ := rest
    refine ⟨_, (pss_cons (ps_if (pt_val (pe_callB call_isT rfl T.isinstance b_isinstance (pa_cons (pv 1) (pa_cons (pe_ty T.tuple b_tuple) pa_nil))) (fun _ => rfl)) (pss_one (ps_ret (pv 1))) pss_nil)
      (pss_cons (ps_if (pt_val (pe_callB call_isT rfl T.isinstance b_isinstance (pa_cons (pv 2) (pa_cons (pe_ty T.tuple b_tuple) pa_nil))) (fun _ => rfl)) (pss_one (ps_ret (pv 2))) pss_nil)
      (pss_cons (ps_if (PW.pt (pw_and (pt_cmpR op_in_str (pv 0) pe_str (by with_unfolding_all rfl)) (pw_and1 (pt_cmpR op_eq (pv 2) pe_int (nomark _))))) (pss_one (ps_ret (pe_tup (pa_cons pe_str (pa_cons pe_str pa_nil))))) pss_nil)
      (pss_cons (ps_set (i := 3) sc_law_signed.nd rfl (Or.inl rfl) (pe_callTy call_int1 rfl T.int b_int (pa_cons (pe_cmpR op_lt (pv 1) (pv 2) (nomark _)) pa_nil)))
      (pss_cons (ps_if (pt_cmpR op_eq (pv 0) pe_str (nomark _)) (pss_one (ps_set (i := 3) sc_law_signed.nd rfl (Or.inl rfl) (pe_op op_add (pv 1) (pv 2)))) pss_nil)
      (pss_cons (ps_if (pt_cmpR op_eq (pv 0) pe_str (nomark _)) (pss_one (ps_set (i := 3) sc_law_signed.nd rfl (Or.inl rfl) (pe_op op_sub (pv 1) (pv 2)))) pss_nil)
      (pss_cons (ps_if (pt_cmpR op_eq (pv 0) pe_str (nomark _)) (pss_one (ps_set (i := 3) sc_law_signed.nd rfl (Or.inl rfl) (pe_op op_mulB (pv 1) (pv 2)))) pss_nil)
      (pss_cons (ps_if (pt_cmpR op_eq (pv 0) pe_str (nomark _)) (pss_one (ps_set (i := 3) sc_law_signed.nd rfl (Or.inl rfl) (pe_callTy call_int1 rfl T.int b_int (pa_cons (pe_cmpR op_eq (pv 1) (pv 2) (nomark _)) pa_nil)))) pss_nil)
      (pss_cons (ps_if (pt_cmpR op_eq (pv 0) pe_str (nomark _)) (pss_one (ps_set (i := 3) sc_law_signed.nd rfl (Or.inl rfl) (pe_op op_fdivB (pe_op op_sub (pv 1) (pe_op op_modN (pv 1) (pv 2))) (pv 2)))) pss_nil)
      (pss_cons (ps_if (pt_cmpR op_eq (pv 0) pe_str (nomark _)) (pss_one (ps_set (i := 3) sc_law_signed.nd rfl (Or.inl rfl) (pe_op op_sub (pv 1) (pe_op op_mulB (pv 2) (pe_op op_fdivB (pv 1) (pv 2)))))) pss_nil)
      hR)))))))))), ?_⟩
    have d1' := h1.dt
    rcases h1 with ⟨x, rfl, rfl, bx⟩ | ⟨a, y, rfl, hq, rfl, hy⟩
    · refine ⟨_, rfl, _, "tuple", _, _, rfl, d1', kit_tuple K _, _, rfl, iteF ?_⟩
      have d2' := h2.dt
      rcases h2 with ⟨y, rfl, rfl, yb⟩ | ⟨a, y, rfl, hq, rfl, hy⟩
      · refine ⟨_, rfl, _, "tuple", _, _, rfl, d2', kit_tuple K _, _, rfl, iteF ?_⟩
        refine ⟨_, rfl, _, _, rfl, rfl, _, rfl, ?_⟩
        rw [in_slash sg hsg]
        have q' : ¬ ((sg = "/" ∨ sg = ":") ∧ y = 0) → ∀ W, W = opZ sg x y → ∀ H' v, Same H H' → PvV K H' v (bndD W) → Q v H' := fun hno W hW H' v s' hv => by
          refine q H' v s' ?_
          show PvV K H' v (if (sg = "/" ∨ sg = ":") ∧ y = 0 then nought else bndD (opZ sg x y))
          rw [if_neg hno, ← hW]
          exact hv
        refine ite2 (fun hs => ?_) (fun hs => ?_)
        · have hs' := of_decide_eq_true hs
          refine ⟨_, rfl, rfl, _, rfl, ite2 (fun h0 => ?_) (fun h0 => ?_)⟩
          · have hy0 : y = 0 := V.int.inj (of_decide_eq_true h0)
            refine ⟨sl, fun t1 ht1 => q _ _ (Same.new ht1) ?_⟩
            show PvV K _ _ (if (sg = "/" ∨ sg = ":") ∧ y = 0 then nought else bndD (opZ sg x y))
            rw [if_pos ⟨hs', hy0⟩]
            exact .inr ⟨t1, _, rfl, SqT.of upd_same, rfl, .inr rfl⟩
          · have hy0 : y ≠ 0 := fun z => h0 (decide_eq_true (congrArg V.int z))
            have qq := q' (fun z => hy0 z.2)
            refine ⟨_, rfl, _, rfl, _, _, rfl, rfl, .inr ⟨_, rfl, ?_⟩⟩
            rcases hs' with rfl | rfl
            · iterate 4 refine ⟨_, rfl, rfl, _, rfl, ite2 (fun h => absurd (V.str.inj (of_decide_eq_true h)) (by decide)) (fun _ => ?_)⟩
              refine ⟨_, rfl, rfl, _, rfl, ite2 (fun _ => ?_) (fun h => absurd (decide_eq_true rfl) h)⟩
              refine ⟨_, rfl, _, rfl, _, rfl, _, _, rfl, rfl, hy0, _, _, rfl, rfl, _, rfl, _, _, rfl, rfl, ⟨hy0, bg_of yb⟩, ?_⟩
              refine ⟨_, rfl, rfl, _, rfl, ite2 (fun h => absurd (V.str.inj (of_decide_eq_true h)) (by decide)) (fun _ => ?_)⟩
              exact qR _ _ _ _ (qq _ ((fdiv_alt x hy0).trans rfl))
            · iterate 5 refine ⟨_, rfl, rfl, _, rfl, ite2 (fun h => absurd (V.str.inj (of_decide_eq_true h)) (by decide)) (fun _ => ?_)⟩
              refine ⟨_, rfl, rfl, _, rfl, ite2 (fun _ => ?_) (fun h => absurd (decide_eq_true rfl) h)⟩
              refine ⟨_, rfl, _, rfl, _, rfl, _, rfl, _, _, rfl, rfl, ⟨hy0, bg_of yb⟩, _, _, rfl, rfl, ⟨bg_of yb, bg_fdiv bx hy0⟩, _, _, rfl, rfl, ?_⟩
              exact qR _ _ _ _ (qq _ ((fmod_alt x y).trans rfl))
        · have hs' : ¬ (sg = "/" ∨ sg = ":") := fun z => hs (decide_eq_true z)
          have qq := q' (fun z => hs' z.1)
          refine ⟨_, rfl, _, rfl, _, _, rfl, rfl, .inr ⟨_, rfl, ?_⟩⟩
          simp only [List.mem_cons, List.not_mem_nil, or_false] at hsg
          rcases hsg with rfl | rfl | rfl | rfl | rfl | rfl | rfl
          · refine ⟨_, rfl, rfl, _, rfl, ite2 (fun _ => ?_) (fun h => absurd (decide_eq_true rfl) h)⟩
            refine ⟨_, rfl, _, rfl, _, _, rfl, rfl, ?_⟩
            iterate 5 refine ⟨_, rfl, rfl, _, rfl, ite2 (fun h => absurd (V.str.inj (of_decide_eq_true h)) (by decide)) (fun _ => ?_)⟩
            exact qR _ _ _ _ (qq _ rfl)
          · refine ⟨_, rfl, rfl, _, rfl, ite2 (fun h => absurd (V.str.inj (of_decide_eq_true h)) (by decide)) (fun _ => ?_)⟩
            refine ⟨_, rfl, rfl, _, rfl, ite2 (fun _ => ?_) (fun h => absurd (decide_eq_true rfl) h)⟩
            refine ⟨_, rfl, _, rfl, _, _, rfl, rfl, ?_⟩
            iterate 4 refine ⟨_, rfl, rfl, _, rfl, ite2 (fun h => absurd (V.str.inj (of_decide_eq_true h)) (by decide)) (fun _ => ?_)⟩
            exact qR _ _ _ _ (qq _ rfl)
          · iterate 2 refine ⟨_, rfl, rfl, _, rfl, ite2 (fun h => absurd (V.str.inj (of_decide_eq_true h)) (by decide)) (fun _ => ?_)⟩
            refine ⟨_, rfl, rfl, _, rfl, ite2 (fun _ => ?_) (fun h => absurd (decide_eq_true rfl) h)⟩
            refine ⟨_, rfl, _, rfl, _, _, rfl, rfl, ⟨bg_of bx, bg_of yb⟩, ?_⟩
            iterate 3 refine ⟨_, rfl, rfl, _, rfl, ite2 (fun h => absurd (V.str.inj (of_decide_eq_true h)) (by decide)) (fun _ => ?_)⟩
            exact qR _ _ _ _ (qq _ rfl)
          · exact absurd (.inl rfl) hs'
          · exact absurd (.inr rfl) hs'
          · iterate 6 refine ⟨_, rfl, rfl, _, rfl, ite2 (fun h => absurd (V.str.inj (of_decide_eq_true h)) (by decide)) (fun _ => ?_)⟩
            refine qR _ _ _ _ (qq _ ?_)
            show (if decide (x < y) = true then (1 : Int) else 0) = if x < y then 1 else 0
            by_cases c : x < y <;> simp [c]
          · iterate 3 refine ⟨_, rfl, rfl, _, rfl, ite2 (fun h => absurd (V.str.inj (of_decide_eq_true h)) (by decide)) (fun _ => ?_)⟩
            refine ⟨_, rfl, rfl, _, rfl, ite2 (fun _ => ?_) (fun h => absurd (decide_eq_true rfl) h)⟩
            refine ⟨_, rfl, _, rfl, rfl, .inr ⟨_, rfl, ?_⟩⟩
            iterate 2 refine ⟨_, rfl, rfl, _, rfl, ite2 (fun h => absurd (V.str.inj (of_decide_eq_true h)) (by decide)) (fun _ => ?_)⟩
            refine qR _ _ _ _ (qq _ ?_)
            show (if decide (V.int x = V.int y) = true then (1 : Int) else 0) = if x = y then 1 else 0
            by_cases c : x = y
            · subst c; simp
            · have : ¬ V.int x = V.int y := fun z => c (V.int.inj z)
              simp [c]
      · refine ⟨_, rfl, _, "tuple", _, _, rfl, d2', kit_tuple K _, _, rfl, iteT ⟨_, rfl, q _ _ (Same.refl _) (.inr ⟨a, y, rfl, hq, rfl, hy⟩)⟩⟩
    · exact ⟨_, rfl, _, "tuple", _, _, rfl, d1', kit_tuple K _, _, rfl, iteT ⟨_, rfl, q _ _ (Same.refl _) (.inr ⟨a, y, rfl, hq, rfl, hy⟩)⟩⟩
end
end My

namespace My
open PySem L2
section
variable {P : Program} {w : World} {K : PySem.W.Frag} {mg : Str → Option Value} {base : Heap}
def spDueL (K : PySem.W.Frag) : Sp := fun vs H Q _ => ∃ (a d : Addr) (zs : List Str) (kvs : List (Key × V)), vs = [.ref a, .ref d] ∧ SqL K H a (zs.map V.str) ∧ H d = some (.dK kvs) ∧ zs.length ≤ 100 ∧ Pre zs 1 0 ∧ EnvOk kvs zs ∧ (∀ z ∈ zs, ¬ Nl z → valV kvs (.inr z) = none) ∧ ∀ H' v, Same H H' → PvV K H' v (valOf kvs zs) → Q v H'
abbrev Ndu : List Str := ["_law_words_here", "_law_numbers", "_law_pile", "_law_word", "_law_one", "_law_other"]
theorem sc_law_due : FnScope Ndu ["_law_words_here", "_law_numbers"] (defScope s_law_due) := ⟨rfl, rfl, rfl, by decide +kernel, rfl, by decide +kernel, by decide +kernel⟩
theorem k_law_due (T : Tops K mg) : Known P w K mg base CX0 2 "_law_due" ["_law_words_here", "_law_numbers"] (spDueL K) := by
  have G_law_signed : Known P w K mg base CX0 1 "_law_signed" ["_law_sign", "_law_one", "_law_other"] (spSigned K) := k_law_signed T
  refine T.d_law_due.known sc_law_due (fun _ _ _ _ _ _ us hl => match us, hl with | [_, _], _ => rfl) (fun vs H Q E h => ?_) (fun f cdv A outer s H vs Q E hr h => ?_)
  · obtain ⟨a, d, zs, kvs, rfl, _⟩ := h
    rfl
  · obtain ⟨a, d, zs, kvs, rfl, hq, hd, hl, hP, hE, hNn, q⟩ := h
    have hu := hu_of hr
    refine ⟨_, (pss_cons (ps_set (i := 2) sc_law_due.nd rfl (Or.inl rfl) (pe_lst pa_nil))
      (pss_cons (ps_for PassesOwn.never rfl (pi_rev (pv 0) rfl T.reversed b_reversed') (pg_name (i := 3) sc_law_due.nd rfl (Or.inl rfl)) (pss_one (ps_if (pt_cmp (pc_din hu (pv 3) (pv 1))) (pss_one (ps_expr (pe_bm PySem.F.plainAttrs_list PySem.F.slot_list_append PySem.F.type_list_append mt_append (pv 2) (pa_cons (pe_dget hu (pv 1) (pv 3) (fun _ _ => rfl)) pa_nil)))) (pss_one (ps_if (pt_cmpR op_in_seq (pv 3) (pe_lst (pa_cons pe_str (pa_cons pe_str (pa_cons pe_str (pa_cons pe_str (pa_cons pe_str (pa_cons pe_str (pa_cons pe_str pa_nil)))))))) (by with_unfolding_all rfl)) (pss_cons (ps_set (i := 4) sc_law_due.nd rfl (Or.inl rfl) (pe_bm0 PySem.F.plainAttrs_list PySem.F.slot_list_pop PySem.F.type_list_pop mt_pop (pv 2)))
      (pss_cons (ps_set (i := 5) sc_law_due.nd rfl (Or.inl rfl) (pe_bm0 PySem.F.plainAttrs_list PySem.F.slot_list_pop PySem.F.type_list_pop mt_pop (pv 2)))
      (pss_one (ps_expr (pe_bm PySem.F.plainAttrs_list PySem.F.slot_list_append PySem.F.type_list_append mt_append (pv 2) (pa_cons (pe_callN G_law_signed (hr.mono (by decide)) pass0 (pa_cons (pv 3) (pa_cons (pv 4) (pa_cons (pv 5) pa_nil)))) pa_nil)))))) (pss_one (ps_expr (pe_bm PySem.F.plainAttrs_list PySem.F.slot_list_append PySem.F.type_list_append mt_append (pv 2) (pa_cons (pe_callTy call_int_text rfl T.int b_int (pa_cons (pv 3) pa_nil)) pa_nil)))))))))
      (pss_one (ps_ret (pe_ix ix_list (pv 2) pe_int (fun _ _ => rfl)))))), ?_⟩
    refine ⟨sl, fun wl hwl => ?_⟩
    have s1 := Same.new (o := .lst []) hwl
    refine ⟨_, rfl, a, _, rfl, s1.seq hq, ?_⟩
    have hlz : (zs.map V.str).length = zs.length := List.length_map ..
    refine for_rev (K := K) (a := a) (xs := zs.map V.str) (fun i σ H2 => ∃ o3 o4 o5 vs, σ = [some (.ref a), some (.ref d), some (.ref wl), o3, o4, o5] ∧ Same H H2 ∧ H2 wl = some (.lst vs) ∧ Pile K H2 vs (pileOf (envOf kvs) (zs.drop (zs.length - i))))
      ⟨_, _, _, [], rfl, s1, upd_same, by rw [Nat.sub_zero, List.drop_length]; exact .nil⟩ (fun i σ H2 _ ⟨_, _, _, _, _, s2, _⟩ => s2.seq hq) ?_ ?_
    · rintro i x σ H2 hx ⟨o3, o4, o5, vs, rfl, s2, h2, hp⟩
      rw [← List.map_reverse] at hx
      obtain ⟨z, hz, rfl⟩ := str_at hx
      have hi : i < zs.length := by
        have := (List.getElem?_eq_some_iff.mp hz).1
        rw [List.length_reverse] at this
        exact this
      rw [List.getElem?_reverse hi] at hz
      have hzm := List.mem_of_getElem? hz
      have ed : zs.drop (zs.length - (i + 1)) = z :: zs.drop (zs.length - i) := by
        have e1 : zs.length - (i + 1) = zs.length - 1 - i := by omega
        have e2 : zs.length - i = zs.length - 1 - i + 1 := by omega
        rw [e1, e2, drop_at hz]
      have hpl : (pileOf (envOf kvs) (zs.drop (zs.length - (i + 1)))) = stepD (envOf kvs) z (pileOf (envOf kvs) (zs.drop (zs.length - i))) := by rw [ed]; rfl
      obtain ⟨k, hk⟩ := pre_drop (zs.length - (i + 1)) hP
      rw [ed] at hk
      have hbn : ∀ y ∈ zs, Nl y → bnd F60 (envOf kvs y) := fun y hy ny => by
        obtain ⟨j, e, b⟩ := hE y hy ny
        rw [envOf_of e]
        exact b
      have hlv : vs.length ≤ i := by
        have e1 : vs.length = (pileOf (envOf kvs) (zs.drop (zs.length - i))).length := by
          have := Paired.length hp
          rw [List.length_reverse] at this
          exact this
        have : ∀ ys : List Str, (pileOf (envOf kvs) ys).length ≤ ys.length := by
          intro ys
          induction ys with
          | nil => exact Nat.le_refl _
          | cons y r ih =>
            show (stepD _ y (pileOf _ r)).length ≤ r.length + 1
            unfold stepD
            split
            · split
              · rename_i e
                rw [e] at ih
                simp at ih ⊢
                omega
              · omega
            · simp; omega
        have := this (zs.drop (zs.length - i))
        rw [List.length_drop] at this
        omega
      refine ⟨_, rfl, _, rfl, d, _, rfl, DGet.k (k := Sum.inr z) (s2 _ _ hd), _, rfl, ?_⟩
      have fin : ∀ (H4 : Hp) (j : Int), z ∉ sgns → Same H2 H4 → wordZ (envOf kvs) z = j → bnd F60 j → ∃ (o3 o4' o5' : Option V) (vs' : List V), ([some (.ref a), some (.ref d), some (.ref wl), some (.str z), o4, o5] : St) = [some (.ref a), some (.ref d), some (.ref wl), o3, o4', o5'] ∧ Same H (upd H4 wl (.lst (vs ++ [.int j]))) ∧ upd H4 wl (.lst (vs ++ [.int j])) wl = some (.lst vs') ∧ Pile K (upd H4 wl (.lst (vs ++ [.int j]))) vs' (pileOf (envOf kvs) (zs.drop (zs.length - (i + 1)))) := fun H4 j hz' s4 ej bj => by
        have est : stepD (envOf kvs) z (pileOf (envOf kvs) (zs.drop (zs.length - i))) = .int (wordZ (envOf kvs) z) :: pileOf (envOf kvs) (zs.drop (zs.length - i)) := by
          unfold stepD
          rw [if_neg hz']
        refine ⟨_, _, _, _, rfl, fun b o e => ?_, upd_same, ?_⟩
        · rw [upd_ne (ne_of_none e hwl)]
          exact s4 _ _ (s2 _ _ e)
        · rw [hpl, est, ej]
          exact ((hp.same s4).push (.inl ⟨j, rfl, rfl, bj⟩)).upd (s4 _ _ h2)
      by_cases nz : Nl z
      · obtain ⟨j, ej, bj⟩ := hE z hzm nz
        rw [ej]
        have ew : wordZ (envOf kvs) z = j := by unfold wordZ; rw [if_pos nz.is, envOf_of ej]
        refine iteT ⟨_, rfl, .inl ⟨rfl, _, SqL.of h2⟩, _, rfl, _, rfl, d, _, rfl, ej ▸ DGet.k (k := Sum.inr z) (s2 _ _ hd), wl, _, _, rfl, rfl, h2, small1000 (by omega), ?_⟩
        exact fin H2 j nz.ns (Same.refl _) ew bj
      · rw [hNn z hzm nz]
        refine iteF ⟨_, rfl, sl, fun ql hql => ?_⟩
        have s2' := Same.new (o := .lst [.str "+", .str "-", .str "*", .str "/", .str ":", .str "<", .str "="]) hql
        have hq7 : upd H2 ql (.lst [.str "+", .str "-", .str "*", .str "/", .str ":", .str "<", .str "="]) ql = some (.lst (sgns.map V.str)) := upd_same
        have s2o := s2
        have h2o := h2
        have hpo' := hp
        generalize upd H2 ql (.lst [.str "+", .str "-", .str "*", .str "/", .str ":", .str "<", .str "="]) = H2q at s2' hq7 ⊢
        refine ⟨ql, sgns.map V.str, rfl, .inl (SqL.of hq7), rfl, flat_strs sgns, _, rfl, ?_⟩
        rw [show (if false = true then !inV (.str z) (sgns.map V.str) else inV (.str z) (sgns.map V.str)) = decide (z ∈ sgns) by rw [if_neg Bool.false_ne_true, inV_str]]
        refine ite2 (fun h => ?_) (fun h => ?_)
        · have hz' : z ∈ sgns := of_decide_eq_true h
          replace h2 := s2' _ _ h2o
          replace hp := hpo'.same s2'
          replace s2 := s2o.trans s2'
          rcases hk.2 with ⟨_, hk⟩ | ⟨hk, _⟩
          · have h0 := hk
            obtain ⟨pl, _⟩ := pile_ok hk fun y hy => hbn y (List.mem_of_mem_drop hy)
            have k0 := ‹Pre (z :: zs.drop (zs.length - i)) k 0›.1
            match hpo : pileOf (envOf kvs) (zs.drop (zs.length - i)), pl, hp with
            | [], pl, _ => simp at pl
            | [_], pl, _ => simp at pl; omega
            | d1 :: d2 :: t, _, hp =>
              obtain ⟨us1, v1, rfl, hv1, hp1⟩ := Pile.pop hp
              obtain ⟨us, v2, rfl, hv2, hp2⟩ := Pile.pop hp1
              refine ⟨_, rfl, .inl ⟨rfl, _, SqL.of h2⟩, wl, _, v1, rfl, rfl, h2, pop_last.1, ?_⟩
              rw [pop_last.2]
              have g1 : upd H2q wl (.lst (us ++ [v2])) wl = some (.lst (us ++ [v2])) := upd_same
              refine ⟨_, rfl, .inl ⟨rfl, _, SqL.of g1⟩, wl, _, v2, rfl, rfl, g1, pop_last.1, ?_⟩
              rw [pop_last.2]
              have g2 : upd (upd H2q wl (.lst (us ++ [v2]))) wl (.lst us) wl = some (.lst us) := upd_same
              have s3 : Same H (upd (upd H2q wl (.lst (us ++ [v2]))) wl (.lst us)) := fun b o e => by
                rw [upd_ne (ne_of_none e hwl), upd_ne (ne_of_none e hwl)]
                exact s2 _ _ e
              have w1 := (hv1.upd (o := .lst (us ++ [v2])) h2).upd (o := .lst us) g1
              have w2 := (hv2.upd (o := .lst (us ++ [v2])) h2).upd (o := .lst us) g1
              have w3 := (hp2.upd (o := .lst (us ++ [v2])) h2).upd (o := .lst us) g1
              generalize upd (upd H2q wl (.lst (us ++ [v2]))) wl (.lst us) = H3 at g2 s3 w1 w2 w3 ⊢
              refine ⟨_, rfl, .inl ⟨rfl, _, SqL.of g2⟩, _, rfl, _, rfl, _, rfl, z, v1, v2, d1, d2, rfl, hz', w1, w2, fun H4 v s4 hv => ?_⟩
              have g4 := s4 _ _ g2
              refine ⟨wl, _, _, rfl, rfl, g4, small1000 (by simp at hlv; omega), ?_⟩
              refine ⟨_, _, _, _, rfl, fun b o e => ?_, upd_same, ?_⟩
              · rw [upd_ne (ne_of_none e hwl)]
                exact s4 _ _ (s3 _ _ e)
              · rw [hpl, hpo]
                unfold stepD
                rw [if_pos hz']
                exact ((w3.same s4).push hv).upd g4
          · exact absurd hz' hk.ns
        · have hz' : z ∉ sgns := fun y => h (decide_eq_true y)
          rcases hk.2 with ⟨hk, _⟩ | ⟨ho, _⟩
          · exact absurd hk hz'
          · have hl1 := ho.len
            rcases ho with ho | ⟨j, ho⟩
            · exact absurd ho nz
            · have ew : wordZ (envOf kvs) z = j := by unfold wordZ; rw [ho.nn, if_neg Bool.false_ne_true, ho.reads.1]; rfl
              refine ⟨_, rfl, .inl ⟨rfl, _, SqL.of (s2' _ _ h2)⟩, _, rfl, z, j, rfl, ho.reads.1, by omega, wl, _, _, rfl, rfl, s2' _ _ h2, small1000 (by omega), ?_⟩
              exact fin H2q j hz' s2' ew ho.1
    · rintro σ H2 ⟨o3, o4, o5, vs, rfl, s2, h2, hp⟩
      rw [hlz, Nat.sub_self, List.drop_zero] at hp
      have hbn : ∀ y ∈ zs, Nl y → bnd F60 (envOf kvs y) := fun y hy ny => by
        obtain ⟨j, e, b⟩ := hE y hy ny
        rw [envOf_of e]
        exact b
      obtain ⟨pl, _⟩ := pile_ok hP hbn
      match hpo : pileOf (envOf kvs) zs, pl, hp with
      | [d1], _, hp =>
        obtain ⟨us, v, e, hv, hp1⟩ := Pile.pop hp
        have eu : us = [] := by
          have := Paired.length hp1
          simpa using this
        subst eu e
        refine ⟨_, rfl, wl, _, _, _, rfl, rfl, SqL.of h2, rfl, q _ _ s2 ?_⟩
        unfold valOf
        rw [hpo]
        exact hv
      | [], pl, _ => simp at pl
      | _ :: _ :: _, pl, _ => simp at pl
end
end My

namespace My
open PySem L2
/-! ### texts -/
theorem nl_noblank {z : Str} (h : Nl z) : (32 : Nat) ∉ z.cps.toList := fun m => absurd (h.2.2 32 m) (by decide +kernel)
theorem blank_is : (" " : Str) = ⟨#[32]⟩ := by decide +kernel
theorem str_assoc (a b c : Str) : a ++ b ++ c = a ++ (b ++ c) := by
  cases a; cases b; cases c
  show (⟨_⟩ : Str) = ⟨_⟩
  congr 1
  exact Array.append_assoc
theorem catS_len (a b : Str) : (a ++ b).length = a.length + b.length := by
  show (a.cps ++ b.cps).size = _
  rw [Array.size_append]
  rfl
theorem join_one (x : Str) : Txt.join (" " : Str) [x] = x := by
  show Builtin.Str.glued (" " : Str) [x] = x
  rw [StrLaws.glued_eq_join]
  rfl
theorem join_cons (x y : Str) (r : List Str) : Txt.join (" " : Str) (x :: y :: r) = x ++ " " ++ Txt.join (" " : Str) (y :: r) := by
  show Builtin.Str.glued (" " : Str) (x :: y :: r) = x ++ " " ++ Builtin.Str.glued (" " : Str) (y :: r)
  rw [StrLaws.glued_eq_join, StrLaws.glued_eq_join]
  rfl
theorem join_len : ∀ {zs : List Str} {m : Nat}, (∀ z ∈ zs, z.length ≤ m) → (Txt.join (" " : Str) zs).length ≤ zs.length * (m + 1)
  | [], m, _ => by
    show (Builtin.Str.glued (" " : Str) []).length ≤ _
    rw [StrLaws.glued_eq_join]
    exact Nat.zero_le _
  | [x], m, h => by
    rw [join_one]
    have := h x (by simp)
    simp
    omega
  | x :: y :: r, m, h => by
    have ih := join_len (zs := y :: r) (m := m) fun z hz => h z (List.mem_cons_of_mem _ hz)
    have := h x List.mem_cons_self
    have l1 : (" " : Str).length = 1 := by decide
    rw [join_cons, catS_len, catS_len, List.length_cons, Nat.succ_mul]
    omega
theorem join_split : ∀ {zs : List Str}, zs ≠ [] → (∀ z ∈ zs, (32 : Nat) ∉ z.cps.toList) → splitC 32 (Txt.join (" " : Str) zs) = zs
  | [], h, _ => absurd rfl h
  | [x], _, h => by
    rw [join_one, splitC_none (h x (by simp))]
  | x :: y :: r, _, h => by
    have ih := join_split (zs := y :: r) (by simp) fun z hz => h z (List.mem_cons_of_mem _ hz)
    rw [join_cons, blank_is, splitC_cons (h x List.mem_cons_self), ← blank_is, ih]
theorem above_split {y : Str} {zs : List Str} (hy : (32 : Nat) ∉ y.cps.toList) (h0 : zs ≠ []) (h : ∀ z ∈ zs, (32 : Nat) ∉ z.cps.toList) : Txt.split (("above " : Str) ++ y ++ " " ++ Txt.join (" " : Str) zs) " " = ("above" : Str) :: y :: zs := by
  have e : ("above " : Str) ++ y ++ " " ++ Txt.join (" " : Str) zs = ("above" : Str) ++ ⟨#[32]⟩ ++ (y ++ ⟨#[32]⟩ ++ Txt.join (" " : Str) zs) := by
    rw [show ("above " : Str) = ("above" : Str) ++ ⟨#[32]⟩ by decide +kernel, show (" " : Str) = ⟨#[32]⟩ from blank_is]
    simp only [str_assoc]
  rw [e, show (" " : Str) = ⟨#[32]⟩ from blank_is, split_eq (by decide), splitC_cons (by decide +kernel), splitC_cons hy, ← blank_is, join_split h0 h]
theorem sum_len {zs : List Str} {m : Nat} (h : ∀ z ∈ zs, z.length ≤ m) : (zs.map (·.length)).sum ≤ zs.length * m := by
  induction zs with
  | nil => simp
  | cons z r ih =>
    rw [List.map_cons, List.sum_cons, List.length_cons, Nat.succ_mul]
    have := h z List.mem_cons_self
    have := ih fun y hy => h y (List.mem_cons_of_mem _ hy)
    omega
theorem cut_from (zs : List Str) (t : Nat) (h : t ≤ zs.length) : cutV (zs.map V.str) (some (t : Int)) none = (zs.drop t).map V.str := by
  unfold cutV
  rw [HT.sIx_nat, HT.sIx_none, List.length_map, Nat.min_eq_left h, List.map_drop, List.take_of_length_le]
  rw [List.length_drop, List.length_map]
  exact Nat.le_refl _
theorem cut_to (zs : List Str) (t : Nat) (h : t ≤ zs.length) : cutV (zs.map V.str) none (some (t : Int)) = (zs.take t).map V.str := by
  unfold cutV
  rw [HT.sIx_nat, HT.sIx_none, List.length_map, Nat.min_eq_left h, Nat.sub_zero, List.drop_zero, List.map_take]
/-! ### the dict of the law -/
theorem zipP_pre {α : Type} : ∀ (os : List Str) (ys t : List α), zipP os (ys ++ t) ys.length = zipP os ys ys.length
  | _, [], _ => rfl
  | [], _ :: _, _ => by simp [zipP]
  | o :: os, y :: r, t => by
    have ih := zipP_pre os r t
    unfold zipP at ih ⊢
    rw [List.cons_append, List.zip_cons_cons, List.zip_cons_cons, List.length_cons, List.take_succ_cons, List.take_succ_cons, List.map_cons, List.map_cons, ih]
theorem valV_none {kvs : List (Key × V)} {k : Key} (h : ∀ kv ∈ kvs, kv.1 ≠ k) : valV kvs k = none := by
  unfold valV
  rw [List.find?_eq_none.mpr fun kv hkv => by simpa using h kv hkv]
  rfl
theorem valV_zipN {os : List Str} {is : List Int} {n : Nat} {z : Str} (hz : z ∉ os) : valV (zipP os (is.map V.int) n) (.inr z) = none := valV_none fun kv hkv e => by
  unfold zipP at hkv
  obtain ⟨p, hp, rfl⟩ := List.mem_map.mp hkv
  have e' : p.1 = z := Sum.inr.inj e
  exact hz (e' ▸ (List.of_mem_zip (List.mem_of_mem_take hp)).1)
theorem valV_zip_at : ∀ {os : List Str} {is : List Int} {j : Nat} {z : Str} {i : Int}, os.Nodup → is.length = os.length → os[j]? = some z → is[j]? = some i → valV (zipP os (is.map V.int) os.length) (.inr z) = some (.int i)
  | [], _, _, _, _, _, _, h, _ => by simp at h
  | o :: os, [], _, _, _, _, hl, _, _ => by simp at hl
  | o :: os, y :: r, 0, z, i, nd, hl, h1, h2 => by
    simp at h1 h2
    subst h1 h2
    unfold zipP
    rw [List.map_cons, List.zip_cons_cons, List.length_cons, List.take_succ_cons, List.map_cons]
    exact valV_pos rfl
  | o :: os, y :: r, j + 1, z, i, nd, hl, h1, h2 => by
    have nd' := List.nodup_cons.mp nd
    have hz : os[j]? = some z := by simpa using h1
    have ih := valV_zip_at (os := os) (is := r) (j := j) (z := z) (i := i) nd'.2 (by simpa using hl) hz (by simpa using h2)
    unfold zipP at ih ⊢
    rw [List.map_cons, List.zip_cons_cons, List.length_cons, List.take_succ_cons, List.map_cons]
    refine (valV_neg ?_).trans ih
    exact fun e => nd'.1 (by have e' : o = z := Sum.inr.inj e; rw [e']; exact List.mem_of_getElem? hz)
theorem onceOf_at {t : Str} {os : List Str} (nd : os.Nodup) : ∀ i, i ≤ os.length → onceOf ((os.take i).map fun z => (t, z)) = (os.take i).map fun z => (t, z)
  | 0, _ => rfl
  | i + 1, h => by
    have ih := onceOf_at (t := t) nd i (by omega)
    have hz : os[i]? = some os[i] := List.getElem?_eq_getElem (by omega)
    have e : os.take (i + 1) = os.take i ++ [os[i]] := by rw [List.take_add_one, hz]; rfl
    rw [e, List.map_append, List.map_cons, List.map_nil, onceOf_snoc, ih, if_neg]
    intro m
    obtain ⟨y, hy, e2⟩ := List.mem_map.mp m
    have e3 : y = os[i] := congrArg Prod.snd e2
    rw [e3] at hy
    obtain ⟨k, hk⟩ := List.getElem?_of_mem hy
    rw [List.getElem?_take] at hk
    split at hk
    · rename_i hlt
      have := (List.getElem?_inj (by omega) nd).mp (hk.trans hz.symm)
      omega
    · cases hk
theorem onceOf_nd {t : Str} {os : List Str} (nd : os.Nodup) : onceOf (os.map fun z => (t, z)) = os.map fun z => (t, z) := by
  have := onceOf_at (t := t) nd os.length (Nat.le_refl _)
  rw [List.take_of_length_le (Nat.le_refl _)] at this
  exact this
theorem valOf_rv {kvs : List (Key × V)} {zs : List Str} (hP : Pre zs 1 0) (hE : EnvOk kvs zs) : Rv (valOf kvs zs) := by
  obtain ⟨pl, pr⟩ := pile_ok (env := envOf kvs) hP fun y hy ny => by
    obtain ⟨j, e, b⟩ := hE y hy ny
    rw [envOf_of e]
    exact b
  unfold valOf
  match hpo : pileOf (envOf kvs) zs, pl, pr with
  | [], pl, _ => simp at pl
  | d :: _, _, pr => exact pr d (by simp)
theorem dt_ints {K : PySem.W.Frag} {H : Hp} : ∀ is : List Int, DtAll K H (is.map V.int) (is.map PyData.int)
  | [] => .nil
  | i :: r => .cons (.int i) (dt_ints r)
theorem lay_ints : ∀ is : List Int, (PyData.list (is.map PyData.int)).canLay0 = true ∧ PyData.depthAll (is.map PyData.int) = 0
  | [] => ⟨by decide, rfl⟩
  | i :: r => by
    obtain ⟨h1, h2⟩ := lay_ints r
    constructor
    · show (PyData.canLay0 (.int i) && PyData.canLayAll0 (r.map PyData.int)) = true
      exact h1
    · show max 0 (PyData.depthAll (r.map PyData.int)) = 0
      rw [h2]
      rfl
end My

namespace My
open PySem L2
def spLaw (K : PySem.W.Frag) (tabs : List (Addr × Addr)) : Sp := fun vs H Q _ => ∃ (a : Addr) (ns : List Int), vs = [.ref a] ∧ SqL K H a (ns.map V.int) ∧ ns.length ≤ 63 ∧ TabsIn0 tabs H ∧ ∀ H', TabsOut tabs H' → Q (.bl true) H'
abbrev Nlaw : List Str := ["_law_script", "_law_some", "_law_turn", "_law_names", "_law_words_here", "_law_order", "_law_word", "_law_first", "_law_above", "_law_numbers", "_law_k", "_law_rule", "_law_gone", "_law_place", "_law_look", "_law_told", "_law_asked", "_law_ahead", "_law_due_here", "_law_found"]
theorem sc_law : FnScope Nlaw ["_law_script"] (defScope s_law) := ⟨rfl, rfl, rfl, by decide +kernel, rfl, by decide +kernel, by decide +kernel⟩
theorem tabIn0 {q : Str} {H : Hp} {P : Addr} (h : H P = some (TabC P [])) : TabIn q H P := ⟨[], h, fun c hc => by cases hc⟩
theorem tab_at {q : Str} {H : Hp} {P : Addr} (t : TabIn q H P) : ∃ S, H P = some (TabC P S) := let ⟨S, h, _⟩ := t; ⟨S, h⟩
theorem lay_call (is : List Int) : (PyData.tuple [.str ("call" : Str), .list (is.map PyData.int)]).canLay0 = true := by
  show (PyData.canLay0 (.str ("call" : Str)) && ((PyData.list (is.map PyData.int)).canLay0 && true)) = true
  rw [show PyData.canLay0 (.str ("call" : Str)) = true by decide +kernel, show (PyData.list (is.map PyData.int)).canLay0 = true from (lay_ints is).1]
  rfl
theorem depth_call (is : List Int) : (PyData.tuple [.str ("call" : Str), .list (is.map PyData.int)]).depth ≤ 64 := by
  have := (lay_ints is).2
  show max 0 (max (PyData.depthAll (is.map PyData.int) + 1) 0) + 1 ≤ 64
  rw [this]
  decide
theorem depth_spots : ∀ zs : List Spot3, PyData.depthAll (zs.map sp3D) ≤ 1
  | [] => by decide
  | z :: r => by
    rw [List.map_cons]
    show max (PyData.depth (sp3D z)) (PyData.depthAll (r.map sp3D)) ≤ 1
    have := depth_spots r
    have e : PyData.depth (sp3D z) = 1 := rfl
    rw [e]
    omega
theorem depth_spotsL (zs : List Spot3) : (PyData.list (zs.map sp3D)).depth ≤ 64 := by
  have := depth_spots zs
  show PyData.depthAll (zs.map sp3D) + 1 ≤ 64
  omega
theorem valV_snoc {kvs : List (Key × V)} {k q : Key} {v : V} : valV (kvs ++ [(k, v)]) q = match valV kvs q with
    | some u => some u
    | none => if k = q then some v else none := by
  induction kvs with
  | nil =>
    by_cases e : k = q
    · rw [List.nil_append, valV_pos (p := (k, v)) e, if_pos e]; rfl
    · rw [List.nil_append, valV_neg (p := (k, v)) e, if_neg e]; rfl
  | cons p r ih =>
    by_cases e : p.1 = q
    · rw [List.cons_append, valV_pos e, valV_pos e]
    · rw [List.cons_append, valV_neg e, valV_neg e, ih]
theorem up_val {os : List Str} {is : List Int} {ah : Int} (nd : (("up" : Str) :: os).Nodup) (hl : is.length = os.length) (z : Str) :
    valV (putK (zipP os (is.map V.int) os.length) (.inr "up") (.int ah)) (.inr z) = valV (zipP (("up" : Str) :: os) ((ah :: is).map V.int) (("up" : Str) :: os).length) (.inr z) := by
  have nd' := List.nodup_cons.mp nd
  rw [putK_new _ (valV_zipN nd'.1), valV_snoc]
  have e : zipP (("up" : Str) :: os) ((ah :: is).map V.int) (("up" : Str) :: os).length = ((.inr "up" : Key), V.int ah) :: zipP os (is.map V.int) os.length := by
    unfold zipP
    rw [List.map_cons, List.zip_cons_cons, List.length_cons, List.take_succ_cons, List.map_cons]
  rw [e]
  by_cases c : z = "up"
  · subst c
    rw [valV_zipN nd'.1, valV_pos (p := ((.inr "up" : Key), V.int ah)) rfl]
    rfl
  · have c' : ¬ (Sum.inr "up" : Key) = Sum.inr z := fun q => c (Sum.inr.inj q).symm
    rw [valV_neg (p := ((.inr "up" : Key), V.int ah)) c']
    cases valV (zipP os (is.map V.int) os.length) (.inr z) with
    | none => exact if_neg c'
    | some u => rfl
theorem up_env {os : List Str} {is : List Int} {ah : Int} (nd : (("up" : Str) :: os).Nodup) (hl : is.length = os.length) :
    envOf (putK (zipP os (is.map V.int) os.length) (.inr "up") (.int ah)) = envOf (zipP (("up" : Str) :: os) ((ah :: is).map V.int) (("up" : Str) :: os).length) := by
  funext z
  unfold envOf
  rw [up_val nd hl z]
theorem nl_up : Nl ("up" : Str) := ⟨by decide, by decide, by decide +kernel⟩
structure NowD (P : Program) (w : World) (K : PySem.W.Frag) (mg : Str → Option Value) (base : Heap) (C z1 z2 : Addr) (H : Hp) (zs : List Str) (is : List Int) (ah : Int) (wl d r gl al dl : Addr) (fv : V) : Prop where
  hP : Pre zs 1 0
  lz : zs.length ≤ 24
  il : is.length = (colsOf zs).length
  ib : ∀ i ∈ is, bnd F60 i
  ab : bnd F60 ah
  n6 : (colsOf zs).length ≤ 6
  hw : H wl = some (.lst (zs.map V.str))
  hd : H d = some (.dK (zipP (colsOf zs) (is.map V.int) (colsOf zs).length))
  rl : ∃ fa W i0, AbF C H r i0 (colsOf zs) (.ref fa) ∧ FnAt P w K mg base 6 W H fa (preN (("up" : Str) :: colsOf zs)) (gWords zs (("up" : Str) :: colsOf zs)) ∧ d ∉ W
  gn : ∃ as bs ls, H gl = some (.lst as) ∧ Nts H as ls ∧ H al = some (.lst bs) ∧ Nts H bs ls ∧ (∀ z ∈ ls, Nl z.1 ∧ Nl z.2.1) ∧ ls.length ≤ 900
  tl : ∃ b l, fv = .ref b ∧ H b = some (.tup [.str ("call" : Str), .ref l]) ∧ H l = some (.lst ((ah :: is).map V.int))
  dh : H dl = some (.lst ((ah :: is).map V.int))
  t1 : ∃ S, H z1 = some (TabC z1 S)
  t2 : ∃ S, H z2 = some (TabC z2 S)
section
variable {P : Program} {w : World} {K : PySem.W.Frag} {mg : Str → Option Value} {base : Heap}
theorem law_end (T : Tops K mg) {C : Addr} (Y : TAbove K mg C) {z1 z2 : Addr × Addr} {f : Addr} {cdv : Value} (A : Around) (outer : List Env) (s : Shared) (H : Hp) (Q : VK) (E : XK) (hr : Room 13 (A.deeper (PyProof.Rows.envOfC "law" (defScope s_law) s.heap.objs.size f cdv))) (q : ∀ H', TabsOut [z1, z2] H' → Q (.bl true) H') :
    ∃ t, PSs (cxOf CX0 P w K mg base Nlaw "law" (defScope s_law) f cdv A outer s H E).nox ((defBody s_law).drop 20) t ∧
      ∀ (H6 : Hp) (a l1 nl wl ol d r gl lk al dl : Addr) (tn fi ab p ah : Int) (o6 o10 : Option V) (fv : V) (zs : List Str) (is : List Int), NowD P w K mg base C z1.2 z2.2 H6 zs is ah wl d r gl al dl fv →
        t { nx := fun _ H' => Q .non H', rt := Q } [some (.ref a), some (.ref l1), some (.int tn), some (.ref nl), some (.ref wl), some (.ref ol), o6, some (.int fi), some (.int ab), some (.ref d), o10, some (.ref r), some (.ref gl), some (.int p), some (.ref lk), some fv, some (.ref al), some (.int ah), some (.ref dl), none] H6 := by
  have hu := hu_of hr
  have G_law_once : Known P w K mg base CX0 1 "_law_once" ["_law_spots"] (spOnce3 K) := k_law_once T
  have G_law_due : Known P w K mg base CX0 2 "_law_due" ["_law_words_here", "_law_numbers"] (spDueL K) := k_law_due T
  have G_reckon : KnownM P w K mg base CX0 7 C "reckon" ["self", "some"] (spReckonF P w K mg base 6 C) := k_reckonF T ⟨Y.cl, Y.n_function, Y.m_reckon⟩ (by decide)
  refine ⟨_, (pss_cons (ps_if (PW.pt (pw_or (pt_cmpR (op_neD hr.units) (pv 15) (pe_tup (pa_cons pe_str (pa_cons (pv 18) pa_nil))) (nomark _)) (pw_or1 (pt_cmpR (op_neD hr.units) (pe_callN G_law_once (hr.mono (by decide)) pass0 (pa_cons (pv 12) pa_nil)) (pe_callN G_law_once (hr.mono (by decide)) pass0 (pa_cons (pv 16) pa_nil)) (nomark _))))) (pss_one (ps_ret pe_bl)) pss_nil)
      (pss_cons (ps_dput hu (pv 9) pe_str (pv 17) rfl)
      (pss_cons (ps_set (i := 19) sc_law.nd rfl (by first | exact Or.inl rfl | exact Or.inr rfl) (pe_methN (pv 11) Y.cl G_reckon (hr.mono (by decide)) pass0 (pa_cons (pv 18) pa_nil)))
      (pss_cons (ps_set (i := 18) sc_law.nd rfl (by first | exact Or.inl rfl | exact Or.inr rfl) (pe_callN G_law_due (hr.mono (by decide)) pass0 (pa_cons (pv 4) (pa_cons (pv 9) pa_nil))))
      (pss_one (ps_ret (pe_and (pe_not (pe_callB call_isT rfl T.isinstance b_isinstance (pa_cons (pv 19) (pa_cons (pe_ty T.bool b_bool) pa_nil)))) (pe_and (pe_cmpR op_eq (pe_callB call_isT rfl T.isinstance b_isinstance (pa_cons (pv 19) (pa_cons (pe_ty T.tuple b_tuple) pa_nil))) (pe_callB call_isT rfl T.isinstance b_isinstance (pa_cons (pv 18) (pa_cons (pe_ty T.tuple b_tuple) pa_nil))) (nomark _)) (pe_one (pe_cmpR (op_eqD hr.units) (pv 19) (pv 18) (nomark _))))))))))), ?_⟩
  rintro H6 a l1 nl wl ol d r gl lk al dl tn fi ab p ah o6 o10 fv zs is N
  obtain ⟨b, l, rfl, hb, hl⟩ := N.tl
  obtain ⟨as, bs, ls, hgl, hN, hal, hB, anl, alen⟩ := N.gn
  obtain ⟨S1, ht1⟩ := N.t1
  obtain ⟨S2, ht2⟩ := N.t2
  obtain ⟨fa, W, i0, AB, FA, dW⟩ := N.rl
  obtain ⟨dx, fs, rz, g1, g2, g3, ⟨f1, f2, f3, f4⟩, g5, g6⟩ := AB
  obtain ⟨cn, cd, cs, cl⟩ := cols_ok N.hP
  have hil := N.il
  have h6 := N.n6
  have hpre : preN (("up" : Str) :: colsOf zs) (ah :: is) := ⟨by rw [List.length_cons, List.length_cons, hil], fun i hi => by
    rcases List.mem_cons.mp hi with rfl | hi
    · exact N.ab
    · exact N.ib i hi⟩
  have hEnv := env_zip (zs := zs) cd hpre cs
  have hRv := valOf_rv N.hP hEnv
  have RF := hRv.fs
  refine ⟨_, rfl, _, rfl, sl, fun c hc => ?_⟩
  have s7 := Same.new (o := .tup [.str ("call" : Str), .ref dl]) hc
  have lyC := lay_call (ah :: is)
  refine ⟨.tuple [.str ("call" : Str), .list ((ah :: is).map PyData.int)], .tuple [.str ("call" : Str), .list ((ah :: is).map PyData.int)], .tup (SqT.of (s7 _ _ hb)) (.cons (.str _) (.cons (.lst (SqL.of (s7 _ _ hl)) (dt_ints (ah :: is))) .nil)), .tup (SqT.of upd_same) (.cons (.str _) (.cons (.lst (SqL.of (s7 _ _ N.dh)) (dt_ints (ah :: is))) .nil)), lyC, lyC, depth_call (ah :: is), _, rfl, ?_⟩
  rw [SeqAt.eqv_refl _ lyC]
  refine iteF ?_
  refine ⟨_, rfl, gl, as, _, rfl, s7 _ _ hgl, hN.keep (Keep.of s7), anl, alen, fun H8 l1' ys1 s8 hl1 h8 n8 => ⟨_, rfl, al, bs, _, rfl, s8 _ _ (s7 _ _ hal), (hB.keep (Keep.of s7)).keep (Keep.of s8), anl, alen, fun H9 l2 ys2 s9 hl2 h9 n9 => ?_⟩⟩
  have lyO : (PyData.list ((onceG ls).map sp3D)).canLay0 = true := lay3s fun r hr' => anl r (onceG_mem hr')
  refine ⟨_, _, .lst (SqL.of (s9 _ _ h8)) (n8.keep (Keep.of s9)).dt, .lst (SqL.of h9) n9.dt, lyO, lyO, depth_spotsL _, _, rfl, ?_⟩
  rw [SeqAt.eqv_refl _ lyO]
  refine iteF ?_
  have s69 := (s7.trans s8).trans s9
  have hd9 := s69 _ _ N.hd
  refine ⟨_, rfl, _, rfl, d, _, rfl, DPut.k (k := Sum.inr "up") hd9 ?_, ?_⟩
  · have := zipP_len (colsOf zs) (is.map V.int) (colsOf zs).length
    have : (1000 : Nat) ≤ sizeLine := sz1000
    omega
  have bt : But d H6 (upd H9 d (.dK (putK (zipP (colsOf zs) (is.map V.int) (colsOf zs).length) (.inr "up") (.int ah)))) := (But.of s69).trans But.upd
  have hdA : upd H9 d (.dK (putK (zipP (colsOf zs) (is.map V.int) (colsOf zs).length) (.inr "up") (.int ah))) d = some (.dK (putK (zipP (colsOf zs) (is.map V.int) (colsOf zs).length) (.inr "up") (.int ah))) := upd_same
  generalize upd H9 d (.dK (putK (zipP (colsOf zs) (is.map V.int) (colsOf zs).length) (.inr "up") (.int ah))) = HA at bt hdA ⊢
  have nd : ∀ {b : Addr} {o : HO}, H6 b = some o → (∀ kvs, o ≠ .dK kvs) → b ≠ d := fun e n z => by rw [z, N.hd] at e; exact n _ (Option.some.inj e).symm
  have g1A := bt _ _ (nd g1 (fun _ z => by cases z)) g1
  have dhA := bt _ _ (nd N.dh (fun _ z => by cases z)) N.dh
  have hwA := bt _ _ (nd N.hw (fun _ z => by cases z)) N.hw
  have t1A := bt _ _ (nd ht1 (fun _ z => by cases z)) ht1
  have t2A := bt _ _ (nd ht2 (fun _ z => by cases z)) ht2
  have FAA := FA.keep (KeepF.but dW bt (fun u z => by rw [N.hd] at z; cases z))
  refine ⟨_, rfl, r, dx, fs, rfl, g1A, f3, _, rfl, r, dl, fa, dx, W, fs, _, _, ah :: is, rfl, g1A, f4, FAA, SqL.of dhA, by rw [List.length_cons]; omega, hpre, RF.sh, RF.val, fun HB v sB hv => ?_⟩
  have eE := up_env (ah := ah) cd hil
  have eV : valOf (putK (zipP (colsOf zs) (is.map V.int) (colsOf zs).length) (.inr "up") (.int ah)) zs = gWords zs (("up" : Str) :: colsOf zs) (ah :: is) := by
    unfold valOf gWords valOf
    rw [eE]
  refine ⟨_, rfl, _, rfl, wl, d, zs, _, rfl, SqL.of (sB _ _ hwA), sB _ _ hdA, by have := N.lz; omega, N.hP, (fun y hy ny => by
      obtain ⟨j, e, bj⟩ := hEnv y hy ny
      exact ⟨j, (up_val cd hil y).trans e, bj⟩), (fun y hy ny => (up_val cd hil y).trans (valV_zipN fun m => ny (by
      rcases List.mem_cons.mp m with e | m
      · rw [e]; exact nl_up
      · exact cn y m))), fun HC u sC hu' => ?_⟩
  rw [eV] at hu'
  have hd1 := hv.same sC
  have hd2' := hu'.dt
  refine ⟨_, rfl, _, "bool", _, _, rfl, hd1, kit_bool K _, _, rfl, _, rfl, ?_⟩
  have eb : decide (kdD (gWords zs (("up" : Str) :: colsOf zs) (ah :: is)) = .bl) = false := by
    rcases hRv with ⟨i, e, _⟩ | e | e
    · rw [show gWords zs (("up" : Str) :: colsOf zs) (ah :: is) = .int i from e]; rfl
    · rw [show gWords zs (("up" : Str) :: colsOf zs) (ah :: is) = great from e]; rfl
    · rw [show gWords zs (("up" : Str) :: colsOf zs) (ah :: is) = nought from e]; rfl
  rw [eb]
  refine iteT ⟨_, rfl, _, "tuple", _, _, rfl, hd1, kit_tuple K _, _, rfl, _, "tuple", _, _, rfl, hd2', kit_tuple K _, rfl, _, rfl, ?_⟩
  refine ite2 (fun _ => ?_) (fun h => absurd (decide_eq_true rfl) h)
  have dep : (gWords zs (("up" : Str) :: colsOf zs) (ah :: is)).depth ≤ 64 := by have := RF.dep; exact Nat.le_trans this (by decide)
  refine ⟨_, rfl, _, rfl, _, _, hd1, hd2', RF.lay, RF.lay, dep, ?_⟩
  rw [show PyData.eqv (gWords zs (("up" : Str) :: colsOf zs) (ah :: is)) (gWords zs (("up" : Str) :: colsOf zs) (ah :: is)) = true from SeqAt.eqv_refl _ RF.lay]
  refine q _ fun y hy => ?_
  simp only [List.mem_cons, List.not_mem_nil, or_false] at hy
  rcases hy with rfl | rfl
  · exact ⟨S1, sC _ _ (sB _ _ t1A)⟩
  · exact ⟨S2, sC _ _ (sB _ _ t2A)⟩
end
end My

namespace My
open PySem L2
theorem KeepC.x {P : Addr} {H H' : Hp} {φ : _} (h : H P = some (.ext φ)) (s : SameX P H H') : KeepC H H' := fun b o n e =>
  s b o (fun z => by rw [z, h] at e; exact n _ (Option.some.inj e).symm) e
def vw53 (above : Int) (kvs : List (Key × V)) : Vw := fun z => if z.2.1 = ("own" : Str) then some (.int above) else valV kvs (.inr z.2.1)
theorem nl_t : Nl ("t" : Str) ∧ Nl ("own" : Str) := by unfold Nl; decide +kernel
/-- what the rule looks at -/
def seen53 (os : List Str) (p : Nat) : List Spot3 := (if 0 < p then [(("t" : Str), ("own" : Str), (p : Int) - 1)] else []) ++ rowOf "t" p os
section
variable {os : List Str} {is : List Int} {above : Int} (nd : os.Nodup) (hl : is.length = os.length) (ho : ∀ z ∈ os, z ≠ "own")
include nd hl ho
theorem row_val {p : Nat} {j : Nat} {z : Str} (hz : os[j]? = some z) : ∃ i, is[j]? = some i ∧ vw53 above (zipP os (is.map V.int) os.length) (("t" : Str), z, (p : Int)) = some (.int i) := by
  have hj : j < os.length := (List.getElem?_eq_some_iff.mp hz).1
  have hi : is[j]? = some is[j] := List.getElem?_eq_getElem (by omega)
  refine ⟨_, hi, ?_⟩
  show (if z = ("own" : Str) then _ else _) = _
  rw [if_neg (ho z (List.mem_of_getElem? hz))]
  exact valV_zip_at nd hl hz hi
theorem row_there {H : Hp} {p : Nat} : There (vw53 above (zipP os (is.map V.int) os.length)) H (rowOf "t" p os) := fun y hy => by
  obtain ⟨z, hz, rfl⟩ := List.mem_map.mp hy
  obtain ⟨j, hj⟩ := List.getElem?_of_mem hz
  obtain ⟨i, _, e⟩ := row_val nd hl ho (above := above) (p := p) hj
  exact ⟨_, e, .inl ⟨i, rfl⟩⟩
theorem row_vals {p : Nat} : (rowOf "t" p os).map (valAt (vw53 above (zipP os (is.map V.int) os.length))) = is.map V.int := by
  apply List.ext_getElem?
  intro j
  unfold rowOf
  rw [List.map_map, List.getElem?_map, List.getElem?_map]
  cases hz : os[j]? with
  | none =>
    have : is[j]? = none := List.getElem?_eq_none_iff.mpr (by have := List.getElem?_eq_none_iff.mp hz; omega)
    rw [this]
    rfl
  | some z =>
    obtain ⟨i, hi, e⟩ := row_val nd hl ho (above := above) (p := p) hz
    rw [hi]
    show some (valAt _ (("t" : Str), z, (p : Int))) = some (.int i)
    rw [valAt_of e]
theorem row_noref {p : Nat} : ∀ y ∈ rowOf "t" p os, isRef (valAt (vw53 above (zipP os (is.map V.int) os.length)) y) = false := fun y hy => by
  obtain ⟨z, hz, rfl⟩ := List.mem_map.mp hy
  obtain ⟨j, hj⟩ := List.getElem?_of_mem hz
  obtain ⟨i, _, e⟩ := row_val nd hl ho (above := above) (p := p) hj
  rw [valAt_of e]
  rfl
theorem gat53 {p : Nat} {first : Int} {mn : Mn} : gatAbove (vw53 above (zipP os (is.map V.int) os.length)) mn (first, os) "t" "own" p = (seen53 os p, .call ((((if 0 < p then above else first) :: is) : List Int).map V.int)) := by
  unfold gatAbove seen53
  by_cases h : 0 < p
  · rw [if_pos h, if_pos h, if_pos h]
    have e : vw53 above (zipP os (is.map V.int) os.length) (("t" : Str), ("own" : Str), (p : Int) - 1) = some (.int above) := if_pos rfl
    rw [turn_end (fun y hy => by
      rcases List.mem_cons.mp hy with rfl | hy
      · rw [valAt_of e]; rfl
      · exact row_noref nd hl ho y hy), List.map_cons, valAt_of e, row_vals nd hl ho]
    rfl
  · rw [if_neg h, if_neg h, if_neg h]
    show ahead first (turnOf _ (rowOf "t" p os)) = _
    rw [turn_end (row_noref nd hl ho), row_vals nd hl ho]
    rfl
end
theorem seen_nl {os : List Str} {p : Nat} (h : ∀ z ∈ os, Nl z) (h6 : os.length ≤ 6) : (∀ z ∈ seen53 os p, Nl z.1 ∧ Nl z.2.1) ∧ (seen53 os p).length ≤ 900 := by
  unfold seen53 rowOf
  refine ⟨fun z hz => ?_, ?_⟩
  · rcases List.mem_append.mp hz with hz | hz
    · split at hz
      · rw [List.mem_singleton.mp hz]; exact nl_t
      · cases hz
    · obtain ⟨y, hy, rfl⟩ := List.mem_map.mp hz
      exact ⟨nl_t.1, h y hy⟩
  · rw [List.length_append, List.length_map]
    split
    · simp; omega
    · simp; omega
/-- what the law holds behind its reading -/
structure NowE (P : Program) (w : World) (K : PySem.W.Frag) (mg : Str → Option Value) (base : Heap) (C z1 z2 : Addr) (H : Hp) (zs : List Str) (is : List Int) (fi ab : Int) (wl ol d r : Addr) : Prop where
  hP : Pre zs 1 0
  lz : zs.length ≤ 24
  il : is.length = (colsOf zs).length
  ib : ∀ i ∈ is, bnd F60 i
  fb : bnd F60 fi
  ab : bnd F60 ab
  n6 : (colsOf zs).length ≤ 6
  ow : ∀ z ∈ colsOf zs, z ≠ "own"
  hw : H wl = some (.lst (zs.map V.str))
  ho : H ol = some (.lst ((colsOf zs).map V.str))
  hd : H d = some (.dK (zipP (colsOf zs) (is.map V.int) (colsOf zs).length))
  rl : ∃ fa W, AbF C H r fi (colsOf zs) (.ref fa) ∧ FnAt P w K mg base 6 W H fa (preN (("up" : Str) :: colsOf zs)) (gWords zs (("up" : Str) :: colsOf zs)) ∧ ∀ x ∈ W, ∃ o, H x = some (.lst o)
  t1 : ∃ S, H z1 = some (TabC z1 S)
  t2 : H z2 = some (TabC z2 [])
section
variable {P : Program} {w : World} {K : PySem.W.Frag} {mg : Str → Option Value} {base : Heap}
theorem law_mid (T : Tops K mg) {C : Addr} (Y : TAbove K mg C) {z1 z2 : Addr × Addr} (M : Maker mg base z2.1 z2.2) (ne : z1.2 ≠ z2.2) {f : Addr} (A : Around) (outer : List Env) (s : Shared) (H : Hp) (Q : VK) (E : XK) (hr : Room 13 (A.deeper (PyProof.Rows.envOfC "law" (defScope s_law) s.heap.objs.size f (.ref z2.1)))) (q : ∀ H', TabsOut [z1, z2] H' → Q (.bl true) H') :
    ∃ t, PSs (cxOf CX0 P w K mg base Nlaw "law" (defScope s_law) f (.ref z2.1) A outer s H E).nox ((defBody s_law).drop 11) t ∧
      ∀ (H6 : Hp) (a l1 nl wl ol d r : Addr) (ns : List Int) (tn fi ab : Int) (o6 o10 : Option V) (zs : List Str) (is : List Int), SqL K H6 a (ns.map V.int) → ns.length ≤ 63 → NowE P w K mg base C z1.2 z2.2 H6 zs is fi ab wl ol d r →
        t { nx := fun _ H' => Q .non H', rt := Q } [some (.ref a), some (.ref l1), some (.int tn), some (.ref nl), some (.ref wl), some (.ref ol), o6, some (.int fi), some (.int ab), some (.ref d), o10, some (.ref r), none, none, none, none, none, none, none, none] H6 := by
  have hu := hu_of hr
  have G_law_cell : Known P w K mg base CX0 1 "_law_cell" ["_law_script", "_law_k"] (spCell K) := k_law_cell T
  have G_leans : KnownM P w K mg base CX0 3 C "leans" ["self", "table"] (spLeansA K C) := k_Above_leans T Y
  have G_gather : KnownM P w K mg base CX0 4 C "gather" ["self", "look", "many", "table", "column", "place"] (spGat2 P w K mg base (fun H p (r : Int × List Str) => ∃ v, AbF C H p r.1 r.2 v) gatAbove okAbove) := k_Above_gather T Y
  have hcl : ∀ x, (cxOf CX0 P w K mg base Nlaw "law" (defScope s_law) f (.ref z2.1) A outer s H E).nox.env.scope.names.lookup x = some .cell → ∃ c, (cxOf CX0 P w K mg base Nlaw "law" (defScope s_law) f (.ref z2.1) A outer s H E).nox.env.cells.lookup x = some c := fun x hx => Option.isSome_iff_exists.mp (PySem.W.cellsFrom_some _ _ _ (.inl hx))
  obtain ⟨tE, hE, qE⟩ := law_end T Y (z1 := z1) (z2 := z2) (f := f) (cdv := .ref z2.1) A outer s H Q E hr q
  refine ⟨_, (pss_cons (ps_if (PW.pt (pw_or (pt_not (pt_val (pe_callB call_isC rfl T.isinstance b_isinstance (pa_cons (pv 11) (pa_cons (pe_gR Y.c) pa_nil))) (fun _ => rfl))) (pw_or1 (pt_cmpR (op_neD hr.units) (pe_methN (pv 11) Y.cl G_leans (hr.mono (by decide)) pass0 (pa_cons pe_str pa_nil)) (pe_comp caps0 rfl rfl (by decide) (pi_list (pv 5)) (fun _ _ _ _ _ => pts_nil) (fun _ _ _ _ _ => (pe_tup (pa_cons pe_str (pa_cons (pv 0) pa_nil))))) (nomark _))))) (pss_one (ps_ret pe_bl)) pss_nil)
      (pss_cons (ps_set (i := 12) sc_law.nd rfl (by first | exact Or.inl rfl | exact Or.inr rfl) (pe_lst pa_nil))
      (pss_cons (ps_set (i := 13) sc_law.nd rfl (by first | exact Or.inl rfl | exact Or.inr rfl) (pe_op op_mod (pe_callN G_law_cell (hr.mono (by decide)) pass0 (pa_cons (pv 0) (pa_cons pe_int pa_nil))) pe_int))
      (pss_cons (ps_defF (i := 14) M rfl (caps_of (sc := defScope s_law) (N := Nlaw) (cp := [(12, "_law_gone"), (8, "_law_above"), (9, "_law_numbers")]) hcl).clos rfl rfl rfl sc_law.nd rfl (by first | exact Or.inl rfl | exact Or.inr rfl) (by first | exact Or.inl rfl | exact Or.inr rfl))
      (pss_cons (ps_set (i := 15) sc_law.nd rfl (by first | exact Or.inl rfl | exact Or.inr rfl) (pe_methL (pv 11) Y.cl G_gather (hr.mono (by decide)) (pa_cons (pv 14) (pa_cons (pe_lamQ M rfl (caps_of (sc := defScope s_law) (N := Nlaw) (cp := []) hcl).clos rfl) (pa_cons pe_str (pa_cons pe_str (pa_cons (pv 13) pa_nil)))))))
      (pss_cons (ps_setComp (i := 16) sc_law.nd rfl rfl (caps_of (sc := defScope s_law) (N := Nlaw) (cp := [(13, "_law_place")]) hcl) rfl rfl (by decide) (pi_list (pv 5)) (fun _ _ _ _ _ => pts_nil) (fun _ _ _ _ _ => (pe_tup (pa_cons pe_str (pa_cons (pv 0) (pa_cons (pv 1) pa_nil))))) rfl)
      (pss_cons (ps_set (i := 17) sc_law.nd rfl (by first | exact Or.inl rfl | exact Or.inr rfl) (pv 7))
      (pss_cons (ps_if (pt_cmpR op_gt (pv 13) pe_int (nomark _)) (pss_cons (ps_set (i := 16) sc_law.nd rfl (by first | exact Or.inl rfl | exact Or.inr rfl) (pe_op op_cat (pe_lst (pa_cons (pe_tup (pa_cons pe_str (pa_cons pe_str (pa_cons (pe_op op_sub (pv 13) pe_int) pa_nil)))) pa_nil)) (pv 16)))
      (pss_one (ps_set (i := 17) sc_law.nd rfl (by first | exact Or.inl rfl | exact Or.inr rfl) (pv 8)))) pss_nil)
      (pss_cons (ps_set (i := 18) sc_law.nd rfl (by first | exact Or.inl rfl | exact Or.inr rfl) (pe_op op_cat (pe_lst (pa_cons (pv 17) pa_nil)) (pe_comp (caps_of (sc := defScope s_law) (N := Nlaw) (cp := [(9, "_law_numbers")]) hcl) rfl rfl (by decide) (pi_list (pv 5)) (fun _ _ _ _ _ => pts_nil) (fun _ _ _ _ _ => (pe_dget hu (pv 1) (pv 0) (fun _ _ => rfl))))))
      hE))))))))), ?_⟩
  rintro H6 a l1 nl wl ol d r ns tn fi ab o6 o10 zs is hS hl63 N
  obtain ⟨S1, ht1⟩ := N.t1
  obtain ⟨fn, W, AB, FA, hW⟩ := N.rl
  obtain ⟨cn, cd, cs, cl⟩ := cols_ok N.hP
  have hil := N.il
  have h6 := N.n6
  have hdd := N.hd
  have hoo := N.ho
  have how := N.ow
  have nd : (colsOf zs).Nodup := (List.nodup_cons.mp cd).2
  have AB6 := AB
  obtain ⟨dx, fs, rz, g1, g2, g3, ⟨f1, f2, f3, f4⟩, g5, g6⟩ := AB6
  obtain ⟨om, on, ot⟩ := Y.own
  obtain ⟨C', hC', kC⟩ := Y.si_Above
  rw [Y.c] at hC'
  cases hC'
  refine ⟨_, rfl, _, C, .ref C, true, rfl, .ins g1 Y.cl Y.hc on ot om, kC, _, rfl, iteF ?_⟩
  refine ⟨_, rfl, r, dx, fs, rfl, g1, f1, r, "t", fi, colsOf zs, .ref fn, rfl, AB, h6, nl_t.1, fun H7 fl ys s7 hfl h7 hsp => ?_⟩
  rw [onceOf_nd nd] at hsp
  refine ⟨_, rfl, ol, rfl, ⟨_, SqL.of (s7 _ _ hoo)⟩, fun D hD => ?_⟩
  refine comp_spots (K := K) (t := "t") (zs := colsOf zs) hD (s7 _ _ hoo) (by omega) (fun z H9 q9 s9 k9 => ⟨_, rfl, sl, fun tp htp => k9 tp htp⟩) fun ys' H8 h8 s8 hd8 => ?_
  have lyE := hsp.lay
  refine ⟨.list (((colsOf zs).map fun z => (("t" : Str), z)).map spD), .list (((colsOf zs).map fun z => (("t" : Str), z)).map spD), .lst (SqL.of (s8 _ _ h7)) (DtAll.same s8 hsp.1), .lst (SqL.of h8) hd8, lyE, lyE, ?_, _, rfl, ?_⟩
  · have : ∀ ps : List (Str × Str), PyData.depthAll (ps.map spD) ≤ 1 := by
      intro ps
      induction ps with
      | nil => decide
      | cons y ps ih =>
        show max 1 (PyData.depthAll (ps.map spD)) ≤ 1
        omega
    have := this ((colsOf zs).map fun z => (("t" : Str), z))
    show PyData.depthAll _ + 1 ≤ 64
    omega
  rw [SeqAt.eqv_refl _ lyE]
  refine iteF ?_
  have s68 := s7.trans s8
  refine ⟨sl, fun gl hgl => ?_⟩
  have s9 := Same.new (o := .lst []) hgl
  have h9g : upd H8 gl (.lst []) gl = some (.lst []) := upd_same
  have s69 := s68.trans s9
  have hgl6 : H6 gl = none := none_back s68 hgl
  clear s7 s8 h7 h8 hd8 hsp s68
  generalize upd H8 gl (.lst []) = H9 at s69 h9g ⊢
  obtain ⟨p, hp⟩ := Int.eq_ofNat_of_zero_le (mod_rng (cellZ ns 8) (n := 4) (by decide)).1
  have hp2 : p < 4 := by
    have := (mod_rng (cellZ ns 8) (n := 4) (by decide)).2
    omega
  refine ⟨_, rfl, a, ns, 8, rfl, s69.seq hS, hl63, by decide, by decide, _, _, rfl, rfl, (show (0 : Int) < 4 by decide), ?_⟩
  change tSeq _ _ _ [some (.ref a), some (.ref l1), some (.int tn), some (.ref nl), some (.ref wl), some (.ref ol), o6, some (.int fi), some (.int ab), some (.ref d), o10, some (.ref r), some (.ref gl), some (.int (cellZ ns 8 % 4)), none, none, none, none, none, none] H9
  rw [hp]
  have t29 := s69 _ _ N.t2
  refine ⟨t29, fun fa c HA hfa sA tA da => ?_⟩
  have k9A : KeepC H9 HA := KeepC.x t29 sA
  have k6A : KeepC H6 HA := (KeepC.of s69).trans k9A
  have ABA := AB.keepC k6A
  obtain ⟨dx', fs', rz', g1', _, _, ⟨_, f2', _, _⟩, _, _⟩ := ABA
  refine ⟨_, rfl, r, dx', fs', rfl, g1', f2', _, rfl, ⟨_, tA, fun x hx => ?_⟩, fun fb HB hfb sB tB lb => ⟨_, rfl, fun f' Ln => ?_⟩⟩
  · rw [List.mem_singleton.mp hx]
    intro e
    simp at e
  have kAB : KeepC HA HB := KeepC.x tA sB
  have k6B := k6A.trans kAB
  have hBn : HB gl = some (.lst []) := (k9A.trans kAB) _ _ (fun φ z => by cases z) h9g
  have hBd := k6B _ _ (fun φ z => by cases z) hdd
  have ndg : d ≠ gl := ne_of_none hdd hgl6
  have daB := defAt_keepC kAB da
  have nofL : ∀ b o, HB b = some o → f' b = none := fun b o e => by
    cases e2 : f' b with
    | none => rfl
    | some ob => rw [Ln.free b ob e2] at e; cases e
  have sL : Same HB (lend f' HB) := fun b o e => by rw [lend_no (nofL b o e)]; exact e
  have F1 := look_fn (Ln.free) (nofL _ _ hBn) daB ⟨_, hBn⟩ (def_by (sc := defScope s_law) (N := Nlaw) (ps := ["_law_table", "_law_column", "_law_at"]) (cp := [(12, "_law_gone"), (8, "_law_above"), (9, "_law_numbers")]) (cv := [.ref gl, .int ab, .ref d]) (k := 1) (spB := spBlook HB gl (vw53 ab (zipP (colsOf zs) (is.map V.int) (colsOf zs).length))) daB Ln hcl rfl (fun _ _ _ _ _ us hl => match us, hl with | [_, _, _], _ => rfl) (fun cd A' outer' s' H' vs Q' hr' h' => by
      obtain ⟨t', c', p', v', as, rfl, b1, b2, b3, b4, b5⟩ := h'
      refine ⟨_, pss_cons (ps_expr (pe_bm PySem.F.plainAttrs_list PySem.F.slot_list_append PySem.F.type_list_append mt_append (pv 3) (pa_cons (pe_tup (pa_cons (pv 0) (pa_cons (pv 1) (pa_cons (pv 2) pa_nil)))) pa_nil))) (pss_cons (ps_if (pt_cmpR op_eq (pv 1) pe_str (nomark _)) (pss_one (ps_ret (pv 4))) pss_nil) (pss_one (ps_ret (pe_dget (hu_of hr') (pv 5) (pv 1) (fun _ _ => rfl))))), ?_⟩
      refine ⟨_, rfl, .inl ⟨rfl, _, SqL.of b2⟩, _, rfl, _, rfl, _, rfl, sl, fun t1 ht1 => ?_⟩
      have u1 := Same.new (o := .tup [.str t', .str c', .int p']) ht1
      have hn1 := u1 _ _ b2
      refine ⟨gl, _, _, rfl, rfl, hn1, small1000 (Nat.le_of_lt b3), ?_⟩
      have b6 : But gl H' (upd (upd H' t1 (.tup [.str t', .str c', .int p'])) gl (.lst (as ++ [.ref t1]))) := (But.of u1).trans But.upd
      have q' := b5 _ t1 b6 upd_same (But.upd _ _ (Ne.symm (ne_of_none b2 ht1)) upd_same)
      have e5 := b6 _ _ ndg (b1 _ _ ndg hBd)
      generalize upd (upd H' t1 (.tup [.str t', .str c', .int p'])) gl (.lst (as ++ [.ref t1])) = H2' at q' e5 ⊢
      have b4' : (if c' = ("own" : Str) then some (.int ab) else valV (zipP (colsOf zs) (is.map V.int) (colsOf zs).length) (.inr c')) = some v' := b4
      refine ⟨_, rfl, rfl, _, rfl, ?_⟩
      refine ite2 (fun h1 => ?_) (fun h1 => ?_)
      · have ck : c' = ("own" : Str) := V.str.inj (of_decide_eq_true h1)
        rw [if_pos ck] at b4'
        cases b4'
        exact ⟨_, rfl, q'⟩
      · have ck : ¬ c' = ("own" : Str) := fun z => h1 (decide_eq_true (congrArg V.str z))
        rw [if_neg ck] at b4'
        exact ⟨_, rfl, _, rfl, d, _, rfl, b4' ▸ DGet.k (k := Sum.inr c') e5, q'⟩))
  have F2 := many_fn (Ln.free) (nofL _ _ hBn) lb ⟨_, hBn⟩ (lam_by (sc := defScope s_law) (N := Nlaw) (ps := ["_law_table"]) (cp := []) (cv := []) (k := 1) (spB := spBmany HB gl (fun _ => some 5)) lb Ln hcl rfl (fun _ _ _ _ us hl => match us, hl with | [_], _ => rfl) (fun cd A' outer' s' H' vs Q' hr' h' => by
      obtain ⟨t', m', rfl, b1, b2, b3⟩ := h'
      cases b2
      exact ⟨_, pe_int, b3 _ (Same.refl _)⟩))
  have ABL := AB.keepC (k6B.trans (KeepC.of sL))
  refine ⟨r, fa, fb, gl, "t", "own", p, _, _, (fi, colsOf zs), rfl, ⟨_, ABL⟩, fun H' b' => ⟨_, AbF.but hgl6 AB (k6B.trans (KeepC.of sL)) b'⟩, ⟨h6, row_there nd hil how, fun _ y hy => ⟨.int ab, by rw [List.mem_singleton.mp hy]; exact if_pos rfl, .inl ⟨_, rfl⟩⟩⟩, F1, F2, ⟨[], sL _ _ hBn, .nil⟩, fun H4 fv b4 lk4 fo4 => ?_⟩
  rw [gat53 nd hil how] at lk4 fo4
  have KN : ∀ b o, (∀ u, o ≠ Fz u) → H4 b = some o → unl f' H4 b = some o := fun b o nz e => by
    cases e2 : f' b with
    | none => rw [unl_no e2]; exact e
    | some ob =>
      have nb : b ≠ gl := fun y => by rw [y, nofL gl _ hBn] at e2; cases e2
      rw [b4 b _ nb (lend_at e2)] at e
      exact absurd (Option.some.inj e).symm (nz ob)
  have B5 : But gl HB (unl f' H4) := fun b o nb e => by
    have e2 := nofL b o e
    rw [unl_no e2]
    exact b4 b o nb (by rw [lend_no e2]; exact e)
  obtain ⟨as, hn4, hN4⟩ := lk4
  have hn5 : unl f' H4 gl = some (.lst as) := KN _ _ (fun u z => by cases z) hn4
  have hN5 : Nts (unl f' H4) as (seen53 (colsOf zs) p) := Nts.mapT (fun a xs e => KN _ _ (fun u z => by cases z) e) hN4
  obtain ⟨bf, lf, e5, e6, e7, _⟩ := fo4
  subst e5
  have hbf : unl f' H4 bf = some (.tup [.str ("call" : Str), .ref lf]) := KN _ _ (fun u z => by cases z) e6
  have hlf : unl f' H4 lf = some (.lst (((if 0 < p then ab else fi) :: is).map V.int)) := KN _ _ (fun u z => by cases z) e7
  obtain ⟨S2, tB⟩ := tB
  have kp : Keep HB (unl f' H4) := Keep.but B5 hBn
  have t25 : unl f' H4 z2.2 = some (TabC z2.2 S2) := kp _ _ (fun xs z => by cases z) tB
  have t15 : unl f' H4 z1.2 = some (TabC z1.2 S1) := kp _ _ (fun xs z => by cases z) (sB _ _ ne (sA _ _ ne (s69 _ _ ht1)))
  have up : ∀ {b : Addr} {o : HO}, H6 b = some o → (∀ φ, o ≠ .ext φ) → unl f' H4 b = some o := fun e n => B5 _ _ (ne_of_none e hgl6) (k6B _ _ n e)
  have hd5 := up hdd (fun φ z => by cases z)
  have hw5 := up N.hw (fun φ z => by cases z)
  have ho5 := up hoo (fun φ z => by cases z)
  have AB5 : AbF C (unl f' H4) r fi (colsOf zs) (.ref fn) := AbF.but hgl6 AB k6B B5
  have gW : gl ∉ W := fun m => by
    obtain ⟨o, e⟩ := hW gl m
    rw [hgl6] at e
    cases e
  have dW : d ∉ W := fun m => by
    obtain ⟨o, e⟩ := hW d m
    rw [hdd] at e
    cases e
  have FA5 := FA.keep ((KeepF.c k6B).trans (KeepF.but gW B5 (fun u z => by rw [hBn] at z; cases z)))
  have an := seen_nl (p := p) cn h6
  refine ⟨_, rfl, ol, rfl, ⟨_, SqL.of ho5⟩, fun al hal => ?_⟩
  refine comp_spots3 (t := "t") (p := (p : Int)) (zs := colsOf zs) hal ho5 (by omega) (fun z H7 q7 s7 k7 => ⟨_, rfl, _, rfl, sl, fun tp htp => k7 tp htp⟩) (fun ys H7 h7 s7 hy => ?_)
  refine ⟨_, rfl, ?_⟩
  have hyR : Nts H7 ys (rowOf "t" p (colsOf zs)) := hy
  have hand : ∀ (Hi : Hp), Same (unl f' H4) Hi → ∀ (D2 : Addr) (hD2 : Hi D2 = none) (σ : St) (hσ : capσ [(9, "_law_numbers")] σ = [some (.ref d)]) (Qc : VK), (∀ H', Same Hi H' → H' D2 = some (.lst (is.map V.int)) → Qc (.ref D2) H') → tLoop [(9, "_law_numbers")] tYes (tDGet (tVar 1) (tVar 0)) σ (Itl K ol) D2 Qc Hi := fun Hi si D2 hD2 σ hσ Qc k => by
    refine comp_list (K := K) (a := ol) (xs := (colsOf zs).map V.str) (fun i ys H2 => Same Hi H2 ∧ ys = (is.take i).map V.int) ⟨Same.new hD2, rfl⟩ (fun i ys H2 _ ⟨s2, _⟩ => SqL.of (s2 _ _ (si _ _ ho5))) ?_ ?_
    · rintro i x ys H2 hx h2D ⟨s2, rfl⟩
      obtain ⟨y, hy, rfl⟩ := str_at hx
      have hi : i < (colsOf zs).length := (List.getElem?_eq_some_iff.mp hy).1
      have hii : is[i]? = some is[i] := List.getElem?_eq_getElem (by omega)
      have hv := valV_zip_at nd hil hy hii
      rw [hσ]
      refine ⟨_, rfl, _, rfl, d, _, rfl, hv ▸ DGet.k (k := Sum.inr y) (s2 _ _ (si _ _ hd5)), h2D, small1000 (by rw [List.length_map, List.length_take]; omega), s2.on hD2, ?_⟩
      rw [List.take_add_one, hii, List.map_append]
      rfl
    · rintro ys H2 h2D ⟨s2, rfl⟩
      rw [List.length_map, ← hil, List.take_of_length_le (Nat.le_refl _)] at h2D
      exact k _ s2 h2D
  have fin : ∀ (Hi : Hp) (al' : Addr) (bs : List V) (ah : Int), ah = (if 0 < p then ab else fi) → Same (unl f' H4) Hi → Hi al' = some (.lst bs) → Nts Hi bs (seen53 (colsOf zs) p) →
      tSeq (tAsg (tOp (fun x y H Q => ∃ a b xs ys, x = .ref a ∧ y = .ref b ∧ H a = some (.lst xs) ∧ H b = some (.lst ys) ∧ xs.length + ys.length ≤ sizeLine ∧ ∀ l, H l = none → Q (.ref l) (upd H l (.lst (xs ++ ys)))) (tLst (tCons (tVar 17) tNil)) (tComp [(9, "_law_numbers")] (iList K (tVar 5)) tYes (tDGet (tVar 1) (tVar 0)))) (gName 18)) tE { nx := fun _ H' => Q .non H', rt := Q } [some (.ref a), some (.ref l1), some (.int tn), some (.ref nl), some (.ref wl), some (.ref ol), o6, some (.int fi), some (.int ab), some (.ref d), o10, some (.ref r), some (.ref gl), some (.int (p : Int)), some (.ref fa), some (.ref bf), some (.ref al'), some (.int ah), none, none] Hi := fun Hi al' bs ah eah si hal' hB => by
    refine ⟨_, rfl, sl, fun q1 hq1 => ?_⟩
    have u1 := Same.new (o := .lst [.int ah]) hq1
    refine ⟨_, rfl, ol, rfl, ⟨_, SqL.of (u1 _ _ (si _ _ ho5))⟩, fun D2 hD2 => ?_⟩
    refine hand _ (si.trans u1) D2 hD2 _ rfl _ fun HD sD hDD => ?_
    refine ⟨q1, D2, _, _, rfl, rfl, sD _ _ upd_same, hDD, sl (by rw [List.length_map]; show 1 + is.length ≤ 1000; omega), fun dl hdl => ?_⟩
    have u2 := Same.new (o := .lst ([.int ah] ++ is.map V.int)) hdl
    have sx := (si.trans u1).trans (sD.trans u2)
    have sy := u1.trans (sD.trans u2)
    rw [← eah] at hlf
    have hab : bnd F60 ah := by
      rw [eah]
      by_cases c : 0 < p
      · rw [if_pos c]; exact N.ab
      · rw [if_neg c]; exact N.fb
    exact qE _ a l1 nl wl ol d r gl fa al' dl tn fi ab (p : Int) ah o6 o10 (.ref bf) zs is ⟨N.hP, N.lz, hil, N.ib, hab, h6, sx _ _ hw5, sx _ _ hd5, ⟨fn, W, fi, AB5.keepC (KeepC.of sx), FA5.keep (KeepF.of sx), dW⟩, ⟨as, bs, _, sx _ _ hn5, hN5.keep (Keep.of sx), sy _ _ hal', hB.keep (Keep.of sy), an.1, an.2⟩, ⟨bf, lf, rfl, sx _ _ hbf, sx _ _ hlf⟩, upd_same, ⟨_, sx _ _ t15⟩, ⟨_, sx _ _ t25⟩⟩
  refine ⟨_, rfl, _, _, rfl, rfl, _, rfl, ?_⟩
  refine ite2 (fun h => ?_) (fun h => ?_)
  · have p0 : 0 < p := by
      have : (0 : Int) < (p : Int) := of_decide_eq_true h
      omega
    refine ⟨_, rfl, _, _, rfl, rfl, sl, fun tp htp => ⟨sl, fun ql hql => ?_⟩⟩
    have u1 := Same.new (o := .tup [.str ("t" : Str), .str ("own" : Str), .int ((p : Int) - 1)]) htp
    have u2 := Same.new (o := .lst [.ref tp]) hql
    have hys : ys.length ≤ 6 := by rw [hyR.length]; unfold rowOf; rw [List.length_map]; exact h6
    refine ⟨_, rfl, ql, al, _, _, rfl, rfl, upd_same, u2 _ _ (u1 _ _ h7), sl (by show 1 + ys.length ≤ 1000; omega), fun l2 hl2 => ?_⟩
    have u3 := Same.new (o := .lst ([.ref tp] ++ ys)) hl2
    have u13 := (u1.trans u2).trans u3
    refine ⟨_, rfl, ?_⟩
    refine fin _ l2 ([.ref tp] ++ ys) ab (by rw [if_pos p0]) (s7.trans u13) upd_same ?_
    unfold seen53
    rw [if_pos p0]
    exact Paired.cons (a := V.ref tp) (b := ((("t" : Str), ("own" : Str), (p : Int) - 1) : Spot3)) ⟨tp, rfl, u3 _ _ (u2 _ _ upd_same)⟩ (hyR.keep (Keep.of u13))
  · have p0 : ¬ 0 < p := fun z => h (decide_eq_true (show (0 : Int) < (p : Int) by omega))
    refine fin _ al ys fi (by rw [if_neg p0]) s7 h7 ?_
    unfold seen53
    rw [if_neg p0, List.nil_append]
    exact hyR
end
end My

namespace My
open PySem L2
theorem sz9000 : (9000 : Nat) ≤ sizeLine := by decide
abbrev six52 : List Str := ["above", "a", "ab", "upper", "u", "uu"]
theorem six_own : ∀ z ∈ six52, z ≠ "own" ∧ z ≠ "up" := by decide +kernel
theorem six_nl : ∀ z ∈ six52, Nl z := by unfold Nl; decide +kernel
theorem words_in {names zs : List Str} (hn : ∀ z ∈ names, Nl z) (h : WordsOk names zs) : ∀ z ∈ zs, decide (z ∈ names) = nameS z := fun z hz => by
  by_cases m : z ∈ names
  · rw [decide_eq_true m, (hn z m).is]
  · rw [decide_eq_false m]
    rcases h z hz with h | h | ⟨i, h⟩
    · exact (sgn_no z h).1.symm
    · exact absurd h m
    · exact h.nn.symm
def pN (z : Str) : Bool := nameS z && decide (z ≠ "up")
section
variable {P : Program} {w : World} {K : PySem.W.Frag} {mg : Str → Option Value} {base : Heap}
theorem ok_law (T : Tops K mg) (TD : Dcs w.params K mg) {z1 z2 : Addr × Addr} (B : DefT K mg "function_of" s_function_of z1) (M : Maker mg base z1.1 z1.2) (B2 : DefT K mg "law" s_law z2) (M2 : Maker mg base z2.1 z2.2) (ne : z1.2 ≠ z2.2) {f : Addr} {fd : FuncData} (F : Fun K "law" "law" s_law f fd) (hcd : fd.code = .ref z2.1) : FnOk P w K mg base CX0 14 f fd ["_law_script"] (spLaw K [z1, z2]) := by
  obtain ⟨R, Z⟩ := T.t_Rule
  obtain ⟨C, Y⟩ := T.t_Above
  obtain ⟨pK, hK, DK, _, ⟨g0, mg0, ng0⟩, _⟩ := TD.g_KINDS
  have G_law_cell : Known P w K mg base CX0 1 "_law_cell" ["_law_script", "_law_k"] (spCell K) := k_law_cell T
  have G_law_number : Known P w K mg base CX0 1 "_law_number" ["_law_cell_here"] spNum := k_law_number T
  have G_law_words : Known P w K mg base CX0 2 "_law_words" ["_law_script", "_law_names"] (spWords K) := k_law_words T
  have G_read_rule : Known P w K mg base CX0 7 "read_rule" ["text"] (spRdRule "above" (spRdAbove P w K mg base C z1.2)) := k_read_rule T hK DK (by decide) (k_read_above T Z Y B M) mg0 ng0
  refine F.okT hcd sc_law (fun vs H Q E h => ?_) (fun A outer s H vs Q E hr h => ?_)
  · obtain ⟨a, ns, rfl, _⟩ := h
    rfl
  · obtain ⟨a, ns, rfl, hS, hl, hT, q⟩ := h
    have hu := hu_of hr
    obtain ⟨tE, hE, qE⟩ := law_mid T Y (z1 := z1) (z2 := z2) M2 ne (f := f) A outer s H Q E hr q
    refine ⟨_, (pss_cons (ps_set (i := 1) sc_law.nd rfl (by first | exact Or.inl rfl | exact Or.inr rfl) (pe_lst (pa_cons pe_str (pa_cons pe_str (pa_cons pe_str (pa_cons pe_str (pa_cons pe_str (pa_cons pe_str pa_nil))))))))
      (pss_cons (ps_set (i := 2) sc_law.nd rfl (by first | exact Or.inl rfl | exact Or.inr rfl) (pe_op op_mod (pe_callN G_law_cell (hr.mono (by decide)) pass0 (pa_cons (pv 0) (pa_cons pe_int pa_nil))) pe_int))
      (pss_cons (ps_set (i := 3) sc_law.nd rfl (by first | exact Or.inl rfl | exact Or.inr rfl) (pe_op op_cat (pe_lst (pa_cons pe_str pa_nil)) (pe_slice sl_list (pe_op op_cat (pe_slice sl_list (pv 1) (po_some (pv 2)) po_none) (pe_slice sl_list (pv 1) po_none (po_some (pv 2)))) po_none (po_some (pe_op op_mod (pe_callN G_law_cell (hr.mono (by decide)) pass0 (pa_cons (pv 0) (pa_cons pe_int pa_nil))) pe_int)))))
      (pss_cons (ps_set (i := 4) sc_law.nd rfl (by first | exact Or.inl rfl | exact Or.inr rfl) (pe_callN G_law_words (hr.mono (by decide)) pass0 (pa_cons (pv 0) (pa_cons (pv 3) pa_nil))))
      (pss_cons (ps_set (i := 5) sc_law.nd rfl (by first | exact Or.inl rfl | exact Or.inr rfl) (pe_lst pa_nil))
      (pss_cons (ps_for PassesOwn.never rfl (pi_list (pv 4)) (pg_name (i := 6) sc_law.nd rfl (by first | exact Or.inl rfl | exact Or.inr rfl)) (pss_one (ps_if (PW.pt (pw_and (pt_cmpR op_in_seq (pv 6) (pv 3) (by with_unfolding_all rfl)) (pw_and (pt_cmpR op_ne (pv 6) pe_str (nomark _)) (pw_and1 (pt_cmpR op_notIn_seq (pv 6) (pv 5) (by with_unfolding_all rfl)))))) (pss_one (ps_expr (pe_bm PySem.F.plainAttrs_list PySem.F.slot_list_append PySem.F.type_list_append mt_append (pv 5) (pa_cons (pv 6) pa_nil)))) pss_nil)))
      (pss_cons (ps_set (i := 7) sc_law.nd rfl (by first | exact Or.inl rfl | exact Or.inr rfl) (pe_callN G_law_number (hr.mono (by decide)) pass0 (pa_cons (pe_callN G_law_cell (hr.mono (by decide)) pass0 (pa_cons (pv 0) (pa_cons pe_int pa_nil))) pa_nil)))
      (pss_cons (ps_set (i := 8) sc_law.nd rfl (by first | exact Or.inl rfl | exact Or.inr rfl) (pe_callN G_law_number (hr.mono (by decide)) pass0 (pa_cons (pe_callN G_law_cell (hr.mono (by decide)) pass0 (pa_cons (pv 0) (pa_cons pe_int pa_nil))) pa_nil)))
      (pss_cons (ps_set (i := 9) sc_law.nd rfl (by first | exact Or.inl rfl | exact Or.inr rfl) pe_dnewK)
      (pss_cons (ps_for PassesOwn.never rfl (pi_range1 rfl T.range (pa_cons (pe_callB call_len rfl T.len b_len (pa_cons (pv 5) pa_nil)) pa_nil)) (pg_name (i := 10) sc_law.nd rfl (by first | exact Or.inl rfl | exact Or.inr rfl)) (pss_one (ps_dput hu (pv 9) (pe_ix ix_list (pv 5) (pv 10) (fun _ _ => rfl)) (pe_callN G_law_number (hr.mono (by decide)) pass0 (pa_cons (pe_callN G_law_cell (hr.mono (by decide)) pass0 (pa_cons (pv 0) (pa_cons (pe_op op_add pe_int (pv 10)) pa_nil))) pa_nil)) rfl)))
      (pss_cons (ps_set (i := 11) sc_law.nd rfl (by first | exact Or.inl rfl | exact Or.inr rfl) (pe_callN G_read_rule (hr.mono (by decide)) pass0 (pa_cons (pe_op op_add_str (pe_op op_add_str (pe_op op_add_str pe_str (pe_callTy call_str_int rfl T.str b_str (pa_cons (pv 7) pa_nil))) pe_str) (pe_bm PySem.F.plainAttrs_str PySem.F.slot_str_join PySem.F.type_str_join mt_join pe_str (pa_cons (pv 4) pa_nil))) pa_nil)))
      hE))))))))))), ?_⟩
    have t01 : H z1.2 = some (TabC z1.2 []) := hT z1 (by simp)
    have t02 : H z2.2 = some (TabC z2.2 []) := hT z2 (by simp)
    refine ⟨sl, fun l1 hl1 => ?_⟩
    have s1 := Same.new (o := .lst [.str "above", .str "a", .str "ab", .str "upper", .str "u", .str "uu"]) hl1
    have e1 : upd H l1 (.lst [.str "above", .str "a", .str "ab", .str "upper", .str "u", .str "uu"]) l1 = some (.lst (six52.map V.str)) := upd_same
    generalize upd H l1 (.lst [.str "above", .str "a", .str "ab", .str "upper", .str "u", .str "uu"]) = H1 at s1 e1 ⊢
    have hS1 := s1.seq hS
    obtain ⟨tn, htn⟩ := Int.eq_ofNat_of_zero_le (mod_rng (cellZ ns 1) (n := 6) (by decide)).1
    have htn2 : tn < 6 := by
      have := (mod_rng (cellZ ns 1) (n := 6) (by decide)).2
      omega
    refine ⟨_, rfl, a, ns, 1, rfl, hS1, hl, by decide, by decide, _, _, rfl, rfl, (show (0 : Int) < 6 by decide), ?_⟩
    change tSeq _ _ _ [some (.ref a), some (.ref l1), some (.int (cellZ ns 1 % 6)), none, none, none, none, none, none, none, none, none, none, none, none, none, none, none, none, none] H1
    rw [htn]
    refine ⟨sl, fun c0 hc0 => ?_⟩
    have s0 := Same.new (o := .lst [.str "up"]) hc0
    have e0 : upd H1 c0 (.lst [.str "up"]) c0 = some (.lst [.str "up"]) := upd_same
    replace e1 := s0 _ _ e1
    have s10 := s1.trans s0
    clear s0
    generalize upd H1 c0 (.lst [.str "up"]) = H1b at s10 e0 e1 ⊢
    refine ⟨_, rfl, _, rfl, _, rfl, l1, _, rfl, SqL.of e1, fun c1 hc1 => ?_⟩
    rw [cut_from six52 tn (by show tn ≤ 6; omega)]
    have s2 := Same.new (o := .lst ((six52.drop tn).map V.str)) hc1
    refine ⟨_, rfl, _, rfl, _, rfl, l1, _, rfl, SqL.of (s2 _ _ e1), fun c2 hc2 => ?_⟩
    rw [cut_to six52 tn (by show tn ≤ 6; omega)]
    have s3 := Same.new (o := .lst ((six52.take tn).map V.str)) hc2
    refine ⟨c1, c2, _, _, rfl, rfl, s3 _ _ upd_same, upd_same, sl (by rw [List.length_map, List.length_map, List.length_drop, List.length_take]; show 6 - tn + min tn 6 ≤ 1000; omega), fun c3 hc3 => ?_⟩
    rw [← List.map_append]
    have s4 := Same.new (o := .lst ((six52.drop tn ++ six52.take tn).map V.str)) hc3
    have s14 := (s2.trans s3).trans s4
    have e4 : upd (upd (upd H1b c1 (.lst ((six52.drop tn).map V.str))) c2 (.lst ((six52.take tn).map V.str))) c3 (.lst ((six52.drop tn ++ six52.take tn).map V.str)) c3 = some (.lst ((six52.drop tn ++ six52.take tn).map V.str)) := upd_same
    have s04 := s10.trans s14
    clear s2 s3 s4
    generalize upd (upd (upd H1b c1 (.lst ((six52.drop tn).map V.str))) c2 (.lst ((six52.take tn).map V.str))) c3 (.lst ((six52.drop tn ++ six52.take tn).map V.str)) = H4 at s14 s04 e4 ⊢
    obtain ⟨kn, hkn⟩ := Int.eq_ofNat_of_zero_le (mod_rng (cellZ ns 2) (n := 7) (by decide)).1
    have hkn2 : kn ≤ 6 := by
      have := (mod_rng (cellZ ns 2) (n := 7) (by decide)).2
      omega
    have hl6 : (six52.drop tn ++ six52.take tn).length = 6 := by
      rw [List.length_append, List.length_drop, List.length_take]
      show 6 - tn + min tn 6 = 6
      omega
    refine ⟨_, rfl, a, ns, 2, rfl, s04.seq hS, hl, by decide, by decide, _, _, rfl, rfl, (show (0 : Int) < 7 by decide), _, rfl, c3, _, rfl, SqL.of e4, fun c4 hc4 => ?_⟩
    rw [hkn, cut_to _ kn (by rw [hl6]; exact hkn2)]
    have hsub : ∀ y ∈ (six52.drop tn ++ six52.take tn).take kn, y ∈ six52 := fun y hy => by
      have := List.mem_of_mem_take hy
      rcases List.mem_append.mp this with h | h
      · exact List.mem_of_mem_drop h
      · exact List.mem_of_mem_take h
    have hnlen : ((six52.drop tn ++ six52.take tn).take kn).length ≤ 6 := by rw [List.length_take, hl6]; omega
    generalize (six52.drop tn ++ six52.take tn).take kn = cols at hsub hnlen ⊢
    have s4b := Same.new (o := .lst (cols.map V.str)) hc4
    refine ⟨c0, c4, _, _, rfl, rfl, s4b _ _ (s14 _ _ e0), upd_same, sl (by rw [List.length_map]; show 1 + cols.length ≤ 1000; omega), fun nl hnl => ?_⟩
    have hnames : ∀ y ∈ (("up" : Str) :: cols), Nl y := fun y hy => by
      rcases List.mem_cons.mp hy with rfl | hy
      · exact nl_up
      · exact six_nl _ (hsub y hy)
    have hncat : [V.str "up"] ++ cols.map V.str = (("up" : Str) :: cols).map V.str := rfl
    rw [hncat]
    generalize hnm : (("up" : Str) :: cols) = names at hnames hncat ⊢
    have hnlen2 : names.length = cols.length + 1 := by rw [← hnm]; rfl
    have s04 := s04.trans s4b
    clear s4b s14 e4
    generalize upd H4 c4 (.lst (cols.map V.str)) = H4 at s04 hnl ⊢
    have s5 := Same.new (o := .lst (names.map V.str)) hnl
    have s05 := s04.trans s5
    have e5 : upd H4 nl (.lst (names.map V.str)) nl = some (.lst (names.map V.str)) := upd_same
    generalize upd H4 nl (.lst (names.map V.str)) = H5 at s05 e5 ⊢
    refine ⟨_, rfl, _, rfl, a, nl, ns, names, rfl, s05.seq hS, hl, e5, by omega, by omega, hnames, fun H6 wl zs s6 hwl h6 hP hlz hok => ?_⟩
    have s06 := s05.trans s6
    have hin := words_in hnames hok
    refine ⟨sl, fun ol hol => ?_⟩
    have s7 := Same.new (o := .lst []) hol
    have w7 : upd H6 ol (.lst []) wl = some (.lst (zs.map V.str)) := s7 _ _ h6
    have n7 : upd H6 ol (.lst []) nl = some (.lst (names.map V.str)) := s7 _ _ (s6 _ _ e5)
    have nwo : wl ≠ ol := ne_of_none h6 hol
    have nno : nl ≠ ol := ne_of_none (s6 _ _ e5) hol
    refine ⟨_, rfl, wl, rfl, ⟨_, SqL.of w7⟩, ?_⟩
    refine for_list (K := K) (a := wl) (xs := zs.map V.str) (fun i σ H2 => ∃ o6, σ = [some (.ref a), some (.ref l1), some (.int (tn : Int)), some (.ref nl), some (.ref wl), some (.ref ol), o6, none, none, none, none, none, none, none, none, none, none, none, none, none] ∧ But ol (upd H6 ol (.lst [])) H2 ∧ H2 ol = some (.lst ((onceS ((zs.take i).filter pN)).map V.str)))
      ⟨_, rfl, But.of (Same.refl _), upd_same⟩ (fun i σ H2 _ ⟨_, _, b, _⟩ => SqL.of (b _ _ nwo w7)) ?_ ?_
    · rintro i x σ H2 hx ⟨o6, rfl, b2, h2⟩
      obtain ⟨y, hy, rfl⟩ := str_at hx
      have hi : i < zs.length := (List.getElem?_eq_some_iff.mp hy).1
      have htk : zs.take (i + 1) = zs.take i ++ [y] := by rw [List.take_add_one, hy]; rfl
      have hyn := hin y (List.mem_of_getElem? hy)
      refine ⟨_, rfl, _, rfl, nl, names.map V.str, rfl, .inl (SqL.of (b2 _ _ nno n7)), rfl, flat_strs names, _, rfl, ?_⟩
      rw [show (if false = true then !inV (.str y) (names.map V.str) else inV (.str y) (names.map V.str)) = nameS y by rw [if_neg Bool.false_ne_true, inV_str, hyn]]
      have skip : pN y = false → onceS ((zs.take (i + 1)).filter pN) = onceS ((zs.take i).filter pN) := fun e => by
        rw [htk, List.filter_append, show [y].filter pN = [] by simp [e], List.append_nil]
      cases hyb : nameS y with
      | false =>
        refine iteF ⟨_, rfl, b2, ?_⟩
        rw [skip (by unfold pN; rw [hyb]; rfl)]
        exact h2
      | true =>
        refine iteT ⟨_, rfl, rfl, _, rfl, ?_⟩
        by_cases yu : y = "up"
        · subst yu
          refine iteNS rfl ⟨_, rfl, b2, ?_⟩
          rw [skip (by unfold pN; decide +kernel)]
          exact h2
        · rw [decide_eq_false (fun z => yu (V.str.inj z))]
          refine iteT ⟨_, rfl, _, rfl, ol, _, rfl, .inl (SqL.of h2), rfl, flat_strs _, _, rfl, ?_⟩
          rw [show (if true = true then !inV (.str y) ((onceS ((zs.take i).filter pN)).map V.str) else inV (.str y) ((onceS ((zs.take i).filter pN)).map V.str)) = !decide (y ∈ onceS ((zs.take i).filter pN)) by rw [if_pos rfl, inV_str]]
          have e8 : onceS ((zs.take (i + 1)).filter pN) = if y ∈ onceS ((zs.take i).filter pN) then onceS ((zs.take i).filter pN) else onceS ((zs.take i).filter pN) ++ [y] := by
            rw [htk, List.filter_append, show [y].filter pN = [y] by simp [pN, hyb, yu], onceS_snoc]
          by_cases m : y ∈ onceS ((zs.take i).filter pN)
          · refine iteNS m ⟨_, rfl, b2, ?_⟩
            rw [e8, if_pos m]
            exact h2
          · rw [decide_eq_false m]
            have ol' := (onceS_all ((zs.take i).filter pN)).2.2
            have fl' := List.length_filter_le pN (zs.take i)
            rw [List.length_take] at fl'
            refine iteT ⟨_, rfl, .inl ⟨rfl, _, SqL.of h2⟩, _, rfl, ol, _, _, rfl, rfl, h2, small1000 (by rw [List.length_map]; omega), ?_⟩
            refine ⟨_, rfl, b2.trans But.upd, ?_⟩
            rw [e8, if_neg m, List.map_append]
            exact upd_same
    · rintro σ H7 ⟨o6, rfl, b7, h7⟩
      rw [List.length_map, List.take_of_length_le (Nat.le_refl _), show onceS (zs.filter pN) = colsOf zs from (cols_eq zs).symm] at h7
      have s07 : Same H H7 := fun b o e => b7 _ _ (fun y => by rw [y, none_back s06 hol] at e; cases e) (s7 _ _ (s06 _ _ e))
      have w8 := b7 _ _ nwo w7
      obtain ⟨cn, cdp, cs, cll⟩ := cols_ok hP
      have nd : (colsOf zs).Nodup := (List.nodup_cons.mp cdp).2
      have inC : ∀ y ∈ colsOf zs, y ∈ cols := fun y hy => by
        rw [cols_eq] at hy
        have h1 := List.mem_filter.mp (((onceS_all _).2.1 y).mp hy)
        have h3 := hin y h1.1
        rw [Bool.and_eq_true] at h1
        rw [h1.2.1] at h3
        have h4 : y ∈ names := of_decide_eq_true h3
        rw [← hnm] at h4
        rcases List.mem_cons.mp h4 with h4 | h4
        · exact absurd h4 (of_decide_eq_true h1.2.2)
        · exact h4
      have n6 : (colsOf zs).length ≤ 6 := Nat.le_trans (nodup_len nd inC) hnlen
      have how : ∀ y ∈ colsOf zs, y ≠ "own" := fun y hy => (six_own y (hsub y (inC y hy))).1
      refine ⟨_, rfl, a, ns, 3, rfl, s07.seq hS, hl, by decide, by decide, _, rfl, fun H7b fi sb hfi => ?_⟩
      refine ⟨_, rfl, a, ns, 4, rfl, (s07.trans sb).seq hS, hl, by decide, by decide, _, rfl, fun H7c ab sc hab => ?_⟩
      replace h7 := sc _ _ (sb _ _ h7)
      replace w8 := sc _ _ (sb _ _ w8)
      replace s07 := (s07.trans sb).trans sc
      refine fun d hd => ?_
      have s9 := Same.new (o := .dK []) hd
      have e9 : upd H7c d (.dK []) d = some (.dK []) := upd_same
      have ndo : ol ≠ d := ne_of_none h7 hd
      have ndw : wl ≠ d := ne_of_none w8 hd
      refine ⟨_, rfl, _, _, rfl, .inl ⟨_, SqL.of (s9 _ _ h7), rfl⟩, _, rfl, by rw [List.length_map]; omega, by rw [List.length_map]; omega, ?_⟩
      rw [List.length_map, Int.toNat_natCast]
      refine for_range (lo := 0) (n := (colsOf zs).length) (fun i σ H2 => ∃ (o8 : Option V) (is : List Int), σ = [some (.ref a), some (.ref l1), some (.int (tn : Int)), some (.ref nl), some (.ref wl), some (.ref ol), o6, some (.int fi), some (.int ab), some (.ref d), o8, none, none, none, none, none, none, none, none, none] ∧ But d (upd H7c d (.dK [])) H2 ∧ is.length = i ∧ (∀ j ∈ is, bnd F60 j) ∧ H2 d = some (.dK (zipP (colsOf zs) (is.map V.int) i)))
        ⟨_, [], rfl, But.of (Same.refl _), rfl, (fun j hj => by cases hj), e9⟩ ?_ ?_
      · rintro i σ H2 hi ⟨o8, is, rfl, b2, hil, hib, h2⟩
        have hS2 : SqL K H2 a (ns.map V.int) := by
          rcases s07.seq hS with h | h
          · rcases h with h | ⟨o, h⟩
            · exact .inl (.inl (b2 _ _ (ne_of_none h hd) (s9 _ _ h)))
            · exact .inl (.inr ⟨o, b2 _ _ (ne_of_none h hd) (s9 _ _ h)⟩)
          · exact .inr h
        have hz : (colsOf zs)[i]? = some (colsOf zs)[i] := List.getElem?_eq_getElem hi
        obtain ⟨hat, _⟩ := (show atI ((colsOf zs).map V.str) (0 + (i : Int)) = some (.str (colsOf zs)[i]) ∧ True by
          refine ⟨?_, trivial⟩
          obtain ⟨v, h1, h2⟩ := at_some ((colsOf zs).map V.str) (0 + (i : Int)) (by omega) (by rw [List.length_map]; omega)
          rw [h1]
          rw [show (0 + (i : Int)).toNat = i by omega, List.getElem?_map, hz] at h2
          exact h2.symm)
        refine ⟨_, rfl, _, rfl, _, _, rfl, rfl, a, ns, _, rfl, hS2, hl, by omega, by omega, _, rfl, fun H3 j s3 hj => ?_⟩
        refine ⟨_, rfl, _, rfl, _, rfl, ol, _, _, _, rfl, rfl, SqL.of (s3 _ _ (b2 _ _ ndo (s9 _ _ h7))), hat, d, _, rfl, DPut.k (k := Sum.inr (colsOf zs)[i]) (s3 _ _ h2) ?_, ?_⟩
        · have := zipP_len (colsOf zs) (is.map V.int) i
          have : (1000 : Nat) ≤ sizeLine := sz1000
          omega
        · refine ⟨_, is ++ [j], rfl, (b2.trans (But.of s3)).trans But.upd, by rw [List.length_append, hil]; rfl, fun y hy => ?_, ?_⟩
          · rcases List.mem_append.mp hy with hy | hy
            · exact hib y hy
            · rw [List.mem_singleton.mp hy]; exact hj
          · rw [putK_new _ (valV_none (zipP_new nd hz))]
            have e10 : zipP (colsOf zs) ((is ++ [j]).map V.int) (i + 1) = zipP (colsOf zs) (is.map V.int) i ++ [((.inr (colsOf zs)[i] : Key), V.int j)] := by
              rw [List.map_append, zipP_succ (z := (colsOf zs)[i]) (y := V.int j) hz (by
                rw [List.getElem?_append_right (by rw [List.length_map]; omega), List.length_map, hil, Nat.sub_self]
                rfl)]
              have := zipP_pre (colsOf zs) (is.map V.int) ([j].map V.int)
              rw [List.length_map, hil] at this
              rw [this]
            rw [e10]
            exact upd_same
      · rintro σ H8 ⟨o8, is, rfl, b8, hil, hib, h8⟩
        have s08 : Same H H8 := fun b o e => b8 _ _ (fun y => by rw [y, none_back s07 hd] at e; cases e) (s9 _ _ (s07 _ _ e))
        have w9 := b8 _ _ ndw (s9 _ _ w8)
        have o9 := b8 _ _ ndo (s9 _ _ h7)
        have hzl : ∀ y ∈ zs, y.length ≤ 61 := fun y hy => by
          rcases hP.all y hy with h | h
          · have := (sgn_no y h).2.1; omega
          · exact h.len
        have hnb : ∀ y ∈ zs, (32 : Nat) ∉ y.cps.toList := fun y hy => by
          rcases hP.all y hy with h | h
          · exact (sgn_no y h).2.2.1
          · rcases h with h | ⟨i, h⟩
            · exact nl_noblank h
            · exact h.nb
        have hz0 : zs ≠ [] := fun e => by
          rw [e] at hP
          have : (1 : Nat) = 0 := hP
          omega
        have jl := join_len (m := 61) hzl
        have jl2 : zs.length * (61 + 1) ≤ 24 * 62 := Nat.mul_le_mul_right _ hlz
        have sl' := sum_len hzl
        have sl2 : zs.length * 61 ≤ 24 * 61 := Nat.mul_le_mul_right _ hlz
        have l6 : ("above " : Str).length = 6 := by decide
        have lb : (" " : Str).length = 1 := by decide
        have hyw := wr_toString fi
        generalize hyE : PySem.Str.ofString (toString fi) = yf at hyw
        have hNy : NumW yf fi := ⟨hfi, hyw⟩
        have lyf := hNy.reads.2
        refine ⟨_, rfl, fi, rfl, log_of hfi.1 hfi.2, ?_⟩
        rw [hyE]
        refine ⟨_, _, rfl, rfl, Nat.le_trans (by omega) sz9000, _, _, rfl, rfl, Nat.le_trans (by simp only [catS_len]; omega) sz9000, rfl, _, rfl, " ", wl, zs, rfl, rfl, SqL.of w9, by rw [lb]; omega, _, _, rfl, rfl, Nat.le_trans (by simp only [catS_len]; omega) sz9000, _, yf :: zs, rfl, by simp only [catS_len]; omega, above_split hNy.nb hz0 hnb, fun H9 c9 s9' hc9 h9 => ?_⟩
        have s09 := s08.trans s9'
        refine ⟨c9, yf, zs, fi, rfl, h9, hNy, hlz, hP, n6, tabIn0 (s09 _ _ t01), fun HA r fa W sA tA AB FA hW => ?_⟩
        have kA := KeepC.tab (tabIn0 (q := qFo) (s09 _ _ t01)) sA
        refine qE HA a l1 nl wl ol d r ns (tn : Int) fi ab o6 o8 zs is (kA.sqL (s09.seq hS)) hl ⟨hP, hlz, hil, hib, hfi, hab, n6, how, kA _ _ (fun φ z => by cases z) (s9' _ _ w9), kA _ _ (fun φ z => by cases z) (s9' _ _ o9), kA _ _ (fun φ z => by cases z) (s9' _ _ h8), ⟨fa, W, AB, FA, hW⟩, tab_at tA, sA _ _ (Ne.symm ne) (s09 _ _ t02)⟩
end
end My

namespace My
open PySem L2
theorem tops_mk {PP : Params} {K : PySem.W.Frag} {h : Heap} {mg : Str → Option Value} (X : K.In h) (G : h.Ns mainGlobals mg)
    (n_len : PySem.W.nsIn K mainGlobals "len" = some none)
    (n_isinstance : PySem.W.nsIn K mainGlobals "isinstance" = some none)
    (n_int : PySem.W.nsIn K mainGlobals "int" = some none)
    (n_bool : PySem.W.nsIn K mainGlobals "bool" = some none)
    (n_str : PySem.W.nsIn K mainGlobals "str" = some none)
    (n_all : PySem.W.nsIn K mainGlobals "all" = some none)
    (n_range : PySem.W.nsIn K mainGlobals "range" = some none)
    (n_abs : PySem.W.nsIn K mainGlobals "abs" = some none)
    (n_list : PySem.W.nsIn K mainGlobals "list" = some none)
    (n_tuple : PySem.W.nsIn K mainGlobals "tuple" = some none)
    (n_dict : PySem.W.nsIn K mainGlobals "dict" = some none)
    (n_max : PySem.W.nsIn K mainGlobals "max" = some none)
    (n_min : PySem.W.nsIn K mainGlobals "min" = some none)
    (n_sum : PySem.W.nsIn K mainGlobals "sum" = some none)
    (n_reversed : PySem.W.nsIn K mainGlobals "reversed" = some none)
    (n_zip : PySem.W.nsIn K mainGlobals "zip" = some none)
    (n_ValueError : PySem.W.nsIn K mainGlobals "ValueError" = some none)
    {t_LETTERS : Tok} (i_LETTERS : PySem.W.nsIn K mainGlobals "LETTERS" = some (some (.str ("abcdefghijklmnopqrstuvwxyz" : Str) t_LETTERS)))
    {t_MOST_LETTERS : Tok} (i_MOST_LETTERS : PySem.W.nsIn K mainGlobals "MOST_LETTERS" = some (some (.int 8 t_MOST_LETTERS)))
    {p_ODD : Addr} {t0_ODD t1_ODD : Tok} {od_ODD : Option Addr} {m_ODD : Nat} {sl_ODD : Array (Option Value)} (i_ODD : PySem.W.nsIn K mainGlobals "ODD" = some (some (.ref p_ODD))) (j_ODD : K.lookup p_ODD = some ⟨.type "tuple", od_ODD, .seq #[Value.str ("fault" : Str) t0_ODD, Value.str ("odd" : Str) t1_ODD] m_ODD, sl_ODD⟩)
    {t_MOST_NAMES : Tok} (i_MOST_NAMES : PySem.W.nsIn K mainGlobals "MOST_NAMES" = some (some (.int 6 t_MOST_NAMES)))
    {p_LACKS : Addr} {t0_LACKS t1_LACKS : Tok} {od_LACKS : Option Addr} {m_LACKS : Nat} {sl_LACKS : Array (Option Value)} (i_LACKS : PySem.W.nsIn K mainGlobals "LACKS" = some (some (.ref p_LACKS))) (j_LACKS : K.lookup p_LACKS = some ⟨.type "tuple", od_LACKS, .seq #[Value.str ("fault" : Str) t0_LACKS, Value.str ("lacks" : Str) t1_LACKS] m_LACKS, sl_LACKS⟩)
    {t_FIGURES : Tok} (i_FIGURES : PySem.W.nsIn K mainGlobals "FIGURES" = some (some (.str ("0123456789" : Str) t_FIGURES)))
    {t_MOST_FIGURES : Tok} (i_MOST_FIGURES : PySem.W.nsIn K mainGlobals "MOST_FIGURES" = some (some (.int 60 t_MOST_FIGURES)))
    {t_MOST_WORDS : Tok} (i_MOST_WORDS : PySem.W.nsIn K mainGlobals "MOST_WORDS" = some (some (.int 24 t_MOST_WORDS)))
    {p_SIGNS : Addr} {t0_SIGNS t1_SIGNS t2_SIGNS t3_SIGNS t4_SIGNS t5_SIGNS t6_SIGNS : Tok} {od_SIGNS : Option Addr} {m_SIGNS : Nat} {sl_SIGNS : Array (Option Value)} (i_SIGNS : PySem.W.nsIn K mainGlobals "SIGNS" = some (some (.ref p_SIGNS))) (j_SIGNS : K.lookup p_SIGNS = some ⟨.type "tuple", od_SIGNS, .seq #[Value.str ("+" : Str) t0_SIGNS, Value.str ("-" : Str) t1_SIGNS, Value.str ("*" : Str) t2_SIGNS, Value.str ("/" : Str) t3_SIGNS, Value.str (":" : Str) t4_SIGNS, Value.str ("<" : Str) t5_SIGNS, Value.str ("=" : Str) t6_SIGNS] m_SIGNS, sl_SIGNS⟩)
    {p_NOUGHT : Addr} {t0_NOUGHT t1_NOUGHT : Tok} {od_NOUGHT : Option Addr} {m_NOUGHT : Nat} {sl_NOUGHT : Array (Option Value)} (i_NOUGHT : PySem.W.nsIn K mainGlobals "NOUGHT" = some (some (.ref p_NOUGHT))) (j_NOUGHT : K.lookup p_NOUGHT = some ⟨.type "tuple", od_NOUGHT, .seq #[Value.str ("fault" : Str) t0_NOUGHT, Value.str ("nought" : Str) t1_NOUGHT] m_NOUGHT, sl_NOUGHT⟩)
    {p_GREAT : Addr} {t0_GREAT t1_GREAT : Tok} {od_GREAT : Option Addr} {m_GREAT : Nat} {sl_GREAT : Array (Option Value)} (i_GREAT : PySem.W.nsIn K mainGlobals "GREAT" = some (some (.ref p_GREAT))) (j_GREAT : K.lookup p_GREAT = some ⟨.type "tuple", od_GREAT, .seq #[Value.str ("fault" : Str) t0_GREAT, Value.str ("great" : Str) t1_GREAT] m_GREAT, sl_GREAT⟩)
    {t_UP : Tok} (i_UP : PySem.W.nsIn K mainGlobals "UP" = some (some (.str ("up" : Str) t_UP)))
    {f_is_whole : Addr} {oc_is_whole kV_is_whole doc_is_whole pm_is_whole ct_is_whole : Value} {cd_is_whole : Value} {od_is_whole an_is_whole : Option Addr} {sl_is_whole : Array (Option Value)} (a_is_whole : PySem.W.nsIn K mainGlobals "is_whole" = some (some (.ref f_is_whole)))
    (l_is_whole : K.lookup f_is_whole = some ⟨oc_is_whole, od_is_whole, .func (PySem.W.fnOf "is_whole" "is_whole" (defArgs s_is_whole) (defBody s_is_whole) (defScope s_is_whole) .none kV_is_whole doc_is_whole pm_is_whole an_is_whole cd_is_whole ct_is_whole), sl_is_whole⟩)
    (c_is_whole : PySem.W.codeIn K cd_is_whole "is_whole" = true) (k_is_whole : PySem.W.keepIn K (.ref f_is_whole) = true)
    {f_is_number : Addr} {oc_is_number kV_is_number doc_is_number pm_is_number ct_is_number : Value} {cd_is_number : Value} {od_is_number an_is_number : Option Addr} {sl_is_number : Array (Option Value)} (a_is_number : PySem.W.nsIn K mainGlobals "is_number" = some (some (.ref f_is_number)))
    (l_is_number : K.lookup f_is_number = some ⟨oc_is_number, od_is_number, .func (PySem.W.fnOf "is_number" "is_number" (defArgs s_is_number) (defBody s_is_number) (defScope s_is_number) .none kV_is_number doc_is_number pm_is_number an_is_number cd_is_number ct_is_number), sl_is_number⟩)
    (c_is_number : PySem.W.codeIn K cd_is_number "is_number" = true) (k_is_number : PySem.W.keepIn K (.ref f_is_number) = true)
    {f_is_name : Addr} {oc_is_name kV_is_name doc_is_name pm_is_name ct_is_name : Value} {cd_is_name : Value} {od_is_name an_is_name : Option Addr} {sl_is_name : Array (Option Value)} (a_is_name : PySem.W.nsIn K mainGlobals "is_name" = some (some (.ref f_is_name)))
    (l_is_name : K.lookup f_is_name = some ⟨oc_is_name, od_is_name, .func (PySem.W.fnOf "is_name" "is_name" (defArgs s_is_name) (defBody s_is_name) (defScope s_is_name) .none kV_is_name doc_is_name pm_is_name an_is_name cd_is_name ct_is_name), sl_is_name⟩)
    (c_is_name : PySem.W.codeIn K cd_is_name "is_name" = true) (k_is_name : PySem.W.keepIn K (.ref f_is_name) = true)
    {f_is_fault : Addr} {oc_is_fault kV_is_fault doc_is_fault pm_is_fault ct_is_fault : Value} {cd_is_fault : Value} {od_is_fault an_is_fault : Option Addr} {sl_is_fault : Array (Option Value)} (a_is_fault : PySem.W.nsIn K mainGlobals "is_fault" = some (some (.ref f_is_fault)))
    (l_is_fault : K.lookup f_is_fault = some ⟨oc_is_fault, od_is_fault, .func (PySem.W.fnOf "is_fault" "is_fault" (defArgs s_is_fault) (defBody s_is_fault) (defScope s_is_fault) .none kV_is_fault doc_is_fault pm_is_fault an_is_fault cd_is_fault ct_is_fault), sl_is_fault⟩)
    (c_is_fault : PySem.W.codeIn K cd_is_fault "is_fault" = true) (k_is_fault : PySem.W.keepIn K (.ref f_is_fault) = true)
    {f_is_value : Addr} {oc_is_value kV_is_value doc_is_value pm_is_value ct_is_value : Value} {cd_is_value : Value} {od_is_value an_is_value : Option Addr} {sl_is_value : Array (Option Value)} (a_is_value : PySem.W.nsIn K mainGlobals "is_value" = some (some (.ref f_is_value)))
    (l_is_value : K.lookup f_is_value = some ⟨oc_is_value, od_is_value, .func (PySem.W.fnOf "is_value" "is_value" (defArgs s_is_value) (defBody s_is_value) (defScope s_is_value) .none kV_is_value doc_is_value pm_is_value an_is_value cd_is_value ct_is_value), sl_is_value⟩)
    (c_is_value : PySem.W.codeIn K cd_is_value "is_value" = true) (k_is_value : PySem.W.keepIn K (.ref f_is_value) = true)
    {f_settled : Addr} {oc_settled kV_settled doc_settled pm_settled ct_settled : Value} {cd_settled : Value} {od_settled an_settled : Option Addr} {sl_settled : Array (Option Value)} (a_settled : PySem.W.nsIn K mainGlobals "settled" = some (some (.ref f_settled)))
    (l_settled : K.lookup f_settled = some ⟨oc_settled, od_settled, .func (PySem.W.fnOf "settled" "settled" (defArgs s_settled) (defBody s_settled) (defScope s_settled) .none kV_settled doc_settled pm_settled an_settled cd_settled ct_settled), sl_settled⟩)
    (c_settled : PySem.W.codeIn K cd_settled "settled" = true) (k_settled : PySem.W.keepIn K (.ref f_settled) = true)
    {f_check_name : Addr} {oc_check_name kV_check_name doc_check_name pm_check_name ct_check_name : Value} {cd_check_name : Value} {od_check_name an_check_name : Option Addr} {sl_check_name : Array (Option Value)} (a_check_name : PySem.W.nsIn K mainGlobals "check_name" = some (some (.ref f_check_name)))
    (l_check_name : K.lookup f_check_name = some ⟨oc_check_name, od_check_name, .func (PySem.W.fnOf "check_name" "check_name" (defArgs s_check_name) (defBody s_check_name) (defScope s_check_name) .none kV_check_name doc_check_name pm_check_name an_check_name cd_check_name ct_check_name), sl_check_name⟩)
    (c_check_name : PySem.W.codeIn K cd_check_name "check_name" = true) (k_check_name : PySem.W.keepIn K (.ref f_check_name) = true)
    {f_checked_names : Addr} {oc_checked_names kV_checked_names doc_checked_names pm_checked_names ct_checked_names : Value} {cd_checked_names : Value} {od_checked_names an_checked_names : Option Addr} {sl_checked_names : Array (Option Value)} (a_checked_names : PySem.W.nsIn K mainGlobals "checked_names" = some (some (.ref f_checked_names)))
    (l_checked_names : K.lookup f_checked_names = some ⟨oc_checked_names, od_checked_names, .func (PySem.W.fnOf "checked_names" "checked_names" (defArgs s_checked_names) (defBody s_checked_names) (defScope s_checked_names) .none kV_checked_names doc_checked_names pm_checked_names an_checked_names cd_checked_names ct_checked_names), sl_checked_names⟩)
    (c_checked_names : PySem.W.codeIn K cd_checked_names "checked_names" = true) (k_checked_names : PySem.W.keepIn K (.ref f_checked_names) = true)
    {f_each_once : Addr} {oc_each_once kV_each_once doc_each_once pm_each_once ct_each_once : Value} {cd_each_once : Value} {od_each_once an_each_once : Option Addr} {sl_each_once : Array (Option Value)} (a_each_once : PySem.W.nsIn K mainGlobals "each_once" = some (some (.ref f_each_once)))
    (l_each_once : K.lookup f_each_once = some ⟨oc_each_once, od_each_once, .func (PySem.W.fnOf "each_once" "each_once" (defArgs s_each_once) (defBody s_each_once) (defScope s_each_once) .none kV_each_once doc_each_once pm_each_once an_each_once cd_each_once ct_each_once), sl_each_once⟩)
    (c_each_once : PySem.W.codeIn K cd_each_once "each_once" = true) (k_each_once : PySem.W.keepIn K (.ref f_each_once) = true)
    {f_look_in_turn : Addr} {oc_look_in_turn kV_look_in_turn doc_look_in_turn pm_look_in_turn ct_look_in_turn : Value} {cd_look_in_turn : Value} {od_look_in_turn an_look_in_turn : Option Addr} {sl_look_in_turn : Array (Option Value)} (a_look_in_turn : PySem.W.nsIn K mainGlobals "look_in_turn" = some (some (.ref f_look_in_turn)))
    (l_look_in_turn : K.lookup f_look_in_turn = some ⟨oc_look_in_turn, od_look_in_turn, .func (PySem.W.fnOf "look_in_turn" "look_in_turn" (defArgs s_look_in_turn) (defBody s_look_in_turn) (defScope s_look_in_turn) .none kV_look_in_turn doc_look_in_turn pm_look_in_turn an_look_in_turn cd_look_in_turn ct_look_in_turn), sl_look_in_turn⟩)
    (c_look_in_turn : PySem.W.codeIn K cd_look_in_turn "look_in_turn" = true) (k_look_in_turn : PySem.W.keepIn K (.ref f_look_in_turn) = true)
    {f_writes_number : Addr} {oc_writes_number kV_writes_number doc_writes_number pm_writes_number ct_writes_number : Value} {cd_writes_number : Value} {od_writes_number an_writes_number : Option Addr} {sl_writes_number : Array (Option Value)} (a_writes_number : PySem.W.nsIn K mainGlobals "writes_number" = some (some (.ref f_writes_number)))
    (l_writes_number : K.lookup f_writes_number = some ⟨oc_writes_number, od_writes_number, .func (PySem.W.fnOf "writes_number" "writes_number" (defArgs s_writes_number) (defBody s_writes_number) (defScope s_writes_number) .none kV_writes_number doc_writes_number pm_writes_number an_writes_number cd_writes_number ct_writes_number), sl_writes_number⟩)
    (c_writes_number : PySem.W.codeIn K cd_writes_number "writes_number" = true) (k_writes_number : PySem.W.keepIn K (.ref f_writes_number) = true)
    {f_is_reckoning : Addr} {oc_is_reckoning kV_is_reckoning doc_is_reckoning pm_is_reckoning ct_is_reckoning : Value} {cd_is_reckoning : Value} {od_is_reckoning an_is_reckoning : Option Addr} {sl_is_reckoning : Array (Option Value)} (a_is_reckoning : PySem.W.nsIn K mainGlobals "is_reckoning" = some (some (.ref f_is_reckoning)))
    (l_is_reckoning : K.lookup f_is_reckoning = some ⟨oc_is_reckoning, od_is_reckoning, .func (PySem.W.fnOf "is_reckoning" "is_reckoning" (defArgs s_is_reckoning) (defBody s_is_reckoning) (defScope s_is_reckoning) .none kV_is_reckoning doc_is_reckoning pm_is_reckoning an_is_reckoning cd_is_reckoning ct_is_reckoning), sl_is_reckoning⟩)
    (c_is_reckoning : PySem.W.codeIn K cd_is_reckoning "is_reckoning" = true) (k_is_reckoning : PySem.W.keepIn K (.ref f_is_reckoning) = true)
    {f_names_in : Addr} {oc_names_in kV_names_in doc_names_in pm_names_in ct_names_in : Value} {cd_names_in : Value} {od_names_in an_names_in : Option Addr} {sl_names_in : Array (Option Value)} (a_names_in : PySem.W.nsIn K mainGlobals "names_in" = some (some (.ref f_names_in)))
    (l_names_in : K.lookup f_names_in = some ⟨oc_names_in, od_names_in, .func (PySem.W.fnOf "names_in" "names_in" (defArgs s_names_in) (defBody s_names_in) (defScope s_names_in) .none kV_names_in doc_names_in pm_names_in an_names_in cd_names_in ct_names_in), sl_names_in⟩)
    (c_names_in : PySem.W.codeIn K cd_names_in "names_in" = true) (k_names_in : PySem.W.keepIn K (.ref f_names_in) = true)
    {f_bounded : Addr} {oc_bounded kV_bounded doc_bounded pm_bounded ct_bounded : Value} {cd_bounded : Value} {od_bounded an_bounded : Option Addr} {sl_bounded : Array (Option Value)} (a_bounded : PySem.W.nsIn K mainGlobals "bounded" = some (some (.ref f_bounded)))
    (l_bounded : K.lookup f_bounded = some ⟨oc_bounded, od_bounded, .func (PySem.W.fnOf "bounded" "bounded" (defArgs s_bounded) (defBody s_bounded) (defScope s_bounded) .none kV_bounded doc_bounded pm_bounded an_bounded cd_bounded ct_bounded), sl_bounded⟩)
    (c_bounded : PySem.W.codeIn K cd_bounded "bounded" = true) (k_bounded : PySem.W.keepIn K (.ref f_bounded) = true)
    {f_reckoned : Addr} {oc_reckoned kV_reckoned doc_reckoned pm_reckoned ct_reckoned : Value} {cd_reckoned : Value} {od_reckoned an_reckoned : Option Addr} {sl_reckoned : Array (Option Value)} (a_reckoned : PySem.W.nsIn K mainGlobals "reckoned" = some (some (.ref f_reckoned)))
    (l_reckoned : K.lookup f_reckoned = some ⟨oc_reckoned, od_reckoned, .func (PySem.W.fnOf "reckoned" "reckoned" (defArgs s_reckoned) (defBody s_reckoned) (defScope s_reckoned) .none kV_reckoned doc_reckoned pm_reckoned an_reckoned cd_reckoned ct_reckoned), sl_reckoned⟩)
    (c_reckoned : PySem.W.codeIn K cd_reckoned "reckoned" = true) (k_reckoned : PySem.W.keepIn K (.ref f_reckoned) = true)
    {f_joined : Addr} {oc_joined kV_joined doc_joined pm_joined ct_joined : Value} {cd_joined : Value} {od_joined an_joined : Option Addr} {sl_joined : Array (Option Value)} (a_joined : PySem.W.nsIn K mainGlobals "joined" = some (some (.ref f_joined)))
    (l_joined : K.lookup f_joined = some ⟨oc_joined, od_joined, .func (PySem.W.fnOf "joined" "joined" (defArgs s_joined) (defBody s_joined) (defScope s_joined) .none kV_joined doc_joined pm_joined an_joined cd_joined ct_joined), sl_joined⟩)
    (c_joined : PySem.W.codeIn K cd_joined "joined" = true) (k_joined : PySem.W.keepIn K (.ref f_joined) = true)
    {f_number_of : Addr} {oc_number_of kV_number_of doc_number_of pm_number_of ct_number_of : Value} {cd_number_of : Value} {od_number_of an_number_of : Option Addr} {sl_number_of : Array (Option Value)} (a_number_of : PySem.W.nsIn K mainGlobals "number_of" = some (some (.ref f_number_of)))
    (l_number_of : K.lookup f_number_of = some ⟨oc_number_of, od_number_of, .func (PySem.W.fnOf "number_of" "number_of" (defArgs s_number_of) (defBody s_number_of) (defScope s_number_of) .none kV_number_of doc_number_of pm_number_of an_number_of cd_number_of ct_number_of), sl_number_of⟩)
    (c_number_of : PySem.W.codeIn K cd_number_of "number_of" = true) (k_number_of : PySem.W.keepIn K (.ref f_number_of) = true)
    {f_sum_of : Addr} {oc_sum_of kV_sum_of doc_sum_of pm_sum_of ct_sum_of : Value} {cd_sum_of : Value} {od_sum_of an_sum_of : Option Addr} {sl_sum_of : Array (Option Value)} (a_sum_of : PySem.W.nsIn K mainGlobals "sum_of" = some (some (.ref f_sum_of)))
    (l_sum_of : K.lookup f_sum_of = some ⟨oc_sum_of, od_sum_of, .func (PySem.W.fnOf "sum_of" "sum_of" (defArgs s_sum_of) (defBody s_sum_of) (defScope s_sum_of) .none kV_sum_of doc_sum_of pm_sum_of an_sum_of cd_sum_of ct_sum_of), sl_sum_of⟩)
    (c_sum_of : PySem.W.codeIn K cd_sum_of "sum_of" = true) (k_sum_of : PySem.W.keepIn K (.ref f_sum_of) = true)
    {f_most_of : Addr} {oc_most_of kV_most_of doc_most_of pm_most_of ct_most_of : Value} {cd_most_of : Value} {od_most_of an_most_of : Option Addr} {sl_most_of : Array (Option Value)} (a_most_of : PySem.W.nsIn K mainGlobals "most_of" = some (some (.ref f_most_of)))
    (l_most_of : K.lookup f_most_of = some ⟨oc_most_of, od_most_of, .func (PySem.W.fnOf "most_of" "most_of" (defArgs s_most_of) (defBody s_most_of) (defScope s_most_of) .none kV_most_of doc_most_of pm_most_of an_most_of cd_most_of ct_most_of), sl_most_of⟩)
    (c_most_of : PySem.W.codeIn K cd_most_of "most_of" = true) (k_most_of : PySem.W.keepIn K (.ref f_most_of) = true)
    {f_least_of : Addr} {oc_least_of kV_least_of doc_least_of pm_least_of ct_least_of : Value} {cd_least_of : Value} {od_least_of an_least_of : Option Addr} {sl_least_of : Array (Option Value)} (a_least_of : PySem.W.nsIn K mainGlobals "least_of" = some (some (.ref f_least_of)))
    (l_least_of : K.lookup f_least_of = some ⟨oc_least_of, od_least_of, .func (PySem.W.fnOf "least_of" "least_of" (defArgs s_least_of) (defBody s_least_of) (defScope s_least_of) .none kV_least_of doc_least_of pm_least_of an_least_of cd_least_of ct_least_of), sl_least_of⟩)
    (c_least_of : PySem.W.codeIn K cd_least_of "least_of" = true) (k_least_of : PySem.W.keepIn K (.ref f_least_of) = true)
    {f_how_many : Addr} {oc_how_many kV_how_many doc_how_many pm_how_many ct_how_many : Value} {cd_how_many : Value} {od_how_many an_how_many : Option Addr} {sl_how_many : Array (Option Value)} (a_how_many : PySem.W.nsIn K mainGlobals "how_many" = some (some (.ref f_how_many)))
    (l_how_many : K.lookup f_how_many = some ⟨oc_how_many, od_how_many, .func (PySem.W.fnOf "how_many" "how_many" (defArgs s_how_many) (defBody s_how_many) (defScope s_how_many) .none kV_how_many doc_how_many pm_how_many an_how_many cd_how_many ct_how_many), sl_how_many⟩)
    (c_how_many : PySem.W.codeIn K cd_how_many "how_many" = true) (k_how_many : PySem.W.keepIn K (.ref f_how_many) = true)
    {f_refuse_unless : Addr} {oc_refuse_unless kV_refuse_unless doc_refuse_unless pm_refuse_unless ct_refuse_unless : Value} {cd_refuse_unless : Value} {od_refuse_unless an_refuse_unless : Option Addr} {sl_refuse_unless : Array (Option Value)} (a_refuse_unless : PySem.W.nsIn K mainGlobals "refuse_unless" = some (some (.ref f_refuse_unless)))
    (l_refuse_unless : K.lookup f_refuse_unless = some ⟨oc_refuse_unless, od_refuse_unless, .func (PySem.W.fnOf "refuse_unless" "refuse_unless" (defArgs s_refuse_unless) (defBody s_refuse_unless) (defScope s_refuse_unless) .none kV_refuse_unless doc_refuse_unless pm_refuse_unless an_refuse_unless cd_refuse_unless ct_refuse_unless), sl_refuse_unless⟩)
    (c_refuse_unless : PySem.W.codeIn K cd_refuse_unless "refuse_unless" = true) (k_refuse_unless : PySem.W.keepIn K (.ref f_refuse_unless) = true)
    {f_check_names : Addr} {oc_check_names kV_check_names doc_check_names pm_check_names ct_check_names : Value} {cd_check_names : Value} {od_check_names an_check_names : Option Addr} {sl_check_names : Array (Option Value)} (a_check_names : PySem.W.nsIn K mainGlobals "check_names" = some (some (.ref f_check_names)))
    (l_check_names : K.lookup f_check_names = some ⟨oc_check_names, od_check_names, .func (PySem.W.fnOf "check_names" "check_names" (defArgs s_check_names) (defBody s_check_names) (defScope s_check_names) .none kV_check_names doc_check_names pm_check_names an_check_names cd_check_names ct_check_names), sl_check_names⟩)
    (c_check_names : PySem.W.codeIn K cd_check_names "check_names" = true) (k_check_names : PySem.W.keepIn K (.ref f_check_names) = true)
    {f_columns_in : Addr} {oc_columns_in kV_columns_in doc_columns_in pm_columns_in ct_columns_in : Value} {cd_columns_in : Value} {od_columns_in an_columns_in : Option Addr} {sl_columns_in : Array (Option Value)} (a_columns_in : PySem.W.nsIn K mainGlobals "columns_in" = some (some (.ref f_columns_in)))
    (l_columns_in : K.lookup f_columns_in = some ⟨oc_columns_in, od_columns_in, .func (PySem.W.fnOf "columns_in" "columns_in" (defArgs s_columns_in) (defBody s_columns_in) (defScope s_columns_in) .none kV_columns_in doc_columns_in pm_columns_in an_columns_in cd_columns_in ct_columns_in), sl_columns_in⟩)
    (c_columns_in : PySem.W.codeIn K cd_columns_in "columns_in" = true) (k_columns_in : PySem.W.keepIn K (.ref f_columns_in) = true)
    {f_function_of : Addr} {oc_function_of kV_function_of doc_function_of pm_function_of ct_function_of : Value} {cc_function_of : Addr} {od_function_of an_function_of : Option Addr} {sl_function_of : Array (Option Value)} (a_function_of : PySem.W.nsIn K mainGlobals "function_of" = some (some (.ref f_function_of)))
    (l_function_of : K.lookup f_function_of = some ⟨oc_function_of, od_function_of, .func (PySem.W.fnOf "function_of" "function_of" (defArgs s_function_of) (defBody s_function_of) (defScope s_function_of) .none kV_function_of doc_function_of pm_function_of an_function_of (.ref cc_function_of) ct_function_of), sl_function_of⟩)
    (c_function_of : PySem.W.codeIn K (.ref cc_function_of) "function_of" = true) (k_function_of : PySem.W.keepIn K (.ref f_function_of) = true)
    {wo_function_of : Value} {wd_function_of : Option Addr} {wv_function_of : Array Value} {ws_function_of : Array (Option Value)} {p_function_of : Addr} (w_function_of : K.lookup cc_function_of = some ⟨wo_function_of, wd_function_of, .fields wv_function_of, ws_function_of⟩) (t_function_of : wv_function_of[11]? = some (.ref p_function_of))
    {f_read_cells : Addr} {oc_read_cells kV_read_cells doc_read_cells pm_read_cells ct_read_cells : Value} {cd_read_cells : Value} {od_read_cells an_read_cells : Option Addr} {sl_read_cells : Array (Option Value)} (a_read_cells : PySem.W.nsIn K mainGlobals "read_cells" = some (some (.ref f_read_cells)))
    (l_read_cells : K.lookup f_read_cells = some ⟨oc_read_cells, od_read_cells, .func (PySem.W.fnOf "read_cells" "read_cells" (defArgs s_read_cells) (defBody s_read_cells) (defScope s_read_cells) .none kV_read_cells doc_read_cells pm_read_cells an_read_cells cd_read_cells ct_read_cells), sl_read_cells⟩)
    (c_read_cells : PySem.W.codeIn K cd_read_cells "read_cells" = true) (k_read_cells : PySem.W.keepIn K (.ref f_read_cells) = true)
    {f_read_above : Addr} {oc_read_above kV_read_above doc_read_above pm_read_above ct_read_above : Value} {cd_read_above : Value} {od_read_above an_read_above : Option Addr} {sl_read_above : Array (Option Value)} (a_read_above : PySem.W.nsIn K mainGlobals "read_above" = some (some (.ref f_read_above)))
    (l_read_above : K.lookup f_read_above = some ⟨oc_read_above, od_read_above, .func (PySem.W.fnOf "read_above" "read_above" (defArgs s_read_above) (defBody s_read_above) (defScope s_read_above) .none kV_read_above doc_read_above pm_read_above an_read_above cd_read_above ct_read_above), sl_read_above⟩)
    (c_read_above : PySem.W.codeIn K cd_read_above "read_above" = true) (k_read_above : PySem.W.keepIn K (.ref f_read_above) = true)
    {f_read_group : Addr} {oc_read_group kV_read_group doc_read_group pm_read_group ct_read_group : Value} {cd_read_group : Value} {od_read_group an_read_group : Option Addr} {sl_read_group : Array (Option Value)} (a_read_group : PySem.W.nsIn K mainGlobals "read_group" = some (some (.ref f_read_group)))
    (l_read_group : K.lookup f_read_group = some ⟨oc_read_group, od_read_group, .func (PySem.W.fnOf "read_group" "read_group" (defArgs s_read_group) (defBody s_read_group) (defScope s_read_group) .none kV_read_group doc_read_group pm_read_group an_read_group cd_read_group ct_read_group), sl_read_group⟩)
    (c_read_group : PySem.W.codeIn K cd_read_group "read_group" = true) (k_read_group : PySem.W.keepIn K (.ref f_read_group) = true)
    {f_read_lookup : Addr} {oc_read_lookup kV_read_lookup doc_read_lookup pm_read_lookup ct_read_lookup : Value} {cd_read_lookup : Value} {od_read_lookup an_read_lookup : Option Addr} {sl_read_lookup : Array (Option Value)} (a_read_lookup : PySem.W.nsIn K mainGlobals "read_lookup" = some (some (.ref f_read_lookup)))
    (l_read_lookup : K.lookup f_read_lookup = some ⟨oc_read_lookup, od_read_lookup, .func (PySem.W.fnOf "read_lookup" "read_lookup" (defArgs s_read_lookup) (defBody s_read_lookup) (defScope s_read_lookup) .none kV_read_lookup doc_read_lookup pm_read_lookup an_read_lookup cd_read_lookup ct_read_lookup), sl_read_lookup⟩)
    (c_read_lookup : PySem.W.codeIn K cd_read_lookup "read_lookup" = true) (k_read_lookup : PySem.W.keepIn K (.ref f_read_lookup) = true)
    {f_read_mend : Addr} {oc_read_mend kV_read_mend doc_read_mend pm_read_mend ct_read_mend : Value} {cd_read_mend : Value} {od_read_mend an_read_mend : Option Addr} {sl_read_mend : Array (Option Value)} (a_read_mend : PySem.W.nsIn K mainGlobals "read_mend" = some (some (.ref f_read_mend)))
    (l_read_mend : K.lookup f_read_mend = some ⟨oc_read_mend, od_read_mend, .func (PySem.W.fnOf "read_mend" "read_mend" (defArgs s_read_mend) (defBody s_read_mend) (defScope s_read_mend) .none kV_read_mend doc_read_mend pm_read_mend an_read_mend cd_read_mend ct_read_mend), sl_read_mend⟩)
    (c_read_mend : PySem.W.codeIn K cd_read_mend "read_mend" = true) (k_read_mend : PySem.W.keepIn K (.ref f_read_mend) = true)
    {f_read_rule : Addr} {oc_read_rule kV_read_rule doc_read_rule pm_read_rule ct_read_rule : Value} {cd_read_rule : Value} {od_read_rule an_read_rule : Option Addr} {sl_read_rule : Array (Option Value)} (a_read_rule : PySem.W.nsIn K mainGlobals "read_rule" = some (some (.ref f_read_rule)))
    (l_read_rule : K.lookup f_read_rule = some ⟨oc_read_rule, od_read_rule, .func (PySem.W.fnOf "read_rule" "read_rule" (defArgs s_read_rule) (defBody s_read_rule) (defScope s_read_rule) .none kV_read_rule doc_read_rule pm_read_rule an_read_rule cd_read_rule ct_read_rule), sl_read_rule⟩)
    (c_read_rule : PySem.W.codeIn K cd_read_rule "read_rule" = true) (k_read_rule : PySem.W.keepIn K (.ref f_read_rule) = true)
    {f_law_cell : Addr} {oc_law_cell kV_law_cell doc_law_cell pm_law_cell ct_law_cell : Value} {cd_law_cell : Value} {od_law_cell an_law_cell : Option Addr} {sl_law_cell : Array (Option Value)} (a_law_cell : PySem.W.nsIn K mainGlobals "_law_cell" = some (some (.ref f_law_cell)))
    (l_law_cell : K.lookup f_law_cell = some ⟨oc_law_cell, od_law_cell, .func (PySem.W.fnOf "_law_cell" "_law_cell" (defArgs s_law_cell) (defBody s_law_cell) (defScope s_law_cell) .none kV_law_cell doc_law_cell pm_law_cell an_law_cell cd_law_cell ct_law_cell), sl_law_cell⟩)
    (c_law_cell : PySem.W.codeIn K cd_law_cell "_law_cell" = true) (k_law_cell : PySem.W.keepIn K (.ref f_law_cell) = true)
    {f_law_number : Addr} {oc_law_number kV_law_number doc_law_number pm_law_number ct_law_number : Value} {cd_law_number : Value} {od_law_number an_law_number : Option Addr} {sl_law_number : Array (Option Value)} (a_law_number : PySem.W.nsIn K mainGlobals "_law_number" = some (some (.ref f_law_number)))
    (l_law_number : K.lookup f_law_number = some ⟨oc_law_number, od_law_number, .func (PySem.W.fnOf "_law_number" "_law_number" (defArgs s_law_number) (defBody s_law_number) (defScope s_law_number) .none kV_law_number doc_law_number pm_law_number an_law_number cd_law_number ct_law_number), sl_law_number⟩)
    (c_law_number : PySem.W.codeIn K cd_law_number "_law_number" = true) (k_law_number : PySem.W.keepIn K (.ref f_law_number) = true)
    {f_law_words : Addr} {oc_law_words kV_law_words doc_law_words pm_law_words ct_law_words : Value} {cd_law_words : Value} {od_law_words an_law_words : Option Addr} {sl_law_words : Array (Option Value)} (a_law_words : PySem.W.nsIn K mainGlobals "_law_words" = some (some (.ref f_law_words)))
    (l_law_words : K.lookup f_law_words = some ⟨oc_law_words, od_law_words, .func (PySem.W.fnOf "_law_words" "_law_words" (defArgs s_law_words) (defBody s_law_words) (defScope s_law_words) .none kV_law_words doc_law_words pm_law_words an_law_words cd_law_words ct_law_words), sl_law_words⟩)
    (c_law_words : PySem.W.codeIn K cd_law_words "_law_words" = true) (k_law_words : PySem.W.keepIn K (.ref f_law_words) = true)
    {f_law_signed : Addr} {oc_law_signed kV_law_signed doc_law_signed pm_law_signed ct_law_signed : Value} {cd_law_signed : Value} {od_law_signed an_law_signed : Option Addr} {sl_law_signed : Array (Option Value)} (a_law_signed : PySem.W.nsIn K mainGlobals "_law_signed" = some (some (.ref f_law_signed)))
    (l_law_signed : K.lookup f_law_signed = some ⟨oc_law_signed, od_law_signed, .func (PySem.W.fnOf "_law_signed" "_law_signed" (defArgs s_law_signed) (defBody s_law_signed) (defScope s_law_signed) .none kV_law_signed doc_law_signed pm_law_signed an_law_signed cd_law_signed ct_law_signed), sl_law_signed⟩)
    (c_law_signed : PySem.W.codeIn K cd_law_signed "_law_signed" = true) (k_law_signed : PySem.W.keepIn K (.ref f_law_signed) = true)
    {f_law_due : Addr} {oc_law_due kV_law_due doc_law_due pm_law_due ct_law_due : Value} {cd_law_due : Value} {od_law_due an_law_due : Option Addr} {sl_law_due : Array (Option Value)} (a_law_due : PySem.W.nsIn K mainGlobals "_law_due" = some (some (.ref f_law_due)))
    (l_law_due : K.lookup f_law_due = some ⟨oc_law_due, od_law_due, .func (PySem.W.fnOf "_law_due" "_law_due" (defArgs s_law_due) (defBody s_law_due) (defScope s_law_due) .none kV_law_due doc_law_due pm_law_due an_law_due cd_law_due ct_law_due), sl_law_due⟩)
    (c_law_due : PySem.W.codeIn K cd_law_due "_law_due" = true) (k_law_due : PySem.W.keepIn K (.ref f_law_due) = true)
    {f_law_once : Addr} {oc_law_once kV_law_once doc_law_once pm_law_once ct_law_once : Value} {cd_law_once : Value} {od_law_once an_law_once : Option Addr} {sl_law_once : Array (Option Value)} (a_law_once : PySem.W.nsIn K mainGlobals "_law_once" = some (some (.ref f_law_once)))
    (l_law_once : K.lookup f_law_once = some ⟨oc_law_once, od_law_once, .func (PySem.W.fnOf "_law_once" "_law_once" (defArgs s_law_once) (defBody s_law_once) (defScope s_law_once) .none kV_law_once doc_law_once pm_law_once an_law_once cd_law_once ct_law_once), sl_law_once⟩)
    (c_law_once : PySem.W.codeIn K cd_law_once "_law_once" = true) (k_law_once : PySem.W.keepIn K (.ref f_law_once) = true)
    {f_law : Addr} {oc_law kV_law doc_law pm_law ct_law : Value} {cc_law : Addr} {od_law an_law : Option Addr} {sl_law : Array (Option Value)} (a_law : PySem.W.nsIn K mainGlobals "law" = some (some (.ref f_law)))
    (l_law : K.lookup f_law = some ⟨oc_law, od_law, .func (PySem.W.fnOf "law" "law" (defArgs s_law) (defBody s_law) (defScope s_law) .none kV_law doc_law pm_law an_law (.ref cc_law) ct_law), sl_law⟩)
    (c_law : PySem.W.codeIn K (.ref cc_law) "law" = true) (k_law : PySem.W.keepIn K (.ref f_law) = true)
    {wo_law : Value} {wd_law : Option Addr} {wv_law : Array Value} {ws_law : Array (Option Value)} {p_law : Addr} (w_law : K.lookup cc_law = some ⟨wo_law, wd_law, .fields wv_law, ws_law⟩) (t_law : wv_law[11]? = some (.ref p_law))
    (ne_function_of_law : p_function_of ≠ p_law)
    (notabs : PySem.W.noTabs K = true)
    {p_OF_GROUPS : Addr} {es_OF_GROUPS : Array DictEntry} {en_OF_GROUPS : Nat} (i_OF_GROUPS : PySem.W.nsIn K mainGlobals "OF_GROUPS" = some (some (.ref p_OF_GROUPS))) (j_OF_GROUPS : K.lookup p_OF_GROUPS = some ⟨.type "dict", none, .dict es_OF_GROUPS en_OF_GROUPS, #[]⟩) (dk_OF_GROUPS : PySem.W.KeysLit PP es_OF_GROUPS.toList) (lo_OF_GROUPS : (p_OF_GROUPS == sysModules) = false)
    (dv_OF_GROUPS_sum : PySem.W.nsIn K p_OF_GROUPS "sum" = some (some (.ref f_sum_of)))
    (dv_OF_GROUPS_most : PySem.W.nsIn K p_OF_GROUPS "most" = some (some (.ref f_most_of)))
    (dv_OF_GROUPS_least : PySem.W.nsIn K p_OF_GROUPS "least" = some (some (.ref f_least_of)))
    (dv_OF_GROUPS_many : PySem.W.nsIn K p_OF_GROUPS "many" = some (some (.ref f_how_many)))
    {p_KINDS : Addr} {es_KINDS : Array DictEntry} {en_KINDS : Nat} (i_KINDS : PySem.W.nsIn K mainGlobals "KINDS" = some (some (.ref p_KINDS))) (j_KINDS : K.lookup p_KINDS = some ⟨.type "dict", none, .dict es_KINDS en_KINDS, #[]⟩) (dk_KINDS : PySem.W.KeysLit PP es_KINDS.toList) (lo_KINDS : (p_KINDS == sysModules) = false)
    (dv_KINDS_cells : PySem.W.nsIn K p_KINDS "cells" = some (some (.ref f_read_cells)))
    (dv_KINDS_above : PySem.W.nsIn K p_KINDS "above" = some (some (.ref f_read_above)))
    (dv_KINDS_group : PySem.W.nsIn K p_KINDS "group" = some (some (.ref f_read_group)))
    (dv_KINDS_lookup : PySem.W.nsIn K p_KINDS "lookup" = some (some (.ref f_read_lookup)))
    (dv_KINDS_mend : PySem.W.nsIn K p_KINDS "mend" = some (some (.ref f_read_mend)))
    {C_Rule : Addr} (a_Rule : PySem.W.nsIn K mainGlobals "Rule" = some (some (.ref C_Rule)))
    (pg_Rule : PySem.W.plainGet K C_Rule Str.empty = true) (hd_Rule : PySem.W.hasDictIn K C_Rule = true) (po_Rule : PySem.W.plainOver K C_Rule = true) (sa_Rule : PySem.W.findIn K (.ref C_Rule) "__setattr__" = some (some (.builtin "object.__setattr__"))) (mk_Rule : PySem.W.makesIn K C_Rule = true) (kc_Rule : PySem.W.keepIn K (.ref C_Rule) = true) (hc_Rule : PySem.W.findIn K (.ref C_Rule) "__class__" = some (some (.builtin "object.__class__")))
    (na_Rule_function : PySem.W.findIn K (.ref C_Rule) "function" = some none)
    {f_Rule_init : Addr} {oc_Rule_init kV_Rule_init doc_Rule_init pm_Rule_init cd_Rule_init ct_Rule_init : Value} {od_Rule_init an_Rule_init : Option Addr} {sl_Rule_init : Array (Option Value)} (a_Rule_init : PySem.W.findIn K (.ref C_Rule) "__init__" = some (some (.ref f_Rule_init))) (j_Rule_init : PySem.W.isFn K (.ref f_Rule_init) = true)
    (l_Rule_init : K.lookup f_Rule_init = some ⟨oc_Rule_init, od_Rule_init, .func (PySem.W.fnOf "__init__" "Rule.__init__" (defArgs s_Rule_init) (defBody s_Rule_init) (defScope s_Rule_init) .none kV_Rule_init doc_Rule_init pm_Rule_init an_Rule_init cd_Rule_init ct_Rule_init), sl_Rule_init⟩)
    (c_Rule_init : PySem.W.codeIn K cd_Rule_init "Rule.__init__" = true) (k_Rule_init : PySem.W.keepIn K (.ref f_Rule_init) = true)
    (vg_Rule_init : PySem.W.specialIn K (.ref C_Rule) "__getattribute__" = some (some (.builtin "type.__getattribute__"))) (vr_Rule_init : PySem.W.readsIn K C_Rule (.type "type") = true) (vf_Rule_init : PySem.W.findCls K (.ref C_Rule) (.type "type") "__init__" = some (.val (.ref f_Rule_init)))
    {f_Rule_reckon : Addr} {oc_Rule_reckon kV_Rule_reckon doc_Rule_reckon pm_Rule_reckon cd_Rule_reckon ct_Rule_reckon : Value} {od_Rule_reckon an_Rule_reckon : Option Addr} {sl_Rule_reckon : Array (Option Value)} (a_Rule_reckon : PySem.W.findIn K (.ref C_Rule) "reckon" = some (some (.ref f_Rule_reckon))) (j_Rule_reckon : PySem.W.isFn K (.ref f_Rule_reckon) = true)
    (l_Rule_reckon : K.lookup f_Rule_reckon = some ⟨oc_Rule_reckon, od_Rule_reckon, .func (PySem.W.fnOf "reckon" "Rule.reckon" (defArgs s_Rule_reckon) (defBody s_Rule_reckon) (defScope s_Rule_reckon) .none kV_Rule_reckon doc_Rule_reckon pm_Rule_reckon an_Rule_reckon cd_Rule_reckon ct_Rule_reckon), sl_Rule_reckon⟩)
    (c_Rule_reckon : PySem.W.codeIn K cd_Rule_reckon "Rule.reckon" = true) (k_Rule_reckon : PySem.W.keepIn K (.ref f_Rule_reckon) = true)
    (ow4 : PySem.W.specialIn K (.builtin "object.__class__") "__get__" = some (some (.builtin "getset_descriptor.__get__"))) (ow5 : PySem.W.takesIn K (.builtin "object.__class__") = some true)
    (mo_Rule : PySem.W.mroIn K C_Rule (.type "object") = some true)
    {C_Cells : Addr} (a_Cells : PySem.W.nsIn K mainGlobals "Cells" = some (some (.ref C_Cells)))
    (pg_Cells : PySem.W.plainGet K C_Cells Str.empty = true) (hd_Cells : PySem.W.hasDictIn K C_Cells = true) (po_Cells : PySem.W.plainOver K C_Cells = true) (sa_Cells : PySem.W.findIn K (.ref C_Cells) "__setattr__" = some (some (.builtin "object.__setattr__"))) (mk_Cells : PySem.W.makesIn K C_Cells = true) (kc_Cells : PySem.W.keepIn K (.ref C_Cells) = true) (hc_Cells : PySem.W.findIn K (.ref C_Cells) "__class__" = some (some (.builtin "object.__class__")))
    (na_Cells_function : PySem.W.findIn K (.ref C_Cells) "function" = some none)
    (na_Cells_names : PySem.W.findIn K (.ref C_Cells) "names" = some none)
    {f_Cells_init : Addr} {oc_Cells_init kV_Cells_init doc_Cells_init pm_Cells_init cd_Cells_init ct_Cells_init : Value} {od_Cells_init an_Cells_init : Option Addr} {sl_Cells_init : Array (Option Value)} (a_Cells_init : PySem.W.findIn K (.ref C_Cells) "__init__" = some (some (.ref f_Cells_init))) (j_Cells_init : PySem.W.isFn K (.ref f_Cells_init) = true)
    (l_Cells_init : K.lookup f_Cells_init = some ⟨oc_Cells_init, od_Cells_init, .func (PySem.W.fnOf "__init__" "Cells.__init__" (defArgs s_Cells_init) (defBody s_Cells_init) (defScope s_Cells_init) .none kV_Cells_init doc_Cells_init pm_Cells_init an_Cells_init cd_Cells_init ct_Cells_init), sl_Cells_init⟩)
    (c_Cells_init : PySem.W.codeIn K cd_Cells_init "Cells.__init__" = true) (k_Cells_init : PySem.W.keepIn K (.ref f_Cells_init) = true)
    {f_Cells_leans : Addr} {oc_Cells_leans kV_Cells_leans doc_Cells_leans pm_Cells_leans cd_Cells_leans ct_Cells_leans : Value} {od_Cells_leans an_Cells_leans : Option Addr} {sl_Cells_leans : Array (Option Value)} (a_Cells_leans : PySem.W.findIn K (.ref C_Cells) "leans" = some (some (.ref f_Cells_leans))) (j_Cells_leans : PySem.W.isFn K (.ref f_Cells_leans) = true)
    (l_Cells_leans : K.lookup f_Cells_leans = some ⟨oc_Cells_leans, od_Cells_leans, .func (PySem.W.fnOf "leans" "Cells.leans" (defArgs s_Cells_leans) (defBody s_Cells_leans) (defScope s_Cells_leans) .none kV_Cells_leans doc_Cells_leans pm_Cells_leans an_Cells_leans cd_Cells_leans ct_Cells_leans), sl_Cells_leans⟩)
    (c_Cells_leans : PySem.W.codeIn K cd_Cells_leans "Cells.leans" = true) (k_Cells_leans : PySem.W.keepIn K (.ref f_Cells_leans) = true)
    {f_Cells_gather : Addr} {oc_Cells_gather kV_Cells_gather doc_Cells_gather pm_Cells_gather cd_Cells_gather ct_Cells_gather : Value} {od_Cells_gather an_Cells_gather : Option Addr} {sl_Cells_gather : Array (Option Value)} (a_Cells_gather : PySem.W.findIn K (.ref C_Cells) "gather" = some (some (.ref f_Cells_gather))) (j_Cells_gather : PySem.W.isFn K (.ref f_Cells_gather) = true)
    (l_Cells_gather : K.lookup f_Cells_gather = some ⟨oc_Cells_gather, od_Cells_gather, .func (PySem.W.fnOf "gather" "Cells.gather" (defArgs s_Cells_gather) (defBody s_Cells_gather) (defScope s_Cells_gather) .none kV_Cells_gather doc_Cells_gather pm_Cells_gather an_Cells_gather cd_Cells_gather ct_Cells_gather), sl_Cells_gather⟩)
    (c_Cells_gather : PySem.W.codeIn K cd_Cells_gather "Cells.gather" = true) (k_Cells_gather : PySem.W.keepIn K (.ref f_Cells_gather) = true)
    (ai_Cells_Rule_reckon : PySem.W.findIn K (.ref C_Cells) "reckon" = some (some (.ref f_Rule_reckon)))
    (mo_Cells : PySem.W.mroIn K C_Cells (.type "object") = some true)
    {C_Above : Addr} (a_Above : PySem.W.nsIn K mainGlobals "Above" = some (some (.ref C_Above)))
    (pg_Above : PySem.W.plainGet K C_Above Str.empty = true) (hd_Above : PySem.W.hasDictIn K C_Above = true) (po_Above : PySem.W.plainOver K C_Above = true) (sa_Above : PySem.W.findIn K (.ref C_Above) "__setattr__" = some (some (.builtin "object.__setattr__"))) (mk_Above : PySem.W.makesIn K C_Above = true) (kc_Above : PySem.W.keepIn K (.ref C_Above) = true) (hc_Above : PySem.W.findIn K (.ref C_Above) "__class__" = some (some (.builtin "object.__class__")))
    (na_Above_function : PySem.W.findIn K (.ref C_Above) "function" = some none)
    (na_Above_names : PySem.W.findIn K (.ref C_Above) "names" = some none)
    (na_Above_first : PySem.W.findIn K (.ref C_Above) "first" = some none)
    {f_Above_init : Addr} {oc_Above_init kV_Above_init doc_Above_init pm_Above_init cd_Above_init ct_Above_init : Value} {od_Above_init an_Above_init : Option Addr} {sl_Above_init : Array (Option Value)} (a_Above_init : PySem.W.findIn K (.ref C_Above) "__init__" = some (some (.ref f_Above_init))) (j_Above_init : PySem.W.isFn K (.ref f_Above_init) = true)
    (l_Above_init : K.lookup f_Above_init = some ⟨oc_Above_init, od_Above_init, .func (PySem.W.fnOf "__init__" "Above.__init__" (defArgs s_Above_init) (defBody s_Above_init) (defScope s_Above_init) .none kV_Above_init doc_Above_init pm_Above_init an_Above_init cd_Above_init ct_Above_init), sl_Above_init⟩)
    (c_Above_init : PySem.W.codeIn K cd_Above_init "Above.__init__" = true) (k_Above_init : PySem.W.keepIn K (.ref f_Above_init) = true)
    {f_Above_leans : Addr} {oc_Above_leans kV_Above_leans doc_Above_leans pm_Above_leans cd_Above_leans ct_Above_leans : Value} {od_Above_leans an_Above_leans : Option Addr} {sl_Above_leans : Array (Option Value)} (a_Above_leans : PySem.W.findIn K (.ref C_Above) "leans" = some (some (.ref f_Above_leans))) (j_Above_leans : PySem.W.isFn K (.ref f_Above_leans) = true)
    (l_Above_leans : K.lookup f_Above_leans = some ⟨oc_Above_leans, od_Above_leans, .func (PySem.W.fnOf "leans" "Above.leans" (defArgs s_Above_leans) (defBody s_Above_leans) (defScope s_Above_leans) .none kV_Above_leans doc_Above_leans pm_Above_leans an_Above_leans cd_Above_leans ct_Above_leans), sl_Above_leans⟩)
    (c_Above_leans : PySem.W.codeIn K cd_Above_leans "Above.leans" = true) (k_Above_leans : PySem.W.keepIn K (.ref f_Above_leans) = true)
    {f_Above_gather : Addr} {oc_Above_gather kV_Above_gather doc_Above_gather pm_Above_gather cd_Above_gather ct_Above_gather : Value} {od_Above_gather an_Above_gather : Option Addr} {sl_Above_gather : Array (Option Value)} (a_Above_gather : PySem.W.findIn K (.ref C_Above) "gather" = some (some (.ref f_Above_gather))) (j_Above_gather : PySem.W.isFn K (.ref f_Above_gather) = true)
    (l_Above_gather : K.lookup f_Above_gather = some ⟨oc_Above_gather, od_Above_gather, .func (PySem.W.fnOf "gather" "Above.gather" (defArgs s_Above_gather) (defBody s_Above_gather) (defScope s_Above_gather) .none kV_Above_gather doc_Above_gather pm_Above_gather an_Above_gather cd_Above_gather ct_Above_gather), sl_Above_gather⟩)
    (c_Above_gather : PySem.W.codeIn K cd_Above_gather "Above.gather" = true) (k_Above_gather : PySem.W.keepIn K (.ref f_Above_gather) = true)
    (ai_Above_Rule_reckon : PySem.W.findIn K (.ref C_Above) "reckon" = some (some (.ref f_Rule_reckon)))
    (mo_Above : PySem.W.mroIn K C_Above (.type "object") = some true)
    {C_Group : Addr} (a_Group : PySem.W.nsIn K mainGlobals "Group" = some (some (.ref C_Group)))
    (pg_Group : PySem.W.plainGet K C_Group Str.empty = true) (hd_Group : PySem.W.hasDictIn K C_Group = true) (po_Group : PySem.W.plainOver K C_Group = true) (sa_Group : PySem.W.findIn K (.ref C_Group) "__setattr__" = some (some (.builtin "object.__setattr__"))) (mk_Group : PySem.W.makesIn K C_Group = true) (kc_Group : PySem.W.keepIn K (.ref C_Group) = true) (hc_Group : PySem.W.findIn K (.ref C_Group) "__class__" = some (some (.builtin "object.__class__")))
    (na_Group_function : PySem.W.findIn K (.ref C_Group) "function" = some none)
    (na_Group_key : PySem.W.findIn K (.ref C_Group) "key" = some none)
    (na_Group_name : PySem.W.findIn K (.ref C_Group) "name" = some none)
    {f_Group_init : Addr} {oc_Group_init kV_Group_init doc_Group_init pm_Group_init cd_Group_init ct_Group_init : Value} {od_Group_init an_Group_init : Option Addr} {sl_Group_init : Array (Option Value)} (a_Group_init : PySem.W.findIn K (.ref C_Group) "__init__" = some (some (.ref f_Group_init))) (j_Group_init : PySem.W.isFn K (.ref f_Group_init) = true)
    (l_Group_init : K.lookup f_Group_init = some ⟨oc_Group_init, od_Group_init, .func (PySem.W.fnOf "__init__" "Group.__init__" (defArgs s_Group_init) (defBody s_Group_init) (defScope s_Group_init) .none kV_Group_init doc_Group_init pm_Group_init an_Group_init cd_Group_init ct_Group_init), sl_Group_init⟩)
    (c_Group_init : PySem.W.codeIn K cd_Group_init "Group.__init__" = true) (k_Group_init : PySem.W.keepIn K (.ref f_Group_init) = true)
    {f_Group_leans : Addr} {oc_Group_leans kV_Group_leans doc_Group_leans pm_Group_leans cd_Group_leans ct_Group_leans : Value} {od_Group_leans an_Group_leans : Option Addr} {sl_Group_leans : Array (Option Value)} (a_Group_leans : PySem.W.findIn K (.ref C_Group) "leans" = some (some (.ref f_Group_leans))) (j_Group_leans : PySem.W.isFn K (.ref f_Group_leans) = true)
    (l_Group_leans : K.lookup f_Group_leans = some ⟨oc_Group_leans, od_Group_leans, .func (PySem.W.fnOf "leans" "Group.leans" (defArgs s_Group_leans) (defBody s_Group_leans) (defScope s_Group_leans) .none kV_Group_leans doc_Group_leans pm_Group_leans an_Group_leans cd_Group_leans ct_Group_leans), sl_Group_leans⟩)
    (c_Group_leans : PySem.W.codeIn K cd_Group_leans "Group.leans" = true) (k_Group_leans : PySem.W.keepIn K (.ref f_Group_leans) = true)
    {f_Group_gather : Addr} {oc_Group_gather kV_Group_gather doc_Group_gather pm_Group_gather cd_Group_gather ct_Group_gather : Value} {od_Group_gather an_Group_gather : Option Addr} {sl_Group_gather : Array (Option Value)} (a_Group_gather : PySem.W.findIn K (.ref C_Group) "gather" = some (some (.ref f_Group_gather))) (j_Group_gather : PySem.W.isFn K (.ref f_Group_gather) = true)
    (l_Group_gather : K.lookup f_Group_gather = some ⟨oc_Group_gather, od_Group_gather, .func (PySem.W.fnOf "gather" "Group.gather" (defArgs s_Group_gather) (defBody s_Group_gather) (defScope s_Group_gather) .none kV_Group_gather doc_Group_gather pm_Group_gather an_Group_gather cd_Group_gather ct_Group_gather), sl_Group_gather⟩)
    (c_Group_gather : PySem.W.codeIn K cd_Group_gather "Group.gather" = true) (k_Group_gather : PySem.W.keepIn K (.ref f_Group_gather) = true)
    (ai_Group_Rule_reckon : PySem.W.findIn K (.ref C_Group) "reckon" = some (some (.ref f_Rule_reckon)))
    (mo_Group : PySem.W.mroIn K C_Group (.type "object") = some true)
    {C_Lookup : Addr} (a_Lookup : PySem.W.nsIn K mainGlobals "Lookup" = some (some (.ref C_Lookup)))
    (pg_Lookup : PySem.W.plainGet K C_Lookup Str.empty = true) (hd_Lookup : PySem.W.hasDictIn K C_Lookup = true) (po_Lookup : PySem.W.plainOver K C_Lookup = true) (sa_Lookup : PySem.W.findIn K (.ref C_Lookup) "__setattr__" = some (some (.builtin "object.__setattr__"))) (mk_Lookup : PySem.W.makesIn K C_Lookup = true) (kc_Lookup : PySem.W.keepIn K (.ref C_Lookup) = true) (hc_Lookup : PySem.W.findIn K (.ref C_Lookup) "__class__" = some (some (.builtin "object.__class__")))
    (na_Lookup_function : PySem.W.findIn K (.ref C_Lookup) "function" = some none)
    (na_Lookup_key : PySem.W.findIn K (.ref C_Lookup) "key" = some none)
    (na_Lookup_other : PySem.W.findIn K (.ref C_Lookup) "other" = some none)
    (na_Lookup_theirs : PySem.W.findIn K (.ref C_Lookup) "theirs" = some none)
    (na_Lookup_names : PySem.W.findIn K (.ref C_Lookup) "names" = some none)
    {f_Lookup_init : Addr} {oc_Lookup_init kV_Lookup_init doc_Lookup_init pm_Lookup_init cd_Lookup_init ct_Lookup_init : Value} {od_Lookup_init an_Lookup_init : Option Addr} {sl_Lookup_init : Array (Option Value)} (a_Lookup_init : PySem.W.findIn K (.ref C_Lookup) "__init__" = some (some (.ref f_Lookup_init))) (j_Lookup_init : PySem.W.isFn K (.ref f_Lookup_init) = true)
    (l_Lookup_init : K.lookup f_Lookup_init = some ⟨oc_Lookup_init, od_Lookup_init, .func (PySem.W.fnOf "__init__" "Lookup.__init__" (defArgs s_Lookup_init) (defBody s_Lookup_init) (defScope s_Lookup_init) .none kV_Lookup_init doc_Lookup_init pm_Lookup_init an_Lookup_init cd_Lookup_init ct_Lookup_init), sl_Lookup_init⟩)
    (c_Lookup_init : PySem.W.codeIn K cd_Lookup_init "Lookup.__init__" = true) (k_Lookup_init : PySem.W.keepIn K (.ref f_Lookup_init) = true)
    {f_Lookup_leans : Addr} {oc_Lookup_leans kV_Lookup_leans doc_Lookup_leans pm_Lookup_leans cd_Lookup_leans ct_Lookup_leans : Value} {od_Lookup_leans an_Lookup_leans : Option Addr} {sl_Lookup_leans : Array (Option Value)} (a_Lookup_leans : PySem.W.findIn K (.ref C_Lookup) "leans" = some (some (.ref f_Lookup_leans))) (j_Lookup_leans : PySem.W.isFn K (.ref f_Lookup_leans) = true)
    (l_Lookup_leans : K.lookup f_Lookup_leans = some ⟨oc_Lookup_leans, od_Lookup_leans, .func (PySem.W.fnOf "leans" "Lookup.leans" (defArgs s_Lookup_leans) (defBody s_Lookup_leans) (defScope s_Lookup_leans) .none kV_Lookup_leans doc_Lookup_leans pm_Lookup_leans an_Lookup_leans cd_Lookup_leans ct_Lookup_leans), sl_Lookup_leans⟩)
    (c_Lookup_leans : PySem.W.codeIn K cd_Lookup_leans "Lookup.leans" = true) (k_Lookup_leans : PySem.W.keepIn K (.ref f_Lookup_leans) = true)
    {f_Lookup_gather : Addr} {oc_Lookup_gather kV_Lookup_gather doc_Lookup_gather pm_Lookup_gather cd_Lookup_gather ct_Lookup_gather : Value} {od_Lookup_gather an_Lookup_gather : Option Addr} {sl_Lookup_gather : Array (Option Value)} (a_Lookup_gather : PySem.W.findIn K (.ref C_Lookup) "gather" = some (some (.ref f_Lookup_gather))) (j_Lookup_gather : PySem.W.isFn K (.ref f_Lookup_gather) = true)
    (l_Lookup_gather : K.lookup f_Lookup_gather = some ⟨oc_Lookup_gather, od_Lookup_gather, .func (PySem.W.fnOf "gather" "Lookup.gather" (defArgs s_Lookup_gather) (defBody s_Lookup_gather) (defScope s_Lookup_gather) .none kV_Lookup_gather doc_Lookup_gather pm_Lookup_gather an_Lookup_gather cd_Lookup_gather ct_Lookup_gather), sl_Lookup_gather⟩)
    (c_Lookup_gather : PySem.W.codeIn K cd_Lookup_gather "Lookup.gather" = true) (k_Lookup_gather : PySem.W.keepIn K (.ref f_Lookup_gather) = true)
    (ai_Lookup_Rule_reckon : PySem.W.findIn K (.ref C_Lookup) "reckon" = some (some (.ref f_Rule_reckon)))
    (mo_Lookup : PySem.W.mroIn K C_Lookup (.type "object") = some true)
    {C_Mend : Addr} (a_Mend : PySem.W.nsIn K mainGlobals "Mend" = some (some (.ref C_Mend)))
    (pg_Mend : PySem.W.plainGet K C_Mend Str.empty = true) (hd_Mend : PySem.W.hasDictIn K C_Mend = true) (po_Mend : PySem.W.plainOver K C_Mend = true) (sa_Mend : PySem.W.findIn K (.ref C_Mend) "__setattr__" = some (some (.builtin "object.__setattr__"))) (mk_Mend : PySem.W.makesIn K C_Mend = true) (kc_Mend : PySem.W.keepIn K (.ref C_Mend) = true) (hc_Mend : PySem.W.findIn K (.ref C_Mend) "__class__" = some (some (.builtin "object.__class__")))
    (na_Mend_function : PySem.W.findIn K (.ref C_Mend) "function" = some none)
    (na_Mend_name : PySem.W.findIn K (.ref C_Mend) "name" = some none)
    {f_Mend_init : Addr} {oc_Mend_init kV_Mend_init doc_Mend_init pm_Mend_init cd_Mend_init ct_Mend_init : Value} {od_Mend_init an_Mend_init : Option Addr} {sl_Mend_init : Array (Option Value)} (a_Mend_init : PySem.W.findIn K (.ref C_Mend) "__init__" = some (some (.ref f_Mend_init))) (j_Mend_init : PySem.W.isFn K (.ref f_Mend_init) = true)
    (l_Mend_init : K.lookup f_Mend_init = some ⟨oc_Mend_init, od_Mend_init, .func (PySem.W.fnOf "__init__" "Mend.__init__" (defArgs s_Mend_init) (defBody s_Mend_init) (defScope s_Mend_init) .none kV_Mend_init doc_Mend_init pm_Mend_init an_Mend_init cd_Mend_init ct_Mend_init), sl_Mend_init⟩)
    (c_Mend_init : PySem.W.codeIn K cd_Mend_init "Mend.__init__" = true) (k_Mend_init : PySem.W.keepIn K (.ref f_Mend_init) = true)
    {f_Mend_leans : Addr} {oc_Mend_leans kV_Mend_leans doc_Mend_leans pm_Mend_leans cd_Mend_leans ct_Mend_leans : Value} {od_Mend_leans an_Mend_leans : Option Addr} {sl_Mend_leans : Array (Option Value)} (a_Mend_leans : PySem.W.findIn K (.ref C_Mend) "leans" = some (some (.ref f_Mend_leans))) (j_Mend_leans : PySem.W.isFn K (.ref f_Mend_leans) = true)
    (l_Mend_leans : K.lookup f_Mend_leans = some ⟨oc_Mend_leans, od_Mend_leans, .func (PySem.W.fnOf "leans" "Mend.leans" (defArgs s_Mend_leans) (defBody s_Mend_leans) (defScope s_Mend_leans) .none kV_Mend_leans doc_Mend_leans pm_Mend_leans an_Mend_leans cd_Mend_leans ct_Mend_leans), sl_Mend_leans⟩)
    (c_Mend_leans : PySem.W.codeIn K cd_Mend_leans "Mend.leans" = true) (k_Mend_leans : PySem.W.keepIn K (.ref f_Mend_leans) = true)
    {f_Mend_gather : Addr} {oc_Mend_gather kV_Mend_gather doc_Mend_gather pm_Mend_gather cd_Mend_gather ct_Mend_gather : Value} {od_Mend_gather an_Mend_gather : Option Addr} {sl_Mend_gather : Array (Option Value)} (a_Mend_gather : PySem.W.findIn K (.ref C_Mend) "gather" = some (some (.ref f_Mend_gather))) (j_Mend_gather : PySem.W.isFn K (.ref f_Mend_gather) = true)
    (l_Mend_gather : K.lookup f_Mend_gather = some ⟨oc_Mend_gather, od_Mend_gather, .func (PySem.W.fnOf "gather" "Mend.gather" (defArgs s_Mend_gather) (defBody s_Mend_gather) (defScope s_Mend_gather) .none kV_Mend_gather doc_Mend_gather pm_Mend_gather an_Mend_gather cd_Mend_gather ct_Mend_gather), sl_Mend_gather⟩)
    (c_Mend_gather : PySem.W.codeIn K cd_Mend_gather "Mend.gather" = true) (k_Mend_gather : PySem.W.keepIn K (.ref f_Mend_gather) = true)
    (ai_Mend_Rule_reckon : PySem.W.findIn K (.ref C_Mend) "reckon" = some (some (.ref f_Rule_reckon)))
    (mo_Mend : PySem.W.mroIn K C_Mend (.type "object") = some true)
    (si_Rule_Above : PySem.W.kitOne K (.ref C_Rule) (.ref C_Above) = some false)
    (si_Cells_Above : PySem.W.kitOne K (.ref C_Cells) (.ref C_Above) = some false)
    (si_Above_Above : PySem.W.kitOne K (.ref C_Above) (.ref C_Above) = some true)
    (si_Group_Above : PySem.W.kitOne K (.ref C_Group) (.ref C_Above) = some false)
    (si_Lookup_Above : PySem.W.kitOne K (.ref C_Lookup) (.ref C_Above) = some false)
    (si_Mend_Above : PySem.W.kitOne K (.ref C_Mend) (.ref C_Above) = some false) : Tops K mg ∧ Dcs PP K mg := ⟨{
  len := PySem.W.mg_none_of X G n_len,
  isinstance := PySem.W.mg_none_of X G n_isinstance,
  int := PySem.W.mg_none_of X G n_int,
  bool := PySem.W.mg_none_of X G n_bool,
  str := PySem.W.mg_none_of X G n_str,
  all := PySem.W.mg_none_of X G n_all,
  range := PySem.W.mg_none_of X G n_range,
  abs := PySem.W.mg_none_of X G n_abs,
  list := PySem.W.mg_none_of X G n_list,
  tuple := PySem.W.mg_none_of X G n_tuple,
  dict := PySem.W.mg_none_of X G n_dict,
  max := PySem.W.mg_none_of X G n_max,
  min := PySem.W.mg_none_of X G n_min,
  sum := PySem.W.mg_none_of X G n_sum,
  reversed := PySem.W.mg_none_of X G n_reversed,
  zip := PySem.W.mg_none_of X G n_zip,
  ValueError := PySem.W.mg_none_of X G n_ValueError,
  g_LETTERS := ⟨_, PySem.W.mg_of X G i_LETTERS⟩,
  g_MOST_LETTERS := ⟨_, PySem.W.mg_of X G i_MOST_LETTERS⟩,
  g_ODD := ⟨p_ODD, PySem.W.mg_of X G i_ODD, fun H => .inr ⟨_, _, _, j_ODD, rfl, rfl, sl (by simp), .cons ⟨_, rfl⟩ (.cons ⟨_, rfl⟩ (.nil))⟩⟩,
  g_MOST_NAMES := ⟨_, PySem.W.mg_of X G i_MOST_NAMES⟩,
  g_LACKS := ⟨p_LACKS, PySem.W.mg_of X G i_LACKS, fun H => .inr ⟨_, _, _, j_LACKS, rfl, rfl, sl (by simp), .cons ⟨_, rfl⟩ (.cons ⟨_, rfl⟩ (.nil))⟩⟩,
  g_FIGURES := ⟨_, PySem.W.mg_of X G i_FIGURES⟩,
  g_MOST_FIGURES := ⟨_, PySem.W.mg_of X G i_MOST_FIGURES⟩,
  g_MOST_WORDS := ⟨_, PySem.W.mg_of X G i_MOST_WORDS⟩,
  g_SIGNS := ⟨p_SIGNS, PySem.W.mg_of X G i_SIGNS, fun H => .inr ⟨_, _, _, j_SIGNS, rfl, rfl, sl (by simp), .cons ⟨_, rfl⟩ (.cons ⟨_, rfl⟩ (.cons ⟨_, rfl⟩ (.cons ⟨_, rfl⟩ (.cons ⟨_, rfl⟩ (.cons ⟨_, rfl⟩ (.cons ⟨_, rfl⟩ (.nil)))))))⟩⟩,
  g_NOUGHT := ⟨p_NOUGHT, PySem.W.mg_of X G i_NOUGHT, fun H => .inr ⟨_, _, _, j_NOUGHT, rfl, rfl, sl (by simp), .cons ⟨_, rfl⟩ (.cons ⟨_, rfl⟩ (.nil))⟩⟩,
  g_GREAT := ⟨p_GREAT, PySem.W.mg_of X G i_GREAT, fun H => .inr ⟨_, _, _, j_GREAT, rfl, rfl, sl (by simp), .cons ⟨_, rfl⟩ (.cons ⟨_, rfl⟩ (.nil))⟩⟩,
  g_UP := ⟨_, PySem.W.mg_of X G i_UP⟩,
  d_is_whole := top_def X G a_is_whole l_is_whole c_is_whole k_is_whole,
  d_is_number := top_def X G a_is_number l_is_number c_is_number k_is_number,
  d_is_name := top_def X G a_is_name l_is_name c_is_name k_is_name,
  d_is_fault := top_def X G a_is_fault l_is_fault c_is_fault k_is_fault,
  d_is_value := top_def X G a_is_value l_is_value c_is_value k_is_value,
  d_settled := top_def X G a_settled l_settled c_settled k_settled,
  d_check_name := top_def X G a_check_name l_check_name c_check_name k_check_name,
  d_checked_names := top_def X G a_checked_names l_checked_names c_checked_names k_checked_names,
  d_each_once := top_def X G a_each_once l_each_once c_each_once k_each_once,
  d_look_in_turn := top_def X G a_look_in_turn l_look_in_turn c_look_in_turn k_look_in_turn,
  d_writes_number := top_def X G a_writes_number l_writes_number c_writes_number k_writes_number,
  d_is_reckoning := top_def X G a_is_reckoning l_is_reckoning c_is_reckoning k_is_reckoning,
  d_names_in := top_def X G a_names_in l_names_in c_names_in k_names_in,
  d_bounded := top_def X G a_bounded l_bounded c_bounded k_bounded,
  d_reckoned := top_def X G a_reckoned l_reckoned c_reckoned k_reckoned,
  d_joined := top_def X G a_joined l_joined c_joined k_joined,
  d_number_of := top_def X G a_number_of l_number_of c_number_of k_number_of,
  d_sum_of := top_def X G a_sum_of l_sum_of c_sum_of k_sum_of,
  d_most_of := top_def X G a_most_of l_most_of c_most_of k_most_of,
  d_least_of := top_def X G a_least_of l_least_of c_least_of k_least_of,
  d_how_many := top_def X G a_how_many l_how_many c_how_many k_how_many,
  d_refuse_unless := top_def X G a_refuse_unless l_refuse_unless c_refuse_unless k_refuse_unless,
  d_check_names := top_def X G a_check_names l_check_names c_check_names k_check_names,
  d_columns_in := top_def X G a_columns_in l_columns_in c_columns_in k_columns_in,
  d_function_of := top_def X G a_function_of l_function_of c_function_of k_function_of,
  d_read_cells := top_def X G a_read_cells l_read_cells c_read_cells k_read_cells,
  d_read_above := top_def X G a_read_above l_read_above c_read_above k_read_above,
  d_read_group := top_def X G a_read_group l_read_group c_read_group k_read_group,
  d_read_lookup := top_def X G a_read_lookup l_read_lookup c_read_lookup k_read_lookup,
  d_read_mend := top_def X G a_read_mend l_read_mend c_read_mend k_read_mend,
  d_read_rule := top_def X G a_read_rule l_read_rule c_read_rule k_read_rule,
  d_law_cell := top_def X G a_law_cell l_law_cell c_law_cell k_law_cell,
  d_law_number := top_def X G a_law_number l_law_number c_law_number k_law_number,
  d_law_words := top_def X G a_law_words l_law_words c_law_words k_law_words,
  d_law_signed := top_def X G a_law_signed l_law_signed c_law_signed k_law_signed,
  d_law_due := top_def X G a_law_due l_law_due c_law_due k_law_due,
  d_law_once := top_def X G a_law_once l_law_once c_law_once k_law_once,
  d_law := top_def X G a_law l_law c_law k_law,
  bs := ⟨_, _, top_defT X G a_function_of l_function_of c_function_of k_function_of w_function_of t_function_of, top_defT X G a_law l_law c_law k_law w_law t_law, ne_function_of_law⟩,
  notabs := notabs,
  t_Rule := ⟨C_Rule, { c := PySem.W.mg_of X G a_Rule, cl := ⟨pg_Rule, hd_Rule, po_Rule, sa_Rule⟩, mks := mk_Rule, kc := kc_Rule, hc := hc_Rule, n_function := na_Rule_function, m_init := mth_mk a_Rule_init j_Rule_init l_Rule_init c_Rule_init k_Rule_init, v_init := ⟨vg_Rule_init, _, _, vr_Rule_init, vf_Rule_init, a_Rule_init⟩, m_reckon := mth_mk a_Rule_reckon j_Rule_reckon l_Rule_reckon c_Rule_reckon k_Rule_reckon, si_Above := ⟨_, PySem.W.mg_of X G a_Above, si_Rule_Above⟩, own := ⟨mo_Rule, ow4, ow5⟩ }⟩,
  t_Cells := ⟨C_Cells, { c := PySem.W.mg_of X G a_Cells, cl := ⟨pg_Cells, hd_Cells, po_Cells, sa_Cells⟩, mks := mk_Cells, kc := kc_Cells, hc := hc_Cells, n_function := na_Cells_function, n_names := na_Cells_names, m_init := mth_mk a_Cells_init j_Cells_init l_Cells_init c_Cells_init k_Cells_init, m_leans := mth_mk a_Cells_leans j_Cells_leans l_Cells_leans c_Cells_leans k_Cells_leans, m_gather := mth_mk a_Cells_gather j_Cells_gather l_Cells_gather c_Cells_gather k_Cells_gather, m_reckon := mth_mk ai_Cells_Rule_reckon j_Rule_reckon l_Rule_reckon c_Rule_reckon k_Rule_reckon, si_Above := ⟨_, PySem.W.mg_of X G a_Above, si_Cells_Above⟩, own := ⟨mo_Cells, ow4, ow5⟩ }⟩,
  t_Above := ⟨C_Above, { c := PySem.W.mg_of X G a_Above, cl := ⟨pg_Above, hd_Above, po_Above, sa_Above⟩, mks := mk_Above, kc := kc_Above, hc := hc_Above, n_function := na_Above_function, n_names := na_Above_names, n_first := na_Above_first, m_init := mth_mk a_Above_init j_Above_init l_Above_init c_Above_init k_Above_init, m_leans := mth_mk a_Above_leans j_Above_leans l_Above_leans c_Above_leans k_Above_leans, m_gather := mth_mk a_Above_gather j_Above_gather l_Above_gather c_Above_gather k_Above_gather, m_reckon := mth_mk ai_Above_Rule_reckon j_Rule_reckon l_Rule_reckon c_Rule_reckon k_Rule_reckon, si_Above := ⟨_, PySem.W.mg_of X G a_Above, si_Above_Above⟩, own := ⟨mo_Above, ow4, ow5⟩ }⟩,
  t_Group := ⟨C_Group, { c := PySem.W.mg_of X G a_Group, cl := ⟨pg_Group, hd_Group, po_Group, sa_Group⟩, mks := mk_Group, kc := kc_Group, hc := hc_Group, n_function := na_Group_function, n_key := na_Group_key, n_name := na_Group_name, m_init := mth_mk a_Group_init j_Group_init l_Group_init c_Group_init k_Group_init, m_leans := mth_mk a_Group_leans j_Group_leans l_Group_leans c_Group_leans k_Group_leans, m_gather := mth_mk a_Group_gather j_Group_gather l_Group_gather c_Group_gather k_Group_gather, m_reckon := mth_mk ai_Group_Rule_reckon j_Rule_reckon l_Rule_reckon c_Rule_reckon k_Rule_reckon, si_Above := ⟨_, PySem.W.mg_of X G a_Above, si_Group_Above⟩, own := ⟨mo_Group, ow4, ow5⟩ }⟩,
  t_Lookup := ⟨C_Lookup, { c := PySem.W.mg_of X G a_Lookup, cl := ⟨pg_Lookup, hd_Lookup, po_Lookup, sa_Lookup⟩, mks := mk_Lookup, kc := kc_Lookup, hc := hc_Lookup, n_function := na_Lookup_function, n_key := na_Lookup_key, n_other := na_Lookup_other, n_theirs := na_Lookup_theirs, n_names := na_Lookup_names, m_init := mth_mk a_Lookup_init j_Lookup_init l_Lookup_init c_Lookup_init k_Lookup_init, m_leans := mth_mk a_Lookup_leans j_Lookup_leans l_Lookup_leans c_Lookup_leans k_Lookup_leans, m_gather := mth_mk a_Lookup_gather j_Lookup_gather l_Lookup_gather c_Lookup_gather k_Lookup_gather, m_reckon := mth_mk ai_Lookup_Rule_reckon j_Rule_reckon l_Rule_reckon c_Rule_reckon k_Rule_reckon, si_Above := ⟨_, PySem.W.mg_of X G a_Above, si_Lookup_Above⟩, own := ⟨mo_Lookup, ow4, ow5⟩ }⟩,
  t_Mend := ⟨C_Mend, { c := PySem.W.mg_of X G a_Mend, cl := ⟨pg_Mend, hd_Mend, po_Mend, sa_Mend⟩, mks := mk_Mend, kc := kc_Mend, hc := hc_Mend, n_function := na_Mend_function, n_name := na_Mend_name, m_init := mth_mk a_Mend_init j_Mend_init l_Mend_init c_Mend_init k_Mend_init, m_leans := mth_mk a_Mend_leans j_Mend_leans l_Mend_leans c_Mend_leans k_Mend_leans, m_gather := mth_mk a_Mend_gather j_Mend_gather l_Mend_gather c_Mend_gather k_Mend_gather, m_reckon := mth_mk ai_Mend_Rule_reckon j_Rule_reckon l_Rule_reckon c_Rule_reckon k_Rule_reckon, si_Above := ⟨_, PySem.W.mg_of X G a_Above, si_Mend_Above⟩, own := ⟨mo_Mend, ow4, ow5⟩ }⟩ }, { g_OF_GROUPS := ⟨_, PySem.W.mg_of X G i_OF_GROUPS, ⟨⟨_, _, j_OF_GROUPS, dk_OF_GROUPS⟩, lo_OF_GROUPS⟩, ⟨_, PySem.W.mg_of X G a_sum_of, dv_OF_GROUPS_sum⟩, ⟨_, PySem.W.mg_of X G a_most_of, dv_OF_GROUPS_most⟩, ⟨_, PySem.W.mg_of X G a_least_of, dv_OF_GROUPS_least⟩, ⟨_, PySem.W.mg_of X G a_how_many, dv_OF_GROUPS_many⟩⟩, g_KINDS := ⟨_, PySem.W.mg_of X G i_KINDS, ⟨⟨_, _, j_KINDS, dk_KINDS⟩, lo_KINDS⟩, ⟨_, PySem.W.mg_of X G a_read_cells, dv_KINDS_cells⟩, ⟨_, PySem.W.mg_of X G a_read_above, dv_KINDS_above⟩, ⟨_, PySem.W.mg_of X G a_read_group, dv_KINDS_group⟩, ⟨_, PySem.W.mg_of X G a_read_lookup, dv_KINDS_lookup⟩, ⟨_, PySem.W.mg_of X G a_read_mend, dv_KINDS_mend⟩⟩ }⟩
theorem walk {l : PySem.W.OpenLaw} {q : Program} {loose : List Str} {XP : (Str → Option Value) → Heap → Prop} {YP : World → Heap → Prop} {d : DefRec} {K : Params → PySem.W.Frag} (hn : l.most = some 63) (hdf : d.params.defaults = []) (hdn : d.name = "law")
    (hY : ∀ (w : World) (h : Heap), YP w h → (K w.params).In h)
    (recs : ((PyProof.Rows.recsOf q).find? (fun e => e.name == ("function_of" : Str))).isSome = true ∧ ((PyProof.Rows.recsOf q).find? (fun e => e.name == ("law" : Str))).isSome = true)
    (F : ∀ (w : World) (mg : Str → Option Value) (h : Heap), (K w.params).In h → h.Ns mainGlobals mg → Tops (K w.params) mg ∧ Dcs w.params (K w.params) mg) :
    PySem.W.WalkO q loose XP YP l.row.toRowW d [] (fun f vs => PySem.call f vs) :=
  L2.walk_ofC (n := 63) (k := 14) (x := "_law_script") (CX := fun _ => CX0) (sp := fun w tabs => spLaw (K w.params) tabs) hn (by decide) hdf ⟨rfl, by decide, by decide⟩ hY
    (fun w mg fa h KX G hmg => by
      obtain ⟨T, TD⟩ := F w mg h KX G
      obtain ⟨z_function_of, z_law, B_function_of, B_law, ne_function_of_law⟩ := T.bs
      obtain ⟨f, fd, F4, hm, hcd⟩ := B_law.ex
      rw [hdn] at hmg
      have e := hmg.symm.trans hm
      cases e
      obtain ⟨r_function_of, r_law⟩ := recs
      refine ⟨T.notabs, [z_function_of, z_law], fun z hz => ?_, fd, fun s u => ?_, fun base kb nb mk => ?_⟩
      · simp only [List.mem_cons, List.not_mem_nil, or_false] at hz
        rcases hz with rfl | rfl
        · exact ⟨⟨_, r_function_of, B_function_of.tab⟩⟩
        · exact ⟨⟨_, r_law, B_law.tab⟩⟩
      · obtain ⟨oc, od, kV, doc, pm, an, cdv, ct, osl, rfl, _⟩ := F4.ex
        exact .of_eq rfl
      · exact ok_law T TD B_function_of (mk _ (by simp)) B_law (mk _ (by simp)) ne_function_of_law F4 hcd)
    (fun _ _ _ a ns hl hT hS => ⟨a, ns, rfl, hS, hl, hT, fun _ hT' => ⟨rfl, hT'⟩⟩) fun _ _ _ _ _ z => z
end My
def PySem.W.Fast.tw9878416203473451986 : Unit := ()
def PySem.W.Fast.tw5817177412718803003 : Unit := ()
def PySem.W.Fast.tw238891268078792834 : Unit := ()
def PySem.W.Fast.tw17122340679439926932 : Unit := ()
def PySem.W.Fast.tw12065225626000050804 : Unit := ()
def PySem.W.Fast.tw13826301754416752569 : Unit := ()
def PySem.W.Fast.tw10347101793036442109 : Unit := ()
def PySem.W.Fast.tw13725746772427855927 : Unit := ()
def PySem.W.Fast.tw17848463107927631599 : Unit := ()
def PySem.W.Fast.tw8032755691695864754 : Unit := ()
def PySem.W.Fast.tw10181169261124353937 : Unit := ()
def PySem.W.Fast.tw1938819021583964152 : Unit := ()
def PySem.W.Fast.tw6547855157982258722 : Unit := ()
def PySem.W.Fast.tw13945779957019218735 : Unit := ()
def PySem.W.Fast.tw5561179311776431233 : Unit := ()
def PySem.W.Fast.tw16459904023500036455 : Unit := ()
def PySem.W.Fast.tw11290113523518334829 : Unit := ()
def PySem.W.Fast.tw18398035147772846468 : Unit := ()
def PySem.W.Fast.tw17702746249229340626 : Unit := ()
def PySem.W.Fast.tw2501357605541357295 : Unit := ()
def PySem.W.Fast.tw6608845917815817980 : Unit := ()
def PySem.W.Fast.tw4772119172905360158 : Unit := ()
def PySem.W.Fast.tw6829683809251953302 : Unit := ()
def PySem.W.Fast.tw4807295341449964127 : Unit := ()
def PySem.W.Fast.tw4811897837335402492 : Unit := ()
def PySem.W.Fast.tw7924398218077954009 : Unit := ()
def PySem.W.Fast.tw17339916779235452088 : Unit := ()
def PySem.W.Fast.tw14150225389867675186 : Unit := ()
def PySem.W.Fast.tw2854775899042792277 : Unit := ()
def PySem.W.Fast.tw17597498798740339038 : Unit := ()
def PySem.W.Fast.tw10349135668475308086 : Unit := ()
def PySem.W.Fast.tw15261145520368363443 : Unit := ()
def PySem.W.Fast.tw7421596852323733570 : Unit := ()
def PySem.W.Fast.tw5826657508703665095 : Unit := ()
def PySem.W.Fast.tw5177439863353609578 : Unit := ()
def PySem.W.Fast.tw9475907802801955831 : Unit := ()
def PySem.W.Fast.tw2965132273314265497 : Unit := ()
def PySem.W.Fast.tw2602178913476373086 : Unit := ()
def PySem.W.Fast.tw6977888062578252863 : Unit := ()
def PySem.W.Fast.tw13341042646841633915 : Unit := ()
def PySem.W.Fast.tw10539402596747289853 : Unit := ()
def PySem.W.Fast.tw14098486806708035525 : Unit := ()
def PySem.W.Fast.tw12659733235367052502 : Unit := ()
def PySem.W.Fast.tw5969261690348091607 : Unit := ()
def PySem.W.Fast.tw7287781485059054588 : Unit := ()
def PySem.W.Fast.tw9145060459829875944 : Unit := ()
def PySem.W.Fast.tw11639726706158468382 : Unit := ()
def PySem.W.Fast.tw11771932746023372045 : Unit := ()
def PySem.W.Fast.tw8012263510119352239 : Unit := ()
def PySem.W.Fast.tw16259076814035309605 : Unit := ()
def PySem.W.Fast.tw13117858890314656191 : Unit := ()
def PySem.W.Fast.tw7452939354840895980 : Unit := ()
def PySem.W.Fast.tw11930935217087193999 : Unit := ()
def PySem.W.Fast.tw11101563456687036964 : Unit := ()
def PySem.W.Fast.tw6899066567419926887 : Unit := ()
def PySem.W.Fast.tw13332932072908304240 : Unit := ()
def PySem.W.Fast.tw14024265045033816658 : Unit := ()
def PySem.W.Fast.tw1618416800567046964 : Unit := ()
def PySem.W.Fast.tw11917745303686555285 : Unit := ()
def PySem.W.Fast.tw12840698484911196778 : Unit := ()
def PySem.W.Fast.tw5152662384844342315 : Unit := ()
def PySem.W.Fast.tw8487100243693559150 : Unit := ()
def PySem.W.Fast.tw515390830559671454 : Unit := ()
def PySem.W.Fast.tw12103410179250727007 : Unit := ()
def PySem.W.Fast.tw7571487372189614848 : Unit := ()
def PySem.W.Fast.tw9323213529466960757 : Unit := ()
def PySem.W.Fast.tw2865136224961875518 : Unit := ()
def PySem.W.Fast.tw11108551817490581909 : Unit := ()
def PySem.W.Fast.tw3109401747592184781 : Unit := ()
def PySem.W.Fast.tw4953837875315225165 : Unit := ()
def PySem.W.Fast.tw14948057207647130615 : Unit := ()
def PySem.W.Fast.tw13285426297278866981 : Unit := ()
def PySem.W.Fast.tw9485044826278217151 : Unit := ()
def PySem.W.Fast.tw2795485089559689351 : Unit := ()
def PySem.W.Fast.tw10093146875100509140 : Unit := ()
def PySem.W.Fast.tw1666638854659278715 : Unit := ()
def PySem.W.Fast.tw12410066373896693681 : Unit := ()
def PySem.W.Fast.tw5922063243355824440 : Unit := ()
def PySem.W.Fast.tw462907512893696608 : Unit := ()
def PySem.W.Fast.tw6775541485654830738 : Unit := ()
def PySem.W.Fast.tw16262166594221437196 : Unit := ()
def PySem.W.Fast.tw10348087009094284578 : Unit := ()
def PySem.W.Fast.tw1373100507281658803 : Unit := ()
def PySem.W.Fast.tw8838024305597189499 : Unit := ()
def PySem.W.Fast.tw18207761634969979018 : Unit := ()
def PySem.W.Fast.tw4463138068228241369 : Unit := ()
def PySem.W.Fast.tw2928660689573714631 : Unit := ()
def PySem.W.Fast.tw7859306857917731442 : Unit := ()
def PySem.W.Fast.tw9658220288422401150 : Unit := ()
def PySem.W.Fast.tw3158936520932667868 : Unit := ()
def PySem.W.Fast.tw4142265128444025661 : Unit := ()
def PySem.W.Fast.tw1773599696148093716 : Unit := ()
def PySem.W.Fast.tw16867030467172578526 : Unit := ()
def PySem.W.Fast.tw11477348019491774768 : Unit := ()
def PySem.W.Fast.tw3368356620414667255 : Unit := ()
def PySem.W.Fast.tw11226027484849476486 : Unit := ()
def PySem.W.Fast.tw6390364808546376167 : Unit := ()
def PySem.W.Fast.tw5558831019503164208 : Unit := ()
def PySem.W.Fast.tw1711406935963779022 : Unit := ()
def PySem.W.Fast.tw2818858574265106369 : Unit := ()
def PySem.W.Fast.tw13053845609642913014 : Unit := ()
def PySem.W.Fast.tw16441603710434839298 : Unit := ()
def PySem.W.Fast.tw8912479097818492768 : Unit := ()
def PySem.W.Fast.tw16076997585205085779 : Unit := ()
def PySem.W.Fast.tw1696156035444640189 : Unit := ()
def PySem.W.Fast.tw16946233441584552891 : Unit := ()
def PySem.W.Fast.tw12323907947106279798 : Unit := ()
def PySem.W.Fast.tw12727375763036678012 : Unit := ()
def PySem.W.Fast.tw17920883260071789101 : Unit := ()
def PySem.W.Fast.tw16009341278202734830 : Unit := ()
def PySem.W.Fast.tw1161828061491407367 : Unit := ()
def PySem.W.Fast.tw9277051369897480742 : Unit := ()
def PySem.W.Fast.tw11927528507921846153 : Unit := ()
def PySem.W.Fast.tw16469886548620446139 : Unit := ()
def PySem.W.Fast.tw9044190889012243638 : Unit := ()
def PySem.W.Fast.tw7661509590091186276 : Unit := ()
def PySem.W.Fast.tw8423933916282388674 : Unit := ()
def PySem.W.Fast.tw706563873828333459 : Unit := ()
def PySem.W.Fast.tw14801451581464677047 : Unit := ()
def PySem.W.Fast.tw2454116803422135094 : Unit := ()
def PySem.W.Fast.tw16205178841794409251 : Unit := ()
def PySem.W.Fast.tw10355516422343998875 : Unit := ()
def PySem.W.Fast.tw18003381562373593855 : Unit := ()
def PySem.W.Fast.tw4867669063686787676 : Unit := ()
def PySem.W.Fast.tw3961396813031193697 : Unit := ()
def PySem.W.Fast.tw1248470314591449327 : Unit := ()
def PySem.W.Fast.tw13148704974837711130 : Unit := ()
def PySem.W.Fast.tw15855814316641135753 : Unit := ()
def PySem.W.Fast.tw640323561609694385 : Unit := ()
def PySem.W.Fast.tw1414958121628389533 : Unit := ()
def PySem.W.Fast.tw7344970838297873403 : Unit := ()
def PySem.W.Fast.tw17165175806873796455 : Unit := ()
def PySem.W.Fast.tw1726932356721672610 : Unit := ()
def PySem.W.Fast.tw182325009303444946 : Unit := ()
def PySem.W.Fast.tw123347725856110453 : Unit := ()
def PySem.W.Fast.tw6941468470079563135 : Unit := ()
def PySem.W.Fast.tw8005573924316976374 : Unit := ()
def PySem.W.Fast.tw13767875458705902023 : Unit := ()
def PySem.W.Fast.tw1244416484912576830 : Unit := ()
def PySem.W.Fast.tw1269070772274234886 : Unit := ()
def PySem.W.Fast.tw3661282479659356136 : Unit := ()
def PySem.W.Fast.tw1095933798573692631 : Unit := ()
def PySem.W.Fast.tw7558207960866828683 : Unit := ()
def PySem.W.Fast.tw14314011403236801501 : Unit := ()
def PySem.W.Fast.tw11926044882343958624 : Unit := ()
def PySem.W.Fast.tw6759323828664560826 : Unit := ()
def PySem.W.Fast.tw10113426045796510543 : Unit := ()
def PySem.W.Fast.tw10586744850500086917 : Unit := ()
def PySem.W.Fast.tw8904230954198905897 : Unit := ()
def PySem.W.Fast.tw1349618472301824616 : Unit := ()
def PySem.W.Fast.tw15598211682602679045 : Unit := ()
def PySem.W.Fast.tw2389249437319095192 : Unit := ()
def PySem.W.Fast.tw10722059354738057671 : Unit := ()
def PySem.W.Fast.tw8006169792225688739 : Unit := ()
def PySem.W.Fast.tw6128058795445470400 : Unit := ()
def PySem.W.Fast.tw11558290246283950992 : Unit := ()
def PySem.W.Fast.tw6715980964483792263 : Unit := ()
def PySem.W.Fast.tw15476940978523121602 : Unit := ()
def PySem.W.Fast.tw6029672840488623269 : Unit := ()
def PySem.W.Fast.tw7706770926317975558 : Unit := ()
def PySem.W.Fast.tw16006850997022499129 : Unit := ()
def PySem.W.Fast.tw4756308364366963972 : Unit := ()
def PySem.W.Fast.tw8837356134562411975 : Unit := ()
def PySem.W.Fast.tw1366409158623035840 : Unit := ()
def PySem.W.Fast.tw1414904679934160718 : Unit := ()
def PySem.W.Fast.tw4429396704203643347 : Unit := ()
def PySem.W.Fast.tw5146403851838139590 : Unit := ()
def PySem.W.Fast.tw1875011037203312088 : Unit := ()
def PySem.W.Fast.tw15214565843385512568 : Unit := ()
def PySem.W.Fast.tw12225461392434150995 : Unit := ()
def PySem.W.Fast.tw2087643603569388270 : Unit := ()
def PySem.W.Fast.tw5916424719296579314 : Unit := ()
def PySem.W.Fast.tw7212753878610400983 : Unit := ()
def PySem.W.Fast.tw5299307203254716385 : Unit := ()
def PySem.W.Fast.tw2588148674177868669 : Unit := ()
def PySem.W.Fast.tw17660831712613669644 : Unit := ()
def PySem.W.Fast.tw910095781539526601 : Unit := ()
def PySem.W.Fast.tw13396387456678712908 : Unit := ()
def PySem.W.Fast.tw10349141641299955275 : Unit := ()
def PySem.W.Fast.tw9470016719934407701 : Unit := ()
def PySem.W.Fast.tw14935481124382346767 : Unit := ()
def PySem.W.Fast.tw9940938021615400496 : Unit := ()
def PySem.W.Fast.tw5382296838116594424 : Unit := ()
def PySem.W.Fast.tw9048493323887442490 : Unit := ()
def PySem.W.Fast.tw14247807176891675270 : Unit := ()
def PySem.W.Fast.tw1300367145856001873 : Unit := ()
def PySem.W.Fast.tw8497413421638976849 : Unit := ()
def PySem.W.Fast.tw11720625181193496965 : Unit := ()
def PySem.W.Fast.tw15575210216052380777 : Unit := ()
def PySem.W.Fast.tw1708648688684742756 : Unit := ()
def PySem.W.Fast.tw16000278764902753905 : Unit := ()
def PySem.W.Fast.tw8547706348298220319 : Unit := ()
def PySem.W.Fast.tw10077933824309751543 : Unit := ()
def PySem.W.Fast.tw12332638024184291794 : Unit := ()
def PySem.W.Fast.tw207134408641477543 : Unit := ()
def PySem.W.Fast.tw982486635642741217 : Unit := ()
def PySem.W.Fast.tw17883380411403920347 : Unit := ()
def PySem.W.Fast.tw1500308656134834518 : Unit := ()
def PySem.W.Fast.tw4953173591006797241 : Unit := ()
def PySem.W.Fast.tw14183305489750215190 : Unit := ()
def PySem.W.Fast.tw12432647060177283321 : Unit := ()
def PySem.W.Fast.tw17882286125405529103 : Unit := ()
def PySem.W.Fast.tw192128428672773110 : Unit := ()
def PySem.W.Fast.tw4148019766601421585 : Unit := ()
def PySem.W.Fast.tw11726211701355032794 : Unit := ()
def PySem.W.Fast.tw79043633556401830 : Unit := ()
def PySem.W.Fast.tw9633490081570025664 : Unit := ()
def PySem.W.Fast.tw904866637280653986 : Unit := ()
def PySem.W.Fast.tw1307330804201524459 : Unit := ()
def PySem.W.Fast.tw5784175220517930352 : Unit := ()
def PySem.W.Fast.tw18014094189850161396 : Unit := ()
def PySem.W.Fast.tw3786942981737386264 : Unit := ()
def PySem.W.Fast.tw14328093756490117755 : Unit := ()
def PySem.W.Fast.tw17558924085474223660 : Unit := ()
def PySem.W.Fast.tw15955861755799563977 : Unit := ()
def PySem.W.Fast.tw10761536221120138049 : Unit := ()
def PySem.W.Fast.tw2844999155462462142 : Unit := ()
def PySem.W.Fast.tw14455188252440567841 : Unit := ()
def PySem.W.Fast.tw17768973255071158412 : Unit := ()
def PySem.W.Fast.tw256009294199547395 : Unit := ()
def PySem.W.Fast.tw18164956310326960138 : Unit := ()
def PySem.W.Fast.tw15927002503757968414 : Unit := ()
def PySem.W.Fast.tw8619763134131638278 : Unit := ()
def PySem.W.Fast.tw17956417811467328458 : Unit := ()
def PySem.W.Fast.tw17437160111551148081 : Unit := ()
def PySem.W.Fast.tw12827331941819461327 : Unit := ()
def PySem.W.Fast.tw810576293872443 : Unit := ()
def PySem.W.Fast.tw3921989866878260465 : Unit := ()
def PySem.W.Fast.tw15492569984117221553 : Unit := ()
def PySem.W.Fast.tw15938134589588476306 : Unit := ()
def PySem.W.Fast.tw7560487807090378714 : Unit := ()
def PySem.W.Fast.tw3696939429549936014 : Unit := ()
def PySem.W.Fast.tw8025131359101291817 : Unit := ()
def PySem.W.Fast.tw10957716683271674073 : Unit := ()
def PySem.W.Fast.tw9852520058102134625 : Unit := ()
def PySem.W.Fast.tw15351287078084479342 : Unit := ()
def PySem.W.Fast.tw17128064135367529381 : Unit := ()
def PySem.W.Fast.tw11902115988110388161 : Unit := ()
def PySem.W.Fast.tw9904425066088170688 : Unit := ()
def PySem.W.Fast.tw12358252688902771794 : Unit := ()
def PySem.W.Fast.tw28286249818187858 : Unit := ()
def PySem.W.Fast.tw6431212151527620559 : Unit := ()
def PySem.W.Fast.tw1224083676322979632 : Unit := ()
def PySem.W.Fast.tw2720610428115088374 : Unit := ()
def PySem.W.Fast.tw1297544527335247825 : Unit := ()
def PySem.W.Fast.tw3149444069810966076 : Unit := ()
def PySem.W.Fast.tw212148705168579473 : Unit := ()
def PySem.W.Fast.tw8802592521944545542 : Unit := ()
def PySem.W.Fast.tw13654966075985003831 : Unit := ()
def PySem.W.Fast.tw9530648858146942311 : Unit := ()
def PySem.W.Fast.tw14455048439310836879 : Unit := ()
def PySem.W.Fast.tw14667050527024403276 : Unit := ()
def PySem.W.Fast.tw7728391020032125157 : Unit := ()
def PySem.W.Fast.tw11234659051954895858 : Unit := ()
def PySem.W.Fast.tw9342428894619192847 : Unit := ()
def PySem.W.Fast.tw17595215881796053588 : Unit := ()
def PySem.W.Fast.tw10159440673448598081 : Unit := ()
def PySem.W.Fast.tw16455167964021984487 : Unit := ()
def PySem.W.Fast.tw16153351181347911627 : Unit := ()
def PySem.W.Fast.tw14201312465159385818 : Unit := ()
def PySem.W.Fast.tw8968088980609759662 : Unit := ()
def PySem.W.Fast.tw7371560044961438169 : Unit := ()
def PySem.W.Fast.tw8075692799444756757 : Unit := ()
def PySem.W.Fast.tw16273989636779224993 : Unit := ()
def PySem.W.Fast.tw2542796355344219525 : Unit := ()
def PySem.W.Fast.tw3952250181567170661 : Unit := ()
def PySem.W.Fast.tw3648306658473440376 : Unit := ()
def PySem.W.Fast.tw6638658941364848146 : Unit := ()
def PySem.W.Fast.tw11744550506320062068 : Unit := ()
def PySem.W.Fast.tw10226796701357915949 : Unit := ()
def PySem.W.Fast.tw17212521308763588718 : Unit := ()
def PySem.W.Fast.tw12384335723072570012 : Unit := ()
def PySem.W.Fast.tw5862892253040867706 : Unit := ()
def PySem.W.Fast.tw800220848197230055 : Unit := ()
def PySem.W.Fast.tw5031422711134961101 : Unit := ()
def PySem.W.Fast.tw9213809813755653863 : Unit := ()
def PySem.W.Fast.tw1328178835849338972 : Unit := ()
def PySem.W.Fast.tw13048412364430130647 : Unit := ()
def PySem.W.Fast.tw12247556191197870975 : Unit := ()
def PySem.W.Fast.tw12701285367260881014 : Unit := ()
def PySem.W.Fast.tw18228714313557088462 : Unit := ()
def PySem.W.Fast.tw12139744196778064265 : Unit := ()
def PySem.W.Fast.tw5751537041428275180 : Unit := ()
def PySem.W.Fast.tw13425170751304625896 : Unit := ()
def PySem.W.Fast.tw2596529688526518035 : Unit := ()
def PySem.W.Fast.tw16908772859504416014 : Unit := ()
def PySem.W.Fast.tw10895371102437228612 : Unit := ()
def PySem.W.Fast.tw392233083175527679 : Unit := ()
def PySem.W.Fast.tw14779448613831488178 : Unit := ()
def PySem.W.Fast.tw7266062261925591265 : Unit := ()
def PySem.W.Fast.tw6331954776426653220 : Unit := ()
def PySem.W.Fast.tw9725315759875316464 : Unit := ()
def PySem.W.Fast.tw9097757308163998530 : Unit := ()
def PySem.W.Fast.tw8044025201452165151 : Unit := ()
def PySem.W.Fast.tw10177761831542753340 : Unit := ()
def PySem.W.Fast.tw18414456815847478256 : Unit := ()
def PySem.W.Fast.tw5433371274069018672 : Unit := ()
def PySem.W.Fast.tw13426322168346159712 : Unit := ()
def PySem.W.Fast.tw9581640532555056241 : Unit := ()
def PySem.W.Fast.tw10809446682156718807 : Unit := ()
def PySem.W.Fast.tw6404611374680674254 : Unit := ()
def PySem.W.Fast.tw6053961833296243867 : Unit := ()
def PySem.W.Fast.tw1755630697386731128 : Unit := ()
def PySem.W.Fast.tw10973238553741486374 : Unit := ()
def PySem.W.Fast.tw11532849709237073858 : Unit := ()
def PySem.W.Fast.tw5953821018166447818 : Unit := ()
def PySem.W.Fast.tw2751711808784046548 : Unit := ()
def PySem.W.Fast.tw9771689317423372423 : Unit := ()
def PySem.W.Fast.tw6286672762244149211 : Unit := ()
def PySem.W.Fast.tw11712432770297937062 : Unit := ()
def PySem.W.Fast.tw3819214024840191647 : Unit := ()
def PySem.W.Fast.tw14638100261723442797 : Unit := ()
def PySem.W.Fast.tw15874679517961397370 : Unit := ()
def PySem.W.Fast.tw5059022918604079842 : Unit := ()
def PySem.W.Fast.tw9431968348100607854 : Unit := ()
def PySem.W.Fast.tw14286277637562504224 : Unit := ()
def PySem.W.Fast.tw42873138147201610 : Unit := ()
def PySem.W.Fast.tw1554995769348878472 : Unit := ()
def PySem.W.Fast.tw17740770055679507525 : Unit := ()
def PySem.W.Fast.tw16454247447877221314 : Unit := ()
def PySem.W.Fast.tw15558008765895200069 : Unit := ()
def PySem.W.Fast.tw5122428452580255560 : Unit := ()
def PySem.W.Fast.tw16443824095602495588 : Unit := ()
def PySem.W.Fast.tw16676053469780550826 : Unit := ()
def PySem.W.Fast.tw9395405406656803229 : Unit := ()
def PySem.W.Fast.tw12905333177126076626 : Unit := ()
def PySem.W.Fast.tw10333208326532886212 : Unit := ()
def PySem.W.Fast.tw11558451070239452191 : Unit := ()
def PySem.W.Fast.tw12672935129785807492 : Unit := ()
def PySem.W.Fast.tw7825750614883881149 : Unit := ()
def PySem.W.Fast.tw8100603037050249086 : Unit := ()
def PySem.W.Fast.tw8438419351247310947 : Unit := ()
def PySem.W.Fast.tw8301860591645085133 : Unit := ()
def PySem.W.Fast.tw12240942815380785394 : Unit := ()
def PySem.W.Fast.tw9354109628041957868 : Unit := ()
def PySem.W.Fast.tw2897309033888353221 : Unit := ()
def PySem.W.Fast.tw17115370798968164079 : Unit := ()
def PySem.W.Fast.tw3526172272471303650 : Unit := ()
def PySem.W.Fast.tw8046950360504715118 : Unit := ()
def PySem.W.Fast.tw13788900663986631622 : Unit := ()
def PySem.W.Fast.tw14709151990776245690 : Unit := ()
def PySem.W.Fast.tw15911890094770204101 : Unit := ()
def PySem.W.Fast.tw369992161464747915 : Unit := ()
def PySem.W.Fast.tw13594296302712977902 : Unit := ()
def PySem.W.Fast.tw8549413561480055439 : Unit := ()
def PySem.W.Fast.tw1058723795626871330 : Unit := ()
def PySem.W.Fast.tw13467812421135897782 : Unit := ()
def PySem.W.Fast.tw7304620516342498575 : Unit := ()
def PySem.W.Fast.tw10368527849164666662 : Unit := ()
def PySem.W.Fast.tw16073257461291644204 : Unit := ()
def PySem.W.Fast.tw13187683062872126490 : Unit := ()
def PySem.W.Fast.tw6300461791830982089 : Unit := ()
def PySem.W.Fast.tw9794521565408865030 : Unit := ()
def PySem.W.Fast.tw6501019473493302491 : Unit := ()
def PySem.W.Fast.tw949797994852987547 : Unit := ()
def PySem.W.Fast.tw3504903247668692156 : Unit := ()
def PySem.W.Fast.tw6561107610877419035 : Unit := ()
def PySem.W.Fast.tw2700058495232555716 : Unit := ()
def PySem.W.Fast.tw7234569870371603568 : Unit := ()
def PySem.W.Fast.tw8462280558204067446 : Unit := ()
def PySem.W.Fast.tw5437445619683023050 : Unit := ()
def PySem.W.Fast.tw3070004367097858443 : Unit := ()
def PySem.W.Fast.tw11361351384844754652 : Unit := ()
def PySem.W.Fast.tw9555216938565080304 : Unit := ()
def PySem.W.Fast.tw18266051808069014941 : Unit := ()
def PySem.W.Fast.tw3352624605486076981 : Unit := ()
def PySem.W.Fast.tw18190527653340463721 : Unit := ()
def PySem.W.Fast.tw11838611786002010626 : Unit := ()
def PySem.W.Fast.tw16224626513654922766 : Unit := ()
def PySem.W.Fast.tw17073716009571793670 : Unit := ()
def PySem.W.Fast.tw10529437343544108764 : Unit := ()
def PySem.W.Fast.tw12056023393423067771 : Unit := ()
def PySem.W.Fast.tw3673912555421065850 : Unit := ()
def PySem.W.Fast.tw11733808653488276846 : Unit := ()
def PySem.W.Fast.tw7305917295095948938 : Unit := ()
def PySem.W.Fast.tw10589806262489078779 : Unit := ()
def PySem.W.Fast.tw9432296110418153511 : Unit := ()
def PySem.W.Fast.tw7094265088205765560 : Unit := ()
def PySem.W.Fast.tw3861684288665170318 : Unit := ()
def PySem.W.Fast.tw1464061995002208818 : Unit := ()
def PySem.W.Fast.tw6808410855755066385 : Unit := ()
def PySem.W.Fast.tw13070004936798007955 : Unit := ()
def PySem.W.Fast.tw1630091438336861093 : Unit := ()
def PySem.W.Fast.tw10596413539748086349 : Unit := ()
def PySem.W.Fast.tw11218559160274751419 : Unit := ()
def PySem.W.Fast.tw5260279238733034312 : Unit := ()
def PySem.W.Fast.tw7879180299828929383 : Unit := ()
def PySem.W.Fast.tw14060326330551634098 : Unit := ()
def PySem.W.Fast.tw12491869702534932129 : Unit := ()
def PySem.W.Fast.tw13583930646571805080 : Unit := ()
def PySem.W.Fast.tw9100115141065490106 : Unit := ()
def PySem.W.Fast.tw8690926078834664873 : Unit := ()
def PySem.W.Fast.tw14837648171822075399 : Unit := ()
def PySem.W.Fast.tw1458639725912532969 : Unit := ()
def PySem.W.Fast.tw9008637968487432689 : Unit := ()
def PySem.W.Fast.tw4774080424485270978 : Unit := ()
def PySem.W.Fast.tw6569437267567604376 : Unit := ()
def PySem.W.Fast.tw1775811221453145312 : Unit := ()
def PySem.W.Fast.tw7576966850554926192 : Unit := ()
def PySem.W.Fast.tw10075500941896561504 : Unit := ()
def PySem.W.Fast.tw12061757854032731066 : Unit := ()
def PySem.W.Fast.tw11150517454591046000 : Unit := ()
def PySem.W.Fast.tw18418669382304474848 : Unit := ()
def PySem.W.Fast.tw3436941382226077063 : Unit := ()
def PySem.W.Fast.tw6032904820847653960 : Unit := ()
def PySem.W.Fast.tw11032529753432408406 : Unit := ()
def PySem.W.Fast.tw1826836410142080147 : Unit := ()
def PySem.W.Fast.tw3169753932414462255 : Unit := ()
def PySem.W.Fast.tw8934275553716217307 : Unit := ()
def PySem.W.Fast.tw13285016370513857955 : Unit := ()
def PySem.W.Fast.tw10125938618959487336 : Unit := ()
def PySem.W.Fast.tw12301261482423540553 : Unit := ()
def PySem.W.Fast.tw17536781917585749268 : Unit := ()
def PySem.W.Fast.tw12152282363340136834 : Unit := ()
def PySem.W.Fast.tw6960216394174425525 : Unit := ()
def PySem.W.Fast.tw6327868939630762741 : Unit := ()
def PySem.W.Fast.tw6739961532477298136 : Unit := ()
def PySem.W.Fast.tw7969206053207394407 : Unit := ()
def PySem.W.Fast.tw1098513212255520272 : Unit := ()
def PySem.W.Fast.tw10775042977791773335 : Unit := ()
def PySem.W.Fast.tw16545348637825980204 : Unit := ()
def PySem.W.Fast.tw5589691597448915855 : Unit := ()
def PySem.W.Fast.tw12628748506049738169 : Unit := ()
def PySem.W.Fast.tw15244267866200894708 : Unit := ()
def PySem.W.Fast.tw7084490744049763476 : Unit := ()
def PySem.W.Fast.tw11953877893162857721 : Unit := ()
def PySem.W.Fast.tw10733959765713695314 : Unit := ()
def PySem.W.Fast.tw1408525690016375136 : Unit := ()
def PySem.W.Fast.tw5210259831092716255 : Unit := ()
def PySem.W.Fast.tw15987175257736695058 : Unit := ()
def PySem.W.Fast.tw3975094573785858337 : Unit := ()
def PySem.W.Fast.tw4132196560536614143 : Unit := ()
def PySem.W.Fast.tw13793371366001418950 : Unit := ()
def PySem.W.Fast.tw15035317369567447402 : Unit := ()
def PySem.W.Fast.tw4219929433227912844 : Unit := ()
def PySem.W.Fast.tw272711314433383280 : Unit := ()
def PySem.W.Fast.tw5438483242218571826 : Unit := ()
def PySem.W.Fast.tw9592786721772850543 : Unit := ()
def PySem.W.Fast.tw12194352785749483147 : Unit := ()
def PySem.W.Fast.tw10344684796403050447 : Unit := ()
def PySem.W.Fast.tw6181070444637600556 : Unit := ()
def PySem.W.Fast.tw10346284524806808128 : Unit := ()
def PySem.W.Fast.tw5628512767764904016 : Unit := ()
def PySem.W.Fast.tw3749454762844390972 : Unit := ()
def PySem.W.Fast.tw3673490431553775806 : Unit := ()
def PySem.W.Fast.tw2207890584465797937 : Unit := ()
def PySem.W.Fast.tw11914732388917344088 : Unit := ()
def PySem.W.Fast.tw6678485411255461507 : Unit := ()
def PySem.W.Fast.tw13811312556064454890 : Unit := ()
def PySem.W.Fast.tw1106195113274870565 : Unit := ()
def PySem.W.Fast.tw17302116685938299039 : Unit := ()
def PySem.W.Fast.tw13379255838627267417 : Unit := ()
def PySem.W.Fast.tw14435571341646212531 : Unit := ()
def PySem.W.Fast.tw8409600002069541174 : Unit := ()
def PySem.W.Fast.tw526286828193013496 : Unit := ()
def PySem.W.Fast.tw13161341463212996635 : Unit := ()
def PySem.W.Fast.tw13335476203058090099 : Unit := ()
def PySem.W.Fast.tw13063575413721152002 : Unit := ()
def PySem.W.Fast.tw3182869960893489726 : Unit := ()
def PySem.W.Fast.tw4614942618996117649 : Unit := ()
def PySem.W.Fast.tw3865988761736951329 : Unit := ()
def PySem.W.Fast.tw15689438396098971236 : Unit := ()
def PySem.W.Fast.tw14040498517951532223 : Unit := ()
def PySem.W.Fast.tw17202479050273379933 : Unit := ()
def PySem.W.Fast.tw7849758267792148310 : Unit := ()
def PySem.W.Fast.tw16200168290148535419 : Unit := ()
def PySem.W.Fast.tw18438292936111313383 : Unit := ()
def PySem.W.Fast.tw18445268542202188601 : Unit := ()
def PySem.W.Fast.tw4974843588214603704 : Unit := ()
def PySem.W.Fast.tw15637492924406920088 : Unit := ()
def PySem.W.Fast.tw12858083561280765002 : Unit := ()
def PySem.W.Fast.tw2134562637959098288 : Unit := ()
def PySem.W.Fast.tw16189241298868861152 : Unit := ()
def PySem.W.Fast.tw5635318325337957381 : Unit := ()
def PySem.W.Fast.tw14100302684711782057 : Unit := ()
def PySem.W.Fast.tw16907086422099510957 : Unit := ()
def PySem.W.Fast.tw7161325267354183174 : Unit := ()
def PySem.W.Fast.tw18243300062091638161 : Unit := ()
def PySem.W.Fast.tw14115997139651168989 : Unit := ()
def PySem.W.Fast.tw15218391143271679469 : Unit := ()
def PySem.W.Fast.tw13038142577196449647 : Unit := ()
def PySem.W.Fast.tw12266120221586721959 : Unit := ()
def PySem.W.Fast.tw18265215781458355222 : Unit := ()
def PySem.W.Fast.tw536907679065065886 : Unit := ()
def PySem.W.Fast.tw2069801573743225598 : Unit := ()
def PySem.W.Fast.tw3981587312518159075 : Unit := ()
def PySem.W.Fast.tw14600142029963163174 : Unit := ()
def PySem.W.Fast.tw11104870222977452859 : Unit := ()
def PySem.W.Fast.tw17842128487513631137 : Unit := ()
open PySem PySem.W PyProof.Rows
set_option maxRecDepth 100000 in
set_option maxHeartbeats 0 in
theorem PySem.Challenge.cw_lazycols_k53_above_rules_read_holds : PySem.Challenge.rw_lazycols_k53_above_rules_read.Holds := by
  w_on; o_law; k_head; (case hw => w_witness2)
  k_fill
  refine My.walk (l := PySem.Challenge.rw_lazycols_k53_above_rules_read) rfl rfl rfl (fun w h Y => PySem.W.km_in_of Y) ?R ?F
  case R => first | exact rfl | decide +kernel
  case F =>
    intro w mg h KX G
    refine' My.tops_mk (PP := w.params) KX G ?n_len ?n_isinstance ?n_int ?n_bool ?n_str ?n_all ?n_range ?n_abs ?n_list ?n_tuple ?n_dict ?n_max ?n_min ?n_sum ?n_reversed ?n_zip ?n_ValueError ?i_LETTERS ?i_MOST_LETTERS ?i_ODD ?j_ODD ?i_MOST_NAMES ?i_LACKS ?j_LACKS ?i_FIGURES ?i_MOST_FIGURES ?i_MOST_WORDS ?i_SIGNS ?j_SIGNS ?i_NOUGHT ?j_NOUGHT ?i_GREAT ?j_GREAT ?i_UP ?a_is_whole ?l_is_whole ?c_is_whole ?k_is_whole ?a_is_number ?l_is_number ?c_is_number ?k_is_number ?a_is_name ?l_is_name ?c_is_name ?k_is_name ?a_is_fault ?l_is_fault ?c_is_fault ?k_is_fault ?a_is_value ?l_is_value ?c_is_value ?k_is_value ?a_settled ?l_settled ?c_settled ?k_settled ?a_check_name ?l_check_name ?c_check_name ?k_check_name ?a_checked_names ?l_checked_names ?c_checked_names ?k_checked_names ?a_each_once ?l_each_once ?c_each_once ?k_each_once ?a_look_in_turn ?l_look_in_turn ?c_look_in_turn ?k_look_in_turn ?a_writes_number ?l_writes_number ?c_writes_number ?k_writes_number ?a_is_reckoning ?l_is_reckoning ?c_is_reckoning ?k_is_reckoning ?a_names_in ?l_names_in ?c_names_in ?k_names_in ?a_bounded ?l_bounded ?c_bounded ?k_bounded ?a_reckoned ?l_reckoned ?c_reckoned ?k_reckoned ?a_joined ?l_joined ?c_joined ?k_joined ?a_number_of ?l_number_of ?c_number_of ?k_number_of ?a_sum_of ?l_sum_of ?c_sum_of ?k_sum_of ?a_most_of ?l_most_of ?c_most_of ?k_most_of ?a_least_of ?l_least_of ?c_least_of ?k_least_of ?a_how_many ?l_how_many ?c_how_many ?k_how_many ?a_refuse_unless ?l_refuse_unless ?c_refuse_unless ?k_refuse_unless ?a_check_names ?l_check_names ?c_check_names ?k_check_names ?a_columns_in ?l_columns_in ?c_columns_in ?k_columns_in ?a_function_of ?l_function_of ?c_function_of ?k_function_of ?w_function_of ?t_function_of ?a_read_cells ?l_read_cells ?c_read_cells ?k_read_cells ?a_read_above ?l_read_above ?c_read_above ?k_read_above ?a_read_group ?l_read_group ?c_read_group ?k_read_group ?a_read_lookup ?l_read_lookup ?c_read_lookup ?k_read_lookup ?a_read_mend ?l_read_mend ?c_read_mend ?k_read_mend ?a_read_rule ?l_read_rule ?c_read_rule ?k_read_rule ?a_law_cell ?l_law_cell ?c_law_cell ?k_law_cell ?a_law_number ?l_law_number ?c_law_number ?k_law_number ?a_law_words ?l_law_words ?c_law_words ?k_law_words ?a_law_signed ?l_law_signed ?c_law_signed ?k_law_signed ?a_law_due ?l_law_due ?c_law_due ?k_law_due ?a_law_once ?l_law_once ?c_law_once ?k_law_once ?a_law ?l_law ?c_law ?k_law ?w_law ?t_law ?ne_function_of_law ?notabs ?i_OF_GROUPS ?j_OF_GROUPS ?dk_OF_GROUPS ?lo_OF_GROUPS ?dv_OF_GROUPS_sum ?dv_OF_GROUPS_most ?dv_OF_GROUPS_least ?dv_OF_GROUPS_many ?i_KINDS ?j_KINDS ?dk_KINDS ?lo_KINDS ?dv_KINDS_cells ?dv_KINDS_above ?dv_KINDS_group ?dv_KINDS_lookup ?dv_KINDS_mend ?a_Rule ?pg_Rule ?hd_Rule ?po_Rule ?sa_Rule ?mk_Rule ?kc_Rule ?hc_Rule ?na_Rule_function ?a_Rule_init ?j_Rule_init ?l_Rule_init ?c_Rule_init ?k_Rule_init ?vg_Rule_init ?vr_Rule_init ?vf_Rule_init ?a_Rule_reckon ?j_Rule_reckon ?l_Rule_reckon ?c_Rule_reckon ?k_Rule_reckon ?ow4 ?ow5 ?mo_Rule ?a_Cells ?pg_Cells ?hd_Cells ?po_Cells ?sa_Cells ?mk_Cells ?kc_Cells ?hc_Cells ?na_Cells_function ?na_Cells_names ?a_Cells_init ?j_Cells_init ?l_Cells_init ?c_Cells_init ?k_Cells_init ?a_Cells_leans ?j_Cells_leans ?l_Cells_leans ?c_Cells_leans ?k_Cells_leans ?a_Cells_gather ?j_Cells_gather ?l_Cells_gather ?c_Cells_gather ?k_Cells_gather ?ai_Cells_Rule_reckon ?mo_Cells ?a_Above ?pg_Above ?hd_Above ?po_Above ?sa_Above ?mk_Above ?kc_Above ?hc_Above ?na_Above_function ?na_Above_names ?na_Above_first ?a_Above_init ?j_Above_init ?l_Above_init ?c_Above_init ?k_Above_init ?a_Above_leans ?j_Above_leans ?l_Above_leans ?c_Above_leans ?k_Above_leans ?a_Above_gather ?j_Above_gather ?l_Above_gather ?c_Above_gather ?k_Above_gather ?ai_Above_Rule_reckon ?mo_Above ?a_Group ?pg_Group ?hd_Group ?po_Group ?sa_Group ?mk_Group ?kc_Group ?hc_Group ?na_Group_function ?na_Group_key ?na_Group_name ?a_Group_init ?j_Group_init ?l_Group_init ?c_Group_init ?k_Group_init ?a_Group_leans ?j_Group_leans ?l_Group_leans ?c_Group_leans ?k_Group_leans ?a_Group_gather ?j_Group_gather ?l_Group_gather ?c_Group_gather ?k_Group_gather ?ai_Group_Rule_reckon ?mo_Group ?a_Lookup ?pg_Lookup ?hd_Lookup ?po_Lookup ?sa_Lookup ?mk_Lookup ?kc_Lookup ?hc_Lookup ?na_Lookup_function ?na_Lookup_key ?na_Lookup_other ?na_Lookup_theirs ?na_Lookup_names ?a_Lookup_init ?j_Lookup_init ?l_Lookup_init ?c_Lookup_init ?k_Lookup_init ?a_Lookup_leans ?j_Lookup_leans ?l_Lookup_leans ?c_Lookup_leans ?k_Lookup_leans ?a_Lookup_gather ?j_Lookup_gather ?l_Lookup_gather ?c_Lookup_gather ?k_Lookup_gather ?ai_Lookup_Rule_reckon ?mo_Lookup ?a_Mend ?pg_Mend ?hd_Mend ?po_Mend ?sa_Mend ?mk_Mend ?kc_Mend ?hc_Mend ?na_Mend_function ?na_Mend_name ?a_Mend_init ?j_Mend_init ?l_Mend_init ?c_Mend_init ?k_Mend_init ?a_Mend_leans ?j_Mend_leans ?l_Mend_leans ?c_Mend_leans ?k_Mend_leans ?a_Mend_gather ?j_Mend_gather ?l_Mend_gather ?c_Mend_gather ?k_Mend_gather ?ai_Mend_Rule_reckon ?mo_Mend ?si_Rule_Above ?si_Cells_Above ?si_Above_Above ?si_Group_Above ?si_Lookup_Above ?si_Mend_Above
    (case n_len => k_is)
    (case n_isinstance => k_is)
    (case n_int => k_is)
    (case n_bool => k_is)
    (case n_str => k_is)
    (case n_all => k_is)
    (case n_range => k_is)
    (case n_abs => k_is)
    (case n_list => k_is)
    (case n_tuple => k_is)
    (case n_dict => k_is)
    (case n_max => k_is)
    (case n_min => k_is)
    (case n_sum => k_is)
    (case n_reversed => k_is)
    (case n_zip => k_is)
    (case n_ValueError => k_is)
    (case i_LETTERS => k_is)
    (case i_MOST_LETTERS => k_is)
    (case i_ODD => k_is)
    (case j_ODD => k_is)
    (case i_MOST_NAMES => k_is)
    (case i_LACKS => k_is)
    (case j_LACKS => k_is)
    (case i_FIGURES => k_is)
    (case i_MOST_FIGURES => k_is)
    (case i_MOST_WORDS => k_is)
    (case i_SIGNS => k_is)
    (case j_SIGNS => k_is)
    (case i_NOUGHT => k_is)
    (case j_NOUGHT => k_is)
    (case i_GREAT => k_is)
    (case j_GREAT => k_is)
    (case i_UP => k_is)
    (case a_is_whole => k_is)
    (case l_is_whole => k_is)
    (case c_is_whole => k_is)
    (case k_is_whole => k_is)
    (case a_is_number => k_is)
    (case l_is_number => k_is)
    (case c_is_number => k_is)
    (case k_is_number => k_is)
    (case a_is_name => k_is)
    (case l_is_name => k_is)
    (case c_is_name => k_is)
    (case k_is_name => k_is)
    (case a_is_fault => k_is)
    (case l_is_fault => k_is)
    (case c_is_fault => k_is)
    (case k_is_fault => k_is)
    (case a_is_value => k_is)
    (case l_is_value => k_is)
    (case c_is_value => k_is)
    (case k_is_value => k_is)
    (case a_settled => k_is)
    (case l_settled => k_is)
    (case c_settled => k_is)
    (case k_settled => k_is)
    (case a_check_name => k_is)
    (case l_check_name => k_is)
    (case c_check_name => k_is)
    (case k_check_name => k_is)
    (case a_checked_names => k_is)
    (case l_checked_names => k_is)
    (case c_checked_names => k_is)
    (case k_checked_names => k_is)
    (case a_each_once => k_is)
    (case l_each_once => k_is)
    (case c_each_once => k_is)
    (case k_each_once => k_is)
    (case a_look_in_turn => k_is)
    (case l_look_in_turn => k_is)
    (case c_look_in_turn => k_is)
    (case k_look_in_turn => k_is)
    (case a_writes_number => k_is)
    (case l_writes_number => k_is)
    (case c_writes_number => k_is)
    (case k_writes_number => k_is)
    (case a_is_reckoning => k_is)
    (case l_is_reckoning => k_is)
    (case c_is_reckoning => k_is)
    (case k_is_reckoning => k_is)
    (case a_names_in => k_is)
    (case l_names_in => k_is)
    (case c_names_in => k_is)
    (case k_names_in => k_is)
    (case a_bounded => k_is)
    (case l_bounded => k_is)
    (case c_bounded => k_is)
    (case k_bounded => k_is)
    (case a_reckoned => k_is)
    (case l_reckoned => k_is)
    (case c_reckoned => k_is)
    (case k_reckoned => k_is)
    (case a_joined => k_is)
    (case l_joined => k_is)
    (case c_joined => k_is)
    (case k_joined => k_is)
    (case a_number_of => k_is)
    (case l_number_of => k_is)
    (case c_number_of => k_is)
    (case k_number_of => k_is)
    (case a_sum_of => k_is)
    (case l_sum_of => k_is)
    (case c_sum_of => k_is)
    (case k_sum_of => k_is)
    (case a_most_of => k_is)
    (case l_most_of => k_is)
    (case c_most_of => k_is)
    (case k_most_of => k_is)
    (case a_least_of => k_is)
    (case l_least_of => k_is)
    (case c_least_of => k_is)
    (case k_least_of => k_is)
    (case a_how_many => k_is)
    (case l_how_many => k_is)
    (case c_how_many => k_is)
    (case k_how_many => k_is)
    (case a_refuse_unless => k_is)
    (case l_refuse_unless => k_is)
    (case c_refuse_unless => k_is)
    (case k_refuse_unless => k_is)
    (case a_check_names => k_is)
    (case l_check_names => k_is)
    (case c_check_names => k_is)
    (case k_check_names => k_is)
    (case a_columns_in => k_is)
    (case l_columns_in => k_is)
    (case c_columns_in => k_is)
    (case k_columns_in => k_is)
    (case a_function_of => k_is)
    (case l_function_of => k_is)
    (case c_function_of => k_is)
    (case k_function_of => k_is)
    (case w_function_of => k_is)
    (case t_function_of => exact rfl)
    (case a_read_cells => k_is)
    (case l_read_cells => k_is)
    (case c_read_cells => k_is)
    (case k_read_cells => k_is)
    (case a_read_above => k_is)
    (case l_read_above => k_is)
    (case c_read_above => k_is)
    (case k_read_above => k_is)
    (case a_read_group => k_is)
    (case l_read_group => k_is)
    (case c_read_group => k_is)
    (case k_read_group => k_is)
    (case a_read_lookup => k_is)
    (case l_read_lookup => k_is)
    (case c_read_lookup => k_is)
    (case k_read_lookup => k_is)
    (case a_read_mend => k_is)
    (case l_read_mend => k_is)
    (case c_read_mend => k_is)
    (case k_read_mend => k_is)
    (case a_read_rule => k_is)
    (case l_read_rule => k_is)
    (case c_read_rule => k_is)
    (case k_read_rule => k_is)
    (case a_law_cell => k_is)
    (case l_law_cell => k_is)
    (case c_law_cell => k_is)
    (case k_law_cell => k_is)
    (case a_law_number => k_is)
    (case l_law_number => k_is)
    (case c_law_number => k_is)
    (case k_law_number => k_is)
    (case a_law_words => k_is)
    (case l_law_words => k_is)
    (case c_law_words => k_is)
    (case k_law_words => k_is)
    (case a_law_signed => k_is)
    (case l_law_signed => k_is)
    (case c_law_signed => k_is)
    (case k_law_signed => k_is)
    (case a_law_due => k_is)
    (case l_law_due => k_is)
    (case c_law_due => k_is)
    (case k_law_due => k_is)
    (case a_law_once => k_is)
    (case l_law_once => k_is)
    (case c_law_once => k_is)
    (case k_law_once => k_is)
    (case a_law => k_is)
    (case l_law => k_is)
    (case c_law => k_is)
    (case k_law => k_is)
    (case w_law => k_is)
    (case t_law => exact rfl)
    (case ne_function_of_law => decide)
    (case notabs => kernel_rfl)
    (case i_OF_GROUPS => k_is)
    (case j_OF_GROUPS => k_is)
    (case dk_OF_GROUPS => k_keys)
    (case lo_OF_GROUPS => decide)
    (case dv_OF_GROUPS_sum => k_is)
    (case dv_OF_GROUPS_most => k_is)
    (case dv_OF_GROUPS_least => k_is)
    (case dv_OF_GROUPS_many => k_is)
    (case i_KINDS => k_is)
    (case j_KINDS => k_is)
    (case dk_KINDS => k_keys)
    (case lo_KINDS => decide)
    (case dv_KINDS_cells => k_is)
    (case dv_KINDS_above => k_is)
    (case dv_KINDS_group => k_is)
    (case dv_KINDS_lookup => k_is)
    (case dv_KINDS_mend => k_is)
    (case a_Rule => k_is)
    (case pg_Rule => k_is)
    (case hd_Rule => k_is)
    (case po_Rule => k_is)
    (case sa_Rule => k_is)
    (case mk_Rule => k_is)
    (case kc_Rule => k_is)
    (case hc_Rule => k_is)
    (case na_Rule_function => k_is)
    (case a_Rule_init => k_is)
    (case j_Rule_init => k_is)
    (case l_Rule_init => k_is)
    (case c_Rule_init => k_is)
    (case k_Rule_init => k_is)
    (case vg_Rule_init => k_is)
    (case vr_Rule_init => k_is)
    (case vf_Rule_init => k_is)
    (case a_Rule_reckon => k_is)
    (case j_Rule_reckon => k_is)
    (case l_Rule_reckon => k_is)
    (case c_Rule_reckon => k_is)
    (case k_Rule_reckon => k_is)
    (case ow4 => k_is)
    (case ow5 => k_is)
    (case mo_Rule => k_is)
    (case a_Cells => k_is)
    (case pg_Cells => k_is)
    (case hd_Cells => k_is)
    (case po_Cells => k_is)
    (case sa_Cells => k_is)
    (case mk_Cells => k_is)
    (case kc_Cells => k_is)
    (case hc_Cells => k_is)
    (case na_Cells_function => k_is)
    (case na_Cells_names => k_is)
    (case a_Cells_init => k_is)
    (case j_Cells_init => k_is)
    (case l_Cells_init => k_is)
    (case c_Cells_init => k_is)
    (case k_Cells_init => k_is)
    (case a_Cells_leans => k_is)
    (case j_Cells_leans => k_is)
    (case l_Cells_leans => k_is)
    (case c_Cells_leans => k_is)
    (case k_Cells_leans => k_is)
    (case a_Cells_gather => k_is)
    (case j_Cells_gather => k_is)
    (case l_Cells_gather => k_is)
    (case c_Cells_gather => k_is)
    (case k_Cells_gather => k_is)
    (case ai_Cells_Rule_reckon => k_is)
    (case mo_Cells => k_is)
    (case a_Above => k_is)
    (case pg_Above => k_is)
    (case hd_Above => k_is)
    (case po_Above => k_is)
    (case sa_Above => k_is)
    (case mk_Above => k_is)
    (case kc_Above => k_is)
    (case hc_Above => k_is)
    (case na_Above_function => k_is)
    (case na_Above_names => k_is)
    (case na_Above_first => k_is)
    (case a_Above_init => k_is)
    (case j_Above_init => k_is)
    (case l_Above_init => k_is)
    (case c_Above_init => k_is)
    (case k_Above_init => k_is)
    (case a_Above_leans => k_is)
    (case j_Above_leans => k_is)
    (case l_Above_leans => k_is)
    (case c_Above_leans => k_is)
    (case k_Above_leans => k_is)
    (case a_Above_gather => k_is)
    (case j_Above_gather => k_is)
    (case l_Above_gather => k_is)
    (case c_Above_gather => k_is)
    (case k_Above_gather => k_is)
    (case ai_Above_Rule_reckon => k_is)
    (case mo_Above => k_is)
    (case a_Group => k_is)
    (case pg_Group => k_is)
    (case hd_Group => k_is)
    (case po_Group => k_is)
    (case sa_Group => k_is)
    (case mk_Group => k_is)
    (case kc_Group => k_is)
    (case hc_Group => k_is)
    (case na_Group_function => k_is)
    (case na_Group_key => k_is)
    (case na_Group_name => k_is)
    (case a_Group_init => k_is)
    (case j_Group_init => k_is)
    (case l_Group_init => k_is)
    (case c_Group_init => k_is)
    (case k_Group_init => k_is)
    (case a_Group_leans => k_is)
    (case j_Group_leans => k_is)
    (case l_Group_leans => k_is)
    (case c_Group_leans => k_is)
    (case k_Group_leans => k_is)
    (case a_Group_gather => k_is)
    (case j_Group_gather => k_is)
    (case l_Group_gather => k_is)
    (case c_Group_gather => k_is)
    (case k_Group_gather => k_is)
    (case ai_Group_Rule_reckon => k_is)
    (case mo_Group => k_is)
    (case a_Lookup => k_is)
    (case pg_Lookup => k_is)
    (case hd_Lookup => k_is)
    (case po_Lookup => k_is)
    (case sa_Lookup => k_is)
    (case mk_Lookup => k_is)
    (case kc_Lookup => k_is)
    (case hc_Lookup => k_is)
    (case na_Lookup_function => k_is)
    (case na_Lookup_key => k_is)
    (case na_Lookup_other => k_is)
    (case na_Lookup_theirs => k_is)
    (case na_Lookup_names => k_is)
    (case a_Lookup_init => k_is)
    (case j_Lookup_init => k_is)
    (case l_Lookup_init => k_is)
    (case c_Lookup_init => k_is)
    (case k_Lookup_init => k_is)
    (case a_Lookup_leans => k_is)
    (case j_Lookup_leans => k_is)
    (case l_Lookup_leans => k_is)
    (case c_Lookup_leans => k_is)
    (case k_Lookup_leans => k_is)
    (case a_Lookup_gather => k_is)
    (case j_Lookup_gather => k_is)
    (case l_Lookup_gather => k_is)
    (case c_Lookup_gather => k_is)
    (case k_Lookup_gather => k_is)
    (case ai_Lookup_Rule_reckon => k_is)
    (case mo_Lookup => k_is)
    (case a_Mend => k_is)
    (case pg_Mend => k_is)
    (case hd_Mend => k_is)
    (case po_Mend => k_is)
    (case sa_Mend => k_is)
    (case mk_Mend => k_is)
    (case kc_Mend => k_is)
    (case hc_Mend => k_is)
    (case na_Mend_function => k_is)
    (case na_Mend_name => k_is)
    (case a_Mend_init => k_is)
    (case j_Mend_init => k_is)
    (case l_Mend_init => k_is)
    (case c_Mend_init => k_is)
    (case k_Mend_init => k_is)
    (case a_Mend_leans => k_is)
    (case j_Mend_leans => k_is)
    (case l_Mend_leans => k_is)
    (case c_Mend_leans => k_is)
    (case k_Mend_leans => k_is)
    (case a_Mend_gather => k_is)
    (case j_Mend_gather => k_is)
    (case l_Mend_gather => k_is)
    (case c_Mend_gather => k_is)
    (case k_Mend_gather => k_is)
    (case ai_Mend_Rule_reckon => k_is)
    (case mo_Mend => k_is)
    (case si_Rule_Above => kit_is)
    (case si_Cells_Above => kit_is)
    (case si_Above_Above => kit_is)
    (case si_Group_Above => kit_is)
    (case si_Lookup_Above => kit_is)
    (case si_Mend_Above => kit_is)
