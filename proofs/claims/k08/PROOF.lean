import PyProof.Rows.All
import Wide.All
import OpenK.AllK
import Wide.FinOn
import PyProof.EqAt
import PyProof.EqKinds
import PyProof.TupleCall
import Lean
import PySem.Challenge.RW_lazycols_k08_tables_refuse
set_option Elab.async false
set_option linter.all false
set_option maxRecDepth 100000
set_option maxHeartbeats 4000000
set_option genSizeOfSpec false
/-! THE HAND LAYER, for ints, bools, texts, own classes, LISTS and tuples (index, slices, in, append, pop ..), calls, loops. Paste it whole ahead of your own text; what your proof does not reach may be deleted. -/
namespace L2
open PySem PySem.Spec PyProof.Rows

/-- a key: an int or a str -/
abbrev Key := Sum Int Str
def keyIs : Key → Value → Bool
  | .inl k, v => Value.isInt k v
  | .inr x, v => Value.isStrOf x v
def keyH (w : World) : Key → Int
  | .inl k => hashInt k
  | .inr x => hashStr w x
theorem keyIs_shape : ∀ {k : Key} {v : Value}, keyIs k v = true → (∃ i t, k = Sum.inl i ∧ v = Value.int i t) ∨ (∃ x t, k = Sum.inr x ∧ v = Value.str x t)
  | .inl i, v, h => by
    obtain ⟨t, e⟩ := Value.isInt_shape (k := i) (v := v) h
    exact .inl ⟨i, t, rfl, e⟩
  | .inr x, v, h => by
    obtain ⟨t, e⟩ := Value.isStrOf_shape (x := x) (v := v) h
    exact .inr ⟨x, t, rfl, e⟩
theorem keyIs_int (i : Int) (t : Tok) : keyIs (.inl i) (.int i t) = true := by simp [keyIs, Value.isInt]
theorem keyIs_str (x : Str) (t : Tok) : keyIs (.inr x) (.str x t) = true := by simp [keyIs, Value.isStrOf]
theorem key_ll (a b : Int) : decide ((Sum.inl a : Key) = Sum.inl b) = (a == b) := by
  by_cases e : a = b
  · subst e; simp
  · have h : ¬ (Sum.inl a : Key) = Sum.inl b := fun q => e (Sum.inl.inj q)
    rw [decide_eq_false h]
    exact (beq_eq_false_iff_ne.mpr e).symm
theorem key_rr (a b : Str) : decide ((Sum.inr a : Key) = Sum.inr b) = decide (a = b) := by
  by_cases e : a = b
  · subst e; simp
  · have h : ¬ (Sum.inr a : Key) = Sum.inr b := fun q => e (Sum.inr.inj q)
    rw [decide_eq_false h, decide_eq_false e]
theorem key_lr (a : Int) (b : Str) : decide ((Sum.inl a : Key) = Sum.inr b) = false := decide_eq_false (fun q => nomatch q)
theorem key_rl (a : Str) (b : Int) : decide ((Sum.inr a : Key) = Sum.inl b) = false := decide_eq_false (fun q => nomatch q)

def mixKind (prog : Program) (w : World) : PySem.KeyKind prog w Key where
  is := keyIs
  hash := keyH w
  inj := fun v a b ha hb => by
    rcases keyIs_shape ha with ⟨i, t, rfl, rfl⟩ | ⟨x, t, rfl, rfl⟩
    · rcases keyIs_shape hb with ⟨j, u, rfl, e⟩ | ⟨y, u, rfl, e⟩
      · injection e with e1 _; rw [e1]
      · exact nomatch e
    · rcases keyIs_shape hb with ⟨j, u, rfl, e⟩ | ⟨y, u, rfl, e⟩
      · exact nomatch e
      · injection e with e1 _; rw [e1]
  byValue := fun k v h => by
    rcases keyIs_shape h with ⟨i, t, rfl, rfl⟩ | ⟨x, t, rfl, rfl⟩ <;> rfl
  pyHash := fun hv h => by
    rcases keyIs_shape hv with ⟨i, t, rfl, rfl⟩ | ⟨x, t, rfl, rfl⟩
    · exact wpAny_pyHash_int h
    · exact wpAny_pyHash_str h
  eqBool := fun hu hv h => by
    rcases keyIs_shape hu with ⟨i, t, rfl, rfl⟩ | ⟨x, t, rfl, rfl⟩
    · rcases keyIs_shape hv with ⟨j, u, rfl, rfl⟩ | ⟨y, u, rfl, rfl⟩
      · rw [key_ll] at h; exact wpAny_eqBool_int h
      · rw [key_lr] at h; exact SeqAt.EqAt.int_str i t y u _ _ _ _ h
    · rcases keyIs_shape hv with ⟨j, u, rfl, rfl⟩ | ⟨y, u, rfl, rfl⟩
      · rw [key_rl] at h; exact SeqAt.EqAt.str_int x t j u _ _ _ _ h
      · rw [key_rr] at h; exact wpAny_eqBool_str h
  «strs» := fun k x t v h => by
    rcases keyIs_shape h with ⟨i, u, rfl, e⟩ | ⟨y, u, rfl, e⟩
    · exact nomatch e
    · injection e with e1 _
      subst e1
      cases v <;> rfl

theorem mixKind_int (prog : Program) (w : World) (i : Int) (t : Tok) : (mixKind prog w).is (.inl i) (.int i t) = true := keyIs_int i t
theorem mixKind_str (prog : Program) (w : World) (x : Str) (t : Tok) : (mixKind prog w).is (.inr x) (.str x t) = true := keyIs_str x t
end L2

namespace L2
open PySem PySem.Spec PyProof.Rows

/-- a value, without the heap -/
inductive V where
  | non | bl (b : Bool) | int (i : Int) | str (x : Str) | byt (b : Array UInt8) | flt (b : UInt64) | ref (a : Addr) | ty (n : String)
  deriving DecidableEq

def RelV : V → Value → Prop
  | .non, u => u = Value.none
  | .bl b, u => u = Value.bool b
  | .int i, u => ∃ t, u = Value.int i t
  | .str x, u => ∃ t, u = Value.str x t
  | .byt b, u => ∃ t, u = Value.bytes b t
  | .flt b, u => ∃ t, u = Value.float b t
  | .ref a, u => u = Value.ref a
  | .ty n, u => u = Value.type n

abbrev Vals : List V → List Value → Prop := Paired RelV
theorem Vals.length {xs : List V} {us : List Value} (r : Vals xs us) : xs.length = us.length := Paired.length r
theorem Vals.get : ∀ {xs : List V} {us : List Value} {i : Nat} {x : V}, Vals xs us → xs[i]? = some x → ∃ u, us[i]? = some u ∧ RelV x u
  | _, _, _, _, .nil, e => by simp at e
  | _, _, 0, _, .cons r _, e => by simp at e; subst e; exact ⟨_, rfl, r⟩
  | _, _, i + 1, x, .cons _ t, e => by
    obtain ⟨u, h1, h2⟩ := Vals.get (i := i) (x := x) t (by simpa using e)
    exact ⟨u, by simpa using h1, h2⟩
theorem Vals.set {x : V} {u : Value} (r : RelV x u) : ∀ {xs : List V} {us : List Value} (i : Nat), Vals xs us → Vals (xs.set i x) (us.set i u)
  | _, _, _, .nil => .nil
  | _, _, 0, .cons _ t => .cons r t
  | _, _, i + 1, .cons q t => .cons q (Vals.set r i t)
theorem Vals.append : ∀ {xs ys : List V} {us ws : List Value}, Vals xs us → Vals ys ws → Vals (xs ++ ys) (us ++ ws)
  | _, _, _, _, .nil, s => s
  | _, _, _, _, .cons r t, s => .cons r (Vals.append t s)
theorem Vals.take : ∀ {xs : List V} {us : List Value} (n : Nat), Vals xs us → Vals (xs.take n) (us.take n)
  | _, _, 0, _ => .nil
  | _, _, _ + 1, .nil => .nil
  | _, _, n + 1, .cons r t => .cons r (Vals.take n t)
theorem Vals.drop : ∀ {xs : List V} {us : List Value} (n : Nat), Vals xs us → Vals (xs.drop n) (us.drop n)
  | _, _, 0, r => r
  | _, _, _ + 1, .nil => .nil
  | _, _, n + 1, .cons _ t => Vals.drop n t
def RelO : Option V → Option Value → Prop
  | some v, some u => RelV v u
  | none, none => True
  | _, _ => False
def KV {κ : Type} : List (κ × V) → List (κ × Value) → Prop := Paired fun (p : κ × V) (q : κ × Value) => p.1 = q.1 ∧ RelV p.2 q.2

/-- a key of a dict (00_mix): an int or a text -/
def kV : Key → V
  | .inl i => .int i
  | .inr x => .str x

/-- what stands at a tracked address -/
inductive HO where
  /-- a list -/
  | lst (xs : List V)
  /-- a tuple (never changes) -/
  | tup (xs : List V)
  /-- a dict whose keys are ints and texts; one whose keys are tuples of ints and texts (the empty one is both) -/
  | dK (kvs : List (Key × V)) | dT (kvs : List (List Key × V))
  /-- a set of ints: its members, its size -/
  | set (S : Int → Bool) (n : Nat)
  /-- an instance of the class at C, its dict at dx, its attributes -/
  | ins (C dx : Addr) (fs : List (Str × V))
  /-- the dict of the instance at x -/
  | own (x : Addr)
  /-- the dict of an exception -/
  | xd (fs : List (Str × V))
  /-- a bound method, f of x -/
  | met (f x : Addr)
  /-- a range object lo, lo + 1, .. below hi -/
  | rng (lo hi : Int)
  /-- a thing that is known to the object (the script; a dict while a loop walks it): read, never written while it is so -/
  | frz (o : Obj) (u : HO)
  /-- a code object's table -/
  | tbl (ps : Array Value)
  /-- any other thing, by what is true of its one object (a def of one's own: SetO a S n := HO.ext fun h => ..) -/
  | ext (φ : Heap → Prop)

abbrev Hp := Addr → Option HO
def upd (H : Hp) (a : Addr) (o : HO) : Hp := fun b => if b = a then some o else H b
theorem upd_same {H : Hp} {a : Addr} {o : HO} : upd H a o a = some o := by unfold upd; rw [if_pos rfl]
theorem upd_ne {H : Hp} {a b : Addr} {o : HO} (h : b ≠ a) : upd H a o b = H b := by unfold upd; rw [if_neg h]
theorem upd_upd {H : Hp} {a : Addr} {o u : HO} : upd (upd H a o) a u = upd H a u := by
  funext b; unfold upd; split <;> rfl
/-- two objects of different content stand apart -/
theorem ne_of {H : Hp} {a b : Addr} {o u : HO} (h : H a = some o) (h' : H b = some u) (d : o ≠ u) : a ≠ b := by
  intro e; subst e; rw [h] at h'; exact d (Option.some.inj h')
theorem ne_of_none {H : Hp} {a b : Addr} {o : HO} (h : H a = some o) (h' : H b = none) : a ≠ b := by
  intro e; subst e; rw [h] at h'; cases h'

section
variable (P : Program) (w : World)
def ObjOk (H : Hp) (h : Heap) (a : Addr) : HO → Prop
  | .lst xs => xs.length ≤ sizeLine ∧ ∃ (its : List Value) (n : Nat), Vals xs its ∧ h.get? a = some { cls := .type "list", data := .seq its.toArray n }
  | .tup xs => xs.length ≤ sizeLine ∧ ∃ its : List Value, Vals xs its ∧ IsTup h a its.toArray
  | .dK kvs => kvs.length ≤ sizeLine ∧ (a == sysModules) = false ∧ ∃ vs, KV kvs vs ∧ h.DictOf (mixKind P w) a vs
  | .dT kvs => kvs.length ≤ sizeLine ∧ (a == sysModules) = false ∧ ∃ xs : List (List Key × Addr × Value),
      Paired (fun (p : List Key × V) (q : List Key × Addr × Value) => p.1 = q.1 ∧ H q.2.1 = some (.tup (p.1.map kV)) ∧ RelV p.2 q.2.2) kvs xs ∧
      ∃ o es ep, h.get? a = some o ∧ o.ExactDict ∧ o.data = .dict es ep ∧ es.toList = xs.map (entryOfKey (tupleKind (mixKind P w))) ∧ (xs.map (·.1)).Nodup
  | .set S n => h.SetOf (intKind P w) a S n
  | .ins C dx fs => H dx = some (.own a) ∧ fs.length ≤ 1000 ∧ dx ≠ a ∧ h.get? a = some (PySem.W.instObj C dx) ∧
      ∃ mA, h.Ns1 dx mA ∧ (∀ f, RelO (fs.lookup f) (mA f)) ∧ PySem.Within mA (fs.map (·.1))
  | .own _ => ∃ o, h.get? a = some o
  | .xd fs => ∃ mA, h.Ns1 a mA ∧ ∀ f, RelO (fs.lookup f) (mA f)
  | .rng lo hi => ∃ t u v, h.get? a = some { cls := .type "range", data := .fields #[.int lo t, .int hi u, .int 1 v] }
  | .frz o u => h.get? a = some o ∧ ObjOk H h a u
  | .tbl ps => h.get? a = some { cls := .none, data := .fields ps }
  | .met f x => h.get? a = some (PySem.W.methodObj (.ref f) (.ref x))
  | .ext φ => φ h ∧ (∃ o, h.get? a = some o) ∧ ∀ h1 h2 : Heap, φ h1 → (∀ o, h1.get? a = some o → h2.get? a = some o) → φ h2
/-- the abstract heap is held -/
def HOk (H : Hp) (h : Heap) : Prop := ∀ a o, H a = some o → ObjOk P w H h a o
end

section
variable {P : Program} {w : World} {H H' : Hp} {h h' : Heap} {a : Addr} {o : HO}
theorem ObjOk.lt (x : ObjOk P w H h a o) : a < h.objs.size := by
  cases o with
  | lst xs => obtain ⟨_, _, _, _, e⟩ := x; exact Heap.lt_size e
  | tup xs => obtain ⟨_, _, _, p⟩ := x; exact p.lt
  | dK kvs => obtain ⟨_, _, _, _, o, _, _, e, _⟩ := x; exact Heap.lt_size e
  | dT kvs => obtain ⟨_, _, _, _, o, _, _, e, _⟩ := x; exact Heap.lt_size e
  | set S n => obtain ⟨o, _, _, _, e, _⟩ := x; exact Heap.lt_size e
  | ins C dx fs => obtain ⟨_, _, _, e, _⟩ := x; exact Heap.lt_size e
  | own y => obtain ⟨_, e⟩ := x; exact Heap.lt_size e
  | xd fs => obtain ⟨_, ⟨_, _, _, e, _⟩, _⟩ := x; exact Heap.lt_size e
  | rng lo hi => obtain ⟨_, _, _, e⟩ := x; exact Heap.lt_size e
  | frz ob u => obtain ⟨e, _⟩ := x; exact Heap.lt_size e
  | tbl ps => exact Heap.lt_size (show h.get? a = some _ from x)
  | met f y => exact Heap.lt_size (show h.get? a = some _ from x)
  | ext φ => obtain ⟨_, ⟨_, e⟩, _⟩ := x; exact Heap.lt_size e
theorem Paired.mapP {α β : Type} {F G : α → β → Prop} : ∀ {l₁ : List α} {l₂ : List β}, Paired F l₁ l₂ → (∀ a b, F a b → G a b) → Paired G l₁ l₂
  | _, _, .nil, _ => .nil
  | _, _, .cons r t, f => .cons (f _ _ r) (Paired.mapP t f)
/-- what an object's description leans on: its own object, its own dict, the tuples -/
theorem ObjOk.stay (x : ObjOk P w H h a o) (k : ∀ b u, (b = a ∨ H b = some (.own a)) → h.get? b = some u → h'.get? b = some u)
    (ho : ∀ b, H b = some (.own a) → H' b = some (.own a)) (ht : ∀ b xs, H b = some (.tup xs) → H' b = some (.tup xs)) : ObjOk P w H' h' a o := by
  induction o with
  | lst xs => obtain ⟨z, its, n, r, e⟩ := x; exact ⟨z, its, n, r, k _ _ (.inl rfl) e⟩
  | tup xs => obtain ⟨z, its, r, ob, e, c⟩ := x; exact ⟨z, its, r, ob, k _ _ (.inl rfl) e, c⟩
  | dK kvs => obtain ⟨z, y, vs, r, ob, es, ep, e, c⟩ := x; exact ⟨z, y, vs, r, ob, es, ep, k _ _ (.inl rfl) e, c⟩
  | dT kvs =>
    obtain ⟨z, y, xs, r, ob, es, ep, e, c⟩ := x
    exact ⟨z, y, xs, Paired.mapP r fun p q z => ⟨z.1, ht _ _ z.2.1, z.2.2⟩, ob, es, ep, k _ _ (.inl rfl) e, c⟩
  | set S n => obtain ⟨ob, es, ep, t, e, c⟩ := x; exact ⟨ob, es, ep, t, k _ _ (.inl rfl) e, c⟩
  | ins C dx fs =>
    obtain ⟨d, z, ne, e, mA, ⟨od, es, ep, e2, c⟩, r⟩ := x
    exact ⟨ho _ d, z, ne, k _ _ (.inl rfl) e, mA, ⟨od, es, ep, k _ _ (.inr d) e2, c⟩, r⟩
  | own y => obtain ⟨ob, e⟩ := x; exact ⟨ob, k _ _ (.inl rfl) e⟩
  | xd fs => obtain ⟨mA, ⟨od, es, ep, e, c⟩, r⟩ := x; exact ⟨mA, ⟨od, es, ep, k _ _ (.inl rfl) e, c⟩, r⟩
  | rng lo hi => obtain ⟨t, u, v, e⟩ := x; exact ⟨t, u, v, k _ _ (.inl rfl) e⟩
  | frz ob u ih => obtain ⟨e, q⟩ := x; exact ⟨k _ _ (.inl rfl) e, ih q⟩
  | tbl ps =>
    have e : h.get? a = some { cls := .none, data := .fields ps } := x
    show h'.get? a = some { cls := .none, data := .fields ps }
    exact k a _ (.inl rfl) e
  | met f y =>
    have e : h.get? a = some (PySem.W.methodObj (.ref f) (.ref y)) := x
    show h'.get? a = some (PySem.W.methodObj (.ref f) (.ref y))
    exact k a _ (.inl rfl) e
  | ext φ => obtain ⟨p, ⟨o, e⟩, st⟩ := x; exact ⟨st _ _ p fun o q => k _ _ (.inl rfl) q, ⟨o, k _ _ (.inl rfl) e⟩, st⟩
theorem HOk.lt (x : HOk P w H h) (e : H a = some o) : a < h.objs.size := (x a o e).lt
theorem HOk.fresh (x : HOk P w H h) (e : h.objs.size ≤ a) : H a = none := by
  cases q : H a with
  | none => rfl
  | some u => exact absurd (Nat.lt_of_lt_of_le (x.lt q) e) (Nat.lt_irrefl _)
/-- every object of the heap is kept -/
theorem HOk.kept (x : HOk P w H h) (k : ∀ b u, h.get? b = some u → h'.get? b = some u) : HOk P w H h' := fun a o e =>
  (x a o e).stay (fun b u _ q => k b u q) (fun _ q => q) fun _ _ q => q
/-- a new object is laid and tracked -/
theorem HOk.laid (x : HOk P w H h) (k : ∀ b u, h.get? b = some u → h'.get? b = some u) (hp : h.objs.size ≤ a) (new : ObjOk P w (upd H a o) h' a o) : HOk P w (upd H a o) h' := fun b u e => by
  have hn := x.fresh hp
  by_cases hb : b = a
  · subst hb; rw [upd_same] at e; cases e; exact new
  · rw [upd_ne hb] at e
    exact (x b u e).stay (fun c v _ q => k c v q) (fun c q => by rw [upd_ne (ne_of_none q hn)]; exact q) fun c xs q => by rw [upd_ne (ne_of_none q hn)]; exact q
end

/-- what may be read as u: it is u, or a known u -/
def Rd (H : Hp) (a : Addr) (u : HO) : Prop := H a = some u ∨ ∃ o, H a = some (.frz o u)
theorem Rd.ok {P : Program} {w : World} {H : Hp} {h : Heap} {a : Addr} {u : HO} (r : Rd H a u) (x : HOk P w H h) : ObjOk P w H h a u := by
  rcases r with r | ⟨o, r⟩
  · exact x a u r
  · obtain ⟨_, q⟩ := x a _ r
    exact q
/-- what may be written -/
def Mut : Option HO → Prop
  | some (.lst _) => True
  | some (.dK _) => True
  | some (.dT _) => True
  | some (.set _ _) => True
  | some (.ins _ _ _) => True
  | some (.ext _) => True
  | _ => False
section
variable {P : Program} {w : World} {H : Hp} {h h' : Heap} {x e : Addr} {o' : HO}
/-- the object at e is changed: x itself, or the dict of the instance x -/
theorem HOk.write (ok : HOk P w H h) (mu : Mut (H x)) (he : e = x ∨ H e = some (.own x)) (k : ∀ b u, b ≠ e → h.get? b = some u → h'.get? b = some u) (heo : ∃ u, h'.get? e = some u)
    (new : ObjOk P w (upd H x o') h' x o') : HOk P w (upd H x o') h' := fun b u q => by
  have nown : ∀ c y, H c = some (.own y) → c ≠ x := fun c y r z => by subst z; rw [r] at mu; exact mu
  have ntup : ∀ c xs, H c = some (.tup xs) → c ≠ x := fun c xs r z => by subst z; rw [r] at mu; exact mu
  by_cases hb : b = x
  · subst hb; rw [upd_same] at q; cases q; exact new
  · rw [upd_ne hb] at q
    by_cases hbe : b = e
    · have q' : H b = some (.own x) := by
        rcases he with z | z
        · exact absurd (hbe.trans z) hb
        · rw [hbe]; exact z
      rw [q] at q'; cases q'
      obtain ⟨v, hv⟩ := heo
      exact ⟨v, by rw [hbe]; exact hv⟩
    · refine (ok b u q).stay (fun c v hc r => k c v ?_ r) (fun c r => by rw [upd_ne (nown c b r)]; exact r) fun c xs r => by rw [upd_ne (ntup c xs r)]; exact r
      rcases hc with rfl | hc
      · exact hbe
      · rintro rfl
        rcases he with z | z
        · exact nown c b hc z
        · rw [hc] at z; cases z; exact hb rfl
end

/-! ### kept unless tracked; of the frames at fs (the callers') the slots may change (an exception that passes writes there); of the records at ex (iterators) nothing is said -/
structure Un (fs ex : List Addr) (H H' : Hp) (h h' : Heap) : Prop where
  keep : ∀ b o, h.get? b = some o → H b = none → b ∉ fs → b ∉ ex → h'.get? b = some o
  slot : ∀ b o, h.get? b = some o → H b = none → b ∈ fs → b ∉ ex → ∃ sl, h'.get? b = some { o with slots := sl }
  free : ∀ b o, h.get? b = some o → H b = none → b ∉ ex → H' b = none
  there : ∀ b o, h.get? b = some o → b ∉ ex → ∃ o', h'.get? b = some o'
  tups : ∀ b xs, H b = some (.tup xs) → H' b = some (.tup xs)
  frzs : ∀ b o u, H b = some (.frz o u) → H' b = some (.frz o u)
  tbls : ∀ b ps, H b = some (.tbl ps) → ∃ more, H' b = some (.tbl (ps ++ more))
section
variable {fs fs' ex ex' : List Addr} {H H1 H2 : Hp} {h h1 h2 h' : Heap} {a x e : Addr} {o : HO}
theorem Un.any (u : Un fs ex H H1 h h1) {b : Addr} {ob : Obj} (q : h.get? b = some ob) (n : H b = none) (hx : b ∉ ex) : ∃ sl, h1.get? b = some { ob with slots := sl } := by
  by_cases hb : b ∈ fs
  · exact u.slot b ob q n hb hx
  · exact ⟨ob.slots, u.keep b ob q n hb hx⟩
theorem Un.kept (k : ∀ b u, h.get? b = some u → h'.get? b = some u) : Un fs ex H H h h' :=
  ⟨fun b ob q _ _ _ => k b ob q, fun b ob q _ _ _ => ⟨ob.slots, k b ob q⟩, fun _ _ _ n _ => n, fun b ob q _ => ⟨ob, k b ob q⟩, fun _ _ q => q, fun _ _ _ q => q, fun _ ps q => ⟨#[], by rw [q]; simp⟩⟩
theorem Un.refl : Un fs ex H H h h := Un.kept fun _ _ q => q
theorem Un.laid (k : ∀ b u, h.get? b = some u → h'.get? b = some u) (hp : h.objs.size ≤ a) (hn : H a = none) : Un fs ex H (upd H a o) h h' where
  keep := fun b u q _ _ _ => k b u q
  slot := fun b u q _ _ _ => ⟨u.slots, k b u q⟩
  free := fun b u q n _ => by rw [upd_ne (Nat.ne_of_lt (Nat.lt_of_lt_of_le (Heap.lt_size q) hp))]; exact n
  there := fun b u q _ => ⟨u, k b u q⟩
  tups := fun b xs q => by rw [upd_ne (ne_of_none q hn)]; exact q
  frzs := fun b u xs q => by rw [upd_ne (ne_of_none q hn)]; exact q
  tbls := fun b ps q => ⟨#[], by rw [upd_ne (ne_of_none q hn), q]; simp⟩
theorem Un.write (mu : Mut (H x)) (he : e = x ∨ H e = some (.own x)) (k : ∀ b u, b ≠ e → h.get? b = some u → h'.get? b = some u) (heo : ∃ u, h'.get? e = some u) : Un fs ex H (upd H x o) h h' := by
  have hx : ∀ b, H b = none → b ≠ x := fun b n z => by subst z; rw [n] at mu; exact mu
  have hb : ∀ b, H b = none → b ≠ e := fun b n z => by
    subst z
    rcases he with r | r
    · exact hx b n r
    · rw [n] at r; cases r
  have hm : ∀ b u, H b = some u → ¬ Mut (some u) → b ≠ x := fun b u q nm z => by subst z; rw [q] at mu; exact nm mu
  refine ⟨fun b u q n _ _ => k b u (hb b n) q, fun b u q n _ _ => ⟨u.slots, k b u (hb b n) q⟩, fun b u q n _ => by rw [upd_ne (hx b n)]; exact n, fun b u q _ => ?_,
    fun b xs q => by rw [upd_ne (hm b _ q fun z => z)]; exact q, fun b u xs q => by rw [upd_ne (hm b _ q fun z => z)]; exact q, fun b ps q => ⟨#[], by rw [upd_ne (hm b _ q fun z => z), q]; simp⟩⟩
  by_cases hbe : b = e
  · subst hbe; exact heo
  · exact ⟨u, k b u hbe q⟩
end

/-! ### the heap without what is tracked -/
def trk (h : Heap) (H : Hp) : List Addr := (List.range h.objs.size).filter fun a => (H a).isSome
def hidT (h : Heap) (H : Hp) : Heap := PySem.W.hideAll h (trk h H)
theorem hidT_size (h : Heap) (H : Hp) : (hidT h H).objs.size = h.objs.size := PySem.W.hideAll_size _ _
theorem hidT_get {h : Heap} {H : Hp} {b : Addr} {o : Obj} (e : h.get? b = some o) (n : H b = none) : (hidT h H).get? b = some o :=
  PySem.W.hideAll_get _ e fun hm => by
    have q : (H b).isSome = true := (List.mem_filter.mp hm).2
    rw [n] at q; simp at q
theorem of_hidT {h : Heap} {H : Hp} {b : Addr} {o : Obj} (e : (hidT h H).get? b = some o) : h.get? b = some o ∧ H b = none := by
  have e' : h.get? b = some o := PySem.W.of_hideAll (trk h H) e
  refine ⟨e', ?_⟩
  cases q : H b with
  | none => rfl
  | some x =>
    have hm : b ∈ trk h H := List.mem_filter.mpr ⟨List.mem_range.mpr (Heap.lt_size e'), by simp [q]⟩
    have z : (hidT h H).get? b = none := PySem.W.hideAll_none (trk h H) hm
    rw [z] at e; cases e

/-! ### OpenK's ledger, filled with every new object but one -/
def allNews (g h : Heap) (L : Addr) : List (Addr × Obj) := (List.range h.objs.size).filterMap fun a => if a = L ∨ (g.get? a).isSome = true then none else (h.get? a).map fun o => (a, o)
def rest (g h : Heap) (L d : Addr) : List (Addr × Obj) := (allNews g h L).filter fun p => decide (p.1 ≠ d)
end L2

namespace L2
open PySem PySem.Spec PyProof.Rows

/-- the module's facts, over the base: the heap at the law's entry without what is tracked there -/
structure Mod (K : PySem.W.Frag) (mg : Str → Option Value) (base : Heap) : Prop where
  kin : K.In base
  glob : base.Ns mainGlobals mg
  blt : ∃ mb, base.Ns builtinsNs mb ∧ ∀ x : Str, x ≠ "__name__" → mb x = bootBuiltins x
  nolimit : base.NoLimit

/-- the context: a def's body (or a comprehension's block) running. base: fixed through the whole law; s₀, H₀: the entry; outer: the frames whose slots others may change (a def's callers); stack: all frames that run;
   ex: iterators that were made ahead of the entry and are walked here (a comprehension's); fn: the names whose cells were made at the entry (a def: all; a comprehension's block: its own); calm: not within an except suite; pn: pins that every state bears; xe: what is wanted of an exception that leaves the code -/
structure Cx where
  prog : Program
  w : World
  K : PySem.W.Frag
  mg : Str → Option Value
  base : Heap
  A : Around
  N : List Str
  s₀ : Shared
  H₀ : Hp
  env : Env
  outer : List Env
  stack : List Env
  ex : List Addr
  fn : Str → Bool
  calm : Bool
  pn : List (Addr × Obj)
  xe : Value → Shared → Prop
/-- the callers' frames -/
def frs (l : List Env) : List Addr := l.filterMap (·.frame)
abbrev Cx.fs (X : Cx) : List Addr := frs X.outer

def Vis (sc : Scope) (x : Str) : Prop := sc.names.lookup x = some .local ∨ sc.names.lookup x = some .cell ∨ sc.names.lookup x = some .free
def Loc (sc : Scope) (x : Str) : Prop := sc.names.lookup x = some .local ∨ sc.names.lookup x = some .cell
def Look (env : Env) (h : Heap) (m : Str → Option Value) (x : Str) (u : Value) : Prop :=
  (env.kindOf x = some .local ∧ m x = some u) ∨ ((env.kindOf x = some .cell ∨ env.kindOf x = some .free) ∧ ∃ c, env.cells.lookup x = some c ∧ h.IsCell c (some u))

structure Cx.Ok (X : Cx) : Prop where
  mod : Mod X.K X.mg X.base
  kind : X.env.scope.kind = .function
  glob : X.env.globals = mainGlobals
  blt : X.env.builtins = builtinsNs
  above : X.s₀.heap.objs.size ≤ X.env.locals
  inj : ∀ x y c, X.env.cells.lookup x = some c → X.env.cells.lookup y = some c → x = y
  has : ∀ x, (X.env.kindOf x = some .cell ∨ X.env.kindOf x = some .free) → ∃ c, X.env.cells.lookup x = some c
  cab : ∀ x c, X.fn x = true → X.env.cells.lookup x = some c → X.s₀.heap.objs.size ≤ c
  hd : X.calm = true → X.A.handled = none
  frames : X.A.frames = some X.stack
  stk : X.stack = X.outer ∨ (X.stack = X.env :: X.outer ∧ X.env.frame = some X.env.locals)
  exf : ∀ b ∈ X.ex, b ≠ X.env.locals ∧ ∀ x c, X.env.cells.lookup x = some c → c ≠ b
  bs : ∀ b o, X.base.get? b = some o → X.s₀.heap.get? b = some o ∧ X.H₀ b = none
  bsz : X.base.objs.size ≤ X.s₀.heap.objs.size
  noex : ∀ b o, X.base.get? b = some o → b ∉ X.ex
  exfs : ∀ b ∈ X.ex, b ∉ X.fs
  funs : X.s₀.heap.FunFrames X.base X.outer
  frf : ∀ b ∈ X.fs, X.H₀ b = none

structure Inv (X : Cx) (pins : List (Addr × Obj)) (σ : List (Option V)) (H : Hp) (s : Shared) : Prop where
  ok : X.Ok
  os : s.os = X.s₀.os
  bare : AllBare s.gens
  base : Un X.fs X.ex X.H₀ H X.s₀.heap s.heap
  loc : ∃ m, s.heap.Ns X.env.locals m ∧ ∀ (i : Nat) (x : Str) (v : V), X.N[i]? = some x → σ[i]? = some (some v) → Vis X.env.scope x → ∃ u, RelV v u ∧ Look X.env s.heap m x u
  cell : ∀ x c, X.env.cells.lookup x = some c → ∃ v, s.heap.IsCell c v
  free : H X.env.locals = none
  freeC : ∀ x c, X.env.cells.lookup x = some c → H c = none
  pin : ∀ p ∈ X.pn ++ pins, s.heap.get? p.1 = some p.2 ∧ H p.1 = none ∧ p.1 ≠ X.env.locals ∧ p.1 ∉ X.fs ∧ ∀ v, p.2.data ≠ .cell v
  hok : HOk X.prog X.w H s.heap
  len : σ.length = X.N.length

section
variable {X : Cx} {pins : List (Addr × Obj)} {σ : List (Option V)} {H H' : Hp} {s : Shared} {h' : Heap}

theorem Cx.Ok.nofr (ok : X.Ok) {b : Addr} {o : Obj} (e : X.base.get? b = some o) : b ∉ X.fs := fun hb => by
  have := (ok.funs.mem hb).1
  rw [e] at this; cases this
theorem Inv.bs (I : Inv X pins σ H s) : ∀ b o, X.base.get? b = some o → s.heap.get? b = some o ∧ H b = none := fun b o e =>
  ⟨I.base.keep b o (I.ok.bs b o e).1 (I.ok.bs b o e).2 (I.ok.nofr e) (I.ok.noex b o e), I.base.free b o (I.ok.bs b o e).1 (I.ok.bs b o e).2 (I.ok.noex b o e)⟩
theorem Inv.bk (I : Inv X pins σ H s) : ∀ b o, X.base.get? b = some o → s.heap.get? b = some o := fun b o e => (I.bs b o e).1
theorem Inv.mod (I : Inv X pins σ H s) : Mod X.K X.mg X.base := I.ok.mod
theorem Inv.kIn (I : Inv X pins σ H s) : X.K.In s.heap := I.ok.mod.kin.keeps I.bk
/-- the frame over the base: for OpenK's rules (K.In X.base is I.mod.kin) -/
theorem Inv.fr (I : Inv X pins σ H s) : ∃ m, Fr X.base X.env.locals s.heap m :=
  let ⟨m, hn, _⟩ := I.loc
  ⟨m, hn, I.bk, Nat.le_trans I.ok.bsz I.ok.above⟩
theorem Inv.lt (I : Inv X pins σ H s) : X.env.locals < s.heap.objs.size := let ⟨_, hn, _⟩ := I.loc; hn.lt
theorem Inv.sz (I : Inv X pins σ H s) : X.s₀.heap.objs.size ≤ s.heap.objs.size := Nat.le_trans I.ok.above (Nat.le_of_lt I.lt)
theorem Inv.nofs (I : Inv X pins σ H s) {a : Addr} (h : s.heap.objs.size ≤ a) : a ∉ X.fs := fun hb => by
  obtain ⟨_, o, ho, _⟩ := I.ok.funs.mem hb
  exact absurd (Nat.lt_of_lt_of_le (Heap.lt_size ho) (Nat.le_trans I.sz h)) (Nat.lt_irrefl _)
theorem Inv.cne (I : Inv X pins σ H s) : ∀ x c, X.env.cells.lookup x = some c → c ≠ X.env.locals := fun x c e z => by
  obtain ⟨v, o, ho, hd⟩ := I.cell x c e
  obtain ⟨m, ⟨o', es, ep, ho', hd', _⟩, _⟩ := I.loc
  rw [z, ho'] at ho; cases ho; rw [hd'] at hd; cases hd
theorem Inv.funs (I : Inv X pins σ H s) : s.heap.FunFrames X.base X.outer := by
  have all : ∀ (l : List Env), (∀ b ∈ frs l, b ∈ X.fs) → X.s₀.heap.FunFrames X.base l → s.heap.FunFrames X.base l := by
    intro l
    induction l with
    | nil => intro _ _; trivial
    | cons env r ih =>
      intro hs hl
      obtain ⟨hk, ⟨L, o, hf, hn, ho, hd⟩, hr⟩ := hl
      have hL : L ∈ X.fs := hs L (by unfold frs; rw [List.filterMap_cons, hf]; exact List.mem_cons_self)
      obtain ⟨sl, e⟩ := I.base.slot L o ho (I.ok.frf L hL) hL fun z => I.ok.exfs L z hL
      exact ⟨hk, ⟨L, _, hf, hn, e, hd⟩, ih (fun b hb => hs b (by unfold frs; rw [List.filterMap_cons, hf]; exact List.mem_cons_of_mem _ hb)) hr⟩
  exact all X.outer (fun _ hb => hb) I.ok.funs

/-- the frames that run, for a call -/
theorem Inv.stack (I : Inv X pins σ H s) : s.heap.FunFrames X.base X.stack := by
  rcases I.ok.stk with e | ⟨e, hf⟩
  · rw [e]; exact I.funs
  · rw [e]
    obtain ⟨m, hn, _⟩ := I.loc
    refine .cons (by rw [I.ok.kind]; decide) hf hn ?_ I.funs
    exact Heap.get?_none_of_le (Nat.le_trans I.ok.bsz I.ok.above)
theorem Inv.stkSub (I : Inv X pins σ H s) : ∀ b ∈ frs X.stack, b ∈ X.env.locals :: X.fs := fun b hb => by
  rcases I.ok.stk with e | ⟨e, hf⟩
  · rw [e] at hb; exact List.mem_cons_of_mem _ hb
  · rw [e] at hb
    unfold frs at hb
    rw [List.filterMap_cons, hf] at hb
    exact hb
theorem Inv.stkFree (I : Inv X pins σ H s) : ∀ b ∈ frs X.stack, H b = none := fun b hb => by
  rcases List.mem_cons.mp (I.stkSub b hb) with e | hb
  · rw [e]; exact I.free
  · obtain ⟨_, o, ho, _⟩ := I.ok.funs.mem hb
    exact I.base.free b o ho (I.ok.frf b hb) fun z => I.ok.exfs b z hb

/-- THE STEP: the untracked objects but the frame and the records at ch are kept (the callers' frames up to slots), the frame's map is kept, the new abstract heap is held -/
theorem Inv.step {g' : Array GenState} {t' : Nat} {d' : Drawn} {ch : List Addr} (I : Inv X pins σ H s)
    (hch : ∀ b ∈ ch, (b ∈ X.ex ∨ X.s₀.heap.objs.size ≤ b) ∧ b ≠ X.env.locals ∧ (∀ x c, X.env.cells.lookup x = some c → c ≠ b) ∧ ∀ p ∈ X.pn ++ pins, p.1 ≠ b)
    (keep : ∀ b o, b ≠ X.env.locals → b ∉ X.fs → b ∉ ch → s.heap.get? b = some o → H b = none → h'.get? b = some o)
    (slot : ∀ b o, b ≠ X.env.locals → b ∈ X.fs → b ∉ ch → s.heap.get? b = some o → H b = none → ∃ sl, h'.get? b = some { o with slots := sl }) (free : ∀ b o, b ∉ ch → s.heap.get? b = some o → H b = none → H' b = none)
    (there : ∀ b o, b ∉ ch → s.heap.get? b = some o → ∃ o', h'.get? b = some o')
    (tups : ∀ b xs, H b = some (.tup xs) → H' b = some (.tup xs)) (frzs : ∀ b o u, H b = some (.frz o u) → H' b = some (.frz o u)) (tbls : ∀ b ps, H b = some (.tbl ps) → ∃ more, H' b = some (.tbl (ps ++ more)))
    (ns : ∀ m, s.heap.Ns X.env.locals m → h'.Ns X.env.locals m) (hok : HOk X.prog X.w H' h') (hg : AllBare g') :
    Inv X pins σ H' { s with heap := h', gens := g', drawn := d', toks := t' } := by
  have neL : ∀ b o, X.s₀.heap.get? b = some o → b ≠ X.env.locals := fun b o e => Nat.ne_of_lt (Nat.lt_of_lt_of_le (Heap.lt_size e) I.ok.above)
  have neC : ∀ b o, X.s₀.heap.get? b = some o → b ∉ X.ex → b ∉ ch := fun b o e hx hb => by
    rcases (hch b hb).1 with z | z
    · exact hx z
    · exact absurd (Nat.lt_of_lt_of_le (Heap.lt_size e) z) (Nat.lt_irrefl _)
  have cellK : ∀ x c, X.env.cells.lookup x = some c → ∀ v, s.heap.IsCell c v → h'.IsCell c v := fun x c e v ⟨o, ho, hd⟩ => by
    have nch : c ∉ ch := fun z => (hch c z).2.2.1 x c e rfl
    by_cases hc : c ∈ X.fs
    · obtain ⟨sl, q⟩ := slot c o (I.cne x c e) hc nch ho (I.freeC x c e)
      exact ⟨_, q, hd⟩
    · exact ⟨o, keep c o (I.cne x c e) hc nch ho (I.freeC x c e), hd⟩
  refine ⟨I.ok, I.os, hg, ⟨fun b o e n hb hx => ?_, fun b o e n hb hx => ?_, fun b o e n hx => ?_, fun b o e hx => ?_, fun b xs e => tups b xs (I.base.tups b xs e), fun b o xs e => frzs b o xs (I.base.frzs b o xs e), fun b ps e => ?_⟩, ?_, fun x c e => ?_, ?_, fun x c e => ?_, fun p hp => ?_, hok, I.len⟩
  · exact keep b o (neL b o e) hb (neC b o e hx) (I.base.keep b o e n hb hx) (I.base.free b o e n hx)
  · obtain ⟨sl, e1⟩ := I.base.slot b o e n hb hx
    obtain ⟨sl', e2⟩ := slot b _ (neL b o e) hb (neC b o e hx) e1 (I.base.free b o e n hx)
    exact ⟨sl', e2⟩
  · obtain ⟨o', e1⟩ := I.base.there b o e hx
    exact free b o' (neC b o e hx) e1 (I.base.free b o e n hx)
  · obtain ⟨o', e1⟩ := I.base.there b o e hx
    exact there b o' (neC b o e hx) e1
  · obtain ⟨m1, e1⟩ := I.base.tbls b ps e
    obtain ⟨m2, e2⟩ := tbls b _ e1
    exact ⟨m1 ++ m2, by rw [e2, Array.append_assoc]⟩
  · obtain ⟨m, hn, hl⟩ := I.loc
    refine ⟨m, ns m hn, fun i x v e1 e2 e3 => ?_⟩
    obtain ⟨u, r, l⟩ := hl i x v e1 e2 e3
    refine ⟨u, r, ?_⟩
    rcases l with l | ⟨k, c, e, z⟩
    · exact .inl l
    · exact .inr ⟨k, c, e, cellK x c e _ z⟩
  · obtain ⟨v, z⟩ := I.cell x c e
    exact ⟨v, cellK x c e v z⟩
  · obtain ⟨m, ⟨o, _, _, ho, _⟩, _⟩ := I.loc
    exact free _ o (fun z => (hch _ z).2.1 rfl) ho I.free
  · obtain ⟨v, o, ho, hd⟩ := I.cell x c e
    exact free c o (fun z => (hch c z).2.2.1 x c e rfl) ho (I.freeC x c e)
  · obtain ⟨e, n, ne, nf, d⟩ := I.pin p hp
    have nch : p.1 ∉ ch := fun z => (hch p.1 z).2.2.2 p hp rfl
    exact ⟨keep p.1 p.2 ne nf nch e n, free p.1 p.2 nch e n, ne, nf, d⟩
/-- .. where the frame's own object is kept too -/
theorem Inv.un {t' : Nat} (I : Inv X pins σ H s) (u : Un X.fs [] H H' s.heap h') (hok : HOk X.prog X.w H' h') : Inv X pins σ H' { s with heap := h', toks := t' } := by
  obtain ⟨m, ⟨o, es, ep, ho, r⟩, _⟩ := id I.loc
  obtain ⟨sl, hL⟩ := u.any ho I.free (by simp)
  exact I.step (g' := s.gens) (d' := s.drawn) (ch := []) (fun _ z => nomatch z) (fun b o _ hb _ e n => u.keep b o e n hb (by simp)) (fun b o _ hb _ e n => u.slot b o e n hb (by simp)) (fun b o _ e n => u.free b o e n (by simp)) (fun b o _ e => u.there b o e (by simp)) u.tups u.frzs u.tbls (fun m' hm => by
    obtain ⟨o', es', ep', ho', r'⟩ := hm
    rw [ho] at ho'; cases ho'
    exact ⟨_, es', ep', hL, r'⟩) hok I.bare
/-- behind a call (or a comprehension's block): the slots of this frame may have changed too, the records at ch may have turned -/
theorem Inv.call {g' : Array GenState} {t' : Nat} {d' : Drawn} {ch : List Addr} (I : Inv X pins σ H s) (u : Un (frs X.stack) ch H H' s.heap h') (hok : HOk X.prog X.w H' h') (hg : AllBare g')
    (hch : ∀ b ∈ ch, (b ∈ X.ex ∨ X.s₀.heap.objs.size ≤ b) ∧ b ≠ X.env.locals ∧ (∀ x c, X.env.cells.lookup x = some c → c ≠ b) ∧ ∀ p ∈ X.pn ++ pins, p.1 ≠ b) :
    Inv X pins σ H' { s with heap := h', gens := g', drawn := d', toks := t' } := by
  obtain ⟨m, ⟨o, es, ep, ho, r⟩, _⟩ := id I.loc
  obtain ⟨sl, hL⟩ := u.any ho I.free fun z => (hch _ z).2.1 rfl
  exact I.step (ch := ch) hch (fun b o hL hb hc e n => u.keep b o e n (fun z => (List.mem_cons.mp (I.stkSub b z)).elim hL hb) hc) (fun b o _ _ hc e n => u.any e n hc) (fun b o hc e n => u.free b o e n hc) (fun b o hc e => u.there b o e hc) u.tups u.frzs u.tbls (fun m' hm => by
    obtain ⟨o', es', ep', ho', r'⟩ := hm
    rw [ho] at ho'; cases ho'
    exact ⟨_, es', ep', hL, r'⟩) hok hg
/-- an untracked record of ours (an iterator) has turned -/
theorem Inv.turned {t' : Nat} {it : Addr} (I : Inv X pins σ H s) (k : ∀ b o, b ≠ it → s.heap.get? b = some o → h'.get? b = some o) (hn : H it = none) (hL : it ≠ X.env.locals)
    (h1 : it ∈ X.ex ∨ X.s₀.heap.objs.size ≤ it) (h2 : ∀ x c, X.env.cells.lookup x = some c → c ≠ it) (h3 : ∀ p ∈ X.pn ++ pins, p.1 ≠ it) : Inv X pins σ H { s with heap := h', toks := t' } := by
  have nit : ∀ b u, H b = some u → b ≠ it := fun b u e z => by rw [z, hn] at e; cases e
  refine I.step (g' := s.gens) (d' := s.drawn) (ch := [it]) (fun b hb => ?_) (fun b o _ _ hc e _ => k b o (fun z => hc (by simp [z])) e) (fun b o _ _ hc e _ => ⟨o.slots, k b o (fun z => hc (by simp [z])) e⟩) (fun _ _ _ _ n => n)
    (fun b o hc e => ⟨o, k b o (fun z => hc (by simp [z])) e⟩) (fun _ _ e => e) (fun _ _ _ e => e) (fun b ps e => ⟨#[], by rw [e]; simp⟩) (fun m hm => ?_) (fun b u e => ?_) I.bare
  · have e : b = it := by simpa using hb
    subst e
    exact ⟨h1, hL, h2, h3⟩
  · obtain ⟨o, es, ep, ho, r⟩ := hm
    exact ⟨o, es, ep, k _ o (Ne.symm hL) ho, r⟩
  · refine (I.hok b u e).stay (fun c v hc q => k c v ?_ q) (fun _ q => q) fun _ _ q => q
    rcases hc with z | z
    · rw [z]; exact nit b u e
    · exact nit c _ z
theorem Inv.tok (I : Inv X pins σ H s) (t : Nat) : Inv X pins σ H { s with toks := t } := I.un (h' := s.heap) (t' := t) Un.refl I.hok
/-- all objects kept -/
theorem Inv.kept {t' : Nat} (I : Inv X pins σ H s) (k : ∀ b u, s.heap.get? b = some u → h'.get? b = some u) : Inv X pins σ H { s with heap := h', toks := t' } := I.un (Un.kept k) (I.hok.kept k)
/-- a new object laid and tracked -/
theorem Inv.laid {a : Addr} {o : HO} {t' : Nat} (I : Inv X pins σ H s) (k : ∀ b u, s.heap.get? b = some u → h'.get? b = some u) (hp : s.heap.objs.size ≤ a) (new : ObjOk X.prog X.w (upd H a o) h' a o) :
    Inv X pins σ (upd H a o) { s with heap := h', toks := t' } := I.un (Un.laid k hp (I.hok.fresh hp)) (I.hok.laid k hp new)
/-- an object written -/
theorem Inv.write {x e : Addr} {o : HO} {t' : Nat} (I : Inv X pins σ H s) (mu : Mut (H x)) (he : e = x ∨ H e = some (.own x)) (k : ∀ b u, b ≠ e → s.heap.get? b = some u → h'.get? b = some u) (heo : ∃ u, h'.get? e = some u)
    (new : ObjOk X.prog X.w (upd H x o) h' x o) : Inv X pins σ (upd H x o) { s with heap := h', toks := t' } := I.un (Un.write mu he k heo) (I.hok.write mu he k heo new)
/-- forgetting slots, pins -/
theorem Inv.weak {σ' : List (Option V)} (I : Inv X pins σ H s) (hl : σ'.length = σ.length) (w : ∀ (i : Nat) v, σ'[i]? = some (some v) → σ[i]? = some (some v)) : Inv X pins σ' H s :=
  ⟨I.ok, I.os, I.bare, I.base, let ⟨m, hn, hl'⟩ := I.loc; ⟨m, hn, fun i x v e1 e2 e3 => hl' i x v e1 (w i v e2) e3⟩, I.cell, I.free, I.freeC, I.pin, I.hok, hl.trans I.len⟩
theorem Inv.pins_of {pins' : List (Addr × Obj)} (I : Inv X pins σ H s) (h : ∀ p ∈ pins', s.heap.get? p.1 = some p.2 ∧ H p.1 = none ∧ p.1 ≠ X.env.locals ∧ p.1 ∉ X.fs ∧ ∀ v, p.2.data ≠ .cell v) : Inv X pins' σ H s :=
  ⟨I.ok, I.os, I.bare, I.base, I.loc, I.cell, I.free, I.freeC, fun p hp => (List.mem_append.mp hp).elim (fun z => I.pin p (List.mem_append_left _ z)) (h p), I.hok, I.len⟩

theorem nodup_ix {N : List Str} (hN : N.Nodup) {i j : Nat} {x : Str} (a : N[i]? = some x) (b : N[j]? = some x) : i = j := by
  obtain ⟨h1, e1⟩ := List.getElem?_eq_some_iff.mp a
  obtain ⟨h2, e2⟩ := List.getElem?_eq_some_iff.mp b
  exact (List.getElem_inj hN).mp (e1.trans e2.symm)

/-- a name is stored; what changed -/
theorem store_ok2 {M : Model} {A : Around} {E : Value → Shared → Prop} {i : Nat} {x : Str} {v : V} {u : Value} {Q : Unit → Shared → Prop} (I : Inv X pins σ H s) (hN : X.N.Nodup) (hi : X.N[i]? = some x) (hx : Loc X.env.scope x) (r : RelV v u)
    (h : ∀ s', Inv X pins (σ.set i (some v)) H s' → (∃ a, Heap.SameBut a s.heap s'.heap ∧ (a = X.env.locals ∨ X.env.cells.lookup x = some a)) → Q () s') (hf : X.fn x = true ∨ X.env.scope.names.lookup x = some .local := by first | exact .inl rfl | exact .inr rfl | assumption) : wpAny M A (storeName X.env x u) Q E s := by
  obtain ⟨m, hn, hl⟩ := id I.loc
  have hcls : (X.env.scope.kind == .class || (X.env.scope.kind == .module && X.env.locals != X.env.globals)) = false := by rw [I.ok.kind]; rfl
  have hiσ : i < σ.length := by rw [I.len]; exact (List.getElem?_eq_some_iff.mp hi).1
  have cne := I.cne
  have tracked : ∀ {a : Addr} {h' : Heap}, (∃ o, s.heap.get? a = some o ∧ H a = none) → Heap.SameBut a s.heap h' → HOk X.prog X.w H h' := fun {a h'} ha hs b ob e => by
    obtain ⟨_, _, hfree⟩ := ha
    refine (I.hok b ob e).stay (fun c w' hc q => (hs.2 c ?_).trans q) (fun _ q => q) fun _ _ q => q
    rintro rfl
    rcases hc with rfl | hc
    · rw [hfree] at e; cases e
    · rw [hfree] at hc; cases hc
  rcases hx with hk | hk
  · refine wpAny_storeName_local hk hn (fun h' hn' hs => ?_) hcls
    obtain ⟨oL, _, _, hoL, _⟩ := id hn
    refine h _ ⟨I.ok, I.os, I.bare, ⟨fun b o e n hb hx => ?_, fun b o e n hb hx => ?_, I.base.free, fun b o e hx => ?_, I.base.tups, I.base.frzs, I.base.tbls⟩, ⟨_, hn', fun j y v' e1 e2 e3 => ?_⟩, fun y c e => ?_, I.free, I.freeC, fun p hp => ?_, tracked ⟨oL, hoL, I.free⟩ hs, by simpa using I.len⟩ ⟨_, hs, .inl rfl⟩
    · exact (hs.2 b (Nat.ne_of_lt (Nat.lt_of_lt_of_le (Heap.lt_size e) I.ok.above))).trans (I.base.keep b o e n hb hx)
    · obtain ⟨sl, e1⟩ := I.base.slot b o e n hb hx
      exact ⟨sl, (hs.2 b (Nat.ne_of_lt (Nat.lt_of_lt_of_le (Heap.lt_size e) I.ok.above))).trans e1⟩
    · obtain ⟨o', e1⟩ := I.base.there b o e hx
      exact ⟨o', (hs.2 b (Nat.ne_of_lt (Nat.lt_of_lt_of_le (Heap.lt_size e) I.ok.above))).trans e1⟩
    · by_cases hj : j = i
      · subst hj
        rw [hi] at e1; cases e1
        rw [List.getElem?_set_self hiσ] at e2
        cases e2
        exact ⟨u, r, .inl ⟨hk, by simp⟩⟩
      · rw [List.getElem?_set_ne (Ne.symm hj)] at e2
        obtain ⟨u', r', q⟩ := hl j y v' e1 e2 e3
        refine ⟨u', r', ?_⟩
        rcases q with ⟨k, e⟩ | ⟨k, c, e, z⟩
        · refine .inl ⟨k, ?_⟩
          have : y ≠ x := fun e => hj (nodup_ix hN e1 (e ▸ hi))
          simp [this, e]
        · exact .inr ⟨k, c, e, z.sameBut hs (cne y c e)⟩
    · obtain ⟨w', z⟩ := I.cell y c e
      exact ⟨w', z.sameBut hs (cne y c e)⟩
    · obtain ⟨e, n, ne, nf, d⟩ := I.pin p hp
      exact ⟨(hs.2 p.1 ne).trans e, n, ne, nf, d⟩
  · have hfn : X.fn x = true := by
      rcases hf with z | z
      · exact z
      · rw [z] at hk; cases hk
    obtain ⟨c, hc⟩ := I.ok.has x (.inl hk)
    obtain ⟨w', z⟩ := I.cell x c hc
    refine wpAny_storeName_cell I.ok.kind hk hc z (fun h' hc' hs => ?_)
    obtain ⟨oc, hoc, hocd⟩ := id z
    refine h { s with heap := h' } ⟨I.ok, I.os, I.bare, ⟨fun b o e n hb hx => ?_, fun b o e n hb hx => ?_, I.base.free, fun b o e hx => ?_, I.base.tups, I.base.frzs, I.base.tbls⟩, ⟨m, hn.sameBut hs (Ne.symm (cne x c hc)), fun j y v' e1 e2 e3 => ?_⟩, fun y c' e => ?_, I.free, I.freeC, fun p hp => ?_, tracked ⟨oc, hoc, I.freeC x c hc⟩ hs, by simpa using I.len⟩ ⟨c, hs, .inr hc⟩
    · exact (hs.2 b (Nat.ne_of_lt (Nat.lt_of_lt_of_le (Heap.lt_size e) (I.ok.cab x c hfn hc)))).trans (I.base.keep b o e n hb hx)
    · obtain ⟨sl, e1⟩ := I.base.slot b o e n hb hx
      exact ⟨sl, (hs.2 b (Nat.ne_of_lt (Nat.lt_of_lt_of_le (Heap.lt_size e) (I.ok.cab x c hfn hc)))).trans e1⟩
    · obtain ⟨o', e1⟩ := I.base.there b o e hx
      exact ⟨o', (hs.2 b (Nat.ne_of_lt (Nat.lt_of_lt_of_le (Heap.lt_size e) (I.ok.cab x c hfn hc)))).trans e1⟩
    · by_cases hj : j = i
      · subst hj
        rw [hi] at e1; cases e1
        rw [List.getElem?_set_self hiσ] at e2
        cases e2
        exact ⟨u, r, .inr ⟨.inl hk, c, hc, hc'⟩⟩
      · rw [List.getElem?_set_ne (Ne.symm hj)] at e2
        obtain ⟨u', r', q⟩ := hl j y v' e1 e2 e3
        refine ⟨u', r', ?_⟩
        rcases q with q | ⟨k, c', e, z'⟩
        · exact .inl q
        · refine .inr ⟨k, c', e, z'.sameBut hs ?_⟩
          rintro rfl
          exact hj (nodup_ix hN e1 (I.ok.inj _ _ _ e hc ▸ hi))
    · by_cases hcc : c' = c
      · subst hcc; exact ⟨_, hc'⟩
      · obtain ⟨w2, z2⟩ := I.cell y c' e
        exact ⟨w2, z2.sameBut hs hcc⟩
    · obtain ⟨e, n, ne, nf, d⟩ := I.pin p hp
      refine ⟨(hs.2 p.1 ?_).trans e, n, ne, nf, d⟩
      intro q
      rw [q, hoc] at e
      have q' : oc = p.2 := Option.some.inj e
      exact d w' (by rw [← q']; exact hocd)
theorem store_ok {M : Model} {A : Around} {E : Value → Shared → Prop} {i : Nat} {x : Str} {v : V} {u : Value} {Q : Unit → Shared → Prop} (I : Inv X pins σ H s) (hN : X.N.Nodup) (hi : X.N[i]? = some x) (hx : Loc X.env.scope x) (r : RelV v u)
    (h : ∀ s', Inv X pins (σ.set i (some v)) H s' → Q () s') (hf : X.fn x = true ∨ X.env.scope.names.lookup x = some .local := by first | exact .inl rfl | exact .inr rfl | assumption) : wpAny M A (storeName X.env x u) Q E s :=
  store_ok2 I hN hi hx r (fun s' I' _ => h s' I') hf
/-- behind a call or a block, the state as it is -/
theorem Inv.call' {s' : Shared} {ch : List Addr} (I : Inv X pins σ H s) (ho : s'.os = s.os) (u : Un (frs X.stack) ch H H' s.heap s'.heap) (hok : HOk X.prog X.w H' s'.heap) (hg : AllBare s'.gens)
    (hch : ∀ b ∈ ch, (b ∈ X.ex ∨ X.s₀.heap.objs.size ≤ b) ∧ b ≠ X.env.locals ∧ (∀ x c, X.env.cells.lookup x = some c → c ≠ b) ∧ ∀ p ∈ X.pn ++ pins, p.1 ≠ b) : Inv X pins σ H' s' := by
  obtain ⟨h', g', d', t', o'⟩ := s'
  have e : o' = s.os := ho
  subst e
  exact I.call (g' := g') (t' := t') (d' := d') u hok hg hch
end

/-! ### the judgements -/
/-- an exception: its class, its own dict's address (where it has one), the abstract heap behind it -/
abbrev XK := Value → Option Addr → Hp → Prop
abbrev St := List (Option V)
abbrev VK := V → Hp → Prop
/-- an expression's reading; a test's; an argument list's -/
abbrev TE := St → Hp → VK → Prop
abbrev TT := St → Hp → (Bool → Hp → Prop) → Prop
abbrev TA := St → Hp → (List V → Hp → Prop) → Prop
/-- what is wanted behind a statement -/
structure Ends where
  nx : St → Hp → Prop
  rt : VK
  bk : St → Hp → Prop := fun _ _ => False
  ct : St → Hp → Prop := fun _ _ => False
abbrev TS := Ends → St → Hp → Prop

def EP (X : Cx) (pins : List (Addr × Obj)) (σ : St) (Q : VK) (u : Value) (s' : Shared) : Prop := ∃ v H', Inv X pins σ H' s' ∧ RelV v u ∧ Q v H'
def TP (X : Cx) (pins : List (Addr × Obj)) (σ : St) (Q : Bool → Hp → Prop) (b : Bool) (s' : Shared) : Prop := ∃ H', Inv X pins σ H' s' ∧ Q b H'
def AP (X : Cx) (pins : List (Addr × Obj)) (σ : St) (Q : List V → Hp → Prop) (us : List Value) (s' : Shared) : Prop := ∃ vs H', Inv X pins σ H' s' ∧ Vals vs us ∧ Q vs H'
def SP (X : Cx) (pins : List (Addr × Obj)) (D : Ends) (f : Flow) (s' : Shared) : Prop :=
  match f with
  | .next => ∃ σ' H', Inv X pins σ' H' s' ∧ D.nx σ' H'
  | .brk => ∃ σ' H', Inv X pins σ' H' s' ∧ D.bk σ' H'
  | .cont => ∃ σ' H', Inv X pins σ' H' s' ∧ D.ct σ' H'
  | .ret u => ∃ v σ' H', Inv X pins σ' H' s' ∧ RelV v u ∧ D.rt v H'

def PE (X : Cx) (e : Expr) (t : TE) : Prop :=
  ∀ (pins : List (Addr × Obj)) (s : Shared) (σ : St) (H : Hp) (Q : VK), Inv X pins σ H s → t σ H Q → wpAny (model X.prog X.w) X.A (eval e X.env) (EP X pins σ Q) X.xe s
def PT (X : Cx) (e : Expr) (t : TT) : Prop :=
  ∀ (pins : List (Addr × Obj)) (s : Shared) (σ : St) (H : Hp) (Q : Bool → Hp → Prop), Inv X pins σ H s → t σ H Q → wpAny (model X.prog X.w) X.A (isTrue e X.env (eval e X.env)) (TP X pins σ Q) X.xe s
/-- a test whatever its 'whole' is (and, or) -/
def PW (X : Cx) (e : Expr) (t : TT) : Prop :=
  ∀ (whole : Sem Value) (pins : List (Addr × Obj)) (s : Shared) (σ : St) (H : Hp) (Q : Bool → Hp → Prop), Inv X pins σ H s → t σ H Q → wpAny (model X.prog X.w) X.A (isTrue e X.env whole) (TP X pins σ Q) X.xe s
theorem PW.pt {X : Cx} {e : Expr} {t : TT} (h : PW X e t) : PT X e t := h _
/-- an argument list (no star), from the left -/
def PA (X : Cx) (es : List Expr) (t : TA) : Prop :=
  ∀ (pos : Pos) (pins : List (Addr × Obj)) (s : Shared) (σ : St) (H : Hp) (Q : List V → Hp → Prop), Inv X pins σ H s → t σ H Q → wpAny (model X.prog X.w) X.A (spliced (backTo pos (starEach es X.env))) (AP X pins σ Q) X.xe s
def PS (X : Cx) (st : Stmt) (t : TS) : Prop :=
  ∀ (pins : List (Addr × Obj)) (s : Shared) (σ : St) (H : Hp) (D : Ends), Inv X pins σ H s → t D σ H → wpAny (model X.prog X.w) X.A (exec st X.env) (SP X pins D) X.xe s
def PSs (X : Cx) (st : List Stmt) (t : TS) : Prop :=
  ∀ (pins : List (Addr × Obj)) (s : Shared) (σ : St) (H : Hp) (D : Ends), Inv X pins σ H s → t D σ H → wpAny (model X.prog X.w) X.A (execs st X.env) (SP X pins D) X.xe s
/-- weaken the end -/
theorem thn {α : Type} {t : Sem α} {Q Q' : α → Shared → Prop} {M : Model} {A : Around} {E : Value → Shared → Prop} {s : Shared} (h : wpAny M A t Q E s) (hQ : ∀ a s, Q a s → Q' a s) : wpAny M A t Q' E s := wpAny_mono h hQ fun _ _ x => x
end L2

namespace L2
open PySem PySem.Spec PyProof.Rows
section
variable {X : Cx}

/-- two expressions in a row -/
theorem bin {a b : Expr} {ta tb : TE} (ha : PE X a ta) (hb : PE X b tb) {pins : List (Addr × Obj)} {s : Shared} {σ : St} {H : Hp} {R : V → V → Hp → Prop} (I : Inv X pins σ H s) (h : ta σ H fun x H1 => tb σ H1 fun y H2 => R x y H2)
    {α : Type} {Q : α → Shared → Prop} {f : Value → Value → Sem α}
    (hf : ∀ v u s2 x y H2, Inv X pins σ H2 s2 → RelV x v → RelV y u → R x y H2 → wpAny (model X.prog X.w) X.A (f v u) Q X.xe s2) :
    wpAny (model X.prog X.w) X.A (eval a X.env) (fun v s₁ => wpAny (model X.prog X.w) X.A (eval b X.env) (fun u s₂ => wpAny (model X.prog X.w) X.A (f v u) Q X.xe s₂) X.xe s₁) X.xe s := by
  refine thn (ha pins s σ H _ I h) fun v s1 ⟨x, H1, I1, r1, q1⟩ => ?_
  refine thn (hb pins s1 σ H1 _ I1 q1) fun u s2 ⟨y, H2, I2, r2, q2⟩ => ?_
  exact hf v u s2 x y H2 I2 r1 r2 q2

/-! ### names and constants -/
def tVar (i : Nat) : TE := fun σ H Q => ∃ v, σ[i]? = some (some v) ∧ Q v H
def tC (v : V) : TE := fun _ H Q => Q v H
theorem pe_var {i : Nat} {x : Str} {pos : Pos} (hN : X.N[i]? = some x) (hv : Vis X.env.scope x) (hd : (x == ("__debug__" : Str)) = false := by decide) (hcd : (x == ("__classdict__" : Str)) = false := by decide) : PE X (.Name x pos) (tVar i) := by
  intro pins s σ H Q I h
  obtain ⟨v, e, h⟩ := h
  obtain ⟨m, hn, hl⟩ := I.loc
  obtain ⟨u, r, l⟩ := hl i x v hN e hv
  have fin : EP X pins σ Q u s := ⟨v, H, I, r, h⟩
  rcases l with ⟨hk, hm⟩ | ⟨hk, c, hc, hcell⟩
  · exact wpAny_Name (wpAny_loadName_local I.ok.kind hk hn hm fin) hd
  · rcases hk with hk | hk
    · exact wpAny_Name (wpAny_loadName_cell I.ok.kind hk hc hcell fin) hd
    · exact wpAny_Name (wpAny_loadName_free I.ok.kind hk hc hcell fin hcd) hd
theorem pe_int {i j pos} : PE X (.Constant (.int i) j pos) (tC (.int i)) := fun _ _ _ H _ I h => wpAny_Constant_int ⟨.int i, H, I.tok _, ⟨_, rfl⟩, h⟩
theorem pe_bl {b j pos} : PE X (.Constant (.bool b) j pos) (tC (.bl b)) := fun _ _ _ H _ I h => Constant_bool ⟨.bl b, H, I, rfl, h⟩
theorem pe_non {j pos} : PE X (.Constant .none j pos) (tC .non) := fun _ _ _ H _ I h => Constant_none ⟨.non, H, I, rfl, h⟩
theorem pe_str {x j pos} : PE X (.Constant (.str x) j pos) (tC (.str x)) := fun _ _ _ H _ I h => Calls.Constant_str ⟨.str x, H, I.tok _, ⟨_, rfl⟩, h⟩

/-- a global name of the def -/
def Gl (X : Cx) (x : Str) : Prop := X.env.kindOf x = some .globalImplicit
theorem ld_glob {E : Value → Shared → Prop} {pins : List (Addr × Obj)} {s : Shared} {σ : St} {H : Hp} {x : Str} {u : Value} {pos : Pos} {Q : Value → Shared → Prop} (I : Inv X pins σ H s) (hg : Gl X x) (hm : X.mg x = some u) (h : Q u s)
    (hd : (x == ("__debug__" : Str)) = false := by decide) : wpAny (model X.prog X.w) X.A (eval (.Name x pos) X.env) Q E s :=
  Calls.Name_function_global I.ok.kind hg (Calls.loadGlobal_global (by rw [I.ok.glob]; exact I.mod.glob.keeps I.bk) hm h) hd
theorem ld_blt {E : Value → Shared → Prop} {pins : List (Addr × Obj)} {s : Shared} {σ : St} {H : Hp} {x : Str} {u : Value} {pos : Pos} {Q : Value → Shared → Prop} (I : Inv X pins σ H s) (hg : Gl X x) (hm : X.mg x = none) (hv : bootBuiltins x = some u) (h : Q u s)
    (hn : x ≠ "__name__" := by decide) (hd : (x == ("__debug__" : Str)) = false := by decide) : wpAny (model X.prog X.w) X.A (eval (.Name x pos) X.env) Q E s := by
  obtain ⟨mb, h1, h2⟩ := I.mod.blt
  exact Calls.Name_function_global I.ok.kind hg (Calls.loadGlobal_builtin (by rw [I.ok.glob]; exact I.mod.glob.keeps I.bk) hm (by rw [I.ok.blt]; exact h1.keeps I.bk) ((h2 x hn).trans hv) h) hd
/-- a module's constant, a class, a function, as a value -/
theorem pe_glob {x : Str} {v : V} {u : Value} {pos : Pos} (hg : Gl X x) (hm : X.mg x = some u) (r : RelV v u) (hd : (x == ("__debug__" : Str)) = false := by decide) : PE X (.Name x pos) (tC v) :=
  fun _ _ _ H _ I h => ld_glob I hg hm ⟨v, H, I, r, h⟩ hd
theorem pe_bltn {x : Str} {v : V} {u : Value} {pos : Pos} (hg : Gl X x) (hm : X.mg x = none) (hv : bootBuiltins x = some u) (r : RelV v u) (hn : x ≠ "__name__" := by decide) (hd : (x == ("__debug__" : Str)) = false := by decide) : PE X (.Name x pos) (tC v) :=
  fun _ _ _ H _ I h => ld_blt I hg hm hv ⟨v, H, I, r, h⟩ hn hd

/-! ### arithmetic -/
variable {a b : Expr} {ta tb : TE} {pos : Pos}
/-! ### comparisons -/
def PC (X : Cx) (op : CmpOp) (a b : Expr) (t : TE) : Prop :=
  ∀ (pins : List (Addr × Obj)) (s : Shared) (σ : St) (H : Hp) (Q : VK), Inv X pins σ H s → t σ H Q →
    wpAny (model X.prog X.w) X.A (eval a X.env) (fun v s₁ => wpAny (model X.prog X.w) X.A (eval b X.env) (fun u s₂ => wpAny (model X.prog X.w) X.A (compareOp op v u) (EP X pins σ Q) X.xe s₂) X.xe s₁) X.xe s
theorem nobehind (b : Expr) {op : CmpOp} (h : op ≠ .In) (h2 : op ≠ .NotIn) : behindInMarks op b = false := by
  have e1 : (op == CmpOp.In) = false := by cases op <;> first | rfl | exact absurd rfl h
  have e2 : (op == CmpOp.NotIn) = false := by cases op <;> first | rfl | exact absurd rfl h2
  cases b <;> simp [behindInMarks, e1, e2]
/-- a comparison as a value, as a test -/
def tB (t : TE) : TT := fun σ H Q => t σ H fun x H1 => ∃ c, x = .bl c ∧ Q c H1
theorem pt_cmp {op : CmpOp} {t : TE} (h : PC X op a b t) (h1 : behindInMarks op b = false := by first | exact nobehind _ (by decide) (by decide) | rfl) : PT X (.Compare a [op] [b] pos) (tB t) := by
  intro pins s σ H Q I hw
  refine wpAny_isTrue_Compare1 (thn (h pins s σ H _ I hw) fun v s1 h1 => thn h1 fun u s2 h2 => thn h2 fun c s3 ⟨x, H1, I1, r1, q1⟩ => ?_) h1
  obtain ⟨d, rfl, q⟩ := q1
  cases r1
  exact wpAny_truthy_bool ⟨H1, I1, q⟩
/-- an expression whose value is a bool, as a test -/
theorem pt_val {e : Expr} {t : TE} (h : PE X e t) (he : ∀ whole, isTrue e X.env whole = (do let v ← whole; standAt e.pos; holding [v] (truthy v)) := by intro _; rfl) : PT X e (tB t) := by
  intro pins s σ H Q I hw
  refine isTrue_plain (thn (h pins s σ H _ I hw) fun v s1 ⟨x, H1, I1, r1, q1⟩ => ?_) (he _)
  obtain ⟨d, rfl, q⟩ := q1
  cases r1
  exact wpAny_truthy_bool ⟨H1, I1, q⟩

/-! ### and, or, not -/
variable {tA tB' : TT} {rest : List Expr}
def tAnd (t u : TT) : TT := fun σ H Q => t σ H fun c H1 => if c = true then u σ H1 Q else Q false H1
def tOr (t u : TT) : TT := fun σ H Q => t σ H fun c H1 => if c = true then Q true H1 else u σ H1 Q
def tNot (t : TT) : TT := fun σ H Q => t σ H fun c H1 => Q (!c) H1
theorem pw_and1 (ha : PT X a tA) : PW X (.BoolOp .And [a] pos) tA := by
  intro wh pins s σ H Q I h
  refine isTrue_and (thn (ha pins s σ H Q I h) fun c s1 e => ?_)
  cases c with
  | true => exact isTrue_and_nil e
  | false => exact e
theorem pw_or1 (ha : PT X a tA) : PW X (.BoolOp .Or [a] pos) tA := by
  intro wh pins s σ H Q I h
  refine isTrue_or (thn (ha pins s σ H Q I h) fun c s1 e => ?_)
  cases c with
  | false => exact isTrue_or_nil e
  | true => exact e
theorem pw_and (ha : PT X a tA) (hb : PW X (.BoolOp .And (b :: rest) pos) tB') : PW X (.BoolOp .And (a :: b :: rest) pos) (tAnd tA tB') := by
  intro wh pins s σ H Q I h
  refine isTrue_and (thn (ha pins s σ H _ I h) fun c s1 ⟨H1, I1, q1⟩ => ?_)
  cases c with
  | true => exact hb wh pins s1 σ H1 Q I1 q1
  | false => exact ⟨H1, I1, q1⟩
theorem pw_or (ha : PT X a tA) (hb : PW X (.BoolOp .Or (b :: rest) pos) tB') : PW X (.BoolOp .Or (a :: b :: rest) pos) (tOr tA tB') := by
  intro wh pins s σ H Q I h
  refine isTrue_or (thn (ha pins s σ H _ I h) fun c s1 ⟨H1, I1, q1⟩ => ?_)
  cases c with
  | true => exact ⟨H1, I1, q1⟩
  | false => exact hb wh pins s1 σ H1 Q I1 q1
theorem pt_not (ha : PT X a tA) : PT X (.UnaryOp .Not a pos) (tNot tA) := by
  intro pins s σ H Q I h
  exact isTrue_not (ha pins s σ H (fun c H1 => Q (!c) H1) I h)
/-- .. as values (bools) -/
def tAndV (ta tb : TE) : TE := fun σ H Q => ta σ H fun x H1 => ∃ c, x = .bl c ∧ if c = true then tb σ H1 Q else Q (.bl false) H1
def tOrV (ta tb : TE) : TE := fun σ H Q => ta σ H fun x H1 => ∃ c, x = .bl c ∧ if c = true then Q (.bl true) H1 else tb σ H1 Q
def tNotV (ta : TE) : TE := fun σ H Q => ta σ H fun x H1 => ∃ c, x = .bl c ∧ Q (.bl (!c)) H1
theorem pe_one {op} {t : TE} (h : PE X a t) : PE X (.BoolOp op [a] pos) t := fun pins s σ H Q I hw => BoolOp_one (h pins s σ H Q I hw)
theorem pe_and (ha : PE X a ta) (hb : PE X (.BoolOp .And (b :: rest) pos) tb) : PE X (.BoolOp .And (a :: b :: rest) pos) (tAndV ta tb) := by
  intro pins s σ H Q I h
  refine BoolOp_and (thn (ha pins s σ H _ I h) fun v s1 ⟨x, H1, I1, r1, q1⟩ => ?_)
  obtain ⟨c, rfl, q1⟩ := q1
  cases r1
  refine wpAny_truthy_bool ?_
  cases c with
  | true => exact hb pins s1 σ H1 Q I1 q1
  | false => exact ⟨.bl false, H1, I1, rfl, q1⟩
theorem pe_or (ha : PE X a ta) (hb : PE X (.BoolOp .Or (b :: rest) pos) tb) : PE X (.BoolOp .Or (a :: b :: rest) pos) (tOrV ta tb) := by
  intro pins s σ H Q I h
  refine BoolOp_or (thn (ha pins s σ H _ I h) fun v s1 ⟨x, H1, I1, r1, q1⟩ => ?_)
  obtain ⟨c, rfl, q1⟩ := q1
  cases r1
  refine wpAny_truthy_bool ?_
  cases c with
  | false => exact hb pins s1 σ H1 Q I1 q1
  | true => exact ⟨.bl true, H1, I1, rfl, q1⟩
theorem pe_not (ha : PE X a ta) : PE X (.UnaryOp .Not a pos) (tNotV ta) := by
  intro pins s σ H Q I h
  refine UnaryOp_ (thn (ha pins s σ H _ I h) fun v s1 ⟨x, H1, I1, r1, q1⟩ => ?_)
  obtain ⟨c, rfl, q1⟩ := q1
  cases r1
  exact not_of (wpAny_truthy_bool ⟨.bl (!c), H1, I1, rfl, q1⟩)
end
end L2

namespace L2
open PySem PySem.Spec PyProof.Rows

/-! ### a list, a tuple that is read: tracked, frozen, or an object of the module -/
def SqL (K : PySem.W.Frag) (H : Hp) (a : Addr) (xs : List V) : Prop :=
  Rd H a (.lst xs) ∨
    ∃ (o : Obj) (its : Array Value) (n : Nat), K.lookup a = some o ∧ o.cls = .type "list" ∧ o.dict = none ∧ o.data = .seq its n ∧ its.size ≤ sizeLine ∧ Vals xs its.toList
def SqT (K : PySem.W.Frag) (H : Hp) (a : Addr) (xs : List V) : Prop :=
  Rd H a (.tup xs) ∨
    ∃ (o : Obj) (its : Array Value) (n : Nat), K.lookup a = some o ∧ o.cls = .type "tuple" ∧ o.data = .seq its n ∧ its.size ≤ sizeLine ∧ Vals xs its.toList
def absV : Value → Option V
  | .none => some .non
  | .bool b => some (.bl b)
  | .int i _ => some (.int i)
  | .str x _ => some (.str x)
  | .bytes b _ => some (.byt b)
  | .float b _ => some (.flt b)
  | .ref a => some (.ref a)
  | .type n => some (.ty n)
  | _ => none
theorem RelV.abs {x : V} {u : Value} (r : RelV x u) : absV u = some x := by
  cases x with
  | non => cases r; rfl
  | bl _ => cases r; rfl
  | int _ => obtain ⟨t, rfl⟩ := r; rfl
  | str _ => obtain ⟨t, rfl⟩ := r; rfl
  | byt _ => obtain ⟨t, rfl⟩ := r; rfl
  | flt _ => obtain ⟨t, rfl⟩ := r; rfl
  | ref _ => cases r; rfl
  | ty _ => cases r; rfl
theorem RelV.inj {x y : V} {u : Value} (r : RelV x u) (q : RelV y u) : x = y := Option.some.inj (r.abs.symm.trans q.abs)
theorem Vals.inj : ∀ {xs ys : List V} {us : List Value}, Vals xs us → Vals ys us → xs = ys
  | _, _, _, .nil, .nil => rfl
  | _, _, _, .cons r t, .cons r' t' => by rw [r.inj r', Vals.inj t t']
section
variable {X : Cx} {pins : List (Addr × Obj)} {σ : St} {H : Hp} {s : Shared} {a : Addr} {xs ys : List V}
theorem SqL.of {K : PySem.W.Frag} (h : H a = some (.lst xs)) : SqL K H a xs := .inl (.inl h)
theorem SqT.of {K : PySem.W.Frag} (h : H a = some (.tup xs)) : SqT K H a xs := .inl (.inl h)
theorem Inv.list (I : Inv X pins σ H s) (h : SqL X.K H a xs) : ∃ its : List Value, Vals xs its ∧ PlainL s.heap a its.toArray ∧ xs.length ≤ sizeLine := by
  rcases h with h | ⟨o, its, n, hk, hc, hd, hs, hz, r⟩
  · obtain ⟨z, its, n, r, e⟩ := h.ok I.hok
    exact ⟨its, r, ⟨_, n, e, rfl, rfl, rfl⟩, z⟩
  · refine ⟨its.toList, r, ⟨o, n, I.kIn a o hk, hc, hd, by simpa using hs⟩, ?_⟩
    have e := r.length
    simp only [Array.length_toList] at e
    omega
theorem Inv.tuple (I : Inv X pins σ H s) (h : SqT X.K H a xs) : ∃ its : List Value, Vals xs its ∧ IsTup s.heap a its.toArray ∧ xs.length ≤ sizeLine := by
  rcases h with h | ⟨o, its, n, hk, hc, hs, hz, r⟩
  · obtain ⟨z, its, r, p⟩ := h.ok I.hok
    exact ⟨its, r, p, z⟩
  · refine ⟨its.toList, r, ⟨o, I.kIn a o hk, hc, n, by simpa using hs⟩, ?_⟩
    have e := r.length
    simp only [Array.length_toList] at e
    omega
theorem Inv.list_inj (I : Inv X pins σ H s) (h : SqL X.K H a xs) (h' : SqL X.K H a ys) : xs = ys := by
  obtain ⟨its, r, ⟨o, n, e, _, _, d⟩, _⟩ := I.list h
  obtain ⟨its', r', ⟨o', n', e', _, _, d'⟩, _⟩ := I.list h'
  rw [e] at e'; cases e'
  rw [d] at d'
  injection d' with d1 _
  have : its = its' := by simpa using congrArg Array.toList d1
  subst this
  exact r.inj r'
end

/-! ### another wish about exceptions -/
abbrev Cx.wish (X : Cx) (E : Value → Shared → Prop) : Cx := { X with xe := E }
/-- no exception leaves -/
abbrev Cx.nox (X : Cx) : Cx := X.wish fun _ _ => False
theorem Cx.Ok.wish {X : Cx} (ok : X.Ok) (E : Value → Shared → Prop) : (X.wish E).Ok :=
  ⟨ok.mod, ok.kind, ok.glob, ok.blt, ok.above, ok.inj, ok.has, ok.cab, ok.hd, ok.frames, ok.stk, ok.exf, ok.bs, ok.bsz, ok.noex, ok.exfs, ok.funs, ok.frf⟩
theorem Cx.Ok.unwish {X : Cx} {E : Value → Shared → Prop} (ok : (X.wish E).Ok) : X.Ok :=
  ⟨ok.mod, ok.kind, ok.glob, ok.blt, ok.above, ok.inj, ok.has, ok.cab, ok.hd, ok.frames, ok.stk, ok.exf, ok.bs, ok.bsz, ok.noex, ok.exfs, ok.funs, ok.frf⟩
section
variable {X : Cx} {pins : List (Addr × Obj)} {σ : St} {H : Hp} {s : Shared} {E : Value → Shared → Prop}
theorem Inv.wish (I : Inv X pins σ H s) (E : Value → Shared → Prop) : Inv (X.wish E) pins σ H s := ⟨I.ok.wish E, I.os, I.bare, I.base, I.loc, I.cell, I.free, I.freeC, I.pin, I.hok, I.len⟩
theorem Inv.unwish (I : Inv (X.wish E) pins σ H s) : Inv X pins σ H s := ⟨I.ok.unwish, I.os, I.bare, I.base, I.loc, I.cell, I.free, I.freeC, I.pin, I.hok, I.len⟩
theorem SP.unwish {D : Ends} {f : Flow} {s' : Shared} (h : SP (X.wish E) pins D f s') : SP X pins D f s' := by
  cases f with
  | next => obtain ⟨σ', H', I, q⟩ := h; exact ⟨σ', H', I.unwish, q⟩
  | brk => obtain ⟨σ', H', I, q⟩ := h; exact ⟨σ', H', I.unwish, q⟩
  | cont => obtain ⟨σ', H', I, q⟩ := h; exact ⟨σ', H', I.unwish, q⟩
  | ret u => obtain ⟨v, σ', H', I, r, q⟩ := h; exact ⟨v, σ', H', I.unwish, r, q⟩
theorem PSs.nox {st : List Stmt} {t : TS} (h : PSs X.nox st t) : PSs X st t := fun pins s σ H D I hw =>
  wpAny_mono (h pins s σ H D (I.wish _) hw) (fun _ _ q => q.unwish) fun _ _ z => False.elim z
end

/-! ### blocks and small statements -/
section
variable {X : Cx} {st : Stmt} {rest : List Stmt} {t u : TS} {e : Expr} {te : TE} {pos : Pos}
def tNext : TS := fun D σ H => D.nx σ H
def tSeq (t u : TS) : TS := fun D σ H => t { D with nx := u D } σ H
theorem pss_nil : PSs X [] tNext := fun _ _ σ H _ I h => wpAny_execs_nil ⟨σ, H, I, h⟩
theorem pss_cons (h1 : PS X st t) (h2 : PSs X rest u) : PSs X (st :: rest) (tSeq t u) := by
  intro pins s σ H D I h
  refine wpAny_execs_cons (thn (h1 pins s σ H { D with nx := u D } I h) fun f s1 q => ?_)
  cases f with
  | next =>
    obtain ⟨σ', H', I', q⟩ := q
    exact h2 pins s1 σ' H' D I' q
  | ret v => exact q
  | brk => exact q
  | cont => exact q
theorem pss_one (h1 : PS X st t) : PSs X [st] t := by
  intro pins s σ H D I h
  refine wpAny_execs_cons (thn (h1 pins s σ H D I h) fun f s1 q => ?_)
  cases f with
  | next => exact wpAny_execs_nil q
  | ret v => exact q
  | brk => exact q
  | cont => exact q
/-- in a def's body nothing is shown -/
theorem Inv.quiet {pins : List (Addr × Obj)} {σ : St} {H : Hp} {s : Shared} (I : Inv X pins σ H s) : interactive X.env = false := by simp [interactive, I.ok.kind]
/-- an expression whose value is dropped -/
def tDrop (te : TE) : TS := fun D σ H => te σ H fun _ H1 => D.nx σ H1
theorem ps_expr (he : PE X e te) (hs : swapsWith e none pos.line X.env = pure false := by rfl) : PS X (.Expr e pos) (tDrop te) := by
  intro pins s σ H D I h
  exact wpAny_Expr_any (thn (he pins s σ H _ I h) fun v s1 ⟨x, H1, I1, r1, q1⟩ => ⟨σ, H1, I1, q1⟩) I.quiet hs
def tRet (te : TE) : TS := fun D σ H => te σ H D.rt
theorem ps_ret (he : PE X e te) : PS X (.Return (some e) pos) (tRet te) := by
  intro pins s σ H D I h
  exact wpAny_Return_some (thn (he pins s σ H _ I h) fun v s1 ⟨x, H1, I1, r1, q1⟩ => ⟨x, σ, H1, I1, r1, q1⟩)
def tIfS (c : TT) (t u : TS) : TS := fun D σ H => c σ H fun b H1 => if b = true then t D σ H1 else u D σ H1
theorem ps_if {c : Expr} {a b : List Stmt} {tc : TT} (hc : PT X c tc) (ha : PSs X a t) (hb : PSs X b u) : PS X (.If c a b pos) (tIfS tc t u) := by
  intro pins s σ H D I h
  refine wpAny_If (thn (hc pins s σ H _ I h) fun d s1 ⟨H1, I1, q1⟩ => ?_)
  cases d with
  | true => exact ha pins s1 σ H1 D I1 q1
  | false => exact hb pins s1 σ H1 D I1 q1
end

/-! ### targets -/
abbrev TG := V → St → Hp → (St → Hp → Prop) → Prop
abbrev TGs := List V → St → Hp → (St → Hp → Prop) → Prop
def PG (X : Cx) (target : Expr) (t : TG) : Prop :=
  ∀ (pins : List (Addr × Obj)) (s : Shared) (σ : St) (H : Hp) (v : V) (u : Value) (Q : St → Hp → Prop), Inv X pins σ H s → RelV v u → t v σ H Q →
    wpAny (model X.prog X.w) X.A (assign target X.env u) (fun _ s' => ∃ σ' H', Inv X pins σ' H' s' ∧ Q σ' H') X.xe s
/-- several targets, one after another -/
def PGs (X : Cx) (ts : List Expr) (t : TGs) : Prop :=
  ∀ (pins : List (Addr × Obj)) (s : Shared) (σ : St) (H : Hp) (vs : List V) (us : List Value) (Q : St → Hp → Prop), Inv X pins σ H s → Vals vs us → t vs σ H Q →
    wpAny (model X.prog X.w) X.A (assignInOrder ((assignEach ts X.env).map (·.2)) us) (fun _ s' => ∃ σ' H', Inv X pins σ' H' s' ∧ Q σ' H') X.xe s
/-- o[i] = v, by values -/
abbrev TSet := V → V → V → Hp → (Hp → Prop) → Prop
def PSet (X : Cx) (t : TSet) : Prop :=
  ∀ (pins : List (Addr × Obj)) (s : Shared) (σ : St) (H : Hp) (o i v : V) (ov iv u : Value) (Q : Hp → Prop), Inv X pins σ H s → RelV o ov → RelV i iv → RelV v u → t o i v H Q →
    wpAny (model X.prog X.w) X.A (setItem ov iv u) (fun _ s' => ∃ H', Inv X pins σ H' s' ∧ Q H') X.xe s
section
variable {X : Cx} {pos : Pos}
def gName (i : Nat) : TG := fun v σ H Q => Q (σ.set i (some v)) H
theorem pg_name {i : Nat} {x : Str} (hN : X.N.Nodup) (hi : X.N[i]? = some x) (hx : Loc X.env.scope x) (hf : X.fn x = true ∨ X.env.scope.names.lookup x = some .local := by first | exact .inl rfl | exact .inr rfl | assumption) : PG X (.Name x pos) (gName i) := by
  intro pins s σ H v u Q I r h
  exact wpAny_assign_Name (store_ok I hN hi hx r (fun s' I' => ⟨_, H, I', h⟩) hf)
def gNil : TGs := fun vs σ H Q => vs = [] ∧ Q σ H
def gCons (t : TG) (u : TGs) : TGs := fun vs σ H Q => ∃ v r, vs = v :: r ∧ t v σ H fun σ' H' => u r σ' H' Q
theorem pgs_nil : PGs X [] gNil := by
  intro pins s σ H vs us Q I r h
  obtain ⟨e, h⟩ := h
  subst e
  cases r
  exact assignInOrder_nil ⟨σ, H, I, h⟩
theorem pgs_cons {e : Expr} {es : List Expr} {t : TG} {u : TGs} (h1 : PG X e t) (h2 : PGs X es u)
    (hs : (assignEach (e :: es) X.env).map (·.2) = assign e X.env :: (assignEach es X.env).map (·.2) := by rfl) : PGs X (e :: es) (gCons t u) := by
  intro pins s σ H vs us Q I r h
  obtain ⟨v, vr, e1, h⟩ := h
  subst e1
  cases r with
  | cons r rr =>
    rw [hs]
    refine assignInOrder_cons (thn (h1 pins s σ H _ _ _ I r h) fun _ s1 ⟨σ1, H1, I1, q1⟩ => ?_)
    exact h2 pins s1 σ1 H1 _ _ Q I1 rr q1
/-- (a, b, ..) = a tuple of that length -/
def gTup (K : PySem.W.Frag) (n : Nat) (t : TGs) : TG := fun v σ H Q => ∃ a xs, v = .ref a ∧ SqT K H a xs ∧ xs.length = n ∧ t xs σ H Q
theorem pg_tup {es : List Expr} {k : Nat} {t : TGs} {n : Nat} (hc : X.calm = true) (h : PGs X es t)
    (hn : (assignEach es X.env).length = n := by rfl) (hst : (assignEach es X.env).findIdx? (·.1) = none := by rfl) : PG X (.Tuple es k pos) (gTup X.K n t) := by
  intro pins s σ H v u Q I r hw
  obtain ⟨a, xs, e1, hq, hl, hw⟩ := hw
  subst e1
  cases r
  obtain ⟨its, rv, ht, hz⟩ := I.tuple hq
  refine assign_Tuple_tuple (I.ok.hd hc) ht (by simp [hn, ← hl, rv.length]) hst fun h' hx => ?_
  have I1 : Inv X pins σ H { s with heap := h' } := I.kept (t' := s.toks) fun b o e => hx b o (Nat.ne_of_lt (Heap.lt_size e)) e
  exact h pins _ σ H xs _ Q I1 (by simpa using rv) hw
/-- o[i] = .. -/
def gSub (to ti : TE) (t : TSet) : TG := fun v σ H Q => to σ H fun o H1 => ti σ H1 fun i H2 => t o i v H2 fun H3 => Q σ H3
theorem pg_sub {o i : Expr} {to ti : TE} {t : TSet} (ho : PE X o to) (hi : PE X i ti) (hs : PSet X t)
    (ha : ∀ v, assign (.Subscript o i pos) X.env v = (do
      let ov ← holding [v] (eval o X.env)
      let iv ← holding [v, ov] (eval i X.env)
      standAt pos
      holding [v, ov, iv] (setItem ov iv v)
      release [v, ov, iv] []) := by intro _; rfl) : PG X (.Subscript o i pos) (gSub to ti t) := by
  intro pins s σ H v u Q I r h
  rw [ha]
  refine wpAny_bind (wpAny_holding (thn (ho pins s σ H _ I h) fun ov s1 ⟨x, H1, I1, r1, q1⟩ => ?_))
  refine wpAny_bind (wpAny_holding (thn (hi pins s1 σ H1 _ I1 q1) fun iv s2 ⟨y, H2, I2, r2, q2⟩ => ?_))
  refine wpAny_bind (wpAny_standAt (wpAny_bind (wpAny_holding (thn (hs pins s2 σ H2 x y v ov iv u _ I2 r1 r2 r q2) fun _ s3 ⟨H3, I3, q3⟩ => ?_))))
  exact wpAny_release ⟨σ, H3, I3, q3⟩
/-- target = value -/
def tAsg (te : TE) (g : TG) : TS := fun D σ H => te σ H fun x H1 => g x σ H1 D.nx
theorem ps_asg {tg e : Expr} {te : TE} {g : TG} (he : PE X e te) (hg : PG X tg g) (hs : swapsWithSole [tg] e pos.line X.env = pure false := by rfl) (hw : swappedStores [tg] e X.env = pure none := by rfl)
    (h1 : (assignEach [tg] X.env).map (·.2) = [assign tg X.env] := by rfl) : PS X (.Assign [tg] e pos) (tAsg te g) := by
  intro pins s σ H D I h
  refine wpAny_Assign_stores (thn (he pins s σ H _ I h) fun v s1 ⟨x, H1, I1, r1, q1⟩ => ?_) hs hw
  rw [h1]
  exact thn (hg pins s1 σ H1 x v _ I1 r1 q1) fun _ s2 q => q
/-- name = value -/
theorem ps_set {i : Nat} {x : Str} {e : Expr} {te : TE} {pos' : Pos} (hN : X.N.Nodup) (hi : X.N[i]? = some x) (hx : Loc X.env.scope x) (he : PE X e te) (hs : swapsWith e (some (.Name x pos')) pos.line X.env = pure false := by rfl) (hf : X.fn x = true ∨ X.env.scope.names.lookup x = some .local := by first | exact .inl rfl | exact .inr rfl | assumption) :
    PS X (.Assign [.Name x pos'] e pos) (tAsg te (gName i)) := by
  intro pins s σ H D I h
  refine wpAny_Assign_Name (thn (he pins s σ H _ I h) fun v s1 ⟨y, H1, I1, r1, q1⟩ => ?_) hs
  exact store_ok I1 hN hi hx r1 (fun s2 I2 => ⟨_, H1, I2, q1⟩) hf
end

/-! ### while -/
section
variable {X : Cx} {pos : Pos}
end

/-! ### what a loop or a comprehension walks -/
/-- at turn i: it yields x (the heap may grow), or it stops -/
structure It where
  go : Nat → Hp → Prop
  yld : Nat → Hp → V → Hp → Prop
  stop : Nat → Hp → Prop
/-- the iterator's own objects may turn: they are not the frame's, not pinned, younger than the entry (or a comprehension's own) -/
def FpOk (X : Cx) (pins : List (Addr × Obj)) (H : Hp) (b : Addr) : Prop :=
  H b = none ∧ b ≠ X.env.locals ∧ b ∉ X.fs ∧ (b ∈ X.ex ∨ X.s₀.heap.objs.size ≤ b) ∧ (∀ x c, X.env.cells.lookup x = some c → c ≠ b) ∧ ∀ p ∈ X.pn ++ pins, p.1 ≠ b
theorem Inv.fpOk {X : Cx} {pins : List (Addr × Obj)} {σ : St} {H H' : Hp} {s : Shared} {b : Addr} (I : Inv X pins σ H s) (hb : s.heap.objs.size ≤ b) (hn : H' b = none) : FpOk X pins H' b := by
  refine ⟨hn, Nat.ne_of_gt (Nat.lt_of_lt_of_le I.lt hb), I.nofs hb, .inr (Nat.le_trans I.sz hb), fun x c e z => ?_, fun p hp z => ?_⟩
  · obtain ⟨v, q⟩ := I.cell x c e
    exact absurd (Nat.lt_of_lt_of_le q.lt (by rw [z]; exact hb)) (Nat.lt_irrefl _)
  · exact absurd (Nat.lt_of_lt_of_le (Heap.lt_size (I.pin p hp).1) (by rw [z]; exact hb)) (Nat.lt_irrefl _)
structure Turn (P : Program) (w : World) (K : PySem.W.Frag) (tg : Expr) (J : It) (fp : List Addr) (it : Addr) (tn : Nat → Heap → Prop) : Prop where
  mem : it ∈ fp
  obj : ∀ i h, tn i h → ∀ b ∈ fp, ∃ o, h.get? b = some o ∧ ∀ v, o.data ≠ .cell v
  keep : ∀ i h h', tn i h → (∀ b ∈ fp, ∀ o, h.get? b = some o → h'.get? b = some o) → tn i h'
  item : ∀ (X : Cx), X.prog = P → X.w = w → X.K = K → X.calm = true → ∀ (i : Nat) (pins : List (Addr × Obj)) (s : Shared) (σ : St) (H : Hp) (E : Value → Shared → Prop), Inv X pins σ H s → (∀ b ∈ fp, FpOk X pins H b) → tn i s.heap → J.go i H →
    wpAny (model P w) X.A (pyNext (.ref it)) (fun r s1 => ∃ u, r = some u ∧
      wpAny (model P w) X.A (letOwnedTupleGo tg (.ref it) u) (fun _ s2 => ∃ x H', Inv X pins σ H' s2 ∧ RelV x u ∧ J.yld i H x H' ∧ tn (i + 1) s2.heap ∧ ∀ b ∈ fp, H' b = none) E s1) E s
  done : ∀ (X : Cx), X.prog = P → X.w = w → X.K = K → X.calm = true → ∀ (i : Nat) (pins : List (Addr × Obj)) (s : Shared) (σ : St) (H : Hp) (E : Value → Shared → Prop), Inv X pins σ H s → (∀ b ∈ fp, FpOk X pins H b) → tn i s.heap → J.stop i H →
    wpAny (model P w) X.A (pyNext (.ref it)) (fun r s1 => r = none ∧ Inv X pins σ H s1) E s
  self : ∀ (A : Around) (i : Nat) (s : Shared) (Q : Value → Shared → Prop) (E : Value → Shared → Prop), tn i s.heap → Q (.ref it) s → wpAny (model P w) A (pyIter (.ref it)) Q E s
abbrev TI := St → Hp → (It → Hp → Prop) → Prop
/-- an iterator has come -/
def PIE (X : Cx) (pins : List (Addr × Obj)) (σ : St) (tg : Expr) (R : It → Hp → Prop) (itv : Value) (s2 : Shared) : Prop :=
  ∃ (it : Addr) (fp : List Addr) (tn : Nat → Heap → Prop) (J : It) (H' : Hp), itv = .ref it ∧ Inv X pins σ H' s2 ∧ Turn X.prog X.w X.K tg J fp it tn ∧ tn 0 s2.heap ∧ (∀ b ∈ fp, FpOk X pins H' b) ∧ R J H'
def PI (X : Cx) (tg iter : Expr) (wi : TI) : Prop :=
  ∀ (pins : List (Addr × Obj)) (s : Shared) (σ : St) (H : Hp) (R : It → Hp → Prop), Inv X pins σ H s → wi σ H R →
    wpAny (model X.prog X.w) X.A (eval iter X.env) (fun v s1 => wpAny (model X.prog X.w) X.A (pyIter v) (PIE X pins σ tg R) X.xe s1) X.xe s

/-- the step ahead of the store is nothing for an iterator that keeps no tuple -/
theorem go_of {M : Model} {A : Around} {E : Value → Shared → Prop} {s : Shared} {tg : Expr} {it : Addr} {u : Value} {o : Obj} {n : String} {vs : Array Value} {Q : Unit → Shared → Prop} (ho : s.heap.get? it = some o) (hc : o.cls = .type n) (hd : o.data = .fields vs)
    (hn : ["enumerate", "zip", "dict_itemiterator", "dict_reverseitemiterator", "odict_iterator", "itertools.zip_longest", "itertools.pairwise"].contains n = false) (hQ : Q () s) : wpAny M A (letOwnedTupleGo tg (.ref it) u) Q E s := by
  unfold letOwnedTupleGo
  cases tg <;> first
    | exact wpAny_pure hQ
    | (cases u <;> first
        | exact wpAny_pure hQ
        | (refine wpAny_bind (wpAny_load ho ?_)
           rw [hc, hd]
           show wpAny M A (if (["enumerate", "zip", "dict_itemiterator", "dict_reverseitemiterator", "odict_iterator", "itertools.zip_longest", "itertools.pairwise"].contains n && vs[0]? == some (rawInt _)) = true then _ else _) Q E s
           rw [if_neg (by intro h; rw [hn, Bool.false_and] at h; cases h)]
           exact wpAny_pure hQ))

/-- the list at a, as it stands at each turn (a loop may append to it) -/
def Itl (K : PySem.W.Frag) (a : Addr) : It :=
  ⟨fun i H => ∃ xs x, SqL K H a xs ∧ xs[i]? = some x, fun i H x H' => H' = H ∧ ∀ xs, SqL K H a xs → xs[i]? = some x, fun i H => ∃ xs, SqL K H a xs ∧ xs.length ≤ i⟩
/-- lo, lo + 1, .. (n of them) -/
def Itr (lo : Int) (n : Nat) : It := ⟨fun i _ => i < n, fun i H x H' => H' = H ∧ x = .int (lo + i), fun i _ => n ≤ i⟩
theorem turn_list {P : Program} {w : World} {K : PySem.W.Frag} {tg : Expr} (a it : Addr) : Turn P w K tg (Itl K a) [it] it (fun i h => h.IsListIter it a i) where
  mem := by simp
  obj := fun i h st b hb => by
    have e : b = it := by simpa using hb
    subst e
    obtain ⟨o, e, c, d⟩ := st
    exact ⟨o, e, fun v z => by rw [d] at z; cases z⟩
  keep := fun i h h' st k => st.at fun o e => k it (by simp) o e
  item := by
    intro X hP hw hK hc i pins s σ H E I hf st hg
    subst hP hw hK
    obtain ⟨xs, x, hq, hx⟩ := hg
    obtain ⟨its, rv, p, hz⟩ := I.list hq
    obtain ⟨u, hu, ru⟩ := rv.get hx
    obtain ⟨f0, f1, f2, f3, f4, f5⟩ := hf it (by simp)
    refine wpAny_pyNext_list_item st p.isList (x := u) (by simpa using hu) fun h' st' sb => ?_
    have I1 : Inv X pins σ H { s with heap := h' } := I.turned (t' := s.toks) (fun b o hb e => (sb.2 b hb).trans e) f0 f1 f3 f4 f5
    obtain ⟨o, e, c, d⟩ := id st'
    exact ⟨u, rfl, go_of (s := { s with heap := h' }) e c d (by decide) ⟨x, H, I1, ru, ⟨rfl, fun ys hy => by rw [I.list_inj hy hq]; exact hx⟩, st', fun b hb => (hf b hb).1⟩⟩
  done := by
    intro X hP hw hK hc i pins s σ H E I hf st hg
    subst hP hw hK
    obtain ⟨xs, hq, hx⟩ := hg
    obtain ⟨its, rv, p, hz⟩ := I.list hq
    obtain ⟨f0, f1, f2, f3, f4, f5⟩ := hf it (by simp)
    have hl := rv.length
    exact wpAny_pyNext_list_end (I.ok.hd hc) st p.isList (by simp; omega) fun h' eb => ⟨rfl, I.turned (t' := s.toks) (fun b o hb e => eb b o hb e) f0 f1 f3 f4 f5⟩
  self := fun _ _ _ _ _ st h => wpAny_pyIter_listiter st h
theorem turn_range {P : Program} {w : World} {K : PySem.W.Frag} {tg : Expr} (it : Addr) (lo : Int) (n : Nat) : Turn P w K tg (Itr lo n) [it] it (fun i h => IsRangeIter h it (lo + (i : Nat) * 1) ((n : Int) - (i : Nat)) 1) where
  mem := by simp
  obj := fun i h st b hb => by
    have e : b = it := by simpa using hb
    subst e
    exact ⟨_, st, fun v z => by
      have z' : Data.fields _ = Data.cell v := z
      cases z'⟩
  keep := fun i h h' st k => k it (by simp) _ st
  item := by
    intro X hP hw hK hc i pins s σ H E I hf st hg
    subst hP hw hK
    obtain ⟨f0, f1, f2, f3, f4, f5⟩ := hf it (by simp)
    have W := Walks.range (prog := X.prog) (w := X.w) (I.ok.hd hc) it lo 1 n
    refine W.item i s _ _ hg st fun v h' tk hv st' kk => ?_
    obtain ⟨t, rfl⟩ := hv
    have I1 : Inv X pins σ H { s with heap := h', toks := tk } := I.turned (fun b o hb e => kk b o (by simpa using hb) e) f0 f1 f3 f4 f5
    refine ⟨_, rfl, go_of (s := { s with heap := h', toks := tk }) (n := "range_iterator") st' rfl rfl (by decide) ⟨.int (lo + i), H, I1, ⟨t, ?_⟩, ⟨rfl, rfl⟩, st', fun b hb => (hf b hb).1⟩⟩
    rw [Int.mul_one]
  done := by
    intro X hP hw hK hc i pins s σ H E I hf st hg
    subst hP hw hK
    obtain ⟨f0, f1, f2, f3, f4, f5⟩ := hf it (by simp)
    exact wpAny_pyNext_range_end (I.ok.hd hc) st (by have : n ≤ i := hg; omega) fun h' eb => ⟨rfl, I.turned (t' := s.toks) (fun b o hb e => eb b o hb e) f0 f1 f3 f4 f5⟩
  self := fun _ _ _ _ _ st h => wpAny_pyIter_rangeiter st h
end L2

namespace L2
open PySem PySem.Spec PyProof.Rows
section
variable {X : Cx} {tg : Expr}
def iList (K : PySem.W.Frag) (tl : TE) : TI := fun σ H R => tl σ H fun x H1 => ∃ a, x = .ref a ∧ (∃ xs, SqL K H1 a xs) ∧ R (Itl K a) H1
theorem pi_list {l : Expr} {tl : TE} (hl : PE X l tl) : PI X tg l (iList X.K tl) := by
  intro pins s σ H R I h
  refine thn (hl pins s σ H _ I h) fun v s1 ⟨x, H1, I1, r1, q1⟩ => ?_
  obtain ⟨a, e, ⟨xs, hq⟩, q⟩ := q1
  subst e
  cases r1
  obtain ⟨its, rv, p, hz⟩ := I1.list hq
  refine wpAny_pyIter_list p.isList ?_
  refine ⟨s1.heap.objs.size, [s1.heap.objs.size], _, _, H1, rfl, I1.kept (t' := s1.toks) fun b o e => Heap.get?_push_of_some _ e, turn_list a _, ⟨_, Heap.get?_push_size _ rfl, rfl, rfl⟩, fun b hb => ?_, q⟩
  have e : b = s1.heap.objs.size := by simpa using hb
  subst e
  exact I1.fpOk (Nat.le_refl _) (I1.hok.fresh (Nat.le_refl _))
/-- a range object just made, walked -/
theorem range_it {pins : List (Addr × Obj)} {σ : St} {H : Hp} {s : Shared} {R : It → Hp → Prop} {E : Value → Shared → Prop} {lo hi : Int} {t u v : Tok} {tk : Nat} (I : Inv X pins σ H s) (h1 : -(2 ^ 62) ≤ lo) (h2 : lo < 2 ^ 62) (h3 : -(2 ^ 62) ≤ hi) (h4 : hi < 2 ^ 62)
    (q : R (Itr lo (hi - lo).toNat) H) : wpAny (model X.prog X.w) X.A (pyIter (.ref s.heap.objs.size)) (PIE X pins σ tg R) E { s with heap := s.heap.push { cls := .type "range", data := .fields #[.int lo t, .int hi u, .int 1 v] }, toks := tk } := by
  refine wpAny_pyIter_range (IsRange.new ..) (small_one h1 h2 h3 h4) ?_
  have I1 : Inv X pins σ H { s with heap := s.heap.push { cls := .type "range", data := .fields #[.int lo t, .int hi u, .int 1 v] }, toks := tk } := I.kept fun b o e => Heap.get?_push_of_some _ e
  refine ⟨(s.heap.push { cls := .type "range", data := .fields #[.int lo t, .int hi u, .int 1 v] }).objs.size, [(s.heap.push { cls := .type "range", data := .fields #[.int lo t, .int hi u, .int 1 v] }).objs.size], _, _, H, rfl,
    I1.kept (t' := tk) fun b o e => Heap.get?_push_of_some _ e, turn_range _ lo (hi - lo).toNat, ?_, fun b hb => ?_, q⟩
  · have e1 : lo + ((0 : Nat) : Int) * 1 = lo := by simp
    have e2 : (((hi - lo).toNat : Nat) : Int) - ((0 : Nat) : Int) = Builtin.Range.rangeSize lo hi 1 := by rw [rangeSize_one]; split <;> omega
    show IsRangeIter _ _ (lo + ((0 : Nat) : Int) * 1) ((((hi - lo).toNat : Nat) : Int) - ((0 : Nat) : Int)) 1
    rw [e1, e2]
    exact Heap.get?_push_size _ rfl
  · have e : b = (s.heap.push { cls := .type "range", data := .fields #[.int lo t, .int hi u, .int 1 v] }).objs.size := by simpa using hb
    subst e
    exact I1.fpOk (Nat.le_refl _) (I1.hok.fresh (Nat.le_refl _))
def iRng1 (ta : TA) : TI := fun σ H R => ta σ H fun vs H1 => ∃ j : Int, vs = [.int j] ∧ -(2 ^ 62) ≤ j ∧ j < 2 ^ 62 ∧ R (Itr 0 j.toNat) H1
theorem pi_range1 {a : Expr} {ta : TA} {p pos : Pos} (hg : Gl X "range") (hm : X.mg "range" = none) (ha : PA X [a] ta) (hs : starEach [a] X.env = [(false, eval a X.env)] := by rfl) : PI X tg (.Call (.Name "range" p) [a] [] pos) (iRng1 ta) := by
  intro pins s σ H R I h
  refine Call_ (ld_blt I hg hm boot_range (PyProof.Rows.callWith_type1 (thn (ha pos pins s σ H _ I h) fun us s1 ⟨vs, H1, I1, r1, q1⟩ => ?_) hs rfl))
  obtain ⟨j, e, q1, q2, q⟩ := q1
  subst e
  cases r1 with
  | cons r rr =>
    cases rr
    obtain ⟨t, rfl⟩ := r
    exact call_range_1 (range_it I1 (by omega) (by omega) q1 q2 (by simpa using q))
/-! ### for -/
/-- W: the invariant by the turn and a measure; N: what the body is to reach -/
def tFor (wi : TI) (g : TG) (tb : TS) : TS := fun D σ H => wi σ H fun J H1 => ∃ W : Nat → Nat → St → Hp → Prop, (∃ m, W 0 m σ H1) ∧ ∀ i m σ H, W i m σ H →
  (J.stop i H ∧ D.nx σ H) ∨ (J.go i H ∧ ∃ N : St → Hp → Prop, (∀ σ' H', N σ' H' → ∃ m', m' < m ∧ W (i + 1) m' σ' H') ∧ ∀ x H', J.yld i H x H' → g x σ H' fun σ2 H2 => tb { D with nx := N, ct := N, bk := D.nx } σ2 H2)
/-- the records at fp as they stand -/
def pinsAt (fp : List Addr) (h : Heap) : List (Addr × Obj) := fp.filterMap fun b => (h.get? b).map fun o => (b, o)
theorem mem_pinsAt {fp : List Addr} {h : Heap} {b : Addr} {o : Obj} (hb : b ∈ fp) (e : h.get? b = some o) : (b, o) ∈ pinsAt fp h := List.mem_filterMap.mpr ⟨b, hb, by rw [e]; rfl⟩
theorem of_pinsAt {fp : List Addr} {h : Heap} {p : Addr × Obj} (hp : p ∈ pinsAt fp h) : p.1 ∈ fp ∧ h.get? p.1 = some p.2 := by
  obtain ⟨b, hb, e⟩ := List.mem_filterMap.mp hp
  cases q : h.get? b with
  | none => rw [q] at e; cases e
  | some o =>
    rw [q] at e
    have e' : (b, o) = p := Option.some.inj e
    subst e'
    exact ⟨hb, q⟩
theorem Inv.pinned {pins : List (Addr × Obj)} {σ : St} {H : Hp} {s : Shared} {fp : List Addr} (I : Inv X pins σ H s) (hf : ∀ b ∈ fp, FpOk X pins H b) (ho : ∀ b ∈ fp, ∃ o, s.heap.get? b = some o ∧ ∀ v, o.data ≠ .cell v) : Inv X (pins ++ pinsAt fp s.heap) σ H s :=
  I.pins_of fun p hp => (List.mem_append.mp hp).elim (fun z => I.pin p (List.mem_append_right _ z)) fun z => by
    obtain ⟨hb, e⟩ := of_pinsAt z
    obtain ⟨f0, f1, f2, _⟩ := hf p.1 hb
    obtain ⟨o, e', d⟩ := ho p.1 hb
    rw [e] at e'; cases e'
    exact ⟨e, f0, f1, f2, d⟩
theorem Inv.unpinned {pins pl : List (Addr × Obj)} {σ : St} {H : Hp} {s : Shared} (I : Inv X (pins ++ pl) σ H s) : Inv X pins σ H s := I.pins_of fun p hp => I.pin p (List.mem_append_right _ (List.mem_append_left _ hp))
theorem ps_for {iter : Expr} {body : List Stmt} {wi : TI} {g : TG} {tb : TS} {pos : Pos} (hp : PassesOwn (model X.prog X.w) X.A X.env X.xe) (hc : X.calm = true) (hi : PI X tg iter wi) (hg : PG X tg g) (hb : PSs X body tb)
    (hs : ∀ x, foldedSetIterable iter X.env x = pure x := by intro _; rfl) : PS X (.For tg iter body [] pos) (tFor wi g tb) := by
  intro pins s σ H D I h
  refine wpAny_For (thn (hi pins s σ H _ I h) fun v s1 h1 => thn h1 fun itv s2 h2 => ?_) hs
  obtain ⟨it, fp, tn, J, H2, e, I2, T, st2, f2, W, ⟨m0, w0⟩, turn⟩ := h2
  subst e
  -- what stays true of the iterator's objects through the loop
  have stat : ∀ {H' : Hp}, (∀ b ∈ fp, H' b = none) → ∀ b ∈ fp, FpOk X pins H' b := fun hn b hb => ⟨hn b hb, (f2 b hb).2⟩
  refine codeAny_forLoop_any (fun n s' => ∃ i σ' H', Inv X pins σ' H' s' ∧ tn i s'.heap ∧ (∀ b ∈ fp, H' b = none) ∧ W i n σ' H') ?_ m0 ⟨0, σ, H2, I2, st2, fun b hb => (f2 b hb).1, w0⟩
  rintro n s3 ⟨i, σ3, H3, I3, st3, fr3, w3⟩
  rcases turn i n σ3 H3 w3 with ⟨stop, qn⟩ | ⟨go, N, hN, step⟩
  · refine wpAny_passesOwn hp (thn (T.done X rfl rfl rfl hc i pins s3 σ3 H3 X.xe I3 (stat fr3) st3 stop) fun r s4 ⟨hr, I4⟩ => ?_)
    subst hr
    exact wpAny_execs_nil ⟨σ3, H3, I4, qn⟩
  · refine wpAny_passesOwn hp (thn (T.item X rfl rfl rfl hc i pins s3 σ3 H3 X.xe I3 (stat fr3) st3 go) fun r s4 ⟨u, hr, h4⟩ => ?_)
    subst hr
    refine wpAny_passesOwn hp (thn h4 fun _ s5 ⟨x, H5, I5, r5, y5, st5, fr5⟩ => ?_)
    have I5' := I5.pinned (stat fr5) (T.obj _ _ st5)
    refine wpAny_passesOwn hp (thn (hg _ s5 σ3 H5 x u _ I5' r5 (step x H5 y5)) fun _ s6 ⟨σ6, H6, I6, q6⟩ => ?_)
    refine wpAny_passesOwn hp (thn (hb _ s6 σ6 H6 _ I6 q6) fun f s7 q7 => ?_)
    have again : ∀ {σ7 : St} {H7 : Hp}, Inv X (pins ++ pinsAt fp s5.heap) σ7 H7 s7 → N σ7 H7 → ∃ m, m < n ∧ ∃ i σ' H', Inv X pins σ' H' s7 ∧ tn i s7.heap ∧ (∀ b ∈ fp, H' b = none) ∧ W i m σ' H' := fun {σ7 H7} I7 n7 => by
      obtain ⟨m', hm, w7⟩ := hN σ7 H7 n7
      refine ⟨m', hm, i + 1, σ7, H7, I7.unpinned, T.keep _ _ _ st5 fun b hb o e => (I7.pin (b, o) (List.mem_append_right _ (List.mem_append_right _ (mem_pinsAt hb e)))).1, fun b hb => ?_, w7⟩
      obtain ⟨o, e, d⟩ := T.obj _ _ st5 b hb
      exact (I7.pin (b, o) (List.mem_append_right _ (List.mem_append_right _ (mem_pinsAt hb e)))).2.1
    cases f with
    | next => obtain ⟨σ7, H7, I7, n7⟩ := q7; exact again I7 n7
    | cont => obtain ⟨σ7, H7, I7, n7⟩ := q7; exact again I7 n7
    | brk => obtain ⟨σ7, H7, I7, q7⟩ := q7; exact ⟨σ7, H7, I7.unpinned, q7⟩
    | ret v => obtain ⟨x7, σ7, H7, I7, r7, q7⟩ := q7; exact ⟨x7, σ7, H7, I7.unpinned, r7, q7⟩
end

/-! ### the forms one uses -/
/-- over a list that the body leaves as it is -/
theorem for_list {K : PySem.W.Frag} {a : Addr} {xs : List V} {g : TG} {tb : TS} {D : Ends} {σ : St} {H : Hp} (Pv : Nat → St → Hp → Prop) (h0 : Pv 0 σ H) (hl : ∀ i σ H, i ≤ xs.length → Pv i σ H → SqL K H a xs)
    (hs : ∀ i x σ H, xs[i]? = some x → Pv i σ H → g x σ H fun σ2 H2 => tb { D with nx := Pv (i + 1), ct := Pv (i + 1), bk := D.nx } σ2 H2) (hd : ∀ σ H, Pv xs.length σ H → D.nx σ H) :
    ∃ W : Nat → Nat → St → Hp → Prop, (∃ m, W 0 m σ H) ∧ ∀ i m σ H, W i m σ H →
      ((Itl K a).stop i H ∧ D.nx σ H) ∨ ((Itl K a).go i H ∧ ∃ N : St → Hp → Prop, (∀ σ' H', N σ' H' → ∃ m', m' < m ∧ W (i + 1) m' σ' H') ∧ ∀ x H', (Itl K a).yld i H x H' → g x σ H' fun σ2 H2 => tb { D with nx := N, ct := N, bk := D.nx } σ2 H2) := by
  refine ⟨fun i m σ H => m = xs.length - i ∧ i ≤ xs.length ∧ Pv i σ H, ⟨xs.length, by simp, Nat.zero_le _, h0⟩, ?_⟩
  rintro i m σ H ⟨rfl, hi, p⟩
  have q := hl i σ H hi p
  by_cases hlt : i < xs.length
  · refine .inr ⟨⟨xs, xs[i], q, by simp [hlt]⟩, Pv (i + 1), fun σ' H' p' => ⟨xs.length - (i + 1), by omega, rfl, hlt, p'⟩, fun x H' y => ?_⟩
    obtain ⟨e, y⟩ := y
    subst e
    exact hs i x σ _ (y xs q) p
  · have e : i = xs.length := by omega
    subst e
    exact .inl ⟨⟨xs, q, Nat.le_refl _⟩, hd σ H p⟩
theorem for_range {lo : Int} {n : Nat} {g : TG} {tb : TS} {D : Ends} {σ : St} {H : Hp} (Pv : Nat → St → Hp → Prop) (h0 : Pv 0 σ H)
    (hs : ∀ i σ H, i < n → Pv i σ H → g (.int (lo + i)) σ H fun σ2 H2 => tb { D with nx := Pv (i + 1), ct := Pv (i + 1), bk := D.nx } σ2 H2) (hd : ∀ σ H, Pv n σ H → D.nx σ H) :
    ∃ W : Nat → Nat → St → Hp → Prop, (∃ m, W 0 m σ H) ∧ ∀ i m σ H, W i m σ H →
      ((Itr lo n).stop i H ∧ D.nx σ H) ∨ ((Itr lo n).go i H ∧ ∃ N : St → Hp → Prop, (∀ σ' H', N σ' H' → ∃ m', m' < m ∧ W (i + 1) m' σ' H') ∧ ∀ x H', (Itr lo n).yld i H x H' → g x σ H' fun σ2 H2 => tb { D with nx := N, ct := N, bk := D.nx } σ2 H2) := by
  refine ⟨fun i m σ H => m = n - i ∧ i ≤ n ∧ Pv i σ H, ⟨n, by simp, Nat.zero_le _, h0⟩, ?_⟩
  rintro i m σ H ⟨rfl, hi, p⟩
  by_cases hlt : i < n
  · refine .inr ⟨hlt, Pv (i + 1), fun σ' H' p' => ⟨n - (i + 1), by omega, rfl, hlt, p'⟩, fun x H' y => ?_⟩
    obtain ⟨e, y⟩ := y
    subst e y
    exact hs i σ _ hlt p
  · have e : i = n := by omega
    subst e
    exact .inl ⟨Nat.le_refl _, hd σ H p⟩
end L2

namespace L2
open PySem PySem.Spec PyProof.Rows

abbrev R2 := V → V → Hp → VK → Prop
/-- a two-place operation on values: f is binaryOp op, inplaceOp op or compareOp op -/
def OpR (X : Cx) (f : Value → Value → Sem Value) (r : R2) : Prop :=
  ∀ (pins : List (Addr × Obj)) (s : Shared) (σ : St) (H : Hp) (x y : V) (v u : Value) (Q : VK), Inv X pins σ H s → RelV x v → RelV y u → r x y H Q →
    wpAny (model X.prog X.w) X.A (f v u) (EP X pins σ Q) X.xe s
/-- a one-place operation -/
def UnR (X : Cx) (f : Value → Sem Value) (r : V → Hp → VK → Prop) : Prop :=
  ∀ (pins : List (Addr × Obj)) (s : Shared) (σ : St) (H : Hp) (x : V) (v : Value) (Q : VK), Inv X pins σ H s → RelV x v → r x H Q →
    wpAny (model X.prog X.w) X.A (f v) (EP X pins σ Q) X.xe s
/-- a call of a value that is known (a builtin, a type) with values -/
def CallR (X : Cx) (f : Value) (r : List V → Hp → VK → Prop) : Prop :=
  ∀ (pins : List (Addr × Obj)) (s : Shared) (σ : St) (H : Hp) (xs : List V) (us : List Value) (Q : VK), Inv X pins σ H s → Vals xs us → r xs H Q →
    wpAny (model X.prog X.w) X.A (call f us) (EP X pins σ Q) X.xe s
/-- a value's truth -/
def TruR (X : Cx) (r : V → Hp → (Bool → Hp → Prop) → Prop) : Prop :=
  ∀ (pins : List (Addr × Obj)) (s : Shared) (σ : St) (H : Hp) (x : V) (v : Value) (Q : Bool → Hp → Prop), Inv X pins σ H s → RelV x v → r x H Q →
    wpAny (model X.prog X.w) X.A (truthy v) (TP X pins σ Q) X.xe s

def tOp (r : R2) (ta tb : TE) : TE := fun σ H Q => ta σ H fun x H1 => tb σ H1 fun y H2 => r x y H2 Q
def tUn (r : V → Hp → VK → Prop) (ta : TE) : TE := fun σ H Q => ta σ H fun x H1 => r x H1 Q
/-- ints in, under C, and a value out -/
def rI (C : Int → Int → Prop) (g : Int → Int → V) : R2 := fun x y H Q => ∃ i j, x = .int i ∧ y = .int j ∧ C i j ∧ Q (g i j) H
def rI0 (g : Int → Int → V) : R2 := fun x y H Q => ∃ i j, x = .int i ∧ y = .int j ∧ Q (g i j) H
def rU (g : Int → V) : V → Hp → VK → Prop := fun x H Q => ∃ i, x = .int i ∧ Q (g i) H

section
variable {X : Cx} {a b c : Expr} {ta tb tc : TE} {pos : Pos}

theorem binT (ha : PE X a ta) (hb : PE X b tb) {pins : List (Addr × Obj)} {s : Shared} {σ : St} {H : Hp} {R : V → V → Hp → Prop} (I : Inv X pins σ H s)
    (h : ta σ H fun x H1 => tb σ H1 fun y H2 => R x y H2) {Q : Value → Shared → Prop} {f : Value → Value → Sem Value}
    (hf : ∀ v u s2 x y H2, Inv X pins σ H2 s2 → RelV x v → RelV y u → R x y H2 → wpAny (model X.prog X.w) X.A (f v u) Q X.xe s2) :
    wpAny (model X.prog X.w) X.A (eval a X.env) (fun v s₁ => wpAny (model X.prog X.w) X.A (eval b X.env) (fun u s₂ => wpAny (model X.prog X.w) X.A (f v u) Q X.xe s₂) X.xe s₁) X.xe s := by
  refine thn (ha pins s σ H _ I h) fun v s1 ⟨x, H1, I1, r1, q1⟩ => ?_
  refine thn (hb pins s1 σ H1 _ I1 q1) fun u s2 ⟨y, H2, I2, r2, q2⟩ => ?_
  exact hf v u s2 x y H2 I2 r1 r2 q2

theorem pe_op {op : Operator} {r : R2} (ho : OpR X (binaryOp op) r) (ha : PE X a ta) (hb : PE X b tb) : PE X (.BinOp a op b pos) (tOp r ta tb) := by
  intro pins s σ H Q I h
  exact wpAny_BinOp (binT ha hb I h fun v u s2 x y H2 I2 rx ry q => ho pins s2 σ H2 x y v u Q I2 rx ry q)
theorem pe_un {op : UnaryOp} {r : V → Hp → VK → Prop} (ho : UnR X (unaryOp op) r) (ha : PE X a ta) : PE X (.UnaryOp op a pos) (tUn r ta) := by
  intro pins s σ H Q I h
  exact UnaryOp_ (thn (ha pins s σ H _ I h) fun v s1 ⟨x, H1, I1, r1, q1⟩ => ho pins s1 σ H1 x v Q I1 r1 q1)
/-! ### ints -/
theorem opI {f : Value → Value → Sem Value} {C : Int → Int → Prop} {g : Int → Int → Int}
    (rule : ∀ (i j : Int) (t u : Tok) (s : Shared) (Q : Value → Shared → Prop) (E : Value → Shared → Prop), C i j → Q (.int (g i j) s.toks) { s with toks := s.toks + 1 } → wpAny (model X.prog X.w) X.A (f (.int i t) (.int j u)) Q E s) :
    OpR X f (rI C fun i j => .int (g i j)) := by
  intro pins s σ H x y v u Q I rx ry h
  obtain ⟨i, j, rfl, rfl, hc, q⟩ := h
  obtain ⟨t, rfl⟩ := rx
  obtain ⟨t', rfl⟩ := ry
  exact rule i j t t' s _ _ hc ⟨.int (g i j), H, I.tok _, ⟨_, rfl⟩, q⟩
theorem opI0 {f : Value → Value → Sem Value} {g : Int → Int → Int}
    (rule : ∀ (i j : Int) (t u : Tok) (s : Shared) (Q : Value → Shared → Prop) (E : Value → Shared → Prop), Q (.int (g i j) s.toks) { s with toks := s.toks + 1 } → wpAny (model X.prog X.w) X.A (f (.int i t) (.int j u)) Q E s) :
    OpR X f (rI0 fun i j => .int (g i j)) := by
  intro pins s σ H x y v u Q I rx ry h
  obtain ⟨i, j, rfl, rfl, q⟩ := h
  obtain ⟨t, rfl⟩ := rx
  obtain ⟨t', rfl⟩ := ry
  exact rule i j t t' s _ _ ⟨.int (g i j), H, I.tok _, ⟨_, rfl⟩, q⟩
theorem opB0 {f : Value → Value → Sem Value} {g : Int → Int → Bool}
    (rule : ∀ (i j : Int) (t u : Tok) (s : Shared) (Q : Value → Shared → Prop) (E : Value → Shared → Prop), Q (.bool (g i j)) s → wpAny (model X.prog X.w) X.A (f (.int i t) (.int j u)) Q E s) :
    OpR X f (rI0 fun i j => .bl (g i j)) := by
  intro pins s σ H x y v u Q I rx ry h
  obtain ⟨i, j, rfl, rfl, q⟩ := h
  obtain ⟨t, rfl⟩ := rx
  obtain ⟨t', rfl⟩ := ry
  exact rule i j t t' s _ _ ⟨.bl (g i j), H, I, rfl, q⟩

def CDiv (i j : Int) : Prop := 0 < j ∧ j < 1073741824
def CPow (i j : Int) : Prop := 0 ≤ j ∧ j ≤ 1000000 ∧ i.natAbs < 2 ^ 64
def CMul (i j : Int) : Prop := (-(2 ^ 64) < i ∧ i < 2 ^ 64) ∨ (-(2 ^ 64) < j ∧ j < 2 ^ 64)
theorem CMul.ok {i j : Int} (h : CMul i j) : IntMulOk i j := by
  rcases h with ⟨h1, h2⟩ | ⟨h1, h2⟩
  · exact .of_left (intBits_le_64 h1 h2)
  · exact .of_right (intBits_le_64 h1 h2)
theorem op_add : OpR X (binaryOp .Add) (rI0 fun i j => .int (i + j)) := opI0 fun _ _ _ _ _ _ _ q => add_int q
theorem op_sub : OpR X (binaryOp .Sub) (rI0 fun i j => .int (i - j)) := opI0 fun _ _ _ _ _ _ _ q => sub_int q
theorem op_mul : OpR X (binaryOp .Mult) (rI CMul fun i j => .int (i * j)) := opI fun _ _ _ _ _ _ _ hc q => mul_int q hc.ok
/-- // by a positive divisor -/
theorem op_fdiv : OpR X (binaryOp .FloorDiv) (rI CDiv fun i j => .int (i / j)) := opI fun i j _ _ _ _ _ hc q => by
  have h1 : (0 : Int) < j := hc.1
  have h2 : j < 1073741824 := hc.2
  exact floordiv_int (by omega) (by rw [Int.fdiv_eq_ediv_of_nonneg i (by omega)]; exact q) (.inl (PyProof.noPylong_small (by omega)))
/-- % by a positive divisor of any size -/
theorem op_mod : OpR X (binaryOp .Mod) (rI (fun _ j => 0 < j) fun i j => .int (i % j)) := opI fun i j _ _ _ _ _ hc q => by
  have h1 : (0 : Int) < j := hc
  exact mod_int' (by omega) (by rw [Int.fmod_eq_emod_of_nonneg i (by omega)]; exact q)
theorem op_pow : OpR X (binaryOp .Pow) (rI CPow fun i j => .int (i ^ j.toNat)) := opI fun _ _ _ _ _ _ _ hc q => pow_int_small hc.1 hc.2.1 hc.2.2 q
theorem unI {f : Value → Sem Value} {g : Int → Int}
    (rule : ∀ (i : Int) (t : Tok) (s : Shared) (Q : Value → Shared → Prop) (E : Value → Shared → Prop), Q (.int (g i) s.toks) { s with toks := s.toks + 1 } → wpAny (model X.prog X.w) X.A (f (.int i t)) Q E s) :
    UnR X f (rU fun i => .int (g i)) := by
  intro pins s σ H x v Q I rx h
  obtain ⟨i, rfl, q⟩ := h
  obtain ⟨t, rfl⟩ := rx
  exact rule i t s _ _ ⟨.int (g i), H, I.tok _, ⟨_, rfl⟩, q⟩
theorem un_neg : UnR X (unaryOp .USub) (rU fun i => .int (-i)) := unI fun _ _ _ _ _ q => neg_int q
/-! ### bools among ints: n += (a < b) -/
end

/-! ### comparisons -/
/-- the scalars that == tells apart as data does -/
def scal : V → V → Bool
  | .non, .non => true | .non, .int _ => true | .int _, .non => true | .non, .bl _ => true | .bl _, .non => true | .non, .str _ => true | .str _, .non => true
  | .int _, .int _ => true | .bl _, .bl _ => true | .str _, .str _ => true | .byt _, .byt _ => true
  | .int _, .str _ => true | .str _, .int _ => true | .bl _, .str _ => true | .str _, .bl _ => true
  | _, _ => false
def rEq : R2 := fun x y H Q => scal x y = true ∧ Q (.bl (decide (x = y))) H
def rNe : R2 := fun x y H Q => scal x y = true ∧ Q (.bl (!decide (x = y))) H

theorem dec_int {i j : Int} : decide (V.int i = V.int j) = (i == j) := by
  rw [Bool.eq_iff_iff]
  simp
theorem dec_bl {i j : Bool} : decide (V.bl i = V.bl j) = (i == j) := by
  rw [Bool.eq_iff_iff]
  simp
theorem dec_str {i j : Str} : decide (V.str i = V.str j) = (i == j) := by
  rw [Bool.eq_iff_iff]
  simp
theorem dec_byt {i j : Array UInt8} : decide (V.byt i = V.byt j) = (i.toList == j.toList) := by
  rw [Bool.eq_iff_iff]
  cases i
  cases j
  simp

section
variable {X : Cx} {a b c : Expr} {ta tb tc : TE} {pos : Pos}
theorem fin_bl {pins : List (Addr × Obj)} {σ : St} {H : Hp} {s : Shared} {Q : VK} {k k' : Bool} (I : Inv X pins σ H s) (q : Q (.bl k) H) (e : k = k') : EP X pins σ Q (.bool k') s := by
  subst e
  exact ⟨.bl k, H, I, rfl, q⟩
theorem op_eq : OpR X (compareOp .Eq) rEq := by
  intro pins s σ H x y v u Q I rx ry h
  obtain ⟨hs, q⟩ := h
  cases x with
  | non =>
    cases rx
    cases y with
    | non => cases ry; exact PySem.EqNone.eq_none_none (fin_bl I q (by simp))
    | bl j => cases ry; exact PySem.EqNone.eq_none_bool (fin_bl I q (by simp))
    | int j => obtain ⟨t', rfl⟩ := ry; exact PySem.EqNone.eq_none_int (fin_bl I q (by simp))
    | str j => obtain ⟨t', rfl⟩ := ry; exact PySem.EqNone.eq_none_str (fin_bl I q (by simp))
    | _ => exact absurd (show false = true from hs) Bool.false_ne_true
  | bl i =>
    cases rx
    cases y with
    | non => cases ry; exact PySem.EqNone.eq_bool_none (fin_bl I q (by simp))
    | bl j => cases ry; exact eq_bool (fin_bl I q dec_bl)
    | str j => obtain ⟨t', rfl⟩ := ry; exact PySem.EqMixed.eq_bool_str (fin_bl I q (by simp))
    | _ => exact absurd (show false = true from hs) Bool.false_ne_true
  | int i =>
    obtain ⟨t, rfl⟩ := rx
    cases y with
    | non => cases ry; exact PySem.EqNone.eq_int_none (fin_bl I q (by simp))
    | int j => obtain ⟨t', rfl⟩ := ry; exact eq_int (fin_bl I q dec_int)
    | str j => obtain ⟨t', rfl⟩ := ry; exact PySem.EqMixed.eq_int_str (fin_bl I q (by simp))
    | _ => exact absurd (show false = true from hs) Bool.false_ne_true
  | str i =>
    obtain ⟨t, rfl⟩ := rx
    cases y with
    | non => cases ry; exact PySem.EqNone.eq_str_none (fin_bl I q (by simp))
    | bl j => cases ry; exact PySem.EqMixed.eq_str_bool (fin_bl I q (by simp))
    | int j => obtain ⟨t', rfl⟩ := ry; exact PySem.EqMixed.eq_str_int (fin_bl I q (by simp))
    | str j => obtain ⟨t', rfl⟩ := ry; exact eq_str (fin_bl I q dec_str)
    | _ => exact absurd (show false = true from hs) Bool.false_ne_true
  | byt i =>
    obtain ⟨t, rfl⟩ := rx
    cases y with
    | byt j => obtain ⟨t', rfl⟩ := ry; exact PySem.W.eq_bytes (fin_bl I q dec_byt)
    | _ => exact absurd (show false = true from hs) Bool.false_ne_true
  | _ => cases y <;> exact absurd (show false = true from hs) Bool.false_ne_true
theorem op_ne : OpR X (compareOp .NotEq) rNe := by
  intro pins s σ H x y v u Q I rx ry h
  obtain ⟨hs, q⟩ := h
  cases x with
  | non =>
    cases rx
    cases y with
    | non => cases ry; exact PySem.EqNone.ne_none_none (fin_bl I q (by simp))
    | bl j => cases ry; exact PySem.EqNone.ne_none_bool (fin_bl I q (by simp))
    | int j => obtain ⟨t', rfl⟩ := ry; exact PySem.EqNone.ne_none_int (fin_bl I q (by simp))
    | str j => obtain ⟨t', rfl⟩ := ry; exact PySem.EqNone.ne_none_str (fin_bl I q (by simp))
    | _ => exact absurd (show false = true from hs) Bool.false_ne_true
  | bl i =>
    cases rx
    cases y with
    | non => cases ry; exact PySem.EqNone.ne_bool_none (fin_bl I q (by simp))
    | bl j => cases ry; exact ne_bool (fin_bl I q (congrArg not dec_bl))
    | str j => obtain ⟨t', rfl⟩ := ry; exact PySem.EqMixed.ne_bool_str (fin_bl I q (by simp))
    | _ => exact absurd (show false = true from hs) Bool.false_ne_true
  | int i =>
    obtain ⟨t, rfl⟩ := rx
    cases y with
    | non => cases ry; exact PySem.EqNone.ne_int_none (fin_bl I q (by simp))
    | int j => obtain ⟨t', rfl⟩ := ry; exact ne_int (fin_bl I q (congrArg not dec_int))
    | str j => obtain ⟨t', rfl⟩ := ry; exact PySem.EqMixed.ne_int_str (fin_bl I q (by simp))
    | _ => exact absurd (show false = true from hs) Bool.false_ne_true
  | str i =>
    obtain ⟨t, rfl⟩ := rx
    cases y with
    | non => cases ry; exact PySem.EqNone.ne_str_none (fin_bl I q (by simp))
    | bl j => cases ry; exact PySem.EqMixed.ne_str_bool (fin_bl I q (by simp))
    | int j => obtain ⟨t', rfl⟩ := ry; exact PySem.EqMixed.ne_str_int (fin_bl I q (by simp))
    | str j => obtain ⟨t', rfl⟩ := ry; exact ne_str (fin_bl I q (congrArg not dec_str))
    | _ => exact absurd (show false = true from hs) Bool.false_ne_true
  | byt i =>
    obtain ⟨t, rfl⟩ := rx
    cases y with
    | byt j => obtain ⟨t', rfl⟩ := ry; exact PySem.W.ne_bytes (fin_bl I q (congrArg not dec_byt))
    | _ => exact absurd (show false = true from hs) Bool.false_ne_true
  | _ => cases y <;> exact absurd (show false = true from hs) Bool.false_ne_true

theorem op_lt : OpR X (compareOp .Lt) (rI0 fun i j => .bl (decide (i < j))) := opB0 fun _ _ _ _ _ _ _ q => lt_int q
theorem op_le : OpR X (compareOp .LtE) (rI0 fun i j => .bl (decide (i ≤ j))) := opB0 fun _ _ _ _ _ _ _ q => le_int q
theorem op_gt : OpR X (compareOp .Gt) (rI0 fun i j => .bl (decide (j < i))) := opB0 fun _ _ _ _ _ _ _ q => gt_int q
theorem op_ge : OpR X (compareOp .GtE) (rI0 fun i j => .bl (decide (j ≤ i))) := opB0 fun _ _ _ _ _ _ _ q => ge_int q
/-- the one string within the other -/
theorem op_in_str : OpR X (compareOp .In) (fun x y H Q => ∃ i j, x = .str i ∧ y = .str j ∧ Q (.bl (!(Builtin.Str.occurrences j i 0 j.length 1).isEmpty)) H) := by
  intro pins s σ H x y v u Q I rx ry h
  obtain ⟨i, j, rfl, rfl, q⟩ := h
  obtain ⟨t, rfl⟩ := rx
  obtain ⟨t', rfl⟩ := ry
  exact in_str (fin_bl I q rfl)

/-- is None, is not None: the right side a value none -/
theorem op_isN : OpR X (compareOp .Is) (fun x y H Q => y = .non ∧ Q (.bl (decide (x = .non))) H) := by
  intro pins s σ H x y v u Q I rx ry h
  obtain ⟨rfl, q⟩ := h
  cases ry
  refine is_none_gen (fin_bl I q ?_)
  cases x <;> first
    | (cases rx; rfl)
    | (obtain ⟨t, rfl⟩ := rx; rfl)
theorem op_notN : OpR X (compareOp .IsNot) (fun x y H Q => y = .non ∧ Q (.bl (!decide (x = .non))) H) := by
  intro pins s σ H x y v u Q I rx ry h
  obtain ⟨rfl, q⟩ := h
  cases ry
  refine isnot_none_gen (fin_bl I q ?_)
  cases x <;> first
    | (cases rx; rfl)
    | (obtain ⟨t, rfl⟩ := rx; rfl)

theorem nomark (b : Expr) {op : CmpOp} (h : op ≠ .In := by decide) (h2 : op ≠ .NotIn := by decide) : behindInMarks op b = false := by
  have e1 : (op == CmpOp.In) = false := by cases op <;> first | rfl | exact absurd rfl h
  have e2 : (op == CmpOp.NotIn) = false := by cases op <;> first | rfl | exact absurd rfl h2
  cases b <;> simp [behindInMarks, e1, e2]
/-- a comparison as a value; hm: nomark b, or (for in, not in) by with_unfolding_all rfl -/
theorem pe_cmpR {op : CmpOp} {r : R2} (ho : OpR X (compareOp op) r) (ha : PE X a ta) (hb : PE X b tb) (hm : behindInMarks op b = false) : PE X (.Compare a [op] [b] pos) (tOp r ta tb) := by
  intro pins s σ H Q I h
  exact wpAny_Compare1 (binT ha hb I h fun v u s2 x y H2 I2 rx ry q => ho pins s2 σ H2 x y v u Q I2 rx ry q) hm
/-- a reading of a value as a test -/
def tTest (t : TE) : TT := fun σ H Q => t σ H fun x H' => ∃ k, x = .bl k ∧ Q k H'
theorem pt_cmpR {op : CmpOp} {r : R2} (ho : OpR X (compareOp op) r) (ha : PE X a ta) (hb : PE X b tb) (hm : behindInMarks op b = false) : PT X (.Compare a [op] [b] pos) (tTest (tOp r ta tb)) := by
  intro pins s σ H Q I h
  refine wpAny_isTrue_Compare1 (thn (ha pins s σ H _ I h) fun v s1 ⟨x, H1, I1, r1, q1⟩ => thn (hb pins s1 σ H1 _ I1 q1) fun u s2 ⟨y, H2, I2, r2, q2⟩ =>
    thn (ho pins s2 σ H2 x y v u _ I2 r1 r2 q2) fun c s3 ⟨z, H3, I3, r3, k, e, q3⟩ => ?_) hm
  subst e
  cases r3
  exact wpAny_truthy_bool ⟨H3, I3, q3⟩
/-- a op1 b op2 c -/
def tChain (r r' : R2) (ta tb tc : TE) : TE := fun σ H Q => ta σ H fun x H1 => tb σ H1 fun y H2 => r x y H2 fun z H3 => ∃ k, z = .bl k ∧
  (if k = true then tc σ H3 fun w' H4 => r' y w' H4 Q else Q (.bl false) H3)
theorem pt_chain {op op' : CmpOp} {r r' : R2} (ho : OpR X (compareOp op) r) (ho' : OpR X (compareOp op') r') (ha : PE X a ta) (hb : PE X b tb) (hc : PE X c tc)
    (hm : lastMarks [op, op'] [b, c] = false := by with_unfolding_all rfl) : PT X (.Compare a [op, op'] [b, c] pos) (tTest (tChain r r' ta tb tc)) := by
  intro pins s σ H Q I h
  refine isTrue_chain (thn (ha pins s σ H _ I h) fun v s1 ⟨x, H1, I1, r1, q1⟩ => test_link (thn (hb pins s1 σ H1 _ I1 q1) fun u s2 ⟨y, H2, I2, r2, q2⟩ =>
    thn (ho pins s2 σ H2 x y v u _ I2 r1 r2 q2) fun d s3 ⟨z, H3, I3, r3, k, e, q3⟩ => ?_)) hm
  subst e
  cases r3
  refine wpAny_truthy_bool ?_
  cases k with
  | false =>
    obtain ⟨k', e', q'⟩ := q3
    cases e'
    exact ite_ff ⟨H3, I3, q'⟩
  | true =>
    refine ite_tt (test_last (thn (hc pins s3 σ H3 _ I3 q3) fun w' s4 ⟨z', H4, I4, r4, q4⟩ => thn (ho' pins s4 σ H4 y z' u w' _ I4 r2 r4 q4) fun d' s5 ⟨z2, H5, I5, r5, k2, e2, q5⟩ => ?_))
    subst e2
    cases r5
    exact wpAny_truthy_bool ⟨H5, I5, q5⟩

/-! ### truth -/
/-- a value's truth by the abstract heap -/
def TruV (K : PySem.W.Frag) (x : V) (H : Hp) (k : Bool) : Prop :=
  match x with
  | .non => k = false
  | .bl b => k = b
  | .int i => k = (i != 0)
  | .str y => y.length ≤ sizeLine ∧ k = ((y.length : Int) != 0)
  | .byt y => y.size ≤ sizeLine ∧ k = ((y.size : Int) != 0)
  | .ref p => (∃ xs, SqL K H p xs ∧ k = !xs.isEmpty) ∨ (∃ xs, SqT K H p xs ∧ k = !xs.isEmpty) ∨ ∃ kvs, H p = some (.dK kvs) ∧ k = !kvs.isEmpty
  | _ => False
theorem isEmpty_kv {κ : Type} {kvs : List (κ × V)} {vs : List (κ × Value)} (r : KV kvs vs) : (!vs.isEmpty) = !kvs.isEmpty := by
  cases r <;> rfl
theorem isEmpty_of {xs : List V} {its : List Value} (r : Vals xs its) : (!its.toArray.isEmpty) = !xs.isEmpty := by
  cases r <;> simp
theorem line63 : (sizeLine : Nat) < 2 ^ 63 := by rw [sizeLine_eq]; decide
theorem tru_ok : TruR X (fun x H Q => ∃ k, TruV X.K x H k ∧ Q k H) := by
  intro pins s σ H x v Q I rx h
  obtain ⟨k, e, q⟩ := h
  have hl := line63
  have hs : sizeLine = 16777216 := sizeLine_eq
  cases x with
  | non =>
    cases rx
    have e' : k = false := e
    subst e'
    exact truthy_none ⟨H, I, q⟩
  | bl b =>
    cases rx
    have e' : k = b := e
    subst e'
    exact wpAny_truthy_bool ⟨H, I, q⟩
  | int i =>
    obtain ⟨t, rfl⟩ := rx
    have e' : k = (i != 0) := e
    subst e'
    exact PySem.P.truthy_int ⟨H, I, q⟩
  | str y =>
    obtain ⟨t, rfl⟩ := rx
    obtain ⟨hy, e'⟩ : y.length ≤ sizeLine ∧ k = ((y.length : Int) != 0) := e
    subst e'
    exact PySem.P.truthy_str (by omega) ⟨H, I.tok _, q⟩
  | byt y =>
    obtain ⟨t, rfl⟩ := rx
    obtain ⟨hy, e'⟩ : y.size ≤ sizeLine ∧ k = ((y.size : Int) != 0) := e
    subst e'
    exact PySem.W.truthy_bytes (by omega) ⟨H, I.tok _, q⟩
  | ref p =>
    cases rx
    have e' : (∃ xs, SqL X.K H p xs ∧ k = !xs.isEmpty) ∨ (∃ xs, SqT X.K H p xs ∧ k = !xs.isEmpty) ∨ ∃ kvs, H p = some (.dK kvs) ∧ k = !kvs.isEmpty := e
    rcases e' with ⟨xs, hx, e'⟩ | ⟨xs, hx, e'⟩ | ⟨kvs, hx, e'⟩
    · subst e'
      obtain ⟨its, r, pl, hz⟩ := I.list hx
      have hlen := r.length
      exact wpAny_truthy_list pl.isList (by simp only [List.size_toArray]; omega) ⟨H, I.tok _, by rw [isEmpty_of r]; exact q⟩
    · subst e'
      obtain ⟨its, r, pl, hz⟩ := I.tuple hx
      have hlen := r.length
      exact truthy_tuple pl (by simp only [List.size_toArray]; omega) ⟨H, I.tok _, by rw [isEmpty_of r]; exact q⟩
    · subst e'
      obtain ⟨hz, hS, vs, r, m⟩ : kvs.length ≤ sizeLine ∧ (p == sysModules) = false ∧ ∃ vs, KV kvs vs ∧ s.heap.DictOf (mixKind X.prog X.w) p vs := I.hok p _ hx
      have hlen : kvs.length = vs.length := Paired.length r
      exact wpAny_truthy_dict hS m (by omega) ⟨H, I.tok _, by rw [isEmpty_kv r]; exact q⟩
  | _ => exact (show False from e).elim
/-! ### strs and bytes -/
/-! ### scalar builtins, by CallR -/
theorem vals1 {x : V} {us : List Value} (r : Vals [x] us) : ∃ u, us = [u] ∧ RelV x u := by
  cases r with
  | cons r1 r2 => cases r2; exact ⟨_, rfl, r1⟩
theorem call_abs : CallR X (.builtin "abs") (fun xs H Q => ∃ i, xs = [.int i] ∧ Q (.int (if i < 0 then -i else i)) H) := by
  intro pins s σ H xs us Q I r h
  obtain ⟨i, rfl, q⟩ := h
  obtain ⟨u, rfl, t, rfl⟩ := vals1 r
  exact call_abs_int fun u tk => ⟨.int (if i < 0 then -i else i), H, I.tok _, ⟨_, rfl⟩, q⟩
/-- len of a str, a bytes, a list, a tuple -/
def LenV (K : PySem.W.Frag) (x : V) (H : Hp) (n : Nat) : Prop :=
  match x with
  | .str y => y.length ≤ sizeLine ∧ n = y.length
  | .byt y => y.size ≤ sizeLine ∧ n = y.size
  | .ref p => (∃ xs, SqL K H p xs ∧ n = xs.length) ∨ ∃ xs, SqT K H p xs ∧ n = xs.length
  | _ => False
theorem call_len : CallR X (.builtin "len") (fun xs H Q => ∃ x n, xs = [x] ∧ LenV X.K x H n ∧ Q (.int n) H) := by
  intro pins s σ H xs us Q I r h
  obtain ⟨x, n, rfl, e, q⟩ := h
  obtain ⟨u, rfl, rx⟩ := vals1 r
  have hl := line63
  have hs : sizeLine = 16777216 := sizeLine_eq
  cases x with
  | str y =>
    obtain ⟨t, rfl⟩ := rx
    obtain ⟨hy, e'⟩ : y.length ≤ sizeLine ∧ n = y.length := e
    subst e'
    exact len_str (by omega) ⟨.int _, H, I.tok _, ⟨_, rfl⟩, q⟩
  | byt y =>
    obtain ⟨t, rfl⟩ := rx
    obtain ⟨hy, e'⟩ : y.size ≤ sizeLine ∧ n = y.size := e
    subst e'
    exact PySem.W.len_bytes (by omega) ⟨.int _, H, I.tok _, ⟨_, rfl⟩, q⟩
  | ref p =>
    cases rx
    have e' : (∃ xs, SqL X.K H p xs ∧ n = xs.length) ∨ ∃ xs, SqT X.K H p xs ∧ n = xs.length := e
    rcases e' with ⟨xs, hx, e'⟩ | ⟨xs, hx, e'⟩
    · subst e'
      obtain ⟨its, r', pl, hz⟩ := I.list hx
      have hlen := r'.length
      exact Calls.call_len_list pl.isList (by simp only [List.size_toArray]; omega) ⟨.int xs.length, H, I.tok _, ⟨_, by simp only [List.size_toArray]; rw [hlen]⟩, q⟩
    · subst e'
      obtain ⟨its, r', pl, hz⟩ := I.tuple hx
      have hlen := r'.length
      exact len_tuple pl (by simp only [List.size_toArray]; omega) ⟨.int xs.length, H, I.tok _, ⟨_, by simp only [List.size_toArray]; rw [hlen]⟩, q⟩
  | _ => exact (show False from e).elim
end
end L2

namespace L2
open PySem PySem.Spec PyProof.Rows

/-! ### an instance, its attributes a map -/
structure ObjM (h : Heap) (x dx C : Addr) (mA : Str → Option Value) : Prop where
  obj : h.get? x = some (PySem.W.instObj C dx)
  ns : h.Ns1 dx mA
  ne : dx ≠ x

theorem lookIn_ns {h : Heap} {dx : Addr} {mA : Str → Option Value} (n : h.Ns1 dx mA) : ∃ od, h.get? dx = some od ∧ ∀ name, PySem.W.lookIn name od = some (mA name) := by
  obtain ⟨o, es, ep, ho, hd, hk, _, hm⟩ := n
  refine ⟨o, ho, fun name => ?_⟩
  have e := hm name
  unfold nsFind findBy at e
  rw [← Array.find?_toList] at e
  unfold PySem.W.lookIn
  rw [hd]
  dsimp only
  split
  · rename_i y q
    rw [q] at e
    exact congrArg some e
  · rename_i q
    rw [q] at e
    have a : es.toList.any (·.refKey) = false := by
      rw [List.any_eq_false]
      intro y hy
      obtain ⟨z, t, hkey⟩ := hk y (Array.mem_toList_iff.mp hy)
      simp [DictEntry.refKey, hkey]
    have a' : ¬ es.toList.any (·.refKey) = true := by rw [a]; exact Bool.false_ne_true
    rw [if_neg a']
    exact congrArg some e

theorem ObjM.look {h : Heap} {x dx C : Addr} {mA : Str → Option Value} (I : ObjM h x dx C mA) : ∃ od, PySem.W.InstAt h x (PySem.W.instObj C dx) C (some od) ∧ ∀ name, PySem.W.lookIn name od = some (mA name) :=
  let ⟨od, ho, hl⟩ := lookIn_ns I.ns
  ⟨od, ⟨I.obj, rfl, rfl, ho⟩, hl⟩

section
variable {prog : Program} {w : World} {A : Around} {E : Value → Shared → Prop} {s : Shared} {K : PySem.W.Frag} {x dx C f : Addr} {mA : Str → Option Value} {name : Str} {v : Value}

theorem get_map {expr : Bool} {Q : Value → Shared → Prop} (X : K.In s.heap) (I : ObjM s.heap x dx C mA) (hg : PySem.W.plainGet K C name = true) (hh : PySem.W.hasDictIn K C = true)
    (ha : PySem.W.findIn K (.ref C) name = some none) (hv : mA name = some v) (hv' : PySem.W.handedIn v = true) (h : Q v { s with toks := s.toks + 1 }) :
    wpAny (model prog w) A (getAttr (.ref x) name expr) Q E s := by
  obtain ⟨od, J, hl⟩ := I.look
  exact PySem.W.get_value X J (PySem.W.plainGet_of hg).1 (PySem.W.findObj_own hh ha rfl (by rw [hl, hv])) hv' h

theorem get_meth {pl : Sem Bool} {Q : Value × List Value → Shared → Prop} (X : K.In s.heap) (I : ObjM s.heap x dx C mA) (hg : PySem.W.plainGet K C name = true)
    (hf : PySem.W.findIn K (.ref C) name = some (some (.ref f))) (ht : PySem.W.isFn K (.ref f) = true) (hv : mA name = none) (h : Q (.ref f, [.ref x]) s) :
    wpAny (model prog w) A (getMethod (.ref x) name pl) Q E s := by
  obtain ⟨od, J, hl⟩ := I.look
  exact PySem.W.method_fn X J (PySem.W.plainGet_of hg).1 (PySem.W.plainGet_of hg).2 hf (beq_iff_eq.mp ht) (by show (PySem.W.lookIn name od).map (·.isSome) = some false; rw [hl, hv]; rfl) h

theorem set_map {ns : List Str} {Q : Unit → Shared → Prop} (X : K.In s.heap) (I : ObjM s.heap x dx C mA)
    (hs : PySem.W.findIn K (.ref C) "__setattr__" = some (some (.builtin "object.__setattr__"))) (hp : PySem.W.plainOver K C = true) (ht : PySem.W.takerIn K C name = some none) (hh : PySem.W.hasDictIn K C = true)
    (hw : PySem.Within mA ns) (hsz : ns.length ≤ sizeLine)
    (h : ∀ h', ObjM h' x dx C (fun y => if y = name then some v else mA y) → Heap.SameBut dx s.heap h' → Q () { s with heap := h', toks := s.toks + 2 }) :
    wpAny (model prog w) A (setAttr (.ref x) name v) Q E s := by
  obtain ⟨od, J, hl⟩ := I.look
  refine PySem.W.set_plain X J hs (PySem.W.osa_open (s := { s with toks := s.toks + 1 }) (r := none) X J hp ht fun b => ?_)
  obtain ⟨cd, hc, hd'⟩ := PySem.W.any_some hh
  have hx : s.heap.get? x = some ⟨.ref C, some dx, .plain, #[]⟩ := I.obj
  refine wpAny_bind (wpAny_pure (wpAny_bind (wpAny_bind (wpAny_loadPart hx (wpAny_bind (PySem.W.Looks.here (s := { s with toks := s.toks + 1 }) (PySem.W.looks_clsIn X hc) ?_))))))
  rw [hd']
  refine wpAny_pure (a := some dx) (wpAny_bind (wpAny_pure (wpAny_bind ?_)))
  refine wpAny_nsSet1 (s := { s with toks := s.toks + 1 }) I.ns fun h' hn2 hs2 => ?_
  obtain ⟨oD, esD, epD, hoD, hdD, hcD⟩ := hn2.count (PySem.Within.cons name v hw)
  refine wpAny_bind (wpAny_lookBehind hoD (by rw [hdD]; exact pastItsLine_dict (Nat.le_trans hcD (by rw [List.length_cons]; omega))) ?_)
  exact wpAny_pure (h _ ⟨(hs2.2 _ (Ne.symm I.ne)).trans I.obj, hn2, I.ne⟩ hs2)

/-- C(..): the dict at the heap's end, the instance behind it; then its __init__ -/
theorem make_map {R : Result → Shared → Prop} {vs : List Value} {kw : List (Str × Value)} (X : K.In s.heap) (hm : PySem.W.makesIn K C = true)
    (hi : PySem.W.findIn K (.ref C) "__init__" = some (some (.ref f))) (hf : PySem.W.typeIn K (.ref f) = some (.type "function"))
    (h : codeAny (model prog w) (A.under (.builtin "type.__call__" ⟨.ref C :: vs, kw⟩)) (.call (.ref f) ⟨.ref (s.heap.objs.size + 1) :: vs, kw⟩) (PySem.W.InitBack (s.heap.objs.size + 1) R)
      { s with heap := (s.heap.push PySem.W.emptyDict).push (PySem.W.instObj C s.heap.objs.size) }) :
    codeAny (model prog w) A (.call (.ref C) ⟨vs, kw⟩) R s := by
  obtain ⟨hh, g, d, t, os⟩ := s
  exact PySem.W.make_core (PySem.W.makes_of X hm) (PySem.W.looks_findIn X hi) (fun self => PySem.W.bind_fn X self hf) (.inl rfl) h
end

/-! ### the attributes as a list of pairs -/
def putF (f : Str) (v : V) : List (Str × V) → List (Str × V)
  | [] => [(f, v)]
  | (g, x) :: r => if g = f then (g, v) :: r else (g, x) :: putF f v r
theorem lookup_putF (f g : Str) (v : V) : ∀ fs : List (Str × V), (putF f v fs).lookup g = if g = f then some v else fs.lookup g
  | [] => by
    show List.lookup g [(f, v)] = _
    by_cases h : g = f
    · have hb : (g == f) = true := beq_iff_eq.mpr h
      simp only [List.lookup, hb, if_pos h]
    · have hb : (g == f) = false := beq_eq_false_iff_ne.mpr h
      simp only [List.lookup, hb, if_neg h]
  | (k, x) :: r => by
    have ih := lookup_putF f g v r
    rw [show putF f v ((k, x) :: r) = (if k = f then (k, v) :: r else (k, x) :: putF f v r) from rfl]
    by_cases hk : k = f
    · rw [if_pos hk]
      by_cases h : g = k
      · have hb : (g == k) = true := beq_iff_eq.mpr h
        simp only [List.lookup, hb, if_pos (h.trans hk)]
      · have hb : (g == k) = false := beq_eq_false_iff_ne.mpr h
        simp only [List.lookup, hb, if_neg (fun e : g = f => h (e.trans hk.symm))]
    · rw [if_neg hk]
      by_cases h : g = k
      · have hb : (g == k) = true := beq_iff_eq.mpr h
        simp only [List.lookup, hb, if_neg (fun e : g = f => hk (h.symm.trans e))]
      · have hb : (g == k) = false := beq_eq_false_iff_ne.mpr h
        simp only [List.lookup, hb]
        exact ih
theorem keys_putF (f : Str) (v : V) : ∀ fs : List (Str × V), f ∈ (putF f v fs).map (·.1) ∧ ∀ g, g ∈ fs.map (·.1) → g ∈ (putF f v fs).map (·.1)
  | [] => ⟨by simp [putF], fun g h => by simp at h⟩
  | (k, x) :: r => by
    obtain ⟨i1, i2⟩ := keys_putF f v r
    rw [show putF f v ((k, x) :: r) = (if k = f then (k, v) :: r else (k, x) :: putF f v r) from rfl]
    by_cases hk : k = f
    · rw [if_pos hk]
      subst hk
      exact ⟨by simp, fun g h => by simpa using h⟩
    · rw [if_neg hk]
      refine ⟨?_, fun g h => ?_⟩
      · rw [List.map_cons]
        exact List.mem_cons_of_mem _ i1
      · rw [List.map_cons] at h ⊢
        rcases List.mem_cons.mp h with e | e
        · exact List.mem_cons.mpr (.inl e)
        · exact List.mem_cons_of_mem _ (i2 g e)
theorem length_putF (f : Str) (v : V) : ∀ fs : List (Str × V), (putF f v fs).length ≤ fs.length + 1
  | [] => by simp [putF]
  | (k, x) :: r => by
    have ih := length_putF f v r
    rw [show putF f v ((k, x) :: r) = (if k = f then (k, v) :: r else (k, x) :: putF f v r) from rfl]
    by_cases hk : k = f
    · rw [if_pos hk, List.length_cons, List.length_cons]; omega
    · rw [if_neg hk, List.length_cons, List.length_cons]; omega

theorem RelO.some_of {v : V} {o : Option Value} (r : RelO (some v) o) : ∃ u, o = some u ∧ RelV v u := by
  cases o with
  | none => exact (show False from r).elim
  | some u => exact ⟨u, rfl, r⟩
theorem RelO.none_of {o : Option Value} (r : RelO none o) : o = none := by
  cases o with
  | none => rfl
  | some u => exact (show False from r).elim
theorem handed_of {v : V} {u : Value} (r : RelV v u) : PySem.W.handedIn u = true := by
  cases v with
  | non => cases (show u = Value.none from r); rfl
  | bl b => cases (show u = Value.bool b from r); rfl
  | int i => obtain ⟨t, e⟩ := (show ∃ t, u = Value.int i t from r); cases e; rfl
  | str x => obtain ⟨t, e⟩ := (show ∃ t, u = Value.str x t from r); cases e; rfl
  | byt b => obtain ⟨t, e⟩ := (show ∃ t, u = Value.bytes b t from r); cases e; rfl
  | flt b => obtain ⟨t, e⟩ := (show ∃ t, u = Value.float b t from r); cases e; rfl
  | ref a => cases (show u = Value.ref a from r); rfl
  | ty n => cases (show u = Value.type n from r); rfl

section
variable {P : Program} {w : World} {H H' : Hp} {h h' : Heap} {a C dx : Addr} {fs fs' : List (Str × V)}
theorem ins_get (hok : HOk P w H h) (e : H a = some (.ins C dx fs)) : ∃ mA, ObjM h a dx C mA ∧ (∀ f, RelO (fs.lookup f) (mA f)) ∧ PySem.Within mA (fs.map (·.1)) ∧ fs.length ≤ 1000 ∧ H dx = some (.own a) := by
  obtain ⟨d, z, ne, ob, mA, n, r, q⟩ := (show ObjOk P w H h a (.ins C dx fs) from hok a _ e)
  exact ⟨mA, ⟨ob, n, ne⟩, r, q, z, d⟩
end

/-! ### what of the text a class must have -/
structure Cls (K : PySem.W.Frag) (C : Addr) : Prop where
  pg : PySem.W.plainGet K C Str.empty = true
  hd : PySem.W.hasDictIn K C = true
  po : PySem.W.plainOver K C = true
  sa : PySem.W.findIn K (.ref C) "__setattr__" = some (some (.builtin "object.__setattr__"))
theorem Cls.get {K : PySem.W.Frag} {C : Addr} (c : Cls K C) (f : Str) : PySem.W.plainGet K C f = true := c.pg
/-- no class of it has the name -/
def NoAttr (K : PySem.W.Frag) (C : Addr) (f : Str) : Prop := PySem.W.findIn K (.ref C) f = some none
theorem NoAttr.taker {K : PySem.W.Frag} {C : Addr} {f : Str} (n : NoAttr K C f) : PySem.W.takerIn K C f = some none := by
  unfold PySem.W.takerIn
  rw [show PySem.W.findIn K (.ref C) f = some none from n]
  rfl
/-- a constant of the class -/
structure Con (K : PySem.W.Frag) (C : Addr) (f : Str) (v : V) (u : Value) : Prop where
  at_ : PySem.W.findIn K (.ref C) f = some (some u)
  rel : RelV v u
  get : PySem.W.specialIn K u "__get__" = some none
  cp : PySem.W.copiedNames.contains f = false
/-- a method: a plain def of the class or of one above it -/
structure Meth (K : PySem.W.Frag) (C : Addr) (m : Str) (f : Addr) : Prop where
  at_ : PySem.W.findIn K (.ref C) m = some (some (.ref f))
  fn : PySem.W.isFn K (.ref f) = true
  kp : PySem.W.keepIn K (.ref f) = true

section
variable {X : Cx} {pins : List (Addr × Obj)} {σ : St} {H : Hp} {s : Shared} {a C dx : Addr} {fs : List (Str × V)} {f : Str} {v : V} {A : Around} {E : Value → Shared → Prop}

theorem getattr_ok {b : Bool} {Q : Value → Shared → Prop} (I : Inv X pins σ H s) (e : H a = some (.ins C dx fs)) (c : Cls X.K C) (n : NoAttr X.K C f) (l : fs.lookup f = some v)
    (h : ∀ u s', Inv X pins σ H s' → RelV v u → Q u s') : wpAny (model X.prog X.w) A (getAttr (.ref a) f b) Q E s := by
  obtain ⟨mA, O, r, _, _, _⟩ := ins_get I.hok e
  obtain ⟨u, hu, ru⟩ := RelO.some_of (v := v) (o := mA f) (by rw [← l]; exact r f)
  exact get_map I.kIn O (c.get f) c.hd n hu (handed_of ru) (h u _ (I.tok _) ru)

theorem getmeth_ok {m : Str} {g : Addr} {pl : Sem Bool} {Q : Value × List Value → Shared → Prop} (I : Inv X pins σ H s) (e : H a = some (.ins C dx fs)) (c : Cls X.K C) (k : Meth X.K C m g) (l : fs.lookup m = none)
    (h : Q (.ref g, [.ref a]) s) : wpAny (model X.prog X.w) A (getMethod (.ref a) m pl) Q E s := by
  obtain ⟨mA, O, r, _, _, _⟩ := ins_get I.hok e
  have hn : mA m = none := RelO.none_of (by rw [← l]; exact r m)
  exact get_meth I.kIn O (c.get m) k.at_ k.fn hn h

theorem setattr_ok {y : V} {u : Value} {Q : Unit → Shared → Prop} (I : Inv X pins σ H s) (e : H a = some (.ins C dx fs)) (c : Cls X.K C) (n : NoAttr X.K C f) (hl : fs.length < 1000) (ry : RelV y u)
    (h : ∀ s', Inv X pins σ (upd H a (.ins C dx (putF f y fs))) s' → Q () s') : wpAny (model X.prog X.w) A (setAttr (.ref a) f u) Q E s := by
  obtain ⟨mA, O, r, wi, _, ho⟩ := ins_get I.hok e
  have hz : (fs.map (·.1)).length ≤ sizeLine := by rw [List.length_map, sizeLine_eq]; omega
  refine set_map I.kIn O c.sa c.po n.taker c.hd wi hz fun h' O' sb => h _ ?_
  have hd : ∃ o, h'.get? dx = some o := let ⟨o, _, _, e', _⟩ := O'.ns; ⟨o, e'⟩
  refine I.write (x := a) (e := dx) (by rw [e]; exact True.intro) (.inr ho) (fun b q hb z => (sb.2 b hb).trans z) hd ?_
  refine ⟨by rw [upd_ne O.ne]; exact ho, ?_, O.ne, O'.obj, _, O'.ns, fun g => ?_, fun g hg => ?_⟩
  · have := length_putF f y fs; omega
  · show RelO ((putF f y fs).lookup g) (if g = f then some u else mA g)
    rw [lookup_putF]
    by_cases q : g = f
    · rw [if_pos q, if_pos q]; exact ry
    · rw [if_neg q, if_neg q]; exact r g
  · by_cases q : g = f
    · rw [q]; exact (keys_putF f y fs).1
    · refine (keys_putF f y fs).2 g (wi g fun z => hg ?_)
      show (if g = f then some u else mA g) = none
      rw [if_neg q]; exact z

/-- a new instance, tracked, without attributes -/
theorem Inv.made (I : Inv X pins σ H s) : Inv X pins σ (upd (upd H s.heap.objs.size (.own (s.heap.objs.size + 1))) (s.heap.objs.size + 1) (.ins C s.heap.objs.size []))
    { s with heap := (s.heap.push PySem.W.emptyDict).push (PySem.W.instObj C s.heap.objs.size) } := by
  have e1 : (s.heap.push PySem.W.emptyDict).get? s.heap.objs.size = some PySem.W.emptyDict := Heap.get?_push_size s.heap rfl
  have e2 : ((s.heap.push PySem.W.emptyDict).push (PySem.W.instObj C s.heap.objs.size)).get? (s.heap.objs.size + 1) = some (PySem.W.instObj C s.heap.objs.size) := by
    have := Heap.get?_push_size (s.heap.push PySem.W.emptyDict) (o := PySem.W.instObj C s.heap.objs.size) rfl
    rwa [Heap.size_push] at this
  have e3 : (s.heap.push PySem.W.emptyDict).Ns s.heap.objs.size (fun _ => none) := ⟨PySem.W.emptyDict, #[], _, e1, rfl, (fun e he => absurd he (by simp)), fun _ => rfl⟩
  have I1 := I.laid (a := s.heap.objs.size) (o := .own (s.heap.objs.size + 1)) (h' := s.heap.push PySem.W.emptyDict) (t' := s.toks) (fun b u q => Heap.get?_push_of_some _ q) (Nat.le_refl _) ⟨_, e1⟩
  refine I1.laid (a := s.heap.objs.size + 1) (o := .ins C s.heap.objs.size []) (t' := s.toks) (fun b u q => Heap.get?_push_of_some _ q) (Nat.le_of_eq (Heap.size_push _ _)) ?_
  have ne : s.heap.objs.size ≠ s.heap.objs.size + 1 := Nat.ne_of_lt (Nat.lt_succ_self _)
  refine ⟨by rw [upd_ne ne, upd_same], Nat.zero_le _, ne, e2, fun _ => none, (Heap.Ns1.of_empty e3).at fun o q => Heap.get?_push_of_some _ q, fun _ => True.intro, fun y hy => absurd rfl hy⟩

/-- e.f where nothing but the object is asked: through attributeBase (super) and the last hold -/
theorem attr_of {prog : Program} {w : World} {env : Env} {e : Expr} {f : Str} {pos : Pos} {s : Shared} {Q : Value → Shared → Prop} (hb : attributeBase e f env (eval e env) = eval e env)
    (h : wpAny (model prog w) A (eval e env) (fun o s₁ => wpAny (model prog w) A (getAttr o f true) Q E s₁) E s) : wpAny (model prog w) A (eval (.Attribute e f pos) env) Q E s :=
  Attribute_any_ h (by rw [arm_eval_Attribute, hb])
end

/-! ### readings and rules -/
/-- e.f, an attribute of the instance -/
def tFld (K : PySem.W.Frag) (ta : TE) (f : Str) : TE := fun σ H Q => ta σ H fun x H1 => ∃ a C dx fs v, x = .ref a ∧ H1 a = some (.ins C dx fs) ∧ Cls K C ∧ NoAttr K C f ∧ fs.lookup f = some v ∧ Q v H1
/-- e.f = value -/
def sFld (K : PySem.W.Frag) (ta tv : TE) (f : Str) : TS := fun D σ H => tv σ H fun y H1 => ta σ H1 fun x H2 => ∃ a C dx fs, x = .ref a ∧ H2 a = some (.ins C dx fs) ∧ Cls K C ∧ NoAttr K C f ∧ fs.length < 1000 ∧
  D.nx σ (upd H2 a (.ins C dx (putF f y fs)))
section
variable {X : Cx} {o e value : Expr} {f : Str} {pos pos' tpos : Pos} {ta tv : TE}
theorem pe_fld (he : PE X e ta) (hb : attributeBase e f X.env (eval e X.env) = eval e X.env) : PE X (.Attribute e f pos) (tFld X.K ta f) := by
  intro pins s σ H Q I h
  refine attr_of hb (thn (he pins s σ H _ I h) fun u s1 ⟨x, H1, I1, rx, a, C, dx, fs, v, ex, ea, c, n, l, q⟩ => ?_)
  subst ex
  obtain rfl : u = Value.ref a := rx
  exact getattr_ok I1 ea c n l fun u' s2 I2 ru => ⟨v, H1, I2, ru, q⟩
theorem ps_fld (ha : PE X o ta) (hv : PE X value tv) (hs : swapsWith value (some (.Attribute o f pos')) pos.line X.env = pure false) : PS X (.Assign [.Attribute o f pos'] value pos) (sFld X.K ta tv f) := by
  intro pins s σ H D I h
  refine plainObj_wpAny_Assign_Attribute (thn (hv pins s σ H _ I h) fun u s1 ⟨y, H1, I1, ry, q⟩ => thn (ha pins s1 σ H1 _ I1 q) fun ov s2 ⟨x, H2, I2, rx, a, C, dx, fs, ex, ea, c, n, l, q2⟩ => ?_) hs
  subst ex
  obtain rfl : ov = Value.ref a := rx
  exact setattr_ok I2 ea c n l ry fun s3 I3 => ⟨σ, _, I3, q2⟩
/-- what is between an instance and its method: the tree of a method call -/
theorem methcall_of {pl : Sem Bool} {m : Str} {apos : Pos} {args : List Expr} {pins : List (Addr × Obj)} {s : Shared} {σ : St} {H : Hp} {Q : Value → Shared → Prop} {te : TE} (he : PE X e te) (I : Inv X pins σ H s)
    (h : te σ H fun x H1 => ∃ a C dx fs g, x = .ref a ∧ H1 a = some (.ins C dx fs) ∧ Cls X.K C ∧ Meth X.K C m g ∧ fs.lookup m = none ∧
      ∀ s1, Inv X pins σ H1 s1 → wpAny (model X.prog X.w) X.A (callWith pos (.ref g) [.ref a] (backTo pos (starEach args X.env)) (backToKw pos (keywordEach [] X.env))) Q X.xe s1)
    (ht : eval (.Call (.Attribute e m apos) args [] pos) X.env = (do
      let ov ← eval e X.env
      standAt apos.atName
      let (f, first) ← holding [ov] (getMethod ov m pl)
      callWith pos f first (backTo pos (starEach args X.env)) (backToKw pos (keywordEach [] X.env)))) :
    wpAny (model X.prog X.w) X.A (eval (.Call (.Attribute e m apos) args [] pos) X.env) Q X.xe s := by
  refine PySem.W.methodCall_KW (pl := pl) (thn (he pins s σ H _ I h) fun u s1 ⟨x, H1, I1, rx, a, C, dx, fs, g, ex, ea, c, k, l, q⟩ => ?_) ht
  subst ex
  obtain rfl : u = Value.ref a := rx
  exact getmeth_ok I1 ea c k l (q s1 I1)
end

/-! ### isinstance -/
section
variable {X : Cx} {pins : List (Addr × Obj)} {σ : St} {H : Hp} {s : Shared} {A : Around} {E : Value → Shared → Prop} {Q : Value → Shared → Prop} {c : Value} {b : Bool}
/-- the type of a value, as the fragment's deciders take it; for an instance its class -/
inductive TyOf (K : PySem.W.Frag) (H : Hp) : V → Value → Prop where
  | non : TyOf K H .non (.type "NoneType")
  | bl (x : Bool) : TyOf K H (.bl x) (.type "bool")
  | int (i : Int) : TyOf K H (.int i) (.type "int")
  | str (x : Str) : TyOf K H (.str x) (.type "str")
  | flt (x : UInt64) : TyOf K H (.flt x) (.type "float")
  | lst {a : Addr} {xs : List V} (e : H a = some (.lst xs)) : TyOf K H (.ref a) (.type "list")
  | frz {a : Addr} {o : Obj} {xs : List V} (e : H a = some (.frz o (.lst xs))) : TyOf K H (.ref a) (.type "list")
  | tup {a : Addr} {xs : List V} (e : H a = some (.tup xs)) : TyOf K H (.ref a) (.type "tuple")
  | dK {a : Addr} {kvs : List (Key × V)} (e : H a = some (.dK kvs)) : TyOf K H (.ref a) (.type "dict")
  | dT {a : Addr} {kvs : List (List Key × V)} (e : H a = some (.dT kvs)) : TyOf K H (.ref a) (.type "dict")
  | ins {a C dx : Addr} {fs : List (Str × V)} (e : H a = some (.ins C dx fs)) (cl : Cls K C) (ha : PySem.W.findIn K (.ref C) "__class__" = some (some (.builtin "object.__class__")))
      (hn : PySem.W.specialIn K (.builtin "object.__class__") "__get__" = some (some (.builtin "getset_descriptor.__get__"))) (htk : PySem.W.takesIn K (.builtin "object.__class__") = some true)
      (hm : PySem.W.mroIn K C (.type "object") = some true) : TyOf K H (.ref a) (.ref C)
end
end L2

namespace L2
open PySem PySem.Spec PyProof.Rows

/-! ### room -/
structure Room (k : Nat) (A : Around) : Prop where
  hd : A.handled = none
  dp : A.depth + 3 * k + 5 < recursionLimit
  un : A.units + 16 * k + 200 < cLine
theorem Room.mono {j k : Nat} {A : Around} (r : Room k A) (h : j ≤ k) : Room j A := ⟨r.hd, by have := r.dp; omega, by have := r.un; omega⟩
theorem Room.deeper {k : Nat} {A : Around} (r : Room (k + 1) A) (env : Env) : Room k (A.deeper env) :=
  ⟨r.hd, by have := r.dp; show A.depth + 1 + 3 * k + 5 < _; omega, by have := r.un; show A.units + 3 + 16 * k + 200 < _; omega⟩
theorem make_depth {A : Around} {C : Addr} {us : List Value} {kw : List (Str × Value)} : (A.under (.builtin "type.__call__" ⟨.ref C :: us, kw⟩)).depth = A.depth + 1 := by
  first | rfl | simp [Around.under, Code.weight, Code.isCreation, Code.isGuard, Code.isCaller, Code.frames, Code.isFrame, guardIds]
theorem make_units {A : Around} {C : Addr} {us : List Value} {kw : List (Str × Value)} : (A.under (.builtin "type.__call__" ⟨.ref C :: us, kw⟩)).units = A.units + 1 := by
  first | rfl | simp [Around.under, Code.cUnits, Code.frames, Code.isFrame]
theorem Room.make {k : Nat} {A : Around} (r : Room (k + 1) A) (C : Addr) (us : List Value) (kw : List (Str × Value)) : Room k (A.under (.builtin "type.__call__" ⟨.ref C :: us, kw⟩)) :=
  ⟨r.hd, by have := r.dp; rw [make_depth]; omega, by have := r.un; rw [make_units]; omega⟩
theorem Room.depth {k : Nat} {A : Around} (r : Room k A) : A.depth < recursionLimit := by have := r.dp; omega
theorem Room.units {k : Nat} {A : Around} (r : Room k A) : A.units + 64 < cLine := by have := r.un; omega
/-! ### argument lists and displays -/
def tNil : TA := fun _ H Q => Q [] H
def tCons (ta : TE) (tr : TA) : TA := fun σ H Q => ta σ H fun x H1 => tr σ H1 fun xs H2 => Q (x :: xs) H2
section
variable {X : Cx} {e : Expr} {es : List Expr} {te : TE} {t : TA} {pos : Pos}
theorem pa_nil : PA X [] tNil := fun _ _ _ _ H Q I h => Calls.spliced_nil ⟨[], H, I, .nil, h⟩
theorem pa_cons (ha : PE X e te) (hr : PA X es t) (hs : starEach (e :: es) X.env = (false, eval e X.env) :: starEach es X.env := by rfl) : PA X (e :: es) (tCons te t) := by
  intro pos pins s σ H Q I h
  rw [hs]
  show wpAny _ _ (spliced ((false, eval e X.env) :: backTo pos (starEach es X.env))) _ _ s
  refine Calls.spliced_cons (thn (ha pins s σ H _ I h) fun u s1 ⟨x, H1, I1, r1, q1⟩ => ?_)
  exact thn (hr pos pins s1 σ H1 _ I1 q1) fun us s2 ⟨xs, H2, I2, r2, q2⟩ => ⟨x :: xs, H2, I2, .cons r1 r2, q2⟩

/-- a tuple, a list of written items -/
def tTup (t : TA) : TE := fun σ H Q => t σ H fun xs H1 => xs.length ≤ sizeLine ∧ ∀ p, H1 p = none → Q (.ref p) (upd H1 p (.tup xs))
def tLst (t : TA) : TE := fun σ H Q => t σ H fun xs H1 => xs.length ≤ sizeLine ∧ ∀ p, H1 p = none → Q (.ref p) (upd H1 p (.lst xs))
theorem pe_tup {x1} (h : PA X es t) : PE X (.Tuple es x1 pos) (tTup t) := by
  intro pins s σ H Q I hq
  refine wpAny_Tuple_spliced (thn (h pos pins s σ H _ I hq) fun us s1 ⟨xs, H1, I1, r, z, q⟩ => ⟨by rw [← r.length]; exact z, ?_⟩)
  have hf : H1 s1.heap.objs.size = none := I1.hok.fresh (Nat.le_refl _)
  refine ⟨.ref s1.heap.objs.size, upd H1 s1.heap.objs.size (.tup xs), I1.laid (t' := s1.toks) (fun b u e => Heap.get?_push_of_some _ e) (Nat.le_refl _) ?_, rfl, q _ hf⟩
  exact ⟨z, us, r, ⟨_, Heap.get?_push_size _ rfl, rfl, _, rfl⟩⟩
theorem pe_lst (h : PA X es t) : PE X (.List es pos) (tLst t) := by
  intro pins s σ H Q I hq
  refine wpAny_List_spliced (thn (h pos pins s σ H _ I hq) fun us s1 ⟨xs, H1, I1, r, z, q⟩ => ⟨by rw [← r.length]; exact z, ?_⟩)
  have hf : H1 s1.heap.objs.size = none := I1.hok.fresh (Nat.le_refl _)
  refine ⟨.ref s1.heap.objs.size, upd H1 s1.heap.objs.size (.lst xs), I1.laid (t' := s1.toks) (fun b u e => Heap.get?_push_of_some _ e) (Nat.le_refl _) ?_, rfl, q _ hf⟩
  exact ⟨z, us, 0, r, Heap.get?_push_size _ rfl⟩
end

/-! ### what a def promises -/
/-- a def's promise: the bound arguments in the parameters' order, the heap, the wanted end, the wanted exception -/
abbrev Sp := List V → Hp → VK → XK → Prop
/-- how an exception lies behind a call (file 08 gives it): the callers' frames, abstract heap and state ahead of the call, the wish, the exception, the state -/
abbrev CXT := List Env → Hp → Shared → XK → Value → Shared → Prop

/-- the state at a call -/
structure Env0 (P : Program) (w : World) (K : PySem.W.Frag) (mg : Str → Option Value) (base : Heap) (A : Around) (outer : List Env) (s : Shared) (H : Hp) : Prop where
  frames : A.frames = some outer
  mod : Mod K mg base
  bs : ∀ b o, base.get? b = some o → s.heap.get? b = some o ∧ H b = none
  bsz : base.objs.size ≤ s.heap.objs.size
  funs : s.heap.FunFrames base outer
  frf : ∀ b ∈ frs outer, H b = none
  hok : HOk P w H s.heap
  bare : AllBare s.gens
/-- a call's end -/
def CE (outer : List Env) (P : Program) (w : World) (H : Hp) (s : Shared) (Q : VK) (u : Value) (s' : Shared) : Prop :=
  ∃ v H', s'.os = s.os ∧ AllBare s'.gens ∧ Un (frs outer) [] H H' s.heap s'.heap ∧ HOk P w H' s'.heap ∧ RelV v u ∧ Q v H'
def CR (CX : CXT) (outer : List Env) (P : Program) (w : World) (H : Hp) (s : Shared) (Q : VK) (E : XK) (r : Result) (s' : Shared) : Prop :=
  match r with
  | .ok (.ret u) => CE outer P w H s Q u s'
  | .ok _ => False
  | .error e => CX outer H s E e s'
structure FnOk (P : Program) (w : World) (K : PySem.W.Frag) (mg : Str → Option Value) (base : Heap) (CX : CXT) (k : Nat) (f : Addr) (fd : FuncData) (ps : List Str) (sp : Sp) : Prop where
  len : ∀ vs H Q E, sp vs H Q E → vs.length = ps.length
  run : ∀ (A : Around) (outer : List Env) (s : Shared) (H : Hp) (args : Args) (us : List Value) (vs : List V) (Q : VK) (E : XK), Room k A → Env0 P w K mg base A outer s H → BindsTo s fd args (ps.zip us) → Vals vs us → sp vs H Q E →
    codeAny (model P w) A (.call (.ref f) args) (CR CX outer P w H s Q E) s
theorem Env0.make {P : Program} {w : World} {K : PySem.W.Frag} {mg : Str → Option Value} {base : Heap} {A : Around} {outer : List Env} {s : Shared} {H : Hp} (e : Env0 P w K mg base A outer s H) (C : Addr) (us : List Value) (kw : List (Str × Value)) :
    Env0 P w K mg base (A.under (.builtin "type.__call__" ⟨.ref C :: us, kw⟩)) outer s H := ⟨by first | exact e.frames | (simpa [Around.under, Code.envs, Code.isFrame, pushEnvs] using e.frames), e.mod, e.bs, e.bsz, e.funs, e.frf, e.hok, e.bare⟩
section
variable {X : Cx} {pins : List (Addr × Obj)} {σ : St} {H : Hp} {s s' : Shared}
/-- from a body: what a callee wants -/
theorem Inv.env0 (I : Inv X pins σ H s) : Env0 X.prog X.w X.K X.mg X.base X.A X.stack s H :=
  ⟨I.ok.frames, I.ok.mod, I.bs, Nat.le_trans I.ok.bsz I.sz, I.stack, I.stkFree, I.hok, I.bare⟩
/-- behind a call -/
theorem Inv.after {Q : VK} {u : Value} (I : Inv X pins σ H s) (h : CE X.stack X.prog X.w H s Q u s') : EP X pins σ Q u s' := by
  obtain ⟨v, H', os, bare, un, hok, r, q⟩ := h
  obtain ⟨hh, g, d, t, os'⟩ := s'
  obtain rfl : os' = s.os := os
  exact ⟨v, H', I.call (h' := hh) (g' := g) (d' := d) (t' := t) (ch := []) un hok bare (fun b z => absurd z (by simp)), r, q⟩
end

/-! ### calls -/
/-- f(..): the written arguments, then the defaults dvs; E: what is wanted of an exception -/
def tCall (sp : Sp) (dvs : List V) (E : XK) (t : TA) : TE := fun σ H Q => t σ H fun vs H1 => sp (vs ++ dvs) H1 Q E
/-- o.m(..) of an instance of the class at C -/
def tMeth (C : Addr) (m : Str) (sp : Sp) (dvs : List V) (E : XK) (ta : TE) (t : TA) : TE := fun σ H Q => ta σ H fun x H1 => ∃ a dx fs, x = .ref a ∧ H1 a = some (.ins C dx fs) ∧ fs.lookup m = none ∧
  t σ H1 fun vs H2 => sp (x :: (vs ++ dvs)) H2 Q E
/-- C(..): a new instance and its dict, then __init__ -/
def tMake (C : Addr) (sp : Sp) (dvs : List V) (E : XK) (t : TA) : TE := fun σ H Q => t σ H fun vs H1 => ∀ x dx, H1 x = none → H1 dx = none → dx ≠ x →
  sp (.ref x :: (vs ++ dvs)) (upd (upd H1 dx (.own x)) x (.ins C dx [])) (fun v H2 => v = .non ∧ Q (.ref x) H2) E

/-- how the parameters are bound: us the positional arguments, kw the keywords' values by name, ds the defaults that fill up -/
def Binds (K : PySem.W.Frag) (fd : FuncData) (ps : List Str) (ds : List Value) : Prop :=
  ∀ (s : Shared) (us : List Value), K.In s.heap → (us ++ ds).length = ps.length → BindsTo s fd ⟨us, []⟩ (ps.zip (us ++ ds))
/-- every parameter is given -/
theorem Binds.all {K : PySem.W.Frag} {fd : FuncData} {ps : List Str} (h : ∀ us : List Value, us.length = ps.length → bindArgs fd ⟨us, []⟩ = pure (ps.zip us)) : Binds K fd ps [] := fun s us _ hl => by
  rw [List.append_nil] at hl ⊢
  exact .of_eq (h us hl)

/-- an exception of a callee reaches what this body wants of exceptions -/
def Passes (CX : CXT) (X : Cx) (E : XK) : Prop := ∀ (pins : List (Addr × Obj)) (σ : St) (H : Hp) (s : Shared) (e : Value) (s' : Shared), Inv X pins σ H s → CX X.stack H s E e s' → X.xe e s'

section
variable {X : Cx} {CX : CXT} {k : Nat} {f C : Addr} {fd : FuncData} {ps : List Str} {sp : Sp} {dvs : List V} {ds : List Value} {E : XK} {x m : Str} {p pos apos : Pos} {e o : Expr} {es : List Expr} {ta : TE} {t : TA}

/-- the callee runs -/
theorem run_fn {pins : List (Addr × Obj)} {σ : St} {H : Hp} {s : Shared} {Q : VK} {us : List Value} {vs : List V} (F : FnOk X.prog X.w X.K X.mg X.base CX k f fd ps sp) (hr : Room k X.A) (hb : Binds X.K fd ps ds) (hd : Vals dvs ds) (hx : Passes CX X E)
    (I : Inv X pins σ H s) (r : Vals vs us) (h : sp (vs ++ dvs) H Q E) : wpAny (model X.prog X.w) X.A (call (.ref f) us) (EP X pins σ Q) X.xe s := by
  have r2 : Vals (vs ++ dvs) (us ++ ds) := r.append hd
  have hl : (us ++ ds).length = ps.length := by rw [← r2.length]; exact F.len _ _ _ _ h
  refine wpAny_call (codeAny_mono (F.run X.A X.stack s H ⟨us, []⟩ (us ++ ds) (vs ++ dvs) Q E hr I.env0 (hb s us I.kIn hl) r2 h) fun r s' hq => ?_)
  cases r with
  | error e => exact hx pins σ H s e s' I hq
  | ok fl =>
    cases fl with
    | ret u => exact I.after hq
    | next => exact False.elim hq
    | brk => exact False.elim hq
    | cont => exact False.elim hq

theorem pe_call (F : FnOk X.prog X.w X.K X.mg X.base CX k f fd ps sp) (hr : Room k X.A) (hg : Gl X x) (hm : X.mg x = some (.ref f)) (hk : PySem.W.keepIn X.K (.ref f) = true) (hb : Binds X.K fd ps ds) (hd : Vals dvs ds) (hx : Passes CX X E)
    (ha : PA X (e :: es) t) (hdb : (x == ("__debug__" : Str)) = false := by decide) (he : starEach (e :: es) X.env = (false, eval e X.env) :: starEach es X.env := by rfl) (hpl : (backTo pos (starEach es X.env)).any (·.1) = false := by rfl) :
    PE X (.Call (.Name x p) (e :: es) [] pos) (tCall sp dvs E t) := by
  intro pins s σ H Q I h
  refine wpAny_Call_Name_kw (ld_glob I hg hm ?_ hdb)
  refine PySem.W.callWith_K (h₀ := X.base) I.ok.mod.kin hk (thn (ha pos pins s σ H _ I h) fun us s1 ⟨vs, H1, I1, r, q⟩ => ⟨I1.kIn, ?_⟩) he hpl
  exact run_fn F hr hb hd hx I1 r q
/-- o.m(e, ..) -/
theorem pe_meth {pl : Sem Bool} (he : PE X o ta) (c : Cls X.K C) (hm : Meth X.K C m f) (F : FnOk X.prog X.w X.K X.mg X.base CX k f fd ps sp) (hr : Room k X.A) (hb : Binds X.K fd ps ds) (hd : Vals dvs ds) (hx : Passes CX X E) (ha : PA X (e :: es) t)
    (hst : starEach (e :: es) X.env = (false, eval e X.env) :: starEach es X.env := by rfl) (hpl : (backTo pos (starEach es X.env)).any (·.1) = false := by rfl)
    (ht : eval (.Call (.Attribute o m apos) (e :: es) [] pos) X.env = (do
      let ov ← eval o X.env
      standAt apos.atName
      let (f, first) ← holding [ov] (getMethod ov m pl)
      callWith pos f first (backTo pos (starEach (e :: es) X.env)) (backToKw pos (keywordEach [] X.env))) := by rfl) :
    PE X (.Call (.Attribute o m apos) (e :: es) [] pos) (tMeth C m sp dvs E ta t) := by
  intro pins s σ H Q I h
  refine PySem.W.methodCall_KW (pl := pl) (thn (he pins s σ H _ I h) fun u s1 ⟨x, H1, I1, rx, a, dx, fs, ex, ea, l, q⟩ => ?_) ht
  subst ex
  obtain rfl : u = Value.ref a := rx
  refine getmeth_ok I1 ea c hm l ?_
  refine PySem.W.callWith_K (first := [.ref a]) (h₀ := X.base) I.ok.mod.kin hm.kp (thn (ha pos pins s1 σ H1 _ I1 q) fun us s2 ⟨vs, H2, I2, r, q2⟩ => ⟨I2.kIn, ?_⟩) hst hpl
  exact run_fn (us := .ref a :: us) (vs := .ref a :: vs) F hr hb hd hx I2 (.cons rfl r) q2
/-- o.m() -/
theorem pe_meth0 {pl : Sem Bool} (he : PE X o ta) (c : Cls X.K C) (hm : Meth X.K C m f) (F : FnOk X.prog X.w X.K X.mg X.base CX k f fd ps sp) (hr : Room k X.A) (hb : Binds X.K fd ps ds) (hd : Vals dvs ds) (hx : Passes CX X E)
    (ht : eval (.Call (.Attribute o m apos) [] [] pos) X.env = (do
      let ov ← eval o X.env
      standAt apos.atName
      let (f, first) ← holding [ov] (getMethod ov m pl)
      callWith pos f first (backTo pos (starEach [] X.env)) (backToKw pos (keywordEach [] X.env))) := by rfl) :
    PE X (.Call (.Attribute o m apos) [] [] pos) (tMeth C m sp dvs E ta tNil) := by
  intro pins s σ H Q I h
  refine PySem.W.methodCall_KW (pl := pl) (thn (he pins s σ H _ I h) fun u s1 ⟨x, H1, I1, rx, a, dx, fs, ex, ea, l, q⟩ => ?_) ht
  subst ex
  obtain rfl : u = Value.ref a := rx
  refine getmeth_ok I1 ea c hm l ?_
  exact PySem.W.callWith_K0 (first := [.ref a]) I1.kIn hm.kp (run_fn (us := [.ref a]) (vs := [.ref a]) F hr hb hd hx I1 (.cons rfl .nil) q)

/-- what a class must have to be made -/
structure Mk (K : PySem.W.Frag) (C f : Addr) : Prop where
  makes : PySem.W.makesIn K C = true
  init : PySem.W.findIn K (.ref C) "__init__" = some (some (.ref f))
  fn : PySem.W.isFn K (.ref f) = true
  kp : PySem.W.keepIn K (.ref C) = true

theorem run_make {pins : List (Addr × Obj)} {σ : St} {H : Hp} {s : Shared} {Q : VK} {us : List Value} {vs : List V} (M : Mk X.K C f) (F : FnOk X.prog X.w X.K X.mg X.base CX k f fd ps sp) (hr : Room (k + 1) X.A) (hb : Binds X.K fd ps ds) (hd : Vals dvs ds)
    (hx : Passes CX X E) (I : Inv X pins σ H s) (r : Vals vs us)
    (h : ∀ x dx, H x = none → H dx = none → dx ≠ x → sp (.ref x :: (vs ++ dvs)) (upd (upd H dx (.own x)) x (.ins C dx [])) (fun v H2 => v = .non ∧ Q (.ref x) H2) E) :
    wpAny (model X.prog X.w) X.A (call (.ref C) us) (EP X pins σ Q) X.xe s := by
  have hq := h (s.heap.objs.size + 1) s.heap.objs.size (I.hok.fresh (Nat.le_succ _)) (I.hok.fresh (Nat.le_refl _)) (Nat.ne_of_lt (Nat.lt_succ_self _))
  have I2 := Inv.made (C := C) I
  have r2 : Vals (V.ref (s.heap.objs.size + 1) :: (vs ++ dvs)) (Value.ref (s.heap.objs.size + 1) :: (us ++ ds)) := .cons rfl (r.append hd)
  have hl : (Value.ref (s.heap.objs.size + 1) :: us ++ ds).length = ps.length := by
    have e := r2.length
    rw [F.len _ _ _ _ hq] at e
    exact e.symm
  refine wpAny_call (make_map (f := f) I.kIn M.makes M.init (beq_iff_eq.mp M.fn) (codeAny_mono (F.run _ X.stack _ _ ⟨Value.ref (s.heap.objs.size + 1) :: us, []⟩ (Value.ref (s.heap.objs.size + 1) :: (us ++ ds)) _ _ E (hr.make C us [])
    (I2.env0.make C us []) (hb _ (Value.ref (s.heap.objs.size + 1) :: us) I2.kIn hl) r2 hq) fun r s' hq' => ?_))
  cases r with
  | error e => exact hx pins σ _ _ e s' I2 hq'
  | ok fl =>
    cases fl with
    | ret u =>
      obtain ⟨v, H', I3, rv, ev, q3⟩ := I2.after hq'
      subst ev
      exact ⟨rv, ⟨V.ref (s.heap.objs.size + 1), H', I3, rfl, q3⟩⟩
    | next => exact False.elim hq'
    | brk => exact False.elim hq'
    | cont => exact False.elim hq'
theorem pe_make (M : Mk X.K C f) (F : FnOk X.prog X.w X.K X.mg X.base CX k f fd ps sp) (hr : Room (k + 1) X.A) (hg : Gl X x) (hm : X.mg x = some (.ref C)) (hb : Binds X.K fd ps ds) (hd : Vals dvs ds) (hx : Passes CX X E)
    (ha : PA X (e :: es) t) (hdb : (x == ("__debug__" : Str)) = false := by decide) (he : starEach (e :: es) X.env = (false, eval e X.env) :: starEach es X.env := by rfl) (hpl : (backTo pos (starEach es X.env)).any (·.1) = false := by rfl) :
    PE X (.Call (.Name x p) (e :: es) [] pos) (tMake C sp dvs E t) := by
  intro pins s σ H Q I h
  refine wpAny_Call_Name_kw (ld_glob I hg hm ?_ hdb)
  refine PySem.W.callWith_K (h₀ := X.base) I.ok.mod.kin M.kp (thn (ha pos pins s σ H _ I h) fun us s1 ⟨vs, H1, I1, r, q⟩ => ⟨I1.kIn, ?_⟩) he hpl
  exact run_make M F hr hb hd hx I1 r q
end

/-! ### keywords -/
section
variable {X : Cx} {CX : CXT} {k : Nat} {f C : Addr} {fd : FuncData} {ps ks : List Str} {sp : Sp} {E : XK} {x m : Str} {p pos apos kpos : Pos} {e o : Expr} {es : List Expr} {kws : List Keyword} {te ta : TE} {t tk : TA} {nm : Option Str}
/-- how a call with keywords binds: g puts the positional values us and the keywords' values ws (names ks) in the parameters' order, defaults among them -/
structure KBinds (K : PySem.W.Frag) (fd : FuncData) (ps ks : List Str) (g : List Value → List Value → List Value) (gV : List V → List V → List V) : Prop where
  to : ∀ (s : Shared) (us ws : List Value), K.In s.heap → (g us ws).length = ps.length → BindsTo s fd ⟨us, ks.zip ws⟩ (ps.zip (g us ws))
  rel : ∀ {vs : List V} {us : List Value} {zs : List V} {ws : List Value}, Vals vs us → Vals zs ws → Vals (gV vs zs) (g us ws)
variable {g : List Value → List Value → List Value} {gV : List V → List V → List V}
end

/-! ### a def's body keeps its promise -/
/-- names: the parameters first -/
structure FnScope (N P : List Str) (sc : Scope) : Prop where
  kind : sc.kind = .function
  co : sc.isCoroutine = false
  gen : sc.isGenerator = false
  nd : N.Nodup
  pre : N.take P.length = P
  par : ∀ x ∈ P, sc.names.lookup x = some .local ∨ sc.names.lookup x = some .cell
  nofree : ∀ y ∈ sc.names, y.2 ≠ .free

theorem bindL_out {kindOf : Str → Option NameKind} {x : Str} : ∀ {binds : List (Str × Value)} {m : Str → Option Value}, (∀ v, (x, v) ∉ binds) → bindL kindOf binds m x = m x
  | [], _, _ => rfl
  | (n, v) :: r, m, h => by
    unfold bindL
    rw [bindL_out fun w hw => h w (List.mem_cons_of_mem _ hw)]
    split
    · have : x ≠ n := by rintro rfl; exact h v List.mem_cons_self
      simp [this]
    · rfl
theorem bindC_out {kindOf : Str → Option NameKind} {x : Str} : ∀ {binds : List (Str × Value)} {m : Str → Option Value}, (∀ v, (x, v) ∉ binds) → bindC kindOf binds m x = m x
  | [], _, _ => rfl
  | (n, v) :: r, m, h => by
    unfold bindC
    rw [bindC_out fun w hw => h w (List.mem_cons_of_mem _ hw)]
    split
    · rfl
    · have : x ≠ n := by rintro rfl; exact h v List.mem_cons_self
      simp [this]
theorem bindL_get {kindOf : Str → Option NameKind} {x : Str} {v : Value} : ∀ {P : List Str} {vs : List Value} {i : Nat} {m : Str → Option Value}, P.Nodup → P[i]? = some x → vs[i]? = some v → kindOf x = some .local →
    bindL kindOf (P.zip vs) m x = some v
  | [], _, _, _, _, h, _, _ => by simp at h
  | _ :: _, [], _, _, _, _, h, _ => by simp at h
  | p :: P, w :: vs, 0, m, nd, h1, h2, hk => by
    simp at h1 h2; subst h1; subst h2
    show bindL kindOf ((p, w) :: P.zip vs) m p = _
    unfold bindL
    rw [bindL_out fun v hv => (List.nodup_cons.mp nd).1 (List.of_mem_zip hv).1, if_pos hk]
    simp
  | p :: P, w :: vs, i + 1, m, nd, h1, h2, hk => by
    show bindL kindOf ((p, w) :: P.zip vs) m x = _
    unfold bindL
    exact bindL_get (i := i) (List.nodup_cons.mp nd).2 (by simpa using h1) (by simpa using h2) hk
theorem bindC_get {kindOf : Str → Option NameKind} {x : Str} {v : Value} : ∀ {P : List Str} {vs : List Value} {i : Nat} {m : Str → Option Value}, P.Nodup → P[i]? = some x → vs[i]? = some v → kindOf x ≠ some .local →
    bindC kindOf (P.zip vs) m x = some v
  | [], _, _, _, _, h, _, _ => by simp at h
  | _ :: _, [], _, _, _, _, h, _ => by simp at h
  | p :: P, w :: vs, 0, m, nd, h1, h2, hk => by
    simp at h1 h2; subst h1; subst h2
    show bindC kindOf ((p, w) :: P.zip vs) m p = _
    unfold bindC
    rw [bindC_out fun v hv => (List.nodup_cons.mp nd).1 (List.of_mem_zip hv).1, if_neg hk]
    simp
  | p :: P, w :: vs, i + 1, m, nd, h1, h2, hk => by
    show bindC kindOf ((p, w) :: P.zip vs) m x = _
    unfold bindC
    exact bindC_get (i := i) (List.nodup_cons.mp nd).2 (by simpa using h1) (by simpa using h2) hk

/-- the names' values at the entry -/
def start (N : List Str) (vs : List V) : St := vs.map some ++ List.replicate (N.length - vs.length) none

/-- the context of a def's body, at its entry; an exception leaves the frame, then lies as CX says -/
def cxOf (CX : CXT) (P : Program) (w : World) (K : PySem.W.Frag) (mg : Str → Option Value) (base : Heap) (N : List Str) (qual : Str) (scope : Scope) (f : Addr) (cd : Value) (A : Around) (outer : List Env) (s : Shared) (H : Hp) (E : XK) : Cx where
  prog := P
  w := w
  K := K
  mg := mg
  base := base
  A := A.deeper (envOfC qual scope s.heap.objs.size f cd)
  N := N
  s₀ := s
  H₀ := H
  env := envOfC qual scope s.heap.objs.size f cd
  outer := outer
  stack := envOfC qual scope s.heap.objs.size f cd :: outer
  ex := []
  calm := true
  fn := fun _ => true
  pn := []
  xe := fun e s' => wpAny (model P w) (A.deeper (envOfC qual scope s.heap.objs.size f cd)) (leaving (envOfC qual scope s.heap.objs.size f cd) e) (fun _ s'' => CX outer H s E e s'') (fun e' s'' => CX outer H s E e' s'') s'

theorem cell_has {sc : Scope} {n : Nat} {x : Str} (h : sc.names.lookup x = some .cell) : ∃ c, (cellsFrom n sc.names []).lookup x = some c := by
  have q := PySem.W.cellsFrom_some sc.names n [] (.inl h)
  exact Option.isSome_iff_exists.mp q

theorem inv_start {CX : CXT} {P : Program} {w : World} {K : PySem.W.Frag} {mg : Str → Option Value} {base : Heap} {N ps : List Str} {qual : Str} {scope : Scope} {f : Addr} {cd : Value} {A : Around} {outer : List Env} {s s1 : Shared} {H : Hp} {E : XK} {us : List Value} {vs : List V}
    (S : FnScope N ps scope) (hd : A.handled = none) (e0 : Env0 P w K mg base A outer s H) (hl : vs.length = ps.length) (r : Vals vs us)
    (x : InCallC s s.heap.objs.size (bindL (envOfC qual scope s.heap.objs.size f cd).kindOf (ps.zip us) fun _ => none) (cellsFrom (s.heap.objs.size + 1) scope.names []) (bindC (envOfC qual scope s.heap.objs.size f cd).kindOf (ps.zip us) fun _ => none) s1) :
    Inv (cxOf CX P w K mg base N qual scope f cd A outer s H E) [] (start N vs) H s1 := by
  have hpl : ps.length ≤ N.length := by have := congrArg List.length S.pre; rw [List.length_take] at this; omega
  obtain ⟨h1, tk, rfl, hk⟩ := x.done
  have noA : ∀ b : Addr, b ∉ (cxOf CX P w K mg base N qual scope f cd A outer s H E).ex := fun b z => absurd (show b ∈ ([] : List Addr) from z) (by simp)
  refine ⟨⟨e0.mod, S.kind, rfl, rfl, Nat.le_refl _, fun y z c h1 h2 => ?_, fun y hy => ?_, fun y c _ h => ?_, fun _ => hd, Around.frames_deeper e0.frames, .inr ⟨rfl, rfl⟩, fun b z => absurd z (noA b), e0.bs, e0.bsz, fun b _ _ => noA b, fun b z => absurd z (noA b), e0.funs, e0.frf⟩,
    rfl, e0.bare, Un.kept hk, ⟨_, x.toInCall.ns, fun i y v h1 h2 h3 => ?_⟩, fun y c h => ⟨_, x.cell y c h⟩, e0.hok.fresh (Nat.le_refl _), fun y c h => ?_, fun p hp => absurd (show p ∈ ([] : List (Addr × Obj)) from hp) (by simp), e0.hok.kept hk, ?_⟩
  · exact name_of_addr x.apart (PySem.mem_of_lookup h1) (PySem.mem_of_lookup h2)
  · have hy : scope.names.lookup y = some .cell ∨ scope.names.lookup y = some .free := hy
    rcases hy with hy | hy
    · exact cell_has hy
    · exact absurd rfl (S.nofree _ (PySem.mem_of_lookup hy))
  · exact Nat.le_of_lt (x.above y c (PySem.mem_of_lookup h))
  · have hi : i < vs.length := by
      unfold start at h2
      by_cases hi : i < vs.length
      · exact hi
      · rw [List.getElem?_append_right (by simpa using hi)] at h2
        rw [List.getElem?_replicate] at h2
        split at h2 <;> cases h2
    have ha : vs[i]? = some v := by
      unfold start at h2
      rw [List.getElem?_append_left (by simpa using hi), List.getElem?_map] at h2
      cases e : vs[i]? with
      | none => rw [e] at h2; cases h2
      | some a => rw [e] at h2; cases h2; rfl
    obtain ⟨u, hu, rv⟩ := r.get ha
    have hp : ps[i]? = some y := by
      rw [← S.pre, List.getElem?_take_of_lt (by omega)]; exact h1
    have ndP : ps.Nodup := by rw [← S.pre]; exact S.nd.sublist (List.take_sublist _ _)
    refine ⟨u, rv, ?_⟩
    rcases S.par y (List.mem_of_getElem? hp) with k | k
    · exact .inl ⟨k, bindL_get ndP hp hu k⟩
    · obtain ⟨c, e⟩ := cell_has (n := s.heap.objs.size + 1) k
      refine .inr ⟨.inl k, c, e, ?_⟩
      have q := x.cell y c e
      rw [bindC_get ndP hp hu (by show scope.names.lookup y ≠ _; rw [k]; decide)] at q
      exact q
  · exact e0.hok.fresh (Nat.le_of_lt (x.above y c (PySem.mem_of_lookup h)))
  · unfold start
    show _ = N.length
    rw [List.length_append, List.length_map, List.length_replicate]
    omega

/-- THE RULE: a def (or a method) of the text, by its body. The body's reading t is chosen for each entry; it is run at the parameters' values -/
theorem fn_of {CX : CXT} {P : Program} {w : World} {K : PySem.W.Frag} {mg : Str → Option Value} {base : Heap} {k : Nat} {f : Addr} {name qual : Str} {params : Arguments} {body : List Stmt} {scope : Scope} {dV kV doc pm cdv ct oc : Value} {an od : Option Addr}
    {osl : Array (Option Value)} {N ps : List Str} {sp : Sp} (lk : K.lookup f = some ⟨oc, od, .func (PySem.W.fnOf name qual params body scope dV kV doc pm an cdv ct), osl⟩) (hcd : PySem.W.codeIn K cdv qual = true) (S : FnScope N ps scope)
    (len : ∀ vs H Q E, sp vs H Q E → vs.length = ps.length)
    (hbody : ∀ (A : Around) (outer : List Env) (s : Shared) (H : Hp) (vs : List V) (Q : VK) (E : XK), Room k (A.deeper (envOfC qual scope s.heap.objs.size f cdv)) → sp vs H Q E →
      ∃ t, PSs (cxOf CX P w K mg base N qual scope f cdv A outer s H E) body t ∧ t { nx := fun _ H' => Q .non H', rt := Q } (start N vs) H) :
    FnOk P w K mg base CX (k + 1) f (PySem.W.fnOf name qual params body scope dV kV doc pm an cdv ct) ps sp := by
  refine ⟨len, fun A outer s H args us vs Q E hr e0 hb r hsp => ?_⟩
  have hl := len _ _ _ _ hsp
  have KX : K.In s.heap := e0.mod.kin.keeps fun b o e => (e0.bs b o e).1
  have lim : s.heap.NoLimit := e0.mod.nolimit.keeps fun b o e => (e0.bs b o e).1
  have hkind : ∀ y ∈ ps.zip us, scope.names.lookup y.1 = some .local ∨ (scope.names.lookup y.1 = some .cell ∧ ((cellsFrom (s.heap.objs.size + 1) scope.names []).lookup y.1).isSome = true) := fun ⟨n, v⟩ hy => by
    rcases S.par n (List.of_mem_zip hy).1 with q | q
    · exact .inl q
    · exact .inr ⟨q, PySem.W.cellsFrom_some _ _ _ (.inl q)⟩
  refine codeAny_call_function hr.depth (KX _ _ lk) rfl S.co S.gen rfl (PySem.W.codeRec_of KX hcd) (hb _ _ _ _ ?_)
  refine wpAny_newFunctionEnv_cells S.kind hkind fun env he s1 x => ?_
  subst he
  refine ⟨lim.keeps x.toInCall.keep, codeAny_func ?_⟩
  obtain ⟨t, ht, hq⟩ := hbody A outer s H vs Q E (hr.deeper _) hsp
  have I : Inv (cxOf CX P w K mg base N qual scope f cdv A outer s H E) [] (start N vs) H s1 := inv_start S hr.hd e0 hl r x
  refine wpAny_mono (ht [] s1 (start N vs) H _ I hq) (fun fl s' hs => ?_) fun e s' hs => hs
  have fin : ∀ {σ' : St} {H' : Hp} {v : V} {u : Value}, Inv (cxOf CX P w K mg base N qual scope f cdv A outer s H E) [] σ' H' s' → RelV v u → Q v H' → CE outer P w H s Q u s' :=
    fun {σ' H' v u} J rv q => ⟨v, H', J.os, J.bare, J.base, J.hok, rv, q⟩
  cases fl with
  | ret u =>
    obtain ⟨v, σ', H', J, rv, q⟩ := hs
    exact fin J rv q
  | next =>
    obtain ⟨σ', H', J, q⟩ := hs
    exact fin (v := V.non) (u := Value.none) J rfl q
  | brk =>
    obtain ⟨_, _, _, q⟩ := hs
    exact False.elim q
  | cont =>
    obtain ⟨_, _, _, q⟩ := hs
    exact False.elim q
end L2

namespace L2
open PySem PySem.Spec PyProof.Rows
section
variable {X : Cx} {x : Str} {p pos : Pos} {e : Expr} {es : List Expr} {t : TA} {id T : String} {r : List V → Hp → VK → Prop}

def tCB (r : List V → Hp → VK → Prop) (t : TA) : TE := fun σ H Q => t σ H fun vs H1 => r vs H1 Q
/-- f(e, ..), f a built-in function -/
theorem pe_callB (hc : CallR X (.builtin id) r) (hg : Gl X x) (hm : X.mg x = none) (hv : bootBuiltins x = some (.builtin id)) (ha : PA X (e :: es) t) (hn : x ≠ "__name__" := by decide) (hdb : (x == ("__debug__" : Str)) = false := by decide)
    (he : starEach (e :: es) X.env = (false, eval e X.env) :: starEach es X.env := by rfl) (hpl : (backTo pos (starEach es X.env)).any (·.1) = false := by rfl) : PE X (.Call (.Name x p) (e :: es) [] pos) (tCB r t) := by
  intro pins s σ H Q I h
  refine wpAny_Call_Name_kw (ld_blt I hg hm hv ?_ hn hdb)
  exact PyProof.Rows.callWith_builtin1 (thn (ha pos pins s σ H _ I h) fun us s1 ⟨vs, H1, I1, r1, q1⟩ => hc pins s1 σ H1 vs us Q I1 r1 q1) he hpl
/-- T(e, ..), T a built-in type -/
theorem pe_callTy (hc : CallR X (.type T) r) (hg : Gl X x) (hm : X.mg x = none) (hv : bootBuiltins x = some (.type T)) (ha : PA X (e :: es) t) (hn : x ≠ "__name__" := by decide) (hdb : (x == ("__debug__" : Str)) = false := by decide)
    (he : starEach (e :: es) X.env = (false, eval e X.env) :: starEach es X.env := by rfl) (hpl : (backTo pos (starEach es X.env)).any (·.1) = false := by rfl) : PE X (.Call (.Name x p) (e :: es) [] pos) (tCB r t) := by
  intro pins s σ H Q I h
  refine wpAny_Call_Name_kw (ld_blt I hg hm hv ?_ hn hdb)
  exact PyProof.Rows.callWith_type1 (thn (ha pos pins s σ H _ I h) fun us s1 ⟨vs, H1, I1, r1, q1⟩ => hc pins s1 σ H1 vs us Q I1 r1 q1) he hpl
end
end L2

namespace HT
open PySem PyProof.Rows

section
open PySem.SeqAt
open PySem.AutoSeq1 (wpAny_loadPart')
open PySem.MeetsSeq PySem.MeetsSeq2 PySem.MeetsSeq3

end

section
variable {prog : Program} {w : World} {A : Around} {E : Value → Shared → Prop} {s : Shared}

/-! ### t[a:b], not the whole -/
/-- a slice's bound as a place among n (d where it is left out) -/
def sIx (n d : Nat) : Option Int → Nat
  | none => d
  | some v => if v < 0 then (v + (n : Int)).toNat else min v.toNat n
theorem sIx_none (n d : Nat) : sIx n d none = d := rfl
theorem sIx_nat (n d k : Nat) : sIx n d (some (k : Int)) = min k n := by
  show (if (k : Int) < 0 then ((k : Int) + (n : Int)).toNat else min (k : Int).toNat n) = min k n
  rw [if_neg (by omega), Int.toNat_natCast]
end
end HT

namespace L2
open PySem PySem.Spec PyProof.Rows

/-! ### the parts of a slice -/
abbrev TO := St → Hp → (Option Int → Hp → Prop) → Prop
/-- a slice's part (left out, or an int) -/
def PO (X : Cx) (e : Option Expr) (t : TO) : Prop :=
  ∀ (pins : List (Addr × Obj)) (s : Shared) (σ : St) (H : Hp) (Q : Option Int → Hp → Prop), Inv X pins σ H s → t σ H Q →
    wpAny (model X.prog X.w) X.A (evalPart e X.env) (fun u s' => ∃ o H', Inv X pins σ H' s' ∧ IsPart u o ∧ Q o H') X.xe s
def tNoPart : TO := fun _ H Q => Q none H
def tPart (t : TE) : TO := fun σ H Q => t σ H fun x H1 => ∃ i, x = .int i ∧ Q (some i) H1

section
variable {X : Cx} {e : Expr} {te : TE} {lo hi : Option Expr} {tl th : TO} {pos p2 : Pos}

theorem po_none : PO X none tNoPart := by
  intro pins s σ H Q I h
  rw [evalPart_none]
  exact wpAny_pure ⟨none, H, I, .none, h⟩
theorem po_some (h : PE X e te) : PO X (some e) (tPart te) := by
  intro pins s σ H Q I hw
  rw [evalPart_some]
  refine thn (h pins s σ H _ I hw) fun u s1 ⟨x, H1, I1, r1, q1⟩ => ?_
  obtain ⟨i, rfl, q⟩ := q1
  obtain ⟨t, rfl⟩ := r1
  exact ⟨some i, H1, I1, .int i t, q⟩

/-- what a slice of a value is, by values: the slice object stands at sl -/
def SlR (X : Cx) (r : V → Option Int → Option Int → Hp → VK → Prop) : Prop :=
  ∀ (pins : List (Addr × Obj)) (s : Shared) (σ : St) (H : Hp) (x : V) (v vl vu : Value) (lo hi : Option Int) (sl : Addr) (Q : VK), Inv X pins σ H s → RelV x v → s.heap.IsSliceOf sl vl vu .none → IsPart vl lo → IsPart vu hi → r x lo hi H Q →
    ∃ T id, typeLookup (.type T) "__getitem__" = pure (some (.builtin id)) ∧ s.TypeIs v T ∧ wpAny (model X.prog X.w) X.A (getItem v (.ref sl)) (EP X pins σ Q) X.xe s
def tSl (r : V → Option Int → Option Int → Hp → VK → Prop) (te : TE) (tl th : TO) : TE := fun σ H Q => te σ H fun x H1 => tl σ H1 fun l H2 => th σ H2 fun u H3 => r x l u H3 Q
/-- a[lo:hi], any a -/
theorem pe_slice {r : V → Option Int → Option Int → Hp → VK → Prop} (hr : SlR X r) (he : PE X e te) (hl : PO X lo tl) (hu : PO X hi th) : PE X (.Subscript e (.Slice lo hi none p2) pos) (tSl r te tl th) := by
  intro pins s σ H Q I h
  refine Subscript_ (thn (he pins s σ H _ I h) fun v s1 ⟨x, H1, I1, r1, q1⟩ => ?_)
  refine wpAny_Slice (thn (hl pins s1 σ H1 _ I1 q1) fun vl s2 ⟨l, H2, I2, pl, q2⟩ => thn (hu pins s2 σ H2 _ I2 q2) fun vu s3 ⟨u, H3, I3, pu, q3⟩ => ?_)
  rw [evalPart_none]
  refine wpAny_pure ?_
  have I4 : Inv X pins σ H3 { s3 with heap := s3.heap.push { cls := .type "slice", data := .fields #[vl, vu, .none] } } := I3.kept (t' := s3.toks) fun b ob q => Heap.get?_push_of_some _ q
  obtain ⟨T, id, hT, ht, hg⟩ := hr pins { s3 with heap := s3.heap.push { cls := .type "slice", data := .fields #[vl, vu, .none] } } σ H3 x v vl vu l u s3.heap.objs.size Q I4 r1 (Heap.IsSliceOf.new ..) pl pu q3
  show wpAny (model X.prog X.w) X.A (subscriptTail e (.Slice lo hi none p2) v (.ref s3.heap.objs.size)) (EP X pins σ Q) X.xe { s3 with heap := s3.heap.push { cls := .type "slice", data := .fields #[vl, vu, .none] } }
  exact tail_any (ops := [.ref s3.heap.objs.size, v]) ht hT hg (by with_unfolding_all rfl)

/-- the items of xs[lo:hi] -/
def cutV (xs : List V) (lo hi : Option Int) : List V := (xs.drop (HT.sIx xs.length 0 lo)).take (HT.sIx xs.length xs.length hi - HT.sIx xs.length 0 lo)
theorem cutV_length (xs : List V) (lo hi : Option Int) : (cutV xs lo hi).length ≤ xs.length := by
  unfold cutV
  rw [List.length_take, List.length_drop]
  omega
/-! ### t < u, t + u -/
end
end L2

namespace L2
open PySem PySem.Spec PyProof.Rows

/-! ### places -/
/-- the place that an index of any sign means -/
def ixN (n : Nat) (i : Int) : Option Nat := if 0 ≤ i then (if i < n then some i.toNat else none) else if -(n : Int) ≤ i then some (i + n).toNat else none
def atI {α : Type} (xs : List α) (i : Int) : Option α := (ixN xs.length i).bind fun j => xs[j]?
theorem ixN_seq {n : Nat} {i : Int} {j : Nat} (h : ixN n i = some j) : seqIndex? i n = some j ∧ j < n ∧ -(n : Int) ≤ i ∧ i < n := by
  unfold ixN at h
  by_cases h0 : 0 ≤ i
  · rw [if_pos h0] at h
    by_cases h1 : i < n
    · rw [if_pos h1] at h
      have e : i.toNat = j := Option.some.inj h
      exact ⟨by rw [seqIndex_of h0 h1, e], by omega, by omega, h1⟩
    · rw [if_neg h1] at h; cases h
  · rw [if_neg h0] at h
    by_cases h1 : -(n : Int) ≤ i
    · rw [if_pos h1] at h
      have e : (i + n).toNat = j := Option.some.inj h
      exact ⟨by rw [seqIndex_neg (by omega) h1, e], by omega, h1, by omega⟩
    · rw [if_neg h1] at h; cases h
theorem atI_get {α : Type} {xs : List α} {i : Int} {v : α} (h : atI xs i = some v) : ∃ j, seqIndex? i xs.length = some j ∧ xs[j]? = some v ∧ j < xs.length ∧ -(xs.length : Int) ≤ i ∧ i < xs.length := by
  unfold atI at h
  cases e : ixN xs.length i with
  | none => rw [e] at h; cases h
  | some j =>
    rw [e] at h
    obtain ⟨h1, h2, h3, h4⟩ := ixN_seq e
    exact ⟨j, h1, h, h2, h3, h4⟩
theorem atI_nat {α : Type} {xs : List α} {j : Nat} {v : α} (h : xs[j]? = some v) : atI xs (j : Int) = some v := by
  have hj : j < xs.length := (List.getElem?_eq_some_iff.mp h).1
  have e : ixN xs.length (j : Int) = some j := by
    unfold ixN
    rw [if_pos (by omega), if_pos (by omega)]; simp
  unfold atI; rw [e]; exact h
theorem atI_last {α : Type} (xs : List α) (v : α) : atI (xs ++ [v]) (-1) = some v := by
  have hl : (xs ++ [v]).length = xs.length + 1 := by simp
  have e : ixN (xs ++ [v]).length (-1) = some xs.length := by
    unfold ixN
    rw [hl, if_neg (by decide), if_pos (by omega)]
    congr 1
    omega
  unfold atI
  rw [e]
  show (xs ++ [v])[xs.length]? = some v
  simp

/-! ### what may be subscripted -/
/-- what stands as an index of a plain subscript -/
def PlainIx (b : Expr) : Prop := ∀ o i, subscripted b false o i = operate [o, i] (getItem o i)
/-- a subscript by values -/
def IxR (X : Cx) (r : R2) : Prop :=
  ∀ (value slice : Expr) (pins : List (Addr × Obj)) (s : Shared) (σ : St) (H : Hp) (x y : V) (v u : Value) (Q : VK), Inv X pins σ H s → RelV x v → RelV y u → r x y H Q →
    subscripted slice false v u = operate [v, u] (getItem v u) → wpAny (model X.prog X.w) X.A (subscriptTail value slice v u) (EP X pins σ Q) X.xe s
/-- a call of a builtin's method by values: the receiver, the arguments -/
def MtR (X : Cx) (id : String) (r : V → List V → Hp → VK → Prop) : Prop :=
  ∀ (pins : List (Addr × Obj)) (s : Shared) (σ : St) (H : Hp) (x : V) (xs : List V) (v : Value) (us : List Value) (Q : VK), Inv X pins σ H s → RelV x v → Vals xs us → r x xs H Q →
    wpAny (model X.prog X.w) X.A (call (.builtin id) (v :: us)) (EP X pins σ Q) X.xe s
section
variable {X : Cx} {a b : Expr} {ta tb : TE} {pos : Pos}
/-- a[b] -/
theorem pe_ix {r : R2} (hr : IxR X r) (ha : PE X a ta) (hb : PE X b tb) (hs : PlainIx b) : PE X (.Subscript a b pos) (tOp r ta tb) := by
  intro pins s σ H Q I h
  exact Subscript_ (binT ha hb I h fun v u s2 x y H2 I2 rx ry q => hr a b pins s2 σ H2 x y v u Q I2 rx ry q (hs _ _))

def rIxL (K : PySem.W.Frag) : R2 := fun x y H Q => ∃ p xs i v, x = .ref p ∧ y = .int i ∧ SqL K H p xs ∧ atI xs i = some v ∧ Q v H
def rIxT (K : PySem.W.Frag) : R2 := fun x y H Q => ∃ p xs i v, x = .ref p ∧ y = .int i ∧ SqT K H p xs ∧ atI xs i = some v ∧ Q v H
theorem ix_list : IxR X (rIxL X.K) := by
  intro value slice pins s σ H x y v u Q I rx ry h hs
  obtain ⟨p, xs, i, z, rfl, rfl, hq, he, q⟩ := h
  cases rx
  obtain ⟨t, rfl⟩ := ry
  obtain ⟨its, r, pl, hz⟩ := I.list hq
  obtain ⟨j, h1, h2, h3, h4, h5⟩ := atI_get he
  obtain ⟨w, ew, rw'⟩ := r.get h2
  have hl := r.length
  have hn := line63
  have fin : EP X pins σ Q w s := ⟨z, H, I, rw', q⟩
  by_cases h0 : 0 ≤ i
  · have hj : i.toNat = j := by
      rw [seqIndex_of h0 h5] at h1
      exact Option.some.inj h1
    exact item_listR pl.isList h0 (by omega) (by rw [hj]; simpa using ew) fin hs
  · have hj : (i + (its.toArray.size : Int)).toNat = j := by
      rw [seqIndex_neg (by omega) h4] at h1
      rw [List.size_toArray, ← hl]
      exact Option.some.inj h1
    exact subscriptTail_builtinR (x := w) pl.isList.typeIs slot_list_getitem.lookup
      (wpAny_getItem_list_neg (Q := fun r s' => r = w ∧ EP X pins σ Q r s') pl.isList (by omega) (by rw [List.size_toArray] <;> omega) (by omega) (by rw [hj]; simpa using ew) ⟨rfl, fin⟩) hs
theorem ix_tup : IxR X (rIxT X.K) := by
  intro value slice pins s σ H x y v u Q I rx ry h hs
  obtain ⟨p, xs, i, z, rfl, rfl, hq, he, q⟩ := h
  cases rx
  obtain ⟨t, rfl⟩ := ry
  obtain ⟨its, r, pl, hz⟩ := I.tuple hq
  obtain ⟨j, h1, h2, h3, h4, h5⟩ := atI_get he
  obtain ⟨w, ew, rw'⟩ := r.get h2
  have hl := r.length
  have hn := line63
  have fin : EP X pins σ Q w s := ⟨z, H, I, rw', q⟩
  exact subscriptTail_builtinR (x := w) pl.typeIs slot_tuple_getitem.lookup
    (getItem_tuple (j := j) (Q := fun r s' => r = w ∧ EP X pins σ Q r s') pl (by omega) (by omega) (by rw [List.size_toArray, ← hl]; exact h1) (by simpa using ew) ⟨rfl, fin⟩) hs
/-! ### xs[i] = v, any sign -/
/-- the list's object behind a store -/
theorem mapSeq_set (its : List Value) (n j : Nat) (u : Value) : Obj.mapSeq (·.setIfInBounds j u) { cls := .type "list", data := .seq its.toArray n } = { cls := .type "list", data := .seq (its.set j u).toArray n } := by
  simp [Obj.mapSeq]
theorem Inv.lst {pins : List (Addr × Obj)} {σ : St} {H : Hp} {s : Shared} {p : Addr} {xs : List V} (I : Inv X pins σ H s) (h : H p = some (.lst xs)) :
    ∃ (its : List Value) (n : Nat), Vals xs its ∧ s.heap.get? p = some { cls := .type "list", data := .seq its.toArray n } ∧ xs.length ≤ sizeLine := by
  obtain ⟨z, its, n, r, e⟩ := I.hok p _ h
  exact ⟨its, n, r, e, z⟩
/-- the list at p is written by an update of its object -/
theorem Inv.lstUpd {pins : List (Addr × Obj)} {σ : St} {H : Hp} {s : Shared} {p : Addr} {xs ys : List V} {its its' : List Value} {n n' : Nat} {f : Obj → Obj} (I : Inv X pins σ H s) (h : H p = some (.lst xs))
    (ho : s.heap.get? p = some { cls := .type "list", data := .seq its.toArray n }) (hf : f { cls := .type "list", data := .seq its.toArray n } = { cls := .type "list", data := .seq its'.toArray n' }) (r : Vals ys its') (hz : ys.length ≤ sizeLine) (t : Nat) :
    Inv X pins σ (upd H p (.lst ys)) { s with heap := s.heap.update p f, toks := t } := by
  have e : (s.heap.update p f).get? p = some { cls := .type "list", data := .seq its'.toArray n' } := by
    rw [Heap.get?_update_self f ho (by rw [hf] <;> rfl), hf]
  refine I.write (x := p) (e := p) (by rw [h]; trivial) (.inl rfl) (fun b u hb q => (Heap.get?_update_other _ _ (Ne.symm hb)).trans q) ⟨_, e⟩ ?_
  exact ⟨hz, its', n', r, e⟩
def rSetL : V → V → V → Hp → (Hp → Prop) → Prop := fun o i v H Q => ∃ p xs k j, o = .ref p ∧ i = .int k ∧ H p = some (.lst xs) ∧ ixN xs.length k = some j ∧ Q (upd H p (.lst (xs.set j v)))
theorem set_list : PSet X rSetL := by
  intro pins s σ H o i v ov iv u Q I ro ri rv h
  obtain ⟨p, xs, k, j, rfl, rfl, hp, hj, q⟩ := h
  cases ro
  obtain ⟨t, rfl⟩ := ri
  obtain ⟨its, n, r, ho, hz⟩ := I.lst hp
  obtain ⟨h1, h2, h3, h4⟩ := ixN_seq hj
  have hl := r.length
  have hn := line63
  have I' : Inv X pins σ (upd H p (.lst (xs.set j v))) { s with heap := s.heap.update p (Obj.mapSeq (·.setIfInBounds j u)) } :=
    I.lstUpd hp ho (mapSeq_set its n j u) (r.set rv j) (by rw [List.length_set]; exact hz) s.toks
  by_cases h0 : 0 ≤ k
  · have hk : k.toNat = j := by
      rw [seqIndex_of h0 h4] at h1
      exact Option.some.inj h1
    exact PySem.W.ki_setAt ho h0 (by omega) (by rw [List.size_toArray, ← hl]; exact h4) (by rw [hk]; exact ⟨_, I', q⟩)
  · have hk : (k + (its.toArray.size : Int)).toNat = j := by
      rw [seqIndex_neg (by omega) h3] at h1
      rw [List.size_toArray, ← hl]
      exact Option.some.inj h1
    exact PySem.W.ki_setBack ho (by omega) (by rw [List.size_toArray, ← hl]; exact h3) (by omega) (by rw [hk]; exact ⟨_, I', q⟩)

/-! ### slices -/
theorem slice_bounds (lo hi : Option Int) (n : Nat) : (sliceBounds lo hi none n).1 = ((HT.sIx n 0 lo : Nat) : Int) ∧ (sliceBounds lo hi none n).2.1 = ((HT.sIx n n hi : Nat) : Int) ∧ (sliceBounds lo hi none n).2.2 = 1 := by
  refine ⟨?_, ?_, rfl⟩
  · cases lo with
    | none => simp [sliceBounds, HT.sIx]
    | some i =>
      simp only [sliceBounds, HT.sIx, Option.getD_none, show (1 : Int) > 0 by decide, if_true]
      by_cases h : i < 0
      · simp only [h, if_true] <;> omega
      · simp only [h, if_false] <;> omega
  · cases hi with
    | none => simp [sliceBounds, HT.sIx]
    | some i =>
      simp only [sliceBounds, HT.sIx, Option.getD_none, show (1 : Int) > 0 by decide, if_true]
      by_cases h : i < 0
      · simp only [h, if_true] <;> omega
      · simp only [h, if_false] <;> omega
theorem slicePick_cut (its : List Value) (lo hi : Option Int) : slicePick its.toArray lo hi none = ((its.drop (HT.sIx its.length 0 lo)).take (HT.sIx its.length its.length hi - HT.sIx its.length 0 lo)).toArray := by
  obtain ⟨h1, h2, h3⟩ := slice_bounds lo hi its.toArray.size
  unfold slicePick
  rw [h1, h2, h3]
  simp only [sliceRange_one, pick_run, List.size_toArray] <;> rfl
/-- xs[lo:hi] of a list: a new list -/
def rSlL (K : PySem.W.Frag) : V → Option Int → Option Int → Hp → VK → Prop := fun x lo hi H Q => ∃ a xs, x = .ref a ∧ SqL K H a xs ∧ ∀ p, H p = none → Q (.ref p) (upd H p (.lst (cutV xs lo hi)))
theorem sl_list : SlR X (rSlL X.K) := by
  intro pins s σ H x v vl vu lo hi sl Q I rx hs pl pu h
  obtain ⟨a, xs, rfl, hx, q⟩ := h
  cases rx
  obtain ⟨its, r, ht, hz⟩ := I.list hx
  have hlen := r.length
  refine ⟨"list", _, slot_list_getitem.lookup, ht.isList.typeIs, ?_⟩
  refine wpAny_getItem_list_slice ht.isList hs pl pu .none (by simp) ?_ (by rw [List.size_toArray] <;> omega)
  rw [slicePick_cut, ← hlen]
  refine ⟨.ref s.heap.objs.size, _, I.laid (t' := s.toks) (o := .lst (cutV xs lo hi)) (fun b ob q => Heap.get?_push_of_some _ q) (Nat.le_refl _) ?_, rfl, q _ (I.hok.fresh (Nat.le_refl _))⟩
  exact ⟨Nat.le_trans (cutV_length xs lo hi) hz, _, 0, (r.drop (HT.sIx xs.length 0 lo)).take (HT.sIx xs.length xs.length hi - HT.sIx xs.length 0 lo), Heap.get?_push_size _ rfl⟩

/-! ### in, not in: flat items -/
def flatV : V → Bool
  | .non => true
  | .bl _ => true
  | .int _ => true
  | .str _ => true
  | _ => false
/-- == of flat values -/
def eqV : V → V → Bool
  | .non, .non => true
  | .bl a, .bl b => a == b
  | .bl a, .int b => (if a then 1 else 0) == b
  | .int a, .bl b => a == (if b then 1 else 0)
  | .int a, .int b => a == b
  | .str a, .str b => a == b
  | _, _ => false
theorem eqAt_V {A : Around} {s : Shared} {y x : V} {u v : Value} (ry : RelV y u) (rx : RelV x v) (fy : flatV y = true) (fx : flatV x = true) : SeqAt.EqAt A s u v (eqV y x) := by
  cases y with
  | non =>
    cases ry
    cases x with
    | non => cases rx; exact SeqAt.EqAt.same _
    | bl b => cases rx; exact SeqAt.EqAt.none_bool b
    | int b => obtain ⟨t, rfl⟩ := rx; exact SeqAt.EqAt.none_int b t
    | str b => obtain ⟨t, rfl⟩ := rx; exact SeqAt.EqAt.none_str b t
    | _ => exact absurd (show false = true from fx) Bool.false_ne_true
  | bl a =>
    cases ry
    cases x with
    | non => cases rx; exact SeqAt.EqAt.bool_none a
    | bl b => cases rx; exact SeqAt.EqAt.bool_bool a b
    | int b => obtain ⟨t, rfl⟩ := rx; exact SeqAt.EqAt.bool_int a b t
    | str b => obtain ⟨t, rfl⟩ := rx; exact SeqAt.EqAt.bool_str a b t
    | _ => exact absurd (show false = true from fx) Bool.false_ne_true
  | int a =>
    obtain ⟨t', rfl⟩ := ry
    cases x with
    | non => cases rx; exact SeqAt.EqAt.int_none a t'
    | bl b => cases rx; exact SeqAt.EqAt.int_bool a t' b
    | int b => obtain ⟨t, rfl⟩ := rx; exact SeqAt.EqAt.int_int a t' b t
    | str b => obtain ⟨t, rfl⟩ := rx; exact SeqAt.EqAt.int_str a t' b t
    | _ => exact absurd (show false = true from fx) Bool.false_ne_true
  | str a =>
    obtain ⟨t', rfl⟩ := ry
    cases x with
    | non => cases rx; exact SeqAt.EqAt.str_none a t'
    | bl b => cases rx; exact SeqAt.EqAt.str_bool a t' b
    | int b => obtain ⟨t, rfl⟩ := rx; exact SeqAt.EqAt.str_int a t' b t
    | str b => obtain ⟨t, rfl⟩ := rx; exact SeqAt.EqAt.str_str a t' b t
    | _ => exact absurd (show false = true from fx) Bool.false_ne_true
  | _ => exact absurd (show false = true from fy) Bool.false_ne_true
/-- the items' answers, read off the values (a value's own answer does not lean on its token) -/
def eqU (x : V) (u : Value) : Bool := match u with
  | .none => eqV .non x
  | .bool b => eqV (.bl b) x
  | .int i _ => eqV (.int i) x
  | .str z _ => eqV (.str z) x
  | _ => false
theorem eqU_of {x y : V} {u : Value} (r : RelV y u) (f : flatV y = true) : eqU x u = eqV y x := by
  cases y with
  | non => cases r; rfl
  | bl b => cases r; rfl
  | int i => obtain ⟨t, rfl⟩ := r; rfl
  | str z => obtain ⟨t, rfl⟩ := r; rfl
  | _ => exact absurd (show false = true from f) Bool.false_ne_true
theorem any_eqU {x : V} : ∀ {xs : List V} {us : List Value}, Vals xs us → xs.all flatV = true → us.any (eqU x) = xs.any fun y => eqV y x
  | _, _, .nil, _ => rfl
  | y :: xs, u :: us, .cons r t, f => by
    rw [List.all_cons, Bool.and_eq_true] at f
    rw [List.any_cons, List.any_cons, eqU_of r f.1, any_eqU t f.2]
theorem mem_eqAt {A : Around} {s : Shared} {x : V} {v : Value} (rx : RelV x v) (fx : flatV x = true) : ∀ {xs : List V} {us : List Value}, Vals xs us → xs.all flatV = true → ∀ u ∈ us, SeqAt.EqAt A s u v (eqU x u)
  | _, _, .nil, _ => fun u hu => by cases hu
  | y :: xs, u :: us, .cons r t, f => fun u' hu => by
    rw [List.all_cons, Bool.and_eq_true] at f
    rcases List.mem_cons.mp hu with rfl | hu
    · rw [eqU_of r f.1]; exact eqAt_V r rx f.1 fx
    · exact mem_eqAt rx fx t f.2 u' hu
def inV (x : V) (xs : List V) : Bool := xs.any fun y => eqV y x
/-- x in a list or tuple of flat items -/
def rIn (K : PySem.W.Frag) (neg : Bool) : R2 := fun x y H Q => ∃ p xs, y = .ref p ∧ (SqL K H p xs ∨ SqT K H p xs) ∧ flatV x = true ∧ xs.all flatV = true ∧ Q (.bl (if neg then !inV x xs else inV x xs)) H
theorem op_in_seq : OpR X (compareOp .In) (rIn X.K false) := by
  intro pins s σ H x y v u Q I rx ry h
  obtain ⟨p, xs, rfl, hq, fx, fs, q⟩ := h
  cases ry
  rcases hq with hq | hq
  · obtain ⟨its, r, pl, hz⟩ := I.list hq
    refine SeqAt.in_listAt (eqU x) pl.isList (fun w hw => mem_eqAt rx fx r fs w (by simpa using hw)) ⟨.bl _, H, I, rfl, ?_⟩
    rw [show its.toArray.any (eqU x) = its.any (eqU x) by simp, any_eqU r fs]
    exact q
  · obtain ⟨its, r, pl, hz⟩ := I.tuple hq
    refine SeqAt.in_tupleAt (eqU x) pl (fun w hw => mem_eqAt rx fx r fs w (by simpa using hw)) ⟨.bl _, H, I, rfl, ?_⟩
    rw [show its.toArray.any (eqU x) = its.any (eqU x) by simp, any_eqU r fs]
    exact q
theorem op_notIn_seq : OpR X (compareOp .NotIn) (rIn X.K true) := by
  intro pins s σ H x y v u Q I rx ry h
  obtain ⟨p, xs, rfl, hq, fx, fs, q⟩ := h
  cases ry
  rcases hq with hq | hq
  · obtain ⟨its, r, pl, hz⟩ := I.list hq
    refine SeqAt.notIn_listAt (eqU x) pl.isList (fun w hw => mem_eqAt rx fx r fs w (by simpa using hw)) ⟨.bl _, H, I, rfl, ?_⟩
    rw [show its.toArray.any (eqU x) = its.any (eqU x) by simp, any_eqU r fs]
    exact q
  · obtain ⟨its, r, pl, hz⟩ := I.tuple hq
    refine SeqAt.notIn_tupleAt (eqU x) pl (fun w hw => mem_eqAt rx fx r fs w (by simpa using hw)) ⟨.bl _, H, I, rfl, ?_⟩
    rw [show its.toArray.any (eqU x) = its.any (eqU x) by simp, any_eqU r fs]
    exact q
/-! ### len, list(x), tuple(x) of any list or tuple that is read -/
theorem call_list_of : CallR X (.type "list") (fun xs H Q => ∃ p ys, xs = [.ref p] ∧ (SqL X.K H p ys ∨ SqT X.K H p ys) ∧ ∀ l, H l = none → Q (.ref l) (upd H l (.lst ys))) := by
  intro pins s σ H xs us Q I r h
  obtain ⟨p, ys, rfl, hq, q⟩ := h
  obtain ⟨u, rfl, rx⟩ := vals1 r
  cases rx
  have fin : ∀ (its : List Value), Vals ys its → ys.length ≤ sizeLine → ∀ (h' : Heap) (c' : Nat), (∀ b o', s.heap.get? b = some o' → h'.get? b = some o') →
      h'.get? s.heap.objs.size = some { cls := .type "list", dict := none, data := .seq its.toArray c', slots := #[] } → EP X pins σ Q (.ref s.heap.objs.size) { s with heap := h' } := fun its r' hz h' c' kp e =>
    ⟨.ref s.heap.objs.size, _, I.laid (t' := s.toks) kp (Nat.le_refl _) (show ObjOk X.prog X.w _ h' _ (.lst ys) from ⟨hz, its, c', r', e⟩), rfl, q _ (I.hok.fresh (Nat.le_refl _))⟩
  rcases hq with hq | hq
  · obtain ⟨its, r', pl, hz⟩ := I.list hq
    have hlen := r'.length
    obtain ⟨o, ho, hc, n, hd⟩ := pl.isList
    exact call_list_seq p (.inl rfl) ho hc hd (fun h' c' kp e => fin its r' hz h' c' kp e) (by simp only [List.size_toArray] <;> omega)
  · obtain ⟨its, r', pl, hz⟩ := I.tuple hq
    have hlen := r'.length
    obtain ⟨o, ho, hc, n, hd⟩ := pl
    exact call_list_seq p (.inr rfl) ho hc hd (fun h' c' kp e => fin its r' hz h' c' kp e) (by simp only [List.size_toArray] <;> omega)
theorem call_tuple_of : CallR X (.type "tuple") (fun xs H Q => ∃ p ys, xs = [.ref p] ∧ ((SqL X.K H p ys ∧ ∀ l, H l = none → Q (.ref l) (upd H l (.tup ys))) ∨ (SqT X.K H p ys ∧ Q (.ref p) H))) := by
  intro pins s σ H xs us Q I r h
  obtain ⟨p, ys, rfl, h⟩ := h
  obtain ⟨u, rfl, rx⟩ := vals1 r
  cases rx
  rcases h with ⟨hq, q⟩ | ⟨hq, q⟩
  · obtain ⟨its, r', pl, hz⟩ := I.list hq
    have hlen := r'.length
    refine call_tuple_list pl.isList (fun h' kp => ?_) (by simp only [List.size_toArray] <;> omega)
    have I1 : Inv X pins σ H { s with heap := h' } := I.kept (t' := s.toks) kp
    have I2 : Inv X pins σ (upd H h'.objs.size (.tup ys)) { s with heap := h'.push { cls := .type "tuple", data := .seq its.toArray } } :=
      I1.laid (t' := s.toks) (fun b o e => Heap.get?_push_of_some _ e) (Nat.le_refl _) (show ObjOk X.prog X.w _ _ _ (.tup ys) from ⟨hz, its, r', IsTup.new _ _⟩)
    exact ⟨.ref h'.objs.size, _, I2, rfl, q _ (I1.hok.fresh (Nat.le_refl _))⟩
  · obtain ⟨its, r', pl, hz⟩ := I.tuple hq
    exact call_tuple_same pl ⟨.ref p, H, I, rfl, q⟩

/-! ### the call of a builtin's method: o.m(..) -/
/-- the value is of that builtin type -/
def tyV (K : PySem.W.Frag) (T : String) (x : V) (H : Hp) : Prop := match x with
  | .str _ => T = "str"
  | .int _ => T = "int"
  | .ref p => (T = "list" ∧ ∃ xs, SqL K H p xs) ∨ (T = "tuple" ∧ ∃ o, K.lookup p = some o ∧ o.cls = .type "tuple" ∧ o.dict = none) ∨
      (T = "dict" ∧ ((∃ kvs, H p = some (.dK kvs)) ∨ ∃ kvs, H p = some (.dT kvs))) ∨ (T = "set" ∧ ∃ S n, H p = some (.set S n))
  | _ => False
theorem tyV_is {pins : List (Addr × Obj)} {σ : St} {H : Hp} {s : Shared} {T : String} {x : V} {v : Value} (I : Inv X pins σ H s) (r : RelV x v) (ty : tyV X.K T x H) :
    s.TypeIs v T ∧ ∀ a, v = .ref a → ∃ ob, s.heap.get? a = some ob ∧ ob.dict = none := by
  cases x with
  | str z =>
    obtain ⟨t, rfl⟩ := r
    cases (show T = "str" from ty)
    exact ⟨typeIs_str s z t, fun _ e => nomatch e⟩
  | int i =>
    obtain ⟨t, rfl⟩ := r
    cases (show T = "int" from ty)
    exact ⟨typeIs_int s i t, fun _ e => nomatch e⟩
  | ref p =>
    cases r
    rcases ty with ⟨rfl, xs, hq⟩ | ⟨rfl, o, hk, hc, hd⟩ | ⟨rfl, hk⟩ | ⟨rfl, S, n, hk⟩
    · obtain ⟨its, _, pl, _⟩ := I.list hq
      refine ⟨pl.isList.typeIs, fun a e => ?_⟩
      cases e
      obtain ⟨o, n, e, c, hd, _⟩ := pl
      exact ⟨o, e, hd⟩
    · refine ⟨⟨o, I.kIn p o hk, hc⟩, fun a e => ?_⟩
      cases e
      exact ⟨o, I.kIn _ o hk, hd⟩
    · have z : ∃ o, s.heap.get? p = some o ∧ o.ExactDict := by
        rcases hk with ⟨kvs, hk⟩ | ⟨kvs, hk⟩
        · obtain ⟨_, _, _, _, o, _, _, e, ex, _⟩ := I.hok p _ hk
          exact ⟨o, e, ex⟩
        · obtain ⟨_, _, _, _, o, _, _, e, ex, _⟩ := I.hok p _ hk
          exact ⟨o, e, ex⟩
      obtain ⟨o, e, ex⟩ := z
      refine ⟨⟨o, e, ex.1⟩, fun a e2 => ?_⟩
      cases e2
      exact ⟨o, e, ex.2.1⟩
    · obtain ⟨o, _, _, _, e, ex, _⟩ := I.hok p _ hk
      refine ⟨⟨o, e, ex.1⟩, fun a e2 => ?_⟩
      cases e2
      exact ⟨o, e, ex.2.1⟩
  | _ => exact False.elim ty
def tBM (K : PySem.W.Frag) (T : String) (r : V → List V → Hp → VK → Prop) (to : TE) (t : TA) : TE := fun σ H Q => to σ H fun x H1 => tyV K T x H1 ∧ t σ H1 fun xs H2 => r x xs H2 Q
variable {o e : Expr} {es : List Expr} {to : TE} {t : TA} {name : Str} {apos cpos : Pos} {T id : String} {r : V → List V → Hp → VK → Prop}
theorem pe_bm (pa : PlainAttrs T) (slot : Slot T name id) (hty : typeOf (.builtin id) = pure (.type "method_descriptor")) (hm : MtR X id r) (ho : PE X o to) (ha : PA X (e :: es) t)
    (hbase : attributeBase o name X.env (eval o X.env) = eval o X.env := by rfl)
    (hfew : ((backTo cpos (starEach (e :: es) X.env)).all (fun x => !x.1) && (backToKw cpos (keywordEach [] X.env)).all (fun x => x.1.isSome)
      && decide ((e :: es).length + ([] : List Keyword).length + (if ([] : List Keyword).isEmpty then 0 else 1) < 30)) = true := by rfl)
    (hline : (apos.endLine == cpos.line) = true := by rfl) (hs : starEach (e :: es) X.env = (false, eval e X.env) :: starEach es X.env := by rfl) (hplain : (backTo cpos (starEach es X.env)).any (·.1) = false := by rfl) :
    PE X (.Call (.Attribute o name apos) (e :: es) [] cpos) (tBM X.K T r to t) := by
  intro pins s σ H Q I h
  refine wpAny_Call_method_late hbase hfew hline rfl (thn (ho pins s σ H _ I h) fun v s1 ⟨x, H1, I1, r1, ty, q1⟩ => ?_)
  obtain ⟨h1, h2⟩ := tyV_is I1 r1 ty
  refine ⟨T, id, pa, slot, hty, h1, h2, ?_⟩
  have hA := ha cpos pins s1 σ H1 _ I1 q1
  rw [hs] at hA ⊢
  refine Calls.callWith_builtin (by show (false || (backTo cpos (starEach es X.env)).any (·.1)) = false; rw [hplain] <;> rfl) (Calls.evalArgs_plain ?_)
  exact thn hA fun us s2 ⟨vs, H2, I2, r2, q2⟩ => hm pins s2 σ H2 x vs v us Q I2 r1 r2 q2
/- xs.append(e), list.index on a module's tuple .. are MtR facts of 06m -/
end
end L2

namespace L2
open PySem PySem.Spec PyProof.Rows

def MtM (X : Cx) (id : String) (r : V → List V → Hp → VK → Prop) : Prop :=
  ∀ (pins : List (Addr × Obj)) (s : Shared) (σ : St) (H : Hp) (x : V) (xs : List V) (v : Value) (us : List Value) (Q : VK), Inv X pins σ H s → RelV x v → Vals xs us → r x xs H Q →
    wpAny (model X.prog X.w) X.A (call (.builtin id) (v :: us)) (EP X pins σ Q) X.xe s

/-! ### lists of values -/
theorem Vals.one : ∀ {x : V} {us : List Value}, Vals [x] us → ∃ u, us = [u] ∧ RelV x u
  | _, _, .cons r .nil => ⟨_, rfl, r⟩
theorem Vals.two : ∀ {x y : V} {us : List Value}, Vals [x, y] us → ∃ u v, us = [u, v] ∧ RelV x u ∧ RelV y v
  | _, _, _, .cons r (.cons q .nil) => ⟨_, _, rfl, r, q⟩
theorem Vals.eraseIdx : ∀ {xs : List V} {us : List Value} (i : Nat), Vals xs us → Vals (xs.eraseIdx i) (us.eraseIdx i)
  | _, _, _, .nil => .nil
  | _, _, 0, .cons _ t => t
  | _, _, i + 1, .cons r t => .cons r (Vals.eraseIdx i t)
theorem Vals.rep {xs : List V} {us : List Value} (h : Vals xs us) : ∀ k : Nat, Vals (List.replicate k xs).flatten (List.replicate k us).flatten
  | 0 => .nil
  | k + 1 => by
    rw [List.replicate_succ, List.replicate_succ, List.flatten_cons, List.flatten_cons]
    exact Vals.append h (Vals.rep h k)
theorem len_erase {α : Type} : ∀ (l : List α) (i : Nat), (l.eraseIdx i).length ≤ l.length
  | [], _ => Nat.le_refl _
  | _ :: _, 0 => Nat.le_succ _
  | _ :: r, i + 1 => Nat.succ_le_succ (len_erase r i)
theorem foldl_rep (its : List Value) : ∀ (k : Nat) (acc : List Value),
    List.foldl (fun x1 x2 => x1 ++ x2) acc.toArray (List.replicate k its.toArray) = (acc ++ (List.replicate k its).flatten).toArray
  | 0, acc => by simp
  | k + 1, acc => by
    have e : acc.toArray ++ its.toArray = (acc ++ its).toArray := by simp
    have e2 : (acc ++ its) ++ (List.replicate k its).flatten = acc ++ (List.replicate (k + 1) its).flatten := by
      rw [List.replicate_succ, List.flatten_cons, List.append_assoc]
    rw [← e2, ← foldl_rep its k (acc ++ its), ← e, List.replicate_succ, List.foldl_cons]

section
variable {X : Cx} {pins : List (Addr × Obj)} {σ : St} {H : Hp} {s : Shared} {l b : Addr} {xs ys zs : List V}

/-! ### the two steps: a tracked list is rewritten, a new list is laid -/
theorem Inv.lset {its its' : List Value} {n : Nat} {f : Array Value → Array Value} {t' : Nat} (I : Inv X pins σ H s) (hH : H l = some (.lst xs))
    (e : s.heap.get? l = some { cls := .type "list", data := .seq its.toArray n }) (hf : f its.toArray = its'.toArray) (hv : Vals ys its') (hz : ys.length ≤ sizeLine) :
    Inv X pins σ (upd H l (.lst ys)) { s with heap := s.heap.update l (Obj.mapSeq f), toks := t' } := by
  have q := PySem.IsL.update e f
  rw [hf] at q
  refine I.write (x := l) (e := l) (by rw [hH]; exact trivial) (.inl rfl) (fun b' u hb hu => (Heap.get?_update_other s.heap (Obj.mapSeq f) (Ne.symm hb)).trans hu) ⟨_, q⟩ ?_
  exact ⟨hz, its', _, hv, q⟩
theorem Inv.lnew {its : List Value} {t' : Nat} (I : Inv X pins σ H s) (hv : Vals ys its) (hz : ys.length ≤ sizeLine) :
    Inv X pins σ (upd H s.heap.objs.size (.lst ys)) { s with heap := s.heap.push { cls := .type "list", data := .seq its.toArray }, toks := t' } :=
  I.laid (fun _ _ q => Heap.get?_push_of_some _ q) (Nat.le_refl _) ⟨hz, its, 0, hv, Heap.get?_push_size _ rfl⟩
theorem Inv.fresh (I : Inv X pins σ H s) : H s.heap.objs.size = none := I.hok.fresh (Nat.le_refl _)
theorem Inv.lstM (I : Inv X pins σ H s) (hH : H l = some (.lst xs)) : xs.length ≤ sizeLine ∧ ∃ (its : List Value) (n : Nat), Vals xs its ∧ xs.length = its.length ∧ s.heap.get? l = some { cls := .type "list", data := .seq its.toArray n } := by
  obtain ⟨z, its, n, r, e⟩ := I.hok l _ hH
  exact ⟨z, its, n, r, r.length, e⟩

theorem notLongL {n : Nat} (h : n ≤ sizeLine) : Builtin.List.listTooLong n = false := by
  unfold Builtin.List.listTooLong
  exact decide_eq_false (by omega)
end

section
variable {X : Cx}

/-! ### methods -/
def rAppend : V → List V → Hp → VK → Prop := fun x vs H Q => ∃ l xs y, x = .ref l ∧ vs = [y] ∧ H l = some (.lst xs) ∧ xs.length < sizeLine ∧ Q .non (upd H l (.lst (xs ++ [y])))
theorem mt_append : MtM X "list.append" rAppend := by
  intro pins s σ H x vs v us Q I rx rv h
  obtain ⟨l, xs, y, rfl, rfl, hH, hz, q⟩ := h
  cases rx
  obtain ⟨u, rfl, ru⟩ := rv.one
  obtain ⟨z, its, n, r, hl, e⟩ := I.lstM hH
  refine call_meets F.slot_list_append ⟨_, e, rfl⟩ F.entry_list_append (F.args_list_append_2 _ _) (PySem.list_append l its.toArray n u (by rw [List.size_toArray]; omega)) ⟨e, ?_⟩
  refine ⟨.non, _, I.lset (its' := its ++ [u]) hH e (by simp) (r.append (.cons ru .nil)) ?_, rfl, q⟩
  rw [List.length_append, List.length_singleton]
  omega

def rExtend : V → List V → Hp → VK → Prop := fun x vs H Q => ∃ l b xs zs, x = .ref l ∧ vs = [.ref b] ∧ H l = some (.lst xs) ∧ H b = some (.lst zs) ∧ xs.length + zs.length ≤ sizeLine ∧ Q .non (upd H l (.lst (xs ++ zs)))
theorem mt_extend : MtM X "list.extend" rExtend := by
  intro pins s σ H x vs v us Q I rx rv h
  obtain ⟨l, b, xs, zs, rfl, rfl, hH, hB, hz, q⟩ := h
  cases rx
  obtain ⟨u, rfl, ru⟩ := rv.one
  cases ru
  obtain ⟨z, its, n, r, hl, e⟩ := I.lstM hH
  obtain ⟨z2, its2, n2, r2, hl2, e2⟩ := I.lstM hB
  have hsz : its.toArray.size + its2.toArray.size ≤ sizeLine := by rw [List.size_toArray, List.size_toArray]; omega
  have hlong : ¬ (!its.toArray.isEmpty && Builtin.List.listTooLong (its.toArray.size + its2.toArray.size)) = true := by
    rw [notLongL hsz, Bool.and_false]
    exact Bool.false_ne_true
  refine call_meets F.slot_list_extend ⟨_, e, rfl⟩ F.entry_list_extend (F.args_list_extend_2 _ _)
    (AutoSeq1.list_extend_list_list_0 l its.toArray n b its2.toArray n2 hlong (by rw [List.size_toArray]; omega) (by omega)) ⟨e, e2, ?_⟩
  refine ⟨.non, _, I.lset (its' := its ++ its2) hH e (by simp) (r.append r2) ?_, rfl, q⟩
  rw [List.length_append]
  omega

def rPopAt : V → List V → Hp → VK → Prop := fun x vs H Q => ∃ l xs i k y, x = .ref l ∧ vs = [.int i] ∧ H l = some (.lst xs) ∧ -(2 ^ 63) ≤ i ∧ i < 2 ^ 63 ∧ seqIndex? i xs.length = some k ∧ xs[k]? = some y ∧ Q y (upd H l (.lst (xs.eraseIdx k)))
theorem mt_popAt : MtM X "list.pop" rPopAt := by
  intro pins s σ H x vs v us Q I rx rv h
  obtain ⟨l, xs, i, k, y, rfl, rfl, hH, h1, h2, hk, hy, q⟩ := h
  cases rx
  obtain ⟨u, rfl, ru⟩ := rv.one
  obtain ⟨t, rfl⟩ := ru
  obtain ⟨z, its, n, r, hl, e⟩ := I.lstM hH
  obtain ⟨w, hw, rw'⟩ := r.get hy
  refine call_meets F.slot_list_pop ⟨_, e, rfl⟩ F.entry_list_pop (F.args_list_pop_2 _ _)
    (MeetsSeq.list_pop_at l its.toArray n i t k w (fitsIndex_both h1 h2) (by rw [List.size_toArray, ← hl]; exact hk) (by rw [← Array.getElem?_toList]; exact hw) (by rw [List.size_toArray]; omega)) ⟨e, ?_⟩
  refine ⟨y, _, I.lset (its' := its.eraseIdx k) hH e ?_ (r.eraseIdx k) ?_, rw', q⟩
  · show its.toArray.eraseIdxIfInBounds k = (its.eraseIdx k).toArray
    rw [List.eraseIdxIfInBounds_toArray]
  · have := len_erase xs k
    omega

/-! ### list + list, list += list, list * int -/
def rCat : R2 := fun x y H Q => ∃ l b xs zs, x = .ref l ∧ y = .ref b ∧ H l = some (.lst xs) ∧ H b = some (.lst zs) ∧ xs.length + zs.length ≤ sizeLine ∧ ∀ p, H p = none → Q (.ref p) (upd H p (.lst (xs ++ zs)))
theorem op_cat : OpR X (binaryOp .Add) rCat := by
  intro pins s σ H x y v u Q I rx ry h
  obtain ⟨l, b, xs, zs, rfl, rfl, hH, hB, hz, q⟩ := h
  cases rx
  cases ry
  obtain ⟨z, its, n, r, hl, e⟩ := I.lstM hH
  obtain ⟨z2, its2, n2, r2, hl2, e2⟩ := I.lstM hB
  refine PySem.P.add_list e e2 ?_ (by rw [List.size_toArray, List.size_toArray]; omega)
  have ea : its.toArray ++ its2.toArray = (its ++ its2).toArray := by simp
  rw [ea]
  exact ⟨.ref _, _, I.lnew (t' := s.toks) (r.append r2) (by rw [List.length_append]; omega), rfl, q _ I.fresh⟩
/-- a list times an int (a negative one is nothing) -/
def rRep : R2 := fun x y H Q => ∃ l k xs, x = .ref l ∧ y = .int k ∧ H l = some (.lst xs) ∧ -(2 ^ 63) ≤ k ∧ k < 2 ^ 63 ∧ xs.length * k.toNat ≤ sizeLine ∧
  ∀ p, H p = none → Q (.ref p) (upd H p (.lst (List.replicate k.toNat xs).flatten))
theorem len_rep {α : Type} (xs : List α) (k : Nat) : (List.replicate k xs).flatten.length = k * xs.length := by
  induction k with
  | zero => simp
  | succ k ih => rw [List.replicate_succ, List.flatten_cons, List.length_append, ih, Nat.succ_mul, Nat.add_comm]
theorem op_rep : OpR X (binaryOp .Mult) rRep := by
  intro pins s σ H x y v u Q I rx ry h
  obtain ⟨l, k, xs, rfl, rfl, hH, h1, h2, hz, q⟩ := h
  cases rx
  obtain ⟨t, rfl⟩ := ry
  obtain ⟨z, its, n, r, hl, e⟩ := I.lstM hH
  have hlen : its.toArray.size * k.toNat ≤ sizeLine := by rw [List.size_toArray, ← hl]; exact hz
  have hcap : ¬ its.toArray.size * k.toNat > (2 ^ 63 - 1) / 8 := by
    have : (sizeLine : Nat) ≤ (2 ^ 63 - 1) / 8 := by decide
    omega
  have hfit : ¬ (!Builtin.List.listFitsIndex k) = true := by
    rw [fitsIndex_both h1 h2]
    exact Bool.false_ne_true
  have hlong : ¬ Builtin.List.listTooLong (its.toArray.size * k.toNat) = true := by
    rw [notLongL hlen]
    exact Bool.false_ne_true
  have hnew : List.foldl (fun x1 x2 => x1 ++ x2) #[] (List.replicate (if its.toArray.isEmpty = true then 0 else k.toNat) its.toArray) = (List.replicate k.toNat its).flatten.toArray := by
    have f0 : ∀ m : Nat, List.foldl (fun x1 x2 => x1 ++ x2) #[] (List.replicate m its.toArray) = (List.replicate m its).flatten.toArray := fun m => by
      have := foldl_rep its m []
      rw [List.nil_append] at this
      exact this
    rw [f0]
    cases its with
    | nil => simp
    | cons a r' => rw [if_neg (by simp)]
  refine wpAny_binaryOp_repeat_ref (T := "list") (U := "int") (by decide) ⟨_, e, rfl⟩ (fun s' => typeIs_int s' k t) noFill_list_mul F.fills_int_mul F.slot_int_rmul repeat_list F.slot_int_index.lookup
    (call_meets F.slot_int_rmul (typeIs_int s k t) F.entry_int_rmul (F.args_int_rmul_2 _ _) (int___rmul___int_list k t l its.toArray n)
      ⟨e, rfl, ⟨_, e, rfl⟩, call_meets F.slot_list_mul ⟨_, e, rfl⟩ F.entry_list_mul (F.args_list_mul_2 _ _) (AutoListH.list___mul___list_int_3 l its.toArray n k t hfit hcap hlong) ⟨e, ?_⟩⟩)
  rw [hnew]
  exact ⟨.ref _, _, I.lnew (t' := s.toks) (r.rep k.toNat) (by rw [len_rep, Nat.mul_comm]; exact hz), rfl, q _ I.fresh⟩

/-! ### del xs[i] -/
end

/-! ### xs[a:b] = ys -/
section
variable {prog : Program} {w : World} {A : Around} {E : Value → Shared → Prop} {s : Shared}
set_option maxRecDepth 100000 in
end

section
variable {X : Cx}
end
end L2

namespace L2
open PySem PySem.Spec PyProof.Rows

/-! ### lists of pairs as tables -/
section
variable {κ : Type} [DecidableEq κ]
def valV (kvs : List (κ × V)) (k : κ) : Option V := (kvs.find? fun kv => decide (kv.1 = k)).map (·.2)
/-- in its place, or at the end -/
def putK (kvs : List (κ × V)) (k : κ) (v : V) : List (κ × V) :=
  if (kvs.any fun kv => decide (kv.1 = k)) = true then kvs.map (fun kv => if kv.1 = k then (kv.1, v) else kv) else kvs ++ [(k, v)]
def dropK (kvs : List (κ × V)) (k : κ) : List (κ × V) := kvs.filter fun kv => decide (kv.1 ≠ k)

theorem valV_pos {p : κ × V} {r : List (κ × V)} {k : κ} (e : p.1 = k) : valV (p :: r) k = some p.2 := by simp [valV, List.find?_cons, e]
theorem valV_neg {p : κ × V} {r : List (κ × V)} {k : κ} (e : ¬ p.1 = k) : valV (p :: r) k = valV r k := by simp [valV, List.find?_cons, e]
theorem valV_any (k : κ) : ∀ kvs : List (κ × V), (kvs.any fun kv => decide (kv.1 = k)) = (valV kvs k).isSome
  | [] => rfl
  | p :: r => by
    rw [List.any_cons]
    by_cases e : p.1 = k
    · simp only [valV_pos e, decide_eq_true e, Bool.true_or, Option.isSome_some]
    · rw [valV_neg e, decide_eq_false e, Bool.false_or]; exact valV_any k r
theorem length_putK (kvs : List (κ × V)) (k : κ) (v : V) : (putK kvs k v).length ≤ kvs.length + 1 := by
  unfold putK
  split
  · rw [List.length_map]; omega
  · rw [List.length_append, List.length_cons, List.length_nil]; omega
theorem putK_new {kvs : List (κ × V)} {k : κ} (v : V) (h : valV kvs k = none) : putK kvs k v = kvs ++ [(k, v)] := by
  unfold putK
  rw [valV_any, h]
  exact if_neg (by decide)

theorem RelO.isSome_eq {o : Option V} {u : Option Value} (r : RelO o u) : o.isSome = u.isSome := by
  cases o with
  | none => cases u with
    | none => rfl
    | some _ => exact (show False from r).elim
  | some _ => cases u with
    | none => exact (show False from r).elim
    | some _ => rfl
/-- raw tables of the same keys -/
theorem KV.val {kvs : List (κ × V)} {vs : List (κ × Value)} (r : KV kvs vs) (k : κ) : RelO (valV kvs k) (valueAt vs k) := by
  unfold KV at r
  induction r with
  | nil => exact True.intro
  | @cons p q ps qs h t ih =>
    obtain ⟨h1, h2⟩ := h
    by_cases e : p.1 = k
    · have e' : q.1 = k := h1.symm.trans e
      have b : valueAt (q :: qs) k = some q.2 := by simp [valueAt, List.find?_cons, e']
      rw [valV_pos e, b]; exact h2
    · have e' : ¬ q.1 = k := fun z => e (h1.trans z)
      have b : valueAt (q :: qs) k = valueAt qs k := by simp [valueAt, List.find?_cons, e']
      rw [valV_neg e, b]; exact ih
theorem KV.any {kvs : List (κ × V)} {vs : List (κ × Value)} (r : KV kvs vs) (k : κ) : (kvs.any fun kv => decide (kv.1 = k)) = vs.any fun kv => decide (kv.1 = k) := by
  unfold KV at r
  induction r with
  | nil => rfl
  | cons h t ih => rw [List.any_cons, List.any_cons, ih, h.1]
theorem KV.repl {kvs : List (κ × V)} {vs : List (κ × Value)} (r : KV kvs vs) (k : κ) {y : V} {u : Value} (ry : RelV y u) :
    KV (kvs.map fun kv => if kv.1 = k then (kv.1, y) else kv) (vs.map fun kv => if kv.1 = k then (kv.1, u) else kv) := by
  unfold KV at r ⊢
  induction r with
  | nil => exact .nil
  | @cons p q ps qs h t ih =>
    rw [List.map_cons, List.map_cons]
    refine .cons ?_ ih
    obtain ⟨h1, h2⟩ := h
    by_cases e : p.1 = k
    · rw [if_pos e, if_pos (h1.symm.trans e)]; exact ⟨h1, ry⟩
    · rw [if_neg e, if_neg (fun z => e (h1.trans z))]; exact ⟨h1, h2⟩
theorem KV.put {kvs : List (κ × V)} {vs : List (κ × Value)} (r : KV kvs vs) (k : κ) {y : V} {u : Value} (ry : RelV y u) : KV (putK kvs k y) (stored vs k u) := by
  unfold putK stored
  rw [r.any k]
  by_cases e : (vs.any fun kv => decide (kv.1 = k)) = true
  · rw [if_pos e, if_pos e]; exact r.repl k ry
  · rw [if_neg e, if_neg e]; exact Paired.snoc r ⟨rfl, ry⟩
theorem KV.drop {kvs : List (κ × V)} {vs : List (κ × Value)} (r : KV kvs vs) (k : κ) : KV (dropK kvs k) (without vs k) := by
  unfold KV at r ⊢
  unfold dropK without
  induction r with
  | nil => exact .nil
  | @cons p q ps qs h t ih =>
    obtain ⟨h1, h2⟩ := h
    rw [List.filter_cons, List.filter_cons]
    by_cases e : p.1 = k
    · have a : ¬ decide (p.1 ≠ k) = true := by simp [e]
      have b : ¬ decide (q.1 ≠ k) = true := by simp [h1.symm.trans e]
      rw [if_neg a, if_neg b]; exact ih
    · have e' : ¬ q.1 = k := fun z => e (h1.trans z)
      have a : decide (p.1 ≠ k) = true := by simp [e]
      have b : decide (q.1 ≠ k) = true := by simp [e']
      rw [if_pos a, if_pos b]; exact .cons ⟨h1, h2⟩ ih
theorem KV.length {kvs : List (κ × V)} {vs : List (κ × Value)} (r : KV kvs vs) : kvs.length = vs.length := Paired.length r
theorem dropK_le (kvs : List (κ × V)) (k : κ) : (dropK kvs k).length ≤ kvs.length := List.length_filter_le _ _
end

/-! ### a tracked dict, its keys ints and texts or tuples of these -/
theorem kV_is {P : Program} {w : World} {k : Key} {u : Value} (r : RelV (kV k) u) : (mixKind P w).is k u = true := by
  cases k with
  | inl i => obtain ⟨t, e⟩ := (show ∃ t, u = Value.int i t from r); subst e; exact mixKind_int P w i t
  | inr x => obtain ⟨t, e⟩ := (show ∃ t, u = Value.str x t from r); subst e; exact mixKind_str P w x t
theorem items_are {P : Program} {w : World} : ∀ {ks : List Key} {us : List Value}, Vals (ks.map kV) us → ItemsAre (mixKind P w) ks us
  | [], _, r => by rw [List.map_nil] at r; cases r; exact .nil
  | k :: ks, _, r => by
    rw [List.map_cons] at r
    cases r with
    | cons h t => exact .cons (kV_is h) (items_are t)

/-- raw entries of a dict with tuple keys -/
abbrev KT (H : Hp) : List (List Key × V) → List (List Key × Addr × Value) → Prop := Paired fun p q => p.1 = q.1 ∧ H q.2.1 = some (.tup (p.1.map kV)) ∧ RelV p.2 q.2.2
theorem KT.val {H : Hp} {kvs : List (List Key × V)} {xs : List (List Key × Addr × Value)} (r : KT H kvs xs) (k : List Key) : RelO (valV kvs k) ((atKey xs k).map (·.2)) := by
  induction r with
  | nil => exact True.intro
  | @cons p q ps qs h t ih =>
    obtain ⟨h1, _, h2⟩ := h
    by_cases e : p.1 = k
    · have e' : q.1 = k := h1.symm.trans e
      have b : atKey (q :: qs) k = some q.2 := by simp [atKey, List.find?_cons, e']
      rw [valV_pos e, b]; exact h2
    · have e' : ¬ q.1 = k := fun z => e (h1.trans z)
      have b : atKey (q :: qs) k = atKey qs k := by simp [atKey, List.find?_cons, e']
      rw [valV_neg e, b]; exact ih
theorem KT.repl {H : Hp} {kvs : List (List Key × V)} {xs : List (List Key × Addr × Value)} (r : KT H kvs xs) (k : List Key) {y : V} {u : Value} (ry : RelV y u) :
    KT H (kvs.map fun kv => if kv.1 = k then (kv.1, y) else kv) (xs.map (putAt k u)) := by
  induction r with
  | nil => exact .nil
  | @cons p q ps qs h t ih =>
    rw [List.map_cons, List.map_cons]
    refine .cons ?_ ih
    obtain ⟨h1, h2, h3⟩ := h
    unfold putAt
    by_cases e : p.1 = k
    · rw [if_pos e, if_pos (h1.symm.trans e)]; exact ⟨h1, h2, ry⟩
    · rw [if_neg e, if_neg (fun z => e (h1.trans z))]; exact ⟨h1, h2, h3⟩
theorem KT.put {H : Hp} {kvs : List (List Key × V)} {xs : List (List Key × Addr × Value)} (r : KT H kvs xs) (k : List Key) {b : Addr} {y : V} {u : Value} (hb : H b = some (.tup (k.map kV))) (ry : RelV y u) :
    KT H (putK kvs k y) (storedH xs k b u) := by
  have e : (kvs.any fun kv => decide (kv.1 = k)) = (atKey xs k).isSome := by
    rw [valV_any, (r.val k).isSome_eq, Option.isSome_map]
  unfold putK storedH
  rw [e]
  by_cases q : (atKey xs k).isSome = true
  · rw [if_pos q, if_pos q]; exact r.repl k ry
  · rw [if_neg q, if_neg q]; exact Paired.snoc r ⟨rfl, hb, ry⟩
theorem KT.keeps {H H' : Hp} {kvs : List (List Key × V)} {xs : List (List Key × Addr × Value)} (r : KT H kvs xs) (ht : ∀ b ys, H b = some (.tup ys) → H' b = some (.tup ys)) : KT H' kvs xs :=
  Paired.mapP r fun _ _ z => ⟨z.1, ht _ _ z.2.1, z.2.2⟩

section
variable {P : Program} {w : World} {H : Hp} {h : Heap} {a : Addr}
theorem rd_of {u : HO} (ok : HOk P w H h) (e : Rd H a u) : ObjOk P w H h a u := e.ok ok
theorem dk_rd {kvs : List (Key × V)} (ok : HOk P w H h) (e : Rd H a (.dK kvs)) : kvs.length ≤ sizeLine ∧ (a == sysModules) = false ∧ ∃ vs, KV kvs vs ∧ h.DictOf (mixKind P w) a vs :=
  show ObjOk P w H h a (.dK kvs) from rd_of ok e
theorem dk_of {kvs : List (Key × V)} (ok : HOk P w H h) (e : H a = some (.dK kvs)) : kvs.length ≤ sizeLine ∧ (a == sysModules) = false ∧ ∃ vs, KV kvs vs ∧ h.DictOf (mixKind P w) a vs := dk_rd ok (.inl e)
/-- a tracked tuple of ints and texts is a key -/
theorem key_of {ks : List Key} (ok : HOk P w H h) (e : H a = some (.tup (ks.map kV))) : (tupleKind (mixKind P w)).is h ks a := by
  obtain ⟨_, its, r, o, h1, h2, n, h3⟩ := (show ObjOk P w H h a (.tup (ks.map kV)) from ok a _ e)
  exact ⟨o, its.toArray, n, h1, h2, h3, by simpa using items_are r⟩
theorem dt_rd {kvs : List (List Key × V)} (ok : HOk P w H h) (e : Rd H a (.dT kvs)) : kvs.length ≤ sizeLine ∧ (a == sysModules) = false ∧
    ∃ xs, KT H kvs xs ∧ h.DictOfH (tupleKind (mixKind P w)) a xs := by
  obtain ⟨z, y, xs, r, o, es, ep, h1, h2, h3, h4, h5⟩ := (show ObjOk P w H h a (.dT kvs) from rd_of ok e)
  refine ⟨z, y, xs, r, o, es, ep, h1, h2, h3, h4, fun x hx => ?_, h5⟩
  have all : ∀ {l : List (List Key × V)} {m : List (List Key × Addr × Value)}, KT H l m → ∀ x ∈ m, (tupleKind (mixKind P w)).is h x.1 x.2.1 := by
    intro l m q
    induction q with
    | nil => intro x hx; exact nomatch hx
    | @cons p q ps qs hq t ih =>
      intro x hx
      rcases List.mem_cons.mp hx with e | hx
      · subst e
        exact key_of ok (by rw [← hq.1]; exact hq.2.1)
      · exact ih x hx
  exact all r x hx
theorem dt_of {kvs : List (List Key × V)} (ok : HOk P w H h) (e : H a = some (.dT kvs)) : kvs.length ≤ sizeLine ∧ (a == sysModules) = false ∧
    ∃ xs, KT H kvs xs ∧ h.DictOfH (tupleKind (mixKind P w)) a xs := dt_rd ok (.inl e)
end

/-- what the dict at a holds at the key y -/
def DGet (H : Hp) (a : Addr) (y : V) (r : Option V) : Prop :=
  (∃ kvs k, Rd H a (.dK kvs) ∧ y = kV k ∧ r = valV kvs k) ∨ ∃ kvs k b, Rd H a (.dT kvs) ∧ y = .ref b ∧ H b = some (.tup (k.map kV)) ∧ r = valV kvs k
/-- the heap behind a[y] = v -/
def DPut (H : Hp) (a : Addr) (y v : V) (H' : Hp) : Prop :=
  (∃ kvs k, H a = some (.dK kvs) ∧ y = kV k ∧ kvs.length < sizeLine ∧ H' = upd H a (.dK (putK kvs k v))) ∨
  ∃ kvs k b, H a = some (.dT kvs) ∧ y = .ref b ∧ H b = some (.tup (k.map kV)) ∧ kvs.length < sizeLine ∧ H' = upd H a (.dT (putK kvs k v))
theorem DGet.k {H : Hp} {a : Addr} {kvs : List (Key × V)} {k : Key} (e : H a = some (.dK kvs)) : DGet H a (kV k) (valV kvs k) := .inl ⟨kvs, k, .inl e, rfl, rfl⟩
theorem DPut.k {H : Hp} {a : Addr} {kvs : List (Key × V)} {k : Key} {v : V} (e : H a = some (.dK kvs)) (hl : kvs.length < sizeLine) : DPut H a (kV k) v (upd H a (.dK (putK kvs k v))) := .inl ⟨kvs, k, e, rfl, hl, rfl⟩
section
variable {X : Cx} {pins : List (Addr × Obj)} {σ : St} {H : Hp} {s : Shared} {a : Addr} {y v : V} {u r : Value} {o : Option V} {A : Around} {E : Value → Shared → Prop}

theorem Inv.big (I : Inv X pins σ H s) : sysModules < s.heap.objs.size := by
  have h : mainGlobals < s.heap.objs.size := (I.mod.glob.keeps I.bk).lt
  exact Nat.lt_trans (by decide) h

/-- d[y], there -/
theorem d_getItem {Q : Value → Shared → Prop} (hu : A.units + 1 < cLine) (I : Inv X pins σ H s) (g : DGet H a y (some v)) (ry : RelV y u) (h : ∀ w' s', Inv X pins σ H s' → RelV v w' → Q w' s') :
    wpAny (model X.prog X.w) A (getItem (.ref a) u) Q E s := by
  rcases g with ⟨kvs, k, e, ey, l⟩ | ⟨kvs, k, b, e, ey, eb, l⟩
  · subst ey
    obtain ⟨z, hd, vs, rel, dd⟩ := dk_rd I.hok e
    obtain ⟨w', hw, rw'⟩ := RelO.some_of (v := v) (o := valueAt vs k) (by rw [l]; exact rel.val k)
    exact wpAny_getItem_of (kV_is ry) dd.mapOf hw (h w' _ (I.tok _) rw')
  · subst ey
    cases (show u = Value.ref b from ry)
    obtain ⟨z, hd, xs, rel, dd⟩ := dt_rd I.hok e
    obtain ⟨w', hw, rw'⟩ := RelO.some_of (v := v) (o := (atKey xs k).map (·.2)) (by rw [l]; exact rel.val k)
    obtain ⟨p, hp, hp2⟩ := Option.map_eq_some_iff.mp hw
    refine wpAny_getItem_heap (tupleKind_room_in1 hu) (key_of I.hok eb) dd hp ?_
    rw [hp2]
    exact h w' _ (I.tok _) rw'
theorem d_notIn {Q : Value → Shared → Prop} (hu : A.units + 1 < cLine) (I : Inv X pins σ H s) (g : DGet H a y o) (ry : RelV y u) (h : ∀ s', Inv X pins σ H s' → Q (.bool (!o.isSome)) s') :
    wpAny (model X.prog X.w) A (compareOp .NotIn u (.ref a)) Q E s := by
  rcases g with ⟨kvs, k, e, ey, l⟩ | ⟨kvs, k, b, e, ey, eb, l⟩
  · subst ey
    obtain ⟨z, hd, vs, rel, dd⟩ := dk_rd I.hok e
    refine wpAny_notIn_of (kV_is ry) hd dd.mapOf ?_
    rw [← (rel.val k).isSome_eq, ← l]
    exact h _ (I.tok _)
  · subst ey
    cases (show u = Value.ref b from ry)
    obtain ⟨z, hd, xs, rel, dd⟩ := dt_rd I.hok e
    refine wpAny_notIn_heap (tupleKind_room_in1 hu) (key_of I.hok eb) hd dd ?_
    have q := (rel.val k).isSome_eq
    rw [Option.isSome_map] at q
    rw [← q, ← l]
    exact h _ (I.tok _)
/-- a dict's object is replaced -/
theorem d_write {h' : Heap} {t' : Nat} {ob : HO} (I : Inv X pins σ H s) (mu : Mut (H a)) (hs : Heap.SameBut a s.heap h') (he : ∃ q, h'.get? a = some q) (new : ObjOk X.prog X.w (upd H a ob) h' a ob) :
    Inv X pins σ (upd H a ob) { s with heap := h', toks := t' } :=
  I.write (x := a) (e := a) mu (.inl rfl) (fun b q hb z => (hs.2 b hb).trans z) he new
theorem dk_new {P : Program} {w : World} {H' : Hp} {h' : Heap} {kvs : List (Key × V)} {vs : List (Key × Value)} (z : kvs.length ≤ sizeLine) (hd : (a == sysModules) = false) (rel : KV kvs vs) (dd : h'.DictOf (mixKind P w) a vs) :
    ObjOk P w H' h' a (.dK kvs) := ⟨z, hd, vs, rel, dd⟩
/-- d[y] = v -/
theorem d_setItem {H' : Hp} {Q : Unit → Shared → Prop} (hu : A.units + 1 < cLine) (I : Inv X pins σ H s) (g : DPut H a y v H') (ry : RelV y u) (rv : RelV v r) (h : ∀ s', Inv X pins σ H' s' → Q () s') :
    wpAny (model X.prog X.w) A (setItem (.ref a) u r) Q E s := by
  rcases g with ⟨kvs, k, e, ey, l, eH⟩ | ⟨kvs, k, b, e, ey, eb, l, eH⟩
  · subst ey eH
    obtain ⟨z, hd, vs, rel, dd⟩ := dk_of I.hok e
    have hz : vs.length ≤ sizeLine := by rw [← rel.length]; exact z
    have hl : (putK kvs k v).length ≤ sizeLine := by have := length_putK kvs k v; omega
    refine wpAny_setItem_pairs (hsz := hz) (kV_is ry) dd fun h' dd' hs => h _ ?_
    have he : ∃ q, h'.get? a = some q := let ⟨q, _, _, hq, _⟩ := dd'; ⟨q, hq⟩
    exact d_write I (by rw [e]; exact True.intro) hs he (dk_new hl hd (rel.put k rv) dd')
  · subst ey eH
    cases (show u = Value.ref b from ry)
    obtain ⟨z, hd, xs, rel, dd⟩ := dt_of I.hok e
    have hz : xs.length ≤ sizeLine := by rw [← Paired.length rel]; exact z
    have hl : (putK kvs k v).length ≤ sizeLine := by have := length_putK kvs k v; omega
    refine wpAny_setItem_heap (hsz := hz) (tupleKind_room_in1 hu) (key_of I.hok eb) dd fun h' dd' hs => h _ ?_
    obtain ⟨q, es, ep, hq, h2, h3, h4, _, h5⟩ := dd'
    refine d_write I (by rw [e]; exact True.intro) hs ⟨q, hq⟩ ⟨hl, hd, _, (rel.put k eb rv).keeps fun c ys ec => ?_, q, es, ep, hq, h2, h3, h4, h5⟩
    rw [upd_ne (ne_of ec e (fun z => nomatch z))]
    exact ec
end

section
variable {X : Cx} {pins : List (Addr × Obj)} {σ : St} {H : Hp} {s : Shared} {a : Addr} {kvs : List (Key × V)} {k : Key} {u : Value} {A : Around} {E : Value → Shared → Prop}
/-- del d[k] -/
theorem d_delItem {Q : Unit → Shared → Prop} (I : Inv X pins σ H s) (e : H a = some (.dK kvs)) (ry : RelV (kV k) u) (l : (valV kvs k).isSome = true) (h : ∀ s', Inv X pins σ (upd H a (.dK (dropK kvs k))) s' → Q () s') :
    wpAny (model X.prog X.w) A (delItem (.ref a) u) Q E s := by
  obtain ⟨z, hd, vs, rel, dd⟩ := dk_of I.hok e
  refine wpAny_delItem_slot dd.typeIs (by decide) PySem.F.slot_dict_delitem
    (call_meetsIn PySem.F.slot_dict_delitem dd.typeIs PySem.F.entry_dict_delitem (PySem.F.args_dict_delitem_2 _ _) (meets_dict_delitem_pairs (mixKind X.prog X.w) a (kV_is ry)) ⟨vs, dd, by rw [← rel.length]; exact z, by rw [← (rel.val k).isSome_eq]; exact l, fun h' dd' hs => h _ ?_⟩)
  have he : ∃ q, h'.get? a = some q := let ⟨q, _, _, hq, _⟩ := dd'; ⟨q, hq⟩
  exact d_write I (by rw [e]; exact True.intro) hs he (dk_new (Nat.le_trans (dropK_le kvs k) z) hd (rel.drop k) dd')
/-- d.pop(k[, x]), there -/
theorem d_pop {v : V} {more : List Value} {Q : Value → Shared → Prop} (I : Inv X pins σ H s) (e : H a = some (.dK kvs)) (ry : RelV (kV k) u) (l : valV kvs k = some v) (hm : more = [] ∨ ∃ x, more = [x])
    (h : ∀ w' s', Inv X pins σ (upd H a (.dK (dropK kvs k))) s' → RelV v w' → Q w' s') : wpAny (model X.prog X.w) A (call (.builtin "dict.pop") (.ref a :: u :: more)) Q E s := by
  obtain ⟨z, hd, vs, rel, dd⟩ := dk_of I.hok e
  obtain ⟨w', hw, rw'⟩ := RelO.some_of (v := v) (o := valueAt vs k) (by rw [← l]; exact rel.val k)
  have hp : (keyPart u).isSome = true := by
    cases k with
    | inl i => obtain ⟨t, q⟩ := (show ∃ t, u = Value.int i t from ry); subst q; rfl
    | inr x => obtain ⟨t, q⟩ := (show ∃ t, u = Value.str x t from ry); subst q; rfl
  have ha : argsOk "dict.pop" ⟨.ref a :: u :: more, []⟩ := by
    rcases hm with q | ⟨x, q⟩
    · subst q; exact PySem.F.args_dict_pop_2 _ _
    · subst q; exact PySem.F.args_dict_pop_3 _ _ _
  refine call_meetsIn PySem.F.slot_dict_pop dd.typeIs PySem.F.entry_dict_pop ha (meets_dict_pop_there (mixKind X.prog X.w) a (kV_is ry) more hm hp)
    ⟨vs, w', dd, by rw [← rel.length]; exact z, hw, fun h' dd' hs => h w' _ ?_ rw'⟩
  have he : ∃ q, h'.get? a = some q := let ⟨q, _, _, hq, _⟩ := dd'; ⟨q, hq⟩
  exact d_write I (by rw [e]; exact True.intro) hs he (dk_new (Nat.le_trans (dropK_le kvs k) z) hd (rel.drop k) dd')
/-- len(d) -/
theorem d_len {Q : Value → Shared → Prop} (I : Inv X pins σ H s) (e : Rd H a (.dK kvs)) (h : ∀ t s', Inv X pins σ H s' → Q (.int kvs.length t) s') : wpAny (model X.prog X.w) A (call (.builtin "len") [.ref a]) Q E s := by
  obtain ⟨z, hd, vs, rel, dd⟩ := dk_rd I.hok e
  refine call_len_dict hd dd (by rw [← rel.length]; rw [sizeLine_eq] at z; omega) ?_
  rw [← rel.length]
  exact h _ _ (I.tok _)
end

/-! ### readings and rules -/
/-- the element of a subscription, not a slice -/
def NoSl (i : Expr) : Prop := ∀ ov iv, subscripted i false ov iv = operate [ov, iv] (getItem ov iv)
theorem subD_of {prog : Program} {w : World} {A : Around} {E : Value → Shared → Prop} {s : Shared} {env : Env} {value slice : Expr} {pos : Pos} {T id : String} {Q : Value → Shared → Prop}
    (hl : typeLookup (.type T) "__getitem__" = pure (some (.builtin id))) (hs : NoSl slice)
    (h : wpAny (model prog w) A (eval value env) (fun o s₁ => wpAny (model prog w) A (eval slice env) (fun i s₂ => s₂.TypeIs o T ∧ wpAny (model prog w) A (getItem o i) Q E s₂) E s₁) E s) :
    wpAny (model prog w) A (eval (.Subscript value slice pos) env) Q E s := by
  refine Subscript_ (wpAny_mono h (fun o s₁ h₁ => wpAny_mono h₁ (fun i s₂ h₂ => ?_) fun _ _ x => x) fun _ _ x => x)
  obtain ⟨hT, h₂⟩ := h₂
  unfold subscriptTail
  refine wpAny_bind ?_
  rw [getitemInPython_of_ne hT.not_modules]
  refine wpAny_bind (wpAny_specialOf hT hl ?_)
  have fin : wpAny (model prog w) A (subscripted slice false o i) (fun r s₃ => wpAny (model prog w) A (letTemporaryGo value o r >>= fun _ => pure r) Q E s₃) E s₂ := by
    rw [hs o i]
    exact wpAny_operating (wpAny_mono h₂ (fun r s₃ h₃ => wpAny_bind (wpAny_letTemporaryGo (wpAny_pure h₃))) fun _ _ x => x)
  first
    | exact wpAny_pure (wpAny_bind fin)
    | exact wpAny_bind (wpAny_pure (wpAny_bind fin))
    | exact wpAny_bind fin

theorem dict_typeIs {X : Cx} {pins : List (Addr × Obj)} {σ : St} {H : Hp} {s : Shared} {a : Addr} {y : V} {o : Option V} (I : Inv X pins σ H s) (g : DGet H a y o) : s.TypeIs (.ref a) "dict" := by
  rcases g with ⟨kvs, k, e, _, _⟩ | ⟨kvs, k, b, e, _, _, _⟩
  · obtain ⟨_, _, vs, _, dd⟩ := dk_rd I.hok e
    exact dd.typeIs
  · obtain ⟨_, _, xs, _, dd⟩ := dt_rd I.hok e
    exact dd.typeIs
/-- d[y] -/
def tDGet (td ty : TE) : TE := fun σ H Q => td σ H fun x H1 => ty σ H1 fun y H2 => ∃ a v, x = .ref a ∧ DGet H2 a y (some v) ∧ Q v H2
def tDNotIn (ty td : TE) : TE := fun σ H Q => ty σ H fun y H1 => td σ H1 fun x H2 => ∃ a o, x = .ref a ∧ DGet H2 a y o ∧ Q (.bl (!o.isSome)) H2
/-- d[y] = v -/
def sDPut (td ty tv : TE) : TS := fun D σ H => tv σ H fun v H1 => td σ H1 fun x H2 => ty σ H2 fun y H3 => ∃ a H4, x = .ref a ∧ DPut H3 a y v H4 ∧ D.nx σ H4
section
variable {X : Cx} {o i e value : Expr} {pos pos' tpos : Pos} {td ty tv : TE}
theorem pe_dget (hu : X.A.units + 1 < cLine) (ho : PE X o td) (hi : PE X i ty) (hs : NoSl i) : PE X (.Subscript o i pos) (tDGet td ty) := by
  intro pins s σ H Q I h
  refine subD_of PySem.F.slot_dict_getitem.lookup hs (thn (ho pins s σ H _ I h) fun u s1 ⟨x, H1, I1, rx, q1⟩ => thn (hi pins s1 σ H1 _ I1 q1) fun iv s2 ⟨y, H2, I2, ry, a, v, ex, g, q2⟩ => ?_)
  subst ex
  obtain rfl : u = Value.ref a := rx
  exact ⟨dict_typeIs I2 g, d_getItem hu I2 g ry fun w' s3 I3 rw' => ⟨v, H2, I3, rw', q2⟩⟩
theorem pc_dnotin (hu : X.A.units + 1 < cLine) (hi : PE X i ty) (ho : PE X o td) : PC X .NotIn i o (tDNotIn ty td) := by
  intro pins s σ H Q I h
  refine thn (hi pins s σ H _ I h) fun iv s1 ⟨y, H1, I1, ry, q1⟩ => thn (ho pins s1 σ H1 _ I1 q1) fun u s2 ⟨x, H2, I2, rx, a, ov, ex, g, q2⟩ => ?_
  subst ex
  obtain rfl : u = Value.ref a := rx
  exact d_notIn hu I2 g ry fun s3 I3 => ⟨.bl (!ov.isSome), H2, I3, rfl, q2⟩
theorem ps_dput (hu : X.A.units + 1 < cLine) (ho : PE X o td) (hi : PE X i ty) (hv : PE X value tv) (hs : swapsWith value (some (.Subscript o i pos')) pos.line X.env = pure false) :
    PS X (.Assign [.Subscript o i pos'] value pos) (sDPut td ty tv) := by
  intro pins s σ H D I h
  refine wpAny_Assign_Subscript (thn (hv pins s σ H _ I h) fun r s1 ⟨v, H1, I1, rv, q1⟩ => thn (ho pins s1 σ H1 _ I1 q1) fun u s2 ⟨x, H2, I2, rx, q2⟩ => thn (hi pins s2 σ H2 _ I2 q2) fun iv s3 ⟨y, H3, I3, ry, a, H4, ex, g, q3⟩ => ?_) hs
  subst ex
  obtain rfl : u = Value.ref a := rx
  exact d_setItem hu I3 g ry rv fun s4 I4 => ⟨σ, H4, I4, q3⟩
end

/-! ### displays -/
theorem dk_empty {P : Program} {w : World} {H : Hp} (h : Heap) (hb : sysModules < h.objs.size) : ObjOk P w H (h.push { cls := .type "dict", data := .dict #[] }) h.objs.size (.dK []) :=
  ⟨Nat.zero_le _, beq_eq_false_iff_ne.mpr (Ne.symm (Nat.ne_of_lt hb)), [], .nil, Heap.DictOf.new h⟩
/-- {}, to be a dict of the kind that is wanted -/
def tDNewK : TE := fun _ H Q => ∀ p, H p = none → Q (.ref p) (upd H p (.dK []))
section
variable {X : Cx} {pos : Pos}
theorem pe_dnewK : PE X (.Dict [] [] pos) tDNewK := fun pins s σ H Q I h =>
  wpAny_Dict_empty ⟨.ref s.heap.objs.size, _, I.laid (a := s.heap.objs.size) (o := .dK []) (t' := s.toks) (fun _ _ q => Heap.get?_push_of_some _ q) (Nat.le_refl _) (dk_empty s.heap I.big), rfl, h _ (I.hok.fresh (Nat.le_refl _))⟩
end

/-- the pairs of a display, from the left -/
def tPairs : List (TE × TE) → St → Hp → (List (V × V) → Hp → Prop) → Prop
  | [], _, H, Q => Q [] H
  | (tk, tv) :: r, σ, H, Q => tk σ H fun x H1 => tv σ H1 fun y H2 => tPairs r σ H2 fun ps H3 => Q ((x, y) :: ps) H3
abbrev VV : List (V × V) → List (Value × Value) → Prop := Paired fun p q => RelV p.1 q.1 ∧ RelV p.2 q.2
def PPs (X : Cx) (pos : Pos) (keys : List (Option Expr)) (values : List Expr) (trs : List (TE × TE)) : Prop :=
  ∀ (pins : List (Addr × Obj)) (s : Shared) (σ : St) (H : Hp) (Q : List (V × V) → Hp → Prop), Inv X pins σ H s → tPairs trs σ H Q →
    wpAny (model X.prog X.w) X.A (evalPairs (pairTrees keys values X.env pos)) (fun vs s' => ∃ ps H', Inv X pins σ H' s' ∧ VV ps vs ∧ Q ps H') X.xe s
/-! ### methods -/
/-- a method call o.m(e) of a built-in, with one argument: what must be seen of the text -/
structure M1 (X : Cx) (o : Expr) (m : Str) (apos : Pos) (e : Expr) (cpos : Pos) : Prop where
  base : attributeBase o m X.env (eval o X.env) = eval o X.env
  few : ((backTo cpos (starEach [e] X.env)).all (fun x => !x.1) && (backToKw cpos (keywordEach [] X.env)).all (fun x => x.1.isSome)
    && decide (([e] : List Expr).length + ([] : List Keyword).length + (if ([] : List Keyword).isEmpty then 0 else 1) < 30)) = true
  line : (apos.endLine == cpos.line) = true
  trees : backTo cpos (starEach [e] X.env) = [(false, eval e X.env)]
structure M2 (X : Cx) (o : Expr) (m : Str) (apos : Pos) (e f : Expr) (cpos : Pos) : Prop where
  base : attributeBase o m X.env (eval o X.env) = eval o X.env
  few : ((backTo cpos (starEach [e, f] X.env)).all (fun x => !x.1) && (backToKw cpos (keywordEach [] X.env)).all (fun x => x.1.isSome)
    && decide (([e, f] : List Expr).length + ([] : List Keyword).length + (if ([] : List Keyword).isEmpty then 0 else 1) < 30)) = true
  line : (apos.endLine == cpos.line) = true
  trees : backTo cpos (starEach [e, f] X.env) = [(false, eval e X.env), (false, eval f X.env)]

/-- a is a dict, whatever its keys -/
def IsD (H : Hp) (a : Addr) : Prop := (∃ kvs, Rd H a (.dK kvs)) ∨ ∃ kvs, Rd H a (.dT kvs)
theorem isD_at {X : Cx} {pins : List (Addr × Obj)} {σ : St} {H : Hp} {s : Shared} {a : Addr} (I : Inv X pins σ H s) (d : IsD H a) :
    s.TypeIs (.ref a) "dict" ∧ (∀ b, Value.ref a = .ref b → ∃ ob, s.heap.get? b = some ob ∧ ob.dict = none) ∧ (a == sysModules) = false := by
  rcases d with ⟨kvs, e⟩ | ⟨kvs, e⟩
  · obtain ⟨_, hd, vs, _, dd⟩ := dk_rd I.hok e
    refine ⟨dd.typeIs, fun b q => ?_, hd⟩
    cases q
    obtain ⟨ob, _, _, h1, h2, _⟩ := dd
    exact ⟨ob, h1, h2.2.1⟩
  · obtain ⟨_, hd, xs, _, dd⟩ := dt_rd I.hok e
    refine ⟨dd.typeIs, fun b q => ?_, hd⟩
    cases q
    obtain ⟨ob, _, _, h1, h2, _⟩ := dd
    exact ⟨ob, h1, h2.2.1⟩

section
variable {X : Cx} {pins : List (Addr × Obj)} {σ : St} {H : Hp} {s : Shared} {a : Addr} {y d : V} {u r : Value} {o : Option V} {A : Around} {E : Value → Shared → Prop}
end

/-- d.pop(k): there; d.pop(k, x): there or not -/
def tDPop1 (td ty : TE) : TE := fun σ H Q => td σ H fun x H1 => ∃ a, x = .ref a ∧ IsD H1 a ∧ ty σ H1 fun y H2 => ∃ kvs k v, H2 a = some (.dK kvs) ∧ y = kV k ∧ valV kvs k = some v ∧ Q v (upd H2 a (.dK (dropK kvs k)))
section
variable {X : Cx} {o e f : Expr} {apos cpos : Pos} {td ty tx : TE}
theorem pe_dpop1 (ho : PE X o td) (he : PE X e ty) (m : M1 X o "pop" apos e cpos) : PE X (.Call (.Attribute o "pop" apos) [e] [] cpos) (tDPop1 td ty) := by
  intro pins s σ H Q I h
  refine wpAny_Call_method m.base m.few m.line PySem.F.plainAttrs_dict PySem.F.slot_dict_pop PySem.F.type_dict_pop (thn (ho pins s σ H _ I h) fun u s1 ⟨x, H1, I1, rx, a, ex, d, q1⟩ => ?_)
  subst ex
  obtain rfl : u = Value.ref a := rx
  obtain ⟨t1, t2, _⟩ := isD_at I1 d
  refine ⟨t1, t2, ?_⟩
  rw [m.trees]
  refine Calls.callWith_builtin rfl (Calls.evalArgs_plain (Calls.spliced_cons (thn (he pins s1 σ H1 _ I1 q1) fun iv s2 ⟨y, H2, I2, ry, kvs, k, v, ea, ey, l, q2⟩ => Calls.spliced_nil ?_)))
  subst ey
  exact d_pop I2 ea ry l (.inl rfl) fun w' s3 I3 rw' => ⟨v, _, I3, rw', q2⟩
end

/-! ### dict(d): a copy -/
section
variable {X : Cx} {pins : List (Addr × Obj)} {σ : St} {H : Hp} {s : Shared} {a : Addr} {kvs : List (Key × V)} {A : Around} {E : Value → Shared → Prop}
end

section
variable {X : Cx} {pins : List (Addr × Obj)} {σ : St} {H : Hp} {s : Shared} {a : Addr} {y : V} {u : Value} {A : Around} {E : Value → Shared → Prop}
end
end L2

namespace Att
open PySem PySem.W PySem.Calls PyProof.Rows

/-! ### the script -/
theorem ints_of_wellAll {P : Params} {h : Heap} : ∀ (ns : List Int) (vs : List Value), WellAll P h vs (ns.map WData.int) → IntsAre vs ns := by
  intro ns
  induction ns with
  | nil =>
    intro vs w
    rw [List.map_nil] at w
    cases w
    exact .nil
  | cons n ns ih =>
    intro vs w
    rw [List.map_cons] at w
    cases w with
    | cons a b =>
      cases a
      exact .cons _ _ (ih _ b)

theorem script_of {l : OpenLaw} {n : Nat} (hn : l.most = some n) {P : Params} {h : Heap} {args : List WData} {vals : List Value}
    (hpre : l.row.toRowW.claim.pre args = true) (hwl : WellAll P h vals args) :
    ∃ a vs ns, vals = [Value.ref a] ∧ args = [WData.list (ns.map WData.int)] ∧ h.get? a = some { cls := .type "list", data := .seq vs.toArray } ∧ IntsAre vs ns ∧ ns.length ≤ n := by
  have hsh : WShape.hasAll [] args [.list .int] = true := (pre_splitW hpre).1
  have hc : l.pre.holds [] { args := args } = true := (pre_splitW hpre).2
  obtain ⟨d, r, rfl, h1, h2⟩ := hasAllW_cons hsh
  obtain rfl := hasAllW_nil h2
  obtain ⟨xs, rfl, h3⟩ := hasW_list h1
  obtain ⟨ns, rfl⟩ := items_int h3
  have hlen : ns.length ≤ n := by
    unfold OpenLaw.pre at hc
    have h4 : (WTm.not (.lt (.lit (.int (n : Int))) (.len (.arg 0)))).holds [] { args := [.list (ns.map .int)] } = true := by
      have h4 := (holds_andW hc).1
      rw [hn] at h4
      exact h4
    have h5 := condW_of h4 (w_not (w_lt w_lit (w_len_list (w_arg rfl))))
    rw [List.length_map] at h5
    refine Nat.le_of_not_lt fun q => ?_
    have q' : (n : Int) < ((ns.length : Nat) : Int) := by omega
    first
      | (rw [decide_eq_true q'] at h5; exact absurd h5 (by decide))
      | (simp at h5; omega)
  cases hwl with
  | cons w1 w2 =>
    cases w2
    cases w1 with
    | list ho hall => exact ⟨_, _, ns, rfl, rfl, ho, ints_of_wellAll ns _ hall, hlen⟩

theorem post_true (l : OpenLaw) (args : List WData) : l.row.toRowW.claim.post args (.bool true) args = true :=
  postW_of (r := l.row.toRowW) (X := (true == true))
    (show WShape.has [] (.bool true) .bool = true by first | rfl | decide | simp [WShape.has, WShape.arms, WShape.armsAll])
    (show (WTm.eq .res (.lit (.bool true))).value [] { args := args, res := some (.bool true), after := args } = some (.bool (true == true)) from w_eq_bool (w_res rfl) w_lit) rfl

/-! ### the attachment: holds_open's last premise (the goal 'hc' behind k_head) from a wpAny of the law's body -/
/-- the same from a codeAny of the CALL (for a layer whose function contracts speak of calls) -/
theorem attach_call {l : OpenLaw} {n : Nat} {q : Program} {loose : List Str} {XP : (Str → Option Value) → Heap → Prop} {YP : World → Heap → Prop} {d : DefRec}
    (hn : l.most = some n) (hdf : d.params.defaults = [])
    (call : ∀ (w : World) (s₀ s₁ : Shared) (mg mb : Str → Option Value) (fa : Addr) (o : Obj) (pm cd doc : Value) (a : Addr) (vs : List Value) (ns : List Int),
      Ground q loose [] XP w s₀ mg mb s₁.heap → YP w s₁.heap →
      s₁.heap.get? fa = some o → o.data = .func (docDef d.name d.params d.body d.scope pm cd doc) → s₁.heap.CodeRec cd d.name → mg d.name = some (.ref fa) →
      s₁.heap.get? a = some { cls := .type "list", data := .seq vs.toArray } → IntsAre vs ns → ns.length ≤ n → s₁.gens = #[] →
      codeAny (model l.prog w) callerA (.call (.ref fa) ⟨[.ref a], []⟩) (fun r s' => r = .ok (.ret (.bool true)) ∧ OldK s₁.heap s'.heap ∧ s'.os = s₁.os ∧ AllBare s'.gens) s₁) :
    WalkO q loose XP YP l.row.toRowW d [] (fun f vs => PySem.call f vs) := by
  intro w s₀ s₁ mg mb G Y fa o pm cd doc dV kV ho hd hcd hD hmg hg args vals as hpre hlay hrd hwl hlo
  obtain rfl : dV = .none := Dflts.none hD hdf
  obtain rfl : kV = .none := Dflts.noKw hD
  obtain ⟨a, vs, ns, rfl, rfl, hobj, hints, hlen⟩ := script_of hn hpre hwl
  refine enter_call (codeAny_mono (call w s₀ s₁ mg mb fa o pm cd doc a vs ns G Y ho (fd_plain hd) hcd hmg hobj hints hlen hg) fun r s' hq => ?_)
  obtain ⟨rfl, h2, h3, h4⟩ := hq
  exact ⟨.inl ⟨.bool true, .bool true, [], rfl, fun _ => rfl, .bool true, post_true l _, fun _ => ⟨List.Pairwise.nil, fun _ hm => (nomatch hm)⟩⟩, h2, h3, h4⟩

/-! ### rules over ANY heap (no ledger) from facts about the written part K: the library's own take a ledger (News) for what they write -/
section
variable {prog : Program} {w : World} {A : Around} {E : Value → Shared → Prop} {s : Shared} {K : Frag}

/-! the whole heap as the ledger: makes every rule that writes through a ledger a rule over any heap -/
def ledger (h : Heap) (L d : Addr) : List (Addr × Obj) := (List.range h.objs.size).filterMap fun a => if a = L ∨ a = d then none else (h.get? a).map fun o => (a, o)
end
end Att

namespace L2
open PySem PySem.Spec PyProof.Rows

theorem vals_ints : ∀ {vs : List Value} {ns : List Int}, IntsAre vs ns → Vals (ns.map V.int) vs
  | _, _, .nil => .nil
  | _, _, .cons n t h => .cons ⟨t, rfl⟩ (vals_ints h)

/-- nothing is tracked but the script, known to the object (or it is an object of the module) -/
def Only (H : Hp) : Prop := ∀ b, H b = none ∨ ∃ o xs, H b = some (.frz o (.lst xs))

/-- THE HEAD: the law's promise, at the heap behind the top. F, the promise of the law's def, may use that base is part of the heap (so K.In base, base.Ns mainGlobals mg stand in Mod) -/
theorem law_call {P : Program} {w : World} {K : PySem.W.Frag} {mg mb : Str → Option Value} {CX : CXT} {k : Nat} {fa a : Addr} {fd : FuncData} {x : Str} {sp : Sp} {s₁ : Shared} {vs : List Value} {ns : List Int}
    (KX : K.In s₁.heap) (hns : s₁.heap.Ns mainGlobals mg) (hb : s₁.heap.Ns builtinsNs mb) (hbb : ∀ x : Str, x ≠ "__name__" → mb x = bootBuiltins x) (hlim : s₁.heap.NoLimit) (hg : s₁.gens = #[])
    (ha : s₁.heap.get? a = some { cls := .type "list", data := .seq vs.toArray }) (hi : IntsAre vs ns) (hl : ns.length ≤ sizeLine) (hr : Room k callerA)
    (F : ∀ base : Heap, K.In base → base.Ns mainGlobals mg → FnOk P w K mg base CX k fa fd [x] sp) (hbind : ∀ (s : Shared) (u : Value), BindsTo s fd ⟨[u], []⟩ [(x, u)])
    (hsp : ∀ H : Hp, Only H → SqL K H a (ns.map V.int) → sp [.ref a] H (fun v _ => v = .bl true) fun _ _ _ => False)
    (hCX : ∀ H e s', CX [] H s₁ (fun _ _ _ => False) e s' → False) :
    codeAny (model P w) callerA (.call (.ref fa) ⟨[.ref a], []⟩) (fun r s' => r = .ok (.ret (.bool true)) ∧ OldK s₁.heap s'.heap ∧ s'.os = s₁.os ∧ AllBare s'.gens) s₁ := by
  have rv := vals_ints hi
  have lenV := hi.length
  -- from an abstract heap in which nothing but the script may be tracked
  have core : ∀ H : Hp, Only H → SqL K H a (ns.map V.int) → HOk P w H s₁.heap → (∀ b, H b ≠ none → b = a) → (H a ≠ none → K.lookup a = none) →
      codeAny (model P w) callerA (.call (.ref fa) ⟨[.ref a], []⟩) (fun r s' => r = .ok (.ret (.bool true)) ∧ OldK s₁.heap s'.heap ∧ s'.os = s₁.os ∧ AllBare s'.gens) s₁ := by
    intro H hO hS hok hA hK
    have base_of : ∀ {b : Addr} {o : Obj}, s₁.heap.get? b = some o → H b = none → (hidT s₁.heap H).get? b = some o := fun e n => hidT_get e n
    have noA : ∀ {b : Addr} {o : Obj} {es : Array DictEntry} {ep : Nat}, s₁.heap.get? b = some o → o.data = .dict es ep → H b = none := fun {b o es ep} e d => by
      cases q : H b with
      | none => rfl
      | some u =>
        have e' : b = a := hA b (by rw [q]; simp)
        subst e'
        rw [ha] at e; cases e
        have d' : Data.seq vs.toArray _ = Data.dict es ep := d
        cases d'
    have nsK : ∀ {b : Addr} {m : Str → Option Value}, s₁.heap.Ns b m → (hidT s₁.heap H).Ns b m := fun {b m} ⟨o, es, ep, e, d, r⟩ => ⟨o, es, ep, base_of e (noA e d), d, r⟩
    have hKb : K.In (hidT s₁.heap H) := fun b o e => base_of (KX b o e) (by
      cases q : H b with
      | none => rfl
      | some u =>
        have e' : b = a := hA b (by rw [q]; simp)
        subst e'
        rw [hK (by rw [q]; simp)] at e; cases e)
    have hM : Mod K mg (hidT s₁.heap H) := ⟨hKb, nsK hns, ⟨mb, nsK hb, hbb⟩, let ⟨mc, h1, h2⟩ := hlim; ⟨mc, nsK h1, h2⟩⟩
    have e0 : Env0 P w K mg (hidT s₁.heap H) callerA [] s₁ H := ⟨rfl, hM, fun b o e => of_hidT e, Nat.le_of_eq (hidT_size _ _), trivial, fun b hb => absurd (show b ∈ ([] : List Addr) from hb) (by simp), hok, .of_eq hg⟩
    refine codeAny_mono ((F _ hKb (nsK hns)).run callerA [] s₁ H ⟨[.ref a], []⟩ [.ref a] [.ref a] _ _ hr e0 (hbind s₁ (.ref a)) (.cons rfl .nil) (hsp H hO hS)) fun r s' h => ?_
    cases r with
    | error e => exact (hCX H e s' h).elim
    | ok fl =>
      cases fl with
      | next => exact False.elim h
      | brk => exact False.elim h
      | cont => exact False.elim h
      | ret u =>
        obtain ⟨v, H', os, bare, un, hok', r', q⟩ := h
        have q' : v = .bl true := q
        subst q'
        obtain rfl : u = Value.bool true := r'
        refine ⟨rfl, OldK.of_keep fun b o e => ?_, os, bare⟩
        cases q : H b with
        | none => exact un.keep b o e q (by intro z; exact absurd (show b ∈ ([] : List Addr) from z) (by simp)) (by simp)
        | some u =>
          rcases hO b with z | ⟨ob, xs, z⟩
          · rw [q] at z; cases z
          · have z2 := un.frzs b ob _ z
            obtain ⟨e1, _⟩ := hok b _ z
            obtain ⟨e2, _⟩ := hok' b _ z2
            rw [e] at e1; cases e1
            exact e2
  cases hk : K.lookup a with
  | some o =>
    -- the script is one of the module's own objects
    have e := KX a o hk
    rw [ha] at e
    cases e
    refine core (fun _ => none) (fun _ => .inl rfl) (.inr ⟨_, vs.toArray, _, hk, rfl, rfl, rfl, by rw [List.size_toArray, lenV]; exact hl, by simpa using rv⟩) (fun b u z => by have z' : (none : Option HO) = some u := z; cases z') (fun b z => absurd rfl z) fun z => absurd rfl z
  | none =>
    refine core (fun b => if b = a then some (.frz { cls := .type "list", data := .seq vs.toArray } (.lst (ns.map V.int))) else none) (fun b => ?_) (.inl (.inr ⟨{ cls := .type "list", data := .seq vs.toArray }, if_pos rfl⟩)) (fun b u z => ?_) (fun b z => ?_) fun _ => hk
    · by_cases hb : b = a
      · exact .inr ⟨_, _, if_pos hb⟩
      · exact .inl (if_neg hb)
    · by_cases hb : b = a
      · have z' := (if_pos hb).symm.trans z
        cases z'
        subst hb
        exact ⟨ha, by rw [List.length_map]; exact hl, vs, _, rv, ha⟩
      · have z' := (if_neg hb).symm.trans z
        cases z'
    · by_cases hb : b = a
      · exact hb
      · exact absurd (if_neg hb) z
end L2

namespace L2
open PySem PySem.Spec PyProof.Rows

/-- the goal that k_head leaves (case hc), from the law's promise. F gives the function object fd (K's own) once, then the promise over every base -/
theorem walk_of {l : PySem.W.OpenLaw} {n k : Nat} {q : Program} {loose : List Str} {XP : (Str → Option Value) → Heap → Prop} {YP : World → Heap → Prop} {d : DefRec} {K : Params → PySem.W.Frag} {CX : World → CXT} {sp : World → Sp} {x : Str}
    (hn : l.most = some n) (hn2 : n ≤ sizeLine) (hdf : d.params.defaults = []) (hr : Room k callerA)
    (hY : ∀ (w : World) (h : Heap), YP w h → (K w.params).In h)
    (F : ∀ (w : World) (mg : Str → Option Value) (fa : Addr) (h : Heap), (K w.params).In h → h.Ns mainGlobals mg → mg d.name = some (.ref fa) →
      ∃ fd : FuncData, (∀ (s : Shared) (u : Value), BindsTo s fd ⟨[u], []⟩ [(x, u)]) ∧
        ∀ base : Heap, (K w.params).In base → base.Ns mainGlobals mg → FnOk l.prog w (K w.params) mg base (CX w) k fa fd [x] (sp w))
    (hsp : ∀ (w : World) (H : Hp) (a : Addr) (ns : List Int), ns.length ≤ n → Only H → SqL (K w.params) H a (ns.map V.int) → sp w [.ref a] H (fun v _ => v = .bl true) fun _ _ _ => False)
    (hCX : ∀ (w : World) (H : Hp) (s : Shared) (e : Value) (s' : Shared), CX w [] H s (fun _ _ _ => False) e s' → False) :
    PySem.W.WalkO q loose XP YP l.row.toRowW d [] (fun f vs => PySem.call f vs) := by
  refine Att.attach_call hn hdf fun w s₀ s₁ mg mb fa o pm cd doc a vs ns G Y ho hd hcd hmg hobj hints hlen hg => ?_
  have KX := hY w _ Y
  obtain ⟨fd, hb, hF⟩ := F w mg fa _ KX G.T.g hmg
  exact law_call KX G.T.g G.T.b G.T.builtins G.T.nolimit hg hobj hints (Nat.le_trans hlen hn2) hr hF hb (fun H hO hS => hsp w H a ns hlen hO hS) fun H e s' => hCX w H s₁ e s'
end L2

/-! SHORT WORDS over the layer: a def of the text, its body, what a loop and a test want. -/
namespace L2
open PySem PySem.Spec PyProof.Rows

/-! ### the text by places -/
def defArgs (s : Stmt) : Arguments := match s with
  | .FunctionDef _ a _ _ _ _ _ _ _ _ => a
  | _ => { posonlyargs := [], args := [], vararg := none, kwonlyargs := [], kw_defaults := [], kwarg := none, defaults := [] }
def defBody (s : Stmt) : List Stmt := match s with
  | .FunctionDef _ _ b _ _ _ _ _ _ _ => b
  | _ => []
def defScope (s : Stmt) : Scope := match s with
  | .FunctionDef _ _ _ _ _ _ sc _ _ _ => sc
  | _ => { kind := .function, names := [], isGenerator := false, isCoroutine := false }

/-! ### no exception leaves a def -/
abbrev CX0 : CXT := fun _ _ _ _ _ _ => False
abbrev E0 : XK := fun _ _ _ => False
theorem pass0 {X : Cx} : Passes CX0 X E0 := fun _ _ _ _ _ _ _ h => h.elim

/-! ### a def (or method) of the text as it stands behind the top -/
structure Fun (K : PySem.W.Frag) (x qual : Str) (st : Stmt) (f : Addr) (fd : FuncData) : Prop where
  ex : ∃ (oc : Value) (od : Option Addr) (kV doc pm : Value) (an : Option Addr) (cdv ct : Value) (osl : Array (Option Value)),
    fd = PySem.W.fnOf x qual (defArgs st) (defBody st) (defScope st) .none kV doc pm an cdv ct ∧ K.lookup f = some ⟨oc, od, .func fd, osl⟩ ∧ PySem.W.codeIn K cdv qual = true
  kp : PySem.W.keepIn K (.ref f) = true
section
variable {P : Program} {w : World} {K : PySem.W.Frag} {mg : Str → Option Value} {base : Heap}
/-- THE RULE for a def: its body as a term of rules, and the reading of that term -/
theorem Fun.ok {x qual : Str} {st : Stmt} {f : Addr} {fd : FuncData} {N ps : List Str} {k : Nat} {sp : Sp} (F : Fun K x qual st f fd) (S : FnScope N ps (defScope st)) (len : ∀ vs H Q E, sp vs H Q E → vs.length = ps.length)
    (hbody : ∀ (cdv : Value) (A : Around) (outer : List Env) (s : Shared) (H : Hp) (vs : List V) (Q : VK) (E : XK), Room k (A.deeper (envOfC qual (defScope st) s.heap.objs.size f cdv)) → sp vs H Q E →
      ∃ t, PSs (cxOf CX0 P w K mg base N qual (defScope st) f cdv A outer s H E).nox (defBody st) t ∧ t { nx := fun _ H' => Q .non H', rt := Q } (start N vs) H) : FnOk P w K mg base CX0 (k + 1) f fd ps sp := by
  obtain ⟨oc, od, kV, doc, pm, an, cdv, ct, osl, rfl, lk, hcd⟩ := F.ex
  refine fn_of lk hcd S len fun A outer s H vs Q E hr hsp => ?_
  obtain ⟨t, h, q⟩ := hbody cdv A outer s H vs Q E hr hsp
  exact ⟨t, h.nox, q⟩
/-- how its arguments bind (no defaults): h is «fun _ _ _ _ _ _ us hl => match us, hl with | [_, _], _ => rfl», one _ a parameter -/
theorem Fun.binds {x qual : Str} {st : Stmt} {f : Addr} {fd : FuncData} {ps : List Str} (F : Fun K x qual st f fd)
    (h : ∀ (kV doc pm : Value) (an : Option Addr) (cdv ct : Value) (us : List Value), us.length = ps.length → bindArgs (PySem.W.fnOf x qual (defArgs st) (defBody st) (defScope st) .none kV doc pm an cdv ct) ⟨us, []⟩ = pure (ps.zip us)) : Binds K fd ps [] := by
  obtain ⟨oc, od, kV, doc, pm, an, cdv, ct, osl, rfl, lk, hcd⟩ := F.ex
  exact .all (h kV doc pm an cdv ct)
theorem fun_mk {x qual : Str} {st : Stmt} {f : Addr} {oc : Value} {od an : Option Addr} {osl : Array (Option Value)} {kV doc pm cdv ct : Value} (l : K.lookup f = some ⟨oc, od, .func (PySem.W.fnOf x qual (defArgs st) (defBody st) (defScope st) .none kV doc pm an cdv ct), osl⟩)
    (c : PySem.W.codeIn K cdv qual = true) (k : PySem.W.keepIn K (.ref f) = true) : Fun K x qual st f (PySem.W.fnOf x qual (defArgs st) (defBody st) (defScope st) .none kV doc pm an cdv ct) := ⟨⟨oc, od, kV, doc, pm, an, cdv, ct, osl, rfl, l, c⟩, k⟩
end
theorem hu_of {A : Around} {k : Nat} (hr : Room k A) : A.units + 1 < cLine := Nat.lt_of_le_of_lt (Nat.add_le_add_left (by decide : 1 ≤ 64) _) hr.units
theorem small1000 {n : Nat} (h : n ≤ 1000) : n < sizeLine := Nat.lt_of_le_of_lt h (by decide)

/-! ### expressions in short: the name that stands in the i-th slot -/
section
variable {X : Cx}
theorem pv (i : Nat) {x : Str} {pos : Pos} (hN : X.N[i]? = some x := by rfl) (hv : Vis X.env.scope x := by first | exact Or.inl rfl | exact Or.inr (Or.inl rfl) | exact Or.inr (Or.inr rfl)) (hd : (x == ("__debug__" : Str)) = false := by decide)
    (hcd : (x == ("__classdict__" : Str)) = false := by decide) : PE X (.Name x pos) (tVar i) := pe_var hN hv hd hcd
/-- len of a dict -/
theorem call_lenD : CallR X (.builtin "len") (fun xs H Q => ∃ a kvs, xs = [V.ref a] ∧ H a = some (.dK kvs) ∧ Q (.int kvs.length) H) := by
  intro pins s σ H xs us Q I r h
  obtain ⟨a, kvs, rfl, ha, q⟩ := h
  obtain ⟨u, rfl, ru⟩ := vals1 r
  cases ru
  exact d_len I (.inl ha) fun t s' I' => ⟨.int kvs.length, H, I', ⟨t, rfl⟩, q⟩
end

/-! ### tests -/
theorem iteF {A B : Prop} (h : B) : if false = true then A else B := by
  rw [if_neg Bool.false_ne_true]
  exact h
theorem iteT {A B : Prop} (h : A) : if true = true then A else B := by
  rw [if_pos rfl]
  exact h
theorem ite2 {c A B : Prop} [Decidable c] (h1 : c → A) (h2 : ¬ c → B) : if c then A else B := by
  by_cases h : c
  · rw [if_pos h]
    exact h1 h
  · rw [if_neg h]
    exact h2 h
theorem iteNS {c A B : Prop} [Decidable c] (hc : c) (h : B) : if (!decide c) = true then A else B := by
  rw [decide_eq_true hc]
  exact iteF h

/-! ### heaps -/
/-- all that was tracked is as it was -/
def Same (H H' : Hp) : Prop := ∀ b o, H b = some o → H' b = some o
theorem Same.refl (H : Hp) : Same H H := fun _ _ h => h
theorem Same.trans {H H1 H2 : Hp} (a : Same H H1) (b : Same H1 H2) : Same H H2 := fun c o h => b c o (a c o h)
theorem Same.seq {K : PySem.W.Frag} {H H' : Hp} {a : Addr} {xs : List V} (e : Same H H') (h : SqL K H a xs) : SqL K H' a xs := by
  rcases h with (h | ⟨o, h⟩) | h
  · exact .inl (.inl (e _ _ h))
  · exact .inl (.inr ⟨o, e _ _ h⟩)
  · exact .inr h

/-! ### a dict's pairs: keys that differ -/
section
variable {κ : Type} [DecidableEq κ]
theorem valV_not {kvs : List (κ × V)} {k : κ} (h : valV kvs k = none) : ¬ k ∈ kvs.map (·.1) := by
  intro m
  obtain ⟨p, hp, e⟩ := List.mem_map.mp m
  have q : (kvs.any fun kv => decide (kv.1 = k)) = true := List.any_eq_true.mpr ⟨p, hp, decide_eq_true e⟩
  rw [valV_any, h] at q
  exact absurd q (by simp)
theorem valV_in {kvs : List (κ × V)} {k : κ} {v : V} (h : valV kvs k = some v) : k ∈ kvs.map (·.1) := by
  have q : (kvs.any fun kv => decide (kv.1 = k)) = true := by
    rw [valV_any, h]
    all_goals rfl
  obtain ⟨p, hp, e⟩ := List.any_eq_true.mp q
  exact List.mem_map.mpr ⟨p, hp, of_decide_eq_true e⟩
theorem dropK_pos {p : κ × V} {r : List (κ × V)} {k : κ} (e : p.1 = k) : dropK (p :: r) k = dropK r k := by
  unfold dropK
  rw [List.filter_cons, if_neg (by simp [e])]
theorem dropK_neg {p : κ × V} {r : List (κ × V)} {k : κ} (e : ¬ p.1 = k) : dropK (p :: r) k = p :: dropK r k := by
  unfold dropK
  rw [List.filter_cons, if_pos (by simp [e])]
theorem dropK_no : ∀ {kvs : List (κ × V)} {k : κ}, ¬ k ∈ kvs.map (·.1) → dropK kvs k = kvs
  | [], _, _ => rfl
  | p :: r, k, h => by
    have h' : ¬ k ∈ r.map (·.1) := fun m => by
      obtain ⟨q, hq, e⟩ := List.mem_map.mp m
      exact h (List.mem_map.mpr ⟨q, List.mem_cons.mpr (Or.inr hq), e⟩)
    rw [dropK_neg fun e => h (List.mem_map.mpr ⟨p, List.mem_cons.mpr (Or.inl rfl), e⟩), dropK_no h']
theorem dropK_mem {kvs : List (κ × V)} {k : κ} {p : κ × V} (h : p ∈ dropK kvs k) : p ∈ kvs := (List.mem_filter.mp h).1
theorem dropK_len : ∀ {kvs : List (κ × V)} {k : κ}, (kvs.map (·.1)).Nodup → k ∈ kvs.map (·.1) → (dropK kvs k).length + 1 = kvs.length
  | [], _, _, m => by simp at m
  | p :: r, k, h, m => by
    have h : (p.1 :: r.map (·.1)).Nodup := h
    have m : k = p.1 ∨ k ∈ r.map (·.1) := List.mem_cons.mp m
    obtain ⟨h1, h2⟩ := List.nodup_cons.mp h
    by_cases e : p.1 = k
    · subst e
      rw [dropK_pos rfl, dropK_no h1]
      all_goals rfl
    · have m' : k ∈ r.map (·.1) := m.resolve_left fun z => e z.symm
      have q := dropK_len h2 m'
      rw [dropK_neg e, List.length_cons, List.length_cons]
      omega
end
end L2

namespace L2
open PySem PySem.Spec PyProof.Rows

/-! ### small rules -/
section
variable {X : Cx} {a b c : Expr} {ta tb tc : TE} {pos : Pos}
/-- a name of the top that holds an int, a text, an object -/
theorem pe_gI {x : Str} {i : Int} (h : ∃ t, X.mg x = some (.int i t)) (hg : Gl X x := by rfl) (hd : (x == ("__debug__" : Str)) = false := by decide) : PE X (.Name x pos) (tC (.int i)) := by
  obtain ⟨t, h⟩ := h
  exact pe_glob hg h ⟨t, rfl⟩ hd
theorem pe_gS {x z : Str} (h : ∃ t, X.mg x = some (.str z t)) (hg : Gl X x := by rfl) (hd : (x == ("__debug__" : Str)) = false := by decide) : PE X (.Name x pos) (tC (.str z)) := by
  obtain ⟨t, h⟩ := h
  exact pe_glob hg h ⟨t, rfl⟩ hd
theorem pe_gR {x : Str} {f : Addr} (h : X.mg x = some (.ref f)) (hg : Gl X x := by rfl) (hd : (x == ("__debug__" : Str)) = false := by decide) : PE X (.Name x pos) (tC (.ref f)) := pe_glob hg h rfl hd
/-- a built-in type as a value -/
theorem pe_ty {x : Str} {T : String} (hm : X.mg x = none) (hv : bootBuiltins x = some (.type T)) (hg : Gl X x := by rfl) (hn : x ≠ "__name__" := by decide) (hd : (x == ("__debug__" : Str)) = false := by decide) : PE X (.Name x pos) (tC (.ty T)) := pe_bltn hg hm hv rfl hn hd
/-- a text times a number -/
theorem op_mul_str : OpR X (binaryOp .Mult) (fun x y H Q => ∃ i n, x = .str i ∧ y = .int n ∧ i.length ≤ 64 ∧ n ≤ 1000 ∧ -1000 ≤ n ∧ Q (.str (Txt.mul i n)) H) := by
  intro pins s σ H x y v u Q I rx ry h
  obtain ⟨i, n, rfl, rfl, h1, h2, h3, q⟩ := h
  obtain ⟨t, rfl⟩ := rx
  obtain ⟨t', rfl⟩ := ry
  exact SB.mul (mulOk_of 64 1000 h1 (by omega) (by omega) (by decide) (by decide)) fun t' k => ⟨.str _, H, I.tok k, ⟨_, rfl⟩, q⟩
end

/-! ### data -/
mutual
inductive Dt (K : PySem.W.Frag) (H : Hp) : V → PyData → Prop where
  | non : Dt K H .non .none
  | bl (b : Bool) : Dt K H (.bl b) (.bool b)
  | int (i : Int) : Dt K H (.int i) (.int i)
  | str (x : Str) : Dt K H (.str x) (.str x)
  | lst {a : Addr} {xs : List V} {ds : List PyData} : SqL K H a xs → DtAll K H xs ds → Dt K H (.ref a) (.list ds)
  | tup {a : Addr} {xs : List V} {ds : List PyData} : SqT K H a xs → DtAll K H xs ds → Dt K H (.ref a) (.tuple ds)
  | dK {a : Addr} {kvs : List (Key × V)} : H a = some (.dK kvs) → Dt K H (.ref a) (.dict [])
  | dT {a : Addr} {kvs : List (List Key × V)} : H a = some (.dT kvs) → Dt K H (.ref a) (.dict [])
inductive DtAll (K : PySem.W.Frag) (H : Hp) : List V → List PyData → Prop where
  | nil : DtAll K H [] []
  | cons {v : V} {d : PyData} {vs : List V} {ds : List PyData} : Dt K H v d → DtAll K H vs ds → DtAll K H (v :: vs) (d :: ds)
end
section
variable {X : Cx} {pins : List (Addr × Obj)} {σ : St} {H H' : Hp} {s : Shared}
mutual
theorem Dt.reads (I : Inv X pins σ H s) : ∀ {v : V} {d : PyData} {u : Value}, Dt X.K H v d → RelV v u → d.canLay0 = true → ∃ as, Reads s.heap u d as
  | _, _, _, .non, r, _ => by cases r; exact ⟨_, .none⟩
  | _, _, _, .bl b, r, _ => by cases r; exact ⟨_, .bool b⟩
  | _, _, _, .int i, r, _ => by obtain ⟨t, rfl⟩ := r; exact ⟨_, .int i t⟩
  | _, _, _, .str x, r, _ => by obtain ⟨t, rfl⟩ := r; exact ⟨_, .str x t⟩
  | _, _, _, .lst h hd, r, l => by
    cases r
    obtain ⟨its, rv, ⟨o, n, e, hc, _, hs⟩, _⟩ := I.list h
    obtain ⟨as, ra⟩ := DtAll.reads I hd rv (by rw [PyData.canLay0] at l; exact l)
    exact ⟨_, .list e hc hs (by simpa using ra)⟩
  | _, _, _, .tup h hd, r, l => by
    cases r
    obtain ⟨its, rv, ⟨o, e, hc, n, hs⟩, _⟩ := I.tuple h
    obtain ⟨as, ra⟩ := DtAll.reads I hd rv (by rw [PyData.canLay0] at l; exact l)
    exact ⟨_, .tuple e hc hs (by simpa using ra)⟩
  | _, _, _, .dK _, _, l => by rw [PyData.canLay0] at l; cases l
  | _, _, _, .dT _, _, l => by rw [PyData.canLay0] at l; cases l
theorem DtAll.reads (I : Inv X pins σ H s) : ∀ {vs : List V} {ds : List PyData} {us : List Value}, DtAll X.K H vs ds → Vals vs us → PyData.canLayAll0 ds = true → ∃ as, ReadsAll s.heap us ds as
  | _, _, _, .nil, r, _ => by cases r; exact ⟨_, .nil⟩
  | _, _, _, .cons h hd, r, l => by
    rw [PyData.canLayAll0, Bool.and_eq_true] at l
    cases r with
    | cons r1 rr =>
      obtain ⟨as, ra⟩ := Dt.reads I h r1 l.1
      obtain ⟨bs, rb⟩ := DtAll.reads I hd rr l.2
      exact ⟨_, .cons ra rb⟩
end
theorem Same.seqT {K : PySem.W.Frag} {a : Addr} {xs : List V} (e : Same H H') (h : SqT K H a xs) : SqT K H' a xs := by
  rcases h with (h | ⟨o, h⟩) | h
  · exact .inl (.inl (e _ _ h))
  · exact .inl (.inr ⟨o, e _ _ h⟩)
  · exact .inr h
mutual
theorem Dt.same {K : PySem.W.Frag} (e : Same H H') : ∀ {v : V} {d : PyData}, Dt K H v d → Dt K H' v d
  | _, _, .non => .non
  | _, _, .bl b => .bl b
  | _, _, .int i => .int i
  | _, _, .str x => .str x
  | _, _, .lst h hd => .lst (e.seq h) (DtAll.same e hd)
  | _, _, .tup h hd => .tup (Same.seqT e h) (DtAll.same e hd)
  | _, _, .dK h => .dK (e _ _ h)
  | _, _, .dT h => .dT (e _ _ h)
theorem DtAll.same {K : PySem.W.Frag} (e : Same H H') : ∀ {vs : List V} {ds : List PyData}, DtAll K H vs ds → DtAll K H' vs ds
  | _, _, .nil => .nil
  | _, _, .cons h hd => .cons (Dt.same e h) (DtAll.same e hd)
end
theorem DtAll.get {K : PySem.W.Frag} : ∀ {vs : List V} {ds : List PyData} {i : Nat} {v : V}, DtAll K H vs ds → vs[i]? = some v → ∃ d, ds[i]? = some d ∧ Dt K H v d
  | _, _, _, _, .nil, e => by simp at e
  | _, _, 0, _, .cons h _, e => by simp at e; subst e; exact ⟨_, rfl, h⟩
  | _, _, i + 1, v, .cons _ t, e => by
    obtain ⟨d, h1, h2⟩ := DtAll.get (i := i) (v := v) t (by simpa using e)
    exact ⟨d, by simpa using h1, h2⟩
theorem DtAll.length {K : PySem.W.Frag} : ∀ {vs : List V} {ds : List PyData}, DtAll K H vs ds → vs.length = ds.length
  | _, _, .nil => rfl
  | _, _, .cons _ t => by rw [List.length_cons, List.length_cons, DtAll.length t]
theorem DtAll.append {K : PySem.W.Frag} : ∀ {vs ws : List V} {ds es : List PyData}, DtAll K H vs ds → DtAll K H ws es → DtAll K H (vs ++ ws) (ds ++ es)
  | _, _, _, _, .nil, h => h
  | _, _, _, _, .cons h t, h' => .cons h (DtAll.append t h')
/-- == of data -/
theorem op_eqD (hu : X.A.units + 64 < cLine) : OpR X (compareOp .Eq) (fun x y H Q => ∃ dx dy, Dt X.K H x dx ∧ Dt X.K H y dy ∧ dx.canLay0 = true ∧ dy.canLay0 = true ∧ dx.depth ≤ 64 ∧ Q (.bl (PyData.eqv dx dy)) H) := by
  intro pins s σ H x y v u Q I rx ry h
  obtain ⟨dx, dy, hx, hy, lx, ly, hd, q⟩ := h
  obtain ⟨as, ra⟩ := Dt.reads I hx rx lx
  obtain ⟨bs, rb⟩ := Dt.reads I hy ry ly
  exact SeqAt.compareEq_reads ra rb lx ly (by have := Nat.min_le_left dx.depth dy.depth; omega) ⟨.bl _, H, I, rfl, q⟩
theorem op_neD (hu : X.A.units + 64 < cLine) : OpR X (compareOp .NotEq) (fun x y H Q => ∃ dx dy, Dt X.K H x dx ∧ Dt X.K H y dy ∧ dx.canLay0 = true ∧ dy.canLay0 = true ∧ dx.depth ≤ 64 ∧ Q (.bl (!PyData.eqv dx dy)) H) := by
  intro pins s σ H x y v u Q I rx ry h
  obtain ⟨dx, dy, hx, hy, lx, ly, hd, q⟩ := h
  obtain ⟨as, ra⟩ := Dt.reads I hx rx lx
  obtain ⟨bs, rb⟩ := Dt.reads I hy ry ly
  exact SeqAt.compareNe_reads ra rb lx ly (by have := Nat.min_le_left dx.depth dy.depth; omega) ⟨.bl _, H, I, rfl, q⟩
end

/-! ### the signs of a text, walked -/
def Its (x : Str) : It := ⟨fun i _ => i < x.cps.size, fun i H v H' => H' = H ∧ ∃ c, x.cps[i]? = some c ∧ v = .str ⟨#[c]⟩, fun i _ => x.cps.size ≤ i⟩
theorem turn_str {P : Program} {w : World} {K : PySem.W.Frag} {tg : Expr} (it : Addr) (x : Str) (t : Tok) : ∀ ty : String, (ty = "str_ascii_iterator" ∨ ty = "str_iterator") → Turn P w K tg (Its x) [it] it (fun i h => h.IsStrIter it ty x t i) := by
  intro ty hty
  refine ⟨by simp, ?_, ?_, ?_, ?_, ?_⟩
  · intro i h st b hb
    have e : b = it := by simpa using hb
    subst e
    obtain ⟨o, e, c, d⟩ := st
    exact ⟨o, e, fun v z => by rw [d] at z; cases z⟩
  · intro i h h' st k
    obtain ⟨o, e, c, d⟩ := st
    exact ⟨o, k it (by simp) o e, c, d⟩
  · intro X hP hw hK hc i pins s σ H E I hf st hg
    subst hP hw hK
    obtain ⟨f0, f1, f2, f3, f4, f5⟩ := hf it (by simp)
    have hi : i < x.cps.size := hg
    have hx : x.cps[i]? = some x.cps[i] := by simp [hi]
    have fin : ∀ h', h'.IsStrIter it ty x t (i + 1) → Heap.SameBut it s.heap h' → ∃ u, some (Value.str ⟨#[x.cps[i]]⟩ s.toks) = some u ∧
        wpAny (model X.prog X.w) X.A (letOwnedTupleGo tg (.ref it) u) (fun _ s2 => ∃ y H', Inv X pins σ H' s2 ∧ RelV y u ∧ (Its x).yld i H y H' ∧ s2.heap.IsStrIter it ty x t (i + 1) ∧ ∀ b ∈ [it], H' b = none) E { s with heap := h', toks := s.toks + 1 } := by
      intro h' st' sb
      have I1 : Inv X pins σ H { s with heap := h', toks := s.toks + 1 } := I.turned (fun b o hb e => (sb.2 b hb).trans e) f0 f1 f3 f4 f5
      obtain ⟨o, e, c, d⟩ := id st'
      refine ⟨_, rfl, go_of (s := { s with heap := h', toks := s.toks + 1 }) e c d ?_ ⟨.str ⟨#[x.cps[i]]⟩, H, I1, ⟨_, rfl⟩, ⟨rfl, _, hx, rfl⟩, st', fun b hb => (hf b hb).1⟩⟩
      rcases hty with rfl | rfl <;> decide
    rcases hty with rfl | rfl
    · exact wpAny_pyNext_ascii_item st hx fin
    · exact wpAny_pyNext_wide_item st hx fin
  · intro X hP hw hK hc i pins s σ H E I hf st hg
    subst hP hw hK
    obtain ⟨f0, f1, f2, f3, f4, f5⟩ := hf it (by simp)
    have hi : x.cps.size ≤ i := hg
    have hx : x.cps[i]? = none := by simp [hi]
    have fin : ∀ h', Heap.ExtBut it s.heap h' → (none : Option Value) = none ∧ Inv X pins σ H { s with heap := h' } := fun h' eb => ⟨rfl, I.turned (t' := s.toks) (fun b o hb e => eb b o hb e) f0 f1 f3 f4 f5⟩
    rcases hty with rfl | rfl
    · exact wpAny_pyNext_ascii_end (I.ok.hd hc) st hx fin
    · exact wpAny_pyNext_wide_end (I.ok.hd hc) st hx fin
  · intro A i s Q E st h
    rcases hty with rfl | rfl
    · exact wpAny_pyIter_striter_ascii st h
    · exact wpAny_pyIter_striter_wide st h
section
variable {X : Cx} {tg : Expr}
def iStr (tl : TE) : TI := fun σ H R => tl σ H fun v H1 => ∃ x, v = .str x ∧ R (Its x) H1
theorem pi_str {l : Expr} {tl : TE} (hl : PE X l tl) : PI X tg l (iStr tl) := by
  intro pins s σ H R I h
  refine thn (hl pins s σ H _ I h) fun v s1 ⟨y, H1, I1, r1, q1⟩ => ?_
  obtain ⟨x, e, q⟩ := q1
  subst e
  obtain ⟨t, rfl⟩ := r1
  have fin : ∀ ty : String, (ty = "str_ascii_iterator" ∨ ty = "str_iterator") → PIE X pins σ tg R (.ref s1.heap.objs.size) { s1 with heap := s1.heap.push { cls := .type ty, data := .fields #[.str x t, .int 0 0] } } := fun ty hty => by
    refine ⟨s1.heap.objs.size, [s1.heap.objs.size], _, _, H1, rfl, I1.kept (t' := s1.toks) fun b o e => Heap.get?_push_of_some _ e, turn_str _ x t ty hty, ⟨_, Heap.get?_push_size _ rfl, rfl, rfl⟩, fun b hb => ?_, q⟩
    have e : b = s1.heap.objs.size := by simpa using hb
    subst e
    exact I1.fpOk (Nat.le_refl _) (I1.hok.fresh (Nat.le_refl _))
  cases ha : x.cps.all (· < 128)
  · exact wpAny_pyIter_wide ha (fin _ (.inr rfl))
  · exact wpAny_pyIter_ascii ha (fin _ (.inl rfl))
end
end L2

namespace L2
open PySem PySem.Spec PyProof.Rows

/-! ### a list's comprehension -/
section
variable {prog : Program} {w : World} {A : Around} {R : Result → Shared → Prop} {s : Shared}
theorem compLoop_own {elt target iter : Expr} {ifs : List Expr} {scope : Scope} {pos : Pos} {it acc : Value} {env : Env} (I : Nat → Shared → Prop)
    (turn : ∀ n s, I n s → wpAny (model prog w) A (pyNext it) (fun r s₁ => match r with
      | none => R (.ok .next) s₁
      | some v => wpAny (model prog w) A (letOwnedTupleGo target it v) (fun _ s₁' => wpAny (model prog w) A (assign target env v) (fun _ s₂ =>
          wpAny (model prog w) A (forIn ifs true fun c r => if r = true then do let ok ← isTrue c env (eval c env); pure (ForInStep.yield ok) else pure (ForInStep.yield r)) (fun ok s₃ =>
            if ok = true then wpAny (model prog w) A (eval elt env) (fun x s₄ =>
              wpAny (model prog w) A (call (.builtin "list.append") [acc, x]) (fun _ s₅ => ∃ m, m < n ∧ I m s₅) (fun _ _ => False) s₄) (fun _ _ => False) s₃
            else ∃ m, m < n ∧ I m s₃) (fun _ _ => False) s₂) (fun _ _ => False) s₁') (fun _ _ => False) s₁) (fun _ _ => False) s)
    (n : Nat) (h : I n s) :
    codeAny (model prog w) A (.compLoop (.ListComp elt [⟨target, iter, ifs, 0⟩] scope pos) 0 it acc env) R s := by
  refine codeAny_loop rfl I (fun n s hI => ?_) n h
  show wpAny _ A ((compTurn (.ListComp elt [⟨target, iter, ifs, 0⟩] scope pos) 0 it acc env).onRaise (fun x => do noteFrame x env; theTreesLotGoes x)) _ _ s
  refine wpAny_noted ?_
  rw [compTurn_list]
  refine wpAny_bind (wpAny_standAt (wpAny_bind (wpAny_mono (turn n s hI) (fun r s₁ h₁ => ?_) fun _ _ h' => h'.elim)))
  cases r with
  | none => exact wpAny_pure h₁
  | some v =>
    refine wpAny_bind (wpAny_mono h₁ (fun _ s₁' h₁' => ?_) fun _ _ h' => h'.elim)
    refine wpAny_bind (wpAny_mono h₁' (fun _ s₂ h₂ => wpAny_bind (wpAny_mono h₂ (fun ok s₃ h₃ => ?_) fun _ _ h' => h'.elim)) fun _ _ h' => h'.elim)
    cases ok with
    | false => exact wpAny_pure ⟨rfl, h₃⟩
    | true =>
      exact wpAny_bind (wpAny_bind (wpAny_mono h₃ (fun x s₄ h₄ => wpAny_bind (wpAny_mono h₄ (fun _ s₅ h₅ => wpAny_pure (wpAny_pure ⟨rfl, h₅⟩)) fun _ _ h' => h'.elim)) fun _ _ h' => h'.elim))
end

/-- the context of a comprehension's block -/
def cxComp (X : Cx) (scope : Scope) (cl : List (Str × Addr)) (C : Addr) (N' : List Str) (fp : List Addr) (pins : List (Addr × Obj)) (s : Shared) (H : Hp) : Cx where
  prog := X.prog
  w := X.w
  K := X.K
  mg := X.mg
  base := X.base
  A := X.A
  N := N'
  s₀ := s
  H₀ := H
  env := compEnvC scope cl C X.env
  outer := X.stack
  stack := X.stack
  ex := fp
  calm := X.calm
  fn := fun _ => false
  pn := X.pn ++ pins
  xe := fun _ _ => False
/-- the cells that the block sees -/
structure Caps (X : Cx) (scope : Scope) (cl : List (Str × Addr)) (cp : List (Nat × Str)) : Prop where
  kind : scope.kind = .function
  nocell : ∀ y ∈ scope.names, y.2 ≠ .cell
  names : ∀ y ∈ scope.names, y.2 = .local → scope.names.lookup y.1 = some .local
  clos : closureFor scope X.env = pure cl
  sub : ∀ x c, cl.lookup x = some c → X.env.cells.lookup x = some c
  has : ∀ x, ((relabel scope X.env).names.lookup x = some .cell ∨ (relabel scope X.env).names.lookup x = some .free) → ∃ c, cl.lookup x = some c
  at' : ∀ p ∈ cp, X.N[p.1]? = some p.2 ∧ (X.env.scope.names.lookup p.2 = some .cell ∨ X.env.scope.names.lookup p.2 = some .free) ∧ ((relabel scope X.env).names.lookup p.2 = some .cell ∨ (relabel scope X.env).names.lookup p.2 = some .free)
def capσ (cp : List (Nat × Str)) (σ : St) : St := cp.map fun p => (σ[p.1]?).getD none
section
variable {X : Cx} {pins : List (Addr × Obj)} {σ : St} {H : Hp} {s : Shared} {scope : Scope} {cl : List (Str × Addr)} {cp : List (Nat × Str)} {fp : List Addr} {x : Str}
theorem inv_comp (I : Inv X pins σ H s) (c : Caps X scope cl cp) (hf : ∀ b ∈ fp, FpOk X pins H b) (hfo : ∀ b ∈ fp, b < s.heap.objs.size) {h' : Heap} {ty : String} {tk : Nat} {m : Str → Option Value} (hm : h'.Ns s.heap.objs.size m)
    (sb : Heap.SameBut s.heap.objs.size (s.heap.push { cls := .type ty, data := .dict #[] }) h') :
    Inv (cxComp X scope cl s.heap.objs.size (x :: cp.map (·.2)) fp pins s H) [] (none :: capσ cp σ) H { s with heap := h', toks := tk } := by
  have old : ∀ b o, s.heap.get? b = some o → h'.get? b = some o := fun b o e => (sb.2 b (Nat.ne_of_lt (Heap.lt_size e))).trans (Heap.get?_push_of_some _ e)
  have hC : H s.heap.objs.size = none := I.hok.fresh (Nat.le_refl _)
  refine ⟨⟨I.ok.mod, c.kind, I.ok.glob, I.ok.blt, Nat.le_refl _, fun y z k h1 h2 => I.ok.inj y z k (c.sub _ _ h1) (c.sub _ _ h2), c.has, fun y k z => (Bool.noConfusion z), I.ok.hd, I.ok.frames, .inl rfl, fun b hb => ?_, fun b o e => I.bs b o e, Nat.le_trans I.ok.bsz I.sz, fun b o e hb => ?_, fun b hb hz => ?_, I.stack, I.stkFree⟩,
    rfl, I.bare, Un.kept old, ⟨m, hm, fun i y v h1 h2 h3 => ?_⟩, fun y k e => ?_, hC, fun y k e => I.freeC y k (c.sub y k e), fun p hp => ?_, I.hok.kept old, ?_⟩
  · obtain ⟨f0, f1, f2, f3, f4, f5⟩ := hf b hb
    exact ⟨Nat.ne_of_lt (hfo b hb), fun y k e => f4 y k (c.sub y k e)⟩
  · obtain ⟨f0, f1, f2, f3, f4, f5⟩ := hf b hb
    rcases f3 with z | z
    · exact I.ok.noex b o e z
    · exact absurd (Nat.lt_of_lt_of_le (Heap.lt_size (I.ok.bs b o e).1) z) (Nat.lt_irrefl _)
  · obtain ⟨f0, f1, f2, f3, f4, f5⟩ := hf b hb
    rcases List.mem_cons.mp (I.stkSub b hz) with e | e
    · exact f1 e
    · exact f2 e
  · cases i with
    | zero => simp at h2
    | succ i =>
      have h1' : (cp.map (·.2))[i]? = some y := by
        have z : (x :: cp.map (·.2))[i + 1]? = some y := h1
        rw [List.getElem?_cons_succ] at z
        exact z
      have h2' : (capσ cp σ)[i]? = some (some v) := by simpa using h2
      unfold capσ at h2'
      rw [List.getElem?_map] at h1' h2'
      cases e : cp[i]? with
      | none => rw [e] at h1'; cases h1'
      | some p =>
        rw [e] at h1' h2'
        simp only [Option.map_some, Option.some.injEq] at h1' h2'
        obtain ⟨k1, k2, k3⟩ := c.at' p (List.mem_of_getElem? e)
        subst h1'
        have h2'' : σ[p.1]? = some (some v) := by
          cases q : σ[p.1]? with
          | none => rw [q] at h2'; cases h2'
          | some z => rw [q] at h2'; simpa using h2'
        obtain ⟨m0, hn0, hl0⟩ := I.loc
        obtain ⟨u, r, l⟩ := hl0 p.1 p.2 v k1 h2'' (k2.elim (fun z => .inr (.inl z)) fun z => .inr (.inr z))
        refine ⟨u, r, .inr ⟨k3, ?_⟩⟩
        rcases l with ⟨z, _⟩ | ⟨_, cc, e1, e2⟩
        · have z' : X.env.scope.names.lookup p.2 = some .local := z
          rcases k2 with k | k <;> (rw [z'] at k; cases k)
        · obtain ⟨cc', e3⟩ := c.has p.2 k3
          have e4 := c.sub _ _ e3
          rw [e1] at e4
          cases e4
          obtain ⟨o, ho, hd⟩ := e2
          exact ⟨cc, e3, o, old _ _ ho, hd⟩
  · obtain ⟨v, o, ho, hd⟩ := I.cell y k (c.sub y k e)
    exact ⟨v, o, old _ _ ho, hd⟩
  · have hp' : p ∈ X.pn ++ pins := by
      rcases List.mem_append.mp hp with z | z
      · exact z
      · cases z
    obtain ⟨e, n, ne, nf, d⟩ := I.pin p hp'
    refine ⟨old _ _ e, n, Nat.ne_of_lt (Heap.lt_size e), fun hz => ?_, d⟩
    rcases List.mem_cons.mp (I.stkSub p.1 hz) with q | q
    · exact ne q
    · exact nf q
  · show (none :: capσ cp σ).length = (x :: cp.map (·.2)).length
    simp [capσ]
/-- behind the block -/
theorem Inv.uncomp {C : Addr} {N' : List Str} {σ' : St} {H' : Hp} {s' : Shared} {h'' : Heap} (I : Inv X pins σ H s) (hC : C = s.heap.objs.size) (hf : ∀ b ∈ fp, FpOk X pins H b) (J : Inv (cxComp X scope cl C N' fp pins s H) [] σ' H' s') (sb : Heap.SameBut C s'.heap h'') :
    Inv X pins σ H' { s' with heap := h'' } := by
  have ne : ∀ b o, s.heap.get? b = some o → b ≠ C := fun b o e => by rw [hC]; exact Nat.ne_of_lt (Heap.lt_size e)
  have B : Un (frs X.stack) fp H H' s.heap s'.heap := J.base
  refine I.call' (s' := { s' with heap := h'' }) (ch := fp) (show s'.os = s.os from J.os) ⟨fun b o e n hb hx => ?_, fun b o e n hb hx => ?_, B.free, fun b o e hx => ?_, B.tups, B.frzs, B.tbls⟩ (fun b ob e => ?_) J.bare fun b hb => ?_
  · exact (sb.2 b (ne b o e)).trans (B.keep b o e n hb hx)
  · obtain ⟨sl, q⟩ := B.slot b o e n hb hx
    exact ⟨sl, (sb.2 b (ne b o e)).trans q⟩
  · obtain ⟨o', q⟩ := B.there b o e hx
    exact ⟨o', (sb.2 b (ne b o e)).trans q⟩
  · have hfree : H' C = none := J.free
    refine (J.hok b ob e).stay (fun k w' hk q => (sb.2 k ?_).trans q) (fun _ q => q) fun _ _ q => q
    rintro rfl
    rcases hk with rfl | hk
    · rw [hfree] at e; cases e
    · rw [hfree] at hk; cases hk
  · obtain ⟨f0, f1, f2, f3, f4, f5⟩ := hf b hb
    exact ⟨f3, f1, f4, f5⟩
end

/-- the tests behind the for -/
def PTs (X : Cx) (ifs : List Expr) (t : TT) : Prop :=
  ∀ (pins : List (Addr × Obj)) (s : Shared) (σ : St) (H : Hp) (Q : Bool → Hp → Prop), Inv X pins σ H s → t σ H Q →
    wpAny (model X.prog X.w) X.A (forIn ifs true fun c r => if r = true then do let ok ← isTrue c X.env (eval c X.env); pure (ForInStep.yield ok) else pure (ForInStep.yield r)) (TP X pins σ Q) X.xe s
def tYes : TT := fun _ H Q => Q true H
theorem pts_nil {X : Cx} : PTs X [] tYes := fun _ _ _ H _ I h => wpAny_tests_nil ⟨H, I, h⟩
/-- the loop of a comprehension: W by the turn and a measure; the list grows at D -/
def tLoop (cp : List (Nat × Str)) (tt : TT) (te : TE) (σ : St) (J : It) (D : Addr) (Q : VK) (H1 : Hp) : Prop :=
  ∃ W : Nat → Nat → Hp → Prop, (∃ m, W 0 m (upd H1 D (.lst []))) ∧ ∀ i m H2, W i m H2 → (J.stop i H2 ∧ Q (.ref D) H2) ∨
    (J.go i H2 ∧ ∃ (N : VK) (N' : Hp → Prop), (∀ y H5, N y H5 → ∃ ys m', H5 D = some (.lst ys) ∧ ys.length < sizeLine ∧ m' < m ∧ W (i + 1) m' (upd H5 D (.lst (ys ++ [y])))) ∧ (∀ H4, N' H4 → ∃ m', m' < m ∧ W (i + 1) m' H4) ∧
      ∀ v H3, J.yld i H2 v H3 → tt (some v :: capσ cp σ) H3 fun b H4 => if b = true then te (some v :: capσ cp σ) H4 N else N' H4)
def tComp (cp : List (Nat × Str)) (wi : TI) (tt : TT) (te : TE) : TE := fun σ H Q => wi σ H fun J H1 => ∀ D, H1 D = none → tLoop cp tt te σ J D Q H1
section
variable {X : Cx} {scope : Scope} {cl : List (Str × Addr)} {cp : List (Nat × Str)} {x : Str} {px pos : Pos} {elt iter : Expr} {ifs : List Expr} {wi : TI} {tt : TT} {te : TE}
theorem comp_core {pins : List (Addr × Obj)} {σ : St} {H2 : Hp} {s2 : Shared} {it : Addr} {fp : List Addr} {tn : Nat → Heap → Prop} {J : It} {Q : VK} {R : Addr → Result → Shared → Prop} {E : Value → Shared → Prop} (c : Caps X scope cl cp) (hcalm : X.calm = true) (hx : scope.names.lookup x = some .local) (hnd : (x :: cp.map (·.2)).Nodup)
    (ht : ∀ C fp pins s H, PTs (cxComp X scope cl C (x :: cp.map (·.2)) fp pins s H) ifs tt) (he : ∀ C fp pins s H, PE (cxComp X scope cl C (x :: cp.map (·.2)) fp pins s H) elt te)
    (I2 : Inv X pins σ H2 s2) (T : Turn X.prog X.w X.K (.Name x px) J fp it tn) (st2 : tn 0 s2.heap) (f2 : ∀ b ∈ fp, FpOk X pins H2 b) (q : tLoop cp tt te σ J s2.heap.objs.size Q H2)
    (hR : ∀ (C : Addr) (H' : Hp) (s' : Shared), (∃ m, s'.heap.Ns C m) → X.s₀.heap.objs.size ≤ C → H' C = none → C ≠ X.env.locals → (∀ x c, X.env.cells.lookup x = some c → c ≠ C) → (∀ p ∈ X.pn ++ pins, p.1 ≠ C) → (∀ h'', Heap.SameBut C s'.heap h'' → Inv X pins σ H' { s' with heap := h'' }) → Q (.ref s2.heap.objs.size) H' → R C (.ok .next) s') :
    wpAny (model X.prog X.w) X.A (newList []) (fun acc s₃ => wpAny (model X.prog X.w) X.A (newFunctionEnv scope X.env.globals cl [] X.env.qual none .none (some X.env)) (fun cenv s₄ =>
      acc = .ref s2.heap.objs.size ∧ codeAny (model X.prog X.w) X.A (.compStart (.ListComp elt [⟨.Name x px, iter, ifs, 0⟩] scope pos) 0 (.ref it) acc { cenv with scope := relabel scope X.env }) (R cenv.locals) s₄) E s₃) E s2 := by
  obtain ⟨W, ⟨m0, w0⟩, turn⟩ := q
  refine wpAny_newObj_type ?_
  have I3 : Inv X pins σ (upd H2 s2.heap.objs.size (.lst [])) { s2 with heap := s2.heap.push { cls := .type "list", dict := none, data := .seq ([] : List Value).toArray } } :=
    I2.lnew (t' := s2.toks) (ys := []) (its := []) .nil (Nat.zero_le _)
  have fpo : ∀ b ∈ fp, b < s2.heap.objs.size := fun b hb => by
    obtain ⟨o, e, _⟩ := T.obj _ _ st2 b hb
    exact Heap.lt_size e
  have f3 : ∀ b ∈ fp, FpOk X pins (upd H2 s2.heap.objs.size (.lst [])) b := fun b hb => ⟨by rw [upd_ne (Nat.ne_of_lt (fpo b hb))]; exact (f2 b hb).1, (f2 b hb).2⟩
  generalize hs3 : ({ s2 with heap := s2.heap.push { cls := .type "list", dict := none, data := .seq ([] : List Value).toArray } } : Shared) = s3 at I3
  have e3 : s3.heap = s2.heap.push { cls := .type "list", dict := none, data := .seq ([] : List Value).toArray } := by rw [← hs3]
  have sz3 : s2.heap.objs.size < s3.heap.objs.size := by rw [e3, Heap.size_push]; exact Nat.lt_succ_self _
  refine wpAny_newFunctionEnv c.nocell (by intro y hy; cases hy) (fun h₁ hns sb => ?_) c.kind
  have J3 := inv_comp (x := x) (tk := s3.toks + ([] : List (Str × Value)).length) I3 c f3 (fun b hb => Nat.lt_trans (fpo b hb) sz3) hns sb
  refine ⟨rfl, ?_⟩
  have st3 : tn 0 h₁ := T.keep _ _ _ st2 fun b hb o e => (sb.2 b (Nat.ne_of_lt (Nat.lt_trans (fpo b hb) sz3))).trans (Heap.get?_push_of_some _ (by rw [e3]; exact Heap.get?_push_of_some _ e))
  generalize hX : cxComp X scope cl s3.heap.objs.size (x :: cp.map (·.2)) fp pins s3 (upd H2 s2.heap.objs.size (.lst [])) = X' at J3
  have eA : X'.A = X.A := by rw [← hX]; rfl
  have eP : X'.prog = X.prog := by rw [← hX]; rfl
  have ew : X'.w = X.w := by rw [← hX]; rfl
  have eK : X'.K = X.K := by rw [← hX]; rfl
  have ec : X'.calm = true := by rw [← hX]; exact hcalm
  have ee : X'.env = compEnvC scope cl s3.heap.objs.size X.env := by rw [← hX]; rfl
  have ex : X'.xe = fun _ _ => False := by rw [← hX]; rfl
  have fpX : ∀ {H' : Hp}, (∀ b ∈ fp, H' b = none) → ∀ b ∈ fp, FpOk X' [] H' b := fun hn b hb => by
    obtain ⟨f0, f1, f2', f3', f4, f5⟩ := f3 b hb
    subst hX
    refine ⟨hn b hb, Nat.ne_of_lt (Nat.lt_trans (fpo b hb) sz3), fun hz => ?_, .inl hb, fun y k e => f4 y k (c.sub y k e), fun p hp => ?_⟩
    · rcases List.mem_cons.mp (I3.stkSub b hz) with e | e
      · exact f1 e
      · exact f2' e
    · rcases List.mem_append.mp hp with z | z
      · exact f5 p z
      · cases z
  have pT := ht s3.heap.objs.size fp pins s3 (upd H2 s2.heap.objs.size (.lst []))
  have pE := he s3.heap.objs.size fp pins s3 (upd H2 s2.heap.objs.size (.lst []))
  have pG : PG X' (.Name x px) (gName 0) := by
    subst hX
    exact pg_name hnd rfl (.inl (lookup_relabel_local hx)) (.inr (lookup_relabel_local hx))
  rw [hX] at pT pE
  have loop : codeAny (model X.prog X.w) X.A (.compLoop (.ListComp elt [⟨.Name x px, iter, ifs, 0⟩] scope pos) 0 (.ref it) (.ref s2.heap.objs.size) (compEnvC scope cl s3.heap.objs.size X.env)) (R s3.heap.objs.size) { s3 with heap := h₁, toks := s3.toks + ([] : List (Str × Value)).length } := by
    refine compLoop_own (fun n s' => ∃ i o H', Inv X' [] (o :: capσ cp σ) H' s' ∧ tn i s'.heap ∧ (∀ b ∈ fp, H' b = none) ∧ W i n H') ?_ m0 ⟨0, none, _, J3, st3, fun b hb => (f3 b hb).1, w0⟩
    rintro n s5 ⟨i, o, H5, J5, st5, fr5, w5⟩
    rcases turn i n H5 w5 with ⟨stop, qn⟩ | ⟨go, N, N', hN, hN', step⟩
    · have z := T.done X' eP ew eK ec i [] s5 _ H5 (fun _ _ => False) J5 (fpX fr5) st5 stop
      rw [eA] at z
      refine thn z fun r s6 ⟨hr, J6⟩ => ?_
      subst hr
      subst hX
      obtain ⟨m6, hn6, _⟩ := J6.loc
      refine hR s3.heap.objs.size H5 s6 ⟨m6, hn6⟩ I3.sz J6.free (Nat.ne_of_gt I3.lt) (fun y k e z => ?_) (fun p hp z => ?_) (fun h'' sb' => I3.uncomp rfl f3 J6 sb') qn
      · obtain ⟨v, w'⟩ := I3.cell y k e
        exact absurd w'.lt (by rw [z]; exact Nat.lt_irrefl _)
      · exact absurd (Heap.lt_size (I3.pin p hp).1) (by rw [z]; exact Nat.lt_irrefl _)
    · have z := T.item X' eP ew eK ec i [] s5 _ H5 (fun _ _ => False) J5 (fpX fr5) st5 go
      rw [eA] at z
      refine thn z fun r s6 ⟨u, hr, h6⟩ => ?_
      subst hr
      refine thn h6 fun _ s7 ⟨v, H7, J7, r7, y7, st7, fr7⟩ => ?_
      have J7' := J7.pinned (fpX fr7) (T.obj _ _ st7)
      have z8 := pG _ s7 _ H7 v u (fun σ' H' => σ' = some v :: capσ cp σ ∧ H' = H7) J7' r7 ⟨rfl, rfl⟩
      rw [eA, eP, ew, ee, ex] at z8
      refine thn z8 fun _ s8 ⟨σ8, H8, J8, e8, e8'⟩ => ?_
      subst e8 e8'
      have z9 := pT _ s8 _ H8 _ J8 (step v H8 y7)
      rw [eA, eP, ew, ee, ex] at z9
      refine thn z9 fun ok s9 ⟨H9, J9, q9⟩ => ?_
      have fin : ∀ {H' : Hp} {s' : Shared}, Inv X' ([] ++ pinsAt fp s7.heap) (some v :: capσ cp σ) H' s' → (∃ m', m' < n ∧ W (i + 1) m' H') → ∃ m, m < n ∧ ∃ i o H', Inv X' [] (o :: capσ cp σ) H' s' ∧ tn i s'.heap ∧ (∀ b ∈ fp, H' b = none) ∧ W i m H' := fun {H' s'} K' ⟨m', hm, w'⟩ => by
        refine ⟨m', hm, i + 1, some v, H', K'.unpinned, T.keep _ _ _ st7 fun b hb ob e => (K'.pin (b, ob) (List.mem_append_right _ (List.mem_append_right _ (mem_pinsAt hb e)))).1, fun b hb => ?_, w'⟩
        obtain ⟨ob, e, d⟩ := T.obj _ _ st7 b hb
        exact (K'.pin (b, ob) (List.mem_append_right _ (List.mem_append_right _ (mem_pinsAt hb e)))).2.1
      cases ok with
      | false =>
        rw [if_neg Bool.false_ne_true] at q9 ⊢
        exact fin J9 (hN' _ q9)
      | true =>
        rw [if_pos rfl] at q9 ⊢
        have z10 := pE _ s9 _ H9 _ J9 q9
        rw [eA, eP, ew, ee, ex] at z10
        refine thn z10 fun u10 s10 ⟨y, H10, J10, r10, n10⟩ => ?_
        obtain ⟨ys, m', hD, hz, hm, w'⟩ := hN y H10 n10
        have z11 := mt_append (X := X') _ s10 _ H10 (.ref s2.heap.objs.size) [y] (.ref s2.heap.objs.size) [u10] (fun _ H' => H' = upd H10 s2.heap.objs.size (.lst (ys ++ [y]))) J10 rfl (.cons r10 .nil) ⟨_, ys, y, rfl, rfl, hD, hz, rfl⟩
        rw [eA, eP, ew, ex] at z11
        refine thn z11 fun u11 s11 ⟨y', H11, J11, r11, e11⟩ => ?_
        subst e11
        exact fin J11 ⟨m', hm, w'⟩
  exact codeAny_compStart_list loop (T.self _ 0 _ _ _ st3 loop)
theorem pe_comp (c : Caps X scope cl cp) (hcalm : X.calm = true) (hx : scope.names.lookup x = some .local) (hnd : (x :: cp.map (·.2)).Nodup) (hi : PI X (.Name x px) iter wi)
    (ht : ∀ C fp pins s H, PTs (cxComp X scope cl C (x :: cp.map (·.2)) fp pins s H) ifs tt) (he : ∀ C fp pins s H, PE (cxComp X scope cl C (x :: cp.map (·.2)) fp pins s H) elt te)
    (hs : ∀ v, foldedSetIterable iter X.env v = pure v := by intro _; rfl) : PE X (.ListComp elt [⟨.Name x px, iter, ifs, 0⟩] scope pos) (tComp cp wi tt te) := by
  intro pins s σ H Q I h
  rw [eval_ListComp]
  refine wpAny_comprehension_free (use := none) (g := ⟨.Name x px, iter, ifs, 0⟩) (gs := []) (cl := cl) rfl hs c.clos c.kind c.names ?_
  refine thn (hi pins s σ H _ I h) fun v s1 h1 => thn h1 fun itv s2 h2 => ?_
  obtain ⟨it, fp, tn, J, H2, e, I2, T, st2, f2, q⟩ := h2
  subst e
  refine thn (comp_core (iter := iter) (pos := pos) (R := fun C => compPost (model X.prog X.w) X.A X.xe none (EP X pins σ Q) (.ref s2.heap.objs.size) C) c hcalm hx hnd ht he I2 T st2 f2 (q _ (I2.hok.fresh (Nat.le_refl _))) ?_) fun acc s3 h3 => thn h3 fun cenv s4 h4 => ?_
  · rintro C H' s' ⟨m, hn⟩ _ _ _ _ _ hI hq
    exact ⟨m, hn, fun h'' sb => ⟨.ref s2.heap.objs.size, H', hI h'' sb, rfl, hq⟩⟩
  · obtain ⟨e, h4⟩ := h4
    subst e
    exact h4
end
end L2

namespace L2
open PySem PySem.Spec PyProof.Rows

section
variable {X : Cx} {scope : Scope} {cl : List (Str × Addr)} {cp : List (Nat × Str)} {x : Str} {px pos : Pos} {elt iter : Expr} {ifs : List Expr} {wi : TI} {tt : TT} {te : TE}
end

/-! ### all, join -/
theorem bools_of : ∀ {bs : List Bool} {us : List Value}, Vals (bs.map V.bl) us → ∀ (i : Nat) (v : Value), us[i]? = some v → ∃ b : Bool, bs[i]? = some b ∧ v = Value.bool b
  | [], _, .nil, i, v, h => by simp at h
  | b :: bs, u :: us, .cons r t, 0, v, h => by
    simp at h
    subst h
    cases r
    exact ⟨b, rfl, rfl⟩
  | b :: bs, u :: us, .cons r t, i + 1, v, h => by
    obtain ⟨b', e1, e2⟩ := bools_of t i v (by simpa using h)
    exact ⟨b', by simpa using e1, e2⟩
section
variable {X : Cx}
theorem call_all (hc : X.calm = true) : CallR X (.builtin "all") (fun xs H Q => ∃ (a : Addr) (bs : List Bool), xs = [.ref a] ∧ SqL X.K H a (bs.map V.bl) ∧ Q (.bl (bs.all id)) H) := by
  intro pins s σ H xs us Q I r h
  obtain ⟨a, bs, rfl, hq, q⟩ := h
  obtain ⟨u, rfl, ru⟩ := r.one
  cases ru
  obtain ⟨its, rv, pl, hz⟩ := I.list hq
  have hl : s.heap.IsList a its.toArray := pl.isList
  have hlt : a < s.heap.objs.size := by obtain ⟨_, e, _⟩ := hl; exact Heap.lt_size e
  refine call_all_walk (wpAny_pyIter_list hl ?_)
  refine ⟨s.heap.objs.size, [s.heap.objs.size, a], [s.heap.objs.size], its.toArray.size, _, _, fun i => (bs[i]?).getD true, rfl, Walks.list (A := X.A.in1) (I.ok.hd hc) _ a (Nat.ne_of_lt hlt) its.toArray,
    ⟨⟨_, Heap.get?_push_size _ rfl, rfl, rfl⟩, hl.push _⟩, fun i v s' Q' E' hP hQ => ?_, fun h' tk hk => ?_⟩
  · obtain ⟨b, e, rfl⟩ := bools_of rv i v (by simpa using hP)
    simp only [e, Option.getD_some] at hQ
    exact wpAny_truthy_bool hQ
  · have e : ((List.range its.toArray.size).all fun i => (bs[i]?).getD true) = bs.all id := by
      have := rv.length
      rw [List.length_map] at this
      rw [List.size_toArray, ← this]
      exact PyProof.Rows.LSm.range_all bs
    rw [e]
    refine ⟨.bl _, H, I.kept (t' := tk) fun b o e' => hk b o (fun hm => ?_) (Heap.get?_push_of_some _ e'), rfl, q⟩
    rw [List.mem_singleton.mp hm] at e'
    exact Nat.lt_irrefl _ (Heap.lt_size e')
end

/-! ### a def that is known: its promise and how it is called -/
structure Known (P : Program) (w : World) (K : PySem.W.Frag) (mg : Str → Option Value) (base : Heap) (CX : CXT) (k : Nat) (x : Str) (ps : List Str) (sp : Sp) : Prop where
  ex : ∃ f fd, FnOk P w K mg base CX k f fd ps sp ∧ mg x = some (.ref f) ∧ PySem.W.keepIn K (.ref f) = true ∧ Binds K fd ps []
section
variable {X : Cx} {CX : CXT} {k : Nat} {ps : List Str} {sp : Sp} {E : XK} {x : Str} {p pos : Pos} {e : Expr} {es : List Expr} {t : TA}
theorem pe_callN (G : Known X.prog X.w X.K X.mg X.base CX k x ps sp) (hr : Room k X.A) (hx : Passes CX X E) (ha : PA X (e :: es) t) (hg : Gl X x := by rfl) (hdb : (x == ("__debug__" : Str)) = false := by decide)
    (he : starEach (e :: es) X.env = (false, eval e X.env) :: starEach es X.env := by rfl) (hpl : (backTo pos (starEach es X.env)).any (·.1) = false := by rfl) : PE X (.Call (.Name x p) (e :: es) [] pos) (tCall sp [] E t) := by
  obtain ⟨f, fd, F, hm, hk, hb⟩ := G.ex
  exact pe_call F hr hg hm hk hb .nil hx ha hdb he hpl
end
/-! ### the forms of a comprehension that one uses: Pv by the turn, the list so far, the heap (in which it stands at D) -/
def Nxt (D : Addr) (Pv : Nat → List V → Hp → Prop) (i : Nat) (ys : List V) : VK := fun y H5 => H5 D = some (.lst ys) ∧ ys.length < sizeLine ∧ Pv (i + 1) (ys ++ [y]) (upd H5 D (.lst (ys ++ [y])))
theorem comp_it {cp : List (Nat × Str)} {te : TE} {σ : St} {J : It} {n : Nat} {D : Addr} {Q : VK} {H1 : Hp} (Pv : Nat → List V → Hp → Prop) (h0 : Pv 0 [] (upd H1 D (.lst []))) 
    (hg : ∀ i ys H, H D = some (.lst ys) → Pv i ys H → (i < n → J.go i H) ∧ (i = n → J.stop i H))
    (hs : ∀ i ys H v H', i < n → H D = some (.lst ys) → Pv i ys H → J.yld i H v H' → te (some v :: capσ cp σ) H' (Nxt D Pv i ys))
    (hd : ∀ ys H, H D = some (.lst ys) → Pv n ys H → Q (.ref D) H) : tLoop cp tYes te σ J D Q H1 := by
  refine ⟨fun i m H => m = n - i ∧ i ≤ n ∧ ∃ ys, H D = some (.lst ys) ∧ Pv i ys H, ⟨n, by simp, Nat.zero_le _, [], upd_same, h0⟩, ?_⟩
  rintro i m H ⟨rfl, hi, ys, hD, p⟩
  by_cases hlt : i < n
  · refine .inr ⟨(hg i ys H hD p).1 hlt, Nxt D Pv i ys, fun _ => False, fun y H5 ⟨h1, h2, h3⟩ => ⟨ys, n - (i + 1), h1, h2, by omega, rfl, hlt, _, upd_same, h3⟩, fun _ z => z.elim, fun v H' y => ?_⟩
    exact hs i ys H v H' hlt hD p y
  · have e : i = n := by omega
    subst e
    exact .inl ⟨(hg i ys H hD p).2 rfl, hd ys H hD p⟩
theorem comp_range {cp : List (Nat × Str)} {te : TE} {σ : St} {lo : Int} {n : Nat} {D : Addr} {Q : VK} {H1 : Hp} (Pv : Nat → List V → Hp → Prop) (h0 : Pv 0 [] (upd H1 D (.lst [])))
    (hs : ∀ i ys H, i < n → H D = some (.lst ys) → Pv i ys H → te (some (.int (lo + i)) :: capσ cp σ) H (Nxt D Pv i ys))
    (hd : ∀ ys H, H D = some (.lst ys) → Pv n ys H → Q (.ref D) H) : tLoop cp tYes te σ (Itr lo n) D Q H1 :=
  comp_it (n := n) Pv h0 (fun i ys H _ _ => ⟨fun h => h, fun h => by subst h; exact Nat.le_refl _⟩) (fun i ys H v H' hi hD p y => by
    obtain ⟨e, rfl⟩ := y
    subst e
    exact hs i ys _ hi hD p) hd
theorem comp_str {cp : List (Nat × Str)} {te : TE} {σ : St} {x : Str} {D : Addr} {Q : VK} {H1 : Hp} (Pv : Nat → List V → Hp → Prop) (h0 : Pv 0 [] (upd H1 D (.lst [])))
    (hs : ∀ i c ys H, x.cps[i]? = some c → H D = some (.lst ys) → Pv i ys H → te (some (.str ⟨#[c]⟩) :: capσ cp σ) H (Nxt D Pv i ys))
    (hd : ∀ ys H, H D = some (.lst ys) → Pv x.cps.size ys H → Q (.ref D) H) : tLoop cp tYes te σ (Its x) D Q H1 :=
  comp_it (n := x.cps.size) Pv h0 (fun i ys H _ _ => ⟨fun h => h, fun h => by subst h; exact Nat.le_refl _⟩) (fun i ys H v H' hi hD p y => by
    obtain ⟨e, c, hc, rfl⟩ := y
    subst e
    exact hs i c ys _ hc hD p) hd
theorem comp_list {K : PySem.W.Frag} {cp : List (Nat × Str)} {te : TE} {σ : St} {a : Addr} {xs : List V} {D : Addr} {Q : VK} {H1 : Hp} (Pv : Nat → List V → Hp → Prop) (h0 : Pv 0 [] (upd H1 D (.lst [])))
    (hl : ∀ i ys H, H D = some (.lst ys) → Pv i ys H → SqL K H a xs)
    (hs : ∀ i x ys H, xs[i]? = some x → H D = some (.lst ys) → Pv i ys H → te (some x :: capσ cp σ) H (Nxt D Pv i ys))
    (hd : ∀ ys H, H D = some (.lst ys) → Pv xs.length ys H → Q (.ref D) H) : tLoop cp tYes te σ (Itl K a) D Q H1 :=
  comp_it (n := xs.length) Pv h0 (fun i ys H hD p => ⟨fun h => ⟨xs, xs[i], hl i ys H hD p, by simp [h]⟩, fun h => by subst h; exact ⟨xs, hl _ ys H hD p, Nat.le_refl _⟩⟩) (fun i ys H v H' hi hD p y => by
    obtain ⟨e, y⟩ := y
    subst e
    exact hs i v ys _ (y xs (hl i ys _ hD p)) hD p) hd
end L2

namespace L2
open PySem PySem.Spec PyProof.Rows

/-! ### the kinds of plain things, isinstance of them -/
inductive Kd where
  | non | bl | int | str | lst | tup | dct
  deriving DecidableEq
def Kd.nm : Kd → String
  | .non => "NoneType" | .bl => "bool" | .int => "int" | .str => "str" | .lst => "list" | .tup => "tuple" | .dct => "dict"
theorem kit_int (K : PySem.W.Frag) (a : Kd) : PySem.W.kitOne K (.type a.nm) (.type "int") = some (decide (a = .int ∨ a = .bl)) := by cases a <;> kernel_rfl
theorem kit_bool (K : PySem.W.Frag) (a : Kd) : PySem.W.kitOne K (.type a.nm) (.type "bool") = some (decide (a = .bl)) := by cases a <;> kernel_rfl
theorem kit_str (K : PySem.W.Frag) (a : Kd) : PySem.W.kitOne K (.type a.nm) (.type "str") = some (decide (a = .str)) := by cases a <;> kernel_rfl
theorem kit_list (K : PySem.W.Frag) (a : Kd) : PySem.W.kitOne K (.type a.nm) (.type "list") = some (decide (a = .lst)) := by cases a <;> kernel_rfl
theorem kit_tuple (K : PySem.W.Frag) (a : Kd) : PySem.W.kitOne K (.type a.nm) (.type "tuple") = some (decide (a = .tup)) := by cases a <;> kernel_rfl
theorem kit_dict (K : PySem.W.Frag) (a : Kd) : PySem.W.kitOne K (.type a.nm) (.type "dict") = some (decide (a = .dct)) := by cases a <;> kernel_rfl
def kdD : PyData → Kd
  | .none => .non | .bool _ => .bl | .int _ => .int | .str _ => .str | .list _ => .lst | .tuple _ => .tup | .dict _ => .dct
/-- isinstance(x, T), T a built-in type -/
theorem call_isT {X : Cx} : CallR X (.builtin "isinstance") (fun xs H Q => ∃ x T d k, xs = [x, .ty T] ∧ Dt X.K H x d ∧ PySem.W.kitOne X.K (.type (kdD d).nm) (.type T) = some k ∧ Q (.bl k) H) := by
  intro pins s σ H xs us Q I r h
  obtain ⟨x, T, d, k, rfl, hd, e, q⟩ := h
  obtain ⟨u, c, rfl, r1, r2⟩ := r.two
  cases r2
  have fin : ∀ tk, EP X pins σ Q (.bool k) { s with toks := tk } := fun tk => ⟨.bl k, H, I.tok tk, rfl, q⟩
  cases hd with
  | non => cases r1; exact PySem.W.kia_one PySem.W.kitx_none I.kIn True.intro e (fun z => nomatch z) fin
  | bl b => cases r1; exact PySem.W.kia_one PySem.W.kitx_bool I.kIn True.intro e (fun z => nomatch z) fin
  | int i => obtain ⟨t, rfl⟩ := r1; exact PySem.W.kia_one PySem.W.kitx_int I.kIn True.intro e (fun z => nomatch z) fin
  | str z => obtain ⟨t, rfl⟩ := r1; exact PySem.W.kia_one PySem.W.kitx_str I.kIn True.intro e (fun z => nomatch z) fin
  | lst hq _ =>
    cases r1
    obtain ⟨its, _, ⟨o, n, eo, hc, _, _⟩, _⟩ := I.list hq
    exact PySem.W.kia_one PySem.W.kitx_list I.kIn ⟨o, eo, hc⟩ e (fun z => nomatch z) fin
  | tup hq _ =>
    cases r1
    obtain ⟨its, _, ⟨o, eo, hc, _⟩, _⟩ := I.tuple hq
    exact PySem.W.kia_one PySem.W.kitx_tuple I.kIn ⟨o, eo, hc⟩ e (fun z => nomatch z) fin
  | dK ea =>
    cases r1
    obtain ⟨_, _, vs, _, o, es, ep, h1, h2, _⟩ := I.hok _ _ ea
    exact PySem.W.kia_one PySem.W.kitx_dict I.kIn ⟨o, h1, h2.1⟩ e (fun z => nomatch z) fin
  | dT ea =>
    cases r1
    obtain ⟨_, _, zs, _, o, es, ep, h1, h2, _⟩ := I.hok _ _ ea
    exact PySem.W.kia_one PySem.W.kitx_dict I.kIn ⟨o, h1, h2.1⟩ e (fun z => nomatch z) fin

/-! ### no cell is caught -/
theorem caps0 {X : Cx} {scope : Scope} (kind : scope.kind = .function := by rfl) (plain : ∀ y ∈ scope.names, y.2 = .local ∨ y.2 = .globalImplicit := by decide) (names : ∀ y ∈ scope.names, y.2 = .local → scope.names.lookup y.1 = some .local := by decide +kernel) : Caps X scope [] [] where
  kind := kind
  nocell := fun y hy z => by rcases plain y hy with h | h <;> rw [h] at z <;> cases z
  names := names
  clos := closureFor_none fun y hy z => by rcases plain y hy with h | h <;> rw [h] at z <;> cases z
  sub := fun x c e => by cases e
  has := fun x h => by
    have hm : ∀ (k : NameKind), (relabel scope X.env).names.lookup x = some k → k = .local ∨ k = .globalImplicit := fun k e => by
      have m := PySem.mem_of_lookup e
      unfold relabel at m
      obtain ⟨⟨n, k'⟩, hy, e'⟩ := List.mem_map.mp m
      have q := plain _ hy
      have nf : (k' == NameKind.free) = false := by rcases q with h | h <;> (have h' : k' = _ := h; subst h'; rfl)
      simp only [nf, Bool.false_and, Bool.false_eq_true, if_false] at e'
      have : k' = k := congrArg (·.2) e'
      rw [← this]
      exact q
    rcases h with h | h
    · rcases hm _ h with z | z <;> cases z
    · rcases hm _ h with z | z <;> cases z
  at' := fun p hp => by cases hp

/-! ### a def of the text -/
structure Def (K : PySem.W.Frag) (mg : Str → Option Value) (x : Str) (st : Stmt) : Prop where
  ex : ∃ f fd, Fun K x x st f fd ∧ mg x = some (.ref f)
section
variable {P : Program} {w : World} {K : PySem.W.Frag} {mg : Str → Option Value} {base : Heap}
theorem top_def {h : Heap} {x : Str} {st : Stmt} {f : Addr} {oc : Value} {od an : Option Addr} {osl : Array (Option Value)} {kV doc pm cdv ct : Value} (X : K.In h) (G : h.Ns mainGlobals mg) (a : PySem.W.nsIn K mainGlobals x = some (some (.ref f)))
    (l : K.lookup f = some ⟨oc, od, .func (PySem.W.fnOf x x (defArgs st) (defBody st) (defScope st) .none kV doc pm an cdv ct), osl⟩) (c : PySem.W.codeIn K cdv x = true) (k : PySem.W.keepIn K (.ref f) = true) : Def K mg x st :=
  ⟨f, _, fun_mk l c k, PySem.W.mg_of X G a⟩
theorem Def.known {x : Str} {st : Stmt} {N ps : List Str} {k : Nat} {sp : Sp} (D : Def K mg x st) (S : FnScope N ps (defScope st))
    (hb : ∀ (kV doc pm : Value) (an : Option Addr) (cdv ct : Value) (us : List Value), us.length = ps.length → bindArgs (PySem.W.fnOf x x (defArgs st) (defBody st) (defScope st) .none kV doc pm an cdv ct) ⟨us, []⟩ = pure (ps.zip us))
    (len : ∀ vs H Q E, sp vs H Q E → vs.length = ps.length)
    (hbody : ∀ (f : Addr) (cdv : Value) (A : Around) (outer : List Env) (s : Shared) (H : Hp) (vs : List V) (Q : VK) (E : XK), Room k (A.deeper (envOfC x (defScope st) s.heap.objs.size f cdv)) → sp vs H Q E →
      ∃ t, PSs (cxOf CX0 P w K mg base N x (defScope st) f cdv A outer s H E).nox (defBody st) t ∧ t { nx := fun _ H' => Q .non H', rt := Q } (start N vs) H) : Known P w K mg base CX0 (k + 1) x ps sp := by
  obtain ⟨f, fd, F, hm⟩ := D.ex
  exact ⟨f, fd, F.ok S len fun cdv A outer s H vs Q E hr h => hbody f cdv A outer s H vs Q E hr h, hm, F.kp, F.binds hb⟩
end

/-! ### heaps that grow -/
theorem Same.new {H : Hp} {D : Addr} {o : HO} (h : H D = none) : Same H (upd H D o) := fun b u e => by rw [upd_ne (ne_of_none e h)]; exact e
/-- a new thing is turned -/
theorem Same.on {H H2 : Hp} {D : Addr} {o : HO} (e : Same H H2) (h : H D = none) : Same H (upd H2 D o) := fun b u z => by rw [upd_ne (ne_of_none z h)]; exact e b u z

/-! ### a new list, a new tuple of data -/
theorem new_tup {K : PySem.W.Frag} {H : Hp} {p : Addr} {xs : List V} {ds : List PyData} (hp : H p = none) (hall : DtAll K H xs ds) : Same H (upd H p (.tup xs)) ∧ Dt K (upd H p (.tup xs)) (.ref p) (.tuple ds) := ⟨Same.new hp, .tup (SqT.of upd_same) (hall.same (Same.new hp))⟩
theorem new_lst {K : PySem.W.Frag} {H : Hp} {p : Addr} {xs : List V} {ds : List PyData} (hp : H p = none) (hall : DtAll K H xs ds) : Same H (upd H p (.lst xs)) ∧ Dt K (upd H p (.lst xs)) (.ref p) (.list ds) := ⟨Same.new hp, .lst (SqL.of upd_same) (hall.same (Same.new hp))⟩

/-! ### texts -/
abbrev one (c : Nat) : Str := ⟨#[c]⟩
theorem at_some {α : Type} (xs : List α) (i : Int) (h0 : 0 ≤ i) (h : i < xs.length) : ∃ v, atI xs i = some v ∧ xs[i.toNat]? = some v := by
  have e : i = (i.toNat : Int) := by omega
  have hl : i.toNat < xs.length := by omega
  generalize i.toNat = j at e hl
  subst e
  exact ⟨_, atI_nat (List.getElem?_eq_getElem hl), List.getElem?_eq_getElem hl⟩
theorem DtAll.pick {K : PySem.W.Frag} {H : Hp} {xs : List V} {ds : List PyData} {i : Int} (all : DtAll K H xs ds) (h0 : 0 ≤ i) (h : i < ds.length) : ∃ v d, atI xs i = some v ∧ ds[i.toNat]? = some d ∧ Dt K H v d := by
  obtain ⟨v, hat, hv⟩ := at_some xs i h0 (by rw [all.length]; exact h)
  obtain ⟨d, hd, hdt⟩ := all.get hv
  exact ⟨v, d, hat, hd, hdt⟩
theorem at_map (ns : List Int) (i : Int) (h0 : 0 ≤ i) (h : i < ns.length) : atI (ns.map V.int) i = some (V.int (ns.getD i.toNat 0)) := by
  have e : i = (i.toNat : Int) := by omega
  have hl : i.toNat < ns.length := by omega
  generalize i.toNat = j at e hl
  subst e
  refine atI_nat ?_
  rw [List.getElem?_map, List.getElem?_eq_getElem hl]
  simp [List.getD, hl]

/-! ### data of texts and ints -/
theorem dt_ints {K : PySem.W.Frag} {H : Hp} : ∀ zs : List Int, DtAll K H (zs.map V.int) (zs.map PyData.int)
  | [] => .nil
  | z :: r => .cons (.int z) (dt_ints r)
theorem lay_ints : ∀ zs : List Int, PyData.canLayAll0 (zs.map PyData.int) = true ∧ PyData.depthAll (zs.map PyData.int) = 0
  | [] => ⟨rfl, rfl⟩
  | z :: r => by
    obtain ⟨h1, h2⟩ := lay_ints r
    constructor
    · rw [List.map_cons, PyData.canLayAll0, h1]; rfl
    · rw [List.map_cons, PyData.depthAll, h2]; rfl
theorem lay_strs : ∀ zs : List Str, (∀ z ∈ zs, PyData.canLay0 (.str z) = true) → PyData.canLayAll0 (zs.map PyData.str) = true ∧ PyData.depthAll (zs.map PyData.str) = 0
  | [], _ => ⟨rfl, rfl⟩
  | z :: r, h => by
    obtain ⟨h1, h2⟩ := lay_strs r fun y hy => h y (List.mem_cons_of_mem _ hy)
    constructor
    · rw [List.map_cons, PyData.canLayAll0, h1, h z List.mem_cons_self]; rfl
    · rw [List.map_cons, PyData.depthAll, h2]; rfl
theorem sl {n : Nat} (h : n ≤ 1000 := by simp) : n ≤ sizeLine := Nat.le_of_lt (small1000 h)

/-! ### names of Python's own -/
theorem b_all : bootBuiltins "all" = some (.builtin "all") := by kernel_rfl
theorem b_isinstance : bootBuiltins "isinstance" = some (.builtin "isinstance") := by kernel_rfl
theorem b_abs : bootBuiltins "abs" = some (.builtin "abs") := by kernel_rfl
theorem b_len : bootBuiltins "len" = some (.builtin "len") := by kernel_rfl
theorem b_int : bootBuiltins "int" = some (.type "int") := by kernel_rfl
theorem b_bool : bootBuiltins "bool" = some (.type "bool") := by kernel_rfl
theorem b_str : bootBuiltins "str" = some (.type "str") := by kernel_rfl
theorem b_list : bootBuiltins "list" = some (.type "list") := by kernel_rfl
theorem b_tuple : bootBuiltins "tuple" = some (.type "tuple") := by kernel_rfl
theorem b_dict : bootBuiltins "dict" = some (.type "dict") := by kernel_rfl
end L2

namespace L2
open PySem PySem.Spec PyProof.Rows

/-! ### exceptions -/
/-- an exception that left a frame: its object at ea, its record at T -/
def Fly (h : Heap) (ea T : Addr) (C : Value) : Prop :=
  ∃ oe vs oT ts, h.get? ea = some oe ∧ oe.cls = C ∧ oe.dict = none ∧ oe.data = .fields vs ∧ vs[1]? = some (.ref T) ∧ T ≠ ea ∧ h.get? T = some oT ∧ oT.data = .fields ts ∧ ts[3]? = some .none
/-- what passing through the frames fs changes: the exception's own objects, the frames' slots -/
structure Flew (fs own : List Addr) (h h' : Heap) : Prop where
  keep : ∀ b o, b ∉ own → b ∉ fs → h.get? b = some o → h'.get? b = some o
  slot : ∀ b o, b ∉ own → h.get? b = some o → ∃ sl, h'.get? b = some { o with slots := sl }
theorem dict_mapFields (o : Obj) (g : Array Value → Array Value) : (o.mapFields g).dict = o.dict := by
  obtain ⟨c, d, dt, sl⟩ := o
  cases dt <;> rfl
section
variable {M : Model} {A : Around} {E : Value → Shared → Prop} {s : Shared} {base : Heap} {env : Env} {outer : List Env} {L ea T : Addr} {C : Value}
theorem entry_laid {oe : Obj} {vs : Array Value} {head : Value} {hadNext : Bool} {Q : Unit → Shared → Prop} (hfr : A.frames = some (env :: outer)) (hl : s.heap.FunFrames base (env :: outer)) (hf : env.frame = some L)
    (he : s.heap.get? ea = some oe) (hdn : oe.dict = none) (hd : oe.data = .fields vs) (hsz : 1 < vs.size)
    (k : ∀ h' T', s.heap.objs.size ≤ T' → Fly h' ea T' oe.cls → Flew (frs (env :: outer)) [ea] s.heap h' → Q () { s with heap := h' }) :
    wpAny M A (do let a ← frameOf env; let pl ← entryPlaceOf L hadNext; let b ← EntryCells.newEntry head a .none (rawInt L) .none pl; setField (.ref ea) 1 b) (fun _ s' => wpAny M A (setFlight (.ref ea) none) Q E s') E s := by
  have nfr : ea ∉ frs (env :: outer) := fun hm => by
    obtain ⟨_, o, ho, hnf⟩ := hl.mem hm
    rw [he] at ho
    cases ho
    exact hnf vs hd
  refine wpAny_bind (wpAny_frameOf_fun hfr hl hf fun g so => ?_)
  refine wpAny_bind (wpAny_entryPlaceOf fun pl hpl => ?_)
  unfold EntryCells.newEntry newFields
  refine wpAny_bind (wpAny_newObj_type ?_ (hpl.sizeOk5 _ _ _ _ _))
  have hts : 3 < ([head, .ref L, .none, rawInt L, .none] ++ (if pl.isEmpty then List.replicate 6 Value.none else pl)).toArray.size := by
    rw [List.size_toArray, List.length_append]
    exact Nat.lt_of_lt_of_le (by decide : 3 < 5) (Nat.le_add_right _ _)
  generalize ([head, .ref L, .none, rawInt L, .none] ++ (if pl.isEmpty then List.replicate 6 Value.none else pl)).toArray = ts at hts
  have g1 : g.get? ea = some oe := (so.2.1 ea nfr).trans he
  have gT : g.objs.size = s.heap.objs.size := so.1
  have neT : g.objs.size ≠ ea := Nat.ne_of_gt (Heap.lt_size g1)
  have g2 := Heap.get?_push_of_some (h := g) ({ cls := .type "traceback", dict := none, data := .fields ts } : Obj) g1
  refine wpAny_setField g2 hd hsz ?_
  have d3 := Obj.data_mapFields hd (·.setIfInBounds 1 (Value.ref g.objs.size))
  have g3 := Heap.get?_update_self (Obj.mapFields (·.setIfInBounds 1 (Value.ref g.objs.size))) g2 (Obj.isFreed_of_fields d3)
  have t3 : ((g.push ({ cls := .type "traceback", dict := none, data := .fields ts } : Obj)).update ea (Obj.mapFields (·.setIfInBounds 1 (Value.ref g.objs.size)))).get? g.objs.size = some { cls := .type "traceback", dict := none, data := .fields ts } :=
    (Heap.get?_update_other _ _ (Ne.symm neT)).trans (Heap.get?_push_size g rfl)
  unfold setFlight
  refine wpAny_bind (wpAny_field g3 d3 (x := .ref g.objs.size) (by simp [hsz]) ?_)
  rw [if_pos (show (Value.ref g.objs.size != Value.none) = true from by simp)]
  refine wpAny_setField t3 rfl hts ?_
  have d4 := Obj.data_mapFields (o := ({ cls := .type "traceback", dict := none, data := .fields ts } : Obj)) (vs := ts) rfl (·.setIfInBounds 3 ((none : Option Addr).elim Value.none fun f => rawInt f))
  refine k _ g.objs.size (by rw [gT]; exact Nat.le_refl _) ⟨_, _, _, _, (Heap.get?_update_other _ _ neT).trans g3, Obj.cls_mapFields _ _, (dict_mapFields _ _).trans hdn, d3, by simp [hsz], neT, Heap.get?_update_self _ t3 (Obj.isFreed_of_fields d4), d4, by simp [hts]⟩ ?_
  have up : ∀ b o, b ≠ ea → g.get? b = some o → (((g.push ({ cls := .type "traceback", dict := none, data := .fields ts } : Obj)).update ea (Obj.mapFields (·.setIfInBounds 1 (Value.ref g.objs.size)))).update g.objs.size (Obj.mapFields (·.setIfInBounds 3 ((none : Option Addr).elim Value.none fun f => rawInt f)))).get? b = some o := fun b o nb hb =>
    (Heap.get?_update_other _ _ (Nat.ne_of_gt (Heap.lt_size hb))).trans ((Heap.get?_update_other _ _ (Ne.symm nb)).trans (Heap.get?_push_of_some _ hb))
  refine ⟨fun b o nb nf hb => up b o (fun z => nb (by simp [z])) ((so.2.1 b nf).trans hb), fun b o nb hb => ?_⟩
  obtain ⟨sl, hs⟩ := so.2.2 b o hb
  exact ⟨sl, up b _ (fun z => nb (by simp [z])) hs⟩
/-- a new exception leaves its frame -/
theorem leave_new {oe : Obj} {vs : Array Value} {Q : Unit → Shared → Prop} (hfr : A.frames = some (env :: outer)) (hl : s.heap.FunFrames base (env :: outer)) (hf : env.frame = some L)
    (he : s.heap.get? ea = some oe) (hdn : oe.dict = none) (hd : oe.data = .fields vs) (h1 : vs[1]? = some .none)
    (k : ∀ h' T', s.heap.objs.size ≤ T' → Fly h' ea T' oe.cls → Flew (frs (env :: outer)) [ea] s.heap h' → Q () { s with heap := h' }) : wpAny M A (leaving env (.ref ea)) Q E s := by
  unfold leaving noteFrame
  simp only [hf]
  refine wpAny_bind (wpAny_bind (wpAny_field he hd h1 ?_))
  rw [if_neg (by decide)]
  exact entry_laid hfr hl hf he hdn hd (Array.getElem?_eq_some_iff.mp h1).1 k
/-- one that flies comes through the next frame -/
theorem note_fly {Q : Unit → Shared → Prop} (hfr : A.frames = some (env :: outer)) (hl : s.heap.FunFrames base (env :: outer)) (hf : env.frame = some L) (hx : Fly s.heap ea T C)
    (k : ∀ h' T', s.heap.objs.size ≤ T' → Fly h' ea T' C → Flew (frs (env :: outer)) [ea, T] s.heap h' → Q () { s with heap := h' }) :
    wpAny M A (noteFrame (.ref ea) env) (fun _ s' => wpAny M A (setFlight (.ref ea) none) Q E s') E s := by
  obtain ⟨oe, vs, oT, ts, he, hc, hdn, hd, h1, hTe, hT, hdT, h3⟩ := hx
  subst hc
  unfold noteFrame
  simp only [hf]
  refine wpAny_bind (wpAny_field he hd h1 ?_)
  rw [if_pos (show (Value.ref T != Value.none) = true from by simp)]
  refine wpAny_bind (wpAny_field hT hdT h3 ?_)
  rw [if_neg (show ¬ ((Value.none == rawInt L) = true) from by simp [rawInt])]
  refine wpAny_bind (wpAny_setField hT hdT (Array.getElem?_eq_some_iff.mp h3).1 ?_)
  have far : ∀ b, b ≠ T → (s.heap.update T (Obj.mapFields (·.setIfInBounds 3 Value.none))).get? b = s.heap.get? b := fun b nb => Heap.get?_update_other _ _ (Ne.symm nb)
  have nT : T ∉ frs (env :: outer) := fun hm => by
    obtain ⟨_, o, ho, hnf⟩ := hl.mem hm
    rw [hT] at ho
    cases ho
    exact hnf ts hdT
  have hl2 : (s.heap.update T (Obj.mapFields (·.setIfInBounds 3 Value.none))).FunFrames base (env :: outer) := hl.of_keeps fun b o hb hnf => ⟨o, (far b fun z => by
    rw [z, hT] at hb
    cases hb
    exact hnf ts hdT).trans hb, rfl⟩
  refine entry_laid (s := { s with heap := s.heap.update T (Obj.mapFields (·.setIfInBounds 3 Value.none)) }) hfr hl2 hf ((far ea (Ne.symm hTe)).trans he) hdn hd (Array.getElem?_eq_some_iff.mp h1).1 fun h' T' hT' hfly hflew => ?_
  refine k h' T' (by simpa using hT') hfly ⟨fun b o nb nf hb => hflew.keep b o (fun z => nb (by simp at z; simp [z])) nf ((far b fun z => nb (by simp [z])).trans hb), fun b o nb hb => hflew.slot b o (fun z => nb (by simp at z; simp [z])) ((far b fun z => nb (by simp [z])).trans hb)⟩
end
end L2

namespace L2
open PySem PySem.Spec PyProof.Rows

theorem ObjOk.there {P : Program} {w : World} {H : Hp} {h : Heap} {a : Addr} {o : HO} (x : ObjOk P w H h a o) : ∃ ob, h.get? a = some ob := by
  cases o with
  | lst xs => obtain ⟨_, _, _, _, e⟩ := x; exact ⟨_, e⟩
  | tup xs => obtain ⟨_, _, _, o, e, _⟩ := x; exact ⟨_, e⟩
  | dK kvs => obtain ⟨_, _, _, _, o, _, _, e, _⟩ := x; exact ⟨_, e⟩
  | dT kvs => obtain ⟨_, _, _, _, o, _, _, e, _⟩ := x; exact ⟨_, e⟩
  | set S n => obtain ⟨o, _, _, _, e, _⟩ := x; exact ⟨_, e⟩
  | ins C dx fs => obtain ⟨_, _, _, e, _⟩ := x; exact ⟨_, e⟩
  | own y => exact x
  | xd fs => obtain ⟨_, ⟨_, _, _, e, _⟩, _⟩ := x; exact ⟨_, e⟩
  | rng lo hi => obtain ⟨_, _, _, e⟩ := x; exact ⟨_, e⟩
  | frz ob u => obtain ⟨e, _⟩ := x; exact ⟨_, e⟩
  | tbl ps => exact ⟨_, x⟩
  | met f y => exact ⟨_, x⟩
  | ext φ => obtain ⟨_, e, _⟩ := x; exact e
/-- how an exception lies behind a call -/
def CXE (P : Program) (w : World) : CXT := fun outer H s E e s' => ∃ (ea T : Addr) (C : Value) (H' : Hp), e = .ref ea ∧ s'.os = s.os ∧ AllBare s'.gens ∧ Un (frs outer) [] H H' s.heap s'.heap ∧ HOk P w H' s'.heap ∧
  Fly s'.heap ea T C ∧ s.heap.get? ea = none ∧ s.heap.get? T = none ∧ H' ea = none ∧ H' T = none ∧ E C none H'
theorem cxe_none {P : Program} {w : World} {outer : List Env} {H : Hp} {s s' : Shared} {e : Value} (h : CXE P w outer H s E0 e s') : False := by
  obtain ⟨_, _, _, _, _, _, _, _, _, _, _, _, _, _, q⟩ := h
  exact q
theorem passN {P : Program} {w : World} {X : Cx} : Passes (CXE P w) X E0 := fun _ _ _ _ _ _ _ h => (cxe_none h).elim
section
variable {P : Program} {w : World} {K : PySem.W.Frag} {mg : Str → Option Value} {base : Heap} {N : List Str} {qual : Str} {scope : Scope} {f : Addr} {cd : Value} {A : Around} {outer : List Env} {s : Shared} {H : Hp} {E : XK}
abbrev bodyCx (P : Program) (w : World) (K : PySem.W.Frag) (mg : Str → Option Value) (base : Heap) (N : List Str) (qual : Str) (scope : Scope) (f : Addr) (cd : Value) (A : Around) (outer : List Env) (s : Shared) (H : Hp) (E : XK) : Cx := cxOf (CXE P w) P w K mg base N qual scope f cd A outer s H E
/-- the frames but one's own, in a body -/
theorem Flew.un {fs own : List Addr} {H0 H2 : Hp} {h0 h2 h3 : Heap} {L : Addr} {os : List Addr} (u : Un os [] H0 H2 h0 h2) (fl : Flew fs own h2 h3) (hfs : ∀ b ∈ fs, b = L ∨ b ∈ os) (hL : h0.objs.size ≤ L) (hown : ∀ b ∈ own, h0.get? b = none) : Un os [] H0 H2 h0 h3 := by
  have no : ∀ b o, h0.get? b = some o → b ∉ own := fun b o e z => by rw [hown b z] at e; cases e
  have nL : ∀ b o, h0.get? b = some o → b ≠ L := fun b o e => Nat.ne_of_lt (Nat.lt_of_lt_of_le (Heap.lt_size e) hL)
  refine ⟨fun b o e n hb hx => fl.keep b o (no b o e) (fun z => (hfs b z).elim (nL b o e) hb) (u.keep b o e n hb hx), fun b o e n hb hx => ?_, u.free, fun b o e hx => ?_, u.tups, u.frzs, u.tbls⟩
  · obtain ⟨sl, e1⟩ := u.slot b o e n hb hx
    obtain ⟨sl', e2⟩ := fl.slot b _ (no b o e) e1
    exact ⟨sl', e2⟩
  · obtain ⟨o', e1⟩ := u.there b o e hx
    obtain ⟨sl', e2⟩ := fl.slot b _ (no b o e) e1
    exact ⟨_, e2⟩
theorem Flew.hok {fs own : List Addr} {H2 : Hp} {h2 h3 : Heap} (x : HOk P w H2 h2) (fl : Flew fs own h2 h3) (hfs : ∀ b ∈ fs, H2 b = none) (hown : ∀ b ∈ own, H2 b = none) : HOk P w H2 h3 := fun b o e =>
  (x b o e).stay (fun c u hc q => fl.keep c u (fun z => by
      rcases hc with rfl | hc
      · rw [hown _ z] at e; cases e
      · rw [hown _ z] at hc; cases hc) (fun z => by
      rcases hc with rfl | hc
      · rw [hfs _ z] at e; cases e
      · rw [hfs _ z] at hc; cases hc) q) (fun _ q => q) fun _ _ q => q
theorem cxe_of {pins : List (Addr × Obj)} {σ : St} {H2 : Hp} {s2 : Shared} {h3 : Heap} {own : List Addr} {ea T3 : Addr} {C : Value} (I2 : Inv (bodyCx P w K mg base N qual scope f cd A outer s H E) pins σ H2 s2) (fly : Fly h3 ea T3 C)
    (fl : Flew (frs ((bodyCx P w K mg base N qual scope f cd A outer s H E).env :: outer)) own s2.heap h3) (hown : ∀ b ∈ own, s.heap.get? b = none ∧ H2 b = none) (hea : s.heap.get? ea = none ∧ H2 ea = none) (hT : s2.heap.objs.size ≤ T3) (q : E C none H2) :
    CXE P w outer H s E (.ref ea) { s2 with heap := h3 } := by
  have B : Un (frs outer) [] H H2 s.heap s2.heap := I2.base
  have hfs : ∀ b ∈ frs ((bodyCx P w K mg base N qual scope f cd A outer s H E).env :: outer), b = (bodyCx P w K mg base N qual scope f cd A outer s H E).env.locals ∨ b ∈ frs outer := fun b hb => List.mem_cons.mp (I2.stkSub b hb)
  refine ⟨ea, T3, C, H2, rfl, I2.os, I2.bare, fl.un B hfs (Nat.le_refl _) (fun b hb => (hown b hb).1), fl.hok I2.hok (fun b hb => I2.stkFree b hb) (fun b hb => (hown b hb).2), fly, hea.1, ?_, hea.2, I2.hok.fresh hT, q⟩
  exact Heap.get?_none_of_le (Nat.le_trans I2.sz hT)
/-- a callee's exception goes on -/
theorem passE : Passes (CXE P w) (bodyCx P w K mg base N qual scope f cd A outer s H E) E := by
  intro pins σ H1 s1 e s2 I hq
  obtain ⟨ea, T, C, H2, rfl, os, bare, un, hok, fly, n1, n2, f1, f2, q⟩ := hq
  have I2 : Inv (bodyCx P w K mg base N qual scope f cd A outer s H E) pins σ H2 s2 := I.call' os un hok bare (fun b z => absurd z (by simp))
  have old : ∀ b, s1.heap.get? b = none → s.heap.get? b = none := fun b e => by
    cases z : s.heap.get? b with
    | none => rfl
    | some o =>
      obtain ⟨o', e'⟩ := I.base.there b o z (by intro hz; cases hz)
      rw [e] at e'
      cases e'
  show wpAny (model P w) (bodyCx P w K mg base N qual scope f cd A outer s H E).A (leaving (bodyCx P w K mg base N qual scope f cd A outer s H E).env (.ref ea)) _ _ s2
  unfold leaving
  refine wpAny_bind (note_fly (base := base) I.ok.frames I2.stack rfl fly fun h3 T3 hT3 fly3 flew => ?_)
  refine cxe_of I2 fly3 flew (fun b hb => ?_) ⟨old ea n1, f1⟩ hT3 q
  simp only [List.mem_cons, List.not_mem_nil, or_false] at hb
  rcases hb with rfl | rfl
  · exact ⟨old _ n1, f1⟩
  · exact ⟨old _ n2, f2⟩
end

/-! ### raise C(..), C an own class below ValueError -/
abbrev mroV : List Value := [.type "ValueError", .type "Exception", .type "BaseException", .type "object"]
theorem ownCls_of {K : PySem.W.Frag} {h : Heap} {mg : Str → Option Value} {x : Str} {C : Addr} {bmB : List Value} {newId : String} (X : K.In h) (hm : mg x = some (.ref C)) (q : PySem.W.excIn K C bmB newId = true) : OwnCls x C bmB newId mg h := by
  refine ⟨hm, ?_⟩
  unfold PySem.W.excIn at q
  split at q
  · rename_i dd cdt sl ho
    split at q
    · rename_i C' bm k0 k1 k2 k3 n k5 hmr hs
      simp only [Bool.and_eq_true, beq_iff_eq, Bool.not_eq_true'] at q
      obtain ⟨⟨⟨⟨⟨q1, q2⟩, q3⟩, q4⟩, q5⟩, q6⟩ := q
      subst q1 q2
      obtain ⟨nm, bs, mro, ns, qn, hd, sn, sub, ab, col, del⟩ := cdt
      obtain ⟨l⟩ := sl
      dsimp only at hmr hs q3 q5 q6
      subst hmr hs q3
      exact ⟨bm, ns, nm, qn, bs, hd, sn, sub, ab, col, dd, k0, k1, k2, k3, k5, _, X _ _ ho, .of_isNs (PySem.W.isNs_of_in X q5), PySem.W.nsMap_none_of_in X q5 q6, PySem.W.tail_of_in X q4⟩
    · cases q
  · cases q
section
variable {P : Program} {w : World} {K : PySem.W.Frag} {mg : Str → Option Value} {base : Heap} {N : List Str} {qual : Str} {scope : Scope} {f : Addr} {cd : Value} {A : Around} {outer : List Env} {s : Shared} {H : Hp} {E : XK}
def tRaise (E : XK) (C : Addr) (ta : TA) : TS := fun _ σ H => ta σ H fun vs H1 => vs.length ≤ sizeLine ∧ E (.ref C) none H1
theorem ps_raise {x : Str} {np cpos pos : Pos} {C : Addr} {e : Expr} {es : List Expr} {ta : TA} (hm : mg x = some (.ref C)) (hq : PySem.W.excIn K C mroV "ValueError.__new__" = true) (ha : PA (bodyCx P w K mg base N qual scope f cd A outer s H E) (e :: es) ta)
    (hg : Gl (bodyCx P w K mg base N qual scope f cd A outer s H E) x := by rfl) (hdb : (x == ("__debug__" : Str)) = false := by decide)
    (he : starEach (e :: es) (bodyCx P w K mg base N qual scope f cd A outer s H E).env = (false, eval e (bodyCx P w K mg base N qual scope f cd A outer s H E).env) :: starEach es (bodyCx P w K mg base N qual scope f cd A outer s H E).env := by rfl)
    (hpl : (backTo cpos (starEach es (bodyCx P w K mg base N qual scope f cd A outer s H E).env)).any (·.1) = false := by rfl) :
    PS (bodyCx P w K mg base N qual scope f cd A outer s H E) (.Raise (some (.Call (.Name x np) (e :: es) [] cpos)) none pos) (tRaise E C ta) := by
  intro pins s1 σ H1 D I h
  have O := ownCls_of I.ok.mod.kin hm hq
  obtain ⟨tl, Nn, nm, q, bs, hdct, sn, sub, ab, col, dd, k0, k1, k2, k3, k5, mN, hC, hN, hni, TT'⟩ := O.obj
  refine wpAny_Raise_call_subT (C := C) (nm := nm) (q := q) (N := Nn) (bs := bs) (bm := tl) (hdct := hdct) (sn := sn) (sub := sub) (ab := ab) (col := col) (dd := dd) (k0 := k0) (k1 := k1) (k2 := k2) (k3 := k3) (k5 := k5)
    F.excBase_ValueError (mN := mN) (TT'.hasType F.excBase_ValueError.hasBase) (I.ok.hd rfl) ?_ hni ?_
  · rw [he]
    show (false || (backTo cpos (starEach es _)).any (·.1)) = false
    rw [hpl]
    rfl
  refine ld_glob I hg hm ⟨rfl, ?_⟩ hdb
  have hA := ha cpos pins s1 σ H1 _ I h
  rw [he] at hA ⊢
  refine Calls.evalArgs_plain (thn hA fun us s2 ⟨vs, H2, I2, r2, hl2, q2⟩ => ⟨rfl, by rw [← r2.length]; exact hl2, I2.bk _ _ hC, hN.keeps I2.bk, TT'.keeps I2.bk, fun h' ea hmade => ?_⟩)
  have I3 : Inv (bodyCx P w K mg base N qual scope f cd A outer s H E) pins σ H2 { s2 with heap := h' } := I2.kept (t' := s2.toks) hmade.keeps
  obtain ⟨t, ht, _, _⟩ := hmade.there
  have old : s.heap.get? ea = none := by
    cases z : s.heap.get? ea with
    | none => rfl
    | some o =>
      obtain ⟨o', e'⟩ := I2.base.there ea o z (by intro hz; cases hz)
      rw [hmade.new] at e'
      cases e'
  have fr : H2 ea = none := by
    cases z : H2 ea with
    | none => rfl
    | some o =>
      obtain ⟨oo, e'⟩ := (I2.hok ea o z).there
      rw [hmade.new] at e'
      cases e'
  show wpAny (model P w) (bodyCx P w K mg base N qual scope f cd A outer s H E).A (leaving (bodyCx P w K mg base N qual scope f cd A outer s H E).env (.ref ea)) _ _ { s2 with heap := h' }
  refine leave_new (s := { s2 with heap := h' }) (base := base) I.ok.frames I3.stack rfl ht rfl rfl rfl fun h3 T3 hT3 fly flew => ?_
  refine cxe_of I3 fly flew (fun b hb => ?_) ⟨old, fr⟩ hT3 q2
  simp only [List.mem_cons, List.not_mem_nil, or_false] at hb
  subst hb
  exact ⟨old, fr⟩
/-- a def that may raise -/
theorem Fun.okE {x qual : Str} {st : Stmt} {f : Addr} {fd : FuncData} {N ps : List Str} {k : Nat} {sp : Sp} (F : Fun K x qual st f fd) (S : FnScope N ps (defScope st)) (len : ∀ vs H Q E, sp vs H Q E → vs.length = ps.length)
    (hbody : ∀ (cdv : Value) (A : Around) (outer : List Env) (s : Shared) (H : Hp) (vs : List V) (Q : VK) (E : XK), Room k (A.deeper (envOfC qual (defScope st) s.heap.objs.size f cdv)) → sp vs H Q E →
      ∃ t, PSs (bodyCx P w K mg base N qual (defScope st) f cdv A outer s H E) (defBody st) t ∧ t { nx := fun _ H' => Q .non H', rt := Q } (start N vs) H) : FnOk P w K mg base (CXE P w) (k + 1) f fd ps sp := by
  obtain ⟨oc, od, kV, doc, pm, an, cdv, ct, osl, rfl, lk, hcd⟩ := F.ex
  exact fn_of lk hcd S len fun A outer s H vs Q E hr hsp => hbody cdv A outer s H vs Q E hr hsp
theorem Def.knownE {x : Str} {st : Stmt} {N ps : List Str} {k : Nat} {sp : Sp} (D : Def K mg x st) (S : FnScope N ps (defScope st))
    (hb : ∀ (kV doc pm : Value) (an : Option Addr) (cdv ct : Value) (us : List Value), us.length = ps.length → bindArgs (PySem.W.fnOf x x (defArgs st) (defBody st) (defScope st) .none kV doc pm an cdv ct) ⟨us, []⟩ = pure (ps.zip us))
    (len : ∀ vs H Q E, sp vs H Q E → vs.length = ps.length)
    (hbody : ∀ (f : Addr) (cdv : Value) (A : Around) (outer : List Env) (s : Shared) (H : Hp) (vs : List V) (Q : VK) (E : XK), Room k (A.deeper (envOfC x (defScope st) s.heap.objs.size f cdv)) → sp vs H Q E →
      ∃ t, PSs (bodyCx P w K mg base N x (defScope st) f cdv A outer s H E) (defBody st) t ∧ t { nx := fun _ H' => Q .non H', rt := Q } (start N vs) H) : Known P w K mg base (CXE P w) (k + 1) x ps sp := by
  obtain ⟨f, fd, F, hm⟩ := D.ex
  exact ⟨f, fd, F.okE S len fun cdv A outer s H vs Q E hr h => hbody f cdv A outer s H vs Q E hr h, hm, F.kp, F.binds hb⟩
end
end L2

namespace L2
open PySem PySem.Spec PyProof.Rows

/-! ### try .. except C as n -/
/-- a caught exception, of the class C -/
def excO (ea : Addr) (C : Value) : HO := .ext fun h => ∃ o, h.get? ea = some o ∧ o.cls = C ∧ o.dict = none ∧ PySem.W.notCls o = true
section
variable {X : Cx} {pins : List (Addr × Obj)} {σ : St} {H : Hp} {s : Shared}
/-- frames' slots and the exception's own objects have changed -/
theorem Inv.flew {own : List Addr} {h3 : Heap} {t' : Nat} (I : Inv X pins σ H s) (fl : Flew (frs X.stack) own s.heap h3)
    (hown : ∀ b ∈ own, X.s₀.heap.get? b = none ∧ H b = none ∧ b ≠ X.env.locals ∧ (∀ x c, X.env.cells.lookup x = some c → c ≠ b) ∧ ∀ p ∈ X.pn ++ pins, p.1 ≠ b) : Inv X pins σ H { s with heap := h3, toks := t' } := by
  have no : ∀ b o, X.s₀.heap.get? b = some o → b ∉ own := fun b o e z => by rw [(hown b z).1] at e; cases e
  have nL : ∀ b o, X.s₀.heap.get? b = some o → b ≠ X.env.locals := fun b o e => Nat.ne_of_lt (Nat.lt_of_lt_of_le (Heap.lt_size e) I.ok.above)
  have cellK : ∀ x c, X.env.cells.lookup x = some c → ∀ v, s.heap.IsCell c v → h3.IsCell c v := fun x c e v ⟨o, ho, hd⟩ => by
    obtain ⟨sl, q⟩ := fl.slot c o (fun z => (hown c z).2.2.2.1 x c e rfl) ho
    exact ⟨_, q, hd⟩
  refine ⟨I.ok, I.os, I.bare, ⟨fun b o e n hb hx => ?_, fun b o e n hb hx => ?_, I.base.free, fun b o e hx => ?_, I.base.tups, I.base.frzs, I.base.tbls⟩, ?_, fun x c e => ?_, I.free, I.freeC, fun p hp => ?_, fl.hok I.hok (fun b hb => I.stkFree b hb) (fun b hb => (hown b hb).2.1), I.len⟩
  · exact fl.keep b o (no b o e) (fun z => (List.mem_cons.mp (I.stkSub b z)).elim (nL b o e) hb) (I.base.keep b o e n hb hx)
  · obtain ⟨sl, e1⟩ := I.base.slot b o e n hb hx
    obtain ⟨sl', e2⟩ := fl.slot b _ (no b o e) e1
    exact ⟨sl', e2⟩
  · obtain ⟨o', e1⟩ := I.base.there b o e hx
    obtain ⟨sl', e2⟩ := fl.slot b _ (no b o e) e1
    exact ⟨_, e2⟩
  · obtain ⟨m, ⟨o, es, ep, ho, r⟩, hl⟩ := I.loc
    obtain ⟨sl, hL⟩ := fl.slot _ o (fun z => (hown _ z).2.2.1 rfl) ho
    refine ⟨m, ⟨_, es, ep, hL, r⟩, fun i x v e1 e2 e3 => ?_⟩
    obtain ⟨u, rv, l⟩ := hl i x v e1 e2 e3
    refine ⟨u, rv, ?_⟩
    rcases l with l | ⟨k, c, e, z⟩
    · exact .inl l
    · exact .inr ⟨k, c, e, cellK x c e _ z⟩
  · obtain ⟨v, z⟩ := I.cell x c e
    exact ⟨v, cellK x c e v z⟩
  · obtain ⟨e, n, ne, nf, d⟩ := I.pin p hp
    exact ⟨fl.keep _ _ (fun z => (hown _ z).2.2.2.2 p hp rfl) (fun z => (List.mem_cons.mp (I.stkSub _ z)).elim ne nf) e, n, ne, nf, d⟩
/-- an object that was not tracked is tracked -/
theorem Inv.adopt {a : Addr} {o : HO} (I : Inv X pins σ H s) (hn : H a = none) (h0 : X.s₀.heap.get? a = none) (hL : a ≠ X.env.locals) (hc : ∀ x c, X.env.cells.lookup x = some c → c ≠ a) (hp : ∀ p ∈ X.pn ++ pins, p.1 ≠ a)
    (new : ObjOk X.prog X.w (upd H a o) s.heap a o) : Inv X pins σ (upd H a o) s := by
  have ne : ∀ b u, H b = some u → b ≠ a := fun b u e => ne_of_none e hn
  refine ⟨I.ok, I.os, I.bare, ⟨I.base.keep, I.base.slot, fun b u e n hx => ?_, I.base.there, fun b xs e => ?_, fun b u xs e => ?_, fun b ps e => ?_⟩, I.loc, I.cell, ?_, fun x c e => ?_, fun p hq => ?_, fun b u e => ?_, I.len⟩
  · rw [upd_ne (fun z => by rw [z, h0] at e; cases e)]
    exact I.base.free b u e n hx
  · have q := I.base.tups b xs e
    rw [upd_ne (ne _ _ q)]
    exact q
  · have q := I.base.frzs b u xs e
    rw [upd_ne (ne _ _ q)]
    exact q
  · obtain ⟨more, q⟩ := I.base.tbls b ps e
    exact ⟨more, by rw [upd_ne (ne _ _ q)]; exact q⟩
  · rw [upd_ne (Ne.symm hL)]
    exact I.free
  · rw [upd_ne (hc x c e)]
    exact I.freeC x c e
  · obtain ⟨e, n, r⟩ := I.pin p hq
    exact ⟨e, by rw [upd_ne (hp p hq)]; exact n, r⟩
  · by_cases hb : b = a
    · subst hb
      rw [upd_same] at e
      cases e
      exact new
    · rw [upd_ne hb] at e
      exact (I.hok b u e).stay (fun _ _ _ q => q) (fun c q => by rw [upd_ne (ne _ _ q)]; exact q) fun c xs q => by rw [upd_ne (ne _ _ q)]; exact q
/-- a local name goes -/
theorem Inv.unname {j : Nat} {n : Str} {h' : Heap} {m : Str → Option Value} {v : Option Value} {t' : Nat} (I : Inv X pins σ H s) (hN : X.N.Nodup) (hj : X.N[j]? = some n) (hm : s.heap.Ns X.env.locals m)
    (hl : ∀ (i : Nat) (x : Str) (v : V), X.N[i]? = some x → σ[i]? = some (some v) → Vis X.env.scope x → ∃ u, RelV v u ∧ Look X.env s.heap m x u) (hn : h'.Ns X.env.locals (fun x => if x = n then v else m x)) (sb : Heap.SameBut X.env.locals s.heap h') :
    Inv X pins (σ.set j none) H { s with heap := h', toks := t' } := by
  have hjσ : j < σ.length := by rw [I.len]; exact (List.getElem?_eq_some_iff.mp hj).1
  have nL : ∀ b o, X.s₀.heap.get? b = some o → b ≠ X.env.locals := fun b o e => Nat.ne_of_lt (Nat.lt_of_lt_of_le (Heap.lt_size e) I.ok.above)
  refine ⟨I.ok, I.os, I.bare, ⟨fun b o e n hb hx => (sb.2 b (nL b o e)).trans (I.base.keep b o e n hb hx), fun b o e n hb hx => ?_, I.base.free, fun b o e hx => ?_, I.base.tups, I.base.frzs, I.base.tbls⟩, ⟨_, hn, fun i y w' e1 e2 e3 => ?_⟩, fun y c e => ?_, I.free, I.freeC, fun p hp => ?_, fun b ob e => ?_, by simpa using I.len⟩
  · obtain ⟨sl, e1⟩ := I.base.slot b o e n hb hx
    exact ⟨sl, (sb.2 b (nL b o e)).trans e1⟩
  · obtain ⟨o', e1⟩ := I.base.there b o e hx
    exact ⟨o', (sb.2 b (nL b o e)).trans e1⟩
  · by_cases hi : i = j
    · subst hi
      rw [List.getElem?_set_self hjσ] at e2
      cases e2
    · rw [List.getElem?_set_ne (Ne.symm hi)] at e2
      obtain ⟨u, r, q⟩ := hl i y w' e1 e2 e3
      refine ⟨u, r, ?_⟩
      rcases q with ⟨k, e⟩ | ⟨k, c, e, z⟩
      · refine .inl ⟨k, ?_⟩
        have : y ≠ n := fun e => hi (nodup_ix hN e1 (e ▸ hj))
        simp [this, e]
      · exact .inr ⟨k, c, e, z.sameBut sb (I.cne y c e)⟩
  · obtain ⟨v', z⟩ := I.cell y c e
    exact ⟨v', z.sameBut sb (I.cne y c e)⟩
  · obtain ⟨e, n, ne, nf, d⟩ := I.pin p hp
    exact ⟨(sb.2 p.1 ne).trans e, n, ne, nf, d⟩
  · obtain ⟨oL, _, _, hoL, _⟩ := id hm
    refine (I.hok b ob e).stay (fun c w' hc q => (sb.2 c ?_).trans q) (fun _ q => q) fun _ _ q => q
    rintro rfl
    rcases hc with rfl | hc
    · rw [I.free] at e; cases e
    · rw [I.free] at hc; cases hc
end
/-- within an except suite -/
abbrev Cx.inEx (X : Cx) (ea : Addr) : Cx := { X with A := X.A.mark (some (.ref ea)), calm := false, xe := fun _ _ => False }
abbrev Cx.pinned (X : Cx) (pn : List (Addr × Obj)) (E1 : Value → Shared → Prop) : Cx := { X with pn := pn, xe := E1 }
section
variable {X : Cx} {pins : List (Addr × Obj)} {σ : St} {H : Hp} {s : Shared}
theorem Inv.inEx (I : Inv X pins σ H s) (ea : Addr) : Inv (X.inEx ea) pins σ H s :=
  ⟨⟨I.ok.mod, I.ok.kind, I.ok.glob, I.ok.blt, I.ok.above, I.ok.inj, I.ok.has, I.ok.cab, fun z => Bool.noConfusion z, I.ok.frames, I.ok.stk, I.ok.exf, I.ok.bs, I.ok.bsz, I.ok.noex, I.ok.exfs, I.ok.funs, I.ok.frf⟩, I.os, I.bare, I.base, I.loc, I.cell, I.free, I.freeC, I.pin, I.hok, I.len⟩
theorem Inv.outEx {ea : Addr} (ok : X.Ok) (I : Inv (X.inEx ea) pins σ H s) : Inv X pins σ H s := ⟨ok, I.os, I.bare, I.base, I.loc, I.cell, I.free, I.freeC, I.pin, I.hok, I.len⟩
theorem Inv.pinnedIn (I : Inv X pins σ H s) (E1 : Value → Shared → Prop) : Inv (X.pinned (X.pn ++ pins) E1) [] σ H s :=
  ⟨⟨I.ok.mod, I.ok.kind, I.ok.glob, I.ok.blt, I.ok.above, I.ok.inj, I.ok.has, I.ok.cab, I.ok.hd, I.ok.frames, I.ok.stk, I.ok.exf, I.ok.bs, I.ok.bsz, I.ok.noex, I.ok.exfs, I.ok.funs, I.ok.frf⟩, I.os, I.bare, I.base, I.loc, I.cell, I.free, I.freeC,
    fun p hp => I.pin p (by simpa using hp), I.hok, I.len⟩
theorem Inv.pinnedOut {pins' : List (Addr × Obj)} {E1 : Value → Shared → Prop} (ok : X.Ok) (I : Inv (X.pinned (X.pn ++ pins) E1) pins' σ H s) : Inv X pins σ H s :=
  ⟨ok, I.os, I.bare, I.base, I.loc, I.cell, I.free, I.freeC, fun p hp => I.pin p (List.mem_append_left _ hp), I.hok, I.len⟩
end
def Ends.less (D : Ends) (j : Nat) : Ends where
  nx := fun σ H => D.nx (σ.set j none) H
  rt := D.rt
  bk := fun σ H => D.bk (σ.set j none) H
  ct := fun σ H => D.ct (σ.set j none) H
/-- what is wanted of an exception in the suite of a try -/
def eTry (K : PySem.W.Frag) (B : Addr) (m j : Nat) (th : TS) (D : Ends) : XK := fun C _ H' => PySem.W.exmOne K C (.ref B) = some true ∧ ∀ ea, H' ea = none → th (D.less j) ((List.replicate m none).set j (some (.ref ea))) (upd H' ea (excO ea C))
def tTry (K : PySem.W.Frag) (B : Addr) (m j : Nat) (tb : XK → TS) (th : TS) : TS := fun D σ H => tb (eTry K B m j th D) D σ H
theorem ps_try {X : Cx} {body suite : List Stmt} {b₀ : Stmt} {x n : Str} {np hpos pos : Pos} {B : Addr} {tb : XK → TS} {th : TS} {j : Nat} (hex : X.ex = []) (hst : X.stack = X.env :: X.outer) (hfr : X.env.frame = some X.env.locals) (hN : X.N.Nodup) (hj : X.N[j]? = some n)
    (hn : X.env.scope.names.lookup n = some .local) (hm : X.mg x = some (.ref B)) (hb : ∀ pn E' E1, Passes (CXE X.prog X.w) (X.pinned pn E1) E' → PSs (X.pinned pn E1) body (tb E')) (hh : ∀ ea, PSs (X.inEx ea) (b₀ :: suite) th)
    (hg : Gl X x := by rfl) (hdb : (x == ("__debug__" : Str)) = false := by decide) :
    PS X (.Try body [.ExceptHandler (some (.Name x np)) (some n) (b₀ :: suite) hpos] [] [] pos) (tTry X.K B X.N.length j tb th) := by
  intro pins s σ H D I h
  have pass : Passes (CXE X.prog X.w) (X.pinned (X.pn ++ pins) (fun e s1 => wpAny (model X.prog X.w) X.A (noteFrame e X.env) (fun _ s2 => wpAny (model X.prog X.w) X.A (setFlight e none) (fun _ s3 =>
      wpAny (model X.prog X.w) X.A (handleBy e X.env [.ExceptHandler (some (.Name x np)) (some n) (b₀ :: suite) hpos]) (SP X pins D) X.xe s3) X.xe s2) X.xe s1)) (eTry X.K B X.N.length j th D) := by
    intro pins' σ' H1 s1 e s2 I1 hq
    obtain ⟨ea, T, C, H2, rfl, os, bare, un, hok, fly, n1, n2, f1, f2, hx, q⟩ := hq
    have I1' : Inv X pins (List.replicate X.N.length none) H1 s1 := (I1.pinnedOut I.ok).weak (by rw [List.length_replicate, I1.len]) fun i v e => by
      rw [List.getElem?_replicate] at e
      split at e <;> cases e
    have I2 : Inv X pins (List.replicate X.N.length none) H2 s2 := I1'.call' os un hok bare (fun b z => absurd z (by simp))
    have own : ∀ b, s1.heap.get? b = none → H2 b = none → X.s₀.heap.get? b = none ∧ H2 b = none ∧ b ≠ X.env.locals ∧ (∀ x c, X.env.cells.lookup x = some c → c ≠ b) ∧ ∀ p ∈ X.pn ++ pins, p.1 ≠ b := fun b e hb => by
      refine ⟨?_, hb, fun z => ?_, fun y c hc z => ?_, fun p hp z => ?_⟩
      · cases z : X.s₀.heap.get? b with
        | none => rfl
        | some o =>
          obtain ⟨o', e'⟩ := I1'.base.there b o z (by rw [hex]; intro hz; cases hz)
          rw [e] at e'
          cases e'
      · obtain ⟨m, ⟨o, _, _, ho, _⟩, _⟩ := I1'.loc
        rw [← z, e] at ho
        cases ho
      · obtain ⟨v, o, ho, _⟩ := I1'.cell y c hc
        rw [z, e] at ho
        cases ho
      · have ho := (I1'.pin p hp).1
        rw [z, e] at ho
        cases ho
    have st2 : s2.heap.FunFrames X.base (X.env :: X.outer) := hst ▸ I2.stack
    have fr2 : X.A.frames = some (X.env :: X.outer) := hst ▸ I.ok.frames
    refine note_fly (base := X.base) fr2 st2 hfr fly fun h3 T3 hT3 fly3 flew => ?_
    have I3 : Inv X pins (List.replicate X.N.length none) H2 { s2 with heap := h3 } := I2.flew (t' := s2.toks) (hst ▸ flew) fun b hb => by
      simp only [List.mem_cons, List.not_mem_nil, or_false] at hb
      rcases hb with rfl | rfl
      · exact own _ n1 f1
      · exact own _ n2 f2
    obtain ⟨oe, vs, oT, ts, he, hcl, hdn, hd, h1, hTe, hT, hdT, h3'⟩ := fly3
    refine wpAny_handleBy_cons (codeAny_handlers_test ?_) (by intro z; cases z)
    refine ld_glob (X := X.inEx ea) (I3.inEx ea) hg hm ?_ hdb
    have LT : PySem.W.Looks (model X.prog X.w) h3 (typeOf (.ref ea)) C := hcl ▸ (PySem.W.Looks.ld he).andThen .now
    have LX := PySem.W.exm_one (M := model X.prog X.w) I3.kIn LT hx
    refine LX _ _ _ { s2 with heap := h3 } (fun _ _ z => z) ?_
    show codeAny _ _ _ _ _
    refine codeAny_handlers_suite_as ?_
    -- setFlight
    unfold setFlight
    refine wpAny_bind (wpAny_field (s := { s2 with heap := h3 }) he hd h1 ?_)
    rw [if_pos (show (Value.ref T3 != Value.none) = true from by simp)]
    refine wpAny_setField (s := { s2 with heap := h3 }) hT hdT (Array.getElem?_eq_some_iff.mp h3').1 ?_
    have far : ∀ b, b ≠ T3 → (h3.update T3 (Obj.mapFields (·.setIfInBounds 3 ((none : Option Addr).elim Value.none fun f => rawInt f)))).get? b = h3.get? b := fun b nb => Heap.get?_update_other _ _ (Ne.symm nb)
    have hfT : H2 T3 = none := I2.hok.fresh hT3
    have oT3 : T3 ≠ X.env.locals := Nat.ne_of_gt (Nat.lt_of_lt_of_le I2.lt hT3)
    have I4 : Inv X pins (List.replicate X.N.length none) H2 { s2 with heap := h3.update T3 (Obj.mapFields (·.setIfInBounds 3 ((none : Option Addr).elim Value.none fun f => rawInt f))) } :=
      I3.turned (t' := s2.toks) (fun b o nb e => (far b nb).trans e) hfT oT3 (.inr (Nat.le_trans I2.sz hT3)) (fun y c hc z => by
        obtain ⟨v, w'⟩ := I2.cell y c hc
        exact absurd w'.lt (by rw [z]; exact Nat.not_lt.mpr hT3)) (fun p hp z => absurd (Heap.lt_size (I2.pin p hp).1) (by rw [z]; exact Nat.not_lt.mpr hT3))
    obtain ⟨o0, o1, o2, o3, o4⟩ := own ea n1 f1
    have he4 := (far ea (Ne.symm hTe)).trans he
    have I5 : Inv X pins (List.replicate X.N.length none) (upd H2 ea (excO ea C)) _ := I4.adopt o1 o0 o2 o3 o4 ⟨⟨oe, he4, hcl, hdn, by unfold PySem.W.notCls; rw [hd]⟩, ⟨oe, he4⟩, fun a b ⟨o, e1, e2⟩ k => ⟨o, k o e1, e2⟩⟩
    refine store_ok (v := .ref ea) I5 hN hj (.inl hn) rfl (fun s6 I6 => ?_) (.inr hn)
    have run := hh ea pins s6 _ _ (D.less j) (I6.inEx ea) (q ea f1)
    refine wpAny_mono run (fun fl s7 q7 => ?_) fun _ _ z => z.elim
    have fin : ∀ {σ7 : St} {H7 : Hp} {R : Unit → Shared → Prop}, Inv (X.inEx ea) pins σ7 H7 s7 → (∀ s8, Inv X pins (σ7.set j none) H7 s8 → R () s8) → wpAny (model X.prog X.w) X.A (do bindName X.env n .none; unbindBehindTheSuite X.env n hpos) R X.xe s7 := fun {σ7 H7 R} I7 k => by
      have I7' := I7.outEx I.ok
      obtain ⟨m, hm7, hl7⟩ := I7'.loc
      refine wpAny_nameGoes_keeps (show X.env.scope.names.lookup n = some .local from hn) hm7 (by rw [I.ok.kind]; rfl) fun h8 v hn8 sb8 => ?_
      exact k _ (I7'.unname hN hj hm7 hl7 hn8 sb8)
    cases fl with
    | next => obtain ⟨σ7, H7, I7, n7⟩ := q7; exact fin I7 fun s8 I8 => ⟨_, H7, I8, n7⟩
    | brk => obtain ⟨σ7, H7, I7, n7⟩ := q7; exact fin I7 fun s8 I8 => ⟨_, H7, I8, n7⟩
    | cont => obtain ⟨σ7, H7, I7, n7⟩ := q7; exact fin I7 fun s8 I8 => ⟨_, H7, I8, n7⟩
    | ret u => obtain ⟨v7, σ7, H7, I7, r7, n7⟩ := q7; exact fin I7 fun s8 I8 => ⟨v7, _, H7, I8, r7, n7⟩
  have run := hb (X.pn ++ pins) (eTry X.K B X.N.length j th D) _ pass [] s σ H D (I.pinnedIn _) h
  refine wpAny_Try_except (wpAny_mono run (fun fl s1 q1 => ?_) fun e s1 q1 => q1)
  cases fl with
  | next => obtain ⟨σ1, H1, I1, n1⟩ := q1; exact wpAny_execs_nil ⟨σ1, H1, I1.pinnedOut I.ok, n1⟩
  | brk => obtain ⟨σ1, H1, I1, n1⟩ := q1; exact ⟨σ1, H1, I1.pinnedOut I.ok, n1⟩
  | cont => obtain ⟨σ1, H1, I1, n1⟩ := q1; exact ⟨σ1, H1, I1.pinnedOut I.ok, n1⟩
  | ret u => obtain ⟨v1, σ1, H1, I1, r1, n1⟩ := q1; exact ⟨v1, σ1, H1, I1.pinnedOut I.ok, r1, n1⟩
/-! ### isinstance of a caught exception -/
structure ExcK (K : PySem.W.Frag) (C : Addr) : Prop where
  hga : PySem.W.findIn K (.ref C) "__getattribute__" = some (some (.builtin "BaseException.__getattribute__"))
  hk : PySem.W.findIn K (.ref C) "__getattr__" = some none
  hc : ∃ cd, PySem.W.clsIn K C = some cd
  ha : PySem.W.findIn K (.ref C) "__class__" = some (some (.builtin "object.__class__"))
  hn : PySem.W.specialIn K (.builtin "object.__class__") "__get__" = some (some (.builtin "getset_descriptor.__get__"))
  ht : PySem.W.takesIn K (.builtin "object.__class__") = some true
  hm : PySem.W.mroIn K C (.type "object") = some true
  hb : PySem.W.mroIn K C (.type "BaseException") = some true
/-- the class of a caught exception, asked by its own __getattribute__ -/
theorem exc_class {prog : Program} {w : World} {A : Around} {E : Value → Shared → Prop} {s : Shared} {K : PySem.W.Frag} {x C : Addr} {ox : Obj} {Q : Option Value → Shared → Prop} (k : ExcK K C) (X : K.In s.heap) (I : PySem.W.InstAt s.heap x ox C none)
    (h : Q (some (.ref C)) { s with toks := s.toks + 1 }) : wpAny (model prog w) A (getAttr? (.ref x) "__class__") Q E s := by
  obtain ⟨hh, g, d, t, os⟩ := s
  obtain ⟨cd, hc⟩ := k.hc
  have hf : PySem.W.findObj K C none "__class__" = some (.bind (.builtin "getset_descriptor.__get__") (.builtin "object.__class__")) := by
    show (PySem.W.clsIn K C).bind _ = _
    rw [hc, Option.bind_some, k.ha, Option.bind_some]
    simp [k.hn, k.ht]
  have L0 := I.type (M := model prog w)
  have L1 := PySem.W.looks_findIn (M := model prog w) X k.hga
  have L2 := PySem.W.looks_findIn (M := model prog w) X k.hk
  have L3 := PySem.W.looks_mroIn (M := model prog w) X k.hb
  have L4 := PySem.W.looks_find (M := model prog w) X I hf
  unfold getAttr? getAttrBy? getAttrBy
  refine wpAny_bind (wpAny_mkText (wpAny_bind (wpAny_attempt (wpAny_holding (wpAny_bind (L0.at (wpAny_bind (L1.at ?_))))))))
  show wpAny _ _ (getAttrByItsOwn _ _ _ _ _ _) _ _ _
  unfold getAttrByItsOwn
  refine wpAny_bind ?_
  show wpAny _ _ (typeLookup (.ref C) "__getattr__") _ _ _
  refine L2.at (wpAny_bind (wpAny_attempt (wpAny_holding ?_)))
  show wpAny _ _ (boundAndCalled _ _ _) _ _ _
  unfold boundAndCalled
  rw [F.excAttr_ValueError.ga.bind (.ref x)]
  refine wpAny_bind (wpAny_pure (wpAny_call ?_))
  refine codeAny_call_builtin F.excAttr_ValueError.ga.plain F.entry_bexc_ga ?_
  have hk : builtinKind "BaseException.__getattribute__" = some .slot := by decide +kernel
  have hsp : splitId "BaseException.__getattribute__" = some ("BaseException", "__getattribute__") := by decide +kernel
  have L5 : PySem.W.Looks (model prog w) hh (isInstance (.ref x) (.type "BaseException")) true := L0.andThen L3
  have ha := F.args_bexc_ga (.ref x) (.str "__class__" t)
  have key : ∀ (Q2 : Unit → Shared → Prop) (E2 : Value → Shared → Prop) (A2 : Around), Q2 () ⟨hh, g, d, t + 1, os⟩ → wpAny (model prog w) A2 (checkBuiltinCall "BaseException.__getattribute__" ⟨[.ref x, .str "__class__" t], []⟩) Q2 E2 ⟨hh, g, d, t + 1, os⟩ := by
    intro Q2 E2 A2 q
    have z := @PySem.W.check_slot (model prog w) A2 E2 ⟨hh, g, d, t + 1, os⟩ _ _ _ (.ref x) [.str "__class__" t] [] Q2 hk hsp L5 ha q
    exact z
  refine key _ _ _ ?_
  unfold Builtin.«object.__getattribute__»
  refine wpAny_bind (wpAny_pure (wpAny_bind (wpAny_pure (wpAny_bind (L0.at (wpAny_bind (L4.at ?_)))))))
  refine wpAny_bind (wpAny_holding (wpAny_call ?_))
  exact PySem.W.class_get (s := ⟨hh, g, d, t + 1, os⟩) (ox := ox) (od := none) X I k.hm (wpAny_pure (PySem.W.handed_on rfl (wpAny_pure h)))
theorem kitx_exc {K : PySem.W.Frag} {x C : Addr} (k : ExcK K C) : PySem.W.KitX K (.ref x) (.ref C) (fun h => ∃ ox, PySem.W.InstAt h x ox C none) where
  ty := fun _ _ _ ⟨_, I⟩ => I.type
  it := fun _ _ X _ => by
    obtain ⟨cd, hc⟩ := k.hc
    unfold PySem.W.clsIn at hc
    split at hc
    · rename_i ho
      intro A' Q' E' s' kk q
      unfold isType loadHead
      exact wpAny_bind (wpAny_loadPart (kk _ _ (X _ _ ho)) (wpAny_pure q))
    · cases hc
  ne := fun h tp dd its n sl X htp => by
    obtain ⟨cd, hc⟩ := k.hc
    refine Bool.eq_false_iff.mpr fun q => ?_
    have e : C = tp := Value.ref.inj (beq_iff_eq.mp q)
    subst e
    unfold PySem.W.clsIn at hc
    split at hc
    · rename_i ho
      have z := (X _ _ ho).symm.trans htp
      cases z
    · cases hc
  ca := fun {prog w A E Q s} X ⟨ox, I⟩ h => exc_class k X I h
theorem call_isX {X : Cx} : CallR X (.builtin "isinstance") (fun xs H Q => ∃ ea C D cv k, xs = [.ref ea, D] ∧ H ea = some (excO ea (.ref C)) ∧ ExcK X.K C ∧ ((∃ D', D = .ref D' ∧ cv = Value.ref D') ∨ ∃ T, D = .ty T ∧ cv = Value.type T) ∧ PySem.W.kitOne X.K (.ref C) cv = some k ∧ Q (.bl k) H) := by
  intro pins s σ H xs us Q I r h
  obtain ⟨ea, C, D, cv, k, rfl, hea, hk, hD, e, q⟩ := h
  obtain ⟨u, c, rfl, r1, r2⟩ := r.two
  cases r1
  obtain ⟨⟨o, h1, h2, h3, h4⟩, _⟩ := I.hok _ _ hea
  have ec : c = cv := by
    rcases hD with ⟨D', rfl, rfl⟩ | ⟨T, rfl, rfl⟩ <;> exact r2
  subst ec
  refine PySem.W.kia_one (kitx_exc hk) I.kIn ⟨o, h1, h2, h4, ?_⟩ e (fun z => nomatch z) fun tk => ⟨.bl k, H, I.tok tk, rfl, q⟩
  rw [h3]
  trivial
end L2

namespace L2
open PySem PySem.Spec PyProof.Rows
/-! ### a slice of a text -/
end L2

namespace L2
open PySem PySem.Spec PyProof.Rows
/-! ### list(range(n)), list(d) -/
theorem vals_of : ∀ {xs : List V} {us : List Value}, us.length = xs.length → (∀ (j : Nat) (x : V) (u : Value), xs[j]? = some x → us[j]? = some u → RelV x u) → Vals xs us
  | [], [], _, _ => .nil
  | x :: xs, u :: us, hl, h => .cons (h 0 x u rfl rfl) (vals_of (by simpa using hl) fun j y v e1 e2 => h (j + 1) y v (by simpa using e1) (by simpa using e2))
  | [], _ :: _, hl, _ => by simp at hl
  | _ :: _, [], hl, _ => by simp at hl
def rangeV (lo : Int) (n : Nat) : List V := (List.range n).map fun (i : Nat) => V.int (lo + (i : Int))
theorem rangeV_len (lo : Int) (n : Nat) : (rangeV lo n).length = n := by unfold rangeV; rw [List.length_map, List.length_range]
section
variable {X : Cx}
theorem call_rng1 : CallR X (.type "range") (fun xs H Q => ∃ j : Int, xs = [.int j] ∧ ∀ p, H p = none → Q (.ref p) (upd H p (.rng 0 j))) := by
  intro pins s σ H xs us Q I r h
  obtain ⟨j, rfl, q⟩ := h
  obtain ⟨u, rfl, t, rfl⟩ := vals1 r
  refine call_range_1 ⟨.ref s.heap.objs.size, _, I.laid (a := s.heap.objs.size) (o := .rng 0 j) (fun _ _ q => Heap.get?_push_of_some _ q) (Nat.le_refl _) ?_, rfl, q _ (I.hok.fresh (Nat.le_refl _))⟩
  exact ⟨_, _, _, Heap.get?_push_size _ rfl⟩
theorem call_list_rng (hc : X.calm = true) : CallR X (.type "list") (fun xs H Q => ∃ p lo hi, xs = [.ref p] ∧ H p = some (.rng lo hi) ∧ -(2 ^ 62) ≤ lo ∧ lo < 2 ^ 62 ∧ -(2 ^ 62) ≤ hi ∧ hi < 2 ^ 62 ∧ (hi - lo).toNat ≤ 2 ^ 24 ∧ ∀ l, H l = none → Q (.ref l) (upd H l (.lst (rangeV lo (hi - lo).toNat)))) := by
  intro pins s σ H xs us Q I r h
  obtain ⟨p, lo, hi, rfl, hp, h1, h2, h3, h4, h5, q⟩ := h
  obtain ⟨u, rfl, rx⟩ := vals1 r
  cases rx
  obtain ⟨t, u, v, e⟩ := I.hok p _ hp
  have hn : Builtin.Range.rangeSize lo hi 1 = ((hi - lo).toNat : Int) := by rw [rangeSize_one]; split <;> omega
  refine call_list_range (I.ok.hd hc) (show IsRange s.heap p lo hi 1 t u v from e) (small_one h1 h2 h3 h4) hn h5 fun h' tk acc c kp hD hI => ?_
  refine ⟨.ref s.heap.objs.size, _, I.laid (t' := tk) (o := .lst (rangeV lo (hi - lo).toNat)) kp (Nat.le_refl _) ?_, rfl, q _ (I.hok.fresh (Nat.le_refl _))⟩
  refine ⟨by rw [rangeV_len, sizeLine_eq]; exact h5, acc.toList, c, vals_of (by rw [rangeV_len, Array.length_toList]; exact hI.1) fun j x u e1 e2 => ?_, by rw [Array.toArray_toList]; exact hD⟩
  rw [Array.getElem?_toList] at e2
  obtain ⟨t', rfl⟩ := hI.2 j u e2
  unfold rangeV at e1
  rw [List.getElem?_map] at e1
  cases z : (List.range (hi - lo).toNat)[j]? with
  | none => rw [z] at e1; cases e1
  | some i =>
    rw [z] at e1
    have : i = j := by
      have hl : j < (List.range (hi - lo).toNat).length := (List.getElem?_eq_some_iff.mp z).1
      rw [List.getElem?_eq_getElem hl, List.getElem_range] at z
      exact (Option.some.inj z).symm
    subst this
    cases e1
    exact ⟨t', by rw [Int.mul_one]⟩
theorem kV_of {P : Program} {w : World} {k : Key} {u : Value} (h : (mixKind P w).is k u = true) : RelV (kV k) u := by
  rcases keyIs_shape h with ⟨i, t, rfl, rfl⟩ | ⟨x, t, rfl, rfl⟩
  · exact ⟨t, rfl⟩
  · exact ⟨t, rfl⟩
theorem KV.fst {κ : Type} : ∀ {kvs : List (κ × V)} {vs : List (κ × Value)}, KV kvs vs → kvs.map (·.1) = vs.map (·.1)
  | _, _, .nil => rfl
  | _, _, .cons r t => by rw [List.map_cons, List.map_cons, r.1, KV.fst t]
theorem call_list_dK (hc : X.calm = true) : CallR X (.type "list") (fun xs H Q => ∃ a kvs, xs = [.ref a] ∧ H a = some (.dK kvs) ∧ ∀ l, H l = none → Q (.ref l) (upd H l (.lst (kvs.map fun p => kV p.1)))) := by
  intro pins s σ H xs us Q I r h
  obtain ⟨a, kvs, rfl, ha, q⟩ := h
  obtain ⟨u, rfl, rx⟩ := vals1 r
  cases rx
  obtain ⟨z, hs, vs, rel, dd⟩ := dk_of I.hok ha
  obtain ⟨ep, hat⟩ := dd.dictAt
  have hl : kvs.length = vs.length := Paired.length rel
  refine PySem.W.kdl_call (PySem.W.kdl_dict (knd := mixKind X.prog X.w) (kvs := vs) (ep := ep) hs) (I.ok.hd hc) hat (by rw [← hl]; exact z) fun h' tk acc c kp hD hI => ?_
  refine ⟨.ref s.heap.objs.size, _, I.laid (t' := tk) (o := .lst (kvs.map fun p => kV p.1)) kp (Nat.le_refl _) ?_, rfl, q _ (I.hok.fresh (Nat.le_refl _))⟩
  refine ⟨by rw [List.length_map]; exact z, acc.toList, c, vals_of (by rw [List.length_map, Array.length_toList, hl]; exact hI.1) fun j x u e1 e2 => ?_, by rw [Array.toArray_toList]; exact hD⟩
  rw [Array.getElem?_toList] at e2
  obtain ⟨k, y, e3, e4⟩ := hI.2 j u e2
  have e5 : (kvs.map (·.1))[j]? = some k := by rw [KV.fst rel, List.getElem?_map, e3]; rfl
  have e6 : (kvs.map fun p => kV p.1)[j]? = some (kV k) := by
    have : (kvs.map fun p => kV p.1) = (kvs.map (·.1)).map kV := by rw [List.map_map]; rfl
    rw [this, List.getElem?_map, e5]
    rfl
  rw [e6] at e1
  cases e1
  exact kV_of e4
end
/-- the j-th statement of a class's body -/
def inCls (s : Stmt) (j : Nat) : Stmt := match s with
  | .ClassDef _ _ _ body _ _ _ _ _ _ _ => body.getD j (.Pass ⟨0, 0, 0, 0⟩)
  | _ => .Pass ⟨0, 0, 0, 0⟩
theorem b_range : bootBuiltins "range" = some (.type "range") := by kernel_rfl
theorem dt_range {K : PySem.W.Frag} {H : Hp} (n : Nat) : DtAll K H (rangeV 0 n) ((List.range n).map fun (i : Nat) => PyData.int (i : Int)) := by
  have e1 : rangeV 0 n = ((List.range n).map fun (i : Nat) => (i : Int)).map V.int := by
    unfold rangeV
    rw [List.map_map]
    refine List.map_congr_left fun i _ => ?_
    show V.int (0 + (i : Int)) = V.int (i : Int)
    rw [Int.zero_add]
  have e2 : ((List.range n).map fun (i : Nat) => PyData.int (i : Int)) = ((List.range n).map fun (i : Nat) => (i : Int)).map PyData.int := by
    rw [List.map_map]
    rfl
  rw [e1, e2]
  exact dt_ints _
/-- [k for k in range(n)] -/
theorem comp_ids {cp : List (Nat × Str)} {σ : St} {n : Nat} {D : Addr} {Q : VK} {H1 : Hp} (hn : n ≤ 1000) (q : Q (.ref D) (upd H1 D (.lst (rangeV 0 n)))) : tLoop cp tYes (tVar 0) σ (Itr 0 n) D Q H1 := by
  refine comp_range (fun i ys H => ys = rangeV 0 i ∧ H = upd H1 D (.lst ys)) ⟨rfl, rfl⟩ ?_ ?_
  · rintro i ys H hi hD ⟨rfl, rfl⟩
    refine ⟨_, rfl, hD, ?_, ?_, ?_⟩
    · rw [rangeV_len]
      exact small1000 (by omega)
    · unfold rangeV
      rw [List.range_succ, List.map_append]
      rfl
    · rw [upd_upd]
  · rintro ys H hD ⟨rfl, rfl⟩
    exact q
/-! ### methods and classes, by what they promise -/
structure KnownM (P : Program) (w : World) (K : PySem.W.Frag) (mg : Str → Option Value) (base : Heap) (CX : CXT) (k : Nat) (C : Addr) (m : Str) (ps : List Str) (sp : Sp) : Prop where
  ex : ∃ f fd, FnOk P w K mg base CX k f fd ps sp ∧ Meth K C m f ∧ Binds K fd ps []
structure KnownI (P : Program) (w : World) (K : PySem.W.Frag) (mg : Str → Option Value) (base : Heap) (CX : CXT) (k : Nat) (C : Addr) (ps : List Str) (sp : Sp) : Prop where
  ex : ∃ f fd, FnOk P w K mg base CX k f fd ps sp ∧ Mk K C f ∧ Binds K fd ps []
structure Mth (K : PySem.W.Frag) (C : Addr) (m qual : Str) (st : Stmt) : Prop where
  ex : ∃ f fd, Fun K m qual st f fd ∧ PySem.W.findIn K (.ref C) m = some (some (.ref f)) ∧ PySem.W.isFn K (.ref f) = true
section
variable {P : Program} {w : World} {K : PySem.W.Frag} {mg : Str → Option Value} {base : Heap} {C : Addr}
theorem mth_mk {m qual : Str} {st : Stmt} {f : Addr} {oc : Value} {od an : Option Addr} {osl : Array (Option Value)} {kV doc pm cdv ct : Value} (a : PySem.W.findIn K (.ref C) m = some (some (.ref f))) (i : PySem.W.isFn K (.ref f) = true)
    (l : K.lookup f = some ⟨oc, od, .func (PySem.W.fnOf m qual (defArgs st) (defBody st) (defScope st) .none kV doc pm an cdv ct), osl⟩) (c : PySem.W.codeIn K cdv qual = true) (k : PySem.W.keepIn K (.ref f) = true) : Mth K C m qual st :=
  ⟨f, _, fun_mk l c k, a, i⟩
theorem Mth.known {m qual : Str} {st : Stmt} {N ps : List Str} {k : Nat} {sp : Sp} (D : Mth K C m qual st) (S : FnScope N ps (defScope st))
    (hb : ∀ (kV doc pm : Value) (an : Option Addr) (cdv ct : Value) (us : List Value), us.length = ps.length → bindArgs (PySem.W.fnOf m qual (defArgs st) (defBody st) (defScope st) .none kV doc pm an cdv ct) ⟨us, []⟩ = pure (ps.zip us))
    (len : ∀ vs H Q E, sp vs H Q E → vs.length = ps.length)
    (hbody : ∀ (f : Addr) (cdv : Value) (A : Around) (outer : List Env) (s : Shared) (H : Hp) (vs : List V) (Q : VK) (E : XK), Room k (A.deeper (envOfC qual (defScope st) s.heap.objs.size f cdv)) → sp vs H Q E →
      ∃ t, PSs (cxOf CX0 P w K mg base N qual (defScope st) f cdv A outer s H E).nox (defBody st) t ∧ t { nx := fun _ H' => Q .non H', rt := Q } (start N vs) H) : KnownM P w K mg base CX0 (k + 1) C m ps sp := by
  obtain ⟨f, fd, F, ha, hi⟩ := D.ex
  exact ⟨f, fd, F.ok S len fun cdv A outer s H vs Q E hr h => hbody f cdv A outer s H vs Q E hr h, ⟨ha, hi, F.kp⟩, F.binds hb⟩
theorem Mth.knownE {m qual : Str} {st : Stmt} {N ps : List Str} {k : Nat} {sp : Sp} (D : Mth K C m qual st) (S : FnScope N ps (defScope st))
    (hb : ∀ (kV doc pm : Value) (an : Option Addr) (cdv ct : Value) (us : List Value), us.length = ps.length → bindArgs (PySem.W.fnOf m qual (defArgs st) (defBody st) (defScope st) .none kV doc pm an cdv ct) ⟨us, []⟩ = pure (ps.zip us))
    (len : ∀ vs H Q E, sp vs H Q E → vs.length = ps.length)
    (hbody : ∀ (f : Addr) (cdv : Value) (A : Around) (outer : List Env) (s : Shared) (H : Hp) (vs : List V) (Q : VK) (E : XK), Room k (A.deeper (envOfC qual (defScope st) s.heap.objs.size f cdv)) → sp vs H Q E →
      ∃ t, PSs (bodyCx P w K mg base N qual (defScope st) f cdv A outer s H E) (defBody st) t ∧ t { nx := fun _ H' => Q .non H', rt := Q } (start N vs) H) : KnownM P w K mg base (CXE P w) (k + 1) C m ps sp := by
  obtain ⟨f, fd, F, ha, hi⟩ := D.ex
  exact ⟨f, fd, F.okE S len fun cdv A outer s H vs Q E hr h => hbody f cdv A outer s H vs Q E hr h, ⟨ha, hi, F.kp⟩, F.binds hb⟩
theorem KnownM.init {CX : CXT} {k : Nat} {ps : List Str} {sp : Sp} (G : KnownM P w K mg base CX k C "__init__" ps sp) (mk : PySem.W.makesIn K C = true) (kc : PySem.W.keepIn K (.ref C) = true) : KnownI P w K mg base CX k C ps sp := by
  obtain ⟨f, fd, F, hm, hb⟩ := G.ex
  exact ⟨f, fd, F, ⟨mk, hm.at_, hm.fn, kc⟩, hb⟩
end
section
variable {X : Cx} {CX : CXT} {k : Nat} {C : Addr} {ps : List Str} {sp : Sp} {E : XK} {x m : Str} {p pos apos : Pos} {e o : Expr} {es : List Expr} {t : TA} {ta : TE}
theorem pe_methN {pl : Sem Bool} (he : PE X o ta) (c : Cls X.K C) (G : KnownM X.prog X.w X.K X.mg X.base CX k C m ps sp) (hr : Room k X.A) (hx : Passes CX X E) (ha : PA X (e :: es) t)
    (hst : starEach (e :: es) X.env = (false, eval e X.env) :: starEach es X.env := by rfl) (hpl : (backTo pos (starEach es X.env)).any (·.1) = false := by rfl)
    (ht : eval (.Call (.Attribute o m apos) (e :: es) [] pos) X.env = (do
      let ov ← eval o X.env
      standAt apos.atName
      let (f, first) ← holding [ov] (getMethod ov m pl)
      callWith pos f first (backTo pos (starEach (e :: es) X.env)) (backToKw pos (keywordEach [] X.env))) := by rfl) :
    PE X (.Call (.Attribute o m apos) (e :: es) [] pos) (tMeth C m sp [] E ta t) := by
  obtain ⟨f, fd, F, hm, hb⟩ := G.ex
  exact pe_meth (pl := pl) he c hm F hr hb .nil hx ha hst hpl ht
theorem pe_methN0 {pl : Sem Bool} (he : PE X o ta) (c : Cls X.K C) (G : KnownM X.prog X.w X.K X.mg X.base CX k C m ps sp) (hr : Room k X.A) (hx : Passes CX X E)
    (ht : eval (.Call (.Attribute o m apos) [] [] pos) X.env = (do
      let ov ← eval o X.env
      standAt apos.atName
      let (f, first) ← holding [ov] (getMethod ov m pl)
      callWith pos f first (backTo pos (starEach [] X.env)) (backToKw pos (keywordEach [] X.env))) := by rfl) :
    PE X (.Call (.Attribute o m apos) [] [] pos) (tMeth C m sp [] E ta tNil) := by
  obtain ⟨f, fd, F, hm, hb⟩ := G.ex
  exact pe_meth0 (pl := pl) he c hm F hr hb .nil hx ht
theorem pe_makeN (G : KnownI X.prog X.w X.K X.mg X.base CX k C ps sp) (hr : Room (k + 1) X.A) (hm : X.mg x = some (.ref C)) (hx : Passes CX X E)
    (ha : PA X (e :: es) t) (hg : Gl X x := by rfl) (hdb : (x == ("__debug__" : Str)) = false := by decide) (he : starEach (e :: es) X.env = (false, eval e X.env) :: starEach es X.env := by rfl) (hpl : (backTo pos (starEach es X.env)).any (·.1) = false := by rfl) :
    PE X (.Call (.Name x p) (e :: es) [] pos) (tMake C sp [] E t) := by
  obtain ⟨f, fd, F, M, hb⟩ := G.ex
  exact pe_make M F hr hg hm hb .nil hx ha hdb he hpl
end
end L2

namespace L2
open PySem PySem.Spec PyProof.Rows
/-! ### what a comprehension catches -/
def clFold (cells : List (Str × Addr)) : List (Str × NameKind) → List (Str × Addr) → List (Str × Addr)
  | [], acc => acc
  | (n, k) :: r, acc => clFold cells r (if k == .free then (n, (cells.lookup n).getD 0) :: acc else acc)
theorem closureFor_fold {env : Env} : ∀ {names : List (Str × NameKind)} {acc : List (Str × Addr)}, (∀ y ∈ names, y.2 = .free → ∃ c, env.cells.lookup y.1 = some c) →
    (forIn names acc fun (x : Str × NameKind) (cs : List (Str × Addr)) => (do
      let (name, kind) := x
      if kind == NameKind.free then (do let a ← cellOf env name; pure (ForInStep.yield ((name, a) :: cs))) else pure (ForInStep.yield cs) : Sem (ForInStep (List (Str × Addr))))) = pure (clFold env.cells names acc)
  | [], acc, _ => rfl
  | (n, k) :: r, acc, h => by
    rw [List.forIn_cons]
    by_cases hk : (k == NameKind.free) = true
    · obtain ⟨c, hc⟩ := h (n, k) List.mem_cons_self (by simpa using hk)
      have e : cellOf env n = pure c := by unfold cellOf; rw [show env.cells.lookup n = some c from hc]
      have ih := closureFor_fold (env := env) (names := r) (acc := (n, c) :: acc) fun y hy => h y (List.mem_cons_of_mem _ hy)
      show (do let r ← (if k == NameKind.free then (do let a ← cellOf env n; pure (ForInStep.yield ((n, a) :: acc))) else pure (ForInStep.yield acc) : Sem (ForInStep (List (Str × Addr)))); _) = _
      rw [if_pos hk, e, pure_bind, pure_bind]
      refine Eq.trans ih ?_
      show _ = pure (clFold env.cells r (if (k == NameKind.free) = true then (n, (env.cells.lookup n).getD 0) :: acc else acc))
      rw [if_pos hk, show env.cells.lookup n = some c from hc]
      rfl
    · have ih := closureFor_fold (env := env) (names := r) (acc := acc) fun y hy => h y (List.mem_cons_of_mem _ hy)
      show (do let r ← (if k == NameKind.free then (do let a ← cellOf env n; pure (ForInStep.yield ((n, a) :: acc))) else pure (ForInStep.yield acc) : Sem (ForInStep (List (Str × Addr)))); _) = _
      rw [if_neg hk, pure_bind]
      refine Eq.trans ih ?_
      show _ = pure (clFold env.cells r (if (k == NameKind.free) = true then (n, (env.cells.lookup n).getD 0) :: acc else acc))
      rw [if_neg hk]
theorem clFold_sub {cells : List (Str × Addr)} : ∀ {names : List (Str × NameKind)} {acc : List (Str × Addr)}, (∀ y ∈ names, y.2 = .free → ∃ c, cells.lookup y.1 = some c) → (∀ x c, acc.lookup x = some c → cells.lookup x = some c) →
    ∀ x c, (clFold cells names acc).lookup x = some c → cells.lookup x = some c
  | [], _, _, h => h
  | (n, k) :: r, acc, hf, h => by
    refine clFold_sub (names := r) (fun y hy => hf y (List.mem_cons_of_mem _ hy)) ?_
    intro x c e
    by_cases hk : (k == NameKind.free) = true
    · obtain ⟨c', hc⟩ := hf (n, k) List.mem_cons_self (by simpa using hk)
      have hc' : cells.lookup n = some c' := hc
      rw [if_pos hk, hc', List.lookup_cons] at e
      by_cases hx : (x == n) = true
      · rw [hx] at e
        cases e
        have : x = n := by simpa using hx
        rw [this]
        exact hc'
      · rw [show (x == n) = false by simpa using hx] at e
        exact h x c e
    · rw [if_neg hk] at e
      exact h x c e
theorem clFold_keep {cells : List (Str × Addr)} : ∀ {names : List (Str × NameKind)} {acc : List (Str × Addr)} {x : Str}, (∃ c, acc.lookup x = some c) → ∃ c, (clFold cells names acc).lookup x = some c
  | [], _, _, h => h
  | (n, k) :: r, acc, x, ⟨c, h⟩ => by
    refine clFold_keep (names := r) ?_
    by_cases hk : (k == NameKind.free) = true
    · rw [if_pos hk, List.lookup_cons]
      cases hx : x == n with
      | true => exact ⟨_, rfl⟩
      | false => exact ⟨c, h⟩
    · rw [if_neg hk]
      exact ⟨c, h⟩
theorem clFold_has {cells : List (Str × Addr)} : ∀ {names : List (Str × NameKind)} {acc : List (Str × Addr)} {x : Str}, (x, NameKind.free) ∈ names → ∃ c, (clFold cells names acc).lookup x = some c
  | (n, k) :: r, acc, x, h => by
    rcases List.mem_cons.mp h with e | h
    · cases e
      refine clFold_keep (names := r) ⟨(cells.lookup n).getD 0, ?_⟩
      rw [if_pos (by rfl), List.lookup_cons, beq_self_eq_true]
    · exact clFold_has (names := r) h
theorem relabel_kind {env : Env} : ∀ {names : List (Str × NameKind)} {x : Str}, names.lookup x = some .free →
    (names.map fun (n, k) => if (k == NameKind.free && env.scope.kind == .function && env.kindOf n == some .cell) then (n, NameKind.cell) else (n, k)).lookup x = some .cell ∨
    (names.map fun (n, k) => if (k == NameKind.free && env.scope.kind == .function && env.kindOf n == some .cell) then (n, NameKind.cell) else (n, k)).lookup x = some .free
  | [], _, h => by simp at h
  | (n, k) :: r, x, h => by
    have ih := @relabel_kind env r x
    rw [List.lookup_cons] at h
    rw [List.map_cons]
    cases hx : x == n with
    | true =>
      rw [hx] at h
      cases h
      by_cases hc : (NameKind.free == NameKind.free && env.scope.kind == .function && env.kindOf n == some .cell) = true
      · simp only [hc, if_true, List.lookup_cons, hx]
        exact .inl trivial
      · simp only [hc, if_false, List.lookup_cons, hx, Bool.false_eq_true]
        exact .inr trivial
    | false =>
      rw [hx] at h
      by_cases hc : (k == NameKind.free && env.scope.kind == .function && env.kindOf n == some .cell) = true
      · simp only [hc, if_true, List.lookup_cons, hx]
        exact ih h
      · simp only [hc, if_false, List.lookup_cons, hx, Bool.false_eq_true]
        exact ih h
theorem caps_of {X : Cx} {scope : Scope} {cp : List (Nat × Str)} {sc : Scope} {N : List Str} (hcell : ∀ x, X.env.scope.names.lookup x = some .cell → ∃ c, X.env.cells.lookup x = some c) (hs : X.env.scope = sc := by rfl) (hN : X.N = N := by rfl)
    (kind : scope.kind = .function := by rfl) (plain : ∀ y ∈ scope.names, y.2 ≠ .cell := by decide) (names : ∀ y ∈ scope.names, y.2 = .local → scope.names.lookup y.1 = some .local := by decide +kernel)
    (free : ∀ y ∈ scope.names, y.2 = .free → sc.names.lookup y.1 = some .cell := by decide +kernel) (at' : ∀ p ∈ cp, N[p.1]? = some p.2 ∧ sc.names.lookup p.2 = some .cell ∧ scope.names.lookup p.2 = some .free := by decide +kernel) :
    Caps X scope (clFold X.env.cells scope.names []) cp := by
  subst hs hN
  have hf : ∀ y ∈ scope.names, y.2 = .free → ∃ c, X.env.cells.lookup y.1 = some c := fun y hy e => hcell _ (free y hy e)
  refine ⟨kind, plain, names, ?_, clFold_sub hf (fun x c e => by cases e), fun x h => ?_, fun p hp => ?_⟩
  · show closureFor scope X.env = _
    simp only [closureFor]
    have := closureFor_fold (env := X.env) (acc := []) hf
    exact (congrArg (fun z => z >>= fun r => pure r) this).trans (pure_bind _ _)
  · have hm : ∀ k, (relabel scope X.env).names.lookup x = some k → (k = .cell ∨ k = .free) → (x, NameKind.free) ∈ scope.names := fun k e hk => by
      have m := PySem.mem_of_lookup e
      unfold relabel at m
      obtain ⟨⟨n, k'⟩, hy, e'⟩ := List.mem_map.mp m
      have nc := plain _ hy
      by_cases hc : (k' == NameKind.free && X.env.scope.kind == .function && X.env.kindOf n == some .cell) = true
      · simp only [hc, if_true] at e'
        have e1 : n = x := congrArg (·.1) e'
        have : k' = .free := by simp only [Bool.and_eq_true, beq_iff_eq] at hc; exact hc.1.1
        subst e1 this
        exact hy
      · simp only [hc, if_false, Bool.false_eq_true] at e'
        have e1 : n = x := congrArg (·.1) e'
        have e2 : k' = k := congrArg (·.2) e'
        subst e1 e2
        rcases hk with z | z
        · exact absurd z nc
        · subst z; exact hy
    rcases h with h | h
    · exact clFold_has (hm _ h (.inl rfl))
    · exact clFold_has (hm _ h (.inr rfl))
  · obtain ⟨h1, h2, h3⟩ := at' p hp
    exact ⟨h1, .inl h2, relabel_kind h3⟩
end L2

namespace L2
open PySem PySem.Spec PyProof.Rows PySem.Builtin PySem.Builtin.Str
/-! ### what a slice of a text is -/
end L2

namespace L2
open PySem PySem.Spec PyProof.Rows
/-! ### for over a dict: it stands still while it is walked -/
/-- d was no tuple, nothing known and no table at the entry -/
def NoF (X : Cx) (d : Addr) : Prop := (∀ xs, X.H₀ d ≠ some (.tup xs)) ∧ (∀ o u, X.H₀ d ≠ some (.frz o u)) ∧ ∀ ps, X.H₀ d ≠ some (.tbl ps)
section
variable {X : Cx} {pins : List (Addr × Obj)} {σ : St} {H : Hp} {s : Shared} {d : Addr}
/-- the same thing, under another word -/
theorem Inv.retag {u u' : HO} (I : Inv X pins σ H s) (e : H d = some u) (nf : NoF X d) (no : ∀ x, u ≠ .own x) (nt : ∀ xs, u ≠ .tup xs) (new : ObjOk X.prog X.w (upd H d u') s.heap d u') : Inv X pins σ (upd H d u') s := by
  have hn : ∀ b, H b = none → upd H d u' b = none := fun b n => by rw [upd_ne (ne_of_none e n).symm]; exact n
  refine ⟨I.ok, I.os, I.bare, ⟨I.base.keep, I.base.slot, fun b o q n hx => hn b (I.base.free b o q n hx), I.base.there, fun b xs q => ?_, fun b o v q => ?_, fun b ps q => ?_⟩, I.loc, I.cell, hn _ I.free, fun x c q => hn _ (I.freeC x c q), fun p hp => ?_, fun b v q => ?_, I.len⟩
  · have : b ≠ d := fun z => nf.1 xs (z ▸ q)
    rw [upd_ne this]
    exact I.base.tups b xs q
  · have : b ≠ d := fun z => nf.2.1 o v (z ▸ q)
    rw [upd_ne this]
    exact I.base.frzs b o v q
  · have : b ≠ d := fun z => nf.2.2 ps (z ▸ q)
    rw [upd_ne this]
    exact I.base.tbls b ps q
  · obtain ⟨a1, a2, a3, a4, a5⟩ := I.pin p hp
    exact ⟨a1, hn _ a2, a3, a4, a5⟩
  · by_cases hb : b = d
    · subst hb
      rw [upd_same] at q
      cases q
      exact new
    · rw [upd_ne hb] at q
      refine (I.hok b v q).stay (fun _ _ _ r => r) (fun c r => ?_) fun c xs r => ?_
      · rw [upd_ne (ne_of r e (fun z => no _ z.symm))]
        exact r
      · rw [upd_ne (ne_of r e (fun z => nt _ z.symm))]
        exact r
theorem Inv.nof {u : HO} (I : Inv X pins σ H s) (e : H d = some u) (h1 : ∀ xs, u ≠ .tup xs) (h2 : ∀ o v, u ≠ .frz o v) (h3 : ∀ ps, u ≠ .tbl ps) : NoF X d := by
  refine ⟨fun xs q => ?_, fun o v q => ?_, fun ps q => ?_⟩
  · have := (I.base.tups d xs q).symm.trans e
    exact h1 xs (Option.some.inj this).symm
  · have := (I.base.frzs d o v q).symm.trans e
    exact h2 o v (Option.some.inj this).symm
  · obtain ⟨m, q'⟩ := I.base.tbls d ps q
    have := q'.symm.trans e
    exact h3 _ (Option.some.inj this).symm
theorem Inv.freeze {kvs : List (Key × V)} (I : Inv X pins σ H s) (e : H d = some (.dK kvs)) : NoF X d ∧ ∃ o, s.heap.get? d = some o ∧ Inv X pins σ (upd H d (.frz o (.dK kvs))) s := by
  have nf : NoF X d := I.nof e (by intro _ z; cases z) (by intro _ _ z; cases z) (by intro _ z; cases z)
  have ok : ObjOk X.prog X.w H s.heap d (.dK kvs) := I.hok d _ e
  obtain ⟨z, hs, vs, rel, o, es, ep, ho, r⟩ := id ok
  exact ⟨nf, o, ho, I.retag e nf (by intro _ z; cases z) (by intro _ z; cases z) ⟨ho, z, hs, vs, rel, o, es, ep, ho, r⟩⟩
theorem Inv.thaw {o : Obj} {kvs : List (Key × V)} (I : Inv X pins σ H s) (nf : NoF X d) (e : H d = some (.frz o (.dK kvs))) : Inv X pins σ (upd H d (.dK kvs)) s := by
  obtain ⟨_, q⟩ := (show ObjOk X.prog X.w H s.heap d (.frz o (.dK kvs)) from I.hok d _ e)
  exact I.retag e nf (by intro _ z; cases z) (by intro _ z; cases z) q
end
theorem frz_at {P : Program} {w : World} {H : Hp} {h : Heap} {a : Addr} {o : Obj} {kvs : List (Key × V)} {es : Array DictEntry} {ep : Nat} (ok : HOk P w H h) (e : H a = some (.frz o (.dK kvs))) (ho : o.data = .dict es ep) :
    (a == sysModules) = false ∧ ∃ vs, KV kvs vs ∧ h.DictAt (mixKind P w) a vs ep := by
  obtain ⟨e1, z, hs, vs, rel, o', es', ep', ho', r1, r2, r3⟩ := (show ObjOk P w H h a (.frz o (.dK kvs)) from ok a _ e)
  rw [e1] at ho'
  cases ho'
  have := r2.symm.trans ho
  cases this
  exact ⟨hs, vs, rel, o, _, e1, r1, r2, r3⟩
section
variable {X : Cx} {tg : Expr}
/-- behind the loop the dict is as any other -/
def thawE (X : Cx) (D : Ends) : Ends where
  nx := fun σ H => ∃ a o kvs, NoF X a ∧ H a = some (.frz o (.dK kvs)) ∧ D.nx σ (upd H a (.dK kvs))
  rt := fun v H => ∃ a o kvs, NoF X a ∧ H a = some (.frz o (.dK kvs)) ∧ D.rt v (upd H a (.dK kvs))
  bk := D.bk
  ct := D.ct
end
theorem Same.thaw {H H2 : Hp} {d : Addr} {o : Obj} {u : HO} (e : H d = some u) (s : Same (upd H d (.frz o u)) H2) : Same H (upd H2 d u) := fun b v q => by
  by_cases hb : b = d
  · subst hb
    rw [upd_same]
    exact e.symm.trans q
  · rw [upd_ne hb]
    exact s b v (by rw [upd_ne hb]; exact q)
end L2

namespace L2
open PySem PySem.Spec PyProof.Rows
/-! ### list.insert -/
def insV {α : Type} (xs : List α) (k : Nat) (y : α) : List α := xs.take k ++ y :: xs.drop k
theorem insV_len {α : Type} (xs : List α) (k : Nat) (y : α) : (insV xs k y).length = xs.length + 1 := by
  unfold insV
  rw [List.length_append, List.length_cons, List.length_take, List.length_drop]
  omega
def rInsert : V → List V → Hp → VK → Prop := fun x vs H Q => ∃ l xs i y, x = .ref l ∧ vs = [.int i, y] ∧ H l = some (.lst xs) ∧ 0 ≤ i ∧ i ≤ xs.length ∧ xs.length < sizeLine ∧ Q .non (upd H l (.lst (insV xs i.toNat y)))
section
variable {X : Cx}
theorem mt_insert : MtM X "list.insert" rInsert := by
  intro pins s σ H x vs v us Q I rx rv h
  obtain ⟨l, xs, i, y, rfl, rfl, hH, h0, h1, hz, q⟩ := h
  cases rx
  cases rv with
  | @cons _ u1 _ us' r1 rr =>
    cases rr with
    | @cons _ u2 _ us'' r2 rr =>
      cases rr
      obtain ⟨t, rfl⟩ := r1
      obtain ⟨z, its, n, r, hl, e⟩ := I.lstM hH
      have h63 := line63
      have hfit : Builtin.List.listFitsIndex i = true := fitsIndex_both (by omega) (by omega)
      refine call_meets F.slot_list_insert ⟨_, e, rfl⟩ F.entry_list_insert (F.args_list_insert_3 _ _ _) (PySem.AutoSeq1.list_insert_list_int_val_1 l its.toArray n i t u2 (by rw [hfit]; decide) (by rw [List.size_toArray]; omega)) ⟨e, ?_⟩
      refine ⟨.non, _, I.lset (its' := its.take i.toNat ++ u2 :: its.drop i.toNat) hH e ?_ ((r.take i.toNat).append (.cons r2 (r.drop i.toNat))) ?_, rfl, q⟩
      · show (its.toArray.extract 0 (if i < 0 then (i + (its.toArray.size : Int)).toNat else min i.toNat its.toArray.size)).push u2 ++ its.toArray.extract (if i < 0 then (i + (its.toArray.size : Int)).toNat else min i.toNat its.toArray.size) = _
        rw [PySem.W.kl_ins_eq, List.size_toArray, if_neg (by omega), Nat.min_eq_left (by omega)]
      · have := insV_len xs i.toNat y
        unfold insV at this
        omega
/-! ### dict(d) -/
theorem call_dict_of : CallR X (.type "dict") (fun xs H Q => ∃ a kvs, xs = [.ref a] ∧ Rd H a (.dK kvs) ∧ ∀ d, H d = none → Q (.ref d) (upd H d (.dK kvs))) := by
  intro pins s σ H xs us Q I r h
  obtain ⟨a, kvs, rfl, ha, q⟩ := h
  obtain ⟨u, rfl, rx⟩ := vals1 r
  cases rx
  obtain ⟨z, hs, vs, rel, dd⟩ := dk_rd I.hok ha
  have hl : kvs.length = vs.length := Paired.length rel
  refine kt_call_dict hs dd (by rw [← hl]; exact z) fun h' hm sb => ?_
  refine ⟨.ref s.heap.objs.size, _, I.laid (t' := s.toks) (o := .dK kvs) (fun b o e => sb.extBut b o (Nat.ne_of_lt (Heap.lt_size e)) (Heap.get?_push_of_some _ e)) (Nat.le_refl _) ?_, rfl, q _ (I.hok.fresh (Nat.le_refl _))⟩
  refine ⟨z, ?_, vs, rel, hm⟩
  exact beq_eq_false_iff_ne.mpr (Nat.ne_of_gt I.big)
/-! ### d != e, where both hold the same things -/
end
/-! ### for k, v in d.items() -/
def Iti (a : Addr) (o : Obj) (kvs : List (Key × V)) : It :=
  ⟨fun i H => H a = some (.frz o (.dK kvs)) ∧ i < kvs.length, fun i H x H' => ∃ p q, kvs[i]? = some q ∧ H p = none ∧ x = .ref p ∧ H' = upd H p (.tup [kV q.1, q.2]), fun i H => H a = some (.frz o (.dK kvs)) ∧ kvs.length ≤ i⟩
theorem KV.at {kvs : List (Key × V)} {vs : List (Key × Value)} : KV kvs vs → ∀ (i : Nat) (k : Key) (v : Value), vs[i]? = some (k, v) → ∃ x, kvs[i]? = some (k, x) ∧ RelV x v := by
  intro r
  induction r with
  | nil => intro i k v h; simp at h
  | @cons p q ps qs hq t ih =>
    intro i k v h
    cases i with
    | zero =>
      simp at h
      subst h
      exact ⟨p.2, by simp; exact Prod.ext hq.1 rfl, hq.2⟩
    | succ i => simpa using ih i k v (by simpa using h)
theorem turn_items {P : Program} {w : World} {K : PySem.W.Frag} {elts : List Expr} {x1 : Nat} {tpos : Pos} (a it : Addr) (o : Obj) (kvs : List (Key × V)) {es : Array DictEntry} {ep : Nat} (hod : o.data = .dict es ep) : Turn P w K (.Tuple elts x1 tpos) (Iti a o kvs) [it] it (fun i h => ∃ ok ov, IsItemIter h it a i kvs.length ep ok ov) where
  mem := by simp
  obj := fun i h st b hb => by
    have e : b = it := by simpa using hb
    subst e
    obtain ⟨ok, ov, e⟩ := st
    exact ⟨_, e, fun v z => by
      have z' : Data.fields _ = Data.cell v := z
      cases z'⟩
  keep := fun i h h' st k => by
    obtain ⟨ok, ov, e⟩ := st
    exact ⟨ok, ov, k it (by simp) _ e⟩
  item := by
    intro X hP hw hK hc i pins s σ H E I hf st hg
    subst hP hw hK
    obtain ⟨ha, hi⟩ := hg
    obtain ⟨ok, ov, st⟩ := st
    obtain ⟨_, vs, rel, dat⟩ := frz_at I.hok ha hod
    have hl : kvs.length = vs.length := Paired.length rel
    obtain ⟨⟨k, x⟩, hx⟩ : ∃ p, vs[i]? = some p := ⟨vs[i]'(by omega), by simp⟩
    obtain ⟨f0, f1, f2, f3, f4, f5⟩ := hf it (by simp)
    rw [hl] at st
    obtain ⟨y, hy, ry⟩ := KV.at rel i k x hx
    have hpn : H s.heap.objs.size = none := I.hok.fresh (Nat.le_refl _)
    have hit : it ≠ s.heap.objs.size := Nat.ne_of_lt (Heap.lt_size st)
    refine wpAny_pyNext_items_item st dat hx fun u h' hu st' htup hsz kk => ?_
    have I1 : Inv X pins σ (upd H s.heap.objs.size (.tup [kV k, y])) { s with heap := s.heap.push { cls := .type "tuple", data := .seq #[u, x] } } := by
      refine I.laid (t' := s.toks) (o := .tup [kV k, y]) (fun b ob q => Heap.get?_push_of_some _ q) (Nat.le_refl _) ?_
      refine ⟨by show 2 ≤ sizeLine; exact sl, [u, x], .cons (kV_of hu) (.cons ry .nil), _, Heap.get?_push_size _ rfl, rfl, 0, rfl⟩
    have g0 : upd H s.heap.objs.size (.tup [kV k, y]) it = none := by rw [upd_ne hit]; exact f0
    have I2 : Inv X pins σ (upd H s.heap.objs.size (.tup [kV k, y])) { s with heap := h' } := by
      have kp : ∀ b ob, b ≠ it → (s.heap.push { cls := .type "tuple", data := .seq #[u, x] }).get? b = some ob → h'.get? b = some ob := fun b ob hb e => by
        rcases Heap.get?_push_cases e with ⟨rfl, rfl⟩ | e
        · exact htup
        · exact kk b ob hb e
      have I2 := Inv.turned (s := { s with heap := s.heap.push { cls := .type "tuple", data := .seq #[u, x] } }) (h' := h') (t' := s.toks) (it := it) I1 kp g0 f1 f3 f4 f5
      exact I2
    refine ⟨_, rfl, wpAny_letOwnedTupleGo_items (s := { s with heap := h' }) st' fun h'' st'' sb => ?_⟩
    have I3 : Inv X pins σ (upd H s.heap.objs.size (.tup [kV k, y])) { s with heap := h'' } := by
      have I3 := Inv.turned (s := { s with heap := h' }) (h' := h'') (t' := s.toks) (it := it) I2 (fun b ob hb e => sb.extBut b ob hb e) g0 f1 f3 f4 f5
      exact I3
    refine ⟨.ref s.heap.objs.size, _, I3, rfl, ⟨s.heap.objs.size, (k, y), hy, hpn, rfl, rfl⟩, ⟨_, _, by rw [hl]; exact st''⟩, fun b hb => ?_⟩
    have e : b = it := by simpa using hb
    subst e
    exact g0
  done := by
    intro X hP hw hK hc i pins s σ H E I hf st hg
    subst hP hw hK
    obtain ⟨ha, hi⟩ := hg
    obtain ⟨ok, ov, st⟩ := st
    obtain ⟨_, vs, rel, dat⟩ := frz_at I.hok ha hod
    have hl : kvs.length = vs.length := Paired.length rel
    obtain ⟨f0, f1, f2, f3, f4, f5⟩ := hf it (by simp)
    rw [hl] at st
    exact wpAny_pyNext_items_end (I.ok.hd hc) st dat (by simp; omega) fun h' eb => ⟨rfl, I.turned (t' := s.toks) (fun b o hb e => eb b o hb e) f0 f1 f3 f4 f5⟩
  self := fun A i s Q E st h => by
    obtain ⟨ok, ov, st⟩ := st
    exact PySem.W.kcp_self st h
section
variable {X : Cx} {elts : List Expr} {x1 : Nat} {tpos apos pos : Pos}
def iItems (X : Cx) (tl : TE) : TI := fun σ H R => tl σ H fun x H1 => ∃ a kvs, x = .ref a ∧ H1 a = some (.dK kvs) ∧ (NoF X a → ∀ o, R (Iti a o kvs) (upd H1 a (.frz o (.dK kvs))))
theorem pi_items {l : Expr} {tl : TE} (hl : PE X l tl) (hbase : attributeBase l "items" X.env (eval l X.env) = eval l X.env := by rfl) (hline : (apos.endLine == pos.line) = true := by rfl) :
    PI X (.Tuple elts x1 tpos) (.Call (.Attribute l "items" apos) [] [] pos) (iItems X tl) := by
  intro pins s σ H R I h
  refine wpAny_Call_method0_late hbase hline (thn (hl pins s σ H _ I h) fun v s1 ⟨x, H1, I1, r1, q1⟩ => ?_)
  obtain ⟨a, kvs, e, ha, q⟩ := q1
  subst e
  cases r1
  obtain ⟨t1, t2, _⟩ := isD_at I1 (.inl ⟨kvs, .inl ha⟩)
  obtain ⟨nf, o, ho, I2⟩ := I1.freeze ha
  obtain ⟨z, hs, vs, rel, o', es, ep, ho', r1, r2, r3⟩ := (show ObjOk X.prog X.w H1 s1.heap a (.dK kvs) from I1.hok a _ ha)
  rw [ho] at ho'
  cases ho'
  have hl : kvs.length = vs.length := Paired.length rel
  have dat : s1.heap.DictAt (mixKind X.prog X.w) a vs ep := ⟨o, es, ho, r1, r2, r3⟩
  refine ⟨"dict", _, PySem.F.plainAttrs_dict, PySem.F.slot_dict_items, PySem.F.type_dict_items, t1, t2, Calls.callWith_builtin rfl (PySem.evalArgs_none ?_)⟩
  refine call_meetsIn PySem.F.slot_dict_items dat.dictOf.typeIs PySem.F.entry_dict_items (PySem.F.args_dict_items_1 _) (meets_dict_items (mixKind X.prog X.w) a hs) ⟨⟨vs, dat.dictOf⟩, ?_⟩
  refine wpAny_pyIter_items ⟨_, Heap.get?_push_size _ rfl, rfl, rfl⟩ (dat.push _) ?_
  have I3 : Inv X pins σ (upd H1 a (.frz o (.dK kvs))) { s1 with heap := s1.heap.push { cls := .type "dict_items", data := .fields #[.ref a] } } := I2.kept (t' := s1.toks) fun b o e => Heap.get?_push_of_some _ e
  refine ⟨_, [_], _, _, _, rfl, I3.kept (t' := s1.toks) fun b o e => Heap.get?_push_of_some _ e, turn_items a _ o kvs r2, ⟨.none, .none, ?_⟩, fun b hb => ?_, q nf o⟩
  · rw [hl]
    exact Heap.get?_push_size _ rfl
  · have e : b = (s1.heap.push { cls := .type "dict_items", data := .fields #[.ref a] }).objs.size := by simpa using hb
    subst e
    exact I3.fpOk (Nat.le_refl _) (I3.hok.fresh (Nat.le_refl _))
def tForI (X : Cx) (tl : TE) (g : TG) (tb : TS) : TS := fun D σ H => tFor (iItems X tl) g tb (thawE X D) σ H
theorem ps_forI {l : Expr} {body : List Stmt} {tl : TE} {g : TG} {tb : TS} {fpos : Pos} (hp : PassesOwn (model X.prog X.w) X.A X.env X.xe) (hc : X.calm = true) (hl : PE X l tl) (hg : PG X (.Tuple elts x1 tpos) g) (hb : PSs X body tb)
    (hbase : attributeBase l "items" X.env (eval l X.env) = eval l X.env := by rfl) (hline : (apos.endLine == pos.line) = true := by rfl)
    (hs : ∀ x, foldedSetIterable (.Call (.Attribute l "items" apos) [] [] pos) X.env x = pure x := by intro _; rfl) : PS X (.For (.Tuple elts x1 tpos) (.Call (.Attribute l "items" apos) [] [] pos) body [] fpos) (tForI X tl g tb) := by
  intro pins s σ H D I h
  refine thn (ps_for hp hc (pi_items hl hbase hline) hg hb hs pins s σ H (thawE X D) I h) fun f s' q => ?_
  cases f with
  | next => obtain ⟨σ', H', I', a, o, kvs, nf, e, q⟩ := q; exact ⟨σ', _, I'.thaw nf e, q⟩
  | cont => exact q
  | brk => exact q
  | ret v => obtain ⟨x, σ', H', I', r, a, o, kvs, nf, e, q⟩ := q; exact ⟨x, σ', _, I'.thaw nf e, r, q⟩
end
theorem for_items {a : Addr} {ob : Obj} {kvs : List (Key × V)} {g : TG} {tb : TS} {D : Ends} {σ : St} {H : Hp} (Pv : Nat → St → Hp → Prop) (h0 : Pv 0 σ H) (hl : ∀ i σ H, i ≤ kvs.length → Pv i σ H → H a = some (.frz ob (.dK kvs)))
    (hs : ∀ i q σ H p, kvs[i]? = some q → Pv i σ H → H p = none → g (.ref p) σ (upd H p (.tup [kV q.1, q.2])) fun σ2 H2 => tb { D with nx := Pv (i + 1), ct := Pv (i + 1), bk := D.nx } σ2 H2) (hd : ∀ σ H, Pv kvs.length σ H → D.nx σ H) :
    ∃ W : Nat → Nat → St → Hp → Prop, (∃ m, W 0 m σ H) ∧ ∀ i m σ H, W i m σ H →
      ((Iti a ob kvs).stop i H ∧ D.nx σ H) ∨ ((Iti a ob kvs).go i H ∧ ∃ N : St → Hp → Prop, (∀ σ' H', N σ' H' → ∃ m', m' < m ∧ W (i + 1) m' σ' H') ∧ ∀ x H', (Iti a ob kvs).yld i H x H' → g x σ H' fun σ2 H2 => tb { D with nx := N, ct := N, bk := D.nx } σ2 H2) := by
  refine ⟨fun i m σ H => m = kvs.length - i ∧ i ≤ kvs.length ∧ Pv i σ H, ⟨kvs.length, by simp, Nat.zero_le _, h0⟩, ?_⟩
  rintro i m σ H ⟨rfl, hi, p⟩
  have q := hl i σ H hi p
  by_cases hlt : i < kvs.length
  · refine .inr ⟨⟨q, hlt⟩, Pv (i + 1), fun σ' H' p' => ⟨kvs.length - (i + 1), by omega, rfl, hlt, p'⟩, fun x H' y => ?_⟩
    obtain ⟨pa, pr, hp, hn, ex, eh⟩ := y
    subst eh ex
    exact hs i pr σ _ pa hp p hn
  · have e : i = kvs.length := by omega
    subst e
    exact .inl ⟨⟨q, Nat.le_refl _⟩, hd σ H p⟩
/-! ### xs != [], xs[::-1], what is never come to -/
section
variable {X : Cx} {e st : Expr} {te : TE} {ts : TO} {p2 pos : Pos}
theorem ps_dead {st : Stmt} : PS X st (fun _ _ _ => False) := fun _ _ _ _ _ _ h => h.elim
end
end L2

namespace L2
open PySem PySem.Spec PyProof.Rows
/-! ### lambdas: the table of the code that makes them is tracked by what is true of it -/
/-- what the base tells of the code that makes lambdas -/
structure Maker (mg : Str → Option Value) (base : Heap) (c P : Addr) : Prop where
  hd : PySem.W.CodeHd base c P
  bt : base.BuiltinsAt mg P
section
variable {X : Cx}
end
/-! ### the head, with tables -/
/-- a def whose code's table stands in the written part -/
structure TabOf (q : Program) (K : PySem.W.Frag) (z : Addr × Addr) : Prop where
  ex : ∃ x : Str, ((recsOf q).find? (fun e => e.name == x)).isSome = true ∧ PySem.W.tabIn K x = some z
end L2

namespace L2
open PySem PySem.Spec PyProof.Rows
/-! ### C.m(x, ..): a method called through its class -/
/-- what the written part tells of a class whose method m is read from it -/
structure ClsM (K : PySem.W.Frag) (C : Addr) (m : Str) : Prop where
  ga : PySem.W.specialIn K (.ref C) "__getattribute__" = some (some (.builtin "type.__getattribute__"))
  ex : ∃ (mc : Value) (f : Addr), PySem.W.readsIn K C mc = true ∧ PySem.W.findCls K (.ref C) mc m = some (.val (.ref f)) ∧ PySem.W.findIn K (.ref C) m = some (some (.ref f))
section
variable {X : Cx} {CX : CXT} {k : Nat} {C : Addr} {ps : List Str} {sp : Sp} {E : XK} {x m : Str} {p pos apos : Pos} {e o : Expr} {es : List Expr} {t : TA} {ta : TE}
end
end L2
namespace L2
open PySem PySem.Spec PyProof.Rows
/-! ### a def that makes lambdas: its code's table -/
structure DefT (K : PySem.W.Frag) (mg : Str → Option Value) (x : Str) (st : Stmt) (z : Addr × Addr) : Prop where
  ex : ∃ f fd, Fun K x x st f fd ∧ mg x = some (.ref f) ∧ fd.code = .ref z.1
  tab : PySem.W.tabIn K x = some z
section
variable {P : Program} {w : World} {K : PySem.W.Frag} {mg : Str → Option Value} {base : Heap}
end
end L2

namespace L2
open PySem PySem.Spec PyProof.Rows
/-! ### text.index(text) -/
end L2

namespace L2
open PySem PySem.Spec PyProof.Rows
/-! ### x in a list, by the data -/
section
variable {X : Cx}
end
/-! ### spots: pairs of texts -/
end L2

namespace L2
open PySem PySem.Spec PyProof.Rows
/-! ### lambdas that are called -/
/-- a thing that is known to the object, and nothing more -/
def Fz (o : Obj) : HO := .frz o (.ext fun _ => True)
section
variable {X : Cx}
end
end L2

namespace L2
open PySem PySem.Spec PyProof.Rows
/-! ### the maker's cells, lent to those that it calls -/
abbrev Lend := Addr → Option Obj
section
variable {P : Program} {w : World} {H H' : Hp} {h h' : Heap} {f : Lend} {fs : List Addr}
end
structure Lent (X : Cx) (σ : St) (H : Hp) (f : Lend) : Prop where
  free : ∀ b o, f b = some o → H b = none
  cell : ∀ x c, X.env.cells.lookup x = some c → ∃ o v, f c = some o ∧ o.data = .cell v
  val : ∀ (i : Nat) x v, X.N[i]? = some x → σ[i]? = some (some v) → X.env.scope.names.lookup x = some .cell → ∃ c o u, X.env.cells.lookup x = some c ∧ f c = some o ∧ o.data = .cell (some u) ∧ RelV v u
  inj : ∀ x y c, X.env.cells.lookup x = some c → X.env.cells.lookup y = some c → x = y
section
variable {X : Cx} {k : Nat} {C : Addr} {ps : List Str} {sp : Sp} {x m : Str} {p pos apos : Pos} {e o : Expr} {es : List Expr} {t : TA} {ta : TE}
end
/-! ### a lambda runs -/
structure LamFn (P : Program) (w : World) (K : PySem.W.Frag) (mg : Str → Option Value) (base : Heap) (k : Nat) (fa : Addr) (sp : Sp) : Prop where
  fn : ∀ vs H Q E, sp vs H Q E → ∃ c d fd sl, H fa = some (Fz ⟨c, d, .func fd, sl⟩)
  run : ∀ (A : Around) (outer : List Env) (s : Shared) (H : Hp) (us : List Value) (vs : List V) (Q : VK) (E : XK), Room k A → Env0 P w K mg base A outer s H → Vals vs us → sp vs H Q E →
    codeAny (model P w) A (.call (.ref fa) ⟨us, []⟩) (CR CX0 outer P w H s Q E) s
section
variable {X : Cx} {k : Nat} {x : Str} {p pos : Pos} {e : Expr} {es : List Expr} {t : TA}
end
end L2

namespace L2
open PySem PySem.Spec PyProof.Rows
/-! ### what a lambda promises -/
/-! ### the head, with tables of code that is called -/
end L2

namespace L2
open PySem PySem.Spec PyProof.Rows
/-! ### o.f(..), f a field of the instance: a lambda -/
section
variable {X : Cx} {k : Nat} {m : Str} {p pos apos : Pos} {e o : Expr} {es : List Expr} {ta : TE} {t : TA}
end
/-! ### a def that returns a closure: its cells stay, known to the object -/
structure EndsR where
  nx : St → Hp → Prop
  rt : V → St → Hp → Prop
abbrev TSR := EndsR → St → Hp → Prop
section
variable {X : Cx} {st : Stmt} {rest : List Stmt} {t u : TSR} {e : Expr} {te : TE} {pos : Pos}
end
end L2

namespace L2
open PySem PySem.Spec PyProof.Rows
section
variable {P : Program} {w : World} {K : PySem.W.Frag} {mg : Str → Option Value} {base : Heap} {N : List Str} {qual : Str} {scope : Scope} {f : Addr} {cd : Value} {A : Around} {outer : List Env} {s : Shared} {H : Hp} {E : XK}
/-- an exception of a loop's body goes on -/
theorem po_body : PassesOwn (model P w) (bodyCx P w K mg base N qual scope f cd A outer s H E).A (bodyCx P w K mg base N qual scope f cd A outer s H E).env (bodyCx P w K mg base N qual scope f cd A outer s H E).xe := PassesOwn.leaving
end
end L2

namespace L2
open PySem PySem.Spec PyProof.Rows
/-! ### isinstance with a tuple of own classes -/
end L2

namespace L2
open PySem PySem.Spec PyProof.Rows
/-! ### rules laid in boxes: what is in them stays closed while the parts are fitted -/
structure PEw (X : Cx) (e : Expr) (t : TE) : Prop where
  run : PE X e t
structure PAw (X : Cx) (es : List Expr) (t : TA) : Prop where
  run : PA X es t
structure PTw (X : Cx) (e : Expr) (t : TT) : Prop where
  run : PT X e t
structure PSw (X : Cx) (st : Stmt) (t : TS) : Prop where
  run : PS X st t
structure PSsw (X : Cx) (st : List Stmt) (t : TS) : Prop where
  run : PSs X st t
section
variable {X : Cx} {es : List Expr} {te : TE} {t u : TA}
theorem paw_nil : PAw X [] tNil := ⟨pa_nil⟩
theorem paw_t {elts : List Expr} {k : Nat} {pos : Pos} (ha : PEw X (.Tuple elts k pos) te) (hr : PAw X es t) : PAw X (.Tuple elts k pos :: es) (tCons te t) := ⟨pa_cons ha.run hr.run rfl⟩
theorem paw_l {elts : List Expr} {pos : Pos} (ha : PEw X (.List elts pos) te) (hr : PAw X es t) : PAw X (.List elts pos :: es) (tCons te t) := ⟨pa_cons ha.run hr.run rfl⟩
theorem paw_k {c : Const} {k : Nat} {pos : Pos} (ha : PEw X (.Constant c k pos) te) (hr : PAw X es t) : PAw X (.Constant c k pos :: es) (tCons te t) := ⟨pa_cons ha.run hr.run rfl⟩
theorem paw_b {a b : Expr} {op : Operator} {pos : Pos} (ha : PEw X (.BinOp a op b pos) te) (hr : PAw X es t) : PAw X (.BinOp a op b pos :: es) (tCons te t) := ⟨pa_cons ha.run hr.run rfl⟩
theorem paw_u {a : Expr} {op : UnaryOp} {pos : Pos} (ha : PEw X (.UnaryOp op a pos) te) (hr : PAw X es t) : PAw X (.UnaryOp op a pos :: es) (tCons te t) := ⟨pa_cons ha.run hr.run rfl⟩
theorem paw_c {f : Expr} {as : List Expr} {kw : List Keyword} {pos : Pos} (ha : PEw X (.Call f as kw pos) te) (hr : PAw X es t) : PAw X (.Call f as kw pos :: es) (tCons te t) := ⟨pa_cons ha.run hr.run rfl⟩
theorem paw_n {x : Str} {pos : Pos} (ha : PEw X (.Name x pos) te) (hr : PAw X es t) : PAw X (.Name x pos :: es) (tCons te t) := ⟨pa_cons ha.run hr.run rfl⟩
theorem paw_s {v i : Expr} {pos : Pos} (ha : PEw X (.Subscript v i pos) te) (hr : PAw X es t) : PAw X (.Subscript v i pos :: es) (tCons te t) := ⟨pa_cons ha.run hr.run rfl⟩
theorem pew_tup {k : Nat} {pos : Pos} (h : PAw X es t) : PEw X (.Tuple es k pos) (tTup t) := ⟨pe_tup h.run⟩
theorem pew_lst {pos : Pos} (h : PAw X es t) : PEw X (.List es pos) (tLst t) := ⟨pe_lst h.run⟩
theorem pew_str {x j} {pos : Pos} : PEw X (.Constant (.str x) j pos) (tC (.str x)) := ⟨pe_str⟩
theorem pew_int {i j} {pos : Pos} : PEw X (.Constant (.int i) j pos) (tC (.int i)) := ⟨pe_int⟩
theorem pew_bl {b j} {pos : Pos} : PEw X (.Constant (.bool b) j pos) (tC (.bl b)) := ⟨pe_bl⟩
theorem pew_non {j} {pos : Pos} : PEw X (.Constant .none j pos) (tC .non) := ⟨pe_non⟩
theorem pew_op {op : Operator} {r : R2} {a b : Expr} {ta tb : TE} {pos : Pos} (ho : OpR X (binaryOp op) r) (ha : PEw X a ta) (hb : PEw X b tb) : PEw X (.BinOp a op b pos) (tOp r ta tb) := ⟨pe_op ho ha.run hb.run⟩
end
section
variable {X : Cx} {st : Stmt} {rest : List Stmt} {t u : TS} {pos : Pos}
theorem psw_set {i : Nat} {x : Str} {e : Expr} {te : TE} {pos' : Pos} (hN : X.N.Nodup) (hi : X.N[i]? = some x) (hx : Loc X.env.scope x) (he : PEw X e te) (hs : swapsWith e (some (.Name x pos')) pos.line X.env = pure false := by rfl) (hf : X.fn x = true ∨ X.env.scope.names.lookup x = some .local := by first | exact .inl rfl | exact .inr rfl | assumption) :
    PSw X (.Assign [.Name x pos'] e pos) (tAsg te (gName i)) := ⟨ps_set hN hi hx he.run hs hf⟩
theorem pssw_cons (h1 : PSw X st t) (h2 : PSsw X rest u) : PSsw X (st :: rest) (tSeq t u) := ⟨pss_cons h1.run h2.run⟩
theorem pssw_one (h1 : PSw X st t) : PSsw X [st] t := ⟨pss_one h1.run⟩
end
end L2

namespace L2
open PySem PySem.Spec PyProof.Rows
/-! ### text.startswith(text), text.upper(), int(text) -/
/-! ### what these texts are -/
end L2

namespace L2
open PySem PySem.Spec PyProof.Rows
/-! ### for over a dict whose keys are tuples -/
section
variable {prog : Program} {w : World} {A : Around} {E : Value → Shared → Prop} {s : Shared} {it d : Addr} {i n ep : Nat} {od : Obj} {es : Array DictEntry}
end
section
variable {X : Cx} {pins : List (Addr × Obj)} {σ : St} {H : Hp} {s : Shared} {d : Addr}
end
section
variable {X : Cx} {tg : Expr}
end
end L2

namespace L2
open PySem PySem.Spec PyProof.Rows
section
variable {X : Cx} {CX : CXT} {k : Nat} {R : Addr → Sp → Prop} {ps : List Str} {E : XK} {m : Str} {pos apos : Pos} {e o : Expr} {es : List Expr} {t : TA} {ta : TE}
end
end L2

namespace L2
open PySem PySem.Spec PyProof.Rows
/-! ### list(reversed(xs)) -/
section
variable {prog : Program} {w : World} {A : Around} {s : Shared}
end
section
variable {X : Cx} {e : Expr} {te : TE} {x x' : Str} {p p' pos pos' : Pos}
end
/-! ### xs.count(y), the items refs -/
section
variable {X : Cx}
end
/-! ### d != e of dicts whose keys are tuples, alike -/
section
variable {prog : Program} {w : World} {K : Type} [DecidableEq K] {knd : HeapKind prog w K} {A : Around} {E : Value → Shared → Prop} {s : Shared}
end
section
variable {X : Cx}
end
end L2

namespace L2
open PySem PySem.Spec PyProof.Rows
/-! ### {k: v, ..} where the keys are tuples -/
section
variable {X : Cx} {pins : List (Addr × Obj)} {σ : St} {A : Around} {E : Value → Shared → Prop} {a : Addr}
end
/-! in boxes -/
structure PPw (X : Cx) (pos : Pos) (keys : List (Option Expr)) (values : List Expr) (trs : List (TE × TE)) : Prop where
  run : PPs X pos keys values trs
section
variable {X : Cx} {pos : Pos} {keys : List (Option Expr)} {values : List Expr} {trs : List (TE × TE)} {k v : Expr} {tk tv : TE}
end
theorem boxS {X : Cx} {st : List Stmt} {D : Ends} {σ : St} {H : Hp} (h : ∃ t, PSsw X st t ∧ t D σ H) : ∃ t, PSs X st t ∧ t D σ H := let ⟨t, h1, h2⟩ := h; ⟨t, h1.run, h2⟩
end L2

namespace L2
open PySem PySem.Spec PyProof.Rows
/-! ### a statement that leaves by an exception, while a dict is gone through -/
section
variable {X : Cx} {st : Stmt} {t u : TS}
/-- the dict is as any other again, and the statement is never gone past -/
def tThaw (X : Cx) (t : TS) : TS := fun _ σ H => ∃ a o kvs, NoF X a ∧ H a = some (.frz o (.dK kvs)) ∧ t ⟨fun _ _ => False, fun _ _ => False, fun _ _ => False, fun _ _ => False⟩ σ (upd H a (.dK kvs))
theorem ps_thaw (h : PS X st t) : PS X st (tThaw X t) := by
  intro pins s σ H D I ⟨a, o, kvs, nf, e, q⟩
  refine thn (h pins s σ _ _ (I.thaw nf e) q) fun f s' q => ?_
  cases f with
  | next => obtain ⟨_, _, _, q⟩ := q; exact q.elim
  | cont => obtain ⟨_, _, _, q⟩ := q; exact q.elim
  | brk => obtain ⟨_, _, _, q⟩ := q; exact q.elim
  | ret v => obtain ⟨_, _, _, _, _, q⟩ := q; exact q.elim
/-- one of two ways to go on -/
def tEither (t u : TS) : TS := fun D σ H => t D σ H ∨ u D σ H
theorem ps_either (h : PS X st t) (g : PS X st u) : PS X st (tEither t u) := by
  intro pins s σ H D I q
  rcases q with q | q
  · exact h pins s σ H D I q
  · exact g pins s σ H D I q
end
end L2

namespace L2
open PySem PySem.Spec PyProof.Rows
/-! ### xs.count(y), xs.index(y), all of them flat -/
def rCountF : V → List V → Hp → VK → Prop := fun x vs H Q => ∃ (l : Addr) (xs : List V) (y : V), x = .ref l ∧ vs = [y] ∧ H l = some (.lst xs) ∧ flatV y = true ∧ xs.all flatV = true ∧ Q (.int ((xs.countP fun z => eqV z y : Nat) : Int)) H
def rIndexF : V → List V → Hp → VK → Prop := fun x vs H Q => ∃ (l : Addr) (xs : List V) (y : V) (j : Nat), x = .ref l ∧ vs = [y] ∧ H l = some (.lst xs) ∧ flatV y = true ∧ xs.all flatV = true ∧ (∃ v, xs[j]? = some v ∧ eqV v y = true) ∧ (∀ (m : Nat) v, m < j → xs[m]? = some v → eqV v y = false) ∧ Q (.int (j : Int)) H
theorem count_eqU {x : V} : ∀ {xs : List V} {us : List Value}, Vals xs us → xs.all flatV = true → us.countP (eqU x) = xs.countP fun y => eqV y x
  | _, _, .nil, _ => rfl
  | y :: xs, u :: us, .cons r t, f => by
    rw [List.all_cons, Bool.and_eq_true] at f
    rw [List.countP_cons, List.countP_cons, eqU_of r f.1, count_eqU t f.2]
theorem at_eqU {x : V} : ∀ {xs : List V} {us : List Value}, Vals xs us → xs.all flatV = true → ∀ (j : Nat) (u : Value), us[j]? = some u → ∃ v, xs[j]? = some v ∧ eqU x u = eqV v x
  | _, _, .nil, _, j, u, e => by simp at e
  | y :: xs, u :: us, .cons r t, f, 0, u', e => by
    rw [List.all_cons, Bool.and_eq_true] at f
    simp at e
    subst e
    exact ⟨y, rfl, eqU_of r f.1⟩
  | y :: xs, u :: us, .cons r t, f, j + 1, u', e => by
    rw [List.all_cons, Bool.and_eq_true] at f
    obtain ⟨v, h1, h2⟩ := at_eqU t f.2 j u' (by simpa using e)
    exact ⟨v, by simpa using h1, h2⟩
section
variable {X : Cx}
theorem mt_countF : MtM X "list.count" rCountF := by
  intro pins s σ H x vs v us Q I rx rv h
  obtain ⟨l, xs, y, rfl, rfl, hH, fy, fx, q⟩ := h
  cases rx
  obtain ⟨u, rfl, ru⟩ := rv.one
  obtain ⟨z, its, n, r, hl, ho⟩ := I.lstM hH
  refine call_meets PySem.F.slot_list_count ⟨_, ho, rfl⟩ PySem.F.entry_list_count (PySem.F.args_list_count_2 _ _) (SeqAt.list_countAt l its.toArray n none #[] u (eqU y)) ⟨ho, fun w' hw => mem_eqAt ru fy r fx w' (by simpa using hw), ?_⟩
  rw [show its.toArray.toList = its from rfl, count_eqU r fx]
  exact ⟨.int _, H, I.tok _, ⟨_, rfl⟩, q⟩
theorem mt_indexF : MtM X "list.index" rIndexF := by
  intro pins s σ H x vs v us Q I rx rv h
  obtain ⟨l, xs, y, j, rfl, rfl, hH, fy, fx, ⟨v0, hv0, hj⟩, hno, q⟩ := h
  cases rx
  obtain ⟨u, rfl, ru⟩ := rv.one
  obtain ⟨z, its, n, r, hl, ho⟩ := I.lstM hH
  have hjx : j < xs.length := (List.getElem?_eq_some_iff.mp hv0).1
  have hji : j < its.toArray.size := by rw [List.size_toArray]; omega
  have h63 := line63
  refine call_meets PySem.F.slot_list_index ⟨_, ho, rfl⟩ PySem.F.entry_list_index (PySem.F.args_list_index_2 _ _) (SeqAt.list_indexAt l its.toArray n none #[] u (eqU y) j hji (by omega) ?_ (fun m hm hmj => ?_)) ⟨ho, fun w' hw => mem_eqAt ru fy r fx w' (by simpa using hw), ?_⟩
  · obtain ⟨v', h1, h2⟩ := at_eqU r fx j its.toArray[j] (by rw [List.getElem?_eq_getElem (by rw [List.size_toArray] at hji; exact hji)]; rfl)
    rw [hv0] at h1
    cases h1
    rw [h2]
    exact hj
  · obtain ⟨v', h1, h2⟩ := at_eqU r fx m its.toArray[m] (by rw [List.getElem?_eq_getElem (by rw [List.size_toArray] at hm; exact hm)]; rfl)
    rw [h2]
    exact hno m v' hmj h1
  · exact ⟨.int _, H, I.tok _, ⟨_, rfl⟩, q⟩
end
end L2

namespace L2
open PySem PySem.Spec PyProof.Rows
/-! ### dict(enumerate(xs)) -/
theorem wpAny_alive {M : Model} {A : Around} {E : Value → Shared → Prop} {s : Shared} {a : Addr} {Q : Option Obj → Shared → Prop} (h : Q (s.heap.get? a) s) : wpAny M A (loadIfAlive a) Q E s := fun Γ p _ => by
  unfold loadIfAlive
  rw [Sem.wp_loadIfAlive]
  exact h
/-- an enumerate at its i-th; the tuple that it handed out is still there -/
def EnumAt (h : Heap) (e it : Addr) (i : Int) : Prop := (∃ old, IsEnum h e it i old) ∨ ∃ (b : Bool) (old : Value) (a : Addr) (o : Obj), h.get? e = some { cls := .type "enumerate", dict := none, data := .fields #[rawInt a, .bool b, .ref it, rawInt i, .none, old], slots := #[] } ∧ h.get? a = some o ∧ a ≠ e ∧ a ≠ it ∧ o.cls = .type "tuple"
section
variable {prog : Program} {w : World} {A : Around} {E : Value → Shared → Prop} {s : Shared}
theorem enum_item {e it l : Addr} {i : Nat} {items : Array Value} {x : Value} {Q : Option Value → Shared → Prop}
    (he : EnumAt s.heap e it i) (hit : s.heap.IsListIter it l i) (hl : s.heap.IsList l items) (hx : items[i]? = some x) (hne : e ≠ it)
    (hQ : ∀ h' tk t, EnumAt h' e it ((i : Int) + 1) → h'.IsListIter it l (i + 1) →
      h'.get? s.heap.objs.size = some { cls := .type "tuple", data := .seq #[.int i t, x] } →
      (∀ b o, b ≠ e → b ≠ it → s.heap.get? b = some o → h'.get? b = some o) → Q (some (.ref s.heap.objs.size)) { s with heap := h', toks := tk }) :
    wpAny (model prog w) A (pyNext (.ref e)) Q E s := by
  rcases he with ⟨old, he⟩ | ⟨b, old, a, oa, he, ha, hae, hai, hta⟩
  · refine wpAny_pyNext_enum_item he hit hl hx hne fun h' ho hit' ht hsz hk => hQ h' _ _ (.inr ⟨false, x, s.heap.objs.size, _, ho, ht, ?_, ?_, rfl⟩) hit' ht hk
    · exact Nat.ne_of_gt (Heap.lt_size he)
    · obtain ⟨_, q, _⟩ := hit
      exact Nat.ne_of_gt (Heap.lt_size q)
  · have hT : s.TypeIs (.ref e) "enumerate" := ⟨_, he, rfl⟩
    unfold pyNext
    refine wpAny_bind (wpAny_attempt (wpAny_callSpecial?_slot (name := Str.ofString "__next__") hT F.slot_enumerate_next (wpAny_call_entry F.slot_enumerate_next hT F.entry_enumerate_next ?_ (F.args_enumerate_next_1 _))))
    obtain ⟨hp, g, d, tk, os⟩ := s
    show wpAny _ _ (field (.ref e) 2 >>= _) _ _ _
    refine wpAny_bind (wpAny_field he rfl (x := .ref it) rfl ?_)
    refine wpAny_bind (wpAny_nextOf_list_item hit hl hx fun h₁ hit₁ hs₁ => ?_)
    replace hs₁ : Heap.SameBut it hp h₁ := hs₁
    have he₁ := (hs₁.2 e hne).trans he
    show wpAny _ _ (field (.ref e) 3 >>= _) _ _ ⟨h₁, g, d, tk, os⟩
    refine wpAny_bind (wpAny_field he₁ rfl (x := rawInt i) rfl ?_)
    show wpAny _ _ (field (.ref e) 4 >>= _) _ _ ⟨h₁, g, d, tk, os⟩
    refine wpAny_bind (wpAny_field he₁ rfl (x := .none) rfl ?_)
    show wpAny _ _ (mkInt i >>= _) _ _ ⟨h₁, g, d, tk, os⟩
    refine wpAny_bind (wpAny_mkInt ?_)
    show wpAny _ _ (setField (.ref e) 3 (rawInt ((i : Int) + 1)) >>= _) _ _ ⟨h₁, g, d, tk + 1, os⟩
    refine wpAny_bind (wpAny_setField_rec he₁ (by simp) fun h₂ he₂ hs₂ => ?_)
    replace hs₂ : Heap.SameBut e h₁ h₂ := hs₂
    show wpAny _ _ (setField (.ref e) 4 .none >>= _) _ _ ⟨h₂, g, d, tk + 1, os⟩
    refine wpAny_bind (wpAny_setField_rec he₂ (by simp) fun h₃ he₃ hs₃ => ?_)
    replace hs₃ : Heap.SameBut e h₂ h₃ := hs₃
    show wpAny _ _ (newTuple [.int i tk, x] >>= _) _ _ ⟨h₃, g, d, tk + 1, os⟩
    refine wpAny_bind (wpAny_newTuple ?_)
    have he₄ : (h₃.push { cls := .type "tuple", data := .seq #[.int i tk, x] }).get? e = some { cls := .type "enumerate", dict := none, data := .fields #[rawInt a, .bool b, .ref it, rawInt ((i : Int) + 1), .none, old], slots := #[] } := Heap.get?_push_of_some _ he₃
    have hsz : h₃.objs.size = hp.objs.size := by rw [hs₃.1, hs₂.1, hs₁.1]
    have hel : e < hp.objs.size := Heap.lt_size he
    have ht₄ : (h₃.push { cls := .type "tuple", data := .seq #[.int i tk, x] }).get? hp.objs.size = some { cls := .type "tuple", data := .seq #[.int i tk, x] } := by rw [← hsz]; exact Heap.get?_push_size _ rfl
    have hk₄ : ∀ b o, b ≠ e → b ≠ it → hp.get? b = some o → (h₃.push { cls := .type "tuple", data := .seq #[.int i tk, x] }).get? b = some o := fun b o hbe hbi hb => Heap.get?_push_of_some _ (hs₃.extBut b o hbe (hs₂.extBut b o hbe (hs₁.extBut b o hbi hb)))
    have hit₄ : (h₃.push { cls := .type "tuple", data := .seq #[.int i tk, x] }).IsListIter it l (i + 1) := by
      obtain ⟨o, ho, r⟩ := (hit₁.extBut hs₂.extBut (Ne.symm hne)).extBut hs₃.extBut (Ne.symm hne); exact ⟨o, Heap.get?_push_of_some _ ho, r⟩
    rw [hsz]
    generalize h₃.push { cls := .type "tuple", data := .seq #[.int i tk, x] } = h₄ at he₄ ht₄ hk₄ hit₄
    have ha₄ := hk₄ a oa hae hai ha
    show wpAny _ _ (Builtin.SmallTypes.ownedTupleIsFree (.ref e) >>= _) _ _ ⟨h₄, g, d, tk + 1, os⟩
    clear he₃ hs₃ he₂ hs₂ he₁ hs₁ hit₁ hsz
    refine wpAny_bind ?_
    unfold Builtin.SmallTypes.ownedTupleIsFree
    refine wpAny_bind (wpAny_field he₄ rfl (x := rawInt a) rfl ?_)
    show wpAny _ _ (loadIfAlive ((a : Int).toNat) >>= _) _ _ _
    refine wpAny_bind (wpAny_alive ?_)
    rw [Int.toNat_natCast]
    show wpAny _ _ (if (h₄.get? a).isNone = true then _ else _) _ _ _
    rw [ha₄, if_neg (by simp)]
    refine wpAny_bind (wpAny_field he₄ rfl (x := .bool b) rfl ?_)
    cases b with
    | true =>
      rw [if_neg (by decide)]
      refine wpAny_pure ?_
      rw [if_neg (by decide)]
      exact wpAny_pure ⟨_, rfl, wpAny_pure (hQ h₄ _ tk (.inr ⟨true, old, a, oa, he₄, ha₄, hae, hai, hta⟩) hit₄ ht₄ hk₄)⟩
    | false =>
      rw [if_pos (by decide)]
      refine wpAny_bind (wpAny_setField_rec he₄ (by simp) fun h₅ he₅ hs₅ => ?_)
      replace hs₅ : Heap.SameBut e h₄ h₅ := hs₅
      refine wpAny_pure ?_
      rw [if_neg (by decide)]
      exact wpAny_pure ⟨_, rfl, wpAny_pure (hQ h₅ _ tk (.inr ⟨true, old, a, oa, he₅, hs₅.extBut a oa hae ha₄, hae, hai, hta⟩) (hit₄.extBut hs₅.extBut (Ne.symm hne)) (hs₅.extBut _ _ (Nat.ne_of_gt hel) ht₄) (fun b o hbe hbi hb => hs₅.extBut b o hbe (hk₄ b o hbe hbi hb)))⟩
theorem enum_end {e it l : Addr} {i : Nat} {items : Array Value} {Q : Option Value → Shared → Prop} (hh : A.handled = none)
    (he : EnumAt s.heap e it i) (hit : s.heap.IsListIter it l i) (hl : s.heap.IsList l items) (hx : items[i]? = none)
    (hQ : ∀ h', Heap.ExtBut it s.heap h' → Q none { s with heap := h' }) : wpAny (model prog w) A (pyNext (.ref e)) Q E s := by
  obtain ⟨f0, f1, old, he⟩ : ∃ f0 f1 old, s.heap.get? e = some { cls := .type "enumerate", dict := none, data := .fields #[f0, f1, .ref it, rawInt i, .none, old], slots := #[] } := by
    rcases he with ⟨old, he⟩ | ⟨b, old, a, oa, he, _⟩
    · exact ⟨_, _, _, he⟩
    · exact ⟨_, _, _, he⟩
  have hT : s.TypeIs (.ref e) "enumerate" := ⟨_, he, rfl⟩
  unfold pyNext
  refine wpAny_bind (wpAny_attempt (wpAny_callSpecial?_slot (name := Str.ofString "__next__") hT F.slot_enumerate_next
    (wpAny_call_entry F.slot_enumerate_next hT F.entry_enumerate_next ?_ (F.args_enumerate_next_1 _))))
  show wpAny _ _ (field (.ref e) 2 >>= _) _ _ _
  refine wpAny_bind (wpAny_field he rfl (x := .ref it) rfl ?_)
  refine wpAny_bind (wpAny_nextOf_list_end hh hit hl hx fun h' x he' hx' => ?_)
  obtain ⟨o, ho, hc⟩ := hx'
  refine wpAny_bind (wpAny_isInstance (T := "StopIteration") (b := true) ⟨o, ho, hc⟩ isSubtype_stop ?_)
  exact wpAny_pure (hQ _ he')
end
theorem entry_enum_ga : entryFor table "enumerate.__getattribute__" = some Builtin.«object.__getattribute__» :=
  entryFor_alias (id' := "object.__getattribute__") (by kernel_rfl) (by first | rfl | decide +kernel) (by decide +kernel) (by kernel_rfl)
theorem enum_getattr_none : typeLookup (.type "enumerate") "__getattr__" = pure none := by rw [typeLookup_type, builtinLookup_eq_fast]; kernel_rfl
theorem enum_keys_none : typeLookup (.type "enumerate") "keys" = pure none := by rw [typeLookup_type, builtinLookup_eq_fast]; kernel_rfl
theorem meets_ga_enum (a : Addr) (f : Array Value) (u : Tok) :
    Meets (Builtin.«object.__getattribute__» ⟨[.ref a, .str "keys" u], []⟩) (fun A R s => s.heap.get? a = some { cls := .type "enumerate", dict := none, data := .fields f, slots := #[] } ∧ raisesAttr (.ref a) "keys" A R s) :=
  Meets.of_wp fun prog w A R s hs => by
    obtain ⟨hp, g, d, tk, os⟩ := s
    obtain ⟨ho, hs⟩ := hs
    have hT : (⟨hp, g, d, tk, os⟩ : Shared).TypeIs (.ref a) "enumerate" := ⟨_, ho, rfl⟩
    have hm := enum_keys_none
    unfold Builtin.«object.__getattribute__»
    repeat (any_goals (first | assumption | wp_step))
    exact wpAny_raiseAttrError hs.1 hs.2 (attrMsg_fits (by decide +kernel) (by size_fits))
theorem keys_miss {prog : Program} {w : World} {A : Around} {E : Value → Shared → Prop} {s : Shared} {a : Addr} {f : Array Value} {Q : Option Value → Shared → Prop} (hA : A.handled = none) (ho : s.heap.get? a = some { cls := .type "enumerate", dict := none, data := .fields f, slots := #[] })
    (h : ∀ h' tk, (∀ b o, s.heap.get? b = some o → h'.get? b = some o) → Q none { s with heap := h', toks := tk }) : wpAny (model prog w) A (getAttr? (.ref a) "keys") Q E s := by
  obtain ⟨hp, g, d, tk, os⟩ := s
  have hT : (⟨hp, g, d, tk, os⟩ : Shared).TypeIs (.ref a) "enumerate" := ⟨_, ho, rfl⟩
  have hT1 : ∀ t', (⟨hp, g, d, t', os⟩ : Shared).TypeIs (.ref a) "enumerate" := fun t' => ⟨_, ho, rfl⟩
  have f1 := sub_AttributeError
  have f3 := F.slot_enumerate_getattribute.lookup
  have f4 := F.slot_enumerate_getattribute.bind (.ref a)
  have f5 := enum_getattr_none
  unfold getAttr? getAttrBy? getAttrBy
  repeat (any_goals (first | assumption | exact hT1 _ | ((with_reducible show wpAny _ _ (call (Value.builtin "enumerate.__getattribute__") _ _) _ _ _); refine call_meets F.slot_enumerate_getattribute (hT1 _) entry_enum_ga (F.args_enumerate_getattribute_2 _ _) (meets_ga_enum a f _) ⟨ho, hA, fun h' tk' e hx => ?_⟩) | wp_step))
  obtain ⟨t', u', he⟩ := hx.there
  show wpAny _ _ (getattributeRaised _ _ _ _ _ _ _) _ _ _
  unfold getattributeRaised
  repeat (any_goals (first | assumption | wp_step))
  exact h h' tk' hx.keeps
end L2

namespace L2
open PySem PySem.Spec PyProof.Rows
theorem entry_dict_loop : entryFor table "dict.update.loop" = some Builtin.«dict.update.loop» := entryFor_of_tree (by kernel_rfl)
theorem plain_dict_loop : plainId "dict.update.loop" = true := by decide +kernel
/-- the pairs of an enumerate -/
def numbered (items : List Value) (n : Nat) : List (Key × Value) := (List.range n).filterMap fun (i : Nat) => (items[i]?).map fun v => ((.inl (i : Int) : Key), v)
theorem numbered_succ {items : List Value} {n : Nat} {v : Value} (h : items[n]? = some v) : numbered items (n + 1) = numbered items n ++ [((.inl (n : Int) : Key), v)] := by
  unfold numbered
  rw [List.range_succ, List.filterMap_append]
  simp [h]
theorem numbered_len (items : List Value) (n : Nat) : (numbered items n).length ≤ n := by
  unfold numbered
  exact Nat.le_trans (List.length_filterMap_le _ _) (by rw [List.length_range]; exact Nat.le_refl _)
theorem numbered_new {items : List Value} {n : Nat} : ∀ kv ∈ numbered items n, kv.1 ≠ (.inl (n : Int) : Key) := by
  intro kv h e
  unfold numbered at h
  obtain ⟨i, hi, h2⟩ := List.mem_filterMap.mp h
  obtain ⟨v, _, rfl⟩ := Option.map_eq_some_iff.mp h2
  have : (i : Int) = (n : Int) := Sum.inl.inj e
  have := List.mem_range.mp hi
  omega
section
variable {prog : Program} {w : World} {A : Around} {R : Result → Shared → Prop}
theorem enum_loop (hh : A.handled = none) {e it l d : Addr} {items : List Value} (hne : e ≠ it) (hle : l ≠ e) (hli : l ≠ it) (hld : l ≠ d) (hde : d ≠ e) (hdi : d ≠ it) (hsz : items.length ≤ sizeLine) :
    ∀ (k i : Nat) (s : Shared), items.length - i = k → i ≤ items.length → EnumAt s.heap e it i → s.heap.IsListIter it l i → s.heap.IsList l items.toArray → s.heap.DictOf (mixKind prog w) d (numbered items i) →
      (∀ h' tk, h'.DictOf (mixKind prog w) d (numbered items items.length) → (∀ b o, b ≠ e → b ≠ it → b ≠ d → s.heap.get? b = some o → h'.get? b = some o) → R (.ok (.ret .none)) { s with heap := h', toks := tk }) →
      codeAny (model prog w) A (.builtin "dict.update.loop" ⟨[.ref d, .ref e, rawInt i, .none], []⟩) R s := by
  intro k
  induction k with
  | zero =>
    intro i s hk hi he hit hl hd hR
    have hin : i = items.length := by omega
    subst hin
    refine codeAny_builtin entry_dict_loop ?_
    rw [Around.under_plainId plain_dict_loop _]
    show wpAny _ A.in1 (pyNext (.ref e) >>= _) _ _ s
    refine wpAny_bind (enum_end hh he hit hl (by simp) fun h' hx => ?_)
    show wpAny _ A.in1 (Builtin.Dict.addKeywords d [] >>= _) _ _ _
    refine wpAny_bind (wpAny_pure ?_)
    refine wpAny_pure (hR h' s.toks ?_ fun b o _ hb _ x => hx b o hb x)
    obtain ⟨o, es, ep, ho, r⟩ := hd
    exact ⟨o, es, ep, hx d o hdi ho, r⟩
  | succ k ih =>
    intro i s hk hi he hit hl hd hR
    have hlt : i < items.length := by omega
    obtain ⟨x, hx⟩ : ∃ x, items[i]? = some x := ⟨_, List.getElem?_eq_getElem hlt⟩
    refine codeAny_builtin entry_dict_loop ?_
    rw [Around.under_plainId plain_dict_loop _]
    show wpAny _ A.in1 (pyNext (.ref e) >>= _) _ _ s
    refine wpAny_bind (enum_item he hit hl (by simpa using hx) hne fun h' tk t he' hit' ht hk' => ?_)
    show wpAny _ A.in1 (holding [Value.ref s.heap.objs.size] _ >>= _) _ _ _
    refine wpAny_bind (wpAny_holding ?_)
    refine wpAny_bind (wpAny_tryCatch ?_)
    unfold Builtin.Dict.pairItems
    refine wpAny_bind (wpAny_typeOf (T := "tuple") (s := { s with heap := h', toks := tk }) ⟨_, ht, rfl⟩ ?_)
    rw [if_pos (by decide)]
    refine wpAny_bind (wpAny_seqItems (s := { s with heap := h', toks := tk }) ht rfl ?_)
    refine wpAny_pure ?_
    show wpAny _ A.in1 (holding [Value.int i t, x] (dictSet d (Value.int i t) x)) _ _ _
    have ltd : d < s.heap.objs.size := let ⟨_, _, _, ho, _⟩ := hd; Heap.lt_size ho
    have hd' : h'.DictOf (mixKind prog w) d (numbered items i) := by
      obtain ⟨o, es, ep, ho, r⟩ := hd
      exact ⟨o, es, ep, hk' d o hde hdi ho, r⟩
    refine wpAny_holding (wpAny_dictSet_pairs (s := { s with heap := h', toks := tk }) (hsz := Nat.le_trans (numbered_len _ _) (by omega)) (knd := mixKind prog w) (k := (.inl (i : Int) : Key)) (kV_is (k := (.inl (i : Int) : Key)) ⟨t, rfl⟩) hd' fun h2 hd2 hs2 => ?_)
    have e1 : stored (numbered items i) (.inl (i : Int) : Key) x = numbered items (i + 1) := by
      rw [numbered_succ hx]
      unfold stored
      rw [if_neg]
      intro hany
      obtain ⟨kv, h1, h2⟩ := List.any_eq_true.mp hany
      exact numbered_new kv h1 (of_decide_eq_true h2)
    rw [e1] at hd2
    have oth : ∀ b o, b ≠ e → b ≠ it → b ≠ d → s.heap.get? b = some o → h2.get? b = some o := fun b o h1 h2 h3 x => (hs2.2 b h3).trans (hk' b o h1 h2 x)
    have he2 : EnumAt h2 e it ((i : Int) + 1) := by
      rcases he' with ⟨old, he'⟩ | ⟨b, old, a, oa, he', ha, hae, hai, hta⟩
      · exact .inl ⟨old, (hs2.2 e hde.symm).trans he'⟩
      · refine .inr ⟨b, old, a, oa, (hs2.2 e hde.symm).trans he', (hs2.2 a (fun z => ?_)).trans ha, hae, hai, hta⟩
        subst z
        obtain ⟨o, es, ep, ho, hc, _⟩ := hd'
        rw [ho] at ha
        cases ha
        have := hc.1
        rw [hta] at this
        exact absurd this (by decide)
    have hc : ((i : Int) + 1) = ((i + 1 : Nat) : Int) := by push_cast; rfl
    show wpAny _ A.in1 (again _) _ _ _
    rw [hc] at he2
    refine wpAny_pure ⟨plainId_quiet plain_dict_loop _, ?_⟩
    show codeAny _ A (.builtin "dict.update.loop" ⟨[.ref d, .ref e, rawInt ((i : Int) + 1), .none], []⟩) R _
    rw [hc]
    refine ih (i + 1) _ (by omega) hlt he2 (hit'.at fun o x => (hs2.2 it hdi.symm).trans x) (hl.at fun o x => oth l o hle hli hld x) hd2 fun h3 tk3 hd3 hk3 => hR h3 tk3 hd3 fun b o h1 h2 h3' x => hk3 b o h1 h2 h3' (oth b o h1 h2 h3' x)
end
section
variable {prog : Program} {w : World} {A : Around} {E : Value → Shared → Prop} {s : Shared}
theorem enum_call {Q : Value → Shared → Prop} (hh : A.handled = none) {e it l : Addr} {items : List Value} (hne : e ≠ it) (hle : l ≠ e) (hli : l ≠ it) (he : IsEnum s.heap e it 0 .none) (hit : s.heap.IsListIter it l 0) (hl : s.heap.IsList l items.toArray) (hsz : items.length ≤ sizeLine)
    (hQ : ∀ h' tk, h'.DictOf (mixKind prog w) s.heap.objs.size (numbered items items.length) → (∀ b o, b ≠ e → b ≠ it → s.heap.get? b = some o → h'.get? b = some o) → Q (.ref s.heap.objs.size) { s with heap := h', toks := tk }) :
    wpAny (model prog w) A (call (.type "dict") [.ref e]) Q E s := by
  refine callType_codes (Q₁ := fun obj s₁ => obj = .ref s.heap.objs.size ∧ s₁ = { s with heap := s.heap.push { cls := .type "dict", data := .dict #[] } }) F.kt_called_dict (F.kt_typeCall_dict_1 _) F.entry_dict_init (kt_code_dict_new _ ⟨rfl, rfl⟩) ?_
  rintro obj s₁ ⟨rfl, rfl⟩
  have hnew : (s.heap.push { cls := .type "dict", data := .dict #[] }).DictOf (mixKind prog w) s.heap.objs.size [] := Heap.DictOf.new s.heap
  have he1 : IsEnum (s.heap.push { cls := .type "dict", data := .dict #[] }) e it 0 .none := Heap.get?_push_of_some _ he
  have lte : e < s.heap.objs.size := Heap.lt_size he
  have lti : it < s.heap.objs.size := let ⟨_, ho, _⟩ := hit; Heap.lt_size ho
  have ltl : l < s.heap.objs.size := let ⟨_, ho, _⟩ := hl; Heap.lt_size ho
  refine ⟨hnew.typeIs, F.args_dict_init_2 _ _, ?_⟩
  unfold Builtin.«dict.__init__»
  refine wpAny_bind ?_
  unfold Builtin.Dict.selfAndRest
  refine wpAny_bind (wpAny_notOrdered_dict hnew.typeIs ?_)
  show wpAny _ _ (pure (s.heap.objs.size, [Value.ref e])) _ _ _
  refine wpAny_pure ?_
  show wpAny _ _ (Builtin.Dict.updateFrom "dict.__init__" s.heap.objs.size (.ref e) [] .none) _ _ _
  unfold Builtin.Dict.updateFrom
  refine wpAny_bind (wpAny_typeOf (T := "enumerate") ⟨_, he1, rfl⟩ ?_)
  rw [if_pos (by decide)]
  refine wpAny_bind (keys_miss (s := { s with heap := s.heap.push { cls := .type "dict", data := .dict #[] } }) hh he1 fun h1 tk1 hk1 => ?_)
  rw [if_pos (by decide)]
  refine wpAny_bind (wpAny_rule ?_)
  have he2 : IsEnum h1 e it 0 .none := hk1 _ _ he1
  have hk2 : ∀ b o, s.heap.get? b = some o → h1.get? b = some o := fun b o x => hk1 b o (Heap.get?_push_of_some _ x)
  refine wpAny_bind (wpAny_pyIter_enum (s := { s with heap := h1, toks := tk1 }) he2 ?_)
  have hd1 : h1.DictOf (mixKind prog w) s.heap.objs.size (numbered items 0) := by
    obtain ⟨o, es, ep, ho, r⟩ := hnew
    exact ⟨o, es, ep, hk1 _ _ ho, r⟩
  refine wpAny_pure ⟨plainId_quiet plain_dict_loop _, ?_⟩
  refine enum_loop (A := A.in1) hh hne hle hli (Nat.ne_of_lt ltl) (Nat.ne_of_gt lte) (Nat.ne_of_gt lti) hsz items.length 0 { s with heap := h1, toks := tk1 } rfl (Nat.zero_le _) (.inl ⟨_, he2⟩) (hit.at fun o x => hk2 _ _ x) (hl.at fun o x => hk2 _ _ x) hd1 fun h3 tk3 hd3 hk3 => ?_
  exact ⟨rfl, hQ h3 tk3 hd3 fun b o h1 h2 x => hk3 b o h1 h2 (Nat.ne_of_lt (Heap.lt_size x)) (hk2 b o x)⟩
end
/-- dict(enumerate(e)) -/
def numV (ys : List V) : List (Key × V) := (List.range ys.length).filterMap fun (i : Nat) => (ys[i]?).map fun v => ((.inl (i : Int) : Key), v)
def tDictEnum (K : PySem.W.Frag) (te : TE) : TE := fun σ H Q => te σ H fun x H1 => ∃ p ys, x = .ref p ∧ SqL K H1 p ys ∧ ∀ d, H1 d = none → Q (.ref d) (upd H1 d (.dK (numV ys)))
theorem KV.numbered {ys : List V} {its : List Value} (r : Vals ys its) : ∀ n : Nat, KV ((List.range n).filterMap fun (i : Nat) => (ys[i]?).map fun v => ((.inl (i : Int) : Key), v)) (L2.numbered its n)
  | 0 => .nil
  | n + 1 => by
    have ih := KV.numbered r n
    unfold L2.numbered at ih ⊢
    rw [List.range_succ, List.filterMap_append, List.filterMap_append]
    have app : ∀ {a c : List (Key × V)} {b d : List (Key × Value)}, KV a b → KV c d → KV (a ++ c) (b ++ d) := by
      intro a c b d h1 h2
      unfold KV at h1 h2 ⊢
      induction h1 with
      | nil => exact h2
      | cons r t ih => exact .cons r ih
    refine app ih ?_
    cases e : ys[n]? with
    | none =>
      have e2 : its[n]? = none := by
        have h1 := List.getElem?_eq_none_iff.mp e
        exact List.getElem?_eq_none_iff.mpr (by rw [← r.length]; exact h1)
      simp only [List.filterMap_cons, e, e2, Option.map_none, List.filterMap_nil]
      exact .nil
    | some v =>
      obtain ⟨u, e2, ru⟩ := Vals.get r e
      simp only [List.filterMap_cons, e, e2, Option.map_some, List.filterMap_nil]
      exact .cons ⟨rfl, ru⟩ .nil
section
variable {X : Cx} {e : Expr} {te : TE} {x x' : Str} {p p' pos pos' : Pos}
theorem pe_dictenum (hc : X.calm = true) (he : PE X e te) (hg : Gl X x) (hm : X.mg x = none) (hv : bootBuiltins x = some (.type "dict")) (hg' : Gl X x') (hm' : X.mg x' = none) (hv' : bootBuiltins x' = some (.type "enumerate"))
    (hn : x ≠ "__name__" := by decide) (hdb : (x == ("__debug__" : Str)) = false := by decide) (hn' : x' ≠ "__name__" := by decide) (hdb' : (x' == ("__debug__" : Str)) = false := by decide)
    (h1 : starEach [e] X.env = [(false, eval e X.env)] := by rfl) (h2 : starEach [.Call (.Name x' p') [e] [] pos'] X.env = [(false, eval (.Call (.Name x' p') [e] [] pos') X.env)] := by rfl) :
    PE X (.Call (.Name x p) [.Call (.Name x' p') [e] [] pos'] [] pos) (tDictEnum X.K te) := by
  intro pins s σ H Q I h
  refine wpAny_Call_Name_kw (ld_blt I hg hm hv ?_ hn hdb)
  refine PyProof.Rows.callWith_type1 ?_ h2 rfl
  rw [h2]
  refine Calls.spliced_cons ?_
  refine wpAny_Call_Name_kw (ld_blt I hg' hm' hv' ?_ hn' hdb')
  refine PyProof.Rows.callWith_type1 ?_ h1 rfl
  rw [h1]
  refine Calls.spliced_cons (thn (he pins s σ H _ I h) fun u s1 ⟨v, H1, I1, rv, q, ys, ex, hq, k⟩ => ?_)
  subst ex
  cases rv
  refine Calls.spliced_nil ?_
  obtain ⟨its, r', pl, hz⟩ := I1.list hq
  have hlen := r'.length
  refine call_enumerate_list pl.isList fun ha hea hita hsza hka => ?_
  refine Calls.spliced_nil ?_
  have ltq : q < s1.heap.objs.size := by obtain ⟨o, ho, _⟩ := pl.isList; exact Heap.lt_size ho
  have I2 : Inv X pins σ H1 { s1 with heap := ha } := I1.kept (t' := s1.toks) hka
  refine enum_call (s := { s1 with heap := ha }) (items := its) (I2.ok.hd hc) (Nat.succ_ne_self _) (Nat.ne_of_lt (Nat.lt_succ_of_lt ltq)) (Nat.ne_of_lt ltq) hea hita (pl.isList.at fun o e => hka q o e) (by omega) fun h' tk hd hk => ?_
  obtain ⟨od, es, ep, hod, hrest⟩ := hd
  have hk0 : ∀ b o, s1.heap.get? b = some o → h'.get? b = some o := fun b o x => hk b o (Nat.ne_of_lt (Nat.lt_succ_of_lt (Heap.lt_size x))) (Nat.ne_of_lt (Heap.lt_size x)) (hka b o x)
  refine ⟨.ref ha.objs.size, _, I1.laid (t' := tk) (a := ha.objs.size) (o := .dK (numV ys)) hk0 (by show s1.heap.objs.size ≤ ha.objs.size; omega) ?_, rfl, k _ (I2.hok.fresh (Nat.le_refl _))⟩
  have hnl : (numV ys).length ≤ ys.length := Nat.le_trans (List.length_filterMap_le _ _) (by rw [List.length_range]; exact Nat.le_refl _)
  refine ⟨by omega, beq_eq_false_iff_ne.mpr (Nat.ne_of_gt (Nat.lt_of_lt_of_le I1.big (by omega))), numbered its its.length, ?_, od, es, ep, hod, hrest⟩
  have := KV.numbered r' ys.length
  rw [hlen] at this
  unfold numV
  rw [hlen]
  exact this
end
end L2

namespace My
open PySem L2
def top (i : Nat) : Stmt := PySem.Challenge.pw_lazycols_k08_tables_refuse.main.body.getD i (.Pass ⟨0, 0, 0, 0⟩)
abbrev s_is_whole : Stmt := top 20
abbrev s_is_number : Stmt := top 21
abbrev s_is_name : Stmt := top 22
abbrev s_is_fault : Stmt := top 23
abbrev s_is_value : Stmt := top 24
abbrev s_check_size : Stmt := top 28
abbrev s_check_place : Stmt := top 29
abbrev s_check_value : Stmt := top 30
abbrev s_check_values : Stmt := top 31
abbrev s_check_row : Stmt := top 32
abbrev s_law_cell : Stmt := top 35
abbrev s_law_bad : Stmt := top 36
abbrev s_law_row : Stmt := top 37
abbrev s_law_done : Stmt := top 38
abbrev s_law_kind : Stmt := top 39
abbrev s_law_due : Stmt := top 40
abbrev s_law_stands : Stmt := top 41
abbrev s_law : Stmt := top 42
/-- where the refusals stand -/
structure Ad where
  ColsError : Addr
  NoName : Addr
  NoValue : Addr
  NoTable : Addr
  NoColumn : Addr
  NoPlace : Addr
  NoSize : Addr
  NoText : Addr
  NoRow : Addr
  NoBack : Addr
  TooMuch : Addr
  Ruled : Addr
  Ring : Addr
  Nobody : Addr
  Several : Addr
structure Excs (K : PySem.W.Frag) (mg : Str → Option Value) (c : Ad) : Prop where
  c_ColsError : mg "ColsError" = some (.ref c.ColsError)
  c_NoName : mg "NoName" = some (.ref c.NoName)
  c_NoValue : mg "NoValue" = some (.ref c.NoValue)
  c_NoTable : mg "NoTable" = some (.ref c.NoTable)
  c_NoColumn : mg "NoColumn" = some (.ref c.NoColumn)
  c_NoPlace : mg "NoPlace" = some (.ref c.NoPlace)
  c_NoSize : mg "NoSize" = some (.ref c.NoSize)
  c_NoText : mg "NoText" = some (.ref c.NoText)
  c_NoRow : mg "NoRow" = some (.ref c.NoRow)
  c_NoBack : mg "NoBack" = some (.ref c.NoBack)
  c_TooMuch : mg "TooMuch" = some (.ref c.TooMuch)
  c_Ruled : mg "Ruled" = some (.ref c.Ruled)
  c_Ring : mg "Ring" = some (.ref c.Ring)
  c_Nobody : mg "Nobody" = some (.ref c.Nobody)
  c_Several : mg "Several" = some (.ref c.Several)
  x_NoSize : PySem.W.excIn K c.NoSize mroV "ValueError.__new__" = true
  x_NoName : PySem.W.excIn K c.NoName mroV "ValueError.__new__" = true
  k_NoName : ExcK K c.NoName
  v_NoName : PySem.W.kitOne K (.ref c.NoName) (.type "ValueError") = some true
  i_NoName_ColsError : PySem.W.kitOne K (.ref c.NoName) (.ref c.ColsError) = some true
  e_NoName_ColsError : PySem.W.exmOne K (.ref c.NoName) (.ref c.ColsError) = some true
  i_NoName_NoName : PySem.W.kitOne K (.ref c.NoName) (.ref c.NoName) = some true
  i_NoName_NoValue : PySem.W.kitOne K (.ref c.NoName) (.ref c.NoValue) = some false
  i_NoName_NoTable : PySem.W.kitOne K (.ref c.NoName) (.ref c.NoTable) = some false
  i_NoName_NoColumn : PySem.W.kitOne K (.ref c.NoName) (.ref c.NoColumn) = some false
  i_NoName_NoPlace : PySem.W.kitOne K (.ref c.NoName) (.ref c.NoPlace) = some false
  i_NoName_NoSize : PySem.W.kitOne K (.ref c.NoName) (.ref c.NoSize) = some false
  i_NoName_NoText : PySem.W.kitOne K (.ref c.NoName) (.ref c.NoText) = some false
  i_NoName_NoRow : PySem.W.kitOne K (.ref c.NoName) (.ref c.NoRow) = some false
  i_NoName_NoBack : PySem.W.kitOne K (.ref c.NoName) (.ref c.NoBack) = some false
  i_NoName_TooMuch : PySem.W.kitOne K (.ref c.NoName) (.ref c.TooMuch) = some false
  i_NoName_Ruled : PySem.W.kitOne K (.ref c.NoName) (.ref c.Ruled) = some false
  i_NoName_Ring : PySem.W.kitOne K (.ref c.NoName) (.ref c.Ring) = some false
  i_NoName_Nobody : PySem.W.kitOne K (.ref c.NoName) (.ref c.Nobody) = some false
  i_NoName_Several : PySem.W.kitOne K (.ref c.NoName) (.ref c.Several) = some false
  x_TooMuch : PySem.W.excIn K c.TooMuch mroV "ValueError.__new__" = true
  k_TooMuch : ExcK K c.TooMuch
  v_TooMuch : PySem.W.kitOne K (.ref c.TooMuch) (.type "ValueError") = some true
  i_TooMuch_ColsError : PySem.W.kitOne K (.ref c.TooMuch) (.ref c.ColsError) = some true
  e_TooMuch_ColsError : PySem.W.exmOne K (.ref c.TooMuch) (.ref c.ColsError) = some true
  i_TooMuch_NoName : PySem.W.kitOne K (.ref c.TooMuch) (.ref c.NoName) = some false
  i_TooMuch_NoValue : PySem.W.kitOne K (.ref c.TooMuch) (.ref c.NoValue) = some false
  i_TooMuch_NoTable : PySem.W.kitOne K (.ref c.TooMuch) (.ref c.NoTable) = some false
  i_TooMuch_NoColumn : PySem.W.kitOne K (.ref c.TooMuch) (.ref c.NoColumn) = some false
  i_TooMuch_NoPlace : PySem.W.kitOne K (.ref c.TooMuch) (.ref c.NoPlace) = some false
  i_TooMuch_NoSize : PySem.W.kitOne K (.ref c.TooMuch) (.ref c.NoSize) = some false
  i_TooMuch_NoText : PySem.W.kitOne K (.ref c.TooMuch) (.ref c.NoText) = some false
  i_TooMuch_NoRow : PySem.W.kitOne K (.ref c.TooMuch) (.ref c.NoRow) = some false
  i_TooMuch_NoBack : PySem.W.kitOne K (.ref c.TooMuch) (.ref c.NoBack) = some false
  i_TooMuch_TooMuch : PySem.W.kitOne K (.ref c.TooMuch) (.ref c.TooMuch) = some true
  i_TooMuch_Ruled : PySem.W.kitOne K (.ref c.TooMuch) (.ref c.Ruled) = some false
  i_TooMuch_Ring : PySem.W.kitOne K (.ref c.TooMuch) (.ref c.Ring) = some false
  i_TooMuch_Nobody : PySem.W.kitOne K (.ref c.TooMuch) (.ref c.Nobody) = some false
  i_TooMuch_Several : PySem.W.kitOne K (.ref c.TooMuch) (.ref c.Several) = some false
  x_NoValue : PySem.W.excIn K c.NoValue mroV "ValueError.__new__" = true
  k_NoValue : ExcK K c.NoValue
  v_NoValue : PySem.W.kitOne K (.ref c.NoValue) (.type "ValueError") = some true
  i_NoValue_ColsError : PySem.W.kitOne K (.ref c.NoValue) (.ref c.ColsError) = some true
  e_NoValue_ColsError : PySem.W.exmOne K (.ref c.NoValue) (.ref c.ColsError) = some true
  i_NoValue_NoName : PySem.W.kitOne K (.ref c.NoValue) (.ref c.NoName) = some false
  i_NoValue_NoValue : PySem.W.kitOne K (.ref c.NoValue) (.ref c.NoValue) = some true
  i_NoValue_NoTable : PySem.W.kitOne K (.ref c.NoValue) (.ref c.NoTable) = some false
  i_NoValue_NoColumn : PySem.W.kitOne K (.ref c.NoValue) (.ref c.NoColumn) = some false
  i_NoValue_NoPlace : PySem.W.kitOne K (.ref c.NoValue) (.ref c.NoPlace) = some false
  i_NoValue_NoSize : PySem.W.kitOne K (.ref c.NoValue) (.ref c.NoSize) = some false
  i_NoValue_NoText : PySem.W.kitOne K (.ref c.NoValue) (.ref c.NoText) = some false
  i_NoValue_NoRow : PySem.W.kitOne K (.ref c.NoValue) (.ref c.NoRow) = some false
  i_NoValue_NoBack : PySem.W.kitOne K (.ref c.NoValue) (.ref c.NoBack) = some false
  i_NoValue_TooMuch : PySem.W.kitOne K (.ref c.NoValue) (.ref c.TooMuch) = some false
  i_NoValue_Ruled : PySem.W.kitOne K (.ref c.NoValue) (.ref c.Ruled) = some false
  i_NoValue_Ring : PySem.W.kitOne K (.ref c.NoValue) (.ref c.Ring) = some false
  i_NoValue_Nobody : PySem.W.kitOne K (.ref c.NoValue) (.ref c.Nobody) = some false
  i_NoValue_Several : PySem.W.kitOne K (.ref c.NoValue) (.ref c.Several) = some false
  x_NoColumn : PySem.W.excIn K c.NoColumn mroV "ValueError.__new__" = true
  k_NoColumn : ExcK K c.NoColumn
  v_NoColumn : PySem.W.kitOne K (.ref c.NoColumn) (.type "ValueError") = some true
  i_NoColumn_ColsError : PySem.W.kitOne K (.ref c.NoColumn) (.ref c.ColsError) = some true
  e_NoColumn_ColsError : PySem.W.exmOne K (.ref c.NoColumn) (.ref c.ColsError) = some true
  i_NoColumn_NoName : PySem.W.kitOne K (.ref c.NoColumn) (.ref c.NoName) = some false
  i_NoColumn_NoValue : PySem.W.kitOne K (.ref c.NoColumn) (.ref c.NoValue) = some false
  i_NoColumn_NoTable : PySem.W.kitOne K (.ref c.NoColumn) (.ref c.NoTable) = some false
  i_NoColumn_NoColumn : PySem.W.kitOne K (.ref c.NoColumn) (.ref c.NoColumn) = some true
  i_NoColumn_NoPlace : PySem.W.kitOne K (.ref c.NoColumn) (.ref c.NoPlace) = some false
  i_NoColumn_NoSize : PySem.W.kitOne K (.ref c.NoColumn) (.ref c.NoSize) = some false
  i_NoColumn_NoText : PySem.W.kitOne K (.ref c.NoColumn) (.ref c.NoText) = some false
  i_NoColumn_NoRow : PySem.W.kitOne K (.ref c.NoColumn) (.ref c.NoRow) = some false
  i_NoColumn_NoBack : PySem.W.kitOne K (.ref c.NoColumn) (.ref c.NoBack) = some false
  i_NoColumn_TooMuch : PySem.W.kitOne K (.ref c.NoColumn) (.ref c.TooMuch) = some false
  i_NoColumn_Ruled : PySem.W.kitOne K (.ref c.NoColumn) (.ref c.Ruled) = some false
  i_NoColumn_Ring : PySem.W.kitOne K (.ref c.NoColumn) (.ref c.Ring) = some false
  i_NoColumn_Nobody : PySem.W.kitOne K (.ref c.NoColumn) (.ref c.Nobody) = some false
  i_NoColumn_Several : PySem.W.kitOne K (.ref c.NoColumn) (.ref c.Several) = some false
  x_NoPlace : PySem.W.excIn K c.NoPlace mroV "ValueError.__new__" = true
  k_NoPlace : ExcK K c.NoPlace
  v_NoPlace : PySem.W.kitOne K (.ref c.NoPlace) (.type "ValueError") = some true
  i_NoPlace_ColsError : PySem.W.kitOne K (.ref c.NoPlace) (.ref c.ColsError) = some true
  e_NoPlace_ColsError : PySem.W.exmOne K (.ref c.NoPlace) (.ref c.ColsError) = some true
  i_NoPlace_NoName : PySem.W.kitOne K (.ref c.NoPlace) (.ref c.NoName) = some false
  i_NoPlace_NoValue : PySem.W.kitOne K (.ref c.NoPlace) (.ref c.NoValue) = some false
  i_NoPlace_NoTable : PySem.W.kitOne K (.ref c.NoPlace) (.ref c.NoTable) = some false
  i_NoPlace_NoColumn : PySem.W.kitOne K (.ref c.NoPlace) (.ref c.NoColumn) = some false
  i_NoPlace_NoPlace : PySem.W.kitOne K (.ref c.NoPlace) (.ref c.NoPlace) = some true
  i_NoPlace_NoSize : PySem.W.kitOne K (.ref c.NoPlace) (.ref c.NoSize) = some false
  i_NoPlace_NoText : PySem.W.kitOne K (.ref c.NoPlace) (.ref c.NoText) = some false
  i_NoPlace_NoRow : PySem.W.kitOne K (.ref c.NoPlace) (.ref c.NoRow) = some false
  i_NoPlace_NoBack : PySem.W.kitOne K (.ref c.NoPlace) (.ref c.NoBack) = some false
  i_NoPlace_TooMuch : PySem.W.kitOne K (.ref c.NoPlace) (.ref c.TooMuch) = some false
  i_NoPlace_Ruled : PySem.W.kitOne K (.ref c.NoPlace) (.ref c.Ruled) = some false
  i_NoPlace_Ring : PySem.W.kitOne K (.ref c.NoPlace) (.ref c.Ring) = some false
  i_NoPlace_Nobody : PySem.W.kitOne K (.ref c.NoPlace) (.ref c.Nobody) = some false
  i_NoPlace_Several : PySem.W.kitOne K (.ref c.NoPlace) (.ref c.Several) = some false
abbrev s_Table_init : Stmt := inCls (top 33) 0
abbrev s_Table_many : Stmt := inCls (top 33) 1
abbrev s_Table_numbers : Stmt := inCls (top 33) 2
abbrev s_Table_columns : Stmt := inCls (top 33) 3
abbrev s_Table_give : Stmt := inCls (top 33) 4
abbrev s_Table_drop : Stmt := inCls (top 33) 5
abbrev s_Table_put : Stmt := inCls (top 33) 6
abbrev s_Table_at : Stmt := inCls (top 33) 7
abbrev s_Table_put_in : Stmt := inCls (top 33) 8
abbrev s_Table_take_out : Stmt := inCls (top 33) 9
abbrev s_Table_stand : Stmt := inCls (top 33) 10
abbrev s_Table_check_column : Stmt := inCls (top 33) 13
structure TTable (K : PySem.W.Frag) (mg : Str → Option Value) (C : Addr) : Prop where
  c : mg "Table" = some (.ref C)
  cl : Cls K C
  mks : PySem.W.makesIn K C = true
  kc : PySem.W.keepIn K (.ref C) = true
  hc : PySem.W.findIn K (.ref C) "__class__" = some (some (.builtin "object.__class__"))
  n_row_numbers : NoAttr K C "row_numbers"
  n_fresh_number : NoAttr K C "fresh_number"
  n_kept : NoAttr K C "kept"
  m_init : Mth K C "__init__" "Table.__init__" s_Table_init
  m_many : Mth K C "many" "Table.many" s_Table_many
  m_numbers : Mth K C "numbers" "Table.numbers" s_Table_numbers
  m_columns : Mth K C "columns" "Table.columns" s_Table_columns
  m_give : Mth K C "give" "Table.give" s_Table_give
  m_drop : Mth K C "drop" "Table.drop" s_Table_drop
  m_put : Mth K C "put" "Table.put" s_Table_put
  m_at : Mth K C "at" "Table.at" s_Table_at
  m_put_in : Mth K C "put_in" "Table.put_in" s_Table_put_in
  m_take_out : Mth K C "take_out" "Table.take_out" s_Table_take_out
  m_stand : Mth K C "stand" "Table.stand" s_Table_stand
  m_check_column : Mth K C "check_column" "Table.check_column" s_Table_check_column
structure Tops (K : PySem.W.Frag) (mg : Str → Option Value) : Prop where
  len : mg "len" = none
  isinstance : mg "isinstance" = none
  int : mg "int" = none
  bool : mg "bool" = none
  str : mg "str" = none
  all : mg "all" = none
  range : mg "range" = none
  abs : mg "abs" = none
  list : mg "list" = none
  tuple : mg "tuple" = none
  dict : mg "dict" = none
  enumerate : mg "enumerate" = none
  ValueError : mg "ValueError" = none
  g_LETTERS : ∃ t, mg "LETTERS" = some (.str ("abcdefghijklmnopqrstuvwxyz" : Str) t)
  g_MOST_LETTERS : ∃ t, mg "MOST_LETTERS" = some (.int 8 t)
  g_MOST_ROWS : ∃ t, mg "MOST_ROWS" = some (.int 30 t)
  g_MOST_COLUMNS : ∃ t, mg "MOST_COLUMNS" = some (.int 8 t)
  d_is_whole : Def K mg "is_whole" s_is_whole
  d_is_number : Def K mg "is_number" s_is_number
  d_is_name : Def K mg "is_name" s_is_name
  d_is_fault : Def K mg "is_fault" s_is_fault
  d_is_value : Def K mg "is_value" s_is_value
  d_check_size : Def K mg "check_size" s_check_size
  d_check_place : Def K mg "check_place" s_check_place
  d_check_value : Def K mg "check_value" s_check_value
  d_check_values : Def K mg "check_values" s_check_values
  d_check_row : Def K mg "check_row" s_check_row
  d_law_cell : Def K mg "_law_cell" s_law_cell
  d_law_bad : Def K mg "_law_bad" s_law_bad
  d_law_row : Def K mg "_law_row" s_law_row
  d_law_done : Def K mg "_law_done" s_law_done
  d_law_kind : Def K mg "_law_kind" s_law_kind
  d_law_due : Def K mg "_law_due" s_law_due
  d_law_stands : Def K mg "_law_stands" s_law_stands
  d_law : Def K mg "law" s_law
  exc : ∃ c : Ad, Excs K mg c
  t_Table : ∃ C, TTable K mg C
end My

namespace My
open PySem L2
abbrev letters : Str := "abcdefghijklmnopqrstuvwxyz"
def inL (c : Nat) : Bool := !(Builtin.Str.occurrences letters ⟨#[c]⟩ 0 letters.length 1).isEmpty
def nameS (t : Str) : Bool := decide ((1 : Int) ≤ t.length) && decide ((t.length : Int) ≤ 8) && t.cps.toList.all inL
def wholeD : PyData → Bool
  | .int _ => true
  | _ => false
def numD : PyData → Bool
  | .int i => decide ((if i < 0 then -i else i) < 10 ^ (60 : Int).toNat)
  | _ => false
def nameD : PyData → Bool
  | .str t => nameS t
  | _ => false
def faultD : PyData → Bool
  | .tuple [.str z, d] => decide (z = "fault") && nameD d
  | _ => false
def valueD (d : PyData) : Bool := numD d || faultD d
/-- a text is short; the texts in a tuple are -/
def shortS (d : PyData) : Prop := ∀ t, d = .str t → t.length ≤ 1000
def shortD (d : PyData) : Prop := ∀ ds, d = .tuple ds → ∀ e ∈ ds, shortS e
theorem shortS_str {t : Str} (h : t.length ≤ 1000) : shortS (.str t) := fun z e => by cases e; exact h
section
variable {P : Program} {w : World} {K : PySem.W.Frag} {mg : Str → Option Value} {base : Heap}
def spWhole (K : PySem.W.Frag) : Sp := fun vs H Q _ => ∃ x d, vs = [x] ∧ Dt K H x d ∧ Q (.bl (wholeD d)) H
theorem sc_is_whole : FnScope ["thing"] ["thing"] (defScope s_is_whole) := ⟨rfl, rfl, rfl, by decide +kernel, rfl, by decide +kernel, by decide +kernel⟩
theorem k_is_whole (T : Tops K mg) : Known P w K mg base CX0 1 "is_whole" ["thing"] (spWhole K) := by
  refine T.d_is_whole.known sc_is_whole (fun _ _ _ _ _ _ us hl => match us, hl with | [_], _ => rfl) (fun vs H Q E h => ?_) (fun f cdv A outer s H vs Q E hr h => ?_)
  · obtain ⟨x, a, rfl, _⟩ := h
    rfl
  · obtain ⟨x, d, rfl, hd, q⟩ := h
    refine ⟨_, (pss_one (ps_ret (pe_and (pe_callB call_isT rfl T.isinstance b_isinstance (pa_cons (pv 0) (pa_cons (pe_ty T.int b_int) pa_nil))) (pe_one (pe_not (pe_callB call_isT rfl T.isinstance b_isinstance (pa_cons (pv 0) (pa_cons (pe_ty T.bool b_bool) pa_nil)))))))), ?_⟩
    refine ⟨_, rfl, x, "int", d, _, rfl, hd, kit_int K _, _, rfl, ?_⟩
    refine ite2 (fun h1 => ?_) (fun h1 => ?_)
    · refine ⟨_, rfl, x, "bool", d, _, rfl, hd, kit_bool K _, _, rfl, ?_⟩
      have e : (!decide (kdD d = Kd.bl)) = wholeD d := by cases d <;> simp [kdD, wholeD] at h1 ⊢
      show Q (.bl (!decide (kdD d = Kd.bl))) H
      rw [e]
      exact q
    · have e : false = wholeD d := by cases d <;> simp [kdD, wholeD] at h1 ⊢
      show Q (.bl false) H
      rw [e]
      exact q
def spName (K : PySem.W.Frag) : Sp := fun vs H Q _ => ∃ x d, vs = [x] ∧ Dt K H x d ∧ shortS d ∧ ∀ H', Same H H' → Q (.bl (nameD d)) H'
theorem sc_is_name : FnScope ["thing"] ["thing"] (defScope s_is_name) := ⟨rfl, rfl, rfl, by decide +kernel, rfl, by decide +kernel, by decide +kernel⟩
theorem k_is_name (T : Tops K mg) : Known P w K mg base CX0 1 "is_name" ["thing"] (spName K) := by
  refine T.d_is_name.known sc_is_name (fun _ _ _ _ _ _ us hl => match us, hl with | [_], _ => rfl) (fun vs H Q E h => ?_) (fun f cdv A outer s H vs Q E hr h => ?_)
  · obtain ⟨x, a, rfl, _⟩ := h
    rfl
  · obtain ⟨x, d, rfl, hd, hsh, q⟩ := h
    refine ⟨_, (pss_cons (ps_if (PW.pt (pw_or (pt_not (pt_val (pe_callB call_isT rfl T.isinstance b_isinstance (pa_cons (pv 0) (pa_cons (pe_ty T.str b_str) pa_nil))) (fun _ => rfl))) (pw_or1 (pt_not (pt_chain op_le op_le pe_int (pe_callB call_len rfl T.len b_len (pa_cons (pv 0) pa_nil)) (pe_gI T.g_MOST_LETTERS)))))) (pss_one (ps_ret pe_bl)) pss_nil)
      (pss_one (ps_ret (pe_callB (call_all rfl) rfl T.all b_all (pa_cons (pe_comp caps0 rfl rfl (by decide) (pi_str (pv 0)) (fun _ _ _ _ _ => pts_nil) (fun _ _ _ _ _ => (pe_cmpR op_in_str (pv 0) (pe_gS T.g_LETTERS) (by with_unfolding_all rfl)))) pa_nil))))), ?_⟩
    refine ⟨_, rfl, x, "str", d, _, rfl, hd, kit_str K _, _, rfl, ?_⟩
    by_cases hk : kdD d = .str
    · obtain ⟨t, rfl⟩ : ∃ t, d = .str t := by cases d <;> simp [kdD] at hk ⊢
      cases hd
      have ht : t.length ≤ 1000 := hsh t rfl
      refine iteF ?_
      refine ⟨_, rfl, _, _, rfl, ⟨sl ht, rfl⟩, _, _, rfl, rfl, _, rfl, ?_⟩
      refine ite2 (fun h1 => ?_) (fun h1 => ?_)
      · refine ⟨_, _, rfl, rfl, _, rfl, ?_⟩
        refine ite2 (fun h2 => ?_) (fun h2 => ?_)
        · have e : nameD (.str t) = false := by
            show nameS t = false
            unfold nameS
            have : decide ((t.length : Int) ≤ 8) = false := by simpa using h2
            rw [this, Bool.and_false, Bool.false_and]
          rw [← e]
          exact q H (Same.refl H)
        · have h8 : t.cps.size ≤ 8 := by
            have : (t.length : Int) ≤ 8 := by simpa using h2
            show t.length ≤ 8
            omega
          refine ⟨_, rfl, t, rfl, fun D hD => ?_⟩
          refine comp_str (x := t) (fun i ys H2 => ys = (t.cps.toList.take i).map (fun c => V.bl (inL c)) ∧ Same H H2) ⟨rfl, Same.new hD⟩ ?_ ?_
          · rintro i c ys H2 hc h2D ⟨rfl, s2⟩
            have hi : i < t.cps.size := (Array.getElem?_eq_some_iff.mp hc).1
            refine ⟨_, rfl, _, _, rfl, rfl, h2D, ?_, ?_, s2.on hD⟩
            · rw [List.length_map, List.length_take, Array.length_toList]
              exact small1000 (by omega)
            · rw [List.take_add_one, List.map_append, Array.getElem?_toList, hc]
              rfl
          · rintro ys H2 h2D ⟨rfl, s2⟩
            refine ⟨D, t.cps.toList.map inL, rfl, SqL.of ?_, ?_⟩
            · rw [h2D, List.take_of_length_le (by simp), List.map_map]
              rfl
            · have e : nameD (.str t) = (t.cps.toList.map inL).all id := by
                show nameS t = _
                unfold nameS
                have e1 : decide ((1 : Int) ≤ t.length) = true := h1
                have e2 : decide ((t.length : Int) ≤ 8) = true := by simpa using h2
                rw [e1, e2, Bool.true_and, Bool.true_and, List.all_map]
                rfl
              rw [← e]
              exact q H2 s2
      · refine ⟨_, rfl, ?_⟩
        refine iteT ?_
        have e : nameD (.str t) = false := by
          show nameS t = false
          unfold nameS
          have : decide ((1 : Int) ≤ t.length) = false := by simpa using h1
          rw [this, Bool.false_and, Bool.false_and]
        rw [← e]
        exact q H (Same.refl H)
    · rw [decide_eq_false hk]
      refine iteT (iteT ?_)
      have e : nameD d = false := by cases d <;> simp [kdD] at hk <;> rfl
      rw [← e]
      exact q H (Same.refl H)
def spNumber (K : PySem.W.Frag) : Sp := fun vs H Q _ => ∃ x d, vs = [x] ∧ Dt K H x d ∧ Q (.bl (numD d)) H
theorem sc_is_number : FnScope ["thing"] ["thing"] (defScope s_is_number) := ⟨rfl, rfl, rfl, by decide +kernel, rfl, by decide +kernel, by decide +kernel⟩
theorem k_is_number (T : Tops K mg) : Known P w K mg base CX0 2 "is_number" ["thing"] (spNumber K) := by
  have G_is_whole : Known P w K mg base CX0 1 "is_whole" ["thing"] (spWhole K) := k_is_whole T
  refine T.d_is_number.known sc_is_number (fun _ _ _ _ _ _ us hl => match us, hl with | [_], _ => rfl) (fun vs H Q E h => ?_) (fun f cdv A outer s H vs Q E hr h => ?_)
  · obtain ⟨x, a, rfl, _⟩ := h
    rfl
  · obtain ⟨x, d, rfl, hd, q⟩ := h
    refine ⟨_, (pss_one (ps_ret (pe_and (pe_callN G_is_whole (hr.mono (by decide)) pass0 (pa_cons (pv 0) pa_nil)) (pe_one (pe_cmpR op_lt (pe_callB call_abs rfl T.abs b_abs (pa_cons (pv 0) pa_nil)) (pe_op op_pow pe_int pe_int) (nomark _)))))), ?_⟩
    refine ⟨_, rfl, x, d, rfl, hd, _, rfl, ?_⟩
    refine ite2 (fun h1 => ?_) (fun h1 => ?_)
    · obtain ⟨i, rfl⟩ : ∃ i, d = .int i := by cases d <;> simp [wholeD] at h1 ⊢
      cases hd
      exact ⟨_, rfl, i, rfl, _, _, rfl, rfl, ⟨by decide, by decide, by decide⟩, _, _, rfl, rfl, q⟩
    · have e : numD d = false := by cases d <;> simp [wholeD] at h1 <;> rfl
      show Q (.bl false) H
      rw [← e]
      exact q
def spFault (K : PySem.W.Frag) : Sp := fun vs H Q _ => ∃ x d, vs = [x] ∧ Dt K H x d ∧ shortD d ∧ ∀ H', Same H H' → Q (.bl (faultD d)) H'
theorem sc_is_fault : FnScope ["thing"] ["thing"] (defScope s_is_fault) := ⟨rfl, rfl, rfl, by decide +kernel, rfl, by decide +kernel, by decide +kernel⟩
theorem faultD_len {ds : List PyData} (h : ds.length ≠ 2) : faultD (.tuple ds) = false := by
  match ds, h with
  | [], _ => rfl
  | [a], _ => cases a <;> rfl
  | [a, b], h => exact absurd rfl h
  | a :: b :: c :: r, _ => cases a <;> rfl
theorem k_is_fault (T : Tops K mg) : Known P w K mg base CX0 2 "is_fault" ["thing"] (spFault K) := by
  have G_is_name : Known P w K mg base CX0 1 "is_name" ["thing"] (spName K) := k_is_name T
  refine T.d_is_fault.known sc_is_fault (fun _ _ _ _ _ _ us hl => match us, hl with | [_], _ => rfl) (fun vs H Q E h => ?_) (fun f cdv A outer s H vs Q E hr h => ?_)
  · obtain ⟨x, a, rfl, _⟩ := h
    rfl
  · obtain ⟨x, d, rfl, hd, hsh, q⟩ := h
    refine ⟨_, (pss_cons (ps_if (PW.pt (pw_or (pt_not (pt_val (pe_callB call_isT rfl T.isinstance b_isinstance (pa_cons (pv 0) (pa_cons (pe_ty T.tuple b_tuple) pa_nil))) (fun _ => rfl))) (pw_or1 (pt_cmpR op_ne (pe_callB call_len rfl T.len b_len (pa_cons (pv 0) pa_nil)) pe_int (nomark _))))) (pss_one (ps_ret pe_bl)) pss_nil)
      (pss_one (ps_ret (pe_and (pe_callB call_isT rfl T.isinstance b_isinstance (pa_cons (pe_ix ix_tup (pv 0) pe_int (fun _ _ => rfl)) (pa_cons (pe_ty T.str b_str) pa_nil))) (pe_and (pe_cmpR op_eq (pe_ix ix_tup (pv 0) pe_int (fun _ _ => rfl)) pe_str (nomark _)) (pe_one (pe_callN G_is_name (hr.mono (by decide)) pass0 (pa_cons (pe_ix ix_tup (pv 0) pe_int (fun _ _ => rfl)) pa_nil)))))))), ?_⟩
    refine ⟨_, rfl, x, "tuple", d, _, rfl, hd, kit_tuple K _, _, rfl, ?_⟩
    by_cases hk : kdD d = .tup
    · obtain ⟨ds, rfl⟩ : ∃ ds, d = .tuple ds := by cases d <;> simp [kdD] at hk ⊢
      cases hd with
      | @tup a xs _ hq hall =>
        refine iteF ?_
        refine ⟨_, rfl, _, _, rfl, .inr ⟨_, hq, rfl⟩, rfl, _, rfl, ?_⟩
        have hl := hall.length
        refine ite2 (fun h1 => ?_) (fun h1 => ?_)
        · have h1' : xs.length ≠ 2 := by
            intro z
            rw [z] at h1
            exact absurd h1 (by decide)
          have e := faultD_len (ds := ds) (by rw [← hl]; exact h1')
          rw [← e]
          exact q H (Same.refl H)
        · have h1' : xs.length = 2 := by
            have z : ¬ (!decide (V.int (xs.length : Int) = V.int 2)) = true := h1
            have z2 : (xs.length : Int) = 2 := by simpa using z
            omega
          match xs, ds, hall, h1', hl with
          | [y, z], _, .cons (d := d1) h2 (.cons (d := d2) h3 .nil), _, _ =>
            have a0 : atI [y, z] 0 = some y := rfl
            have a1 : atI [y, z] 1 = some z := rfl
            refine ⟨_, rfl, _, _, _, _, rfl, rfl, hq, a0, y, "str", d1, _, rfl, h2, kit_str K _, _, rfl, ?_⟩
            refine ite2 (fun h4 => ?_) (fun h4 => ?_)
            · obtain ⟨t, rfl⟩ : ∃ t, d1 = .str t := by cases d1 <;> simp [kdD] at h4 ⊢
              cases h2
              refine ⟨_, rfl, _, _, _, _, rfl, rfl, hq, a0, rfl, _, rfl, ?_⟩
              refine ite2 (fun h5 => ?_) (fun h5 => ?_)
              · have h5' : t = "fault" := by
                  have z5 : V.str t = V.str "fault" := by simpa using h5
                  exact V.str.inj z5
                refine ⟨_, rfl, _, _, _, _, rfl, rfl, hq, a1, z, d2, rfl, h3, hsh _ rfl _ (List.mem_cons_of_mem _ List.mem_cons_self), fun H' s' => ?_⟩
                · have e : faultD (.tuple [.str t, d2]) = nameD d2 := by
                    show (decide (t = "fault") && nameD d2) = nameD d2
                    rw [decide_eq_true h5', Bool.true_and]
                  rw [← e]
                  exact q H' s'
              · have h5' : t ≠ "fault" := fun z5 => h5 (by rw [z5]; rfl)
                have e : faultD (.tuple [.str t, d2]) = false := by
                  show (decide (t = "fault") && nameD d2) = false
                  rw [decide_eq_false h5', Bool.false_and]
                show Q (.bl false) H
                rw [← e]
                exact q H (Same.refl H)
            · have e : faultD (.tuple [d1, d2]) = false := by cases d1 <;> simp [kdD] at h4 <;> rfl
              show Q (.bl false) H
              rw [← e]
              exact q H (Same.refl H)
    · rw [decide_eq_false hk]
      refine iteT (iteT ?_)
      have e : faultD d = false := by cases d <;> simp [kdD] at hk <;> rfl
      rw [← e]
      exact q H (Same.refl H)
def spValue (K : PySem.W.Frag) : Sp := fun vs H Q _ => ∃ x d, vs = [x] ∧ Dt K H x d ∧ shortD d ∧ ∀ H', Same H H' → Q (.bl (valueD d)) H'
theorem sc_is_value : FnScope ["thing"] ["thing"] (defScope s_is_value) := ⟨rfl, rfl, rfl, by decide +kernel, rfl, by decide +kernel, by decide +kernel⟩
theorem k_is_value (T : Tops K mg) : Known P w K mg base CX0 3 "is_value" ["thing"] (spValue K) := by
  have G_is_number : Known P w K mg base CX0 2 "is_number" ["thing"] (spNumber K) := k_is_number T
  have G_is_fault : Known P w K mg base CX0 2 "is_fault" ["thing"] (spFault K) := k_is_fault T
  refine T.d_is_value.known sc_is_value (fun _ _ _ _ _ _ us hl => match us, hl with | [_], _ => rfl) (fun vs H Q E h => ?_) (fun f cdv A outer s H vs Q E hr h => ?_)
  · obtain ⟨x, a, rfl, _⟩ := h
    rfl
  · obtain ⟨x, d, rfl, hd, hsh, q⟩ := h
    refine ⟨_, (pss_one (ps_ret (pe_or (pe_callN G_is_number (hr.mono (by decide)) pass0 (pa_cons (pv 0) pa_nil)) (pe_one (pe_callN G_is_fault (hr.mono (by decide)) pass0 (pa_cons (pv 0) pa_nil)))))), ?_⟩
    refine ⟨_, rfl, x, d, rfl, hd, _, rfl, ?_⟩
    refine ite2 (fun h1 => ?_) (fun h1 => ?_)
    · have e : valueD d = true := by unfold valueD; rw [h1, Bool.true_or]
      show Q (.bl true) H
      rw [← e]
      exact q H (Same.refl H)
    · refine ⟨_, rfl, x, d, rfl, hd, hsh, fun H' s' => ?_⟩
      have e : valueD d = faultD d := by
        unfold valueD
        have : numD d = false := by simpa using h1
        rw [this, Bool.false_or]
      rw [← e]
      exact q H' s'
end
end My

namespace My
open PySem L2
def cellZ (ns : List Int) (k : Int) : Int := if k < ns.length then ns.getD k.toNat 0 else ((if 0 < (ns.length : Int) then ns.getD (k % ns.length).toNat 0 % 2147483647 else 41) + k * k + 5) * (48271 + 16807 * k) % 2147483629
section
variable {P : Program} {w : World} {K : PySem.W.Frag} {mg : Str → Option Value} {base : Heap}
def spCell (K : PySem.W.Frag) : Sp := fun vs H Q _ => ∃ (a : Addr) (ns : List Int) (k : Int), vs = [.ref a, .int k] ∧ SqL K H a (ns.map V.int) ∧ ns.length ≤ 63 ∧ 0 ≤ k ∧ k ≤ 1000000 ∧ Q (.int (cellZ ns k)) H
theorem sc_law_cell : FnScope ["_law_script", "_law_k", "_law_seed"] ["_law_script", "_law_k"] (defScope s_law_cell) := ⟨rfl, rfl, rfl, by decide +kernel, rfl, by decide +kernel, by decide +kernel⟩
theorem k_law_cell (T : Tops K mg) : Known P w K mg base CX0 1 "_law_cell" ["_law_script", "_law_k"] (spCell K) := by
  refine T.d_law_cell.known sc_law_cell (fun _ _ _ _ _ _ us hl => match us, hl with | [_, _], _ => rfl) (fun vs H Q E h => ?_) (fun f cdv A outer s H vs Q E hr h => ?_)
  · obtain ⟨a, ns, k, rfl, _⟩ := h
    rfl
  · obtain ⟨a, ns, k, rfl, hS, hl, h0, h6, q⟩ := h
    refine ⟨_, (pss_cons (ps_if (pt_cmpR op_lt (pv 1) (pe_callB call_len rfl T.len b_len (pa_cons (pv 0) pa_nil)) (nomark _)) (pss_one (ps_ret (pe_ix ix_list (pv 0) (pv 1) (fun _ _ => rfl)))) pss_nil)
      (pss_cons (ps_set (i := 2) sc_law_cell.nd rfl (Or.inl rfl) pe_int)
      (pss_cons (ps_if (pt_cmpR op_gt (pe_callB call_len rfl T.len b_len (pa_cons (pv 0) pa_nil)) pe_int (nomark _)) (pss_one (ps_set (i := 2) sc_law_cell.nd rfl (Or.inl rfl) (pe_op op_mod (pe_ix ix_list (pv 0) (pe_op op_mod (pv 1) (pe_callB call_len rfl T.len b_len (pa_cons (pv 0) pa_nil))) (fun _ _ => rfl)) pe_int))) pss_nil)
      (pss_one (ps_ret (pe_op op_mod (pe_op op_mul (pe_op op_add (pe_op op_add (pv 2) (pe_op op_mul (pv 1) (pv 1))) pe_int) (pe_op op_add pe_int (pe_op op_mul pe_int (pv 1)))) pe_int)))))), ?_⟩
    have el : ((ns.map V.int).length : Int) = (ns.length : Int) := by rw [List.length_map]
    refine ⟨_, rfl, _, rfl, _, _, rfl, .inl ⟨_, hS, rfl⟩, _, _, rfl, rfl, _, rfl, ?_⟩
    rw [el]
    refine ite2 (fun h1 => ?_) (fun h1 => ?_)
    · have h1' : k < ns.length := by simpa using h1
      refine ⟨_, rfl, _, rfl, a, _, k, _, rfl, rfl, hS, at_map ns k h0 h1', ?_⟩
      have e : cellZ ns k = ns.getD k.toNat 0 := by unfold cellZ; rw [if_pos h1']
      rw [← e]
      exact q
    · have h1' : ¬ k < ns.length := by simpa using h1
      refine ⟨_, rfl, _, _, rfl, .inl ⟨_, hS, rfl⟩, _, _, rfl, rfl, _, rfl, ?_⟩
      rw [el]
      have fin : ∀ seed : Int, cellZ ns k = (seed + k * k + 5) * (48271 + 16807 * k) % 2147483629 →
          tRet (tOp (rI (fun _ j => 0 < j) fun i j => .int (i % j)) (tOp (rI CMul fun i j => .int (i * j)) (tOp (rI0 fun i j => .int (i + j)) (tOp (rI0 fun i j => .int (i + j)) (tVar 2) (tOp (rI CMul fun i j => .int (i * j)) (tVar 1) (tVar 1))) (tC (.int 5))) (tOp (rI0 fun i j => .int (i + j)) (tC (.int 48271)) (tOp (rI CMul fun i j => .int (i * j)) (tC (.int 16807)) (tVar 1)))) (tC (.int 2147483629)))
            { nx := fun _ H' => Q .non H', rt := Q } [some (.ref a), some (.int k), some (.int seed)] H := fun seed e => by
        refine ⟨_, rfl, _, rfl, _, rfl, _, _, rfl, rfl, .inl ⟨by omega, by omega⟩, _, _, rfl, rfl, _, _, rfl, rfl, _, rfl, _, _, rfl, rfl, .inl ⟨by decide, by decide⟩, _, _, rfl, rfl, _, _, rfl, rfl, .inr ⟨by omega, by omega⟩, _, _, rfl, rfl, (show (0 : Int) < 2147483629 by decide), ?_⟩
        show Q (.int ((seed + k * k + 5) * (48271 + 16807 * k) % 2147483629)) H
        rw [← e]
        exact q
      refine ite2 (fun h2 => ?_) (fun h2 => ?_)
      · have h2' : 0 < (ns.length : Int) := by simpa using h2
        have hm := Int.emod_nonneg k (Int.ne_of_gt h2')
        have hm' := Int.emod_lt_of_pos k h2'
        refine ⟨_, rfl, _, rfl, _, rfl, _, _, rfl, .inl ⟨_, hS, rfl⟩, _, _, rfl, rfl, by rw [el]; exact h2', a, _, _, _, rfl, rfl, hS, by rw [el]; exact at_map ns _ hm hm', _, _, rfl, rfl, (show (0 : Int) < 2147483647 by decide), ?_⟩
        refine fin _ ?_
        unfold cellZ
        rw [if_neg h1', if_pos h2']
      · have h2' : ¬ 0 < (ns.length : Int) := by simpa using h2
        refine fin 41 ?_
        unfold cellZ
        rw [if_neg h1', if_neg h2']
end
end My

namespace My
open PySem L2
/-- a Table's attributes, in the order in which __init__ stores them -/
def flds (r : Addr) (n : Int) (d : Addr) : List (Str × V) := [("row_numbers", V.ref r), ("fresh_number", V.int n), ("kept", V.ref d)]
theorem flds_rows (r : Addr) (n : Int) (d : Addr) : (flds r n d).lookup ("row_numbers" : Str) = some (.ref r) := rfl
theorem flds_fresh (r : Addr) (n : Int) (d : Addr) : (flds r n d).lookup ("fresh_number" : Str) = some (.int n) := by
  show (match (("fresh_number" : Str) == ("row_numbers" : Str)) with | true => some (V.ref r) | false => _) = _
  rw [show (("fresh_number" : Str) == ("row_numbers" : Str)) = false by decide +kernel]
  rfl
theorem flds_kept (r : Addr) (n : Int) (d : Addr) : (flds r n d).lookup ("kept" : Str) = some (.ref d) := by
  show (match (("kept" : Str) == ("row_numbers" : Str)) with | true => some (V.ref r) | false => (match (("kept" : Str) == ("fresh_number" : Str)) with | true => some (V.int n) | false => _)) = _
  rw [show (("kept" : Str) == ("row_numbers" : Str)) = false by decide +kernel, show (("kept" : Str) == ("fresh_number" : Str)) = false by decide +kernel]
  rfl
theorem flds_no {r : Addr} {n : Int} {d : Addr} {m : Str} (h : (m == ("row_numbers" : Str) || m == ("fresh_number" : Str) || m == ("kept" : Str)) = false := by decide +kernel) : (flds r n d).lookup m = none := by
  simp only [Bool.or_eq_false_iff] at h
  obtain ⟨⟨h1, h2⟩, h3⟩ := h
  show (match (m == ("row_numbers" : Str)) with | true => some (V.ref r) | false => (match (m == ("fresh_number" : Str)) with | true => some (V.int n) | false => (match (m == ("kept" : Str)) with | true => some (V.ref d) | false => none))) = none
  rw [h1, h2, h3]
theorem flds_mk (r : Addr) (n : Int) (d : Addr) : putF "kept" (.ref d) (putF "fresh_number" (.int n) (putF "row_numbers" (.ref r) [])) = flds r n d := by
  show putF "kept" (.ref d) (if ("row_numbers" : Str) = "fresh_number" then _ else _) = _
  rw [if_neg (by decide +kernel)]
  show (if ("row_numbers" : Str) = "kept" then _ else _ :: (if ("fresh_number" : Str) = "kept" then _ else _)) = _
  rw [if_neg (by decide +kernel), if_neg (by decide +kernel)]
  rfl
/-- a Table stands at p: its list of numbers at r, its dict of columns at d -/
structure TabAt (C : Addr) (H : Hp) (p r d : Addr) (xs : List V) (n : Int) (kvs : List (Key × V)) : Prop where
  at_ : ∃ dx, H p = some (.ins C dx (flds r n d))
  rows : H r = some (.lst xs)
  kept : H d = some (.dK kvs)
theorem TabAt.same {C : Addr} {H H' : Hp} {p r d : Addr} {xs : List V} {n : Int} {kvs : List (Key × V)} (T : TabAt C H p r d xs n kvs) (s : Same H H') : TabAt C H' p r d xs n kvs := by
  obtain ⟨dx, h⟩ := T.at_
  exact ⟨⟨dx, s _ _ h⟩, s _ _ T.rows, s _ _ T.kept⟩
def sizeD : PyData → Bool
  | .int i => decide (0 ≤ i) && decide (i ≤ 30)
  | _ => false
section
variable {P : Program} {w : World} {K : PySem.W.Frag} {mg : Str → Option Value} {base : Heap}
def spSize (K : PySem.W.Frag) (c : Ad) : Sp := fun vs H Q E => ∃ x d, vs = [x] ∧ Dt K H x d ∧ (sizeD d = true → Q .non H) ∧ (sizeD d = false → E (.ref c.NoSize) none H)
theorem sc_check_size : FnScope ["many"] ["many"] (defScope s_check_size) := ⟨rfl, rfl, rfl, by decide +kernel, rfl, by decide +kernel, by decide +kernel⟩
theorem k_check_size (T : Tops K mg) {c : Ad} (X : Excs K mg c) : Known P w K mg base (CXE P w) 2 "check_size" ["many"] (spSize K c) := by
  have G_is_whole : Known P w K mg base CX0 1 "is_whole" ["thing"] (spWhole K) := k_is_whole T
  refine T.d_check_size.knownE sc_check_size (fun _ _ _ _ _ _ us hl => match us, hl with | [_], _ => rfl) (fun vs H Q E h => ?_) (fun f cdv A outer s H vs Q E hr h => ?_)
  · obtain ⟨x, d, rfl, _⟩ := h
    rfl
  · obtain ⟨x, d, rfl, hd, q1, q2⟩ := h
    refine ⟨_, (pss_one (ps_if (PW.pt (pw_or (pt_not (pt_val (pe_callN G_is_whole (hr.mono (by decide)) pass0 (pa_cons (pv 0) pa_nil)) (fun _ => rfl))) (pw_or1 (pt_not (pt_chain op_le op_le pe_int (pv 0) (pe_gI T.g_MOST_ROWS)))))) (pss_one (ps_raise X.c_NoSize X.x_NoSize (pa_cons pe_str pa_nil))) pss_nil)), ?_⟩
    refine ⟨_, rfl, x, d, rfl, hd, _, rfl, ?_⟩
    by_cases hk : wholeD d = true
    · obtain ⟨i, rfl⟩ : ∃ i, d = .int i := by cases d <;> simp [wholeD] at hk ⊢
      cases hd
      refine iteF ?_
      refine ⟨_, rfl, _, _, rfl, rfl, _, rfl, ?_⟩
      refine ite2 (fun h1 => ?_) (fun h1 => ?_)
      · refine ⟨_, _, rfl, rfl, _, rfl, ?_⟩
        refine ite2 (fun h2 => ?_) (fun h2 => ?_)
        · exact ⟨sl, q2 (by show (decide (0 ≤ i) && decide (i ≤ 30)) = false; have : decide (i ≤ 30) = false := by simpa using h2
                            rw [this, Bool.and_false])⟩
        · exact q1 (by show (decide (0 ≤ i) && decide (i ≤ 30)) = true; have e2 : decide (i ≤ 30) = true := by simpa using h2
                       have e1 : decide (0 ≤ i) = true := h1
                       rw [e1, e2]; rfl)
      · refine ⟨_, rfl, iteT ?_⟩
        exact ⟨sl, q2 (by show (decide (0 ≤ i) && decide (i ≤ 30)) = false; have : decide (0 ≤ i) = false := by simpa using h1
                          rw [this, Bool.false_and])⟩
    · have hk' : wholeD d = false := by simpa using hk
      rw [hk']
      refine iteT (iteT ?_)
      exact ⟨sl, q2 (by cases d <;> simp [wholeD] at hk' <;> rfl)⟩

def spInit (K : PySem.W.Frag) (C : Addr) (c : Ad) : Sp := fun vs H Q E => ∃ p dx x d, vs = [.ref p, x] ∧ H p = some (.ins C dx []) ∧ Dt K H x d ∧
  (∀ i, d = .int i → 0 ≤ i → i ≤ 30 → ∀ H' r e, TabAt C H' p r e (rangeV 0 i.toNat) i [] → H r = none → H e = none → r ≠ e → (∀ b o, H b = some o → b ≠ p → H' b = some o) → Q .non H') ∧ (sizeD d = false → E (.ref c.NoSize) none H)
theorem sc_Table_init : FnScope ["self", "many"] ["self", "many"] (defScope s_Table_init) := ⟨rfl, rfl, rfl, by decide +kernel, rfl, by decide +kernel, by decide +kernel⟩
theorem k_Table_init (T : Tops K mg) {c : Ad} (X : Excs K mg c) {C : Addr} (Y : TTable K mg C) : KnownI P w K mg base (CXE P w) 3 C ["self", "many"] (spInit K C c) := by
  have G_check_size : Known P w K mg base (CXE P w) 2 "check_size" ["many"] (spSize K c) := k_check_size T X
  refine (Y.m_init.knownE sc_Table_init (fun _ _ _ _ _ _ us hl => match us, hl with | [_, _], _ => rfl) (fun vs H Q E h => ?_) (fun f cdv A outer s H vs Q E hr h => ?_)).init Y.mks Y.kc
  · obtain ⟨p, dx, x, d, rfl, _⟩ := h
    rfl
  · obtain ⟨p, dx, x, d, rfl, hp, hd, q1, q2⟩ := h
    refine ⟨_, (pss_cons (ps_expr (pe_callN G_check_size (hr.mono (by decide)) passE (pa_cons (pv 1) pa_nil)))
      (pss_cons (ps_fld (pv 0) (pe_callTy (call_list_rng rfl) rfl T.list b_list (pa_cons (pe_callTy call_rng1 rfl T.range b_range (pa_cons (pv 1) pa_nil)) pa_nil)) rfl)
      (pss_cons (ps_fld (pv 0) (pe_callB call_len rfl T.len b_len (pa_cons (pe_fld (pv 0) rfl) pa_nil)) rfl)
      (pss_one (ps_fld (pv 0) pe_dnewK rfl))))), ?_⟩
    refine ⟨_, rfl, x, d, rfl, hd, (fun hs => ?_), fun hs => q2 hs⟩
    obtain ⟨i, rfl, h0, h30⟩ : ∃ i, d = .int i ∧ 0 ≤ i ∧ i ≤ 30 := by
      cases d <;> simp [sizeD] at hs
      exact ⟨_, rfl, hs.1, hs.2⟩
    cases hd
    refine ⟨_, rfl, i, rfl, fun g hg => ⟨g, 0, i, rfl, upd_same, by omega, by omega, by omega, by omega, by omega, fun r hr0 => ?_⟩⟩
    have ngp : p ≠ g := ne_of_none hp hg
    have hgr : r ≠ g := fun z => by rw [z, upd_same] at hr0; cases hr0
    have hr' : H r = none := by rw [upd_ne hgr] at hr0; exact hr0
    have npr : p ≠ r := ne_of_none hp hr'
    rw [Int.sub_zero] at *
    refine ⟨_, rfl, p, C, dx, [], rfl, (by rw [upd_ne npr, upd_ne ngp]; exact hp), Y.cl, Y.n_row_numbers, (by show 0 < 1000; decide), ?_⟩
    refine ⟨_, rfl, p, C, dx, _, _, rfl, upd_same, Y.cl, Y.n_row_numbers, rfl, _, _, rfl, .inl ⟨_, SqL.of (by rw [upd_ne npr.symm, upd_same]), rfl⟩, ?_⟩
    refine ⟨_, rfl, p, C, dx, _, rfl, upd_same, Y.cl, Y.n_fresh_number, (by show 1 < 1000; decide), ?_⟩
    intro e he
    have npe : p ≠ e := fun z => by rw [← z, upd_same] at he; cases he
    have nre : r ≠ e := fun z => by rw [← z, upd_ne npr.symm, upd_ne npr.symm, upd_same] at he; cases he
    have nge : g ≠ e := fun z => by rw [← z, upd_ne ngp.symm, upd_ne ngp.symm, upd_ne hgr.symm, upd_same] at he; cases he
    have he' : H e = none := by rw [upd_ne npe.symm, upd_ne npe.symm, upd_ne nre.symm, upd_ne nge.symm] at he; exact he
    refine ⟨_, rfl, p, C, dx, _, rfl, (by rw [upd_ne npe]; exact upd_same), Y.cl, Y.n_kept, (by show (putF "fresh_number" _ (putF "row_numbers" _ [])).length < 1000; show (if ("row_numbers" : Str) = "fresh_number" then _ else _ : List (Str × V)).length < 1000; rw [if_neg (by decide +kernel)]; show 2 < 1000; decide), ?_⟩
    refine q1 i rfl h0 h30 _ r e ⟨⟨dx, ?_⟩, ?_, ?_⟩ hr' he' nre fun b o hb hbp => ?_
    · rw [upd_same]
      refine congrArg (fun l => some (HO.ins C dx l)) ?_
      have := flds_mk r (rangeV 0 i.toNat).length e
      rw [rangeV_len, Int.toNat_of_nonneg h0] at this
      rw [rangeV_len, Int.toNat_of_nonneg h0]
      exact this
    · rw [upd_ne npr.symm, upd_ne nre, upd_ne npr.symm, upd_ne npr.symm, upd_same]
    · rw [upd_ne npe.symm, upd_same]
    · rw [upd_ne hbp, upd_ne (ne_of_none hb he'), upd_ne hbp, upd_ne hbp, upd_ne (ne_of_none hb hr'), upd_ne (ne_of_none hb hg)]
      exact hb
def spMany (C : Addr) : Sp := fun vs H Q _ => ∃ p r d xs n kvs, vs = [.ref p] ∧ TabAt C H p r d xs n kvs ∧ Q (.int xs.length) H
theorem sc_Table_many : FnScope ["self"] ["self"] (defScope s_Table_many) := ⟨rfl, rfl, rfl, by decide +kernel, rfl, by decide +kernel, by decide +kernel⟩
theorem k_Table_many (T : Tops K mg) {C : Addr} (Y : TTable K mg C) : KnownM P w K mg base CX0 1 C "many" ["self"] (spMany C) := by
  refine Y.m_many.known sc_Table_many (fun _ _ _ _ _ _ us hl => match us, hl with | [_], _ => rfl) (fun vs H Q E h => ?_) (fun f cdv A outer s H vs Q E hr h => ?_)
  · obtain ⟨p, r, d, xs, n, kvs, rfl, _⟩ := h
    rfl
  · obtain ⟨p, r, d, xs, n, kvs, rfl, ⟨⟨dx, hp⟩, hr', hd⟩, q⟩ := h
    refine ⟨_, (pss_one (ps_ret (pe_callB call_len rfl T.len b_len (pa_cons (pe_fld (pv 0) rfl) pa_nil)))), ?_⟩
    exact ⟨_, rfl, p, C, dx, _, _, rfl, hp, Y.cl, Y.n_row_numbers, flds_rows _ _ _, _, _, rfl, .inl ⟨_, SqL.of hr', rfl⟩, q⟩
def spNumbers (C : Addr) : Sp := fun vs H Q _ => ∃ p r d xs n kvs, vs = [.ref p] ∧ TabAt C H p r d xs n kvs ∧ ∀ l, H l = none → Q (.ref l) (upd H l (.lst xs))
theorem sc_Table_numbers : FnScope ["self"] ["self"] (defScope s_Table_numbers) := ⟨rfl, rfl, rfl, by decide +kernel, rfl, by decide +kernel, by decide +kernel⟩
theorem k_Table_numbers (T : Tops K mg) {C : Addr} (Y : TTable K mg C) : KnownM P w K mg base CX0 1 C "numbers" ["self"] (spNumbers C) := by
  refine Y.m_numbers.known sc_Table_numbers (fun _ _ _ _ _ _ us hl => match us, hl with | [_], _ => rfl) (fun vs H Q E h => ?_) (fun f cdv A outer s H vs Q E hr h => ?_)
  · obtain ⟨p, r, d, xs, n, kvs, rfl, _⟩ := h
    rfl
  · obtain ⟨p, r, d, xs, n, kvs, rfl, ⟨⟨dx, hp⟩, hr', hd⟩, q⟩ := h
    refine ⟨_, (pss_one (ps_ret (pe_callTy call_list_of rfl T.list b_list (pa_cons (pe_fld (pv 0) rfl) pa_nil)))), ?_⟩
    exact ⟨_, rfl, p, C, dx, _, _, rfl, hp, Y.cl, Y.n_row_numbers, flds_rows _ _ _, _, _, rfl, .inl (SqL.of hr'), q⟩
def spColumns (C : Addr) : Sp := fun vs H Q _ => ∃ p r d xs n kvs, vs = [.ref p] ∧ TabAt C H p r d xs n kvs ∧ ∀ l, H l = none → Q (.ref l) (upd H l (.lst (kvs.map fun p => kV p.1)))
theorem sc_Table_columns : FnScope ["self"] ["self"] (defScope s_Table_columns) := ⟨rfl, rfl, rfl, by decide +kernel, rfl, by decide +kernel, by decide +kernel⟩
theorem k_Table_columns (T : Tops K mg) {C : Addr} (Y : TTable K mg C) : KnownM P w K mg base CX0 1 C "columns" ["self"] (spColumns C) := by
  refine Y.m_columns.known sc_Table_columns (fun _ _ _ _ _ _ us hl => match us, hl with | [_], _ => rfl) (fun vs H Q E h => ?_) (fun f cdv A outer s H vs Q E hr h => ?_)
  · obtain ⟨p, r, d, xs, n, kvs, rfl, _⟩ := h
    rfl
  · obtain ⟨p, r, d, xs, n, kvs, rfl, ⟨⟨dx, hp⟩, hr', hd⟩, q⟩ := h
    refine ⟨_, (pss_one (ps_ret (pe_callTy (call_list_dK rfl) rfl T.list b_list (pa_cons (pe_fld (pv 0) rfl) pa_nil)))), ?_⟩
    exact ⟨_, rfl, p, C, dx, _, _, rfl, hp, Y.cl, Y.n_kept, flds_kept _ _ _, _, _, rfl, hd, q⟩
end
end My

namespace My
open PySem L2
def placeD (m : Int) : PyData → Bool
  | .int i => decide (0 ≤ i) && decide (i < m)
  | _ => false
def valuesD (m : Int) : PyData → Bool
  | .list ds => decide ((ds.length : Int) = m) && ds.all valueD
  | _ => false
/-- a column that is there -/
def colD (kvs : List (Key × V)) : PyData → Bool
  | .str t => nameS t && (valV kvs (.inr t : Key)).isSome
  | _ => false
section
variable {P : Program} {w : World} {K : PySem.W.Frag} {mg : Str → Option Value} {base : Heap}
def spPlace (K : PySem.W.Frag) (c : Ad) : Sp := fun vs H Q E => ∃ x d m, vs = [x, .int m] ∧ Dt K H x d ∧ (placeD m d = true → Q .non H) ∧ (placeD m d = false → E (.ref c.NoPlace) none H)
theorem sc_check_place : FnScope ["place", "places"] ["place", "places"] (defScope s_check_place) := ⟨rfl, rfl, rfl, by decide +kernel, rfl, by decide +kernel, by decide +kernel⟩
theorem k_check_place (T : Tops K mg) {c : Ad} (X : Excs K mg c) : Known P w K mg base (CXE P w) 2 "check_place" ["place", "places"] (spPlace K c) := by
  have G_is_whole : Known P w K mg base CX0 1 "is_whole" ["thing"] (spWhole K) := k_is_whole T
  refine T.d_check_place.knownE sc_check_place (fun _ _ _ _ _ _ us hl => match us, hl with | [_, _], _ => rfl) (fun vs H Q E h => ?_) (fun f cdv A outer s H vs Q E hr h => ?_)
  · obtain ⟨x, d, m, rfl, _⟩ := h
    rfl
  · obtain ⟨x, d, m, rfl, hd, q1, q2⟩ := h
    refine ⟨_, (pss_one (ps_if (PW.pt (pw_or (pt_not (pt_val (pe_callN G_is_whole (hr.mono (by decide)) pass0 (pa_cons (pv 0) pa_nil)) (fun _ => rfl))) (pw_or1 (pt_not (pt_chain op_le op_lt pe_int (pv 0) (pv 1)))))) (pss_one (ps_raise X.c_NoPlace X.x_NoPlace (pa_cons pe_str pa_nil))) pss_nil)), ?_⟩
    refine ⟨_, rfl, x, d, rfl, hd, _, rfl, ?_⟩
    by_cases hk : wholeD d = true
    · obtain ⟨i, rfl⟩ : ∃ i, d = .int i := by cases d <;> simp [wholeD] at hk ⊢
      cases hd
      refine iteF ?_
      refine ⟨_, rfl, _, _, rfl, rfl, _, rfl, ?_⟩
      refine ite2 (fun h1 => ?_) (fun h1 => ?_)
      · refine ⟨_, rfl, _, _, rfl, rfl, _, rfl, ?_⟩
        refine ite2 (fun h2 => ?_) (fun h2 => ?_)
        · exact ⟨sl, q2 (by show (decide (0 ≤ i) && decide (i < m)) = false; have : decide (i < m) = false := by simpa using h2
                            rw [this, Bool.and_false])⟩
        · exact q1 (by show (decide (0 ≤ i) && decide (i < m)) = true; have e2 : decide (i < m) = true := by simpa using h2
                       have e1 : decide (0 ≤ i) = true := h1
                       rw [e1, e2]; rfl)
      · refine ⟨_, rfl, iteT ?_⟩
        exact ⟨sl, q2 (by show (decide (0 ≤ i) && decide (i < m)) = false; have : decide (0 ≤ i) = false := by simpa using h1
                          rw [this, Bool.false_and])⟩
    · have hk' : wholeD d = false := by simpa using hk
      rw [hk']
      refine iteT (iteT ?_)
      exact ⟨sl, q2 (by cases d <;> simp [wholeD] at hk' <;> rfl)⟩
def spCValue (K : PySem.W.Frag) (c : Ad) : Sp := fun vs H Q E => ∃ x d, vs = [x] ∧ Dt K H x d ∧ shortD d ∧ (valueD d = true → ∀ H', Same H H' → Q .non H') ∧ (valueD d = false → ∀ H', Same H H' → E (.ref c.NoValue) none H')
theorem sc_check_value : FnScope ["value"] ["value"] (defScope s_check_value) := ⟨rfl, rfl, rfl, by decide +kernel, rfl, by decide +kernel, by decide +kernel⟩
theorem k_check_value (T : Tops K mg) {c : Ad} (X : Excs K mg c) : Known P w K mg base (CXE P w) 4 "check_value" ["value"] (spCValue K c) := by
  have G_is_value : Known P w K mg base CX0 3 "is_value" ["thing"] (spValue K) := k_is_value T
  refine T.d_check_value.knownE sc_check_value (fun _ _ _ _ _ _ us hl => match us, hl with | [_], _ => rfl) (fun vs H Q E h => ?_) (fun f cdv A outer s H vs Q E hr h => ?_)
  · obtain ⟨x, d, rfl, _⟩ := h
    rfl
  · obtain ⟨x, d, rfl, hd, hsh, q1, q2⟩ := h
    refine ⟨_, (pss_one (ps_if (pt_not (pt_val (pe_callN G_is_value (hr.mono (by decide)) pass0 (pa_cons (pv 0) pa_nil)) (fun _ => rfl))) (pss_one (ps_raise X.c_NoValue X.x_NoValue (pa_cons pe_str pa_nil))) pss_nil)), ?_⟩
    refine ⟨_, rfl, x, d, rfl, hd, hsh, fun H' s' => ⟨_, rfl, ?_⟩⟩
    refine ite2 (fun h1 => ?_) (fun h1 => ?_)
    · exact ⟨sl, q2 (by simpa using h1) H' s'⟩
    · exact q1 (by simpa using h1) H' s'
def spCValues (K : PySem.W.Frag) (c : Ad) : Sp := fun vs H Q E => ∃ x d m, vs = [x, .int m] ∧ Dt K H x d ∧ (∀ ds, d = .list ds → ds.length ≤ 1000 ∧ ∀ e ∈ ds, shortD e) ∧ (valuesD m d = true → ∀ H', Same H H' → Q .non H') ∧ (valuesD m d = false → ∀ H', Same H H' → E (.ref c.NoValue) none H')
theorem sc_check_values : FnScope ["values", "many"] ["values", "many"] (defScope s_check_values) := ⟨rfl, rfl, rfl, by decide +kernel, rfl, by decide +kernel, by decide +kernel⟩
theorem k_check_values (T : Tops K mg) {c : Ad} (X : Excs K mg c) : Known P w K mg base (CXE P w) 4 "check_values" ["values", "many"] (spCValues K c) := by
  have G_is_value : Known P w K mg base CX0 3 "is_value" ["thing"] (spValue K) := k_is_value T
  refine T.d_check_values.knownE sc_check_values (fun _ _ _ _ _ _ us hl => match us, hl with | [_, _], _ => rfl) (fun vs H Q E h => ?_) (fun f cdv A outer s H vs Q E hr h => ?_)
  · obtain ⟨x, d, m, rfl, _⟩ := h
    rfl
  · obtain ⟨x, d, m, rfl, hd, hsh, q1, q2⟩ := h
    refine ⟨_, (pss_one (ps_if (PW.pt (pw_or (pt_not (pt_val (pe_callB call_isT rfl T.isinstance b_isinstance (pa_cons (pv 0) (pa_cons (pe_ty T.list b_list) pa_nil))) (fun _ => rfl))) (pw_or (pt_cmpR op_ne (pe_callB call_len rfl T.len b_len (pa_cons (pv 0) pa_nil)) (pv 1) (nomark _)) (pw_or1 (pt_not (pt_val (pe_callB (call_all rfl) rfl T.all b_all (pa_cons (pe_comp caps0 rfl rfl (by decide) (pi_list (pv 0)) (fun _ _ _ _ _ => pts_nil) (fun _ _ _ _ _ => (pe_callN G_is_value (hr.mono (by decide)) pass0 (pa_cons (pv 0) pa_nil)))) pa_nil)) (fun _ => rfl))))))) (pss_one (ps_raise X.c_NoValue X.x_NoValue (pa_cons pe_str pa_nil))) pss_nil)), ?_⟩
    refine ⟨_, rfl, x, "list", d, _, rfl, hd, kit_list K _, _, rfl, ?_⟩
    by_cases hk : kdD d = .lst
    · obtain ⟨ds, rfl⟩ : ∃ ds, d = .list ds := by cases d <;> simp [kdD] at hk ⊢
      obtain ⟨hlen, hsd⟩ := hsh ds rfl
      cases hd with
      | @lst a xs _ hq hall =>
        have hl := hall.length
        refine iteF ?_
        refine ⟨_, rfl, _, _, rfl, .inl ⟨_, hq, rfl⟩, _, rfl, rfl, _, rfl, ?_⟩
        refine ite2 (fun h1 => ?_) (fun h1 => ?_)
        · have z : (xs.length : Int) ≠ m := by
            intro z
            rw [z] at h1
            simp at h1
          refine iteT ?_
          exact ⟨sl, q2 (by show (decide ((ds.length : Int) = m) && ds.all valueD) = false
                            rw [decide_eq_false (by rw [← hl]; exact z), Bool.false_and]) H (Same.refl H)⟩
        · have z : (xs.length : Int) = m := by
            have z1 : ¬ (!decide (V.int (xs.length : Int) = V.int m)) = true := h1
            simpa using z1
          refine ⟨_, rfl, a, rfl, ⟨_, hq⟩, fun D hD => ?_⟩
          refine comp_list (K := K) (a := a) (xs := xs) (fun i ys H2 => ys = (ds.take i).map (fun e => V.bl (valueD e)) ∧ Same H H2) ⟨rfl, Same.new hD⟩ (fun i ys H2 _ ⟨_, s2⟩ => s2.seq hq) ?_ ?_
          · rintro i v ys H2 hv h2D ⟨rfl, s2⟩
            obtain ⟨e, he, hde⟩ := hall.get hv
            refine ⟨_, rfl, v, e, rfl, hde.same s2, hsd e (List.mem_of_getElem? he), fun H3 s3 => ⟨s3 _ _ h2D, ?_, ?_, ?_⟩⟩
            · rw [List.length_map, List.length_take]
              exact small1000 (by omega)
            · rw [List.take_add_one, List.map_append, he]
              rfl
            · exact (s2.trans s3).on hD
          · rintro ys H2 h2D ⟨rfl, s2⟩
            refine ⟨D, ds.map valueD, rfl, SqL.of ?_, _, rfl, ?_⟩
            · rw [h2D, List.take_of_length_le (by rw [hl]; exact Nat.le_refl _), List.map_map]
              rfl
            · have e : (ds.map valueD).all id = ds.all valueD := by rw [List.all_map]; rfl
              have ev : valuesD m (.list ds) = ds.all valueD := by
                show (decide ((ds.length : Int) = m) && ds.all valueD) = _
                rw [decide_eq_true (by rw [← hl]; exact z), Bool.true_and]
              rw [e]
              refine ite2 (fun h2 => ?_) (fun h2 => ?_)
              · exact ⟨sl, q2 (by rw [ev]; simpa using h2) H2 s2⟩
              · exact q1 (by rw [ev]; simpa using h2) H2 s2
    · rw [decide_eq_false hk]
      refine iteT (iteT ?_)
      exact ⟨sl, q2 (by cases d <;> simp [kdD] at hk <;> rfl) H (Same.refl H)⟩
def spCCol (K : PySem.W.Frag) (C : Addr) (c : Ad) : Sp := fun vs H Q E => ∃ p r d xs n kvs x dx, vs = [.ref p, x] ∧ TabAt C H p r d xs n kvs ∧ Dt K H x dx ∧ shortS dx ∧ (colD kvs dx = true → ∀ H', Same H H' → Q .non H') ∧ (colD kvs dx = false → ∀ H', Same H H' → E (.ref c.NoColumn) none H')
theorem sc_Table_check_column : FnScope ["self", "column"] ["self", "column"] (defScope s_Table_check_column) := ⟨rfl, rfl, rfl, by decide +kernel, rfl, by decide +kernel, by decide +kernel⟩
theorem k_Table_check_column (T : Tops K mg) {c : Ad} (X : Excs K mg c) {C : Addr} (Y : TTable K mg C) : KnownM P w K mg base (CXE P w) 2 C "check_column" ["self", "column"] (spCCol K C c) := by
  have G_is_name : Known P w K mg base CX0 1 "is_name" ["thing"] (spName K) := k_is_name T
  refine Y.m_check_column.knownE sc_Table_check_column (fun _ _ _ _ _ _ us hl => match us, hl with | [_, _], _ => rfl) (fun vs H Q E h => ?_) (fun f cdv A outer s H vs Q E hr h => ?_)
  · obtain ⟨p, r, d, xs, n, kvs, x, dx, rfl, _⟩ := h
    rfl
  · obtain ⟨p, r, d, xs, n, kvs, x, dd, rfl, TA, hd, hsh, q1, q2⟩ := h
    refine ⟨_, (pss_one (ps_if (PW.pt (pw_or (pt_not (pt_val (pe_callN G_is_name (hr.mono (by decide)) pass0 (pa_cons (pv 1) pa_nil)) (fun _ => rfl))) (pw_or1 (pt_cmp (pc_dnotin (hu_of hr) (pv 1) (pe_fld (pv 0) rfl)))))) (pss_one (ps_raise X.c_NoColumn X.x_NoColumn (pa_cons pe_str pa_nil))) pss_nil)), ?_⟩
    refine ⟨_, rfl, x, dd, rfl, hd, hsh, fun H' s' => ⟨_, rfl, ?_⟩⟩
    by_cases hk : nameD dd = true
    · obtain ⟨t, rfl⟩ : ∃ t, dd = .str t := by cases dd <;> simp [nameD] at hk ⊢
      cases hd
      rw [hk]
      refine iteF ?_
      obtain ⟨⟨dx, h1⟩, _, h3⟩ := TA.same s'
      refine ⟨_, rfl, _, rfl, p, C, dx, _, _, rfl, h1, Y.cl, Y.n_kept, flds_kept _ _ _, d, _, rfl, DGet.k (k := Sum.inr t) h3, _, rfl, ?_⟩
      have ec : colD kvs (.str t) = (valV kvs (.inr t : Key)).isSome := by
        show (nameS t && _) = _
        rw [show nameS t = true from hk, Bool.true_and]
      refine ite2 (fun h4 => ?_) (fun h4 => ?_)
      · exact ⟨sl, q2 (by rw [ec]; revert h4; cases (valV kvs (.inr t : Key)).isSome <;> simp) H' s'⟩
      · exact q1 (by rw [ec]; revert h4; cases (valV kvs (.inr t : Key)).isSome <;> simp) H' s'
    · have hk' : nameD dd = false := by simpa using hk
      rw [hk']
      refine iteT (iteT ?_)
      refine ⟨sl, q2 ?_ H' s'⟩
      cases dd with
      | str t => show (nameS t && _) = false; rw [show nameS t = false from hk', Bool.false_and]
      | _ => rfl

def spAt (K : PySem.W.Frag) (C : Addr) (c : Ad) : Sp := fun vs H Q E => ∃ p r d xs n kvs x dx y dy, vs = [.ref p, x, y] ∧ TabAt C H p r d xs n kvs ∧ Dt K H x dx ∧ shortS dx ∧ Dt K H y dy ∧
  (∀ t l ys i v, dx = .str t → nameS t = true → valV kvs (.inr t : Key) = some (.ref l) → H l = some (.lst ys) → dy = .int i → 0 ≤ i → i < xs.length → atI ys i = some v → ∀ H', Same H H' → Q v H') ∧
  (colD kvs dx = true → placeD xs.length dy = true → ∃ t l ys i v, dx = .str t ∧ nameS t = true ∧ valV kvs (.inr t : Key) = some (.ref l) ∧ H l = some (.lst ys) ∧ dy = .int i ∧ 0 ≤ i ∧ i < xs.length ∧ atI ys i = some v) ∧
  (colD kvs dx = false → ∀ H', Same H H' → E (.ref c.NoColumn) none H') ∧ (colD kvs dx = true → placeD xs.length dy = false → ∀ H', Same H H' → E (.ref c.NoPlace) none H')
theorem sc_Table_at : FnScope ["self", "column", "place"] ["self", "column", "place"] (defScope s_Table_at) := ⟨rfl, rfl, rfl, by decide +kernel, rfl, by decide +kernel, by decide +kernel⟩
theorem k_Table_at (T : Tops K mg) {c : Ad} (X : Excs K mg c) {C : Addr} (Y : TTable K mg C) : KnownM P w K mg base (CXE P w) 3 C "at" ["self", "column", "place"] (spAt K C c) := by
  have G_check_column : KnownM P w K mg base (CXE P w) 2 C "check_column" ["self", "column"] (spCCol K C c) := k_Table_check_column T X Y
  have G_check_place : Known P w K mg base (CXE P w) 2 "check_place" ["place", "places"] (spPlace K c) := k_check_place T X
  have G_many : KnownM P w K mg base CX0 1 C "many" ["self"] (spMany C) := k_Table_many T Y
  refine Y.m_at.knownE sc_Table_at (fun _ _ _ _ _ _ us hl => match us, hl with | [_, _, _], _ => rfl) (fun vs H Q E h => ?_) (fun f cdv A outer s H vs Q E hr h => ?_)
  · obtain ⟨p, r, d, xs, n, kvs, x, dx, y, dy, rfl, _⟩ := h
    rfl
  · obtain ⟨p, r, d, xs, n, kvs, x, dd, y, dy, rfl, TA, hd, hsh, hy, q1, q0, q2, q3⟩ := h
    refine ⟨_, (pss_cons (ps_expr (pe_methN (pv 0) Y.cl G_check_column (hr.mono (by decide)) passE (pa_cons (pv 1) pa_nil)))
      (pss_cons (ps_expr (pe_callN G_check_place (hr.mono (by decide)) passE (pa_cons (pv 2) (pa_cons (pe_methN0 (pv 0) Y.cl G_many (hr.mono (by decide)) pass0) pa_nil))))
      (pss_one (ps_ret (pe_ix ix_list (pe_dget (hu_of hr) (pe_fld (pv 0) rfl) (pv 1) (fun _ _ => rfl)) (pv 2) (fun _ _ => rfl)))))), ?_⟩
    obtain ⟨⟨dx, h1⟩, h2, h3⟩ := id TA
    refine ⟨_, rfl, p, dx, _, rfl, h1, flds_no, _, rfl, p, r, d, xs, n, kvs, x, dd, rfl, TA, hd, hsh, (fun hc H1 s1 => ?_), fun hc H1 s1 => q2 hc H1 s1⟩
    have TB := TA.same s1
    refine ⟨_, rfl, _, rfl, p, dx, _, rfl, s1 _ _ h1, flds_no, p, r, d, xs, n, kvs, rfl, TB, y, dy, _, rfl, hy.same s1, (fun hp => ?_), fun hp => q3 hc hp H1 s1⟩
    obtain ⟨t, l, ys, i, v, rfl, hn, hv, hl, rfl, h0, hi, ha⟩ := q0 hc hp
    cases hd
    cases hy
    refine ⟨_, rfl, p, C, dx, _, _, rfl, s1 _ _ h1, Y.cl, Y.n_kept, flds_kept _ _ _, _, rfl, d, .ref l, rfl, hv ▸ DGet.k (k := Sum.inr t) (s1 _ _ h3), _, rfl, l, _, i, v, rfl, rfl, SqL.of (s1 _ _ hl), ha, ?_⟩
    exact q1 t l ys i v rfl hn hv hl rfl h0 hi ha H1 s1

def spPut (K : PySem.W.Frag) (C : Addr) (c : Ad) : Sp := fun vs H Q E => ∃ p r d xs n kvs x dx y dy z dz, vs = [.ref p, x, y, z] ∧ TabAt C H p r d xs n kvs ∧ Dt K H x dx ∧ shortS dx ∧ Dt K H y dy ∧ Dt K H z dz ∧ shortD dz ∧
  (colD kvs dx = true → placeD xs.length dy = true → valueD dz = true → ∃ t l ys i j, dx = .str t ∧ nameS t = true ∧ valV kvs (.inr t : Key) = some (.ref l) ∧ H l = some (.lst ys) ∧ dy = .int i ∧ ixN ys.length i = some j ∧ ∀ H', Same H H' → Q .non (upd H' l (.lst (ys.set j z)))) ∧
  (colD kvs dx = false → ∀ H', Same H H' → E (.ref c.NoColumn) none H') ∧ (colD kvs dx = true → placeD xs.length dy = false → ∀ H', Same H H' → E (.ref c.NoPlace) none H') ∧
  (colD kvs dx = true → placeD xs.length dy = true → valueD dz = false → ∀ H', Same H H' → E (.ref c.NoValue) none H')
theorem sc_Table_put : FnScope ["self", "column", "place", "value"] ["self", "column", "place", "value"] (defScope s_Table_put) := ⟨rfl, rfl, rfl, by decide +kernel, rfl, by decide +kernel, by decide +kernel⟩
theorem k_Table_put (T : Tops K mg) {c : Ad} (X : Excs K mg c) {C : Addr} (Y : TTable K mg C) : KnownM P w K mg base (CXE P w) 5 C "put" ["self", "column", "place", "value"] (spPut K C c) := by
  have G_check_column : KnownM P w K mg base (CXE P w) 2 C "check_column" ["self", "column"] (spCCol K C c) := k_Table_check_column T X Y
  have G_check_place : Known P w K mg base (CXE P w) 2 "check_place" ["place", "places"] (spPlace K c) := k_check_place T X
  have G_check_value : Known P w K mg base (CXE P w) 4 "check_value" ["value"] (spCValue K c) := k_check_value T X
  have G_many : KnownM P w K mg base CX0 1 C "many" ["self"] (spMany C) := k_Table_many T Y
  refine Y.m_put.knownE sc_Table_put (fun _ _ _ _ _ _ us hl => match us, hl with | [_, _, _, _], _ => rfl) (fun vs H Q E h => ?_) (fun f cdv A outer s H vs Q E hr h => ?_)
  · obtain ⟨p, r, d, xs, n, kvs, x, dx, y, dy, z, dz, rfl, _⟩ := h
    rfl
  · obtain ⟨p, r, d, xs, n, kvs, x, dd, y, dy, z, dz, rfl, TA, hd, hsh, hy, hz, hsz, q0, q2, q3, q4⟩ := h
    refine ⟨_, (pss_cons (ps_expr (pe_methN (pv 0) Y.cl G_check_column (hr.mono (by decide)) passE (pa_cons (pv 1) pa_nil)))
      (pss_cons (ps_expr (pe_callN G_check_place (hr.mono (by decide)) passE (pa_cons (pv 2) (pa_cons (pe_methN0 (pv 0) Y.cl G_many (hr.mono (by decide)) pass0) pa_nil))))
      (pss_cons (ps_expr (pe_callN G_check_value (hr.mono (by decide)) passE (pa_cons (pv 3) pa_nil)))
      (pss_one (ps_asg (pv 3) (pg_sub (pe_dget (hu_of hr) (pe_fld (pv 0) rfl) (pv 1) (fun _ _ => rfl)) (pv 2) set_list (fun _ => rfl))))))), ?_⟩
    obtain ⟨⟨dx, h1⟩, h2, h3⟩ := id TA
    refine ⟨_, rfl, p, dx, _, rfl, h1, flds_no, _, rfl, p, r, d, xs, n, kvs, x, dd, rfl, TA, hd, hsh, (fun hc H1 s1 => ?_), fun hc H1 s1 => q2 hc H1 s1⟩
    have TB := TA.same s1
    refine ⟨_, rfl, _, rfl, p, dx, _, rfl, s1 _ _ h1, flds_no, p, r, d, xs, n, kvs, rfl, TB, y, dy, _, rfl, hy.same s1, (fun hp => ?_), fun hp => q3 hc hp H1 s1⟩
    refine ⟨_, rfl, z, dz, rfl, hz.same s1, hsz, (fun hv H2 s2 => ?_), fun hv H2 s2 => q4 hc hp hv H2 (s1.trans s2)⟩
    have s12 := s1.trans s2
    obtain ⟨t, l, ys, i, j, rfl, hn, hvl, hl, rfl, hj, q⟩ := q0 hc hp hv
    cases hd
    cases hy
    refine ⟨_, rfl, _, rfl, p, C, dx, _, _, rfl, s12 _ _ h1, Y.cl, Y.n_kept, flds_kept _ _ _, _, rfl, d, .ref l, rfl, hvl ▸ DGet.k (k := Sum.inr t) (s12 _ _ h3), _, rfl, l, ys, i, j, rfl, rfl, s12 _ _ hl, hj, ?_⟩
    exact q H2 s12

def spGive (K : PySem.W.Frag) (C : Addr) (c : Ad) : Sp := fun vs H Q E => ∃ p r d xs n kvs x dx y dy, vs = [.ref p, x, y] ∧ TabAt C H p r d xs n kvs ∧ Dt K H x dx ∧ shortS dx ∧ Dt K H y dy ∧ (∀ ds, dy = .list ds → ds.length ≤ 1000 ∧ ∀ e ∈ ds, shortD e) ∧
  (∀ t, dx = .str t → nameS t = true → ((valV kvs (.inr t : Key)).isSome = true ∨ kvs.length < 8) → valuesD xs.length dy = true → kvs.length ≤ 1000 ∧ ∃ a ys, y = .ref a ∧ SqL K H a ys ∧
    ∀ H' l, Same H H' → H' l = none → Q .non (upd (upd H' l (.lst ys)) d (.dK (putK kvs (.inr t : Key) (.ref l))))) ∧
  (nameD dx = false → ∀ H', Same H H' → E (.ref c.NoName) none H') ∧ (∀ t, dx = .str t → nameS t = true → (valV kvs (.inr t : Key)) = none → 8 ≤ kvs.length → ∀ H', Same H H' → E (.ref c.TooMuch) none H') ∧
  (∀ t, dx = .str t → nameS t = true → ((valV kvs (.inr t : Key)).isSome = true ∨ kvs.length < 8) → valuesD xs.length dy = false → ∀ H', Same H H' → E (.ref c.NoValue) none H')
theorem sc_Table_give : FnScope ["self", "column", "values"] ["self", "column", "values"] (defScope s_Table_give) := ⟨rfl, rfl, rfl, by decide +kernel, rfl, by decide +kernel, by decide +kernel⟩
theorem k_Table_give (T : Tops K mg) {c : Ad} (X : Excs K mg c) {C : Addr} (Y : TTable K mg C) : KnownM P w K mg base (CXE P w) 5 C "give" ["self", "column", "values"] (spGive K C c) := by
  have G_is_name : Known P w K mg base CX0 1 "is_name" ["thing"] (spName K) := k_is_name T
  have G_check_values : Known P w K mg base (CXE P w) 4 "check_values" ["values", "many"] (spCValues K c) := k_check_values T X
  have G_many : KnownM P w K mg base CX0 1 C "many" ["self"] (spMany C) := k_Table_many T Y
  refine Y.m_give.knownE sc_Table_give (fun _ _ _ _ _ _ us hl => match us, hl with | [_, _, _], _ => rfl) (fun vs H Q E h => ?_) (fun f cdv A outer s H vs Q E hr h => ?_)
  · obtain ⟨p, r, d, xs, n, kvs, x, dx, y, dy, rfl, _⟩ := h
    rfl
  · obtain ⟨p, r, d, xs, n, kvs, x, dd, y, dy, rfl, TA, hd, hsh, hy, hsy, q0, q1, q2, q3⟩ := h
    have rest : ∃ t, PSs (bodyCx P w K mg base ["self", "column", "values"] "Table.give" (defScope s_Table_give) f cdv A outer s H E) ((defBody s_Table_give).drop 2) t ∧
        ∀ (t' : Str) (H1 : Hp), dd = .str t' → nameS t' = true → ((valV kvs (.inr t' : Key)).isSome = true ∨ kvs.length < 8) → Same H H1 → t { nx := fun _ H' => Q .non H', rt := Q } [some (.ref p), some x, some y] H1 := by
      refine ⟨_, (pss_cons (ps_expr (pe_callN G_check_values (hr.mono (by decide)) passE (pa_cons (pv 2) (pa_cons (pe_methN0 (pv 0) Y.cl G_many (hr.mono (by decide)) pass0) pa_nil))))
        (pss_one (ps_dput (hu_of hr) (pe_fld (pv 0) rfl) (pv 1) (pe_callTy call_list_of rfl T.list b_list (pa_cons (pv 2) pa_nil)) rfl))), fun t' H1 et hn hc s1 => ?_⟩
      subst et
      cases hd
      obtain ⟨⟨dx, h1⟩, h2, h3⟩ := TA.same s1
      refine ⟨_, rfl, _, rfl, p, dx, _, rfl, h1, flds_no, p, r, d, xs, n, kvs, rfl, TA.same s1, y, dy, _, rfl, hy.same s1, hsy, (fun hv H2 s2 => ?_), fun hv H2 s2 => q3 t' rfl hn hc hv H2 (s1.trans s2)⟩
      have s12 := s1.trans s2
      obtain ⟨hk, a, ys, rfl, hs, q⟩ := q0 t' rfl hn hc hv
      refine ⟨_, rfl, a, ys, rfl, .inl (s12.seq hs), fun l hl => ?_⟩
      have c1 : Same H2 (upd H2 l (.lst ys)) := Same.new hl
      refine ⟨_, rfl, p, C, dx, _, _, rfl, c1 _ _ (s2 _ _ h1), Y.cl, Y.n_kept, flds_kept _ _ _, _, rfl, d, _, rfl, DPut.k (k := Sum.inr t') (c1 _ _ (s2 _ _ h3)) (small1000 hk), ?_⟩
      exact q H2 l s12 hl
    obtain ⟨t2, ht2, r2⟩ := rest
    refine ⟨_, (pss_cons (ps_if (pt_not (pt_val (pe_callN G_is_name (hr.mono (by decide)) pass0 (pa_cons (pv 1) pa_nil)) (fun _ => rfl))) (pss_one (ps_raise X.c_NoName X.x_NoName (pa_cons pe_str pa_nil))) pss_nil)
      (pss_cons (ps_if (PW.pt (pw_and (pt_cmp (pc_dnotin (hu_of hr) (pv 1) (pe_fld (pv 0) rfl))) (pw_and1 (pt_cmpR op_ge (pe_callB call_lenD rfl T.len b_len (pa_cons (pe_fld (pv 0) rfl) pa_nil)) (pe_gI T.g_MOST_COLUMNS) (nomark _))))) (pss_one (ps_raise X.c_TooMuch X.x_TooMuch (pa_cons pe_str pa_nil))) pss_nil)
      ht2)), ?_⟩
    refine ⟨_, rfl, x, dd, rfl, hd, hsh, fun H1 s1 => ⟨_, rfl, ?_⟩⟩
    refine ite2 (fun h1 => ?_) (fun h1 => ?_)
    · exact ⟨sl, q1 (by simpa using h1) H1 s1⟩
    · have hk : nameD dd = true := by simpa using h1
      obtain ⟨t, rfl⟩ : ∃ t, dd = .str t := by cases dd <;> simp [nameD] at hk ⊢
      cases hd
      obtain ⟨⟨dx, h2⟩, _, h3⟩ := TA.same s1
      refine ⟨_, rfl, _, rfl, p, C, dx, _, _, rfl, h2, Y.cl, Y.n_kept, flds_kept _ _ _, d, _, rfl, DGet.k (k := Sum.inr t) h3, _, rfl, ?_⟩
      cases e : valV kvs (Sum.inr t : Key) with
      | some v =>
        refine iteF (iteF ?_)
        exact r2 t H1 rfl hk (.inl (by rw [e]; rfl)) s1
      | none =>
        refine iteT ?_
        refine ⟨_, rfl, p, C, dx, _, _, rfl, h2, Y.cl, Y.n_kept, flds_kept _ _ _, d, kvs, rfl, h3, _, _, rfl, rfl, _, rfl, ?_⟩
        refine ite2 (fun h4 => ?_) (fun h4 => ?_)
        · have h4' : (8 : Int) ≤ kvs.length := by simpa using h4
          exact ⟨sl, q2 t rfl hk e (by omega) H1 s1⟩
        · have h4' : ¬ (8 : Int) ≤ kvs.length := by simpa using h4
          exact r2 t H1 rfl hk (.inr (by omega)) s1
end
end My

namespace My
open PySem L2
section
variable {P : Program} {w : World} {K : PySem.W.Frag} {mg : Str → Option Value} {base : Heap}
def spDrop (K : PySem.W.Frag) (C : Addr) (c : Ad) : Sp := fun vs H Q E => ∃ p r d xs n kvs x dx, vs = [.ref p, x] ∧ TabAt C H p r d xs n kvs ∧ Dt K H x dx ∧ shortS dx ∧
  (∀ t, dx = .str t → nameS t = true → (valV kvs (.inr t : Key)).isSome = true → ∀ H', Same H H' → Q .non (upd H' d (.dK (dropK kvs (.inr t : Key))))) ∧ (colD kvs dx = false → ∀ H', Same H H' → E (.ref c.NoColumn) none H')
theorem sc_Table_drop : FnScope ["self", "column"] ["self", "column"] (defScope s_Table_drop) := ⟨rfl, rfl, rfl, by decide +kernel, rfl, by decide +kernel, by decide +kernel⟩
theorem k_Table_drop (T : Tops K mg) {c : Ad} (X : Excs K mg c) {C : Addr} (Y : TTable K mg C) : KnownM P w K mg base (CXE P w) 3 C "drop" ["self", "column"] (spDrop K C c) := by
  have G_check_column : KnownM P w K mg base (CXE P w) 2 C "check_column" ["self", "column"] (spCCol K C c) := k_Table_check_column T X Y
  refine Y.m_drop.knownE sc_Table_drop (fun _ _ _ _ _ _ us hl => match us, hl with | [_, _], _ => rfl) (fun vs H Q E h => ?_) (fun f cdv A outer s H vs Q E hr h => ?_)
  · obtain ⟨p, r, d, xs, n, kvs, x, dx, rfl, _⟩ := h
    rfl
  · obtain ⟨p, r, d, xs, n, kvs, x, dd, rfl, TA, hd, hsh, q1, q2⟩ := h
    refine ⟨_, (pss_cons (ps_expr (pe_methN (pv 0) Y.cl G_check_column (hr.mono (by decide)) passE (pa_cons (pv 1) pa_nil)))
      (pss_one (ps_expr (pe_dpop1 (pe_fld (pv 0) rfl) (pv 1) ⟨rfl, rfl, rfl, rfl⟩)))), ?_⟩
    obtain ⟨⟨dx, h1⟩, h2, h3⟩ := id TA
    refine ⟨_, rfl, p, dx, _, rfl, h1, flds_no, _, rfl, p, r, d, xs, n, kvs, x, dd, rfl, TA, hd, hsh, (fun hc H1 s1 => ?_), fun hc H1 s1 => q2 hc H1 s1⟩
    obtain ⟨t, rfl, hn, hv⟩ : ∃ t, dd = .str t ∧ nameS t = true ∧ (valV kvs (.inr t : Key)).isSome = true := by
      cases dd with
      | str t => exact ⟨t, rfl, (Bool.and_eq_true _ _ ▸ hc : _ ∧ _).1, (Bool.and_eq_true _ _ ▸ hc : _ ∧ _).2⟩
      | _ => cases hc
    cases hd
    obtain ⟨v, ev⟩ := Option.isSome_iff_exists.mp hv
    refine ⟨_, rfl, p, C, dx, _, _, rfl, s1 _ _ h1, Y.cl, Y.n_kept, flds_kept _ _ _, d, rfl, .inl ⟨_, .inl (s1 _ _ h3)⟩, _, rfl, kvs, Sum.inr t, v, s1 _ _ h3, rfl, ev, ?_⟩
    exact q1 t rfl hn hv H1 s1
end
end My

namespace My
open PySem L2
/-- what a value's data are like -/
def ValOk (d : PyData) : Prop := valueD d = true ∧ d.canLay0 = true ∧ d.depth ≤ 64 ∧ kdD d ≠ .bl ∧ shortD d
/-- a value, by its own: a number, or a tuple of the heap -/
def Vd (H : Hp) (v : V) (d : PyData) : Prop := ValOk d ∧ ((∃ i, v = .int i ∧ d = .int i) ∨ ∃ p t, v = .ref p ∧ d = .tuple [.str "fault", .str t] ∧ H p = some (.tup [.str "fault", .str t]))
theorem Vd.dt {K : PySem.W.Frag} {H : Hp} {v : V} {d : PyData} (h : Vd H v d) : Dt K H v d := by
  obtain ⟨_, ⟨i, rfl, rfl⟩ | ⟨p, t, rfl, rfl, e⟩⟩ := h
  · exact .int i
  · exact .tup (SqT.of e) (.cons (.str _) (.cons (.str _) .nil))
/-- tuples stay -/
def Tups (H H' : Hp) : Prop := ∀ b xs, H b = some (.tup xs) → H' b = some (.tup xs)
theorem Vd.keep {H H' : Hp} {v : V} {d : PyData} (h : Vd H v d) (k : Tups H H') : Vd H' v d := by
  obtain ⟨ok, ⟨i, rfl, rfl⟩ | ⟨p, t, rfl, rfl, e⟩⟩ := h
  · exact ⟨ok, .inl ⟨i, rfl, rfl⟩⟩
  · exact ⟨ok, .inr ⟨p, t, rfl, rfl, k _ _ e⟩⟩
theorem Tups.same {H H' : Hp} (s : Same H H') : Tups H H' := fun b xs e => s b _ e
/-- values, one by one -/
inductive VdAll (H : Hp) : List V → List PyData → Prop
  | nil : VdAll H [] []
  | cons {v : V} {d : PyData} {vs : List V} {ds : List PyData} : Vd H v d → VdAll H vs ds → VdAll H (v :: vs) (d :: ds)
section
variable {P : Program} {w : World} {K : PySem.W.Frag} {mg : Str → Option Value} {base : Heap}
end
end My

namespace My
open PySem L2
/-- a column of a table by itself -/
structure TCol where
  nm : Str
  l : Addr
  ys : List V
def tk (ts : List TCol) : List (Key × V) := ts.map fun c => ((Sum.inr c.nm : Key), V.ref c.l)
/-- a table with its columns -/
structure Tbl (C : Addr) (H : Hp) (p r e : Addr) (xs : List V) (n : Int) (ts : List TCol) : Prop where
  tab : TabAt C H p r e xs n (tk ts)
  lst : ∀ c ∈ ts, H c.l = some (.lst c.ys)
  len : ∀ c ∈ ts, c.ys.length = xs.length
  nms : ∀ c ∈ ts, nameS c.nm = true ∧ c.nm.length ≤ 8
  nod : (ts.map (·.nm)).Nodup
  apt : (ts.map (·.l)).Nodup
  apr : ∀ c ∈ ts, c.l ≠ r
  few : ts.length ≤ 8
theorem Tbl.same {C : Addr} {H H' : Hp} {p r e : Addr} {xs : List V} {n : Int} {ts : List TCol} (W : Tbl C H p r e xs n ts) (s : Same H H') : Tbl C H' p r e xs n ts :=
  ⟨W.tab.same s, fun c hc => s _ _ (W.lst c hc), W.len, W.nms, W.nod, W.apt, W.apr, W.few⟩
theorem tk_val {ts : List TCol} {c : TCol} (nod : (ts.map (·.nm)).Nodup) (h : c ∈ ts) : valV (tk ts) (.inr c.nm : Key) = some (.ref c.l) := by
  induction ts with
  | nil => cases h
  | cons d r ih =>
    rw [List.map_cons, List.nodup_cons] at nod
    by_cases hd : d.nm = c.nm
    · rcases List.mem_cons.mp h with rfl | h
      · exact valV_pos rfl
      · exact absurd (List.mem_map.mpr ⟨c, h, hd.symm⟩) nod.1
    · rcases List.mem_cons.mp h with rfl | h
      · exact absurd rfl hd
      · show valV (((Sum.inr d.nm : Key), V.ref d.l) :: tk r) _ = _
        rw [valV_neg (fun z => hd (Sum.inr.inj z))]
        exact ih nod.2 h
theorem tk_keys {ts : List TCol} : (tk ts).map (fun p => kV p.1) = (ts.map (·.nm)).map V.str := by
  unfold tk
  rw [List.map_map, List.map_map]
  rfl
theorem tk_len {ts : List TCol} : (tk ts).length = ts.length := by unfold tk; rw [List.length_map]
theorem nod_l {ts : List TCol} (h : (ts.map (·.l)).Nodup) {j k : Nat} {c d : TCol} (hc : ts[j]? = some c) (hd : ts[k]? = some d) (n : j ≠ k) : c.l ≠ d.l := fun z => by
  have e1 : (ts.map (·.l))[j]? = some c.l := by rw [List.getElem?_map, hc]; rfl
  have e2 : (ts.map (·.l))[k]? = some c.l := by rw [List.getElem?_map, hd, z]; rfl
  have hj : j < (ts.map (·.l)).length := (List.getElem?_eq_some_iff.mp e1).1
  exact n ((List.getElem?_inj hj h).mp (e1.trans e2.symm))
theorem flds_put (r : Addr) (n m : Int) (d : Addr) : putF "fresh_number" (.int m) (flds r n d) = flds r m d := by
  show (if ("row_numbers" : Str) = "fresh_number" then _ else _ :: (if ("fresh_number" : Str) = "fresh_number" then _ else _)) = _
  rw [if_neg (by decide +kernel), if_pos rfl]
  rfl
/-- what a walk over the columns leaves behind: those of ts turned by g, all else as it was -/
def Turned (H H' : Hp) (ts : List TCol) (g : TCol → List V) : Prop := (∀ b o, H b = some o → (∀ c ∈ ts, b ≠ c.l) → H' b = some o) ∧ ∀ c ∈ ts, H' c.l = some (.lst (g c))
section
variable {P : Program} {w : World} {K : PySem.W.Frag} {mg : Str → Option Value} {base : Heap}
/-- take_out, where the place is there -/
def spTake (C : Addr) : Sp := fun vs H Q _ => ∃ p r e xs n ts i, vs = [.ref p, .int i] ∧ Tbl C H p r e xs n ts ∧ 0 ≤ i ∧ i < xs.length ∧ xs.length ≤ 1000 ∧
  ∀ H', (∀ b o, H b = some o → b ≠ r → (∀ c ∈ ts, b ≠ c.l) → H' b = some o) → (∀ c ∈ ts, H' c.l = some (.lst (c.ys.eraseIdx i.toNat))) → H' r = some (.lst (xs.eraseIdx i.toNat)) → Q .non H'
theorem sc_Table_take_out : FnScope ["self", "place", "column"] ["self", "place"] (defScope s_Table_take_out) := ⟨rfl, rfl, rfl, by decide +kernel, rfl, by decide +kernel, by decide +kernel⟩
theorem k_Table_take_out (T : Tops K mg) {c : Ad} (X : Excs K mg c) {C : Addr} (Y : TTable K mg C) : KnownM P w K mg base CX0 3 C "take_out" ["self", "place"] (spTake C) := by
  have G_check_place : Known P w K mg base (CXE P w) 2 "check_place" ["place", "places"] (spPlace K c) := k_check_place T X
  have G_many : KnownM P w K mg base CX0 1 C "many" ["self"] (spMany C) := k_Table_many T Y
  have G_columns : KnownM P w K mg base CX0 1 C "columns" ["self"] (spColumns C) := k_Table_columns T Y
  refine Y.m_take_out.known sc_Table_take_out (fun _ _ _ _ _ _ us hl => match us, hl with | [_, _], _ => rfl) (fun vs H Q E h => ?_) (fun f cdv A outer s H vs Q E hr h => ?_)
  · obtain ⟨p, r, e, xs, n, ts, i, rfl, _⟩ := h
    rfl
  · obtain ⟨p, r, e, xs, n, ts, i, rfl, W, i0, i1, x1, q⟩ := h
    refine ⟨_, (pss_cons (ps_expr (pe_callN G_check_place (hr.mono (by decide)) passN (pa_cons (pv 1) (pa_cons (pe_methN0 (pv 0) Y.cl G_many (hr.mono (by decide)) pass0) pa_nil))))
      (pss_cons (ps_for PassesOwn.never rfl (pi_list (pe_methN0 (pv 0) Y.cl G_columns (hr.mono (by decide)) pass0)) (pg_name (i := 2) sc_Table_take_out.nd rfl (Or.inl rfl)) (pss_one (ps_expr (pe_bm PySem.F.plainAttrs_list PySem.F.slot_list_pop PySem.F.type_list_pop mt_popAt (pe_dget (hu_of hr) (pe_fld (pv 0) rfl) (pv 2) (fun _ _ => rfl)) (pa_cons (pv 1) pa_nil)))))
      (pss_one (ps_expr (pe_bm PySem.F.plainAttrs_list PySem.F.slot_list_pop PySem.F.type_list_pop mt_popAt (pe_fld (pv 0) rfl) (pa_cons (pv 1) pa_nil)))))), ?_⟩
    obtain ⟨⟨dx, g1⟩, g2, g3⟩ := W.tab
    refine ⟨_, rfl, _, rfl, p, dx, _, rfl, g1, flds_no, p, r, e, xs, n, _, rfl, W.tab, .int i, .int i, _, rfl, .int i, (fun _ => ?_), fun z => ?_⟩
    · refine ⟨_, rfl, p, dx, _, rfl, g1, flds_no, p, r, e, xs, n, _, rfl, W.tab, fun lc hlc => ?_⟩
      rw [tk_keys]
      have c1 : Same H (upd H lc (.lst ((ts.map (·.nm)).map V.str))) := Same.new hlc
      have hc1 : upd H lc (.lst ((ts.map (·.nm)).map V.str)) lc = some (.lst ((ts.map (·.nm)).map V.str)) := upd_same
      generalize upd H lc (.lst ((ts.map (·.nm)).map V.str)) = H1 at c1 hc1 ⊢
      have W1 := W.same c1
      have lne : ∀ c ∈ ts, lc ≠ c.l := fun c hc => (ne_of_none (W.lst c hc) hlc).symm
      refine ⟨lc, rfl, ⟨_, SqL.of hc1⟩, ?_⟩
      refine for_list (K := K) (a := lc) (xs := (ts.map (·.nm)).map V.str) (fun j σ H2 => (∃ y, σ = [some (.ref p), some (.int i), y]) ∧ Turned H1 H2 (ts.take j) fun c => c.ys.eraseIdx i.toNat) ⟨⟨_, rfl⟩, fun b o q _ => q, fun c hc => by simp at hc⟩ (fun j σ H2 _ ⟨_, t⟩ => SqL.of (t.1 _ _ hc1 fun c hc => lne c (List.mem_of_mem_take hc))) ?_ ?_
      · rintro j v σ H2 hv ⟨⟨y, rfl⟩, t1, t2⟩
        obtain ⟨c, hj, rfl⟩ : ∃ c, ts[j]? = some c ∧ v = .str c.nm := by
          rw [List.getElem?_map, List.getElem?_map] at hv
          cases z : ts[j]? with
          | none => rw [z] at hv; cases hv
          | some c => rw [z] at hv; cases hv; exact ⟨c, rfl, rfl⟩
        have hc := List.mem_of_getElem? hj
        have apart : ∀ d ∈ ts.take j, c.l ≠ d.l := fun d hd => by
          obtain ⟨k, hk⟩ := List.getElem?_of_mem hd
          rw [List.getElem?_take] at hk
          split at hk
          · exact nod_l W.apt hj hk (by omega)
          · cases hk
        have k2 : ∀ b o, H1 b = some o → (∀ xs, o ≠ .lst xs) → H2 b = some o := fun b o q nn => t1 b o q fun d hd => ne_of q (W1.lst d (List.mem_of_mem_take hd)) (nn _)
        have hcl : H2 c.l = some (.lst c.ys) := t1 _ _ (W1.lst c hc) apart
        obtain ⟨⟨dx, h1⟩, h2, h3⟩ := W1.tab
        have hlen := W.len c hc
        have hk : seqIndex? i c.ys.length = some i.toNat := seqIndex_of i0 (by omega)
        obtain ⟨y0, hy0⟩ : ∃ y0, c.ys[i.toNat]? = some y0 := ⟨c.ys[i.toNat]'(by omega), by simp⟩
        refine ⟨_, rfl, p, C, dx, _, _, rfl, k2 _ _ h1 (by intro _ z; cases z), Y.cl, Y.n_kept, flds_kept _ _ _, _, rfl, e, .ref c.l, rfl, tk_val W.nod hc ▸ DGet.k (k := Sum.inr c.nm) (k2 _ _ h3 (by intro _ z; cases z)), .inl ⟨rfl, _, SqL.of hcl⟩, _, rfl, c.l, c.ys, i, i.toNat, y0, rfl, rfl, hcl, by omega, by omega, hk, hy0, ?_⟩
        refine ⟨⟨_, rfl⟩, fun b o q nb => ?_, fun d hd => ?_⟩
        · rw [upd_ne (nb c (by rw [List.take_add_one, hj]; simp))]
          exact t1 b o q fun d hd => nb d (by rw [List.take_add_one]; exact List.mem_append_left _ hd)
        · rw [List.take_add_one, hj] at hd
          rcases List.mem_append.mp hd with hd | hd
          · rw [upd_ne (apart d hd).symm]
            exact t2 d hd
          · have : d = c := by simpa using hd
            subst this
            exact upd_same
      · rintro σ H2 ⟨⟨y, rfl⟩, t1, t2⟩
        have hl : ((ts.map (·.nm)).map V.str).length = ts.length := by rw [List.length_map, List.length_map]
        rw [hl, List.take_length] at t1 t2
        have k2 : ∀ b o, H1 b = some o → (∀ xs, o ≠ .lst xs) → H2 b = some o := fun b o q nn => t1 b o q fun d hd => ne_of q (W1.lst d hd) (nn _)
        obtain ⟨⟨dx, h1⟩, h2, h3⟩ := W1.tab
        have hr2 := t1 _ _ h2 fun d hd => (W.apr d hd).symm
        obtain ⟨y0, hy0⟩ : ∃ y0, xs[i.toNat]? = some y0 := ⟨xs[i.toNat]'(by omega), by simp⟩
        refine ⟨_, rfl, p, C, dx, _, _, rfl, k2 _ _ h1 (by intro _ z; cases z), Y.cl, Y.n_row_numbers, flds_rows _ _ _, .inl ⟨rfl, _, SqL.of hr2⟩, _, rfl, r, xs, i, i.toNat, y0, rfl, rfl, hr2, by omega, by omega, seqIndex_of i0 i1, hy0, ?_⟩
        refine q _ (fun b o qb nr nb => ?_) (fun d hd => ?_) upd_same
        · rw [upd_ne nr]
          exact t1 b o (c1 _ _ qb) nb
        · rw [upd_ne (W.apr d hd)]
          exact t2 d hd
    · exact absurd z (by show ¬ (decide (0 ≤ i) && decide (i < (xs.length : Int))) = false; rw [decide_eq_true i0, decide_eq_true i1]; decide)
/-- stand: a row is put at a place -/
def spStand (C : Addr) : Sp := fun vs H Q _ => ∃ p r e xs n ts i num a kvs, ∃ f : TCol → V, vs = [.ref p, .int i, .int num, .ref a] ∧ Tbl C H p r e xs n ts ∧ 0 ≤ i ∧ i ≤ xs.length ∧ xs.length < 1000 ∧ H a = some (.dK kvs) ∧ (∀ c ∈ ts, valV kvs (.inr c.nm : Key) = some (f c)) ∧
  ∀ H', (∀ b o, H b = some o → b ≠ r → (∀ c ∈ ts, b ≠ c.l) → H' b = some o) → (∀ c ∈ ts, H' c.l = some (.lst (insV c.ys i.toNat (f c)))) → H' r = some (.lst (insV xs i.toNat (.int num))) → Q .non H'
theorem sc_Table_stand : FnScope ["self", "place", "number", "values", "column"] ["self", "place", "number", "values"] (defScope s_Table_stand) := ⟨rfl, rfl, rfl, by decide +kernel, rfl, by decide +kernel, by decide +kernel⟩
theorem k_Table_stand (T : Tops K mg) {C : Addr} (Y : TTable K mg C) : KnownM P w K mg base CX0 2 C "stand" ["self", "place", "number", "values"] (spStand C) := by
  have G_columns : KnownM P w K mg base CX0 1 C "columns" ["self"] (spColumns C) := k_Table_columns T Y
  refine Y.m_stand.known sc_Table_stand (fun _ _ _ _ _ _ us hl => match us, hl with | [_, _, _, _], _ => rfl) (fun vs H Q E h => ?_) (fun f cdv A outer s H vs Q E hr h => ?_)
  · obtain ⟨p, r, e, xs, n, ts, i, num, a, kvs, g, rfl, _⟩ := h
    rfl
  · obtain ⟨p, r, e, xs, n, ts, i, num, a, kvs, g, rfl, W, i0, i1, x1, ha, hg, q⟩ := h
    refine ⟨_, (pss_cons (ps_for PassesOwn.never rfl (pi_list (pe_methN0 (pv 0) Y.cl G_columns (hr.mono (by decide)) pass0)) (pg_name (i := 4) sc_Table_stand.nd rfl (Or.inl rfl)) (pss_one (ps_expr (pe_bm PySem.F.plainAttrs_list PySem.F.slot_list_insert PySem.F.type_list_insert mt_insert (pe_dget (hu_of hr) (pe_fld (pv 0) rfl) (pv 4) (fun _ _ => rfl)) (pa_cons (pv 1) (pa_cons (pe_dget (hu_of hr) (pv 3) (pv 4) (fun _ _ => rfl)) pa_nil))))))
      (pss_one (ps_expr (pe_bm PySem.F.plainAttrs_list PySem.F.slot_list_insert PySem.F.type_list_insert mt_insert (pe_fld (pv 0) rfl) (pa_cons (pv 1) (pa_cons (pv 2) pa_nil)))))), ?_⟩
    obtain ⟨⟨dx, g1⟩, g2, g3⟩ := W.tab
    refine ⟨_, rfl, p, dx, _, rfl, g1, flds_no, p, r, e, xs, n, _, rfl, W.tab, fun lc hlc => ?_⟩
    rw [tk_keys]
    have c1 : Same H (upd H lc (.lst ((ts.map (·.nm)).map V.str))) := Same.new hlc
    have hc1 : upd H lc (.lst ((ts.map (·.nm)).map V.str)) lc = some (.lst ((ts.map (·.nm)).map V.str)) := upd_same
    generalize upd H lc (.lst ((ts.map (·.nm)).map V.str)) = H1 at c1 hc1 ⊢
    have W1 := W.same c1
    have lne : ∀ c ∈ ts, lc ≠ c.l := fun c hc => (ne_of_none (W.lst c hc) hlc).symm
    refine ⟨lc, rfl, ⟨_, SqL.of hc1⟩, ?_⟩
    refine for_list (K := K) (a := lc) (xs := (ts.map (·.nm)).map V.str) (fun j σ H2 => (∃ y, σ = [some (.ref p), some (.int i), some (.int num), some (.ref a), y]) ∧ Turned H1 H2 (ts.take j) fun c => insV c.ys i.toNat (g c)) ⟨⟨_, rfl⟩, fun b o q _ => q, fun c hc => by simp at hc⟩ (fun j σ H2 _ ⟨_, t⟩ => SqL.of (t.1 _ _ hc1 fun c hc => lne c (List.mem_of_mem_take hc))) ?_ ?_
    · rintro j v σ H2 hv ⟨⟨y, rfl⟩, t1, t2⟩
      obtain ⟨c, hj, rfl⟩ : ∃ c, ts[j]? = some c ∧ v = .str c.nm := by
        rw [List.getElem?_map, List.getElem?_map] at hv
        cases z : ts[j]? with
        | none => rw [z] at hv; cases hv
        | some c => rw [z] at hv; cases hv; exact ⟨c, rfl, rfl⟩
      have hc := List.mem_of_getElem? hj
      have apart : ∀ d ∈ ts.take j, c.l ≠ d.l := fun d hd => by
        obtain ⟨k, hk⟩ := List.getElem?_of_mem hd
        rw [List.getElem?_take] at hk
        split at hk
        · exact nod_l W.apt hj hk (by omega)
        · cases hk
      have k2 : ∀ b o, H1 b = some o → (∀ xs, o ≠ .lst xs) → H2 b = some o := fun b o q nn => t1 b o q fun d hd => ne_of q (W1.lst d (List.mem_of_mem_take hd)) (nn _)
      have hcl : H2 c.l = some (.lst c.ys) := t1 _ _ (W1.lst c hc) apart
      obtain ⟨⟨dx, h1⟩, h2, h3⟩ := W1.tab
      have hlen := W.len c hc
      refine ⟨_, rfl, p, C, dx, _, _, rfl, k2 _ _ h1 (by intro _ z; cases z), Y.cl, Y.n_kept, flds_kept _ _ _, _, rfl, e, .ref c.l, rfl, tk_val W.nod hc ▸ DGet.k (k := Sum.inr c.nm) (k2 _ _ h3 (by intro _ z; cases z)), .inl ⟨rfl, _, SqL.of hcl⟩, _, rfl, _, rfl, _, rfl, a, g c, rfl, hg c hc ▸ DGet.k (k := Sum.inr c.nm) (k2 _ _ (c1 _ _ ha) (by intro _ z; cases z)), c.l, c.ys, i, g c, rfl, rfl, hcl, i0, by omega, small1000 (by omega), ?_⟩
      refine ⟨⟨_, rfl⟩, fun b o q nb => ?_, fun d hd => ?_⟩
      · rw [upd_ne (nb c (by rw [List.take_add_one, hj]; simp))]
        exact t1 b o q fun d hd => nb d (by rw [List.take_add_one]; exact List.mem_append_left _ hd)
      · rw [List.take_add_one, hj] at hd
        rcases List.mem_append.mp hd with hd | hd
        · rw [upd_ne (apart d hd).symm]
          exact t2 d hd
        · have : d = c := by simpa using hd
          subst this
          exact upd_same
    · rintro σ H2 ⟨⟨y, rfl⟩, t1, t2⟩
      have hl : ((ts.map (·.nm)).map V.str).length = ts.length := by rw [List.length_map, List.length_map]
      rw [hl, List.take_length] at t1 t2
      have k2 : ∀ b o, H1 b = some o → (∀ xs, o ≠ .lst xs) → H2 b = some o := fun b o q nn => t1 b o q fun d hd => ne_of q (W1.lst d hd) (nn _)
      obtain ⟨⟨dx, h1⟩, h2, h3⟩ := W1.tab
      have hr2 := t1 _ _ h2 fun d hd => (W.apr d hd).symm
      refine ⟨_, rfl, p, C, dx, _, _, rfl, k2 _ _ h1 (by intro _ z; cases z), Y.cl, Y.n_row_numbers, flds_rows _ _ _, .inl ⟨rfl, _, SqL.of hr2⟩, _, rfl, _, rfl, r, xs, i, .int num, rfl, rfl, hr2, i0, i1, small1000 (by omega), ?_⟩
      refine q _ (fun b o qb nr nb => ?_) (fun d hd => ?_) upd_same
      · rw [upd_ne nr]
        exact t1 b o (c1 _ _ qb) nb
      · rw [upd_ne (W.apr d hd)]
        exact t2 d hd
/-- check_row of a row that is as it should be -/
def spRow (K : PySem.W.Frag) : Sp := fun vs H Q _ => ∃ (a lc : Addr) (kvs : List (Key × V)) (names : List Str), vs = [.ref a, .ref lc] ∧ H a = some (.dK kvs) ∧ H lc = some (.lst (names.map V.str)) ∧ kvs.length = names.length ∧
  (∀ q ∈ kvs, ∃ t d, q.1 = .inr t ∧ t ∈ names ∧ nameS t = true ∧ t.length ≤ 8 ∧ Vd H q.2 d) ∧ ∀ H', Same H H' → Q .non H'
theorem sc_check_row : FnScope ["values", "columns", "column", "value"] ["values", "columns"] (defScope s_check_row) := ⟨rfl, rfl, rfl, by decide +kernel, rfl, by decide +kernel, by decide +kernel⟩
theorem flat_strs : ∀ zs : List Str, (zs.map V.str).all flatV = true
  | [] => rfl
  | z :: r => by rw [List.map_cons, List.all_cons, flat_strs r]; rfl
theorem inV_strs {t : Str} : ∀ {zs : List Str}, t ∈ zs → inV (.str t) (zs.map V.str) = true
  | z :: r, h => by
    unfold inV
    rw [List.map_cons, List.any_cons]
    rcases List.mem_cons.mp h with rfl | h
    · have : eqV (.str t) (.str t) = true := by show (t == t) = true; exact beq_self_eq_true t
      rw [this, Bool.true_or]
    · have := inV_strs h
      unfold inV at this
      rw [this, Bool.or_true]
theorem k_check_row (T : Tops K mg) {c : Ad} (X : Excs K mg c) : Known P w K mg base CX0 5 "check_row" ["values", "columns"] (spRow K) := by
  have G_is_name : Known P w K mg base CX0 1 "is_name" ["thing"] (spName K) := k_is_name T
  have G_check_value : Known P w K mg base (CXE P w) 4 "check_value" ["value"] (spCValue K c) := k_check_value T X
  refine T.d_check_row.known sc_check_row (fun _ _ _ _ _ _ us hl => match us, hl with | [_, _], _ => rfl) (fun vs H Q E h => ?_) (fun f cdv A outer s H vs Q E hr h => ?_)
  · obtain ⟨a, lc, kvs, names, rfl, _⟩ := h
    rfl
  · obtain ⟨a, lc, kvs, names, rfl, ha, hlc, hlen, hall, q⟩ := h
    refine ⟨_, (pss_cons (ps_if (PW.pt (pw_or (pt_not (pt_val (pe_callB call_isT rfl T.isinstance b_isinstance (pa_cons (pv 0) (pa_cons (pe_ty T.dict b_dict) pa_nil))) (fun _ => rfl))) (pw_or1 (pt_cmpR op_ne (pe_callB call_lenD rfl T.len b_len (pa_cons (pv 0) pa_nil)) (pe_callB call_len rfl T.len b_len (pa_cons (pv 1) pa_nil)) (nomark _))))) (pss_one ps_dead) pss_nil)
      (pss_one (ps_forI PassesOwn.never rfl (pv 0) (pg_tup rfl (pgs_cons (pg_name (i := 2) sc_check_row.nd rfl (Or.inl rfl)) (pgs_cons (pg_name (i := 3) sc_check_row.nd rfl (Or.inl rfl)) pgs_nil))) (pss_cons (ps_if (PW.pt (pw_or (pt_not (pt_val (pe_callN G_is_name (hr.mono (by decide)) pass0 (pa_cons (pv 2) pa_nil)) (fun _ => rfl))) (pw_or1 (pt_cmpR op_notIn_seq (pv 2) (pv 1) (by with_unfolding_all rfl))))) (pss_one ps_dead) pss_nil)
      (pss_one (ps_expr (pe_callN G_check_value (hr.mono (by decide)) passN (pa_cons (pv 3) pa_nil)))))))), ?_⟩
    refine ⟨_, rfl, _, "dict", _, _, rfl, Dt.dK ha, kit_dict K _, _, rfl, iteF ?_⟩
    refine ⟨_, rfl, a, kvs, rfl, ha, _, rfl, _, _, rfl, .inl ⟨_, SqL.of hlc, rfl⟩, ?_⟩
    rw [List.length_map, hlen]
    refine ⟨rfl, _, rfl, iteNS rfl ?_⟩
    refine ⟨_, rfl, a, kvs, rfl, ha, fun nf ob => ?_⟩
    have tup0 : ∀ b xs, H b = some (.tup xs) → upd H a (.frz ob (.dK kvs)) b = some (.tup xs) := fun b xs qb => by rw [upd_ne (ne_of qb ha (by intro z; cases z))]; exact qb
    have hlc' : upd H a (.frz ob (.dK kvs)) lc = some (.lst (names.map V.str)) := by rw [upd_ne (ne_of hlc ha (by intro z; cases z))]; exact hlc
    refine for_items (a := a) (ob := ob) (kvs := kvs) (fun i σ H2 => (∃ y z, σ = [some (.ref a), some (.ref lc), y, z]) ∧ Same (upd H a (.frz ob (.dK kvs))) H2) ⟨⟨_, _, rfl⟩, Same.refl _⟩ (fun i σ H2 _ ⟨_, s2⟩ => s2 _ _ upd_same) ?_ ?_
    · rintro i qv σ H2 pp hq ⟨⟨y, z, rfl⟩, s2⟩ hpp
      obtain ⟨t, d, e1, htn, hn1, hn2, vd⟩ := hall qv (List.mem_of_getElem? hq)
      have c3 : Same H2 (upd H2 pp (.tup [kV qv.1, qv.2])) := Same.new hpp
      have s3 := s2.trans c3
      rw [e1]
      refine ⟨pp, _, rfl, SqT.of upd_same, rfl, _, _, rfl, _, _, rfl, rfl, ?_⟩
      rw [e1] at c3 s3
      have vd3 : Vd (upd H2 pp (.tup [kV (.inr t : Key), qv.2])) qv.2 d := vd.keep fun b xs qb => s3 _ _ (tup0 b xs qb)
      refine ⟨_, rfl, .str t, .str t, rfl, .str t, shortS_str (by omega), fun H4 s4 => ⟨_, rfl, ?_⟩⟩
      rw [show nameD (.str t) = nameS t from rfl, hn1]
      refine iteF ?_
      refine ⟨_, rfl, _, rfl, lc, _, rfl, .inl (SqL.of ((s3.trans s4) _ _ hlc')), rfl, flat_strs names, _, rfl, ?_⟩
      refine ite2 (fun zz => ?_) (fun _ => ?_)
      · have zz' : (!inV (.str t) (names.map V.str)) = true := zz
        rw [inV_strs htn] at zz'
        cases zz'
      have vd4 := vd3.keep (.same s4)
      refine ⟨_, rfl, qv.2, d, rfl, vd4.dt, vd4.1.2.2.2.2, (fun _ H5 s5 => ⟨⟨_, _, rfl⟩, s3.trans (s4.trans s5)⟩), fun z => ?_⟩
      rw [vd4.1.1] at z
      cases z
    · rintro σ H2 ⟨⟨y, z, rfl⟩, s2⟩
      exact ⟨a, ob, kvs, nf, s2 _ _ upd_same, q _ (Same.thaw ha s2)⟩
/-- put_in, where nothing is refused -/
def spPutIn (K : PySem.W.Frag) (C : Addr) : Sp := fun vs H Q _ => ∃ p r e xs n ts i a kvs, ∃ f : TCol → V, vs = [.ref p, .int i, .ref a] ∧ Tbl C H p r e xs n ts ∧ 0 ≤ i ∧ i ≤ xs.length ∧ xs.length < 30 ∧ H a = some (.dK kvs) ∧ kvs.length = ts.length ∧
  (∀ q ∈ kvs, ∃ t d, q.1 = .inr t ∧ t ∈ ts.map (·.nm) ∧ Vd H q.2 d) ∧ (∀ c ∈ ts, valV kvs (.inr c.nm : Key) = some (f c)) ∧
  ∀ H', (∀ b o, H b = some o → b ≠ p → b ≠ r → (∀ c ∈ ts, b ≠ c.l) → H' b = some o) → (∀ c ∈ ts, H' c.l = some (.lst (insV c.ys i.toNat (f c)))) → TabAt C H' p r e (insV xs i.toNat (.int n)) (n + 1) (tk ts) → Q .non H'
theorem sc_Table_put_in : FnScope ["self", "place", "values"] ["self", "place", "values"] (defScope s_Table_put_in) := ⟨rfl, rfl, rfl, by decide +kernel, rfl, by decide +kernel, by decide +kernel⟩
theorem k_Table_put_in (T : Tops K mg) {c : Ad} (X : Excs K mg c) {C : Addr} (Y : TTable K mg C) : KnownM P w K mg base CX0 6 C "put_in" ["self", "place", "values"] (spPutIn K C) := by
  have G_check_place : Known P w K mg base (CXE P w) 2 "check_place" ["place", "places"] (spPlace K c) := k_check_place T X
  have G_check_row : Known P w K mg base CX0 5 "check_row" ["values", "columns"] (spRow K) := k_check_row T X
  have G_many : KnownM P w K mg base CX0 1 C "many" ["self"] (spMany C) := k_Table_many T Y
  have G_columns : KnownM P w K mg base CX0 1 C "columns" ["self"] (spColumns C) := k_Table_columns T Y
  have G_stand : KnownM P w K mg base CX0 2 C "stand" ["self", "place", "number", "values"] (spStand C) := k_Table_stand T Y
  refine Y.m_put_in.known sc_Table_put_in (fun _ _ _ _ _ _ us hl => match us, hl with | [_, _, _], _ => rfl) (fun vs H Q E h => ?_) (fun f cdv A outer s H vs Q E hr h => ?_)
  · obtain ⟨p, r, e, xs, n, ts, i, a, kvs, g, rfl, _⟩ := h
    rfl
  · obtain ⟨p, r, e, xs, n, ts, i, a, kvs, g, rfl, W, i0, i1, x1, ha, hlen, hall, hg, q⟩ := h
    refine ⟨_, (pss_cons (ps_expr (pe_callN G_check_place (hr.mono (by decide)) passN (pa_cons (pv 1) (pa_cons (pe_op op_add (pe_methN0 (pv 0) Y.cl G_many (hr.mono (by decide)) pass0) pe_int) pa_nil))))
      (pss_cons (ps_if (pt_cmpR op_ge (pe_methN0 (pv 0) Y.cl G_many (hr.mono (by decide)) pass0) (pe_gI T.g_MOST_ROWS) (nomark _)) (pss_one ps_dead) pss_nil)
      (pss_cons (ps_expr (pe_callN G_check_row (hr.mono (by decide)) pass0 (pa_cons (pv 2) (pa_cons (pe_methN0 (pv 0) Y.cl G_columns (hr.mono (by decide)) pass0) pa_nil))))
      (pss_cons (ps_expr (pe_methN (pv 0) Y.cl G_stand (hr.mono (by decide)) pass0 (pa_cons (pv 1) (pa_cons (pe_fld (pv 0) rfl) (pa_cons (pv 2) pa_nil)))))
      (pss_one (ps_fld (pv 0) (pe_op op_add (pe_fld (pv 0) rfl) pe_int) rfl)))))), ?_⟩
    obtain ⟨⟨dx, g1⟩, g2, g3⟩ := W.tab
    refine ⟨_, rfl, _, rfl, p, dx, _, rfl, g1, flds_no, p, r, e, xs, n, _, rfl, W.tab, _, _, rfl, rfl, .int i, .int i, _, rfl, .int i, (fun _ => ?_), fun z => ?_⟩
    · refine ⟨_, rfl, p, dx, _, rfl, g1, flds_no, p, r, e, xs, n, _, rfl, W.tab, _, _, rfl, rfl, _, rfl, ?_⟩
      refine ite2 (fun z => absurd z (by simp; omega)) fun _ => ?_
      refine ⟨_, rfl, _, rfl, p, dx, _, rfl, g1, flds_no, p, r, e, xs, n, _, rfl, W.tab, fun lc hlc => ?_⟩
      rw [tk_keys]
      have c1 : Same H (upd H lc (.lst ((ts.map (·.nm)).map V.str))) := Same.new hlc
      refine ⟨a, lc, kvs, ts.map (·.nm), rfl, c1 _ _ ha, upd_same, by rw [List.length_map]; exact hlen, (fun qv hq => ?_), fun H2 s2 => ?_⟩
      · obtain ⟨t, d, e1, ht, vd⟩ := hall qv hq
        obtain ⟨c, hc, rfl⟩ := List.mem_map.mp ht
        exact ⟨c.nm, d, e1, ht, (W.nms c hc).1, (W.nms c hc).2, vd.keep (.same c1)⟩
      have s12 := c1.trans s2
      have W2 := W.same s12
      refine ⟨_, rfl, p, dx, _, rfl, s12 _ _ g1, flds_no, _, rfl, _, rfl, p, C, dx, _, _, rfl, s12 _ _ g1, Y.cl, Y.n_fresh_number, flds_fresh _ _ _, _, rfl, ?_⟩
      refine ⟨p, r, e, xs, n, ts, i, n, a, kvs, g, rfl, W2, i0, i1, by omega, s12 _ _ ha, hg, fun H3 k3 l3 r3 => ?_⟩
      have nl : ∀ b o, H2 b = some o → (∀ xs, o ≠ .lst xs) → H3 b = some o := fun b o qb nn => k3 b o qb (ne_of qb W2.tab.rows (nn _)) fun d hd => ne_of qb (W2.lst d hd) (nn _)
      have g13 := nl _ _ (s12 _ _ g1) (by intro _ z; cases z)
      refine ⟨_, rfl, p, C, dx, _, _, rfl, g13, Y.cl, Y.n_fresh_number, flds_fresh _ _ _, _, _, rfl, rfl, _, rfl, p, C, dx, _, rfl, g13, Y.cl, Y.n_fresh_number, (by show 3 < 1000; decide), ?_⟩
      rw [flds_put]
      have npr : p ≠ r := ne_of (s12 _ _ g1) W2.tab.rows (by intro z; cases z)
      have npe : p ≠ e := ne_of (s12 _ _ g1) W2.tab.kept (by intro z; cases z)
      refine q _ (fun b o qb np nr nb => ?_) (fun d hd => ?_) ⟨⟨dx, upd_same⟩, ?_, ?_⟩
      · rw [upd_ne np]
        exact k3 b o (s12 _ _ qb) nr nb
      · rw [upd_ne (ne_of (s12 _ _ g1) (W2.lst d hd) (by intro z; cases z)).symm]
        exact l3 d hd
      · rw [upd_ne npr.symm]
        exact r3
      · rw [upd_ne npe.symm]
        exact nl _ _ (s12 _ _ W.tab.kept) (by intro _ z; cases z)
    · exact absurd z (by show ¬ (decide (0 ≤ i) && decide (i < (xs.length : Int) + 1)) = false; rw [decide_eq_true i0, decide_eq_true (by omega)]; decide)
end
end My

namespace My
open PySem L2
mutual
def noDict : PyData → Bool
  | .list ds => noDictAll ds
  | .tuple ds => noDictAll ds
  | .dict _ => false
  | _ => true
def noDictAll : List PyData → Bool
  | [] => true
  | d :: ds => noDict d && noDictAll ds
end
theorem rd_upd {H : Hp} {a b : Addr} {u o v : HO} (e : H a = some u) (h : Rd H b o) (h1 : u ≠ o) (h2 : ∀ ob, u ≠ .frz ob o) : Rd (upd H a v) b o := by
  rcases h with h | ⟨ob, h⟩
  · exact .inl (by rw [upd_ne (ne_of h e h1.symm)]; exact h)
  · exact .inr ⟨ob, by rw [upd_ne (ne_of h e (h2 ob).symm)]; exact h⟩
mutual
theorem Dt.over {K : PySem.W.Frag} {H : Hp} {a : Addr} {kvs : List (Key × V)} {v : HO} (e : H a = some (.dK kvs)) : ∀ {x : V} {d : PyData}, Dt K H x d → noDict d = true → Dt K (upd H a v) x d
  | _, _, .non, _ => .non
  | _, _, .bl b, _ => .bl b
  | _, _, .int i, _ => .int i
  | _, _, .str x, _ => .str x
  | _, _, .lst h hd, n => .lst (h.imp (fun h => rd_upd e h (fun z => by cases z) (fun _ z => by cases z)) id) (DtAll.over e hd n)
  | _, _, .tup h hd, n => .tup (h.imp (fun h => rd_upd e h (fun z => by cases z) (fun _ z => by cases z)) id) (DtAll.over e hd n)
  | _, _, .dK _, n => by cases n
  | _, _, .dT _, n => by cases n
theorem DtAll.over {K : PySem.W.Frag} {H : Hp} {a : Addr} {kvs : List (Key × V)} {v : HO} (e : H a = some (.dK kvs)) : ∀ {xs : List V} {ds : List PyData}, DtAll K H xs ds → noDictAll ds = true → DtAll K (upd H a v) xs ds
  | _, _, .nil, _ => .nil
  | _, _, .cons r t, n => by
    rw [noDictAll, Bool.and_eq_true] at n
    exact .cons (Dt.over e r n.1) (DtAll.over e t n.2)
end
/-- a pair of a row that is as it should be, and one that isn't -/
def GoodQ (K : PySem.W.Frag) (H : Hp) (names : List Str) (q : Key × V) : Prop := ∃ t d, q.1 = .inr t ∧ t ∈ names ∧ nameS t = true ∧ t.length ≤ 8 ∧ Dt K H q.2 d ∧ noDict d = true ∧ shortD d ∧ valueD d = true
def BadQ (K : PySem.W.Frag) (H : Hp) (names : List Str) (q : Key × V) : Prop := ∃ t, q.1 = .inr t ∧ nameS t = true ∧ t.length ≤ 8 ∧ (t ∉ names ∨ (t ∈ names ∧ ∃ d, Dt K H q.2 d ∧ noDict d = true ∧ shortD d ∧ valueD d = false))
def RowNo (K : PySem.W.Frag) (H : Hp) (x : V) (dx : PyData) (names : List Str) : Prop := kdD dx ≠ .dct ∨ ∃ a kvs, kdD dx = .dct ∧ x = .ref a ∧ H a = some (.dK kvs) ∧ (kvs.length ≠ names.length ∨ (kvs.length = names.length ∧ ∃ i0 q0, kvs[i0]? = some q0 ∧ (∀ q ∈ kvs.take i0, GoodQ K H names q) ∧ BadQ K H names q0))
theorem inV_not {t : Str} : ∀ {zs : List Str}, t ∉ zs → inV (.str t) (zs.map V.str) = false
  | [], _ => rfl
  | z :: r, h => by
    unfold inV
    rw [List.map_cons, List.any_cons]
    have h1 : eqV (.str z) (.str t) = false := by
      show (z == t) = false
      exact beq_eq_false_iff_ne.mpr fun e => h (by rw [e]; exact List.mem_cons_self)
    have h2 := inV_not (t := t) (zs := r) fun m => h (List.mem_cons_of_mem _ m)
    unfold inV at h2
    rw [h1, h2]
    rfl
theorem GoodQ.same {K : PySem.W.Frag} {H H' : Hp} {names : List Str} {q : Key × V} (s : Same H H') (h : GoodQ K H names q) : GoodQ K H' names q :=
  let ⟨t, d, h1, h2, h3, h4, h5, h6⟩ := h; ⟨t, d, h1, h2, h3, h4, h5.same s, h6⟩
theorem BadQ.same {K : PySem.W.Frag} {H H' : Hp} {names : List Str} {q : Key × V} (s : Same H H') (h : BadQ K H names q) : BadQ K H' names q :=
  let ⟨t, h1, h2, h3, h4⟩ := h; ⟨t, h1, h2, h3, h4.imp id fun ⟨h5, d, h6, h7⟩ => ⟨h5, d, h6.same s, h7⟩⟩
theorem RowNo.same {K : PySem.W.Frag} {H H' : Hp} {x : V} {dx : PyData} {names : List Str} (s : Same H H') (h : RowNo K H x dx names) : RowNo K H' x dx names :=
  h.imp id fun ⟨a, kvs, e, h1, h2, h3⟩ => ⟨a, kvs, e, h1, s _ _ h2, h3.imp id fun ⟨h4, i0, q0, h5, h6, h7⟩ => ⟨h4, i0, q0, h5, fun q hq => (h6 q hq).same s, h7.same s⟩⟩
section
variable {P : Program} {w : World} {K : PySem.W.Frag} {mg : Str → Option Value} {base : Heap}
def spRowE (K : PySem.W.Frag) (c : Ad) : Sp := fun vs H _ E => ∃ (x : V) (dx : PyData) (lc : Addr) (names : List Str), vs = [x, .ref lc] ∧ Dt K H x dx ∧ H lc = some (.lst (names.map V.str)) ∧ RowNo K H x dx names ∧ ∀ H', Same H H' → E (.ref c.NoValue) none H'
theorem k_check_row_e (T : Tops K mg) {c : Ad} (X : Excs K mg c) : Known P w K mg base (CXE P w) 5 "check_row" ["values", "columns"] (spRowE K c) := by
  have G_is_name : Known P w K mg base CX0 1 "is_name" ["thing"] (spName K) := k_is_name T
  have G_check_value : Known P w K mg base (CXE P w) 4 "check_value" ["value"] (spCValue K c) := k_check_value T X
  refine T.d_check_row.knownE sc_check_row (fun _ _ _ _ _ _ us hl => match us, hl with | [_, _], _ => rfl) (fun vs H Q E h => ?_) (fun f cdv A outer s H vs Q E hr h => ?_)
  · obtain ⟨x, dx, lc, names, rfl, _⟩ := h
    rfl
  · obtain ⟨x, dx, lc, names, rfl, hd, hlc, hno, q⟩ := h
    refine ⟨_, (pss_cons (ps_if (PW.pt (pw_or (pt_not (pt_val (pe_callB call_isT rfl T.isinstance b_isinstance (pa_cons (pv 0) (pa_cons (pe_ty T.dict b_dict) pa_nil))) (fun _ => rfl))) (pw_or1 (pt_cmpR op_ne (pe_callB call_lenD rfl T.len b_len (pa_cons (pv 0) pa_nil)) (pe_callB call_len rfl T.len b_len (pa_cons (pv 1) pa_nil)) (nomark _))))) (pss_one (ps_raise X.c_NoValue X.x_NoValue (pa_cons pe_str pa_nil))) pss_nil)
      (pss_one (ps_forI po_body rfl (pv 0) (pg_tup rfl (pgs_cons (pg_name (i := 2) sc_check_row.nd rfl (Or.inl rfl)) (pgs_cons (pg_name (i := 3) sc_check_row.nd rfl (Or.inl rfl)) pgs_nil))) (pss_cons (ps_if (PW.pt (pw_or (pt_not (pt_val (pe_callN G_is_name (hr.mono (by decide)) pass0 (pa_cons (pv 2) pa_nil)) (fun _ => rfl))) (pw_or1 (pt_cmpR op_notIn_seq (pv 2) (pv 1) (by with_unfolding_all rfl))))) (pss_one (ps_thaw (ps_raise X.c_NoValue X.x_NoValue (pa_cons pe_str pa_nil)))) pss_nil)
      (pss_one (ps_either (ps_expr (pe_callN G_check_value (hr.mono (by decide)) passE (pa_cons (pv 3) pa_nil))) (ps_thaw (ps_expr (pe_callN G_check_value (hr.mono (by decide)) passE (pa_cons (pv 3) pa_nil)))))))))), ?_⟩
    refine ⟨_, rfl, _, "dict", dx, _, rfl, hd, kit_dict K _, _, rfl, ?_⟩
    rcases hno with hk | ⟨a, kvs, ek, rfl, ha, hno⟩
    · rw [decide_eq_false hk]
      exact iteT (iteT ⟨sl, q H (Same.refl _)⟩)
    rw [ek]
    refine iteF ?_
    refine ⟨_, rfl, a, kvs, rfl, ha, _, rfl, _, _, rfl, .inl ⟨_, SqL.of hlc, rfl⟩, ?_⟩
    rw [List.length_map]
    refine ⟨rfl, _, rfl, ?_⟩
    rcases hno with hne | ⟨hlen, i0, q0, hq0, hgood, hbad⟩
    · refine ite2 (fun _ => ⟨sl, q H (Same.refl _)⟩) (fun z => ?_)
      exfalso
      have z' : ¬ (!decide (V.int (kvs.length : Int) = V.int (names.length : Int))) = true := z
      rw [decide_eq_false (fun y => hne (by have := V.int.inj y; omega))] at z'
      exact z' rfl
    rw [hlen]
    refine iteNS rfl ?_
    refine ⟨_, rfl, a, kvs, rfl, ha, fun nf ob => ?_⟩
    have hlc' : upd H a (.frz ob (.dK kvs)) lc = some (.lst (names.map V.str)) := by rw [upd_ne (ne_of hlc ha (by intro z; cases z))]; exact hlc
    have hi0 : i0 < kvs.length := (List.getElem?_eq_some_iff.mp hq0).1
    refine for_items (a := a) (ob := ob) (kvs := kvs) (fun i σ H2 => i ≤ i0 ∧ (∃ y z, σ = [some (.ref a), some (.ref lc), y, z]) ∧ Same (upd H a (.frz ob (.dK kvs))) H2) ⟨Nat.zero_le _, ⟨_, _, rfl⟩, Same.refl _⟩ (fun i σ H2 _ ⟨_, _, s2⟩ => s2 _ _ upd_same) ?_ ?_
    · rintro i qv σ H2 pp hq ⟨hi, ⟨y, z, rfl⟩, s2⟩ hpp
      have c3 : Same H2 (upd H2 pp (.tup [kV qv.1, qv.2])) := Same.new hpp
      have s3 := s2.trans c3
      rcases Nat.lt_or_ge i i0 with hlt | hge
      · obtain ⟨t, d, e1, htn, hn1, hn2, hdt, hnd, hsh, hval⟩ := hgood qv (List.mem_iff_getElem?.mpr ⟨i, by rw [List.getElem?_take, if_pos hlt]; exact hq⟩)
        rw [e1]
        refine ⟨pp, _, rfl, SqT.of upd_same, rfl, _, _, rfl, _, _, rfl, rfl, ?_⟩
        rw [e1] at c3 s3
        have dt3 := (Dt.over (v := .frz ob (.dK kvs)) ha hdt hnd).same s3
        refine ⟨_, rfl, .str t, .str t, rfl, .str t, shortS_str (by omega), fun H4 s4 => ⟨_, rfl, ?_⟩⟩
        rw [show nameD (.str t) = nameS t from rfl, hn1]
        refine iteF ?_
        refine ⟨_, rfl, _, rfl, lc, _, rfl, .inl (SqL.of ((s3.trans s4) _ _ hlc')), rfl, flat_strs names, _, rfl, ?_⟩
        refine ite2 (fun zz => ?_) (fun _ => ?_)
        · have zz' : (!inV (.str t) (names.map V.str)) = true := zz
          rw [inV_strs htn] at zz'
          cases zz'
        refine .inl ⟨_, rfl, qv.2, d, rfl, dt3.same s4, hsh, (fun _ H5 s5 => ⟨by omega, ⟨_, _, rfl⟩, s3.trans (s4.trans s5)⟩), fun z => ?_⟩
        rw [hval] at z
        cases z
      · have ei : i = i0 := by omega
        subst ei
        rw [hq0] at hq
        cases hq
        obtain ⟨t, e1, hn1, hn2, hb⟩ := hbad
        rw [e1]
        refine ⟨pp, _, rfl, SqT.of upd_same, rfl, _, _, rfl, _, _, rfl, rfl, ?_⟩
        rw [e1] at c3 s3
        refine ⟨_, rfl, .str t, .str t, rfl, .str t, shortS_str (by omega), fun H4 s4 => ⟨_, rfl, ?_⟩⟩
        rw [show nameD (.str t) = nameS t from rfl, hn1]
        refine iteF ?_
        have s34 := s3.trans s4
        have hf4 := s34 _ _ (upd_same (H := H) (a := a) (o := .frz ob (.dK kvs)))
        refine ⟨_, rfl, _, rfl, lc, _, rfl, .inl (SqL.of (s34 _ _ hlc')), rfl, flat_strs names, _, rfl, ?_⟩
        rcases hb with hb | ⟨hb, d, hdt, hnd, hsh, hval⟩
        · refine ite2 (fun _ => ⟨a, ob, kvs, nf, hf4, sl, q _ (Same.thaw ha s34)⟩) (fun zz => ?_)
          have zz' : ¬ (!inV (.str t) (names.map V.str)) = true := zz
          rw [inV_not hb] at zz'
          exact absurd rfl zz'
        · refine ite2 (fun zz => ?_) (fun _ => ?_)
          · have zz' : (!inV (.str t) (names.map V.str)) = true := zz
            rw [inV_strs hb] at zz'
            cases zz'
          refine .inr ⟨a, ob, kvs, nf, hf4, ?_⟩
          have st := Same.thaw ha s34
          refine ⟨_, rfl, q0.2, d, rfl, hdt.same st, hsh, (fun z => by rw [hval] at z; cases z), fun _ H5 s5 => q H5 (st.trans s5)⟩
    · rintro σ H2 ⟨hi, _⟩
      omega
def spPutE (K : PySem.W.Frag) (C : Addr) (c : Ad) : Sp := fun vs H _ E => ∃ (p r e : Addr) (xs : List V) (n : Int) (kl : List (Key × V)) (y : V) (dy : PyData) (x : V) (dx : PyData) (names : List Str), vs = [.ref p, y, x] ∧ TabAt C H p r e xs n kl ∧ Dt K H y dy ∧ Dt K H x dx ∧ kl.map (fun p => kV p.1) = names.map V.str ∧
  ((placeD ((xs.length : Int) + 1) dy = false ∧ ∀ H', Same H H' → E (.ref c.NoPlace) none H') ∨ (placeD ((xs.length : Int) + 1) dy = true ∧ 30 ≤ xs.length ∧ ∀ H', Same H H' → E (.ref c.TooMuch) none H') ∨ (placeD ((xs.length : Int) + 1) dy = true ∧ xs.length < 30 ∧ RowNo K H x dx names ∧ ∀ H', Same H H' → E (.ref c.NoValue) none H'))
theorem k_put_in_e (T : Tops K mg) {c : Ad} (X : Excs K mg c) {C : Addr} (Y : TTable K mg C) : KnownM P w K mg base (CXE P w) 6 C "put_in" ["self", "place", "values"] (spPutE K C c) := by
  have G_check_place : Known P w K mg base (CXE P w) 2 "check_place" ["place", "places"] (spPlace K c) := k_check_place T X
  have G_check_row : Known P w K mg base (CXE P w) 5 "check_row" ["values", "columns"] (spRowE K c) := k_check_row_e T X
  have G_many : KnownM P w K mg base CX0 1 C "many" ["self"] (spMany C) := k_Table_many T Y
  have G_columns : KnownM P w K mg base CX0 1 C "columns" ["self"] (spColumns C) := k_Table_columns T Y
  refine Y.m_put_in.knownE sc_Table_put_in (fun _ _ _ _ _ _ us hl => match us, hl with | [_, _, _], _ => rfl) (fun vs H Q E h => ?_) (fun f cdv A outer s H vs Q E hr h => ?_)
  · obtain ⟨p, r, e, xs, n, kl, y, dy, x, dx, names, rfl, _⟩ := h
    rfl
  · obtain ⟨p, r, e, xs, n, kl, y, dy, x, dx, names, rfl, TA, hy, hx, hk, hcase⟩ := h
    refine ⟨_, (pss_cons (ps_expr (pe_callN G_check_place (hr.mono (by decide)) passE (pa_cons (pv 1) (pa_cons (pe_op op_add (pe_methN0 (pv 0) Y.cl G_many (hr.mono (by decide)) pass0) pe_int) pa_nil))))
      (pss_cons (ps_if (pt_cmpR op_ge (pe_methN0 (pv 0) Y.cl G_many (hr.mono (by decide)) pass0) (pe_gI T.g_MOST_ROWS) (nomark _)) (pss_one (ps_raise X.c_TooMuch X.x_TooMuch (pa_cons pe_str pa_nil))) pss_nil)
      (pss_cons (ps_expr (pe_callN G_check_row (hr.mono (by decide)) passE (pa_cons (pv 2) (pa_cons (pe_methN0 (pv 0) Y.cl G_columns (hr.mono (by decide)) pass0) pa_nil))))
      (pss_cons ps_dead
      (pss_one ps_dead))))), ?_⟩
    obtain ⟨⟨dd, g1⟩, g2, g3⟩ := id TA
    refine ⟨_, rfl, _, rfl, p, dd, _, rfl, g1, flds_no, p, r, e, xs, n, _, rfl, TA, _, _, rfl, rfl, y, dy, _, rfl, hy, (fun z => ?_), fun z => ?_⟩
    · refine ⟨_, rfl, p, dd, _, rfl, g1, flds_no, p, r, e, xs, n, _, rfl, TA, _, _, rfl, rfl, _, rfl, ?_⟩
      rcases hcase with ⟨h1, _⟩ | ⟨_, h1, q⟩ | ⟨_, h1, hno, q⟩
      · rw [h1] at z; cases z
      · refine ite2 (fun _ => ⟨sl, q H (Same.refl _)⟩) (fun z => absurd (by simp; omega) z)
      · refine ite2 (fun z => absurd z (by simp; omega)) fun _ => ?_
        refine ⟨_, rfl, _, rfl, p, dd, _, rfl, g1, flds_no, p, r, e, xs, n, _, rfl, TA, fun lc hlc => ?_⟩
        have c1 : Same H (upd H lc (.lst (kl.map fun p => kV p.1))) := Same.new hlc
        exact ⟨x, dx, lc, names, rfl, hx.same c1, by rw [upd_same, hk], hno.same c1, fun H' s' => q H' (c1.trans s')⟩
    · rcases hcase with ⟨_, q⟩ | ⟨h1, _⟩ | ⟨h1, _⟩
      · exact q H (Same.refl _)
      · have z' : placeD ((xs.length : Int) + 1) dy = false := z
        rw [h1] at z'; cases z'
      · have z' : placeD ((xs.length : Int) + 1) dy = false := z
        rw [h1] at z'; cases z'
def spTakeE (K : PySem.W.Frag) (C : Addr) (c : Ad) : Sp := fun vs H _ E => ∃ (p r e : Addr) (xs : List V) (n : Int) (kl : List (Key × V)) (y : V) (dy : PyData), vs = [.ref p, y] ∧ TabAt C H p r e xs n kl ∧ Dt K H y dy ∧ placeD xs.length dy = false ∧ E (.ref c.NoPlace) none H
theorem k_take_e (T : Tops K mg) {c : Ad} (X : Excs K mg c) {C : Addr} (Y : TTable K mg C) : KnownM P w K mg base (CXE P w) 3 C "take_out" ["self", "place"] (spTakeE K C c) := by
  have G_check_place : Known P w K mg base (CXE P w) 2 "check_place" ["place", "places"] (spPlace K c) := k_check_place T X
  have G_many : KnownM P w K mg base CX0 1 C "many" ["self"] (spMany C) := k_Table_many T Y
  refine Y.m_take_out.knownE sc_Table_take_out (fun _ _ _ _ _ _ us hl => match us, hl with | [_, _], _ => rfl) (fun vs H Q E h => ?_) (fun f cdv A outer s H vs Q E hr h => ?_)
  · obtain ⟨p, r, e, xs, n, kl, y, dy, rfl, _⟩ := h
    rfl
  · obtain ⟨p, r, e, xs, n, kl, y, dy, rfl, TA, hy, hno, q⟩ := h
    refine ⟨_, (pss_cons (ps_expr (pe_callN G_check_place (hr.mono (by decide)) passE (pa_cons (pv 1) (pa_cons (pe_methN0 (pv 0) Y.cl G_many (hr.mono (by decide)) pass0) pa_nil))))
      (pss_cons ps_dead
      (pss_one ps_dead))), ?_⟩
    obtain ⟨⟨dd, g1⟩, g2, g3⟩ := id TA
    refine ⟨_, rfl, _, rfl, p, dd, _, rfl, g1, flds_no, p, r, e, xs, n, _, rfl, TA, y, dy, _, rfl, hy, (fun z => ?_), fun _ => q⟩
    have z' : placeD (xs.length : Int) dy = true := z
    rw [hno] at z'
    cases z'
end
end My

namespace My
open PySem L2
abbrev P60 : Int := 10 ^ (60 : Int).toNat
abbrev P59 : Int := 10 ^ (59 : Int).toNat
theorem P59_big : (100 : Int) < P59 := by decide +kernel
def badNames : List PyData := [.str ("" : Str), .str ("Ab" : Str), .str ("abcdefghi" : Str), .str ("a1" : Str), .none, .int 7, .list [.str ("a" : Str)], .bool true, .tuple [.str ("a" : Str)]]
def lostD : List PyData := [.str ("zz" : Str), .str ("" : Str), .none, .list [.str ("a" : Str)], .int 3, .tuple [.str ("a" : Str)], .bool true]
def badPlaces (m far : Int) : List PyData := [.int m, .int (-1), .int far, .int (0 - far), .bool true, .none, .str ("0" : Str), .list [.int 0], .tuple [.int 0]]
def badVals : List PyData := [.bool true, .none, .int P60, .int (0 - P60), .str ("1" : Str), .list [.str ("fault" : Str), .str ("a" : Str)], .tuple [.str ("fault" : Str), .str ("A" : Str)], .list [.list [.int 1]]]
theorem badNames_no : ∀ d ∈ badNames, nameD d = false := by
  intro d hd
  simp only [badNames, List.mem_cons, List.not_mem_nil, or_false] at hd
  rcases hd with rfl | rfl | rfl | rfl | rfl | rfl | rfl | rfl | rfl <;> decide +kernel
theorem badNames_short : ∀ d ∈ badNames, shortS d := by
  intro d hd
  simp only [badNames, List.mem_cons, List.not_mem_nil, or_false] at hd
  rcases hd with rfl | rfl | rfl | rfl | rfl | rfl | rfl | rfl | rfl <;> (intro t e; first | (cases e; done) | (cases e; decide))
theorem lost_short : ∀ d ∈ lostD, shortS d := by
  intro d hd
  simp only [lostD, List.mem_cons, List.not_mem_nil, or_false] at hd
  rcases hd with rfl | rfl | rfl | rfl | rfl | rfl | rfl <;> (intro t e; first | (cases e; done) | (cases e; decide))
theorem lost_no {kl : List (Key × V)} (h : valV kl (.inr ("zz" : Str) : Key) = none) : ∀ d ∈ lostD, colD kl d = false := by
  intro d hd
  simp only [lostD, List.mem_cons, List.not_mem_nil, or_false] at hd
  rcases hd with rfl | rfl | rfl | rfl | rfl | rfl | rfl
  · show (nameS ("zz" : Str) && (valV kl (.inr ("zz" : Str) : Key)).isSome) = false
    rw [h]
    simp
  · show (nameS ("" : Str) && (valV kl (.inr ("" : Str) : Key)).isSome) = false
    rw [show nameS ("" : Str) = false from by decide +kernel]
    rfl
  all_goals rfl
theorem places_no {m far : Int} (h : P59 ≤ far) (h1 : 0 ≤ m) (h2 : m ≤ 30) : ∀ d ∈ badPlaces m far, placeD m d = false := by
  have big := P59_big
  generalize P59 = F at *
  intro d hd
  simp only [badPlaces, List.mem_cons, List.not_mem_nil, or_false] at hd
  rcases hd with rfl | rfl | rfl | rfl | rfl | rfl | rfl | rfl | rfl
  · show (decide (0 ≤ m) && decide (m < m)) = false
    rw [decide_eq_false (Int.lt_irrefl m), Bool.and_false]
  · rfl
  · show (decide (0 ≤ far) && decide (far < m)) = false
    rw [decide_eq_false (show ¬ far < m by omega), Bool.and_false]
  · show (decide (0 ≤ 0 - far) && decide (0 - far < m)) = false
    rw [decide_eq_false (show ¬ 0 ≤ 0 - far by omega), Bool.false_and]
  all_goals rfl
theorem vals_no : ∀ d ∈ badVals, valueD d = false := by
  intro d hd
  simp only [badVals, List.mem_cons, List.not_mem_nil, or_false] at hd
  rcases hd with rfl | rfl | rfl | rfl | rfl | rfl | rfl | rfl <;> decide +kernel
theorem vals_nod : ∀ d ∈ badVals, noDict d = true := by
  intro d hd
  simp only [badVals, List.mem_cons, List.not_mem_nil, or_false] at hd
  rcases hd with rfl | rfl | rfl | rfl | rfl | rfl | rfl | rfl <;> rfl
theorem vals_col (m : Int) : ∀ d ∈ badVals, valuesD m d = false := by
  intro d hd
  simp only [badVals, List.mem_cons, List.not_mem_nil, or_false] at hd
  rcases hd with rfl | rfl | rfl | rfl | rfl | rfl | rfl | rfl
  · rfl
  · rfl
  · rfl
  · rfl
  · rfl
  · show (decide (((2 : Nat) : Int) = m) && false) = false
    rw [Bool.and_false]
  · rfl
  · show (decide (((1 : Nat) : Int) = m) && false) = false
    rw [Bool.and_false]
theorem vals_short : ∀ d ∈ badVals, shortD d := by
  intro d hd
  simp only [badVals, List.mem_cons, List.not_mem_nil, or_false] at hd
  rcases hd with rfl | rfl | rfl | rfl | rfl | rfl | rfl | rfl <;> (intro ds e; first | (cases e; done) | (cases e; intro x hx; simp only [List.mem_cons, List.not_mem_nil, or_false] at hx; rcases hx with rfl | rfl <;> (intro t e; cases e; decide)))
theorem vals_list : ∀ d ∈ badVals, ∀ ds, d = .list ds → ds.length ≤ 1000 ∧ ∀ e ∈ ds, shortD e := by
  intro d hd
  simp only [badVals, List.mem_cons, List.not_mem_nil, or_false] at hd
  rcases hd with rfl | rfl | rfl | rfl | rfl | rfl | rfl | rfl <;> (intro ds e; first | (cases e; done) | (cases e; refine ⟨by decide, fun x hx => ?_⟩; simp only [List.mem_cons, List.not_mem_nil, or_false] at hx; first | (rcases hx with rfl | rfl <;> (intro zs e; cases e)) | (subst hx; intro zs e; cases e)))
theorem noneB8 {H H' : Hp} {l : Addr} (s : Same H H') (h : H' l = none) : H l = none := by
  cases e : H l with
  | none => rfl
  | some o => rw [s l o e] at h; cases h
/-- what is bad, for each way -/
structure Bads (K : PySem.W.Frag) (H : Hp) (m far : Int) (b0 b1 b2 b3 : V) (d0 d1 d2 d3 : PyData) : Prop where
  e0 : Dt K H b0 d0
  e1 : Dt K H b1 d1
  e2 : Dt K H b2 d2
  e3 : Dt K H b3 d3
  m0 : d0 ∈ badNames
  m1 : d1 ∈ lostD
  m2 : d2 ∈ badPlaces m far
  m3 : d3 ∈ badVals
theorem Bads.same {K : PySem.W.Frag} {H H' : Hp} {m far : Int} {b0 b1 b2 b3 : V} {d0 d1 d2 d3 : PyData} (s : Same H H') (h : Bads K H m far b0 b1 b2 b3 d0 d1 d2 d3) : Bads K H' m far b0 b1 b2 b3 d0 d1 d2 d3 := ⟨h.e0.same s, h.e1.same s, h.e2.same s, h.e3.same s, h.m0, h.m1, h.m2, h.m3⟩
section
variable {P : Program} {w : World} {K : PySem.W.Frag} {mg : Str → Option Value} {base : Heap}
def spBad (K : PySem.W.Frag) : Sp := fun vs H Q _ => ∃ (c m : Int), vs = [.int c, .int m] ∧ 0 ≤ m ∧ m ≤ 30 ∧ 0 ≤ c ∧
  ∀ H' l b0 b1 b2 b3 d0 d1 d2 d3 far, Same H H' → H' l = none → P59 ≤ far → Bads K H' m far b0 b1 b2 b3 d0 d1 d2 d3 → Q (.ref l) (upd H' l (.lst [b0, b1, b2, b3]))
theorem sc_law_bad : FnScope ["_law_cell_here", "_law_many", "_law_far", "_law_names", "_law_lost", "_law_places", "_law_values"] ["_law_cell_here", "_law_many"] (defScope s_law_bad) := ⟨rfl, rfl, rfl, by decide +kernel, rfl, by decide +kernel, by decide +kernel⟩
theorem k_law_bad (T : Tops K mg) : Known P w K mg base CX0 1 "_law_bad" ["_law_cell_here", "_law_many"] (spBad K) := by
  refine T.d_law_bad.known sc_law_bad (fun _ _ _ _ _ _ us hl => match us, hl with | [_, _], _ => rfl) (fun vs H Q E h => ?_) (fun f cdv A outer s H vs Q E hr h => ?_)
  · obtain ⟨c, m, rfl, _⟩ := h
    rfl
  · obtain ⟨c, m, rfl, m0, m1, c0, q⟩ := h
    refine boxS ⟨_, (pssw_cons (PSw.mk (ps_set (i := 2) sc_law_bad.nd rfl (Or.inl rfl) (pe_op op_add (pe_op op_pow pe_int pe_int) (pe_op op_mod (pv 0) (pe_op op_pow pe_int pe_int)))))
      (pssw_cons (psw_set (i := 3) sc_law_bad.nd rfl (Or.inl rfl) (pew_lst (paw_k pew_str (paw_k pew_str (paw_k pew_str (paw_k pew_str (paw_k pew_non (paw_k pew_int (paw_l (pew_lst (paw_k pew_str paw_nil)) (paw_k pew_bl (paw_t (pew_tup (paw_k pew_str paw_nil)) paw_nil)))))))))))
      (pssw_cons (psw_set (i := 4) sc_law_bad.nd rfl (Or.inl rfl) (pew_lst (paw_k pew_str (paw_k pew_str (paw_k pew_non (paw_l (pew_lst (paw_k pew_str paw_nil)) (paw_k pew_int (paw_t (pew_tup (paw_k pew_str paw_nil)) (paw_k pew_bl paw_nil)))))))))
      (pssw_cons (psw_set (i := 5) sc_law_bad.nd rfl (Or.inl rfl) (pew_lst (paw_n (PEw.mk (pv 1)) (paw_u (PEw.mk (pe_un un_neg pe_int)) (paw_n (PEw.mk (pv 2)) (paw_b (PEw.mk (pe_op op_sub pe_int (pv 2))) (paw_k pew_bl (paw_k pew_non (paw_k pew_str (paw_l (pew_lst (paw_k pew_int paw_nil)) (paw_t (pew_tup (paw_k pew_int paw_nil)) paw_nil)))))))))))
      (pssw_cons (psw_set (i := 6) sc_law_bad.nd rfl (Or.inl rfl) (pew_lst (paw_k pew_bl (paw_k pew_non (paw_b (PEw.mk (pe_op op_pow pe_int pe_int)) (paw_b (PEw.mk (pe_op op_sub pe_int (pe_op op_pow pe_int pe_int))) (paw_k pew_str (paw_l (pew_lst (paw_k pew_str (paw_k pew_str paw_nil))) (paw_t (pew_tup (paw_k pew_str (paw_k pew_str paw_nil))) (paw_l (pew_lst (paw_l (pew_lst (paw_k pew_int paw_nil)) paw_nil)) paw_nil))))))))))
      (pssw_one (PSw.mk (ps_ret (pe_lst (pa_cons (pe_ix ix_list (pv 3) (pe_op op_mod (pv 0) pe_int) (fun _ _ => rfl)) (pa_cons (pe_ix ix_list (pv 4) (pe_op op_mod (pe_op op_fdiv (pv 0) pe_int) pe_int) (fun _ _ => rfl)) (pa_cons (pe_ix ix_list (pv 5) (pe_op op_mod (pe_op op_fdiv (pv 0) pe_int) pe_int) (fun _ _ => rfl)) (pa_cons (pe_ix ix_list (pv 6) (pe_op op_mod (pe_op op_fdiv (pv 0) pe_int) pe_int) (fun _ _ => rfl)) pa_nil))))))))))))), ?_⟩
    refine ⟨_, _, rfl, rfl, ⟨by decide, by decide, by decide⟩, _, rfl, _, _, rfl, rfl, ⟨by decide, by decide, by decide⟩, _, _, rfl, rfl, (show (0 : Int) < P59 by decide +kernel), _, _, rfl, rfl, ?_⟩
    have f0 := Int.emod_nonneg c (show P59 ≠ 0 by decide +kernel)
    have hfar : P59 ≤ P59 + c % P59 := by omega
    refine ⟨sl, fun l1 hl1 => ⟨sl, fun t1 ht1 => ⟨sl, fun n1 hn1 => ?_⟩⟩⟩
    obtain ⟨c1, e1⟩ := new_lst (K := K) hl1 (.cons (.str ("a" : Str)) .nil)
    obtain ⟨c2, e2⟩ := new_tup (K := K) ht1 (.cons (.str ("a" : Str)) .nil)
    have a1 : DtAll K _ _ badNames := .cons (.str _) (.cons (.str _) (.cons (.str _) (.cons (.str _) (.cons .non (.cons (.int 7) (.cons (e1.same c2) (.cons (.bl true) (.cons e2 .nil))))))))
    obtain ⟨c3, _⟩ := new_lst (K := K) hn1 a1
    have s1 := c1.trans (c2.trans c3)
    have hn1' := upd_same (H := upd (upd H l1 (.lst [.str ("a" : Str)])) t1 (.tup [.str ("a" : Str)])) (a := n1) (o := .lst [.str ("" : Str), .str ("Ab" : Str), .str ("abcdefghi" : Str), .str ("a1" : Str), .non, .int 7, .ref l1, .bl true, .ref t1])
    have a1' := a1.same c3
    generalize upd (upd (upd H l1 (.lst [.str ("a" : Str)])) t1 (.tup [.str ("a" : Str)])) n1 (.lst [.str ("" : Str), .str ("Ab" : Str), .str ("abcdefghi" : Str), .str ("a1" : Str), .non, .int 7, .ref l1, .bl true, .ref t1]) = H1 at s1 hn1' a1' ⊢
    clear a1 c1 c2 c3 e1 e2
    -- lost
    refine ⟨sl, fun l2 hl2 => ⟨sl, fun t2 ht2 => ⟨sl, fun n2 hn2 => ?_⟩⟩⟩
    obtain ⟨c1, e1⟩ := new_lst (K := K) hl2 (.cons (.str ("a" : Str)) .nil)
    obtain ⟨c2, e2⟩ := new_tup (K := K) ht2 (.cons (.str ("a" : Str)) .nil)
    have a2 : DtAll K _ _ lostD := .cons (.str _) (.cons (.str _) (.cons .non (.cons (e1.same c2) (.cons (.int 3) (.cons e2 (.cons (.bl true) .nil))))))
    obtain ⟨c3, _⟩ := new_lst (K := K) hn2 a2
    have s2 := c1.trans (c2.trans c3)
    have hn2' := upd_same (H := upd (upd H1 l2 (.lst [.str ("a" : Str)])) t2 (.tup [.str ("a" : Str)])) (a := n2) (o := .lst [.str ("zz" : Str), .str ("" : Str), .non, .ref l2, .int 3, .ref t2, .bl true])
    have a2' := a2.same c3
    generalize upd (upd (upd H1 l2 (.lst [.str ("a" : Str)])) t2 (.tup [.str ("a" : Str)])) n2 (.lst [.str ("zz" : Str), .str ("" : Str), .non, .ref l2, .int 3, .ref t2, .bl true]) = H2 at s2 hn2' a2' ⊢
    clear a2 c1 c2 c3 e1 e2
    -- places
    refine ⟨_, rfl, _, rfl, _, rfl, _, rfl, _, _, rfl, rfl, sl, fun l3 hl3 => ⟨sl, fun t3 ht3 => ⟨sl, fun n3 hn3 => ?_⟩⟩⟩
    obtain ⟨c1, e1⟩ := new_lst (K := K) hl3 (.cons (.int 0) .nil)
    obtain ⟨c2, e2⟩ := new_tup (K := K) ht3 (.cons (.int 0) .nil)
    have a3 : DtAll K _ _ (badPlaces m (P59 + c % P59)) := .cons (.int m) (.cons (.int (-1)) (.cons (.int (P59 + c % P59)) (.cons (.int (0 - (P59 + c % P59))) (.cons (.bl true) (.cons .non (.cons (.str _) (.cons (e1.same c2) (.cons e2 .nil))))))))
    obtain ⟨c3, _⟩ := new_lst (K := K) hn3 a3
    have s3 := c1.trans (c2.trans c3)
    have hn3' := upd_same (H := upd (upd H2 l3 (.lst [.int 0])) t3 (.tup [.int 0])) (a := n3) (o := .lst [.int m, .int (-1), .int (P59 + c % P59), .int (0 - (P59 + c % P59)), .bl true, .non, .str ("0" : Str), .ref l3, .ref t3])
    have a3' := a3.same c3
    change (fun Hx : Hp => _) (upd (upd (upd H2 l3 (.lst [.int 0])) t3 (.tup [.int 0])) n3 (.lst [.int m, .int (-1), .int (P59 + c % P59), .int (0 - (P59 + c % P59)), .bl true, .non, .str ("0" : Str), .ref l3, .ref t3]))
    generalize upd (upd (upd H2 l3 (.lst [.int 0])) t3 (.tup [.int 0])) n3 (.lst [.int m, .int (-1), .int (P59 + c % P59), .int (0 - (P59 + c % P59)), .bl true, .non, .str ("0" : Str), .ref l3, .ref t3]) = H3 at s3 hn3' a3' ⊢
    clear a3 c1 c2 c3 e1 e2
    -- values
    refine ⟨_, _, rfl, rfl, ⟨by decide, by decide, by decide⟩, _, _, rfl, rfl, ⟨by decide, by decide, by decide⟩, _, _, rfl, rfl, sl, fun l4 hl4 => ⟨sl, fun t4 ht4 => ⟨sl, fun l5 hl5 => ⟨sl, fun l6 hl6 => ⟨sl, fun n4 hn4 => ?_⟩⟩⟩⟩⟩
    obtain ⟨c1, e1⟩ := new_lst (K := K) hl4 (.cons (.str ("fault" : Str)) (.cons (.str ("a" : Str)) .nil))
    obtain ⟨c2, e2⟩ := new_tup (K := K) ht4 (.cons (.str ("fault" : Str)) (.cons (.str ("A" : Str)) .nil))
    obtain ⟨c3, e3⟩ := new_lst (K := K) hl5 (.cons (.int 1) .nil)
    obtain ⟨c4, e4⟩ := new_lst (K := K) hl6 (.cons e3 .nil)
    have a4 : DtAll K _ _ badVals := .cons (.bl true) (.cons .non (.cons (.int P60) (.cons (.int (0 - P60)) (.cons (.str _) (.cons (e1.same (c2.trans (c3.trans c4))) (.cons (e2.same (c3.trans c4)) (.cons e4 .nil)))))))
    obtain ⟨c5, _⟩ := new_lst (K := K) hn4 a4
    have s4 := c1.trans (c2.trans (c3.trans (c4.trans c5)))
    have hn4' := upd_same (H := upd (upd (upd (upd H3 l4 (.lst [.str ("fault" : Str), .str ("a" : Str)])) t4 (.tup [.str ("fault" : Str), .str ("A" : Str)])) l5 (.lst [.int 1])) l6 (.lst [.ref l5])) (a := n4) (o := .lst [.bl true, .non, .int P60, .int (0 - P60), .str ("1" : Str), .ref l4, .ref t4, .ref l6])
    have a4' := a4.same c5
    change (fun Hx : Hp => _) (upd (upd (upd (upd (upd H3 l4 (.lst [.str ("fault" : Str), .str ("a" : Str)])) t4 (.tup [.str ("fault" : Str), .str ("A" : Str)])) l5 (.lst [.int 1])) l6 (.lst [.ref l5])) n4 (.lst [.bl true, .non, .int P60, .int (0 - P60), .str ("1" : Str), .ref l4, .ref t4, .ref l6]))
    generalize upd (upd (upd (upd (upd H3 l4 (.lst [.str ("fault" : Str), .str ("a" : Str)])) t4 (.tup [.str ("fault" : Str), .str ("A" : Str)])) l5 (.lst [.int 1])) l6 (.lst [.ref l5])) n4 (.lst [.bl true, .non, .int P60, .int (0 - P60), .str ("1" : Str), .ref l4, .ref t4, .ref l6]) = H4 at s4 hn4' a4' ⊢
    clear a4 c1 c2 c3 c4 c5 e1 e2 e3 e4
    have s34 := s3.trans s4
    have s24 := s2.trans s34
    have s14 := s1.trans s24
    obtain ⟨v0, d0, p0, q0, g0⟩ := (a1'.same s24).pick (i := c % 9) (Int.emod_nonneg _ (by decide)) (Int.emod_lt_of_pos c (show (0 : Int) < 9 by decide))
    obtain ⟨v1, d1, p1, q1, g1⟩ := (a2'.same s34).pick (i := c / 9 % 7) (Int.emod_nonneg _ (by decide)) (Int.emod_lt_of_pos (c / 9) (show (0 : Int) < 7 by decide))
    obtain ⟨v2, d2, p2, q2, g2⟩ := (a3'.same s4).pick (i := c / 63 % 9) (Int.emod_nonneg _ (by decide)) (Int.emod_lt_of_pos (c / 63) (show (0 : Int) < 9 by decide))
    obtain ⟨v3, d3, p3, q3, g3⟩ := a4'.pick (i := c / 567 % 8) (Int.emod_nonneg _ (by decide)) (Int.emod_lt_of_pos (c / 567) (show (0 : Int) < 8 by decide))
    refine ⟨_, rfl, _, rfl, _, _, rfl, rfl, (show (0 : Int) < 9 by decide), n1, _, _, v0, rfl, rfl, SqL.of (s24 _ _ hn1'), p0, ?_⟩
    refine ⟨_, rfl, _, rfl, _, _, rfl, rfl, ⟨by decide, by decide⟩, _, _, rfl, rfl, (show (0 : Int) < 7 by decide), n2, _, _, v1, rfl, rfl, SqL.of (s34 _ _ hn2'), p1, ?_⟩
    refine ⟨_, rfl, _, rfl, _, _, rfl, rfl, ⟨by decide, by decide⟩, _, _, rfl, rfl, (show (0 : Int) < 9 by decide), n3, _, _, v2, rfl, rfl, SqL.of (s4 _ _ hn3'), p2, ?_⟩
    refine ⟨_, rfl, _, rfl, _, _, rfl, rfl, ⟨by decide, by decide⟩, _, _, rfl, rfl, (show (0 : Int) < 8 by decide), n4, _, _, v3, rfl, rfl, SqL.of hn4', p3, ?_⟩
    refine ⟨sl, fun l hl => ?_⟩
    exact q H4 l v0 v1 v2 v3 d0 d1 d2 d3 _ s14 hl hfar ⟨g0, g1, g2, g3, List.mem_of_getElem? q0, List.mem_of_getElem? q1, List.mem_of_getElem? q2, List.mem_of_getElem? q3⟩
end
end My

namespace My
open PySem L2
def kI (cols : List Str) : List Key := cols.map fun z => (.inr z : Key)
structure Full (cols : List Str) (kvs : List (Key × V)) : Prop where
  k : kvs.map (·.1) = kI cols
  v : ∀ q ∈ kvs, ∃ i : Nat, q.2 = .int i ∧ i ≤ 8
structure ColsOk (cols : List Str) : Prop where
  l : cols.length ≤ 8
  p : 0 < cols.length
  n : cols.Nodup
  m : ("more" : Str) ∉ cols
  z : ("zz" : Str) ∉ cols
  s : ∀ z ∈ cols, nameS z = true ∧ z.length ≤ 8
  y : ∀ z ∈ cols, PyData.canLay0 (.str z) = true
theorem kI_mem {cols : List Str} {z : Str} : (.inr z : Key) ∈ kI cols ↔ z ∈ cols := by
  unfold kI
  rw [List.mem_map]
  exact ⟨fun ⟨y, h, e⟩ => by cases e; exact h, fun h => ⟨z, h, rfl⟩⟩
theorem kI_nodup {cols : List Str} (h : cols.Nodup) : (kI cols).Nodup := by
  unfold kI
  rw [List.nodup_iff_pairwise_ne, List.pairwise_map]
  exact (List.nodup_iff_pairwise_ne.mp h).imp fun h e => h (Sum.inr.inj e)
theorem valV_of_not {kvs : List (Key × V)} {k : Key} (h : k ∉ kvs.map (·.1)) : valV kvs k = none := by
  cases e : valV kvs k with
  | none => rfl
  | some v => exact absurd (valV_in e) h
theorem valV_of_in {kvs : List (Key × V)} {k : Key} (h : k ∈ kvs.map (·.1)) : ∃ v, valV kvs k = some v := by
  cases e : valV kvs k with
  | none => exact absurd h (valV_not e)
  | some v => exact ⟨v, rfl⟩
theorem num_small {i : Nat} (h : i ≤ 100) : valueD (.int (i : Int)) = true := by
  have big : (100 : Int) < 10 ^ (60 : Int).toNat := by decide +kernel
  show (decide ((if (i : Int) < 0 then -(i : Int) else (i : Int)) < 10 ^ (60 : Int).toNat) || false) = true
  rw [if_neg (by omega), decide_eq_true (by omega)]
  rfl
theorem Full.good {K : PySem.W.Frag} {H : Hp} {cols : List Str} {kvs : List (Key × V)} (F : Full cols kvs) (C : ColsOk cols) {q : Key × V} (h : q ∈ kvs) : GoodQ K H cols q := by
  obtain ⟨i, e, hi⟩ := F.v q h
  have hk : q.1 ∈ kI cols := by rw [← F.k]; exact List.mem_map.mpr ⟨q, h, rfl⟩
  obtain ⟨t, ht, et⟩ := List.mem_map.mp hk
  refine ⟨t, .int i, et.symm, ht, (C.s t ht).1, (C.s t ht).2, by rw [e]; exact .int _, rfl, (fun ds z => by cases z), num_small (by omega)⟩
theorem Full.len {cols : List Str} {kvs : List (Key × V)} (F : Full cols kvs) : kvs.length = cols.length := by
  have := congrArg List.length F.k
  simpa [kI] using this
theorem more_name : nameS ("more" : Str) = true ∧ ("more" : Str).length ≤ 8 := ⟨by decide +kernel, by decide⟩
theorem Full.r0 {K : PySem.W.Frag} {H : Hp} {cols : List Str} {kvs : List (Key × V)} {a : Addr} (F : Full cols kvs) (C : ColsOk cols) (h : H a = some (.dK (putK kvs (.inr ("more" : Str) : Key) (.int 1)))) : RowNo K H (.ref a) (.dict []) cols := by
  refine .inr ⟨a, _, rfl, rfl, h, .inl ?_⟩
  rw [putK_new _ (valV_of_not (by rw [F.k, kI_mem]; exact C.m)), List.length_append, F.len]
  simp
theorem Full.r1 {K : PySem.W.Frag} {H : Hp} {cols : List Str} {kvs : List (Key × V)} {a : Addr} {z : Str} (F : Full cols kvs) (C : ColsOk cols) (hz : z ∈ cols) (h : H a = some (.dK (dropK kvs (.inr z : Key)))) : RowNo K H (.ref a) (.dict []) cols := by
  refine .inr ⟨a, _, rfl, rfl, h, .inl ?_⟩
  have := dropK_len (kvs := kvs) (k := (.inr z : Key)) (by rw [F.k]; exact kI_nodup C.n) (by rw [F.k, kI_mem]; exact hz)
  have := F.len
  omega
theorem Full.r2 {K : PySem.W.Frag} {H : Hp} {cols : List Str} {kvs : List (Key × V)} {a : Addr} {z : Str} {v : V} {d : PyData} (F : Full cols kvs) (C : ColsOk cols) (hz : z ∈ cols) (hd : Dt K H v d) (hm : d ∈ badVals) (h : H a = some (.dK (putK kvs (.inr z : Key) v))) : RowNo K H (.ref a) (.dict []) cols := by
  have hin : (kvs.any fun kv => decide (kv.1 = (.inr z : Key))) = true := by
    rw [valV_any]
    obtain ⟨v', e⟩ := valV_of_in (kvs := kvs) (k := (.inr z : Key)) (by rw [F.k, kI_mem]; exact hz)
    rw [e]
    rfl
  have ep : putK kvs (.inr z : Key) v = kvs.map (fun kv => if kv.1 = (.inr z : Key) then (kv.1, v) else kv) := by unfold putK; rw [if_pos hin]
  obtain ⟨j, hj⟩ := List.mem_iff_getElem?.mp hz
  have hk : (kvs.map (·.1))[j]? = some (.inr z : Key) := by rw [F.k]; unfold kI; rw [List.getElem?_map, hj]; rfl
  rw [List.getElem?_map] at hk
  obtain ⟨q, hq, eq⟩ := Option.map_eq_some_iff.mp hk
  have nd : (kvs.map (·.1)).Nodup := by rw [F.k]; exact kI_nodup C.n
  refine .inr ⟨a, _, rfl, rfl, h, .inr ⟨by rw [ep, List.length_map]; exact F.len, j, (q.1, v), ?_, fun p hp => ?_, z, eq, (C.s z hz).1, (C.s z hz).2, .inr ⟨hz, d, hd, vals_nod d hm, vals_short d hm, vals_no d hm⟩⟩⟩
  · rw [ep, List.getElem?_map, hq]
    show some (if q.1 = (.inr z : Key) then (q.1, v) else q) = _
    rw [if_pos eq]
  · rw [ep, ← List.map_take] at hp
    obtain ⟨p0, hp0, rfl⟩ := List.mem_map.mp hp
    have ne : p0.1 ≠ (.inr z : Key) := fun e => by
      obtain ⟨i, hi⟩ := List.mem_iff_getElem?.mp hp0
      rw [List.getElem?_take] at hi
      by_cases g : i < j
      · rw [if_pos g] at hi
        have h1 : (kvs.map (·.1))[i]? = some (.inr z : Key) := by rw [List.getElem?_map, hi]; exact congrArg some e
        have h2 : (kvs.map (·.1))[j]? = some (.inr z : Key) := by rw [List.getElem?_map, hq]; exact congrArg some eq
        obtain ⟨a1, a2⟩ := List.getElem?_eq_some_iff.mp h1
        obtain ⟨b1, b2⟩ := List.getElem?_eq_some_iff.mp h2
        have := (List.getElem_inj nd).mp (a2.trans b2.symm)
        omega
      · rw [if_neg g] at hi; cases hi
    show GoodQ K H cols (if p0.1 = (.inr z : Key) then (p0.1, v) else p0)
    rw [if_neg ne]
    exact F.good C (List.mem_of_mem_take hp0)
theorem Full.r3 {K : PySem.W.Frag} {H : Hp} {cols : List Str} {kvs : List (Key × V)} {a : Addr} {z : Str} (F : Full cols kvs) (C : ColsOk cols) (hz : z ∈ cols) (h : H a = some (.dK (putK (dropK kvs (.inr z : Key)) (.inr ("more" : Str) : Key) (.int 1)))) : RowNo K H (.ref a) (.dict []) cols := by
  have hn : valV (dropK kvs (.inr z : Key)) (.inr ("more" : Str) : Key) = none := valV_of_not fun hm => by
    obtain ⟨q, h1, h2⟩ := List.mem_map.mp hm
    have : (.inr ("more" : Str) : Key) ∈ kvs.map (·.1) := List.mem_map.mpr ⟨q, dropK_mem h1, h2⟩
    rw [F.k, kI_mem] at this
    exact C.m this
  have hl := dropK_len (kvs := kvs) (k := (.inr z : Key)) (by rw [F.k]; exact kI_nodup C.n) (by rw [F.k, kI_mem]; exact hz)
  have hl2 := F.len
  rw [putK_new _ hn] at h
  refine .inr ⟨a, _, rfl, rfl, h, .inr ⟨by rw [List.length_append]; simp; omega, (dropK kvs (.inr z : Key)).length, (.inr ("more" : Str), .int 1), by simp, fun p hp => ?_, ("more" : Str), rfl, more_name.1, more_name.2, .inl C.m⟩⟩
  rw [List.take_left] at hp
  exact F.good C (dropK_mem hp)
section
variable {P : Program} {w : World} {K : PySem.W.Frag} {mg : Str → Option Value} {base : Heap}
def spRow8 (K : PySem.W.Frag) : Sp := fun vs H Q _ => ∃ (lc : Addr) (cols : List Str) (cell : Int) (b3 : V) (d3 : PyData), vs = [.ref lc, .int cell, b3] ∧ H lc = some (.lst (cols.map V.str)) ∧ ColsOk cols ∧ Dt K H b3 d3 ∧ d3 ∈ badVals ∧
  ∀ H' x dx, Same H H' → Dt K H' x dx → RowNo K H' x dx cols → Q x H'
theorem sc_law_row : FnScope ["_law_columns", "_law_cell_here", "_law_bad_here", "_law_full", "_law_k", "_law_some"] ["_law_columns", "_law_cell_here", "_law_bad_here"] (defScope s_law_row) := ⟨rfl, rfl, rfl, by decide +kernel, rfl, by decide +kernel, by decide +kernel⟩
theorem at_str {cols : List Str} {i : Nat} {z : Str} (h : cols[i]? = some z) : atI (cols.map V.str) (i : Int) = some (.str z) := atI_nat (by rw [List.getElem?_map, h]; rfl)
theorem k_law_row (T : Tops K mg) : Known P w K mg base CX0 1 "_law_row" ["_law_columns", "_law_cell_here", "_law_bad_here"] (spRow8 K) := by
  refine T.d_law_row.known sc_law_row (fun _ _ _ _ _ _ us hl => match us, hl with | [_, _, _], _ => rfl) (fun vs H Q E h => ?_) (fun f cdv A outer s H vs Q E hr h => ?_)
  · obtain ⟨lc, cols, cell, b3, d3, rfl, _⟩ := h
    rfl
  · obtain ⟨lc, cols, cell, b3, d3, rfl, hlc, hC, hd3, hm3, q⟩ := h
    have hu := hu_of hr
    refine boxS ⟨_, (pssw_cons (PSw.mk (ps_set (i := 3) sc_law_row.nd rfl (Or.inl rfl) pe_dnewK))
      (pssw_cons (PSw.mk (ps_for PassesOwn.never rfl (pi_range1 rfl T.range (pa_cons (pe_callB call_len rfl T.len b_len (pa_cons (pv 0) pa_nil)) pa_nil)) (pg_name (i := 4) sc_law_row.nd rfl (Or.inl rfl)) (pss_one (ps_dput hu (pv 3) (pe_ix ix_list (pv 0) (pv 4) (fun _ _ => rfl)) (pv 4) rfl))))
      (pssw_cons (psw_set (i := 5) sc_law_row.nd rfl (Or.inl rfl) (pew_lst (paw_c (PEw.mk (pe_callTy call_dict_of (by rfl) T.dict b_dict (pa_cons (pv 3) pa_nil))) (paw_c (PEw.mk (pe_callTy call_dict_of (by rfl) T.dict b_dict (pa_cons (pv 3) pa_nil))) (paw_c (PEw.mk (pe_callTy call_dict_of (by rfl) T.dict b_dict (pa_cons (pv 3) pa_nil))) (paw_c (PEw.mk (pe_callTy call_dict_of (by rfl) T.dict b_dict (pa_cons (pv 3) pa_nil))) (paw_k pew_non (paw_l (pew_lst (paw_k pew_int paw_nil)) (paw_k pew_int (paw_t (pew_tup paw_nil) paw_nil))))))))))
      (pssw_cons (PSw.mk (ps_dput hu (pe_ix ix_list (pv 5) pe_int (fun _ _ => rfl)) pe_str pe_int rfl))
      (pssw_cons (PSw.mk (ps_expr (pe_dpop1 (pe_ix ix_list (pv 5) pe_int (fun _ _ => rfl)) (pe_ix ix_list (pv 0) pe_int (fun _ _ => rfl)) ⟨rfl, rfl, rfl, rfl⟩)))
      (pssw_cons (PSw.mk (ps_dput hu (pe_ix ix_list (pv 5) pe_int (fun _ _ => rfl)) (pe_ix ix_list (pv 0) (pe_op op_mod (pv 1) (pe_callB call_len rfl T.len b_len (pa_cons (pv 0) pa_nil))) (fun _ _ => rfl)) (pv 2) rfl))
      (pssw_cons (PSw.mk (ps_expr (pe_dpop1 (pe_ix ix_list (pv 5) pe_int (fun _ _ => rfl)) (pe_ix ix_list (pv 0) (pe_op op_mod (pv 1) (pe_callB call_len rfl T.len b_len (pa_cons (pv 0) pa_nil))) (fun _ _ => rfl)) ⟨rfl, rfl, rfl, rfl⟩)))
      (pssw_cons (PSw.mk (ps_dput hu (pe_ix ix_list (pv 5) pe_int (fun _ _ => rfl)) pe_str pe_int rfl))
      (pssw_one (PSw.mk (ps_ret (pe_ix ix_list (pv 5) (pe_op op_mod (pe_op op_fdiv (pv 1) pe_int) pe_int) (fun _ _ => rfl))))))))))))), ?_⟩
    intro fd hfd
    have s1 := Same.new (o := .dK []) hfd
    have hf1 := upd_same (H := H) (a := fd) (o := .dK [])
    generalize upd H fd (.dK []) = H1 at s1 hf1 ⊢
    have hcl := hC.l
    have hcp := hC.p
    refine ⟨_, rfl, _, cols.length, rfl, .inl ⟨_, SqL.of (s1 _ _ hlc), by rw [List.length_map]⟩, _, rfl, by omega, by omega, ?_⟩
    rw [Int.toNat_natCast]
    refine for_range (lo := 0) (n := cols.length) (fun k σ H2 => ∃ (kvs : List (Key × V)) (o4 : Option V), σ = [some (.ref lc), some (.int cell), some b3, some (.ref fd), o4, none] ∧ Same H H2 ∧ H2 fd = some (.dK kvs) ∧ Full (cols.take k) kvs) ⟨[], _, rfl, s1, hf1, rfl, fun q h => (by cases h)⟩ ?_ ?_
    · rintro k σ H2 hk ⟨kvs, o4, rfl, s2, hf2, F⟩
      obtain ⟨z, hz⟩ : ∃ z, cols[k]? = some z := ⟨_, List.getElem?_eq_getElem hk⟩
      have hkl : kvs.length ≤ 8 := by have := F.len; rw [List.length_take] at this; omega
      refine ⟨_, rfl, _, rfl, _, rfl, _, rfl, lc, _, _, _, rfl, rfl, SqL.of (s2 _ _ hlc), by rw [Int.zero_add]; exact at_str hz, fd, _, rfl, DPut.k (k := Sum.inr z) hf2 (small1000 (by omega)), ?_⟩
      have new : valV kvs (.inr z : Key) = none := valV_of_not fun h => by
        rw [F.k, kI_mem] at h
        obtain ⟨i, hi⟩ := List.mem_iff_getElem?.mp h
        rw [List.getElem?_take] at hi
        by_cases g : i < k
        · rw [if_pos g] at hi
          obtain ⟨a1, a2⟩ := List.getElem?_eq_some_iff.mp hi
          obtain ⟨b1, b2⟩ := List.getElem?_eq_some_iff.mp hz
          have := (List.getElem_inj hC.n).mp (a2.trans b2.symm)
          omega
        · rw [if_neg g] at hi; cases hi
      refine ⟨_, _, rfl, s2.on hfd, upd_same, ?_, fun q hq => ?_⟩
      · rw [putK_new _ new, List.map_append, F.k, List.take_add_one, hz]
        unfold kI
        rw [List.map_append]
        rfl
      · rw [putK_new _ new] at hq
        rcases List.mem_append.mp hq with h | h
        · exact F.v q h
        · rw [List.mem_singleton.mp h]
          exact ⟨k, by simp, by omega⟩
    · rintro σ H2 ⟨kvs, o4, rfl, s2, hf2, F⟩
      rw [List.take_length] at F
      have hkl : kvs.length ≤ 8 := by have := F.len; omega
      -- four copies
      refine ⟨_, rfl, fd, kvs, rfl, .inl hf2, fun a0 ha0 => ?_⟩
      have u0 := Same.new (o := .dK kvs) ha0
      refine ⟨_, rfl, fd, kvs, rfl, .inl (u0 _ _ hf2), fun a1 ha1 => ?_⟩
      have u1 := Same.new (o := .dK kvs) ha1
      refine ⟨_, rfl, fd, kvs, rfl, .inl (u1 _ _ (u0 _ _ hf2)), fun a2 ha2 => ?_⟩
      have u2 := Same.new (o := .dK kvs) ha2
      refine ⟨_, rfl, fd, kvs, rfl, .inl (u2 _ _ (u1 _ _ (u0 _ _ hf2))), fun a3 ha3 => ?_⟩
      have u3 := Same.new (o := .dK kvs) ha3
      have g0 := (u1.trans (u2.trans u3)) _ _ (upd_same (H := H2) (a := a0) (o := .dK kvs))
      have g1 := (u2.trans u3) _ _ (upd_same (H := upd H2 a0 (.dK kvs)) (a := a1) (o := .dK kvs))
      have g2 := u3 _ _ (upd_same (H := upd (upd H2 a0 (.dK kvs)) a1 (.dK kvs)) (a := a2) (o := .dK kvs))
      have g3 := upd_same (H := upd (upd (upd H2 a0 (.dK kvs)) a1 (.dK kvs)) a2 (.dK kvs)) (a := a3) (o := .dK kvs)
      have n01 : a0 ≠ a1 := ne_of_none (upd_same (H := H2) (a := a0) (o := .dK kvs)) ha1
      have n02 : a0 ≠ a2 := ne_of_none (u1 _ _ (upd_same (H := H2) (a := a0) (o := .dK kvs))) ha2
      have n03 : a0 ≠ a3 := ne_of_none ((u1.trans u2) _ _ (upd_same (H := H2) (a := a0) (o := .dK kvs))) ha3
      have n12 : a1 ≠ a2 := ne_of_none (upd_same (H := upd H2 a0 (.dK kvs)) (a := a1) (o := .dK kvs)) ha2
      have n13 : a1 ≠ a3 := ne_of_none (u2 _ _ (upd_same (H := upd H2 a0 (.dK kvs)) (a := a1) (o := .dK kvs))) ha3
      have n23 : a2 ≠ a3 := ne_of_none (upd_same (H := upd (upd H2 a0 (.dK kvs)) a1 (.dK kvs)) (a := a2) (o := .dK kvs)) ha3
      have s3 := s2.trans (u0.trans (u1.trans (u2.trans u3)))
      have z0 := noneB8 s2 ha0
      have z1 := noneB8 (s2.trans u0) ha1
      have z2 := noneB8 (s2.trans (u0.trans u1)) ha2
      have z3 := noneB8 (s2.trans (u0.trans (u1.trans u2))) ha3
      generalize upd (upd (upd (upd H2 a0 (.dK kvs)) a1 (.dK kvs)) a2 (.dK kvs)) a3 (.dK kvs) = H3 at g0 g1 g2 g3 s3 ⊢
      refine ⟨sl, fun l1 hl1 => ⟨sl, fun t1 ht1 => ⟨sl, fun so hso => ?_⟩⟩⟩
      obtain ⟨c1, e1⟩ := new_lst (K := K) hl1 (.cons (.int 0) .nil)
      obtain ⟨c2, e2⟩ := new_tup (K := K) ht1 .nil
      have c3 := Same.new (o := .lst [.ref a0, .ref a1, .ref a2, .ref a3, .non, .ref l1, .int 0, .ref t1]) hso
      have s4 := s3.trans (c1.trans (c2.trans c3))
      have hso4 := upd_same (H := upd (upd H3 l1 (.lst [.int 0])) t1 (.tup [])) (a := so) (o := .lst [.ref a0, .ref a1, .ref a2, .ref a3, .non, .ref l1, .int 0, .ref t1])
      have e1' := e1.same (c2.trans c3)
      have e2' := e2.same c3
      have k0 := (c1.trans (c2.trans c3)) _ _ g0
      have k1 := (c1.trans (c2.trans c3)) _ _ g1
      have k2 := (c1.trans (c2.trans c3)) _ _ g2
      have k3 := (c1.trans (c2.trans c3)) _ _ g3
      generalize upd (upd (upd H3 l1 (.lst [.int 0])) t1 (.tup [])) so (.lst [.ref a0, .ref a1, .ref a2, .ref a3, .non, .ref l1, .int 0, .ref t1]) = H4 at hso4 e1' e2' k0 k1 k2 k3 s4 ⊢
      have nso : ∀ {b : Addr} {ks : List (Key × V)}, H4 b = some (.dK ks) → so ≠ b := fun e => ne_of hso4 e (fun z => by cases z)
      have n01' := n01.symm
      have n02' := n02.symm
      have n03' := n03.symm
      have n12' := n12.symm
      have n13' := n13.symm
      have n23' := n23.symm
      have nlc : ∀ {Hx : Hp}, Same H Hx → Hx lc = some (.lst (cols.map V.str)) := fun sx => sx _ _ hlc
      -- one more
      refine ⟨_, rfl, so, _, _, .ref a0, rfl, rfl, SqL.of hso4, rfl, a0, _, rfl, DPut.k (k := Sum.inr ("more" : Str)) k0 (small1000 (by omega)), ?_⟩
      have s5 : Same H (upd H4 a0 (.dK (putK kvs (.inr ("more" : Str) : Key) (.int 1)))) := s4.on z0
      have j0 := upd_same (H := H4) (a := a0) (o := .dK (putK kvs (.inr ("more" : Str) : Key) (.int 1)))
      have up : ∀ {b : Addr} {o : HO}, H4 b = some o → b ≠ a0 → upd H4 a0 (.dK (putK kvs (.inr ("more" : Str) : Key) (.int 1))) b = some o := fun e n => by rw [upd_ne n]; exact e
      have hso5 := up hso4 (nso k0)
      have k1' := up k1 n01'
      have k2' := up k2 n02'
      have k3' := up k3 n03'
      have e15 : Dt K _ (.ref l1) (.list [.int 0]) := Dt.over (v := .dK (putK kvs (.inr ("more" : Str) : Key) (.int 1))) k0 e1' rfl
      have e25 : Dt K _ (.ref t1) (.tuple []) := Dt.over (v := .dK (putK kvs (.inr ("more" : Str) : Key) (.int 1))) k0 e2' rfl
      generalize upd H4 a0 (.dK (putK kvs (.inr ("more" : Str) : Key) (.int 1))) = H5 at s5 j0 hso5 k1' k2' k3' e15 e25 ⊢
      clear up k0 k1 k2 k3 e1' e2' hso4 nso s4
      -- one less
      obtain ⟨c0, hc0⟩ : ∃ c0, cols[0]? = some c0 := ⟨_, List.getElem?_eq_getElem hcp⟩
      obtain ⟨v0, hv0⟩ := valV_of_in (kvs := kvs) (k := (.inr c0 : Key)) (by rw [F.k, kI_mem]; exact List.mem_of_getElem? hc0)
      refine ⟨_, rfl, so, _, _, .ref a1, rfl, rfl, SqL.of hso5, rfl, a1, rfl, .inl ⟨_, .inl k1'⟩, _, rfl, lc, _, _, _, rfl, rfl, SqL.of (nlc s5), at_str hc0, kvs, Sum.inr c0, v0, k1', rfl, hv0, ?_⟩
      have s6 : Same H (upd H5 a1 (.dK (dropK kvs (.inr c0 : Key)))) := s5.on z1
      have j1 := upd_same (H := H5) (a := a1) (o := .dK (dropK kvs (.inr c0 : Key)))
      have up : ∀ {b : Addr} {o : HO}, H5 b = some o → b ≠ a1 → upd H5 a1 (.dK (dropK kvs (.inr c0 : Key))) b = some o := fun e n => by rw [upd_ne n]; exact e
      have hso6 := up hso5 (ne_of hso5 k1' (fun z => by cases z))
      have j0' := up j0 n01
      have k2 := up k2' n12'
      have k3 := up k3' n13'
      have e16 : Dt K _ (.ref l1) (.list [.int 0]) := Dt.over (v := .dK (dropK kvs (.inr c0 : Key))) k1' e15 rfl
      have e26 : Dt K _ (.ref t1) (.tuple []) := Dt.over (v := .dK (dropK kvs (.inr c0 : Key))) k1' e25 rfl
      generalize upd H5 a1 (.dK (dropK kvs (.inr c0 : Key))) = H6 at s6 j1 hso6 j0' k2 k3 e16 e26 ⊢
      clear up j0 hso5 k1' k2' k3' e15 e25 s5
      -- a bad one
      have hlp : (0 : Int) < (cols.length : Int) := by omega
      have b0 := Int.emod_nonneg cell (show (cols.length : Int) ≠ 0 by omega)
      have b1 := Int.emod_lt_of_pos cell hlp
      obtain ⟨j, ej⟩ : ∃ j : Nat, cell % (cols.length : Int) = (j : Int) := ⟨(cell % (cols.length : Int)).toNat, by omega⟩
      have hjl : j < cols.length := by omega
      obtain ⟨cj, hcj⟩ : ∃ cj, cols[j]? = some cj := ⟨_, List.getElem?_eq_getElem hjl⟩
      have hatj : atI (cols.map V.str) (cell % (cols.length : Int)) = some (.str cj) := by rw [ej]; exact at_str hcj
      have hcjm := List.mem_of_getElem? hcj
      refine ⟨_, rfl, _, rfl, so, _, _, .ref a2, rfl, rfl, SqL.of hso6, rfl, _, rfl, _, rfl, _, rfl, _, cols.length, rfl, .inl ⟨_, SqL.of (nlc s6), by rw [List.length_map]⟩, _, _, rfl, rfl, hlp, lc, _, _, _, rfl, rfl, SqL.of (nlc s6), hatj, a2, _, rfl, DPut.k (k := Sum.inr cj) k2 (small1000 (by omega)), ?_⟩
      have s7 : Same H (upd H6 a2 (.dK (putK kvs (.inr cj : Key) b3))) := s6.on z2
      have j2 := upd_same (H := H6) (a := a2) (o := .dK (putK kvs (.inr cj : Key) b3))
      have up : ∀ {b : Addr} {o : HO}, H6 b = some o → b ≠ a2 → upd H6 a2 (.dK (putK kvs (.inr cj : Key) b3)) b = some o := fun e n => by rw [upd_ne n]; exact e
      have hso7 := up hso6 (ne_of hso6 k2 (fun z => by cases z))
      have j0 := up j0' n02
      have j1' := up j1 n12
      have k3' := up k3 n23'
      have e17 : Dt K _ (.ref l1) (.list [.int 0]) := Dt.over (v := .dK (putK kvs (.inr cj : Key) b3)) k2 e16 rfl
      have e27 : Dt K _ (.ref t1) (.tuple []) := Dt.over (v := .dK (putK kvs (.inr cj : Key) b3)) k2 e26 rfl
      generalize upd H6 a2 (.dK (putK kvs (.inr cj : Key) b3)) = H7 at s7 j2 hso7 j0 j1' k3' e17 e27 ⊢
      clear up j0' j1 hso6 k2 k3 e16 e26 s6
      -- another one
      obtain ⟨vj, hvj⟩ := valV_of_in (kvs := kvs) (k := (.inr cj : Key)) (by rw [F.k, kI_mem]; exact hcjm)
      refine ⟨_, rfl, so, _, _, .ref a3, rfl, rfl, SqL.of hso7, rfl, a3, rfl, .inl ⟨_, .inl k3'⟩, _, rfl, _, rfl, _, rfl, _, cols.length, rfl, .inl ⟨_, SqL.of (nlc s7), by rw [List.length_map]⟩, _, _, rfl, rfl, hlp, lc, _, _, _, rfl, rfl, SqL.of (nlc s7), hatj, kvs, Sum.inr cj, vj, k3', rfl, hvj, ?_⟩
      have hdl := dropK_le kvs (.inr cj : Key)
      have j3 := upd_same (H := H7) (a := a3) (o := .dK (dropK kvs (.inr cj : Key)))
      have hso8 : upd H7 a3 (.dK (dropK kvs (.inr cj : Key))) so = some (.lst [.ref a0, .ref a1, .ref a2, .ref a3, .non, .ref l1, .int 0, .ref t1]) := by rw [upd_ne (ne_of hso7 k3' (fun z => by cases z))]; exact hso7
      refine ⟨_, rfl, so, _, _, .ref a3, rfl, rfl, SqL.of hso8, rfl, a3, _, rfl, DPut.k (k := Sum.inr ("more" : Str)) j3 (small1000 (by omega)), ?_⟩
      have s9 : Same H (upd (upd H7 a3 (.dK (dropK kvs (.inr cj : Key)))) a3 (.dK (putK (dropK kvs (.inr cj : Key)) (.inr ("more" : Str) : Key) (.int 1)))) := (s7.on z3).on z3
      have j3' := upd_same (H := upd H7 a3 (.dK (dropK kvs (.inr cj : Key)))) (a := a3) (o := .dK (putK (dropK kvs (.inr cj : Key)) (.inr ("more" : Str) : Key) (.int 1)))
      have up : ∀ {b : Addr} {o : HO}, H7 b = some o → b ≠ a3 → upd (upd H7 a3 (.dK (dropK kvs (.inr cj : Key)))) a3 (.dK (putK (dropK kvs (.inr cj : Key)) (.inr ("more" : Str) : Key) (.int 1))) b = some o := fun e n => by rw [upd_ne n, upd_ne n]; exact e
      have hso9 := up hso7 (ne_of hso7 k3' (fun z => by cases z))
      have j0' := up j0 n03
      have j1 := up j1' n13
      have j2' := up j2 n23
      have e19 : Dt K _ (.ref l1) (.list [.int 0]) := Dt.over (v := .dK (putK (dropK kvs (.inr cj : Key)) (.inr ("more" : Str) : Key) (.int 1))) j3 (Dt.over (v := .dK (dropK kvs (.inr cj : Key))) k3' e17 rfl) rfl
      have e29 : Dt K _ (.ref t1) (.tuple []) := Dt.over (v := .dK (putK (dropK kvs (.inr cj : Key)) (.inr ("more" : Str) : Key) (.int 1))) j3 (Dt.over (v := .dK (dropK kvs (.inr cj : Key))) k3' e27 rfl) rfl
      generalize upd (upd H7 a3 (.dK (dropK kvs (.inr cj : Key)))) a3 (.dK (putK (dropK kvs (.inr cj : Key)) (.inr ("more" : Str) : Key) (.int 1))) = H9 at s9 j3' hso9 j0' j1 j2' e19 e29 ⊢
      have f0 := Int.emod_nonneg (cell / 8) (show (8 : Int) ≠ 0 by decide)
      have f1 := Int.emod_lt_of_pos (cell / 8) (show (0 : Int) < 8 by decide)
      have h8 : cell / 8 % 8 = 0 ∨ cell / 8 % 8 = 1 ∨ cell / 8 % 8 = 2 ∨ cell / 8 % 8 = 3 ∨ cell / 8 % 8 = 4 ∨ cell / 8 % 8 = 5 ∨ cell / 8 % 8 = 6 ∨ cell / 8 % 8 = 7 := by omega
      have fin : ∀ (v : V) (dv : PyData), atI [.ref a0, .ref a1, .ref a2, .ref a3, .non, .ref l1, .int 0, .ref t1] (cell / 8 % 8) = some v → Dt K H9 v dv → RowNo K H9 v dv cols → tRet (tOp (rIxL K) (tVar 5) (tOp (rI (fun _ j => 0 < j) fun i j => .int (i % j)) (tOp (rI CDiv fun i j => .int (i / j)) (tVar 1) (tC (.int 8))) (tC (.int 8)))) { nx := fun _ H' => Q .non H', rt := Q } [some (.ref lc), some (.int cell), some b3, some (.ref fd), o4, some (.ref so)] H9 := fun v dv hat hd hr => ⟨_, rfl, _, rfl, _, _, rfl, rfl, ⟨by decide, by decide⟩, _, _, rfl, rfl, (show (0 : Int) < 8 by decide), so, _, _, v, rfl, rfl, SqL.of hso9, hat, q H9 v dv s9 hd hr⟩
      rcases h8 with e | e | e | e | e | e | e | e
      · exact fin (.ref a0) (.dict []) (by rw [e]; rfl) (.dK j0') (F.r0 hC j0')
      · exact fin (.ref a1) (.dict []) (by rw [e]; rfl) (.dK j1) (F.r1 hC (List.mem_of_getElem? hc0) j1)
      · exact fin (.ref a2) (.dict []) (by rw [e]; rfl) (.dK j2') (F.r2 hC hcjm (hd3.same s9) hm3 j2')
      · exact fin (.ref a3) (.dict []) (by rw [e]; rfl) (.dK j3') (F.r3 hC hcjm j3')
      · exact fin .non .none (by rw [e]; rfl) .non (.inl (by decide))
      · exact fin (.ref l1) (.list [.int 0]) (by rw [e]; rfl) e19 (.inl (by decide))
      · exact fin (.int 0) (.int 0) (by rw [e]; rfl) (.int 0) (.inl (by decide))
      · exact fin (.ref t1) (.tuple []) (by rw [e]; rfl) e29 (.inl (by decide))
end
end My

namespace My
open PySem L2
theorem zs_dt {K : PySem.W.Frag} {H : Hp} : ∀ {vs : List V}, (∀ v ∈ vs, v = .int 0) → DtAll K H vs (vs.map fun _ => PyData.int 0)
  | [], _ => .nil
  | v :: r, h => by
    rw [h v List.mem_cons_self]
    exact .cons (.int 0) (zs_dt fun u hu => h u (List.mem_cons_of_mem _ hu))
theorem zs_short {vs : List V} : ∀ e ∈ vs.map fun _ => PyData.int 0, shortD e := fun e he => by
  obtain ⟨_, _, rfl⟩ := List.mem_map.mp he
  intro ds z
  cases z
theorem b_enumerate : bootBuiltins "enumerate" = some (.type "enumerate") := by kernel_rfl
theorem no_name {d : PyData} {t : Str} (h : nameD d = false) (e : d = .str t) (hn : nameS t = true) : False := by
  subst e
  have h' : nameS t = false := h
  rw [hn] at h'
  cases h'
theorem no_col {kl : List (Key × V)} {d : PyData} {t : Str} (h : colD kl d = false) (e : d = .str t) (hn : nameS t = true) (hv : (valV kl (.inr t : Key)).isSome = true) : False := by
  subst e
  have h' : (nameS t && (valV kl (.inr t : Key)).isSome) = false := h
  rw [hn, hv] at h'
  cases h'
theorem zs_list {vs : List V} (h : vs.length ≤ 1000) : ∀ ds, PyData.list (vs.map fun _ => PyData.int 0) = .list ds → ds.length ≤ 1000 ∧ ∀ e ∈ ds, shortD e := fun ds e => by
  cases e
  exact ⟨by rw [List.length_map]; exact h, zs_short⟩
theorem zs_no {vs : List V} {m : Int} (h : (vs.length : Int) ≠ m) : valuesD m (.list (vs.map fun _ => PyData.int 0)) = false := by
  show (decide (((vs.map fun _ => PyData.int 0).length : Int) = m) && _) = false
  rw [List.length_map, decide_eq_false h]
  rfl
theorem first_no {d : PyData} {ds : List PyData} {m : Int} (h : valueD d = false) : valuesD m (.list (d :: ds)) = false := by
  show (decide (((d :: ds).length : Int) = m) && (valueD d && ds.all valueD)) = false
  rw [h, Bool.false_and, Bool.and_false]
theorem cut_in {xs : List V} {lo hi : Option Int} {x : V} (h : x ∈ cutV xs lo hi) : x ∈ xs := List.mem_of_mem_drop (List.mem_of_mem_take h)
theorem zero_at {m : Int} (h : 1 ≤ m) : placeD m (.int 0) = true := by
  show (decide ((0 : Int) ≤ 0) && decide (0 < m)) = true
  rw [decide_eq_true (by omega), decide_eq_true (by omega)]
  rfl
theorem strs8 : nameS ("more" : Str) = true := more_name.1
/-- which refusal is due -/
def dueJ (way : Nat) (full : Bool) (n : Nat) : Nat := match way with
  | 0 => 0 | 1 => 1 | 2 => 2 | 3 => 2 | 4 => 2 | 5 => 3 | 6 => 3 | 7 => 4 | 8 => 2 | 9 => 3 | 10 => 4 | 11 => 4 | 12 => 4
  | 13 => if full then 1 else 2
  | 14 => 2
  | _ => if n < 8 then 2 else 1
def clsJ (c : Ad) : Nat → Addr
  | 0 => c.NoName | 1 => c.TooMuch | 2 => c.NoValue | 3 => c.NoColumn | _ => c.NoPlace
/-- what is handed to a way -/
structure A8 (K : PySem.W.Frag) (C : Addr) (H : Hp) (p r e : Addr) (xs : List V) (n : Int) (kl : List (Key × V)) (m far : Int) (bl : Addr) (b0 b1 b2 b3 b4 : V) (c7 : Int) (d0 d1 d2 d3 d4 : PyData) (vl : Addr) (zs : List V) (row : V) (drow : PyData) (col : Str) (cols : List Str) : Prop where
  tab : TabAt C H p r e xs n kl
  len : (xs.length : Int) = m
  m1 : 1 ≤ m
  m2 : m ≤ 30
  kk : kl.map (·.1) = kI cols
  co : ColsOk cols
  hb : H bl = some (.lst [b0, b1, b2, b3, b4, .int c7])
  bad : Bads K H m far b0 b1 b2 b3 d0 d1 d2 d3
  fr : P59 ≤ far
  e4 : Dt K H b4 d4
  p4 : placeD (m + 1) d4 = false
  hv : H vl = some (.lst zs)
  zl : (zs.length : Int) = m
  zz : ∀ v ∈ zs, v = .int 0
  er : Dt K H row drow
  rn : RowNo K H row drow cols
  ci : col ∈ cols
section
variable {K : PySem.W.Frag} {C : Addr} {H H' : Hp} {p r e : Addr} {xs : List V} {n : Int} {kl : List (Key × V)} {m far : Int} {bl : Addr} {b0 b1 b2 b3 b4 : V} {c7 : Int} {d0 d1 d2 d3 d4 : PyData} {vl : Addr} {zs : List V} {row : V} {drow : PyData} {col : Str} {cols : List Str}
theorem A8.same (s : Same H H') (h : A8 K C H p r e xs n kl m far bl b0 b1 b2 b3 b4 c7 d0 d1 d2 d3 d4 vl zs row drow col cols) : A8 K C H' p r e xs n kl m far bl b0 b1 b2 b3 b4 c7 d0 d1 d2 d3 d4 vl zs row drow col cols :=
  ⟨h.tab.same s, h.len, h.m1, h.m2, h.kk, h.co, s _ _ h.hb, h.bad.same s, h.fr, h.e4.same s, h.p4, s _ _ h.hv, h.zl, h.zz, h.er.same s, h.rn.same s, h.ci⟩
theorem A8.klen (h : A8 K C H p r e xs n kl m far bl b0 b1 b2 b3 b4 c7 d0 d1 d2 d3 d4 vl zs row drow col cols) : kl.length = cols.length := by
  have := congrArg List.length h.kk
  simpa [kI] using this
theorem A8.colIn (h : A8 K C H p r e xs n kl m far bl b0 b1 b2 b3 b4 c7 d0 d1 d2 d3 d4 vl zs row drow col cols) : (valV kl (.inr col : Key)).isSome = true := by
  obtain ⟨v, e⟩ := valV_of_in (kvs := kl) (k := (.inr col : Key)) (by rw [h.kk, kI_mem]; exact h.ci)
  rw [e]
  rfl
theorem A8.colD (h : A8 K C H p r e xs n kl m far bl b0 b1 b2 b3 b4 c7 d0 d1 d2 d3 d4 vl zs row drow col cols) : My.colD kl (.str col) = true := by
  show (nameS col && (valV kl (.inr col : Key)).isSome) = true
  rw [h.colIn, (h.co.s col h.ci).1]
  rfl
theorem A8.more (h : A8 K C H p r e xs n kl m far bl b0 b1 b2 b3 b4 c7 d0 d1 d2 d3 d4 vl zs row drow col cols) : valV kl (.inr ("more" : Str) : Key) = none := valV_of_not (by rw [h.kk, kI_mem]; exact h.co.m)
theorem A8.lost (h : A8 K C H p r e xs n kl m far bl b0 b1 b2 b3 b4 c7 d0 d1 d2 d3 d4 vl zs row drow col cols) : My.colD kl d1 = false := lost_no (valV_of_not (by rw [h.kk, kI_mem]; exact h.co.z)) d1 h.bad.m1
theorem A8.place (h : A8 K C H p r e xs n kl m far bl b0 b1 b2 b3 b4 c7 d0 d1 d2 d3 d4 vl zs row drow col cols) : placeD xs.length d2 = false := by
  rw [h.len]
  exact places_no h.fr (by have := h.m1; omega) h.m2 d2 h.bad.m2
theorem A8.keys (h : A8 K C H p r e xs n kl m far bl b0 b1 b2 b3 b4 c7 d0 d1 d2 d3 d4 vl zs row drow col cols) : kl.map (fun p => kV p.1) = cols.map V.str := by
  have : kl.map (fun p => kV p.1) = (kl.map (·.1)).map kV := by rw [List.map_map]; rfl
  rw [this, h.kk]
  unfold kI
  rw [List.map_map]
  rfl
end
section
variable {P : Program} {w : World} {K : PySem.W.Frag} {mg : Str → Option Value} {base : Heap}
def spDone (K : PySem.W.Frag) (C : Addr) (c : Ad) : Sp := fun vs H _ E => ∃ (p r e : Addr) (xs : List V) (n : Int) (kl : List (Key × V)) (m far : Int) (bl : Addr) (b0 b1 b2 b3 b4 : V) (c7 : Int) (d0 d1 d2 d3 d4 : PyData) (vl : Addr) (zs : List V) (row : V) (drow : PyData) (col : Str) (cols : List Str) (way : Nat),
  vs = [.ref p, .int (way : Int), .ref bl, .ref vl, row, .str col] ∧ A8 K C H p r e xs n kl m far bl b0 b1 b2 b3 b4 c7 d0 d1 d2 d3 d4 vl zs row drow col cols ∧ way < 16 ∧ (way = 1 → 8 ≤ cols.length) ∧ ∀ H', Same H H' → E (.ref (clsJ c (dueJ way (decide (m = 30)) cols.length))) none H'
theorem sc_law_done : FnScope ["_law_table", "_law_way", "_law_bad_here", "_law_values", "_law_row_here", "_law_column"] ["_law_table", "_law_way", "_law_bad_here", "_law_values", "_law_row_here", "_law_column"] (defScope s_law_done) := ⟨rfl, rfl, rfl, by decide +kernel, rfl, by decide +kernel, by decide +kernel⟩
theorem k_law_done (T : Tops K mg) {c : Ad} (X : Excs K mg c) {C : Addr} (Y : TTable K mg C) : Known P w K mg base (CXE P w) 7 "_law_done" ["_law_table", "_law_way", "_law_bad_here", "_law_values", "_law_row_here", "_law_column"] (spDone K C c) := by
  have G_give : KnownM P w K mg base (CXE P w) 5 C "give" ["self", "column", "values"] (spGive K C c) := k_Table_give T X Y
  have G_drop : KnownM P w K mg base (CXE P w) 3 C "drop" ["self", "column"] (spDrop K C c) := k_Table_drop T X Y
  have G_put : KnownM P w K mg base (CXE P w) 5 C "put" ["self", "column", "place", "value"] (spPut K C c) := k_Table_put T X Y
  have G_at : KnownM P w K mg base (CXE P w) 3 C "at" ["self", "column", "place"] (spAt K C c) := k_Table_at T X Y
  have G_take_out : KnownM P w K mg base (CXE P w) 3 C "take_out" ["self", "place"] (spTakeE K C c) := k_take_e T X Y
  have G_put_in : KnownM P w K mg base (CXE P w) 6 C "put_in" ["self", "place", "values"] (spPutE K C c) := k_put_in_e T X Y
  refine T.d_law_done.knownE sc_law_done (fun _ _ _ _ _ _ us hl => match us, hl with | [_, _, _, _, _, _], _ => rfl) (fun vs H Q E h => ?_) (fun f cdv A outer s H vs Q E hr h => ?_)
  · obtain ⟨p, r, e, xs, n, kl, m, far, bl, b0, b1, b2, b3, b4, c7, d0, d1, d2, d3, d4, vl, zs, row, drow, col, cols, way, rfl, _⟩ := h
    rfl
  · obtain ⟨p, r, e, xs, n, kl, m, far, bl, b0, b1, b2, b3, b4, c7, d0, d1, d2, d3, d4, vl, zs, row, drow, col, cols, way, rfl, W, hw, hw1, q⟩ := h
    refine boxS ⟨_, (pssw_cons (PSw.mk (ps_if (pt_cmpR op_eq (pv 1) pe_int (nomark _)) (pss_one (ps_expr (pe_methN (pv 0) Y.cl G_give (hr.mono (by decide)) passE (pa_cons (pe_ix ix_list (pv 2) pe_int (fun _ _ => rfl)) (pa_cons (pv 3) pa_nil))))) pss_nil))
      (pssw_cons (PSw.mk (ps_if (pt_cmpR op_eq (pv 1) pe_int (nomark _)) (pss_one (ps_expr (pe_methN (pv 0) Y.cl G_give (hr.mono (by decide)) passE (pa_cons pe_str (pa_cons (pv 3) pa_nil))))) pss_nil))
      (pssw_cons (PSw.mk (ps_if (pt_cmpR op_eq (pv 1) pe_int (nomark _)) (pss_one (ps_expr (pe_methN (pv 0) Y.cl G_give (hr.mono (by decide)) passE (pa_cons (pv 5) (pa_cons (pe_ix ix_list (pv 2) pe_int (fun _ _ => rfl)) pa_nil))))) pss_nil))
      (pssw_cons (PSw.mk (ps_if (pt_cmpR op_eq (pv 1) pe_int (nomark _)) (pss_one (ps_expr (pe_methN (pv 0) Y.cl G_give (hr.mono (by decide)) passE (pa_cons (pv 5) (pa_cons (pe_op op_cat (pv 3) (pe_lst (pa_cons pe_int pa_nil))) pa_nil))))) pss_nil))
      (pssw_cons (PSw.mk (ps_if (pt_cmpR op_eq (pv 1) pe_int (nomark _)) (pss_one (ps_expr (pe_methN (pv 0) Y.cl G_give (hr.mono (by decide)) passE (pa_cons (pv 5) (pa_cons (pe_op op_cat (pe_lst (pa_cons (pe_ix ix_list (pv 2) pe_int (fun _ _ => rfl)) pa_nil)) (pe_slice sl_list (pv 3) (po_some pe_int) po_none)) pa_nil))))) pss_nil))
      (pssw_cons (PSw.mk (ps_if (pt_cmpR op_eq (pv 1) pe_int (nomark _)) (pss_one (ps_expr (pe_methN (pv 0) Y.cl G_drop (hr.mono (by decide)) passE (pa_cons (pe_ix ix_list (pv 2) pe_int (fun _ _ => rfl)) pa_nil)))) pss_nil))
      (pssw_cons (PSw.mk (ps_if (pt_cmpR op_eq (pv 1) pe_int (nomark _)) (pss_one (ps_expr (pe_methN (pv 0) Y.cl G_put (hr.mono (by decide)) passE (pa_cons (pe_ix ix_list (pv 2) pe_int (fun _ _ => rfl)) (pa_cons (pe_ix ix_list (pv 2) pe_int (fun _ _ => rfl)) (pa_cons (pe_ix ix_list (pv 2) pe_int (fun _ _ => rfl)) pa_nil)))))) pss_nil))
      (pssw_cons (PSw.mk (ps_if (pt_cmpR op_eq (pv 1) pe_int (nomark _)) (pss_one (ps_expr (pe_methN (pv 0) Y.cl G_put (hr.mono (by decide)) passE (pa_cons (pv 5) (pa_cons (pe_ix ix_list (pv 2) pe_int (fun _ _ => rfl)) (pa_cons (pe_ix ix_list (pv 2) pe_int (fun _ _ => rfl)) pa_nil)))))) pss_nil))
      (pssw_cons (PSw.mk (ps_if (pt_cmpR op_eq (pv 1) pe_int (nomark _)) (pss_one (ps_expr (pe_methN (pv 0) Y.cl G_put (hr.mono (by decide)) passE (pa_cons (pv 5) (pa_cons pe_int (pa_cons (pe_ix ix_list (pv 2) pe_int (fun _ _ => rfl)) pa_nil)))))) pss_nil))
      (pssw_cons (PSw.mk (ps_if (pt_cmpR op_eq (pv 1) pe_int (nomark _)) (pss_one (ps_expr (pe_methN (pv 0) Y.cl G_at (hr.mono (by decide)) passE (pa_cons (pe_ix ix_list (pv 2) pe_int (fun _ _ => rfl)) (pa_cons (pe_ix ix_list (pv 2) pe_int (fun _ _ => rfl)) pa_nil))))) pss_nil))
      (pssw_cons (PSw.mk (ps_if (pt_cmpR op_eq (pv 1) pe_int (nomark _)) (pss_one (ps_expr (pe_methN (pv 0) Y.cl G_at (hr.mono (by decide)) passE (pa_cons (pv 5) (pa_cons (pe_ix ix_list (pv 2) pe_int (fun _ _ => rfl)) pa_nil))))) pss_nil))
      (pssw_cons (PSw.mk (ps_if (pt_cmpR op_eq (pv 1) pe_int (nomark _)) (pss_one (ps_expr (pe_methN (pv 0) Y.cl G_take_out (hr.mono (by decide)) passE (pa_cons (pe_ix ix_list (pv 2) pe_int (fun _ _ => rfl)) pa_nil)))) pss_nil))
      (pssw_cons (PSw.mk (ps_if (pt_cmpR op_eq (pv 1) pe_int (nomark _)) (pss_one (ps_expr (pe_methN (pv 0) Y.cl G_put_in (hr.mono (by decide)) passE (pa_cons (pe_ix ix_list (pv 2) pe_int (fun _ _ => rfl)) (pa_cons (pv 4) pa_nil))))) pss_nil))
      (pssw_cons (PSw.mk (ps_if (pt_cmpR op_eq (pv 1) pe_int (nomark _)) (pss_one (ps_expr (pe_methN (pv 0) Y.cl G_put_in (hr.mono (by decide)) passE (pa_cons pe_int (pa_cons (pv 4) pa_nil))))) pss_nil))
      (pssw_cons (PSw.mk (ps_if (pt_cmpR op_eq (pv 1) pe_int (nomark _)) (pss_one (ps_expr (pe_methN (pv 0) Y.cl G_give (hr.mono (by decide)) passE (pa_cons (pv 5) (pa_cons (pe_ix ix_list (pew_lst (paw_c (PEw.mk (pe_callTy call_tuple_of (by rfl) T.tuple b_tuple (pa_cons (pv 3) pa_nil))) (paw_c (PEw.mk (pe_dictenum (by rfl) (pv 3) (by rfl) T.dict b_dict (by rfl) T.enumerate b_enumerate)) (paw_b (PEw.mk (pe_op op_mul_str pe_str (pe_callB call_len (by rfl) T.len b_len (pa_cons (pv 3) pa_nil)))) paw_nil)))).run (pe_op op_mod (pe_ix ix_list (pv 2) pe_int (fun _ _ => rfl)) pe_int) (fun _ _ => rfl)) pa_nil))))) pss_nil))
      (pssw_one (PSw.mk (ps_if (pt_cmpR op_eq (pv 1) pe_int (nomark _)) (pss_one (ps_expr (pe_methN (pv 0) Y.cl G_give (hr.mono (by decide)) passE (pa_cons pe_str (pa_cons (pe_ix ix_list (pew_lst (paw_s (PEw.mk (pe_ix ix_list (pv 2) pe_int (fun _ _ => rfl))) (paw_b (PEw.mk (pe_op op_cat (pv 3) (pe_lst (pa_cons pe_int pa_nil)))) (paw_c (PEw.mk (pe_callTy call_tuple_of (by rfl) T.tuple b_tuple (pa_cons (pv 3) pa_nil))) paw_nil)))).run (pe_op op_mod (pe_ix ix_list (pv 2) pe_int (fun _ _ => rfl)) pe_int) (fun _ _ => rfl)) pa_nil))))) pss_nil)))))))))))))))))), ?_⟩
    obtain ⟨⟨dx, g1⟩, g2, g3⟩ := id W.tab
    have hxl := W.len
    have hzl := W.zl
    have hm1 := W.m1
    have hm2 := W.m2
    have hkl := W.klen
    have h16 : way = 0 ∨ way = 1 ∨ way = 2 ∨ way = 3 ∨ way = 4 ∨ way = 5 ∨ way = 6 ∨ way = 7 ∨ way = 8 ∨ way = 9 ∨ way = 10 ∨ way = 11 ∨ way = 12 ∨ way = 13 ∨ way = 14 ∨ way = 15 := by omega
    rcases h16 with rfl | rfl | rfl | rfl | rfl | rfl | rfl | rfl | rfl | rfl | rfl | rfl | rfl | rfl | rfl | rfl
    · refine ⟨_, rfl, rfl, _, rfl, ?_⟩
      refine ite2 (fun _ => ?_) (fun y => absurd (decide_eq_true rfl) y)
      exact ⟨_, rfl, p, dx, _, rfl, g1, flds_no, _, rfl, bl, _, _, b0, rfl, rfl, SqL.of W.hb, rfl, _, rfl, p, r, e, xs, n, kl, b0, d0, .ref vl, (.list (zs.map fun _ => PyData.int 0)), rfl, W.tab, W.bad.e0, badNames_short d0 W.bad.m0, .lst (SqL.of W.hv) (zs_dt W.zz), (zs_list (by omega)), (fun t e hn => (no_name (badNames_no d0 W.bad.m0) e hn).elim), (fun _ H' s' => q H' s'), (fun t e hn => (no_name (badNames_no d0 W.bad.m0) e hn).elim), (fun t e hn => (no_name (badNames_no d0 W.bad.m0) e hn).elim)⟩
    · refine ⟨_, rfl, rfl, _, rfl, ?_⟩
      refine ite2 (fun y => absurd (of_decide_eq_true y) (by intro y; cases y)) (fun _ => ?_)
      refine ⟨_, rfl, rfl, _, rfl, ?_⟩
      refine ite2 (fun _ => ?_) (fun y => absurd (decide_eq_true rfl) y)
      have h8 := hw1 rfl
      exact ⟨_, rfl, p, dx, _, rfl, g1, flds_no, _, rfl, p, r, e, xs, n, kl, .str ("more" : Str), .str ("more" : Str), .ref vl, (.list (zs.map fun _ => PyData.int 0)), rfl, W.tab, .str _, shortS_str (by decide), .lst (SqL.of W.hv) (zs_dt W.zz), (zs_list (by omega)), (fun t e hn hs => by cases e; rw [W.more] at hs; rcases hs with hs | hs <;> first | (cases hs; done) | (exfalso; omega)), (fun z => absurd z (by show ¬ nameS ("more" : Str) = false; rw [strs8]; decide)), (fun t e hn hv hl H' s' => q H' s'), (fun t e hn hs => by cases e; rw [W.more] at hs; rcases hs with hs | hs <;> first | (cases hs; done) | (exfalso; omega))⟩
    · refine ⟨_, rfl, rfl, _, rfl, ?_⟩
      refine ite2 (fun y => absurd (of_decide_eq_true y) (by intro y; cases y)) (fun _ => ?_)
      refine ⟨_, rfl, rfl, _, rfl, ?_⟩
      refine ite2 (fun y => absurd (of_decide_eq_true y) (by intro y; cases y)) (fun _ => ?_)
      refine ⟨_, rfl, rfl, _, rfl, ?_⟩
      refine ite2 (fun _ => ?_) (fun y => absurd (decide_eq_true rfl) y)
      exact ⟨_, rfl, p, dx, _, rfl, g1, flds_no, _, rfl, _, rfl, bl, _, _, b3, rfl, rfl, SqL.of W.hb, rfl, p, r, e, xs, n, kl, .str col, .str col, b3, d3, rfl, W.tab, .str _, shortS_str (Nat.le_trans (W.co.s col W.ci).2 (by decide)), W.bad.e3, vals_list d3 W.bad.m3, (fun t e hn hs z => by rw [vals_col _ d3 W.bad.m3] at z; cases z), (fun z => absurd z (by show ¬ nameS col = false; rw [(W.co.s col W.ci).1]; decide)), (fun t e hn hv => by cases e; have := W.colIn; rw [hv] at this; cases this), (fun t e hn hs z H' s' => q H' s')⟩
    · refine ⟨_, rfl, rfl, _, rfl, ?_⟩
      refine ite2 (fun y => absurd (of_decide_eq_true y) (by intro y; cases y)) (fun _ => ?_)
      refine ⟨_, rfl, rfl, _, rfl, ?_⟩
      refine ite2 (fun y => absurd (of_decide_eq_true y) (by intro y; cases y)) (fun _ => ?_)
      refine ⟨_, rfl, rfl, _, rfl, ?_⟩
      refine ite2 (fun y => absurd (of_decide_eq_true y) (by intro y; cases y)) (fun _ => ?_)
      refine ⟨_, rfl, rfl, _, rfl, ?_⟩
      refine ite2 (fun _ => ?_) (fun y => absurd (decide_eq_true rfl) y)
      refine ⟨_, rfl, p, dx, _, rfl, g1, flds_no, _, rfl, _, rfl, sl, fun l1 hl1 => ?_⟩
      have u1 := Same.new (o := .lst [.int 0]) hl1
      refine ⟨vl, l1, zs, [.int 0], rfl, rfl, u1 _ _ W.hv, upd_same, Nat.le_of_lt (small1000 (by simp; omega)), fun l2 hl2 => ?_⟩
      have u2 := Same.new (o := .lst (zs ++ [.int 0])) hl2
      have W2 := W.same (u1.trans u2)
      have zz2 : ∀ v ∈ zs ++ [V.int 0], v = .int 0 := fun v hv => (List.mem_append.mp hv).elim (W.zz v) fun h => List.mem_singleton.mp h
      have no2 : valuesD xs.length (.list ((zs ++ [V.int 0]).map fun _ => PyData.int 0)) = false := zs_no (by rw [List.length_append]; simp; omega)
      exact ⟨p, r, e, xs, n, kl, .str col, .str col, .ref l2, (.list ((zs ++ [V.int 0]).map fun _ => PyData.int 0)), rfl, W2.tab, .str _, shortS_str (Nat.le_trans (W.co.s col W.ci).2 (by decide)), .lst (SqL.of upd_same) (zs_dt zz2), (zs_list (by rw [List.length_append]; simp; omega)), (fun t e hn hs z => by rw [no2] at z; cases z), (fun z => absurd z (by show ¬ nameS col = false; rw [(W.co.s col W.ci).1]; decide)), (fun t e hn hv => by cases e; have := W.colIn; rw [hv] at this; cases this), (fun t e hn hs z H' s' => q H' ((u1.trans u2).trans s'))⟩
    · refine ⟨_, rfl, rfl, _, rfl, ?_⟩
      refine ite2 (fun y => absurd (of_decide_eq_true y) (by intro y; cases y)) (fun _ => ?_)
      refine ⟨_, rfl, rfl, _, rfl, ?_⟩
      refine ite2 (fun y => absurd (of_decide_eq_true y) (by intro y; cases y)) (fun _ => ?_)
      refine ⟨_, rfl, rfl, _, rfl, ?_⟩
      refine ite2 (fun y => absurd (of_decide_eq_true y) (by intro y; cases y)) (fun _ => ?_)
      refine ⟨_, rfl, rfl, _, rfl, ?_⟩
      refine ite2 (fun y => absurd (of_decide_eq_true y) (by intro y; cases y)) (fun _ => ?_)
      refine ⟨_, rfl, rfl, _, rfl, ?_⟩
      refine ite2 (fun _ => ?_) (fun y => absurd (decide_eq_true rfl) y)
      refine ⟨_, rfl, p, dx, _, rfl, g1, flds_no, _, rfl, _, rfl, bl, _, _, b3, rfl, rfl, SqL.of W.hb, rfl, sl, fun l1 hl1 => ?_⟩
      have u1 := Same.new (o := .lst [b3]) hl1
      refine ⟨_, rfl, _, rfl, vl, zs, rfl, SqL.of (u1 _ _ W.hv), fun l2 hl2 => ?_⟩
      have u2 := Same.new (o := .lst (cutV zs (some 1) none)) hl2
      have hcl := cutV_length zs (some 1) none
      refine ⟨l1, l2, [b3], cutV zs (some 1) none, rfl, rfl, u2 _ _ upd_same, upd_same, Nat.le_of_lt (small1000 (by simp; omega)), fun l3 hl3 => ?_⟩
      have u3 := Same.new (o := .lst ([b3] ++ cutV zs (some 1) none)) hl3
      have u13 := u1.trans (u2.trans u3)
      have W2 := W.same u13
      have all2 : DtAll K _ ([b3] ++ cutV zs (some 1) none) (d3 :: (cutV zs (some 1) none).map fun _ => PyData.int 0) := .cons W2.bad.e3 (zs_dt fun v hv => W.zz v (cut_in hv))
      have no2 : valuesD xs.length (.list (d3 :: (cutV zs (some 1) none).map fun _ => PyData.int 0)) = false := first_no (vals_no d3 W.bad.m3)
      exact ⟨p, r, e, xs, n, kl, .str col, .str col, .ref l3, (.list (d3 :: (cutV zs (some 1) none).map fun _ => PyData.int 0)), rfl, W2.tab, .str _, shortS_str (Nat.le_trans (W.co.s col W.ci).2 (by decide)), .lst (SqL.of upd_same) all2, (fun ds e => by cases e; exact ⟨by rw [List.length_cons, List.length_map]; omega, fun x hx => (List.mem_cons.mp hx).elim (fun h => h ▸ vals_short d3 W.bad.m3) (zs_short x)⟩), (fun t e hn hs z => by rw [no2] at z; cases z), (fun z => absurd z (by show ¬ nameS col = false; rw [(W.co.s col W.ci).1]; decide)), (fun t e hn hv => by cases e; have := W.colIn; rw [hv] at this; cases this), (fun t e hn hs z H' s' => q H' (u13.trans s'))⟩
    · refine ⟨_, rfl, rfl, _, rfl, ?_⟩
      refine ite2 (fun y => absurd (of_decide_eq_true y) (by intro y; cases y)) (fun _ => ?_)
      refine ⟨_, rfl, rfl, _, rfl, ?_⟩
      refine ite2 (fun y => absurd (of_decide_eq_true y) (by intro y; cases y)) (fun _ => ?_)
      refine ⟨_, rfl, rfl, _, rfl, ?_⟩
      refine ite2 (fun y => absurd (of_decide_eq_true y) (by intro y; cases y)) (fun _ => ?_)
      refine ⟨_, rfl, rfl, _, rfl, ?_⟩
      refine ite2 (fun y => absurd (of_decide_eq_true y) (by intro y; cases y)) (fun _ => ?_)
      refine ⟨_, rfl, rfl, _, rfl, ?_⟩
      refine ite2 (fun y => absurd (of_decide_eq_true y) (by intro y; cases y)) (fun _ => ?_)
      refine ⟨_, rfl, rfl, _, rfl, ?_⟩
      refine ite2 (fun _ => ?_) (fun y => absurd (decide_eq_true rfl) y)
      exact ⟨_, rfl, p, dx, _, rfl, g1, flds_no, _, rfl, bl, _, _, b1, rfl, rfl, SqL.of W.hb, rfl, p, r, e, xs, n, kl, b1, d1, rfl, W.tab, W.bad.e1, lost_short d1 W.bad.m1, (fun t e hn hv => (no_col W.lost e hn hv).elim), fun _ H' s' => q H' s'⟩
    · refine ⟨_, rfl, rfl, _, rfl, ?_⟩
      refine ite2 (fun y => absurd (of_decide_eq_true y) (by intro y; cases y)) (fun _ => ?_)
      refine ⟨_, rfl, rfl, _, rfl, ?_⟩
      refine ite2 (fun y => absurd (of_decide_eq_true y) (by intro y; cases y)) (fun _ => ?_)
      refine ⟨_, rfl, rfl, _, rfl, ?_⟩
      refine ite2 (fun y => absurd (of_decide_eq_true y) (by intro y; cases y)) (fun _ => ?_)
      refine ⟨_, rfl, rfl, _, rfl, ?_⟩
      refine ite2 (fun y => absurd (of_decide_eq_true y) (by intro y; cases y)) (fun _ => ?_)
      refine ⟨_, rfl, rfl, _, rfl, ?_⟩
      refine ite2 (fun y => absurd (of_decide_eq_true y) (by intro y; cases y)) (fun _ => ?_)
      refine ⟨_, rfl, rfl, _, rfl, ?_⟩
      refine ite2 (fun y => absurd (of_decide_eq_true y) (by intro y; cases y)) (fun _ => ?_)
      refine ⟨_, rfl, rfl, _, rfl, ?_⟩
      refine ite2 (fun _ => ?_) (fun y => absurd (decide_eq_true rfl) y)
      exact ⟨_, rfl, p, dx, _, rfl, g1, flds_no, _, rfl, bl, _, _, b1, rfl, rfl, SqL.of W.hb, rfl, _, rfl, bl, _, _, b2, rfl, rfl, SqL.of W.hb, rfl, _, rfl, bl, _, _, b3, rfl, rfl, SqL.of W.hb, rfl, p, r, e, xs, n, kl, b1, d1, b2, d2, b3, d3, rfl, W.tab, W.bad.e1, lost_short d1 W.bad.m1, W.bad.e2, W.bad.e3, vals_short d3 W.bad.m3, (fun z => by rw [W.lost] at z; cases z), (fun _ H' s' => q H' s'), (fun z => by rw [W.lost] at z; cases z), (fun z => by rw [W.lost] at z; cases z)⟩
    · refine ⟨_, rfl, rfl, _, rfl, ?_⟩
      refine ite2 (fun y => absurd (of_decide_eq_true y) (by intro y; cases y)) (fun _ => ?_)
      refine ⟨_, rfl, rfl, _, rfl, ?_⟩
      refine ite2 (fun y => absurd (of_decide_eq_true y) (by intro y; cases y)) (fun _ => ?_)
      refine ⟨_, rfl, rfl, _, rfl, ?_⟩
      refine ite2 (fun y => absurd (of_decide_eq_true y) (by intro y; cases y)) (fun _ => ?_)
      refine ⟨_, rfl, rfl, _, rfl, ?_⟩
      refine ite2 (fun y => absurd (of_decide_eq_true y) (by intro y; cases y)) (fun _ => ?_)
      refine ⟨_, rfl, rfl, _, rfl, ?_⟩
      refine ite2 (fun y => absurd (of_decide_eq_true y) (by intro y; cases y)) (fun _ => ?_)
      refine ⟨_, rfl, rfl, _, rfl, ?_⟩
      refine ite2 (fun y => absurd (of_decide_eq_true y) (by intro y; cases y)) (fun _ => ?_)
      refine ⟨_, rfl, rfl, _, rfl, ?_⟩
      refine ite2 (fun y => absurd (of_decide_eq_true y) (by intro y; cases y)) (fun _ => ?_)
      refine ⟨_, rfl, rfl, _, rfl, ?_⟩
      refine ite2 (fun _ => ?_) (fun y => absurd (decide_eq_true rfl) y)
      exact ⟨_, rfl, p, dx, _, rfl, g1, flds_no, _, rfl, _, rfl, bl, _, _, b2, rfl, rfl, SqL.of W.hb, rfl, _, rfl, bl, _, _, b3, rfl, rfl, SqL.of W.hb, rfl, p, r, e, xs, n, kl, .str col, .str col, b2, d2, b3, d3, rfl, W.tab, .str _, shortS_str (Nat.le_trans (W.co.s col W.ci).2 (by decide)), W.bad.e2, W.bad.e3, vals_short d3 W.bad.m3, (fun _ z => by rw [W.place] at z; cases z), (fun z => by rw [W.colD] at z; cases z), (fun _ _ H' s' => q H' s'), (fun _ z => by rw [W.place] at z; cases z)⟩
    · refine ⟨_, rfl, rfl, _, rfl, ?_⟩
      refine ite2 (fun y => absurd (of_decide_eq_true y) (by intro y; cases y)) (fun _ => ?_)
      refine ⟨_, rfl, rfl, _, rfl, ?_⟩
      refine ite2 (fun y => absurd (of_decide_eq_true y) (by intro y; cases y)) (fun _ => ?_)
      refine ⟨_, rfl, rfl, _, rfl, ?_⟩
      refine ite2 (fun y => absurd (of_decide_eq_true y) (by intro y; cases y)) (fun _ => ?_)
      refine ⟨_, rfl, rfl, _, rfl, ?_⟩
      refine ite2 (fun y => absurd (of_decide_eq_true y) (by intro y; cases y)) (fun _ => ?_)
      refine ⟨_, rfl, rfl, _, rfl, ?_⟩
      refine ite2 (fun y => absurd (of_decide_eq_true y) (by intro y; cases y)) (fun _ => ?_)
      refine ⟨_, rfl, rfl, _, rfl, ?_⟩
      refine ite2 (fun y => absurd (of_decide_eq_true y) (by intro y; cases y)) (fun _ => ?_)
      refine ⟨_, rfl, rfl, _, rfl, ?_⟩
      refine ite2 (fun y => absurd (of_decide_eq_true y) (by intro y; cases y)) (fun _ => ?_)
      refine ⟨_, rfl, rfl, _, rfl, ?_⟩
      refine ite2 (fun y => absurd (of_decide_eq_true y) (by intro y; cases y)) (fun _ => ?_)
      refine ⟨_, rfl, rfl, _, rfl, ?_⟩
      refine ite2 (fun _ => ?_) (fun y => absurd (decide_eq_true rfl) y)
      have hz0 : placeD (xs.length : Int) (.int 0) = true := zero_at (by rw [W.len]; exact W.m1)
      exact ⟨_, rfl, p, dx, _, rfl, g1, flds_no, _, rfl, _, rfl, bl, _, _, b3, rfl, rfl, SqL.of W.hb, rfl, p, r, e, xs, n, kl, .str col, .str col, .int 0, .int 0, b3, d3, rfl, W.tab, .str _, shortS_str (Nat.le_trans (W.co.s col W.ci).2 (by decide)), .int 0, W.bad.e3, vals_short d3 W.bad.m3, (fun _ _ z => by rw [vals_no d3 W.bad.m3] at z; cases z), (fun z => by rw [W.colD] at z; cases z), (fun _ z => by rw [hz0] at z; cases z), fun _ _ _ H' s' => q H' s'⟩
    · refine ⟨_, rfl, rfl, _, rfl, ?_⟩
      refine ite2 (fun y => absurd (of_decide_eq_true y) (by intro y; cases y)) (fun _ => ?_)
      refine ⟨_, rfl, rfl, _, rfl, ?_⟩
      refine ite2 (fun y => absurd (of_decide_eq_true y) (by intro y; cases y)) (fun _ => ?_)
      refine ⟨_, rfl, rfl, _, rfl, ?_⟩
      refine ite2 (fun y => absurd (of_decide_eq_true y) (by intro y; cases y)) (fun _ => ?_)
      refine ⟨_, rfl, rfl, _, rfl, ?_⟩
      refine ite2 (fun y => absurd (of_decide_eq_true y) (by intro y; cases y)) (fun _ => ?_)
      refine ⟨_, rfl, rfl, _, rfl, ?_⟩
      refine ite2 (fun y => absurd (of_decide_eq_true y) (by intro y; cases y)) (fun _ => ?_)
      refine ⟨_, rfl, rfl, _, rfl, ?_⟩
      refine ite2 (fun y => absurd (of_decide_eq_true y) (by intro y; cases y)) (fun _ => ?_)
      refine ⟨_, rfl, rfl, _, rfl, ?_⟩
      refine ite2 (fun y => absurd (of_decide_eq_true y) (by intro y; cases y)) (fun _ => ?_)
      refine ⟨_, rfl, rfl, _, rfl, ?_⟩
      refine ite2 (fun y => absurd (of_decide_eq_true y) (by intro y; cases y)) (fun _ => ?_)
      refine ⟨_, rfl, rfl, _, rfl, ?_⟩
      refine ite2 (fun y => absurd (of_decide_eq_true y) (by intro y; cases y)) (fun _ => ?_)
      refine ⟨_, rfl, rfl, _, rfl, ?_⟩
      refine ite2 (fun _ => ?_) (fun y => absurd (decide_eq_true rfl) y)
      exact ⟨_, rfl, p, dx, _, rfl, g1, flds_no, _, rfl, bl, _, _, b1, rfl, rfl, SqL.of W.hb, rfl, _, rfl, bl, _, _, b2, rfl, rfl, SqL.of W.hb, rfl, p, r, e, xs, n, kl, b1, d1, b2, d2, rfl, W.tab, W.bad.e1, lost_short d1 W.bad.m1, W.bad.e2, (fun t l ys i v e hn hv => (no_col W.lost e hn (by rw [hv]; rfl)).elim), (fun z => by rw [W.lost] at z; cases z), (fun _ H' s' => q H' s'), (fun z => by rw [W.lost] at z; cases z)⟩
    · refine ⟨_, rfl, rfl, _, rfl, ?_⟩
      refine ite2 (fun y => absurd (of_decide_eq_true y) (by intro y; cases y)) (fun _ => ?_)
      refine ⟨_, rfl, rfl, _, rfl, ?_⟩
      refine ite2 (fun y => absurd (of_decide_eq_true y) (by intro y; cases y)) (fun _ => ?_)
      refine ⟨_, rfl, rfl, _, rfl, ?_⟩
      refine ite2 (fun y => absurd (of_decide_eq_true y) (by intro y; cases y)) (fun _ => ?_)
      refine ⟨_, rfl, rfl, _, rfl, ?_⟩
      refine ite2 (fun y => absurd (of_decide_eq_true y) (by intro y; cases y)) (fun _ => ?_)
      refine ⟨_, rfl, rfl, _, rfl, ?_⟩
      refine ite2 (fun y => absurd (of_decide_eq_true y) (by intro y; cases y)) (fun _ => ?_)
      refine ⟨_, rfl, rfl, _, rfl, ?_⟩
      refine ite2 (fun y => absurd (of_decide_eq_true y) (by intro y; cases y)) (fun _ => ?_)
      refine ⟨_, rfl, rfl, _, rfl, ?_⟩
      refine ite2 (fun y => absurd (of_decide_eq_true y) (by intro y; cases y)) (fun _ => ?_)
      refine ⟨_, rfl, rfl, _, rfl, ?_⟩
      refine ite2 (fun y => absurd (of_decide_eq_true y) (by intro y; cases y)) (fun _ => ?_)
      refine ⟨_, rfl, rfl, _, rfl, ?_⟩
      refine ite2 (fun y => absurd (of_decide_eq_true y) (by intro y; cases y)) (fun _ => ?_)
      refine ⟨_, rfl, rfl, _, rfl, ?_⟩
      refine ite2 (fun y => absurd (of_decide_eq_true y) (by intro y; cases y)) (fun _ => ?_)
      refine ⟨_, rfl, rfl, _, rfl, ?_⟩
      refine ite2 (fun _ => ?_) (fun y => absurd (decide_eq_true rfl) y)
      exact ⟨_, rfl, p, dx, _, rfl, g1, flds_no, _, rfl, _, rfl, bl, _, _, b2, rfl, rfl, SqL.of W.hb, rfl, p, r, e, xs, n, kl, .str col, .str col, b2, d2, rfl, W.tab, .str _, shortS_str (Nat.le_trans (W.co.s col W.ci).2 (by decide)), W.bad.e2, (fun t l ys i v e hn hv hl ei i0 i1 => by
        exfalso
        have hp := W.place
        rw [ei] at hp
        have hp' : (decide (0 ≤ i) && decide (i < (xs.length : Int))) = false := hp
        rw [decide_eq_true i0, decide_eq_true i1] at hp'
        cases hp'), (fun _ z => by rw [W.place] at z; cases z), (fun z => by rw [W.colD] at z; cases z), fun _ _ H' s' => q H' s'⟩
    · refine ⟨_, rfl, rfl, _, rfl, ?_⟩
      refine ite2 (fun y => absurd (of_decide_eq_true y) (by intro y; cases y)) (fun _ => ?_)
      refine ⟨_, rfl, rfl, _, rfl, ?_⟩
      refine ite2 (fun y => absurd (of_decide_eq_true y) (by intro y; cases y)) (fun _ => ?_)
      refine ⟨_, rfl, rfl, _, rfl, ?_⟩
      refine ite2 (fun y => absurd (of_decide_eq_true y) (by intro y; cases y)) (fun _ => ?_)
      refine ⟨_, rfl, rfl, _, rfl, ?_⟩
      refine ite2 (fun y => absurd (of_decide_eq_true y) (by intro y; cases y)) (fun _ => ?_)
      refine ⟨_, rfl, rfl, _, rfl, ?_⟩
      refine ite2 (fun y => absurd (of_decide_eq_true y) (by intro y; cases y)) (fun _ => ?_)
      refine ⟨_, rfl, rfl, _, rfl, ?_⟩
      refine ite2 (fun y => absurd (of_decide_eq_true y) (by intro y; cases y)) (fun _ => ?_)
      refine ⟨_, rfl, rfl, _, rfl, ?_⟩
      refine ite2 (fun y => absurd (of_decide_eq_true y) (by intro y; cases y)) (fun _ => ?_)
      refine ⟨_, rfl, rfl, _, rfl, ?_⟩
      refine ite2 (fun y => absurd (of_decide_eq_true y) (by intro y; cases y)) (fun _ => ?_)
      refine ⟨_, rfl, rfl, _, rfl, ?_⟩
      refine ite2 (fun y => absurd (of_decide_eq_true y) (by intro y; cases y)) (fun _ => ?_)
      refine ⟨_, rfl, rfl, _, rfl, ?_⟩
      refine ite2 (fun y => absurd (of_decide_eq_true y) (by intro y; cases y)) (fun _ => ?_)
      refine ⟨_, rfl, rfl, _, rfl, ?_⟩
      refine ite2 (fun y => absurd (of_decide_eq_true y) (by intro y; cases y)) (fun _ => ?_)
      refine ⟨_, rfl, rfl, _, rfl, ?_⟩
      refine ite2 (fun _ => ?_) (fun y => absurd (decide_eq_true rfl) y)
      exact ⟨_, rfl, p, dx, _, rfl, g1, flds_no, _, rfl, bl, _, _, b2, rfl, rfl, SqL.of W.hb, rfl, p, r, e, xs, n, kl, b2, d2, rfl, W.tab, W.bad.e2, W.place, q H (Same.refl _)⟩
    · refine ⟨_, rfl, rfl, _, rfl, ?_⟩
      refine ite2 (fun y => absurd (of_decide_eq_true y) (by intro y; cases y)) (fun _ => ?_)
      refine ⟨_, rfl, rfl, _, rfl, ?_⟩
      refine ite2 (fun y => absurd (of_decide_eq_true y) (by intro y; cases y)) (fun _ => ?_)
      refine ⟨_, rfl, rfl, _, rfl, ?_⟩
      refine ite2 (fun y => absurd (of_decide_eq_true y) (by intro y; cases y)) (fun _ => ?_)
      refine ⟨_, rfl, rfl, _, rfl, ?_⟩
      refine ite2 (fun y => absurd (of_decide_eq_true y) (by intro y; cases y)) (fun _ => ?_)
      refine ⟨_, rfl, rfl, _, rfl, ?_⟩
      refine ite2 (fun y => absurd (of_decide_eq_true y) (by intro y; cases y)) (fun _ => ?_)
      refine ⟨_, rfl, rfl, _, rfl, ?_⟩
      refine ite2 (fun y => absurd (of_decide_eq_true y) (by intro y; cases y)) (fun _ => ?_)
      refine ⟨_, rfl, rfl, _, rfl, ?_⟩
      refine ite2 (fun y => absurd (of_decide_eq_true y) (by intro y; cases y)) (fun _ => ?_)
      refine ⟨_, rfl, rfl, _, rfl, ?_⟩
      refine ite2 (fun y => absurd (of_decide_eq_true y) (by intro y; cases y)) (fun _ => ?_)
      refine ⟨_, rfl, rfl, _, rfl, ?_⟩
      refine ite2 (fun y => absurd (of_decide_eq_true y) (by intro y; cases y)) (fun _ => ?_)
      refine ⟨_, rfl, rfl, _, rfl, ?_⟩
      refine ite2 (fun y => absurd (of_decide_eq_true y) (by intro y; cases y)) (fun _ => ?_)
      refine ⟨_, rfl, rfl, _, rfl, ?_⟩
      refine ite2 (fun y => absurd (of_decide_eq_true y) (by intro y; cases y)) (fun _ => ?_)
      refine ⟨_, rfl, rfl, _, rfl, ?_⟩
      refine ite2 (fun y => absurd (of_decide_eq_true y) (by intro y; cases y)) (fun _ => ?_)
      refine ⟨_, rfl, rfl, _, rfl, ?_⟩
      refine ite2 (fun _ => ?_) (fun y => absurd (decide_eq_true rfl) y)
      exact ⟨_, rfl, p, dx, _, rfl, g1, flds_no, _, rfl, bl, _, _, b4, rfl, rfl, SqL.of W.hb, rfl, _, rfl, p, r, e, xs, n, kl, b4, d4, row, drow, cols, rfl, W.tab, W.e4, W.er, W.keys, .inl ⟨by rw [W.len]; exact W.p4, q⟩⟩
    · refine ⟨_, rfl, rfl, _, rfl, ?_⟩
      refine ite2 (fun y => absurd (of_decide_eq_true y) (by intro y; cases y)) (fun _ => ?_)
      refine ⟨_, rfl, rfl, _, rfl, ?_⟩
      refine ite2 (fun y => absurd (of_decide_eq_true y) (by intro y; cases y)) (fun _ => ?_)
      refine ⟨_, rfl, rfl, _, rfl, ?_⟩
      refine ite2 (fun y => absurd (of_decide_eq_true y) (by intro y; cases y)) (fun _ => ?_)
      refine ⟨_, rfl, rfl, _, rfl, ?_⟩
      refine ite2 (fun y => absurd (of_decide_eq_true y) (by intro y; cases y)) (fun _ => ?_)
      refine ⟨_, rfl, rfl, _, rfl, ?_⟩
      refine ite2 (fun y => absurd (of_decide_eq_true y) (by intro y; cases y)) (fun _ => ?_)
      refine ⟨_, rfl, rfl, _, rfl, ?_⟩
      refine ite2 (fun y => absurd (of_decide_eq_true y) (by intro y; cases y)) (fun _ => ?_)
      refine ⟨_, rfl, rfl, _, rfl, ?_⟩
      refine ite2 (fun y => absurd (of_decide_eq_true y) (by intro y; cases y)) (fun _ => ?_)
      refine ⟨_, rfl, rfl, _, rfl, ?_⟩
      refine ite2 (fun y => absurd (of_decide_eq_true y) (by intro y; cases y)) (fun _ => ?_)
      refine ⟨_, rfl, rfl, _, rfl, ?_⟩
      refine ite2 (fun y => absurd (of_decide_eq_true y) (by intro y; cases y)) (fun _ => ?_)
      refine ⟨_, rfl, rfl, _, rfl, ?_⟩
      refine ite2 (fun y => absurd (of_decide_eq_true y) (by intro y; cases y)) (fun _ => ?_)
      refine ⟨_, rfl, rfl, _, rfl, ?_⟩
      refine ite2 (fun y => absurd (of_decide_eq_true y) (by intro y; cases y)) (fun _ => ?_)
      refine ⟨_, rfl, rfl, _, rfl, ?_⟩
      refine ite2 (fun y => absurd (of_decide_eq_true y) (by intro y; cases y)) (fun _ => ?_)
      refine ⟨_, rfl, rfl, _, rfl, ?_⟩
      refine ite2 (fun y => absurd (of_decide_eq_true y) (by intro y; cases y)) (fun _ => ?_)
      refine ⟨_, rfl, rfl, _, rfl, ?_⟩
      refine ite2 (fun _ => ?_) (fun y => absurd (decide_eq_true rfl) y)
      have hz0 : placeD ((xs.length : Int) + 1) (.int 0) = true := zero_at (by omega)
      refine ⟨_, rfl, p, dx, _, rfl, g1, flds_no, _, rfl, p, r, e, xs, n, kl, .int 0, .int 0, row, drow, cols, rfl, W.tab, .int 0, W.er, W.keys, ?_⟩
      by_cases h30 : m = 30
      · refine .inr (.inl ⟨hz0, by have := W.len; omega, fun H' s' => ?_⟩)
        have := q H' s'
        rw [decide_eq_true h30] at this
        exact this
      · refine .inr (.inr ⟨hz0, by have := W.len; have := W.m2; omega, W.rn, fun H' s' => ?_⟩)
        have := q H' s'
        rw [decide_eq_false h30] at this
        exact this
    · refine ⟨_, rfl, rfl, _, rfl, ?_⟩
      refine ite2 (fun y => absurd (of_decide_eq_true y) (by intro y; cases y)) (fun _ => ?_)
      refine ⟨_, rfl, rfl, _, rfl, ?_⟩
      refine ite2 (fun y => absurd (of_decide_eq_true y) (by intro y; cases y)) (fun _ => ?_)
      refine ⟨_, rfl, rfl, _, rfl, ?_⟩
      refine ite2 (fun y => absurd (of_decide_eq_true y) (by intro y; cases y)) (fun _ => ?_)
      refine ⟨_, rfl, rfl, _, rfl, ?_⟩
      refine ite2 (fun y => absurd (of_decide_eq_true y) (by intro y; cases y)) (fun _ => ?_)
      refine ⟨_, rfl, rfl, _, rfl, ?_⟩
      refine ite2 (fun y => absurd (of_decide_eq_true y) (by intro y; cases y)) (fun _ => ?_)
      refine ⟨_, rfl, rfl, _, rfl, ?_⟩
      refine ite2 (fun y => absurd (of_decide_eq_true y) (by intro y; cases y)) (fun _ => ?_)
      refine ⟨_, rfl, rfl, _, rfl, ?_⟩
      refine ite2 (fun y => absurd (of_decide_eq_true y) (by intro y; cases y)) (fun _ => ?_)
      refine ⟨_, rfl, rfl, _, rfl, ?_⟩
      refine ite2 (fun y => absurd (of_decide_eq_true y) (by intro y; cases y)) (fun _ => ?_)
      refine ⟨_, rfl, rfl, _, rfl, ?_⟩
      refine ite2 (fun y => absurd (of_decide_eq_true y) (by intro y; cases y)) (fun _ => ?_)
      refine ⟨_, rfl, rfl, _, rfl, ?_⟩
      refine ite2 (fun y => absurd (of_decide_eq_true y) (by intro y; cases y)) (fun _ => ?_)
      refine ⟨_, rfl, rfl, _, rfl, ?_⟩
      refine ite2 (fun y => absurd (of_decide_eq_true y) (by intro y; cases y)) (fun _ => ?_)
      refine ⟨_, rfl, rfl, _, rfl, ?_⟩
      refine ite2 (fun y => absurd (of_decide_eq_true y) (by intro y; cases y)) (fun _ => ?_)
      refine ⟨_, rfl, rfl, _, rfl, ?_⟩
      refine ite2 (fun y => absurd (of_decide_eq_true y) (by intro y; cases y)) (fun _ => ?_)
      refine ⟨_, rfl, rfl, _, rfl, ?_⟩
      refine ite2 (fun y => absurd (of_decide_eq_true y) (by intro y; cases y)) (fun _ => ?_)
      refine ⟨_, rfl, rfl, _, rfl, ?_⟩
      refine ite2 (fun _ => ?_) (fun y => absurd (decide_eq_true rfl) y)
      refine ⟨_, rfl, p, dx, _, rfl, g1, flds_no, _, rfl, _, rfl, vl, zs, rfl, .inl ⟨SqL.of W.hv, fun t1 ht1 => ?_⟩⟩
      obtain ⟨u1, e1⟩ := new_tup (K := K) ht1 (zs_dt W.zz)
      refine ⟨_, rfl, vl, zs, rfl, SqL.of (u1 _ _ W.hv), fun dd hdd => ?_⟩
      have u2 := Same.new (o := .dK (numV zs)) hdd
      have e2 : Dt K (upd (upd H t1 (.tup zs)) dd (.dK (numV zs))) (.ref dd) (.dict []) := .dK upd_same
      refine ⟨_, rfl, _, zs.length, rfl, .inl ⟨_, SqL.of ((u1.trans u2) _ _ W.hv), rfl⟩, _, _, rfl, rfl, by decide, by omega, by omega, sl, fun l hl => ?_⟩
      have u3 := Same.new (o := .lst [.ref t1, .ref dd, .str (Txt.mul ("0" : Str) (zs.length : Int))]) hl
      have u13 := u1.trans (u2.trans u3)
      have W2 := W.same u13
      have all3 : DtAll K _ [.ref t1, .ref dd, .str (Txt.mul ("0" : Str) (zs.length : Int))] [.tuple (zs.map fun _ => PyData.int 0), .dict [], .str (Txt.mul ("0" : Str) (zs.length : Int))] := .cons (e1.same (u2.trans u3)) (.cons (e2.same u3) (.cons (.str _) .nil))
      obtain ⟨v, d, hat, hdm, hd⟩ := all3.pick (i := c7 % 3) (Int.emod_nonneg _ (by decide)) (Int.emod_lt_of_pos c7 (show (0 : Int) < 3 by decide))
      have hdm := List.mem_of_getElem? hdm
      have no3 : valuesD xs.length d = false ∧ ∀ ds, d = .list ds → ds.length ≤ 1000 ∧ ∀ e ∈ ds, shortD e := by
        simp only [List.mem_cons, List.not_mem_nil, or_false] at hdm
        rcases hdm with rfl | rfl | rfl
        · exact ⟨rfl, fun ds z => by cases z⟩
        · exact ⟨rfl, fun ds z => by cases z⟩
        · exact ⟨rfl, fun ds z => by cases z⟩
      exact ⟨_, rfl, bl, _, _, .int c7, rfl, rfl, SqL.of W2.hb, rfl, _, _, rfl, rfl, (show (0 : Int) < 3 by decide), l, _, _, v, rfl, rfl, SqL.of upd_same, hat, p, r, e, xs, n, kl, .str col, .str col, v, d, rfl, W2.tab, .str _, shortS_str (Nat.le_trans (W.co.s col W.ci).2 (by decide)), hd, no3.2, (fun t e hn hs z => by rw [no3.1] at z; cases z), (fun z => absurd z (by show ¬ nameS col = false; rw [(W.co.s col W.ci).1]; decide)), (fun t e hn hv => by cases e; have := W.colIn; rw [hv] at this; cases this), (fun t e hn hs z H' s' => q H' (u13.trans s'))⟩
    · refine ⟨_, rfl, rfl, _, rfl, ?_⟩
      refine ite2 (fun y => absurd (of_decide_eq_true y) (by intro y; cases y)) (fun _ => ?_)
      refine ⟨_, rfl, rfl, _, rfl, ?_⟩
      refine ite2 (fun y => absurd (of_decide_eq_true y) (by intro y; cases y)) (fun _ => ?_)
      refine ⟨_, rfl, rfl, _, rfl, ?_⟩
      refine ite2 (fun y => absurd (of_decide_eq_true y) (by intro y; cases y)) (fun _ => ?_)
      refine ⟨_, rfl, rfl, _, rfl, ?_⟩
      refine ite2 (fun y => absurd (of_decide_eq_true y) (by intro y; cases y)) (fun _ => ?_)
      refine ⟨_, rfl, rfl, _, rfl, ?_⟩
      refine ite2 (fun y => absurd (of_decide_eq_true y) (by intro y; cases y)) (fun _ => ?_)
      refine ⟨_, rfl, rfl, _, rfl, ?_⟩
      refine ite2 (fun y => absurd (of_decide_eq_true y) (by intro y; cases y)) (fun _ => ?_)
      refine ⟨_, rfl, rfl, _, rfl, ?_⟩
      refine ite2 (fun y => absurd (of_decide_eq_true y) (by intro y; cases y)) (fun _ => ?_)
      refine ⟨_, rfl, rfl, _, rfl, ?_⟩
      refine ite2 (fun y => absurd (of_decide_eq_true y) (by intro y; cases y)) (fun _ => ?_)
      refine ⟨_, rfl, rfl, _, rfl, ?_⟩
      refine ite2 (fun y => absurd (of_decide_eq_true y) (by intro y; cases y)) (fun _ => ?_)
      refine ⟨_, rfl, rfl, _, rfl, ?_⟩
      refine ite2 (fun y => absurd (of_decide_eq_true y) (by intro y; cases y)) (fun _ => ?_)
      refine ⟨_, rfl, rfl, _, rfl, ?_⟩
      refine ite2 (fun y => absurd (of_decide_eq_true y) (by intro y; cases y)) (fun _ => ?_)
      refine ⟨_, rfl, rfl, _, rfl, ?_⟩
      refine ite2 (fun y => absurd (of_decide_eq_true y) (by intro y; cases y)) (fun _ => ?_)
      refine ⟨_, rfl, rfl, _, rfl, ?_⟩
      refine ite2 (fun y => absurd (of_decide_eq_true y) (by intro y; cases y)) (fun _ => ?_)
      refine ⟨_, rfl, rfl, _, rfl, ?_⟩
      refine ite2 (fun y => absurd (of_decide_eq_true y) (by intro y; cases y)) (fun _ => ?_)
      refine ⟨_, rfl, rfl, _, rfl, ?_⟩
      refine ite2 (fun y => absurd (of_decide_eq_true y) (by intro y; cases y)) (fun _ => ?_)
      refine ⟨_, rfl, rfl, _, rfl, ?_⟩
      refine ite2 (fun _ => ?_) (fun y => absurd (decide_eq_true rfl) y)
      refine ⟨_, rfl, p, dx, _, rfl, g1, flds_no, _, rfl, bl, _, _, b3, rfl, rfl, SqL.of W.hb, rfl, _, rfl, sl, fun l1 hl1 => ?_⟩
      have u1 := Same.new (o := .lst [.int 0]) hl1
      refine ⟨vl, l1, zs, [.int 0], rfl, rfl, u1 _ _ W.hv, upd_same, Nat.le_of_lt (small1000 (by simp; omega)), fun l2 hl2 => ?_⟩
      have zz2 : ∀ v ∈ zs ++ [V.int 0], v = .int 0 := fun v hv => (List.mem_append.mp hv).elim (W.zz v) fun h => List.mem_singleton.mp h
      obtain ⟨u2, e2⟩ := new_lst (K := K) hl2 (zs_dt zz2)
      have u12 := u1.trans u2
      refine ⟨_, rfl, vl, zs, rfl, .inl ⟨SqL.of (u12 _ _ W.hv), fun t1 ht1 => ?_⟩⟩
      obtain ⟨u3, e3⟩ := new_tup (K := K) ht1 (zs_dt W.zz)
      refine ⟨sl, fun l hl => ?_⟩
      have u4 := Same.new (o := .lst [b3, .ref l2, .ref t1]) hl
      have u14 := u12.trans (u3.trans u4)
      have W2 := W.same u14
      have all3 : DtAll K _ [b3, .ref l2, .ref t1] [d3, .list ((zs ++ [V.int 0]).map fun _ => PyData.int 0), .tuple (zs.map fun _ => PyData.int 0)] := .cons W2.bad.e3 (.cons (e2.same (u3.trans u4)) (.cons (e3.same u4) .nil))
      obtain ⟨v, d, hat, hdm, hd⟩ := all3.pick (i := c7 % 3) (Int.emod_nonneg _ (by decide)) (Int.emod_lt_of_pos c7 (show (0 : Int) < 3 by decide))
      have hdm := List.mem_of_getElem? hdm
      have no3 : valuesD xs.length d = false ∧ ∀ ds, d = .list ds → ds.length ≤ 1000 ∧ ∀ e ∈ ds, shortD e := by
        simp only [List.mem_cons, List.not_mem_nil, or_false] at hdm
        rcases hdm with rfl | rfl | rfl
        · exact ⟨vals_col _ _ W.bad.m3, vals_list _ W.bad.m3⟩
        · exact ⟨zs_no (by rw [List.length_append]; simp; omega), zs_list (by rw [List.length_append]; simp; omega)⟩
        · exact ⟨rfl, fun ds z => by cases z⟩
      refine ⟨_, rfl, bl, _, _, .int c7, rfl, rfl, SqL.of W2.hb, rfl, _, _, rfl, rfl, (show (0 : Int) < 3 by decide), l, _, _, v, rfl, rfl, SqL.of upd_same, hat, p, r, e, xs, n, kl, .str ("more" : Str), .str ("more" : Str), v, d, rfl, W2.tab, .str _, shortS_str (by decide), hd, no3.2, (fun t e hn hs z => by rw [no3.1] at z; cases z), (fun z => absurd z (by show ¬ nameS ("more" : Str) = false; rw [strs8]; decide)), (fun t e hn hv hl H' s' => ?_), (fun t e hn hs z H' s' => ?_)⟩
      · have h := q H' (u14.trans s')
        have h8 : ¬ cols.length < 8 := by omega
        have h' : E (.ref (clsJ c (if cols.length < 8 then 2 else 1))) none H' := h
        rw [if_neg h8] at h'
        exact h'
      · have h := q H' (u14.trans s')
        have h8 : cols.length < 8 := by
          cases e
          rw [W.more] at hs
          rcases hs with hs | hs
          · cases hs
          · omega
        have h' : E (.ref (clsJ c (if cols.length < 8 then 2 else 1))) none H' := h
        rw [if_pos h8] at h'
        exact h'
end
end My

namespace My
open PySem L2
theorem b_ValueError8 : bootBuiltins "ValueError" = some (.type "ValueError") := by kernel_rfl
structure ExJ (K : PySem.W.Frag) (c : Ad) (j : Nat) : Prop where
  k : ExcK K (clsJ c j)
  e : PySem.W.exmOne K (.ref (clsJ c j)) (.ref c.ColsError) = some true
  v : PySem.W.kitOne K (.ref (clsJ c j)) (.type "ValueError") = some true
  i0 : PySem.W.kitOne K (.ref (clsJ c j)) (.ref c.NoName) = some (j == 0)
  i1 : PySem.W.kitOne K (.ref (clsJ c j)) (.ref c.TooMuch) = some (j == 1)
  i2 : PySem.W.kitOne K (.ref (clsJ c j)) (.ref c.NoValue) = some (j == 2)
  i3 : PySem.W.kitOne K (.ref (clsJ c j)) (.ref c.NoColumn) = some (j == 3)
  i4 : PySem.W.kitOne K (.ref (clsJ c j)) (.ref c.NoPlace) = some (j == 4)
  o1 : PySem.W.kitOne K (.ref (clsJ c j)) (.ref c.Nobody) = some false
  o2 : PySem.W.kitOne K (.ref (clsJ c j)) (.ref c.NoBack) = some false
  o3 : PySem.W.kitOne K (.ref (clsJ c j)) (.ref c.NoRow) = some false
  o4 : PySem.W.kitOne K (.ref (clsJ c j)) (.ref c.NoSize) = some false
  o5 : PySem.W.kitOne K (.ref (clsJ c j)) (.ref c.NoTable) = some false
  o6 : PySem.W.kitOne K (.ref (clsJ c j)) (.ref c.NoText) = some false
  o7 : PySem.W.kitOne K (.ref (clsJ c j)) (.ref c.Ring) = some false
  o8 : PySem.W.kitOne K (.ref (clsJ c j)) (.ref c.Ruled) = some false
  o9 : PySem.W.kitOne K (.ref (clsJ c j)) (.ref c.Several) = some false
theorem exJ {K : PySem.W.Frag} {mg : Str → Option Value} {c : Ad} (X : Excs K mg c) {j : Nat} (h : j < 5) : ExJ K c j := by
  have : j = 0 ∨ j = 1 ∨ j = 2 ∨ j = 3 ∨ j = 4 := by omega
  rcases this with rfl | rfl | rfl | rfl | rfl
  · exact ⟨X.k_NoName, X.e_NoName_ColsError, X.v_NoName, X.i_NoName_NoName, X.i_NoName_TooMuch, X.i_NoName_NoValue, X.i_NoName_NoColumn, X.i_NoName_NoPlace, X.i_NoName_Nobody, X.i_NoName_NoBack, X.i_NoName_NoRow, X.i_NoName_NoSize, X.i_NoName_NoTable, X.i_NoName_NoText, X.i_NoName_Ring, X.i_NoName_Ruled, X.i_NoName_Several⟩
  · exact ⟨X.k_TooMuch, X.e_TooMuch_ColsError, X.v_TooMuch, X.i_TooMuch_NoName, X.i_TooMuch_TooMuch, X.i_TooMuch_NoValue, X.i_TooMuch_NoColumn, X.i_TooMuch_NoPlace, X.i_TooMuch_Nobody, X.i_TooMuch_NoBack, X.i_TooMuch_NoRow, X.i_TooMuch_NoSize, X.i_TooMuch_NoTable, X.i_TooMuch_NoText, X.i_TooMuch_Ring, X.i_TooMuch_Ruled, X.i_TooMuch_Several⟩
  · exact ⟨X.k_NoValue, X.e_NoValue_ColsError, X.v_NoValue, X.i_NoValue_NoName, X.i_NoValue_TooMuch, X.i_NoValue_NoValue, X.i_NoValue_NoColumn, X.i_NoValue_NoPlace, X.i_NoValue_Nobody, X.i_NoValue_NoBack, X.i_NoValue_NoRow, X.i_NoValue_NoSize, X.i_NoValue_NoTable, X.i_NoValue_NoText, X.i_NoValue_Ring, X.i_NoValue_Ruled, X.i_NoValue_Several⟩
  · exact ⟨X.k_NoColumn, X.e_NoColumn_ColsError, X.v_NoColumn, X.i_NoColumn_NoName, X.i_NoColumn_TooMuch, X.i_NoColumn_NoValue, X.i_NoColumn_NoColumn, X.i_NoColumn_NoPlace, X.i_NoColumn_Nobody, X.i_NoColumn_NoBack, X.i_NoColumn_NoRow, X.i_NoColumn_NoSize, X.i_NoColumn_NoTable, X.i_NoColumn_NoText, X.i_NoColumn_Ring, X.i_NoColumn_Ruled, X.i_NoColumn_Several⟩
  · exact ⟨X.k_NoPlace, X.e_NoPlace_ColsError, X.v_NoPlace, X.i_NoPlace_NoName, X.i_NoPlace_TooMuch, X.i_NoPlace_NoValue, X.i_NoPlace_NoColumn, X.i_NoPlace_NoPlace, X.i_NoPlace_Nobody, X.i_NoPlace_NoBack, X.i_NoPlace_NoRow, X.i_NoPlace_NoSize, X.i_NoPlace_NoTable, X.i_NoPlace_NoText, X.i_NoPlace_Ring, X.i_NoPlace_Ruled, X.i_NoPlace_Several⟩
def nmJ : Nat → Str
  | 0 => "NoName" | 1 => "TooMuch" | 2 => "NoValue" | 3 => "NoColumn" | _ => "NoPlace"
theorem dueJ_lt {way n : Nat} {full : Bool} (h : way < 16) : dueJ way full n < 5 := by
  have h16 : way = 0 ∨ way = 1 ∨ way = 2 ∨ way = 3 ∨ way = 4 ∨ way = 5 ∨ way = 6 ∨ way = 7 ∨ way = 8 ∨ way = 9 ∨ way = 10 ∨ way = 11 ∨ way = 12 ∨ way = 13 ∨ way = 14 ∨ way = 15 := by omega
  rcases h16 with rfl | rfl | rfl | rfl | rfl | rfl | rfl | rfl | rfl | rfl | rfl | rfl | rfl | rfl | rfl | rfl
  all_goals first | (unfold dueJ; simp only []; decide) | (unfold dueJ; simp only []; split <;> decide)
def fnd (j : Nat) : List V := [.bl (j == 0), .bl (j == 1), .bl (j == 2)] ++ [.bl (j == 3), .bl (j == 4)]
theorem fnd_count {j : Nat} (h : j < 5) : ((fnd j).countP fun z => eqV z (.bl true)) = 1 := by
  have : j = 0 ∨ j = 1 ∨ j = 2 ∨ j = 3 ∨ j = 4 := by omega
  rcases this with rfl | rfl | rfl | rfl | rfl <;> rfl
theorem fnd_at {j : Nat} (h : j < 5) : ∃ v, (fnd j)[j]? = some v ∧ eqV v (.bl true) = true := by
  have : j = 0 ∨ j = 1 ∨ j = 2 ∨ j = 3 ∨ j = 4 := by omega
  rcases this with rfl | rfl | rfl | rfl | rfl <;> exact ⟨_, rfl, rfl⟩
theorem fnd_no {j : Nat} (h : j < 5) : ∀ (m : Nat) v, m < j → (fnd j)[m]? = some v → eqV v (.bl true) = false := by
  have : j = 0 ∨ j = 1 ∨ j = 2 ∨ j = 3 ∨ j = 4 := by omega
  intro m v hm hv
  have hm' : m = 0 ∨ m = 1 ∨ m = 2 ∨ m = 3 := by omega
  rcases this with rfl | rfl | rfl | rfl | rfl <;> rcases hm' with rfl | rfl | rfl | rfl <;> first | (exfalso; omega) | (cases hv; rfl)
theorem nm_at {j : Nat} (h : j < 5) : atI [V.str ("NoName" : Str), .str ("TooMuch" : Str), .str ("NoValue" : Str), .str ("NoColumn" : Str), .str ("NoPlace" : Str)] (j : Int) = some (.str (nmJ j)) := by
  have : j = 0 ∨ j = 1 ∨ j = 2 ∨ j = 3 ∨ j = 4 := by omega
  rcases this with rfl | rfl | rfl | rfl | rfl <;> rfl
section
variable {P : Program} {w : World} {K : PySem.W.Frag} {mg : Str → Option Value} {base : Heap}
def spKind (K : PySem.W.Frag) (C : Addr) : Sp := fun vs H Q _ => ∃ (p r e : Addr) (xs : List V) (n : Int) (kl : List (Key × V)) (m far : Int) (bl : Addr) (b0 b1 b2 b3 b4 : V) (c7 : Int) (d0 d1 d2 d3 d4 : PyData) (vl : Addr) (zs : List V) (row : V) (drow : PyData) (col : Str) (cols : List Str) (way : Nat),
  vs = [.ref p, .int (way : Int), .ref bl, .ref vl, row, .str col] ∧ A8 K C H p r e xs n kl m far bl b0 b1 b2 b3 b4 c7 d0 d1 d2 d3 d4 vl zs row drow col cols ∧ way < 16 ∧ (way = 1 → 8 ≤ cols.length) ∧ ∀ H', Same H H' → Q (.str (nmJ (dueJ way (decide (m = 30)) cols.length))) H'
abbrev Nkind : List Str := ["_law_table", "_law_way", "_law_bad_here", "_law_values", "_law_row_here", "_law_column", "_law_caught", "e", "_law_found", "_law_others"]
theorem sc_law_kind : FnScope Nkind ["_law_table", "_law_way", "_law_bad_here", "_law_values", "_law_row_here", "_law_column"] (defScope s_law_kind) := ⟨rfl, rfl, rfl, by decide +kernel, rfl, by decide +kernel, by decide +kernel⟩
theorem k_law_kind (T : Tops K mg) {c : Ad} (X : Excs K mg c) {C : Addr} (Y : TTable K mg C) : Known P w K mg base CX0 8 "_law_kind" ["_law_table", "_law_way", "_law_bad_here", "_law_values", "_law_row_here", "_law_column"] (spKind K C) := by
  have G_law_done : Known P w K mg base (CXE P w) 7 "_law_done" ["_law_table", "_law_way", "_law_bad_here", "_law_values", "_law_row_here", "_law_column"] (spDone K C c) := k_law_done T X Y
  refine T.d_law_kind.known sc_law_kind (fun _ _ _ _ _ _ us hl => match us, hl with | [_, _, _, _, _, _], _ => rfl) (fun vs H Q E h => ?_) (fun f cdv A outer s H vs Q E hr h => ?_)
  · obtain ⟨p, r, e, xs, n, kl, m, far, bl, b0, b1, b2, b3, b4, c7, d0, d1, d2, d3, d4, vl, zs, row, drow, col, cols, way, rfl, _⟩ := h
    rfl
  · obtain ⟨p, r, e, xs, n, kl, m, far, bl, b0, b1, b2, b3, b4, c7, d0, d1, d2, d3, d4, vl, zs, row, drow, col, cols, way, rfl, W, hw, hw1, q⟩ := h
    have J := exJ X (dueJ_lt (n := cols.length) (full := decide (m = 30)) hw)
    have hj := dueJ_lt (n := cols.length) (full := decide (m = 30)) hw
    refine boxS ⟨_, (pssw_cons (PSw.mk (ps_set (i := 6) sc_law_kind.nd rfl (Or.inl rfl) pe_non))
      (pssw_cons (PSw.mk (ps_try (j := 7) rfl rfl rfl sc_law_kind.nd rfl rfl X.c_ColsError (fun pn E' E1 hp => pss_one (ps_expr (pe_callN G_law_done (hr.mono (by decide)) hp (pa_cons (pv 0) (pa_cons (pv 1) (pa_cons (pv 2) (pa_cons (pv 3) (pa_cons (pv 4) (pa_cons (pv 5) pa_nil))))))))) (fun ea => pss_one (ps_set (i := 6) sc_law_kind.nd rfl (Or.inl rfl) (pv 7)))))
      (pssw_cons (psw_set (i := 8) sc_law_kind.nd rfl (Or.inl rfl) (pew_lst (paw_c (PEw.mk (pe_callB call_isX (by rfl) T.isinstance b_isinstance (pa_cons (pv 6) (pa_cons (pe_gR X.c_NoName) pa_nil)))) (paw_c (PEw.mk (pe_callB call_isX (by rfl) T.isinstance b_isinstance (pa_cons (pv 6) (pa_cons (pe_gR X.c_TooMuch) pa_nil)))) (paw_c (PEw.mk (pe_callB call_isX (by rfl) T.isinstance b_isinstance (pa_cons (pv 6) (pa_cons (pe_gR X.c_NoValue) pa_nil)))) paw_nil)))))
      (pssw_cons (psw_set (i := 8) sc_law_kind.nd rfl (Or.inl rfl) (pew_op op_cat (PEw.mk (pv 8)) (pew_lst (paw_c (PEw.mk (pe_callB call_isX (by rfl) T.isinstance b_isinstance (pa_cons (pv 6) (pa_cons (pe_gR X.c_NoColumn) pa_nil)))) (paw_c (PEw.mk (pe_callB call_isX (by rfl) T.isinstance b_isinstance (pa_cons (pv 6) (pa_cons (pe_gR X.c_NoPlace) pa_nil)))) paw_nil)))))
      (pssw_cons (psw_set (i := 9) sc_law_kind.nd rfl (Or.inl rfl) (pew_lst (paw_c (PEw.mk (pe_callB call_isX (by rfl) T.isinstance b_isinstance (pa_cons (pv 6) (pa_cons (pe_gR X.c_Nobody) pa_nil)))) (paw_c (PEw.mk (pe_callB call_isX (by rfl) T.isinstance b_isinstance (pa_cons (pv 6) (pa_cons (pe_gR X.c_NoBack) pa_nil)))) (paw_c (PEw.mk (pe_callB call_isX (by rfl) T.isinstance b_isinstance (pa_cons (pv 6) (pa_cons (pe_gR X.c_NoRow) pa_nil)))) paw_nil)))))
      (pssw_cons (psw_set (i := 9) sc_law_kind.nd rfl (Or.inl rfl) (pew_op op_cat (PEw.mk (pv 9)) (pew_lst (paw_c (PEw.mk (pe_callB call_isX (by rfl) T.isinstance b_isinstance (pa_cons (pv 6) (pa_cons (pe_gR X.c_NoSize) pa_nil)))) (paw_c (PEw.mk (pe_callB call_isX (by rfl) T.isinstance b_isinstance (pa_cons (pv 6) (pa_cons (pe_gR X.c_NoTable) pa_nil)))) (paw_c (PEw.mk (pe_callB call_isX (by rfl) T.isinstance b_isinstance (pa_cons (pv 6) (pa_cons (pe_gR X.c_NoText) pa_nil)))) paw_nil))))))
      (pssw_cons (psw_set (i := 9) sc_law_kind.nd rfl (Or.inl rfl) (pew_op op_cat (PEw.mk (pv 9)) (pew_lst (paw_c (PEw.mk (pe_callB call_isX (by rfl) T.isinstance b_isinstance (pa_cons (pv 6) (pa_cons (pe_gR X.c_Ring) pa_nil)))) (paw_c (PEw.mk (pe_callB call_isX (by rfl) T.isinstance b_isinstance (pa_cons (pv 6) (pa_cons (pe_gR X.c_Ruled) pa_nil)))) (paw_c (PEw.mk (pe_callB call_isX (by rfl) T.isinstance b_isinstance (pa_cons (pv 6) (pa_cons (pe_gR X.c_Several) pa_nil)))) paw_nil))))))
      (pssw_cons (PSw.mk (ps_if (PW.pt (pw_or (pt_cmpR op_in_seq pe_bl (pv 9) (by with_unfolding_all rfl)) (pw_or (pt_cmpR op_ne (pe_bm PySem.F.plainAttrs_list PySem.F.slot_list_count PySem.F.type_list_count mt_countF (pv 8) (pa_cons pe_bl pa_nil)) pe_int (nomark _)) (pw_or1 (pt_not (pt_val (pe_callB call_isX rfl T.isinstance b_isinstance (pa_cons (pv 6) (pa_cons (pe_ty T.ValueError b_ValueError8) pa_nil))) (fun _ => rfl))))))) (pss_one (ps_ret pe_str)) pss_nil))
      (pssw_one (PSw.mk (ps_ret (pe_ix ix_list (pe_lst (pa_cons pe_str (pa_cons pe_str (pa_cons pe_str (pa_cons pe_str (pa_cons pe_str pa_nil)))))) (pe_bm PySem.F.plainAttrs_list PySem.F.slot_list_index PySem.F.type_list_index mt_indexF (pv 8) (pa_cons pe_bl pa_nil)) (fun _ _ => rfl))))))))))))), ?_⟩
    refine ⟨_, rfl, _, rfl, _, rfl, _, rfl, _, rfl, _, rfl, p, r, e, xs, n, kl, m, far, bl, b0, b1, b2, b3, b4, c7, d0, d1, d2, d3, d4, vl, zs, row, drow, col, cols, way, rfl, W, hw, hw1, fun H1 s1 => ?_⟩
    generalize dueJ way (decide (m = 30)) cols.length = j at J hj q ⊢
    refine ⟨J.e, fun ea hea => ⟨_, rfl, ?_⟩⟩
    have s2 := Same.new (o := excO ea (.ref (clsJ c j))) hea
    have he2 := upd_same (H := H1) (a := ea) (o := excO ea (.ref (clsJ c j)))
    have s12 := s1.trans s2
    generalize upd H1 ea (excO ea (.ref (clsJ c j))) = H2 at s12 he2 ⊢
    -- found
    refine ⟨_, rfl, ea, clsJ c j, _, _, _, rfl, he2, J.k, .inl ⟨_, rfl, rfl⟩, J.i0, _, rfl, ea, clsJ c j, _, _, _, rfl, he2, J.k, .inl ⟨_, rfl, rfl⟩, J.i1, _, rfl, ea, clsJ c j, _, _, _, rfl, he2, J.k, .inl ⟨_, rfl, rfl⟩, J.i2, sl, fun f1 hf1 => ?_⟩
    have u1 := Same.new (o := .lst [.bl (j == 0), .bl (j == 1), .bl (j == 2)]) hf1
    have h1 := upd_same (H := H2) (a := f1) (o := .lst [.bl (j == 0), .bl (j == 1), .bl (j == 2)])
    have he3 := u1 _ _ he2
    have s13 := s12.trans u1
    generalize upd H2 f1 (.lst [.bl (j == 0), .bl (j == 1), .bl (j == 2)]) = H3 at h1 he3 s13 ⊢
    refine ⟨_, rfl, _, rfl, ea, clsJ c j, _, _, _, rfl, he3, J.k, .inl ⟨_, rfl, rfl⟩, J.i3, _, rfl, ea, clsJ c j, _, _, _, rfl, he3, J.k, .inl ⟨_, rfl, rfl⟩, J.i4, sl, fun f2 hf2 => ?_⟩
    have u2 := Same.new (o := .lst [.bl (j == 3), .bl (j == 4)]) hf2
    refine ⟨f1, f2, _, _, rfl, rfl, u2 _ _ h1, upd_same, Nat.le_of_lt (small1000 (by simp)), fun f3 hf3 => ?_⟩
    have u3 := Same.new (o := .lst (fnd j)) hf3
    have hF := upd_same (H := upd H3 f2 (.lst [.bl (j == 3), .bl (j == 4)])) (a := f3) (o := .lst (fnd j))
    have u23 := u2.trans u3
    have he4 := u23 _ _ he3
    have s14 := s13.trans u23
    change (fun Hx : Hp => _) (upd (upd H3 f2 (.lst [.bl (j == 3), .bl (j == 4)])) f3 (.lst (fnd j)))
    generalize upd (upd H3 f2 (.lst [.bl (j == 3), .bl (j == 4)])) f3 (.lst (fnd j)) = H4 at hF he4 s14 ⊢
    -- others
    refine ⟨_, rfl, ea, clsJ c j, _, _, _, rfl, he4, J.k, .inl ⟨_, rfl, rfl⟩, J.o1, _, rfl, ea, clsJ c j, _, _, _, rfl, he4, J.k, .inl ⟨_, rfl, rfl⟩, J.o2, _, rfl, ea, clsJ c j, _, _, _, rfl, he4, J.k, .inl ⟨_, rfl, rfl⟩, J.o3, sl, fun g1 hg1 => ?_⟩
    have v1 := Same.new (o := .lst [.bl false, .bl false, .bl false]) hg1
    have k1 := upd_same (H := H4) (a := g1) (o := .lst [.bl false, .bl false, .bl false])
    have he5 := v1 _ _ he4
    have hF5 := v1 _ _ hF
    have s15 := s14.trans v1
    generalize upd H4 g1 (.lst [.bl false, .bl false, .bl false]) = H5 at k1 he5 hF5 s15 ⊢
    refine ⟨_, rfl, _, rfl, ea, clsJ c j, _, _, _, rfl, he5, J.k, .inl ⟨_, rfl, rfl⟩, J.o4, _, rfl, ea, clsJ c j, _, _, _, rfl, he5, J.k, .inl ⟨_, rfl, rfl⟩, J.o5, _, rfl, ea, clsJ c j, _, _, _, rfl, he5, J.k, .inl ⟨_, rfl, rfl⟩, J.o6, sl, fun g2 hg2 => ?_⟩
    have v2 := Same.new (o := .lst [.bl false, .bl false, .bl false]) hg2
    refine ⟨g1, g2, _, _, rfl, rfl, v2 _ _ k1, upd_same, Nat.le_of_lt (small1000 (by decide)), fun g3 hg3 => ?_⟩
    have v3 := Same.new (o := .lst ([.bl false, .bl false, .bl false] ++ [.bl false, .bl false, .bl false])) hg3
    have k3 := upd_same (H := upd H5 g2 (.lst [.bl false, .bl false, .bl false])) (a := g3) (o := .lst ([.bl false, .bl false, .bl false] ++ [.bl false, .bl false, .bl false]))
    have v23 := v2.trans v3
    have he6 := v23 _ _ he5
    have hF6 := v23 _ _ hF5
    have s16 := s15.trans v23
    generalize upd (upd H5 g2 (.lst [.bl false, .bl false, .bl false])) g3 (.lst ([.bl false, .bl false, .bl false] ++ [.bl false, .bl false, .bl false])) = H6 at k3 he6 hF6 s16 ⊢
    refine ⟨_, rfl, _, rfl, ea, clsJ c j, _, _, _, rfl, he6, J.k, .inl ⟨_, rfl, rfl⟩, J.o7, _, rfl, ea, clsJ c j, _, _, _, rfl, he6, J.k, .inl ⟨_, rfl, rfl⟩, J.o8, _, rfl, ea, clsJ c j, _, _, _, rfl, he6, J.k, .inl ⟨_, rfl, rfl⟩, J.o9, sl, fun g4 hg4 => ?_⟩
    have v4 := Same.new (o := .lst [.bl false, .bl false, .bl false]) hg4
    refine ⟨g3, g4, _, _, rfl, rfl, v4 _ _ k3, upd_same, Nat.le_of_lt (small1000 (by decide)), fun g5 hg5 => ?_⟩
    have v5 := Same.new (o := .lst ([.bl false, .bl false, .bl false] ++ [.bl false, .bl false, .bl false] ++ [.bl false, .bl false, .bl false])) hg5
    have k5 := upd_same (H := upd H6 g4 (.lst [.bl false, .bl false, .bl false])) (a := g5) (o := .lst ([.bl false, .bl false, .bl false] ++ [.bl false, .bl false, .bl false] ++ [.bl false, .bl false, .bl false]))
    have v45 := v4.trans v5
    have he7 := v45 _ _ he6
    have hF7 := v45 _ _ hF6
    have s17 := s16.trans v45
    generalize upd (upd H6 g4 (.lst [.bl false, .bl false, .bl false])) g5 (.lst ([.bl false, .bl false, .bl false] ++ [.bl false, .bl false, .bl false] ++ [.bl false, .bl false, .bl false])) = H7 at k5 he7 hF7 s17 ⊢
    -- the one
    refine ⟨_, rfl, g5, _, rfl, .inl (SqL.of k5), rfl, rfl, _, rfl, iteF ?_⟩
    refine ⟨_, rfl, .inl ⟨rfl, _, SqL.of hF7⟩, f3, fnd j, .bl true, rfl, rfl, hF7, rfl, rfl, ?_⟩
    rw [fnd_count hj]
    refine ⟨rfl, _, rfl, iteF ?_⟩
    refine ⟨_, rfl, ea, clsJ c j, _, _, _, rfl, he7, J.k, .inr ⟨_, rfl, rfl⟩, J.v, _, rfl, iteF ?_⟩
    refine ⟨sl, fun ln hln => ?_⟩
    have w1 := Same.new (o := .lst [.str ("NoName" : Str), .str ("TooMuch" : Str), .str ("NoValue" : Str), .str ("NoColumn" : Str), .str ("NoPlace" : Str)]) hln
    refine ⟨_, rfl, .inl ⟨rfl, _, SqL.of (w1 _ _ hF7)⟩, f3, fnd j, .bl true, j, rfl, rfl, w1 _ _ hF7, rfl, rfl, fnd_at hj, fnd_no hj, ln, _, _, _, rfl, rfl, SqL.of upd_same, nm_at hj, q _ (s17.trans w1)⟩
end
end My

namespace My
open PySem L2
def dueV (way : Nat) (full : Bool) (n : Nat) : V := if way = 1 ∧ n < 8 then .non else .str (nmJ (dueJ way full n))
def dueL : List V := [.str ("NoName" : Str), .str ("TooMuch" : Str), .str ("NoValue" : Str), .str ("NoValue" : Str), .str ("NoValue" : Str), .str ("NoColumn" : Str), .str ("NoColumn" : Str), .str ("NoPlace" : Str), .str ("NoValue" : Str)] ++ [.str ("NoColumn" : Str), .str ("NoPlace" : Str), .str ("NoPlace" : Str), .str ("NoPlace" : Str), .str ("NoValue" : Str), .str ("NoValue" : Str), .str ("TooMuch" : Str)]
theorem dueL_at {way n : Nat} {full : Bool} (h : way < 16) (h13 : way = 13 → full = false) (h15 : way = 15 → ¬ n < 8) : atI dueL (way : Int) = some (.str (nmJ (dueJ way full n))) := by
  have h16 : way = 0 ∨ way = 1 ∨ way = 2 ∨ way = 3 ∨ way = 4 ∨ way = 5 ∨ way = 6 ∨ way = 7 ∨ way = 8 ∨ way = 9 ∨ way = 10 ∨ way = 11 ∨ way = 12 ∨ way = 13 ∨ way = 14 ∨ way = 15 := by omega
  rcases h16 with rfl | rfl | rfl | rfl | rfl | rfl | rfl | rfl | rfl | rfl | rfl | rfl | rfl | rfl | rfl | rfl
  case inr.inr.inr.inr.inr.inr.inr.inr.inr.inr.inr.inr.inr.inl => rw [h13 rfl]; rfl
  case inr.inr.inr.inr.inr.inr.inr.inr.inr.inr.inr.inr.inr.inr.inr => show _ = some (V.str (nmJ (if n < 8 then 2 else 1))); rw [if_neg (h15 rfl)]; rfl
  all_goals rfl
section
variable {P : Program} {w : World} {K : PySem.W.Frag} {mg : Str → Option Value} {base : Heap}
def spDue8 (K : PySem.W.Frag) : Sp := fun vs H Q _ => ∃ (way : Nat) (full : Bool) (lc : Addr) (cols : List Str), vs = [.int (way : Int), .bl full, .ref lc] ∧ H lc = some (.lst (cols.map V.str)) ∧ way < 16 ∧ ∀ H', Same H H' → Q (dueV way full cols.length) H'
theorem sc_law_due : FnScope ["_law_way", "_law_full", "_law_columns", "_law_some"] ["_law_way", "_law_full", "_law_columns"] (defScope s_law_due) := ⟨rfl, rfl, rfl, by decide +kernel, rfl, by decide +kernel, by decide +kernel⟩
theorem int_eq8 {a b : Int} : decide (V.int a = V.int b) = decide (a = b) := by
  by_cases h : a = b
  · rw [h, decide_eq_true rfl, decide_eq_true rfl]
  · rw [decide_eq_false h, decide_eq_false fun e => h (V.int.inj e)]
theorem k_law_due (T : Tops K mg) : Known P w K mg base CX0 1 "_law_due" ["_law_way", "_law_full", "_law_columns"] (spDue8 K) := by
  refine T.d_law_due.known sc_law_due (fun _ _ _ _ _ _ us hl => match us, hl with | [_, _, _], _ => rfl) (fun vs H Q E h => ?_) (fun f cdv A outer s H vs Q E hr h => ?_)
  · obtain ⟨way, full, lc, cols, rfl, _⟩ := h
    rfl
  · obtain ⟨way, full, lc, cols, rfl, hlc, hw, q⟩ := h
    refine boxS ⟨_, (pssw_cons (psw_set (i := 3) sc_law_due.nd rfl (Or.inl rfl) (pew_lst (paw_k pew_str (paw_k pew_str (paw_k pew_str (paw_k pew_str (paw_k pew_str (paw_k pew_str (paw_k pew_str (paw_k pew_str (paw_k pew_str paw_nil)))))))))))
      (pssw_cons (psw_set (i := 3) sc_law_due.nd rfl (Or.inl rfl) (pew_op op_cat (PEw.mk (pv 3)) (pew_lst (paw_k pew_str (paw_k pew_str (paw_k pew_str (paw_k pew_str (paw_k pew_str (paw_k pew_str (paw_k pew_str paw_nil))))))))))
      (pssw_cons (PSw.mk (ps_if (PW.pt (pw_and (pt_cmpR op_eq (pv 0) pe_int (nomark _)) (pw_and1 (pt_cmpR op_lt (pe_callB call_len rfl T.len b_len (pa_cons (pv 2) pa_nil)) pe_int (nomark _))))) (pss_one (ps_ret pe_non)) pss_nil))
      (pssw_cons (PSw.mk (ps_if (PW.pt (pw_and (pt_cmpR op_eq (pv 0) pe_int (nomark _)) (pw_and1 (pt_cmpR op_lt (pe_callB call_len rfl T.len b_len (pa_cons (pv 2) pa_nil)) pe_int (nomark _))))) (pss_one (ps_ret pe_str)) pss_nil))
      (pssw_cons (PSw.mk (ps_if (PW.pt (pw_and (pt_cmpR op_eq (pv 0) pe_int (nomark _)) (pw_and1 (pt_val (pv 1) (fun _ => rfl))))) (pss_one (ps_ret pe_str)) pss_nil))
      (pssw_one (PSw.mk (ps_ret (pe_ix ix_list (pv 3) (pv 0) (fun _ _ => rfl)))))))))), ?_⟩
    refine ⟨sl, fun l1 hl1 => ?_⟩
    have u1 := Same.new (o := .lst [.str ("NoName" : Str), .str ("TooMuch" : Str), .str ("NoValue" : Str), .str ("NoValue" : Str), .str ("NoValue" : Str), .str ("NoColumn" : Str), .str ("NoColumn" : Str), .str ("NoPlace" : Str), .str ("NoValue" : Str)]) hl1
    refine ⟨_, rfl, sl, fun l2 hl2 => ?_⟩
    have u2 := Same.new (o := .lst [.str ("NoColumn" : Str), .str ("NoPlace" : Str), .str ("NoPlace" : Str), .str ("NoPlace" : Str), .str ("NoValue" : Str), .str ("NoValue" : Str), .str ("TooMuch" : Str)]) hl2
    refine ⟨l1, l2, _, _, rfl, rfl, u2 _ _ upd_same, upd_same, Nat.le_of_lt (small1000 (by simp)), fun l3 hl3 => ?_⟩
    have u3 := Same.new (o := .lst dueL) hl3
    have s3 := u1.trans (u2.trans u3)
    have h3 := upd_same (H := upd (upd H l1 (.lst [.str ("NoName" : Str), .str ("TooMuch" : Str), .str ("NoValue" : Str), .str ("NoValue" : Str), .str ("NoValue" : Str), .str ("NoColumn" : Str), .str ("NoColumn" : Str), .str ("NoPlace" : Str), .str ("NoValue" : Str)])) l2 (.lst [.str ("NoColumn" : Str), .str ("NoPlace" : Str), .str ("NoPlace" : Str), .str ("NoPlace" : Str), .str ("NoValue" : Str), .str ("NoValue" : Str), .str ("TooMuch" : Str)])) (a := l3) (o := .lst dueL)
    change (fun Hx : Hp => _) (upd (upd (upd H l1 (.lst [.str ("NoName" : Str), .str ("TooMuch" : Str), .str ("NoValue" : Str), .str ("NoValue" : Str), .str ("NoValue" : Str), .str ("NoColumn" : Str), .str ("NoColumn" : Str), .str ("NoPlace" : Str), .str ("NoValue" : Str)])) l2 (.lst [.str ("NoColumn" : Str), .str ("NoPlace" : Str), .str ("NoPlace" : Str), .str ("NoPlace" : Str), .str ("NoValue" : Str), .str ("NoValue" : Str), .str ("TooMuch" : Str)])) l3 (.lst dueL))
    generalize upd (upd (upd H l1 (.lst [.str ("NoName" : Str), .str ("TooMuch" : Str), .str ("NoValue" : Str), .str ("NoValue" : Str), .str ("NoValue" : Str), .str ("NoColumn" : Str), .str ("NoColumn" : Str), .str ("NoPlace" : Str), .str ("NoValue" : Str)])) l2 (.lst [.str ("NoColumn" : Str), .str ("NoPlace" : Str), .str ("NoPlace" : Str), .str ("NoPlace" : Str), .str ("NoValue" : Str), .str ("NoValue" : Str), .str ("TooMuch" : Str)])) l3 (.lst dueL) = H3 at s3 h3 ⊢
    have hlc3 := s3 _ _ hlc
    have q3 := q H3 s3
    unfold dueV at q3
    by_cases w1 : way = 1
    · refine ⟨_, rfl, rfl, _, rfl, ?_⟩
      refine ite2 (fun _ => ?_) (fun g => absurd (by rw [w1]; exact decide_eq_true rfl) g)
      refine ⟨_, rfl, _, cols.length, rfl, .inl ⟨_, SqL.of hlc3, by rw [List.length_map]⟩, _, _, rfl, rfl, _, rfl, ?_⟩
      by_cases n8 : cols.length < 8
      · refine ite2 (fun _ => ?_) (fun g => absurd (decide_eq_true (by omega)) g)
        rw [if_pos ⟨w1, n8⟩] at q3
        exact q3
      · refine ite2 (fun g => absurd (of_decide_eq_true g) (by omega)) (fun _ => ?_)
        rw [if_neg (fun h => n8 h.2)] at q3
        refine ⟨_, rfl, rfl, _, rfl, ?_⟩
        refine ite2 (fun g => absurd (V.int.inj (of_decide_eq_true g)) (by omega)) (fun _ => ?_)
        refine ⟨_, rfl, rfl, _, rfl, ?_⟩
        refine ite2 (fun g => absurd (V.int.inj (of_decide_eq_true g)) (by omega)) (fun _ => ?_)
        exact ⟨_, rfl, _, rfl, l3, _, _, _, rfl, rfl, SqL.of h3, dueL_at hw (fun h => absurd h (by omega)) (fun h => absurd h (by omega)), q3⟩
    rw [if_neg (fun h => w1 h.1)] at q3
    refine ⟨_, rfl, rfl, _, rfl, ?_⟩
    refine ite2 (fun g => absurd (V.int.inj (of_decide_eq_true g)) (by omega)) (fun _ => ?_)
    by_cases w15 : way = 15
    · refine ⟨_, rfl, rfl, _, rfl, ?_⟩
      refine ite2 (fun _ => ?_) (fun g => absurd (by rw [w15]; exact decide_eq_true rfl) g)
      refine ⟨_, rfl, _, cols.length, rfl, .inl ⟨_, SqL.of hlc3, by rw [List.length_map]⟩, _, _, rfl, rfl, _, rfl, ?_⟩
      by_cases n8 : cols.length < 8
      · refine ite2 (fun _ => ?_) (fun g => absurd (decide_eq_true (by omega)) g)
        subst w15
        have q4 : Q (.str (nmJ (if cols.length < 8 then 2 else 1))) H3 := q3
        rw [if_pos n8] at q4
        exact q4
      · refine ite2 (fun g => absurd (of_decide_eq_true g) (by omega)) (fun _ => ?_)
        refine ⟨_, rfl, rfl, _, rfl, ?_⟩
        refine ite2 (fun g => absurd (V.int.inj (of_decide_eq_true g)) (by omega)) (fun _ => ?_)
        exact ⟨_, rfl, _, rfl, l3, _, _, _, rfl, rfl, SqL.of h3, dueL_at hw (fun h => absurd h (by omega)) (fun h => n8), q3⟩
    refine ⟨_, rfl, rfl, _, rfl, ?_⟩
    refine ite2 (fun g => absurd (V.int.inj (of_decide_eq_true g)) (by omega)) (fun _ => ?_)
    by_cases w13 : way = 13
    · refine ⟨_, rfl, rfl, _, rfl, ?_⟩
      refine ite2 (fun _ => ?_) (fun g => absurd (by rw [w13]; exact decide_eq_true rfl) g)
      refine ⟨_, rfl, _, rfl, ?_⟩
      cases full with
      | true =>
        refine iteT ?_
        subst w13
        exact q3
      | false =>
        refine iteF ?_
        exact ⟨_, rfl, _, rfl, l3, _, _, _, rfl, rfl, SqL.of h3, dueL_at hw (fun h => rfl) (fun h => absurd h w15), q3⟩
    refine ⟨_, rfl, rfl, _, rfl, ?_⟩
    refine ite2 (fun g => absurd (V.int.inj (of_decide_eq_true g)) (by omega)) (fun _ => ?_)
    exact ⟨_, rfl, _, rfl, l3, _, _, _, rfl, rfl, SqL.of h3, dueL_at hw (fun h => absurd h w13) (fun h => absurd h w15), q3⟩
end
end My

namespace My
open PySem L2
theorem lay_range8 (n : Nat) : (PyData.list ((List.range n).map fun (i : Nat) => PyData.int (i : Int))).canLay0 = true ∧ (PyData.list ((List.range n).map fun (i : Nat) => PyData.int (i : Int))).depth ≤ 64 := by
  have e : ((List.range n).map fun (i : Nat) => PyData.int (i : Int)) = ((List.range n).map fun (i : Nat) => (i : Int)).map PyData.int := by rw [List.map_map]; rfl
  obtain ⟨h1, h2⟩ := lay_ints ((List.range n).map fun (i : Nat) => (i : Int))
  rw [e, PyData.canLay0, PyData.depth, h1, h2]
  exact ⟨rfl, by decide⟩
theorem lay_cols8 {zs : List Str} (h : ∀ z ∈ zs, PyData.canLay0 (.str z) = true) : (PyData.list (zs.map PyData.str)).canLay0 = true ∧ (PyData.list (zs.map PyData.str)).depth ≤ 64 := by
  obtain ⟨h1, h2⟩ := lay_strs zs h
  rw [PyData.canLay0, PyData.depth, h1, h2]
  exact ⟨rfl, by decide⟩
theorem dt_strs8 {K : PySem.W.Frag} {H : Hp} : ∀ zs : List Str, DtAll K H (zs.map V.str) (zs.map PyData.str)
  | [] => .nil
  | z :: r => .cons (.str z) (dt_strs8 r)
/-- the k-th column -/
def colV (k m : Nat) : List V := (List.range m).map fun (i : Nat) => V.int (10 * (k : Int) + (i : Int))
theorem colV_len (k m : Nat) : (colV k m).length = m := by unfold colV; rw [List.length_map, List.length_range]
theorem colV_at {k m i : Nat} (h : i < m) : atI (colV k m) (i : Int) = some (.int (10 * (k : Int) + (i : Int))) := atI_nat (by unfold colV; rw [List.getElem?_map, List.getElem?_range h]; rfl)
structure Stnd (C : Addr) (H : Hp) (p r e : Addr) (n : Int) (kl : List (Key × V)) (cols : List Str) (m : Nat) : Prop where
  tab : TabAt C H p r e (rangeV 0 m) n kl
  kk : kl.map (·.1) = kI cols
  co : ColsOk cols
  ce : ∀ k z, cols[k]? = some z → ∃ l, valV kl (.inr z : Key) = some (.ref l) ∧ H l = some (.lst (colV k m))
theorem Stnd.same {C : Addr} {H H' : Hp} {p r e : Addr} {n : Int} {kl : List (Key × V)} {cols : List Str} {m : Nat} (s : Same H H') (h : Stnd C H p r e n kl cols m) : Stnd C H' p r e n kl cols m :=
  ⟨h.tab.same s, h.kk, h.co, fun k z hz => let ⟨l, h1, h2⟩ := h.ce k z hz; ⟨l, h1, s _ _ h2⟩⟩
theorem Stnd.keys {C : Addr} {H : Hp} {p r e : Addr} {n : Int} {kl : List (Key × V)} {cols : List Str} {m : Nat} (h : Stnd C H p r e n kl cols m) : kl.map (fun p => kV p.1) = cols.map V.str := by
  have : kl.map (fun p => kV p.1) = (kl.map (·.1)).map kV := by rw [List.map_map]; rfl
  rw [this, h.kk]
  unfold kI
  rw [List.map_map]
  rfl
section
variable {P : Program} {w : World} {K : PySem.W.Frag} {mg : Str → Option Value} {base : Heap}
def spStands (C : Addr) : Sp := fun vs H Q _ => ∃ (p r e : Addr) (n : Int) (kl : List (Key × V)) (cols : List Str) (m : Nat) (lc : Addr), vs = [.ref p, .ref lc, .int (m : Int)] ∧ Stnd C H p r e n kl cols m ∧ H lc = some (.lst (cols.map V.str)) ∧ m ≤ 30 ∧ ∀ H', Same H H' → Q (.bl true) H'
theorem sc_law_stands : FnScope ["_law_table", "_law_columns", "_law_many", "_law_k", "_law_place"] ["_law_table", "_law_columns", "_law_many"] (defScope s_law_stands) := ⟨rfl, rfl, rfl, by decide +kernel, rfl, by decide +kernel, by decide +kernel⟩
theorem k_law_stands (T : Tops K mg) {c : Ad} (X : Excs K mg c) {C : Addr} (Y : TTable K mg C) : Known P w K mg base CX0 4 "_law_stands" ["_law_table", "_law_columns", "_law_many"] (spStands C) := by
  have G_many : KnownM P w K mg base CX0 1 C "many" ["self"] (spMany C) := k_Table_many T Y
  have G_numbers : KnownM P w K mg base CX0 1 C "numbers" ["self"] (spNumbers C) := k_Table_numbers T Y
  have G_columns : KnownM P w K mg base CX0 1 C "columns" ["self"] (spColumns C) := k_Table_columns T Y
  have G_at : KnownM P w K mg base (CXE P w) 3 C "at" ["self", "column", "place"] (spAt K C c) := k_Table_at T X Y
  refine T.d_law_stands.known sc_law_stands (fun _ _ _ _ _ _ us hl => match us, hl with | [_, _, _], _ => rfl) (fun vs H Q E h => ?_) (fun f cdv A outer s H vs Q E hr h => ?_)
  · obtain ⟨p, r, e, n, kl, cols, m, lc, rfl, _⟩ := h
    rfl
  · obtain ⟨p, r, e, n, kl, cols, m, lc, rfl, S, hlc, hm, q⟩ := h
    have hr1 : Room 1 _ := hr.mono (by decide)
    refine ⟨_, (pss_cons (ps_if (PW.pt (pw_or (pt_cmpR op_ne (pe_methN0 (pv 0) Y.cl G_many hr1 pass0) (pv 2) (nomark _)) (pw_or (pt_cmpR (op_neD hr.units) (pe_methN0 (pv 0) Y.cl G_columns hr1 pass0) (pv 1) (nomark _)) (pw_or1 (pt_cmpR (op_neD hr.units) (pe_methN0 (pv 0) Y.cl G_numbers hr1 pass0) (pe_comp caps0 rfl rfl (by decide) (pi_range1 rfl T.range (pa_cons (pv 2) pa_nil)) (fun _ _ _ _ _ => pts_nil) (fun _ _ _ _ _ => (pv 0))) (nomark _)))))) (pss_one (ps_ret pe_bl)) pss_nil)
      (pss_cons (ps_for PassesOwn.never rfl (pi_range1 rfl T.range (pa_cons (pe_callB call_len rfl T.len b_len (pa_cons (pv 1) pa_nil)) pa_nil)) (pg_name (i := 3) sc_law_stands.nd rfl (Or.inl rfl)) (pss_one (ps_for PassesOwn.never rfl (pi_range1 rfl T.range (pa_cons (pv 2) pa_nil)) (pg_name (i := 4) sc_law_stands.nd rfl (Or.inl rfl)) (pss_one (ps_if (pt_cmpR op_ne (pe_methN (pv 0) Y.cl G_at (hr.mono (by decide)) passN (pa_cons (pe_ix ix_list (pv 1) (pv 3) (fun _ _ => rfl)) (pa_cons (pv 4) pa_nil))) (pe_op op_add (pe_op op_mul pe_int (pv 3)) (pv 4)) (nomark _)) (pss_one (ps_ret pe_bl)) pss_nil)))))
      (pss_one (ps_ret pe_bl)))), ?_⟩
    obtain ⟨⟨dx, g1⟩, g2, g3⟩ := id S.tab
    refine ⟨_, rfl, p, dx, _, rfl, g1, flds_no, p, r, e, _, n, _, rfl, S.tab, _, rfl, ?_⟩
    rw [rangeV_len]
    refine ⟨rfl, _, rfl, ?_⟩
    refine ite2 (fun g => absurd g (by simp)) (fun _ => ?_)
    refine ⟨_, rfl, p, dx, _, rfl, g1, flds_no, p, r, e, _, n, _, rfl, S.tab, fun l1 hl1 => ?_⟩
    rw [S.keys]
    have u1 := Same.new (o := .lst (cols.map V.str)) hl1
    obtain ⟨lz, dz⟩ := lay_cols8 S.co.y
    refine ⟨_, rfl, _, _, .lst (SqL.of upd_same) (dt_strs8 cols), .lst (SqL.of (u1 _ _ hlc)) (dt_strs8 cols), lz, lz, dz, _, rfl, ?_⟩
    rw [SeqAt.eqv_refl _ lz]
    refine iteF ?_
    generalize upd H l1 (.lst (cols.map V.str)) = H1 at u1 ⊢
    have S1 := S.same u1
    refine ⟨_, rfl, p, dx, _, rfl, u1 _ _ g1, flds_no, p, r, e, _, n, _, rfl, S1.tab, fun l2 hl2 => ?_⟩
    have u2 := Same.new (o := .lst (rangeV 0 m)) hl2
    refine ⟨_, rfl, (m : Int), rfl, by omega, by omega, fun D hD => ?_⟩
    rw [Int.toNat_natCast]
    refine comp_ids (by omega) ?_
    have u3 := Same.new (o := .lst (rangeV 0 m)) hD
    obtain ⟨ly, dy⟩ := lay_range8 m
    refine ⟨_, _, .lst (SqL.of (u3 _ _ upd_same)) (dt_range m), .lst (SqL.of upd_same) (dt_range m), ly, ly, dy, _, rfl, ?_⟩
    rw [SeqAt.eqv_refl _ ly]
    refine iteF ?_
    have u13 := u1.trans (u2.trans u3)
    generalize upd (upd H1 l2 (.lst (rangeV 0 m))) D (.lst (rangeV 0 m)) = H3 at u13 ⊢
    have hcl := S.co.l
    refine ⟨_, rfl, _, cols.length, rfl, .inl ⟨_, SqL.of (u13 _ _ hlc), by rw [List.length_map]⟩, _, rfl, by omega, by omega, ?_⟩
    rw [Int.toNat_natCast]
    refine for_range (lo := 0) (n := cols.length) (fun k σ H4 => ∃ o3 o4, σ = [some (.ref p), some (.ref lc), some (.int (m : Int)), o3, o4] ∧ Same H H4) ⟨_, _, rfl, u13⟩ ?_ ?_
    · rintro k σ H4 hk ⟨o3, o4, rfl, s4⟩
      obtain ⟨z, hz⟩ : ∃ z, cols[k]? = some z := ⟨_, List.getElem?_eq_getElem hk⟩
      refine ⟨_, rfl, (m : Int), rfl, by omega, by omega, ?_⟩
      rw [Int.toNat_natCast]
      refine for_range (lo := 0) (n := m) (fun i σ H5 => ∃ o4, σ = [some (.ref p), some (.ref lc), some (.int (m : Int)), some (.int (0 + (k : Int))), o4] ∧ Same H H5) ⟨_, rfl, s4⟩ ?_ ?_
      · rintro i σ H5 hi ⟨o4, rfl, s5⟩
        have S5 := S.same s5
        obtain ⟨l, hv, hl⟩ := S5.ce k z hz
        have hnz := S.co.s z (List.mem_of_getElem? hz)
        refine ⟨_, rfl, p, dx, _, rfl, s5 _ _ g1, flds_no, _, rfl, _, rfl, lc, _, _, _, rfl, rfl, SqL.of (s5 _ _ hlc), by rw [Int.zero_add]; exact at_str hz, _, rfl, p, r, e, rangeV 0 m, n, kl, .str z, .str z, .int (0 + (i : Int)), .int (0 + (i : Int)), rfl, S5.tab, .str _, shortS_str (by omega), .int _, (fun t l' ys i' v e1 hn hv' hl' e2 i0 i1 hat H6 s6 => ?_), (fun _ _ => ?_), (fun h => ?_), (fun _ h => ?_)⟩
        · cases e1
          cases e2
          rw [hv] at hv'
          cases hv'
          rw [hl] at hl'
          cases hl'
          rw [Int.zero_add, colV_at hi] at hat
          cases hat
          refine ⟨_, rfl, _, _, rfl, rfl, .inl ⟨by decide, by decide⟩, _, rfl, _, _, rfl, rfl, rfl, _, rfl, ?_⟩
          refine ite2 (fun g => absurd g (by simp)) (fun _ => ?_)
          exact ⟨_, rfl, s5.trans s6⟩
        · refine ⟨z, l, colV k m, 0 + (i : Int), _, rfl, hnz.1, hv, hl, rfl, by omega, by rw [rangeV_len]; omega, by rw [Int.zero_add]; exact colV_at hi⟩
        · have h' : (nameS z && (valV kl (.inr z : Key)).isSome) = false := h
          rw [hnz.1, hv] at h'
          cases h'
        · have h' : (decide (0 ≤ 0 + (i : Int)) && decide (0 + (i : Int) < ((rangeV 0 m).length : Int))) = false := h
          rw [rangeV_len, decide_eq_true (by omega), decide_eq_true (by omega)] at h'
          cases h'
      · rintro σ H5 ⟨o4, rfl, s5⟩
        exact ⟨_, _, rfl, s5⟩
    · rintro σ H4 ⟨o3, o4, rfl, s4⟩
      exact q H4 s4
end
end My

namespace My
open PySem L2
theorem made_same {H : Hp} {x dx : Addr} {o u : HO} (hx : H x = none) (hdx : H dx = none) : Same H (upd (upd H dx o) x u) := fun b q e => by
  rw [upd_ne (ne_of_none e hx), upd_ne (ne_of_none e hdx)]
  exact e
def all8 : List Str := ["a", "ab", "b", "ba", "c", "ca", "d", "da"]
theorem all8_s : ∀ z ∈ all8, nameS z = true ∧ z.length ≤ 8 := by
  intro z hz
  simp only [all8, List.mem_cons, List.not_mem_nil, or_false] at hz
  rcases hz with rfl | rfl | rfl | rfl | rfl | rfl | rfl | rfl <;> exact ⟨by decide +kernel, by decide +kernel⟩
theorem all8_y : ∀ z ∈ all8, PyData.canLay0 (.str z) = true := by
  intro z hz
  simp only [all8, List.mem_cons, List.not_mem_nil, or_false] at hz
  rcases hz with rfl | rfl | rfl | rfl | rfl | rfl | rfl | rfl <;> decide +kernel
theorem all8_n : all8.Nodup := by decide +kernel
theorem all8_m : ("more" : Str) ∉ all8 := by decide +kernel
theorem all8_z : ("zz" : Str) ∉ all8 := by decide +kernel
theorem cols_take {j : Nat} (h0 : 0 < j) (h : j ≤ 8) : ColsOk (all8.take j) where
  l := by rw [List.length_take]; show min j 8 ≤ 8; omega
  p := by rw [List.length_take]; show 0 < min j 8; omega
  n := List.Sublist.nodup (List.take_sublist _ _) all8_n
  m := fun hm => all8_m (List.mem_of_mem_take hm)
  z := fun hm => all8_z (List.mem_of_mem_take hm)
  s := fun z hz => all8_s z (List.mem_of_mem_take hz)
  y := fun z hz => all8_y z (List.mem_of_mem_take hz)
/-- the table as it is filled, up to the k-th column -/
structure Bt (C : Addr) (H : Hp) (p r e : Addr) (n : Int) (cols : List Str) (m k : Nat) (ts : List TCol) : Prop where
  W : Tbl C H p r e (rangeV 0 m) n ts
  nm : ts.map (·.nm) = cols.take k
  ys : ∀ (i : Nat) (c : TCol), ts[i]? = some c → c.ys = colV i m
theorem tk_fst (ts : List TCol) : (tk ts).map (·.1) = kI (ts.map (·.nm)) := by
  unfold tk kI
  rw [List.map_map, List.map_map]
  rfl
theorem tk_none {ts : List TCol} {z : Str} (h : z ∉ ts.map (·.nm)) : valV (tk ts) (.inr z : Key) = none := valV_of_not (by rw [tk_fst, kI_mem]; exact h)
theorem tk_put {ts : List TCol} {c : TCol} (h : c.nm ∉ ts.map (·.nm)) : putK (tk ts) (.inr c.nm : Key) (.ref c.l) = tk (ts ++ [c]) := by
  rw [putK_new _ (tk_none h)]
  unfold tk
  rw [List.map_append]
  rfl
theorem tk_drop {ts : List TCol} {c : TCol} (h : c.nm ∉ ts.map (·.nm)) : dropK (tk (ts ++ [c])) (.inr c.nm : Key) = tk ts := by
  have e : tk (ts ++ [c]) = tk ts ++ [((.inr c.nm : Key), V.ref c.l)] := by unfold tk; rw [List.map_append]; rfl
  rw [e]
  unfold dropK
  rw [List.filter_append]
  have h1 : (tk ts).filter (fun kv => decide (kv.1 ≠ (.inr c.nm : Key))) = tk ts := by
    rw [List.filter_eq_self]
    intro kv hkv
    refine decide_eq_true fun e => ?_
    have : (.inr c.nm : Key) ∈ (tk ts).map (·.1) := List.mem_map.mpr ⟨kv, hkv, e⟩
    rw [tk_fst, kI_mem] at this
    exact h this
  rw [h1]
  simp
/-- a table, its lists all unlike, with one more column -/
theorem Tbl.more {C : Addr} {H H' : Hp} {p r e : Addr} {xs : List V} {n : Int} {ts : List TCol} {c : TCol} (W : Tbl C H p r e xs n ts) (s : Same H H') (hl : H' c.l = none) (hn : nameS c.nm = true ∧ c.nm.length ≤ 8) (hnm : c.nm ∉ ts.map (·.nm)) (hy : c.ys.length = xs.length) (h8 : ts.length < 8) :
    Tbl C (upd (upd H' c.l (.lst c.ys)) e (.dK (putK (tk ts) (.inr c.nm : Key) (.ref c.l)))) p r e xs n (ts ++ [c]) := by
  have W' := W.same s
  obtain ⟨dx, g1⟩ := W'.tab.at_
  have nle : c.l ≠ e := (ne_of_none W'.tab.kept hl).symm
  have keepL : ∀ {b : Addr} {zs : List V}, H' b = some (.lst zs) → upd (upd H' c.l (.lst c.ys)) e (.dK (putK (tk ts) (.inr c.nm : Key) (.ref c.l))) b = some (.lst zs) := fun hb => by
    rw [upd_ne (ne_of hb W'.tab.kept (fun z => by cases z)), upd_ne (ne_of_none hb hl)]
    exact hb
  refine ⟨⟨⟨dx, ?_⟩, keepL W'.tab.rows, by rw [upd_same, tk_put hnm]⟩, fun d hd => ?_, fun d hd => ?_, fun d hd => ?_, ?_, ?_, fun d hd => ?_, by rw [List.length_append]; simp; omega⟩
  · rw [upd_ne (ne_of g1 W'.tab.kept (fun z => by cases z)), upd_ne (ne_of_none g1 hl)]
    exact g1
  · rcases List.mem_append.mp hd with h | h
    · exact keepL (W'.lst d h)
    · rw [List.mem_singleton.mp h, upd_ne nle, upd_same]
  · rcases List.mem_append.mp hd with h | h
    · exact W.len d h
    · rw [List.mem_singleton.mp h]; exact hy
  · rcases List.mem_append.mp hd with h | h
    · exact W.nms d h
    · rw [List.mem_singleton.mp h]; exact hn
  · rw [List.map_append]
    refine List.nodup_append.mpr ⟨W.nod, by simp, fun x hx y hy => ?_⟩
    simp at hy
    rw [hy]
    exact fun e => hnm (e ▸ hx)
  · rw [List.map_append]
    refine List.nodup_append.mpr ⟨W.apt, by simp, fun x hx y hy => ?_⟩
    simp at hy
    rw [hy]
    obtain ⟨d, hd, rfl⟩ := List.mem_map.mp hx
    exact ne_of_none (W'.lst d hd) hl
  · rcases List.mem_append.mp hd with h | h
    · exact W.apr d h
    · rw [List.mem_singleton.mp h]
      exact (ne_of_none W'.tab.rows hl).symm
theorem Bt.stnd {C : Addr} {H : Hp} {p r e : Addr} {n : Int} {cols : List Str} {m : Nat} {ts : List TCol} (B : Bt C H p r e n cols m cols.length ts) (co : ColsOk cols) : Stnd C H p r e n (tk ts) cols m := by
  have hnm : ts.map (·.nm) = cols := by rw [B.nm, List.take_length]
  refine ⟨B.W.tab, by rw [tk_fst, hnm], co, fun k z hz => ?_⟩
  rw [← hnm, List.getElem?_map] at hz
  obtain ⟨c, hc, rfl⟩ := Option.map_eq_some_iff.mp hz
  have hm := List.mem_of_getElem? hc
  exact ⟨c.l, tk_val B.W.nod hm, by rw [← B.ys k c hc]; exact B.W.lst c hm⟩
theorem cutV_take8 (xs : List V) (k : Nat) (h : k ≤ xs.length) : cutV xs none (some (k : Int)) = xs.take k := by
  unfold cutV
  rw [HT.sIx_none, HT.sIx_nat, List.drop_zero, Nat.min_eq_left h, Nat.sub_zero]
theorem cutV_last8 (xs : List V) : cutV xs none (some (-1)) = xs.dropLast := by
  unfold cutV
  have e : HT.sIx xs.length xs.length (some (-1)) = xs.length - 1 := by
    show (if (-1 : Int) < 0 then ((-1 : Int) + (xs.length : Int)).toNat else min (-1 : Int).toNat xs.length) = _
    rw [if_pos (by decide)]
    omega
  rw [HT.sIx_none, e, List.drop_zero, Nat.sub_zero, List.dropLast_eq_take]
end My

namespace My
open PySem L2
theorem rep_flat {m : Nat} {v : V} : (List.replicate m [v]).flatten = List.replicate m v := by
  induction m with
  | zero => rfl
  | succ m ih => rw [List.replicate_succ, List.flatten_cons, ih]; rfl
theorem dt_rep {K : PySem.W.Frag} {H : Hp} {i : Int} : ∀ m : Nat, DtAll K H (List.replicate m (V.int i)) (List.replicate m (PyData.int i))
  | 0 => .nil
  | m + 1 => .cons (.int i) (dt_rep m)
theorem values_rep {m : Nat} : valuesD (m : Int) (.list (List.replicate m (.int 5))) = true := by
  show (decide (((List.replicate m (PyData.int 5)).length : Int) = (m : Int)) && (List.replicate m (PyData.int 5)).all valueD) = true
  rw [List.length_replicate, decide_eq_true rfl, Bool.true_and, List.all_eq_true]
  intro d hd
  rw [List.eq_of_mem_replicate hd]
  exact num_small (i := 5) (by decide)
theorem put_fault : valueD (.tuple [.str ("fault" : Str), .str ("put" : Str)]) = true := by decide +kernel
theorem lay_fault8 : (PyData.tuple [.str ("fault" : Str), .str ("put" : Str)]).canLay0 = true := by decide +kernel
theorem more_lay : PyData.canLay0 (.str ("more" : Str)) = true := by decide +kernel
section
variable {P : Program} {w : World} {K : PySem.W.Frag} {mg : Str → Option Value} {base : Heap}
def spLaw (K : PySem.W.Frag) : Sp := fun vs H Q _ => ∃ (a : Addr) (ns : List Int), vs = [.ref a] ∧ SqL K H a (ns.map V.int) ∧ ns.length ≤ 63 ∧ ∀ H', Q (.bl true) H'
abbrev Nlaw : List Str := ["_law_script", "_law_many", "_law_columns", "_law_table", "_law_k", "_law_cell_here", "_law_bad_here", "_law_row_here", "_law_column", "_law_due_here"]
theorem sc_law : FnScope Nlaw ["_law_script"] (defScope s_law) := ⟨rfl, rfl, rfl, by decide +kernel, rfl, by decide +kernel, by decide +kernel⟩
/-- the last rows of the law -/
theorem law_end (T : Tops K mg) {c : Ad} (X : Excs K mg c) {C : Addr} (Y : TTable K mg C) {f : Addr} {cdv : Value} {A : Around} {outer : List Env} {s : Shared} {H : Hp} {E : XK} {Q : VK} (hr : Room 9 (A.deeper (PyProof.Rows.envOfC ("law" : Str) (defScope s_law) s.heap.objs.size f cdv))) (q : ∀ H', Q (.bl true) H') :
    ∃ t, PSs (cxOf CX0 P w K mg base Nlaw "law" (defScope s_law) f cdv A outer s H E).nox ((defBody s_law).drop 7) t ∧
      ∀ (Hx : Hp) (a lc tp r e : Addr) (n : Int) (cols : List Str) (m : Nat) (ts : List TCol) (o4 o5 o6 o7 o8 o9 : Option V), Bt C Hx tp r e n cols m cols.length ts → ColsOk cols → Hx lc = some (.lst (cols.map V.str)) → 1 ≤ m → m ≤ 30 →
        t { nx := fun _ H' => Q .non H', rt := Q } [some (.ref a), some (.int (m : Int)), some (.ref lc), some (.ref tp), o4, o5, o6, o7, o8, o9] Hx := by
  have G_many : KnownM P w K mg base CX0 1 C "many" ["self"] (spMany C) := k_Table_many T Y
  have G_columns : KnownM P w K mg base CX0 1 C "columns" ["self"] (spColumns C) := k_Table_columns T Y
  have G_at : KnownM P w K mg base (CXE P w) 3 C "at" ["self", "column", "place"] (spAt K C c) := k_Table_at T X Y
  have G_put : KnownM P w K mg base (CXE P w) 5 C "put" ["self", "column", "place", "value"] (spPut K C c) := k_Table_put T X Y
  have G_give : KnownM P w K mg base (CXE P w) 5 C "give" ["self", "column", "values"] (spGive K C c) := k_Table_give T X Y
  have G_drop : KnownM P w K mg base (CXE P w) 3 C "drop" ["self", "column"] (spDrop K C c) := k_Table_drop T X Y
  have G_take : KnownM P w K mg base CX0 3 C "take_out" ["self", "place"] (spTake C) := k_Table_take_out T X Y
  have hr1 : Room 1 _ := hr.mono (by decide)
  refine ⟨_, (pss_cons (ps_expr (pe_methN (pv 3) Y.cl G_drop (hr.mono (by decide)) passN (pa_cons (pe_ix ix_list (pv 2) (pe_un un_neg pe_int) (fun _ _ => rfl)) pa_nil)))
    (pss_cons (ps_expr (pe_methN (pv 3) Y.cl G_give (hr.mono (by decide)) passN (pa_cons pe_str (pa_cons (pe_op op_rep (pe_lst (pa_cons pe_int pa_nil)) (pv 1)) pa_nil))))
    (pss_cons (ps_if (pt_cmpR (op_neD hr.units) (pe_methN0 (pv 3) Y.cl G_columns hr1 pass0) (pe_op op_cat (pe_slice sl_list (pv 2) po_none (po_some (pe_un un_neg pe_int))) (pe_lst (pa_cons pe_str pa_nil))) (nomark _)) (pss_one (ps_ret pe_bl)) pss_nil)
    (pss_cons (ps_expr (pe_methN (pv 3) Y.cl G_put (hr.mono (by decide)) passN (pa_cons pe_str (pa_cons pe_int (pa_cons (pe_tup (pa_cons pe_str (pa_cons pe_str pa_nil))) pa_nil)))))
    (pss_one (ps_ret (pe_and (pe_cmpR (op_eqD hr.units) (pe_methN (pv 3) Y.cl G_at (hr.mono (by decide)) passN (pa_cons pe_str (pa_cons pe_int pa_nil))) (pe_tup (pa_cons pe_str (pa_cons pe_str pa_nil))) (nomark _)) (pe_and (pe_cmpR op_isN (pe_methN (pv 3) Y.cl G_take (hr.mono (by decide)) pass0 (pa_cons pe_int pa_nil)) pe_non (nomark _)) (pe_one (pe_cmpR op_eq (pe_methN0 (pv 3) Y.cl G_many hr1 pass0) (pe_op op_sub (pv 1) pe_int) (nomark _))))))))))), fun Hx a lc tp r e n cols m ts o4 o5 o6 o7 o8 o9 B co hlc m1 m2 => ?_⟩
  have hnm : ts.map (·.nm) = cols := by rw [B.nm, List.take_length]
  have htl : ts.length = cols.length := by rw [← hnm, List.length_map]
  have hcp := co.p
  have hcl := co.l
  -- the last column
  obtain ⟨ts0, c0, ets⟩ : ∃ ts0 c0, ts = ts0 ++ [c0] := by
    have hne : ts ≠ [] := fun e => by rw [e] at htl; simp at htl; omega
    exact ⟨ts.dropLast, ts.getLast hne, (List.dropLast_concat_getLast hne).symm⟩
  subst ets
  have ecols : cols = ts0.map (·.nm) ++ [c0.nm] := by rw [← hnm, List.map_append]; rfl
  have hnod := B.W.nod
  have hc0 : c0.nm ∉ ts0.map (·.nm) := fun h => by
    rw [List.map_append] at hnod
    exact (List.nodup_append.mp hnod).2.2 _ h c0.nm (by simp) rfl
  have hat : atI (cols.map V.str) (-1) = some (.str c0.nm) := by rw [ecols, List.map_append]; exact atI_last _ _
  have hc0n := B.W.nms c0 (by simp)
  have hv0 : valV (tk (ts0 ++ [c0])) (.inr c0.nm : Key) = some (.ref c0.l) := tk_val B.W.nod (by simp)
  obtain ⟨⟨dx, g1⟩, g2, g3⟩ := id B.W.tab
  refine ⟨_, rfl, tp, dx, _, rfl, g1, flds_no, _, rfl, _, rfl, lc, _, _, _, rfl, rfl, SqL.of hlc, hat, tp, r, e, rangeV 0 m, n, tk (ts0 ++ [c0]), .str c0.nm, .str c0.nm, rfl, B.W.tab, .str _, shortS_str (Nat.le_trans hc0n.2 (by decide)), (fun t e1 hn hv H1 s1 => ?_), (fun h => ?_)⟩
  rotate_left
  · have h' : (nameS c0.nm && (valV (tk (ts0 ++ [c0])) (.inr c0.nm : Key)).isSome) = false := h
    rw [hc0n.1, hv0] at h'
    cases h'
  cases e1
  rw [tk_drop hc0]
  have W1 := B.W.same s1
  have hlc1 := s1 _ _ hlc
  obtain ⟨dx1, k1⟩ := W1.tab.at_
  have keep1 : ∀ {b : Addr} {zs : List V}, H1 b = some (.lst zs) → upd H1 e (.dK (tk ts0)) b = some (.lst zs) := fun hb => by rw [upd_ne (ne_of hb W1.tab.kept (fun z => by cases z))]; exact hb
  have W2 : Tbl C (upd H1 e (.dK (tk ts0))) tp r e (rangeV 0 m) n ts0 := by
    refine ⟨⟨⟨dx1, ?_⟩, keep1 W1.tab.rows, upd_same⟩, fun d hd => keep1 (W1.lst d (List.mem_append_left _ hd)), fun d hd => W1.len d (List.mem_append_left _ hd), fun d hd => W1.nms d (List.mem_append_left _ hd), ?_, ?_, fun d hd => W1.apr d (List.mem_append_left _ hd), ?_⟩
    · rw [upd_ne (ne_of k1 W1.tab.kept (fun z => by cases z))]; exact k1
    · have := W1.nod; rw [List.map_append] at this; exact (List.nodup_append.mp this).1
    · have := W1.apt; rw [List.map_append] at this; exact (List.nodup_append.mp this).1
    · have := W1.few; rw [List.length_append] at this; omega
  have hlc2 := keep1 hlc1
  have hts0 : ts0.length < 8 := by rw [List.length_append] at htl; simp at htl; omega
  generalize upd H1 e (.dK (tk ts0)) = H2 at W2 hlc2 ⊢
  -- one that is called more
  obtain ⟨dx2, k2⟩ := W2.tab.at_
  refine ⟨_, rfl, tp, dx2, _, rfl, k2, flds_no, sl, fun l5 hl5 => ?_⟩
  have u1 := Same.new (o := .lst [.int 5]) hl5
  refine ⟨_, rfl, l5, (m : Int), [.int 5], rfl, rfl, upd_same, by omega, by omega, Nat.le_of_lt (small1000 (by simp; omega)), fun l6 hl6 => ?_⟩
  rw [Int.toNat_natCast, rep_flat] at *
  have u2 := Same.new (o := .lst (List.replicate m (V.int 5))) hl6
  have u12 := u1.trans u2
  have h6 := upd_same (H := upd H2 l5 (.lst [.int 5])) (a := l6) (o := .lst (List.replicate m (V.int 5)))
  have W3 := W2.same u12
  have hlc3 := u12 _ _ hlc2
  generalize upd (upd H2 l5 (.lst [.int 5])) l6 (.lst (List.replicate m (V.int 5))) = H3 at W3 hlc3 h6 ⊢
  have hmore : ("more" : Str) ∉ ts0.map (·.nm) := fun h => co.m (by rw [ecols]; exact List.mem_append_left _ h)
  have hmv := tk_none hmore
  have hval : valuesD ((rangeV 0 m).length : Int) (.list (List.replicate m (.int 5))) = true := by rw [rangeV_len]; exact values_rep
  refine ⟨tp, r, e, rangeV 0 m, n, tk ts0, .str ("more" : Str), .str ("more" : Str), .ref l6, .list (List.replicate m (.int 5)), rfl, W3.tab, .str _, shortS_str (by decide), .lst (SqL.of h6) (dt_rep m), (fun ds z => ?_), (fun t e1 hn _ _ => ?_), (fun z => absurd z (by show ¬ nameS ("more" : Str) = false; rw [strs8]; decide)), (fun t e1 hn hv h8 => ?_), (fun t e1 hn hs z => ?_)⟩
  · cases z
    refine ⟨by rw [List.length_replicate]; omega, fun x hx => ?_⟩
    rw [List.eq_of_mem_replicate hx]
    intro ds z
    cases z
  rotate_left
  · rw [tk_len] at h8; omega
  · rw [hval] at z; cases z
  cases e1
  refine ⟨by rw [tk_len]; omega, l6, List.replicate m (V.int 5), rfl, SqL.of h6, fun H4 lm s4 hlm => ?_⟩
  have W4 : Tbl C (upd (upd H4 lm (.lst (List.replicate m (V.int 5)))) e (.dK (putK (tk ts0) (.inr ("more" : Str) : Key) (.ref lm)))) tp r e (rangeV 0 m) n (ts0 ++ [⟨("more" : Str), lm, List.replicate m (V.int 5)⟩]) :=
    W3.more (c := ⟨("more" : Str), lm, List.replicate m (V.int 5)⟩) s4 hlm more_name hmore (by rw [List.length_replicate, rangeV_len]) hts0
  have hlc4 : upd (upd H4 lm (.lst (List.replicate m (V.int 5)))) e (.dK (putK (tk ts0) (.inr ("more" : Str) : Key) (.ref lm))) lc = some (.lst (cols.map V.str)) := by
    have h := s4 _ _ hlc3
    rw [upd_ne (ne_of h (s4 _ _ W3.tab.kept) (fun z => by cases z)), upd_ne (ne_of_none h hlm)]
    exact h
  generalize upd (upd H4 lm (.lst (List.replicate m (V.int 5)))) e (.dK (putK (tk ts0) (.inr ("more" : Str) : Key) (.ref lm))) = H5 at W4 hlc4 ⊢
  -- the columns
  obtain ⟨dx5, k5⟩ := W4.tab.at_
  refine ⟨_, rfl, tp, dx5, _, rfl, k5, flds_no, tp, r, e, _, n, _, rfl, W4.tab, fun l7 hl7 => ?_⟩
  rw [tk_keys]
  have enm : (ts0 ++ [(⟨("more" : Str), lm, List.replicate m (V.int 5)⟩ : TCol)]).map (·.nm) = ts0.map (·.nm) ++ [("more" : Str)] := by rw [List.map_append]; rfl
  rw [enm]
  have v1 := Same.new (o := .lst ((ts0.map (·.nm) ++ [("more" : Str)]).map V.str)) hl7
  have h7 := upd_same (H := H5) (a := l7) (o := .lst ((ts0.map (·.nm) ++ [("more" : Str)]).map V.str))
  have W5 := W4.same v1
  have hlc5 := v1 _ _ hlc4
  generalize upd H5 l7 (.lst ((ts0.map (·.nm) ++ [("more" : Str)]).map V.str)) = H6 at W5 hlc5 h7 ⊢
  refine ⟨_, rfl, _, rfl, _, rfl, lc, _, rfl, SqL.of hlc5, fun l8 hl8 => ⟨sl, fun l9 hl9 => ?_⟩⟩
  have ecut : cutV (cols.map V.str) none (some (-1)) = (ts0.map (·.nm)).map V.str := by
    rw [cutV_last8, ecols, List.map_append]
    show (_ ++ [V.str c0.nm]).dropLast = _
    rw [List.dropLast_concat]
  have hl9' : upd H6 l8 (.lst (cutV (cols.map V.str) none (some (-1)))) l9 = none := hl9
  rw [ecut] at hl9'
  change (fun Hy : Hp => _) (upd (upd H6 l8 (.lst (cutV (cols.map V.str) none (some (-1))))) l9 (.lst [.str ("more" : Str)]))
  rw [ecut]
  clear hl9
  have hl9 := hl9'
  have v2 := Same.new (o := .lst ((ts0.map (·.nm)).map V.str)) hl8
  have v3 := Same.new (o := .lst [.str ("more" : Str)]) hl9
  refine ⟨l8, l9, _, _, rfl, rfl, v3 _ _ upd_same, upd_same, Nat.le_of_lt (small1000 (by simp; omega)), fun l10 hl10 => ?_⟩
  have e10 : (ts0.map (·.nm)).map V.str ++ [V.str ("more" : Str)] = (ts0.map (·.nm) ++ [("more" : Str)]).map V.str := by rw [List.map_append]; rfl
  rw [e10]
  have v4 := Same.new (o := .lst ((ts0.map (·.nm) ++ [("more" : Str)]).map V.str)) hl10
  have v24 := v2.trans (v3.trans v4)
  obtain ⟨lz, dz⟩ := lay_cols8 (zs := ts0.map (·.nm) ++ [("more" : Str)]) fun z hz => by
    rcases List.mem_append.mp hz with h | h
    · exact co.y z (by rw [ecols]; exact List.mem_append_left _ h)
    · rw [List.mem_singleton.mp h]; exact more_lay
  refine ⟨_, _, .lst (SqL.of (v24 _ _ h7)) (dt_strs8 _), .lst (SqL.of upd_same) (dt_strs8 _), lz, lz, dz, _, rfl, ?_⟩
  rw [SeqAt.eqv_refl _ lz]
  refine iteF ?_
  have W6 := W5.same v24
  generalize upd (upd (upd H6 l8 (.lst ((ts0.map (·.nm)).map V.str))) l9 (.lst [.str ("more" : Str)])) l10 (.lst ((ts0.map (·.nm) ++ [("more" : Str)]).map V.str)) = H7 at W6 ⊢
  -- a fault is put
  obtain ⟨dx7, k7⟩ := W6.tab.at_
  refine ⟨_, rfl, tp, dx7, _, rfl, k7, flds_no, sl, fun tf htf => ?_⟩
  have x1 := Same.new (o := .tup [.str ("fault" : Str), .str ("put" : Str)]) htf
  have htf1 := upd_same (H := H7) (a := tf) (o := .tup [.str ("fault" : Str), .str ("put" : Str)])
  have W7 := W6.same x1
  generalize upd H7 tf (.tup [.str ("fault" : Str), .str ("put" : Str)]) = H8 at W7 htf1 ⊢
  have hm8 : (⟨("more" : Str), lm, List.replicate m (V.int 5)⟩ : TCol) ∈ ts0 ++ [(⟨("more" : Str), lm, List.replicate m (V.int 5)⟩ : TCol)] := by simp
  have hvm : valV (tk (ts0 ++ [(⟨("more" : Str), lm, List.replicate m (V.int 5)⟩ : TCol)])) (.inr ("more" : Str) : Key) = some (.ref lm) := tk_val W7.nod hm8
  have hlm8 : H8 lm = some (.lst (List.replicate m (V.int 5))) := W7.lst _ hm8
  have hcm : My.colD (tk (ts0 ++ [(⟨("more" : Str), lm, List.replicate m (V.int 5)⟩ : TCol)])) (.str ("more" : Str)) = true := by
    show (nameS ("more" : Str) && (valV (tk (ts0 ++ [(⟨("more" : Str), lm, List.replicate m (V.int 5)⟩ : TCol)])) (.inr ("more" : Str) : Key)).isSome) = true
    rw [hvm, strs8]
    rfl
  have hpm : placeD ((rangeV 0 m).length : Int) (.int 0) = true := zero_at (by rw [rangeV_len]; omega)
  have hix : ixN (List.replicate m (V.int 5)).length 0 = some 0 := by
    unfold ixN
    rw [List.length_replicate, if_pos (by omega), if_pos (by omega)]
    rfl
  refine ⟨tp, r, e, rangeV 0 m, n, _, .str ("more" : Str), .str ("more" : Str), .int 0, .int 0, .ref tf, .tuple [.str ("fault" : Str), .str ("put" : Str)], rfl, W7.tab, .str _, shortS_str (by decide), .int 0, .tup (SqT.of htf1) (.cons (.str _) (.cons (.str _) .nil)), (fun ds z => ?_), (fun _ _ _ => ⟨("more" : Str), lm, List.replicate m (V.int 5), 0, 0, rfl, strs8, hvm, hlm8, rfl, hix, fun H9 s9 => ?_⟩), (fun z => by rw [hcm] at z; cases z), (fun _ z => by rw [hpm] at z; cases z), (fun _ _ z => by rw [put_fault] at z; cases z)⟩
  · cases z
    intro x hx
    simp only [List.mem_cons, List.not_mem_nil, or_false] at hx
    rcases hx with rfl | rfl <;> (intro t e; cases e; decide)
  have W8 := W7.same s9
  have htf9 := s9 _ _ htf1
  obtain ⟨dx9, k9⟩ := W8.tab.at_
  have hlm9 := s9 _ _ hlm8
  have apt9 : ∀ d ∈ ts0, d.l ≠ lm := fun d hd e => by
    have h := W8.apt
    rw [List.map_append] at h
    exact (List.nodup_append.mp h).2.2 d.l (List.mem_map.mpr ⟨d, hd, rfl⟩) lm (by simp) e
  have W9 : Tbl C (upd H9 lm (.lst ((List.replicate m (V.int 5)).set 0 (.ref tf)))) tp r e (rangeV 0 m) n (ts0 ++ [⟨("more" : Str), lm, (List.replicate m (V.int 5)).set 0 (.ref tf)⟩]) := by
    refine ⟨⟨⟨dx9, ?_⟩, ?_, ?_⟩, fun d hd => ?_, fun d hd => ?_, fun d hd => ?_, ?_, ?_, fun d hd => ?_, ?_⟩
    · rw [upd_ne (ne_of k9 hlm9 (fun z => by cases z))]; exact k9
    · rw [upd_ne (W8.apr _ hm8).symm]; exact W8.tab.rows
    · rw [upd_ne (ne_of W8.tab.kept hlm9 (fun z => by cases z)), W8.tab.kept]
      unfold tk
      rw [List.map_append, List.map_append]
      rfl
    · rcases List.mem_append.mp hd with h | h
      · rw [upd_ne (apt9 d h)]; exact W8.lst d (List.mem_append_left _ h)
      · rw [List.mem_singleton.mp h, upd_same]
    · rcases List.mem_append.mp hd with h | h
      · exact W8.len d (List.mem_append_left _ h)
      · rw [List.mem_singleton.mp h, List.length_set, List.length_replicate, rangeV_len]
    · rcases List.mem_append.mp hd with h | h
      · exact W8.nms d (List.mem_append_left _ h)
      · rw [List.mem_singleton.mp h]; exact more_name
    · have h := W8.nod; rw [List.map_append] at h ⊢; exact h
    · have h := W8.apt; rw [List.map_append] at h ⊢; exact h
    · rcases List.mem_append.mp hd with h | h
      · exact W8.apr d (List.mem_append_left _ h)
      · rw [List.mem_singleton.mp h]
        exact (show lm ≠ r from W8.apr ⟨("more" : Str), lm, List.replicate m (V.int 5)⟩ hm8)
    · have h := W8.few; rw [List.length_append] at h ⊢; exact h
  have htfA : upd H9 lm (.lst ((List.replicate m (V.int 5)).set 0 (.ref tf))) tf = some (.tup [.str ("fault" : Str), .str ("put" : Str)]) := by rw [upd_ne (ne_of htf9 hlm9 (fun z => by cases z))]; exact htf9
  generalize upd H9 lm (.lst ((List.replicate m (V.int 5)).set 0 (.ref tf))) = HA at W9 htfA ⊢
  -- and it is there
  obtain ⟨dxA, kA⟩ := W9.tab.at_
  have hmA : (⟨("more" : Str), lm, (List.replicate m (V.int 5)).set 0 (.ref tf)⟩ : TCol) ∈ ts0 ++ [(⟨("more" : Str), lm, (List.replicate m (V.int 5)).set 0 (.ref tf)⟩ : TCol)] := by simp
  have hvA : valV (tk (ts0 ++ [(⟨("more" : Str), lm, (List.replicate m (V.int 5)).set 0 (.ref tf)⟩ : TCol)])) (.inr ("more" : Str) : Key) = some (.ref lm) := tk_val W9.nod hmA
  have hlA : HA lm = some (.lst ((List.replicate m (V.int 5)).set 0 (.ref tf))) := W9.lst _ hmA
  have hatA : atI ((List.replicate m (V.int 5)).set 0 (.ref tf)) 0 = some (.ref tf) := atI_nat (j := 0) (by rw [List.getElem?_set_self (by rw [List.length_replicate]; omega)])
  refine ⟨_, rfl, tp, dxA, _, rfl, kA, flds_no, tp, r, e, rangeV 0 m, n, _, .str ("more" : Str), .str ("more" : Str), .int 0, .int 0, rfl, W9.tab, .str _, shortS_str (by decide), .int 0, (fun t l' ys i' v e1 hn hv' hl' e2 i0 i1 hat' HB sB => ?_), (fun _ _ => ⟨("more" : Str), lm, _, 0, .ref tf, rfl, strs8, hvA, hlA, rfl, by omega, by rw [rangeV_len]; omega, hatA⟩), (fun z => ?_), (fun _ z => by rw [hpm] at z; cases z)⟩
  rotate_left
  · have z' : (nameS ("more" : Str) && (valV (tk (ts0 ++ [(⟨("more" : Str), lm, (List.replicate m (V.int 5)).set 0 (.ref tf)⟩ : TCol)])) (.inr ("more" : Str) : Key)).isSome) = false := z
    rw [hvA, strs8] at z'
    cases z'
  cases e1
  cases e2
  rw [hvA] at hv'
  cases hv'
  rw [hlA] at hl'
  cases hl'
  rw [hatA] at hat'
  cases hat'
  refine ⟨sl, fun tg htg => ?_⟩
  have y1 := Same.new (o := .tup [.str ("fault" : Str), .str ("put" : Str)]) htg
  have htgB := upd_same (H := HB) (a := tg) (o := .tup [.str ("fault" : Str), .str ("put" : Str)])
  refine ⟨_, _, .tup (SqT.of (y1 _ _ (sB _ _ htfA))) (.cons (.str _) (.cons (.str _) .nil)), .tup (SqT.of htgB) (.cons (.str _) (.cons (.str _) .nil)), lay_fault8, lay_fault8, (show max 0 (max 0 0) + 1 ≤ 64 by decide), ?_⟩
  rw [SeqAt.eqv_refl _ lay_fault8]
  have WC := W9.same (sB.trans y1)
  generalize upd HB tg (.tup [.str ("fault" : Str), .str ("put" : Str)]) = HC at WC ⊢
  refine ⟨_, rfl, iteT ?_⟩
  obtain ⟨dxC, kC⟩ := WC.tab.at_
  refine ⟨_, rfl, tp, dxC, _, rfl, kC, flds_no, tp, r, e, rangeV 0 m, n, _, 0, rfl, WC, by omega, by rw [rangeV_len]; omega, by rw [rangeV_len]; omega, fun HD b1 b2 b3 => ?_⟩
  refine ⟨rfl, _, rfl, iteT ?_⟩
  have ntp : ∀ {b : Addr} {o : HO}, HC b = some o → (∀ zs, o ≠ .lst zs) → HD b = some o := fun hb n => b1 _ _ hb (ne_of hb WC.tab.rows (n _)) fun d hd => ne_of hb (WC.lst d hd) (n _)
  have TD : TabAt C HD tp r e ((rangeV 0 m).eraseIdx 0) n (tk (ts0 ++ [(⟨("more" : Str), lm, (List.replicate m (V.int 5)).set 0 (.ref tf)⟩ : TCol)])) := ⟨⟨dxC, ntp kC (fun _ z => by cases z)⟩, b3, ntp WC.tab.kept (fun _ z => by cases z)⟩
  refine ⟨_, rfl, tp, dxC, _, rfl, ntp kC (fun _ z => by cases z), flds_no, tp, r, e, _, n, _, rfl, TD, _, rfl, _, _, rfl, rfl, rfl, ?_⟩
  have elen : (((rangeV 0 m).eraseIdx 0).length : Int) = (m : Int) - 1 := by
    rw [List.length_eraseIdx, rangeV_len, if_pos (by omega)]
    omega
  rw [elen, decide_eq_true rfl]
  exact q _
end
end My

namespace My
open PySem L2
theorem b4_no {m c6 : Int} (h1 : 0 ≤ m) (h2 : 0 ≤ c6) : ∀ d ∈ ([.int (m + 1), .int (-1), .int (m + 1 + c6), .bool true, .none, .str ("0" : Str), .list [.int 0]] : List PyData), placeD (m + 1) d = false := by
  intro d hd
  simp only [List.mem_cons, List.not_mem_nil, or_false] at hd
  rcases hd with rfl | rfl | rfl | rfl | rfl | rfl | rfl
  · show (decide (0 ≤ m + 1) && decide (m + 1 < m + 1)) = false
    rw [decide_eq_false (Int.lt_irrefl _), Bool.and_false]
  · rfl
  · show (decide (0 ≤ m + 1 + c6) && decide (m + 1 + c6 < m + 1)) = false
    rw [decide_eq_false (show ¬ m + 1 + c6 < m + 1 by omega), Bool.and_false]
  all_goals rfl
section
variable {P : Program} {w : World} {K : PySem.W.Frag} {mg : Str → Option Value} {base : Heap}
theorem law_mid (T : Tops K mg) {c : Ad} (X : Excs K mg c) {C : Addr} (Y : TTable K mg C) {f : Addr} {cdv : Value} {A : Around} {outer : List Env} {s : Shared} {H : Hp} {E : XK} {Q : VK} (hr : Room 9 (A.deeper (PyProof.Rows.envOfC ("law" : Str) (defScope s_law) s.heap.objs.size f cdv))) (q : ∀ H', Q (.bl true) H') :
    ∃ t, PSs (cxOf CX0 P w K mg base Nlaw "law" (defScope s_law) f cdv A outer s H E).nox ((defBody s_law).drop 6) t ∧
      ∀ (Hx : Hp) (a lc tp r e : Addr) (ns : List Int) (n : Int) (cols : List Str) (m : Nat) (ts : List TCol) (o4 : Option V), SqL K Hx a (ns.map V.int) → ns.length ≤ 63 → Bt C Hx tp r e n cols m cols.length ts → ColsOk cols → Hx lc = some (.lst (cols.map V.str)) → 1 ≤ m → m ≤ 30 →
        t { nx := fun _ H' => Q .non H', rt := Q } [some (.ref a), some (.int (m : Int)), some (.ref lc), some (.ref tp), o4, none, none, none, none, none] Hx := by
  obtain ⟨t7, h7, q7⟩ := law_end (P := P) (w := w) (base := base) (outer := outer) (H := H) (E := E) T X Y hr q
  have G_law_cell : Known P w K mg base CX0 1 "_law_cell" ["_law_script", "_law_k"] (spCell K) := k_law_cell T
  have G_law_bad : Known P w K mg base CX0 1 "_law_bad" ["_law_cell_here", "_law_many"] (spBad K) := k_law_bad T
  have G_law_row : Known P w K mg base CX0 1 "_law_row" ["_law_columns", "_law_cell_here", "_law_bad_here"] (spRow8 K) := k_law_row T
  have G_law_due : Known P w K mg base CX0 1 "_law_due" ["_law_way", "_law_full", "_law_columns"] (spDue8 K) := k_law_due T
  have G_law_kind : Known P w K mg base CX0 8 "_law_kind" ["_law_table", "_law_way", "_law_bad_here", "_law_values", "_law_row_here", "_law_column"] (spKind K C) := k_law_kind T X Y
  have G_law_stands : Known P w K mg base CX0 4 "_law_stands" ["_law_table", "_law_columns", "_law_many"] (spStands C) := k_law_stands T X Y
  refine ⟨_, (pss_cons (ps_for PassesOwn.never rfl (pi_range1 rfl T.range (pa_cons pe_int pa_nil)) (pg_name (i := 4) sc_law.nd rfl (by first | exact Or.inl rfl | exact Or.inr rfl)) (pss_cons (ps_set (i := 5) sc_law.nd rfl (Or.inl rfl) (pe_op op_mod (pe_callN G_law_cell (hr.mono (by decide)) pass0 (pa_cons (pv 0) (pa_cons (pe_op op_add pe_int (pv 4)) pa_nil))) pe_int))
    (pss_cons (ps_set (i := 6) sc_law.nd rfl (Or.inl rfl) (pe_callN G_law_bad (hr.mono (by decide)) pass0 (pa_cons (pe_op op_fdiv (pv 5) pe_int) (pa_cons (pv 1) pa_nil))))
    (pss_cons (ps_expr (pe_bm PySem.F.plainAttrs_list PySem.F.slot_list_append PySem.F.type_list_append mt_append (pv 6) (pa_cons (pe_ix ix_list (pew_lst (paw_b (PEw.mk (pe_op op_add (pv 1) pe_int)) (paw_u (PEw.mk (pe_un un_neg pe_int)) (paw_b (PEw.mk (pe_op op_add (pe_op op_add (pv 1) pe_int) (pe_op op_mod (pv 5) (pe_op op_pow pe_int pe_int)))) (paw_k pew_bl (paw_k pew_non (paw_k pew_str (paw_l (pew_lst (paw_k pew_int paw_nil)) paw_nil)))))))).run (pe_op op_mod (pe_op op_fdiv (pv 5) pe_int) pe_int) (fun _ _ => rfl)) pa_nil)))
    (pss_cons (ps_expr (pe_bm PySem.F.plainAttrs_list PySem.F.slot_list_append PySem.F.type_list_append mt_append (pv 6) (pa_cons (pe_op op_fdiv (pv 5) pe_int) pa_nil)))
    (pss_cons (ps_set (i := 7) sc_law.nd rfl (Or.inl rfl) (pe_callN G_law_row (hr.mono (by decide)) pass0 (pa_cons (pv 2) (pa_cons (pe_callN G_law_cell (hr.mono (by decide)) pass0 (pa_cons (pv 0) (pa_cons (pe_op op_add pe_int (pv 4)) pa_nil))) (pa_cons (pe_ix ix_list (pv 6) pe_int (fun _ _ => rfl)) pa_nil)))))
    (pss_cons (ps_set (i := 8) sc_law.nd rfl (Or.inl rfl) (pe_ix ix_list (pv 2) (pe_op op_mod (pe_op op_fdiv (pv 5) pe_int) (pe_callB call_len rfl T.len b_len (pa_cons (pv 2) pa_nil))) (fun _ _ => rfl)))
    (pss_cons (ps_set (i := 9) sc_law.nd rfl (Or.inl rfl) (pe_callN G_law_due (hr.mono (by decide)) pass0 (pa_cons (pe_op op_mod (pv 5) pe_int) (pa_cons (pe_cmpR op_eq (pv 1) pe_int (nomark _)) (pa_cons (pv 2) pa_nil)))))
    (pss_cons (ps_if (pt_cmpR op_notN (pv 9) pe_non (nomark _)) (pss_one (ps_if (pt_cmpR op_ne (pe_callN G_law_kind (hr.mono (by decide)) pass0 (pa_cons (pv 3) (pa_cons (pe_op op_mod (pv 5) pe_int) (pa_cons (pv 6) (pa_cons (pe_op op_rep (pe_lst (pa_cons pe_int pa_nil)) (pv 1)) (pa_cons (pv 7) (pa_cons (pv 8) pa_nil))))))) (pv 9) (nomark _)) (pss_one (ps_ret pe_bl)) pss_nil)) pss_nil)
    (pss_one (ps_if (pt_not (pt_val (pe_callN G_law_stands (hr.mono (by decide)) pass0 (pa_cons (pv 3) (pa_cons (pv 2) (pa_cons (pv 1) pa_nil)))) (fun _ => rfl))) (pss_one (ps_ret pe_bl)) pss_nil))))))))))) h7), fun Hx a lc tp r e ns n cols m ts o4 hS hl B co hlc m1 m2 => ?_⟩
  have S := B.stnd co
  have hcp := co.p
  have hcl := co.l
  refine ⟨4, rfl, by decide, by decide, ?_⟩
  refine for_range (lo := 0) (n := 4) (fun k σ H2 => ∃ o4 o5 o6 o7 o8 o9, σ = [some (.ref a), some (.int (m : Int)), some (.ref lc), some (.ref tp), o4, o5, o6, o7, o8, o9] ∧ Same Hx H2) ⟨_, _, _, _, _, _, rfl, Same.refl _⟩ ?_ ?_
  · rintro k σ H2 hk ⟨o4, o5, o6, o7, o8, o9, rfl, s2⟩
    refine ⟨_, rfl, _, rfl, _, _, rfl, rfl, a, ns, _, rfl, s2.seq hS, hl, by omega, by omega, _, _, rfl, rfl, (show (0 : Int) < 1000000007 by decide), ?_⟩
    have c0 := Int.emod_nonneg (cellZ ns (3 + (0 + (k : Int)))) (show (1000000007 : Int) ≠ 0 by decide)
    have c16 : 0 ≤ (cellZ ns (3 + (0 + (k : Int))) % 1000000007) / 16 := Int.ediv_nonneg c0 (by decide)
    refine ⟨_, rfl, _, _, rfl, rfl, ⟨by decide, by decide⟩, _, rfl, (cellZ ns (3 + (0 + (k : Int))) % 1000000007) / 16, (m : Int), rfl, by omega, by omega, c16, fun H3 bl b0 b1 b2 b3 d0 d1 d2 d3 far s3 hbl hfar Bd => ?_⟩
    have s23 := s2.trans s3
    -- the place for put_in
    have m63 : (m : Int) < 2 ^ 63 := by omega
    refine ⟨_, rfl, .inl ⟨rfl, _, SqL.of upd_same⟩, _, rfl, _, _, rfl, rfl, _, rfl, _, rfl, _, _, rfl, rfl, _, rfl, _, _, rfl, rfl, ⟨by decide, by decide, by decide⟩, _, _, rfl, rfl, (show (0 : Int) < 10 ^ (6 : Int).toNat by decide), _, _, rfl, rfl, sl, fun l7 hl7 => ⟨sl, fun lx hlx => ?_⟩⟩
    have hbl4 := upd_same (H := H3) (a := bl) (o := .lst [b0, b1, b2, b3])
    have n7 : l7 ≠ bl := (ne_of_none hbl4 hl7).symm
    have w1 := Same.new (o := .lst [.int 0]) hl7
    have w2 := Same.new (o := .lst [.int ((m : Int) + 1), .int (-1), .int ((m : Int) + 1 + (cellZ ns (3 + (0 + (k : Int))) % 1000000007) % 10 ^ (6 : Int).toNat), .bl true, .non, .str ("0" : Str), .ref l7]) hlx
    have k0 := Int.emod_nonneg (cellZ ns (3 + (0 + (k : Int))) % 1000000007) (show ((10 : Int) ^ (6 : Int).toNat) ≠ 0 by decide)
    have x0 := Int.emod_nonneg ((cellZ ns (3 + (0 + (k : Int))) % 1000000007) / 16) (show (7 : Int) ≠ 0 by decide)
    have x1 := Int.emod_lt_of_pos ((cellZ ns (3 + (0 + (k : Int))) % 1000000007) / 16) (show (0 : Int) < 7 by decide)
    have hb4 : ∃ b4 d4, atI [V.int ((m : Int) + 1), .int (-1), .int ((m : Int) + 1 + (cellZ ns (3 + (0 + (k : Int))) % 1000000007) % 10 ^ (6 : Int).toNat), .bl true, .non, .str ("0" : Str), .ref l7] ((cellZ ns (3 + (0 + (k : Int))) % 1000000007) / 16 % 7) = some b4 ∧ placeD ((m : Int) + 1) d4 = false ∧ ∀ Hy : Hp, Hy l7 = some (.lst [.int 0]) → Dt K Hy b4 d4 := by
      have no := b4_no (m := (m : Int)) (c6 := (cellZ ns (3 + (0 + (k : Int))) % 1000000007) % 10 ^ (6 : Int).toNat) (by omega) k0
      have h7 : (cellZ ns (3 + (0 + (k : Int))) % 1000000007) / 16 % 7 = 0 ∨ (cellZ ns (3 + (0 + (k : Int))) % 1000000007) / 16 % 7 = 1 ∨ (cellZ ns (3 + (0 + (k : Int))) % 1000000007) / 16 % 7 = 2 ∨ (cellZ ns (3 + (0 + (k : Int))) % 1000000007) / 16 % 7 = 3 ∨ (cellZ ns (3 + (0 + (k : Int))) % 1000000007) / 16 % 7 = 4 ∨ (cellZ ns (3 + (0 + (k : Int))) % 1000000007) / 16 % 7 = 5 ∨ (cellZ ns (3 + (0 + (k : Int))) % 1000000007) / 16 % 7 = 6 := by omega
      rcases h7 with e7 | e7 | e7 | e7 | e7 | e7 | e7 <;> rw [e7]
      · exact ⟨_, .int ((m : Int) + 1), rfl, no _ (by simp), fun _ _ => .int _⟩
      · exact ⟨_, .int (-1), rfl, no _ (by simp), fun _ _ => .int _⟩
      · exact ⟨_, .int ((m : Int) + 1 + (cellZ ns (3 + (0 + (k : Int))) % 1000000007) % 10 ^ (6 : Int).toNat), rfl, no _ (by simp), fun _ _ => .int _⟩
      · exact ⟨_, .bool true, rfl, no _ (by simp), fun _ _ => .bl true⟩
      · exact ⟨_, .none, rfl, no _ (by simp), fun _ _ => .non⟩
      · exact ⟨_, .str ("0" : Str), rfl, no _ (by simp), fun _ _ => .str _⟩
      · exact ⟨_, .list [.int 0], rfl, no _ (by simp), fun Hy h => .lst (SqL.of h) (.cons (.int 0) .nil)⟩
    obtain ⟨b4, d4, hat4, p4, dt4⟩ := hb4
    refine ⟨_, rfl, _, _, rfl, rfl, ⟨by decide, by decide⟩, _, _, rfl, rfl, (show (0 : Int) < 7 by decide), lx, _, _, b4, rfl, rfl, SqL.of upd_same, hat4, bl, _, _, rfl, rfl, (w1.trans w2) _ _ hbl4, small1000 (by simp), ?_⟩
    have nx : lx ≠ bl := (ne_of_none (w1 _ _ hbl4) hlx).symm
    have n7x : l7 ≠ lx := ne_of_none (upd_same (H := upd H3 bl (.lst [b0, b1, b2, b3])) (a := l7) (o := .lst [.int 0])) hlx
    have s4 : Same H3 (upd (upd (upd (upd H3 bl (.lst [b0, b1, b2, b3])) l7 (.lst [.int 0])) lx (.lst [.int ((m : Int) + 1), .int (-1), .int ((m : Int) + 1 + (cellZ ns (3 + (0 + (k : Int))) % 1000000007) % 10 ^ (6 : Int).toNat), .bl true, .non, .str ("0" : Str), .ref l7])) bl (.lst ([b0, b1, b2, b3] ++ [b4]))) := ((Same.new hbl).trans (w1.trans w2)).on hbl
    have hl74 : upd (upd (upd (upd H3 bl (.lst [b0, b1, b2, b3])) l7 (.lst [.int 0])) lx (.lst [.int ((m : Int) + 1), .int (-1), .int ((m : Int) + 1 + (cellZ ns (3 + (0 + (k : Int))) % 1000000007) % 10 ^ (6 : Int).toNat), .bl true, .non, .str ("0" : Str), .ref l7])) bl (.lst ([b0, b1, b2, b3] ++ [b4])) l7 = some (.lst [.int 0]) := by rw [upd_ne n7, upd_ne n7x, upd_same]
    have hb5 := upd_same (H := upd (upd (upd H3 bl (.lst [b0, b1, b2, b3])) l7 (.lst [.int 0])) lx (.lst [.int ((m : Int) + 1), .int (-1), .int ((m : Int) + 1 + (cellZ ns (3 + (0 + (k : Int))) % 1000000007) % 10 ^ (6 : Int).toNat), .bl true, .non, .str ("0" : Str), .ref l7])) (a := bl) (o := .lst ([b0, b1, b2, b3] ++ [b4]))
    change (fun Hy : Hp => _) (upd (upd (upd (upd H3 bl (.lst [b0, b1, b2, b3])) l7 (.lst [.int 0])) lx (.lst [.int ((m : Int) + 1), .int (-1), .int ((m : Int) + 1 + (cellZ ns (3 + (0 + (k : Int))) % 1000000007) % 10 ^ (6 : Int).toNat), .bl true, .non, .str ("0" : Str), .ref l7])) bl (.lst ([b0, b1, b2, b3] ++ [b4])))
    generalize upd (upd (upd (upd H3 bl (.lst [b0, b1, b2, b3])) l7 (.lst [.int 0])) lx (.lst [.int ((m : Int) + 1), .int (-1), .int ((m : Int) + 1 + (cellZ ns (3 + (0 + (k : Int))) % 1000000007) % 10 ^ (6 : Int).toNat), .bl true, .non, .str ("0" : Str), .ref l7])) bl (.lst ([b0, b1, b2, b3] ++ [b4])) = H4 at s4 hl74 hb5 ⊢
    refine ⟨_, rfl, .inl ⟨rfl, _, SqL.of hb5⟩, _, rfl, _, _, rfl, rfl, ⟨by decide, by decide⟩, bl, _, _, rfl, rfl, hb5, small1000 (by simp), ?_⟩
    have s5 : Same H3 (upd H4 bl (.lst ([b0, b1, b2, b3] ++ [b4] ++ [.int ((cellZ ns (3 + (0 + (k : Int))) % 1000000007) / 7)]))) := s4.on hbl
    have hl75 : upd H4 bl (.lst ([b0, b1, b2, b3] ++ [b4] ++ [.int ((cellZ ns (3 + (0 + (k : Int))) % 1000000007) / 7)])) l7 = some (.lst [.int 0]) := by rw [upd_ne n7]; exact hl74
    have hb6 := upd_same (H := H4) (a := bl) (o := .lst ([b0, b1, b2, b3] ++ [b4] ++ [.int ((cellZ ns (3 + (0 + (k : Int))) % 1000000007) / 7)]))
    change (fun Hy : Hp => _) (upd H4 bl (.lst ([b0, b1, b2, b3] ++ [b4] ++ [.int ((cellZ ns (3 + (0 + (k : Int))) % 1000000007) / 7)])))
    generalize upd H4 bl (.lst ([b0, b1, b2, b3] ++ [b4] ++ [.int ((cellZ ns (3 + (0 + (k : Int))) % 1000000007) / 7)])) = H5 at s5 hl75 hb6 ⊢
    have s25 := s23.trans s5
    have Bd5 := Bd.same s5
    have e45 := dt4 H5 hl75
    -- the row
    refine ⟨_, rfl, _, rfl, _, rfl, _, _, rfl, rfl, a, ns, _, rfl, s25.seq hS, hl, by omega, by omega, _, rfl, bl, _, _, b3, rfl, rfl, SqL.of hb6, rfl, lc, cols, _, b3, d3, rfl, s25 _ _ hlc, co, Bd5.e3, Bd5.m3, fun H6 row drow s6 hrow hrn => ?_⟩
    have s26 := s25.trans s6
    -- the column
    have hlp : (0 : Int) < (cols.length : Int) := by omega
    have y0 := Int.emod_nonneg ((cellZ ns (3 + (0 + (k : Int))) % 1000000007) / 24) (show (cols.length : Int) ≠ 0 by omega)
    have y1 := Int.emod_lt_of_pos ((cellZ ns (3 + (0 + (k : Int))) % 1000000007) / 24) hlp
    obtain ⟨j, ej⟩ : ∃ j : Nat, (cellZ ns (3 + (0 + (k : Int))) % 1000000007) / 24 % (cols.length : Int) = (j : Int) := ⟨((cellZ ns (3 + (0 + (k : Int))) % 1000000007) / 24 % (cols.length : Int)).toNat, by omega⟩
    obtain ⟨col, hcol⟩ : ∃ col, cols[j]? = some col := ⟨_, List.getElem?_eq_getElem (by omega)⟩
    have hatc : atI (cols.map V.str) ((cellZ ns (3 + (0 + (k : Int))) % 1000000007) / 24 % (cols.length : Int)) = some (.str col) := by rw [ej]; exact at_str hcol
    refine ⟨_, rfl, _, rfl, _, _, rfl, rfl, ⟨by decide, by decide⟩, _, rfl, _, cols.length, rfl, .inl ⟨_, SqL.of (s26 _ _ hlc), by rw [List.length_map]⟩, _, _, rfl, rfl, hlp, lc, _, _, _, rfl, rfl, SqL.of (s26 _ _ hlc), hatc, ?_⟩
    -- what is due
    have z0 := Int.emod_nonneg (cellZ ns (3 + (0 + (k : Int))) % 1000000007) (show (16 : Int) ≠ 0 by decide)
    have z1 := Int.emod_lt_of_pos (cellZ ns (3 + (0 + (k : Int))) % 1000000007) (show (0 : Int) < 16 by decide)
    obtain ⟨way, ew⟩ : ∃ way : Nat, (cellZ ns (3 + (0 + (k : Int))) % 1000000007) % 16 = (way : Int) := ⟨((cellZ ns (3 + (0 + (k : Int))) % 1000000007) % 16).toNat, by omega⟩
    have hw : way < 16 := by omega
    refine ⟨_, rfl, _, _, rfl, rfl, (show (0 : Int) < 16 by decide), _, rfl, rfl, _, rfl, way, decide (V.int (m : Int) = V.int 30), lc, cols, by show [V.int ((cellZ ns (3 + (0 + (k : Int))) % 1000000007) % 16), V.bl (decide (V.int (m : Int) = V.int 30)), V.ref lc] ++ [] = _; rw [ew]; rfl, s26 _ _ hlc, hw, fun H7 s7 => ?_⟩
    have s27 := s26.trans s7
    rw [int_eq8]
    have S7 := S.same s27
    have tail : ∀ (H8 : Hp), Same H7 H8 → ∀ (G : Prop), (∀ H9, Same H8 H9 → G) → G := fun H8 s8 G g => g H8 (Same.refl _)
    unfold dueV
    by_cases hn : way = 1 ∧ cols.length < 8
    · rw [if_pos hn]
      refine ⟨_, rfl, rfl, _, rfl, ?_⟩
      refine ite2 (fun g => absurd g (by simp)) (fun _ => ?_)
      refine ⟨_, rfl, _, rfl, _, rfl, tp, r, e, n, tk ts, cols, m, lc, rfl, S7, s27 _ _ hlc, m2, fun H8 s8 => ⟨_, rfl, iteF ?_⟩⟩
      exact ⟨_, _, _, _, _, _, rfl, s27.trans s8⟩
    · rw [if_neg hn]
      refine ⟨_, rfl, rfl, _, rfl, ?_⟩
      refine ite2 (fun _ => ?_) (fun g => absurd (by simp) g)
      refine ⟨_, rfl, _, rfl, _, _, rfl, rfl, (show (0 : Int) < 16 by decide), _, rfl, sl, fun l0 hl0 => ?_⟩
      have v1 := Same.new (o := .lst [.int 0]) hl0
      refine ⟨_, rfl, l0, (m : Int), [.int 0], rfl, rfl, upd_same, by omega, by omega, Nat.le_of_lt (small1000 (by simp; omega)), fun vl hvl => ?_⟩
      have v2 := Same.new (o := .lst (List.replicate (m : Int).toNat [V.int 0]).flatten) hvl
      have hv8 := upd_same (H := upd H7 l0 (.lst [.int 0])) (a := vl) (o := .lst (List.replicate (m : Int).toNat [V.int 0]).flatten)
      have s8 := s27.trans (v1.trans v2)
      have s58 := s6.trans (s7.trans (v1.trans v2))
      have s68 := s7.trans (v1.trans v2)
      generalize upd (upd H7 l0 (.lst [.int 0])) vl (.lst (List.replicate (m : Int).toNat [V.int 0]).flatten) = H8 at hv8 s8 s58 s68 ⊢
      have ezs : (List.replicate (m : Int).toNat [V.int 0]).flatten = List.replicate m (V.int 0) := by rw [Int.toNat_natCast, rep_flat]
      rw [ezs] at hv8
      have A : A8 K C H8 tp r e (rangeV 0 m) n (tk ts) (m : Int) far bl b0 b1 b2 b3 b4 ((cellZ ns (3 + (0 + (k : Int))) % 1000000007) / 7) d0 d1 d2 d3 d4 vl (List.replicate m (V.int 0)) row drow col cols :=
        ⟨(S.same s8).tab, by rw [rangeV_len], by omega, by omega, S.kk, co, s58 _ _ hb6, Bd5.same s58, hfar, e45.same s58, p4, hv8, by rw [List.length_replicate], fun v hv => List.eq_of_mem_replicate hv, hrow.same s68, hrn.same s68, List.mem_of_getElem? hcol⟩
      refine ⟨_, rfl, _, rfl, tp, r, e, rangeV 0 m, n, tk ts, (m : Int), far, bl, b0, b1, b2, b3, b4, (cellZ ns (3 + (0 + (k : Int))) % 1000000007) / 7, d0, d1, d2, d3, d4, vl, _, row, drow, col, cols, way, by show [V.ref tp, V.int ((cellZ ns (3 + (0 + (k : Int))) % 1000000007) % 16), V.ref bl, V.ref vl, row, V.str col] ++ [] = _; rw [ew]; rfl, A, hw, (fun h => by
        rcases Nat.lt_or_ge cols.length 8 with g | g
        · exact absurd ⟨h, g⟩ hn
        · exact g), fun H9 s9 => ?_⟩
      refine ⟨_, rfl, rfl, _, rfl, ?_⟩
      refine ite2 (fun g => absurd g (by simp)) (fun _ => ?_)
      have s29 := s8.trans s9
      refine ⟨_, rfl, _, rfl, _, rfl, tp, r, e, n, tk ts, cols, m, lc, rfl, S.same s29, s29 _ _ hlc, m2, fun HA sA => ⟨_, rfl, iteF ?_⟩⟩
      exact ⟨_, _, _, _, _, _, rfl, s29.trans sA⟩
  · rintro σ H2 ⟨o4, o5, o6, o7, o8, o9, rfl, s2⟩
    refine q7 H2 a lc tp r e n cols m ts _ _ _ _ _ _ ⟨B.W.same s2, B.nm, B.ys⟩ co (s2 _ _ hlc) m1 m2
end
end My

namespace My
open PySem L2
theorem colV_succ (k j : Nat) : colV k (j + 1) = colV k j ++ [.int (10 * (k : Int) + (j : Int))] := by
  unfold colV
  rw [List.range_succ, List.map_append]
  rfl
def colD8 (k m : Nat) : List PyData := (List.range m).map fun (i : Nat) => PyData.int (((10 * k + i : Nat) : Int))
theorem colV_dt {K : PySem.W.Frag} {H : Hp} (k : Nat) : ∀ m : Nat, DtAll K H (colV k m) (colD8 k m)
  | 0 => .nil
  | m + 1 => by
    have e : colD8 k (m + 1) = colD8 k m ++ [.int (((10 * k + m : Nat) : Int))] := by unfold colD8; rw [List.range_succ, List.map_append]; rfl
    rw [colV_succ, e]
    refine (colV_dt k m).append (.cons ?_ .nil)
    rw [show (((10 * k + m : Nat) : Int)) = 10 * (k : Int) + (m : Int) from by omega]
    exact .int _
theorem colD8_ok {k m : Nat} (hk : k ≤ 7) (hm : m ≤ 30) : valuesD (m : Int) (.list (colD8 k m)) = true := by
  show (decide (((colD8 k m).length : Int) = (m : Int)) && (colD8 k m).all valueD) = true
  have hl : (colD8 k m).length = m := by unfold colD8; rw [List.length_map, List.length_range]
  rw [hl, decide_eq_true rfl, Bool.true_and, List.all_eq_true]
  intro d hd
  obtain ⟨i, hi, rfl⟩ := List.mem_map.mp hd
  have := List.mem_range.mp hi
  exact num_small (by omega)
section
variable {P : Program} {w : World} {K : PySem.W.Frag} {mg : Str → Option Value} {base : Heap}
theorem law_make (T : Tops K mg) {c : Ad} (X : Excs K mg c) {C : Addr} (Y : TTable K mg C) {f : Addr} {cdv : Value} {A : Around} {outer : List Env} {s : Shared} {H : Hp} {E : XK} {Q : VK} (hr : Room 9 (A.deeper (PyProof.Rows.envOfC ("law" : Str) (defScope s_law) s.heap.objs.size f cdv))) (q : ∀ H', Q (.bl true) H') :
    ∃ t, PSs (cxOf CX0 P w K mg base Nlaw "law" (defScope s_law) f cdv A outer s H E).nox ((defBody s_law).drop 4) t ∧
      ∀ (Hx : Hp) (a lc : Addr) (ns : List Int) (cols : List Str) (m : Nat), SqL K Hx a (ns.map V.int) → ns.length ≤ 63 → ColsOk cols → Hx lc = some (.lst (cols.map V.str)) → 1 ≤ m → m ≤ 30 →
        t { nx := fun _ H' => Q .non H', rt := Q } [some (.ref a), some (.int (m : Int)), some (.ref lc), none, none, none, none, none, none, none] Hx := by
  obtain ⟨t6, h6, q6⟩ := law_mid (P := P) (w := w) (base := base) (outer := outer) (H := H) (E := E) T X Y hr q
  have G_Table : KnownI P w K mg base (CXE P w) 3 C ["self", "many"] (spInit K C c) := k_Table_init T X Y
  have G_give : KnownM P w K mg base (CXE P w) 5 C "give" ["self", "column", "values"] (spGive K C c) := k_Table_give T X Y
  have hcl : ∀ x, (cxOf CX0 P w K mg base Nlaw "law" (defScope s_law) f cdv A outer s H E).nox.env.scope.names.lookup x = some .cell → ∃ c, (cxOf CX0 P w K mg base Nlaw "law" (defScope s_law) f cdv A outer s H E).nox.env.cells.lookup x = some c := fun x hx => Option.isSome_iff_exists.mp (PySem.W.cellsFrom_some _ _ _ (.inl hx))
  refine ⟨_, (pss_cons (ps_set (i := 3) sc_law.nd rfl (Or.inl rfl) (pe_makeN G_Table (hr.mono (by decide)) Y.c passN (pa_cons (pv 1) pa_nil)))
    (pss_cons (ps_for PassesOwn.never rfl (pi_range1 rfl T.range (pa_cons (pe_callB call_len rfl T.len b_len (pa_cons (pv 2) pa_nil)) pa_nil)) (pg_name (i := 4) sc_law.nd rfl (by first | exact Or.inl rfl | exact Or.inr rfl)) (pss_one (ps_expr (pe_methN (pv 3) Y.cl G_give (hr.mono (by decide)) passN (pa_cons (pe_ix ix_list (pv 2) (pv 4) (fun _ _ => rfl)) (pa_cons (pe_comp (caps_of (sc := defScope s_law) (N := Nlaw) (cp := [(4, "_law_k")]) hcl) rfl rfl (by decide) (pi_range1 rfl T.range (pa_cons (pv 1) pa_nil)) (fun _ _ _ _ _ => pts_nil) (fun _ _ _ _ _ => (pe_op op_add (pe_op op_mul pe_int (pv 1)) (pv 0)))) pa_nil))))))
    h6)), fun Hx a lc ns cols m hS hl co hlc m1 m2 => ?_⟩
  refine ⟨_, rfl, fun tp dt htp hdt hne => ⟨tp, dt, .int (m : Int), .int (m : Int), rfl, upd_same, .int _, (fun i z h0 h30 H2 r e A1 hr1 he1 hre keep => ?_), fun z => absurd z (by simp [sizeD]; omega)⟩⟩
  cases z
  rw [Int.toNat_natCast] at A1
  have s2 : Same Hx H2 := fun b o e => keep b o (made_same htp hdt b o e) (ne_of_none e htp)
  have zr := noneB8 (made_same (o := HO.own tp) (u := HO.ins C dt []) htp hdt) hr1
  have ze := noneB8 (made_same (o := HO.own tp) (u := HO.ins C dt []) htp hdt) he1
  clear keep
  refine ⟨rfl, ?_⟩
  have hcp := co.p
  have hcl' := co.l
  refine ⟨_, rfl, _, cols.length, rfl, .inl ⟨_, SqL.of (s2 _ _ hlc), by rw [List.length_map]⟩, _, rfl, by omega, by omega, ?_⟩
  rw [Int.toNat_natCast]
  refine for_range (lo := 0) (n := cols.length) (fun k σ H3 => ∃ (ts : List TCol) (o4 : Option V), σ = [some (.ref a), some (.int (m : Int)), some (.ref lc), some (.ref tp), o4, none, none, none, none, none] ∧ Same Hx H3 ∧ Bt C H3 tp r e (m : Int) cols m k ts)
    ⟨[], _, rfl, s2, ⟨A1, fun c h => (by cases h), fun c h => (by cases h), fun c h => (by cases h), by simp, by simp, fun c h => (by cases h), Nat.zero_le _⟩, rfl, fun i c h => by simp at h⟩ ?_ ?_
  · rintro k σ H3 hk ⟨ts, o4, rfl, s3, B⟩
    obtain ⟨z, hz⟩ : ∃ z, cols[k]? = some z := ⟨_, List.getElem?_eq_getElem hk⟩
    have hzs := co.s z (List.mem_of_getElem? hz)
    obtain ⟨dx, g1⟩ := B.W.tab.at_
    refine ⟨_, rfl, tp, dx, _, rfl, g1, flds_no, _, rfl, _, rfl, lc, _, _, _, rfl, rfl, SqL.of (s3 _ _ hlc), by rw [Int.zero_add]; exact at_str hz, _, rfl, (m : Int), rfl, by omega, by omega, fun D hD => ?_⟩
    rw [Int.toNat_natCast]
    refine comp_range (lo := 0) (n := m) (fun j ys H4 => ys = colV k j ∧ Same H3 H4) ⟨rfl, Same.new hD⟩ ?_ ?_
    · rintro j ys H4 hj hD4 ⟨rfl, s4⟩
      refine ⟨_, rfl, _, _, rfl, rfl, .inl ⟨by decide, by decide⟩, _, rfl, _, _, rfl, rfl, hD4, small1000 (by rw [colV_len]; omega), ?_, s4.on hD⟩
      show colV k j ++ [V.int (10 * (0 + (k : Int)) + (0 + (j : Int)))] = _
      rw [Int.zero_add, Int.zero_add, colV_succ]
    · rintro ys H4 hD4 ⟨rfl, s4⟩
      have W4 := B.W.same s4
      have hnm : z ∉ ts.map (·.nm) := fun h => by
        rw [B.nm] at h
        obtain ⟨i, hi⟩ := List.mem_iff_getElem?.mp h
        rw [List.getElem?_take] at hi
        by_cases g : i < k
        · rw [if_pos g] at hi
          obtain ⟨a1, a2⟩ := List.getElem?_eq_some_iff.mp hi
          obtain ⟨b1, b2⟩ := List.getElem?_eq_some_iff.mp hz
          have := (List.getElem_inj co.n).mp (a2.trans b2.symm)
          omega
        · rw [if_neg g] at hi; cases hi
      have htl : ts.length = k := by
        have := congrArg List.length B.nm
        rw [List.length_map, List.length_take] at this
        omega
      have hval : valuesD ((rangeV 0 m).length : Int) (.list (colD8 k m)) = true := by rw [rangeV_len]; exact colD8_ok (by omega) m2
      refine ⟨tp, r, e, rangeV 0 m, (m : Int), tk ts, .str z, .str z, .ref D, .list (colD8 k m), rfl, W4.tab, .str _, shortS_str (by omega), .lst (SqL.of hD4) (colV_dt k m), (fun ds z => ?_), (fun t e1 hn _ _ => ?_), (fun h => absurd h (by show ¬ nameS z = false; rw [hzs.1]; decide)), (fun t e1 hn hv h8 => ?_), (fun t e1 hn hs h => ?_)⟩
      · cases z
        refine ⟨by unfold colD8; rw [List.length_map, List.length_range]; omega, fun x hx => ?_⟩
        obtain ⟨i, _, rfl⟩ := List.mem_map.mp hx
        intro ds z
        cases z
      rotate_left
      · rw [tk_len] at h8; omega
      · rw [hval] at h; cases h
      cases e1
      refine ⟨by rw [tk_len]; omega, D, colV k m, rfl, SqL.of hD4, fun H5 l s5 hl5 => ?_⟩
      have W5 := W4.more (c := ⟨z, l, colV k m⟩) s5 hl5 hzs hnm (by rw [colV_len, rangeV_len]) (by omega)
      have s35 := s3.trans (s4.trans s5)
      have n5 : Hx l = none := noneB8 s35 hl5
      refine ⟨ts ++ [⟨z, l, colV k m⟩], _, rfl, (s35.on n5).on ze, W5, ?_, fun i c hc => ?_⟩
      · rw [List.map_append, B.nm, List.take_add_one, hz]
        rfl
      · rcases Nat.lt_or_ge i ts.length with g | g
        · rw [List.getElem?_append_left g] at hc
          exact B.ys i c hc
        · rw [List.getElem?_append_right g] at hc
          have : i - ts.length = 0 := by
            have := (List.getElem?_eq_some_iff.mp hc).1
            simp at this
            omega
          rw [this] at hc
          simp at hc
          rw [← hc, show i = k from by omega]
  · rintro σ H3 ⟨ts, o4, rfl, s3, B⟩
    exact q6 H3 a lc tp r e ns (m : Int) cols m ts _ (s3.seq hS) hl B co (s3 _ _ hlc) m1 m2
theorem ok_law (T : Tops K mg) {f : Addr} {fd : FuncData} (F : Fun K "law" "law" s_law f fd) : FnOk P w K mg base CX0 10 f fd ["_law_script"] (spLaw K) := by
  obtain ⟨c, X⟩ := T.exc
  obtain ⟨C, Y⟩ := T.t_Table
  have G_law_cell : Known P w K mg base CX0 1 "_law_cell" ["_law_script", "_law_k"] (spCell K) := k_law_cell T
  refine F.ok sc_law (fun vs H Q E h => ?_) (fun cdv A outer s H vs Q E hr h => ?_)
  · obtain ⟨a, ns, rfl, _⟩ := h
    rfl
  · obtain ⟨a, ns, rfl, hS, hl, q⟩ := h
    obtain ⟨t4, h4, q4⟩ := law_make (P := P) (w := w) (base := base) (outer := outer) (H := H) (E := E) T X Y hr q
    have rest : ∃ t, PSs (cxOf CX0 P w K mg base Nlaw "law" (defScope s_law) f cdv A outer s H E).nox ((defBody s_law).drop 2) t ∧
        ∀ (m : Nat), 1 ≤ m → m ≤ 30 → t { nx := fun _ H' => Q .non H', rt := Q } [some (.ref a), some (.int (m : Int)), none, none, none, none, none, none, none, none] H := by
      refine ⟨_, (pss_cons (ps_set (i := 2) sc_law.nd rfl (Or.inl rfl) (pe_lst (pa_cons pe_str (pa_cons pe_str (pa_cons pe_str (pa_cons pe_str (pa_cons pe_str (pa_cons pe_str (pa_cons pe_str (pa_cons pe_str pa_nil))))))))))
        (pss_cons (ps_if (pt_cmpR op_lt (pe_op op_mod (pe_callN G_law_cell (hr.mono (by decide)) pass0 (pa_cons (pv 0) (pa_cons pe_int pa_nil))) pe_int) pe_int (nomark _)) (pss_one (ps_set (i := 2) sc_law.nd rfl (Or.inl rfl) (pe_slice sl_list (pv 2) po_none (po_some (pe_op op_add pe_int (pe_op op_mod (pe_callN G_law_cell (hr.mono (by decide)) pass0 (pa_cons (pv 0) (pa_cons pe_int pa_nil))) pe_int)))))) pss_nil)
        h4)), fun m m1 m2 => ?_⟩
      refine ⟨sl, fun l1 hl1 => ?_⟩
      have u1 := Same.new (o := .lst (all8.map V.str)) hl1
      have h1 := upd_same (H := H) (a := l1) (o := .lst (all8.map V.str))
      change (fun Hy : Hp => _) (upd H l1 (.lst (all8.map V.str)))
      generalize upd H l1 (.lst (all8.map V.str)) = H1 at u1 h1 ⊢
      refine ⟨_, rfl, a, ns, 2, rfl, u1.seq hS, hl, by decide, by decide, _, _, rfl, rfl, (show (0 : Int) < 4 by decide), _, _, rfl, rfl, _, rfl, ?_⟩
      have c0 := Int.emod_nonneg (cellZ ns 2) (show (4 : Int) ≠ 0 by decide)
      have c1 := Int.emod_lt_of_pos (cellZ ns 2) (show (0 : Int) < 4 by decide)
      refine ite2 (fun g => ?_) (fun g => ?_)
      · obtain ⟨j, ej⟩ : ∃ j : Nat, 1 + cellZ ns 2 % 4 = (j : Int) := ⟨(1 + cellZ ns 2 % 4).toNat, by omega⟩
        have ecut : cutV (all8.map V.str) none (some (1 + cellZ ns 2 % 4)) = (all8.take j).map V.str := by
          rw [ej, cutV_take8 _ _ (by show j ≤ 8; omega), List.map_take]
        refine ⟨_, rfl, _, rfl, a, ns, 2, rfl, u1.seq hS, hl, by decide, by decide, _, _, rfl, rfl, (show (0 : Int) < 4 by decide), _, _, rfl, rfl, _, rfl, l1, _, rfl, SqL.of h1, fun l2 hl2 => ?_⟩
        have u2 := Same.new (o := .lst (cutV (all8.map V.str) none (some (1 + cellZ ns 2 % 4)))) hl2
        refine q4 _ a l2 ns (all8.take j) m ((u1.trans u2).seq hS) hl (cols_take (by omega) (by omega)) ?_ m1 m2
        show upd H1 l2 (.lst (cutV (all8.map V.str) none (some (1 + cellZ ns 2 % 4)))) l2 = _
        rw [upd_same, ecut]
      · refine q4 _ a l1 ns all8 m (u1.seq hS) hl ?_ h1 m1 m2
        exact cols_take (j := 8) (by decide) (by decide)
    obtain ⟨t2, h2, q2⟩ := rest
    refine ⟨_, (pss_cons (ps_set (i := 1) sc_law.nd rfl (Or.inl rfl) (pe_op op_add pe_int (pe_op op_mod (pe_callN G_law_cell (hr.mono (by decide)) pass0 (pa_cons (pv 0) (pa_cons pe_int pa_nil))) pe_int)))
      (pss_cons (ps_if (pt_cmpR op_eq (pe_op op_mod (pe_callN G_law_cell (hr.mono (by decide)) pass0 (pa_cons (pv 0) (pa_cons pe_int pa_nil))) pe_int) pe_int (nomark _)) (pss_one (ps_set (i := 1) sc_law.nd rfl (Or.inl rfl) pe_int)) pss_nil)
      h2)), ?_⟩
    have d0 := Int.emod_nonneg (cellZ ns 0) (show (5 : Int) ≠ 0 by decide)
    have d1 := Int.emod_lt_of_pos (cellZ ns 0) (show (0 : Int) < 5 by decide)
    obtain ⟨m, em⟩ : ∃ m : Nat, 1 + cellZ ns 0 % 5 = (m : Int) := ⟨(1 + cellZ ns 0 % 5).toNat, by omega⟩
    refine ⟨_, rfl, a, ns, 0, rfl, hS, hl, by decide, by decide, _, _, rfl, rfl, (show (0 : Int) < 5 by decide), _, _, rfl, rfl, ?_⟩
    refine ⟨_, rfl, a, ns, 1, rfl, hS, hl, by decide, by decide, _, _, rfl, rfl, (show (0 : Int) < 4 by decide), rfl, _, rfl, ?_⟩
    refine ite2 (fun _ => ?_) (fun _ => ?_)
    · exact q2 30 (by decide) (by decide)
    · have h := q2 m (by omega) (by omega)
      rw [← em] at h
      exact h
end
end My

namespace My
open PySem L2
theorem tops_mk {K : PySem.W.Frag} {h : Heap} {mg : Str → Option Value} (X : K.In h) (G : h.Ns mainGlobals mg)
    (n_len : PySem.W.nsIn K mainGlobals "len" = some none)
    (n_isinstance : PySem.W.nsIn K mainGlobals "isinstance" = some none)
    (n_int : PySem.W.nsIn K mainGlobals "int" = some none)
    (n_bool : PySem.W.nsIn K mainGlobals "bool" = some none)
    (n_str : PySem.W.nsIn K mainGlobals "str" = some none)
    (n_all : PySem.W.nsIn K mainGlobals "all" = some none)
    (n_range : PySem.W.nsIn K mainGlobals "range" = some none)
    (n_abs : PySem.W.nsIn K mainGlobals "abs" = some none)
    (n_list : PySem.W.nsIn K mainGlobals "list" = some none)
    (n_tuple : PySem.W.nsIn K mainGlobals "tuple" = some none)
    (n_dict : PySem.W.nsIn K mainGlobals "dict" = some none)
    (n_enumerate : PySem.W.nsIn K mainGlobals "enumerate" = some none)
    (n_ValueError : PySem.W.nsIn K mainGlobals "ValueError" = some none)
    {t_LETTERS : Tok} (i_LETTERS : PySem.W.nsIn K mainGlobals "LETTERS" = some (some (.str ("abcdefghijklmnopqrstuvwxyz" : Str) t_LETTERS)))
    {t_MOST_LETTERS : Tok} (i_MOST_LETTERS : PySem.W.nsIn K mainGlobals "MOST_LETTERS" = some (some (.int 8 t_MOST_LETTERS)))
    {t_MOST_ROWS : Tok} (i_MOST_ROWS : PySem.W.nsIn K mainGlobals "MOST_ROWS" = some (some (.int 30 t_MOST_ROWS)))
    {t_MOST_COLUMNS : Tok} (i_MOST_COLUMNS : PySem.W.nsIn K mainGlobals "MOST_COLUMNS" = some (some (.int 8 t_MOST_COLUMNS)))
    {f_is_whole : Addr} {oc_is_whole kV_is_whole doc_is_whole pm_is_whole ct_is_whole : Value} {cd_is_whole : Value} {od_is_whole an_is_whole : Option Addr} {sl_is_whole : Array (Option Value)} (a_is_whole : PySem.W.nsIn K mainGlobals "is_whole" = some (some (.ref f_is_whole)))
    (l_is_whole : K.lookup f_is_whole = some ⟨oc_is_whole, od_is_whole, .func (PySem.W.fnOf "is_whole" "is_whole" (defArgs s_is_whole) (defBody s_is_whole) (defScope s_is_whole) .none kV_is_whole doc_is_whole pm_is_whole an_is_whole cd_is_whole ct_is_whole), sl_is_whole⟩)
    (c_is_whole : PySem.W.codeIn K cd_is_whole "is_whole" = true) (k_is_whole : PySem.W.keepIn K (.ref f_is_whole) = true)
    {f_is_number : Addr} {oc_is_number kV_is_number doc_is_number pm_is_number ct_is_number : Value} {cd_is_number : Value} {od_is_number an_is_number : Option Addr} {sl_is_number : Array (Option Value)} (a_is_number : PySem.W.nsIn K mainGlobals "is_number" = some (some (.ref f_is_number)))
    (l_is_number : K.lookup f_is_number = some ⟨oc_is_number, od_is_number, .func (PySem.W.fnOf "is_number" "is_number" (defArgs s_is_number) (defBody s_is_number) (defScope s_is_number) .none kV_is_number doc_is_number pm_is_number an_is_number cd_is_number ct_is_number), sl_is_number⟩)
    (c_is_number : PySem.W.codeIn K cd_is_number "is_number" = true) (k_is_number : PySem.W.keepIn K (.ref f_is_number) = true)
    {f_is_name : Addr} {oc_is_name kV_is_name doc_is_name pm_is_name ct_is_name : Value} {cd_is_name : Value} {od_is_name an_is_name : Option Addr} {sl_is_name : Array (Option Value)} (a_is_name : PySem.W.nsIn K mainGlobals "is_name" = some (some (.ref f_is_name)))
    (l_is_name : K.lookup f_is_name = some ⟨oc_is_name, od_is_name, .func (PySem.W.fnOf "is_name" "is_name" (defArgs s_is_name) (defBody s_is_name) (defScope s_is_name) .none kV_is_name doc_is_name pm_is_name an_is_name cd_is_name ct_is_name), sl_is_name⟩)
    (c_is_name : PySem.W.codeIn K cd_is_name "is_name" = true) (k_is_name : PySem.W.keepIn K (.ref f_is_name) = true)
    {f_is_fault : Addr} {oc_is_fault kV_is_fault doc_is_fault pm_is_fault ct_is_fault : Value} {cd_is_fault : Value} {od_is_fault an_is_fault : Option Addr} {sl_is_fault : Array (Option Value)} (a_is_fault : PySem.W.nsIn K mainGlobals "is_fault" = some (some (.ref f_is_fault)))
    (l_is_fault : K.lookup f_is_fault = some ⟨oc_is_fault, od_is_fault, .func (PySem.W.fnOf "is_fault" "is_fault" (defArgs s_is_fault) (defBody s_is_fault) (defScope s_is_fault) .none kV_is_fault doc_is_fault pm_is_fault an_is_fault cd_is_fault ct_is_fault), sl_is_fault⟩)
    (c_is_fault : PySem.W.codeIn K cd_is_fault "is_fault" = true) (k_is_fault : PySem.W.keepIn K (.ref f_is_fault) = true)
    {f_is_value : Addr} {oc_is_value kV_is_value doc_is_value pm_is_value ct_is_value : Value} {cd_is_value : Value} {od_is_value an_is_value : Option Addr} {sl_is_value : Array (Option Value)} (a_is_value : PySem.W.nsIn K mainGlobals "is_value" = some (some (.ref f_is_value)))
    (l_is_value : K.lookup f_is_value = some ⟨oc_is_value, od_is_value, .func (PySem.W.fnOf "is_value" "is_value" (defArgs s_is_value) (defBody s_is_value) (defScope s_is_value) .none kV_is_value doc_is_value pm_is_value an_is_value cd_is_value ct_is_value), sl_is_value⟩)
    (c_is_value : PySem.W.codeIn K cd_is_value "is_value" = true) (k_is_value : PySem.W.keepIn K (.ref f_is_value) = true)
    {f_check_size : Addr} {oc_check_size kV_check_size doc_check_size pm_check_size ct_check_size : Value} {cd_check_size : Value} {od_check_size an_check_size : Option Addr} {sl_check_size : Array (Option Value)} (a_check_size : PySem.W.nsIn K mainGlobals "check_size" = some (some (.ref f_check_size)))
    (l_check_size : K.lookup f_check_size = some ⟨oc_check_size, od_check_size, .func (PySem.W.fnOf "check_size" "check_size" (defArgs s_check_size) (defBody s_check_size) (defScope s_check_size) .none kV_check_size doc_check_size pm_check_size an_check_size cd_check_size ct_check_size), sl_check_size⟩)
    (c_check_size : PySem.W.codeIn K cd_check_size "check_size" = true) (k_check_size : PySem.W.keepIn K (.ref f_check_size) = true)
    {f_check_place : Addr} {oc_check_place kV_check_place doc_check_place pm_check_place ct_check_place : Value} {cd_check_place : Value} {od_check_place an_check_place : Option Addr} {sl_check_place : Array (Option Value)} (a_check_place : PySem.W.nsIn K mainGlobals "check_place" = some (some (.ref f_check_place)))
    (l_check_place : K.lookup f_check_place = some ⟨oc_check_place, od_check_place, .func (PySem.W.fnOf "check_place" "check_place" (defArgs s_check_place) (defBody s_check_place) (defScope s_check_place) .none kV_check_place doc_check_place pm_check_place an_check_place cd_check_place ct_check_place), sl_check_place⟩)
    (c_check_place : PySem.W.codeIn K cd_check_place "check_place" = true) (k_check_place : PySem.W.keepIn K (.ref f_check_place) = true)
    {f_check_value : Addr} {oc_check_value kV_check_value doc_check_value pm_check_value ct_check_value : Value} {cd_check_value : Value} {od_check_value an_check_value : Option Addr} {sl_check_value : Array (Option Value)} (a_check_value : PySem.W.nsIn K mainGlobals "check_value" = some (some (.ref f_check_value)))
    (l_check_value : K.lookup f_check_value = some ⟨oc_check_value, od_check_value, .func (PySem.W.fnOf "check_value" "check_value" (defArgs s_check_value) (defBody s_check_value) (defScope s_check_value) .none kV_check_value doc_check_value pm_check_value an_check_value cd_check_value ct_check_value), sl_check_value⟩)
    (c_check_value : PySem.W.codeIn K cd_check_value "check_value" = true) (k_check_value : PySem.W.keepIn K (.ref f_check_value) = true)
    {f_check_values : Addr} {oc_check_values kV_check_values doc_check_values pm_check_values ct_check_values : Value} {cd_check_values : Value} {od_check_values an_check_values : Option Addr} {sl_check_values : Array (Option Value)} (a_check_values : PySem.W.nsIn K mainGlobals "check_values" = some (some (.ref f_check_values)))
    (l_check_values : K.lookup f_check_values = some ⟨oc_check_values, od_check_values, .func (PySem.W.fnOf "check_values" "check_values" (defArgs s_check_values) (defBody s_check_values) (defScope s_check_values) .none kV_check_values doc_check_values pm_check_values an_check_values cd_check_values ct_check_values), sl_check_values⟩)
    (c_check_values : PySem.W.codeIn K cd_check_values "check_values" = true) (k_check_values : PySem.W.keepIn K (.ref f_check_values) = true)
    {f_check_row : Addr} {oc_check_row kV_check_row doc_check_row pm_check_row ct_check_row : Value} {cd_check_row : Value} {od_check_row an_check_row : Option Addr} {sl_check_row : Array (Option Value)} (a_check_row : PySem.W.nsIn K mainGlobals "check_row" = some (some (.ref f_check_row)))
    (l_check_row : K.lookup f_check_row = some ⟨oc_check_row, od_check_row, .func (PySem.W.fnOf "check_row" "check_row" (defArgs s_check_row) (defBody s_check_row) (defScope s_check_row) .none kV_check_row doc_check_row pm_check_row an_check_row cd_check_row ct_check_row), sl_check_row⟩)
    (c_check_row : PySem.W.codeIn K cd_check_row "check_row" = true) (k_check_row : PySem.W.keepIn K (.ref f_check_row) = true)
    {f_law_cell : Addr} {oc_law_cell kV_law_cell doc_law_cell pm_law_cell ct_law_cell : Value} {cd_law_cell : Value} {od_law_cell an_law_cell : Option Addr} {sl_law_cell : Array (Option Value)} (a_law_cell : PySem.W.nsIn K mainGlobals "_law_cell" = some (some (.ref f_law_cell)))
    (l_law_cell : K.lookup f_law_cell = some ⟨oc_law_cell, od_law_cell, .func (PySem.W.fnOf "_law_cell" "_law_cell" (defArgs s_law_cell) (defBody s_law_cell) (defScope s_law_cell) .none kV_law_cell doc_law_cell pm_law_cell an_law_cell cd_law_cell ct_law_cell), sl_law_cell⟩)
    (c_law_cell : PySem.W.codeIn K cd_law_cell "_law_cell" = true) (k_law_cell : PySem.W.keepIn K (.ref f_law_cell) = true)
    {f_law_bad : Addr} {oc_law_bad kV_law_bad doc_law_bad pm_law_bad ct_law_bad : Value} {cd_law_bad : Value} {od_law_bad an_law_bad : Option Addr} {sl_law_bad : Array (Option Value)} (a_law_bad : PySem.W.nsIn K mainGlobals "_law_bad" = some (some (.ref f_law_bad)))
    (l_law_bad : K.lookup f_law_bad = some ⟨oc_law_bad, od_law_bad, .func (PySem.W.fnOf "_law_bad" "_law_bad" (defArgs s_law_bad) (defBody s_law_bad) (defScope s_law_bad) .none kV_law_bad doc_law_bad pm_law_bad an_law_bad cd_law_bad ct_law_bad), sl_law_bad⟩)
    (c_law_bad : PySem.W.codeIn K cd_law_bad "_law_bad" = true) (k_law_bad : PySem.W.keepIn K (.ref f_law_bad) = true)
    {f_law_row : Addr} {oc_law_row kV_law_row doc_law_row pm_law_row ct_law_row : Value} {cd_law_row : Value} {od_law_row an_law_row : Option Addr} {sl_law_row : Array (Option Value)} (a_law_row : PySem.W.nsIn K mainGlobals "_law_row" = some (some (.ref f_law_row)))
    (l_law_row : K.lookup f_law_row = some ⟨oc_law_row, od_law_row, .func (PySem.W.fnOf "_law_row" "_law_row" (defArgs s_law_row) (defBody s_law_row) (defScope s_law_row) .none kV_law_row doc_law_row pm_law_row an_law_row cd_law_row ct_law_row), sl_law_row⟩)
    (c_law_row : PySem.W.codeIn K cd_law_row "_law_row" = true) (k_law_row : PySem.W.keepIn K (.ref f_law_row) = true)
    {f_law_done : Addr} {oc_law_done kV_law_done doc_law_done pm_law_done ct_law_done : Value} {cd_law_done : Value} {od_law_done an_law_done : Option Addr} {sl_law_done : Array (Option Value)} (a_law_done : PySem.W.nsIn K mainGlobals "_law_done" = some (some (.ref f_law_done)))
    (l_law_done : K.lookup f_law_done = some ⟨oc_law_done, od_law_done, .func (PySem.W.fnOf "_law_done" "_law_done" (defArgs s_law_done) (defBody s_law_done) (defScope s_law_done) .none kV_law_done doc_law_done pm_law_done an_law_done cd_law_done ct_law_done), sl_law_done⟩)
    (c_law_done : PySem.W.codeIn K cd_law_done "_law_done" = true) (k_law_done : PySem.W.keepIn K (.ref f_law_done) = true)
    {f_law_kind : Addr} {oc_law_kind kV_law_kind doc_law_kind pm_law_kind ct_law_kind : Value} {cd_law_kind : Value} {od_law_kind an_law_kind : Option Addr} {sl_law_kind : Array (Option Value)} (a_law_kind : PySem.W.nsIn K mainGlobals "_law_kind" = some (some (.ref f_law_kind)))
    (l_law_kind : K.lookup f_law_kind = some ⟨oc_law_kind, od_law_kind, .func (PySem.W.fnOf "_law_kind" "_law_kind" (defArgs s_law_kind) (defBody s_law_kind) (defScope s_law_kind) .none kV_law_kind doc_law_kind pm_law_kind an_law_kind cd_law_kind ct_law_kind), sl_law_kind⟩)
    (c_law_kind : PySem.W.codeIn K cd_law_kind "_law_kind" = true) (k_law_kind : PySem.W.keepIn K (.ref f_law_kind) = true)
    {f_law_due : Addr} {oc_law_due kV_law_due doc_law_due pm_law_due ct_law_due : Value} {cd_law_due : Value} {od_law_due an_law_due : Option Addr} {sl_law_due : Array (Option Value)} (a_law_due : PySem.W.nsIn K mainGlobals "_law_due" = some (some (.ref f_law_due)))
    (l_law_due : K.lookup f_law_due = some ⟨oc_law_due, od_law_due, .func (PySem.W.fnOf "_law_due" "_law_due" (defArgs s_law_due) (defBody s_law_due) (defScope s_law_due) .none kV_law_due doc_law_due pm_law_due an_law_due cd_law_due ct_law_due), sl_law_due⟩)
    (c_law_due : PySem.W.codeIn K cd_law_due "_law_due" = true) (k_law_due : PySem.W.keepIn K (.ref f_law_due) = true)
    {f_law_stands : Addr} {oc_law_stands kV_law_stands doc_law_stands pm_law_stands ct_law_stands : Value} {cd_law_stands : Value} {od_law_stands an_law_stands : Option Addr} {sl_law_stands : Array (Option Value)} (a_law_stands : PySem.W.nsIn K mainGlobals "_law_stands" = some (some (.ref f_law_stands)))
    (l_law_stands : K.lookup f_law_stands = some ⟨oc_law_stands, od_law_stands, .func (PySem.W.fnOf "_law_stands" "_law_stands" (defArgs s_law_stands) (defBody s_law_stands) (defScope s_law_stands) .none kV_law_stands doc_law_stands pm_law_stands an_law_stands cd_law_stands ct_law_stands), sl_law_stands⟩)
    (c_law_stands : PySem.W.codeIn K cd_law_stands "_law_stands" = true) (k_law_stands : PySem.W.keepIn K (.ref f_law_stands) = true)
    {f_law : Addr} {oc_law kV_law doc_law pm_law ct_law : Value} {cd_law : Value} {od_law an_law : Option Addr} {sl_law : Array (Option Value)} (a_law : PySem.W.nsIn K mainGlobals "law" = some (some (.ref f_law)))
    (l_law : K.lookup f_law = some ⟨oc_law, od_law, .func (PySem.W.fnOf "law" "law" (defArgs s_law) (defBody s_law) (defScope s_law) .none kV_law doc_law pm_law an_law cd_law ct_law), sl_law⟩)
    (c_law : PySem.W.codeIn K cd_law "law" = true) (k_law : PySem.W.keepIn K (.ref f_law) = true)
    {C_ColsError : Addr} (q_ColsError : PySem.W.nsIn K mainGlobals "ColsError" = some (some (.ref C_ColsError)))
    {C_NoName : Addr} (q_NoName : PySem.W.nsIn K mainGlobals "NoName" = some (some (.ref C_NoName)))
    {C_NoValue : Addr} (q_NoValue : PySem.W.nsIn K mainGlobals "NoValue" = some (some (.ref C_NoValue)))
    {C_NoTable : Addr} (q_NoTable : PySem.W.nsIn K mainGlobals "NoTable" = some (some (.ref C_NoTable)))
    {C_NoColumn : Addr} (q_NoColumn : PySem.W.nsIn K mainGlobals "NoColumn" = some (some (.ref C_NoColumn)))
    {C_NoPlace : Addr} (q_NoPlace : PySem.W.nsIn K mainGlobals "NoPlace" = some (some (.ref C_NoPlace)))
    {C_NoSize : Addr} (q_NoSize : PySem.W.nsIn K mainGlobals "NoSize" = some (some (.ref C_NoSize)))
    {C_NoText : Addr} (q_NoText : PySem.W.nsIn K mainGlobals "NoText" = some (some (.ref C_NoText)))
    {C_NoRow : Addr} (q_NoRow : PySem.W.nsIn K mainGlobals "NoRow" = some (some (.ref C_NoRow)))
    {C_NoBack : Addr} (q_NoBack : PySem.W.nsIn K mainGlobals "NoBack" = some (some (.ref C_NoBack)))
    {C_TooMuch : Addr} (q_TooMuch : PySem.W.nsIn K mainGlobals "TooMuch" = some (some (.ref C_TooMuch)))
    {C_Ruled : Addr} (q_Ruled : PySem.W.nsIn K mainGlobals "Ruled" = some (some (.ref C_Ruled)))
    {C_Ring : Addr} (q_Ring : PySem.W.nsIn K mainGlobals "Ring" = some (some (.ref C_Ring)))
    {C_Nobody : Addr} (q_Nobody : PySem.W.nsIn K mainGlobals "Nobody" = some (some (.ref C_Nobody)))
    {C_Several : Addr} (q_Several : PySem.W.nsIn K mainGlobals "Several" = some (some (.ref C_Several)))
    (x_NoSize : PySem.W.excIn K C_NoSize mroV "ValueError.__new__" = true)
    (x_NoName : PySem.W.excIn K C_NoName mroV "ValueError.__new__" = true) (v_NoName : PySem.W.kitOne K (.ref C_NoName) (.type "ValueError") = some true)
    (wa_NoName : PySem.W.findIn K (.ref C_NoName) "__getattribute__" = some (some (.builtin "BaseException.__getattribute__")))
    (wb_NoName : PySem.W.findIn K (.ref C_NoName) "__getattr__" = some none)
    (wd_NoName : PySem.W.findIn K (.ref C_NoName) "__class__" = some (some (.builtin "object.__class__")))
    (we_NoName : PySem.W.mroIn K C_NoName (.type "object") = some true)
    (wf_NoName : PySem.W.mroIn K C_NoName (.type "BaseException") = some true)
    {cd_NoName : ClassData} (wc_NoName : PySem.W.clsIn K C_NoName = some cd_NoName)
    (i_NoName_ColsError : PySem.W.kitOne K (.ref C_NoName) (.ref C_ColsError) = some true)
    (e_NoName_ColsError : PySem.W.exmOne K (.ref C_NoName) (.ref C_ColsError) = some true)
    (i_NoName_NoName : PySem.W.kitOne K (.ref C_NoName) (.ref C_NoName) = some true)
    (i_NoName_NoValue : PySem.W.kitOne K (.ref C_NoName) (.ref C_NoValue) = some false)
    (i_NoName_NoTable : PySem.W.kitOne K (.ref C_NoName) (.ref C_NoTable) = some false)
    (i_NoName_NoColumn : PySem.W.kitOne K (.ref C_NoName) (.ref C_NoColumn) = some false)
    (i_NoName_NoPlace : PySem.W.kitOne K (.ref C_NoName) (.ref C_NoPlace) = some false)
    (i_NoName_NoSize : PySem.W.kitOne K (.ref C_NoName) (.ref C_NoSize) = some false)
    (i_NoName_NoText : PySem.W.kitOne K (.ref C_NoName) (.ref C_NoText) = some false)
    (i_NoName_NoRow : PySem.W.kitOne K (.ref C_NoName) (.ref C_NoRow) = some false)
    (i_NoName_NoBack : PySem.W.kitOne K (.ref C_NoName) (.ref C_NoBack) = some false)
    (i_NoName_TooMuch : PySem.W.kitOne K (.ref C_NoName) (.ref C_TooMuch) = some false)
    (i_NoName_Ruled : PySem.W.kitOne K (.ref C_NoName) (.ref C_Ruled) = some false)
    (i_NoName_Ring : PySem.W.kitOne K (.ref C_NoName) (.ref C_Ring) = some false)
    (i_NoName_Nobody : PySem.W.kitOne K (.ref C_NoName) (.ref C_Nobody) = some false)
    (i_NoName_Several : PySem.W.kitOne K (.ref C_NoName) (.ref C_Several) = some false)
    (x_TooMuch : PySem.W.excIn K C_TooMuch mroV "ValueError.__new__" = true) (v_TooMuch : PySem.W.kitOne K (.ref C_TooMuch) (.type "ValueError") = some true)
    (wa_TooMuch : PySem.W.findIn K (.ref C_TooMuch) "__getattribute__" = some (some (.builtin "BaseException.__getattribute__")))
    (wb_TooMuch : PySem.W.findIn K (.ref C_TooMuch) "__getattr__" = some none)
    (wd_TooMuch : PySem.W.findIn K (.ref C_TooMuch) "__class__" = some (some (.builtin "object.__class__")))
    (we_TooMuch : PySem.W.mroIn K C_TooMuch (.type "object") = some true)
    (wf_TooMuch : PySem.W.mroIn K C_TooMuch (.type "BaseException") = some true)
    {cd_TooMuch : ClassData} (wc_TooMuch : PySem.W.clsIn K C_TooMuch = some cd_TooMuch)
    (i_TooMuch_ColsError : PySem.W.kitOne K (.ref C_TooMuch) (.ref C_ColsError) = some true)
    (e_TooMuch_ColsError : PySem.W.exmOne K (.ref C_TooMuch) (.ref C_ColsError) = some true)
    (i_TooMuch_NoName : PySem.W.kitOne K (.ref C_TooMuch) (.ref C_NoName) = some false)
    (i_TooMuch_NoValue : PySem.W.kitOne K (.ref C_TooMuch) (.ref C_NoValue) = some false)
    (i_TooMuch_NoTable : PySem.W.kitOne K (.ref C_TooMuch) (.ref C_NoTable) = some false)
    (i_TooMuch_NoColumn : PySem.W.kitOne K (.ref C_TooMuch) (.ref C_NoColumn) = some false)
    (i_TooMuch_NoPlace : PySem.W.kitOne K (.ref C_TooMuch) (.ref C_NoPlace) = some false)
    (i_TooMuch_NoSize : PySem.W.kitOne K (.ref C_TooMuch) (.ref C_NoSize) = some false)
    (i_TooMuch_NoText : PySem.W.kitOne K (.ref C_TooMuch) (.ref C_NoText) = some false)
    (i_TooMuch_NoRow : PySem.W.kitOne K (.ref C_TooMuch) (.ref C_NoRow) = some false)
    (i_TooMuch_NoBack : PySem.W.kitOne K (.ref C_TooMuch) (.ref C_NoBack) = some false)
    (i_TooMuch_TooMuch : PySem.W.kitOne K (.ref C_TooMuch) (.ref C_TooMuch) = some true)
    (i_TooMuch_Ruled : PySem.W.kitOne K (.ref C_TooMuch) (.ref C_Ruled) = some false)
    (i_TooMuch_Ring : PySem.W.kitOne K (.ref C_TooMuch) (.ref C_Ring) = some false)
    (i_TooMuch_Nobody : PySem.W.kitOne K (.ref C_TooMuch) (.ref C_Nobody) = some false)
    (i_TooMuch_Several : PySem.W.kitOne K (.ref C_TooMuch) (.ref C_Several) = some false)
    (x_NoValue : PySem.W.excIn K C_NoValue mroV "ValueError.__new__" = true) (v_NoValue : PySem.W.kitOne K (.ref C_NoValue) (.type "ValueError") = some true)
    (wa_NoValue : PySem.W.findIn K (.ref C_NoValue) "__getattribute__" = some (some (.builtin "BaseException.__getattribute__")))
    (wb_NoValue : PySem.W.findIn K (.ref C_NoValue) "__getattr__" = some none)
    (wd_NoValue : PySem.W.findIn K (.ref C_NoValue) "__class__" = some (some (.builtin "object.__class__")))
    (we_NoValue : PySem.W.mroIn K C_NoValue (.type "object") = some true)
    (wf_NoValue : PySem.W.mroIn K C_NoValue (.type "BaseException") = some true)
    {cd_NoValue : ClassData} (wc_NoValue : PySem.W.clsIn K C_NoValue = some cd_NoValue)
    (i_NoValue_ColsError : PySem.W.kitOne K (.ref C_NoValue) (.ref C_ColsError) = some true)
    (e_NoValue_ColsError : PySem.W.exmOne K (.ref C_NoValue) (.ref C_ColsError) = some true)
    (i_NoValue_NoName : PySem.W.kitOne K (.ref C_NoValue) (.ref C_NoName) = some false)
    (i_NoValue_NoValue : PySem.W.kitOne K (.ref C_NoValue) (.ref C_NoValue) = some true)
    (i_NoValue_NoTable : PySem.W.kitOne K (.ref C_NoValue) (.ref C_NoTable) = some false)
    (i_NoValue_NoColumn : PySem.W.kitOne K (.ref C_NoValue) (.ref C_NoColumn) = some false)
    (i_NoValue_NoPlace : PySem.W.kitOne K (.ref C_NoValue) (.ref C_NoPlace) = some false)
    (i_NoValue_NoSize : PySem.W.kitOne K (.ref C_NoValue) (.ref C_NoSize) = some false)
    (i_NoValue_NoText : PySem.W.kitOne K (.ref C_NoValue) (.ref C_NoText) = some false)
    (i_NoValue_NoRow : PySem.W.kitOne K (.ref C_NoValue) (.ref C_NoRow) = some false)
    (i_NoValue_NoBack : PySem.W.kitOne K (.ref C_NoValue) (.ref C_NoBack) = some false)
    (i_NoValue_TooMuch : PySem.W.kitOne K (.ref C_NoValue) (.ref C_TooMuch) = some false)
    (i_NoValue_Ruled : PySem.W.kitOne K (.ref C_NoValue) (.ref C_Ruled) = some false)
    (i_NoValue_Ring : PySem.W.kitOne K (.ref C_NoValue) (.ref C_Ring) = some false)
    (i_NoValue_Nobody : PySem.W.kitOne K (.ref C_NoValue) (.ref C_Nobody) = some false)
    (i_NoValue_Several : PySem.W.kitOne K (.ref C_NoValue) (.ref C_Several) = some false)
    (x_NoColumn : PySem.W.excIn K C_NoColumn mroV "ValueError.__new__" = true) (v_NoColumn : PySem.W.kitOne K (.ref C_NoColumn) (.type "ValueError") = some true)
    (wa_NoColumn : PySem.W.findIn K (.ref C_NoColumn) "__getattribute__" = some (some (.builtin "BaseException.__getattribute__")))
    (wb_NoColumn : PySem.W.findIn K (.ref C_NoColumn) "__getattr__" = some none)
    (wd_NoColumn : PySem.W.findIn K (.ref C_NoColumn) "__class__" = some (some (.builtin "object.__class__")))
    (we_NoColumn : PySem.W.mroIn K C_NoColumn (.type "object") = some true)
    (wf_NoColumn : PySem.W.mroIn K C_NoColumn (.type "BaseException") = some true)
    {cd_NoColumn : ClassData} (wc_NoColumn : PySem.W.clsIn K C_NoColumn = some cd_NoColumn)
    (i_NoColumn_ColsError : PySem.W.kitOne K (.ref C_NoColumn) (.ref C_ColsError) = some true)
    (e_NoColumn_ColsError : PySem.W.exmOne K (.ref C_NoColumn) (.ref C_ColsError) = some true)
    (i_NoColumn_NoName : PySem.W.kitOne K (.ref C_NoColumn) (.ref C_NoName) = some false)
    (i_NoColumn_NoValue : PySem.W.kitOne K (.ref C_NoColumn) (.ref C_NoValue) = some false)
    (i_NoColumn_NoTable : PySem.W.kitOne K (.ref C_NoColumn) (.ref C_NoTable) = some false)
    (i_NoColumn_NoColumn : PySem.W.kitOne K (.ref C_NoColumn) (.ref C_NoColumn) = some true)
    (i_NoColumn_NoPlace : PySem.W.kitOne K (.ref C_NoColumn) (.ref C_NoPlace) = some false)
    (i_NoColumn_NoSize : PySem.W.kitOne K (.ref C_NoColumn) (.ref C_NoSize) = some false)
    (i_NoColumn_NoText : PySem.W.kitOne K (.ref C_NoColumn) (.ref C_NoText) = some false)
    (i_NoColumn_NoRow : PySem.W.kitOne K (.ref C_NoColumn) (.ref C_NoRow) = some false)
    (i_NoColumn_NoBack : PySem.W.kitOne K (.ref C_NoColumn) (.ref C_NoBack) = some false)
    (i_NoColumn_TooMuch : PySem.W.kitOne K (.ref C_NoColumn) (.ref C_TooMuch) = some false)
    (i_NoColumn_Ruled : PySem.W.kitOne K (.ref C_NoColumn) (.ref C_Ruled) = some false)
    (i_NoColumn_Ring : PySem.W.kitOne K (.ref C_NoColumn) (.ref C_Ring) = some false)
    (i_NoColumn_Nobody : PySem.W.kitOne K (.ref C_NoColumn) (.ref C_Nobody) = some false)
    (i_NoColumn_Several : PySem.W.kitOne K (.ref C_NoColumn) (.ref C_Several) = some false)
    (x_NoPlace : PySem.W.excIn K C_NoPlace mroV "ValueError.__new__" = true) (v_NoPlace : PySem.W.kitOne K (.ref C_NoPlace) (.type "ValueError") = some true)
    (wa_NoPlace : PySem.W.findIn K (.ref C_NoPlace) "__getattribute__" = some (some (.builtin "BaseException.__getattribute__")))
    (wb_NoPlace : PySem.W.findIn K (.ref C_NoPlace) "__getattr__" = some none)
    (wd_NoPlace : PySem.W.findIn K (.ref C_NoPlace) "__class__" = some (some (.builtin "object.__class__")))
    (we_NoPlace : PySem.W.mroIn K C_NoPlace (.type "object") = some true)
    (wf_NoPlace : PySem.W.mroIn K C_NoPlace (.type "BaseException") = some true)
    {cd_NoPlace : ClassData} (wc_NoPlace : PySem.W.clsIn K C_NoPlace = some cd_NoPlace)
    (i_NoPlace_ColsError : PySem.W.kitOne K (.ref C_NoPlace) (.ref C_ColsError) = some true)
    (e_NoPlace_ColsError : PySem.W.exmOne K (.ref C_NoPlace) (.ref C_ColsError) = some true)
    (i_NoPlace_NoName : PySem.W.kitOne K (.ref C_NoPlace) (.ref C_NoName) = some false)
    (i_NoPlace_NoValue : PySem.W.kitOne K (.ref C_NoPlace) (.ref C_NoValue) = some false)
    (i_NoPlace_NoTable : PySem.W.kitOne K (.ref C_NoPlace) (.ref C_NoTable) = some false)
    (i_NoPlace_NoColumn : PySem.W.kitOne K (.ref C_NoPlace) (.ref C_NoColumn) = some false)
    (i_NoPlace_NoPlace : PySem.W.kitOne K (.ref C_NoPlace) (.ref C_NoPlace) = some true)
    (i_NoPlace_NoSize : PySem.W.kitOne K (.ref C_NoPlace) (.ref C_NoSize) = some false)
    (i_NoPlace_NoText : PySem.W.kitOne K (.ref C_NoPlace) (.ref C_NoText) = some false)
    (i_NoPlace_NoRow : PySem.W.kitOne K (.ref C_NoPlace) (.ref C_NoRow) = some false)
    (i_NoPlace_NoBack : PySem.W.kitOne K (.ref C_NoPlace) (.ref C_NoBack) = some false)
    (i_NoPlace_TooMuch : PySem.W.kitOne K (.ref C_NoPlace) (.ref C_TooMuch) = some false)
    (i_NoPlace_Ruled : PySem.W.kitOne K (.ref C_NoPlace) (.ref C_Ruled) = some false)
    (i_NoPlace_Ring : PySem.W.kitOne K (.ref C_NoPlace) (.ref C_Ring) = some false)
    (i_NoPlace_Nobody : PySem.W.kitOne K (.ref C_NoPlace) (.ref C_Nobody) = some false)
    (i_NoPlace_Several : PySem.W.kitOne K (.ref C_NoPlace) (.ref C_Several) = some false)
    (w4 : PySem.W.specialIn K (.builtin "object.__class__") "__get__" = some (some (.builtin "getset_descriptor.__get__"))) (w5 : PySem.W.takesIn K (.builtin "object.__class__") = some true)
    {C_Table : Addr} (a_Table : PySem.W.nsIn K mainGlobals "Table" = some (some (.ref C_Table)))
    (pg_Table : PySem.W.plainGet K C_Table Str.empty = true) (hd_Table : PySem.W.hasDictIn K C_Table = true) (po_Table : PySem.W.plainOver K C_Table = true) (sa_Table : PySem.W.findIn K (.ref C_Table) "__setattr__" = some (some (.builtin "object.__setattr__"))) (mk_Table : PySem.W.makesIn K C_Table = true) (kc_Table : PySem.W.keepIn K (.ref C_Table) = true) (hc_Table : PySem.W.findIn K (.ref C_Table) "__class__" = some (some (.builtin "object.__class__")))
    (na_Table_row_numbers : PySem.W.findIn K (.ref C_Table) "row_numbers" = some none)
    (na_Table_fresh_number : PySem.W.findIn K (.ref C_Table) "fresh_number" = some none)
    (na_Table_kept : PySem.W.findIn K (.ref C_Table) "kept" = some none)
    {f_Table_init : Addr} {oc_Table_init kV_Table_init doc_Table_init pm_Table_init cd_Table_init ct_Table_init : Value} {od_Table_init an_Table_init : Option Addr} {sl_Table_init : Array (Option Value)} (a_Table_init : PySem.W.findIn K (.ref C_Table) "__init__" = some (some (.ref f_Table_init))) (j_Table_init : PySem.W.isFn K (.ref f_Table_init) = true)
    (l_Table_init : K.lookup f_Table_init = some ⟨oc_Table_init, od_Table_init, .func (PySem.W.fnOf "__init__" "Table.__init__" (defArgs s_Table_init) (defBody s_Table_init) (defScope s_Table_init) .none kV_Table_init doc_Table_init pm_Table_init an_Table_init cd_Table_init ct_Table_init), sl_Table_init⟩)
    (c_Table_init : PySem.W.codeIn K cd_Table_init "Table.__init__" = true) (k_Table_init : PySem.W.keepIn K (.ref f_Table_init) = true)
    {f_Table_many : Addr} {oc_Table_many kV_Table_many doc_Table_many pm_Table_many cd_Table_many ct_Table_many : Value} {od_Table_many an_Table_many : Option Addr} {sl_Table_many : Array (Option Value)} (a_Table_many : PySem.W.findIn K (.ref C_Table) "many" = some (some (.ref f_Table_many))) (j_Table_many : PySem.W.isFn K (.ref f_Table_many) = true)
    (l_Table_many : K.lookup f_Table_many = some ⟨oc_Table_many, od_Table_many, .func (PySem.W.fnOf "many" "Table.many" (defArgs s_Table_many) (defBody s_Table_many) (defScope s_Table_many) .none kV_Table_many doc_Table_many pm_Table_many an_Table_many cd_Table_many ct_Table_many), sl_Table_many⟩)
    (c_Table_many : PySem.W.codeIn K cd_Table_many "Table.many" = true) (k_Table_many : PySem.W.keepIn K (.ref f_Table_many) = true)
    {f_Table_numbers : Addr} {oc_Table_numbers kV_Table_numbers doc_Table_numbers pm_Table_numbers cd_Table_numbers ct_Table_numbers : Value} {od_Table_numbers an_Table_numbers : Option Addr} {sl_Table_numbers : Array (Option Value)} (a_Table_numbers : PySem.W.findIn K (.ref C_Table) "numbers" = some (some (.ref f_Table_numbers))) (j_Table_numbers : PySem.W.isFn K (.ref f_Table_numbers) = true)
    (l_Table_numbers : K.lookup f_Table_numbers = some ⟨oc_Table_numbers, od_Table_numbers, .func (PySem.W.fnOf "numbers" "Table.numbers" (defArgs s_Table_numbers) (defBody s_Table_numbers) (defScope s_Table_numbers) .none kV_Table_numbers doc_Table_numbers pm_Table_numbers an_Table_numbers cd_Table_numbers ct_Table_numbers), sl_Table_numbers⟩)
    (c_Table_numbers : PySem.W.codeIn K cd_Table_numbers "Table.numbers" = true) (k_Table_numbers : PySem.W.keepIn K (.ref f_Table_numbers) = true)
    {f_Table_columns : Addr} {oc_Table_columns kV_Table_columns doc_Table_columns pm_Table_columns cd_Table_columns ct_Table_columns : Value} {od_Table_columns an_Table_columns : Option Addr} {sl_Table_columns : Array (Option Value)} (a_Table_columns : PySem.W.findIn K (.ref C_Table) "columns" = some (some (.ref f_Table_columns))) (j_Table_columns : PySem.W.isFn K (.ref f_Table_columns) = true)
    (l_Table_columns : K.lookup f_Table_columns = some ⟨oc_Table_columns, od_Table_columns, .func (PySem.W.fnOf "columns" "Table.columns" (defArgs s_Table_columns) (defBody s_Table_columns) (defScope s_Table_columns) .none kV_Table_columns doc_Table_columns pm_Table_columns an_Table_columns cd_Table_columns ct_Table_columns), sl_Table_columns⟩)
    (c_Table_columns : PySem.W.codeIn K cd_Table_columns "Table.columns" = true) (k_Table_columns : PySem.W.keepIn K (.ref f_Table_columns) = true)
    {f_Table_give : Addr} {oc_Table_give kV_Table_give doc_Table_give pm_Table_give cd_Table_give ct_Table_give : Value} {od_Table_give an_Table_give : Option Addr} {sl_Table_give : Array (Option Value)} (a_Table_give : PySem.W.findIn K (.ref C_Table) "give" = some (some (.ref f_Table_give))) (j_Table_give : PySem.W.isFn K (.ref f_Table_give) = true)
    (l_Table_give : K.lookup f_Table_give = some ⟨oc_Table_give, od_Table_give, .func (PySem.W.fnOf "give" "Table.give" (defArgs s_Table_give) (defBody s_Table_give) (defScope s_Table_give) .none kV_Table_give doc_Table_give pm_Table_give an_Table_give cd_Table_give ct_Table_give), sl_Table_give⟩)
    (c_Table_give : PySem.W.codeIn K cd_Table_give "Table.give" = true) (k_Table_give : PySem.W.keepIn K (.ref f_Table_give) = true)
    {f_Table_drop : Addr} {oc_Table_drop kV_Table_drop doc_Table_drop pm_Table_drop cd_Table_drop ct_Table_drop : Value} {od_Table_drop an_Table_drop : Option Addr} {sl_Table_drop : Array (Option Value)} (a_Table_drop : PySem.W.findIn K (.ref C_Table) "drop" = some (some (.ref f_Table_drop))) (j_Table_drop : PySem.W.isFn K (.ref f_Table_drop) = true)
    (l_Table_drop : K.lookup f_Table_drop = some ⟨oc_Table_drop, od_Table_drop, .func (PySem.W.fnOf "drop" "Table.drop" (defArgs s_Table_drop) (defBody s_Table_drop) (defScope s_Table_drop) .none kV_Table_drop doc_Table_drop pm_Table_drop an_Table_drop cd_Table_drop ct_Table_drop), sl_Table_drop⟩)
    (c_Table_drop : PySem.W.codeIn K cd_Table_drop "Table.drop" = true) (k_Table_drop : PySem.W.keepIn K (.ref f_Table_drop) = true)
    {f_Table_put : Addr} {oc_Table_put kV_Table_put doc_Table_put pm_Table_put cd_Table_put ct_Table_put : Value} {od_Table_put an_Table_put : Option Addr} {sl_Table_put : Array (Option Value)} (a_Table_put : PySem.W.findIn K (.ref C_Table) "put" = some (some (.ref f_Table_put))) (j_Table_put : PySem.W.isFn K (.ref f_Table_put) = true)
    (l_Table_put : K.lookup f_Table_put = some ⟨oc_Table_put, od_Table_put, .func (PySem.W.fnOf "put" "Table.put" (defArgs s_Table_put) (defBody s_Table_put) (defScope s_Table_put) .none kV_Table_put doc_Table_put pm_Table_put an_Table_put cd_Table_put ct_Table_put), sl_Table_put⟩)
    (c_Table_put : PySem.W.codeIn K cd_Table_put "Table.put" = true) (k_Table_put : PySem.W.keepIn K (.ref f_Table_put) = true)
    {f_Table_at : Addr} {oc_Table_at kV_Table_at doc_Table_at pm_Table_at cd_Table_at ct_Table_at : Value} {od_Table_at an_Table_at : Option Addr} {sl_Table_at : Array (Option Value)} (a_Table_at : PySem.W.findIn K (.ref C_Table) "at" = some (some (.ref f_Table_at))) (j_Table_at : PySem.W.isFn K (.ref f_Table_at) = true)
    (l_Table_at : K.lookup f_Table_at = some ⟨oc_Table_at, od_Table_at, .func (PySem.W.fnOf "at" "Table.at" (defArgs s_Table_at) (defBody s_Table_at) (defScope s_Table_at) .none kV_Table_at doc_Table_at pm_Table_at an_Table_at cd_Table_at ct_Table_at), sl_Table_at⟩)
    (c_Table_at : PySem.W.codeIn K cd_Table_at "Table.at" = true) (k_Table_at : PySem.W.keepIn K (.ref f_Table_at) = true)
    {f_Table_put_in : Addr} {oc_Table_put_in kV_Table_put_in doc_Table_put_in pm_Table_put_in cd_Table_put_in ct_Table_put_in : Value} {od_Table_put_in an_Table_put_in : Option Addr} {sl_Table_put_in : Array (Option Value)} (a_Table_put_in : PySem.W.findIn K (.ref C_Table) "put_in" = some (some (.ref f_Table_put_in))) (j_Table_put_in : PySem.W.isFn K (.ref f_Table_put_in) = true)
    (l_Table_put_in : K.lookup f_Table_put_in = some ⟨oc_Table_put_in, od_Table_put_in, .func (PySem.W.fnOf "put_in" "Table.put_in" (defArgs s_Table_put_in) (defBody s_Table_put_in) (defScope s_Table_put_in) .none kV_Table_put_in doc_Table_put_in pm_Table_put_in an_Table_put_in cd_Table_put_in ct_Table_put_in), sl_Table_put_in⟩)
    (c_Table_put_in : PySem.W.codeIn K cd_Table_put_in "Table.put_in" = true) (k_Table_put_in : PySem.W.keepIn K (.ref f_Table_put_in) = true)
    {f_Table_take_out : Addr} {oc_Table_take_out kV_Table_take_out doc_Table_take_out pm_Table_take_out cd_Table_take_out ct_Table_take_out : Value} {od_Table_take_out an_Table_take_out : Option Addr} {sl_Table_take_out : Array (Option Value)} (a_Table_take_out : PySem.W.findIn K (.ref C_Table) "take_out" = some (some (.ref f_Table_take_out))) (j_Table_take_out : PySem.W.isFn K (.ref f_Table_take_out) = true)
    (l_Table_take_out : K.lookup f_Table_take_out = some ⟨oc_Table_take_out, od_Table_take_out, .func (PySem.W.fnOf "take_out" "Table.take_out" (defArgs s_Table_take_out) (defBody s_Table_take_out) (defScope s_Table_take_out) .none kV_Table_take_out doc_Table_take_out pm_Table_take_out an_Table_take_out cd_Table_take_out ct_Table_take_out), sl_Table_take_out⟩)
    (c_Table_take_out : PySem.W.codeIn K cd_Table_take_out "Table.take_out" = true) (k_Table_take_out : PySem.W.keepIn K (.ref f_Table_take_out) = true)
    {f_Table_stand : Addr} {oc_Table_stand kV_Table_stand doc_Table_stand pm_Table_stand cd_Table_stand ct_Table_stand : Value} {od_Table_stand an_Table_stand : Option Addr} {sl_Table_stand : Array (Option Value)} (a_Table_stand : PySem.W.findIn K (.ref C_Table) "stand" = some (some (.ref f_Table_stand))) (j_Table_stand : PySem.W.isFn K (.ref f_Table_stand) = true)
    (l_Table_stand : K.lookup f_Table_stand = some ⟨oc_Table_stand, od_Table_stand, .func (PySem.W.fnOf "stand" "Table.stand" (defArgs s_Table_stand) (defBody s_Table_stand) (defScope s_Table_stand) .none kV_Table_stand doc_Table_stand pm_Table_stand an_Table_stand cd_Table_stand ct_Table_stand), sl_Table_stand⟩)
    (c_Table_stand : PySem.W.codeIn K cd_Table_stand "Table.stand" = true) (k_Table_stand : PySem.W.keepIn K (.ref f_Table_stand) = true)
    {f_Table_check_column : Addr} {oc_Table_check_column kV_Table_check_column doc_Table_check_column pm_Table_check_column cd_Table_check_column ct_Table_check_column : Value} {od_Table_check_column an_Table_check_column : Option Addr} {sl_Table_check_column : Array (Option Value)} (a_Table_check_column : PySem.W.findIn K (.ref C_Table) "check_column" = some (some (.ref f_Table_check_column))) (j_Table_check_column : PySem.W.isFn K (.ref f_Table_check_column) = true)
    (l_Table_check_column : K.lookup f_Table_check_column = some ⟨oc_Table_check_column, od_Table_check_column, .func (PySem.W.fnOf "check_column" "Table.check_column" (defArgs s_Table_check_column) (defBody s_Table_check_column) (defScope s_Table_check_column) .none kV_Table_check_column doc_Table_check_column pm_Table_check_column an_Table_check_column cd_Table_check_column ct_Table_check_column), sl_Table_check_column⟩)
    (c_Table_check_column : PySem.W.codeIn K cd_Table_check_column "Table.check_column" = true) (k_Table_check_column : PySem.W.keepIn K (.ref f_Table_check_column) = true) : Tops K mg where
  len := PySem.W.mg_none_of X G n_len
  isinstance := PySem.W.mg_none_of X G n_isinstance
  int := PySem.W.mg_none_of X G n_int
  bool := PySem.W.mg_none_of X G n_bool
  str := PySem.W.mg_none_of X G n_str
  all := PySem.W.mg_none_of X G n_all
  range := PySem.W.mg_none_of X G n_range
  abs := PySem.W.mg_none_of X G n_abs
  list := PySem.W.mg_none_of X G n_list
  tuple := PySem.W.mg_none_of X G n_tuple
  dict := PySem.W.mg_none_of X G n_dict
  enumerate := PySem.W.mg_none_of X G n_enumerate
  ValueError := PySem.W.mg_none_of X G n_ValueError
  g_LETTERS := ⟨_, PySem.W.mg_of X G i_LETTERS⟩
  g_MOST_LETTERS := ⟨_, PySem.W.mg_of X G i_MOST_LETTERS⟩
  g_MOST_ROWS := ⟨_, PySem.W.mg_of X G i_MOST_ROWS⟩
  g_MOST_COLUMNS := ⟨_, PySem.W.mg_of X G i_MOST_COLUMNS⟩
  d_is_whole := top_def X G a_is_whole l_is_whole c_is_whole k_is_whole
  d_is_number := top_def X G a_is_number l_is_number c_is_number k_is_number
  d_is_name := top_def X G a_is_name l_is_name c_is_name k_is_name
  d_is_fault := top_def X G a_is_fault l_is_fault c_is_fault k_is_fault
  d_is_value := top_def X G a_is_value l_is_value c_is_value k_is_value
  d_check_size := top_def X G a_check_size l_check_size c_check_size k_check_size
  d_check_place := top_def X G a_check_place l_check_place c_check_place k_check_place
  d_check_value := top_def X G a_check_value l_check_value c_check_value k_check_value
  d_check_values := top_def X G a_check_values l_check_values c_check_values k_check_values
  d_check_row := top_def X G a_check_row l_check_row c_check_row k_check_row
  d_law_cell := top_def X G a_law_cell l_law_cell c_law_cell k_law_cell
  d_law_bad := top_def X G a_law_bad l_law_bad c_law_bad k_law_bad
  d_law_row := top_def X G a_law_row l_law_row c_law_row k_law_row
  d_law_done := top_def X G a_law_done l_law_done c_law_done k_law_done
  d_law_kind := top_def X G a_law_kind l_law_kind c_law_kind k_law_kind
  d_law_due := top_def X G a_law_due l_law_due c_law_due k_law_due
  d_law_stands := top_def X G a_law_stands l_law_stands c_law_stands k_law_stands
  d_law := top_def X G a_law l_law c_law k_law
  exc := ⟨⟨C_ColsError, C_NoName, C_NoValue, C_NoTable, C_NoColumn, C_NoPlace, C_NoSize, C_NoText, C_NoRow, C_NoBack, C_TooMuch, C_Ruled, C_Ring, C_Nobody, C_Several⟩, { c_ColsError := PySem.W.mg_of X G q_ColsError, c_NoName := PySem.W.mg_of X G q_NoName, c_NoValue := PySem.W.mg_of X G q_NoValue, c_NoTable := PySem.W.mg_of X G q_NoTable, c_NoColumn := PySem.W.mg_of X G q_NoColumn, c_NoPlace := PySem.W.mg_of X G q_NoPlace, c_NoSize := PySem.W.mg_of X G q_NoSize, c_NoText := PySem.W.mg_of X G q_NoText, c_NoRow := PySem.W.mg_of X G q_NoRow, c_NoBack := PySem.W.mg_of X G q_NoBack, c_TooMuch := PySem.W.mg_of X G q_TooMuch, c_Ruled := PySem.W.mg_of X G q_Ruled, c_Ring := PySem.W.mg_of X G q_Ring, c_Nobody := PySem.W.mg_of X G q_Nobody, c_Several := PySem.W.mg_of X G q_Several, x_NoSize := x_NoSize, x_NoName := x_NoName, v_NoName := v_NoName, k_NoName := ⟨wa_NoName, wb_NoName, ⟨_, wc_NoName⟩, wd_NoName, w4, w5, we_NoName, wf_NoName⟩, i_NoName_ColsError := i_NoName_ColsError, e_NoName_ColsError := e_NoName_ColsError, i_NoName_NoName := i_NoName_NoName, i_NoName_NoValue := i_NoName_NoValue, i_NoName_NoTable := i_NoName_NoTable, i_NoName_NoColumn := i_NoName_NoColumn, i_NoName_NoPlace := i_NoName_NoPlace, i_NoName_NoSize := i_NoName_NoSize, i_NoName_NoText := i_NoName_NoText, i_NoName_NoRow := i_NoName_NoRow, i_NoName_NoBack := i_NoName_NoBack, i_NoName_TooMuch := i_NoName_TooMuch, i_NoName_Ruled := i_NoName_Ruled, i_NoName_Ring := i_NoName_Ring, i_NoName_Nobody := i_NoName_Nobody, i_NoName_Several := i_NoName_Several, x_TooMuch := x_TooMuch, v_TooMuch := v_TooMuch, k_TooMuch := ⟨wa_TooMuch, wb_TooMuch, ⟨_, wc_TooMuch⟩, wd_TooMuch, w4, w5, we_TooMuch, wf_TooMuch⟩, i_TooMuch_ColsError := i_TooMuch_ColsError, e_TooMuch_ColsError := e_TooMuch_ColsError, i_TooMuch_NoName := i_TooMuch_NoName, i_TooMuch_NoValue := i_TooMuch_NoValue, i_TooMuch_NoTable := i_TooMuch_NoTable, i_TooMuch_NoColumn := i_TooMuch_NoColumn, i_TooMuch_NoPlace := i_TooMuch_NoPlace, i_TooMuch_NoSize := i_TooMuch_NoSize, i_TooMuch_NoText := i_TooMuch_NoText, i_TooMuch_NoRow := i_TooMuch_NoRow, i_TooMuch_NoBack := i_TooMuch_NoBack, i_TooMuch_TooMuch := i_TooMuch_TooMuch, i_TooMuch_Ruled := i_TooMuch_Ruled, i_TooMuch_Ring := i_TooMuch_Ring, i_TooMuch_Nobody := i_TooMuch_Nobody, i_TooMuch_Several := i_TooMuch_Several, x_NoValue := x_NoValue, v_NoValue := v_NoValue, k_NoValue := ⟨wa_NoValue, wb_NoValue, ⟨_, wc_NoValue⟩, wd_NoValue, w4, w5, we_NoValue, wf_NoValue⟩, i_NoValue_ColsError := i_NoValue_ColsError, e_NoValue_ColsError := e_NoValue_ColsError, i_NoValue_NoName := i_NoValue_NoName, i_NoValue_NoValue := i_NoValue_NoValue, i_NoValue_NoTable := i_NoValue_NoTable, i_NoValue_NoColumn := i_NoValue_NoColumn, i_NoValue_NoPlace := i_NoValue_NoPlace, i_NoValue_NoSize := i_NoValue_NoSize, i_NoValue_NoText := i_NoValue_NoText, i_NoValue_NoRow := i_NoValue_NoRow, i_NoValue_NoBack := i_NoValue_NoBack, i_NoValue_TooMuch := i_NoValue_TooMuch, i_NoValue_Ruled := i_NoValue_Ruled, i_NoValue_Ring := i_NoValue_Ring, i_NoValue_Nobody := i_NoValue_Nobody, i_NoValue_Several := i_NoValue_Several, x_NoColumn := x_NoColumn, v_NoColumn := v_NoColumn, k_NoColumn := ⟨wa_NoColumn, wb_NoColumn, ⟨_, wc_NoColumn⟩, wd_NoColumn, w4, w5, we_NoColumn, wf_NoColumn⟩, i_NoColumn_ColsError := i_NoColumn_ColsError, e_NoColumn_ColsError := e_NoColumn_ColsError, i_NoColumn_NoName := i_NoColumn_NoName, i_NoColumn_NoValue := i_NoColumn_NoValue, i_NoColumn_NoTable := i_NoColumn_NoTable, i_NoColumn_NoColumn := i_NoColumn_NoColumn, i_NoColumn_NoPlace := i_NoColumn_NoPlace, i_NoColumn_NoSize := i_NoColumn_NoSize, i_NoColumn_NoText := i_NoColumn_NoText, i_NoColumn_NoRow := i_NoColumn_NoRow, i_NoColumn_NoBack := i_NoColumn_NoBack, i_NoColumn_TooMuch := i_NoColumn_TooMuch, i_NoColumn_Ruled := i_NoColumn_Ruled, i_NoColumn_Ring := i_NoColumn_Ring, i_NoColumn_Nobody := i_NoColumn_Nobody, i_NoColumn_Several := i_NoColumn_Several, x_NoPlace := x_NoPlace, v_NoPlace := v_NoPlace, k_NoPlace := ⟨wa_NoPlace, wb_NoPlace, ⟨_, wc_NoPlace⟩, wd_NoPlace, w4, w5, we_NoPlace, wf_NoPlace⟩, i_NoPlace_ColsError := i_NoPlace_ColsError, e_NoPlace_ColsError := e_NoPlace_ColsError, i_NoPlace_NoName := i_NoPlace_NoName, i_NoPlace_NoValue := i_NoPlace_NoValue, i_NoPlace_NoTable := i_NoPlace_NoTable, i_NoPlace_NoColumn := i_NoPlace_NoColumn, i_NoPlace_NoPlace := i_NoPlace_NoPlace, i_NoPlace_NoSize := i_NoPlace_NoSize, i_NoPlace_NoText := i_NoPlace_NoText, i_NoPlace_NoRow := i_NoPlace_NoRow, i_NoPlace_NoBack := i_NoPlace_NoBack, i_NoPlace_TooMuch := i_NoPlace_TooMuch, i_NoPlace_Ruled := i_NoPlace_Ruled, i_NoPlace_Ring := i_NoPlace_Ring, i_NoPlace_Nobody := i_NoPlace_Nobody, i_NoPlace_Several := i_NoPlace_Several }⟩
  t_Table := ⟨C_Table, { c := PySem.W.mg_of X G a_Table, cl := ⟨pg_Table, hd_Table, po_Table, sa_Table⟩, mks := mk_Table, kc := kc_Table, hc := hc_Table, n_row_numbers := na_Table_row_numbers, n_fresh_number := na_Table_fresh_number, n_kept := na_Table_kept, m_init := mth_mk a_Table_init j_Table_init l_Table_init c_Table_init k_Table_init, m_many := mth_mk a_Table_many j_Table_many l_Table_many c_Table_many k_Table_many, m_numbers := mth_mk a_Table_numbers j_Table_numbers l_Table_numbers c_Table_numbers k_Table_numbers, m_columns := mth_mk a_Table_columns j_Table_columns l_Table_columns c_Table_columns k_Table_columns, m_give := mth_mk a_Table_give j_Table_give l_Table_give c_Table_give k_Table_give, m_drop := mth_mk a_Table_drop j_Table_drop l_Table_drop c_Table_drop k_Table_drop, m_put := mth_mk a_Table_put j_Table_put l_Table_put c_Table_put k_Table_put, m_at := mth_mk a_Table_at j_Table_at l_Table_at c_Table_at k_Table_at, m_put_in := mth_mk a_Table_put_in j_Table_put_in l_Table_put_in c_Table_put_in k_Table_put_in, m_take_out := mth_mk a_Table_take_out j_Table_take_out l_Table_take_out c_Table_take_out k_Table_take_out, m_stand := mth_mk a_Table_stand j_Table_stand l_Table_stand c_Table_stand k_Table_stand, m_check_column := mth_mk a_Table_check_column j_Table_check_column l_Table_check_column c_Table_check_column k_Table_check_column }⟩
theorem walk {l : PySem.W.OpenLaw} {q : Program} {loose : List Str} {XP : (Str → Option Value) → Heap → Prop} {YP : World → Heap → Prop} {d : DefRec} {K : Params → PySem.W.Frag} (hn : l.most = some 63) (hdf : d.params.defaults = []) (hdn : d.name = "law")
    (hY : ∀ (w : World) (h : Heap), YP w h → (K w.params).In h)
    (F : ∀ (w : World) (mg : Str → Option Value) (h : Heap), (K w.params).In h → h.Ns mainGlobals mg → Tops (K w.params) mg) :
    PySem.W.WalkO q loose XP YP l.row.toRowW d [] (fun f vs => PySem.call f vs) :=
  L2.walk_of (n := 63) (k := 10) (x := "_law_script") (CX := fun _ => CX0) (sp := fun w => spLaw (K w.params)) hn (by decide) hdf ⟨rfl, by decide, by decide⟩ hY
    (fun w mg fa h KX G hmg => by
      have T := F w mg h KX G
      obtain ⟨f, fd, F4, hm⟩ := T.d_law.ex
      rw [hdn] at hmg
      have e := hmg.symm.trans hm
      cases e
      refine ⟨fd, fun s u => ?_, fun base kb nb => ?_⟩
      · obtain ⟨oc, od, kV, doc, pm, an, cdv, ct, osl, rfl, _⟩ := F4.ex
        exact .of_eq rfl
      · exact ok_law T F4)
    (fun _ _ a ns hl _ hS => ⟨a, ns, rfl, hS, hl, fun _ => rfl⟩) fun _ _ _ _ _ z => z
end My
def PySem.W.Fast.tw1858625027743919925 : Unit := ()
def PySem.W.Fast.tw17327092280432142186 : Unit := ()
def PySem.W.Fast.tw996047037378506040 : Unit := ()
def PySem.W.Fast.tw1015685981252313081 : Unit := ()
def PySem.W.Fast.tw12970699004849990889 : Unit := ()
def PySem.W.Fast.tw1628242282130635538 : Unit := ()
def PySem.W.Fast.tw10999420928373577250 : Unit := ()
def PySem.W.Fast.tw948724574842752540 : Unit := ()
def PySem.W.Fast.tw6378349441344359095 : Unit := ()
def PySem.W.Fast.tw8789918148603091725 : Unit := ()
def PySem.W.Fast.tw11760763574222871317 : Unit := ()
def PySem.W.Fast.tw10743435683081528228 : Unit := ()
def PySem.W.Fast.tw17700691175639882941 : Unit := ()
def PySem.W.Fast.tw10783804255941298204 : Unit := ()
def PySem.W.Fast.tw4564728780004368233 : Unit := ()
def PySem.W.Fast.tw17133749078871574125 : Unit := ()
def PySem.W.Fast.tw3774910789217976005 : Unit := ()
def PySem.W.Fast.tw5340710447133200191 : Unit := ()
def PySem.W.Fast.tw16144419934595461300 : Unit := ()
def PySem.W.Fast.tw14116017915858031486 : Unit := ()
def PySem.W.Fast.tw781576135790258727 : Unit := ()
def PySem.W.Fast.tw17966581514994575966 : Unit := ()
def PySem.W.Fast.tw2150296170668856003 : Unit := ()
def PySem.W.Fast.tw9219410247650786896 : Unit := ()
def PySem.W.Fast.tw3324080056805949291 : Unit := ()
def PySem.W.Fast.tw9216312651526352186 : Unit := ()
def PySem.W.Fast.tw12402442019408445568 : Unit := ()
def PySem.W.Fast.tw18316938317548131099 : Unit := ()
def PySem.W.Fast.tw10171440017566430601 : Unit := ()
def PySem.W.Fast.tw8521439192110046926 : Unit := ()
def PySem.W.Fast.tw2041674821715643559 : Unit := ()
def PySem.W.Fast.tw12072960489632284400 : Unit := ()
def PySem.W.Fast.tw16259984095571863234 : Unit := ()
def PySem.W.Fast.tw10235208829465959011 : Unit := ()
def PySem.W.Fast.tw369479428694963678 : Unit := ()
def PySem.W.Fast.tw1460705741965698112 : Unit := ()
def PySem.W.Fast.tw16486003110153737834 : Unit := ()
def PySem.W.Fast.tw15815643550235613537 : Unit := ()
def PySem.W.Fast.tw1242676043154689094 : Unit := ()
def PySem.W.Fast.tw17916364861897879934 : Unit := ()
def PySem.W.Fast.tw8910981978053965502 : Unit := ()
def PySem.W.Fast.tw16305924019706833185 : Unit := ()
def PySem.W.Fast.tw5932451089357020567 : Unit := ()
def PySem.W.Fast.tw16107771868236251576 : Unit := ()
def PySem.W.Fast.tw283215435131437420 : Unit := ()
def PySem.W.Fast.tw978322263215798756 : Unit := ()
def PySem.W.Fast.tw17733663778174235731 : Unit := ()
def PySem.W.Fast.tw9616009786120797400 : Unit := ()
def PySem.W.Fast.tw2578174040031195510 : Unit := ()
def PySem.W.Fast.tw2687384651572258530 : Unit := ()
def PySem.W.Fast.tw1873267434930577844 : Unit := ()
def PySem.W.Fast.tw2183755436229733516 : Unit := ()
def PySem.W.Fast.tw10193944741829330282 : Unit := ()
def PySem.W.Fast.tw17669009016436389468 : Unit := ()
def PySem.W.Fast.tw1821846203416597016 : Unit := ()
def PySem.W.Fast.tw15769661394648093477 : Unit := ()
def PySem.W.Fast.tw4125751817580876278 : Unit := ()
def PySem.W.Fast.tw8624458438094403243 : Unit := ()
def PySem.W.Fast.tw18381489827325631533 : Unit := ()
def PySem.W.Fast.tw3029704305410056433 : Unit := ()
def PySem.W.Fast.tw3969997805494761870 : Unit := ()
def PySem.W.Fast.tw830327381284370375 : Unit := ()
def PySem.W.Fast.tw2776935346934952432 : Unit := ()
def PySem.W.Fast.tw12106231635058265878 : Unit := ()
def PySem.W.Fast.tw6756807115765766496 : Unit := ()
def PySem.W.Fast.tw8745161595282426892 : Unit := ()
def PySem.W.Fast.tw7373807735108047082 : Unit := ()
def PySem.W.Fast.tw8204852073429897857 : Unit := ()
def PySem.W.Fast.tw15381525580392213993 : Unit := ()
def PySem.W.Fast.tw405540876717464177 : Unit := ()
def PySem.W.Fast.tw10553832005375176659 : Unit := ()
def PySem.W.Fast.tw14035932096836654015 : Unit := ()
def PySem.W.Fast.tw1430092250795544080 : Unit := ()
def PySem.W.Fast.tw7397183121584304504 : Unit := ()
def PySem.W.Fast.tw17058656417300558227 : Unit := ()
def PySem.W.Fast.tw16410115383138379276 : Unit := ()
def PySem.W.Fast.tw16899771768151571986 : Unit := ()
def PySem.W.Fast.tw8069442812603228732 : Unit := ()
def PySem.W.Fast.tw16863827072657865408 : Unit := ()
def PySem.W.Fast.tw2150677658554195010 : Unit := ()
def PySem.W.Fast.tw16980605823369088088 : Unit := ()
def PySem.W.Fast.tw10567549118637254680 : Unit := ()
def PySem.W.Fast.tw8015916459719475806 : Unit := ()
def PySem.W.Fast.tw2281839921269561622 : Unit := ()
def PySem.W.Fast.tw4984813554985469830 : Unit := ()
def PySem.W.Fast.tw9135263192414048875 : Unit := ()
def PySem.W.Fast.tw13482385015721952753 : Unit := ()
def PySem.W.Fast.tw1217445629822539192 : Unit := ()
def PySem.W.Fast.tw669068604158314571 : Unit := ()
def PySem.W.Fast.tw13196273213830284721 : Unit := ()
def PySem.W.Fast.tw9723640708360692874 : Unit := ()
def PySem.W.Fast.tw1314399223836597143 : Unit := ()
def PySem.W.Fast.tw9631549353093997286 : Unit := ()
def PySem.W.Fast.tw15050313353124109923 : Unit := ()
def PySem.W.Fast.tw11011925693208546643 : Unit := ()
def PySem.W.Fast.tw16221032860569769990 : Unit := ()
def PySem.W.Fast.tw18098510867674418154 : Unit := ()
def PySem.W.Fast.tw594809753107925044 : Unit := ()
def PySem.W.Fast.tw8827541209843424231 : Unit := ()
def PySem.W.Fast.tw16799612696570489012 : Unit := ()
def PySem.W.Fast.tw5408699469347602056 : Unit := ()
def PySem.W.Fast.tw15791645583170424730 : Unit := ()
def PySem.W.Fast.tw8307097164745588921 : Unit := ()
def PySem.W.Fast.tw2516532026108110349 : Unit := ()
def PySem.W.Fast.tw5486784141765755025 : Unit := ()
def PySem.W.Fast.tw11373424428121131834 : Unit := ()
def PySem.W.Fast.tw14477666016495133446 : Unit := ()
def PySem.W.Fast.tw9486307109917915398 : Unit := ()
def PySem.W.Fast.tw4526948651114858829 : Unit := ()
def PySem.W.Fast.tw3535509106441609747 : Unit := ()
def PySem.W.Fast.tw6648945068960012161 : Unit := ()
def PySem.W.Fast.tw2290451313049116733 : Unit := ()
def PySem.W.Fast.tw10157547107567128989 : Unit := ()
def PySem.W.Fast.tw14345365413149217038 : Unit := ()
def PySem.W.Fast.tw9559086333664820174 : Unit := ()
def PySem.W.Fast.tw5759877583239741247 : Unit := ()
def PySem.W.Fast.tw11160055392147170299 : Unit := ()
def PySem.W.Fast.tw5916397768854691994 : Unit := ()
def PySem.W.Fast.tw9062206135891851827 : Unit := ()
def PySem.W.Fast.tw12409951116223419507 : Unit := ()
def PySem.W.Fast.tw15879070026087559433 : Unit := ()
def PySem.W.Fast.tw10217153420751778045 : Unit := ()
def PySem.W.Fast.tw10125827286572103649 : Unit := ()
def PySem.W.Fast.tw15968428567673865304 : Unit := ()
def PySem.W.Fast.tw9424687092217381837 : Unit := ()
def PySem.W.Fast.tw15865702094967473641 : Unit := ()
def PySem.W.Fast.tw11963743216805337295 : Unit := ()
def PySem.W.Fast.tw15500637085083692181 : Unit := ()
def PySem.W.Fast.tw7238023153304604107 : Unit := ()
def PySem.W.Fast.tw13410914172608642305 : Unit := ()
def PySem.W.Fast.tw7149357126266815929 : Unit := ()
def PySem.W.Fast.tw6038943064643829196 : Unit := ()
def PySem.W.Fast.tw4260973978718524880 : Unit := ()
def PySem.W.Fast.tw16129119799962160199 : Unit := ()
def PySem.W.Fast.tw4775065260118110729 : Unit := ()
def PySem.W.Fast.tw1508545200952475975 : Unit := ()
def PySem.W.Fast.tw11906448639629939866 : Unit := ()
def PySem.W.Fast.tw1299662249080920721 : Unit := ()
def PySem.W.Fast.tw4202669567369731088 : Unit := ()
def PySem.W.Fast.tw13252389733581103339 : Unit := ()
def PySem.W.Fast.tw501663770309740286 : Unit := ()
def PySem.W.Fast.tw2178303480670855589 : Unit := ()
def PySem.W.Fast.tw3301639923301093118 : Unit := ()
def PySem.W.Fast.tw4139935846612898290 : Unit := ()
def PySem.W.Fast.tw13389046079427316800 : Unit := ()
def PySem.W.Fast.tw12378707852732887287 : Unit := ()
def PySem.W.Fast.tw15972743591404144891 : Unit := ()
def PySem.W.Fast.tw5408966392013131544 : Unit := ()
def PySem.W.Fast.tw6282108367561464293 : Unit := ()
def PySem.W.Fast.tw4327107612093986846 : Unit := ()
def PySem.W.Fast.tw13276569884970880627 : Unit := ()
def PySem.W.Fast.tw7933513325822921168 : Unit := ()
def PySem.W.Fast.tw14828113659885032298 : Unit := ()
def PySem.W.Fast.tw12715902508388660376 : Unit := ()
def PySem.W.Fast.tw3137946412301856326 : Unit := ()
def PySem.W.Fast.tw14970199924520311349 : Unit := ()
def PySem.W.Fast.tw6698033322931014180 : Unit := ()
def PySem.W.Fast.tw11568476442623253200 : Unit := ()
def PySem.W.Fast.tw97924631829554561 : Unit := ()
def PySem.W.Fast.tw25847439406097861 : Unit := ()
def PySem.W.Fast.tw8282273595895870621 : Unit := ()
def PySem.W.Fast.tw13543132499087833113 : Unit := ()
def PySem.W.Fast.tw13128160470850875190 : Unit := ()
def PySem.W.Fast.tw12533510983287462061 : Unit := ()
def PySem.W.Fast.tw1833871587043664560 : Unit := ()
def PySem.W.Fast.tw12380638156024207662 : Unit := ()
def PySem.W.Fast.tw2314571881808916983 : Unit := ()
def PySem.W.Fast.tw17170279944397645249 : Unit := ()
def PySem.W.Fast.tw14646287545485962751 : Unit := ()
def PySem.W.Fast.tw9416886256232054320 : Unit := ()
def PySem.W.Fast.tw8880401686144645085 : Unit := ()
def PySem.W.Fast.tw15373822888105951739 : Unit := ()
def PySem.W.Fast.tw10333458219550019928 : Unit := ()
def PySem.W.Fast.tw14539418127507405593 : Unit := ()
def PySem.W.Fast.tw627740416860071755 : Unit := ()
def PySem.W.Fast.tw2053769742552985731 : Unit := ()
def PySem.W.Fast.tw5698679570023143993 : Unit := ()
def PySem.W.Fast.tw1190845504815610014 : Unit := ()
def PySem.W.Fast.tw7676622981616119778 : Unit := ()
def PySem.W.Fast.tw1677066058603124844 : Unit := ()
def PySem.W.Fast.tw15355003293590021737 : Unit := ()
def PySem.W.Fast.tw4607938296367792741 : Unit := ()
def PySem.W.Fast.tw6197996354841849772 : Unit := ()
def PySem.W.Fast.tw1823429348917391770 : Unit := ()
def PySem.W.Fast.tw10299786828440692819 : Unit := ()
def PySem.W.Fast.tw13303519715710042459 : Unit := ()
def PySem.W.Fast.tw9077508665390381203 : Unit := ()
def PySem.W.Fast.tw16303976331459877240 : Unit := ()
def PySem.W.Fast.tw3031156572020693963 : Unit := ()
def PySem.W.Fast.tw14182297352950930200 : Unit := ()
def PySem.W.Fast.tw15505329796905736137 : Unit := ()
def PySem.W.Fast.tw13589222847157563441 : Unit := ()
def PySem.W.Fast.tw11197357480180569453 : Unit := ()
def PySem.W.Fast.tw2838672056597836917 : Unit := ()
def PySem.W.Fast.tw3276021958717240928 : Unit := ()
def PySem.W.Fast.tw7530614163918269056 : Unit := ()
def PySem.W.Fast.tw4420127694532242221 : Unit := ()
def PySem.W.Fast.tw5808729299380604594 : Unit := ()
def PySem.W.Fast.tw13290562732282203575 : Unit := ()
def PySem.W.Fast.tw12083542496635244209 : Unit := ()
def PySem.W.Fast.tw16286276224806093098 : Unit := ()
def PySem.W.Fast.tw17549123148682977648 : Unit := ()
def PySem.W.Fast.tw14381946859642525130 : Unit := ()
def PySem.W.Fast.tw12296279601018102601 : Unit := ()
def PySem.W.Fast.tw6880565612048217255 : Unit := ()
def PySem.W.Fast.tw14495317592752741491 : Unit := ()
def PySem.W.Fast.tw4261494557151854599 : Unit := ()
def PySem.W.Fast.tw13740940865478233346 : Unit := ()
def PySem.W.Fast.tw12770000042341396549 : Unit := ()
def PySem.W.Fast.tw9084690610627117218 : Unit := ()
def PySem.W.Fast.tw10965869983296864737 : Unit := ()
def PySem.W.Fast.tw5492427605532329042 : Unit := ()
def PySem.W.Fast.tw12422750881477749189 : Unit := ()
def PySem.W.Fast.tw15318980862139329127 : Unit := ()
def PySem.W.Fast.tw4866494155561637936 : Unit := ()
def PySem.W.Fast.tw13015163697069827534 : Unit := ()
def PySem.W.Fast.tw1024520161092630851 : Unit := ()
def PySem.W.Fast.tw824464337218255773 : Unit := ()
def PySem.W.Fast.tw8349649354689265448 : Unit := ()
def PySem.W.Fast.tw4787839617867271657 : Unit := ()
def PySem.W.Fast.tw5388757978186197945 : Unit := ()
def PySem.W.Fast.tw8605512779249664408 : Unit := ()
def PySem.W.Fast.tw2605503746182847453 : Unit := ()
def PySem.W.Fast.tw4832344896881673483 : Unit := ()
def PySem.W.Fast.tw2055075769726617223 : Unit := ()
def PySem.W.Fast.tw14018443723524083928 : Unit := ()
def PySem.W.Fast.tw18117214866203647399 : Unit := ()
def PySem.W.Fast.tw16939373332554619225 : Unit := ()
def PySem.W.Fast.tw3252895545144217224 : Unit := ()
def PySem.W.Fast.tw2920446772073543588 : Unit := ()
def PySem.W.Fast.tw5165921631946398342 : Unit := ()
def PySem.W.Fast.tw5129253597218590686 : Unit := ()
def PySem.W.Fast.tw14603895414930482871 : Unit := ()
def PySem.W.Fast.tw14150822548892045285 : Unit := ()
def PySem.W.Fast.tw9514062777489731636 : Unit := ()
def PySem.W.Fast.tw16286159512454180431 : Unit := ()
def PySem.W.Fast.tw9251080341034381852 : Unit := ()
def PySem.W.Fast.tw14445029874675483763 : Unit := ()
def PySem.W.Fast.tw12427776021904307220 : Unit := ()
def PySem.W.Fast.tw17887237558167356879 : Unit := ()
def PySem.W.Fast.tw13560125260006580799 : Unit := ()
def PySem.W.Fast.tw5452449369970825755 : Unit := ()
def PySem.W.Fast.tw11409496289558843467 : Unit := ()
def PySem.W.Fast.tw652923306674716312 : Unit := ()
def PySem.W.Fast.tw2991468133423006090 : Unit := ()
def PySem.W.Fast.tw5669365898658438696 : Unit := ()
def PySem.W.Fast.tw10906860916815783880 : Unit := ()
def PySem.W.Fast.tw11134282074562580719 : Unit := ()
def PySem.W.Fast.tw6926576531496540908 : Unit := ()
def PySem.W.Fast.tw17854155013862894352 : Unit := ()
def PySem.W.Fast.tw15552683786264453379 : Unit := ()
def PySem.W.Fast.tw10317581627004078235 : Unit := ()
def PySem.W.Fast.tw5422834638308059473 : Unit := ()
def PySem.W.Fast.tw173885506559244345 : Unit := ()
def PySem.W.Fast.tw15964977532622486811 : Unit := ()
def PySem.W.Fast.tw15523786599371906109 : Unit := ()
def PySem.W.Fast.tw583991307804946592 : Unit := ()
def PySem.W.Fast.tw10785255390095651788 : Unit := ()
def PySem.W.Fast.tw5459322081194703620 : Unit := ()
def PySem.W.Fast.tw7756827158011630890 : Unit := ()
def PySem.W.Fast.tw2516540054700713319 : Unit := ()
def PySem.W.Fast.tw14757140833025299095 : Unit := ()
def PySem.W.Fast.tw7368269369260497157 : Unit := ()
def PySem.W.Fast.tw12054857292655254389 : Unit := ()
def PySem.W.Fast.tw10695317969770801816 : Unit := ()
def PySem.W.Fast.tw1641355726846244641 : Unit := ()
def PySem.W.Fast.tw10923623913317679974 : Unit := ()
def PySem.W.Fast.tw8670453530329100504 : Unit := ()
def PySem.W.Fast.tw6746463813365665672 : Unit := ()
def PySem.W.Fast.tw13851294214465396313 : Unit := ()
def PySem.W.Fast.tw13225173470840814520 : Unit := ()
def PySem.W.Fast.tw7136979689662313325 : Unit := ()
def PySem.W.Fast.tw1864396485041748031 : Unit := ()
def PySem.W.Fast.tw16556127476344516024 : Unit := ()
def PySem.W.Fast.tw11126726689513554463 : Unit := ()
def PySem.W.Fast.tw4705336978720468753 : Unit := ()
def PySem.W.Fast.tw15668821814263797700 : Unit := ()
def PySem.W.Fast.tw12785248827087489202 : Unit := ()
def PySem.W.Fast.tw3600089925038747265 : Unit := ()
def PySem.W.Fast.tw12579128913572644013 : Unit := ()
def PySem.W.Fast.tw6397912388782450316 : Unit := ()
def PySem.W.Fast.tw9855282174310022834 : Unit := ()
def PySem.W.Fast.tw3946531544377224161 : Unit := ()
def PySem.W.Fast.tw807211517475429025 : Unit := ()
def PySem.W.Fast.tw2389683443974926745 : Unit := ()
def PySem.W.Fast.tw6132684455891552438 : Unit := ()
def PySem.W.Fast.tw11298744854722458744 : Unit := ()
def PySem.W.Fast.tw14756935293368986694 : Unit := ()
def PySem.W.Fast.tw16334428366308352326 : Unit := ()
def PySem.W.Fast.tw8567204640900597601 : Unit := ()
def PySem.W.Fast.tw14158132846374709904 : Unit := ()
def PySem.W.Fast.tw11091090505324034467 : Unit := ()
def PySem.W.Fast.tw4372716079524614447 : Unit := ()
def PySem.W.Fast.tw10848790575878981161 : Unit := ()
def PySem.W.Fast.tw6422536906422282726 : Unit := ()
def PySem.W.Fast.tw17416643354288177536 : Unit := ()
def PySem.W.Fast.tw12568434980374691116 : Unit := ()
def PySem.W.Fast.tw5105612874822323815 : Unit := ()
def PySem.W.Fast.tw4811888988029233907 : Unit := ()
def PySem.W.Fast.tw6598965286026784025 : Unit := ()
def PySem.W.Fast.tw13497409354737219719 : Unit := ()
def PySem.W.Fast.tw1871934902536089080 : Unit := ()
def PySem.W.Fast.tw719998861209865774 : Unit := ()
def PySem.W.Fast.tw6165620745584135771 : Unit := ()
def PySem.W.Fast.tw10884473730102378467 : Unit := ()
def PySem.W.Fast.tw4268772484174802720 : Unit := ()
def PySem.W.Fast.tw13123985104949593245 : Unit := ()
def PySem.W.Fast.tw16733274832763707895 : Unit := ()
def PySem.W.Fast.tw12803164408247332648 : Unit := ()
def PySem.W.Fast.tw18366526152583728192 : Unit := ()
def PySem.W.Fast.tw1065261057703066285 : Unit := ()
def PySem.W.Fast.tw8671650898053007596 : Unit := ()
def PySem.W.Fast.tw4076940487704965064 : Unit := ()
def PySem.W.Fast.tw14182034297571043542 : Unit := ()
def PySem.W.Fast.tw5207473539929887092 : Unit := ()
def PySem.W.Fast.tw7827322113609376724 : Unit := ()
def PySem.W.Fast.tw14955606907061119679 : Unit := ()
def PySem.W.Fast.tw8558553519881375162 : Unit := ()
def PySem.W.Fast.tw10135477048458087187 : Unit := ()
def PySem.W.Fast.tw7594593368468560058 : Unit := ()
def PySem.W.Fast.tw13779186841081000031 : Unit := ()
def PySem.W.Fast.tw17366743343120482929 : Unit := ()
def PySem.W.Fast.tw13563090463574305310 : Unit := ()
def PySem.W.Fast.tw13434850916445231860 : Unit := ()
def PySem.W.Fast.tw8864932156629959535 : Unit := ()
def PySem.W.Fast.tw11032341707552572393 : Unit := ()
def PySem.W.Fast.tw16743972425053464529 : Unit := ()
def PySem.W.Fast.tw7310239694624044950 : Unit := ()
def PySem.W.Fast.tw620105034758850099 : Unit := ()
def PySem.W.Fast.tw3048923424548320056 : Unit := ()
def PySem.W.Fast.tw5675200066665001362 : Unit := ()
def PySem.W.Fast.tw11402169028928593511 : Unit := ()
def PySem.W.Fast.tw10382261746559287597 : Unit := ()
def PySem.W.Fast.tw8018194012181244574 : Unit := ()
def PySem.W.Fast.tw2139629587486477289 : Unit := ()
def PySem.W.Fast.tw2130437990571035948 : Unit := ()
def PySem.W.Fast.tw7454233458418947094 : Unit := ()
def PySem.W.Fast.tw2632623030728784630 : Unit := ()
def PySem.W.Fast.tw5073735211682804305 : Unit := ()
def PySem.W.Fast.tw5442506755146532386 : Unit := ()
def PySem.W.Fast.tw13288116170191615242 : Unit := ()
def PySem.W.Fast.tw9582094046208445503 : Unit := ()
def PySem.W.Fast.tw15758445233838148578 : Unit := ()
def PySem.W.Fast.tw4538022591315884483 : Unit := ()
def PySem.W.Fast.tw2386569968432956718 : Unit := ()
def PySem.W.Fast.tw3355388375232109281 : Unit := ()
def PySem.W.Fast.tw4041905028714978811 : Unit := ()
def PySem.W.Fast.tw13008257732153164133 : Unit := ()
def PySem.W.Fast.tw16689692352557817899 : Unit := ()
def PySem.W.Fast.tw9191062153747337516 : Unit := ()
def PySem.W.Fast.tw5837769426443853345 : Unit := ()
def PySem.W.Fast.tw9552554110900322732 : Unit := ()
def PySem.W.Fast.tw16038774709814791086 : Unit := ()
def PySem.W.Fast.tw13874371794832834342 : Unit := ()
def PySem.W.Fast.tw14423098556625207066 : Unit := ()
def PySem.W.Fast.tw18169809449736585926 : Unit := ()
def PySem.W.Fast.tw500160809344367559 : Unit := ()
def PySem.W.Fast.tw9323145110582631851 : Unit := ()
def PySem.W.Fast.tw18284817127428890094 : Unit := ()
def PySem.W.Fast.tw11424710515207709709 : Unit := ()
def PySem.W.Fast.tw2885317145372230449 : Unit := ()
def PySem.W.Fast.tw2863785279231793384 : Unit := ()
def PySem.W.Fast.tw17428031201267993112 : Unit := ()
def PySem.W.Fast.tw17731002905881354419 : Unit := ()
def PySem.W.Fast.tw16555892427387374914 : Unit := ()
def PySem.W.Fast.tw15920461401108219364 : Unit := ()
def PySem.W.Fast.tw13097181729599270353 : Unit := ()
def PySem.W.Fast.tw13107961102348771122 : Unit := ()
def PySem.W.Fast.tw7798335845026557207 : Unit := ()
def PySem.W.Fast.tw11090413357572088736 : Unit := ()
def PySem.W.Fast.tw11719449674617235421 : Unit := ()
def PySem.W.Fast.tw1680080788911037493 : Unit := ()
def PySem.W.Fast.tw15343915669815744015 : Unit := ()
def PySem.W.Fast.tw15212293407763159939 : Unit := ()
def PySem.W.Fast.tw7137837283162712917 : Unit := ()
def PySem.W.Fast.tw16591201432370333741 : Unit := ()
def PySem.W.Fast.tw5995319402061333359 : Unit := ()
def PySem.W.Fast.tw96583312637632333 : Unit := ()
def PySem.W.Fast.tw18003952588492880839 : Unit := ()
def PySem.W.Fast.tw578832185557113967 : Unit := ()
def PySem.W.Fast.tw7018076699123217419 : Unit := ()
def PySem.W.Fast.tw8143881605959285959 : Unit := ()
def PySem.W.Fast.tw18196241874220410321 : Unit := ()
def PySem.W.Fast.tw5353542836478196778 : Unit := ()
def PySem.W.Fast.tw11891112749386769901 : Unit := ()
def PySem.W.Fast.tw6572742241910798667 : Unit := ()
def PySem.W.Fast.tw3368261599022230015 : Unit := ()
def PySem.W.Fast.tw9319307095838785576 : Unit := ()
def PySem.W.Fast.tw10981675893025563365 : Unit := ()
def PySem.W.Fast.tw7443189524859161506 : Unit := ()
def PySem.W.Fast.tw1850332783891645138 : Unit := ()
def PySem.W.Fast.tw1865024146900313271 : Unit := ()
def PySem.W.Fast.tw14184406301591160534 : Unit := ()
def PySem.W.Fast.tw681748131072016293 : Unit := ()
def PySem.W.Fast.tw3547763997162056828 : Unit := ()
def PySem.W.Fast.tw3844884707038396456 : Unit := ()
def PySem.W.Fast.tw2837912303315670150 : Unit := ()
def PySem.W.Fast.tw16283028422220153956 : Unit := ()
def PySem.W.Fast.tw4635402470590155521 : Unit := ()
def PySem.W.Fast.tw13314696917246487513 : Unit := ()
def PySem.W.Fast.tw11623652035708416396 : Unit := ()
def PySem.W.Fast.tw7121662406498294445 : Unit := ()
def PySem.W.Fast.tw8435292610376423961 : Unit := ()
def PySem.W.Fast.tw7644238714103328829 : Unit := ()
def PySem.W.Fast.tw16137537591344999985 : Unit := ()
def PySem.W.Fast.tw16692709681605868731 : Unit := ()
def PySem.W.Fast.tw4018424816776606260 : Unit := ()
def PySem.W.Fast.tw15306966840797547972 : Unit := ()
def PySem.W.Fast.tw9458067634891431392 : Unit := ()
def PySem.W.Fast.tw6047297788037074287 : Unit := ()
def PySem.W.Fast.tw762962319188058469 : Unit := ()
def PySem.W.Fast.tw14493068788436071706 : Unit := ()
def PySem.W.Fast.tw5073617896816111461 : Unit := ()
def PySem.W.Fast.tw12562521040442532201 : Unit := ()
def PySem.W.Fast.tw13506851696835928535 : Unit := ()
def PySem.W.Fast.tw7661240087379232141 : Unit := ()
def PySem.W.Fast.tw8470240196818173058 : Unit := ()
def PySem.W.Fast.tw6036966360700391968 : Unit := ()
def PySem.W.Fast.tw13161860216604774955 : Unit := ()
def PySem.W.Fast.tw6848112314921385147 : Unit := ()
def PySem.W.Fast.tw15035752638703495419 : Unit := ()
def PySem.W.Fast.tw13143665136142105213 : Unit := ()
def PySem.W.Fast.tw16283587439740439654 : Unit := ()
def PySem.W.Fast.tw8177836588544672320 : Unit := ()
def PySem.W.Fast.tw5684692428509108200 : Unit := ()
def PySem.W.Fast.tw893784599209798326 : Unit := ()
def PySem.W.Fast.tw14783508649905729057 : Unit := ()
def PySem.W.Fast.tw12059709549139742271 : Unit := ()
def PySem.W.Fast.tw16002658177777070763 : Unit := ()
def PySem.W.Fast.tw4562786725713191664 : Unit := ()
def PySem.W.Fast.tw6586264923953950282 : Unit := ()
def PySem.W.Fast.tw3010394616301964118 : Unit := ()
def PySem.W.Fast.tw1790667867562283299 : Unit := ()
def PySem.W.Fast.tw1775767631553900390 : Unit := ()
def PySem.W.Fast.tw14885435059578228612 : Unit := ()
def PySem.W.Fast.tw7158674737441178908 : Unit := ()
def PySem.W.Fast.tw17464987941099756964 : Unit := ()
def PySem.W.Fast.tw13778603267902344174 : Unit := ()
def PySem.W.Fast.tw10014599130016469146 : Unit := ()
def PySem.W.Fast.tw4839701819380035498 : Unit := ()
def PySem.W.Fast.tw14891334742334809077 : Unit := ()
def PySem.W.Fast.tw1193462931075683535 : Unit := ()
def PySem.W.Fast.tw7784157763891318559 : Unit := ()
def PySem.W.Fast.tw12121488134493758173 : Unit := ()
def PySem.W.Fast.tw10418766565987383943 : Unit := ()
def PySem.W.Fast.tw5297068476369539165 : Unit := ()
def PySem.W.Fast.tw8534432175987813894 : Unit := ()
def PySem.W.Fast.tw12454550668685277940 : Unit := ()
def PySem.W.Fast.tw14617024667253762068 : Unit := ()
def PySem.W.Fast.tw9831242665551878280 : Unit := ()
def PySem.W.Fast.tw11861447130509205334 : Unit := ()
def PySem.W.Fast.tw8406892341380333653 : Unit := ()
def PySem.W.Fast.tw946473358524097290 : Unit := ()
def PySem.W.Fast.tw17292469911226315727 : Unit := ()
def PySem.W.Fast.tw9269972276892210509 : Unit := ()
def PySem.W.Fast.tw15312825509909337465 : Unit := ()
def PySem.W.Fast.tw12335175089148421867 : Unit := ()
def PySem.W.Fast.tw2193962316311850357 : Unit := ()
def PySem.W.Fast.tw3360579917654971858 : Unit := ()
def PySem.W.Fast.tw6799455052103211469 : Unit := ()
def PySem.W.Fast.tw3039914919136007190 : Unit := ()
def PySem.W.Fast.tw9955243152284463894 : Unit := ()
def PySem.W.Fast.tw7649412765345545051 : Unit := ()
def PySem.W.Fast.tw13664512500738062744 : Unit := ()
def PySem.W.Fast.tw11998577344626317856 : Unit := ()
def PySem.W.Fast.tw14110298808033606696 : Unit := ()
def PySem.W.Fast.tw10282234962879204933 : Unit := ()
def PySem.W.Fast.tw9075057473406222653 : Unit := ()
def PySem.W.Fast.tw5860103212401542773 : Unit := ()
def PySem.W.Fast.tw6471771933453721630 : Unit := ()
def PySem.W.Fast.tw2197729332135420679 : Unit := ()
def PySem.W.Fast.tw1538438520383782600 : Unit := ()
def PySem.W.Fast.tw908665430253232161 : Unit := ()
def PySem.W.Fast.tw641377892392025343 : Unit := ()
def PySem.W.Fast.tw10443679848486458488 : Unit := ()
def PySem.W.Fast.tw3513816652649807895 : Unit := ()
def PySem.W.Fast.tw1438330731435279018 : Unit := ()
def PySem.W.Fast.tw18072576546868491594 : Unit := ()
def PySem.W.Fast.tw17354069481573742788 : Unit := ()
def PySem.W.Fast.tw6578372255642120841 : Unit := ()
def PySem.W.Fast.tw1608173318261414904 : Unit := ()
def PySem.W.Fast.tw740770666234037944 : Unit := ()
def PySem.W.Fast.tw15466923327458826095 : Unit := ()
def PySem.W.Fast.tw6733673881682924612 : Unit := ()
def PySem.W.Fast.tw8939699128229602788 : Unit := ()
def PySem.W.Fast.tw6140325136269546429 : Unit := ()
def PySem.W.Fast.tw15961505515577578893 : Unit := ()
def PySem.W.Fast.tw9182668143631131052 : Unit := ()
def PySem.W.Fast.tw9024689093918244203 : Unit := ()
def PySem.W.Fast.tw14532786537807101900 : Unit := ()
def PySem.W.Fast.tw1798111341775677839 : Unit := ()
def PySem.W.Fast.tw8026422251191176108 : Unit := ()
def PySem.W.Fast.tw14640002017296774293 : Unit := ()
def PySem.W.Fast.tw12574643537341579753 : Unit := ()
def PySem.W.Fast.tw12383303655327506540 : Unit := ()
def PySem.W.Fast.tw6942679841218343483 : Unit := ()
def PySem.W.Fast.tw6097845268601917244 : Unit := ()
def PySem.W.Fast.tw16246214857120171849 : Unit := ()
def PySem.W.Fast.tw16170344394149127561 : Unit := ()
def PySem.W.Fast.tw8247500344150890115 : Unit := ()
def PySem.W.Fast.tw6941963661231416914 : Unit := ()
def PySem.W.Fast.tw5238682061621756820 : Unit := ()
def PySem.W.Fast.tw11384764610137160843 : Unit := ()
def PySem.W.Fast.tw2823622804032968549 : Unit := ()
def PySem.W.Fast.tw461905385530745153 : Unit := ()
def PySem.W.Fast.tw17369841652067871433 : Unit := ()
def PySem.W.Fast.tw14349009220362593009 : Unit := ()
def PySem.W.Fast.tw9465218744632384898 : Unit := ()
def PySem.W.Fast.tw6330724551271078718 : Unit := ()
def PySem.W.Fast.tw1485999398740547453 : Unit := ()
def PySem.W.Fast.tw14866605346075647097 : Unit := ()
def PySem.W.Fast.tw9046717355726935494 : Unit := ()
def PySem.W.Fast.tw5629044404731916955 : Unit := ()
def PySem.W.Fast.tw15002228903883689393 : Unit := ()
def PySem.W.Fast.tw17691993048766789532 : Unit := ()
def PySem.W.Fast.tw14840266074380362723 : Unit := ()
def PySem.W.Fast.tw981921406615685571 : Unit := ()
def PySem.W.Fast.tw16721807451078118609 : Unit := ()
def PySem.W.Fast.tw5473321919095185130 : Unit := ()
def PySem.W.Fast.tw3046188198230366322 : Unit := ()
def PySem.W.Fast.tw294184436006479077 : Unit := ()
def PySem.W.Fast.tw1146076426426306717 : Unit := ()
def PySem.W.Fast.tw851273722201602630 : Unit := ()
def PySem.W.Fast.tw12139186683821619151 : Unit := ()
def PySem.W.Fast.tw1986204307544948038 : Unit := ()
def PySem.W.Fast.tw10250425442782542764 : Unit := ()
def PySem.W.Fast.tw3352264271579997724 : Unit := ()
open PySem PySem.W PyProof.Rows
set_option maxRecDepth 100000 in
set_option maxHeartbeats 0 in
theorem PySem.Challenge.cw_lazycols_k08_tables_refuse_holds : PySem.Challenge.rw_lazycols_k08_tables_refuse.Holds := by
  w_on; o_law; k_head; (case hw => w_witness2)
  k_fill
  refine My.walk (l := PySem.Challenge.rw_lazycols_k08_tables_refuse) rfl rfl rfl (fun w h Y => PySem.W.kIn_of Y) ?F
  case F =>
    intro w mg h KX G
    refine' My.tops_mk KX G ?n_len ?n_isinstance ?n_int ?n_bool ?n_str ?n_all ?n_range ?n_abs ?n_list ?n_tuple ?n_dict ?n_enumerate ?n_ValueError ?i_LETTERS ?i_MOST_LETTERS ?i_MOST_ROWS ?i_MOST_COLUMNS ?a_is_whole ?l_is_whole ?c_is_whole ?k_is_whole ?a_is_number ?l_is_number ?c_is_number ?k_is_number ?a_is_name ?l_is_name ?c_is_name ?k_is_name ?a_is_fault ?l_is_fault ?c_is_fault ?k_is_fault ?a_is_value ?l_is_value ?c_is_value ?k_is_value ?a_check_size ?l_check_size ?c_check_size ?k_check_size ?a_check_place ?l_check_place ?c_check_place ?k_check_place ?a_check_value ?l_check_value ?c_check_value ?k_check_value ?a_check_values ?l_check_values ?c_check_values ?k_check_values ?a_check_row ?l_check_row ?c_check_row ?k_check_row ?a_law_cell ?l_law_cell ?c_law_cell ?k_law_cell ?a_law_bad ?l_law_bad ?c_law_bad ?k_law_bad ?a_law_row ?l_law_row ?c_law_row ?k_law_row ?a_law_done ?l_law_done ?c_law_done ?k_law_done ?a_law_kind ?l_law_kind ?c_law_kind ?k_law_kind ?a_law_due ?l_law_due ?c_law_due ?k_law_due ?a_law_stands ?l_law_stands ?c_law_stands ?k_law_stands ?a_law ?l_law ?c_law ?k_law ?q_ColsError ?q_NoName ?q_NoValue ?q_NoTable ?q_NoColumn ?q_NoPlace ?q_NoSize ?q_NoText ?q_NoRow ?q_NoBack ?q_TooMuch ?q_Ruled ?q_Ring ?q_Nobody ?q_Several ?x_NoSize ?x_NoName ?v_NoName ?wa_NoName ?wb_NoName ?wd_NoName ?we_NoName ?wf_NoName ?wc_NoName ?i_NoName_ColsError ?e_NoName_ColsError ?i_NoName_NoName ?i_NoName_NoValue ?i_NoName_NoTable ?i_NoName_NoColumn ?i_NoName_NoPlace ?i_NoName_NoSize ?i_NoName_NoText ?i_NoName_NoRow ?i_NoName_NoBack ?i_NoName_TooMuch ?i_NoName_Ruled ?i_NoName_Ring ?i_NoName_Nobody ?i_NoName_Several ?x_TooMuch ?v_TooMuch ?wa_TooMuch ?wb_TooMuch ?wd_TooMuch ?we_TooMuch ?wf_TooMuch ?wc_TooMuch ?i_TooMuch_ColsError ?e_TooMuch_ColsError ?i_TooMuch_NoName ?i_TooMuch_NoValue ?i_TooMuch_NoTable ?i_TooMuch_NoColumn ?i_TooMuch_NoPlace ?i_TooMuch_NoSize ?i_TooMuch_NoText ?i_TooMuch_NoRow ?i_TooMuch_NoBack ?i_TooMuch_TooMuch ?i_TooMuch_Ruled ?i_TooMuch_Ring ?i_TooMuch_Nobody ?i_TooMuch_Several ?x_NoValue ?v_NoValue ?wa_NoValue ?wb_NoValue ?wd_NoValue ?we_NoValue ?wf_NoValue ?wc_NoValue ?i_NoValue_ColsError ?e_NoValue_ColsError ?i_NoValue_NoName ?i_NoValue_NoValue ?i_NoValue_NoTable ?i_NoValue_NoColumn ?i_NoValue_NoPlace ?i_NoValue_NoSize ?i_NoValue_NoText ?i_NoValue_NoRow ?i_NoValue_NoBack ?i_NoValue_TooMuch ?i_NoValue_Ruled ?i_NoValue_Ring ?i_NoValue_Nobody ?i_NoValue_Several ?x_NoColumn ?v_NoColumn ?wa_NoColumn ?wb_NoColumn ?wd_NoColumn ?we_NoColumn ?wf_NoColumn ?wc_NoColumn ?i_NoColumn_ColsError ?e_NoColumn_ColsError ?i_NoColumn_NoName ?i_NoColumn_NoValue ?i_NoColumn_NoTable ?i_NoColumn_NoColumn ?i_NoColumn_NoPlace ?i_NoColumn_NoSize ?i_NoColumn_NoText ?i_NoColumn_NoRow ?i_NoColumn_NoBack ?i_NoColumn_TooMuch ?i_NoColumn_Ruled ?i_NoColumn_Ring ?i_NoColumn_Nobody ?i_NoColumn_Several ?x_NoPlace ?v_NoPlace ?wa_NoPlace ?wb_NoPlace ?wd_NoPlace ?we_NoPlace ?wf_NoPlace ?wc_NoPlace ?i_NoPlace_ColsError ?e_NoPlace_ColsError ?i_NoPlace_NoName ?i_NoPlace_NoValue ?i_NoPlace_NoTable ?i_NoPlace_NoColumn ?i_NoPlace_NoPlace ?i_NoPlace_NoSize ?i_NoPlace_NoText ?i_NoPlace_NoRow ?i_NoPlace_NoBack ?i_NoPlace_TooMuch ?i_NoPlace_Ruled ?i_NoPlace_Ring ?i_NoPlace_Nobody ?i_NoPlace_Several ?w4 ?w5 ?a_Table ?pg_Table ?hd_Table ?po_Table ?sa_Table ?mk_Table ?kc_Table ?hc_Table ?na_Table_row_numbers ?na_Table_fresh_number ?na_Table_kept ?a_Table_init ?j_Table_init ?l_Table_init ?c_Table_init ?k_Table_init ?a_Table_many ?j_Table_many ?l_Table_many ?c_Table_many ?k_Table_many ?a_Table_numbers ?j_Table_numbers ?l_Table_numbers ?c_Table_numbers ?k_Table_numbers ?a_Table_columns ?j_Table_columns ?l_Table_columns ?c_Table_columns ?k_Table_columns ?a_Table_give ?j_Table_give ?l_Table_give ?c_Table_give ?k_Table_give ?a_Table_drop ?j_Table_drop ?l_Table_drop ?c_Table_drop ?k_Table_drop ?a_Table_put ?j_Table_put ?l_Table_put ?c_Table_put ?k_Table_put ?a_Table_at ?j_Table_at ?l_Table_at ?c_Table_at ?k_Table_at ?a_Table_put_in ?j_Table_put_in ?l_Table_put_in ?c_Table_put_in ?k_Table_put_in ?a_Table_take_out ?j_Table_take_out ?l_Table_take_out ?c_Table_take_out ?k_Table_take_out ?a_Table_stand ?j_Table_stand ?l_Table_stand ?c_Table_stand ?k_Table_stand ?a_Table_check_column ?j_Table_check_column ?l_Table_check_column ?c_Table_check_column ?k_Table_check_column
    (case n_len => k_is)
    (case n_isinstance => k_is)
    (case n_int => k_is)
    (case n_bool => k_is)
    (case n_str => k_is)
    (case n_all => k_is)
    (case n_range => k_is)
    (case n_abs => k_is)
    (case n_list => k_is)
    (case n_tuple => k_is)
    (case n_dict => k_is)
    (case n_enumerate => k_is)
    (case n_ValueError => k_is)
    (case i_LETTERS => k_is)
    (case i_MOST_LETTERS => k_is)
    (case i_MOST_ROWS => k_is)
    (case i_MOST_COLUMNS => k_is)
    (case a_is_whole => k_is)
    (case l_is_whole => k_is)
    (case c_is_whole => k_is)
    (case k_is_whole => k_is)
    (case a_is_number => k_is)
    (case l_is_number => k_is)
    (case c_is_number => k_is)
    (case k_is_number => k_is)
    (case a_is_name => k_is)
    (case l_is_name => k_is)
    (case c_is_name => k_is)
    (case k_is_name => k_is)
    (case a_is_fault => k_is)
    (case l_is_fault => k_is)
    (case c_is_fault => k_is)
    (case k_is_fault => k_is)
    (case a_is_value => k_is)
    (case l_is_value => k_is)
    (case c_is_value => k_is)
    (case k_is_value => k_is)
    (case a_check_size => k_is)
    (case l_check_size => k_is)
    (case c_check_size => k_is)
    (case k_check_size => k_is)
    (case a_check_place => k_is)
    (case l_check_place => k_is)
    (case c_check_place => k_is)
    (case k_check_place => k_is)
    (case a_check_value => k_is)
    (case l_check_value => k_is)
    (case c_check_value => k_is)
    (case k_check_value => k_is)
    (case a_check_values => k_is)
    (case l_check_values => k_is)
    (case c_check_values => k_is)
    (case k_check_values => k_is)
    (case a_check_row => k_is)
    (case l_check_row => k_is)
    (case c_check_row => k_is)
    (case k_check_row => k_is)
    (case a_law_cell => k_is)
    (case l_law_cell => k_is)
    (case c_law_cell => k_is)
    (case k_law_cell => k_is)
    (case a_law_bad => k_is)
    (case l_law_bad => k_is)
    (case c_law_bad => k_is)
    (case k_law_bad => k_is)
    (case a_law_row => k_is)
    (case l_law_row => k_is)
    (case c_law_row => k_is)
    (case k_law_row => k_is)
    (case a_law_done => k_is)
    (case l_law_done => k_is)
    (case c_law_done => k_is)
    (case k_law_done => k_is)
    (case a_law_kind => k_is)
    (case l_law_kind => k_is)
    (case c_law_kind => k_is)
    (case k_law_kind => k_is)
    (case a_law_due => k_is)
    (case l_law_due => k_is)
    (case c_law_due => k_is)
    (case k_law_due => k_is)
    (case a_law_stands => k_is)
    (case l_law_stands => k_is)
    (case c_law_stands => k_is)
    (case k_law_stands => k_is)
    (case a_law => k_is)
    (case l_law => k_is)
    (case c_law => k_is)
    (case k_law => k_is)
    (case q_ColsError => k_is)
    (case q_NoName => k_is)
    (case q_NoValue => k_is)
    (case q_NoTable => k_is)
    (case q_NoColumn => k_is)
    (case q_NoPlace => k_is)
    (case q_NoSize => k_is)
    (case q_NoText => k_is)
    (case q_NoRow => k_is)
    (case q_NoBack => k_is)
    (case q_TooMuch => k_is)
    (case q_Ruled => k_is)
    (case q_Ring => k_is)
    (case q_Nobody => k_is)
    (case q_Several => k_is)
    (case x_NoSize => k_exc)
    (case x_NoName => k_exc)
    (case v_NoName => kit_is)
    (case wa_NoName => k_is)
    (case wb_NoName => k_is)
    (case wd_NoName => k_is)
    (case we_NoName => k_is)
    (case wf_NoName => k_is)
    (case wc_NoName => k_is)
    (case i_NoName_ColsError => kit_is)
    (case e_NoName_ColsError => kts_exm)
    (case i_NoName_NoName => kit_is)
    (case i_NoName_NoValue => kit_is)
    (case i_NoName_NoTable => kit_is)
    (case i_NoName_NoColumn => kit_is)
    (case i_NoName_NoPlace => kit_is)
    (case i_NoName_NoSize => kit_is)
    (case i_NoName_NoText => kit_is)
    (case i_NoName_NoRow => kit_is)
    (case i_NoName_NoBack => kit_is)
    (case i_NoName_TooMuch => kit_is)
    (case i_NoName_Ruled => kit_is)
    (case i_NoName_Ring => kit_is)
    (case i_NoName_Nobody => kit_is)
    (case i_NoName_Several => kit_is)
    (case x_TooMuch => k_exc)
    (case v_TooMuch => kit_is)
    (case wa_TooMuch => k_is)
    (case wb_TooMuch => k_is)
    (case wd_TooMuch => k_is)
    (case we_TooMuch => k_is)
    (case wf_TooMuch => k_is)
    (case wc_TooMuch => k_is)
    (case i_TooMuch_ColsError => kit_is)
    (case e_TooMuch_ColsError => kts_exm)
    (case i_TooMuch_NoName => kit_is)
    (case i_TooMuch_NoValue => kit_is)
    (case i_TooMuch_NoTable => kit_is)
    (case i_TooMuch_NoColumn => kit_is)
    (case i_TooMuch_NoPlace => kit_is)
    (case i_TooMuch_NoSize => kit_is)
    (case i_TooMuch_NoText => kit_is)
    (case i_TooMuch_NoRow => kit_is)
    (case i_TooMuch_NoBack => kit_is)
    (case i_TooMuch_TooMuch => kit_is)
    (case i_TooMuch_Ruled => kit_is)
    (case i_TooMuch_Ring => kit_is)
    (case i_TooMuch_Nobody => kit_is)
    (case i_TooMuch_Several => kit_is)
    (case x_NoValue => k_exc)
    (case v_NoValue => kit_is)
    (case wa_NoValue => k_is)
    (case wb_NoValue => k_is)
    (case wd_NoValue => k_is)
    (case we_NoValue => k_is)
    (case wf_NoValue => k_is)
    (case wc_NoValue => k_is)
    (case i_NoValue_ColsError => kit_is)
    (case e_NoValue_ColsError => kts_exm)
    (case i_NoValue_NoName => kit_is)
    (case i_NoValue_NoValue => kit_is)
    (case i_NoValue_NoTable => kit_is)
    (case i_NoValue_NoColumn => kit_is)
    (case i_NoValue_NoPlace => kit_is)
    (case i_NoValue_NoSize => kit_is)
    (case i_NoValue_NoText => kit_is)
    (case i_NoValue_NoRow => kit_is)
    (case i_NoValue_NoBack => kit_is)
    (case i_NoValue_TooMuch => kit_is)
    (case i_NoValue_Ruled => kit_is)
    (case i_NoValue_Ring => kit_is)
    (case i_NoValue_Nobody => kit_is)
    (case i_NoValue_Several => kit_is)
    (case x_NoColumn => k_exc)
    (case v_NoColumn => kit_is)
    (case wa_NoColumn => k_is)
    (case wb_NoColumn => k_is)
    (case wd_NoColumn => k_is)
    (case we_NoColumn => k_is)
    (case wf_NoColumn => k_is)
    (case wc_NoColumn => k_is)
    (case i_NoColumn_ColsError => kit_is)
    (case e_NoColumn_ColsError => kts_exm)
    (case i_NoColumn_NoName => kit_is)
    (case i_NoColumn_NoValue => kit_is)
    (case i_NoColumn_NoTable => kit_is)
    (case i_NoColumn_NoColumn => kit_is)
    (case i_NoColumn_NoPlace => kit_is)
    (case i_NoColumn_NoSize => kit_is)
    (case i_NoColumn_NoText => kit_is)
    (case i_NoColumn_NoRow => kit_is)
    (case i_NoColumn_NoBack => kit_is)
    (case i_NoColumn_TooMuch => kit_is)
    (case i_NoColumn_Ruled => kit_is)
    (case i_NoColumn_Ring => kit_is)
    (case i_NoColumn_Nobody => kit_is)
    (case i_NoColumn_Several => kit_is)
    (case x_NoPlace => k_exc)
    (case v_NoPlace => kit_is)
    (case wa_NoPlace => k_is)
    (case wb_NoPlace => k_is)
    (case wd_NoPlace => k_is)
    (case we_NoPlace => k_is)
    (case wf_NoPlace => k_is)
    (case wc_NoPlace => k_is)
    (case i_NoPlace_ColsError => kit_is)
    (case e_NoPlace_ColsError => kts_exm)
    (case i_NoPlace_NoName => kit_is)
    (case i_NoPlace_NoValue => kit_is)
    (case i_NoPlace_NoTable => kit_is)
    (case i_NoPlace_NoColumn => kit_is)
    (case i_NoPlace_NoPlace => kit_is)
    (case i_NoPlace_NoSize => kit_is)
    (case i_NoPlace_NoText => kit_is)
    (case i_NoPlace_NoRow => kit_is)
    (case i_NoPlace_NoBack => kit_is)
    (case i_NoPlace_TooMuch => kit_is)
    (case i_NoPlace_Ruled => kit_is)
    (case i_NoPlace_Ring => kit_is)
    (case i_NoPlace_Nobody => kit_is)
    (case i_NoPlace_Several => kit_is)
    (case w4 => k_is)
    (case w5 => k_is)
    (case a_Table => k_is)
    (case pg_Table => k_is)
    (case hd_Table => k_is)
    (case po_Table => k_is)
    (case sa_Table => k_is)
    (case mk_Table => k_is)
    (case kc_Table => k_is)
    (case hc_Table => k_is)
    (case na_Table_row_numbers => k_is)
    (case na_Table_fresh_number => k_is)
    (case na_Table_kept => k_is)
    (case a_Table_init => k_is)
    (case j_Table_init => k_is)
    (case l_Table_init => k_is)
    (case c_Table_init => k_is)
    (case k_Table_init => k_is)
    (case a_Table_many => k_is)
    (case j_Table_many => k_is)
    (case l_Table_many => k_is)
    (case c_Table_many => k_is)
    (case k_Table_many => k_is)
    (case a_Table_numbers => k_is)
    (case j_Table_numbers => k_is)
    (case l_Table_numbers => k_is)
    (case c_Table_numbers => k_is)
    (case k_Table_numbers => k_is)
    (case a_Table_columns => k_is)
    (case j_Table_columns => k_is)
    (case l_Table_columns => k_is)
    (case c_Table_columns => k_is)
    (case k_Table_columns => k_is)
    (case a_Table_give => k_is)
    (case j_Table_give => k_is)
    (case l_Table_give => k_is)
    (case c_Table_give => k_is)
    (case k_Table_give => k_is)
    (case a_Table_drop => k_is)
    (case j_Table_drop => k_is)
    (case l_Table_drop => k_is)
    (case c_Table_drop => k_is)
    (case k_Table_drop => k_is)
    (case a_Table_put => k_is)
    (case j_Table_put => k_is)
    (case l_Table_put => k_is)
    (case c_Table_put => k_is)
    (case k_Table_put => k_is)
    (case a_Table_at => k_is)
    (case j_Table_at => k_is)
    (case l_Table_at => k_is)
    (case c_Table_at => k_is)
    (case k_Table_at => k_is)
    (case a_Table_put_in => k_is)
    (case j_Table_put_in => k_is)
    (case l_Table_put_in => k_is)
    (case c_Table_put_in => k_is)
    (case k_Table_put_in => k_is)
    (case a_Table_take_out => k_is)
    (case j_Table_take_out => k_is)
    (case l_Table_take_out => k_is)
    (case c_Table_take_out => k_is)
    (case k_Table_take_out => k_is)
    (case a_Table_stand => k_is)
    (case j_Table_stand => k_is)
    (case l_Table_stand => k_is)
    (case c_Table_stand => k_is)
    (case k_Table_stand => k_is)
    (case a_Table_check_column => k_is)
    (case j_Table_check_column => k_is)
    (case l_Table_check_column => k_is)
    (case c_Table_check_column => k_is)
    (case k_Table_check_column => k_is)
