import PyProof.Rows.All
import Wide.All
import OpenK.AllK
import Wide.FinOn
import PyProof.EqAt
import PyProof.EqKinds
import PyProof.TupleCall
import Lean
import PySem.Challenge.RW_lazycols_k18_what_rules_lean_on
set_option Elab.async false
set_option linter.all false
set_option maxRecDepth 100000
set_option maxHeartbeats 4000000
set_option genSizeOfSpec false
/-! THE HAND LAYER, for ints, bools, texts, own classes, LISTS and tuples (index, slices, in, append, pop ..), calls, loops. Paste it whole ahead of your own text; what your proof does not reach may be deleted. -/
namespace L2
open PySem PySem.Spec PyProof.Rows

/-- a key: an int or a str -/
abbrev Key := Sum Int Str
def keyIs : Key → Value → Bool
  | .inl k, v => Value.isInt k v
  | .inr x, v => Value.isStrOf x v
def keyH (w : World) : Key → Int
  | .inl k => hashInt k
  | .inr x => hashStr w x
theorem keyIs_shape : ∀ {k : Key} {v : Value}, keyIs k v = true → (∃ i t, k = Sum.inl i ∧ v = Value.int i t) ∨ (∃ x t, k = Sum.inr x ∧ v = Value.str x t)
  | .inl i, v, h => by
    obtain ⟨t, e⟩ := Value.isInt_shape (k := i) (v := v) h
    exact .inl ⟨i, t, rfl, e⟩
  | .inr x, v, h => by
    obtain ⟨t, e⟩ := Value.isStrOf_shape (x := x) (v := v) h
    exact .inr ⟨x, t, rfl, e⟩
theorem key_ll (a b : Int) : decide ((Sum.inl a : Key) = Sum.inl b) = (a == b) := by
  by_cases e : a = b
  · subst e; simp
  · have h : ¬ (Sum.inl a : Key) = Sum.inl b := fun q => e (Sum.inl.inj q)
    rw [decide_eq_false h]
    exact (beq_eq_false_iff_ne.mpr e).symm
theorem key_rr (a b : Str) : decide ((Sum.inr a : Key) = Sum.inr b) = decide (a = b) := by
  by_cases e : a = b
  · subst e; simp
  · have h : ¬ (Sum.inr a : Key) = Sum.inr b := fun q => e (Sum.inr.inj q)
    rw [decide_eq_false h, decide_eq_false e]
theorem key_lr (a : Int) (b : Str) : decide ((Sum.inl a : Key) = Sum.inr b) = false := decide_eq_false (fun q => nomatch q)
theorem key_rl (a : Str) (b : Int) : decide ((Sum.inr a : Key) = Sum.inl b) = false := decide_eq_false (fun q => nomatch q)

def mixKind (prog : Program) (w : World) : PySem.KeyKind prog w Key where
  is := keyIs
  hash := keyH w
  inj := fun v a b ha hb => by
    rcases keyIs_shape ha with ⟨i, t, rfl, rfl⟩ | ⟨x, t, rfl, rfl⟩
    · rcases keyIs_shape hb with ⟨j, u, rfl, e⟩ | ⟨y, u, rfl, e⟩
      · injection e with e1 _; rw [e1]
      · exact nomatch e
    · rcases keyIs_shape hb with ⟨j, u, rfl, e⟩ | ⟨y, u, rfl, e⟩
      · exact nomatch e
      · injection e with e1 _; rw [e1]
  byValue := fun k v h => by
    rcases keyIs_shape h with ⟨i, t, rfl, rfl⟩ | ⟨x, t, rfl, rfl⟩ <;> rfl
  pyHash := fun hv h => by
    rcases keyIs_shape hv with ⟨i, t, rfl, rfl⟩ | ⟨x, t, rfl, rfl⟩
    · exact wpAny_pyHash_int h
    · exact wpAny_pyHash_str h
  eqBool := fun hu hv h => by
    rcases keyIs_shape hu with ⟨i, t, rfl, rfl⟩ | ⟨x, t, rfl, rfl⟩
    · rcases keyIs_shape hv with ⟨j, u, rfl, rfl⟩ | ⟨y, u, rfl, rfl⟩
      · rw [key_ll] at h; exact wpAny_eqBool_int h
      · rw [key_lr] at h; exact SeqAt.EqAt.int_str i t y u _ _ _ _ h
    · rcases keyIs_shape hv with ⟨j, u, rfl, rfl⟩ | ⟨y, u, rfl, rfl⟩
      · rw [key_rl] at h; exact SeqAt.EqAt.str_int x t j u _ _ _ _ h
      · rw [key_rr] at h; exact wpAny_eqBool_str h
  «strs» := fun k x t v h => by
    rcases keyIs_shape h with ⟨i, u, rfl, e⟩ | ⟨y, u, rfl, e⟩
    · exact nomatch e
    · injection e with e1 _
      subst e1
      cases v <;> rfl

end L2

namespace L2
open PySem PySem.Spec PyProof.Rows

/-- a value, without the heap -/
inductive V where
  | non | bl (b : Bool) | int (i : Int) | str (x : Str) | byt (b : Array UInt8) | flt (b : UInt64) | ref (a : Addr) | ty (n : String)
  deriving DecidableEq

def RelV : V → Value → Prop
  | .non, u => u = Value.none
  | .bl b, u => u = Value.bool b
  | .int i, u => ∃ t, u = Value.int i t
  | .str x, u => ∃ t, u = Value.str x t
  | .byt b, u => ∃ t, u = Value.bytes b t
  | .flt b, u => ∃ t, u = Value.float b t
  | .ref a, u => u = Value.ref a
  | .ty n, u => u = Value.type n

abbrev Vals : List V → List Value → Prop := Paired RelV
theorem Vals.length {xs : List V} {us : List Value} (r : Vals xs us) : xs.length = us.length := Paired.length r
theorem Vals.get : ∀ {xs : List V} {us : List Value} {i : Nat} {x : V}, Vals xs us → xs[i]? = some x → ∃ u, us[i]? = some u ∧ RelV x u
  | _, _, _, _, .nil, e => by simp at e
  | _, _, 0, _, .cons r _, e => by simp at e; subst e; exact ⟨_, rfl, r⟩
  | _, _, i + 1, x, .cons _ t, e => by
    obtain ⟨u, h1, h2⟩ := Vals.get (i := i) (x := x) t (by simpa using e)
    exact ⟨u, by simpa using h1, h2⟩
theorem Vals.set {x : V} {u : Value} (r : RelV x u) : ∀ {xs : List V} {us : List Value} (i : Nat), Vals xs us → Vals (xs.set i x) (us.set i u)
  | _, _, _, .nil => .nil
  | _, _, 0, .cons _ t => .cons r t
  | _, _, i + 1, .cons q t => .cons q (Vals.set r i t)
theorem Vals.append : ∀ {xs ys : List V} {us ws : List Value}, Vals xs us → Vals ys ws → Vals (xs ++ ys) (us ++ ws)
  | _, _, _, _, .nil, s => s
  | _, _, _, _, .cons r t, s => .cons r (Vals.append t s)
theorem Vals.take : ∀ {xs : List V} {us : List Value} (n : Nat), Vals xs us → Vals (xs.take n) (us.take n)
  | _, _, 0, _ => .nil
  | _, _, _ + 1, .nil => .nil
  | _, _, n + 1, .cons r t => .cons r (Vals.take n t)
theorem Vals.drop : ∀ {xs : List V} {us : List Value} (n : Nat), Vals xs us → Vals (xs.drop n) (us.drop n)
  | _, _, 0, r => r
  | _, _, _ + 1, .nil => .nil
  | _, _, n + 1, .cons _ t => Vals.drop n t
def RelO : Option V → Option Value → Prop
  | some v, some u => RelV v u
  | none, none => True
  | _, _ => False
def KV {κ : Type} : List (κ × V) → List (κ × Value) → Prop := Paired fun (p : κ × V) (q : κ × Value) => p.1 = q.1 ∧ RelV p.2 q.2

/-- a key of a dict (00_mix): an int or a text -/
def kV : Key → V
  | .inl i => .int i
  | .inr x => .str x

/-- what stands at a tracked address -/
inductive HO where
  /-- a list -/
  | lst (xs : List V)
  /-- a tuple (never changes) -/
  | tup (xs : List V)
  /-- a dict whose keys are ints and texts; one whose keys are tuples of ints and texts (the empty one is both) -/
  | dK (kvs : List (Key × V)) | dT (kvs : List (List Key × V))
  /-- a set of ints: its members, its size -/
  | set (S : Int → Bool) (n : Nat)
  /-- an instance of the class at C, its dict at dx, its attributes -/
  | ins (C dx : Addr) (fs : List (Str × V))
  /-- the dict of the instance at x -/
  | own (x : Addr)
  /-- the dict of an exception -/
  | xd (fs : List (Str × V))
  /-- a bound method, f of x -/
  | met (f x : Addr)
  /-- a range object lo, lo + 1, .. below hi -/
  | rng (lo hi : Int)
  /-- a thing that is known to the object (the script; a dict while a loop walks it): read, never written while it is so -/
  | frz (o : Obj) (u : HO)
  /-- a code object's table -/
  | tbl (ps : Array Value)
  /-- any other thing, by what is true of its one object (a def of one's own: SetO a S n := HO.ext fun h => ..) -/
  | ext (φ : Heap → Prop)

abbrev Hp := Addr → Option HO
def upd (H : Hp) (a : Addr) (o : HO) : Hp := fun b => if b = a then some o else H b
theorem upd_same {H : Hp} {a : Addr} {o : HO} : upd H a o a = some o := by unfold upd; rw [if_pos rfl]
theorem upd_ne {H : Hp} {a b : Addr} {o : HO} (h : b ≠ a) : upd H a o b = H b := by unfold upd; rw [if_neg h]
/-- two objects of different content stand apart -/
theorem ne_of {H : Hp} {a b : Addr} {o u : HO} (h : H a = some o) (h' : H b = some u) (d : o ≠ u) : a ≠ b := by
  intro e; subst e; rw [h] at h'; exact d (Option.some.inj h')
theorem ne_of_none {H : Hp} {a b : Addr} {o : HO} (h : H a = some o) (h' : H b = none) : a ≠ b := by
  intro e; subst e; rw [h] at h'; cases h'

section
variable (P : Program) (w : World)
def ObjOk (H : Hp) (h : Heap) (a : Addr) : HO → Prop
  | .lst xs => xs.length ≤ sizeLine ∧ ∃ (its : List Value) (n : Nat), Vals xs its ∧ h.get? a = some { cls := .type "list", data := .seq its.toArray n }
  | .tup xs => xs.length ≤ sizeLine ∧ ∃ its : List Value, Vals xs its ∧ IsTup h a its.toArray
  | .dK kvs => kvs.length ≤ sizeLine ∧ (a == sysModules) = false ∧ ∃ vs, KV kvs vs ∧ h.DictOf (mixKind P w) a vs
  | .dT kvs => kvs.length ≤ sizeLine ∧ (a == sysModules) = false ∧ ∃ xs : List (List Key × Addr × Value),
      Paired (fun (p : List Key × V) (q : List Key × Addr × Value) => p.1 = q.1 ∧ H q.2.1 = some (.tup (p.1.map kV)) ∧ RelV p.2 q.2.2) kvs xs ∧
      ∃ o es ep, h.get? a = some o ∧ o.ExactDict ∧ o.data = .dict es ep ∧ es.toList = xs.map (entryOfKey (tupleKind (mixKind P w))) ∧ (xs.map (·.1)).Nodup
  | .set S n => h.SetOf (intKind P w) a S n
  | .ins C dx fs => H dx = some (.own a) ∧ fs.length ≤ 1000 ∧ dx ≠ a ∧ h.get? a = some (PySem.W.instObj C dx) ∧
      ∃ mA, h.Ns1 dx mA ∧ (∀ f, RelO (fs.lookup f) (mA f)) ∧ PySem.Within mA (fs.map (·.1))
  | .own _ => ∃ o, h.get? a = some o
  | .xd fs => ∃ mA, h.Ns1 a mA ∧ ∀ f, RelO (fs.lookup f) (mA f)
  | .rng lo hi => ∃ t u v, h.get? a = some { cls := .type "range", data := .fields #[.int lo t, .int hi u, .int 1 v] }
  | .frz o u => h.get? a = some o ∧ ObjOk H h a u
  | .tbl ps => h.get? a = some { cls := .none, data := .fields ps }
  | .met f x => h.get? a = some (PySem.W.methodObj (.ref f) (.ref x))
  | .ext φ => φ h ∧ (∃ o, h.get? a = some o) ∧ ∀ h1 h2 : Heap, φ h1 → (∀ o, h1.get? a = some o → h2.get? a = some o) → φ h2
/-- the abstract heap is held -/
def HOk (H : Hp) (h : Heap) : Prop := ∀ a o, H a = some o → ObjOk P w H h a o
end

section
variable {P : Program} {w : World} {H H' : Hp} {h h' : Heap} {a : Addr} {o : HO}
theorem ObjOk.lt (x : ObjOk P w H h a o) : a < h.objs.size := by
  cases o with
  | lst xs => obtain ⟨_, _, _, _, e⟩ := x; exact Heap.lt_size e
  | tup xs => obtain ⟨_, _, _, p⟩ := x; exact p.lt
  | dK kvs => obtain ⟨_, _, _, _, o, _, _, e, _⟩ := x; exact Heap.lt_size e
  | dT kvs => obtain ⟨_, _, _, _, o, _, _, e, _⟩ := x; exact Heap.lt_size e
  | set S n => obtain ⟨o, _, _, _, e, _⟩ := x; exact Heap.lt_size e
  | ins C dx fs => obtain ⟨_, _, _, e, _⟩ := x; exact Heap.lt_size e
  | own y => obtain ⟨_, e⟩ := x; exact Heap.lt_size e
  | xd fs => obtain ⟨_, ⟨_, _, _, e, _⟩, _⟩ := x; exact Heap.lt_size e
  | rng lo hi => obtain ⟨_, _, _, e⟩ := x; exact Heap.lt_size e
  | frz ob u => obtain ⟨e, _⟩ := x; exact Heap.lt_size e
  | tbl ps => exact Heap.lt_size (show h.get? a = some _ from x)
  | met f y => exact Heap.lt_size (show h.get? a = some _ from x)
  | ext φ => obtain ⟨_, ⟨_, e⟩, _⟩ := x; exact Heap.lt_size e
theorem Paired.mapP {α β : Type} {F G : α → β → Prop} : ∀ {l₁ : List α} {l₂ : List β}, Paired F l₁ l₂ → (∀ a b, F a b → G a b) → Paired G l₁ l₂
  | _, _, .nil, _ => .nil
  | _, _, .cons r t, f => .cons (f _ _ r) (Paired.mapP t f)
/-- what an object's description leans on: its own object, its own dict, the tuples -/
theorem ObjOk.stay (x : ObjOk P w H h a o) (k : ∀ b u, (b = a ∨ H b = some (.own a)) → h.get? b = some u → h'.get? b = some u)
    (ho : ∀ b, H b = some (.own a) → H' b = some (.own a)) (ht : ∀ b xs, H b = some (.tup xs) → H' b = some (.tup xs)) : ObjOk P w H' h' a o := by
  induction o with
  | lst xs => obtain ⟨z, its, n, r, e⟩ := x; exact ⟨z, its, n, r, k _ _ (.inl rfl) e⟩
  | tup xs => obtain ⟨z, its, r, ob, e, c⟩ := x; exact ⟨z, its, r, ob, k _ _ (.inl rfl) e, c⟩
  | dK kvs => obtain ⟨z, y, vs, r, ob, es, ep, e, c⟩ := x; exact ⟨z, y, vs, r, ob, es, ep, k _ _ (.inl rfl) e, c⟩
  | dT kvs =>
    obtain ⟨z, y, xs, r, ob, es, ep, e, c⟩ := x
    exact ⟨z, y, xs, Paired.mapP r fun p q z => ⟨z.1, ht _ _ z.2.1, z.2.2⟩, ob, es, ep, k _ _ (.inl rfl) e, c⟩
  | set S n => obtain ⟨ob, es, ep, t, e, c⟩ := x; exact ⟨ob, es, ep, t, k _ _ (.inl rfl) e, c⟩
  | ins C dx fs =>
    obtain ⟨d, z, ne, e, mA, ⟨od, es, ep, e2, c⟩, r⟩ := x
    exact ⟨ho _ d, z, ne, k _ _ (.inl rfl) e, mA, ⟨od, es, ep, k _ _ (.inr d) e2, c⟩, r⟩
  | own y => obtain ⟨ob, e⟩ := x; exact ⟨ob, k _ _ (.inl rfl) e⟩
  | xd fs => obtain ⟨mA, ⟨od, es, ep, e, c⟩, r⟩ := x; exact ⟨mA, ⟨od, es, ep, k _ _ (.inl rfl) e, c⟩, r⟩
  | rng lo hi => obtain ⟨t, u, v, e⟩ := x; exact ⟨t, u, v, k _ _ (.inl rfl) e⟩
  | frz ob u ih => obtain ⟨e, q⟩ := x; exact ⟨k _ _ (.inl rfl) e, ih q⟩
  | tbl ps =>
    have e : h.get? a = some { cls := .none, data := .fields ps } := x
    show h'.get? a = some { cls := .none, data := .fields ps }
    exact k a _ (.inl rfl) e
  | met f y =>
    have e : h.get? a = some (PySem.W.methodObj (.ref f) (.ref y)) := x
    show h'.get? a = some (PySem.W.methodObj (.ref f) (.ref y))
    exact k a _ (.inl rfl) e
  | ext φ => obtain ⟨p, ⟨o, e⟩, st⟩ := x; exact ⟨st _ _ p fun o q => k _ _ (.inl rfl) q, ⟨o, k _ _ (.inl rfl) e⟩, st⟩
theorem HOk.lt (x : HOk P w H h) (e : H a = some o) : a < h.objs.size := (x a o e).lt
theorem HOk.fresh (x : HOk P w H h) (e : h.objs.size ≤ a) : H a = none := by
  cases q : H a with
  | none => rfl
  | some u => exact absurd (Nat.lt_of_lt_of_le (x.lt q) e) (Nat.lt_irrefl _)
/-- every object of the heap is kept -/
theorem HOk.kept (x : HOk P w H h) (k : ∀ b u, h.get? b = some u → h'.get? b = some u) : HOk P w H h' := fun a o e =>
  (x a o e).stay (fun b u _ q => k b u q) (fun _ q => q) fun _ _ q => q
/-- a new object is laid and tracked -/
theorem HOk.laid (x : HOk P w H h) (k : ∀ b u, h.get? b = some u → h'.get? b = some u) (hp : h.objs.size ≤ a) (new : ObjOk P w (upd H a o) h' a o) : HOk P w (upd H a o) h' := fun b u e => by
  have hn := x.fresh hp
  by_cases hb : b = a
  · subst hb; rw [upd_same] at e; cases e; exact new
  · rw [upd_ne hb] at e
    exact (x b u e).stay (fun c v _ q => k c v q) (fun c q => by rw [upd_ne (ne_of_none q hn)]; exact q) fun c xs q => by rw [upd_ne (ne_of_none q hn)]; exact q
end

/-- what may be read as u: it is u, or a known u -/
def Rd (H : Hp) (a : Addr) (u : HO) : Prop := H a = some u ∨ ∃ o, H a = some (.frz o u)
theorem Rd.ok {P : Program} {w : World} {H : Hp} {h : Heap} {a : Addr} {u : HO} (r : Rd H a u) (x : HOk P w H h) : ObjOk P w H h a u := by
  rcases r with r | ⟨o, r⟩
  · exact x a u r
  · obtain ⟨_, q⟩ := x a _ r
    exact q
/-- what may be written -/
def Mut : Option HO → Prop
  | some (.lst _) => True
  | some (.dK _) => True
  | some (.dT _) => True
  | some (.set _ _) => True
  | some (.ins _ _ _) => True
  | some (.ext _) => True
  | _ => False
section
variable {P : Program} {w : World} {H : Hp} {h h' : Heap} {x e : Addr} {o' : HO}
/-- the object at e is changed: x itself, or the dict of the instance x -/
theorem HOk.write (ok : HOk P w H h) (mu : Mut (H x)) (he : e = x ∨ H e = some (.own x)) (k : ∀ b u, b ≠ e → h.get? b = some u → h'.get? b = some u) (heo : ∃ u, h'.get? e = some u)
    (new : ObjOk P w (upd H x o') h' x o') : HOk P w (upd H x o') h' := fun b u q => by
  have nown : ∀ c y, H c = some (.own y) → c ≠ x := fun c y r z => by subst z; rw [r] at mu; exact mu
  have ntup : ∀ c xs, H c = some (.tup xs) → c ≠ x := fun c xs r z => by subst z; rw [r] at mu; exact mu
  by_cases hb : b = x
  · subst hb; rw [upd_same] at q; cases q; exact new
  · rw [upd_ne hb] at q
    by_cases hbe : b = e
    · have q' : H b = some (.own x) := by
        rcases he with z | z
        · exact absurd (hbe.trans z) hb
        · rw [hbe]; exact z
      rw [q] at q'; cases q'
      obtain ⟨v, hv⟩ := heo
      exact ⟨v, by rw [hbe]; exact hv⟩
    · refine (ok b u q).stay (fun c v hc r => k c v ?_ r) (fun c r => by rw [upd_ne (nown c b r)]; exact r) fun c xs r => by rw [upd_ne (ntup c xs r)]; exact r
      rcases hc with rfl | hc
      · exact hbe
      · rintro rfl
        rcases he with z | z
        · exact nown c b hc z
        · rw [hc] at z; cases z; exact hb rfl
end

/-! ### kept unless tracked; of the frames at fs (the callers') the slots may change (an exception that passes writes there); of the records at ex (iterators) nothing is said -/
structure Un (fs ex : List Addr) (H H' : Hp) (h h' : Heap) : Prop where
  keep : ∀ b o, h.get? b = some o → H b = none → b ∉ fs → b ∉ ex → h'.get? b = some o
  slot : ∀ b o, h.get? b = some o → H b = none → b ∈ fs → b ∉ ex → ∃ sl, h'.get? b = some { o with slots := sl }
  free : ∀ b o, h.get? b = some o → H b = none → b ∉ ex → H' b = none
  there : ∀ b o, h.get? b = some o → b ∉ ex → ∃ o', h'.get? b = some o'
  tups : ∀ b xs, H b = some (.tup xs) → H' b = some (.tup xs)
  frzs : ∀ b o u, H b = some (.frz o u) → H' b = some (.frz o u)
  tbls : ∀ b ps, H b = some (.tbl ps) → ∃ more, H' b = some (.tbl (ps ++ more))
section
variable {fs fs' ex ex' : List Addr} {H H1 H2 : Hp} {h h1 h2 h' : Heap} {a x e : Addr} {o : HO}
theorem Un.any (u : Un fs ex H H1 h h1) {b : Addr} {ob : Obj} (q : h.get? b = some ob) (n : H b = none) (hx : b ∉ ex) : ∃ sl, h1.get? b = some { ob with slots := sl } := by
  by_cases hb : b ∈ fs
  · exact u.slot b ob q n hb hx
  · exact ⟨ob.slots, u.keep b ob q n hb hx⟩
theorem Un.kept (k : ∀ b u, h.get? b = some u → h'.get? b = some u) : Un fs ex H H h h' :=
  ⟨fun b ob q _ _ _ => k b ob q, fun b ob q _ _ _ => ⟨ob.slots, k b ob q⟩, fun _ _ _ n _ => n, fun b ob q _ => ⟨ob, k b ob q⟩, fun _ _ q => q, fun _ _ _ q => q, fun _ ps q => ⟨#[], by rw [q]; simp⟩⟩
theorem Un.refl : Un fs ex H H h h := Un.kept fun _ _ q => q
theorem Un.laid (k : ∀ b u, h.get? b = some u → h'.get? b = some u) (hp : h.objs.size ≤ a) (hn : H a = none) : Un fs ex H (upd H a o) h h' where
  keep := fun b u q _ _ _ => k b u q
  slot := fun b u q _ _ _ => ⟨u.slots, k b u q⟩
  free := fun b u q n _ => by rw [upd_ne (Nat.ne_of_lt (Nat.lt_of_lt_of_le (Heap.lt_size q) hp))]; exact n
  there := fun b u q _ => ⟨u, k b u q⟩
  tups := fun b xs q => by rw [upd_ne (ne_of_none q hn)]; exact q
  frzs := fun b u xs q => by rw [upd_ne (ne_of_none q hn)]; exact q
  tbls := fun b ps q => ⟨#[], by rw [upd_ne (ne_of_none q hn), q]; simp⟩
theorem Un.write (mu : Mut (H x)) (he : e = x ∨ H e = some (.own x)) (k : ∀ b u, b ≠ e → h.get? b = some u → h'.get? b = some u) (heo : ∃ u, h'.get? e = some u) : Un fs ex H (upd H x o) h h' := by
  have hx : ∀ b, H b = none → b ≠ x := fun b n z => by subst z; rw [n] at mu; exact mu
  have hb : ∀ b, H b = none → b ≠ e := fun b n z => by
    subst z
    rcases he with r | r
    · exact hx b n r
    · rw [n] at r; cases r
  have hm : ∀ b u, H b = some u → ¬ Mut (some u) → b ≠ x := fun b u q nm z => by subst z; rw [q] at mu; exact nm mu
  refine ⟨fun b u q n _ _ => k b u (hb b n) q, fun b u q n _ _ => ⟨u.slots, k b u (hb b n) q⟩, fun b u q n _ => by rw [upd_ne (hx b n)]; exact n, fun b u q _ => ?_,
    fun b xs q => by rw [upd_ne (hm b _ q fun z => z)]; exact q, fun b u xs q => by rw [upd_ne (hm b _ q fun z => z)]; exact q, fun b ps q => ⟨#[], by rw [upd_ne (hm b _ q fun z => z), q]; simp⟩⟩
  by_cases hbe : b = e
  · subst hbe; exact heo
  · exact ⟨u, k b u hbe q⟩
end

/-! ### the heap without what is tracked -/
def trk (h : Heap) (H : Hp) : List Addr := (List.range h.objs.size).filter fun a => (H a).isSome
def hidT (h : Heap) (H : Hp) : Heap := PySem.W.hideAll h (trk h H)
theorem hidT_size (h : Heap) (H : Hp) : (hidT h H).objs.size = h.objs.size := PySem.W.hideAll_size _ _
theorem hidT_get {h : Heap} {H : Hp} {b : Addr} {o : Obj} (e : h.get? b = some o) (n : H b = none) : (hidT h H).get? b = some o :=
  PySem.W.hideAll_get _ e fun hm => by
    have q : (H b).isSome = true := (List.mem_filter.mp hm).2
    rw [n] at q; simp at q
theorem of_hidT {h : Heap} {H : Hp} {b : Addr} {o : Obj} (e : (hidT h H).get? b = some o) : h.get? b = some o ∧ H b = none := by
  have e' : h.get? b = some o := PySem.W.of_hideAll (trk h H) e
  refine ⟨e', ?_⟩
  cases q : H b with
  | none => rfl
  | some x =>
    have hm : b ∈ trk h H := List.mem_filter.mpr ⟨List.mem_range.mpr (Heap.lt_size e'), by simp [q]⟩
    have z : (hidT h H).get? b = none := PySem.W.hideAll_none (trk h H) hm
    rw [z] at e; cases e

/-! ### OpenK's ledger, filled with every new object but one -/
def allNews (g h : Heap) (L : Addr) : List (Addr × Obj) := (List.range h.objs.size).filterMap fun a => if a = L ∨ (g.get? a).isSome = true then none else (h.get? a).map fun o => (a, o)
def rest (g h : Heap) (L d : Addr) : List (Addr × Obj) := (allNews g h L).filter fun p => decide (p.1 ≠ d)
end L2

namespace L2
open PySem PySem.Spec PyProof.Rows

/-- the module's facts, over the base: the heap at the law's entry without what is tracked there -/
structure Mod (K : PySem.W.Frag) (mg : Str → Option Value) (base : Heap) : Prop where
  kin : K.In base
  glob : base.Ns mainGlobals mg
  blt : ∃ mb, base.Ns builtinsNs mb ∧ ∀ x : Str, x ≠ "__name__" → mb x = bootBuiltins x
  nolimit : base.NoLimit

/-- the context: a def's body (or a comprehension's block) running. base: fixed through the whole law; s₀, H₀: the entry; outer: the frames whose slots others may change (a def's callers); stack: all frames that run;
   ex: iterators that were made ahead of the entry and are walked here (a comprehension's); fn: the names whose cells were made at the entry (a def: all; a comprehension's block: its own); calm: not within an except suite; pn: pins that every state bears; xe: what is wanted of an exception that leaves the code -/
structure Cx where
  prog : Program
  w : World
  K : PySem.W.Frag
  mg : Str → Option Value
  base : Heap
  A : Around
  N : List Str
  s₀ : Shared
  H₀ : Hp
  env : Env
  outer : List Env
  stack : List Env
  ex : List Addr
  fn : Str → Bool
  calm : Bool
  pn : List (Addr × Obj)
  xe : Value → Shared → Prop
/-- the callers' frames -/
def frs (l : List Env) : List Addr := l.filterMap (·.frame)
abbrev Cx.fs (X : Cx) : List Addr := frs X.outer

def Vis (sc : Scope) (x : Str) : Prop := sc.names.lookup x = some .local ∨ sc.names.lookup x = some .cell ∨ sc.names.lookup x = some .free
def Loc (sc : Scope) (x : Str) : Prop := sc.names.lookup x = some .local ∨ sc.names.lookup x = some .cell
def Look (env : Env) (h : Heap) (m : Str → Option Value) (x : Str) (u : Value) : Prop :=
  (env.kindOf x = some .local ∧ m x = some u) ∨ ((env.kindOf x = some .cell ∨ env.kindOf x = some .free) ∧ ∃ c, env.cells.lookup x = some c ∧ h.IsCell c (some u))

structure Cx.Ok (X : Cx) : Prop where
  mod : Mod X.K X.mg X.base
  kind : X.env.scope.kind = .function
  glob : X.env.globals = mainGlobals
  blt : X.env.builtins = builtinsNs
  above : X.s₀.heap.objs.size ≤ X.env.locals
  inj : ∀ x y c, X.env.cells.lookup x = some c → X.env.cells.lookup y = some c → x = y
  has : ∀ x, (X.env.kindOf x = some .cell ∨ X.env.kindOf x = some .free) → ∃ c, X.env.cells.lookup x = some c
  cab : ∀ x c, X.fn x = true → X.env.cells.lookup x = some c → X.s₀.heap.objs.size ≤ c
  hd : X.calm = true → X.A.handled = none
  frames : X.A.frames = some X.stack
  stk : X.stack = X.outer ∨ (X.stack = X.env :: X.outer ∧ X.env.frame = some X.env.locals)
  exf : ∀ b ∈ X.ex, b ≠ X.env.locals ∧ ∀ x c, X.env.cells.lookup x = some c → c ≠ b
  bs : ∀ b o, X.base.get? b = some o → X.s₀.heap.get? b = some o ∧ X.H₀ b = none
  bsz : X.base.objs.size ≤ X.s₀.heap.objs.size
  noex : ∀ b o, X.base.get? b = some o → b ∉ X.ex
  exfs : ∀ b ∈ X.ex, b ∉ X.fs
  funs : X.s₀.heap.FunFrames X.base X.outer
  frf : ∀ b ∈ X.fs, X.H₀ b = none

structure Inv (X : Cx) (pins : List (Addr × Obj)) (σ : List (Option V)) (H : Hp) (s : Shared) : Prop where
  ok : X.Ok
  os : s.os = X.s₀.os
  bare : AllBare s.gens
  base : Un X.fs X.ex X.H₀ H X.s₀.heap s.heap
  loc : ∃ m, s.heap.Ns X.env.locals m ∧ ∀ (i : Nat) (x : Str) (v : V), X.N[i]? = some x → σ[i]? = some (some v) → Vis X.env.scope x → ∃ u, RelV v u ∧ Look X.env s.heap m x u
  cell : ∀ x c, X.env.cells.lookup x = some c → ∃ v, s.heap.IsCell c v
  free : H X.env.locals = none
  freeC : ∀ x c, X.env.cells.lookup x = some c → H c = none
  pin : ∀ p ∈ X.pn ++ pins, s.heap.get? p.1 = some p.2 ∧ H p.1 = none ∧ p.1 ≠ X.env.locals ∧ p.1 ∉ X.fs ∧ ∀ v, p.2.data ≠ .cell v
  hok : HOk X.prog X.w H s.heap
  len : σ.length = X.N.length

section
variable {X : Cx} {pins : List (Addr × Obj)} {σ : List (Option V)} {H H' : Hp} {s : Shared} {h' : Heap}

theorem Cx.Ok.nofr (ok : X.Ok) {b : Addr} {o : Obj} (e : X.base.get? b = some o) : b ∉ X.fs := fun hb => by
  have := (ok.funs.mem hb).1
  rw [e] at this; cases this
theorem Inv.bs (I : Inv X pins σ H s) : ∀ b o, X.base.get? b = some o → s.heap.get? b = some o ∧ H b = none := fun b o e =>
  ⟨I.base.keep b o (I.ok.bs b o e).1 (I.ok.bs b o e).2 (I.ok.nofr e) (I.ok.noex b o e), I.base.free b o (I.ok.bs b o e).1 (I.ok.bs b o e).2 (I.ok.noex b o e)⟩
theorem Inv.bk (I : Inv X pins σ H s) : ∀ b o, X.base.get? b = some o → s.heap.get? b = some o := fun b o e => (I.bs b o e).1
theorem Inv.mod (I : Inv X pins σ H s) : Mod X.K X.mg X.base := I.ok.mod
theorem Inv.kIn (I : Inv X pins σ H s) : X.K.In s.heap := I.ok.mod.kin.keeps I.bk
theorem Inv.lt (I : Inv X pins σ H s) : X.env.locals < s.heap.objs.size := let ⟨_, hn, _⟩ := I.loc; hn.lt
theorem Inv.sz (I : Inv X pins σ H s) : X.s₀.heap.objs.size ≤ s.heap.objs.size := Nat.le_trans I.ok.above (Nat.le_of_lt I.lt)
theorem Inv.nofs (I : Inv X pins σ H s) {a : Addr} (h : s.heap.objs.size ≤ a) : a ∉ X.fs := fun hb => by
  obtain ⟨_, o, ho, _⟩ := I.ok.funs.mem hb
  exact absurd (Nat.lt_of_lt_of_le (Heap.lt_size ho) (Nat.le_trans I.sz h)) (Nat.lt_irrefl _)
theorem Inv.cne (I : Inv X pins σ H s) : ∀ x c, X.env.cells.lookup x = some c → c ≠ X.env.locals := fun x c e z => by
  obtain ⟨v, o, ho, hd⟩ := I.cell x c e
  obtain ⟨m, ⟨o', es, ep, ho', hd', _⟩, _⟩ := I.loc
  rw [z, ho'] at ho; cases ho; rw [hd'] at hd; cases hd
theorem Inv.funs (I : Inv X pins σ H s) : s.heap.FunFrames X.base X.outer := by
  have all : ∀ (l : List Env), (∀ b ∈ frs l, b ∈ X.fs) → X.s₀.heap.FunFrames X.base l → s.heap.FunFrames X.base l := by
    intro l
    induction l with
    | nil => intro _ _; trivial
    | cons env r ih =>
      intro hs hl
      obtain ⟨hk, ⟨L, o, hf, hn, ho, hd⟩, hr⟩ := hl
      have hL : L ∈ X.fs := hs L (by unfold frs; rw [List.filterMap_cons, hf]; exact List.mem_cons_self)
      obtain ⟨sl, e⟩ := I.base.slot L o ho (I.ok.frf L hL) hL fun z => I.ok.exfs L z hL
      exact ⟨hk, ⟨L, _, hf, hn, e, hd⟩, ih (fun b hb => hs b (by unfold frs; rw [List.filterMap_cons, hf]; exact List.mem_cons_of_mem _ hb)) hr⟩
  exact all X.outer (fun _ hb => hb) I.ok.funs

/-- the frames that run, for a call -/
theorem Inv.stack (I : Inv X pins σ H s) : s.heap.FunFrames X.base X.stack := by
  rcases I.ok.stk with e | ⟨e, hf⟩
  · rw [e]; exact I.funs
  · rw [e]
    obtain ⟨m, hn, _⟩ := I.loc
    refine .cons (by rw [I.ok.kind]; decide) hf hn ?_ I.funs
    exact Heap.get?_none_of_le (Nat.le_trans I.ok.bsz I.ok.above)
theorem Inv.stkSub (I : Inv X pins σ H s) : ∀ b ∈ frs X.stack, b ∈ X.env.locals :: X.fs := fun b hb => by
  rcases I.ok.stk with e | ⟨e, hf⟩
  · rw [e] at hb; exact List.mem_cons_of_mem _ hb
  · rw [e] at hb
    unfold frs at hb
    rw [List.filterMap_cons, hf] at hb
    exact hb
theorem Inv.stkFree (I : Inv X pins σ H s) : ∀ b ∈ frs X.stack, H b = none := fun b hb => by
  rcases List.mem_cons.mp (I.stkSub b hb) with e | hb
  · rw [e]; exact I.free
  · obtain ⟨_, o, ho, _⟩ := I.ok.funs.mem hb
    exact I.base.free b o ho (I.ok.frf b hb) fun z => I.ok.exfs b z hb

/-- THE STEP: the untracked objects but the frame and the records at ch are kept (the callers' frames up to slots), the frame's map is kept, the new abstract heap is held -/
theorem Inv.step {g' : Array GenState} {t' : Nat} {d' : Drawn} {ch : List Addr} (I : Inv X pins σ H s)
    (hch : ∀ b ∈ ch, (b ∈ X.ex ∨ X.s₀.heap.objs.size ≤ b) ∧ b ≠ X.env.locals ∧ (∀ x c, X.env.cells.lookup x = some c → c ≠ b) ∧ ∀ p ∈ X.pn ++ pins, p.1 ≠ b)
    (keep : ∀ b o, b ≠ X.env.locals → b ∉ X.fs → b ∉ ch → s.heap.get? b = some o → H b = none → h'.get? b = some o)
    (slot : ∀ b o, b ≠ X.env.locals → b ∈ X.fs → b ∉ ch → s.heap.get? b = some o → H b = none → ∃ sl, h'.get? b = some { o with slots := sl }) (free : ∀ b o, b ∉ ch → s.heap.get? b = some o → H b = none → H' b = none)
    (there : ∀ b o, b ∉ ch → s.heap.get? b = some o → ∃ o', h'.get? b = some o')
    (tups : ∀ b xs, H b = some (.tup xs) → H' b = some (.tup xs)) (frzs : ∀ b o u, H b = some (.frz o u) → H' b = some (.frz o u)) (tbls : ∀ b ps, H b = some (.tbl ps) → ∃ more, H' b = some (.tbl (ps ++ more)))
    (ns : ∀ m, s.heap.Ns X.env.locals m → h'.Ns X.env.locals m) (hok : HOk X.prog X.w H' h') (hg : AllBare g') :
    Inv X pins σ H' { s with heap := h', gens := g', drawn := d', toks := t' } := by
  have neL : ∀ b o, X.s₀.heap.get? b = some o → b ≠ X.env.locals := fun b o e => Nat.ne_of_lt (Nat.lt_of_lt_of_le (Heap.lt_size e) I.ok.above)
  have neC : ∀ b o, X.s₀.heap.get? b = some o → b ∉ X.ex → b ∉ ch := fun b o e hx hb => by
    rcases (hch b hb).1 with z | z
    · exact hx z
    · exact absurd (Nat.lt_of_lt_of_le (Heap.lt_size e) z) (Nat.lt_irrefl _)
  have cellK : ∀ x c, X.env.cells.lookup x = some c → ∀ v, s.heap.IsCell c v → h'.IsCell c v := fun x c e v ⟨o, ho, hd⟩ => by
    have nch : c ∉ ch := fun z => (hch c z).2.2.1 x c e rfl
    by_cases hc : c ∈ X.fs
    · obtain ⟨sl, q⟩ := slot c o (I.cne x c e) hc nch ho (I.freeC x c e)
      exact ⟨_, q, hd⟩
    · exact ⟨o, keep c o (I.cne x c e) hc nch ho (I.freeC x c e), hd⟩
  refine ⟨I.ok, I.os, hg, ⟨fun b o e n hb hx => ?_, fun b o e n hb hx => ?_, fun b o e n hx => ?_, fun b o e hx => ?_, fun b xs e => tups b xs (I.base.tups b xs e), fun b o xs e => frzs b o xs (I.base.frzs b o xs e), fun b ps e => ?_⟩, ?_, fun x c e => ?_, ?_, fun x c e => ?_, fun p hp => ?_, hok, I.len⟩
  · exact keep b o (neL b o e) hb (neC b o e hx) (I.base.keep b o e n hb hx) (I.base.free b o e n hx)
  · obtain ⟨sl, e1⟩ := I.base.slot b o e n hb hx
    obtain ⟨sl', e2⟩ := slot b _ (neL b o e) hb (neC b o e hx) e1 (I.base.free b o e n hx)
    exact ⟨sl', e2⟩
  · obtain ⟨o', e1⟩ := I.base.there b o e hx
    exact free b o' (neC b o e hx) e1 (I.base.free b o e n hx)
  · obtain ⟨o', e1⟩ := I.base.there b o e hx
    exact there b o' (neC b o e hx) e1
  · obtain ⟨m1, e1⟩ := I.base.tbls b ps e
    obtain ⟨m2, e2⟩ := tbls b _ e1
    exact ⟨m1 ++ m2, by rw [e2, Array.append_assoc]⟩
  · obtain ⟨m, hn, hl⟩ := I.loc
    refine ⟨m, ns m hn, fun i x v e1 e2 e3 => ?_⟩
    obtain ⟨u, r, l⟩ := hl i x v e1 e2 e3
    refine ⟨u, r, ?_⟩
    rcases l with l | ⟨k, c, e, z⟩
    · exact .inl l
    · exact .inr ⟨k, c, e, cellK x c e _ z⟩
  · obtain ⟨v, z⟩ := I.cell x c e
    exact ⟨v, cellK x c e v z⟩
  · obtain ⟨m, ⟨o, _, _, ho, _⟩, _⟩ := I.loc
    exact free _ o (fun z => (hch _ z).2.1 rfl) ho I.free
  · obtain ⟨v, o, ho, hd⟩ := I.cell x c e
    exact free c o (fun z => (hch c z).2.2.1 x c e rfl) ho (I.freeC x c e)
  · obtain ⟨e, n, ne, nf, d⟩ := I.pin p hp
    have nch : p.1 ∉ ch := fun z => (hch p.1 z).2.2.2 p hp rfl
    exact ⟨keep p.1 p.2 ne nf nch e n, free p.1 p.2 nch e n, ne, nf, d⟩
/-- .. where the frame's own object is kept too -/
theorem Inv.un {t' : Nat} (I : Inv X pins σ H s) (u : Un X.fs [] H H' s.heap h') (hok : HOk X.prog X.w H' h') : Inv X pins σ H' { s with heap := h', toks := t' } := by
  obtain ⟨m, ⟨o, es, ep, ho, r⟩, _⟩ := id I.loc
  obtain ⟨sl, hL⟩ := u.any ho I.free (by simp)
  exact I.step (g' := s.gens) (d' := s.drawn) (ch := []) (fun _ z => nomatch z) (fun b o _ hb _ e n => u.keep b o e n hb (by simp)) (fun b o _ hb _ e n => u.slot b o e n hb (by simp)) (fun b o _ e n => u.free b o e n (by simp)) (fun b o _ e => u.there b o e (by simp)) u.tups u.frzs u.tbls (fun m' hm => by
    obtain ⟨o', es', ep', ho', r'⟩ := hm
    rw [ho] at ho'; cases ho'
    exact ⟨_, es', ep', hL, r'⟩) hok I.bare
/-- behind a call (or a comprehension's block): the slots of this frame may have changed too, the records at ch may have turned -/
theorem Inv.call {g' : Array GenState} {t' : Nat} {d' : Drawn} {ch : List Addr} (I : Inv X pins σ H s) (u : Un (frs X.stack) ch H H' s.heap h') (hok : HOk X.prog X.w H' h') (hg : AllBare g')
    (hch : ∀ b ∈ ch, (b ∈ X.ex ∨ X.s₀.heap.objs.size ≤ b) ∧ b ≠ X.env.locals ∧ (∀ x c, X.env.cells.lookup x = some c → c ≠ b) ∧ ∀ p ∈ X.pn ++ pins, p.1 ≠ b) :
    Inv X pins σ H' { s with heap := h', gens := g', drawn := d', toks := t' } := by
  obtain ⟨m, ⟨o, es, ep, ho, r⟩, _⟩ := id I.loc
  obtain ⟨sl, hL⟩ := u.any ho I.free fun z => (hch _ z).2.1 rfl
  exact I.step (ch := ch) hch (fun b o hL hb hc e n => u.keep b o e n (fun z => (List.mem_cons.mp (I.stkSub b z)).elim hL hb) hc) (fun b o _ _ hc e n => u.any e n hc) (fun b o hc e n => u.free b o e n hc) (fun b o hc e => u.there b o e hc) u.tups u.frzs u.tbls (fun m' hm => by
    obtain ⟨o', es', ep', ho', r'⟩ := hm
    rw [ho] at ho'; cases ho'
    exact ⟨_, es', ep', hL, r'⟩) hok hg
/-- an untracked record of ours (an iterator) has turned -/
theorem Inv.turned {t' : Nat} {it : Addr} (I : Inv X pins σ H s) (k : ∀ b o, b ≠ it → s.heap.get? b = some o → h'.get? b = some o) (hn : H it = none) (hL : it ≠ X.env.locals)
    (h1 : it ∈ X.ex ∨ X.s₀.heap.objs.size ≤ it) (h2 : ∀ x c, X.env.cells.lookup x = some c → c ≠ it) (h3 : ∀ p ∈ X.pn ++ pins, p.1 ≠ it) : Inv X pins σ H { s with heap := h', toks := t' } := by
  have nit : ∀ b u, H b = some u → b ≠ it := fun b u e z => by rw [z, hn] at e; cases e
  refine I.step (g' := s.gens) (d' := s.drawn) (ch := [it]) (fun b hb => ?_) (fun b o _ _ hc e _ => k b o (fun z => hc (by simp [z])) e) (fun b o _ _ hc e _ => ⟨o.slots, k b o (fun z => hc (by simp [z])) e⟩) (fun _ _ _ _ n => n)
    (fun b o hc e => ⟨o, k b o (fun z => hc (by simp [z])) e⟩) (fun _ _ e => e) (fun _ _ _ e => e) (fun b ps e => ⟨#[], by rw [e]; simp⟩) (fun m hm => ?_) (fun b u e => ?_) I.bare
  · have e : b = it := by simpa using hb
    subst e
    exact ⟨h1, hL, h2, h3⟩
  · obtain ⟨o, es, ep, ho, r⟩ := hm
    exact ⟨o, es, ep, k _ o (Ne.symm hL) ho, r⟩
  · refine (I.hok b u e).stay (fun c v hc q => k c v ?_ q) (fun _ q => q) fun _ _ q => q
    rcases hc with z | z
    · rw [z]; exact nit b u e
    · exact nit c _ z
theorem Inv.tok (I : Inv X pins σ H s) (t : Nat) : Inv X pins σ H { s with toks := t } := I.un (h' := s.heap) (t' := t) Un.refl I.hok
/-- all objects kept -/
theorem Inv.kept {t' : Nat} (I : Inv X pins σ H s) (k : ∀ b u, s.heap.get? b = some u → h'.get? b = some u) : Inv X pins σ H { s with heap := h', toks := t' } := I.un (Un.kept k) (I.hok.kept k)
/-- a new object laid and tracked -/
theorem Inv.laid {a : Addr} {o : HO} {t' : Nat} (I : Inv X pins σ H s) (k : ∀ b u, s.heap.get? b = some u → h'.get? b = some u) (hp : s.heap.objs.size ≤ a) (new : ObjOk X.prog X.w (upd H a o) h' a o) :
    Inv X pins σ (upd H a o) { s with heap := h', toks := t' } := I.un (Un.laid k hp (I.hok.fresh hp)) (I.hok.laid k hp new)
/-- an object written -/
theorem Inv.write {x e : Addr} {o : HO} {t' : Nat} (I : Inv X pins σ H s) (mu : Mut (H x)) (he : e = x ∨ H e = some (.own x)) (k : ∀ b u, b ≠ e → s.heap.get? b = some u → h'.get? b = some u) (heo : ∃ u, h'.get? e = some u)
    (new : ObjOk X.prog X.w (upd H x o) h' x o) : Inv X pins σ (upd H x o) { s with heap := h', toks := t' } := I.un (Un.write mu he k heo) (I.hok.write mu he k heo new)
theorem Inv.pins_of {pins' : List (Addr × Obj)} (I : Inv X pins σ H s) (h : ∀ p ∈ pins', s.heap.get? p.1 = some p.2 ∧ H p.1 = none ∧ p.1 ≠ X.env.locals ∧ p.1 ∉ X.fs ∧ ∀ v, p.2.data ≠ .cell v) : Inv X pins' σ H s :=
  ⟨I.ok, I.os, I.bare, I.base, I.loc, I.cell, I.free, I.freeC, fun p hp => (List.mem_append.mp hp).elim (fun z => I.pin p (List.mem_append_left _ z)) (h p), I.hok, I.len⟩

theorem nodup_ix {N : List Str} (hN : N.Nodup) {i j : Nat} {x : Str} (a : N[i]? = some x) (b : N[j]? = some x) : i = j := by
  obtain ⟨h1, e1⟩ := List.getElem?_eq_some_iff.mp a
  obtain ⟨h2, e2⟩ := List.getElem?_eq_some_iff.mp b
  exact (List.getElem_inj hN).mp (e1.trans e2.symm)

/-- a name is stored; what changed -/
theorem store_ok2 {M : Model} {A : Around} {E : Value → Shared → Prop} {i : Nat} {x : Str} {v : V} {u : Value} {Q : Unit → Shared → Prop} (I : Inv X pins σ H s) (hN : X.N.Nodup) (hi : X.N[i]? = some x) (hx : Loc X.env.scope x) (r : RelV v u)
    (h : ∀ s', Inv X pins (σ.set i (some v)) H s' → (∃ a, Heap.SameBut a s.heap s'.heap ∧ (a = X.env.locals ∨ X.env.cells.lookup x = some a)) → Q () s') (hf : X.fn x = true ∨ X.env.scope.names.lookup x = some .local := by first | exact .inl rfl | exact .inr rfl | assumption) : wpAny M A (storeName X.env x u) Q E s := by
  obtain ⟨m, hn, hl⟩ := id I.loc
  have hcls : (X.env.scope.kind == .class || (X.env.scope.kind == .module && X.env.locals != X.env.globals)) = false := by rw [I.ok.kind]; rfl
  have hiσ : i < σ.length := by rw [I.len]; exact (List.getElem?_eq_some_iff.mp hi).1
  have cne := I.cne
  have tracked : ∀ {a : Addr} {h' : Heap}, (∃ o, s.heap.get? a = some o ∧ H a = none) → Heap.SameBut a s.heap h' → HOk X.prog X.w H h' := fun {a h'} ha hs b ob e => by
    obtain ⟨_, _, hfree⟩ := ha
    refine (I.hok b ob e).stay (fun c w' hc q => (hs.2 c ?_).trans q) (fun _ q => q) fun _ _ q => q
    rintro rfl
    rcases hc with rfl | hc
    · rw [hfree] at e; cases e
    · rw [hfree] at hc; cases hc
  rcases hx with hk | hk
  · refine wpAny_storeName_local hk hn (fun h' hn' hs => ?_) hcls
    obtain ⟨oL, _, _, hoL, _⟩ := id hn
    refine h _ ⟨I.ok, I.os, I.bare, ⟨fun b o e n hb hx => ?_, fun b o e n hb hx => ?_, I.base.free, fun b o e hx => ?_, I.base.tups, I.base.frzs, I.base.tbls⟩, ⟨_, hn', fun j y v' e1 e2 e3 => ?_⟩, fun y c e => ?_, I.free, I.freeC, fun p hp => ?_, tracked ⟨oL, hoL, I.free⟩ hs, by simpa using I.len⟩ ⟨_, hs, .inl rfl⟩
    · exact (hs.2 b (Nat.ne_of_lt (Nat.lt_of_lt_of_le (Heap.lt_size e) I.ok.above))).trans (I.base.keep b o e n hb hx)
    · obtain ⟨sl, e1⟩ := I.base.slot b o e n hb hx
      exact ⟨sl, (hs.2 b (Nat.ne_of_lt (Nat.lt_of_lt_of_le (Heap.lt_size e) I.ok.above))).trans e1⟩
    · obtain ⟨o', e1⟩ := I.base.there b o e hx
      exact ⟨o', (hs.2 b (Nat.ne_of_lt (Nat.lt_of_lt_of_le (Heap.lt_size e) I.ok.above))).trans e1⟩
    · by_cases hj : j = i
      · subst hj
        rw [hi] at e1; cases e1
        rw [List.getElem?_set_self hiσ] at e2
        cases e2
        exact ⟨u, r, .inl ⟨hk, by simp⟩⟩
      · rw [List.getElem?_set_ne (Ne.symm hj)] at e2
        obtain ⟨u', r', q⟩ := hl j y v' e1 e2 e3
        refine ⟨u', r', ?_⟩
        rcases q with ⟨k, e⟩ | ⟨k, c, e, z⟩
        · refine .inl ⟨k, ?_⟩
          have : y ≠ x := fun e => hj (nodup_ix hN e1 (e ▸ hi))
          simp [this, e]
        · exact .inr ⟨k, c, e, z.sameBut hs (cne y c e)⟩
    · obtain ⟨w', z⟩ := I.cell y c e
      exact ⟨w', z.sameBut hs (cne y c e)⟩
    · obtain ⟨e, n, ne, nf, d⟩ := I.pin p hp
      exact ⟨(hs.2 p.1 ne).trans e, n, ne, nf, d⟩
  · have hfn : X.fn x = true := by
      rcases hf with z | z
      · exact z
      · rw [z] at hk; cases hk
    obtain ⟨c, hc⟩ := I.ok.has x (.inl hk)
    obtain ⟨w', z⟩ := I.cell x c hc
    refine wpAny_storeName_cell I.ok.kind hk hc z (fun h' hc' hs => ?_)
    obtain ⟨oc, hoc, hocd⟩ := id z
    refine h { s with heap := h' } ⟨I.ok, I.os, I.bare, ⟨fun b o e n hb hx => ?_, fun b o e n hb hx => ?_, I.base.free, fun b o e hx => ?_, I.base.tups, I.base.frzs, I.base.tbls⟩, ⟨m, hn.sameBut hs (Ne.symm (cne x c hc)), fun j y v' e1 e2 e3 => ?_⟩, fun y c' e => ?_, I.free, I.freeC, fun p hp => ?_, tracked ⟨oc, hoc, I.freeC x c hc⟩ hs, by simpa using I.len⟩ ⟨c, hs, .inr hc⟩
    · exact (hs.2 b (Nat.ne_of_lt (Nat.lt_of_lt_of_le (Heap.lt_size e) (I.ok.cab x c hfn hc)))).trans (I.base.keep b o e n hb hx)
    · obtain ⟨sl, e1⟩ := I.base.slot b o e n hb hx
      exact ⟨sl, (hs.2 b (Nat.ne_of_lt (Nat.lt_of_lt_of_le (Heap.lt_size e) (I.ok.cab x c hfn hc)))).trans e1⟩
    · obtain ⟨o', e1⟩ := I.base.there b o e hx
      exact ⟨o', (hs.2 b (Nat.ne_of_lt (Nat.lt_of_lt_of_le (Heap.lt_size e) (I.ok.cab x c hfn hc)))).trans e1⟩
    · by_cases hj : j = i
      · subst hj
        rw [hi] at e1; cases e1
        rw [List.getElem?_set_self hiσ] at e2
        cases e2
        exact ⟨u, r, .inr ⟨.inl hk, c, hc, hc'⟩⟩
      · rw [List.getElem?_set_ne (Ne.symm hj)] at e2
        obtain ⟨u', r', q⟩ := hl j y v' e1 e2 e3
        refine ⟨u', r', ?_⟩
        rcases q with q | ⟨k, c', e, z'⟩
        · exact .inl q
        · refine .inr ⟨k, c', e, z'.sameBut hs ?_⟩
          rintro rfl
          exact hj (nodup_ix hN e1 (I.ok.inj _ _ _ e hc ▸ hi))
    · by_cases hcc : c' = c
      · subst hcc; exact ⟨_, hc'⟩
      · obtain ⟨w2, z2⟩ := I.cell y c' e
        exact ⟨w2, z2.sameBut hs hcc⟩
    · obtain ⟨e, n, ne, nf, d⟩ := I.pin p hp
      refine ⟨(hs.2 p.1 ?_).trans e, n, ne, nf, d⟩
      intro q
      rw [q, hoc] at e
      have q' : oc = p.2 := Option.some.inj e
      exact d w' (by rw [← q']; exact hocd)
theorem store_ok {M : Model} {A : Around} {E : Value → Shared → Prop} {i : Nat} {x : Str} {v : V} {u : Value} {Q : Unit → Shared → Prop} (I : Inv X pins σ H s) (hN : X.N.Nodup) (hi : X.N[i]? = some x) (hx : Loc X.env.scope x) (r : RelV v u)
    (h : ∀ s', Inv X pins (σ.set i (some v)) H s' → Q () s') (hf : X.fn x = true ∨ X.env.scope.names.lookup x = some .local := by first | exact .inl rfl | exact .inr rfl | assumption) : wpAny M A (storeName X.env x u) Q E s :=
  store_ok2 I hN hi hx r (fun s' I' _ => h s' I') hf
/-- behind a call or a block, the state as it is -/
theorem Inv.call' {s' : Shared} {ch : List Addr} (I : Inv X pins σ H s) (ho : s'.os = s.os) (u : Un (frs X.stack) ch H H' s.heap s'.heap) (hok : HOk X.prog X.w H' s'.heap) (hg : AllBare s'.gens)
    (hch : ∀ b ∈ ch, (b ∈ X.ex ∨ X.s₀.heap.objs.size ≤ b) ∧ b ≠ X.env.locals ∧ (∀ x c, X.env.cells.lookup x = some c → c ≠ b) ∧ ∀ p ∈ X.pn ++ pins, p.1 ≠ b) : Inv X pins σ H' s' := by
  obtain ⟨h', g', d', t', o'⟩ := s'
  have e : o' = s.os := ho
  subst e
  exact I.call (g' := g') (t' := t') (d' := d') u hok hg hch
end

/-! ### the judgements -/
/-- an exception: its class, its own dict's address (where it has one), the abstract heap behind it -/
abbrev XK := Value → Option Addr → Hp → Prop
abbrev St := List (Option V)
abbrev VK := V → Hp → Prop
/-- an expression's reading; a test's; an argument list's -/
abbrev TE := St → Hp → VK → Prop
abbrev TT := St → Hp → (Bool → Hp → Prop) → Prop
abbrev TA := St → Hp → (List V → Hp → Prop) → Prop
/-- what is wanted behind a statement -/
structure Ends where
  nx : St → Hp → Prop
  rt : VK
  bk : St → Hp → Prop := fun _ _ => False
  ct : St → Hp → Prop := fun _ _ => False
abbrev TS := Ends → St → Hp → Prop

def EP (X : Cx) (pins : List (Addr × Obj)) (σ : St) (Q : VK) (u : Value) (s' : Shared) : Prop := ∃ v H', Inv X pins σ H' s' ∧ RelV v u ∧ Q v H'
def TP (X : Cx) (pins : List (Addr × Obj)) (σ : St) (Q : Bool → Hp → Prop) (b : Bool) (s' : Shared) : Prop := ∃ H', Inv X pins σ H' s' ∧ Q b H'
def AP (X : Cx) (pins : List (Addr × Obj)) (σ : St) (Q : List V → Hp → Prop) (us : List Value) (s' : Shared) : Prop := ∃ vs H', Inv X pins σ H' s' ∧ Vals vs us ∧ Q vs H'
def SP (X : Cx) (pins : List (Addr × Obj)) (D : Ends) (f : Flow) (s' : Shared) : Prop :=
  match f with
  | .next => ∃ σ' H', Inv X pins σ' H' s' ∧ D.nx σ' H'
  | .brk => ∃ σ' H', Inv X pins σ' H' s' ∧ D.bk σ' H'
  | .cont => ∃ σ' H', Inv X pins σ' H' s' ∧ D.ct σ' H'
  | .ret u => ∃ v σ' H', Inv X pins σ' H' s' ∧ RelV v u ∧ D.rt v H'

def PE (X : Cx) (e : Expr) (t : TE) : Prop :=
  ∀ (pins : List (Addr × Obj)) (s : Shared) (σ : St) (H : Hp) (Q : VK), Inv X pins σ H s → t σ H Q → wpAny (model X.prog X.w) X.A (eval e X.env) (EP X pins σ Q) X.xe s
def PT (X : Cx) (e : Expr) (t : TT) : Prop :=
  ∀ (pins : List (Addr × Obj)) (s : Shared) (σ : St) (H : Hp) (Q : Bool → Hp → Prop), Inv X pins σ H s → t σ H Q → wpAny (model X.prog X.w) X.A (isTrue e X.env (eval e X.env)) (TP X pins σ Q) X.xe s
/-- a test whatever its 'whole' is (and, or) -/
def PW (X : Cx) (e : Expr) (t : TT) : Prop :=
  ∀ (whole : Sem Value) (pins : List (Addr × Obj)) (s : Shared) (σ : St) (H : Hp) (Q : Bool → Hp → Prop), Inv X pins σ H s → t σ H Q → wpAny (model X.prog X.w) X.A (isTrue e X.env whole) (TP X pins σ Q) X.xe s
theorem PW.pt {X : Cx} {e : Expr} {t : TT} (h : PW X e t) : PT X e t := h _
/-- an argument list (no star), from the left -/
def PA (X : Cx) (es : List Expr) (t : TA) : Prop :=
  ∀ (pos : Pos) (pins : List (Addr × Obj)) (s : Shared) (σ : St) (H : Hp) (Q : List V → Hp → Prop), Inv X pins σ H s → t σ H Q → wpAny (model X.prog X.w) X.A (spliced (backTo pos (starEach es X.env))) (AP X pins σ Q) X.xe s
def PS (X : Cx) (st : Stmt) (t : TS) : Prop :=
  ∀ (pins : List (Addr × Obj)) (s : Shared) (σ : St) (H : Hp) (D : Ends), Inv X pins σ H s → t D σ H → wpAny (model X.prog X.w) X.A (exec st X.env) (SP X pins D) X.xe s
def PSs (X : Cx) (st : List Stmt) (t : TS) : Prop :=
  ∀ (pins : List (Addr × Obj)) (s : Shared) (σ : St) (H : Hp) (D : Ends), Inv X pins σ H s → t D σ H → wpAny (model X.prog X.w) X.A (execs st X.env) (SP X pins D) X.xe s
/-- weaken the end -/
theorem thn {α : Type} {t : Sem α} {Q Q' : α → Shared → Prop} {M : Model} {A : Around} {E : Value → Shared → Prop} {s : Shared} (h : wpAny M A t Q E s) (hQ : ∀ a s, Q a s → Q' a s) : wpAny M A t Q' E s := wpAny_mono h hQ fun _ _ x => x
end L2

namespace L2
open PySem PySem.Spec PyProof.Rows
section
variable {X : Cx}

/-- two expressions in a row -/
theorem bin {a b : Expr} {ta tb : TE} (ha : PE X a ta) (hb : PE X b tb) {pins : List (Addr × Obj)} {s : Shared} {σ : St} {H : Hp} {R : V → V → Hp → Prop} (I : Inv X pins σ H s) (h : ta σ H fun x H1 => tb σ H1 fun y H2 => R x y H2)
    {α : Type} {Q : α → Shared → Prop} {f : Value → Value → Sem α}
    (hf : ∀ v u s2 x y H2, Inv X pins σ H2 s2 → RelV x v → RelV y u → R x y H2 → wpAny (model X.prog X.w) X.A (f v u) Q X.xe s2) :
    wpAny (model X.prog X.w) X.A (eval a X.env) (fun v s₁ => wpAny (model X.prog X.w) X.A (eval b X.env) (fun u s₂ => wpAny (model X.prog X.w) X.A (f v u) Q X.xe s₂) X.xe s₁) X.xe s := by
  refine thn (ha pins s σ H _ I h) fun v s1 ⟨x, H1, I1, r1, q1⟩ => ?_
  refine thn (hb pins s1 σ H1 _ I1 q1) fun u s2 ⟨y, H2, I2, r2, q2⟩ => ?_
  exact hf v u s2 x y H2 I2 r1 r2 q2

/-! ### names and constants -/
def tVar (i : Nat) : TE := fun σ H Q => ∃ v, σ[i]? = some (some v) ∧ Q v H
def tC (v : V) : TE := fun _ H Q => Q v H
theorem pe_var {i : Nat} {x : Str} {pos : Pos} (hN : X.N[i]? = some x) (hv : Vis X.env.scope x) (hd : (x == ("__debug__" : Str)) = false := by decide) (hcd : (x == ("__classdict__" : Str)) = false := by decide) : PE X (.Name x pos) (tVar i) := by
  intro pins s σ H Q I h
  obtain ⟨v, e, h⟩ := h
  obtain ⟨m, hn, hl⟩ := I.loc
  obtain ⟨u, r, l⟩ := hl i x v hN e hv
  have fin : EP X pins σ Q u s := ⟨v, H, I, r, h⟩
  rcases l with ⟨hk, hm⟩ | ⟨hk, c, hc, hcell⟩
  · exact wpAny_Name (wpAny_loadName_local I.ok.kind hk hn hm fin) hd
  · rcases hk with hk | hk
    · exact wpAny_Name (wpAny_loadName_cell I.ok.kind hk hc hcell fin) hd
    · exact wpAny_Name (wpAny_loadName_free I.ok.kind hk hc hcell fin hcd) hd
theorem pe_int {i j pos} : PE X (.Constant (.int i) j pos) (tC (.int i)) := fun _ _ _ H _ I h => wpAny_Constant_int ⟨.int i, H, I.tok _, ⟨_, rfl⟩, h⟩
theorem pe_bl {b j pos} : PE X (.Constant (.bool b) j pos) (tC (.bl b)) := fun _ _ _ H _ I h => Constant_bool ⟨.bl b, H, I, rfl, h⟩
theorem pe_str {x j pos} : PE X (.Constant (.str x) j pos) (tC (.str x)) := fun _ _ _ H _ I h => Calls.Constant_str ⟨.str x, H, I.tok _, ⟨_, rfl⟩, h⟩

/-- a global name of the def -/
def Gl (X : Cx) (x : Str) : Prop := X.env.kindOf x = some .globalImplicit
theorem ld_glob {E : Value → Shared → Prop} {pins : List (Addr × Obj)} {s : Shared} {σ : St} {H : Hp} {x : Str} {u : Value} {pos : Pos} {Q : Value → Shared → Prop} (I : Inv X pins σ H s) (hg : Gl X x) (hm : X.mg x = some u) (h : Q u s)
    (hd : (x == ("__debug__" : Str)) = false := by decide) : wpAny (model X.prog X.w) X.A (eval (.Name x pos) X.env) Q E s :=
  Calls.Name_function_global I.ok.kind hg (Calls.loadGlobal_global (by rw [I.ok.glob]; exact I.mod.glob.keeps I.bk) hm h) hd
theorem ld_blt {E : Value → Shared → Prop} {pins : List (Addr × Obj)} {s : Shared} {σ : St} {H : Hp} {x : Str} {u : Value} {pos : Pos} {Q : Value → Shared → Prop} (I : Inv X pins σ H s) (hg : Gl X x) (hm : X.mg x = none) (hv : bootBuiltins x = some u) (h : Q u s)
    (hn : x ≠ "__name__" := by decide) (hd : (x == ("__debug__" : Str)) = false := by decide) : wpAny (model X.prog X.w) X.A (eval (.Name x pos) X.env) Q E s := by
  obtain ⟨mb, h1, h2⟩ := I.mod.blt
  exact Calls.Name_function_global I.ok.kind hg (Calls.loadGlobal_builtin (by rw [I.ok.glob]; exact I.mod.glob.keeps I.bk) hm (by rw [I.ok.blt]; exact h1.keeps I.bk) ((h2 x hn).trans hv) h) hd
/-- a module's constant, a class, a function, as a value -/
theorem pe_glob {x : Str} {v : V} {u : Value} {pos : Pos} (hg : Gl X x) (hm : X.mg x = some u) (r : RelV v u) (hd : (x == ("__debug__" : Str)) = false := by decide) : PE X (.Name x pos) (tC v) :=
  fun _ _ _ H _ I h => ld_glob I hg hm ⟨v, H, I, r, h⟩ hd
theorem pe_bltn {x : Str} {v : V} {u : Value} {pos : Pos} (hg : Gl X x) (hm : X.mg x = none) (hv : bootBuiltins x = some u) (r : RelV v u) (hn : x ≠ "__name__" := by decide) (hd : (x == ("__debug__" : Str)) = false := by decide) : PE X (.Name x pos) (tC v) :=
  fun _ _ _ H _ I h => ld_blt I hg hm hv ⟨v, H, I, r, h⟩ hn hd

/-! ### arithmetic -/
variable {a b : Expr} {ta tb : TE} {pos : Pos}
/-! ### comparisons -/
def PC (X : Cx) (op : CmpOp) (a b : Expr) (t : TE) : Prop :=
  ∀ (pins : List (Addr × Obj)) (s : Shared) (σ : St) (H : Hp) (Q : VK), Inv X pins σ H s → t σ H Q →
    wpAny (model X.prog X.w) X.A (eval a X.env) (fun v s₁ => wpAny (model X.prog X.w) X.A (eval b X.env) (fun u s₂ => wpAny (model X.prog X.w) X.A (compareOp op v u) (EP X pins σ Q) X.xe s₂) X.xe s₁) X.xe s
theorem nobehind (b : Expr) {op : CmpOp} (h : op ≠ .In) (h2 : op ≠ .NotIn) : behindInMarks op b = false := by
  have e1 : (op == CmpOp.In) = false := by cases op <;> first | rfl | exact absurd rfl h
  have e2 : (op == CmpOp.NotIn) = false := by cases op <;> first | rfl | exact absurd rfl h2
  cases b <;> simp [behindInMarks, e1, e2]
/-- a comparison as a value, as a test -/
def tB (t : TE) : TT := fun σ H Q => t σ H fun x H1 => ∃ c, x = .bl c ∧ Q c H1
theorem pt_cmp {op : CmpOp} {t : TE} (h : PC X op a b t) (h1 : behindInMarks op b = false := by first | exact nobehind _ (by decide) (by decide) | rfl) : PT X (.Compare a [op] [b] pos) (tB t) := by
  intro pins s σ H Q I hw
  refine wpAny_isTrue_Compare1 (thn (h pins s σ H _ I hw) fun v s1 h1 => thn h1 fun u s2 h2 => thn h2 fun c s3 ⟨x, H1, I1, r1, q1⟩ => ?_) h1
  obtain ⟨d, rfl, q⟩ := q1
  cases r1
  exact wpAny_truthy_bool ⟨H1, I1, q⟩
/-- an expression whose value is a bool, as a test -/
theorem pt_val {e : Expr} {t : TE} (h : PE X e t) (he : ∀ whole, isTrue e X.env whole = (do let v ← whole; standAt e.pos; holding [v] (truthy v)) := by intro _; rfl) : PT X e (tB t) := by
  intro pins s σ H Q I hw
  refine isTrue_plain (thn (h pins s σ H _ I hw) fun v s1 ⟨x, H1, I1, r1, q1⟩ => ?_) (he _)
  obtain ⟨d, rfl, q⟩ := q1
  cases r1
  exact wpAny_truthy_bool ⟨H1, I1, q⟩

/-! ### and, or, not -/
variable {tA tB' : TT} {rest : List Expr}
def tOr (t u : TT) : TT := fun σ H Q => t σ H fun c H1 => if c = true then Q true H1 else u σ H1 Q
def tNot (t : TT) : TT := fun σ H Q => t σ H fun c H1 => Q (!c) H1
theorem pw_or1 (ha : PT X a tA) : PW X (.BoolOp .Or [a] pos) tA := by
  intro wh pins s σ H Q I h
  refine isTrue_or (thn (ha pins s σ H Q I h) fun c s1 e => ?_)
  cases c with
  | false => exact isTrue_or_nil e
  | true => exact e
theorem pw_or (ha : PT X a tA) (hb : PW X (.BoolOp .Or (b :: rest) pos) tB') : PW X (.BoolOp .Or (a :: b :: rest) pos) (tOr tA tB') := by
  intro wh pins s σ H Q I h
  refine isTrue_or (thn (ha pins s σ H _ I h) fun c s1 ⟨H1, I1, q1⟩ => ?_)
  cases c with
  | true => exact ⟨H1, I1, q1⟩
  | false => exact hb wh pins s1 σ H1 Q I1 q1
theorem pt_not (ha : PT X a tA) : PT X (.UnaryOp .Not a pos) (tNot tA) := by
  intro pins s σ H Q I h
  exact isTrue_not (ha pins s σ H (fun c H1 => Q (!c) H1) I h)
/-- .. as values (bools) -/
def tAndV (ta tb : TE) : TE := fun σ H Q => ta σ H fun x H1 => ∃ c, x = .bl c ∧ if c = true then tb σ H1 Q else Q (.bl false) H1
def tNotV (ta : TE) : TE := fun σ H Q => ta σ H fun x H1 => ∃ c, x = .bl c ∧ Q (.bl (!c)) H1
theorem pe_one {op} {t : TE} (h : PE X a t) : PE X (.BoolOp op [a] pos) t := fun pins s σ H Q I hw => BoolOp_one (h pins s σ H Q I hw)
theorem pe_and (ha : PE X a ta) (hb : PE X (.BoolOp .And (b :: rest) pos) tb) : PE X (.BoolOp .And (a :: b :: rest) pos) (tAndV ta tb) := by
  intro pins s σ H Q I h
  refine BoolOp_and (thn (ha pins s σ H _ I h) fun v s1 ⟨x, H1, I1, r1, q1⟩ => ?_)
  obtain ⟨c, rfl, q1⟩ := q1
  cases r1
  refine wpAny_truthy_bool ?_
  cases c with
  | true => exact hb pins s1 σ H1 Q I1 q1
  | false => exact ⟨.bl false, H1, I1, rfl, q1⟩
theorem pe_not (ha : PE X a ta) : PE X (.UnaryOp .Not a pos) (tNotV ta) := by
  intro pins s σ H Q I h
  refine UnaryOp_ (thn (ha pins s σ H _ I h) fun v s1 ⟨x, H1, I1, r1, q1⟩ => ?_)
  obtain ⟨c, rfl, q1⟩ := q1
  cases r1
  exact not_of (wpAny_truthy_bool ⟨.bl (!c), H1, I1, rfl, q1⟩)
end
end L2

namespace L2
open PySem PySem.Spec PyProof.Rows

/-! ### a list, a tuple that is read: tracked, frozen, or an object of the module -/
def SqL (K : PySem.W.Frag) (H : Hp) (a : Addr) (xs : List V) : Prop :=
  Rd H a (.lst xs) ∨
    ∃ (o : Obj) (its : Array Value) (n : Nat), K.lookup a = some o ∧ o.cls = .type "list" ∧ o.dict = none ∧ o.data = .seq its n ∧ its.size ≤ sizeLine ∧ Vals xs its.toList
def SqT (K : PySem.W.Frag) (H : Hp) (a : Addr) (xs : List V) : Prop :=
  Rd H a (.tup xs) ∨
    ∃ (o : Obj) (its : Array Value) (n : Nat), K.lookup a = some o ∧ o.cls = .type "tuple" ∧ o.data = .seq its n ∧ its.size ≤ sizeLine ∧ Vals xs its.toList
def absV : Value → Option V
  | .none => some .non
  | .bool b => some (.bl b)
  | .int i _ => some (.int i)
  | .str x _ => some (.str x)
  | .bytes b _ => some (.byt b)
  | .float b _ => some (.flt b)
  | .ref a => some (.ref a)
  | .type n => some (.ty n)
  | _ => none
theorem RelV.abs {x : V} {u : Value} (r : RelV x u) : absV u = some x := by
  cases x with
  | non => cases r; rfl
  | bl _ => cases r; rfl
  | int _ => obtain ⟨t, rfl⟩ := r; rfl
  | str _ => obtain ⟨t, rfl⟩ := r; rfl
  | byt _ => obtain ⟨t, rfl⟩ := r; rfl
  | flt _ => obtain ⟨t, rfl⟩ := r; rfl
  | ref _ => cases r; rfl
  | ty _ => cases r; rfl
theorem RelV.inj {x y : V} {u : Value} (r : RelV x u) (q : RelV y u) : x = y := Option.some.inj (r.abs.symm.trans q.abs)
theorem Vals.inj : ∀ {xs ys : List V} {us : List Value}, Vals xs us → Vals ys us → xs = ys
  | _, _, _, .nil, .nil => rfl
  | _, _, _, .cons r t, .cons r' t' => by rw [r.inj r', Vals.inj t t']
section
variable {X : Cx} {pins : List (Addr × Obj)} {σ : St} {H : Hp} {s : Shared} {a : Addr} {xs ys : List V}
theorem SqL.of {K : PySem.W.Frag} (h : H a = some (.lst xs)) : SqL K H a xs := .inl (.inl h)
theorem Inv.list (I : Inv X pins σ H s) (h : SqL X.K H a xs) : ∃ its : List Value, Vals xs its ∧ PlainL s.heap a its.toArray ∧ xs.length ≤ sizeLine := by
  rcases h with h | ⟨o, its, n, hk, hc, hd, hs, hz, r⟩
  · obtain ⟨z, its, n, r, e⟩ := h.ok I.hok
    exact ⟨its, r, ⟨_, n, e, rfl, rfl, rfl⟩, z⟩
  · refine ⟨its.toList, r, ⟨o, n, I.kIn a o hk, hc, hd, by simpa using hs⟩, ?_⟩
    have e := r.length
    simp only [Array.length_toList] at e
    omega
theorem Inv.tuple (I : Inv X pins σ H s) (h : SqT X.K H a xs) : ∃ its : List Value, Vals xs its ∧ IsTup s.heap a its.toArray ∧ xs.length ≤ sizeLine := by
  rcases h with h | ⟨o, its, n, hk, hc, hs, hz, r⟩
  · obtain ⟨z, its, r, p⟩ := h.ok I.hok
    exact ⟨its, r, p, z⟩
  · refine ⟨its.toList, r, ⟨o, I.kIn a o hk, hc, n, by simpa using hs⟩, ?_⟩
    have e := r.length
    simp only [Array.length_toList] at e
    omega
theorem Inv.list_inj (I : Inv X pins σ H s) (h : SqL X.K H a xs) (h' : SqL X.K H a ys) : xs = ys := by
  obtain ⟨its, r, ⟨o, n, e, _, _, d⟩, _⟩ := I.list h
  obtain ⟨its', r', ⟨o', n', e', _, _, d'⟩, _⟩ := I.list h'
  rw [e] at e'; cases e'
  rw [d] at d'
  injection d' with d1 _
  have : its = its' := by simpa using congrArg Array.toList d1
  subst this
  exact r.inj r'
end

/-! ### another wish about exceptions -/
abbrev Cx.wish (X : Cx) (E : Value → Shared → Prop) : Cx := { X with xe := E }
/-- no exception leaves -/
abbrev Cx.nox (X : Cx) : Cx := X.wish fun _ _ => False
theorem Cx.Ok.wish {X : Cx} (ok : X.Ok) (E : Value → Shared → Prop) : (X.wish E).Ok :=
  ⟨ok.mod, ok.kind, ok.glob, ok.blt, ok.above, ok.inj, ok.has, ok.cab, ok.hd, ok.frames, ok.stk, ok.exf, ok.bs, ok.bsz, ok.noex, ok.exfs, ok.funs, ok.frf⟩
theorem Cx.Ok.unwish {X : Cx} {E : Value → Shared → Prop} (ok : (X.wish E).Ok) : X.Ok :=
  ⟨ok.mod, ok.kind, ok.glob, ok.blt, ok.above, ok.inj, ok.has, ok.cab, ok.hd, ok.frames, ok.stk, ok.exf, ok.bs, ok.bsz, ok.noex, ok.exfs, ok.funs, ok.frf⟩
section
variable {X : Cx} {pins : List (Addr × Obj)} {σ : St} {H : Hp} {s : Shared} {E : Value → Shared → Prop}
theorem Inv.wish (I : Inv X pins σ H s) (E : Value → Shared → Prop) : Inv (X.wish E) pins σ H s := ⟨I.ok.wish E, I.os, I.bare, I.base, I.loc, I.cell, I.free, I.freeC, I.pin, I.hok, I.len⟩
theorem Inv.unwish (I : Inv (X.wish E) pins σ H s) : Inv X pins σ H s := ⟨I.ok.unwish, I.os, I.bare, I.base, I.loc, I.cell, I.free, I.freeC, I.pin, I.hok, I.len⟩
theorem SP.unwish {D : Ends} {f : Flow} {s' : Shared} (h : SP (X.wish E) pins D f s') : SP X pins D f s' := by
  cases f with
  | next => obtain ⟨σ', H', I, q⟩ := h; exact ⟨σ', H', I.unwish, q⟩
  | brk => obtain ⟨σ', H', I, q⟩ := h; exact ⟨σ', H', I.unwish, q⟩
  | cont => obtain ⟨σ', H', I, q⟩ := h; exact ⟨σ', H', I.unwish, q⟩
  | ret u => obtain ⟨v, σ', H', I, r, q⟩ := h; exact ⟨v, σ', H', I.unwish, r, q⟩
theorem PSs.nox {st : List Stmt} {t : TS} (h : PSs X.nox st t) : PSs X st t := fun pins s σ H D I hw =>
  wpAny_mono (h pins s σ H D (I.wish _) hw) (fun _ _ q => q.unwish) fun _ _ z => False.elim z
end

/-! ### blocks and small statements -/
section
variable {X : Cx} {st : Stmt} {rest : List Stmt} {t u : TS} {e : Expr} {te : TE} {pos : Pos}
def tNext : TS := fun D σ H => D.nx σ H
def tSeq (t u : TS) : TS := fun D σ H => t { D with nx := u D } σ H
theorem pss_nil : PSs X [] tNext := fun _ _ σ H _ I h => wpAny_execs_nil ⟨σ, H, I, h⟩
theorem pss_cons (h1 : PS X st t) (h2 : PSs X rest u) : PSs X (st :: rest) (tSeq t u) := by
  intro pins s σ H D I h
  refine wpAny_execs_cons (thn (h1 pins s σ H { D with nx := u D } I h) fun f s1 q => ?_)
  cases f with
  | next =>
    obtain ⟨σ', H', I', q⟩ := q
    exact h2 pins s1 σ' H' D I' q
  | ret v => exact q
  | brk => exact q
  | cont => exact q
theorem pss_one (h1 : PS X st t) : PSs X [st] t := by
  intro pins s σ H D I h
  refine wpAny_execs_cons (thn (h1 pins s σ H D I h) fun f s1 q => ?_)
  cases f with
  | next => exact wpAny_execs_nil q
  | ret v => exact q
  | brk => exact q
  | cont => exact q
/-- in a def's body nothing is shown -/
theorem Inv.quiet {pins : List (Addr × Obj)} {σ : St} {H : Hp} {s : Shared} (I : Inv X pins σ H s) : interactive X.env = false := by simp [interactive, I.ok.kind]
/-- an expression whose value is dropped -/
def tDrop (te : TE) : TS := fun D σ H => te σ H fun _ H1 => D.nx σ H1
theorem ps_expr (he : PE X e te) (hs : swapsWith e none pos.line X.env = pure false := by rfl) : PS X (.Expr e pos) (tDrop te) := by
  intro pins s σ H D I h
  exact wpAny_Expr_any (thn (he pins s σ H _ I h) fun v s1 ⟨x, H1, I1, r1, q1⟩ => ⟨σ, H1, I1, q1⟩) I.quiet hs
def tRet (te : TE) : TS := fun D σ H => te σ H D.rt
theorem ps_ret (he : PE X e te) : PS X (.Return (some e) pos) (tRet te) := by
  intro pins s σ H D I h
  exact wpAny_Return_some (thn (he pins s σ H _ I h) fun v s1 ⟨x, H1, I1, r1, q1⟩ => ⟨x, σ, H1, I1, r1, q1⟩)
def tIfS (c : TT) (t u : TS) : TS := fun D σ H => c σ H fun b H1 => if b = true then t D σ H1 else u D σ H1
theorem ps_if {c : Expr} {a b : List Stmt} {tc : TT} (hc : PT X c tc) (ha : PSs X a t) (hb : PSs X b u) : PS X (.If c a b pos) (tIfS tc t u) := by
  intro pins s σ H D I h
  refine wpAny_If (thn (hc pins s σ H _ I h) fun d s1 ⟨H1, I1, q1⟩ => ?_)
  cases d with
  | true => exact ha pins s1 σ H1 D I1 q1
  | false => exact hb pins s1 σ H1 D I1 q1
end

/-! ### targets -/
abbrev TG := V → St → Hp → (St → Hp → Prop) → Prop
def PG (X : Cx) (target : Expr) (t : TG) : Prop :=
  ∀ (pins : List (Addr × Obj)) (s : Shared) (σ : St) (H : Hp) (v : V) (u : Value) (Q : St → Hp → Prop), Inv X pins σ H s → RelV v u → t v σ H Q →
    wpAny (model X.prog X.w) X.A (assign target X.env u) (fun _ s' => ∃ σ' H', Inv X pins σ' H' s' ∧ Q σ' H') X.xe s
/-- o[i] = v, by values -/
abbrev TSet := V → V → V → Hp → (Hp → Prop) → Prop
def PSet (X : Cx) (t : TSet) : Prop :=
  ∀ (pins : List (Addr × Obj)) (s : Shared) (σ : St) (H : Hp) (o i v : V) (ov iv u : Value) (Q : Hp → Prop), Inv X pins σ H s → RelV o ov → RelV i iv → RelV v u → t o i v H Q →
    wpAny (model X.prog X.w) X.A (setItem ov iv u) (fun _ s' => ∃ H', Inv X pins σ H' s' ∧ Q H') X.xe s
section
variable {X : Cx} {pos : Pos}
def gName (i : Nat) : TG := fun v σ H Q => Q (σ.set i (some v)) H
theorem pg_name {i : Nat} {x : Str} (hN : X.N.Nodup) (hi : X.N[i]? = some x) (hx : Loc X.env.scope x) (hf : X.fn x = true ∨ X.env.scope.names.lookup x = some .local := by first | exact .inl rfl | exact .inr rfl | assumption) : PG X (.Name x pos) (gName i) := by
  intro pins s σ H v u Q I r h
  exact wpAny_assign_Name (store_ok I hN hi hx r (fun s' I' => ⟨_, H, I', h⟩) hf)
/-- o[i] = .. -/
def gSub (to ti : TE) (t : TSet) : TG := fun v σ H Q => to σ H fun o H1 => ti σ H1 fun i H2 => t o i v H2 fun H3 => Q σ H3
theorem pg_sub {o i : Expr} {to ti : TE} {t : TSet} (ho : PE X o to) (hi : PE X i ti) (hs : PSet X t)
    (ha : ∀ v, assign (.Subscript o i pos) X.env v = (do
      let ov ← holding [v] (eval o X.env)
      let iv ← holding [v, ov] (eval i X.env)
      standAt pos
      holding [v, ov, iv] (setItem ov iv v)
      release [v, ov, iv] []) := by intro _; rfl) : PG X (.Subscript o i pos) (gSub to ti t) := by
  intro pins s σ H v u Q I r h
  rw [ha]
  refine wpAny_bind (wpAny_holding (thn (ho pins s σ H _ I h) fun ov s1 ⟨x, H1, I1, r1, q1⟩ => ?_))
  refine wpAny_bind (wpAny_holding (thn (hi pins s1 σ H1 _ I1 q1) fun iv s2 ⟨y, H2, I2, r2, q2⟩ => ?_))
  refine wpAny_bind (wpAny_standAt (wpAny_bind (wpAny_holding (thn (hs pins s2 σ H2 x y v ov iv u _ I2 r1 r2 r q2) fun _ s3 ⟨H3, I3, q3⟩ => ?_))))
  exact wpAny_release ⟨σ, H3, I3, q3⟩
/-- target = value -/
def tAsg (te : TE) (g : TG) : TS := fun D σ H => te σ H fun x H1 => g x σ H1 D.nx
theorem ps_asg {tg e : Expr} {te : TE} {g : TG} (he : PE X e te) (hg : PG X tg g) (hs : swapsWithSole [tg] e pos.line X.env = pure false := by rfl) (hw : swappedStores [tg] e X.env = pure none := by rfl)
    (h1 : (assignEach [tg] X.env).map (·.2) = [assign tg X.env] := by rfl) : PS X (.Assign [tg] e pos) (tAsg te g) := by
  intro pins s σ H D I h
  refine wpAny_Assign_stores (thn (he pins s σ H _ I h) fun v s1 ⟨x, H1, I1, r1, q1⟩ => ?_) hs hw
  rw [h1]
  exact thn (hg pins s1 σ H1 x v _ I1 r1 q1) fun _ s2 q => q
/-- name = value -/
theorem ps_set {i : Nat} {x : Str} {e : Expr} {te : TE} {pos' : Pos} (hN : X.N.Nodup) (hi : X.N[i]? = some x) (hx : Loc X.env.scope x) (he : PE X e te) (hs : swapsWith e (some (.Name x pos')) pos.line X.env = pure false := by rfl) (hf : X.fn x = true ∨ X.env.scope.names.lookup x = some .local := by first | exact .inl rfl | exact .inr rfl | assumption) :
    PS X (.Assign [.Name x pos'] e pos) (tAsg te (gName i)) := by
  intro pins s σ H D I h
  refine wpAny_Assign_Name (thn (he pins s σ H _ I h) fun v s1 ⟨y, H1, I1, r1, q1⟩ => ?_) hs
  exact store_ok I1 hN hi hx r1 (fun s2 I2 => ⟨_, H1, I2, q1⟩) hf
end

/-! ### while -/
section
variable {X : Cx} {pos : Pos}
end

/-! ### what a loop or a comprehension walks -/
/-- at turn i: it yields x (the heap may grow), or it stops -/
structure It where
  go : Nat → Hp → Prop
  yld : Nat → Hp → V → Hp → Prop
  stop : Nat → Hp → Prop
/-- the iterator's own objects may turn: they are not the frame's, not pinned, younger than the entry (or a comprehension's own) -/
def FpOk (X : Cx) (pins : List (Addr × Obj)) (H : Hp) (b : Addr) : Prop :=
  H b = none ∧ b ≠ X.env.locals ∧ b ∉ X.fs ∧ (b ∈ X.ex ∨ X.s₀.heap.objs.size ≤ b) ∧ (∀ x c, X.env.cells.lookup x = some c → c ≠ b) ∧ ∀ p ∈ X.pn ++ pins, p.1 ≠ b
theorem Inv.fpOk {X : Cx} {pins : List (Addr × Obj)} {σ : St} {H H' : Hp} {s : Shared} {b : Addr} (I : Inv X pins σ H s) (hb : s.heap.objs.size ≤ b) (hn : H' b = none) : FpOk X pins H' b := by
  refine ⟨hn, Nat.ne_of_gt (Nat.lt_of_lt_of_le I.lt hb), I.nofs hb, .inr (Nat.le_trans I.sz hb), fun x c e z => ?_, fun p hp z => ?_⟩
  · obtain ⟨v, q⟩ := I.cell x c e
    exact absurd (Nat.lt_of_lt_of_le q.lt (by rw [z]; exact hb)) (Nat.lt_irrefl _)
  · exact absurd (Nat.lt_of_lt_of_le (Heap.lt_size (I.pin p hp).1) (by rw [z]; exact hb)) (Nat.lt_irrefl _)
structure Turn (P : Program) (w : World) (K : PySem.W.Frag) (tg : Expr) (J : It) (fp : List Addr) (it : Addr) (tn : Nat → Heap → Prop) : Prop where
  mem : it ∈ fp
  obj : ∀ i h, tn i h → ∀ b ∈ fp, ∃ o, h.get? b = some o ∧ ∀ v, o.data ≠ .cell v
  keep : ∀ i h h', tn i h → (∀ b ∈ fp, ∀ o, h.get? b = some o → h'.get? b = some o) → tn i h'
  item : ∀ (X : Cx), X.prog = P → X.w = w → X.K = K → X.calm = true → ∀ (i : Nat) (pins : List (Addr × Obj)) (s : Shared) (σ : St) (H : Hp) (E : Value → Shared → Prop), Inv X pins σ H s → (∀ b ∈ fp, FpOk X pins H b) → tn i s.heap → J.go i H →
    wpAny (model P w) X.A (pyNext (.ref it)) (fun r s1 => ∃ u, r = some u ∧
      wpAny (model P w) X.A (letOwnedTupleGo tg (.ref it) u) (fun _ s2 => ∃ x H', Inv X pins σ H' s2 ∧ RelV x u ∧ J.yld i H x H' ∧ tn (i + 1) s2.heap ∧ ∀ b ∈ fp, H' b = none) E s1) E s
  done : ∀ (X : Cx), X.prog = P → X.w = w → X.K = K → X.calm = true → ∀ (i : Nat) (pins : List (Addr × Obj)) (s : Shared) (σ : St) (H : Hp) (E : Value → Shared → Prop), Inv X pins σ H s → (∀ b ∈ fp, FpOk X pins H b) → tn i s.heap → J.stop i H →
    wpAny (model P w) X.A (pyNext (.ref it)) (fun r s1 => r = none ∧ Inv X pins σ H s1) E s
  self : ∀ (A : Around) (i : Nat) (s : Shared) (Q : Value → Shared → Prop) (E : Value → Shared → Prop), tn i s.heap → Q (.ref it) s → wpAny (model P w) A (pyIter (.ref it)) Q E s
abbrev TI := St → Hp → (It → Hp → Prop) → Prop
/-- an iterator has come -/
def PIE (X : Cx) (pins : List (Addr × Obj)) (σ : St) (tg : Expr) (R : It → Hp → Prop) (itv : Value) (s2 : Shared) : Prop :=
  ∃ (it : Addr) (fp : List Addr) (tn : Nat → Heap → Prop) (J : It) (H' : Hp), itv = .ref it ∧ Inv X pins σ H' s2 ∧ Turn X.prog X.w X.K tg J fp it tn ∧ tn 0 s2.heap ∧ (∀ b ∈ fp, FpOk X pins H' b) ∧ R J H'
def PI (X : Cx) (tg iter : Expr) (wi : TI) : Prop :=
  ∀ (pins : List (Addr × Obj)) (s : Shared) (σ : St) (H : Hp) (R : It → Hp → Prop), Inv X pins σ H s → wi σ H R →
    wpAny (model X.prog X.w) X.A (eval iter X.env) (fun v s1 => wpAny (model X.prog X.w) X.A (pyIter v) (PIE X pins σ tg R) X.xe s1) X.xe s

/-- the step ahead of the store is nothing for an iterator that keeps no tuple -/
theorem go_of {M : Model} {A : Around} {E : Value → Shared → Prop} {s : Shared} {tg : Expr} {it : Addr} {u : Value} {o : Obj} {n : String} {vs : Array Value} {Q : Unit → Shared → Prop} (ho : s.heap.get? it = some o) (hc : o.cls = .type n) (hd : o.data = .fields vs)
    (hn : ["enumerate", "zip", "dict_itemiterator", "dict_reverseitemiterator", "odict_iterator", "itertools.zip_longest", "itertools.pairwise"].contains n = false) (hQ : Q () s) : wpAny M A (letOwnedTupleGo tg (.ref it) u) Q E s := by
  unfold letOwnedTupleGo
  cases tg <;> first
    | exact wpAny_pure hQ
    | (cases u <;> first
        | exact wpAny_pure hQ
        | (refine wpAny_bind (wpAny_load ho ?_)
           rw [hc, hd]
           show wpAny M A (if (["enumerate", "zip", "dict_itemiterator", "dict_reverseitemiterator", "odict_iterator", "itertools.zip_longest", "itertools.pairwise"].contains n && vs[0]? == some (rawInt _)) = true then _ else _) Q E s
           rw [if_neg (by intro h; rw [hn, Bool.false_and] at h; cases h)]
           exact wpAny_pure hQ))

/-- the list at a, as it stands at each turn (a loop may append to it) -/
def Itl (K : PySem.W.Frag) (a : Addr) : It :=
  ⟨fun i H => ∃ xs x, SqL K H a xs ∧ xs[i]? = some x, fun i H x H' => H' = H ∧ ∀ xs, SqL K H a xs → xs[i]? = some x, fun i H => ∃ xs, SqL K H a xs ∧ xs.length ≤ i⟩
/-- lo, lo + 1, .. (n of them) -/
def Itr (lo : Int) (n : Nat) : It := ⟨fun i _ => i < n, fun i H x H' => H' = H ∧ x = .int (lo + i), fun i _ => n ≤ i⟩
theorem turn_list {P : Program} {w : World} {K : PySem.W.Frag} {tg : Expr} (a it : Addr) : Turn P w K tg (Itl K a) [it] it (fun i h => h.IsListIter it a i) where
  mem := by simp
  obj := fun i h st b hb => by
    have e : b = it := by simpa using hb
    subst e
    obtain ⟨o, e, c, d⟩ := st
    exact ⟨o, e, fun v z => by rw [d] at z; cases z⟩
  keep := fun i h h' st k => st.at fun o e => k it (by simp) o e
  item := by
    intro X hP hw hK hc i pins s σ H E I hf st hg
    subst hP hw hK
    obtain ⟨xs, x, hq, hx⟩ := hg
    obtain ⟨its, rv, p, hz⟩ := I.list hq
    obtain ⟨u, hu, ru⟩ := rv.get hx
    obtain ⟨f0, f1, f2, f3, f4, f5⟩ := hf it (by simp)
    refine wpAny_pyNext_list_item st p.isList (x := u) (by simpa using hu) fun h' st' sb => ?_
    have I1 : Inv X pins σ H { s with heap := h' } := I.turned (t' := s.toks) (fun b o hb e => (sb.2 b hb).trans e) f0 f1 f3 f4 f5
    obtain ⟨o, e, c, d⟩ := id st'
    exact ⟨u, rfl, go_of (s := { s with heap := h' }) e c d (by decide) ⟨x, H, I1, ru, ⟨rfl, fun ys hy => by rw [I.list_inj hy hq]; exact hx⟩, st', fun b hb => (hf b hb).1⟩⟩
  done := by
    intro X hP hw hK hc i pins s σ H E I hf st hg
    subst hP hw hK
    obtain ⟨xs, hq, hx⟩ := hg
    obtain ⟨its, rv, p, hz⟩ := I.list hq
    obtain ⟨f0, f1, f2, f3, f4, f5⟩ := hf it (by simp)
    have hl := rv.length
    exact wpAny_pyNext_list_end (I.ok.hd hc) st p.isList (by simp; omega) fun h' eb => ⟨rfl, I.turned (t' := s.toks) (fun b o hb e => eb b o hb e) f0 f1 f3 f4 f5⟩
  self := fun _ _ _ _ _ st h => wpAny_pyIter_listiter st h
theorem turn_range {P : Program} {w : World} {K : PySem.W.Frag} {tg : Expr} (it : Addr) (lo : Int) (n : Nat) : Turn P w K tg (Itr lo n) [it] it (fun i h => IsRangeIter h it (lo + (i : Nat) * 1) ((n : Int) - (i : Nat)) 1) where
  mem := by simp
  obj := fun i h st b hb => by
    have e : b = it := by simpa using hb
    subst e
    exact ⟨_, st, fun v z => by
      have z' : Data.fields _ = Data.cell v := z
      cases z'⟩
  keep := fun i h h' st k => k it (by simp) _ st
  item := by
    intro X hP hw hK hc i pins s σ H E I hf st hg
    subst hP hw hK
    obtain ⟨f0, f1, f2, f3, f4, f5⟩ := hf it (by simp)
    have W := Walks.range (prog := X.prog) (w := X.w) (I.ok.hd hc) it lo 1 n
    refine W.item i s _ _ hg st fun v h' tk hv st' kk => ?_
    obtain ⟨t, rfl⟩ := hv
    have I1 : Inv X pins σ H { s with heap := h', toks := tk } := I.turned (fun b o hb e => kk b o (by simpa using hb) e) f0 f1 f3 f4 f5
    refine ⟨_, rfl, go_of (s := { s with heap := h', toks := tk }) (n := "range_iterator") st' rfl rfl (by decide) ⟨.int (lo + i), H, I1, ⟨t, ?_⟩, ⟨rfl, rfl⟩, st', fun b hb => (hf b hb).1⟩⟩
    rw [Int.mul_one]
  done := by
    intro X hP hw hK hc i pins s σ H E I hf st hg
    subst hP hw hK
    obtain ⟨f0, f1, f2, f3, f4, f5⟩ := hf it (by simp)
    exact wpAny_pyNext_range_end (I.ok.hd hc) st (by have : n ≤ i := hg; omega) fun h' eb => ⟨rfl, I.turned (t' := s.toks) (fun b o hb e => eb b o hb e) f0 f1 f3 f4 f5⟩
  self := fun _ _ _ _ _ st h => wpAny_pyIter_rangeiter st h
end L2

namespace L2
open PySem PySem.Spec PyProof.Rows
section
variable {X : Cx} {tg : Expr}
def iList (K : PySem.W.Frag) (tl : TE) : TI := fun σ H R => tl σ H fun x H1 => ∃ a, x = .ref a ∧ (∃ xs, SqL K H1 a xs) ∧ R (Itl K a) H1
theorem pi_list {l : Expr} {tl : TE} (hl : PE X l tl) : PI X tg l (iList X.K tl) := by
  intro pins s σ H R I h
  refine thn (hl pins s σ H _ I h) fun v s1 ⟨x, H1, I1, r1, q1⟩ => ?_
  obtain ⟨a, e, ⟨xs, hq⟩, q⟩ := q1
  subst e
  cases r1
  obtain ⟨its, rv, p, hz⟩ := I1.list hq
  refine wpAny_pyIter_list p.isList ?_
  refine ⟨s1.heap.objs.size, [s1.heap.objs.size], _, _, H1, rfl, I1.kept (t' := s1.toks) fun b o e => Heap.get?_push_of_some _ e, turn_list a _, ⟨_, Heap.get?_push_size _ rfl, rfl, rfl⟩, fun b hb => ?_, q⟩
  have e : b = s1.heap.objs.size := by simpa using hb
  subst e
  exact I1.fpOk (Nat.le_refl _) (I1.hok.fresh (Nat.le_refl _))
/-- a range object just made, walked -/
theorem range_it {pins : List (Addr × Obj)} {σ : St} {H : Hp} {s : Shared} {R : It → Hp → Prop} {E : Value → Shared → Prop} {lo hi : Int} {t u v : Tok} {tk : Nat} (I : Inv X pins σ H s) (h1 : -(2 ^ 62) ≤ lo) (h2 : lo < 2 ^ 62) (h3 : -(2 ^ 62) ≤ hi) (h4 : hi < 2 ^ 62)
    (q : R (Itr lo (hi - lo).toNat) H) : wpAny (model X.prog X.w) X.A (pyIter (.ref s.heap.objs.size)) (PIE X pins σ tg R) E { s with heap := s.heap.push { cls := .type "range", data := .fields #[.int lo t, .int hi u, .int 1 v] }, toks := tk } := by
  refine wpAny_pyIter_range (IsRange.new ..) (small_one h1 h2 h3 h4) ?_
  have I1 : Inv X pins σ H { s with heap := s.heap.push { cls := .type "range", data := .fields #[.int lo t, .int hi u, .int 1 v] }, toks := tk } := I.kept fun b o e => Heap.get?_push_of_some _ e
  refine ⟨(s.heap.push { cls := .type "range", data := .fields #[.int lo t, .int hi u, .int 1 v] }).objs.size, [(s.heap.push { cls := .type "range", data := .fields #[.int lo t, .int hi u, .int 1 v] }).objs.size], _, _, H, rfl,
    I1.kept (t' := tk) fun b o e => Heap.get?_push_of_some _ e, turn_range _ lo (hi - lo).toNat, ?_, fun b hb => ?_, q⟩
  · have e1 : lo + ((0 : Nat) : Int) * 1 = lo := by simp
    have e2 : (((hi - lo).toNat : Nat) : Int) - ((0 : Nat) : Int) = Builtin.Range.rangeSize lo hi 1 := by rw [rangeSize_one]; split <;> omega
    show IsRangeIter _ _ (lo + ((0 : Nat) : Int) * 1) ((((hi - lo).toNat : Nat) : Int) - ((0 : Nat) : Int)) 1
    rw [e1, e2]
    exact Heap.get?_push_size _ rfl
  · have e : b = (s.heap.push { cls := .type "range", data := .fields #[.int lo t, .int hi u, .int 1 v] }).objs.size := by simpa using hb
    subst e
    exact I1.fpOk (Nat.le_refl _) (I1.hok.fresh (Nat.le_refl _))
def iRng1 (ta : TA) : TI := fun σ H R => ta σ H fun vs H1 => ∃ j : Int, vs = [.int j] ∧ -(2 ^ 62) ≤ j ∧ j < 2 ^ 62 ∧ R (Itr 0 j.toNat) H1
theorem pi_range1 {a : Expr} {ta : TA} {p pos : Pos} (hg : Gl X "range") (hm : X.mg "range" = none) (ha : PA X [a] ta) (hs : starEach [a] X.env = [(false, eval a X.env)] := by rfl) : PI X tg (.Call (.Name "range" p) [a] [] pos) (iRng1 ta) := by
  intro pins s σ H R I h
  refine Call_ (ld_blt I hg hm boot_range (PyProof.Rows.callWith_type1 (thn (ha pos pins s σ H _ I h) fun us s1 ⟨vs, H1, I1, r1, q1⟩ => ?_) hs rfl))
  obtain ⟨j, e, q1, q2, q⟩ := q1
  subst e
  cases r1 with
  | cons r rr =>
    cases rr
    obtain ⟨t, rfl⟩ := r
    exact call_range_1 (range_it I1 (by omega) (by omega) q1 q2 (by simpa using q))
/-! ### for -/
/-- W: the invariant by the turn and a measure; N: what the body is to reach -/
def tFor (wi : TI) (g : TG) (tb : TS) : TS := fun D σ H => wi σ H fun J H1 => ∃ W : Nat → Nat → St → Hp → Prop, (∃ m, W 0 m σ H1) ∧ ∀ i m σ H, W i m σ H →
  (J.stop i H ∧ D.nx σ H) ∨ (J.go i H ∧ ∃ N : St → Hp → Prop, (∀ σ' H', N σ' H' → ∃ m', m' < m ∧ W (i + 1) m' σ' H') ∧ ∀ x H', J.yld i H x H' → g x σ H' fun σ2 H2 => tb { D with nx := N, ct := N, bk := D.nx } σ2 H2)
/-- the records at fp as they stand -/
def pinsAt (fp : List Addr) (h : Heap) : List (Addr × Obj) := fp.filterMap fun b => (h.get? b).map fun o => (b, o)
theorem mem_pinsAt {fp : List Addr} {h : Heap} {b : Addr} {o : Obj} (hb : b ∈ fp) (e : h.get? b = some o) : (b, o) ∈ pinsAt fp h := List.mem_filterMap.mpr ⟨b, hb, by rw [e]; rfl⟩
theorem of_pinsAt {fp : List Addr} {h : Heap} {p : Addr × Obj} (hp : p ∈ pinsAt fp h) : p.1 ∈ fp ∧ h.get? p.1 = some p.2 := by
  obtain ⟨b, hb, e⟩ := List.mem_filterMap.mp hp
  cases q : h.get? b with
  | none => rw [q] at e; cases e
  | some o =>
    rw [q] at e
    have e' : (b, o) = p := Option.some.inj e
    subst e'
    exact ⟨hb, q⟩
theorem Inv.pinned {pins : List (Addr × Obj)} {σ : St} {H : Hp} {s : Shared} {fp : List Addr} (I : Inv X pins σ H s) (hf : ∀ b ∈ fp, FpOk X pins H b) (ho : ∀ b ∈ fp, ∃ o, s.heap.get? b = some o ∧ ∀ v, o.data ≠ .cell v) : Inv X (pins ++ pinsAt fp s.heap) σ H s :=
  I.pins_of fun p hp => (List.mem_append.mp hp).elim (fun z => I.pin p (List.mem_append_right _ z)) fun z => by
    obtain ⟨hb, e⟩ := of_pinsAt z
    obtain ⟨f0, f1, f2, _⟩ := hf p.1 hb
    obtain ⟨o, e', d⟩ := ho p.1 hb
    rw [e] at e'; cases e'
    exact ⟨e, f0, f1, f2, d⟩
theorem Inv.unpinned {pins pl : List (Addr × Obj)} {σ : St} {H : Hp} {s : Shared} (I : Inv X (pins ++ pl) σ H s) : Inv X pins σ H s := I.pins_of fun p hp => I.pin p (List.mem_append_right _ (List.mem_append_left _ hp))
theorem ps_for {iter : Expr} {body : List Stmt} {wi : TI} {g : TG} {tb : TS} {pos : Pos} (hp : PassesOwn (model X.prog X.w) X.A X.env X.xe) (hc : X.calm = true) (hi : PI X tg iter wi) (hg : PG X tg g) (hb : PSs X body tb)
    (hs : ∀ x, foldedSetIterable iter X.env x = pure x := by intro _; rfl) : PS X (.For tg iter body [] pos) (tFor wi g tb) := by
  intro pins s σ H D I h
  refine wpAny_For (thn (hi pins s σ H _ I h) fun v s1 h1 => thn h1 fun itv s2 h2 => ?_) hs
  obtain ⟨it, fp, tn, J, H2, e, I2, T, st2, f2, W, ⟨m0, w0⟩, turn⟩ := h2
  subst e
  -- what stays true of the iterator's objects through the loop
  have stat : ∀ {H' : Hp}, (∀ b ∈ fp, H' b = none) → ∀ b ∈ fp, FpOk X pins H' b := fun hn b hb => ⟨hn b hb, (f2 b hb).2⟩
  refine codeAny_forLoop_any (fun n s' => ∃ i σ' H', Inv X pins σ' H' s' ∧ tn i s'.heap ∧ (∀ b ∈ fp, H' b = none) ∧ W i n σ' H') ?_ m0 ⟨0, σ, H2, I2, st2, fun b hb => (f2 b hb).1, w0⟩
  rintro n s3 ⟨i, σ3, H3, I3, st3, fr3, w3⟩
  rcases turn i n σ3 H3 w3 with ⟨stop, qn⟩ | ⟨go, N, hN, step⟩
  · refine wpAny_passesOwn hp (thn (T.done X rfl rfl rfl hc i pins s3 σ3 H3 X.xe I3 (stat fr3) st3 stop) fun r s4 ⟨hr, I4⟩ => ?_)
    subst hr
    exact wpAny_execs_nil ⟨σ3, H3, I4, qn⟩
  · refine wpAny_passesOwn hp (thn (T.item X rfl rfl rfl hc i pins s3 σ3 H3 X.xe I3 (stat fr3) st3 go) fun r s4 ⟨u, hr, h4⟩ => ?_)
    subst hr
    refine wpAny_passesOwn hp (thn h4 fun _ s5 ⟨x, H5, I5, r5, y5, st5, fr5⟩ => ?_)
    have I5' := I5.pinned (stat fr5) (T.obj _ _ st5)
    refine wpAny_passesOwn hp (thn (hg _ s5 σ3 H5 x u _ I5' r5 (step x H5 y5)) fun _ s6 ⟨σ6, H6, I6, q6⟩ => ?_)
    refine wpAny_passesOwn hp (thn (hb _ s6 σ6 H6 _ I6 q6) fun f s7 q7 => ?_)
    have again : ∀ {σ7 : St} {H7 : Hp}, Inv X (pins ++ pinsAt fp s5.heap) σ7 H7 s7 → N σ7 H7 → ∃ m, m < n ∧ ∃ i σ' H', Inv X pins σ' H' s7 ∧ tn i s7.heap ∧ (∀ b ∈ fp, H' b = none) ∧ W i m σ' H' := fun {σ7 H7} I7 n7 => by
      obtain ⟨m', hm, w7⟩ := hN σ7 H7 n7
      refine ⟨m', hm, i + 1, σ7, H7, I7.unpinned, T.keep _ _ _ st5 fun b hb o e => (I7.pin (b, o) (List.mem_append_right _ (List.mem_append_right _ (mem_pinsAt hb e)))).1, fun b hb => ?_, w7⟩
      obtain ⟨o, e, d⟩ := T.obj _ _ st5 b hb
      exact (I7.pin (b, o) (List.mem_append_right _ (List.mem_append_right _ (mem_pinsAt hb e)))).2.1
    cases f with
    | next => obtain ⟨σ7, H7, I7, n7⟩ := q7; exact again I7 n7
    | cont => obtain ⟨σ7, H7, I7, n7⟩ := q7; exact again I7 n7
    | brk => obtain ⟨σ7, H7, I7, q7⟩ := q7; exact ⟨σ7, H7, I7.unpinned, q7⟩
    | ret v => obtain ⟨x7, σ7, H7, I7, r7, q7⟩ := q7; exact ⟨x7, σ7, H7, I7.unpinned, r7, q7⟩
end

/-! ### the forms one uses -/
/-- over a list that the body leaves as it is -/
theorem for_list {K : PySem.W.Frag} {a : Addr} {xs : List V} {g : TG} {tb : TS} {D : Ends} {σ : St} {H : Hp} (Pv : Nat → St → Hp → Prop) (h0 : Pv 0 σ H) (hl : ∀ i σ H, i ≤ xs.length → Pv i σ H → SqL K H a xs)
    (hs : ∀ i x σ H, xs[i]? = some x → Pv i σ H → g x σ H fun σ2 H2 => tb { D with nx := Pv (i + 1), ct := Pv (i + 1), bk := D.nx } σ2 H2) (hd : ∀ σ H, Pv xs.length σ H → D.nx σ H) :
    ∃ W : Nat → Nat → St → Hp → Prop, (∃ m, W 0 m σ H) ∧ ∀ i m σ H, W i m σ H →
      ((Itl K a).stop i H ∧ D.nx σ H) ∨ ((Itl K a).go i H ∧ ∃ N : St → Hp → Prop, (∀ σ' H', N σ' H' → ∃ m', m' < m ∧ W (i + 1) m' σ' H') ∧ ∀ x H', (Itl K a).yld i H x H' → g x σ H' fun σ2 H2 => tb { D with nx := N, ct := N, bk := D.nx } σ2 H2) := by
  refine ⟨fun i m σ H => m = xs.length - i ∧ i ≤ xs.length ∧ Pv i σ H, ⟨xs.length, by simp, Nat.zero_le _, h0⟩, ?_⟩
  rintro i m σ H ⟨rfl, hi, p⟩
  have q := hl i σ H hi p
  by_cases hlt : i < xs.length
  · refine .inr ⟨⟨xs, xs[i], q, by simp [hlt]⟩, Pv (i + 1), fun σ' H' p' => ⟨xs.length - (i + 1), by omega, rfl, hlt, p'⟩, fun x H' y => ?_⟩
    obtain ⟨e, y⟩ := y
    subst e
    exact hs i x σ _ (y xs q) p
  · have e : i = xs.length := by omega
    subst e
    exact .inl ⟨⟨xs, q, Nat.le_refl _⟩, hd σ H p⟩
theorem for_range {lo : Int} {n : Nat} {g : TG} {tb : TS} {D : Ends} {σ : St} {H : Hp} (Pv : Nat → St → Hp → Prop) (h0 : Pv 0 σ H)
    (hs : ∀ i σ H, i < n → Pv i σ H → g (.int (lo + i)) σ H fun σ2 H2 => tb { D with nx := Pv (i + 1), ct := Pv (i + 1), bk := D.nx } σ2 H2) (hd : ∀ σ H, Pv n σ H → D.nx σ H) :
    ∃ W : Nat → Nat → St → Hp → Prop, (∃ m, W 0 m σ H) ∧ ∀ i m σ H, W i m σ H →
      ((Itr lo n).stop i H ∧ D.nx σ H) ∨ ((Itr lo n).go i H ∧ ∃ N : St → Hp → Prop, (∀ σ' H', N σ' H' → ∃ m', m' < m ∧ W (i + 1) m' σ' H') ∧ ∀ x H', (Itr lo n).yld i H x H' → g x σ H' fun σ2 H2 => tb { D with nx := N, ct := N, bk := D.nx } σ2 H2) := by
  refine ⟨fun i m σ H => m = n - i ∧ i ≤ n ∧ Pv i σ H, ⟨n, by simp, Nat.zero_le _, h0⟩, ?_⟩
  rintro i m σ H ⟨rfl, hi, p⟩
  by_cases hlt : i < n
  · refine .inr ⟨hlt, Pv (i + 1), fun σ' H' p' => ⟨n - (i + 1), by omega, rfl, hlt, p'⟩, fun x H' y => ?_⟩
    obtain ⟨e, y⟩ := y
    subst e y
    exact hs i σ _ hlt p
  · have e : i = n := by omega
    subst e
    exact .inl ⟨Nat.le_refl _, hd σ H p⟩
end L2

namespace L2
open PySem PySem.Spec PyProof.Rows

abbrev R2 := V → V → Hp → VK → Prop
/-- a two-place operation on values: f is binaryOp op, inplaceOp op or compareOp op -/
def OpR (X : Cx) (f : Value → Value → Sem Value) (r : R2) : Prop :=
  ∀ (pins : List (Addr × Obj)) (s : Shared) (σ : St) (H : Hp) (x y : V) (v u : Value) (Q : VK), Inv X pins σ H s → RelV x v → RelV y u → r x y H Q →
    wpAny (model X.prog X.w) X.A (f v u) (EP X pins σ Q) X.xe s
/-- a call of a value that is known (a builtin, a type) with values -/
def CallR (X : Cx) (f : Value) (r : List V → Hp → VK → Prop) : Prop :=
  ∀ (pins : List (Addr × Obj)) (s : Shared) (σ : St) (H : Hp) (xs : List V) (us : List Value) (Q : VK), Inv X pins σ H s → Vals xs us → r xs H Q →
    wpAny (model X.prog X.w) X.A (call f us) (EP X pins σ Q) X.xe s
/-- a value's truth -/
def TruR (X : Cx) (r : V → Hp → (Bool → Hp → Prop) → Prop) : Prop :=
  ∀ (pins : List (Addr × Obj)) (s : Shared) (σ : St) (H : Hp) (x : V) (v : Value) (Q : Bool → Hp → Prop), Inv X pins σ H s → RelV x v → r x H Q →
    wpAny (model X.prog X.w) X.A (truthy v) (TP X pins σ Q) X.xe s

def tOp (r : R2) (ta tb : TE) : TE := fun σ H Q => ta σ H fun x H1 => tb σ H1 fun y H2 => r x y H2 Q
/-- ints in, under C, and a value out -/
def rI (C : Int → Int → Prop) (g : Int → Int → V) : R2 := fun x y H Q => ∃ i j, x = .int i ∧ y = .int j ∧ C i j ∧ Q (g i j) H
def rI0 (g : Int → Int → V) : R2 := fun x y H Q => ∃ i j, x = .int i ∧ y = .int j ∧ Q (g i j) H
section
variable {X : Cx} {a b c : Expr} {ta tb tc : TE} {pos : Pos}

theorem binT (ha : PE X a ta) (hb : PE X b tb) {pins : List (Addr × Obj)} {s : Shared} {σ : St} {H : Hp} {R : V → V → Hp → Prop} (I : Inv X pins σ H s)
    (h : ta σ H fun x H1 => tb σ H1 fun y H2 => R x y H2) {Q : Value → Shared → Prop} {f : Value → Value → Sem Value}
    (hf : ∀ v u s2 x y H2, Inv X pins σ H2 s2 → RelV x v → RelV y u → R x y H2 → wpAny (model X.prog X.w) X.A (f v u) Q X.xe s2) :
    wpAny (model X.prog X.w) X.A (eval a X.env) (fun v s₁ => wpAny (model X.prog X.w) X.A (eval b X.env) (fun u s₂ => wpAny (model X.prog X.w) X.A (f v u) Q X.xe s₂) X.xe s₁) X.xe s := by
  refine thn (ha pins s σ H _ I h) fun v s1 ⟨x, H1, I1, r1, q1⟩ => ?_
  refine thn (hb pins s1 σ H1 _ I1 q1) fun u s2 ⟨y, H2, I2, r2, q2⟩ => ?_
  exact hf v u s2 x y H2 I2 r1 r2 q2

theorem pe_op {op : Operator} {r : R2} (ho : OpR X (binaryOp op) r) (ha : PE X a ta) (hb : PE X b tb) : PE X (.BinOp a op b pos) (tOp r ta tb) := by
  intro pins s σ H Q I h
  exact wpAny_BinOp (binT ha hb I h fun v u s2 x y H2 I2 rx ry q => ho pins s2 σ H2 x y v u Q I2 rx ry q)
/-! ### ints -/
theorem opI {f : Value → Value → Sem Value} {C : Int → Int → Prop} {g : Int → Int → Int}
    (rule : ∀ (i j : Int) (t u : Tok) (s : Shared) (Q : Value → Shared → Prop) (E : Value → Shared → Prop), C i j → Q (.int (g i j) s.toks) { s with toks := s.toks + 1 } → wpAny (model X.prog X.w) X.A (f (.int i t) (.int j u)) Q E s) :
    OpR X f (rI C fun i j => .int (g i j)) := by
  intro pins s σ H x y v u Q I rx ry h
  obtain ⟨i, j, rfl, rfl, hc, q⟩ := h
  obtain ⟨t, rfl⟩ := rx
  obtain ⟨t', rfl⟩ := ry
  exact rule i j t t' s _ _ hc ⟨.int (g i j), H, I.tok _, ⟨_, rfl⟩, q⟩
theorem opI0 {f : Value → Value → Sem Value} {g : Int → Int → Int}
    (rule : ∀ (i j : Int) (t u : Tok) (s : Shared) (Q : Value → Shared → Prop) (E : Value → Shared → Prop), Q (.int (g i j) s.toks) { s with toks := s.toks + 1 } → wpAny (model X.prog X.w) X.A (f (.int i t) (.int j u)) Q E s) :
    OpR X f (rI0 fun i j => .int (g i j)) := by
  intro pins s σ H x y v u Q I rx ry h
  obtain ⟨i, j, rfl, rfl, q⟩ := h
  obtain ⟨t, rfl⟩ := rx
  obtain ⟨t', rfl⟩ := ry
  exact rule i j t t' s _ _ ⟨.int (g i j), H, I.tok _, ⟨_, rfl⟩, q⟩
theorem opB0 {f : Value → Value → Sem Value} {g : Int → Int → Bool}
    (rule : ∀ (i j : Int) (t u : Tok) (s : Shared) (Q : Value → Shared → Prop) (E : Value → Shared → Prop), Q (.bool (g i j)) s → wpAny (model X.prog X.w) X.A (f (.int i t) (.int j u)) Q E s) :
    OpR X f (rI0 fun i j => .bl (g i j)) := by
  intro pins s σ H x y v u Q I rx ry h
  obtain ⟨i, j, rfl, rfl, q⟩ := h
  obtain ⟨t, rfl⟩ := rx
  obtain ⟨t', rfl⟩ := ry
  exact rule i j t t' s _ _ ⟨.bl (g i j), H, I, rfl, q⟩

def CDiv (i j : Int) : Prop := 0 < j ∧ j < 1073741824
def CPow (i j : Int) : Prop := 0 ≤ j ∧ j ≤ 1000000 ∧ i.natAbs < 2 ^ 64
def CMul (i j : Int) : Prop := (-(2 ^ 64) < i ∧ i < 2 ^ 64) ∨ (-(2 ^ 64) < j ∧ j < 2 ^ 64)
theorem CMul.ok {i j : Int} (h : CMul i j) : IntMulOk i j := by
  rcases h with ⟨h1, h2⟩ | ⟨h1, h2⟩
  · exact .of_left (intBits_le_64 h1 h2)
  · exact .of_right (intBits_le_64 h1 h2)
theorem op_add : OpR X (binaryOp .Add) (rI0 fun i j => .int (i + j)) := opI0 fun _ _ _ _ _ _ _ q => add_int q
theorem op_mul : OpR X (binaryOp .Mult) (rI CMul fun i j => .int (i * j)) := opI fun _ _ _ _ _ _ _ hc q => mul_int q hc.ok
/-- // by a positive divisor -/
theorem op_fdiv : OpR X (binaryOp .FloorDiv) (rI CDiv fun i j => .int (i / j)) := opI fun i j _ _ _ _ _ hc q => by
  have h1 : (0 : Int) < j := hc.1
  have h2 : j < 1073741824 := hc.2
  exact floordiv_int (by omega) (by rw [Int.fdiv_eq_ediv_of_nonneg i (by omega)]; exact q) (.inl (PyProof.noPylong_small (by omega)))
/-- % by a positive divisor of any size -/
theorem op_mod : OpR X (binaryOp .Mod) (rI (fun _ j => 0 < j) fun i j => .int (i % j)) := opI fun i j _ _ _ _ _ hc q => by
  have h1 : (0 : Int) < j := hc
  exact mod_int' (by omega) (by rw [Int.fmod_eq_emod_of_nonneg i (by omega)]; exact q)
theorem op_pow : OpR X (binaryOp .Pow) (rI CPow fun i j => .int (i ^ j.toNat)) := opI fun _ _ _ _ _ _ _ hc q => pow_int_small hc.1 hc.2.1 hc.2.2 q
/-! ### bools among ints: n += (a < b) -/
end

/-! ### comparisons -/
/-- the scalars that == tells apart as data does -/
def scal : V → V → Bool
  | .non, .non => true | .non, .int _ => true | .int _, .non => true | .non, .bl _ => true | .bl _, .non => true | .non, .str _ => true | .str _, .non => true
  | .int _, .int _ => true | .bl _, .bl _ => true | .str _, .str _ => true | .byt _, .byt _ => true
  | .int _, .str _ => true | .str _, .int _ => true | .bl _, .str _ => true | .str _, .bl _ => true
  | _, _ => false
def rEq : R2 := fun x y H Q => scal x y = true ∧ Q (.bl (decide (x = y))) H
def rNe : R2 := fun x y H Q => scal x y = true ∧ Q (.bl (!decide (x = y))) H

theorem dec_int {i j : Int} : decide (V.int i = V.int j) = (i == j) := by
  rw [Bool.eq_iff_iff]
  simp
theorem dec_bl {i j : Bool} : decide (V.bl i = V.bl j) = (i == j) := by
  rw [Bool.eq_iff_iff]
  simp
theorem dec_str {i j : Str} : decide (V.str i = V.str j) = (i == j) := by
  rw [Bool.eq_iff_iff]
  simp
theorem dec_byt {i j : Array UInt8} : decide (V.byt i = V.byt j) = (i.toList == j.toList) := by
  rw [Bool.eq_iff_iff]
  cases i
  cases j
  simp

section
variable {X : Cx} {a b c : Expr} {ta tb tc : TE} {pos : Pos}
theorem fin_bl {pins : List (Addr × Obj)} {σ : St} {H : Hp} {s : Shared} {Q : VK} {k k' : Bool} (I : Inv X pins σ H s) (q : Q (.bl k) H) (e : k = k') : EP X pins σ Q (.bool k') s := by
  subst e
  exact ⟨.bl k, H, I, rfl, q⟩
theorem op_eq : OpR X (compareOp .Eq) rEq := by
  intro pins s σ H x y v u Q I rx ry h
  obtain ⟨hs, q⟩ := h
  cases x with
  | non =>
    cases rx
    cases y with
    | non => cases ry; exact PySem.EqNone.eq_none_none (fin_bl I q (by simp))
    | bl j => cases ry; exact PySem.EqNone.eq_none_bool (fin_bl I q (by simp))
    | int j => obtain ⟨t', rfl⟩ := ry; exact PySem.EqNone.eq_none_int (fin_bl I q (by simp))
    | str j => obtain ⟨t', rfl⟩ := ry; exact PySem.EqNone.eq_none_str (fin_bl I q (by simp))
    | _ => exact absurd (show false = true from hs) Bool.false_ne_true
  | bl i =>
    cases rx
    cases y with
    | non => cases ry; exact PySem.EqNone.eq_bool_none (fin_bl I q (by simp))
    | bl j => cases ry; exact eq_bool (fin_bl I q dec_bl)
    | str j => obtain ⟨t', rfl⟩ := ry; exact PySem.EqMixed.eq_bool_str (fin_bl I q (by simp))
    | _ => exact absurd (show false = true from hs) Bool.false_ne_true
  | int i =>
    obtain ⟨t, rfl⟩ := rx
    cases y with
    | non => cases ry; exact PySem.EqNone.eq_int_none (fin_bl I q (by simp))
    | int j => obtain ⟨t', rfl⟩ := ry; exact eq_int (fin_bl I q dec_int)
    | str j => obtain ⟨t', rfl⟩ := ry; exact PySem.EqMixed.eq_int_str (fin_bl I q (by simp))
    | _ => exact absurd (show false = true from hs) Bool.false_ne_true
  | str i =>
    obtain ⟨t, rfl⟩ := rx
    cases y with
    | non => cases ry; exact PySem.EqNone.eq_str_none (fin_bl I q (by simp))
    | bl j => cases ry; exact PySem.EqMixed.eq_str_bool (fin_bl I q (by simp))
    | int j => obtain ⟨t', rfl⟩ := ry; exact PySem.EqMixed.eq_str_int (fin_bl I q (by simp))
    | str j => obtain ⟨t', rfl⟩ := ry; exact eq_str (fin_bl I q dec_str)
    | _ => exact absurd (show false = true from hs) Bool.false_ne_true
  | byt i =>
    obtain ⟨t, rfl⟩ := rx
    cases y with
    | byt j => obtain ⟨t', rfl⟩ := ry; exact PySem.W.eq_bytes (fin_bl I q dec_byt)
    | _ => exact absurd (show false = true from hs) Bool.false_ne_true
  | _ => cases y <;> exact absurd (show false = true from hs) Bool.false_ne_true
theorem op_ne : OpR X (compareOp .NotEq) rNe := by
  intro pins s σ H x y v u Q I rx ry h
  obtain ⟨hs, q⟩ := h
  cases x with
  | non =>
    cases rx
    cases y with
    | non => cases ry; exact PySem.EqNone.ne_none_none (fin_bl I q (by simp))
    | bl j => cases ry; exact PySem.EqNone.ne_none_bool (fin_bl I q (by simp))
    | int j => obtain ⟨t', rfl⟩ := ry; exact PySem.EqNone.ne_none_int (fin_bl I q (by simp))
    | str j => obtain ⟨t', rfl⟩ := ry; exact PySem.EqNone.ne_none_str (fin_bl I q (by simp))
    | _ => exact absurd (show false = true from hs) Bool.false_ne_true
  | bl i =>
    cases rx
    cases y with
    | non => cases ry; exact PySem.EqNone.ne_bool_none (fin_bl I q (by simp))
    | bl j => cases ry; exact ne_bool (fin_bl I q (congrArg not dec_bl))
    | str j => obtain ⟨t', rfl⟩ := ry; exact PySem.EqMixed.ne_bool_str (fin_bl I q (by simp))
    | _ => exact absurd (show false = true from hs) Bool.false_ne_true
  | int i =>
    obtain ⟨t, rfl⟩ := rx
    cases y with
    | non => cases ry; exact PySem.EqNone.ne_int_none (fin_bl I q (by simp))
    | int j => obtain ⟨t', rfl⟩ := ry; exact ne_int (fin_bl I q (congrArg not dec_int))
    | str j => obtain ⟨t', rfl⟩ := ry; exact PySem.EqMixed.ne_int_str (fin_bl I q (by simp))
    | _ => exact absurd (show false = true from hs) Bool.false_ne_true
  | str i =>
    obtain ⟨t, rfl⟩ := rx
    cases y with
    | non => cases ry; exact PySem.EqNone.ne_str_none (fin_bl I q (by simp))
    | bl j => cases ry; exact PySem.EqMixed.ne_str_bool (fin_bl I q (by simp))
    | int j => obtain ⟨t', rfl⟩ := ry; exact PySem.EqMixed.ne_str_int (fin_bl I q (by simp))
    | str j => obtain ⟨t', rfl⟩ := ry; exact ne_str (fin_bl I q (congrArg not dec_str))
    | _ => exact absurd (show false = true from hs) Bool.false_ne_true
  | byt i =>
    obtain ⟨t, rfl⟩ := rx
    cases y with
    | byt j => obtain ⟨t', rfl⟩ := ry; exact PySem.W.ne_bytes (fin_bl I q (congrArg not dec_byt))
    | _ => exact absurd (show false = true from hs) Bool.false_ne_true
  | _ => cases y <;> exact absurd (show false = true from hs) Bool.false_ne_true

theorem op_lt : OpR X (compareOp .Lt) (rI0 fun i j => .bl (decide (i < j))) := opB0 fun _ _ _ _ _ _ _ q => lt_int q
theorem op_le : OpR X (compareOp .LtE) (rI0 fun i j => .bl (decide (i ≤ j))) := opB0 fun _ _ _ _ _ _ _ q => le_int q
theorem op_gt : OpR X (compareOp .Gt) (rI0 fun i j => .bl (decide (j < i))) := opB0 fun _ _ _ _ _ _ _ q => gt_int q
/-- the one string within the other -/
theorem op_in_str : OpR X (compareOp .In) (fun x y H Q => ∃ i j, x = .str i ∧ y = .str j ∧ Q (.bl (!(Builtin.Str.occurrences j i 0 j.length 1).isEmpty)) H) := by
  intro pins s σ H x y v u Q I rx ry h
  obtain ⟨i, j, rfl, rfl, q⟩ := h
  obtain ⟨t, rfl⟩ := rx
  obtain ⟨t', rfl⟩ := ry
  exact in_str (fin_bl I q rfl)

theorem nomark (b : Expr) {op : CmpOp} (h : op ≠ .In := by decide) (h2 : op ≠ .NotIn := by decide) : behindInMarks op b = false := by
  have e1 : (op == CmpOp.In) = false := by cases op <;> first | rfl | exact absurd rfl h
  have e2 : (op == CmpOp.NotIn) = false := by cases op <;> first | rfl | exact absurd rfl h2
  cases b <;> simp [behindInMarks, e1, e2]
/-- a comparison as a value; hm: nomark b, or (for in, not in) by with_unfolding_all rfl -/
theorem pe_cmpR {op : CmpOp} {r : R2} (ho : OpR X (compareOp op) r) (ha : PE X a ta) (hb : PE X b tb) (hm : behindInMarks op b = false) : PE X (.Compare a [op] [b] pos) (tOp r ta tb) := by
  intro pins s σ H Q I h
  exact wpAny_Compare1 (binT ha hb I h fun v u s2 x y H2 I2 rx ry q => ho pins s2 σ H2 x y v u Q I2 rx ry q) hm
/-- a reading of a value as a test -/
def tTest (t : TE) : TT := fun σ H Q => t σ H fun x H' => ∃ k, x = .bl k ∧ Q k H'
theorem pt_cmpR {op : CmpOp} {r : R2} (ho : OpR X (compareOp op) r) (ha : PE X a ta) (hb : PE X b tb) (hm : behindInMarks op b = false) : PT X (.Compare a [op] [b] pos) (tTest (tOp r ta tb)) := by
  intro pins s σ H Q I h
  refine wpAny_isTrue_Compare1 (thn (ha pins s σ H _ I h) fun v s1 ⟨x, H1, I1, r1, q1⟩ => thn (hb pins s1 σ H1 _ I1 q1) fun u s2 ⟨y, H2, I2, r2, q2⟩ =>
    thn (ho pins s2 σ H2 x y v u _ I2 r1 r2 q2) fun c s3 ⟨z, H3, I3, r3, k, e, q3⟩ => ?_) hm
  subst e
  cases r3
  exact wpAny_truthy_bool ⟨H3, I3, q3⟩
/-- a op1 b op2 c -/
def tChain (r r' : R2) (ta tb tc : TE) : TE := fun σ H Q => ta σ H fun x H1 => tb σ H1 fun y H2 => r x y H2 fun z H3 => ∃ k, z = .bl k ∧
  (if k = true then tc σ H3 fun w' H4 => r' y w' H4 Q else Q (.bl false) H3)
theorem pt_chain {op op' : CmpOp} {r r' : R2} (ho : OpR X (compareOp op) r) (ho' : OpR X (compareOp op') r') (ha : PE X a ta) (hb : PE X b tb) (hc : PE X c tc)
    (hm : lastMarks [op, op'] [b, c] = false := by with_unfolding_all rfl) : PT X (.Compare a [op, op'] [b, c] pos) (tTest (tChain r r' ta tb tc)) := by
  intro pins s σ H Q I h
  refine isTrue_chain (thn (ha pins s σ H _ I h) fun v s1 ⟨x, H1, I1, r1, q1⟩ => test_link (thn (hb pins s1 σ H1 _ I1 q1) fun u s2 ⟨y, H2, I2, r2, q2⟩ =>
    thn (ho pins s2 σ H2 x y v u _ I2 r1 r2 q2) fun d s3 ⟨z, H3, I3, r3, k, e, q3⟩ => ?_)) hm
  subst e
  cases r3
  refine wpAny_truthy_bool ?_
  cases k with
  | false =>
    obtain ⟨k', e', q'⟩ := q3
    cases e'
    exact ite_ff ⟨H3, I3, q'⟩
  | true =>
    refine ite_tt (test_last (thn (hc pins s3 σ H3 _ I3 q3) fun w' s4 ⟨z', H4, I4, r4, q4⟩ => thn (ho' pins s4 σ H4 y z' u w' _ I4 r2 r4 q4) fun d' s5 ⟨z2, H5, I5, r5, k2, e2, q5⟩ => ?_))
    subst e2
    cases r5
    exact wpAny_truthy_bool ⟨H5, I5, q5⟩

/-! ### truth -/
/-- a value's truth by the abstract heap -/
def TruV (K : PySem.W.Frag) (x : V) (H : Hp) (k : Bool) : Prop :=
  match x with
  | .non => k = false
  | .bl b => k = b
  | .int i => k = (i != 0)
  | .str y => y.length ≤ sizeLine ∧ k = ((y.length : Int) != 0)
  | .byt y => y.size ≤ sizeLine ∧ k = ((y.size : Int) != 0)
  | .ref p => (∃ xs, SqL K H p xs ∧ k = !xs.isEmpty) ∨ (∃ xs, SqT K H p xs ∧ k = !xs.isEmpty) ∨ ∃ kvs, H p = some (.dK kvs) ∧ k = !kvs.isEmpty
  | _ => False
theorem isEmpty_kv {κ : Type} {kvs : List (κ × V)} {vs : List (κ × Value)} (r : KV kvs vs) : (!vs.isEmpty) = !kvs.isEmpty := by
  cases r <;> rfl
theorem isEmpty_of {xs : List V} {its : List Value} (r : Vals xs its) : (!its.toArray.isEmpty) = !xs.isEmpty := by
  cases r <;> simp
theorem line63 : (sizeLine : Nat) < 2 ^ 63 := by rw [sizeLine_eq]; decide
theorem tru_ok : TruR X (fun x H Q => ∃ k, TruV X.K x H k ∧ Q k H) := by
  intro pins s σ H x v Q I rx h
  obtain ⟨k, e, q⟩ := h
  have hl := line63
  have hs : sizeLine = 16777216 := sizeLine_eq
  cases x with
  | non =>
    cases rx
    have e' : k = false := e
    subst e'
    exact truthy_none ⟨H, I, q⟩
  | bl b =>
    cases rx
    have e' : k = b := e
    subst e'
    exact wpAny_truthy_bool ⟨H, I, q⟩
  | int i =>
    obtain ⟨t, rfl⟩ := rx
    have e' : k = (i != 0) := e
    subst e'
    exact PySem.P.truthy_int ⟨H, I, q⟩
  | str y =>
    obtain ⟨t, rfl⟩ := rx
    obtain ⟨hy, e'⟩ : y.length ≤ sizeLine ∧ k = ((y.length : Int) != 0) := e
    subst e'
    exact PySem.P.truthy_str (by omega) ⟨H, I.tok _, q⟩
  | byt y =>
    obtain ⟨t, rfl⟩ := rx
    obtain ⟨hy, e'⟩ : y.size ≤ sizeLine ∧ k = ((y.size : Int) != 0) := e
    subst e'
    exact PySem.W.truthy_bytes (by omega) ⟨H, I.tok _, q⟩
  | ref p =>
    cases rx
    have e' : (∃ xs, SqL X.K H p xs ∧ k = !xs.isEmpty) ∨ (∃ xs, SqT X.K H p xs ∧ k = !xs.isEmpty) ∨ ∃ kvs, H p = some (.dK kvs) ∧ k = !kvs.isEmpty := e
    rcases e' with ⟨xs, hx, e'⟩ | ⟨xs, hx, e'⟩ | ⟨kvs, hx, e'⟩
    · subst e'
      obtain ⟨its, r, pl, hz⟩ := I.list hx
      have hlen := r.length
      exact wpAny_truthy_list pl.isList (by simp only [List.size_toArray]; omega) ⟨H, I.tok _, by rw [isEmpty_of r]; exact q⟩
    · subst e'
      obtain ⟨its, r, pl, hz⟩ := I.tuple hx
      have hlen := r.length
      exact truthy_tuple pl (by simp only [List.size_toArray]; omega) ⟨H, I.tok _, by rw [isEmpty_of r]; exact q⟩
    · subst e'
      obtain ⟨hz, hS, vs, r, m⟩ : kvs.length ≤ sizeLine ∧ (p == sysModules) = false ∧ ∃ vs, KV kvs vs ∧ s.heap.DictOf (mixKind X.prog X.w) p vs := I.hok p _ hx
      have hlen : kvs.length = vs.length := Paired.length r
      exact wpAny_truthy_dict hS m (by omega) ⟨H, I.tok _, by rw [isEmpty_kv r]; exact q⟩
  | _ => exact (show False from e).elim
/-! ### strs and bytes -/
theorem op_add_str : OpR X (binaryOp .Add) (fun x y H Q => ∃ i j, x = .str i ∧ y = .str j ∧ i.length + j.length ≤ sizeLine ∧ Q (.str (i ++ j)) H) := by
  intro pins s σ H x y v u Q I rx ry h
  obtain ⟨i, j, rfl, rfl, hz, q⟩ := h
  obtain ⟨t, rfl⟩ := rx
  obtain ⟨t', rfl⟩ := ry
  exact add_str (fun t' tk => ⟨.str (i ++ j), H, I.tok _, ⟨_, rfl⟩, q⟩) hz
/-! ### scalar builtins, by CallR -/
theorem vals1 {x : V} {us : List Value} (r : Vals [x] us) : ∃ u, us = [u] ∧ RelV x u := by
  cases r with
  | cons r1 r2 => cases r2; exact ⟨_, rfl, r1⟩
theorem call_abs : CallR X (.builtin "abs") (fun xs H Q => ∃ i, xs = [.int i] ∧ Q (.int (if i < 0 then -i else i)) H) := by
  intro pins s σ H xs us Q I r h
  obtain ⟨i, rfl, q⟩ := h
  obtain ⟨u, rfl, t, rfl⟩ := vals1 r
  exact call_abs_int fun u tk => ⟨.int (if i < 0 then -i else i), H, I.tok _, ⟨_, rfl⟩, q⟩
/-- len of a str, a bytes, a list, a tuple -/
def LenV (K : PySem.W.Frag) (x : V) (H : Hp) (n : Nat) : Prop :=
  match x with
  | .str y => y.length ≤ sizeLine ∧ n = y.length
  | .byt y => y.size ≤ sizeLine ∧ n = y.size
  | .ref p => (∃ xs, SqL K H p xs ∧ n = xs.length) ∨ ∃ xs, SqT K H p xs ∧ n = xs.length
  | _ => False
theorem call_len : CallR X (.builtin "len") (fun xs H Q => ∃ x n, xs = [x] ∧ LenV X.K x H n ∧ Q (.int n) H) := by
  intro pins s σ H xs us Q I r h
  obtain ⟨x, n, rfl, e, q⟩ := h
  obtain ⟨u, rfl, rx⟩ := vals1 r
  have hl := line63
  have hs : sizeLine = 16777216 := sizeLine_eq
  cases x with
  | str y =>
    obtain ⟨t, rfl⟩ := rx
    obtain ⟨hy, e'⟩ : y.length ≤ sizeLine ∧ n = y.length := e
    subst e'
    exact len_str (by omega) ⟨.int _, H, I.tok _, ⟨_, rfl⟩, q⟩
  | byt y =>
    obtain ⟨t, rfl⟩ := rx
    obtain ⟨hy, e'⟩ : y.size ≤ sizeLine ∧ n = y.size := e
    subst e'
    exact PySem.W.len_bytes (by omega) ⟨.int _, H, I.tok _, ⟨_, rfl⟩, q⟩
  | ref p =>
    cases rx
    have e' : (∃ xs, SqL X.K H p xs ∧ n = xs.length) ∨ ∃ xs, SqT X.K H p xs ∧ n = xs.length := e
    rcases e' with ⟨xs, hx, e'⟩ | ⟨xs, hx, e'⟩
    · subst e'
      obtain ⟨its, r', pl, hz⟩ := I.list hx
      have hlen := r'.length
      exact Calls.call_len_list pl.isList (by simp only [List.size_toArray]; omega) ⟨.int xs.length, H, I.tok _, ⟨_, by simp only [List.size_toArray]; rw [hlen]⟩, q⟩
    · subst e'
      obtain ⟨its, r', pl, hz⟩ := I.tuple hx
      have hlen := r'.length
      exact len_tuple pl (by simp only [List.size_toArray]; omega) ⟨.int xs.length, H, I.tok _, ⟨_, by simp only [List.size_toArray]; rw [hlen]⟩, q⟩
  | _ => exact (show False from e).elim
end
end L2

namespace L2
open PySem PySem.Spec PyProof.Rows

/-! ### an instance, its attributes a map -/
structure ObjM (h : Heap) (x dx C : Addr) (mA : Str → Option Value) : Prop where
  obj : h.get? x = some (PySem.W.instObj C dx)
  ns : h.Ns1 dx mA
  ne : dx ≠ x

theorem lookIn_ns {h : Heap} {dx : Addr} {mA : Str → Option Value} (n : h.Ns1 dx mA) : ∃ od, h.get? dx = some od ∧ ∀ name, PySem.W.lookIn name od = some (mA name) := by
  obtain ⟨o, es, ep, ho, hd, hk, _, hm⟩ := n
  refine ⟨o, ho, fun name => ?_⟩
  have e := hm name
  unfold nsFind findBy at e
  rw [← Array.find?_toList] at e
  unfold PySem.W.lookIn
  rw [hd]
  dsimp only
  split
  · rename_i y q
    rw [q] at e
    exact congrArg some e
  · rename_i q
    rw [q] at e
    have a : es.toList.any (·.refKey) = false := by
      rw [List.any_eq_false]
      intro y hy
      obtain ⟨z, t, hkey⟩ := hk y (Array.mem_toList_iff.mp hy)
      simp [DictEntry.refKey, hkey]
    have a' : ¬ es.toList.any (·.refKey) = true := by rw [a]; exact Bool.false_ne_true
    rw [if_neg a']
    exact congrArg some e

theorem ObjM.look {h : Heap} {x dx C : Addr} {mA : Str → Option Value} (I : ObjM h x dx C mA) : ∃ od, PySem.W.InstAt h x (PySem.W.instObj C dx) C (some od) ∧ ∀ name, PySem.W.lookIn name od = some (mA name) :=
  let ⟨od, ho, hl⟩ := lookIn_ns I.ns
  ⟨od, ⟨I.obj, rfl, rfl, ho⟩, hl⟩

section
variable {prog : Program} {w : World} {A : Around} {E : Value → Shared → Prop} {s : Shared} {K : PySem.W.Frag} {x dx C f : Addr} {mA : Str → Option Value} {name : Str} {v : Value}

theorem get_map {expr : Bool} {Q : Value → Shared → Prop} (X : K.In s.heap) (I : ObjM s.heap x dx C mA) (hg : PySem.W.plainGet K C name = true) (hh : PySem.W.hasDictIn K C = true)
    (ha : PySem.W.findIn K (.ref C) name = some none) (hv : mA name = some v) (hv' : PySem.W.handedIn v = true) (h : Q v { s with toks := s.toks + 1 }) :
    wpAny (model prog w) A (getAttr (.ref x) name expr) Q E s := by
  obtain ⟨od, J, hl⟩ := I.look
  exact PySem.W.get_value X J (PySem.W.plainGet_of hg).1 (PySem.W.findObj_own hh ha rfl (by rw [hl, hv])) hv' h

theorem get_meth {pl : Sem Bool} {Q : Value × List Value → Shared → Prop} (X : K.In s.heap) (I : ObjM s.heap x dx C mA) (hg : PySem.W.plainGet K C name = true)
    (hf : PySem.W.findIn K (.ref C) name = some (some (.ref f))) (ht : PySem.W.isFn K (.ref f) = true) (hv : mA name = none) (h : Q (.ref f, [.ref x]) s) :
    wpAny (model prog w) A (getMethod (.ref x) name pl) Q E s := by
  obtain ⟨od, J, hl⟩ := I.look
  exact PySem.W.method_fn X J (PySem.W.plainGet_of hg).1 (PySem.W.plainGet_of hg).2 hf (beq_iff_eq.mp ht) (by show (PySem.W.lookIn name od).map (·.isSome) = some false; rw [hl, hv]; rfl) h

theorem set_map {ns : List Str} {Q : Unit → Shared → Prop} (X : K.In s.heap) (I : ObjM s.heap x dx C mA)
    (hs : PySem.W.findIn K (.ref C) "__setattr__" = some (some (.builtin "object.__setattr__"))) (hp : PySem.W.plainOver K C = true) (ht : PySem.W.takerIn K C name = some none) (hh : PySem.W.hasDictIn K C = true)
    (hw : PySem.Within mA ns) (hsz : ns.length ≤ sizeLine)
    (h : ∀ h', ObjM h' x dx C (fun y => if y = name then some v else mA y) → Heap.SameBut dx s.heap h' → Q () { s with heap := h', toks := s.toks + 2 }) :
    wpAny (model prog w) A (setAttr (.ref x) name v) Q E s := by
  obtain ⟨od, J, hl⟩ := I.look
  refine PySem.W.set_plain X J hs (PySem.W.osa_open (s := { s with toks := s.toks + 1 }) (r := none) X J hp ht fun b => ?_)
  obtain ⟨cd, hc, hd'⟩ := PySem.W.any_some hh
  have hx : s.heap.get? x = some ⟨.ref C, some dx, .plain, #[]⟩ := I.obj
  refine wpAny_bind (wpAny_pure (wpAny_bind (wpAny_bind (wpAny_loadPart hx (wpAny_bind (PySem.W.Looks.here (s := { s with toks := s.toks + 1 }) (PySem.W.looks_clsIn X hc) ?_))))))
  rw [hd']
  refine wpAny_pure (a := some dx) (wpAny_bind (wpAny_pure (wpAny_bind ?_)))
  refine wpAny_nsSet1 (s := { s with toks := s.toks + 1 }) I.ns fun h' hn2 hs2 => ?_
  obtain ⟨oD, esD, epD, hoD, hdD, hcD⟩ := hn2.count (PySem.Within.cons name v hw)
  refine wpAny_bind (wpAny_lookBehind hoD (by rw [hdD]; exact pastItsLine_dict (Nat.le_trans hcD (by rw [List.length_cons]; omega))) ?_)
  exact wpAny_pure (h _ ⟨(hs2.2 _ (Ne.symm I.ne)).trans I.obj, hn2, I.ne⟩ hs2)

/-- C(..): the dict at the heap's end, the instance behind it; then its __init__ -/
theorem make_map {R : Result → Shared → Prop} {vs : List Value} {kw : List (Str × Value)} (X : K.In s.heap) (hm : PySem.W.makesIn K C = true)
    (hi : PySem.W.findIn K (.ref C) "__init__" = some (some (.ref f))) (hf : PySem.W.typeIn K (.ref f) = some (.type "function"))
    (h : codeAny (model prog w) (A.under (.builtin "type.__call__" ⟨.ref C :: vs, kw⟩)) (.call (.ref f) ⟨.ref (s.heap.objs.size + 1) :: vs, kw⟩) (PySem.W.InitBack (s.heap.objs.size + 1) R)
      { s with heap := (s.heap.push PySem.W.emptyDict).push (PySem.W.instObj C s.heap.objs.size) }) :
    codeAny (model prog w) A (.call (.ref C) ⟨vs, kw⟩) R s := by
  obtain ⟨hh, g, d, t, os⟩ := s
  exact PySem.W.make_core (PySem.W.makes_of X hm) (PySem.W.looks_findIn X hi) (fun self => PySem.W.bind_fn X self hf) (.inl rfl) h
end

/-! ### the attributes as a list of pairs -/
def putF (f : Str) (v : V) : List (Str × V) → List (Str × V)
  | [] => [(f, v)]
  | (g, x) :: r => if g = f then (g, v) :: r else (g, x) :: putF f v r
theorem lookup_putF (f g : Str) (v : V) : ∀ fs : List (Str × V), (putF f v fs).lookup g = if g = f then some v else fs.lookup g
  | [] => by
    show List.lookup g [(f, v)] = _
    by_cases h : g = f
    · have hb : (g == f) = true := beq_iff_eq.mpr h
      simp only [List.lookup, hb, if_pos h]
    · have hb : (g == f) = false := beq_eq_false_iff_ne.mpr h
      simp only [List.lookup, hb, if_neg h]
  | (k, x) :: r => by
    have ih := lookup_putF f g v r
    rw [show putF f v ((k, x) :: r) = (if k = f then (k, v) :: r else (k, x) :: putF f v r) from rfl]
    by_cases hk : k = f
    · rw [if_pos hk]
      by_cases h : g = k
      · have hb : (g == k) = true := beq_iff_eq.mpr h
        simp only [List.lookup, hb, if_pos (h.trans hk)]
      · have hb : (g == k) = false := beq_eq_false_iff_ne.mpr h
        simp only [List.lookup, hb, if_neg (fun e : g = f => h (e.trans hk.symm))]
    · rw [if_neg hk]
      by_cases h : g = k
      · have hb : (g == k) = true := beq_iff_eq.mpr h
        simp only [List.lookup, hb, if_neg (fun e : g = f => hk (h.symm.trans e))]
      · have hb : (g == k) = false := beq_eq_false_iff_ne.mpr h
        simp only [List.lookup, hb]
        exact ih
theorem keys_putF (f : Str) (v : V) : ∀ fs : List (Str × V), f ∈ (putF f v fs).map (·.1) ∧ ∀ g, g ∈ fs.map (·.1) → g ∈ (putF f v fs).map (·.1)
  | [] => ⟨by simp [putF], fun g h => by simp at h⟩
  | (k, x) :: r => by
    obtain ⟨i1, i2⟩ := keys_putF f v r
    rw [show putF f v ((k, x) :: r) = (if k = f then (k, v) :: r else (k, x) :: putF f v r) from rfl]
    by_cases hk : k = f
    · rw [if_pos hk]
      subst hk
      exact ⟨by simp, fun g h => by simpa using h⟩
    · rw [if_neg hk]
      refine ⟨?_, fun g h => ?_⟩
      · rw [List.map_cons]
        exact List.mem_cons_of_mem _ i1
      · rw [List.map_cons] at h ⊢
        rcases List.mem_cons.mp h with e | e
        · exact List.mem_cons.mpr (.inl e)
        · exact List.mem_cons_of_mem _ (i2 g e)
theorem length_putF (f : Str) (v : V) : ∀ fs : List (Str × V), (putF f v fs).length ≤ fs.length + 1
  | [] => by simp [putF]
  | (k, x) :: r => by
    have ih := length_putF f v r
    rw [show putF f v ((k, x) :: r) = (if k = f then (k, v) :: r else (k, x) :: putF f v r) from rfl]
    by_cases hk : k = f
    · rw [if_pos hk, List.length_cons, List.length_cons]; omega
    · rw [if_neg hk, List.length_cons, List.length_cons]; omega

theorem RelO.some_of {v : V} {o : Option Value} (r : RelO (some v) o) : ∃ u, o = some u ∧ RelV v u := by
  cases o with
  | none => exact (show False from r).elim
  | some u => exact ⟨u, rfl, r⟩
theorem RelO.none_of {o : Option Value} (r : RelO none o) : o = none := by
  cases o with
  | none => rfl
  | some u => exact (show False from r).elim
theorem handed_of {v : V} {u : Value} (r : RelV v u) : PySem.W.handedIn u = true := by
  cases v with
  | non => cases (show u = Value.none from r); rfl
  | bl b => cases (show u = Value.bool b from r); rfl
  | int i => obtain ⟨t, e⟩ := (show ∃ t, u = Value.int i t from r); cases e; rfl
  | str x => obtain ⟨t, e⟩ := (show ∃ t, u = Value.str x t from r); cases e; rfl
  | byt b => obtain ⟨t, e⟩ := (show ∃ t, u = Value.bytes b t from r); cases e; rfl
  | flt b => obtain ⟨t, e⟩ := (show ∃ t, u = Value.float b t from r); cases e; rfl
  | ref a => cases (show u = Value.ref a from r); rfl
  | ty n => cases (show u = Value.type n from r); rfl

section
variable {P : Program} {w : World} {H H' : Hp} {h h' : Heap} {a C dx : Addr} {fs fs' : List (Str × V)}
theorem ins_get (hok : HOk P w H h) (e : H a = some (.ins C dx fs)) : ∃ mA, ObjM h a dx C mA ∧ (∀ f, RelO (fs.lookup f) (mA f)) ∧ PySem.Within mA (fs.map (·.1)) ∧ fs.length ≤ 1000 ∧ H dx = some (.own a) := by
  obtain ⟨d, z, ne, ob, mA, n, r, q⟩ := (show ObjOk P w H h a (.ins C dx fs) from hok a _ e)
  exact ⟨mA, ⟨ob, n, ne⟩, r, q, z, d⟩
end

/-! ### what of the text a class must have -/
structure Cls (K : PySem.W.Frag) (C : Addr) : Prop where
  pg : PySem.W.plainGet K C Str.empty = true
  hd : PySem.W.hasDictIn K C = true
  po : PySem.W.plainOver K C = true
  sa : PySem.W.findIn K (.ref C) "__setattr__" = some (some (.builtin "object.__setattr__"))
theorem Cls.get {K : PySem.W.Frag} {C : Addr} (c : Cls K C) (f : Str) : PySem.W.plainGet K C f = true := c.pg
/-- no class of it has the name -/
def NoAttr (K : PySem.W.Frag) (C : Addr) (f : Str) : Prop := PySem.W.findIn K (.ref C) f = some none
theorem NoAttr.taker {K : PySem.W.Frag} {C : Addr} {f : Str} (n : NoAttr K C f) : PySem.W.takerIn K C f = some none := by
  unfold PySem.W.takerIn
  rw [show PySem.W.findIn K (.ref C) f = some none from n]
  rfl
/-- a constant of the class -/
structure Con (K : PySem.W.Frag) (C : Addr) (f : Str) (v : V) (u : Value) : Prop where
  at_ : PySem.W.findIn K (.ref C) f = some (some u)
  rel : RelV v u
  get : PySem.W.specialIn K u "__get__" = some none
  cp : PySem.W.copiedNames.contains f = false
/-- a method: a plain def of the class or of one above it -/
structure Meth (K : PySem.W.Frag) (C : Addr) (m : Str) (f : Addr) : Prop where
  at_ : PySem.W.findIn K (.ref C) m = some (some (.ref f))
  fn : PySem.W.isFn K (.ref f) = true
  kp : PySem.W.keepIn K (.ref f) = true

section
variable {X : Cx} {pins : List (Addr × Obj)} {σ : St} {H : Hp} {s : Shared} {a C dx : Addr} {fs : List (Str × V)} {f : Str} {v : V} {A : Around} {E : Value → Shared → Prop}

theorem getattr_ok {b : Bool} {Q : Value → Shared → Prop} (I : Inv X pins σ H s) (e : H a = some (.ins C dx fs)) (c : Cls X.K C) (n : NoAttr X.K C f) (l : fs.lookup f = some v)
    (h : ∀ u s', Inv X pins σ H s' → RelV v u → Q u s') : wpAny (model X.prog X.w) A (getAttr (.ref a) f b) Q E s := by
  obtain ⟨mA, O, r, _, _, _⟩ := ins_get I.hok e
  obtain ⟨u, hu, ru⟩ := RelO.some_of (v := v) (o := mA f) (by rw [← l]; exact r f)
  exact get_map I.kIn O (c.get f) c.hd n hu (handed_of ru) (h u _ (I.tok _) ru)

theorem getmeth_ok {m : Str} {g : Addr} {pl : Sem Bool} {Q : Value × List Value → Shared → Prop} (I : Inv X pins σ H s) (e : H a = some (.ins C dx fs)) (c : Cls X.K C) (k : Meth X.K C m g) (l : fs.lookup m = none)
    (h : Q (.ref g, [.ref a]) s) : wpAny (model X.prog X.w) A (getMethod (.ref a) m pl) Q E s := by
  obtain ⟨mA, O, r, _, _, _⟩ := ins_get I.hok e
  have hn : mA m = none := RelO.none_of (by rw [← l]; exact r m)
  exact get_meth I.kIn O (c.get m) k.at_ k.fn hn h

theorem setattr_ok {y : V} {u : Value} {Q : Unit → Shared → Prop} (I : Inv X pins σ H s) (e : H a = some (.ins C dx fs)) (c : Cls X.K C) (n : NoAttr X.K C f) (hl : fs.length < 1000) (ry : RelV y u)
    (h : ∀ s', Inv X pins σ (upd H a (.ins C dx (putF f y fs))) s' → Q () s') : wpAny (model X.prog X.w) A (setAttr (.ref a) f u) Q E s := by
  obtain ⟨mA, O, r, wi, _, ho⟩ := ins_get I.hok e
  have hz : (fs.map (·.1)).length ≤ sizeLine := by rw [List.length_map, sizeLine_eq]; omega
  refine set_map I.kIn O c.sa c.po n.taker c.hd wi hz fun h' O' sb => h _ ?_
  have hd : ∃ o, h'.get? dx = some o := let ⟨o, _, _, e', _⟩ := O'.ns; ⟨o, e'⟩
  refine I.write (x := a) (e := dx) (by rw [e]; exact True.intro) (.inr ho) (fun b q hb z => (sb.2 b hb).trans z) hd ?_
  refine ⟨by rw [upd_ne O.ne]; exact ho, ?_, O.ne, O'.obj, _, O'.ns, fun g => ?_, fun g hg => ?_⟩
  · have := length_putF f y fs; omega
  · show RelO ((putF f y fs).lookup g) (if g = f then some u else mA g)
    rw [lookup_putF]
    by_cases q : g = f
    · rw [if_pos q, if_pos q]; exact ry
    · rw [if_neg q, if_neg q]; exact r g
  · by_cases q : g = f
    · rw [q]; exact (keys_putF f y fs).1
    · refine (keys_putF f y fs).2 g (wi g fun z => hg ?_)
      show (if g = f then some u else mA g) = none
      rw [if_neg q]; exact z

/-- a new instance, tracked, without attributes -/
theorem Inv.made (I : Inv X pins σ H s) : Inv X pins σ (upd (upd H s.heap.objs.size (.own (s.heap.objs.size + 1))) (s.heap.objs.size + 1) (.ins C s.heap.objs.size []))
    { s with heap := (s.heap.push PySem.W.emptyDict).push (PySem.W.instObj C s.heap.objs.size) } := by
  have e1 : (s.heap.push PySem.W.emptyDict).get? s.heap.objs.size = some PySem.W.emptyDict := Heap.get?_push_size s.heap rfl
  have e2 : ((s.heap.push PySem.W.emptyDict).push (PySem.W.instObj C s.heap.objs.size)).get? (s.heap.objs.size + 1) = some (PySem.W.instObj C s.heap.objs.size) := by
    have := Heap.get?_push_size (s.heap.push PySem.W.emptyDict) (o := PySem.W.instObj C s.heap.objs.size) rfl
    rwa [Heap.size_push] at this
  have e3 : (s.heap.push PySem.W.emptyDict).Ns s.heap.objs.size (fun _ => none) := ⟨PySem.W.emptyDict, #[], _, e1, rfl, (fun e he => absurd he (by simp)), fun _ => rfl⟩
  have I1 := I.laid (a := s.heap.objs.size) (o := .own (s.heap.objs.size + 1)) (h' := s.heap.push PySem.W.emptyDict) (t' := s.toks) (fun b u q => Heap.get?_push_of_some _ q) (Nat.le_refl _) ⟨_, e1⟩
  refine I1.laid (a := s.heap.objs.size + 1) (o := .ins C s.heap.objs.size []) (t' := s.toks) (fun b u q => Heap.get?_push_of_some _ q) (Nat.le_of_eq (Heap.size_push _ _)) ?_
  have ne : s.heap.objs.size ≠ s.heap.objs.size + 1 := Nat.ne_of_lt (Nat.lt_succ_self _)
  refine ⟨by rw [upd_ne ne, upd_same], Nat.zero_le _, ne, e2, fun _ => none, (Heap.Ns1.of_empty e3).at fun o q => Heap.get?_push_of_some _ q, fun _ => True.intro, fun y hy => absurd rfl hy⟩

/-- e.f where nothing but the object is asked: through attributeBase (super) and the last hold -/
theorem attr_of {prog : Program} {w : World} {env : Env} {e : Expr} {f : Str} {pos : Pos} {s : Shared} {Q : Value → Shared → Prop} (hb : attributeBase e f env (eval e env) = eval e env)
    (h : wpAny (model prog w) A (eval e env) (fun o s₁ => wpAny (model prog w) A (getAttr o f true) Q E s₁) E s) : wpAny (model prog w) A (eval (.Attribute e f pos) env) Q E s :=
  Attribute_any_ h (by rw [arm_eval_Attribute, hb])
end

/-! ### readings and rules -/
/-- e.f, an attribute of the instance -/
def tFld (K : PySem.W.Frag) (ta : TE) (f : Str) : TE := fun σ H Q => ta σ H fun x H1 => ∃ a C dx fs v, x = .ref a ∧ H1 a = some (.ins C dx fs) ∧ Cls K C ∧ NoAttr K C f ∧ fs.lookup f = some v ∧ Q v H1
/-- e.f = value -/
def sFld (K : PySem.W.Frag) (ta tv : TE) (f : Str) : TS := fun D σ H => tv σ H fun y H1 => ta σ H1 fun x H2 => ∃ a C dx fs, x = .ref a ∧ H2 a = some (.ins C dx fs) ∧ Cls K C ∧ NoAttr K C f ∧ fs.length < 1000 ∧
  D.nx σ (upd H2 a (.ins C dx (putF f y fs)))
section
variable {X : Cx} {o e value : Expr} {f : Str} {pos pos' tpos : Pos} {ta tv : TE}
theorem pe_fld (he : PE X e ta) (hb : attributeBase e f X.env (eval e X.env) = eval e X.env) : PE X (.Attribute e f pos) (tFld X.K ta f) := by
  intro pins s σ H Q I h
  refine attr_of hb (thn (he pins s σ H _ I h) fun u s1 ⟨x, H1, I1, rx, a, C, dx, fs, v, ex, ea, c, n, l, q⟩ => ?_)
  subst ex
  obtain rfl : u = Value.ref a := rx
  exact getattr_ok I1 ea c n l fun u' s2 I2 ru => ⟨v, H1, I2, ru, q⟩
theorem ps_fld (ha : PE X o ta) (hv : PE X value tv) (hs : swapsWith value (some (.Attribute o f pos')) pos.line X.env = pure false) : PS X (.Assign [.Attribute o f pos'] value pos) (sFld X.K ta tv f) := by
  intro pins s σ H D I h
  refine plainObj_wpAny_Assign_Attribute (thn (hv pins s σ H _ I h) fun u s1 ⟨y, H1, I1, ry, q⟩ => thn (ha pins s1 σ H1 _ I1 q) fun ov s2 ⟨x, H2, I2, rx, a, C, dx, fs, ex, ea, c, n, l, q2⟩ => ?_) hs
  subst ex
  obtain rfl : ov = Value.ref a := rx
  exact setattr_ok I2 ea c n l ry fun s3 I3 => ⟨σ, _, I3, q2⟩
end

/-! ### isinstance -/
section
variable {X : Cx} {pins : List (Addr × Obj)} {σ : St} {H : Hp} {s : Shared} {A : Around} {E : Value → Shared → Prop} {Q : Value → Shared → Prop} {c : Value} {b : Bool}
/-- the type of a value, as the fragment's deciders take it; for an instance its class -/
inductive TyOf (K : PySem.W.Frag) (H : Hp) : V → Value → Prop where
  | non : TyOf K H .non (.type "NoneType")
  | bl (x : Bool) : TyOf K H (.bl x) (.type "bool")
  | int (i : Int) : TyOf K H (.int i) (.type "int")
  | str (x : Str) : TyOf K H (.str x) (.type "str")
  | flt (x : UInt64) : TyOf K H (.flt x) (.type "float")
  | lst {a : Addr} {xs : List V} (e : H a = some (.lst xs)) : TyOf K H (.ref a) (.type "list")
  | frz {a : Addr} {o : Obj} {xs : List V} (e : H a = some (.frz o (.lst xs))) : TyOf K H (.ref a) (.type "list")
  | tup {a : Addr} {xs : List V} (e : H a = some (.tup xs)) : TyOf K H (.ref a) (.type "tuple")
  | dK {a : Addr} {kvs : List (Key × V)} (e : H a = some (.dK kvs)) : TyOf K H (.ref a) (.type "dict")
  | dT {a : Addr} {kvs : List (List Key × V)} (e : H a = some (.dT kvs)) : TyOf K H (.ref a) (.type "dict")
  | ins {a C dx : Addr} {fs : List (Str × V)} (e : H a = some (.ins C dx fs)) (cl : Cls K C) (ha : PySem.W.findIn K (.ref C) "__class__" = some (some (.builtin "object.__class__")))
      (hn : PySem.W.specialIn K (.builtin "object.__class__") "__get__" = some (some (.builtin "getset_descriptor.__get__"))) (htk : PySem.W.takesIn K (.builtin "object.__class__") = some true)
      (hm : PySem.W.mroIn K C (.type "object") = some true) : TyOf K H (.ref a) (.ref C)
end
end L2

namespace L2
open PySem PySem.Spec PyProof.Rows

/-! ### room -/
structure Room (k : Nat) (A : Around) : Prop where
  hd : A.handled = none
  dp : A.depth + 3 * k + 5 < recursionLimit
  un : A.units + 16 * k + 200 < cLine
theorem Room.mono {j k : Nat} {A : Around} (r : Room k A) (h : j ≤ k) : Room j A := ⟨r.hd, by have := r.dp; omega, by have := r.un; omega⟩
theorem Room.deeper {k : Nat} {A : Around} (r : Room (k + 1) A) (env : Env) : Room k (A.deeper env) :=
  ⟨r.hd, by have := r.dp; show A.depth + 1 + 3 * k + 5 < _; omega, by have := r.un; show A.units + 3 + 16 * k + 200 < _; omega⟩
theorem make_depth {A : Around} {C : Addr} {us : List Value} {kw : List (Str × Value)} : (A.under (.builtin "type.__call__" ⟨.ref C :: us, kw⟩)).depth = A.depth + 1 := by
  first | rfl | simp [Around.under, Code.weight, Code.isCreation, Code.isGuard, Code.isCaller, Code.frames, Code.isFrame, guardIds]
theorem make_units {A : Around} {C : Addr} {us : List Value} {kw : List (Str × Value)} : (A.under (.builtin "type.__call__" ⟨.ref C :: us, kw⟩)).units = A.units + 1 := by
  first | rfl | simp [Around.under, Code.cUnits, Code.frames, Code.isFrame]
theorem Room.make {k : Nat} {A : Around} (r : Room (k + 1) A) (C : Addr) (us : List Value) (kw : List (Str × Value)) : Room k (A.under (.builtin "type.__call__" ⟨.ref C :: us, kw⟩)) :=
  ⟨r.hd, by have := r.dp; rw [make_depth]; omega, by have := r.un; rw [make_units]; omega⟩
theorem Room.depth {k : Nat} {A : Around} (r : Room k A) : A.depth < recursionLimit := by have := r.dp; omega
theorem Room.units {k : Nat} {A : Around} (r : Room k A) : A.units + 64 < cLine := by have := r.un; omega
/-! ### argument lists and displays -/
def tNil : TA := fun _ H Q => Q [] H
def tCons (ta : TE) (tr : TA) : TA := fun σ H Q => ta σ H fun x H1 => tr σ H1 fun xs H2 => Q (x :: xs) H2
section
variable {X : Cx} {e : Expr} {es : List Expr} {te : TE} {t : TA} {pos : Pos}
theorem pa_nil : PA X [] tNil := fun _ _ _ _ H Q I h => Calls.spliced_nil ⟨[], H, I, .nil, h⟩
theorem pa_cons (ha : PE X e te) (hr : PA X es t) (hs : starEach (e :: es) X.env = (false, eval e X.env) :: starEach es X.env := by rfl) : PA X (e :: es) (tCons te t) := by
  intro pos pins s σ H Q I h
  rw [hs]
  show wpAny _ _ (spliced ((false, eval e X.env) :: backTo pos (starEach es X.env))) _ _ s
  refine Calls.spliced_cons (thn (ha pins s σ H _ I h) fun u s1 ⟨x, H1, I1, r1, q1⟩ => ?_)
  exact thn (hr pos pins s1 σ H1 _ I1 q1) fun us s2 ⟨xs, H2, I2, r2, q2⟩ => ⟨x :: xs, H2, I2, .cons r1 r2, q2⟩

/-- a tuple, a list of written items -/
def tTup (t : TA) : TE := fun σ H Q => t σ H fun xs H1 => xs.length ≤ sizeLine ∧ ∀ p, H1 p = none → Q (.ref p) (upd H1 p (.tup xs))
def tLst (t : TA) : TE := fun σ H Q => t σ H fun xs H1 => xs.length ≤ sizeLine ∧ ∀ p, H1 p = none → Q (.ref p) (upd H1 p (.lst xs))
theorem pe_tup {x1} (h : PA X es t) : PE X (.Tuple es x1 pos) (tTup t) := by
  intro pins s σ H Q I hq
  refine wpAny_Tuple_spliced (thn (h pos pins s σ H _ I hq) fun us s1 ⟨xs, H1, I1, r, z, q⟩ => ⟨by rw [← r.length]; exact z, ?_⟩)
  have hf : H1 s1.heap.objs.size = none := I1.hok.fresh (Nat.le_refl _)
  refine ⟨.ref s1.heap.objs.size, upd H1 s1.heap.objs.size (.tup xs), I1.laid (t' := s1.toks) (fun b u e => Heap.get?_push_of_some _ e) (Nat.le_refl _) ?_, rfl, q _ hf⟩
  exact ⟨z, us, r, ⟨_, Heap.get?_push_size _ rfl, rfl, _, rfl⟩⟩
theorem pe_lst (h : PA X es t) : PE X (.List es pos) (tLst t) := by
  intro pins s σ H Q I hq
  refine wpAny_List_spliced (thn (h pos pins s σ H _ I hq) fun us s1 ⟨xs, H1, I1, r, z, q⟩ => ⟨by rw [← r.length]; exact z, ?_⟩)
  have hf : H1 s1.heap.objs.size = none := I1.hok.fresh (Nat.le_refl _)
  refine ⟨.ref s1.heap.objs.size, upd H1 s1.heap.objs.size (.lst xs), I1.laid (t' := s1.toks) (fun b u e => Heap.get?_push_of_some _ e) (Nat.le_refl _) ?_, rfl, q _ hf⟩
  exact ⟨z, us, 0, r, Heap.get?_push_size _ rfl⟩
end

/-! ### what a def promises -/
/-- a def's promise: the bound arguments in the parameters' order, the heap, the wanted end, the wanted exception -/
abbrev Sp := List V → Hp → VK → XK → Prop
/-- how an exception lies behind a call (file 08 gives it): the callers' frames, abstract heap and state ahead of the call, the wish, the exception, the state -/
abbrev CXT := List Env → Hp → Shared → XK → Value → Shared → Prop

/-- the state at a call -/
structure Env0 (P : Program) (w : World) (K : PySem.W.Frag) (mg : Str → Option Value) (base : Heap) (A : Around) (outer : List Env) (s : Shared) (H : Hp) : Prop where
  frames : A.frames = some outer
  mod : Mod K mg base
  bs : ∀ b o, base.get? b = some o → s.heap.get? b = some o ∧ H b = none
  bsz : base.objs.size ≤ s.heap.objs.size
  funs : s.heap.FunFrames base outer
  frf : ∀ b ∈ frs outer, H b = none
  hok : HOk P w H s.heap
  bare : AllBare s.gens
/-- a call's end -/
def CE (outer : List Env) (P : Program) (w : World) (H : Hp) (s : Shared) (Q : VK) (u : Value) (s' : Shared) : Prop :=
  ∃ v H', s'.os = s.os ∧ AllBare s'.gens ∧ Un (frs outer) [] H H' s.heap s'.heap ∧ HOk P w H' s'.heap ∧ RelV v u ∧ Q v H'
def CR (CX : CXT) (outer : List Env) (P : Program) (w : World) (H : Hp) (s : Shared) (Q : VK) (E : XK) (r : Result) (s' : Shared) : Prop :=
  match r with
  | .ok (.ret u) => CE outer P w H s Q u s'
  | .ok _ => False
  | .error e => CX outer H s E e s'
structure FnOk (P : Program) (w : World) (K : PySem.W.Frag) (mg : Str → Option Value) (base : Heap) (CX : CXT) (k : Nat) (f : Addr) (fd : FuncData) (ps : List Str) (sp : Sp) : Prop where
  len : ∀ vs H Q E, sp vs H Q E → vs.length = ps.length
  run : ∀ (A : Around) (outer : List Env) (s : Shared) (H : Hp) (args : Args) (us : List Value) (vs : List V) (Q : VK) (E : XK), Room k A → Env0 P w K mg base A outer s H → BindsTo s fd args (ps.zip us) → Vals vs us → sp vs H Q E →
    codeAny (model P w) A (.call (.ref f) args) (CR CX outer P w H s Q E) s
theorem Env0.make {P : Program} {w : World} {K : PySem.W.Frag} {mg : Str → Option Value} {base : Heap} {A : Around} {outer : List Env} {s : Shared} {H : Hp} (e : Env0 P w K mg base A outer s H) (C : Addr) (us : List Value) (kw : List (Str × Value)) :
    Env0 P w K mg base (A.under (.builtin "type.__call__" ⟨.ref C :: us, kw⟩)) outer s H := ⟨by first | exact e.frames | (simpa [Around.under, Code.envs, Code.isFrame, pushEnvs] using e.frames), e.mod, e.bs, e.bsz, e.funs, e.frf, e.hok, e.bare⟩
section
variable {X : Cx} {pins : List (Addr × Obj)} {σ : St} {H : Hp} {s s' : Shared}
/-- from a body: what a callee wants -/
theorem Inv.env0 (I : Inv X pins σ H s) : Env0 X.prog X.w X.K X.mg X.base X.A X.stack s H :=
  ⟨I.ok.frames, I.ok.mod, I.bs, Nat.le_trans I.ok.bsz I.sz, I.stack, I.stkFree, I.hok, I.bare⟩
/-- behind a call -/
theorem Inv.after {Q : VK} {u : Value} (I : Inv X pins σ H s) (h : CE X.stack X.prog X.w H s Q u s') : EP X pins σ Q u s' := by
  obtain ⟨v, H', os, bare, un, hok, r, q⟩ := h
  obtain ⟨hh, g, d, t, os'⟩ := s'
  obtain rfl : os' = s.os := os
  exact ⟨v, H', I.call (h' := hh) (g' := g) (d' := d) (t' := t) (ch := []) un hok bare (fun b z => absurd z (by simp)), r, q⟩
end

/-! ### calls -/
/-- f(..): the written arguments, then the defaults dvs; E: what is wanted of an exception -/
def tCall (sp : Sp) (dvs : List V) (E : XK) (t : TA) : TE := fun σ H Q => t σ H fun vs H1 => sp (vs ++ dvs) H1 Q E
/-- C(..): a new instance and its dict, then __init__ -/
def tMake (C : Addr) (sp : Sp) (dvs : List V) (E : XK) (t : TA) : TE := fun σ H Q => t σ H fun vs H1 => ∀ x dx, H1 x = none → H1 dx = none → dx ≠ x →
  sp (.ref x :: (vs ++ dvs)) (upd (upd H1 dx (.own x)) x (.ins C dx [])) (fun v H2 => v = .non ∧ Q (.ref x) H2) E

/-- how the parameters are bound: us the positional arguments, kw the keywords' values by name, ds the defaults that fill up -/
def Binds (K : PySem.W.Frag) (fd : FuncData) (ps : List Str) (ds : List Value) : Prop :=
  ∀ (s : Shared) (us : List Value), K.In s.heap → (us ++ ds).length = ps.length → BindsTo s fd ⟨us, []⟩ (ps.zip (us ++ ds))
/-- every parameter is given -/
theorem Binds.all {K : PySem.W.Frag} {fd : FuncData} {ps : List Str} (h : ∀ us : List Value, us.length = ps.length → bindArgs fd ⟨us, []⟩ = pure (ps.zip us)) : Binds K fd ps [] := fun s us _ hl => by
  rw [List.append_nil] at hl ⊢
  exact .of_eq (h us hl)

/-- an exception of a callee reaches what this body wants of exceptions -/
def Passes (CX : CXT) (X : Cx) (E : XK) : Prop := ∀ (pins : List (Addr × Obj)) (σ : St) (H : Hp) (s : Shared) (e : Value) (s' : Shared), Inv X pins σ H s → CX X.stack H s E e s' → X.xe e s'

section
variable {X : Cx} {CX : CXT} {k : Nat} {f C : Addr} {fd : FuncData} {ps : List Str} {sp : Sp} {dvs : List V} {ds : List Value} {E : XK} {x m : Str} {p pos apos : Pos} {e o : Expr} {es : List Expr} {ta : TE} {t : TA}

/-- the callee runs -/
theorem run_fn {pins : List (Addr × Obj)} {σ : St} {H : Hp} {s : Shared} {Q : VK} {us : List Value} {vs : List V} (F : FnOk X.prog X.w X.K X.mg X.base CX k f fd ps sp) (hr : Room k X.A) (hb : Binds X.K fd ps ds) (hd : Vals dvs ds) (hx : Passes CX X E)
    (I : Inv X pins σ H s) (r : Vals vs us) (h : sp (vs ++ dvs) H Q E) : wpAny (model X.prog X.w) X.A (call (.ref f) us) (EP X pins σ Q) X.xe s := by
  have r2 : Vals (vs ++ dvs) (us ++ ds) := r.append hd
  have hl : (us ++ ds).length = ps.length := by rw [← r2.length]; exact F.len _ _ _ _ h
  refine wpAny_call (codeAny_mono (F.run X.A X.stack s H ⟨us, []⟩ (us ++ ds) (vs ++ dvs) Q E hr I.env0 (hb s us I.kIn hl) r2 h) fun r s' hq => ?_)
  cases r with
  | error e => exact hx pins σ H s e s' I hq
  | ok fl =>
    cases fl with
    | ret u => exact I.after hq
    | next => exact False.elim hq
    | brk => exact False.elim hq
    | cont => exact False.elim hq

theorem pe_call (F : FnOk X.prog X.w X.K X.mg X.base CX k f fd ps sp) (hr : Room k X.A) (hg : Gl X x) (hm : X.mg x = some (.ref f)) (hk : PySem.W.keepIn X.K (.ref f) = true) (hb : Binds X.K fd ps ds) (hd : Vals dvs ds) (hx : Passes CX X E)
    (ha : PA X (e :: es) t) (hdb : (x == ("__debug__" : Str)) = false := by decide) (he : starEach (e :: es) X.env = (false, eval e X.env) :: starEach es X.env := by rfl) (hpl : (backTo pos (starEach es X.env)).any (·.1) = false := by rfl) :
    PE X (.Call (.Name x p) (e :: es) [] pos) (tCall sp dvs E t) := by
  intro pins s σ H Q I h
  refine wpAny_Call_Name_kw (ld_glob I hg hm ?_ hdb)
  refine PySem.W.callWith_K (h₀ := X.base) I.ok.mod.kin hk (thn (ha pos pins s σ H _ I h) fun us s1 ⟨vs, H1, I1, r, q⟩ => ⟨I1.kIn, ?_⟩) he hpl
  exact run_fn F hr hb hd hx I1 r q
/-- what a class must have to be made -/
structure Mk (K : PySem.W.Frag) (C f : Addr) : Prop where
  makes : PySem.W.makesIn K C = true
  init : PySem.W.findIn K (.ref C) "__init__" = some (some (.ref f))
  fn : PySem.W.isFn K (.ref f) = true
  kp : PySem.W.keepIn K (.ref C) = true

theorem run_make {pins : List (Addr × Obj)} {σ : St} {H : Hp} {s : Shared} {Q : VK} {us : List Value} {vs : List V} (M : Mk X.K C f) (F : FnOk X.prog X.w X.K X.mg X.base CX k f fd ps sp) (hr : Room (k + 1) X.A) (hb : Binds X.K fd ps ds) (hd : Vals dvs ds)
    (hx : Passes CX X E) (I : Inv X pins σ H s) (r : Vals vs us)
    (h : ∀ x dx, H x = none → H dx = none → dx ≠ x → sp (.ref x :: (vs ++ dvs)) (upd (upd H dx (.own x)) x (.ins C dx [])) (fun v H2 => v = .non ∧ Q (.ref x) H2) E) :
    wpAny (model X.prog X.w) X.A (call (.ref C) us) (EP X pins σ Q) X.xe s := by
  have hq := h (s.heap.objs.size + 1) s.heap.objs.size (I.hok.fresh (Nat.le_succ _)) (I.hok.fresh (Nat.le_refl _)) (Nat.ne_of_lt (Nat.lt_succ_self _))
  have I2 := Inv.made (C := C) I
  have r2 : Vals (V.ref (s.heap.objs.size + 1) :: (vs ++ dvs)) (Value.ref (s.heap.objs.size + 1) :: (us ++ ds)) := .cons rfl (r.append hd)
  have hl : (Value.ref (s.heap.objs.size + 1) :: us ++ ds).length = ps.length := by
    have e := r2.length
    rw [F.len _ _ _ _ hq] at e
    exact e.symm
  refine wpAny_call (make_map (f := f) I.kIn M.makes M.init (beq_iff_eq.mp M.fn) (codeAny_mono (F.run _ X.stack _ _ ⟨Value.ref (s.heap.objs.size + 1) :: us, []⟩ (Value.ref (s.heap.objs.size + 1) :: (us ++ ds)) _ _ E (hr.make C us [])
    (I2.env0.make C us []) (hb _ (Value.ref (s.heap.objs.size + 1) :: us) I2.kIn hl) r2 hq) fun r s' hq' => ?_))
  cases r with
  | error e => exact hx pins σ _ _ e s' I2 hq'
  | ok fl =>
    cases fl with
    | ret u =>
      obtain ⟨v, H', I3, rv, ev, q3⟩ := I2.after hq'
      subst ev
      exact ⟨rv, ⟨V.ref (s.heap.objs.size + 1), H', I3, rfl, q3⟩⟩
    | next => exact False.elim hq'
    | brk => exact False.elim hq'
    | cont => exact False.elim hq'
theorem pe_make (M : Mk X.K C f) (F : FnOk X.prog X.w X.K X.mg X.base CX k f fd ps sp) (hr : Room (k + 1) X.A) (hg : Gl X x) (hm : X.mg x = some (.ref C)) (hb : Binds X.K fd ps ds) (hd : Vals dvs ds) (hx : Passes CX X E)
    (ha : PA X (e :: es) t) (hdb : (x == ("__debug__" : Str)) = false := by decide) (he : starEach (e :: es) X.env = (false, eval e X.env) :: starEach es X.env := by rfl) (hpl : (backTo pos (starEach es X.env)).any (·.1) = false := by rfl) :
    PE X (.Call (.Name x p) (e :: es) [] pos) (tMake C sp dvs E t) := by
  intro pins s σ H Q I h
  refine wpAny_Call_Name_kw (ld_glob I hg hm ?_ hdb)
  refine PySem.W.callWith_K (h₀ := X.base) I.ok.mod.kin M.kp (thn (ha pos pins s σ H _ I h) fun us s1 ⟨vs, H1, I1, r, q⟩ => ⟨I1.kIn, ?_⟩) he hpl
  exact run_make M F hr hb hd hx I1 r q
end

/-! ### keywords -/
section
variable {X : Cx} {CX : CXT} {k : Nat} {f C : Addr} {fd : FuncData} {ps ks : List Str} {sp : Sp} {E : XK} {x m : Str} {p pos apos kpos : Pos} {e o : Expr} {es : List Expr} {kws : List Keyword} {te ta : TE} {t tk : TA} {nm : Option Str}
/-- how a call with keywords binds: g puts the positional values us and the keywords' values ws (names ks) in the parameters' order, defaults among them -/
structure KBinds (K : PySem.W.Frag) (fd : FuncData) (ps ks : List Str) (g : List Value → List Value → List Value) (gV : List V → List V → List V) : Prop where
  to : ∀ (s : Shared) (us ws : List Value), K.In s.heap → (g us ws).length = ps.length → BindsTo s fd ⟨us, ks.zip ws⟩ (ps.zip (g us ws))
  rel : ∀ {vs : List V} {us : List Value} {zs : List V} {ws : List Value}, Vals vs us → Vals zs ws → Vals (gV vs zs) (g us ws)
variable {g : List Value → List Value → List Value} {gV : List V → List V → List V}
end

/-! ### a def's body keeps its promise -/
/-- names: the parameters first -/
structure FnScope (N P : List Str) (sc : Scope) : Prop where
  kind : sc.kind = .function
  co : sc.isCoroutine = false
  gen : sc.isGenerator = false
  nd : N.Nodup
  pre : N.take P.length = P
  par : ∀ x ∈ P, sc.names.lookup x = some .local ∨ sc.names.lookup x = some .cell
  nofree : ∀ y ∈ sc.names, y.2 ≠ .free

theorem bindL_out {kindOf : Str → Option NameKind} {x : Str} : ∀ {binds : List (Str × Value)} {m : Str → Option Value}, (∀ v, (x, v) ∉ binds) → bindL kindOf binds m x = m x
  | [], _, _ => rfl
  | (n, v) :: r, m, h => by
    unfold bindL
    rw [bindL_out fun w hw => h w (List.mem_cons_of_mem _ hw)]
    split
    · have : x ≠ n := by rintro rfl; exact h v List.mem_cons_self
      simp [this]
    · rfl
theorem bindC_out {kindOf : Str → Option NameKind} {x : Str} : ∀ {binds : List (Str × Value)} {m : Str → Option Value}, (∀ v, (x, v) ∉ binds) → bindC kindOf binds m x = m x
  | [], _, _ => rfl
  | (n, v) :: r, m, h => by
    unfold bindC
    rw [bindC_out fun w hw => h w (List.mem_cons_of_mem _ hw)]
    split
    · rfl
    · have : x ≠ n := by rintro rfl; exact h v List.mem_cons_self
      simp [this]
theorem bindL_get {kindOf : Str → Option NameKind} {x : Str} {v : Value} : ∀ {P : List Str} {vs : List Value} {i : Nat} {m : Str → Option Value}, P.Nodup → P[i]? = some x → vs[i]? = some v → kindOf x = some .local →
    bindL kindOf (P.zip vs) m x = some v
  | [], _, _, _, _, h, _, _ => by simp at h
  | _ :: _, [], _, _, _, _, h, _ => by simp at h
  | p :: P, w :: vs, 0, m, nd, h1, h2, hk => by
    simp at h1 h2; subst h1; subst h2
    show bindL kindOf ((p, w) :: P.zip vs) m p = _
    unfold bindL
    rw [bindL_out fun v hv => (List.nodup_cons.mp nd).1 (List.of_mem_zip hv).1, if_pos hk]
    simp
  | p :: P, w :: vs, i + 1, m, nd, h1, h2, hk => by
    show bindL kindOf ((p, w) :: P.zip vs) m x = _
    unfold bindL
    exact bindL_get (i := i) (List.nodup_cons.mp nd).2 (by simpa using h1) (by simpa using h2) hk
theorem bindC_get {kindOf : Str → Option NameKind} {x : Str} {v : Value} : ∀ {P : List Str} {vs : List Value} {i : Nat} {m : Str → Option Value}, P.Nodup → P[i]? = some x → vs[i]? = some v → kindOf x ≠ some .local →
    bindC kindOf (P.zip vs) m x = some v
  | [], _, _, _, _, h, _, _ => by simp at h
  | _ :: _, [], _, _, _, _, h, _ => by simp at h
  | p :: P, w :: vs, 0, m, nd, h1, h2, hk => by
    simp at h1 h2; subst h1; subst h2
    show bindC kindOf ((p, w) :: P.zip vs) m p = _
    unfold bindC
    rw [bindC_out fun v hv => (List.nodup_cons.mp nd).1 (List.of_mem_zip hv).1, if_neg hk]
    simp
  | p :: P, w :: vs, i + 1, m, nd, h1, h2, hk => by
    show bindC kindOf ((p, w) :: P.zip vs) m x = _
    unfold bindC
    exact bindC_get (i := i) (List.nodup_cons.mp nd).2 (by simpa using h1) (by simpa using h2) hk

/-- the names' values at the entry -/
def start (N : List Str) (vs : List V) : St := vs.map some ++ List.replicate (N.length - vs.length) none

/-- the context of a def's body, at its entry; an exception leaves the frame, then lies as CX says -/
def cxOf (CX : CXT) (P : Program) (w : World) (K : PySem.W.Frag) (mg : Str → Option Value) (base : Heap) (N : List Str) (qual : Str) (scope : Scope) (f : Addr) (cd : Value) (A : Around) (outer : List Env) (s : Shared) (H : Hp) (E : XK) : Cx where
  prog := P
  w := w
  K := K
  mg := mg
  base := base
  A := A.deeper (envOfC qual scope s.heap.objs.size f cd)
  N := N
  s₀ := s
  H₀ := H
  env := envOfC qual scope s.heap.objs.size f cd
  outer := outer
  stack := envOfC qual scope s.heap.objs.size f cd :: outer
  ex := []
  calm := true
  fn := fun _ => true
  pn := []
  xe := fun e s' => wpAny (model P w) (A.deeper (envOfC qual scope s.heap.objs.size f cd)) (leaving (envOfC qual scope s.heap.objs.size f cd) e) (fun _ s'' => CX outer H s E e s'') (fun e' s'' => CX outer H s E e' s'') s'

theorem cell_has {sc : Scope} {n : Nat} {x : Str} (h : sc.names.lookup x = some .cell) : ∃ c, (cellsFrom n sc.names []).lookup x = some c := by
  have q := PySem.W.cellsFrom_some sc.names n [] (.inl h)
  exact Option.isSome_iff_exists.mp q

theorem inv_start {CX : CXT} {P : Program} {w : World} {K : PySem.W.Frag} {mg : Str → Option Value} {base : Heap} {N ps : List Str} {qual : Str} {scope : Scope} {f : Addr} {cd : Value} {A : Around} {outer : List Env} {s s1 : Shared} {H : Hp} {E : XK} {us : List Value} {vs : List V}
    (S : FnScope N ps scope) (hd : A.handled = none) (e0 : Env0 P w K mg base A outer s H) (hl : vs.length = ps.length) (r : Vals vs us)
    (x : InCallC s s.heap.objs.size (bindL (envOfC qual scope s.heap.objs.size f cd).kindOf (ps.zip us) fun _ => none) (cellsFrom (s.heap.objs.size + 1) scope.names []) (bindC (envOfC qual scope s.heap.objs.size f cd).kindOf (ps.zip us) fun _ => none) s1) :
    Inv (cxOf CX P w K mg base N qual scope f cd A outer s H E) [] (start N vs) H s1 := by
  have hpl : ps.length ≤ N.length := by have := congrArg List.length S.pre; rw [List.length_take] at this; omega
  obtain ⟨h1, tk, rfl, hk⟩ := x.done
  have noA : ∀ b : Addr, b ∉ (cxOf CX P w K mg base N qual scope f cd A outer s H E).ex := fun b z => absurd (show b ∈ ([] : List Addr) from z) (by simp)
  refine ⟨⟨e0.mod, S.kind, rfl, rfl, Nat.le_refl _, fun y z c h1 h2 => ?_, fun y hy => ?_, fun y c _ h => ?_, fun _ => hd, Around.frames_deeper e0.frames, .inr ⟨rfl, rfl⟩, fun b z => absurd z (noA b), e0.bs, e0.bsz, fun b _ _ => noA b, fun b z => absurd z (noA b), e0.funs, e0.frf⟩,
    rfl, e0.bare, Un.kept hk, ⟨_, x.toInCall.ns, fun i y v h1 h2 h3 => ?_⟩, fun y c h => ⟨_, x.cell y c h⟩, e0.hok.fresh (Nat.le_refl _), fun y c h => ?_, fun p hp => absurd (show p ∈ ([] : List (Addr × Obj)) from hp) (by simp), e0.hok.kept hk, ?_⟩
  · exact name_of_addr x.apart (PySem.mem_of_lookup h1) (PySem.mem_of_lookup h2)
  · have hy : scope.names.lookup y = some .cell ∨ scope.names.lookup y = some .free := hy
    rcases hy with hy | hy
    · exact cell_has hy
    · exact absurd rfl (S.nofree _ (PySem.mem_of_lookup hy))
  · exact Nat.le_of_lt (x.above y c (PySem.mem_of_lookup h))
  · have hi : i < vs.length := by
      unfold start at h2
      by_cases hi : i < vs.length
      · exact hi
      · rw [List.getElem?_append_right (by simpa using hi)] at h2
        rw [List.getElem?_replicate] at h2
        split at h2 <;> cases h2
    have ha : vs[i]? = some v := by
      unfold start at h2
      rw [List.getElem?_append_left (by simpa using hi), List.getElem?_map] at h2
      cases e : vs[i]? with
      | none => rw [e] at h2; cases h2
      | some a => rw [e] at h2; cases h2; rfl
    obtain ⟨u, hu, rv⟩ := r.get ha
    have hp : ps[i]? = some y := by
      rw [← S.pre, List.getElem?_take_of_lt (by omega)]; exact h1
    have ndP : ps.Nodup := by rw [← S.pre]; exact S.nd.sublist (List.take_sublist _ _)
    refine ⟨u, rv, ?_⟩
    rcases S.par y (List.mem_of_getElem? hp) with k | k
    · exact .inl ⟨k, bindL_get ndP hp hu k⟩
    · obtain ⟨c, e⟩ := cell_has (n := s.heap.objs.size + 1) k
      refine .inr ⟨.inl k, c, e, ?_⟩
      have q := x.cell y c e
      rw [bindC_get ndP hp hu (by show scope.names.lookup y ≠ _; rw [k]; decide)] at q
      exact q
  · exact e0.hok.fresh (Nat.le_of_lt (x.above y c (PySem.mem_of_lookup h)))
  · unfold start
    show _ = N.length
    rw [List.length_append, List.length_map, List.length_replicate]
    omega

/-- THE RULE: a def (or a method) of the text, by its body. The body's reading t is chosen for each entry; it is run at the parameters' values -/
theorem fn_of {CX : CXT} {P : Program} {w : World} {K : PySem.W.Frag} {mg : Str → Option Value} {base : Heap} {k : Nat} {f : Addr} {name qual : Str} {params : Arguments} {body : List Stmt} {scope : Scope} {dV kV doc pm cdv ct oc : Value} {an od : Option Addr}
    {osl : Array (Option Value)} {N ps : List Str} {sp : Sp} (lk : K.lookup f = some ⟨oc, od, .func (PySem.W.fnOf name qual params body scope dV kV doc pm an cdv ct), osl⟩) (hcd : PySem.W.codeIn K cdv qual = true) (S : FnScope N ps scope)
    (len : ∀ vs H Q E, sp vs H Q E → vs.length = ps.length)
    (hbody : ∀ (A : Around) (outer : List Env) (s : Shared) (H : Hp) (vs : List V) (Q : VK) (E : XK), Room k (A.deeper (envOfC qual scope s.heap.objs.size f cdv)) → sp vs H Q E →
      ∃ t, PSs (cxOf CX P w K mg base N qual scope f cdv A outer s H E) body t ∧ t { nx := fun _ H' => Q .non H', rt := Q } (start N vs) H) :
    FnOk P w K mg base CX (k + 1) f (PySem.W.fnOf name qual params body scope dV kV doc pm an cdv ct) ps sp := by
  refine ⟨len, fun A outer s H args us vs Q E hr e0 hb r hsp => ?_⟩
  have hl := len _ _ _ _ hsp
  have KX : K.In s.heap := e0.mod.kin.keeps fun b o e => (e0.bs b o e).1
  have lim : s.heap.NoLimit := e0.mod.nolimit.keeps fun b o e => (e0.bs b o e).1
  have hkind : ∀ y ∈ ps.zip us, scope.names.lookup y.1 = some .local ∨ (scope.names.lookup y.1 = some .cell ∧ ((cellsFrom (s.heap.objs.size + 1) scope.names []).lookup y.1).isSome = true) := fun ⟨n, v⟩ hy => by
    rcases S.par n (List.of_mem_zip hy).1 with q | q
    · exact .inl q
    · exact .inr ⟨q, PySem.W.cellsFrom_some _ _ _ (.inl q)⟩
  refine codeAny_call_function hr.depth (KX _ _ lk) rfl S.co S.gen rfl (PySem.W.codeRec_of KX hcd) (hb _ _ _ _ ?_)
  refine wpAny_newFunctionEnv_cells S.kind hkind fun env he s1 x => ?_
  subst he
  refine ⟨lim.keeps x.toInCall.keep, codeAny_func ?_⟩
  obtain ⟨t, ht, hq⟩ := hbody A outer s H vs Q E (hr.deeper _) hsp
  have I : Inv (cxOf CX P w K mg base N qual scope f cdv A outer s H E) [] (start N vs) H s1 := inv_start S hr.hd e0 hl r x
  refine wpAny_mono (ht [] s1 (start N vs) H _ I hq) (fun fl s' hs => ?_) fun e s' hs => hs
  have fin : ∀ {σ' : St} {H' : Hp} {v : V} {u : Value}, Inv (cxOf CX P w K mg base N qual scope f cdv A outer s H E) [] σ' H' s' → RelV v u → Q v H' → CE outer P w H s Q u s' :=
    fun {σ' H' v u} J rv q => ⟨v, H', J.os, J.bare, J.base, J.hok, rv, q⟩
  cases fl with
  | ret u =>
    obtain ⟨v, σ', H', J, rv, q⟩ := hs
    exact fin J rv q
  | next =>
    obtain ⟨σ', H', J, q⟩ := hs
    exact fin (v := V.non) (u := Value.none) J rfl q
  | brk =>
    obtain ⟨_, _, _, q⟩ := hs
    exact False.elim q
  | cont =>
    obtain ⟨_, _, _, q⟩ := hs
    exact False.elim q
end L2

namespace L2
open PySem PySem.Spec PyProof.Rows
section
variable {X : Cx} {x : Str} {p pos : Pos} {e : Expr} {es : List Expr} {t : TA} {id T : String} {r : List V → Hp → VK → Prop}

def tCB (r : List V → Hp → VK → Prop) (t : TA) : TE := fun σ H Q => t σ H fun vs H1 => r vs H1 Q
/-- f(e, ..), f a built-in function -/
theorem pe_callB (hc : CallR X (.builtin id) r) (hg : Gl X x) (hm : X.mg x = none) (hv : bootBuiltins x = some (.builtin id)) (ha : PA X (e :: es) t) (hn : x ≠ "__name__" := by decide) (hdb : (x == ("__debug__" : Str)) = false := by decide)
    (he : starEach (e :: es) X.env = (false, eval e X.env) :: starEach es X.env := by rfl) (hpl : (backTo pos (starEach es X.env)).any (·.1) = false := by rfl) : PE X (.Call (.Name x p) (e :: es) [] pos) (tCB r t) := by
  intro pins s σ H Q I h
  refine wpAny_Call_Name_kw (ld_blt I hg hm hv ?_ hn hdb)
  exact PyProof.Rows.callWith_builtin1 (thn (ha pos pins s σ H _ I h) fun us s1 ⟨vs, H1, I1, r1, q1⟩ => hc pins s1 σ H1 vs us Q I1 r1 q1) he hpl
/-- T(e, ..), T a built-in type -/
theorem pe_callTy (hc : CallR X (.type T) r) (hg : Gl X x) (hm : X.mg x = none) (hv : bootBuiltins x = some (.type T)) (ha : PA X (e :: es) t) (hn : x ≠ "__name__" := by decide) (hdb : (x == ("__debug__" : Str)) = false := by decide)
    (he : starEach (e :: es) X.env = (false, eval e X.env) :: starEach es X.env := by rfl) (hpl : (backTo pos (starEach es X.env)).any (·.1) = false := by rfl) : PE X (.Call (.Name x p) (e :: es) [] pos) (tCB r t) := by
  intro pins s σ H Q I h
  refine wpAny_Call_Name_kw (ld_blt I hg hm hv ?_ hn hdb)
  exact PyProof.Rows.callWith_type1 (thn (ha pos pins s σ H _ I h) fun us s1 ⟨vs, H1, I1, r1, q1⟩ => hc pins s1 σ H1 vs us Q I1 r1 q1) he hpl
end
end L2

namespace HT
open PySem PyProof.Rows

section
open PySem.SeqAt
open PySem.AutoSeq1 (wpAny_loadPart')
open PySem.MeetsSeq PySem.MeetsSeq2 PySem.MeetsSeq3

end

section
variable {prog : Program} {w : World} {A : Around} {E : Value → Shared → Prop} {s : Shared}

/-! ### t[a:b], not the whole -/
/-- a slice's bound as a place among n (d where it is left out) -/
def sIx (n d : Nat) : Option Int → Nat
  | none => d
  | some v => if v < 0 then (v + (n : Int)).toNat else min v.toNat n
theorem sIx_none (n d : Nat) : sIx n d none = d := rfl
theorem sIx_nat (n d k : Nat) : sIx n d (some (k : Int)) = min k n := by
  show (if (k : Int) < 0 then ((k : Int) + (n : Int)).toNat else min (k : Int).toNat n) = min k n
  rw [if_neg (by omega), Int.toNat_natCast]
end
end HT

namespace L2
open PySem PySem.Spec PyProof.Rows

/-! ### the parts of a slice -/
abbrev TO := St → Hp → (Option Int → Hp → Prop) → Prop
/-- a slice's part (left out, or an int) -/
def PO (X : Cx) (e : Option Expr) (t : TO) : Prop :=
  ∀ (pins : List (Addr × Obj)) (s : Shared) (σ : St) (H : Hp) (Q : Option Int → Hp → Prop), Inv X pins σ H s → t σ H Q →
    wpAny (model X.prog X.w) X.A (evalPart e X.env) (fun u s' => ∃ o H', Inv X pins σ H' s' ∧ IsPart u o ∧ Q o H') X.xe s
def tNoPart : TO := fun _ H Q => Q none H
def tPart (t : TE) : TO := fun σ H Q => t σ H fun x H1 => ∃ i, x = .int i ∧ Q (some i) H1

section
variable {X : Cx} {e : Expr} {te : TE} {lo hi : Option Expr} {tl th : TO} {pos p2 : Pos}

theorem po_none : PO X none tNoPart := by
  intro pins s σ H Q I h
  rw [evalPart_none]
  exact wpAny_pure ⟨none, H, I, .none, h⟩
theorem po_some (h : PE X e te) : PO X (some e) (tPart te) := by
  intro pins s σ H Q I hw
  rw [evalPart_some]
  refine thn (h pins s σ H _ I hw) fun u s1 ⟨x, H1, I1, r1, q1⟩ => ?_
  obtain ⟨i, rfl, q⟩ := q1
  obtain ⟨t, rfl⟩ := r1
  exact ⟨some i, H1, I1, .int i t, q⟩

/-- what a slice of a value is, by values: the slice object stands at sl -/
def SlR (X : Cx) (r : V → Option Int → Option Int → Hp → VK → Prop) : Prop :=
  ∀ (pins : List (Addr × Obj)) (s : Shared) (σ : St) (H : Hp) (x : V) (v vl vu : Value) (lo hi : Option Int) (sl : Addr) (Q : VK), Inv X pins σ H s → RelV x v → s.heap.IsSliceOf sl vl vu .none → IsPart vl lo → IsPart vu hi → r x lo hi H Q →
    ∃ T id, typeLookup (.type T) "__getitem__" = pure (some (.builtin id)) ∧ s.TypeIs v T ∧ wpAny (model X.prog X.w) X.A (getItem v (.ref sl)) (EP X pins σ Q) X.xe s
def tSl (r : V → Option Int → Option Int → Hp → VK → Prop) (te : TE) (tl th : TO) : TE := fun σ H Q => te σ H fun x H1 => tl σ H1 fun l H2 => th σ H2 fun u H3 => r x l u H3 Q
/-- a[lo:hi], any a -/
theorem pe_slice {r : V → Option Int → Option Int → Hp → VK → Prop} (hr : SlR X r) (he : PE X e te) (hl : PO X lo tl) (hu : PO X hi th) : PE X (.Subscript e (.Slice lo hi none p2) pos) (tSl r te tl th) := by
  intro pins s σ H Q I h
  refine Subscript_ (thn (he pins s σ H _ I h) fun v s1 ⟨x, H1, I1, r1, q1⟩ => ?_)
  refine wpAny_Slice (thn (hl pins s1 σ H1 _ I1 q1) fun vl s2 ⟨l, H2, I2, pl, q2⟩ => thn (hu pins s2 σ H2 _ I2 q2) fun vu s3 ⟨u, H3, I3, pu, q3⟩ => ?_)
  rw [evalPart_none]
  refine wpAny_pure ?_
  have I4 : Inv X pins σ H3 { s3 with heap := s3.heap.push { cls := .type "slice", data := .fields #[vl, vu, .none] } } := I3.kept (t' := s3.toks) fun b ob q => Heap.get?_push_of_some _ q
  obtain ⟨T, id, hT, ht, hg⟩ := hr pins { s3 with heap := s3.heap.push { cls := .type "slice", data := .fields #[vl, vu, .none] } } σ H3 x v vl vu l u s3.heap.objs.size Q I4 r1 (Heap.IsSliceOf.new ..) pl pu q3
  show wpAny (model X.prog X.w) X.A (subscriptTail e (.Slice lo hi none p2) v (.ref s3.heap.objs.size)) (EP X pins σ Q) X.xe { s3 with heap := s3.heap.push { cls := .type "slice", data := .fields #[vl, vu, .none] } }
  exact tail_any (ops := [.ref s3.heap.objs.size, v]) ht hT hg (by with_unfolding_all rfl)

/-- the items of xs[lo:hi] -/
def cutV (xs : List V) (lo hi : Option Int) : List V := (xs.drop (HT.sIx xs.length 0 lo)).take (HT.sIx xs.length xs.length hi - HT.sIx xs.length 0 lo)
theorem cutV_length (xs : List V) (lo hi : Option Int) : (cutV xs lo hi).length ≤ xs.length := by
  unfold cutV
  rw [List.length_take, List.length_drop]
  omega
/-! ### t < u, t + u -/
end
end L2

namespace L2
open PySem PySem.Spec PyProof.Rows

/-! ### places -/
/-- the place that an index of any sign means -/
def ixN (n : Nat) (i : Int) : Option Nat := if 0 ≤ i then (if i < n then some i.toNat else none) else if -(n : Int) ≤ i then some (i + n).toNat else none
def atI {α : Type} (xs : List α) (i : Int) : Option α := (ixN xs.length i).bind fun j => xs[j]?
theorem ixN_seq {n : Nat} {i : Int} {j : Nat} (h : ixN n i = some j) : seqIndex? i n = some j ∧ j < n ∧ -(n : Int) ≤ i ∧ i < n := by
  unfold ixN at h
  by_cases h0 : 0 ≤ i
  · rw [if_pos h0] at h
    by_cases h1 : i < n
    · rw [if_pos h1] at h
      have e : i.toNat = j := Option.some.inj h
      exact ⟨by rw [seqIndex_of h0 h1, e], by omega, by omega, h1⟩
    · rw [if_neg h1] at h; cases h
  · rw [if_neg h0] at h
    by_cases h1 : -(n : Int) ≤ i
    · rw [if_pos h1] at h
      have e : (i + n).toNat = j := Option.some.inj h
      exact ⟨by rw [seqIndex_neg (by omega) h1, e], by omega, h1, by omega⟩
    · rw [if_neg h1] at h; cases h
theorem atI_get {α : Type} {xs : List α} {i : Int} {v : α} (h : atI xs i = some v) : ∃ j, seqIndex? i xs.length = some j ∧ xs[j]? = some v ∧ j < xs.length ∧ -(xs.length : Int) ≤ i ∧ i < xs.length := by
  unfold atI at h
  cases e : ixN xs.length i with
  | none => rw [e] at h; cases h
  | some j =>
    rw [e] at h
    obtain ⟨h1, h2, h3, h4⟩ := ixN_seq e
    exact ⟨j, h1, h, h2, h3, h4⟩
theorem atI_nat {α : Type} {xs : List α} {j : Nat} {v : α} (h : xs[j]? = some v) : atI xs (j : Int) = some v := by
  have hj : j < xs.length := (List.getElem?_eq_some_iff.mp h).1
  have e : ixN xs.length (j : Int) = some j := by
    unfold ixN
    rw [if_pos (by omega), if_pos (by omega)]; simp
  unfold atI; rw [e]; exact h
/-! ### what may be subscripted -/
/-- what stands as an index of a plain subscript -/
def PlainIx (b : Expr) : Prop := ∀ o i, subscripted b false o i = operate [o, i] (getItem o i)
/-- a subscript by values -/
def IxR (X : Cx) (r : R2) : Prop :=
  ∀ (value slice : Expr) (pins : List (Addr × Obj)) (s : Shared) (σ : St) (H : Hp) (x y : V) (v u : Value) (Q : VK), Inv X pins σ H s → RelV x v → RelV y u → r x y H Q →
    subscripted slice false v u = operate [v, u] (getItem v u) → wpAny (model X.prog X.w) X.A (subscriptTail value slice v u) (EP X pins σ Q) X.xe s
/-- a call of a builtin's method by values: the receiver, the arguments -/
def MtR (X : Cx) (id : String) (r : V → List V → Hp → VK → Prop) : Prop :=
  ∀ (pins : List (Addr × Obj)) (s : Shared) (σ : St) (H : Hp) (x : V) (xs : List V) (v : Value) (us : List Value) (Q : VK), Inv X pins σ H s → RelV x v → Vals xs us → r x xs H Q →
    wpAny (model X.prog X.w) X.A (call (.builtin id) (v :: us)) (EP X pins σ Q) X.xe s
section
variable {X : Cx} {a b : Expr} {ta tb : TE} {pos : Pos}
/-- a[b] -/
theorem pe_ix {r : R2} (hr : IxR X r) (ha : PE X a ta) (hb : PE X b tb) (hs : PlainIx b) : PE X (.Subscript a b pos) (tOp r ta tb) := by
  intro pins s σ H Q I h
  exact Subscript_ (binT ha hb I h fun v u s2 x y H2 I2 rx ry q => hr a b pins s2 σ H2 x y v u Q I2 rx ry q (hs _ _))

def rIxL (K : PySem.W.Frag) : R2 := fun x y H Q => ∃ p xs i v, x = .ref p ∧ y = .int i ∧ SqL K H p xs ∧ atI xs i = some v ∧ Q v H
def rIxT (K : PySem.W.Frag) : R2 := fun x y H Q => ∃ p xs i v, x = .ref p ∧ y = .int i ∧ SqT K H p xs ∧ atI xs i = some v ∧ Q v H
def rIxS : R2 := fun x y H Q => ∃ z i c, x = .str z ∧ y = .int i ∧ z.length ≤ sizeLine ∧ atI z.cps.toList i = some c ∧ Q (.str ⟨#[c]⟩) H
theorem ix_list : IxR X (rIxL X.K) := by
  intro value slice pins s σ H x y v u Q I rx ry h hs
  obtain ⟨p, xs, i, z, rfl, rfl, hq, he, q⟩ := h
  cases rx
  obtain ⟨t, rfl⟩ := ry
  obtain ⟨its, r, pl, hz⟩ := I.list hq
  obtain ⟨j, h1, h2, h3, h4, h5⟩ := atI_get he
  obtain ⟨w, ew, rw'⟩ := r.get h2
  have hl := r.length
  have hn := line63
  have fin : EP X pins σ Q w s := ⟨z, H, I, rw', q⟩
  by_cases h0 : 0 ≤ i
  · have hj : i.toNat = j := by
      rw [seqIndex_of h0 h5] at h1
      exact Option.some.inj h1
    exact item_listR pl.isList h0 (by omega) (by rw [hj]; simpa using ew) fin hs
  · have hj : (i + (its.toArray.size : Int)).toNat = j := by
      rw [seqIndex_neg (by omega) h4] at h1
      rw [List.size_toArray, ← hl]
      exact Option.some.inj h1
    exact subscriptTail_builtinR (x := w) pl.isList.typeIs slot_list_getitem.lookup
      (wpAny_getItem_list_neg (Q := fun r s' => r = w ∧ EP X pins σ Q r s') pl.isList (by omega) (by rw [List.size_toArray] <;> omega) (by omega) (by rw [hj]; simpa using ew) ⟨rfl, fin⟩) hs
theorem ix_tup : IxR X (rIxT X.K) := by
  intro value slice pins s σ H x y v u Q I rx ry h hs
  obtain ⟨p, xs, i, z, rfl, rfl, hq, he, q⟩ := h
  cases rx
  obtain ⟨t, rfl⟩ := ry
  obtain ⟨its, r, pl, hz⟩ := I.tuple hq
  obtain ⟨j, h1, h2, h3, h4, h5⟩ := atI_get he
  obtain ⟨w, ew, rw'⟩ := r.get h2
  have hl := r.length
  have hn := line63
  have fin : EP X pins σ Q w s := ⟨z, H, I, rw', q⟩
  exact subscriptTail_builtinR (x := w) pl.typeIs slot_tuple_getitem.lookup
    (getItem_tuple (j := j) (Q := fun r s' => r = w ∧ EP X pins σ Q r s') pl (by omega) (by omega) (by rw [List.size_toArray, ← hl]; exact h1) (by simpa using ew) ⟨rfl, fin⟩) hs
theorem ix_str : IxR X rIxS := by
  intro value slice pins s σ H x y v u Q I rx ry h hs
  obtain ⟨z, i, c, rfl, rfl, hz, he, q⟩ := h
  obtain ⟨t, rfl⟩ := rx
  obtain ⟨t', rfl⟩ := ry
  obtain ⟨j, h1, h2, h3, h4, h5⟩ := atI_get he
  have hl : z.cps.toList.length = z.length := by simp [Str.length]
  rw [hl] at h1 h4 h5
  have hn := line63
  exact tail_any (typeIs_str s z t) slot_str_getitem.lookup (getItem_str (c := c) (by
    have e1 : decide (i < -(2 ^ 63 : Int)) = false := decide_eq_false (by omega)
    have e2 : decide (i ≥ 2 ^ 63) = false := decide_eq_false (by omega)
    rw [e1, e2, Bool.or_false]) (by rw [h1]; simpa using h2) ⟨.str ⟨#[c]⟩, H, I.tok _, ⟨_, rfl⟩, q⟩) hs
/-! ### xs[i] = v, any sign -/
/-- the list's object behind a store -/
theorem mapSeq_set (its : List Value) (n j : Nat) (u : Value) : Obj.mapSeq (·.setIfInBounds j u) { cls := .type "list", data := .seq its.toArray n } = { cls := .type "list", data := .seq (its.set j u).toArray n } := by
  simp [Obj.mapSeq]
theorem Inv.lst {pins : List (Addr × Obj)} {σ : St} {H : Hp} {s : Shared} {p : Addr} {xs : List V} (I : Inv X pins σ H s) (h : H p = some (.lst xs)) :
    ∃ (its : List Value) (n : Nat), Vals xs its ∧ s.heap.get? p = some { cls := .type "list", data := .seq its.toArray n } ∧ xs.length ≤ sizeLine := by
  obtain ⟨z, its, n, r, e⟩ := I.hok p _ h
  exact ⟨its, n, r, e, z⟩
/-- the list at p is written by an update of its object -/
theorem Inv.lstUpd {pins : List (Addr × Obj)} {σ : St} {H : Hp} {s : Shared} {p : Addr} {xs ys : List V} {its its' : List Value} {n n' : Nat} {f : Obj → Obj} (I : Inv X pins σ H s) (h : H p = some (.lst xs))
    (ho : s.heap.get? p = some { cls := .type "list", data := .seq its.toArray n }) (hf : f { cls := .type "list", data := .seq its.toArray n } = { cls := .type "list", data := .seq its'.toArray n' }) (r : Vals ys its') (hz : ys.length ≤ sizeLine) (t : Nat) :
    Inv X pins σ (upd H p (.lst ys)) { s with heap := s.heap.update p f, toks := t } := by
  have e : (s.heap.update p f).get? p = some { cls := .type "list", data := .seq its'.toArray n' } := by
    rw [Heap.get?_update_self f ho (by rw [hf] <;> rfl), hf]
  refine I.write (x := p) (e := p) (by rw [h]; trivial) (.inl rfl) (fun b u hb q => (Heap.get?_update_other _ _ (Ne.symm hb)).trans q) ⟨_, e⟩ ?_
  exact ⟨hz, its', n', r, e⟩
def rSetL : V → V → V → Hp → (Hp → Prop) → Prop := fun o i v H Q => ∃ p xs k j, o = .ref p ∧ i = .int k ∧ H p = some (.lst xs) ∧ ixN xs.length k = some j ∧ Q (upd H p (.lst (xs.set j v)))
theorem set_list : PSet X rSetL := by
  intro pins s σ H o i v ov iv u Q I ro ri rv h
  obtain ⟨p, xs, k, j, rfl, rfl, hp, hj, q⟩ := h
  cases ro
  obtain ⟨t, rfl⟩ := ri
  obtain ⟨its, n, r, ho, hz⟩ := I.lst hp
  obtain ⟨h1, h2, h3, h4⟩ := ixN_seq hj
  have hl := r.length
  have hn := line63
  have I' : Inv X pins σ (upd H p (.lst (xs.set j v))) { s with heap := s.heap.update p (Obj.mapSeq (·.setIfInBounds j u)) } :=
    I.lstUpd hp ho (mapSeq_set its n j u) (r.set rv j) (by rw [List.length_set]; exact hz) s.toks
  by_cases h0 : 0 ≤ k
  · have hk : k.toNat = j := by
      rw [seqIndex_of h0 h4] at h1
      exact Option.some.inj h1
    exact PySem.W.ki_setAt ho h0 (by omega) (by rw [List.size_toArray, ← hl]; exact h4) (by rw [hk]; exact ⟨_, I', q⟩)
  · have hk : (k + (its.toArray.size : Int)).toNat = j := by
      rw [seqIndex_neg (by omega) h3] at h1
      rw [List.size_toArray, ← hl]
      exact Option.some.inj h1
    exact PySem.W.ki_setBack ho (by omega) (by rw [List.size_toArray, ← hl]; exact h3) (by omega) (by rw [hk]; exact ⟨_, I', q⟩)

/-! ### slices -/
theorem slice_bounds (lo hi : Option Int) (n : Nat) : (sliceBounds lo hi none n).1 = ((HT.sIx n 0 lo : Nat) : Int) ∧ (sliceBounds lo hi none n).2.1 = ((HT.sIx n n hi : Nat) : Int) ∧ (sliceBounds lo hi none n).2.2 = 1 := by
  refine ⟨?_, ?_, rfl⟩
  · cases lo with
    | none => simp [sliceBounds, HT.sIx]
    | some i =>
      simp only [sliceBounds, HT.sIx, Option.getD_none, show (1 : Int) > 0 by decide, if_true]
      by_cases h : i < 0
      · simp only [h, if_true] <;> omega
      · simp only [h, if_false] <;> omega
  · cases hi with
    | none => simp [sliceBounds, HT.sIx]
    | some i =>
      simp only [sliceBounds, HT.sIx, Option.getD_none, show (1 : Int) > 0 by decide, if_true]
      by_cases h : i < 0
      · simp only [h, if_true] <;> omega
      · simp only [h, if_false] <;> omega
theorem slicePick_cut (its : List Value) (lo hi : Option Int) : slicePick its.toArray lo hi none = ((its.drop (HT.sIx its.length 0 lo)).take (HT.sIx its.length its.length hi - HT.sIx its.length 0 lo)).toArray := by
  obtain ⟨h1, h2, h3⟩ := slice_bounds lo hi its.toArray.size
  unfold slicePick
  rw [h1, h2, h3]
  simp only [sliceRange_one, pick_run, List.size_toArray] <;> rfl
/-- xs[lo:hi] of a list: a new list -/
def rSlL (K : PySem.W.Frag) : V → Option Int → Option Int → Hp → VK → Prop := fun x lo hi H Q => ∃ a xs, x = .ref a ∧ SqL K H a xs ∧ ∀ p, H p = none → Q (.ref p) (upd H p (.lst (cutV xs lo hi)))
theorem sl_list : SlR X (rSlL X.K) := by
  intro pins s σ H x v vl vu lo hi sl Q I rx hs pl pu h
  obtain ⟨a, xs, rfl, hx, q⟩ := h
  cases rx
  obtain ⟨its, r, ht, hz⟩ := I.list hx
  have hlen := r.length
  refine ⟨"list", _, slot_list_getitem.lookup, ht.isList.typeIs, ?_⟩
  refine wpAny_getItem_list_slice ht.isList hs pl pu .none (by simp) ?_ (by rw [List.size_toArray] <;> omega)
  rw [slicePick_cut, ← hlen]
  refine ⟨.ref s.heap.objs.size, _, I.laid (t' := s.toks) (o := .lst (cutV xs lo hi)) (fun b ob q => Heap.get?_push_of_some _ q) (Nat.le_refl _) ?_, rfl, q _ (I.hok.fresh (Nat.le_refl _))⟩
  exact ⟨Nat.le_trans (cutV_length xs lo hi) hz, _, 0, (r.drop (HT.sIx xs.length 0 lo)).take (HT.sIx xs.length xs.length hi - HT.sIx xs.length 0 lo), Heap.get?_push_size _ rfl⟩

/-! ### in, not in: flat items -/
/-! ### len, list(x), tuple(x) of any list or tuple that is read -/
theorem call_len_str : CallR X (.builtin "len") (fun xs H Q => ∃ z, xs = [.str z] ∧ z.length ≤ sizeLine ∧ Q (.int z.length) H) := by
  intro pins s σ H xs us Q I r h
  obtain ⟨z, rfl, hz, q⟩ := h
  obtain ⟨u, rfl, t, rfl⟩ := vals1 r
  have hn := line63
  exact len_str (by omega) ⟨.int z.length, H, I.tok _, ⟨_, rfl⟩, q⟩
theorem call_list_of : CallR X (.type "list") (fun xs H Q => ∃ p ys, xs = [.ref p] ∧ (SqL X.K H p ys ∨ SqT X.K H p ys) ∧ ∀ l, H l = none → Q (.ref l) (upd H l (.lst ys))) := by
  intro pins s σ H xs us Q I r h
  obtain ⟨p, ys, rfl, hq, q⟩ := h
  obtain ⟨u, rfl, rx⟩ := vals1 r
  cases rx
  have fin : ∀ (its : List Value), Vals ys its → ys.length ≤ sizeLine → ∀ (h' : Heap) (c' : Nat), (∀ b o', s.heap.get? b = some o' → h'.get? b = some o') →
      h'.get? s.heap.objs.size = some { cls := .type "list", dict := none, data := .seq its.toArray c', slots := #[] } → EP X pins σ Q (.ref s.heap.objs.size) { s with heap := h' } := fun its r' hz h' c' kp e =>
    ⟨.ref s.heap.objs.size, _, I.laid (t' := s.toks) kp (Nat.le_refl _) (show ObjOk X.prog X.w _ h' _ (.lst ys) from ⟨hz, its, c', r', e⟩), rfl, q _ (I.hok.fresh (Nat.le_refl _))⟩
  rcases hq with hq | hq
  · obtain ⟨its, r', pl, hz⟩ := I.list hq
    have hlen := r'.length
    obtain ⟨o, ho, hc, n, hd⟩ := pl.isList
    exact call_list_seq p (.inl rfl) ho hc hd (fun h' c' kp e => fin its r' hz h' c' kp e) (by simp only [List.size_toArray] <;> omega)
  · obtain ⟨its, r', pl, hz⟩ := I.tuple hq
    have hlen := r'.length
    obtain ⟨o, ho, hc, n, hd⟩ := pl
    exact call_list_seq p (.inr rfl) ho hc hd (fun h' c' kp e => fin its r' hz h' c' kp e) (by simp only [List.size_toArray] <;> omega)
/-! ### the call of a builtin's method: o.m(..) -/
/-- the value is of that builtin type -/
def tyV (K : PySem.W.Frag) (T : String) (x : V) (H : Hp) : Prop := match x with
  | .str _ => T = "str"
  | .int _ => T = "int"
  | .ref p => (T = "list" ∧ ∃ xs, SqL K H p xs) ∨ (T = "tuple" ∧ ∃ o, K.lookup p = some o ∧ o.cls = .type "tuple" ∧ o.dict = none) ∨
      (T = "dict" ∧ ((∃ kvs, H p = some (.dK kvs)) ∨ ∃ kvs, H p = some (.dT kvs))) ∨ (T = "set" ∧ ∃ S n, H p = some (.set S n))
  | _ => False
theorem tyV_is {pins : List (Addr × Obj)} {σ : St} {H : Hp} {s : Shared} {T : String} {x : V} {v : Value} (I : Inv X pins σ H s) (r : RelV x v) (ty : tyV X.K T x H) :
    s.TypeIs v T ∧ ∀ a, v = .ref a → ∃ ob, s.heap.get? a = some ob ∧ ob.dict = none := by
  cases x with
  | str z =>
    obtain ⟨t, rfl⟩ := r
    cases (show T = "str" from ty)
    exact ⟨typeIs_str s z t, fun _ e => nomatch e⟩
  | int i =>
    obtain ⟨t, rfl⟩ := r
    cases (show T = "int" from ty)
    exact ⟨typeIs_int s i t, fun _ e => nomatch e⟩
  | ref p =>
    cases r
    rcases ty with ⟨rfl, xs, hq⟩ | ⟨rfl, o, hk, hc, hd⟩ | ⟨rfl, hk⟩ | ⟨rfl, S, n, hk⟩
    · obtain ⟨its, _, pl, _⟩ := I.list hq
      refine ⟨pl.isList.typeIs, fun a e => ?_⟩
      cases e
      obtain ⟨o, n, e, c, hd, _⟩ := pl
      exact ⟨o, e, hd⟩
    · refine ⟨⟨o, I.kIn p o hk, hc⟩, fun a e => ?_⟩
      cases e
      exact ⟨o, I.kIn _ o hk, hd⟩
    · have z : ∃ o, s.heap.get? p = some o ∧ o.ExactDict := by
        rcases hk with ⟨kvs, hk⟩ | ⟨kvs, hk⟩
        · obtain ⟨_, _, _, _, o, _, _, e, ex, _⟩ := I.hok p _ hk
          exact ⟨o, e, ex⟩
        · obtain ⟨_, _, _, _, o, _, _, e, ex, _⟩ := I.hok p _ hk
          exact ⟨o, e, ex⟩
      obtain ⟨o, e, ex⟩ := z
      refine ⟨⟨o, e, ex.1⟩, fun a e2 => ?_⟩
      cases e2
      exact ⟨o, e, ex.2.1⟩
    · obtain ⟨o, _, _, _, e, ex, _⟩ := I.hok p _ hk
      refine ⟨⟨o, e, ex.1⟩, fun a e2 => ?_⟩
      cases e2
      exact ⟨o, e, ex.2.1⟩
  | _ => exact False.elim ty
def tBM0 (K : PySem.W.Frag) (T : String) (r : V → List V → Hp → VK → Prop) (to : TE) : TE := fun σ H Q => to σ H fun x H1 => tyV K T x H1 ∧ r x [] H1 Q
def tBM (K : PySem.W.Frag) (T : String) (r : V → List V → Hp → VK → Prop) (to : TE) (t : TA) : TE := fun σ H Q => to σ H fun x H1 => tyV K T x H1 ∧ t σ H1 fun xs H2 => r x xs H2 Q
variable {o e : Expr} {es : List Expr} {to : TE} {t : TA} {name : Str} {apos cpos : Pos} {T id : String} {r : V → List V → Hp → VK → Prop}
theorem pe_bm0 (pa : PlainAttrs T) (slot : Slot T name id) (hty : typeOf (.builtin id) = pure (.type "method_descriptor")) (hm : MtR X id r) (ho : PE X o to)
    (hbase : attributeBase o name X.env (eval o X.env) = eval o X.env := by rfl) (hline : (apos.endLine == cpos.line) = true := by rfl) : PE X (.Call (.Attribute o name apos) [] [] cpos) (tBM0 X.K T r to) := by
  intro pins s σ H Q I h
  refine wpAny_Call_method0_late hbase hline (thn (ho pins s σ H _ I h) fun v s1 ⟨x, H1, I1, r1, ty, q1⟩ => ?_)
  obtain ⟨h1, h2⟩ := tyV_is I1 r1 ty
  exact ⟨T, id, pa, slot, hty, h1, h2, Calls.callWith_builtin rfl (PySem.evalArgs_none (hm pins s1 σ H1 x [] v [] Q I1 r1 .nil q1))⟩
theorem pe_bm (pa : PlainAttrs T) (slot : Slot T name id) (hty : typeOf (.builtin id) = pure (.type "method_descriptor")) (hm : MtR X id r) (ho : PE X o to) (ha : PA X (e :: es) t)
    (hbase : attributeBase o name X.env (eval o X.env) = eval o X.env := by rfl)
    (hfew : ((backTo cpos (starEach (e :: es) X.env)).all (fun x => !x.1) && (backToKw cpos (keywordEach [] X.env)).all (fun x => x.1.isSome)
      && decide ((e :: es).length + ([] : List Keyword).length + (if ([] : List Keyword).isEmpty then 0 else 1) < 30)) = true := by rfl)
    (hline : (apos.endLine == cpos.line) = true := by rfl) (hs : starEach (e :: es) X.env = (false, eval e X.env) :: starEach es X.env := by rfl) (hplain : (backTo cpos (starEach es X.env)).any (·.1) = false := by rfl) :
    PE X (.Call (.Attribute o name apos) (e :: es) [] cpos) (tBM X.K T r to t) := by
  intro pins s σ H Q I h
  refine wpAny_Call_method_late hbase hfew hline rfl (thn (ho pins s σ H _ I h) fun v s1 ⟨x, H1, I1, r1, ty, q1⟩ => ?_)
  obtain ⟨h1, h2⟩ := tyV_is I1 r1 ty
  refine ⟨T, id, pa, slot, hty, h1, h2, ?_⟩
  have hA := ha cpos pins s1 σ H1 _ I1 q1
  rw [hs] at hA ⊢
  refine Calls.callWith_builtin (by show (false || (backTo cpos (starEach es X.env)).any (·.1)) = false; rw [hplain] <;> rfl) (Calls.evalArgs_plain ?_)
  exact thn hA fun us s2 ⟨vs, H2, I2, r2, q2⟩ => hm pins s2 σ H2 x vs v us Q I2 r1 r2 q2
/- xs.append(e), list.index on a module's tuple .. are MtR facts of 06m -/
end
end L2

namespace L2
open PySem PySem.Spec PyProof.Rows

def MtM (X : Cx) (id : String) (r : V → List V → Hp → VK → Prop) : Prop :=
  ∀ (pins : List (Addr × Obj)) (s : Shared) (σ : St) (H : Hp) (x : V) (xs : List V) (v : Value) (us : List Value) (Q : VK), Inv X pins σ H s → RelV x v → Vals xs us → r x xs H Q →
    wpAny (model X.prog X.w) X.A (call (.builtin id) (v :: us)) (EP X pins σ Q) X.xe s

/-! ### lists of values -/
theorem Vals.one : ∀ {x : V} {us : List Value}, Vals [x] us → ∃ u, us = [u] ∧ RelV x u
  | _, _, .cons r .nil => ⟨_, rfl, r⟩
theorem Vals.two : ∀ {x y : V} {us : List Value}, Vals [x, y] us → ∃ u v, us = [u, v] ∧ RelV x u ∧ RelV y v
  | _, _, _, .cons r (.cons q .nil) => ⟨_, _, rfl, r, q⟩
theorem Vals.zero : ∀ {us : List Value}, Vals [] us → us = []
  | _, .nil => rfl
theorem Vals.dropLast {xs : List V} {us : List Value} (h : Vals xs us) : Vals xs.dropLast us.dropLast := by
  induction h with
  | nil => exact .nil
  | cons r t ih =>
    cases t with
    | nil => exact .nil
    | cons q t' => exact .cons r ih
theorem erase_last {α : Type} (l : List α) : l.eraseIdx (l.length - 1) = l.dropLast := by
  induction l with
  | nil => rfl
  | cons a r ih =>
    cases r with
    | nil => rfl
    | cons b r =>
      have e : (a :: b :: r).length - 1 = ((b :: r).length - 1) + 1 := by
        have h1 : (a :: b :: r).length = r.length + 2 := rfl
        have h2 : (b :: r).length = r.length + 1 := rfl
        omega
      rw [e, List.eraseIdx_cons_succ, ih]
      all_goals rfl
section
variable {X : Cx} {pins : List (Addr × Obj)} {σ : St} {H : Hp} {s : Shared} {l b : Addr} {xs ys zs : List V}

/-! ### the two steps: a tracked list is rewritten, a new list is laid -/
theorem Inv.lset {its its' : List Value} {n : Nat} {f : Array Value → Array Value} {t' : Nat} (I : Inv X pins σ H s) (hH : H l = some (.lst xs))
    (e : s.heap.get? l = some { cls := .type "list", data := .seq its.toArray n }) (hf : f its.toArray = its'.toArray) (hv : Vals ys its') (hz : ys.length ≤ sizeLine) :
    Inv X pins σ (upd H l (.lst ys)) { s with heap := s.heap.update l (Obj.mapSeq f), toks := t' } := by
  have q := PySem.IsL.update e f
  rw [hf] at q
  refine I.write (x := l) (e := l) (by rw [hH]; exact trivial) (.inl rfl) (fun b' u hb hu => (Heap.get?_update_other s.heap (Obj.mapSeq f) (Ne.symm hb)).trans hu) ⟨_, q⟩ ?_
  exact ⟨hz, its', _, hv, q⟩
theorem Inv.lnew {its : List Value} {t' : Nat} (I : Inv X pins σ H s) (hv : Vals ys its) (hz : ys.length ≤ sizeLine) :
    Inv X pins σ (upd H s.heap.objs.size (.lst ys)) { s with heap := s.heap.push { cls := .type "list", data := .seq its.toArray }, toks := t' } :=
  I.laid (fun _ _ q => Heap.get?_push_of_some _ q) (Nat.le_refl _) ⟨hz, its, 0, hv, Heap.get?_push_size _ rfl⟩
theorem Inv.fresh (I : Inv X pins σ H s) : H s.heap.objs.size = none := I.hok.fresh (Nat.le_refl _)
theorem Inv.lstM (I : Inv X pins σ H s) (hH : H l = some (.lst xs)) : xs.length ≤ sizeLine ∧ ∃ (its : List Value) (n : Nat), Vals xs its ∧ xs.length = its.length ∧ s.heap.get? l = some { cls := .type "list", data := .seq its.toArray n } := by
  obtain ⟨z, its, n, r, e⟩ := I.hok l _ hH
  exact ⟨z, its, n, r, r.length, e⟩

theorem notLongL {n : Nat} (h : n ≤ sizeLine) : Builtin.List.listTooLong n = false := by
  unfold Builtin.List.listTooLong
  exact decide_eq_false (by omega)
end

section
variable {X : Cx}

/-! ### methods -/
def rAppend : V → List V → Hp → VK → Prop := fun x vs H Q => ∃ l xs y, x = .ref l ∧ vs = [y] ∧ H l = some (.lst xs) ∧ xs.length < sizeLine ∧ Q .non (upd H l (.lst (xs ++ [y])))
theorem mt_append : MtM X "list.append" rAppend := by
  intro pins s σ H x vs v us Q I rx rv h
  obtain ⟨l, xs, y, rfl, rfl, hH, hz, q⟩ := h
  cases rx
  obtain ⟨u, rfl, ru⟩ := rv.one
  obtain ⟨z, its, n, r, hl, e⟩ := I.lstM hH
  refine call_meets F.slot_list_append ⟨_, e, rfl⟩ F.entry_list_append (F.args_list_append_2 _ _) (PySem.list_append l its.toArray n u (by rw [List.size_toArray]; omega)) ⟨e, ?_⟩
  refine ⟨.non, _, I.lset (its' := its ++ [u]) hH e (by simp) (r.append (.cons ru .nil)) ?_, rfl, q⟩
  rw [List.length_append, List.length_singleton]
  omega

def rExtend : V → List V → Hp → VK → Prop := fun x vs H Q => ∃ l b xs zs, x = .ref l ∧ vs = [.ref b] ∧ H l = some (.lst xs) ∧ H b = some (.lst zs) ∧ xs.length + zs.length ≤ sizeLine ∧ Q .non (upd H l (.lst (xs ++ zs)))
theorem mt_extend : MtM X "list.extend" rExtend := by
  intro pins s σ H x vs v us Q I rx rv h
  obtain ⟨l, b, xs, zs, rfl, rfl, hH, hB, hz, q⟩ := h
  cases rx
  obtain ⟨u, rfl, ru⟩ := rv.one
  cases ru
  obtain ⟨z, its, n, r, hl, e⟩ := I.lstM hH
  obtain ⟨z2, its2, n2, r2, hl2, e2⟩ := I.lstM hB
  have hsz : its.toArray.size + its2.toArray.size ≤ sizeLine := by rw [List.size_toArray, List.size_toArray]; omega
  have hlong : ¬ (!its.toArray.isEmpty && Builtin.List.listTooLong (its.toArray.size + its2.toArray.size)) = true := by
    rw [notLongL hsz, Bool.and_false]
    exact Bool.false_ne_true
  refine call_meets F.slot_list_extend ⟨_, e, rfl⟩ F.entry_list_extend (F.args_list_extend_2 _ _)
    (AutoSeq1.list_extend_list_list_0 l its.toArray n b its2.toArray n2 hlong (by rw [List.size_toArray]; omega) (by omega)) ⟨e, e2, ?_⟩
  refine ⟨.non, _, I.lset (its' := its ++ its2) hH e (by simp) (r.append r2) ?_, rfl, q⟩
  rw [List.length_append]
  omega

def rPop : V → List V → Hp → VK → Prop := fun x vs H Q => ∃ l xs y, x = .ref l ∧ vs = [] ∧ H l = some (.lst xs) ∧ xs[xs.length - 1]? = some y ∧ Q y (upd H l (.lst xs.dropLast))
theorem mt_pop : MtM X "list.pop" rPop := by
  intro pins s σ H x vs v us Q I rx rv h
  obtain ⟨l, xs, y, rfl, rfl, hH, hy, q⟩ := h
  cases rx
  have hus := rv.zero
  subst hus
  obtain ⟨z, its, n, r, hl, e⟩ := I.lstM hH
  obtain ⟨u, hu, ru⟩ := r.get hy
  have hy' : its.toArray[its.toArray.size - 1]? = some u := by
    show its.toArray[its.length - 1]? = some u
    rw [← Array.getElem?_toList, ← hl]
    exact hu
  refine call_meets F.slot_list_pop ⟨_, e, rfl⟩ F.entry_list_pop (F.args_list_pop_1 _) (MeetsSeq.list_pop_last l its.toArray n u hy' (by rw [List.size_toArray]; omega)) ⟨e, ?_⟩
  refine ⟨y, _, I.lset (its' := its.dropLast) hH e ?_ r.dropLast ?_, ru, q⟩
  · show its.toArray.eraseIdxIfInBounds (its.toArray.size - 1) = its.dropLast.toArray
    rw [List.size_toArray, List.eraseIdxIfInBounds_toArray, erase_last]
  · rw [List.length_dropLast]
    omega

def rClear : V → List V → Hp → VK → Prop := fun x vs H Q => ∃ l xs, x = .ref l ∧ vs = [] ∧ H l = some (.lst xs) ∧ Q .non (upd H l (.lst []))
theorem mt_clear : MtM X "list.clear" rClear := by
  intro pins s σ H x vs v us Q I rx rv h
  obtain ⟨l, xs, rfl, rfl, hH, q⟩ := h
  cases rx
  have hus := rv.zero
  subst hus
  obtain ⟨z, its, n, r, hl, e⟩ := I.lstM hH
  refine call_meets F.slot_list_clear ⟨_, e, rfl⟩ F.entry_list_clear (F.args_list_clear_1 _) (AutoSeq1.list_clear_list_0 l its.toArray n (by rw [List.size_toArray]; omega)) ⟨e, ?_⟩
  exact ⟨.non, _, I.lset (its' := []) (ys := []) hH e rfl .nil (Nat.zero_le _), rfl, q⟩

/-! ### list + list, list += list, list * int -/
def rCat : R2 := fun x y H Q => ∃ l b xs zs, x = .ref l ∧ y = .ref b ∧ H l = some (.lst xs) ∧ H b = some (.lst zs) ∧ xs.length + zs.length ≤ sizeLine ∧ ∀ p, H p = none → Q (.ref p) (upd H p (.lst (xs ++ zs)))
theorem op_cat : OpR X (binaryOp .Add) rCat := by
  intro pins s σ H x y v u Q I rx ry h
  obtain ⟨l, b, xs, zs, rfl, rfl, hH, hB, hz, q⟩ := h
  cases rx
  cases ry
  obtain ⟨z, its, n, r, hl, e⟩ := I.lstM hH
  obtain ⟨z2, its2, n2, r2, hl2, e2⟩ := I.lstM hB
  refine PySem.P.add_list e e2 ?_ (by rw [List.size_toArray, List.size_toArray]; omega)
  have ea : its.toArray ++ its2.toArray = (its ++ its2).toArray := by simp
  rw [ea]
  exact ⟨.ref _, _, I.lnew (t' := s.toks) (r.append r2) (by rw [List.length_append]; omega), rfl, q _ I.fresh⟩
/-! ### del xs[i] -/
end

/-! ### xs[a:b] = ys -/
section
variable {prog : Program} {w : World} {A : Around} {E : Value → Shared → Prop} {s : Shared}
set_option maxRecDepth 100000 in
end

section
variable {X : Cx}
end
end L2

namespace L2
open PySem PySem.Spec PyProof.Rows

/-! ### lists of pairs as tables -/
section
variable {κ : Type} [DecidableEq κ]
end

/-! ### a tracked dict, its keys ints and texts or tuples of these -/
section
variable {P : Program} {w : World} {H : Hp} {h : Heap} {a : Addr}
end

section
variable {X : Cx} {pins : List (Addr × Obj)} {σ : St} {H : Hp} {s : Shared} {a : Addr} {y v : V} {u r : Value} {o : Option V} {A : Around} {E : Value → Shared → Prop}

end

section
variable {X : Cx} {pins : List (Addr × Obj)} {σ : St} {H : Hp} {s : Shared} {a : Addr} {kvs : List (Key × V)} {k : Key} {u : Value} {A : Around} {E : Value → Shared → Prop}
end

/-! ### readings and rules -/
section
variable {X : Cx} {o i e value : Expr} {pos pos' tpos : Pos} {td ty tv : TE}
end

/-! ### displays -/
section
variable {X : Cx} {pos : Pos}
end

/-! ### methods -/
/-- a method call o.m(e) of a built-in, with one argument: what must be seen of the text -/
structure M1 (X : Cx) (o : Expr) (m : Str) (apos : Pos) (e : Expr) (cpos : Pos) : Prop where
  base : attributeBase o m X.env (eval o X.env) = eval o X.env
  few : ((backTo cpos (starEach [e] X.env)).all (fun x => !x.1) && (backToKw cpos (keywordEach [] X.env)).all (fun x => x.1.isSome)
    && decide (([e] : List Expr).length + ([] : List Keyword).length + (if ([] : List Keyword).isEmpty then 0 else 1) < 30)) = true
  line : (apos.endLine == cpos.line) = true
  trees : backTo cpos (starEach [e] X.env) = [(false, eval e X.env)]
structure M2 (X : Cx) (o : Expr) (m : Str) (apos : Pos) (e f : Expr) (cpos : Pos) : Prop where
  base : attributeBase o m X.env (eval o X.env) = eval o X.env
  few : ((backTo cpos (starEach [e, f] X.env)).all (fun x => !x.1) && (backToKw cpos (keywordEach [] X.env)).all (fun x => x.1.isSome)
    && decide (([e, f] : List Expr).length + ([] : List Keyword).length + (if ([] : List Keyword).isEmpty then 0 else 1) < 30)) = true
  line : (apos.endLine == cpos.line) = true
  trees : backTo cpos (starEach [e, f] X.env) = [(false, eval e X.env), (false, eval f X.env)]

section
variable {X : Cx} {pins : List (Addr × Obj)} {σ : St} {H : Hp} {s : Shared} {a : Addr} {y d : V} {u r : Value} {o : Option V} {A : Around} {E : Value → Shared → Prop}
end

section
variable {X : Cx} {o e f : Expr} {apos cpos : Pos} {td ty tx : TE}
end

/-! ### dict(d): a copy -/
section
variable {X : Cx} {pins : List (Addr × Obj)} {σ : St} {H : Hp} {s : Shared} {a : Addr} {kvs : List (Key × V)} {A : Around} {E : Value → Shared → Prop}
end

section
variable {X : Cx} {pins : List (Addr × Obj)} {σ : St} {H : Hp} {s : Shared} {a : Addr} {y : V} {u : Value} {A : Around} {E : Value → Shared → Prop}
end
end L2

namespace Att
open PySem PySem.W PySem.Calls PyProof.Rows

/-! ### the script -/
theorem ints_of_wellAll {P : Params} {h : Heap} : ∀ (ns : List Int) (vs : List Value), WellAll P h vs (ns.map WData.int) → IntsAre vs ns := by
  intro ns
  induction ns with
  | nil =>
    intro vs w
    rw [List.map_nil] at w
    cases w
    exact .nil
  | cons n ns ih =>
    intro vs w
    rw [List.map_cons] at w
    cases w with
    | cons a b =>
      cases a
      exact .cons _ _ (ih _ b)

theorem script_of {l : OpenLaw} {n : Nat} (hn : l.most = some n) {P : Params} {h : Heap} {args : List WData} {vals : List Value}
    (hpre : l.row.toRowW.claim.pre args = true) (hwl : WellAll P h vals args) :
    ∃ a vs ns, vals = [Value.ref a] ∧ args = [WData.list (ns.map WData.int)] ∧ h.get? a = some { cls := .type "list", data := .seq vs.toArray } ∧ IntsAre vs ns ∧ ns.length ≤ n := by
  have hsh : WShape.hasAll [] args [.list .int] = true := (pre_splitW hpre).1
  have hc : l.pre.holds [] { args := args } = true := (pre_splitW hpre).2
  obtain ⟨d, r, rfl, h1, h2⟩ := hasAllW_cons hsh
  obtain rfl := hasAllW_nil h2
  obtain ⟨xs, rfl, h3⟩ := hasW_list h1
  obtain ⟨ns, rfl⟩ := items_int h3
  have hlen : ns.length ≤ n := by
    unfold OpenLaw.pre at hc
    have h4 : (WTm.not (.lt (.lit (.int (n : Int))) (.len (.arg 0)))).holds [] { args := [.list (ns.map .int)] } = true := by
      have h4 := (holds_andW hc).1
      rw [hn] at h4
      exact h4
    have h5 := condW_of h4 (w_not (w_lt w_lit (w_len_list (w_arg rfl))))
    rw [List.length_map] at h5
    refine Nat.le_of_not_lt fun q => ?_
    have q' : (n : Int) < ((ns.length : Nat) : Int) := by omega
    first
      | (rw [decide_eq_true q'] at h5; exact absurd h5 (by decide))
      | (simp at h5; omega)
  cases hwl with
  | cons w1 w2 =>
    cases w2
    cases w1 with
    | list ho hall => exact ⟨_, _, ns, rfl, rfl, ho, ints_of_wellAll ns _ hall, hlen⟩

theorem post_true (l : OpenLaw) (args : List WData) : l.row.toRowW.claim.post args (.bool true) args = true :=
  postW_of (r := l.row.toRowW) (X := (true == true))
    (show WShape.has [] (.bool true) .bool = true by first | rfl | decide | simp [WShape.has, WShape.arms, WShape.armsAll])
    (show (WTm.eq .res (.lit (.bool true))).value [] { args := args, res := some (.bool true), after := args } = some (.bool (true == true)) from w_eq_bool (w_res rfl) w_lit) rfl

/-! ### the attachment: holds_open's last premise (the goal 'hc' behind k_head) from a wpAny of the law's body -/
/-- the same from a codeAny of the CALL (for a layer whose function contracts speak of calls) -/
theorem attach_call {l : OpenLaw} {n : Nat} {q : Program} {loose : List Str} {XP : (Str → Option Value) → Heap → Prop} {YP : World → Heap → Prop} {d : DefRec}
    (hn : l.most = some n) (hdf : d.params.defaults = [])
    (call : ∀ (w : World) (s₀ s₁ : Shared) (mg mb : Str → Option Value) (fa : Addr) (o : Obj) (pm cd doc : Value) (a : Addr) (vs : List Value) (ns : List Int),
      Ground q loose [] XP w s₀ mg mb s₁.heap → YP w s₁.heap →
      s₁.heap.get? fa = some o → o.data = .func (docDef d.name d.params d.body d.scope pm cd doc) → s₁.heap.CodeRec cd d.name → mg d.name = some (.ref fa) →
      s₁.heap.get? a = some { cls := .type "list", data := .seq vs.toArray } → IntsAre vs ns → ns.length ≤ n → s₁.gens = #[] →
      codeAny (model l.prog w) callerA (.call (.ref fa) ⟨[.ref a], []⟩) (fun r s' => r = .ok (.ret (.bool true)) ∧ OldK s₁.heap s'.heap ∧ s'.os = s₁.os ∧ AllBare s'.gens) s₁) :
    WalkO q loose XP YP l.row.toRowW d [] (fun f vs => PySem.call f vs) := by
  intro w s₀ s₁ mg mb G Y fa o pm cd doc dV kV ho hd hcd hD hmg hg args vals as hpre hlay hrd hwl hlo
  obtain rfl : dV = .none := Dflts.none hD hdf
  obtain rfl : kV = .none := Dflts.noKw hD
  obtain ⟨a, vs, ns, rfl, rfl, hobj, hints, hlen⟩ := script_of hn hpre hwl
  refine enter_call (codeAny_mono (call w s₀ s₁ mg mb fa o pm cd doc a vs ns G Y ho (fd_plain hd) hcd hmg hobj hints hlen hg) fun r s' hq => ?_)
  obtain ⟨rfl, h2, h3, h4⟩ := hq
  exact ⟨.inl ⟨.bool true, .bool true, [], rfl, fun _ => rfl, .bool true, post_true l _, fun _ => ⟨List.Pairwise.nil, fun _ hm => (nomatch hm)⟩⟩, h2, h3, h4⟩

/-! ### rules over ANY heap (no ledger) from facts about the written part K: the library's own take a ledger (News) for what they write -/
section
variable {prog : Program} {w : World} {A : Around} {E : Value → Shared → Prop} {s : Shared} {K : Frag}

/-! the whole heap as the ledger: makes every rule that writes through a ledger a rule over any heap -/
def ledger (h : Heap) (L d : Addr) : List (Addr × Obj) := (List.range h.objs.size).filterMap fun a => if a = L ∨ a = d then none else (h.get? a).map fun o => (a, o)
end
end Att

namespace L2
open PySem PySem.Spec PyProof.Rows

theorem vals_ints : ∀ {vs : List Value} {ns : List Int}, IntsAre vs ns → Vals (ns.map V.int) vs
  | _, _, .nil => .nil
  | _, _, .cons n t h => .cons ⟨t, rfl⟩ (vals_ints h)

end L2

namespace L2
open PySem PySem.Spec PyProof.Rows

end L2

/-! SHORT WORDS over the layer: a def of the text, its body, what a loop and a test want. -/
namespace L2
open PySem PySem.Spec PyProof.Rows

/-! ### the text by places -/
def defArgs (s : Stmt) : Arguments := match s with
  | .FunctionDef _ a _ _ _ _ _ _ _ _ => a
  | _ => { posonlyargs := [], args := [], vararg := none, kwonlyargs := [], kw_defaults := [], kwarg := none, defaults := [] }
def defBody (s : Stmt) : List Stmt := match s with
  | .FunctionDef _ _ b _ _ _ _ _ _ _ => b
  | _ => []
def defScope (s : Stmt) : Scope := match s with
  | .FunctionDef _ _ _ _ _ _ sc _ _ _ => sc
  | _ => { kind := .function, names := [], isGenerator := false, isCoroutine := false }

/-! ### no exception leaves a def -/
abbrev CX0 : CXT := fun _ _ _ _ _ _ => False
abbrev E0 : XK := fun _ _ _ => False
theorem pass0 {X : Cx} : Passes CX0 X E0 := fun _ _ _ _ _ _ _ h => h.elim

/-! ### a def (or method) of the text as it stands behind the top -/
structure Fun (K : PySem.W.Frag) (x qual : Str) (st : Stmt) (f : Addr) (fd : FuncData) : Prop where
  ex : ∃ (oc : Value) (od : Option Addr) (kV doc pm : Value) (an : Option Addr) (cdv ct : Value) (osl : Array (Option Value)),
    fd = PySem.W.fnOf x qual (defArgs st) (defBody st) (defScope st) .none kV doc pm an cdv ct ∧ K.lookup f = some ⟨oc, od, .func fd, osl⟩ ∧ PySem.W.codeIn K cdv qual = true
  kp : PySem.W.keepIn K (.ref f) = true
section
variable {P : Program} {w : World} {K : PySem.W.Frag} {mg : Str → Option Value} {base : Heap}
/-- THE RULE for a def: its body as a term of rules, and the reading of that term -/
theorem Fun.ok {x qual : Str} {st : Stmt} {f : Addr} {fd : FuncData} {N ps : List Str} {k : Nat} {sp : Sp} (F : Fun K x qual st f fd) (S : FnScope N ps (defScope st)) (len : ∀ vs H Q E, sp vs H Q E → vs.length = ps.length)
    (hbody : ∀ (cdv : Value) (A : Around) (outer : List Env) (s : Shared) (H : Hp) (vs : List V) (Q : VK) (E : XK), Room k (A.deeper (envOfC qual (defScope st) s.heap.objs.size f cdv)) → sp vs H Q E →
      ∃ t, PSs (cxOf CX0 P w K mg base N qual (defScope st) f cdv A outer s H E).nox (defBody st) t ∧ t { nx := fun _ H' => Q .non H', rt := Q } (start N vs) H) : FnOk P w K mg base CX0 (k + 1) f fd ps sp := by
  obtain ⟨oc, od, kV, doc, pm, an, cdv, ct, osl, rfl, lk, hcd⟩ := F.ex
  refine fn_of lk hcd S len fun A outer s H vs Q E hr hsp => ?_
  obtain ⟨t, h, q⟩ := hbody cdv A outer s H vs Q E hr hsp
  exact ⟨t, h.nox, q⟩
/-- how its arguments bind (no defaults): h is «fun _ _ _ _ _ _ us hl => match us, hl with | [_, _], _ => rfl», one _ a parameter -/
theorem Fun.binds {x qual : Str} {st : Stmt} {f : Addr} {fd : FuncData} {ps : List Str} (F : Fun K x qual st f fd)
    (h : ∀ (kV doc pm : Value) (an : Option Addr) (cdv ct : Value) (us : List Value), us.length = ps.length → bindArgs (PySem.W.fnOf x qual (defArgs st) (defBody st) (defScope st) .none kV doc pm an cdv ct) ⟨us, []⟩ = pure (ps.zip us)) : Binds K fd ps [] := by
  obtain ⟨oc, od, kV, doc, pm, an, cdv, ct, osl, rfl, lk, hcd⟩ := F.ex
  exact .all (h kV doc pm an cdv ct)
theorem fun_mk {x qual : Str} {st : Stmt} {f : Addr} {oc : Value} {od an : Option Addr} {osl : Array (Option Value)} {kV doc pm cdv ct : Value} (l : K.lookup f = some ⟨oc, od, .func (PySem.W.fnOf x qual (defArgs st) (defBody st) (defScope st) .none kV doc pm an cdv ct), osl⟩)
    (c : PySem.W.codeIn K cdv qual = true) (k : PySem.W.keepIn K (.ref f) = true) : Fun K x qual st f (PySem.W.fnOf x qual (defArgs st) (defBody st) (defScope st) .none kV doc pm an cdv ct) := ⟨⟨oc, od, kV, doc, pm, an, cdv, ct, osl, rfl, l, c⟩, k⟩
end
theorem small1000 {n : Nat} (h : n ≤ 1000) : n < sizeLine := Nat.lt_of_le_of_lt h (by decide)

/-! ### expressions in short: the name that stands in the i-th slot -/
section
variable {X : Cx}
theorem pv (i : Nat) {x : Str} {pos : Pos} (hN : X.N[i]? = some x := by rfl) (hv : Vis X.env.scope x := by first | exact Or.inl rfl | exact Or.inr (Or.inl rfl) | exact Or.inr (Or.inr rfl)) (hd : (x == ("__debug__" : Str)) = false := by decide)
    (hcd : (x == ("__classdict__" : Str)) = false := by decide) : PE X (.Name x pos) (tVar i) := pe_var hN hv hd hcd
end

/-! ### tests -/
theorem iteF {A B : Prop} (h : B) : if false = true then A else B := by
  rw [if_neg Bool.false_ne_true]
  exact h
theorem iteT {A B : Prop} (h : A) : if true = true then A else B := by
  rw [if_pos rfl]
  exact h
theorem ite2 {c A B : Prop} [Decidable c] (h1 : c → A) (h2 : ¬ c → B) : if c then A else B := by
  by_cases h : c
  · rw [if_pos h]
    exact h1 h
  · rw [if_neg h]
    exact h2 h
/-! ### heaps -/
/-- all that was tracked is as it was -/
def Same (H H' : Hp) : Prop := ∀ b o, H b = some o → H' b = some o
theorem Same.refl (H : Hp) : Same H H := fun _ _ h => h
theorem Same.trans {H H1 H2 : Hp} (a : Same H H1) (b : Same H1 H2) : Same H H2 := fun c o h => b c o (a c o h)
theorem Same.seq {K : PySem.W.Frag} {H H' : Hp} {a : Addr} {xs : List V} (e : Same H H') (h : SqL K H a xs) : SqL K H' a xs := by
  rcases h with (h | ⟨o, h⟩) | h
  · exact .inl (.inl (e _ _ h))
  · exact .inl (.inr ⟨o, e _ _ h⟩)
  · exact .inr h

/-! ### a dict's pairs: keys that differ -/
section
variable {κ : Type} [DecidableEq κ]
end
end L2

namespace L2
open PySem PySem.Spec PyProof.Rows

/-! ### small rules -/
section
variable {X : Cx} {a b c : Expr} {ta tb tc : TE} {pos : Pos}
/-- a name of the top that holds an int, a text, an object -/
theorem pe_gI {x : Str} {i : Int} (h : ∃ t, X.mg x = some (.int i t)) (hg : Gl X x := by rfl) (hd : (x == ("__debug__" : Str)) = false := by decide) : PE X (.Name x pos) (tC (.int i)) := by
  obtain ⟨t, h⟩ := h
  exact pe_glob hg h ⟨t, rfl⟩ hd
theorem pe_gS {x z : Str} (h : ∃ t, X.mg x = some (.str z t)) (hg : Gl X x := by rfl) (hd : (x == ("__debug__" : Str)) = false := by decide) : PE X (.Name x pos) (tC (.str z)) := by
  obtain ⟨t, h⟩ := h
  exact pe_glob hg h ⟨t, rfl⟩ hd
theorem pe_gR {x : Str} {f : Addr} (h : X.mg x = some (.ref f)) (hg : Gl X x := by rfl) (hd : (x == ("__debug__" : Str)) = false := by decide) : PE X (.Name x pos) (tC (.ref f)) := pe_glob hg h rfl hd
/-- a built-in type as a value -/
theorem pe_ty {x : Str} {T : String} (hm : X.mg x = none) (hv : bootBuiltins x = some (.type T)) (hg : Gl X x := by rfl) (hn : x ≠ "__name__" := by decide) (hd : (x == ("__debug__" : Str)) = false := by decide) : PE X (.Name x pos) (tC (.ty T)) := pe_bltn hg hm hv rfl hn hd
end

/-! ### data -/
mutual
inductive Dt (K : PySem.W.Frag) (H : Hp) : V → PyData → Prop where
  | non : Dt K H .non .none
  | bl (b : Bool) : Dt K H (.bl b) (.bool b)
  | int (i : Int) : Dt K H (.int i) (.int i)
  | str (x : Str) : Dt K H (.str x) (.str x)
  | lst {a : Addr} {xs : List V} {ds : List PyData} : SqL K H a xs → DtAll K H xs ds → Dt K H (.ref a) (.list ds)
  | tup {a : Addr} {xs : List V} {ds : List PyData} : SqT K H a xs → DtAll K H xs ds → Dt K H (.ref a) (.tuple ds)
  | dK {a : Addr} {kvs : List (Key × V)} : H a = some (.dK kvs) → Dt K H (.ref a) (.dict [])
  | dT {a : Addr} {kvs : List (List Key × V)} : H a = some (.dT kvs) → Dt K H (.ref a) (.dict [])
inductive DtAll (K : PySem.W.Frag) (H : Hp) : List V → List PyData → Prop where
  | nil : DtAll K H [] []
  | cons {v : V} {d : PyData} {vs : List V} {ds : List PyData} : Dt K H v d → DtAll K H vs ds → DtAll K H (v :: vs) (d :: ds)
end
section
variable {X : Cx} {pins : List (Addr × Obj)} {σ : St} {H H' : Hp} {s : Shared}
mutual
theorem Dt.reads (I : Inv X pins σ H s) : ∀ {v : V} {d : PyData} {u : Value}, Dt X.K H v d → RelV v u → d.canLay0 = true → ∃ as, Reads s.heap u d as
  | _, _, _, .non, r, _ => by cases r; exact ⟨_, .none⟩
  | _, _, _, .bl b, r, _ => by cases r; exact ⟨_, .bool b⟩
  | _, _, _, .int i, r, _ => by obtain ⟨t, rfl⟩ := r; exact ⟨_, .int i t⟩
  | _, _, _, .str x, r, _ => by obtain ⟨t, rfl⟩ := r; exact ⟨_, .str x t⟩
  | _, _, _, .lst h hd, r, l => by
    cases r
    obtain ⟨its, rv, ⟨o, n, e, hc, _, hs⟩, _⟩ := I.list h
    obtain ⟨as, ra⟩ := DtAll.reads I hd rv (by rw [PyData.canLay0] at l; exact l)
    exact ⟨_, .list e hc hs (by simpa using ra)⟩
  | _, _, _, .tup h hd, r, l => by
    cases r
    obtain ⟨its, rv, ⟨o, e, hc, n, hs⟩, _⟩ := I.tuple h
    obtain ⟨as, ra⟩ := DtAll.reads I hd rv (by rw [PyData.canLay0] at l; exact l)
    exact ⟨_, .tuple e hc hs (by simpa using ra)⟩
  | _, _, _, .dK _, _, l => by rw [PyData.canLay0] at l; cases l
  | _, _, _, .dT _, _, l => by rw [PyData.canLay0] at l; cases l
theorem DtAll.reads (I : Inv X pins σ H s) : ∀ {vs : List V} {ds : List PyData} {us : List Value}, DtAll X.K H vs ds → Vals vs us → PyData.canLayAll0 ds = true → ∃ as, ReadsAll s.heap us ds as
  | _, _, _, .nil, r, _ => by cases r; exact ⟨_, .nil⟩
  | _, _, _, .cons h hd, r, l => by
    rw [PyData.canLayAll0, Bool.and_eq_true] at l
    cases r with
    | cons r1 rr =>
      obtain ⟨as, ra⟩ := Dt.reads I h r1 l.1
      obtain ⟨bs, rb⟩ := DtAll.reads I hd rr l.2
      exact ⟨_, .cons ra rb⟩
end
theorem Same.seqT {K : PySem.W.Frag} {a : Addr} {xs : List V} (e : Same H H') (h : SqT K H a xs) : SqT K H' a xs := by
  rcases h with (h | ⟨o, h⟩) | h
  · exact .inl (.inl (e _ _ h))
  · exact .inl (.inr ⟨o, e _ _ h⟩)
  · exact .inr h
mutual
theorem Dt.same {K : PySem.W.Frag} (e : Same H H') : ∀ {v : V} {d : PyData}, Dt K H v d → Dt K H' v d
  | _, _, .non => .non
  | _, _, .bl b => .bl b
  | _, _, .int i => .int i
  | _, _, .str x => .str x
  | _, _, .lst h hd => .lst (e.seq h) (DtAll.same e hd)
  | _, _, .tup h hd => .tup (Same.seqT e h) (DtAll.same e hd)
  | _, _, .dK h => .dK (e _ _ h)
  | _, _, .dT h => .dT (e _ _ h)
theorem DtAll.same {K : PySem.W.Frag} (e : Same H H') : ∀ {vs : List V} {ds : List PyData}, DtAll K H vs ds → DtAll K H' vs ds
  | _, _, .nil => .nil
  | _, _, .cons h hd => .cons (Dt.same e h) (DtAll.same e hd)
end
theorem DtAll.get {K : PySem.W.Frag} : ∀ {vs : List V} {ds : List PyData} {i : Nat} {v : V}, DtAll K H vs ds → vs[i]? = some v → ∃ d, ds[i]? = some d ∧ Dt K H v d
  | _, _, _, _, .nil, e => by simp at e
  | _, _, 0, _, .cons h _, e => by simp at e; subst e; exact ⟨_, rfl, h⟩
  | _, _, i + 1, v, .cons _ t, e => by
    obtain ⟨d, h1, h2⟩ := DtAll.get (i := i) (v := v) t (by simpa using e)
    exact ⟨d, by simpa using h1, h2⟩
theorem DtAll.length {K : PySem.W.Frag} : ∀ {vs : List V} {ds : List PyData}, DtAll K H vs ds → vs.length = ds.length
  | _, _, .nil => rfl
  | _, _, .cons _ t => by rw [List.length_cons, List.length_cons, DtAll.length t]
/-- == of data -/
theorem op_eqD (hu : X.A.units + 64 < cLine) : OpR X (compareOp .Eq) (fun x y H Q => ∃ dx dy, Dt X.K H x dx ∧ Dt X.K H y dy ∧ dx.canLay0 = true ∧ dy.canLay0 = true ∧ dx.depth ≤ 64 ∧ Q (.bl (PyData.eqv dx dy)) H) := by
  intro pins s σ H x y v u Q I rx ry h
  obtain ⟨dx, dy, hx, hy, lx, ly, hd, q⟩ := h
  obtain ⟨as, ra⟩ := Dt.reads I hx rx lx
  obtain ⟨bs, rb⟩ := Dt.reads I hy ry ly
  exact SeqAt.compareEq_reads ra rb lx ly (by have := Nat.min_le_left dx.depth dy.depth; omega) ⟨.bl _, H, I, rfl, q⟩
end

/-! ### the signs of a text, walked -/
def Its (x : Str) : It := ⟨fun i _ => i < x.cps.size, fun i H v H' => H' = H ∧ ∃ c, x.cps[i]? = some c ∧ v = .str ⟨#[c]⟩, fun i _ => x.cps.size ≤ i⟩
theorem turn_str {P : Program} {w : World} {K : PySem.W.Frag} {tg : Expr} (it : Addr) (x : Str) (t : Tok) : ∀ ty : String, (ty = "str_ascii_iterator" ∨ ty = "str_iterator") → Turn P w K tg (Its x) [it] it (fun i h => h.IsStrIter it ty x t i) := by
  intro ty hty
  refine ⟨by simp, ?_, ?_, ?_, ?_, ?_⟩
  · intro i h st b hb
    have e : b = it := by simpa using hb
    subst e
    obtain ⟨o, e, c, d⟩ := st
    exact ⟨o, e, fun v z => by rw [d] at z; cases z⟩
  · intro i h h' st k
    obtain ⟨o, e, c, d⟩ := st
    exact ⟨o, k it (by simp) o e, c, d⟩
  · intro X hP hw hK hc i pins s σ H E I hf st hg
    subst hP hw hK
    obtain ⟨f0, f1, f2, f3, f4, f5⟩ := hf it (by simp)
    have hi : i < x.cps.size := hg
    have hx : x.cps[i]? = some x.cps[i] := by simp [hi]
    have fin : ∀ h', h'.IsStrIter it ty x t (i + 1) → Heap.SameBut it s.heap h' → ∃ u, some (Value.str ⟨#[x.cps[i]]⟩ s.toks) = some u ∧
        wpAny (model X.prog X.w) X.A (letOwnedTupleGo tg (.ref it) u) (fun _ s2 => ∃ y H', Inv X pins σ H' s2 ∧ RelV y u ∧ (Its x).yld i H y H' ∧ s2.heap.IsStrIter it ty x t (i + 1) ∧ ∀ b ∈ [it], H' b = none) E { s with heap := h', toks := s.toks + 1 } := by
      intro h' st' sb
      have I1 : Inv X pins σ H { s with heap := h', toks := s.toks + 1 } := I.turned (fun b o hb e => (sb.2 b hb).trans e) f0 f1 f3 f4 f5
      obtain ⟨o, e, c, d⟩ := id st'
      refine ⟨_, rfl, go_of (s := { s with heap := h', toks := s.toks + 1 }) e c d ?_ ⟨.str ⟨#[x.cps[i]]⟩, H, I1, ⟨_, rfl⟩, ⟨rfl, _, hx, rfl⟩, st', fun b hb => (hf b hb).1⟩⟩
      rcases hty with rfl | rfl <;> decide
    rcases hty with rfl | rfl
    · exact wpAny_pyNext_ascii_item st hx fin
    · exact wpAny_pyNext_wide_item st hx fin
  · intro X hP hw hK hc i pins s σ H E I hf st hg
    subst hP hw hK
    obtain ⟨f0, f1, f2, f3, f4, f5⟩ := hf it (by simp)
    have hi : x.cps.size ≤ i := hg
    have hx : x.cps[i]? = none := by simp [hi]
    have fin : ∀ h', Heap.ExtBut it s.heap h' → (none : Option Value) = none ∧ Inv X pins σ H { s with heap := h' } := fun h' eb => ⟨rfl, I.turned (t' := s.toks) (fun b o hb e => eb b o hb e) f0 f1 f3 f4 f5⟩
    rcases hty with rfl | rfl
    · exact wpAny_pyNext_ascii_end (I.ok.hd hc) st hx fin
    · exact wpAny_pyNext_wide_end (I.ok.hd hc) st hx fin
  · intro A i s Q E st h
    rcases hty with rfl | rfl
    · exact wpAny_pyIter_striter_ascii st h
    · exact wpAny_pyIter_striter_wide st h
section
variable {X : Cx} {tg : Expr}
def iStr (tl : TE) : TI := fun σ H R => tl σ H fun v H1 => ∃ x, v = .str x ∧ R (Its x) H1
theorem pi_str {l : Expr} {tl : TE} (hl : PE X l tl) : PI X tg l (iStr tl) := by
  intro pins s σ H R I h
  refine thn (hl pins s σ H _ I h) fun v s1 ⟨y, H1, I1, r1, q1⟩ => ?_
  obtain ⟨x, e, q⟩ := q1
  subst e
  obtain ⟨t, rfl⟩ := r1
  have fin : ∀ ty : String, (ty = "str_ascii_iterator" ∨ ty = "str_iterator") → PIE X pins σ tg R (.ref s1.heap.objs.size) { s1 with heap := s1.heap.push { cls := .type ty, data := .fields #[.str x t, .int 0 0] } } := fun ty hty => by
    refine ⟨s1.heap.objs.size, [s1.heap.objs.size], _, _, H1, rfl, I1.kept (t' := s1.toks) fun b o e => Heap.get?_push_of_some _ e, turn_str _ x t ty hty, ⟨_, Heap.get?_push_size _ rfl, rfl, rfl⟩, fun b hb => ?_, q⟩
    have e : b = s1.heap.objs.size := by simpa using hb
    subst e
    exact I1.fpOk (Nat.le_refl _) (I1.hok.fresh (Nat.le_refl _))
  cases ha : x.cps.all (· < 128)
  · exact wpAny_pyIter_wide ha (fin _ (.inr rfl))
  · exact wpAny_pyIter_ascii ha (fin _ (.inl rfl))
end
end L2

namespace L2
open PySem PySem.Spec PyProof.Rows

/-! ### a list's comprehension -/
section
variable {prog : Program} {w : World} {A : Around} {R : Result → Shared → Prop} {s : Shared}
theorem compLoop_own {elt target iter : Expr} {ifs : List Expr} {scope : Scope} {pos : Pos} {it acc : Value} {env : Env} (I : Nat → Shared → Prop)
    (turn : ∀ n s, I n s → wpAny (model prog w) A (pyNext it) (fun r s₁ => match r with
      | none => R (.ok .next) s₁
      | some v => wpAny (model prog w) A (letOwnedTupleGo target it v) (fun _ s₁' => wpAny (model prog w) A (assign target env v) (fun _ s₂ =>
          wpAny (model prog w) A (forIn ifs true fun c r => if r = true then do let ok ← isTrue c env (eval c env); pure (ForInStep.yield ok) else pure (ForInStep.yield r)) (fun ok s₃ =>
            if ok = true then wpAny (model prog w) A (eval elt env) (fun x s₄ =>
              wpAny (model prog w) A (call (.builtin "list.append") [acc, x]) (fun _ s₅ => ∃ m, m < n ∧ I m s₅) (fun _ _ => False) s₄) (fun _ _ => False) s₃
            else ∃ m, m < n ∧ I m s₃) (fun _ _ => False) s₂) (fun _ _ => False) s₁') (fun _ _ => False) s₁) (fun _ _ => False) s)
    (n : Nat) (h : I n s) :
    codeAny (model prog w) A (.compLoop (.ListComp elt [⟨target, iter, ifs, 0⟩] scope pos) 0 it acc env) R s := by
  refine codeAny_loop rfl I (fun n s hI => ?_) n h
  show wpAny _ A ((compTurn (.ListComp elt [⟨target, iter, ifs, 0⟩] scope pos) 0 it acc env).onRaise (fun x => do noteFrame x env; theTreesLotGoes x)) _ _ s
  refine wpAny_noted ?_
  rw [compTurn_list]
  refine wpAny_bind (wpAny_standAt (wpAny_bind (wpAny_mono (turn n s hI) (fun r s₁ h₁ => ?_) fun _ _ h' => h'.elim)))
  cases r with
  | none => exact wpAny_pure h₁
  | some v =>
    refine wpAny_bind (wpAny_mono h₁ (fun _ s₁' h₁' => ?_) fun _ _ h' => h'.elim)
    refine wpAny_bind (wpAny_mono h₁' (fun _ s₂ h₂ => wpAny_bind (wpAny_mono h₂ (fun ok s₃ h₃ => ?_) fun _ _ h' => h'.elim)) fun _ _ h' => h'.elim)
    cases ok with
    | false => exact wpAny_pure ⟨rfl, h₃⟩
    | true =>
      exact wpAny_bind (wpAny_bind (wpAny_mono h₃ (fun x s₄ h₄ => wpAny_bind (wpAny_mono h₄ (fun _ s₅ h₅ => wpAny_pure (wpAny_pure ⟨rfl, h₅⟩)) fun _ _ h' => h'.elim)) fun _ _ h' => h'.elim))
end

/-- the context of a comprehension's block -/
def cxComp (X : Cx) (scope : Scope) (cl : List (Str × Addr)) (C : Addr) (N' : List Str) (fp : List Addr) (pins : List (Addr × Obj)) (s : Shared) (H : Hp) : Cx where
  prog := X.prog
  w := X.w
  K := X.K
  mg := X.mg
  base := X.base
  A := X.A
  N := N'
  s₀ := s
  H₀ := H
  env := compEnvC scope cl C X.env
  outer := X.stack
  stack := X.stack
  ex := fp
  calm := X.calm
  fn := fun _ => false
  pn := X.pn ++ pins
  xe := fun _ _ => False
/-- the cells that the block sees -/
structure Caps (X : Cx) (scope : Scope) (cl : List (Str × Addr)) (cp : List (Nat × Str)) : Prop where
  kind : scope.kind = .function
  nocell : ∀ y ∈ scope.names, y.2 ≠ .cell
  names : ∀ y ∈ scope.names, y.2 = .local → scope.names.lookup y.1 = some .local
  clos : closureFor scope X.env = pure cl
  sub : ∀ x c, cl.lookup x = some c → X.env.cells.lookup x = some c
  has : ∀ x, ((relabel scope X.env).names.lookup x = some .cell ∨ (relabel scope X.env).names.lookup x = some .free) → ∃ c, cl.lookup x = some c
  at' : ∀ p ∈ cp, X.N[p.1]? = some p.2 ∧ (X.env.scope.names.lookup p.2 = some .cell ∨ X.env.scope.names.lookup p.2 = some .free) ∧ ((relabel scope X.env).names.lookup p.2 = some .cell ∨ (relabel scope X.env).names.lookup p.2 = some .free)
def capσ (cp : List (Nat × Str)) (σ : St) : St := cp.map fun p => (σ[p.1]?).getD none
section
variable {X : Cx} {pins : List (Addr × Obj)} {σ : St} {H : Hp} {s : Shared} {scope : Scope} {cl : List (Str × Addr)} {cp : List (Nat × Str)} {fp : List Addr} {x : Str}
theorem inv_comp (I : Inv X pins σ H s) (c : Caps X scope cl cp) (hf : ∀ b ∈ fp, FpOk X pins H b) (hfo : ∀ b ∈ fp, b < s.heap.objs.size) {h' : Heap} {ty : String} {tk : Nat} {m : Str → Option Value} (hm : h'.Ns s.heap.objs.size m)
    (sb : Heap.SameBut s.heap.objs.size (s.heap.push { cls := .type ty, data := .dict #[] }) h') :
    Inv (cxComp X scope cl s.heap.objs.size (x :: cp.map (·.2)) fp pins s H) [] (none :: capσ cp σ) H { s with heap := h', toks := tk } := by
  have old : ∀ b o, s.heap.get? b = some o → h'.get? b = some o := fun b o e => (sb.2 b (Nat.ne_of_lt (Heap.lt_size e))).trans (Heap.get?_push_of_some _ e)
  have hC : H s.heap.objs.size = none := I.hok.fresh (Nat.le_refl _)
  refine ⟨⟨I.ok.mod, c.kind, I.ok.glob, I.ok.blt, Nat.le_refl _, fun y z k h1 h2 => I.ok.inj y z k (c.sub _ _ h1) (c.sub _ _ h2), c.has, fun y k z => (Bool.noConfusion z), I.ok.hd, I.ok.frames, .inl rfl, fun b hb => ?_, fun b o e => I.bs b o e, Nat.le_trans I.ok.bsz I.sz, fun b o e hb => ?_, fun b hb hz => ?_, I.stack, I.stkFree⟩,
    rfl, I.bare, Un.kept old, ⟨m, hm, fun i y v h1 h2 h3 => ?_⟩, fun y k e => ?_, hC, fun y k e => I.freeC y k (c.sub y k e), fun p hp => ?_, I.hok.kept old, ?_⟩
  · obtain ⟨f0, f1, f2, f3, f4, f5⟩ := hf b hb
    exact ⟨Nat.ne_of_lt (hfo b hb), fun y k e => f4 y k (c.sub y k e)⟩
  · obtain ⟨f0, f1, f2, f3, f4, f5⟩ := hf b hb
    rcases f3 with z | z
    · exact I.ok.noex b o e z
    · exact absurd (Nat.lt_of_lt_of_le (Heap.lt_size (I.ok.bs b o e).1) z) (Nat.lt_irrefl _)
  · obtain ⟨f0, f1, f2, f3, f4, f5⟩ := hf b hb
    rcases List.mem_cons.mp (I.stkSub b hz) with e | e
    · exact f1 e
    · exact f2 e
  · cases i with
    | zero => simp at h2
    | succ i =>
      have h1' : (cp.map (·.2))[i]? = some y := by
        have z : (x :: cp.map (·.2))[i + 1]? = some y := h1
        rw [List.getElem?_cons_succ] at z
        exact z
      have h2' : (capσ cp σ)[i]? = some (some v) := by simpa using h2
      unfold capσ at h2'
      rw [List.getElem?_map] at h1' h2'
      cases e : cp[i]? with
      | none => rw [e] at h1'; cases h1'
      | some p =>
        rw [e] at h1' h2'
        simp only [Option.map_some, Option.some.injEq] at h1' h2'
        obtain ⟨k1, k2, k3⟩ := c.at' p (List.mem_of_getElem? e)
        subst h1'
        have h2'' : σ[p.1]? = some (some v) := by
          cases q : σ[p.1]? with
          | none => rw [q] at h2'; cases h2'
          | some z => rw [q] at h2'; simpa using h2'
        obtain ⟨m0, hn0, hl0⟩ := I.loc
        obtain ⟨u, r, l⟩ := hl0 p.1 p.2 v k1 h2'' (k2.elim (fun z => .inr (.inl z)) fun z => .inr (.inr z))
        refine ⟨u, r, .inr ⟨k3, ?_⟩⟩
        rcases l with ⟨z, _⟩ | ⟨_, cc, e1, e2⟩
        · have z' : X.env.scope.names.lookup p.2 = some .local := z
          rcases k2 with k | k <;> (rw [z'] at k; cases k)
        · obtain ⟨cc', e3⟩ := c.has p.2 k3
          have e4 := c.sub _ _ e3
          rw [e1] at e4
          cases e4
          obtain ⟨o, ho, hd⟩ := e2
          exact ⟨cc, e3, o, old _ _ ho, hd⟩
  · obtain ⟨v, o, ho, hd⟩ := I.cell y k (c.sub y k e)
    exact ⟨v, o, old _ _ ho, hd⟩
  · have hp' : p ∈ X.pn ++ pins := by
      rcases List.mem_append.mp hp with z | z
      · exact z
      · cases z
    obtain ⟨e, n, ne, nf, d⟩ := I.pin p hp'
    refine ⟨old _ _ e, n, Nat.ne_of_lt (Heap.lt_size e), fun hz => ?_, d⟩
    rcases List.mem_cons.mp (I.stkSub p.1 hz) with q | q
    · exact ne q
    · exact nf q
  · show (none :: capσ cp σ).length = (x :: cp.map (·.2)).length
    simp [capσ]
/-- behind the block -/
theorem Inv.uncomp {C : Addr} {N' : List Str} {σ' : St} {H' : Hp} {s' : Shared} {h'' : Heap} (I : Inv X pins σ H s) (hC : C = s.heap.objs.size) (hf : ∀ b ∈ fp, FpOk X pins H b) (J : Inv (cxComp X scope cl C N' fp pins s H) [] σ' H' s') (sb : Heap.SameBut C s'.heap h'') :
    Inv X pins σ H' { s' with heap := h'' } := by
  have ne : ∀ b o, s.heap.get? b = some o → b ≠ C := fun b o e => by rw [hC]; exact Nat.ne_of_lt (Heap.lt_size e)
  have B : Un (frs X.stack) fp H H' s.heap s'.heap := J.base
  refine I.call' (s' := { s' with heap := h'' }) (ch := fp) (show s'.os = s.os from J.os) ⟨fun b o e n hb hx => ?_, fun b o e n hb hx => ?_, B.free, fun b o e hx => ?_, B.tups, B.frzs, B.tbls⟩ (fun b ob e => ?_) J.bare fun b hb => ?_
  · exact (sb.2 b (ne b o e)).trans (B.keep b o e n hb hx)
  · obtain ⟨sl, q⟩ := B.slot b o e n hb hx
    exact ⟨sl, (sb.2 b (ne b o e)).trans q⟩
  · obtain ⟨o', q⟩ := B.there b o e hx
    exact ⟨o', (sb.2 b (ne b o e)).trans q⟩
  · have hfree : H' C = none := J.free
    refine (J.hok b ob e).stay (fun k w' hk q => (sb.2 k ?_).trans q) (fun _ q => q) fun _ _ q => q
    rintro rfl
    rcases hk with rfl | hk
    · rw [hfree] at e; cases e
    · rw [hfree] at hk; cases hk
  · obtain ⟨f0, f1, f2, f3, f4, f5⟩ := hf b hb
    exact ⟨f3, f1, f4, f5⟩
end

/-- the tests behind the for -/
def PTs (X : Cx) (ifs : List Expr) (t : TT) : Prop :=
  ∀ (pins : List (Addr × Obj)) (s : Shared) (σ : St) (H : Hp) (Q : Bool → Hp → Prop), Inv X pins σ H s → t σ H Q →
    wpAny (model X.prog X.w) X.A (forIn ifs true fun c r => if r = true then do let ok ← isTrue c X.env (eval c X.env); pure (ForInStep.yield ok) else pure (ForInStep.yield r)) (TP X pins σ Q) X.xe s
def tYes : TT := fun _ H Q => Q true H
theorem pts_nil {X : Cx} : PTs X [] tYes := fun _ _ _ H _ I h => wpAny_tests_nil ⟨H, I, h⟩
theorem pts_one {X : Cx} {c : Expr} {t : TT} (h : PT X c t) : PTs X [c] t := fun pins s σ H Q I q => wpAny_tests_one (h pins s σ H Q I q)
/-- the loop of a comprehension: W by the turn and a measure; the list grows at D -/
def tLoop (cp : List (Nat × Str)) (tt : TT) (te : TE) (σ : St) (J : It) (D : Addr) (Q : VK) (H1 : Hp) : Prop :=
  ∃ W : Nat → Nat → Hp → Prop, (∃ m, W 0 m (upd H1 D (.lst []))) ∧ ∀ i m H2, W i m H2 → (J.stop i H2 ∧ Q (.ref D) H2) ∨
    (J.go i H2 ∧ ∃ (N : VK) (N' : Hp → Prop), (∀ y H5, N y H5 → ∃ ys m', H5 D = some (.lst ys) ∧ ys.length < sizeLine ∧ m' < m ∧ W (i + 1) m' (upd H5 D (.lst (ys ++ [y])))) ∧ (∀ H4, N' H4 → ∃ m', m' < m ∧ W (i + 1) m' H4) ∧
      ∀ v H3, J.yld i H2 v H3 → tt (some v :: capσ cp σ) H3 fun b H4 => if b = true then te (some v :: capσ cp σ) H4 N else N' H4)
def tComp (cp : List (Nat × Str)) (wi : TI) (tt : TT) (te : TE) : TE := fun σ H Q => wi σ H fun J H1 => ∀ D, H1 D = none → tLoop cp tt te σ J D Q H1
section
variable {X : Cx} {scope : Scope} {cl : List (Str × Addr)} {cp : List (Nat × Str)} {x : Str} {px pos : Pos} {elt iter : Expr} {ifs : List Expr} {wi : TI} {tt : TT} {te : TE}
theorem comp_core {pins : List (Addr × Obj)} {σ : St} {H2 : Hp} {s2 : Shared} {it : Addr} {fp : List Addr} {tn : Nat → Heap → Prop} {J : It} {Q : VK} {R : Addr → Result → Shared → Prop} {E : Value → Shared → Prop} (c : Caps X scope cl cp) (hcalm : X.calm = true) (hx : scope.names.lookup x = some .local) (hnd : (x :: cp.map (·.2)).Nodup)
    (ht : ∀ C fp pins s H, PTs (cxComp X scope cl C (x :: cp.map (·.2)) fp pins s H) ifs tt) (he : ∀ C fp pins s H, PE (cxComp X scope cl C (x :: cp.map (·.2)) fp pins s H) elt te)
    (I2 : Inv X pins σ H2 s2) (T : Turn X.prog X.w X.K (.Name x px) J fp it tn) (st2 : tn 0 s2.heap) (f2 : ∀ b ∈ fp, FpOk X pins H2 b) (q : tLoop cp tt te σ J s2.heap.objs.size Q H2)
    (hR : ∀ (C : Addr) (H' : Hp) (s' : Shared), (∃ m, s'.heap.Ns C m) → X.s₀.heap.objs.size ≤ C → H' C = none → C ≠ X.env.locals → (∀ x c, X.env.cells.lookup x = some c → c ≠ C) → (∀ p ∈ X.pn ++ pins, p.1 ≠ C) → (∀ h'', Heap.SameBut C s'.heap h'' → Inv X pins σ H' { s' with heap := h'' }) → Q (.ref s2.heap.objs.size) H' → R C (.ok .next) s') :
    wpAny (model X.prog X.w) X.A (newList []) (fun acc s₃ => wpAny (model X.prog X.w) X.A (newFunctionEnv scope X.env.globals cl [] X.env.qual none .none (some X.env)) (fun cenv s₄ =>
      acc = .ref s2.heap.objs.size ∧ codeAny (model X.prog X.w) X.A (.compStart (.ListComp elt [⟨.Name x px, iter, ifs, 0⟩] scope pos) 0 (.ref it) acc { cenv with scope := relabel scope X.env }) (R cenv.locals) s₄) E s₃) E s2 := by
  obtain ⟨W, ⟨m0, w0⟩, turn⟩ := q
  refine wpAny_newObj_type ?_
  have I3 : Inv X pins σ (upd H2 s2.heap.objs.size (.lst [])) { s2 with heap := s2.heap.push { cls := .type "list", dict := none, data := .seq ([] : List Value).toArray } } :=
    I2.lnew (t' := s2.toks) (ys := []) (its := []) .nil (Nat.zero_le _)
  have fpo : ∀ b ∈ fp, b < s2.heap.objs.size := fun b hb => by
    obtain ⟨o, e, _⟩ := T.obj _ _ st2 b hb
    exact Heap.lt_size e
  have f3 : ∀ b ∈ fp, FpOk X pins (upd H2 s2.heap.objs.size (.lst [])) b := fun b hb => ⟨by rw [upd_ne (Nat.ne_of_lt (fpo b hb))]; exact (f2 b hb).1, (f2 b hb).2⟩
  generalize hs3 : ({ s2 with heap := s2.heap.push { cls := .type "list", dict := none, data := .seq ([] : List Value).toArray } } : Shared) = s3 at I3
  have e3 : s3.heap = s2.heap.push { cls := .type "list", dict := none, data := .seq ([] : List Value).toArray } := by rw [← hs3]
  have sz3 : s2.heap.objs.size < s3.heap.objs.size := by rw [e3, Heap.size_push]; exact Nat.lt_succ_self _
  refine wpAny_newFunctionEnv c.nocell (by intro y hy; cases hy) (fun h₁ hns sb => ?_) c.kind
  have J3 := inv_comp (x := x) (tk := s3.toks + ([] : List (Str × Value)).length) I3 c f3 (fun b hb => Nat.lt_trans (fpo b hb) sz3) hns sb
  refine ⟨rfl, ?_⟩
  have st3 : tn 0 h₁ := T.keep _ _ _ st2 fun b hb o e => (sb.2 b (Nat.ne_of_lt (Nat.lt_trans (fpo b hb) sz3))).trans (Heap.get?_push_of_some _ (by rw [e3]; exact Heap.get?_push_of_some _ e))
  generalize hX : cxComp X scope cl s3.heap.objs.size (x :: cp.map (·.2)) fp pins s3 (upd H2 s2.heap.objs.size (.lst [])) = X' at J3
  have eA : X'.A = X.A := by rw [← hX]; rfl
  have eP : X'.prog = X.prog := by rw [← hX]; rfl
  have ew : X'.w = X.w := by rw [← hX]; rfl
  have eK : X'.K = X.K := by rw [← hX]; rfl
  have ec : X'.calm = true := by rw [← hX]; exact hcalm
  have ee : X'.env = compEnvC scope cl s3.heap.objs.size X.env := by rw [← hX]; rfl
  have ex : X'.xe = fun _ _ => False := by rw [← hX]; rfl
  have fpX : ∀ {H' : Hp}, (∀ b ∈ fp, H' b = none) → ∀ b ∈ fp, FpOk X' [] H' b := fun hn b hb => by
    obtain ⟨f0, f1, f2', f3', f4, f5⟩ := f3 b hb
    subst hX
    refine ⟨hn b hb, Nat.ne_of_lt (Nat.lt_trans (fpo b hb) sz3), fun hz => ?_, .inl hb, fun y k e => f4 y k (c.sub y k e), fun p hp => ?_⟩
    · rcases List.mem_cons.mp (I3.stkSub b hz) with e | e
      · exact f1 e
      · exact f2' e
    · rcases List.mem_append.mp hp with z | z
      · exact f5 p z
      · cases z
  have pT := ht s3.heap.objs.size fp pins s3 (upd H2 s2.heap.objs.size (.lst []))
  have pE := he s3.heap.objs.size fp pins s3 (upd H2 s2.heap.objs.size (.lst []))
  have pG : PG X' (.Name x px) (gName 0) := by
    subst hX
    exact pg_name hnd rfl (.inl (lookup_relabel_local hx)) (.inr (lookup_relabel_local hx))
  rw [hX] at pT pE
  have loop : codeAny (model X.prog X.w) X.A (.compLoop (.ListComp elt [⟨.Name x px, iter, ifs, 0⟩] scope pos) 0 (.ref it) (.ref s2.heap.objs.size) (compEnvC scope cl s3.heap.objs.size X.env)) (R s3.heap.objs.size) { s3 with heap := h₁, toks := s3.toks + ([] : List (Str × Value)).length } := by
    refine compLoop_own (fun n s' => ∃ i o H', Inv X' [] (o :: capσ cp σ) H' s' ∧ tn i s'.heap ∧ (∀ b ∈ fp, H' b = none) ∧ W i n H') ?_ m0 ⟨0, none, _, J3, st3, fun b hb => (f3 b hb).1, w0⟩
    rintro n s5 ⟨i, o, H5, J5, st5, fr5, w5⟩
    rcases turn i n H5 w5 with ⟨stop, qn⟩ | ⟨go, N, N', hN, hN', step⟩
    · have z := T.done X' eP ew eK ec i [] s5 _ H5 (fun _ _ => False) J5 (fpX fr5) st5 stop
      rw [eA] at z
      refine thn z fun r s6 ⟨hr, J6⟩ => ?_
      subst hr
      subst hX
      obtain ⟨m6, hn6, _⟩ := J6.loc
      refine hR s3.heap.objs.size H5 s6 ⟨m6, hn6⟩ I3.sz J6.free (Nat.ne_of_gt I3.lt) (fun y k e z => ?_) (fun p hp z => ?_) (fun h'' sb' => I3.uncomp rfl f3 J6 sb') qn
      · obtain ⟨v, w'⟩ := I3.cell y k e
        exact absurd w'.lt (by rw [z]; exact Nat.lt_irrefl _)
      · exact absurd (Heap.lt_size (I3.pin p hp).1) (by rw [z]; exact Nat.lt_irrefl _)
    · have z := T.item X' eP ew eK ec i [] s5 _ H5 (fun _ _ => False) J5 (fpX fr5) st5 go
      rw [eA] at z
      refine thn z fun r s6 ⟨u, hr, h6⟩ => ?_
      subst hr
      refine thn h6 fun _ s7 ⟨v, H7, J7, r7, y7, st7, fr7⟩ => ?_
      have J7' := J7.pinned (fpX fr7) (T.obj _ _ st7)
      have z8 := pG _ s7 _ H7 v u (fun σ' H' => σ' = some v :: capσ cp σ ∧ H' = H7) J7' r7 ⟨rfl, rfl⟩
      rw [eA, eP, ew, ee, ex] at z8
      refine thn z8 fun _ s8 ⟨σ8, H8, J8, e8, e8'⟩ => ?_
      subst e8 e8'
      have z9 := pT _ s8 _ H8 _ J8 (step v H8 y7)
      rw [eA, eP, ew, ee, ex] at z9
      refine thn z9 fun ok s9 ⟨H9, J9, q9⟩ => ?_
      have fin : ∀ {H' : Hp} {s' : Shared}, Inv X' ([] ++ pinsAt fp s7.heap) (some v :: capσ cp σ) H' s' → (∃ m', m' < n ∧ W (i + 1) m' H') → ∃ m, m < n ∧ ∃ i o H', Inv X' [] (o :: capσ cp σ) H' s' ∧ tn i s'.heap ∧ (∀ b ∈ fp, H' b = none) ∧ W i m H' := fun {H' s'} K' ⟨m', hm, w'⟩ => by
        refine ⟨m', hm, i + 1, some v, H', K'.unpinned, T.keep _ _ _ st7 fun b hb ob e => (K'.pin (b, ob) (List.mem_append_right _ (List.mem_append_right _ (mem_pinsAt hb e)))).1, fun b hb => ?_, w'⟩
        obtain ⟨ob, e, d⟩ := T.obj _ _ st7 b hb
        exact (K'.pin (b, ob) (List.mem_append_right _ (List.mem_append_right _ (mem_pinsAt hb e)))).2.1
      cases ok with
      | false =>
        rw [if_neg Bool.false_ne_true] at q9 ⊢
        exact fin J9 (hN' _ q9)
      | true =>
        rw [if_pos rfl] at q9 ⊢
        have z10 := pE _ s9 _ H9 _ J9 q9
        rw [eA, eP, ew, ee, ex] at z10
        refine thn z10 fun u10 s10 ⟨y, H10, J10, r10, n10⟩ => ?_
        obtain ⟨ys, m', hD, hz, hm, w'⟩ := hN y H10 n10
        have z11 := mt_append (X := X') _ s10 _ H10 (.ref s2.heap.objs.size) [y] (.ref s2.heap.objs.size) [u10] (fun _ H' => H' = upd H10 s2.heap.objs.size (.lst (ys ++ [y]))) J10 rfl (.cons r10 .nil) ⟨_, ys, y, rfl, rfl, hD, hz, rfl⟩
        rw [eA, eP, ew, ex] at z11
        refine thn z11 fun u11 s11 ⟨y', H11, J11, r11, e11⟩ => ?_
        subst e11
        exact fin J11 ⟨m', hm, w'⟩
  exact codeAny_compStart_list loop (T.self _ 0 _ _ _ st3 loop)
theorem pe_comp (c : Caps X scope cl cp) (hcalm : X.calm = true) (hx : scope.names.lookup x = some .local) (hnd : (x :: cp.map (·.2)).Nodup) (hi : PI X (.Name x px) iter wi)
    (ht : ∀ C fp pins s H, PTs (cxComp X scope cl C (x :: cp.map (·.2)) fp pins s H) ifs tt) (he : ∀ C fp pins s H, PE (cxComp X scope cl C (x :: cp.map (·.2)) fp pins s H) elt te)
    (hs : ∀ v, foldedSetIterable iter X.env v = pure v := by intro _; rfl) : PE X (.ListComp elt [⟨.Name x px, iter, ifs, 0⟩] scope pos) (tComp cp wi tt te) := by
  intro pins s σ H Q I h
  rw [eval_ListComp]
  refine wpAny_comprehension_free (use := none) (g := ⟨.Name x px, iter, ifs, 0⟩) (gs := []) (cl := cl) rfl hs c.clos c.kind c.names ?_
  refine thn (hi pins s σ H _ I h) fun v s1 h1 => thn h1 fun itv s2 h2 => ?_
  obtain ⟨it, fp, tn, J, H2, e, I2, T, st2, f2, q⟩ := h2
  subst e
  refine thn (comp_core (iter := iter) (pos := pos) (R := fun C => compPost (model X.prog X.w) X.A X.xe none (EP X pins σ Q) (.ref s2.heap.objs.size) C) c hcalm hx hnd ht he I2 T st2 f2 (q _ (I2.hok.fresh (Nat.le_refl _))) ?_) fun acc s3 h3 => thn h3 fun cenv s4 h4 => ?_
  · rintro C H' s' ⟨m, hn⟩ _ _ _ _ _ hI hq
    exact ⟨m, hn, fun h'' sb => ⟨.ref s2.heap.objs.size, H', hI h'' sb, rfl, hq⟩⟩
  · obtain ⟨e, h4⟩ := h4
    subst e
    exact h4
end
end L2

namespace L2
open PySem PySem.Spec PyProof.Rows

section
variable {X : Cx} {scope : Scope} {cl : List (Str × Addr)} {cp : List (Nat × Str)} {x : Str} {px pos : Pos} {elt iter : Expr} {ifs : List Expr} {wi : TI} {tt : TT} {te : TE}
/-- y = [.. for ..]: the store comes ahead of the letting go -/
theorem ps_setComp {i : Nat} {y : Str} {py : Pos} {pos' : Pos} (hN : X.N.Nodup) (hi' : X.N[i]? = some y) (hy : X.env.scope.names.lookup y = some .local) (c : Caps X scope cl cp) (hcalm : X.calm = true) (hx : scope.names.lookup x = some .local) (hnd : (x :: cp.map (·.2)).Nodup) (hi : PI X (.Name x px) iter wi)
    (ht : ∀ C fp pins s H, PTs (cxComp X scope cl C (x :: cp.map (·.2)) fp pins s H) ifs tt) (he : ∀ C fp pins s H, PE (cxComp X scope cl C (x :: cp.map (·.2)) fp pins s H) elt te)
    (hsw : swapsWith (.ListComp elt [⟨.Name x px, iter, ifs, 0⟩] scope pos) (some (.Name y py)) pos'.line X.env = pure true)
    (hs : ∀ v, foldedSetIterable iter X.env v = pure v := by intro _; rfl) : PS X (.Assign [.Name y py] (.ListComp elt [⟨.Name x px, iter, ifs, 0⟩] scope pos) pos') (tAsg (tComp cp wi tt te) (gName i)) := by
  intro pins s σ H D I h
  rw [exec_Assign_Name_used _ _ _ _ hsw]
  refine wpAny_bind (wpAny_standAt (wpAny_bind (wpAny_bind ?_)))
  refine wpAny_comprehension_free (use := some (assign (.Name y py) X.env)) (g := ⟨.Name x px, iter, ifs, 0⟩) (gs := []) (cl := cl) rfl hs c.clos c.kind c.names ?_
  refine thn (hi pins s σ H _ I h) fun v s1 h1 => thn h1 fun itv s2 h2 => ?_
  obtain ⟨it, fp, tn, J, H2, e, I2, T, st2, f2, q⟩ := h2
  subst e
  refine thn (comp_core (iter := iter) (pos := pos) (R := fun C => compPost (model X.prog X.w) X.A X.xe (some (assign (.Name y py) X.env)) (fun _ s' => wpAny (model X.prog X.w) X.A (pure ()) (fun _ s' => wpAny (model X.prog X.w) X.A (pure Flow.next) (SP X pins D) X.xe s') X.xe s') (.ref s2.heap.objs.size) C) c hcalm hx hnd ht he I2 T st2 f2 (q _ (I2.hok.fresh (Nat.le_refl _))) ?_) fun acc s3 h3 => thn h3 fun cenv s4 h4 => ?_
  · rintro C H' s' ⟨m, hn⟩ hC0 hCn hCL hCc hCp hI hq
    have I' : Inv X pins σ H' s' := hI s'.heap (Heap.SameBut.refl ..)
    refine wpAny_assign_Name (store_ok2 (v := .ref s2.heap.objs.size) I' hN hi' (.inl hy) rfl (fun s'' I'' hb => ?_) (.inr hy))
    obtain ⟨a, sb, ha⟩ := hb
    have hne : C ≠ a := by
      rcases ha with z | z
      · rw [z]; exact hCL
      · exact fun e => hCc y a z e.symm
    refine ⟨m, hn.sameBut sb hne, fun h'' sb'' => wpAny_pure (wpAny_pure ⟨_, H', ?_, hq⟩)⟩
    exact I''.turned (t' := s''.toks) (fun b o hb e => (sb''.2 b hb).trans e) hCn hCL (.inr hC0) hCc hCp
  · obtain ⟨e, h4⟩ := h4
    subst e
    exact h4
end

/-! ### all, join -/
theorem bools_of : ∀ {bs : List Bool} {us : List Value}, Vals (bs.map V.bl) us → ∀ (i : Nat) (v : Value), us[i]? = some v → ∃ b : Bool, bs[i]? = some b ∧ v = Value.bool b
  | [], _, .nil, i, v, h => by simp at h
  | b :: bs, u :: us, .cons r t, 0, v, h => by
    simp at h
    subst h
    cases r
    exact ⟨b, rfl, rfl⟩
  | b :: bs, u :: us, .cons r t, i + 1, v, h => by
    obtain ⟨b', e1, e2⟩ := bools_of t i v (by simpa using h)
    exact ⟨b', by simpa using e1, e2⟩
section
variable {X : Cx}
theorem call_all (hc : X.calm = true) : CallR X (.builtin "all") (fun xs H Q => ∃ (a : Addr) (bs : List Bool), xs = [.ref a] ∧ SqL X.K H a (bs.map V.bl) ∧ Q (.bl (bs.all id)) H) := by
  intro pins s σ H xs us Q I r h
  obtain ⟨a, bs, rfl, hq, q⟩ := h
  obtain ⟨u, rfl, ru⟩ := r.one
  cases ru
  obtain ⟨its, rv, pl, hz⟩ := I.list hq
  have hl : s.heap.IsList a its.toArray := pl.isList
  have hlt : a < s.heap.objs.size := by obtain ⟨_, e, _⟩ := hl; exact Heap.lt_size e
  refine call_all_walk (wpAny_pyIter_list hl ?_)
  refine ⟨s.heap.objs.size, [s.heap.objs.size, a], [s.heap.objs.size], its.toArray.size, _, _, fun i => (bs[i]?).getD true, rfl, Walks.list (A := X.A.in1) (I.ok.hd hc) _ a (Nat.ne_of_lt hlt) its.toArray,
    ⟨⟨_, Heap.get?_push_size _ rfl, rfl, rfl⟩, hl.push _⟩, fun i v s' Q' E' hP hQ => ?_, fun h' tk hk => ?_⟩
  · obtain ⟨b, e, rfl⟩ := bools_of rv i v (by simpa using hP)
    simp only [e, Option.getD_some] at hQ
    exact wpAny_truthy_bool hQ
  · have e : ((List.range its.toArray.size).all fun i => (bs[i]?).getD true) = bs.all id := by
      have := rv.length
      rw [List.length_map] at this
      rw [List.size_toArray, ← this]
      exact PyProof.Rows.LSm.range_all bs
    rw [e]
    refine ⟨.bl _, H, I.kept (t' := tk) fun b o e' => hk b o (fun hm => ?_) (Heap.get?_push_of_some _ e'), rfl, q⟩
    rw [List.mem_singleton.mp hm] at e'
    exact Nat.lt_irrefl _ (Heap.lt_size e')
end

/-! ### a def that is known: its promise and how it is called -/
structure Known (P : Program) (w : World) (K : PySem.W.Frag) (mg : Str → Option Value) (base : Heap) (CX : CXT) (k : Nat) (x : Str) (ps : List Str) (sp : Sp) : Prop where
  ex : ∃ f fd, FnOk P w K mg base CX k f fd ps sp ∧ mg x = some (.ref f) ∧ PySem.W.keepIn K (.ref f) = true ∧ Binds K fd ps []
section
variable {X : Cx} {CX : CXT} {k : Nat} {ps : List Str} {sp : Sp} {E : XK} {x : Str} {p pos : Pos} {e : Expr} {es : List Expr} {t : TA}
theorem pe_callN (G : Known X.prog X.w X.K X.mg X.base CX k x ps sp) (hr : Room k X.A) (hx : Passes CX X E) (ha : PA X (e :: es) t) (hg : Gl X x := by rfl) (hdb : (x == ("__debug__" : Str)) = false := by decide)
    (he : starEach (e :: es) X.env = (false, eval e X.env) :: starEach es X.env := by rfl) (hpl : (backTo pos (starEach es X.env)).any (·.1) = false := by rfl) : PE X (.Call (.Name x p) (e :: es) [] pos) (tCall sp [] E t) := by
  obtain ⟨f, fd, F, hm, hk, hb⟩ := G.ex
  exact pe_call F hr hg hm hk hb .nil hx ha hdb he hpl
end
/-! ### the forms of a comprehension that one uses: Pv by the turn, the list so far, the heap (in which it stands at D) -/
def Nxt (D : Addr) (Pv : Nat → List V → Hp → Prop) (i : Nat) (ys : List V) : VK := fun y H5 => H5 D = some (.lst ys) ∧ ys.length < sizeLine ∧ Pv (i + 1) (ys ++ [y]) (upd H5 D (.lst (ys ++ [y])))
theorem comp_it {cp : List (Nat × Str)} {te : TE} {σ : St} {J : It} {n : Nat} {D : Addr} {Q : VK} {H1 : Hp} (Pv : Nat → List V → Hp → Prop) (h0 : Pv 0 [] (upd H1 D (.lst []))) 
    (hg : ∀ i ys H, H D = some (.lst ys) → Pv i ys H → (i < n → J.go i H) ∧ (i = n → J.stop i H))
    (hs : ∀ i ys H v H', i < n → H D = some (.lst ys) → Pv i ys H → J.yld i H v H' → te (some v :: capσ cp σ) H' (Nxt D Pv i ys))
    (hd : ∀ ys H, H D = some (.lst ys) → Pv n ys H → Q (.ref D) H) : tLoop cp tYes te σ J D Q H1 := by
  refine ⟨fun i m H => m = n - i ∧ i ≤ n ∧ ∃ ys, H D = some (.lst ys) ∧ Pv i ys H, ⟨n, by simp, Nat.zero_le _, [], upd_same, h0⟩, ?_⟩
  rintro i m H ⟨rfl, hi, ys, hD, p⟩
  by_cases hlt : i < n
  · refine .inr ⟨(hg i ys H hD p).1 hlt, Nxt D Pv i ys, fun _ => False, fun y H5 ⟨h1, h2, h3⟩ => ⟨ys, n - (i + 1), h1, h2, by omega, rfl, hlt, _, upd_same, h3⟩, fun _ z => z.elim, fun v H' y => ?_⟩
    exact hs i ys H v H' hlt hD p y
  · have e : i = n := by omega
    subst e
    exact .inl ⟨(hg i ys H hD p).2 rfl, hd ys H hD p⟩
theorem comp_range {cp : List (Nat × Str)} {te : TE} {σ : St} {lo : Int} {n : Nat} {D : Addr} {Q : VK} {H1 : Hp} (Pv : Nat → List V → Hp → Prop) (h0 : Pv 0 [] (upd H1 D (.lst [])))
    (hs : ∀ i ys H, i < n → H D = some (.lst ys) → Pv i ys H → te (some (.int (lo + i)) :: capσ cp σ) H (Nxt D Pv i ys))
    (hd : ∀ ys H, H D = some (.lst ys) → Pv n ys H → Q (.ref D) H) : tLoop cp tYes te σ (Itr lo n) D Q H1 :=
  comp_it (n := n) Pv h0 (fun i ys H _ _ => ⟨fun h => h, fun h => by subst h; exact Nat.le_refl _⟩) (fun i ys H v H' hi hD p y => by
    obtain ⟨e, rfl⟩ := y
    subst e
    exact hs i ys _ hi hD p) hd
theorem comp_str {cp : List (Nat × Str)} {te : TE} {σ : St} {x : Str} {D : Addr} {Q : VK} {H1 : Hp} (Pv : Nat → List V → Hp → Prop) (h0 : Pv 0 [] (upd H1 D (.lst [])))
    (hs : ∀ i c ys H, x.cps[i]? = some c → H D = some (.lst ys) → Pv i ys H → te (some (.str ⟨#[c]⟩) :: capσ cp σ) H (Nxt D Pv i ys))
    (hd : ∀ ys H, H D = some (.lst ys) → Pv x.cps.size ys H → Q (.ref D) H) : tLoop cp tYes te σ (Its x) D Q H1 :=
  comp_it (n := x.cps.size) Pv h0 (fun i ys H _ _ => ⟨fun h => h, fun h => by subst h; exact Nat.le_refl _⟩) (fun i ys H v H' hi hD p y => by
    obtain ⟨e, c, hc, rfl⟩ := y
    subst e
    exact hs i c ys _ hc hD p) hd
theorem comp_list {K : PySem.W.Frag} {cp : List (Nat × Str)} {te : TE} {σ : St} {a : Addr} {xs : List V} {D : Addr} {Q : VK} {H1 : Hp} (Pv : Nat → List V → Hp → Prop) (h0 : Pv 0 [] (upd H1 D (.lst [])))
    (hl : ∀ i ys H, H D = some (.lst ys) → Pv i ys H → SqL K H a xs)
    (hs : ∀ i x ys H, xs[i]? = some x → H D = some (.lst ys) → Pv i ys H → te (some x :: capσ cp σ) H (Nxt D Pv i ys))
    (hd : ∀ ys H, H D = some (.lst ys) → Pv xs.length ys H → Q (.ref D) H) : tLoop cp tYes te σ (Itl K a) D Q H1 :=
  comp_it (n := xs.length) Pv h0 (fun i ys H hD p => ⟨fun h => ⟨xs, xs[i], hl i ys H hD p, by simp [h]⟩, fun h => by subst h; exact ⟨xs, hl _ ys H hD p, Nat.le_refl _⟩⟩) (fun i ys H v H' hi hD p y => by
    obtain ⟨e, y⟩ := y
    subst e
    exact hs i v ys _ (y xs (hl i ys _ hD p)) hD p) hd
end L2

namespace L2
open PySem PySem.Spec PyProof.Rows

/-! ### the kinds of plain things, isinstance of them -/
inductive Kd where
  | non | bl | int | str | lst | tup | dct
  deriving DecidableEq
def Kd.nm : Kd → String
  | .non => "NoneType" | .bl => "bool" | .int => "int" | .str => "str" | .lst => "list" | .tup => "tuple" | .dct => "dict"
theorem kit_int (K : PySem.W.Frag) (a : Kd) : PySem.W.kitOne K (.type a.nm) (.type "int") = some (decide (a = .int ∨ a = .bl)) := by cases a <;> kernel_rfl
theorem kit_bool (K : PySem.W.Frag) (a : Kd) : PySem.W.kitOne K (.type a.nm) (.type "bool") = some (decide (a = .bl)) := by cases a <;> kernel_rfl
theorem kit_str (K : PySem.W.Frag) (a : Kd) : PySem.W.kitOne K (.type a.nm) (.type "str") = some (decide (a = .str)) := by cases a <;> kernel_rfl
theorem kit_list (K : PySem.W.Frag) (a : Kd) : PySem.W.kitOne K (.type a.nm) (.type "list") = some (decide (a = .lst)) := by cases a <;> kernel_rfl
theorem kit_tuple (K : PySem.W.Frag) (a : Kd) : PySem.W.kitOne K (.type a.nm) (.type "tuple") = some (decide (a = .tup)) := by cases a <;> kernel_rfl
def kdD : PyData → Kd
  | .none => .non | .bool _ => .bl | .int _ => .int | .str _ => .str | .list _ => .lst | .tuple _ => .tup | .dict _ => .dct
/-- isinstance(x, T), T a built-in type -/
theorem call_isT {X : Cx} : CallR X (.builtin "isinstance") (fun xs H Q => ∃ x T d k, xs = [x, .ty T] ∧ Dt X.K H x d ∧ PySem.W.kitOne X.K (.type (kdD d).nm) (.type T) = some k ∧ Q (.bl k) H) := by
  intro pins s σ H xs us Q I r h
  obtain ⟨x, T, d, k, rfl, hd, e, q⟩ := h
  obtain ⟨u, c, rfl, r1, r2⟩ := r.two
  cases r2
  have fin : ∀ tk, EP X pins σ Q (.bool k) { s with toks := tk } := fun tk => ⟨.bl k, H, I.tok tk, rfl, q⟩
  cases hd with
  | non => cases r1; exact PySem.W.kia_one PySem.W.kitx_none I.kIn True.intro e (fun z => nomatch z) fin
  | bl b => cases r1; exact PySem.W.kia_one PySem.W.kitx_bool I.kIn True.intro e (fun z => nomatch z) fin
  | int i => obtain ⟨t, rfl⟩ := r1; exact PySem.W.kia_one PySem.W.kitx_int I.kIn True.intro e (fun z => nomatch z) fin
  | str z => obtain ⟨t, rfl⟩ := r1; exact PySem.W.kia_one PySem.W.kitx_str I.kIn True.intro e (fun z => nomatch z) fin
  | lst hq _ =>
    cases r1
    obtain ⟨its, _, ⟨o, n, eo, hc, _, _⟩, _⟩ := I.list hq
    exact PySem.W.kia_one PySem.W.kitx_list I.kIn ⟨o, eo, hc⟩ e (fun z => nomatch z) fin
  | tup hq _ =>
    cases r1
    obtain ⟨its, _, ⟨o, eo, hc, _⟩, _⟩ := I.tuple hq
    exact PySem.W.kia_one PySem.W.kitx_tuple I.kIn ⟨o, eo, hc⟩ e (fun z => nomatch z) fin
  | dK ea =>
    cases r1
    obtain ⟨_, _, vs, _, o, es, ep, h1, h2, _⟩ := I.hok _ _ ea
    exact PySem.W.kia_one PySem.W.kitx_dict I.kIn ⟨o, h1, h2.1⟩ e (fun z => nomatch z) fin
  | dT ea =>
    cases r1
    obtain ⟨_, _, zs, _, o, es, ep, h1, h2, _⟩ := I.hok _ _ ea
    exact PySem.W.kia_one PySem.W.kitx_dict I.kIn ⟨o, h1, h2.1⟩ e (fun z => nomatch z) fin

/-! ### no cell is caught -/
theorem caps0 {X : Cx} {scope : Scope} (kind : scope.kind = .function := by rfl) (plain : ∀ y ∈ scope.names, y.2 = .local ∨ y.2 = .globalImplicit := by decide) (names : ∀ y ∈ scope.names, y.2 = .local → scope.names.lookup y.1 = some .local := by decide +kernel) : Caps X scope [] [] where
  kind := kind
  nocell := fun y hy z => by rcases plain y hy with h | h <;> rw [h] at z <;> cases z
  names := names
  clos := closureFor_none fun y hy z => by rcases plain y hy with h | h <;> rw [h] at z <;> cases z
  sub := fun x c e => by cases e
  has := fun x h => by
    have hm : ∀ (k : NameKind), (relabel scope X.env).names.lookup x = some k → k = .local ∨ k = .globalImplicit := fun k e => by
      have m := PySem.mem_of_lookup e
      unfold relabel at m
      obtain ⟨⟨n, k'⟩, hy, e'⟩ := List.mem_map.mp m
      have q := plain _ hy
      have nf : (k' == NameKind.free) = false := by rcases q with h | h <;> (have h' : k' = _ := h; subst h'; rfl)
      simp only [nf, Bool.false_and, Bool.false_eq_true, if_false] at e'
      have : k' = k := congrArg (·.2) e'
      rw [← this]
      exact q
    rcases h with h | h
    · rcases hm _ h with z | z <;> cases z
    · rcases hm _ h with z | z <;> cases z
  at' := fun p hp => by cases hp

/-! ### a def of the text -/
structure Def (K : PySem.W.Frag) (mg : Str → Option Value) (x : Str) (st : Stmt) : Prop where
  ex : ∃ f fd, Fun K x x st f fd ∧ mg x = some (.ref f)
section
variable {P : Program} {w : World} {K : PySem.W.Frag} {mg : Str → Option Value} {base : Heap}
theorem top_def {h : Heap} {x : Str} {st : Stmt} {f : Addr} {oc : Value} {od an : Option Addr} {osl : Array (Option Value)} {kV doc pm cdv ct : Value} (X : K.In h) (G : h.Ns mainGlobals mg) (a : PySem.W.nsIn K mainGlobals x = some (some (.ref f)))
    (l : K.lookup f = some ⟨oc, od, .func (PySem.W.fnOf x x (defArgs st) (defBody st) (defScope st) .none kV doc pm an cdv ct), osl⟩) (c : PySem.W.codeIn K cdv x = true) (k : PySem.W.keepIn K (.ref f) = true) : Def K mg x st :=
  ⟨f, _, fun_mk l c k, PySem.W.mg_of X G a⟩
theorem Def.known {x : Str} {st : Stmt} {N ps : List Str} {k : Nat} {sp : Sp} (D : Def K mg x st) (S : FnScope N ps (defScope st))
    (hb : ∀ (kV doc pm : Value) (an : Option Addr) (cdv ct : Value) (us : List Value), us.length = ps.length → bindArgs (PySem.W.fnOf x x (defArgs st) (defBody st) (defScope st) .none kV doc pm an cdv ct) ⟨us, []⟩ = pure (ps.zip us))
    (len : ∀ vs H Q E, sp vs H Q E → vs.length = ps.length)
    (hbody : ∀ (f : Addr) (cdv : Value) (A : Around) (outer : List Env) (s : Shared) (H : Hp) (vs : List V) (Q : VK) (E : XK), Room k (A.deeper (envOfC x (defScope st) s.heap.objs.size f cdv)) → sp vs H Q E →
      ∃ t, PSs (cxOf CX0 P w K mg base N x (defScope st) f cdv A outer s H E).nox (defBody st) t ∧ t { nx := fun _ H' => Q .non H', rt := Q } (start N vs) H) : Known P w K mg base CX0 (k + 1) x ps sp := by
  obtain ⟨f, fd, F, hm⟩ := D.ex
  exact ⟨f, fd, F.ok S len fun cdv A outer s H vs Q E hr h => hbody f cdv A outer s H vs Q E hr h, hm, F.kp, F.binds hb⟩
end

/-! ### heaps that grow -/
theorem Same.new {H : Hp} {D : Addr} {o : HO} (h : H D = none) : Same H (upd H D o) := fun b u e => by rw [upd_ne (ne_of_none e h)]; exact e
/-- a new thing is turned -/
theorem Same.on {H H2 : Hp} {D : Addr} {o : HO} (e : Same H H2) (h : H D = none) : Same H (upd H2 D o) := fun b u z => by rw [upd_ne (ne_of_none z h)]; exact e b u z

/-! ### a new list, a new tuple of data -/
/-! ### texts -/
abbrev one (c : Nat) : Str := ⟨#[c]⟩
theorem at_some {α : Type} (xs : List α) (i : Int) (h0 : 0 ≤ i) (h : i < xs.length) : ∃ v, atI xs i = some v ∧ xs[i.toNat]? = some v := by
  have e : i = (i.toNat : Int) := by omega
  have hl : i.toNat < xs.length := by omega
  generalize i.toNat = j at e hl
  subst e
  exact ⟨_, atI_nat (List.getElem?_eq_getElem hl), List.getElem?_eq_getElem hl⟩
theorem at_map (ns : List Int) (i : Int) (h0 : 0 ≤ i) (h : i < ns.length) : atI (ns.map V.int) i = some (V.int (ns.getD i.toNat 0)) := by
  have e : i = (i.toNat : Int) := by omega
  have hl : i.toNat < ns.length := by omega
  generalize i.toNat = j at e hl
  subst e
  refine atI_nat ?_
  rw [List.getElem?_map, List.getElem?_eq_getElem hl]
  simp [List.getD, hl]

/-! ### data of texts and ints -/
theorem dt_strs {K : PySem.W.Frag} {H : Hp} : ∀ zs : List Str, DtAll K H (zs.map V.str) (zs.map PyData.str)
  | [] => .nil
  | z :: r => .cons (.str z) (dt_strs r)
theorem lay_text {cs : List Nat} (h : ∀ c ∈ cs, c < 128) : PyData.canLay0 (.str ⟨cs.toArray⟩) = true := by
  have : ∀ c ∈ cs, c < 1114112 := fun c hc => by have := h c hc; omega
  simp [PyData.canLay0, PyData.strOk]
  exact this

theorem sl {n : Nat} (h : n ≤ 1000 := by simp) : n ≤ sizeLine := Nat.le_of_lt (small1000 h)

/-! ### names of Python's own -/
theorem b_all : bootBuiltins "all" = some (.builtin "all") := by kernel_rfl
theorem b_isinstance : bootBuiltins "isinstance" = some (.builtin "isinstance") := by kernel_rfl
theorem b_abs : bootBuiltins "abs" = some (.builtin "abs") := by kernel_rfl
theorem b_len : bootBuiltins "len" = some (.builtin "len") := by kernel_rfl
theorem b_int : bootBuiltins "int" = some (.type "int") := by kernel_rfl
theorem b_bool : bootBuiltins "bool" = some (.type "bool") := by kernel_rfl
theorem b_str : bootBuiltins "str" = some (.type "str") := by kernel_rfl
theorem b_list : bootBuiltins "list" = some (.type "list") := by kernel_rfl
theorem b_tuple : bootBuiltins "tuple" = some (.type "tuple") := by kernel_rfl
end L2

namespace L2
open PySem PySem.Spec PyProof.Rows

/-! ### exceptions -/
/-- what passing through the frames fs changes: the exception's own objects, the frames' slots -/
structure Flew (fs own : List Addr) (h h' : Heap) : Prop where
  keep : ∀ b o, b ∉ own → b ∉ fs → h.get? b = some o → h'.get? b = some o
  slot : ∀ b o, b ∉ own → h.get? b = some o → ∃ sl, h'.get? b = some { o with slots := sl }
section
variable {M : Model} {A : Around} {E : Value → Shared → Prop} {s : Shared} {base : Heap} {env : Env} {outer : List Env} {L ea T : Addr} {C : Value}
end
end L2

namespace L2
open PySem PySem.Spec PyProof.Rows

section
variable {P : Program} {w : World} {K : PySem.W.Frag} {mg : Str → Option Value} {base : Heap} {N : List Str} {qual : Str} {scope : Scope} {f : Addr} {cd : Value} {A : Around} {outer : List Env} {s : Shared} {H : Hp} {E : XK}
end

/-! ### raise C(..), C an own class below ValueError -/
section
variable {P : Program} {w : World} {K : PySem.W.Frag} {mg : Str → Option Value} {base : Heap} {N : List Str} {qual : Str} {scope : Scope} {f : Addr} {cd : Value} {A : Around} {outer : List Env} {s : Shared} {H : Hp} {E : XK}
end
end L2

namespace L2
open PySem PySem.Spec PyProof.Rows

/-! ### try .. except C as n -/
section
variable {X : Cx} {pins : List (Addr × Obj)} {σ : St} {H : Hp} {s : Shared}
end
section
variable {X : Cx} {pins : List (Addr × Obj)} {σ : St} {H : Hp} {s : Shared}
end
/-! ### isinstance of a caught exception -/
structure ExcK (K : PySem.W.Frag) (C : Addr) : Prop where
  hga : PySem.W.findIn K (.ref C) "__getattribute__" = some (some (.builtin "BaseException.__getattribute__"))
  hk : PySem.W.findIn K (.ref C) "__getattr__" = some none
  hc : ∃ cd, PySem.W.clsIn K C = some cd
  ha : PySem.W.findIn K (.ref C) "__class__" = some (some (.builtin "object.__class__"))
  hn : PySem.W.specialIn K (.builtin "object.__class__") "__get__" = some (some (.builtin "getset_descriptor.__get__"))
  ht : PySem.W.takesIn K (.builtin "object.__class__") = some true
  hm : PySem.W.mroIn K C (.type "object") = some true
  hb : PySem.W.mroIn K C (.type "BaseException") = some true
end L2

namespace L2
open PySem PySem.Spec PyProof.Rows
/-! ### a slice of a text -/
theorem sl_str {X : Cx} : SlR X (fun x lo hi H Q => ∃ z, x = .str z ∧ z.length ≤ sizeLine ∧ Q (.str (Txt.slice z lo hi)) H) := by
  intro pins s σ H x v vl vu lo hi sl Q I rx hs pl pu h
  obtain ⟨z, rfl, hz, q⟩ := h
  obtain ⟨t, rfl⟩ := rx
  have part : ∀ {u : Value} {o : Option Int}, IsPart u o → ∃ l : Option (Int × Tok), partValue l = u ∧ l.map (·.1) = o := fun p => by
    cases p with
    | none => exact ⟨none, rfl, rfl⟩
    | int i t => exact ⟨some (i, t), rfl, rfl⟩
  obtain ⟨l, rfl, rfl⟩ := part pl
  obtain ⟨u, rfl, rfl⟩ := part pu
  exact ⟨"str", _, F.slot_str_getitem.lookup, typeIs_str _ _ _, wpAny_getItem_str_slice (l := l) (u := u) (st := none) hs rfl
    (post_val_or_str ⟨Nat.le_trans (Txt.slice_le z _ _) hz, fun t' k => ⟨.str _, H, I.tok k, ⟨_, rfl⟩, q⟩⟩)⟩
end L2

namespace L2
open PySem PySem.Spec PyProof.Rows
/-! ### list(range(n)), list(d) -/
section
variable {X : Cx}
end
/-- the j-th statement of a class's body -/
def inCls (s : Stmt) (j : Nat) : Stmt := match s with
  | .ClassDef _ _ _ body _ _ _ _ _ _ _ => body.getD j (.Pass ⟨0, 0, 0, 0⟩)
  | _ => .Pass ⟨0, 0, 0, 0⟩
/-! ### methods and classes, by what they promise -/
structure KnownM (P : Program) (w : World) (K : PySem.W.Frag) (mg : Str → Option Value) (base : Heap) (CX : CXT) (k : Nat) (C : Addr) (m : Str) (ps : List Str) (sp : Sp) : Prop where
  ex : ∃ f fd, FnOk P w K mg base CX k f fd ps sp ∧ Meth K C m f ∧ Binds K fd ps []
structure KnownI (P : Program) (w : World) (K : PySem.W.Frag) (mg : Str → Option Value) (base : Heap) (CX : CXT) (k : Nat) (C : Addr) (ps : List Str) (sp : Sp) : Prop where
  ex : ∃ f fd, FnOk P w K mg base CX k f fd ps sp ∧ Mk K C f ∧ Binds K fd ps []
structure Mth (K : PySem.W.Frag) (C : Addr) (m qual : Str) (st : Stmt) : Prop where
  ex : ∃ f fd, Fun K m qual st f fd ∧ PySem.W.findIn K (.ref C) m = some (some (.ref f)) ∧ PySem.W.isFn K (.ref f) = true
section
variable {P : Program} {w : World} {K : PySem.W.Frag} {mg : Str → Option Value} {base : Heap} {C : Addr}
theorem mth_mk {m qual : Str} {st : Stmt} {f : Addr} {oc : Value} {od an : Option Addr} {osl : Array (Option Value)} {kV doc pm cdv ct : Value} (a : PySem.W.findIn K (.ref C) m = some (some (.ref f))) (i : PySem.W.isFn K (.ref f) = true)
    (l : K.lookup f = some ⟨oc, od, .func (PySem.W.fnOf m qual (defArgs st) (defBody st) (defScope st) .none kV doc pm an cdv ct), osl⟩) (c : PySem.W.codeIn K cdv qual = true) (k : PySem.W.keepIn K (.ref f) = true) : Mth K C m qual st :=
  ⟨f, _, fun_mk l c k, a, i⟩
theorem Mth.known {m qual : Str} {st : Stmt} {N ps : List Str} {k : Nat} {sp : Sp} (D : Mth K C m qual st) (S : FnScope N ps (defScope st))
    (hb : ∀ (kV doc pm : Value) (an : Option Addr) (cdv ct : Value) (us : List Value), us.length = ps.length → bindArgs (PySem.W.fnOf m qual (defArgs st) (defBody st) (defScope st) .none kV doc pm an cdv ct) ⟨us, []⟩ = pure (ps.zip us))
    (len : ∀ vs H Q E, sp vs H Q E → vs.length = ps.length)
    (hbody : ∀ (f : Addr) (cdv : Value) (A : Around) (outer : List Env) (s : Shared) (H : Hp) (vs : List V) (Q : VK) (E : XK), Room k (A.deeper (envOfC qual (defScope st) s.heap.objs.size f cdv)) → sp vs H Q E →
      ∃ t, PSs (cxOf CX0 P w K mg base N qual (defScope st) f cdv A outer s H E).nox (defBody st) t ∧ t { nx := fun _ H' => Q .non H', rt := Q } (start N vs) H) : KnownM P w K mg base CX0 (k + 1) C m ps sp := by
  obtain ⟨f, fd, F, ha, hi⟩ := D.ex
  exact ⟨f, fd, F.ok S len fun cdv A outer s H vs Q E hr h => hbody f cdv A outer s H vs Q E hr h, ⟨ha, hi, F.kp⟩, F.binds hb⟩
theorem KnownM.init {CX : CXT} {k : Nat} {ps : List Str} {sp : Sp} (G : KnownM P w K mg base CX k C "__init__" ps sp) (mk : PySem.W.makesIn K C = true) (kc : PySem.W.keepIn K (.ref C) = true) : KnownI P w K mg base CX k C ps sp := by
  obtain ⟨f, fd, F, hm, hb⟩ := G.ex
  exact ⟨f, fd, F, ⟨mk, hm.at_, hm.fn, kc⟩, hb⟩
end
section
variable {X : Cx} {CX : CXT} {k : Nat} {C : Addr} {ps : List Str} {sp : Sp} {E : XK} {x m : Str} {p pos apos : Pos} {e o : Expr} {es : List Expr} {t : TA} {ta : TE}
theorem pe_makeN (G : KnownI X.prog X.w X.K X.mg X.base CX k C ps sp) (hr : Room (k + 1) X.A) (hm : X.mg x = some (.ref C)) (hx : Passes CX X E)
    (ha : PA X (e :: es) t) (hg : Gl X x := by rfl) (hdb : (x == ("__debug__" : Str)) = false := by decide) (he : starEach (e :: es) X.env = (false, eval e X.env) :: starEach es X.env := by rfl) (hpl : (backTo pos (starEach es X.env)).any (·.1) = false := by rfl) :
    PE X (.Call (.Name x p) (e :: es) [] pos) (tMake C sp [] E t) := by
  obtain ⟨f, fd, F, M, hb⟩ := G.ex
  exact pe_make M F hr hg hm hb .nil hx ha hdb he hpl
end
end L2

namespace L2
open PySem PySem.Spec PyProof.Rows
/-! ### what a comprehension catches -/
def clFold (cells : List (Str × Addr)) : List (Str × NameKind) → List (Str × Addr) → List (Str × Addr)
  | [], acc => acc
  | (n, k) :: r, acc => clFold cells r (if k == .free then (n, (cells.lookup n).getD 0) :: acc else acc)
theorem closureFor_fold {env : Env} : ∀ {names : List (Str × NameKind)} {acc : List (Str × Addr)}, (∀ y ∈ names, y.2 = .free → ∃ c, env.cells.lookup y.1 = some c) →
    (forIn names acc fun (x : Str × NameKind) (cs : List (Str × Addr)) => (do
      let (name, kind) := x
      if kind == NameKind.free then (do let a ← cellOf env name; pure (ForInStep.yield ((name, a) :: cs))) else pure (ForInStep.yield cs) : Sem (ForInStep (List (Str × Addr))))) = pure (clFold env.cells names acc)
  | [], acc, _ => rfl
  | (n, k) :: r, acc, h => by
    rw [List.forIn_cons]
    by_cases hk : (k == NameKind.free) = true
    · obtain ⟨c, hc⟩ := h (n, k) List.mem_cons_self (by simpa using hk)
      have e : cellOf env n = pure c := by unfold cellOf; rw [show env.cells.lookup n = some c from hc]
      have ih := closureFor_fold (env := env) (names := r) (acc := (n, c) :: acc) fun y hy => h y (List.mem_cons_of_mem _ hy)
      show (do let r ← (if k == NameKind.free then (do let a ← cellOf env n; pure (ForInStep.yield ((n, a) :: acc))) else pure (ForInStep.yield acc) : Sem (ForInStep (List (Str × Addr)))); _) = _
      rw [if_pos hk, e, pure_bind, pure_bind]
      refine Eq.trans ih ?_
      show _ = pure (clFold env.cells r (if (k == NameKind.free) = true then (n, (env.cells.lookup n).getD 0) :: acc else acc))
      rw [if_pos hk, show env.cells.lookup n = some c from hc]
      rfl
    · have ih := closureFor_fold (env := env) (names := r) (acc := acc) fun y hy => h y (List.mem_cons_of_mem _ hy)
      show (do let r ← (if k == NameKind.free then (do let a ← cellOf env n; pure (ForInStep.yield ((n, a) :: acc))) else pure (ForInStep.yield acc) : Sem (ForInStep (List (Str × Addr)))); _) = _
      rw [if_neg hk, pure_bind]
      refine Eq.trans ih ?_
      show _ = pure (clFold env.cells r (if (k == NameKind.free) = true then (n, (env.cells.lookup n).getD 0) :: acc else acc))
      rw [if_neg hk]
theorem clFold_sub {cells : List (Str × Addr)} : ∀ {names : List (Str × NameKind)} {acc : List (Str × Addr)}, (∀ y ∈ names, y.2 = .free → ∃ c, cells.lookup y.1 = some c) → (∀ x c, acc.lookup x = some c → cells.lookup x = some c) →
    ∀ x c, (clFold cells names acc).lookup x = some c → cells.lookup x = some c
  | [], _, _, h => h
  | (n, k) :: r, acc, hf, h => by
    refine clFold_sub (names := r) (fun y hy => hf y (List.mem_cons_of_mem _ hy)) ?_
    intro x c e
    by_cases hk : (k == NameKind.free) = true
    · obtain ⟨c', hc⟩ := hf (n, k) List.mem_cons_self (by simpa using hk)
      have hc' : cells.lookup n = some c' := hc
      rw [if_pos hk, hc', List.lookup_cons] at e
      by_cases hx : (x == n) = true
      · rw [hx] at e
        cases e
        have : x = n := by simpa using hx
        rw [this]
        exact hc'
      · rw [show (x == n) = false by simpa using hx] at e
        exact h x c e
    · rw [if_neg hk] at e
      exact h x c e
theorem clFold_keep {cells : List (Str × Addr)} : ∀ {names : List (Str × NameKind)} {acc : List (Str × Addr)} {x : Str}, (∃ c, acc.lookup x = some c) → ∃ c, (clFold cells names acc).lookup x = some c
  | [], _, _, h => h
  | (n, k) :: r, acc, x, ⟨c, h⟩ => by
    refine clFold_keep (names := r) ?_
    by_cases hk : (k == NameKind.free) = true
    · rw [if_pos hk, List.lookup_cons]
      cases hx : x == n with
      | true => exact ⟨_, rfl⟩
      | false => exact ⟨c, h⟩
    · rw [if_neg hk]
      exact ⟨c, h⟩
theorem clFold_has {cells : List (Str × Addr)} : ∀ {names : List (Str × NameKind)} {acc : List (Str × Addr)} {x : Str}, (x, NameKind.free) ∈ names → ∃ c, (clFold cells names acc).lookup x = some c
  | (n, k) :: r, acc, x, h => by
    rcases List.mem_cons.mp h with e | h
    · cases e
      refine clFold_keep (names := r) ⟨(cells.lookup n).getD 0, ?_⟩
      rw [if_pos (by rfl), List.lookup_cons, beq_self_eq_true]
    · exact clFold_has (names := r) h
theorem relabel_kind {env : Env} : ∀ {names : List (Str × NameKind)} {x : Str}, names.lookup x = some .free →
    (names.map fun (n, k) => if (k == NameKind.free && env.scope.kind == .function && env.kindOf n == some .cell) then (n, NameKind.cell) else (n, k)).lookup x = some .cell ∨
    (names.map fun (n, k) => if (k == NameKind.free && env.scope.kind == .function && env.kindOf n == some .cell) then (n, NameKind.cell) else (n, k)).lookup x = some .free
  | [], _, h => by simp at h
  | (n, k) :: r, x, h => by
    have ih := @relabel_kind env r x
    rw [List.lookup_cons] at h
    rw [List.map_cons]
    cases hx : x == n with
    | true =>
      rw [hx] at h
      cases h
      by_cases hc : (NameKind.free == NameKind.free && env.scope.kind == .function && env.kindOf n == some .cell) = true
      · simp only [hc, if_true, List.lookup_cons, hx]
        exact .inl trivial
      · simp only [hc, if_false, List.lookup_cons, hx, Bool.false_eq_true]
        exact .inr trivial
    | false =>
      rw [hx] at h
      by_cases hc : (k == NameKind.free && env.scope.kind == .function && env.kindOf n == some .cell) = true
      · simp only [hc, if_true, List.lookup_cons, hx]
        exact ih h
      · simp only [hc, if_false, List.lookup_cons, hx, Bool.false_eq_true]
        exact ih h
theorem caps_of {X : Cx} {scope : Scope} {cp : List (Nat × Str)} {sc : Scope} {N : List Str} (hcell : ∀ x, X.env.scope.names.lookup x = some .cell → ∃ c, X.env.cells.lookup x = some c) (hs : X.env.scope = sc := by rfl) (hN : X.N = N := by rfl)
    (kind : scope.kind = .function := by rfl) (plain : ∀ y ∈ scope.names, y.2 ≠ .cell := by decide) (names : ∀ y ∈ scope.names, y.2 = .local → scope.names.lookup y.1 = some .local := by decide +kernel)
    (free : ∀ y ∈ scope.names, y.2 = .free → sc.names.lookup y.1 = some .cell := by decide +kernel) (at' : ∀ p ∈ cp, N[p.1]? = some p.2 ∧ sc.names.lookup p.2 = some .cell ∧ scope.names.lookup p.2 = some .free := by decide +kernel) :
    Caps X scope (clFold X.env.cells scope.names []) cp := by
  subst hs hN
  have hf : ∀ y ∈ scope.names, y.2 = .free → ∃ c, X.env.cells.lookup y.1 = some c := fun y hy e => hcell _ (free y hy e)
  refine ⟨kind, plain, names, ?_, clFold_sub hf (fun x c e => by cases e), fun x h => ?_, fun p hp => ?_⟩
  · show closureFor scope X.env = _
    simp only [closureFor]
    have := closureFor_fold (env := X.env) (acc := []) hf
    exact (congrArg (fun z => z >>= fun r => pure r) this).trans (pure_bind _ _)
  · have hm : ∀ k, (relabel scope X.env).names.lookup x = some k → (k = .cell ∨ k = .free) → (x, NameKind.free) ∈ scope.names := fun k e hk => by
      have m := PySem.mem_of_lookup e
      unfold relabel at m
      obtain ⟨⟨n, k'⟩, hy, e'⟩ := List.mem_map.mp m
      have nc := plain _ hy
      by_cases hc : (k' == NameKind.free && X.env.scope.kind == .function && X.env.kindOf n == some .cell) = true
      · simp only [hc, if_true] at e'
        have e1 : n = x := congrArg (·.1) e'
        have : k' = .free := by simp only [Bool.and_eq_true, beq_iff_eq] at hc; exact hc.1.1
        subst e1 this
        exact hy
      · simp only [hc, if_false, Bool.false_eq_true] at e'
        have e1 : n = x := congrArg (·.1) e'
        have e2 : k' = k := congrArg (·.2) e'
        subst e1 e2
        rcases hk with z | z
        · exact absurd z nc
        · subst z; exact hy
    rcases h with h | h
    · exact clFold_has (hm _ h (.inl rfl))
    · exact clFold_has (hm _ h (.inr rfl))
  · obtain ⟨h1, h2, h3⟩ := at' p hp
    exact ⟨h1, .inl h2, relabel_kind h3⟩
end L2

namespace L2
open PySem PySem.Spec PyProof.Rows PySem.Builtin PySem.Builtin.Str
/-! ### what a slice of a text is -/
theorem slice_mem {x : Str} {lo hi : Option Int} {c : Nat} (h : c ∈ (Txt.slice x lo hi).cps.toList) : c ∈ x.cps.toList := by
  unfold Txt.slice at h
  split at h
  · exact h
  · simp only [List.mem_filterMap] at h
    obtain ⟨i, _, e⟩ := h
    rw [← Array.getElem?_toList] at e
    exact List.mem_of_getElem? e
theorem slice_len {x : Str} {a b : Nat} (hab : a ≤ b) (hb : b ≤ x.length) : (Txt.slice x (some (a : Int)) (some (b : Int))).length = b - a := by
  unfold Txt.slice
  split
  · rename_i h
    rw [StrLaws.strSliceIndices_plain hab hb] at h
    simp at h
    exact h.symm
  · show (List.toArray _).size = _
    rw [List.size_toArray, StrLaws.sliced_plain x hab hb, List.length_take, List.length_drop]
    have : x.cps.toList.length = x.length := by rw [Array.length_toList]; rfl
    omega
theorem slice_0 {x : Str} {hi : Option Int} : Txt.slice x none hi = Txt.slice x (some (0 : Nat)) hi := by
  have e : strSliceIndices none hi 1 x.length = strSliceIndices (some ((0 : Nat) : Int)) hi 1 x.length := by
    have e1 : max (0 : Int) (min 0 (x.length : Int)) = 0 := by omega
    simp [strSliceIndices, e1]
  unfold Txt.slice
  rw [e]
end L2

namespace L2
open PySem PySem.Spec PyProof.Rows
/-! ### for over a dict: it stands still while it is walked -/
section
variable {X : Cx} {pins : List (Addr × Obj)} {σ : St} {H : Hp} {s : Shared} {d : Addr}
end
section
variable {X : Cx} {tg : Expr}
end
end L2

namespace L2
open PySem PySem.Spec PyProof.Rows
/-! ### list.insert -/
section
variable {X : Cx}
/-! ### dict(d) -/
/-! ### d != e, where both hold the same things -/
end
/-! ### for k, v in d.items() -/
section
variable {X : Cx} {elts : List Expr} {x1 : Nat} {tpos apos pos : Pos}
end
/-! ### xs != [], xs[::-1], what is never come to -/
section
variable {X : Cx} {e st : Expr} {te : TE} {ts : TO} {p2 pos : Pos}
theorem ps_dead {st : Stmt} : PS X st (fun _ _ _ => False) := fun _ _ _ _ _ _ h => h.elim
end
end L2

namespace L2
open PySem PySem.Spec PyProof.Rows
/-! ### lambdas: the table of the code that makes them is tracked by what is true of it -/
/-- a code object's table, whatever stands in it -/
def TabE (P : Addr) : HO := .ext fun h => ∃ ps : Array Value, h.get? P = some (PySem.W.tabObj ps) ∧ TriplesOk ps.toList
/-- what the base tells of the code that makes lambdas -/
structure Maker (mg : Str → Option Value) (base : Heap) (c P : Addr) : Prop where
  hd : PySem.W.CodeHd base c P
  bt : base.BuiltinsAt mg P
theorem upd_id {H : Hp} {a : Addr} {o : HO} (h : H a = some o) : upd H a o = H := by
  funext b
  unfold upd
  split
  · rename_i e; subst e; exact h.symm
  · rfl
theorem tabE_ok {P : Program} {w : World} {H : Hp} {h : Heap} {a : Addr} {ps : Array Value} (e : h.get? a = some (PySem.W.tabObj ps)) (t : TriplesOk ps.toList) : ObjOk P w H h a (TabE a) :=
  ⟨⟨ps, e, t⟩, ⟨_, e⟩, fun h1 h2 ⟨qs, e1, t1⟩ k => ⟨qs, k _ e1, t1⟩⟩
def tLam (P : Addr) : TE := fun _ H Q => H P = some (TabE P) ∧ ∀ a, H a = none → Q (.ref a) H
section
variable {X : Cx}
theorem triples_app : ∀ {xs : List Value} {l c : Nat} {a : Addr}, TriplesOk xs → TriplesOk (xs ++ [rawInt l, rawInt c, .ref a])
  | [], _, _, _, _ => trivial
  | .int _ _ :: .int _ _ :: _ :: rest, _, _, _, t => triples_app (xs := rest) t
theorem triples_more {ps : Array Value} {l c : Nat} {a : Addr} (t : TriplesOk ps.toList) : TriplesOk (ps ++ #[rawInt l, rawInt c, .ref a]).toList := by
  rw [Array.toList_append]
  exact triples_app t
theorem pe_lam {params : Arguments} {body : Expr} {scope : Scope} {pos : Pos} {c P : Addr} {clos : List (Str × Addr)} (M : Maker X.mg X.base c P) (hc : X.env.code = .ref c) (hcl : closureFor scope X.env = pure clos) (hdef : defaultsOf params X.env = ([], [])) :
    PE X (.Lambda params body scope pos) (tLam P) := by
  intro pins s σ H Q I h
  obtain ⟨hP, q⟩ := h
  obtain ⟨⟨ps, e, t⟩, _, _⟩ := I.hok P _ hP
  have hg : s.heap.Ns mainGlobals X.mg := I.mod.glob.keeps I.bk
  have C := M.hd.keeps I.bk
  have hb : s.heap.BuiltinsAt X.mg P := let ⟨bm, o, b1, b2, b3, b4, b5, r⟩ := M.bt; ⟨bm, o, b1, b2, b3, b4, I.bk _ _ b5, r⟩
  have hgP : mainGlobals ≠ P := fun z => by
    obtain ⟨o, es, ep, e1, hd, _⟩ := hg
    rw [z, e] at e1; cases e1; cases hd
  refine PySem.W.kla_eval hdef ?_
  cases hf : codeAmong pos ps.toList with
  | none =>
    refine PySem.W.kla_makeFunction (mg := X.mg) hcl I.ok.glob hg hc C e t hf hgP hb fun c' ctv h' tk hx hge hlt hrec htb => ?_
    have J := I.write (x := P) (e := P) (o := TabE P) (t' := tk) (h' := h'.push (PySem.W.kla_obj "<lambda>" (X.env.qual ++ "<lambda>") params body scope clos ((X.mg "__name__").getD .none) c' ctv)) (by rw [hP]; trivial) (.inl rfl)
      (fun b u nb eb => Heap.get?_push_of_some _ (hx b u nb eb)) ⟨_, Heap.get?_push_of_some _ htb⟩ (tabE_ok (Heap.get?_push_of_some _ htb) (triples_more t))
    rw [upd_id hP] at J
    exact ⟨.ref h'.objs.size, H, J, rfl, q _ (I.hok.fresh (Nat.le_of_lt (Nat.lt_of_le_of_lt hge hlt)))⟩
  | some cv =>
    refine PySem.W.kla_makeFunctionHit (mg := X.mg) hcl I.ok.glob hg hc C e t hf hb fun ctv h' tk hk hsz => ?_
    refine ⟨.ref h'.objs.size, H, ?_, rfl, q _ (I.hok.fresh hsz)⟩
    exact I.un (Un.kept fun b o eb => Heap.get?_push_of_some _ (hk b o eb)) (I.hok.kept fun b o eb => Heap.get?_push_of_some _ (hk b o eb))
end
/-! ### the head, with tables -/
abbrev TabsIn (tabs : List (Addr × Addr)) (H : Hp) : Prop := ∀ z ∈ tabs, H z.2 = some (TabE z.2)
theorem law_callT {P : Program} {w : World} {K : PySem.W.Frag} {mg mb : Str → Option Value} {CX : CXT} {k : Nat} {fa a : Addr} {fd : FuncData} {x : Str} {sp : Sp} {s₁ : Shared} {vs : List Value} {ns : List Int} {tabs : List (Addr × Addr)}
    (KX : K.In s₁.heap) (hns : s₁.heap.Ns mainGlobals mg) (hb : s₁.heap.Ns builtinsNs mb) (hbb : ∀ x : Str, x ≠ "__name__" → mb x = bootBuiltins x) (hlim : s₁.heap.NoLimit) (hg : s₁.gens = #[])
    (ha : s₁.heap.get? a = some { cls := .type "list", data := .seq vs.toArray }) (hi : IntsAre vs ns) (hl : ns.length ≤ sizeLine) (hr : Room k callerA)
    (hT : ∀ z ∈ tabs, PySem.W.CodeHd s₁.heap z.1 z.2 ∧ s₁.heap.get? z.2 = some (PySem.W.tabObj #[]) ∧ K.lookup z.2 = none)
    (hbm : ∃ bm ob, mg "__builtins__" = some (.ref bm) ∧ bm ≠ builtinsNs ∧ s₁.heap.get? bm = some ob ∧ ob.cls = .type "module" ∧ ob.dict = some builtinsNs ∧ ob.data = .plain)
    (F : ∀ base : Heap, K.In base → base.Ns mainGlobals mg → (∀ z ∈ tabs, Maker mg base z.1 z.2) → FnOk P w K mg base CX k fa fd [x] sp) (hbind : ∀ (s : Shared) (u : Value), BindsTo s fd ⟨[u], []⟩ [(x, u)])
    (hsp : ∀ H : Hp, TabsIn tabs H → SqL K H a (ns.map V.int) → sp [.ref a] H (fun v H' => v = .bl true ∧ TabsIn tabs H') fun _ _ _ => False)
    (hCX : ∀ H e s', CX [] H s₁ (fun _ _ _ => False) e s' → False) :
    codeAny (model P w) callerA (.call (.ref fa) ⟨[.ref a], []⟩) (fun r s' => r = .ok (.ret (.bool true)) ∧ OldK s₁.heap s'.heap ∧ s'.os = s₁.os ∧ AllBare s'.gens) s₁ := by
  have rv := vals_ints hi
  have lenV := hi.length
  have neT : ∀ z ∈ tabs, z.2 ≠ a := fun z hz e => by
    have e1 := (hT z hz).2.1
    rw [e, ha] at e1
    cases e1
  have core : ∀ H : Hp, TabsIn tabs H → (∀ b, H b = none ∨ (b = a ∧ K.lookup a = none ∧ ∃ o xs, H b = some (.frz o (.lst xs))) ∨ ∃ z ∈ tabs, b = z.2) → SqL K H a (ns.map V.int) → HOk P w H s₁.heap →
      codeAny (model P w) callerA (.call (.ref fa) ⟨[.ref a], []⟩) (fun r s' => r = .ok (.ret (.bool true)) ∧ OldK s₁.heap s'.heap ∧ s'.os = s₁.os ∧ AllBare s'.gens) s₁ := by
    intro H hTb hO hS hok
    have base_of : ∀ {b : Addr} {o : Obj}, s₁.heap.get? b = some o → H b = none → (hidT s₁.heap H).get? b = some o := fun e n => hidT_get e n
    have free : ∀ {b : Addr} {o : Obj}, s₁.heap.get? b = some o → o ≠ { cls := .type "list", data := .seq vs.toArray } → o ≠ PySem.W.tabObj #[] → H b = none := fun {b o} e n1 n2 => by
      rcases hO b with z | ⟨rfl, _, _⟩ | ⟨z, hz, rfl⟩
      · exact z
      · rw [ha] at e; exact absurd (Option.some.inj e).symm n1
      · rw [(hT z hz).2.1] at e; exact absurd (Option.some.inj e).symm n2
    have noA : ∀ {b : Addr} {o : Obj} {es : Array DictEntry} {ep : Nat}, s₁.heap.get? b = some o → o.data = .dict es ep → H b = none := fun {b o es ep} e d =>
      free e (fun z => by rw [z] at d; cases d) (fun z => by rw [z] at d; cases d)
    have nsK : ∀ {b : Addr} {m : Str → Option Value}, s₁.heap.Ns b m → (hidT s₁.heap H).Ns b m := fun {b m} ⟨o, es, ep, e, d, r⟩ => ⟨o, es, ep, base_of e (noA e d), d, r⟩
    have hKb : K.In (hidT s₁.heap H) := fun b o e => base_of (KX b o e) (by
      rcases hO b with z | ⟨rfl, z, _⟩ | ⟨z, hz, rfl⟩
      · exact z
      · rw [z] at e; cases e
      · rw [(hT z hz).2.2] at e; cases e)
    have hM : Mod K mg (hidT s₁.heap H) := ⟨hKb, nsK hns, ⟨mb, nsK hb, hbb⟩, let ⟨mc, h1, h2⟩ := hlim; ⟨mc, nsK h1, h2⟩⟩
    have e0 : Env0 P w K mg (hidT s₁.heap H) callerA [] s₁ H := ⟨rfl, hM, fun b o e => of_hidT e, Nat.le_of_eq (hidT_size _ _), trivial, fun b hb => absurd (show b ∈ ([] : List Addr) from hb) (by simp), hok, .of_eq hg⟩
    have hMk : ∀ z ∈ tabs, Maker mg (hidT s₁.heap H) z.1 z.2 := fun z hz => by
      obtain ⟨⟨o, ws, file, tf, flags, tg, inF, text, tt, e1, e2, r⟩, e3, _⟩ := hT z hz
      obtain ⟨bm, ob, b1, b2, b3, b4, b5, b6⟩ := hbm
      refine ⟨⟨o, ws, file, tf, flags, tg, inF, text, tt, base_of e1 (free e1 (fun q => by rw [q] at e2; exact absurd (Value.type.inj e2) (by decide)) (fun q => by rw [q] at e2; cases e2)), e2, r⟩, bm, ob, b1, b2, fun q => ?_, fun q => ?_, base_of b3 (free b3 (fun q => by rw [q] at b4; exact absurd (Value.type.inj b4) (by decide)) (fun q => by rw [q] at b4; cases b4)), b4, b5, b6⟩
      · obtain ⟨o', es, ep, e', d', _⟩ := hns
        rw [q, e'] at b3; cases b3; rw [d'] at b6; cases b6
      · rw [q, e3] at b3; cases b3; cases b4
    refine codeAny_mono ((F _ hKb (nsK hns) hMk).run callerA [] s₁ H ⟨[.ref a], []⟩ [.ref a] [.ref a] _ _ hr e0 (hbind s₁ (.ref a)) (.cons rfl .nil) (hsp H hTb hS)) fun r s' h => ?_
    cases r with
    | error e => exact (hCX H e s' h).elim
    | ok fl =>
      cases fl with
      | next => exact False.elim h
      | brk => exact False.elim h
      | cont => exact False.elim h
      | ret u =>
        obtain ⟨v, H', os, bare, un, hok', r', q⟩ := h
        obtain ⟨q', hT'⟩ : v = .bl true ∧ TabsIn tabs H' := q
        subst q'
        obtain rfl : u = Value.bool true := r'
        refine ⟨rfl, ⟨fun b o e => ?_, fun b o e => un.there b o e (by simp)⟩, os, bare⟩
        rcases hO b with z | ⟨rfl, _, ob, xs, z⟩ | ⟨z, hz, rfl⟩
        · exact .inl (un.keep b o e z (by intro z; exact absurd (show b ∈ ([] : List Addr) from z) (by simp)) (by simp))
        · have z2 := un.frzs b ob _ z
          obtain ⟨e1, _⟩ := hok b _ z
          obtain ⟨e2, _⟩ := hok' b _ z2
          rw [e] at e1; cases e1
          exact .inl e2
        · obtain ⟨⟨ps, e4, _⟩, _⟩ := hok' z.2 _ (hT' z hz)
          have e3 := (hT z hz).2.1
          rw [e3] at e
          cases e
          exact .inr (.inl ⟨((hT z hz).1.tab e3).isCodeTable, rfl, #[], ps, rfl, by rw [e4, Array.empty_append]⟩)
  have hTok : ∀ (H : Hp) (z : Addr × Addr), z ∈ tabs → ObjOk P w H s₁.heap z.2 (TabE z.2) := fun H z hz => tabE_ok (hT z hz).2.1 trivial
  classical
  let Ht : Hp := fun b => if b ∈ tabs.map (·.2) then some (TabE b) else none
  have hHt : TabsIn tabs Ht := fun z hz => if_pos (List.mem_map_of_mem hz)
  have ofHt : ∀ b u, Ht b = some u → ∃ z ∈ tabs, b = z.2 ∧ u = TabE z.2 := fun b u e => by
    by_cases hb : b ∈ tabs.map (·.2)
    · have e' := (if_pos hb).symm.trans e
      obtain ⟨z, hz, rfl⟩ := List.mem_map.mp hb
      exact ⟨z, hz, rfl, (Option.some.inj e').symm⟩
    · have e' := (if_neg hb).symm.trans e
      cases e'
  cases hk : K.lookup a with
  | some o =>
    have e := KX a o hk
    rw [ha] at e
    cases e
    refine core Ht hHt (fun b => ?_) (.inr ⟨_, vs.toArray, _, hk, rfl, rfl, rfl, by rw [List.size_toArray, lenV]; exact hl, by simpa using rv⟩) (fun b u z => ?_)
    · cases q : Ht b with
      | none => exact .inl rfl
      | some u => obtain ⟨z, hz, e, _⟩ := ofHt b u q; exact .inr (.inr ⟨z, hz, e⟩)
    · obtain ⟨y, hy, rfl, rfl⟩ := ofHt b u z
      exact hTok _ y hy
  | none =>
    refine core (fun b => if b = a then some (.frz { cls := .type "list", data := .seq vs.toArray } (.lst (ns.map V.int))) else Ht b) (fun z hz => ?_) (fun b => ?_) (.inl (.inr ⟨{ cls := .type "list", data := .seq vs.toArray }, if_pos rfl⟩)) (fun b u z => ?_)
    · exact (if_neg (neT z hz)).trans (hHt z hz)
    · by_cases hb : b = a
      · exact .inr (.inl ⟨hb, hk, _, _, if_pos hb⟩)
      · cases q : Ht b with
        | none => exact .inl (if_neg hb)
        | some u => obtain ⟨z, hz, e, _⟩ := ofHt b u q; exact .inr (.inr ⟨z, hz, e⟩)
    · by_cases hb : b = a
      · have z' := (if_pos hb).symm.trans z
        cases z'
        subst hb
        exact ⟨ha, by rw [List.length_map]; exact hl, vs, _, rv, ha⟩
      · have z' := (if_neg hb).symm.trans z
        obtain ⟨y, hy, rfl, rfl⟩ := ofHt b u z'
        exact hTok _ y hy
/-- a def whose code's table stands in the written part -/
structure TabOf (q : Program) (K : PySem.W.Frag) (z : Addr × Addr) : Prop where
  ex : ∃ x : Str, ((recsOf q).find? (fun e => e.name == x)).isSome = true ∧ PySem.W.tabIn K x = some z
theorem noTab {K : PySem.W.Frag} {h : Heap} {a : Addr} {ps : Array Value} (hK : PySem.W.noTabs K = true) (X : K.In h) (e : h.get? a = some (PySem.W.tabObj ps)) : K.lookup a = none := by
  cases q : K.lookup a with
  | none => rfl
  | some o =>
    have e2 := X a o q
    rw [e] at e2
    cases e2
    have h2 := List.all_eq_true.mp hK (a, _) (PySem.W.mem_of_lookupK q)
    exact absurd (show false = true from h2) Bool.false_ne_true
theorem walk_ofT {l : PySem.W.OpenLaw} {n k : Nat} {q : Program} {loose : List Str} {XP : (Str → Option Value) → Heap → Prop} {YP : World → Heap → Prop} {d : DefRec} {K : Params → PySem.W.Frag} {CX : World → CXT} {sp : World → List (Addr × Addr) → Sp} {x : Str}
    (hn : l.most = some n) (hn2 : n ≤ sizeLine) (hdf : d.params.defaults = []) (hr : Room k callerA)
    (hY : ∀ (w : World) (h : Heap), YP w h → (K w.params).In h)
    (F : ∀ (w : World) (mg : Str → Option Value) (fa : Addr) (h : Heap), (K w.params).In h → h.Ns mainGlobals mg → mg d.name = some (.ref fa) →
      PySem.W.noTabs (K w.params) = true ∧ ∃ tabs : List (Addr × Addr), (∀ z ∈ tabs, TabOf q (K w.params) z) ∧ ∃ fd : FuncData, (∀ (s : Shared) (u : Value), BindsTo s fd ⟨[u], []⟩ [(x, u)]) ∧
        ∀ base : Heap, (K w.params).In base → base.Ns mainGlobals mg → (∀ z ∈ tabs, Maker mg base z.1 z.2) → FnOk l.prog w (K w.params) mg base (CX w) k fa fd [x] (sp w tabs))
    (hsp : ∀ (w : World) (tabs : List (Addr × Addr)) (H : Hp) (a : Addr) (ns : List Int), ns.length ≤ n → TabsIn tabs H → SqL (K w.params) H a (ns.map V.int) → sp w tabs [.ref a] H (fun v H' => v = .bl true ∧ TabsIn tabs H') fun _ _ _ => False)
    (hCX : ∀ (w : World) (H : Hp) (s : Shared) (e : Value) (s' : Shared), CX w [] H s (fun _ _ _ => False) e s' → False) :
    PySem.W.WalkO q loose XP YP l.row.toRowW d [] (fun f vs => PySem.call f vs) := by
  refine Att.attach_call hn hdf fun w s₀ s₁ mg mb fa o pm cd doc a vs ns G Y ho hd hcd hmg hobj hints hlen hg => ?_
  have KX := hY w _ Y
  obtain ⟨hnT, tabs, hTb, fd, hb, hF⟩ := F w mg fa _ KX G.T.g hmg
  refine law_callT KX G.T.g G.T.b G.T.builtins G.T.nolimit hg hobj hints (Nat.le_trans hlen hn2) hr (fun z hz => ?_) G.T.bmain hF hb (fun H hO hS => hsp w tabs H a ns hlen hO hS) fun H e s' => hCX w H s₁ e s'
  obtain ⟨y, h1, h2⟩ := (hTb z hz).ex
  obtain ⟨d', h1⟩ := Option.isSome_iff_exists.mp h1
  obtain ⟨t1, t2⟩ := PySem.W.tab_of G.T KX h1 h2
  exact ⟨t1, t2, noTab hnT KX t2⟩
end L2

namespace L2
open PySem PySem.Spec PyProof.Rows
/-! ### C.m(x, ..): a method called through its class -/
/-- what the written part tells of a class whose method m is read from it -/
structure ClsM (K : PySem.W.Frag) (C : Addr) (m : Str) : Prop where
  ga : PySem.W.specialIn K (.ref C) "__getattribute__" = some (some (.builtin "type.__getattribute__"))
  ex : ∃ (mc : Value) (f : Addr), PySem.W.readsIn K C mc = true ∧ PySem.W.findCls K (.ref C) mc m = some (.val (.ref f)) ∧ PySem.W.findIn K (.ref C) m = some (some (.ref f))
section
variable {X : Cx} {CX : CXT} {k : Nat} {C : Addr} {ps : List Str} {sp : Sp} {E : XK} {x m : Str} {p pos apos : Pos} {e o : Expr} {es : List Expr} {t : TA} {ta : TE}
theorem pe_clsN {pl : Sem Bool} (he : PE X o (tC (.ref C))) (c : ClsM X.K C m) (G : KnownM X.prog X.w X.K X.mg X.base CX k C m ps sp) (hr : Room k X.A) (hx : Passes CX X E) (ha : PA X (e :: es) t)
    (hst : starEach (e :: es) X.env = (false, eval e X.env) :: starEach es X.env := by rfl) (hpl : (backTo pos (starEach es X.env)).any (·.1) = false := by rfl)
    (ht : eval (.Call (.Attribute o m apos) (e :: es) [] pos) X.env = (do
      let ov ← eval o X.env
      standAt apos.atName
      let (f, first) ← holding [ov] (getMethod ov m pl)
      callWith pos f first (backTo pos (starEach (e :: es) X.env)) (backToKw pos (keywordEach [] X.env))) := by rfl) :
    PE X (.Call (.Attribute o m apos) (e :: es) [] pos) (tCall sp [] E t) := by
  obtain ⟨f, fd, F, hm, hb⟩ := G.ex
  intro pins s σ H Q I h
  refine PySem.W.methodCall_KW (pl := pl) (thn (he pins s σ H (fun v H1 => v = .ref C ∧ H1 = H) I ⟨rfl, rfl⟩) fun u s1 ⟨x, H1, I1, rx, q⟩ => ?_) ht
  obtain ⟨rfl, rfl⟩ := q
  obtain rfl : u = Value.ref C := rx
  obtain ⟨mc, f', h1, h2, h3⟩ := c.ex
  have e1 := hm.at_
  rw [h3] at e1
  cases e1
  refine PySem.W.method_cls I1.kIn c.ga (PySem.W.cls_value I1.kIn h1 h2 rfl ?_)
  refine PySem.W.callWith_K (first := []) (h₀ := X.base) I.ok.mod.kin hm.kp (thn (ha pos pins _ σ _ _ (I1.tok _) h) fun us s2 ⟨vs, H2, I2, r, q2⟩ => ⟨I2.kIn, ?_⟩) hst hpl
  exact run_fn (us := us) (vs := vs) F hr hb .nil hx I2 r q2
end
end L2
namespace L2
open PySem PySem.Spec PyProof.Rows
/-! ### a def that makes lambdas: its code's table -/
structure DefT (K : PySem.W.Frag) (mg : Str → Option Value) (x : Str) (st : Stmt) (z : Addr × Addr) : Prop where
  ex : ∃ f fd, Fun K x x st f fd ∧ mg x = some (.ref f) ∧ fd.code = .ref z.1
  tab : PySem.W.tabIn K x = some z
section
variable {P : Program} {w : World} {K : PySem.W.Frag} {mg : Str → Option Value} {base : Heap}
theorem tab_mk {x : Str} {f c p : Addr} {oc wo : Value} {od wd : Option Addr} {fd : FuncData} {osl ws : Array (Option Value)} {vs : Array Value} (a : PySem.W.nsIn K mainGlobals x = some (some (.ref f)))
    (l : K.lookup f = some ⟨oc, od, .func fd, osl⟩) (hc : fd.code = .ref c) (w : K.lookup c = some ⟨wo, wd, .fields vs, ws⟩) (h : vs[11]? = some (.ref p)) : PySem.W.tabIn K x = some (c, p) := by
  unfold PySem.W.tabIn
  rw [a]
  dsimp only
  rw [l]
  dsimp only
  rw [hc]
  dsimp only
  rw [w]
  dsimp only
  rw [h]
theorem top_defT {h : Heap} {x : Str} {st : Stmt} {f c p : Addr} {oc wo : Value} {od an wd : Option Addr} {osl ws : Array (Option Value)} {kV doc pm ct : Value} {vs : Array Value} (X : K.In h) (G : h.Ns mainGlobals mg) (a : PySem.W.nsIn K mainGlobals x = some (some (.ref f)))
    (l : K.lookup f = some ⟨oc, od, .func (PySem.W.fnOf x x (defArgs st) (defBody st) (defScope st) .none kV doc pm an (.ref c) ct), osl⟩) (hc : PySem.W.codeIn K (.ref c) x = true) (k : PySem.W.keepIn K (.ref f) = true)
    (w : K.lookup c = some ⟨wo, wd, .fields vs, ws⟩) (t : vs[11]? = some (.ref p)) : DefT K mg x st (c, p) :=
  ⟨⟨f, _, fun_mk l hc k, PySem.W.mg_of X G a, rfl⟩, tab_mk a l rfl w t⟩
theorem DefT.known {x : Str} {st : Stmt} {N ps : List Str} {k : Nat} {sp : Sp} {z : Addr × Addr} (D : DefT K mg x st z) (S : FnScope N ps (defScope st))
    (hb : ∀ (kV doc pm : Value) (an : Option Addr) (cdv ct : Value) (us : List Value), us.length = ps.length → bindArgs (PySem.W.fnOf x x (defArgs st) (defBody st) (defScope st) .none kV doc pm an cdv ct) ⟨us, []⟩ = pure (ps.zip us))
    (len : ∀ vs H Q E, sp vs H Q E → vs.length = ps.length)
    (hbody : ∀ (f : Addr) (A : Around) (outer : List Env) (s : Shared) (H : Hp) (vs : List V) (Q : VK) (E : XK), Room k (A.deeper (envOfC x (defScope st) s.heap.objs.size f (.ref z.1))) → sp vs H Q E →
      ∃ t, PSs (cxOf CX0 P w K mg base N x (defScope st) f (.ref z.1) A outer s H E).nox (defBody st) t ∧ t { nx := fun _ H' => Q .non H', rt := Q } (start N vs) H) : Known P w K mg base CX0 (k + 1) x ps sp := by
  obtain ⟨f, fd, F, hm, hc⟩ := D.ex
  refine ⟨f, fd, ?_, hm, F.kp, F.binds hb⟩
  obtain ⟨oc, od, kV, doc, pm, an, cdv, ct, osl, rfl, lk, hcd⟩ := F.ex
  have e : cdv = .ref z.1 := hc
  subst e
  refine fn_of lk hcd S len fun A outer s H vs Q E hr hsp => ?_
  obtain ⟨t, h, q⟩ := hbody f A outer s H vs Q E hr hsp
  exact ⟨t, h.nox, q⟩
end
end L2

namespace L2
open PySem PySem.Spec PyProof.Rows
/-! ### text.index(text) -/
def rIndexS : V → List V → Hp → VK → Prop := fun x xs H Q => ∃ (z y : Str) (i : Nat) (rest : List Nat), x = .str z ∧ xs = [.str y] ∧ Builtin.Str.occurrences z y 0 z.length 1 = i :: rest ∧ Q (.int i) H
theorem mt_indexS {X : Cx} : MtR X "str.index" rIndexS := by
  intro pins s σ H x vs v us Q I rx rv h
  obtain ⟨z, y, i, rest, rfl, rfl, ho, q⟩ := h
  obtain ⟨t, rfl⟩ := rx
  obtain ⟨u, rfl, ru⟩ := rv.one
  obtain ⟨t', rfl⟩ := ru
  exact call_gives F.slot_str_index (typeIs_str _ _ _) F.entry_str_index (F.args_str_index_2 _ _) (gives_str_index z y t t' i rest ho) ⟨.int i, H, I.tok _, ⟨_, rfl⟩, q⟩
end L2

namespace L2
open PySem PySem.Spec PyProof.Rows
/-! ### x in a list, by the data -/
section
variable {X : Cx}
theorem op_inD (hu : X.A.units + 64 < cLine) : OpR X (compareOp .In) (fun x y H Q => ∃ d ds, Dt X.K H x d ∧ Dt X.K H y (.list ds) ∧ d.canLay0 = true ∧ (PyData.list ds).canLay0 = true ∧ d.depth ≤ 62 ∧ Q (.bl (ds.any fun z => PyData.eqv z d)) H) := by
  intro pins s σ H x y v u Q I rx ry h
  obtain ⟨d, ds, hx, hy, lx, ly, hd, q⟩ := h
  obtain ⟨as, ra⟩ := Dt.reads I hx rx lx
  obtain ⟨bs, rb⟩ := Dt.reads I hy ry ly
  exact SeqAt.in_list_reads rb ra ly lx (by have := Nat.min_le_right (PyData.depthAll ds) d.depth; omega) ⟨.bl _, H, I, rfl, q⟩
theorem op_notinD (hu : X.A.units + 64 < cLine) : OpR X (compareOp .NotIn) (fun x y H Q => ∃ d ds, Dt X.K H x d ∧ Dt X.K H y (.list ds) ∧ d.canLay0 = true ∧ (PyData.list ds).canLay0 = true ∧ d.depth ≤ 62 ∧ Q (.bl (!ds.any fun z => PyData.eqv z d)) H) := by
  intro pins s σ H x y v u Q I rx ry h
  obtain ⟨d, ds, hx, hy, lx, ly, hd, q⟩ := h
  obtain ⟨as, ra⟩ := Dt.reads I hx rx lx
  obtain ⟨bs, rb⟩ := Dt.reads I hy ry ly
  exact SeqAt.notIn_list_reads rb ra ly lx (by have := Nat.min_le_right (PyData.depthAll ds) d.depth; omega) ⟨.bl _, H, I, rfl, q⟩
end
/-! ### spots: pairs of texts -/
abbrev spD (p : Str × Str) : PyData := .tuple [.str p.1, .str p.2]
theorem spD_eqv (p q : Str × Str) : PyData.eqv (spD p) (spD q) = decide (p = q) := by
  obtain ⟨a, b⟩ := p
  obtain ⟨c, d⟩ := q
  show (a == c && (b == d && true)) = decide ((a, b) = (c, d))
  rw [Bool.and_true]
  by_cases h1 : a = c
  · by_cases h2 : b = d
    · subst h1; subst h2
      simp
    · rw [decide_eq_false (fun e => h2 (Prod.mk.inj e).2), beq_eq_false_iff_ne.mpr h2, Bool.and_false]
  · rw [decide_eq_false (fun e => h1 (Prod.mk.inj e).1), beq_eq_false_iff_ne.mpr h1, Bool.false_and]
theorem spD_any (p : Str × Str) : ∀ ps : List (Str × Str), ((ps.map spD).any fun z => PyData.eqv z (spD p)) = decide (p ∈ ps)
  | [] => rfl
  | q :: ps => by
    rw [List.map_cons, List.any_cons, spD_any p ps, spD_eqv]
    by_cases h : p = q
    · subst h; simp
    · rw [decide_eq_false (fun e => h e.symm), Bool.false_or]
      simp [h]
/-- what is told more than once, once -/
def onceOf (ps : List (Str × Str)) : List (Str × Str) := ps.foldl (fun acc p => if p ∈ acc then acc else acc ++ [p]) []
theorem onceOf_snoc (ps : List (Str × Str)) (p : Str × Str) : onceOf (ps ++ [p]) = if p ∈ onceOf ps then onceOf ps else onceOf ps ++ [p] := by
  unfold onceOf
  rw [List.foldl_append]
  rfl
theorem onceOf_le : ∀ ps : List (Str × Str), (onceOf ps).length ≤ ps.length := by
  suffices h : ∀ (ps acc : List (Str × Str)), (ps.foldl (fun acc p => if p ∈ acc then acc else acc ++ [p]) acc).length ≤ acc.length + ps.length by
    intro ps
    have := h ps []
    simpa [onceOf] using this
  intro ps
  induction ps with
  | nil => intro acc; simp
  | cons p ps ih =>
    intro acc
    rw [List.foldl_cons]
    refine Nat.le_trans (ih _) ?_
    split
    · simp
    · simp; omega
theorem onceOf_mem : ∀ {ps : List (Str × Str)} {p : Str × Str}, p ∈ onceOf ps → p ∈ ps := by
  suffices h : ∀ (ps acc : List (Str × Str)) (p : Str × Str), p ∈ ps.foldl (fun acc p => if p ∈ acc then acc else acc ++ [p]) acc → p ∈ acc ∨ p ∈ ps by
    intro ps p hp
    rcases h ps [] p hp with h | h
    · cases h
    · exact h
  intro ps
  induction ps with
  | nil => intro acc p h; exact .inl h
  | cons q ps ih =>
    intro acc p h
    rw [List.foldl_cons] at h
    rcases ih _ p h with h | h
    · split at h
      · exact .inl h
      · rcases List.mem_append.mp h with h | h
        · exact .inl h
        · exact .inr (by rw [List.mem_singleton.mp h]; exact List.mem_cons_self)
    · exact .inr (List.mem_cons_of_mem _ h)
end L2

namespace My
open PySem L2
def top (i : Nat) : Stmt := PySem.Challenge.pw_lazycols_k18_what_rules_lean_on.main.body.getD i (.Pass ⟨0, 0, 0, 0⟩)
abbrev s_is_whole : Stmt := top 8
abbrev s_is_number : Stmt := top 9
abbrev s_is_name : Stmt := top 10
abbrev s_check_name : Stmt := top 13
abbrev s_checked_names : Stmt := top 14
abbrev s_each_once : Stmt := top 15
abbrev s_law_drawn : Stmt := top 23
abbrev s_law_names : Stmt := top 24
abbrev s_law_due : Stmt := top 25
abbrev s_law_made : Stmt := top 26
abbrev s_law_right : Stmt := top 27
abbrev s_law : Stmt := top 28
abbrev s_Rule_init : Stmt := inCls (top 16) 0
abbrev s_Cells_init : Stmt := inCls (top 17) 0
abbrev s_Cells_leans : Stmt := inCls (top 17) 1
abbrev s_Above_init : Stmt := inCls (top 18) 0
abbrev s_Above_leans : Stmt := inCls (top 18) 1
abbrev s_Group_init : Stmt := inCls (top 19) 0
abbrev s_Group_leans : Stmt := inCls (top 19) 1
abbrev s_Lookup_init : Stmt := inCls (top 20) 0
abbrev s_Lookup_leans : Stmt := inCls (top 20) 1
abbrev s_Mend_init : Stmt := inCls (top 21) 0
abbrev s_Mend_leans : Stmt := inCls (top 21) 1
structure TRule (K : PySem.W.Frag) (mg : Str → Option Value) (C : Addr) : Prop where
  c : mg "Rule" = some (.ref C)
  cl : Cls K C
  mks : PySem.W.makesIn K C = true
  kc : PySem.W.keepIn K (.ref C) = true
  hc : PySem.W.findIn K (.ref C) "__class__" = some (some (.builtin "object.__class__"))
  n_function : NoAttr K C "function"
  m_init : Mth K C "__init__" "Rule.__init__" s_Rule_init
  v_init : ClsM K C "__init__"
structure TCells (K : PySem.W.Frag) (mg : Str → Option Value) (C : Addr) : Prop where
  c : mg "Cells" = some (.ref C)
  cl : Cls K C
  mks : PySem.W.makesIn K C = true
  kc : PySem.W.keepIn K (.ref C) = true
  hc : PySem.W.findIn K (.ref C) "__class__" = some (some (.builtin "object.__class__"))
  n_function : NoAttr K C "function"
  n_names : NoAttr K C "names"
  m_init : Mth K C "__init__" "Cells.__init__" s_Cells_init
  m_leans : Mth K C "leans" "Cells.leans" s_Cells_leans
structure TAbove (K : PySem.W.Frag) (mg : Str → Option Value) (C : Addr) : Prop where
  c : mg "Above" = some (.ref C)
  cl : Cls K C
  mks : PySem.W.makesIn K C = true
  kc : PySem.W.keepIn K (.ref C) = true
  hc : PySem.W.findIn K (.ref C) "__class__" = some (some (.builtin "object.__class__"))
  n_function : NoAttr K C "function"
  n_names : NoAttr K C "names"
  n_first : NoAttr K C "first"
  m_init : Mth K C "__init__" "Above.__init__" s_Above_init
  m_leans : Mth K C "leans" "Above.leans" s_Above_leans
structure TGroup (K : PySem.W.Frag) (mg : Str → Option Value) (C : Addr) : Prop where
  c : mg "Group" = some (.ref C)
  cl : Cls K C
  mks : PySem.W.makesIn K C = true
  kc : PySem.W.keepIn K (.ref C) = true
  hc : PySem.W.findIn K (.ref C) "__class__" = some (some (.builtin "object.__class__"))
  n_function : NoAttr K C "function"
  n_key : NoAttr K C "key"
  n_name : NoAttr K C "name"
  m_init : Mth K C "__init__" "Group.__init__" s_Group_init
  m_leans : Mth K C "leans" "Group.leans" s_Group_leans
structure TLookup (K : PySem.W.Frag) (mg : Str → Option Value) (C : Addr) : Prop where
  c : mg "Lookup" = some (.ref C)
  cl : Cls K C
  mks : PySem.W.makesIn K C = true
  kc : PySem.W.keepIn K (.ref C) = true
  hc : PySem.W.findIn K (.ref C) "__class__" = some (some (.builtin "object.__class__"))
  n_function : NoAttr K C "function"
  n_key : NoAttr K C "key"
  n_other : NoAttr K C "other"
  n_theirs : NoAttr K C "theirs"
  n_names : NoAttr K C "names"
  m_init : Mth K C "__init__" "Lookup.__init__" s_Lookup_init
  m_leans : Mth K C "leans" "Lookup.leans" s_Lookup_leans
structure TMend (K : PySem.W.Frag) (mg : Str → Option Value) (C : Addr) : Prop where
  c : mg "Mend" = some (.ref C)
  cl : Cls K C
  mks : PySem.W.makesIn K C = true
  kc : PySem.W.keepIn K (.ref C) = true
  hc : PySem.W.findIn K (.ref C) "__class__" = some (some (.builtin "object.__class__"))
  n_function : NoAttr K C "function"
  n_name : NoAttr K C "name"
  m_init : Mth K C "__init__" "Mend.__init__" s_Mend_init
  m_leans : Mth K C "leans" "Mend.leans" s_Mend_leans
structure Tops (K : PySem.W.Frag) (mg : Str → Option Value) : Prop where
  len : mg "len" = none
  isinstance : mg "isinstance" = none
  int : mg "int" = none
  bool : mg "bool" = none
  str : mg "str" = none
  all : mg "all" = none
  range : mg "range" = none
  abs : mg "abs" = none
  list : mg "list" = none
  tuple : mg "tuple" = none
  ValueError : mg "ValueError" = none
  g_LETTERS : ∃ t, mg "LETTERS" = some (.str ("abcdefghijklmnopqrstuvwxyz" : Str) t)
  g_MOST_LETTERS : ∃ t, mg "MOST_LETTERS" = some (.int 8 t)
  g_MOST_NAMES : ∃ t, mg "MOST_NAMES" = some (.int 6 t)
  d_is_whole : Def K mg "is_whole" s_is_whole
  d_is_number : Def K mg "is_number" s_is_number
  d_is_name : Def K mg "is_name" s_is_name
  d_check_name : Def K mg "check_name" s_check_name
  d_checked_names : Def K mg "checked_names" s_checked_names
  d_each_once : Def K mg "each_once" s_each_once
  d_law_drawn : Def K mg "_law_drawn" s_law_drawn
  d_law_names : Def K mg "_law_names" s_law_names
  d_law_due : Def K mg "_law_due" s_law_due
  d_law_made : Def K mg "_law_made" s_law_made
  b_law_made : ∃ z, DefT K mg "_law_made" s_law_made z
  d_law_right : Def K mg "_law_right" s_law_right
  d_law : Def K mg "law" s_law
  notabs : PySem.W.noTabs K = true
  t_Rule : ∃ C, TRule K mg C
  t_Cells : ∃ C, TCells K mg C
  t_Above : ∃ C, TAbove K mg C
  t_Group : ∃ C, TGroup K mg C
  t_Lookup : ∃ C, TLookup K mg C
  t_Mend : ∃ C, TMend K mg C
end My

namespace My
open PySem L2
abbrev letters : Str := "abcdefghijklmnopqrstuvwxyz"
def inL (c : Nat) : Bool := !(Builtin.Str.occurrences letters ⟨#[c]⟩ 0 letters.length 1).isEmpty
def nameS (t : Str) : Bool := decide ((1 : Int) ≤ t.length) && decide ((t.length : Int) ≤ 8) && t.cps.toList.all inL
def wholeD : PyData → Bool
  | .int _ => true
  | _ => false
def numD : PyData → Bool
  | .int i => decide ((if i < 0 then -i else i) < 10 ^ (60 : Int).toNat)
  | _ => false
def nameD : PyData → Bool
  | .str t => nameS t
  | _ => false
/-- a text is short; the texts in a tuple are -/
def shortS (d : PyData) : Prop := ∀ t, d = .str t → t.length ≤ 1000
theorem shortS_str {t : Str} (h : t.length ≤ 1000) : shortS (.str t) := fun z e => by cases e; exact h
section
variable {P : Program} {w : World} {K : PySem.W.Frag} {mg : Str → Option Value} {base : Heap}
def spWhole (K : PySem.W.Frag) : Sp := fun vs H Q _ => ∃ x d, vs = [x] ∧ Dt K H x d ∧ Q (.bl (wholeD d)) H
theorem sc_is_whole : FnScope ["thing"] ["thing"] (defScope s_is_whole) := ⟨rfl, rfl, rfl, by decide +kernel, rfl, by decide +kernel, by decide +kernel⟩
theorem k_is_whole (T : Tops K mg) : Known P w K mg base CX0 1 "is_whole" ["thing"] (spWhole K) := by
  refine T.d_is_whole.known sc_is_whole (fun _ _ _ _ _ _ us hl => match us, hl with | [_], _ => rfl) (fun vs H Q E h => ?_) (fun f cdv A outer s H vs Q E hr h => ?_)
  · obtain ⟨x, a, rfl, _⟩ := h
    rfl
  · obtain ⟨x, d, rfl, hd, q⟩ := h
    refine ⟨_, (pss_one (ps_ret (pe_and (pe_callB call_isT rfl T.isinstance b_isinstance (pa_cons (pv 0) (pa_cons (pe_ty T.int b_int) pa_nil))) (pe_one (pe_not (pe_callB call_isT rfl T.isinstance b_isinstance (pa_cons (pv 0) (pa_cons (pe_ty T.bool b_bool) pa_nil)))))))), ?_⟩
    refine ⟨_, rfl, x, "int", d, _, rfl, hd, kit_int K _, _, rfl, ?_⟩
    refine ite2 (fun h1 => ?_) (fun h1 => ?_)
    · refine ⟨_, rfl, x, "bool", d, _, rfl, hd, kit_bool K _, _, rfl, ?_⟩
      have e : (!decide (kdD d = Kd.bl)) = wholeD d := by cases d <;> simp [kdD, wholeD] at h1 ⊢
      show Q (.bl (!decide (kdD d = Kd.bl))) H
      rw [e]
      exact q
    · have e : false = wholeD d := by cases d <;> simp [kdD, wholeD] at h1 ⊢
      show Q (.bl false) H
      rw [e]
      exact q
def spName (K : PySem.W.Frag) : Sp := fun vs H Q _ => ∃ x d, vs = [x] ∧ Dt K H x d ∧ shortS d ∧ ∀ H', Same H H' → Q (.bl (nameD d)) H'
theorem sc_is_name : FnScope ["thing"] ["thing"] (defScope s_is_name) := ⟨rfl, rfl, rfl, by decide +kernel, rfl, by decide +kernel, by decide +kernel⟩
theorem k_is_name (T : Tops K mg) : Known P w K mg base CX0 1 "is_name" ["thing"] (spName K) := by
  refine T.d_is_name.known sc_is_name (fun _ _ _ _ _ _ us hl => match us, hl with | [_], _ => rfl) (fun vs H Q E h => ?_) (fun f cdv A outer s H vs Q E hr h => ?_)
  · obtain ⟨x, a, rfl, _⟩ := h
    rfl
  · obtain ⟨x, d, rfl, hd, hsh, q⟩ := h
    refine ⟨_, (pss_cons (ps_if (PW.pt (pw_or (pt_not (pt_val (pe_callB call_isT rfl T.isinstance b_isinstance (pa_cons (pv 0) (pa_cons (pe_ty T.str b_str) pa_nil))) (fun _ => rfl))) (pw_or1 (pt_not (pt_chain op_le op_le pe_int (pe_callB call_len rfl T.len b_len (pa_cons (pv 0) pa_nil)) (pe_gI T.g_MOST_LETTERS)))))) (pss_one (ps_ret pe_bl)) pss_nil)
      (pss_one (ps_ret (pe_callB (call_all rfl) rfl T.all b_all (pa_cons (pe_comp caps0 rfl rfl (by decide) (pi_str (pv 0)) (fun _ _ _ _ _ => pts_nil) (fun _ _ _ _ _ => (pe_cmpR op_in_str (pv 0) (pe_gS T.g_LETTERS) (by with_unfolding_all rfl)))) pa_nil))))), ?_⟩
    refine ⟨_, rfl, x, "str", d, _, rfl, hd, kit_str K _, _, rfl, ?_⟩
    by_cases hk : kdD d = .str
    · obtain ⟨t, rfl⟩ : ∃ t, d = .str t := by cases d <;> simp [kdD] at hk ⊢
      cases hd
      have ht : t.length ≤ 1000 := hsh t rfl
      refine iteF ?_
      refine ⟨_, rfl, _, _, rfl, ⟨sl ht, rfl⟩, _, _, rfl, rfl, _, rfl, ?_⟩
      refine ite2 (fun h1 => ?_) (fun h1 => ?_)
      · refine ⟨_, _, rfl, rfl, _, rfl, ?_⟩
        refine ite2 (fun h2 => ?_) (fun h2 => ?_)
        · have e : nameD (.str t) = false := by
            show nameS t = false
            unfold nameS
            have : decide ((t.length : Int) ≤ 8) = false := by simpa using h2
            rw [this, Bool.and_false, Bool.false_and]
          rw [← e]
          exact q H (Same.refl H)
        · have h8 : t.cps.size ≤ 8 := by
            have : (t.length : Int) ≤ 8 := by simpa using h2
            show t.length ≤ 8
            omega
          refine ⟨_, rfl, t, rfl, fun D hD => ?_⟩
          refine comp_str (x := t) (fun i ys H2 => ys = (t.cps.toList.take i).map (fun c => V.bl (inL c)) ∧ Same H H2) ⟨rfl, Same.new hD⟩ ?_ ?_
          · rintro i c ys H2 hc h2D ⟨rfl, s2⟩
            have hi : i < t.cps.size := (Array.getElem?_eq_some_iff.mp hc).1
            refine ⟨_, rfl, _, _, rfl, rfl, h2D, ?_, ?_, s2.on hD⟩
            · rw [List.length_map, List.length_take, Array.length_toList]
              exact small1000 (by omega)
            · rw [List.take_add_one, List.map_append, Array.getElem?_toList, hc]
              rfl
          · rintro ys H2 h2D ⟨rfl, s2⟩
            refine ⟨D, t.cps.toList.map inL, rfl, SqL.of ?_, ?_⟩
            · rw [h2D, List.take_of_length_le (by simp), List.map_map]
              rfl
            · have e : nameD (.str t) = (t.cps.toList.map inL).all id := by
                show nameS t = _
                unfold nameS
                have e1 : decide ((1 : Int) ≤ t.length) = true := h1
                have e2 : decide ((t.length : Int) ≤ 8) = true := by simpa using h2
                rw [e1, e2, Bool.true_and, Bool.true_and, List.all_map]
                rfl
              rw [← e]
              exact q H2 s2
      · refine ⟨_, rfl, ?_⟩
        refine iteT ?_
        have e : nameD (.str t) = false := by
          show nameS t = false
          unfold nameS
          have : decide ((1 : Int) ≤ t.length) = false := by simpa using h1
          rw [this, Bool.false_and, Bool.false_and]
        rw [← e]
        exact q H (Same.refl H)
    · rw [decide_eq_false hk]
      refine iteT (iteT ?_)
      have e : nameD d = false := by cases d <;> simp [kdD] at hk <;> rfl
      rw [← e]
      exact q H (Same.refl H)
def spNumber (K : PySem.W.Frag) : Sp := fun vs H Q _ => ∃ x d, vs = [x] ∧ Dt K H x d ∧ Q (.bl (numD d)) H
theorem sc_is_number : FnScope ["thing"] ["thing"] (defScope s_is_number) := ⟨rfl, rfl, rfl, by decide +kernel, rfl, by decide +kernel, by decide +kernel⟩
theorem k_is_number (T : Tops K mg) : Known P w K mg base CX0 2 "is_number" ["thing"] (spNumber K) := by
  have G_is_whole : Known P w K mg base CX0 1 "is_whole" ["thing"] (spWhole K) := k_is_whole T
  refine T.d_is_number.known sc_is_number (fun _ _ _ _ _ _ us hl => match us, hl with | [_], _ => rfl) (fun vs H Q E h => ?_) (fun f cdv A outer s H vs Q E hr h => ?_)
  · obtain ⟨x, a, rfl, _⟩ := h
    rfl
  · obtain ⟨x, d, rfl, hd, q⟩ := h
    refine ⟨_, (pss_one (ps_ret (pe_and (pe_callN G_is_whole (hr.mono (by decide)) pass0 (pa_cons (pv 0) pa_nil)) (pe_one (pe_cmpR op_lt (pe_callB call_abs rfl T.abs b_abs (pa_cons (pv 0) pa_nil)) (pe_op op_pow pe_int pe_int) (nomark _)))))), ?_⟩
    refine ⟨_, rfl, x, d, rfl, hd, _, rfl, ?_⟩
    refine ite2 (fun h1 => ?_) (fun h1 => ?_)
    · obtain ⟨i, rfl⟩ : ∃ i, d = .int i := by cases d <;> simp [wholeD] at h1 ⊢
      cases hd
      exact ⟨_, rfl, i, rfl, _, _, rfl, rfl, ⟨by decide, by decide, by decide⟩, _, _, rfl, rfl, q⟩
    · have e : numD d = false := by cases d <;> simp [wholeD] at h1 <;> rfl
      show Q (.bl false) H
      rw [← e]
      exact q
end
end My

namespace My
open PySem L2
def drawZ (ns : List Int) (k sz : Int) : Int := (104729 * k * k + 48271 + (if 0 < (ns.length : Int) then ns.getD (k % ns.length).toNat 0 % 10 ^ 40 * (2 * k + 69621) else 0)) % 2147483647 / 3 % sz
theorem drawZ_nn (ns : List Int) (k : Int) {sz : Int} (h : 0 < sz) : 0 ≤ drawZ ns k sz := Int.emod_nonneg _ (Int.ne_of_gt h)
theorem drawZ_lt (ns : List Int) (k : Int) {sz : Int} (h : 0 < sz) : drawZ ns k sz < sz := Int.emod_lt_of_pos _ h
section
variable {P : Program} {w : World} {K : PySem.W.Frag} {mg : Str → Option Value} {base : Heap}
def spDrawn (K : PySem.W.Frag) : Sp := fun vs H Q _ => ∃ (a : Addr) (ns : List Int) (k sz : Int), vs = [.ref a, .int k, .int sz] ∧ SqL K H a (ns.map V.int) ∧ ns.length ≤ 63 ∧ 0 ≤ k ∧ k ≤ 1000000 ∧ 0 < sz ∧ Q (.int (drawZ ns k sz)) H
theorem sc_law_drawn : FnScope ["_law_script", "_law_k", "_law_size", "_law_number"] ["_law_script", "_law_k", "_law_size"] (defScope s_law_drawn) := ⟨rfl, rfl, rfl, by decide +kernel, rfl, by decide +kernel, by decide +kernel⟩
theorem k_law_drawn (T : Tops K mg) : Known P w K mg base CX0 1 "_law_drawn" ["_law_script", "_law_k", "_law_size"] (spDrawn K) := by
  refine T.d_law_drawn.known sc_law_drawn (fun _ _ _ _ _ _ us hl => match us, hl with | [_, _, _], _ => rfl) (fun vs H Q E h => ?_) (fun f cdv A outer s H vs Q E hr h => ?_)
  · obtain ⟨a, ns, k, sz, rfl, _⟩ := h
    rfl
  · obtain ⟨a, ns, k, sz, rfl, hS, hl, h0, h6, hz, q⟩ := h
    refine ⟨_, (pss_cons (ps_set (i := 3) sc_law_drawn.nd rfl (Or.inl rfl) (pe_op op_add (pe_op op_mul (pe_op op_mul pe_int (pv 1)) (pv 1)) pe_int))
      (pss_cons (ps_if (pt_cmpR op_gt (pe_callB call_len rfl T.len b_len (pa_cons (pv 0) pa_nil)) pe_int (nomark _)) (pss_one (ps_set (i := 3) sc_law_drawn.nd rfl (Or.inl rfl) (pe_op op_add (pv 3) (pe_op op_mul (pe_op op_mod (pe_ix ix_list (pv 0) (pe_op op_mod (pv 1) (pe_callB call_len rfl T.len b_len (pa_cons (pv 0) pa_nil))) (fun _ _ => rfl)) (pe_op op_pow pe_int pe_int)) (pe_op op_add (pe_op op_mul pe_int (pv 1)) pe_int))))) pss_nil)
      (pss_one (ps_ret (pe_op op_mod (pe_op op_fdiv (pe_op op_mod (pv 3) pe_int) pe_int) (pv 2)))))), ?_⟩
    have el : ((ns.map V.int).length : Int) = (ns.length : Int) := by rw [List.length_map]
    have fin : ∀ n : Int, drawZ ns k sz = n % 2147483647 / 3 % sz →
        tRet (tOp (rI (fun _ j => 0 < j) fun i j => .int (i % j)) (tOp (rI CDiv fun i j => .int (i / j)) (tOp (rI (fun _ j => 0 < j) fun i j => .int (i % j)) (tVar 3) (tC (.int 2147483647))) (tC (.int 3))) (tVar 2))
          { nx := fun _ H' => Q .non H', rt := Q } [some (.ref a), some (.int k), some (.int sz), some (.int n)] H := fun n e => by
      refine ⟨_, rfl, _, _, rfl, rfl, (show (0 : Int) < 2147483647 by decide), _, _, rfl, rfl, ⟨by decide, by decide⟩, _, rfl, _, _, rfl, rfl, hz, ?_⟩
      show Q (.int (n % 2147483647 / 3 % sz)) H
      rw [← e]
      exact q
    refine ⟨_, rfl, _, _, rfl, rfl, .inl ⟨by decide, by decide⟩, _, rfl, _, _, rfl, rfl, .inr ⟨by omega, by omega⟩, _, _, rfl, rfl, ?_⟩
    refine ⟨_, rfl, _, _, rfl, .inl ⟨_, hS, rfl⟩, _, _, rfl, rfl, _, rfl, ?_⟩
    rw [el]
    refine ite2 (fun h2 => ?_) (fun h2 => ?_)
    · have h2' : 0 < (ns.length : Int) := by simpa using h2
      have hm := Int.emod_nonneg k (Int.ne_of_gt h2')
      have hm' := Int.emod_lt_of_pos k h2'
      refine ⟨_, rfl, _, rfl, _, rfl, _, rfl, _, _, rfl, .inl ⟨_, hS, rfl⟩, _, _, rfl, rfl, by rw [el]; exact h2', a, _, _, _, rfl, rfl, hS, by rw [el]; exact at_map ns _ hm hm', ?_⟩
      refine ⟨_, _, rfl, rfl, ⟨by decide, by decide, by decide⟩, _, _, rfl, rfl, (show (0 : Int) < 10 ^ 40 by decide), _, rfl, _, _, rfl, rfl, .inl ⟨by decide, by decide⟩, _, _, rfl, rfl, _, _, rfl, rfl, .inr ⟨by omega, by omega⟩, _, _, rfl, rfl, ?_⟩
      refine fin _ ?_
      unfold drawZ
      rw [if_pos h2']
      rfl
    · have h2' : ¬ 0 < (ns.length : Int) := by simpa using h2
      refine fin _ ?_
      unfold drawZ
      rw [if_neg h2', Int.add_zero]
end
end My

namespace My
open PySem L2
theorem slice_hi {x : Str} {a : Nat} : Txt.slice x (some (a : Int)) none = Txt.slice x (some (a : Int)) (some (x.length : Int)) := by
  have e : Builtin.Str.strSliceIndices (some (a : Int)) none 1 x.length = Builtin.Str.strSliceIndices (some (a : Int)) (some (x.length : Int)) 1 x.length := by
    have e1 : max (0 : Int) (min (x.length : Int) (x.length : Int)) = (x.length : Int) := by omega
    have e2 : ¬ ((x.length : Int) < 0) := by omega
    simp [Builtin.Str.strSliceIndices, e1, e2]
  unfold Txt.slice
  rw [e]
theorem ab_at : ∀ j : Nat, j < 26 → letters.cps.toList[j]? = some (97 + j) := by decide +kernel
theorem ab_ix : ∀ c ∈ letters.cps.toList, Builtin.Str.occurrences letters ⟨#[c]⟩ 0 letters.length 1 = [c - 97] ∧ 97 ≤ c ∧ c < 123 := by decide +kernel
theorem ab_len : letters.cps.toList.length = 26 := by decide +kernel
theorem ab_mem {j : Nat} (h : j < 26) : 97 + j ∈ letters.cps.toList := List.mem_of_getElem? (ab_at j h)
/-- a name, by its letters -/
def Nl (t : Str) : Prop := 1 ≤ t.length ∧ t.length ≤ 8 ∧ ∀ c ∈ t.cps.toList, c ∈ letters.cps.toList
theorem catL_len (a b : Str) : (a ++ b).length = a.length + b.length := by
  show (a.cps ++ b.cps).size = _
  rw [Array.size_append]
  rfl
theorem catL_mem {a b : Str} {c : Nat} (h : c ∈ (a ++ b).cps.toList) : c ∈ a.cps.toList ∨ c ∈ b.cps.toList := by
  have h' : c ∈ (a.cps ++ b.cps).toList := h
  rwa [Array.toList_append, List.mem_append] at h'
/-- the i-th name: the word with another letter at a place -/
def nmI (wd : Str) (p : Nat) (ix i : Nat) : Str := Txt.slice wd none (some (p : Int)) ++ ⟨#[97 + (ix + i) % 26]⟩ ++ Txt.slice wd (some ((p + 1 : Nat) : Int)) none
theorem nmI_len {wd : Str} {p ix i : Nat} (h : p < wd.length) : (nmI wd p ix i).length = wd.length := by
  unfold nmI
  rw [catL_len, catL_len, slice_0, slice_len (Nat.zero_le _) (Nat.le_of_lt h), slice_hi, slice_len (by omega) (Nat.le_refl _)]
  show p - 0 + 1 + (wd.length - (p + 1)) = wd.length
  omega
theorem nmI_nl {wd : Str} {p ix i : Nat} (h : p < wd.length) (hw : Nl wd) : Nl (nmI wd p ix i) := by
  refine ⟨by rw [nmI_len h]; exact hw.1, by rw [nmI_len h]; exact hw.2.1, fun c hc => ?_⟩
  unfold nmI at hc
  rcases catL_mem hc with hc | hc
  · rcases catL_mem hc with hc | hc
    · exact hw.2.2 c (slice_mem hc)
    · have : c = 97 + (ix + i) % 26 := by simpa using hc
      rw [this]
      exact ab_mem (Nat.mod_lt _ (by decide))
  · exact hw.2.2 c (slice_mem hc)
theorem nmI_inj {wd : Str} {p ix i j : Nat} (hi : i < 26) (hj : j < 26) (e : nmI wd p ix i = nmI wd p ix j) : i = j := by
  unfold nmI at e
  have e1 := congrArg (fun s : Str => s.cps.toList) e
  have f : ∀ (a b c : Str), (a ++ b ++ c).cps.toList = a.cps.toList ++ (b.cps.toList ++ c.cps.toList) := fun a b c => by
    show (a.cps ++ b.cps ++ c.cps).toList = _
    rw [Array.toList_append, Array.toList_append, List.append_assoc]
  simp only [f] at e1
  have e2 := List.append_cancel_left e1
  have e3 : 97 + (ix + i) % 26 = 97 + (ix + j) % 26 := by
    have := congrArg List.head? e2
    simpa using this
  omega
def nmsI (wd : Str) (p ix n : Nat) : List Str := (List.range n).map (nmI wd p ix)
theorem nmsI_nodup {wd : Str} {p ix n : Nat} (h : n ≤ 26) : (nmsI wd p ix n).Nodup := by
  unfold nmsI
  rw [List.nodup_iff_pairwise_ne, List.pairwise_map]
  refine List.Pairwise.imp_of_mem (fun {a b} ha hb hne e => ?_) (List.nodup_iff_pairwise_ne.mp List.nodup_range)
  exact hne (nmI_inj (Nat.lt_of_lt_of_le (List.mem_range.mp ha) h) (Nat.lt_of_lt_of_le (List.mem_range.mp hb) h) e)
section
variable {P : Program} {w : World} {K : PySem.W.Frag} {mg : Str → Option Value} {base : Heap}
def spNames2 (K : PySem.W.Frag) : Sp := fun vs H Q _ => ∃ (a : Addr) (ns : List Int) (m : Nat), vs = [.ref a, .int m] ∧ SqL K H a (ns.map V.int) ∧ ns.length ≤ 63 ∧ m ≤ 26 ∧
  ∀ H' p (zs : List Str), Same H H' → H' p = some (.lst (zs.map V.str)) → H p = none → zs.length = m → (∀ z ∈ zs, Nl z) → zs.Nodup → Q (.ref p) H'
abbrev Nnames2 : List Str := ["_law_script", "_law_many", "_law_letters", "_law_word", "_law_k", "_law_at", "_law_names_here", "_law_sign"]
theorem sc_law_names : FnScope Nnames2 ["_law_script", "_law_many"] (defScope s_law_names) := ⟨rfl, rfl, rfl, by decide +kernel, rfl, by decide +kernel, by decide +kernel⟩
theorem k_law_names (T : Tops K mg) : Known P w K mg base CX0 2 "_law_names" ["_law_script", "_law_many"] (spNames2 K) := by
  have G_law_drawn : Known P w K mg base CX0 1 "_law_drawn" ["_law_script", "_law_k", "_law_size"] (spDrawn K) := k_law_drawn T
  refine T.d_law_names.known sc_law_names (fun _ _ _ _ _ _ us hl => match us, hl with | [_, _], _ => rfl) (fun vs H Q E h => ?_) (fun f cdv A outer s H vs Q E hr h => ?_)
  · obtain ⟨a, ns, m, rfl, _⟩ := h
    rfl
  · obtain ⟨a, ns, m, rfl, hS, hl, hm, q⟩ := h
    refine ⟨_, (pss_cons (ps_set (i := 2) sc_law_names.nd rfl (Or.inl rfl) pe_str)
      (pss_cons (ps_set (i := 3) sc_law_names.nd rfl (Or.inl rfl) pe_str)
      (pss_cons (ps_for PassesOwn.never rfl (pi_range1 rfl T.range (pa_cons (pe_op op_add pe_int (pe_callN G_law_drawn (hr.mono (by decide)) pass0 (pa_cons (pv 0) (pa_cons pe_int (pa_cons pe_int pa_nil))))) pa_nil)) (pg_name (i := 4) sc_law_names.nd rfl (Or.inl rfl)) (pss_one (ps_set (i := 3) sc_law_names.nd rfl (Or.inl rfl) (pe_op op_add_str (pv 3) (pe_ix ix_str (pv 2) (pe_callN G_law_drawn (hr.mono (by decide)) pass0 (pa_cons (pv 0) (pa_cons (pe_op op_add pe_int (pv 4)) (pa_cons pe_int pa_nil)))) (fun _ _ => rfl))))))
      (pss_cons (ps_set (i := 5) sc_law_names.nd rfl (Or.inl rfl) (pe_callN G_law_drawn (hr.mono (by decide)) pass0 (pa_cons (pv 0) (pa_cons pe_int (pa_cons (pe_callB call_len_str rfl T.len b_len (pa_cons (pv 3) pa_nil)) pa_nil)))))
      (pss_cons (ps_set (i := 6) sc_law_names.nd rfl (Or.inl rfl) (pe_lst pa_nil))
      (pss_cons (ps_for PassesOwn.never rfl (pi_range1 rfl T.range (pa_cons (pv 1) pa_nil)) (pg_name (i := 4) sc_law_names.nd rfl (Or.inl rfl)) (pss_cons (ps_set (i := 7) sc_law_names.nd rfl (Or.inl rfl) (pe_ix ix_str (pv 2) (pe_op op_mod (pe_op op_add (pe_bm PySem.F.plainAttrs_str PySem.F.slot_str_index PySem.F.type_str_index mt_indexS (pv 2) (pa_cons (pe_ix ix_str (pv 3) (pv 5) (fun _ _ => rfl)) pa_nil)) (pv 4)) pe_int) (fun _ _ => rfl)))
      (pss_one (ps_expr (pe_bm PySem.F.plainAttrs_list PySem.F.slot_list_append PySem.F.type_list_append mt_append (pv 6) (pa_cons (pe_op op_add_str (pe_op op_add_str (pe_slice sl_str (pv 3) po_none (po_some (pv 5))) (pv 7)) (pe_slice sl_str (pv 3) (po_some (pe_op op_add (pv 5) pe_int)) po_none)) pa_nil))))))
      (pss_one (ps_ret (pv 6))))))))), ?_⟩
    have d0 := drawZ_nn ns 1 (show (0 : Int) < 8 by decide)
    have d1 := drawZ_lt ns 1 (show (0 : Int) < 8 by decide)
    obtain ⟨n, en, hn⟩ : ∃ n : Nat, 1 + drawZ ns 1 8 = ((n + 1 : Nat) : Int) ∧ n ≤ 7 := ⟨(drawZ ns 1 8).toNat, by omega, by omega⟩
    refine ⟨_, rfl, a, ns, 1, 8, rfl, hS, hl, by decide, by decide, by decide, _, _, rfl, rfl, _, rfl, by omega, by omega, ?_⟩
    rw [en, Int.toNat_natCast]
    refine for_range (lo := 0) (n := n + 1) (fun i σ H2 => ∃ (wd : Str) (o : Option V), σ = [some (.ref a), some (.int m), some (.str letters), some (.str wd), o, none, none, none] ∧ H = H2 ∧ wd.length = i ∧ ∀ c ∈ wd.cps.toList, c ∈ letters.cps.toList) ⟨_, _, rfl, rfl, rfl, fun c hc => by cases hc⟩ ?_ ?_
    · rintro i σ H2 hi ⟨wd, o, rfl, rfl, hwl, hwc⟩
      have e0 := drawZ_nn ns (2 + (0 + (i : Int))) (show (0 : Int) < 26 by decide)
      have e1 := drawZ_lt ns (2 + (0 + (i : Int))) (show (0 : Int) < 26 by decide)
      obtain ⟨c, hat, hcm⟩ := at_some letters.cps.toList (drawZ ns (2 + (0 + (i : Int))) 26) e0 (by rw [ab_len]; exact e1)
      refine ⟨_, rfl, _, rfl, _, rfl, _, rfl, _, _, rfl, rfl, a, ns, _, 26, rfl, hS, hl, by omega, by omega, by decide, letters, _, c, rfl, rfl, (by decide +kernel), hat, _, _, rfl, rfl, sl (by rw [hwl]; show i + 1 ≤ 1000; omega), ?_⟩
      refine ⟨_, _, rfl, rfl, by rw [catL_len, hwl]; rfl, fun k hk => ?_⟩
      rcases catL_mem hk with hk | hk
      · exact hwc k hk
      · have : k = c := by simpa using hk
        rw [this]
        exact List.mem_of_getElem? hcm
    · rintro σ H2 ⟨wd, o, rfl, rfl, hwl, hwc⟩
      have hw : Nl wd := ⟨by omega, by omega, hwc⟩
      have hpos : (0 : Int) < (wd.length : Int) := by omega
      have f0 := drawZ_nn ns 10 hpos
      have f1 := drawZ_lt ns 10 hpos
      obtain ⟨p, ep, hp⟩ : ∃ p : Nat, drawZ ns 10 (wd.length : Int) = (p : Int) ∧ p < wd.length := ⟨(drawZ ns 10 (wd.length : Int)).toNat, by omega, by omega⟩
      obtain ⟨c, hatc, hcm⟩ := at_some wd.cps.toList (p : Int) (by omega) (by rw [Array.length_toList]; show (p : Int) < (wd.length : Int); omega)
      have hc := hwc c (List.mem_of_getElem? hcm)
      obtain ⟨hoc, hc1, hc2⟩ := ab_ix c hc
      refine ⟨_, rfl, _, rfl, wd, rfl, sl (by omega), a, ns, 10, _, rfl, hS, hl, by decide, by decide, hpos, ?_⟩
      rw [ep]
      refine ⟨sl, fun l hl0 => ?_⟩
      refine ⟨_, rfl, (m : Int), rfl, by omega, by omega, ?_⟩
      rw [Int.toNat_natCast]
      refine for_range (lo := 0) (n := m) (fun i σ H2 => ∃ (o1 o2 : Option V), σ = [some (.ref a), some (.int m), some (.str letters), some (.str wd), o1, some (.int p), some (.ref l), o2] ∧ Same H H2 ∧ H2 l = some (.lst ((nmsI wd p (c - 97) i).map V.str))) ⟨_, _, rfl, Same.new hl0, upd_same⟩ ?_ ?_
      · rintro i σ H2 hi ⟨o1, o2, rfl, s2, h2⟩
        have g0 := Int.emod_nonneg (((c - 97 : Nat) : Int) + (0 + (i : Int))) (show (26 : Int) ≠ 0 by decide)
        have g1 := Int.emod_lt_of_pos (((c - 97 : Nat) : Int) + (0 + (i : Int))) (show (0 : Int) < 26 by decide)
        obtain ⟨d, hatd, hdm⟩ := at_some letters.cps.toList ((((c - 97 : Nat) : Int) + (0 + (i : Int))) % 26) g0 (by rw [ab_len]; exact g1)
        have ed : d = 97 + (c - 97 + i) % 26 := by
          have e1 : ((((c - 97 : Nat) : Int) + (0 + (i : Int))) % 26).toNat = (c - 97 + i) % 26 := by omega
          rw [e1, ab_at _ (Nat.mod_lt _ (by decide))] at hdm
          exact (Option.some.inj hdm).symm
        subst ed
        have l1 : (Txt.slice wd none (some (p : Int))).length = p := by rw [slice_0, slice_len (Nat.zero_le _) (Nat.le_of_lt hp)]; omega
        have l2 : (Txt.slice wd (some ((p : Int) + 1)) none).length = wd.length - (p + 1) := by
          have : ((p : Int) + 1) = ((p + 1 : Nat) : Int) := by omega
          rw [this, slice_hi, slice_len (by omega) (Nat.le_refl _)]
        have hwd8 := hw.2.1
        have ell : (nmsI wd p (c - 97) i).length = i := by unfold nmsI; rw [List.length_map, List.length_range]
        refine ⟨_, rfl, _, rfl, rfl, _, rfl, _, rfl, wd, _, c, rfl, rfl, sl (by omega), hatc, letters, _, c - 97, [], rfl, rfl, hoc, _, rfl, _, _, rfl, rfl, _, _, rfl, rfl, (show (0 : Int) < 26 by decide), letters, _, _, rfl, rfl, (by decide +kernel), hatd, ?_⟩
        refine ⟨_, rfl, .inl ⟨rfl, _, SqL.of h2⟩, _, rfl, _, rfl, _, rfl, _, rfl, sl (by omega), _, rfl, _, _, rfl, rfl, sl (by rw [l1]; show p + 1 ≤ 1000; omega), ?_⟩
        refine ⟨_, rfl, _, rfl, _, _, rfl, rfl, _, rfl, _, rfl, sl (by omega), _, _, rfl, rfl, sl (by rw [catL_len, l1, l2]; show p + 1 + _ ≤ 1000; omega), l, _, _, rfl, rfl, h2, ?_, ?_⟩
        · rw [List.length_map, ell]
          exact small1000 (by omega)
        · refine ⟨_, _, rfl, s2.on hl0, ?_⟩
          rw [upd_same]
          have e2 : nmsI wd p (c - 97) (i + 1) = nmsI wd p (c - 97) i ++ [nmI wd p (c - 97) i] := by
            unfold nmsI
            rw [List.range_succ, List.map_append]
            rfl
          rw [e2, List.map_append]
          rfl
      · rintro σ H2 ⟨o1, o2, rfl, s2, h2⟩
        refine ⟨_, rfl, q H2 l _ s2 h2 hl0 (by unfold nmsI; rw [List.length_map, List.length_range]) (fun z hz => ?_) (nmsI_nodup hm)⟩
        obtain ⟨i, _, rfl⟩ := List.mem_map.mp hz
        exact nmI_nl hp hw
end
end My

namespace My
open PySem L2
theorem Nl.name {t : Str} (h : Nl t) : nameS t = true := by
  unfold nameS
  have a1 : decide ((1 : Int) ≤ t.length) = true := by rw [decide_eq_true_eq]; have := h.1; omega
  have a2 : decide ((t.length : Int) ≤ 8) = true := by rw [decide_eq_true_eq]; have := h.2.1; omega
  have a3 : t.cps.toList.all inL = true := by
    rw [List.all_eq_true]
    intro c hc
    have : ∀ c ∈ letters.cps.toList, inL c = true := by decide +kernel
    exact this c (h.2.2 c hc)
  rw [a1, a2, a3]
  rfl
theorem Nl.lay {z : Str} (h : Nl z) : PyData.canLay0 (.str z) = true := by
  obtain ⟨⟨l⟩⟩ := z
  have : ∀ c ∈ letters.cps.toList, c < 128 := by decide +kernel
  exact lay_text fun c hc => this c (h.2.2 c hc)
theorem spD_lay {p : Str × Str} (h1 : Nl p.1) (h2 : Nl p.2) : (spD p).canLay0 = true := by
  show PyData.canLayAll0 [.str p.1, .str p.2] = true
  show (PyData.canLay0 (.str p.1) && (PyData.canLay0 (.str p.2) && true)) = true
  rw [h1.lay, h2.lay]
  rfl
/-- spots of good names -/
def Spots (K : PySem.W.Frag) (H : Hp) (xs : List V) (ps : List (Str × Str)) : Prop := DtAll K H xs (ps.map spD) ∧ ∀ p ∈ ps, Nl p.1 ∧ Nl p.2
theorem Spots.same {K : PySem.W.Frag} {H H' : Hp} {xs : List V} {ps : List (Str × Str)} (s : Same H H') (h : Spots K H xs ps) : Spots K H' xs ps := ⟨DtAll.same s h.1, h.2⟩
theorem lay_spots : ∀ {ps : List (Str × Str)}, (∀ p ∈ ps, Nl p.1 ∧ Nl p.2) → (PyData.list (ps.map spD)).canLay0 = true
  | [], _ => rfl
  | p :: ps, h => by
    show ((spD p).canLay0 && PyData.canLayAll0 (ps.map spD)) = true
    have e : PyData.canLayAll0 (ps.map spD) = true := lay_spots fun q hq => h q (List.mem_cons_of_mem _ hq)
    rw [e, spD_lay (h p List.mem_cons_self).1 (h p List.mem_cons_self).2]
    rfl
theorem Spots.lay {K : PySem.W.Frag} {H : Hp} {xs : List V} {ps : List (Str × Str)} (h : Spots K H xs ps) : (PyData.list (ps.map spD)).canLay0 = true := lay_spots h.2
theorem DtAll.snoc {K : PySem.W.Frag} {H : Hp} : ∀ {xs : List V} {ds : List PyData} {x : V} {d : PyData}, DtAll K H xs ds → Dt K H x d → DtAll K H (xs ++ [x]) (ds ++ [d])
  | _, _, _, _, .nil, h => .cons h .nil
  | _, _, _, _, .cons h t, q => .cons h (DtAll.snoc t q)
section
variable {P : Program} {w : World} {K : PySem.W.Frag} {mg : Str → Option Value} {base : Heap}
def spCName : Sp := fun vs H Q _ => ∃ z : Str, vs = [.str z] ∧ Nl z ∧ ∀ H', Same H H' → Q .non H'
theorem sc_check_name : FnScope ["name"] ["name"] (defScope s_check_name) := ⟨rfl, rfl, rfl, by decide +kernel, rfl, by decide +kernel, by decide +kernel⟩
theorem k_check_name (T : Tops K mg) : Known P w K mg base CX0 2 "check_name" ["name"] spCName := by
  have G_is_name : Known P w K mg base CX0 1 "is_name" ["thing"] (spName K) := k_is_name T
  refine T.d_check_name.known sc_check_name (fun _ _ _ _ _ _ us hl => match us, hl with | [_], _ => rfl) (fun vs H Q E h => ?_) (fun f cdv A outer s H vs Q E hr h => ?_)
  · obtain ⟨z, rfl, _⟩ := h
    rfl
  · obtain ⟨z, rfl, hz, q⟩ := h
    refine ⟨_, (pss_one (ps_if (pt_not (pt_val (pe_callN G_is_name (hr.mono (by decide)) pass0 (pa_cons (pv 0) pa_nil)) (fun _ => rfl))) (pss_one ps_dead) pss_nil)), ?_⟩
    have h8 := hz.2.1
    refine ⟨_, rfl, _, _, rfl, .str z, shortS_str (by omega), fun H' s' => ⟨_, rfl, ?_⟩⟩
    rw [show nameD (.str z) = true from hz.name]
    exact iteF (q H' s')
def spCNames (K : PySem.W.Frag) : Sp := fun vs H Q _ => ∃ (a : Addr) (zs : List Str), vs = [.ref a] ∧ SqL K H a (zs.map V.str) ∧ zs.length ≤ 6 ∧ (∀ z ∈ zs, Nl z) ∧ ∀ H' l, Same H H' → H l = none → H' l = some (.lst (zs.map V.str)) → Q (.ref l) H'
theorem dt_strs {K : PySem.W.Frag} {H : Hp} : ∀ zs : List Str, DtAll K H (zs.map V.str) (zs.map PyData.str)
  | [] => .nil
  | z :: zs => .cons (.str z) (dt_strs zs)
theorem sc_checked_names : FnScope ["names", "name"] ["names"] (defScope s_checked_names) := ⟨rfl, rfl, rfl, by decide +kernel, rfl, by decide +kernel, by decide +kernel⟩
theorem k_checked_names (T : Tops K mg) : Known P w K mg base CX0 3 "checked_names" ["names"] (spCNames K) := by
  have G_check_name : Known P w K mg base CX0 2 "check_name" ["name"] spCName := k_check_name T
  refine T.d_checked_names.known sc_checked_names (fun _ _ _ _ _ _ us hl => match us, hl with | [_], _ => rfl) (fun vs H Q E h => ?_) (fun f cdv A outer s H vs Q E hr h => ?_)
  · obtain ⟨a, zs, rfl, _⟩ := h
    rfl
  · obtain ⟨a, zs, rfl, hq, h6, hz, q⟩ := h
    refine ⟨_, (pss_cons (ps_if (PW.pt (pw_or (pt_not (pt_val (pe_callB call_isT rfl T.isinstance b_isinstance (pa_cons (pv 0) (pa_cons (pe_ty T.list b_list) pa_nil))) (fun _ => rfl))) (pw_or1 (pt_cmpR op_gt (pe_callB call_len rfl T.len b_len (pa_cons (pv 0) pa_nil)) (pe_gI T.g_MOST_NAMES) (nomark _))))) (pss_one ps_dead) pss_nil)
      (pss_cons (ps_for PassesOwn.never rfl (pi_list (pv 0)) (pg_name (i := 1) sc_checked_names.nd rfl (Or.inl rfl)) (pss_one (ps_expr (pe_callN G_check_name (hr.mono (by decide)) pass0 (pa_cons (pv 1) pa_nil)))))
      (pss_one (ps_ret (pe_callTy call_list_of rfl T.list b_list (pa_cons (pv 0) pa_nil)))))), ?_⟩
    refine ⟨_, rfl, _, "list", _, _, rfl, Dt.lst hq (dt_strs zs), kit_list K _, _, rfl, iteF ?_⟩
    refine ⟨_, rfl, _, _, rfl, .inl ⟨_, hq, rfl⟩, _, _, rfl, rfl, _, rfl, ?_⟩
    rw [List.length_map, decide_eq_false (by omega)]
    refine iteF ?_
    refine ⟨_, rfl, a, rfl, ⟨_, hq⟩, ?_⟩
    refine for_list (K := K) (a := a) (xs := zs.map V.str) (fun i σ H2 => ∃ o, σ = [some (.ref a), o] ∧ Same H H2) ⟨_, rfl, Same.refl H⟩ (fun i σ H2 _ ⟨_, _, s2⟩ => s2.seq hq) ?_ ?_
    · rintro i x σ H2 hx ⟨o, rfl, s2⟩
      rw [List.getElem?_map] at hx
      cases e : zs[i]? with
      | none => rw [e] at hx; cases hx
      | some z =>
        rw [e] at hx
        cases hx
        exact ⟨_, rfl, z, rfl, hz z (List.mem_of_getElem? e), fun H3 s3 => ⟨_, rfl, s2.trans s3⟩⟩
    · rintro σ H2 ⟨o, rfl, s2⟩
      refine ⟨_, rfl, a, _, rfl, .inl (s2.seq hq), fun l hl => ?_⟩
      have hl' : H l = none := by
        cases e : H l with
        | none => rfl
        | some u => rw [s2 _ _ e] at hl; cases hl
      exact q _ l (s2.trans (Same.new hl)) hl' upd_same
def spOnce (K : PySem.W.Frag) : Sp := fun vs H Q _ => ∃ (a : Addr) (xs : List V) (ps : List (Str × Str)), vs = [.ref a] ∧ SqL K H a xs ∧ Spots K H xs ps ∧ ps.length ≤ 100 ∧
  ∀ H' l ys, Same H H' → H l = none → H' l = some (.lst ys) → Spots K H' ys (onceOf ps) → Q (.ref l) H'
theorem sc_each_once : FnScope ["spots", "found", "spot"] ["spots"] (defScope s_each_once) := ⟨rfl, rfl, rfl, by decide +kernel, rfl, by decide +kernel, by decide +kernel⟩
theorem k_each_once (T : Tops K mg) : Known P w K mg base CX0 2 "each_once" ["spots"] (spOnce K) := by
  refine T.d_each_once.known sc_each_once (fun _ _ _ _ _ _ us hl => match us, hl with | [_], _ => rfl) (fun vs H Q E h => ?_) (fun f cdv A outer s H vs Q E hr h => ?_)
  · obtain ⟨a, xs, ps, rfl, _⟩ := h
    rfl
  · obtain ⟨a, xs, ps, rfl, hq, hsp, h100, q⟩ := h
    refine ⟨_, (pss_cons (ps_set (i := 1) sc_each_once.nd rfl (Or.inl rfl) (pe_lst pa_nil))
      (pss_cons (ps_for PassesOwn.never rfl (pi_list (pv 0)) (pg_name (i := 2) sc_each_once.nd rfl (Or.inl rfl)) (pss_one (ps_if (pt_cmpR (op_notinD hr.units) (pv 2) (pv 1) (by with_unfolding_all rfl)) (pss_one (ps_expr (pe_bm PySem.F.plainAttrs_list PySem.F.slot_list_append PySem.F.type_list_append mt_append (pv 1) (pa_cons (pv 2) pa_nil)))) pss_nil)))
      (pss_one (ps_ret (pv 1))))), ?_⟩
    have hlx : xs.length = ps.length := by rw [hsp.1.length, List.length_map]
    refine ⟨sl, fun l hl => ?_⟩
    refine ⟨_, rfl, a, rfl, ⟨_, (Same.new hl).seq hq⟩, ?_⟩
    refine for_list (K := K) (a := a) (xs := xs) (fun i σ H2 => ∃ o ys, σ = [some (.ref a), some (.ref l), o] ∧ Same H H2 ∧ H2 l = some (.lst ys) ∧ DtAll K H ys ((onceOf (ps.take i)).map spD)) ⟨_, [], rfl, Same.new hl, upd_same, .nil⟩ (fun i σ H2 _ ⟨_, _, _, s2, _⟩ => s2.seq hq) ?_ ?_
    · rintro i x σ H2 hx ⟨o, ys, rfl, s2, h2, hd⟩
      obtain ⟨d, hd1, hd2⟩ := hsp.1.get hx
      rw [List.getElem?_map] at hd1
      cases e : ps[i]? with
      | none => rw [e] at hd1; cases hd1
      | some p =>
        rw [e] at hd1
        cases hd1
        have hp := List.mem_of_getElem? e
        have hle : ((onceOf (ps.take i)).map spD).length = ys.length := hd.length.symm
        rw [List.length_map] at hle
        have hyl : ys.length ≤ 100 := by
          have h3 := onceOf_le (ps.take i)
          rw [List.length_take] at h3
          omega
        have lay2 : (PyData.list ((onceOf (ps.take i)).map spD)).canLay0 = true := lay_spots fun p' hp' => hsp.2 p' (List.mem_of_mem_take (onceOf_mem hp'))
        have et : onceOf (ps.take (i + 1)) = if p ∈ onceOf (ps.take i) then onceOf (ps.take i) else onceOf (ps.take i) ++ [p] := by
          rw [List.take_add_one, e]
          exact onceOf_snoc _ _
        refine ⟨_, rfl, _, rfl, spD p, _, hd2.same s2, Dt.lst (SqL.of h2) (DtAll.same s2 hd), spD_lay (hsp.2 p hp).1 (hsp.2 p hp).2, lay2, (show max 0 (max 0 0) + 1 ≤ 62 by decide), _, rfl, ?_⟩
        rw [spD_any]
        by_cases hm : p ∈ onceOf (ps.take i)
        · rw [decide_eq_true hm]
          rw [if_pos hm] at et
          exact iteF ⟨_, ys, rfl, s2, h2, by rw [et]; exact hd⟩
        · rw [decide_eq_false hm]
          rw [if_neg hm] at et
          refine iteT ?_
          refine ⟨_, rfl, .inl ⟨rfl, _, SqL.of h2⟩, _, rfl, l, _, _, rfl, rfl, h2, small1000 (by omega), ?_⟩
          have s3 : Same H (upd H2 l (.lst (ys ++ [x]))) := s2.on hl
          refine ⟨_, ys ++ [x], rfl, s3, upd_same, ?_⟩
          rw [et, List.map_append]
          exact DtAll.snoc hd hd2
    · rintro σ H2 ⟨o, ys, rfl, s2, h2, hd⟩
      refine ⟨_, rfl, q H2 l ys s2 hl h2 ⟨?_, fun p hp => hsp.2 p (onceOf_mem hp)⟩⟩
      rw [hlx, List.take_length] at hd
      exact DtAll.same s2 hd
end
end My

namespace My
open PySem L2
/-- all stays but the instance at p -/
def But (p : Addr) (H H' : Hp) : Prop := ∀ b o, b ≠ p → H b = some o → H' b = some o
theorem But.of {p : Addr} {H H' : Hp} (s : Same H H') : But p H H' := fun b o _ e => s b o e
theorem But.trans {p : Addr} {H H1 H2 : Hp} (a : But p H H1) (b : But p H1 H2) : But p H H2 := fun c o n e => b c o n (a c o n e)
theorem But.upd {p : Addr} {H : Hp} {o : HO} : But p H (upd H p o) := fun b u n e => by rw [upd_ne n]; exact e
theorem spot_inv {K : PySem.W.Frag} {H : Hp} {v : V} {p : Str × Str} (h : Dt K H v (spD p)) : ∃ a, v = .ref a ∧ SqT K H a [.str p.1, .str p.2] := by
  cases h with
  | @tup a xs _ hq hall =>
    cases hall with
    | cons h1 t1 =>
      cases t1 with
      | cons h2 t2 =>
        cases t2
        cases h1
        cases h2
        exact ⟨a, rfl, hq⟩
theorem spot_mk {K : PySem.W.Frag} {H : Hp} {a : Addr} {p : Str × Str} (h : SqT K H a [.str p.1, .str p.2]) : Dt K H (.ref a) (spD p) := .tup h (.cons (.str _) (.cons (.str _) .nil))
theorem sqT_upd {K : PySem.W.Frag} {H : Hp} {a D : Addr} {xs ys : List V} {o : HO} (hD : H D = some (.lst ys)) (h : SqT K H a xs) : SqT K (upd H D o) a xs := by
  rcases h with (h | ⟨o', h⟩) | h
  · exact .inl (.inl (by rw [upd_ne (ne_of h hD (fun z => by cases z))]; exact h))
  · exact .inl (.inr ⟨o', by rw [upd_ne (ne_of h hD (fun z => by cases z))]; exact h⟩)
  · exact .inr h
theorem spots_upd {K : PySem.W.Frag} {H : Hp} {D : Addr} {ys : List V} {o : HO} (hD : H D = some (.lst ys)) : ∀ {xs : List V} {ps : List (Str × Str)}, DtAll K H xs (ps.map spD) → DtAll K (upd H D o) xs (ps.map spD)
  | [], [], _ => .nil
  | _ :: _, p :: ps, .cons h t => by
    obtain ⟨a, rfl, hq⟩ := spot_inv h
    exact .cons (spot_mk (sqT_upd hD hq)) (spots_upd hD t)
section
variable {P : Program} {w : World} {K : PySem.W.Frag} {mg : Str → Option Value} {base : Heap}
def spRuleI (K : PySem.W.Frag) : Sp := fun vs H Q _ => ∃ (p C dx : Addr) (fs : List (Str × V)) (v : V), vs = [.ref p, v] ∧ H p = some (.ins C dx fs) ∧ Cls K C ∧ NoAttr K C "function" ∧ fs.length < 1000 ∧ Q .non (upd H p (.ins C dx (putF "function" v fs)))
theorem sc_Rule_init : FnScope ["self", "function"] ["self", "function"] (defScope s_Rule_init) := ⟨rfl, rfl, rfl, by decide +kernel, rfl, by decide +kernel, by decide +kernel⟩
theorem k_Rule_init (T : Tops K mg) {C : Addr} (Y : TRule K mg C) : KnownM P w K mg base CX0 1 C "__init__" ["self", "function"] (spRuleI K) := by
  refine Y.m_init.known sc_Rule_init (fun _ _ _ _ _ _ us hl => match us, hl with | [_, _], _ => rfl) (fun vs H Q E h => ?_) (fun f cdv A outer s H vs Q E hr h => ?_)
  · obtain ⟨p, C', dx, fs, v, rfl, _⟩ := h
    rfl
  · obtain ⟨p, C', dx, fs, v, rfl, hp, hC, hN, hl, q⟩ := h
    refine ⟨_, (pss_one (ps_fld (pv 0) (pv 1) rfl)), ?_⟩
    exact ⟨_, rfl, _, rfl, p, C', dx, fs, rfl, hp, hC, hN, hl, q⟩
/-- an instance with a list of names -/
def NmAt (C : Addr) (H : Hp) (p : Addr) (zs : List Str) : Prop := ∃ dx fs r, H p = some (.ins C dx fs) ∧ fs.lookup ("names" : Str) = some (.ref r) ∧ fs.lookup ("leans" : Str) = none ∧ H r = some (.lst (zs.map V.str)) ∧ ∀ z ∈ zs, Nl z
theorem NmAt.same {C : Addr} {H H' : Hp} {p : Addr} {zs : List Str} (s : Same H H') (h : NmAt C H p zs) : NmAt C H' p zs := by
  obtain ⟨dx, fs, r, h1, h2, h3, h4, h5⟩ := h
  exact ⟨dx, fs, r, s _ _ h1, h2, h3, s _ _ h4, h5⟩
/-- the same, its list new over G -/
def NmNew (G : Hp) (C : Addr) (H : Hp) (p : Addr) (zs : List Str) : Prop := ∃ dx fs r, H p = some (.ins C dx fs) ∧ fs.lookup ("names" : Str) = some (.ref r) ∧ fs.lookup ("leans" : Str) = none ∧ H r = some (.lst (zs.map V.str)) ∧ (∀ z ∈ zs, Nl z) ∧ G r = none
theorem NmNew.at {G : Hp} {C : Addr} {H : Hp} {p : Addr} {zs : List Str} {e : Addr} {o u : HO} (h : NmNew G C H p zs) (hp : G p = none) (he : G e = some u) : NmAt C (upd H e o) p zs := by
  obtain ⟨dx, fs, r, h1, h2, h3, h4, h5, h6⟩ := h
  exact ⟨dx, fs, r, by rw [upd_ne (ne_of_none he hp).symm]; exact h1, h2, h3, by rw [upd_ne (ne_of_none he h6).symm]; exact h4, h5⟩
theorem But.none {p l : Addr} {H H' : Hp} (b : But p H H') (n : l ≠ p) (h : H' l = none) : H l = none := by
  cases e : H l with
  | none => rfl
  | some u => rw [b l u n e] at h; cases h
def spCellsI (K : PySem.W.Frag) (C : Addr) : Sp := fun vs H Q _ => ∃ (p dx a : Addr) (v : V) (zs : List Str), vs = [.ref p, .ref a, v] ∧ H p = some (.ins C dx []) ∧ SqL K H a (zs.map V.str) ∧ zs.length ≤ 6 ∧ (∀ z ∈ zs, Nl z) ∧ ∀ H', But p H H' → NmNew H C H' p zs → Q .non H'
theorem sqL_but {K : PySem.W.Frag} {H H' : Hp} {p a : Addr} {xs : List V} (b : But p H H') (hp : ∃ C dx fs, H p = some (.ins C dx fs)) (h : SqL K H a xs) : SqL K H' a xs := by
  have na : ∀ u, H a = some u → (∀ C dx fs, u ≠ .ins C dx fs) → a ≠ p := fun u e n z => by
    obtain ⟨C, dx, fs, e'⟩ := hp
    rw [← z, e] at e'
    exact n _ _ _ (Option.some.inj e')
  rcases h with (h | ⟨o, h⟩) | h
  · exact .inl (.inl (b _ _ (na _ h (fun _ _ _ z => by cases z)) h))
  · exact .inl (.inr ⟨o, b _ _ (na _ h (fun _ _ _ z => by cases z)) h⟩)
  · exact .inr h
theorem sc_Cells_init : FnScope ["self", "names", "function"] ["self", "names", "function"] (defScope s_Cells_init) := ⟨rfl, rfl, rfl, by decide +kernel, rfl, by decide +kernel, by decide +kernel⟩
theorem k_Cells_init (T : Tops K mg) {R C : Addr} (Z : TRule K mg R) (Y : TCells K mg C) : KnownI P w K mg base CX0 4 C ["self", "names", "function"] (spCellsI K C) := by
  have G_init : KnownM P w K mg base CX0 1 R "__init__" ["self", "function"] (spRuleI K) := k_Rule_init T Z
  have G_checked_names : Known P w K mg base CX0 3 "checked_names" ["names"] (spCNames K) := k_checked_names T
  refine (Y.m_init.known sc_Cells_init (fun _ _ _ _ _ _ us hl => match us, hl with | [_, _, _], _ => rfl) (fun vs H Q E h => ?_) (fun f cdv A outer s H vs Q E hr h => ?_)).init Y.mks Y.kc
  · obtain ⟨p, dx, a, v, zs, rfl, _⟩ := h
    rfl
  · obtain ⟨p, dx, a, v, zs, rfl, hp, hq, h6, hz, q⟩ := h
    refine ⟨_, (pss_cons (ps_expr (pe_clsN (pe_gR Z.c) Z.v_init G_init (hr.mono (by decide)) pass0 (pa_cons (pv 0) (pa_cons (pv 2) pa_nil))))
      (pss_one (ps_fld (pv 0) (pe_callN G_checked_names (hr.mono (by decide)) pass0 (pa_cons (pv 1) pa_nil)) rfl))), ?_⟩
    have b1 : But p H (upd H p (.ins C dx (putF "function" v []))) := But.upd
    refine ⟨_, rfl, _, rfl, p, C, dx, [], v, rfl, hp, Y.cl, Y.n_function, by decide, ?_⟩
    refine ⟨_, rfl, a, zs, rfl, sqL_but b1 ⟨_, _, _, hp⟩ hq, h6, hz, fun H2 l s2 hl h2 => ?_⟩
    have nlp : l ≠ p := fun z => by rw [z, upd_same] at hl; cases hl
    refine ⟨_, rfl, p, C, dx, _, rfl, s2 _ _ upd_same, Y.cl, Y.n_names, (by show 1 < 1000; decide), ?_⟩
    refine q _ ((b1.trans (But.of s2)).trans But.upd) ⟨dx, _, l, upd_same, ?_, ?_, by rw [upd_ne nlp]; exact h2, hz, b1.none nlp hl⟩
    · rw [lookup_putF, if_pos rfl]
    · rw [lookup_putF, if_neg (by decide), lookup_putF, if_neg (by decide)]
      rfl
def spLeans (K : PySem.W.Frag) (C : Addr) : Sp := fun vs H Q _ => ∃ (p : Addr) (t : Str) (zs : List Str), vs = [.ref p, .str t] ∧ NmAt C H p zs ∧ zs.length ≤ 6 ∧ Nl t ∧
  ∀ H' l ys, Same H H' → H l = none → H' l = some (.lst ys) → Spots K H' ys (onceOf (zs.map fun z => (t, z))) → Q (.ref l) H'
theorem sc_Cells_leans : FnScope ["self", "table"] ["self", "table"] (defScope s_Cells_leans) := ⟨rfl, rfl, rfl, by decide +kernel, rfl, by decide +kernel, by decide +kernel⟩
theorem k_Cells_leans (T : Tops K mg) {C : Addr} (Y : TCells K mg C) : KnownM P w K mg base CX0 3 C "leans" ["self", "table"] (spLeans K C) := by
  have G_each_once : Known P w K mg base CX0 2 "each_once" ["spots"] (spOnce K) := k_each_once T
  refine Y.m_leans.known sc_Cells_leans (fun _ _ _ _ _ _ us hl => match us, hl with | [_, _], _ => rfl) (fun vs H Q E h => ?_) (fun f cdv A outer s H vs Q E hr h => ?_)
  · obtain ⟨p, t, zs, rfl, _⟩ := h
    rfl
  · obtain ⟨p, t, zs, rfl, ⟨dx, fs, r, h1, h2, h3, h4, h5⟩, h6, ht, q⟩ := h
    have hcl : ∀ x, (cxOf CX0 P w K mg base ["self", "table"] "Cells.leans" (defScope s_Cells_leans) f cdv A outer s H E).nox.env.scope.names.lookup x = some .cell → ∃ c, (cxOf CX0 P w K mg base ["self", "table"] "Cells.leans" (defScope s_Cells_leans) f cdv A outer s H E).nox.env.cells.lookup x = some c := fun x hx => Option.isSome_iff_exists.mp (PySem.W.cellsFrom_some _ _ _ (.inl hx))
    refine ⟨_, (pss_one (ps_ret (pe_callN G_each_once (hr.mono (by decide)) pass0 (pa_cons (pe_comp (caps_of (sc := defScope s_Cells_leans) (N := ["self", "table"]) (cp := [(1, "table")]) hcl) rfl rfl (by decide) (pi_list (pe_fld (pv 0) rfl)) (fun _ _ _ _ _ => pts_nil) (fun _ _ _ _ _ => (pe_tup (pa_cons (pv 1) (pa_cons (pv 0) pa_nil))))) pa_nil)))), ?_⟩
    refine ⟨_, rfl, p, C, dx, fs, _, rfl, h1, Y.cl, Y.n_names, h2, r, rfl, ⟨_, SqL.of h4⟩, fun D hD => ?_⟩
    refine comp_list (K := K) (a := r) (xs := zs.map V.str) (fun i ys H2 => Same H H2 ∧ DtAll K H2 ys (((zs.take i).map fun z => (t, z)).map spD)) ⟨Same.new hD, .nil⟩ (fun i ys H2 _ ⟨s2, _⟩ => SqL.of (s2 _ _ h4)) ?_ ?_
    · rintro i x ys H2 hx h2D ⟨s2, hd⟩
      rw [List.getElem?_map] at hx
      cases e : zs[i]? with
      | none => rw [e] at hx; cases hx
      | some z =>
        rw [e] at hx
        cases hx
        have hi : i < zs.length := (List.getElem?_eq_some_iff.mp e).1
        have hyl : ys.length ≤ 6 := by
          have := hd.length
          rw [List.length_map, List.length_map, List.length_take] at this
          omega
        refine ⟨_, rfl, _, rfl, sl, fun tp htp => ?_⟩
        have s3 : Same H2 (upd H2 tp (.tup [.str t, .str z])) := Same.new htp
        have h3D := s3 _ _ h2D
        refine ⟨h3D, small1000 (by omega), (s2.trans s3).on hD, ?_⟩
        have et : ((zs.take (i + 1)).map fun z => (t, z)).map spD = ((zs.take i).map fun z => (t, z)).map spD ++ [spD (t, z)] := by
          rw [List.take_add_one, e, List.map_append, List.map_append]
          rfl
        rw [et]
        refine DtAll.snoc (spots_upd h3D (DtAll.same s3 hd)) (spot_mk (p := (t, z)) (sqT_upd h3D (.inl (.inl upd_same))))
    · rintro ys H2 h2D ⟨s2, hd⟩
      rw [List.length_map, List.take_length] at hd
      refine ⟨D, ys, _, rfl, SqL.of h2D, ⟨hd, fun p' hp' => ?_⟩, by rw [List.length_map]; omega, fun H3 l ys' s3 hl h3 hs3 => ?_⟩
      · obtain ⟨z, hz, rfl⟩ := List.mem_map.mp hp'
        exact ⟨ht, h5 z hz⟩
      · have hl' : H l = none := by
          cases e : H l with
          | none => rfl
          | some u => rw [s2 _ _ e] at hl; cases hl
        exact q H3 l ys' (s2.trans s3) hl' h3 hs3
end
end My
namespace My
open PySem L2
section
variable {P : Program} {w : World} {K : PySem.W.Frag} {mg : Str → Option Value} {base : Heap}
def spAboveI (K : PySem.W.Frag) (C : Addr) : Sp := fun vs H Q _ => ∃ (p dx a : Addr) (i : Int) (v : V) (zs : List Str), vs = [.ref p, .int i, .ref a, v] ∧ numD (.int i) = true ∧ H p = some (.ins C dx []) ∧ SqL K H a (zs.map V.str) ∧ zs.length ≤ 6 ∧ (∀ z ∈ zs, Nl z) ∧ ∀ H', But p H H' → NmNew H C H' p zs → Q .non H'
theorem sc_Above_init : FnScope ["self", "first", "names", "function"] ["self", "first", "names", "function"] (defScope s_Above_init) := ⟨rfl, rfl, rfl, by decide +kernel, rfl, by decide +kernel, by decide +kernel⟩
theorem k_Above_init (T : Tops K mg) {R C : Addr} (Z : TRule K mg R) (Y : TAbove K mg C) : KnownI P w K mg base CX0 4 C ["self", "first", "names", "function"] (spAboveI K C) := by
  have G_init : KnownM P w K mg base CX0 1 R "__init__" ["self", "function"] (spRuleI K) := k_Rule_init T Z
  have G_checked_names : Known P w K mg base CX0 3 "checked_names" ["names"] (spCNames K) := k_checked_names T
  have G_is_number : Known P w K mg base CX0 2 "is_number" ["thing"] (spNumber K) := k_is_number T
  refine (Y.m_init.known sc_Above_init (fun _ _ _ _ _ _ us hl => match us, hl with | [_, _, _, _], _ => rfl) (fun vs H Q E h => ?_) (fun f cdv A outer s H vs Q E hr h => ?_)).init Y.mks Y.kc
  · obtain ⟨p, dx, a, i, v, zs, rfl, _⟩ := h
    rfl
  · obtain ⟨p, dx, a, i, v, zs, rfl, hi, hp, hq, h6, hz, q⟩ := h
    refine ⟨_, (pss_cons (ps_expr (pe_clsN (pe_gR Z.c) Z.v_init G_init (hr.mono (by decide)) pass0 (pa_cons (pv 0) (pa_cons (pv 3) pa_nil))))
      (pss_cons (ps_fld (pv 0) (pe_callN G_checked_names (hr.mono (by decide)) pass0 (pa_cons (pv 2) pa_nil)) rfl)
      (pss_cons (ps_if (pt_not (pt_val (pe_callN G_is_number (hr.mono (by decide)) pass0 (pa_cons (pv 1) pa_nil)) (fun _ => rfl))) (pss_one ps_dead) pss_nil)
      (pss_one (ps_fld (pv 0) (pv 1) rfl))))), ?_⟩
    have b1 : But p H (upd H p (.ins C dx (putF "function" v []))) := But.upd
    refine ⟨_, rfl, _, rfl, p, C, dx, [], v, rfl, hp, Y.cl, Y.n_function, by decide, ?_⟩
    refine ⟨_, rfl, a, zs, rfl, sqL_but b1 ⟨_, _, _, hp⟩ hq, h6, hz, fun H2 l s2 hl h2 => ?_⟩
    have nlp : l ≠ p := fun z => by rw [z, upd_same] at hl; cases hl
    refine ⟨_, rfl, p, C, dx, _, rfl, s2 _ _ upd_same, Y.cl, Y.n_names, (by show 1 < 1000; decide), ?_⟩
    refine ⟨_, rfl, _, _, rfl, .int i, _, rfl, ?_⟩
    rw [hi]
    refine iteF ?_
    refine ⟨_, rfl, _, rfl, p, C, dx, _, rfl, upd_same, Y.cl, Y.n_first, (by show 2 < 1000; decide), ?_⟩
    refine q _ (((b1.trans (But.of s2)).trans But.upd).trans But.upd) ⟨dx, _, l, upd_same, ?_, ?_, by rw [upd_ne nlp, upd_ne nlp]; exact h2, hz, b1.none nlp hl⟩
    · rw [lookup_putF, if_neg (by decide), lookup_putF, if_pos rfl]
    · rw [lookup_putF, if_neg (by decide), lookup_putF, if_neg (by decide), lookup_putF, if_neg (by decide)]
      rfl
theorem sc_Above_leans : FnScope ["self", "table"] ["self", "table"] (defScope s_Above_leans) := ⟨rfl, rfl, rfl, by decide +kernel, rfl, by decide +kernel, by decide +kernel⟩
/-- the turn of [(t, name) for name in names], for a list of names at r -/
theorem comp_spots {cp : List (Nat × Str)} {σ : St} {H : Hp} {r D : Addr} {t : Str} {zs : List Str} {te : TE} {Q : VK} (hD : H D = none) (h4 : H r = some (.lst (zs.map V.str))) (h6 : zs.length ≤ 100)
    (hte : ∀ (z : Str) (H2 : Hp) (q : VK), Same H H2 → (∀ tp, H2 tp = none → q (.ref tp) (upd H2 tp (.tup [.str t, .str z]))) → te (some (.str z) :: capσ cp σ) H2 q)
    (hq : ∀ ys H2, H2 D = some (.lst ys) → Same H H2 → DtAll K H2 ys ((zs.map fun z => (t, z)).map spD) → Q (.ref D) H2) : tLoop cp tYes te σ (Itl K r) D Q H := by
  refine comp_list (K := K) (a := r) (xs := zs.map V.str) (fun i ys H2 => Same H H2 ∧ DtAll K H2 ys (((zs.take i).map fun z => (t, z)).map spD)) ⟨Same.new hD, .nil⟩ (fun i ys H2 _ ⟨s2, _⟩ => SqL.of (s2 _ _ h4)) ?_ ?_
  · rintro i x ys H2 hx h2D ⟨s2, hd⟩
    rw [List.getElem?_map] at hx
    cases e : zs[i]? with
    | none => rw [e] at hx; cases hx
    | some z =>
      rw [e] at hx
      cases hx
      have hi : i < zs.length := (List.getElem?_eq_some_iff.mp e).1
      have hyl : ys.length ≤ 100 := by
        have := hd.length
        rw [List.length_map, List.length_map, List.length_take] at this
        omega
      refine hte z H2 _ s2 fun tp htp => ?_
      have s3 : Same H2 (upd H2 tp (.tup [.str t, .str z])) := Same.new htp
      have h3D := s3 _ _ h2D
      refine ⟨h3D, small1000 (by omega), (s2.trans s3).on hD, ?_⟩
      have et : ((zs.take (i + 1)).map fun z => (t, z)).map spD = ((zs.take i).map fun z => (t, z)).map spD ++ [spD (t, z)] := by
        rw [List.take_add_one, e, List.map_append, List.map_append]
        rfl
      rw [et]
      exact DtAll.snoc (spots_upd h3D (DtAll.same s3 hd)) (spot_mk (p := (t, z)) (sqT_upd h3D (.inl (.inl upd_same))))
  · rintro ys H2 h2D ⟨s2, hd⟩
    rw [List.length_map, List.take_length] at hd
    exact hq ys H2 h2D s2 hd
theorem none_back {H H' : Hp} {l : Addr} (s : Same H H') (h : H' l = none) : H l = none := by
  cases e : H l with
  | none => rfl
  | some u => rw [s _ _ e] at h; cases h
theorem k_Above_leans (T : Tops K mg) {C : Addr} (Y : TAbove K mg C) : KnownM P w K mg base CX0 3 C "leans" ["self", "table"] (spLeans K C) := by
  have G_each_once : Known P w K mg base CX0 2 "each_once" ["spots"] (spOnce K) := k_each_once T
  refine Y.m_leans.known sc_Above_leans (fun _ _ _ _ _ _ us hl => match us, hl with | [_, _], _ => rfl) (fun vs H Q E h => ?_) (fun f cdv A outer s H vs Q E hr h => ?_)
  · obtain ⟨p, t, zs, rfl, _⟩ := h
    rfl
  · obtain ⟨p, t, zs, rfl, ⟨dx, fs, r, h1, h2, h3, h4, h5⟩, h6, ht, q⟩ := h
    have hcl : ∀ x, (cxOf CX0 P w K mg base ["self", "table"] "Above.leans" (defScope s_Above_leans) f cdv A outer s H E).nox.env.scope.names.lookup x = some .cell → ∃ c, (cxOf CX0 P w K mg base ["self", "table"] "Above.leans" (defScope s_Above_leans) f cdv A outer s H E).nox.env.cells.lookup x = some c := fun x hx => Option.isSome_iff_exists.mp (PySem.W.cellsFrom_some _ _ _ (.inl hx))
    refine ⟨_, (pss_one (ps_ret (pe_callN G_each_once (hr.mono (by decide)) pass0 (pa_cons (pe_comp (caps_of (sc := defScope s_Above_leans) (N := ["self", "table"]) (cp := [(1, "table")]) hcl) rfl rfl (by decide) (pi_list (pe_fld (pv 0) rfl)) (fun _ _ _ _ _ => pts_nil) (fun _ _ _ _ _ => (pe_tup (pa_cons (pv 1) (pa_cons (pv 0) pa_nil))))) pa_nil)))), ?_⟩
    refine ⟨_, rfl, p, C, dx, fs, _, rfl, h1, Y.cl, Y.n_names, h2, r, rfl, ⟨_, SqL.of h4⟩, fun D hD => ?_⟩
    refine comp_spots (K := K) (t := t) hD h4 (by omega) (fun z H2 q2 s2 k => ⟨_, rfl, _, rfl, sl, fun tp htp => k tp htp⟩) fun ys H2 h2D s2 hd => ?_
    refine ⟨D, ys, _, rfl, SqL.of h2D, ⟨hd, fun p' hp' => ?_⟩, by rw [List.length_map]; omega, fun H3 l ys' s3 hl h3 hs3 => ?_⟩
    · obtain ⟨z, hz, rfl⟩ := List.mem_map.mp hp'
      exact ⟨ht, h5 z hz⟩
    · exact q H3 l ys' (s2.trans s3) (none_back s2 hl) h3 hs3
end
end My

namespace My
open PySem L2
section
variable {P : Program} {w : World} {K : PySem.W.Frag} {mg : Str → Option Value} {base : Heap}
def KyAt (C : Addr) (H : Hp) (p : Addr) (k n : Str) : Prop := ∃ dx fs, H p = some (.ins C dx fs) ∧ fs.lookup ("key" : Str) = some (.str k) ∧ fs.lookup ("name" : Str) = some (.str n) ∧ fs.lookup ("leans" : Str) = none ∧ Nl k ∧ Nl n
def spGroupI (K : PySem.W.Frag) (C : Addr) : Sp := fun vs H Q _ => ∃ (p dx : Addr) (k n : Str) (v : V), vs = [.ref p, .str k, .str n, v] ∧ H p = some (.ins C dx []) ∧ Nl k ∧ Nl n ∧ ∀ H', But p H H' → KyAt C H' p k n → Q .non H'
theorem sc_Group_init : FnScope ["self", "key", "name", "function"] ["self", "key", "name", "function"] (defScope s_Group_init) := ⟨rfl, rfl, rfl, by decide +kernel, rfl, by decide +kernel, by decide +kernel⟩
theorem k_Group_init (T : Tops K mg) {R C : Addr} (Z : TRule K mg R) (Y : TGroup K mg C) : KnownI P w K mg base CX0 3 C ["self", "key", "name", "function"] (spGroupI K C) := by
  have G_init : KnownM P w K mg base CX0 1 R "__init__" ["self", "function"] (spRuleI K) := k_Rule_init T Z
  have G_check_name : Known P w K mg base CX0 2 "check_name" ["name"] spCName := k_check_name T
  refine (Y.m_init.known sc_Group_init (fun _ _ _ _ _ _ us hl => match us, hl with | [_, _, _, _], _ => rfl) (fun vs H Q E h => ?_) (fun f cdv A outer s H vs Q E hr h => ?_)).init Y.mks Y.kc
  · obtain ⟨p, dx, k, n, v, rfl, _⟩ := h
    rfl
  · obtain ⟨p, dx, k, n, v, rfl, hp, hk, hn, q⟩ := h
    refine ⟨_, (pss_cons (ps_expr (pe_clsN (pe_gR Z.c) Z.v_init G_init (hr.mono (by decide)) pass0 (pa_cons (pv 0) (pa_cons (pv 3) pa_nil))))
      (pss_cons (ps_expr (pe_callN G_check_name (hr.mono (by decide)) pass0 (pa_cons (pv 1) pa_nil)))
      (pss_cons (ps_expr (pe_callN G_check_name (hr.mono (by decide)) pass0 (pa_cons (pv 2) pa_nil)))
      (pss_cons (ps_fld (pv 0) (pv 1) rfl)
      (pss_one (ps_fld (pv 0) (pv 2) rfl)))))), ?_⟩
    have b1 : But p H (upd H p (.ins C dx (putF "function" v []))) := But.upd
    refine ⟨_, rfl, _, rfl, p, C, dx, [], v, rfl, hp, Y.cl, Y.n_function, by decide, ?_⟩
    refine ⟨_, rfl, k, rfl, hk, fun H2 s2 => ⟨_, rfl, n, rfl, hn, fun H3 s3 => ?_⟩⟩
    have s23 := s2.trans s3
    refine ⟨_, rfl, _, rfl, p, C, dx, _, rfl, s23 _ _ upd_same, Y.cl, Y.n_key, (by show 1 < 1000; decide), ?_⟩
    refine ⟨_, rfl, _, rfl, p, C, dx, _, rfl, upd_same, Y.cl, Y.n_name, (by show 2 < 1000; decide), ?_⟩
    refine q _ (((b1.trans (But.of s23)).trans But.upd).trans But.upd) ⟨dx, _, upd_same, ?_, ?_, ?_, hk, hn⟩
    · rw [lookup_putF, if_neg (by decide), lookup_putF, if_pos rfl]
    · rw [lookup_putF, if_pos rfl]
    · rw [lookup_putF, if_neg (by decide), lookup_putF, if_neg (by decide), lookup_putF, if_neg (by decide)]
      rfl
def spGLeans (K : PySem.W.Frag) (C : Addr) : Sp := fun vs H Q _ => ∃ (p : Addr) (t k n : Str), vs = [.ref p, .str t] ∧ KyAt C H p k n ∧ Nl t ∧
  ∀ H' l ys, Same H H' → H l = none → H' l = some (.lst ys) → Spots K H' ys (onceOf [(t, k), (t, n)]) → Q (.ref l) H'
theorem sc_Group_leans : FnScope ["self", "table"] ["self", "table"] (defScope s_Group_leans) := ⟨rfl, rfl, rfl, by decide +kernel, rfl, by decide +kernel, by decide +kernel⟩
theorem k_Group_leans (T : Tops K mg) {C : Addr} (Y : TGroup K mg C) : KnownM P w K mg base CX0 3 C "leans" ["self", "table"] (spGLeans K C) := by
  have G_each_once : Known P w K mg base CX0 2 "each_once" ["spots"] (spOnce K) := k_each_once T
  refine Y.m_leans.known sc_Group_leans (fun _ _ _ _ _ _ us hl => match us, hl with | [_, _], _ => rfl) (fun vs H Q E h => ?_) (fun f cdv A outer s H vs Q E hr h => ?_)
  · obtain ⟨p, t, k, n, rfl, _⟩ := h
    rfl
  · obtain ⟨p, t, k, n, rfl, ⟨dx, fs, h1, h2, h3, h4, hk, hn⟩, ht, q⟩ := h
    refine ⟨_, (pss_one (ps_ret (pe_callN G_each_once (hr.mono (by decide)) pass0 (pa_cons (pe_lst (pa_cons (pe_tup (pa_cons (pv 1) (pa_cons (pe_fld (pv 0) rfl) pa_nil))) (pa_cons (pe_tup (pa_cons (pv 1) (pa_cons (pe_fld (pv 0) rfl) pa_nil))) pa_nil))) pa_nil)))), ?_⟩
    refine ⟨_, rfl, _, rfl, p, C, dx, fs, _, rfl, h1, Y.cl, Y.n_key, h2, sl, fun t1 ht1 => ?_⟩
    have s1 : Same H (upd H t1 (.tup [.str t, .str k])) := Same.new ht1
    refine ⟨_, rfl, _, rfl, p, C, dx, fs, _, rfl, s1 _ _ h1, Y.cl, Y.n_name, h3, sl, fun t2 ht2 => ?_⟩
    have s2 := Same.new (o := .tup [.str t, .str n]) ht2
    refine ⟨sl, fun l hl => ?_⟩
    have s3 := Same.new (o := .lst [.ref t1, .ref t2]) hl
    refine ⟨l, _, [(t, k), (t, n)], rfl, SqL.of upd_same, ⟨.cons (spot_mk (p := (t, k)) (.inl (.inl (s3 _ _ (s2 _ _ upd_same))))) (.cons (spot_mk (p := (t, n)) (.inl (.inl (s3 _ _ upd_same)))) .nil), fun x hx => ?_⟩, (show 2 ≤ 100 by decide), fun H4 l' ys s4 hl' h4' hs => ?_⟩
    · simp only [List.mem_cons, List.not_mem_nil, or_false] at hx
      rcases hx with rfl | rfl
      · exact ⟨ht, hk⟩
      · exact ⟨ht, hn⟩
    · have s5 := (s1.trans s2).trans s3
      exact q H4 l' ys (s5.trans s4) (none_back s5 hl') h4' hs
def spMendI (K : PySem.W.Frag) (C : Addr) : Sp := fun vs H Q _ => ∃ (p dx : Addr) (n : Str) (v : V), vs = [.ref p, .str n, v] ∧ H p = some (.ins C dx []) ∧ Nl n ∧ ∀ H' dx fs, But p H H' → H' p = some (.ins C dx fs) → fs.lookup ("name" : Str) = some (.str n) → fs.lookup ("leans" : Str) = none → Q .non H'
theorem sc_Mend_init : FnScope ["self", "name", "function"] ["self", "name", "function"] (defScope s_Mend_init) := ⟨rfl, rfl, rfl, by decide +kernel, rfl, by decide +kernel, by decide +kernel⟩
theorem k_Mend_init (T : Tops K mg) {R C : Addr} (Z : TRule K mg R) (Y : TMend K mg C) : KnownI P w K mg base CX0 3 C ["self", "name", "function"] (spMendI K C) := by
  have G_init : KnownM P w K mg base CX0 1 R "__init__" ["self", "function"] (spRuleI K) := k_Rule_init T Z
  have G_check_name : Known P w K mg base CX0 2 "check_name" ["name"] spCName := k_check_name T
  refine (Y.m_init.known sc_Mend_init (fun _ _ _ _ _ _ us hl => match us, hl with | [_, _, _], _ => rfl) (fun vs H Q E h => ?_) (fun f cdv A outer s H vs Q E hr h => ?_)).init Y.mks Y.kc
  · obtain ⟨p, dx, n, v, rfl, _⟩ := h
    rfl
  · obtain ⟨p, dx, n, v, rfl, hp, hn, q⟩ := h
    refine ⟨_, (pss_cons (ps_expr (pe_clsN (pe_gR Z.c) Z.v_init G_init (hr.mono (by decide)) pass0 (pa_cons (pv 0) (pa_cons (pv 2) pa_nil))))
      (pss_cons (ps_expr (pe_callN G_check_name (hr.mono (by decide)) pass0 (pa_cons (pv 1) pa_nil)))
      (pss_one (ps_fld (pv 0) (pv 1) rfl)))), ?_⟩
    have b1 : But p H (upd H p (.ins C dx (putF "function" v []))) := But.upd
    refine ⟨_, rfl, _, rfl, p, C, dx, [], v, rfl, hp, Y.cl, Y.n_function, by decide, ?_⟩
    refine ⟨_, rfl, n, rfl, hn, fun H2 s2 => ?_⟩
    refine ⟨_, rfl, _, rfl, p, C, dx, _, rfl, s2 _ _ upd_same, Y.cl, Y.n_name, (by show 1 < 1000; decide), ?_⟩
    refine q _ dx _ ((b1.trans (But.of s2)).trans But.upd) upd_same ?_ ?_
    · rw [lookup_putF, if_pos rfl]
    · rw [lookup_putF, if_neg (by decide), lookup_putF, if_neg (by decide)]
      rfl
def spMLeans (K : PySem.W.Frag) (C : Addr) : Sp := fun vs H Q _ => ∃ (p dx : Addr) (fs : List (Str × V)) (t n : Str), vs = [.ref p, .str t] ∧ H p = some (.ins C dx fs) ∧ fs.lookup ("name" : Str) = some (.str n) ∧ Nl n ∧ Nl t ∧
  ∀ H' l ys, Same H H' → H l = none → H' l = some (.lst ys) → Spots K H' ys [(t, n)] → Q (.ref l) H'
theorem sc_Mend_leans : FnScope ["self", "table"] ["self", "table"] (defScope s_Mend_leans) := ⟨rfl, rfl, rfl, by decide +kernel, rfl, by decide +kernel, by decide +kernel⟩
theorem k_Mend_leans (T : Tops K mg) {C : Addr} (Y : TMend K mg C) : KnownM P w K mg base CX0 3 C "leans" ["self", "table"] (spMLeans K C) := by
  refine Y.m_leans.known sc_Mend_leans (fun _ _ _ _ _ _ us hl => match us, hl with | [_, _], _ => rfl) (fun vs H Q E h => ?_) (fun f cdv A outer s H vs Q E hr h => ?_)
  · obtain ⟨p, dx, fs, t, n, rfl, _⟩ := h
    rfl
  · obtain ⟨p, dx, fs, t, n, rfl, h1, h2, hn, ht, q⟩ := h
    refine ⟨_, (pss_one (ps_ret (pe_lst (pa_cons (pe_tup (pa_cons (pv 1) (pa_cons (pe_fld (pv 0) rfl) pa_nil))) pa_nil)))), ?_⟩
    refine ⟨_, rfl, _, rfl, p, C, dx, fs, _, rfl, h1, Y.cl, Y.n_name, h2, sl, fun t1 ht1 => ?_⟩
    have s1 : Same H (upd H t1 (.tup [.str t, .str n])) := Same.new ht1
    refine ⟨sl, fun l hl => ?_⟩
    have s3 := Same.new (o := .lst [.ref t1]) hl
    refine q _ l _ (s1.trans s3) (none_back s1 hl) upd_same ⟨.cons (spot_mk (p := (t, n)) (.inl (.inl (s3 _ _ upd_same)))) .nil, fun x hx => ?_⟩
    rw [List.mem_singleton.mp hx]
    exact ⟨ht, hn⟩
end
end My

namespace My
open PySem L2
section
variable {P : Program} {w : World} {K : PySem.W.Frag} {mg : Str → Option Value} {base : Heap}
/-- a Lookup: its key, the other table, the column there, its names -/
def LkAt (C : Addr) (H : Hp) (p : Addr) (k o th : Str) (zs : List Str) : Prop := ∃ dx fs r, H p = some (.ins C dx fs) ∧ fs.lookup ("key" : Str) = some (.str k) ∧ fs.lookup ("other" : Str) = some (.str o) ∧ fs.lookup ("theirs" : Str) = some (.str th) ∧
  fs.lookup ("names" : Str) = some (.ref r) ∧ fs.lookup ("leans" : Str) = none ∧ H r = some (.lst (zs.map V.str)) ∧ Nl k ∧ Nl o ∧ Nl th ∧ ∀ z ∈ zs, Nl z
def LkNew (G : Hp) (C : Addr) (H : Hp) (p : Addr) (k o th : Str) (zs : List Str) : Prop := ∃ dx fs r, H p = some (.ins C dx fs) ∧ fs.lookup ("key" : Str) = some (.str k) ∧ fs.lookup ("other" : Str) = some (.str o) ∧ fs.lookup ("theirs" : Str) = some (.str th) ∧
  fs.lookup ("names" : Str) = some (.ref r) ∧ fs.lookup ("leans" : Str) = none ∧ H r = some (.lst (zs.map V.str)) ∧ Nl k ∧ Nl o ∧ Nl th ∧ (∀ z ∈ zs, Nl z) ∧ G r = none
theorem LkNew.at {G : Hp} {C : Addr} {H : Hp} {p : Addr} {k o th : Str} {zs : List Str} {e : Addr} {u v : HO} (h : LkNew G C H p k o th zs) (hp : G p = none) (he : G e = some u) : LkAt C (upd H e v) p k o th zs := by
  obtain ⟨dx, fs, r, h1, h2, h3, h4, h5, h6, h7, h8, h9, h10, h11, h12⟩ := h
  exact ⟨dx, fs, r, by rw [upd_ne (ne_of_none he hp).symm]; exact h1, h2, h3, h4, h5, h6, by rw [upd_ne (ne_of_none he h12).symm]; exact h7, h8, h9, h10, h11⟩
def spLookupI (K : PySem.W.Frag) (C : Addr) : Sp := fun vs H Q _ => ∃ (p dx a : Addr) (k o th : Str) (v : V) (zs : List Str), vs = [.ref p, .str k, .str o, .str th, .ref a, v] ∧ H p = some (.ins C dx []) ∧ Nl k ∧ Nl o ∧ Nl th ∧ SqL K H a (zs.map V.str) ∧ zs.length ≤ 6 ∧ (∀ z ∈ zs, Nl z) ∧
  ∀ H', But p H H' → LkNew H C H' p k o th zs → Q .non H'
theorem sc_Lookup_init : FnScope ["self", "key", "table", "theirs", "names", "function"] ["self", "key", "table", "theirs", "names", "function"] (defScope s_Lookup_init) := ⟨rfl, rfl, rfl, by decide +kernel, rfl, by decide +kernel, by decide +kernel⟩
theorem k_Lookup_init (T : Tops K mg) {R C : Addr} (Z : TRule K mg R) (Y : TLookup K mg C) : KnownI P w K mg base CX0 4 C ["self", "key", "table", "theirs", "names", "function"] (spLookupI K C) := by
  have G_init : KnownM P w K mg base CX0 1 R "__init__" ["self", "function"] (spRuleI K) := k_Rule_init T Z
  have G_check_name : Known P w K mg base CX0 2 "check_name" ["name"] spCName := k_check_name T
  have G_checked_names : Known P w K mg base CX0 3 "checked_names" ["names"] (spCNames K) := k_checked_names T
  refine (Y.m_init.known sc_Lookup_init (fun _ _ _ _ _ _ us hl => match us, hl with | [_, _, _, _, _, _], _ => rfl) (fun vs H Q E h => ?_) (fun f cdv A outer s H vs Q E hr h => ?_)).init Y.mks Y.kc
  · obtain ⟨p, dx, a, k, o, th, v, zs, rfl, _⟩ := h
    rfl
  · obtain ⟨p, dx, a, k, o, th, v, zs, rfl, hp, hk, ho, ht, hq, h6, hz, q⟩ := h
    refine ⟨_, (pss_cons (ps_expr (pe_clsN (pe_gR Z.c) Z.v_init G_init (hr.mono (by decide)) pass0 (pa_cons (pv 0) (pa_cons (pv 5) pa_nil))))
      (pss_cons (ps_expr (pe_callN G_check_name (hr.mono (by decide)) pass0 (pa_cons (pv 1) pa_nil)))
      (pss_cons (ps_expr (pe_callN G_check_name (hr.mono (by decide)) pass0 (pa_cons (pv 2) pa_nil)))
      (pss_cons (ps_expr (pe_callN G_check_name (hr.mono (by decide)) pass0 (pa_cons (pv 3) pa_nil)))
      (pss_cons (ps_fld (pv 0) (pv 1) rfl)
      (pss_cons (ps_fld (pv 0) (pv 2) rfl)
      (pss_cons (ps_fld (pv 0) (pv 3) rfl)
      (pss_one (ps_fld (pv 0) (pe_callN G_checked_names (hr.mono (by decide)) pass0 (pa_cons (pv 4) pa_nil)) rfl))))))))), ?_⟩
    have b1 : But p H (upd H p (.ins C dx (putF "function" v []))) := But.upd
    refine ⟨_, rfl, _, rfl, p, C, dx, [], v, rfl, hp, Y.cl, Y.n_function, by decide, ?_⟩
    refine ⟨_, rfl, k, rfl, hk, fun H2 s2 => ⟨_, rfl, o, rfl, ho, fun H3 s3 => ⟨_, rfl, th, rfl, ht, fun H4 s4 => ?_⟩⟩⟩
    have s24 := (s2.trans s3).trans s4
    refine ⟨_, rfl, _, rfl, p, C, dx, _, rfl, s24 _ _ upd_same, Y.cl, Y.n_key, (by show 1 < 1000; decide), ?_⟩
    refine ⟨_, rfl, _, rfl, p, C, dx, _, rfl, upd_same, Y.cl, Y.n_other, (by show 2 < 1000; decide), ?_⟩
    refine ⟨_, rfl, _, rfl, p, C, dx, _, rfl, upd_same, Y.cl, Y.n_theirs, (by show 3 < 1000; decide), ?_⟩
    have b2 := (((b1.trans (But.of s24)).trans (But.upd (o := .ins C dx (putF "key" (.str k) (putF "function" v []))))).trans (But.upd (o := .ins C dx (putF "other" (.str o) (putF "key" (.str k) (putF "function" v [])))))).trans (But.upd (o := .ins C dx (putF "theirs" (.str th) (putF "other" (.str o) (putF "key" (.str k) (putF "function" v []))))))
    refine ⟨_, rfl, a, zs, rfl, sqL_but b2 ⟨_, _, _, hp⟩ hq, h6, hz, fun H5 l s5 hl h5 => ?_⟩
    have nlp : l ≠ p := fun z => by rw [z, upd_same] at hl; cases hl
    refine ⟨_, rfl, p, C, dx, _, rfl, s5 _ _ upd_same, Y.cl, Y.n_names, (by show 4 < 1000; decide), ?_⟩
    refine q _ ((b2.trans (But.of s5)).trans But.upd) ⟨dx, _, l, upd_same, ?_, ?_, ?_, ?_, ?_, by rw [upd_ne nlp]; exact h5, hk, ho, ht, hz, b2.none nlp hl⟩
    · rw [lookup_putF, if_neg (by decide), lookup_putF, if_neg (by decide), lookup_putF, if_neg (by decide), lookup_putF, if_pos rfl]
    · rw [lookup_putF, if_neg (by decide), lookup_putF, if_neg (by decide), lookup_putF, if_pos rfl]
    · rw [lookup_putF, if_neg (by decide), lookup_putF, if_pos rfl]
    · rw [lookup_putF, if_pos rfl]
    · rw [lookup_putF, if_neg (by decide), lookup_putF, if_neg (by decide), lookup_putF, if_neg (by decide), lookup_putF, if_neg (by decide), lookup_putF, if_neg (by decide)]
      rfl
def spLLeans (K : PySem.W.Frag) (C : Addr) : Sp := fun vs H Q _ => ∃ (p : Addr) (t k o th : Str) (zs : List Str), vs = [.ref p, .str t] ∧ LkAt C H p k o th zs ∧ zs.length ≤ 6 ∧ Nl t ∧
  ∀ H' l ys, Same H H' → H l = none → H' l = some (.lst ys) → Spots K H' ys (onceOf ((t, k) :: (th :: zs).map fun z => (o, z))) → Q (.ref l) H'
theorem sc_Lookup_leans : FnScope ["self", "table", "theirs"] ["self", "table"] (defScope s_Lookup_leans) := ⟨rfl, rfl, rfl, by decide +kernel, rfl, by decide +kernel, by decide +kernel⟩
theorem k_Lookup_leans (T : Tops K mg) {C : Addr} (Y : TLookup K mg C) : KnownM P w K mg base CX0 3 C "leans" ["self", "table"] (spLLeans K C) := by
  have G_each_once : Known P w K mg base CX0 2 "each_once" ["spots"] (spOnce K) := k_each_once T
  refine Y.m_leans.known sc_Lookup_leans (fun _ _ _ _ _ _ us hl => match us, hl with | [_, _], _ => rfl) (fun vs H Q E h => ?_) (fun f cdv A outer s H vs Q E hr h => ?_)
  · obtain ⟨p, t, k, o, th, zs, rfl, _⟩ := h
    rfl
  · obtain ⟨p, t, k, o, th, zs, rfl, ⟨dx, fs, r, h1, h2, h3, h4, h5, h6, h7, hk, ho, hth, hz⟩, hl6, ht, q⟩ := h
    have hcl : ∀ x, (cxOf CX0 P w K mg base ["self", "table", "theirs"] "Lookup.leans" (defScope s_Lookup_leans) f cdv A outer s H E).nox.env.scope.names.lookup x = some .cell → ∃ c, (cxOf CX0 P w K mg base ["self", "table", "theirs"] "Lookup.leans" (defScope s_Lookup_leans) f cdv A outer s H E).nox.env.cells.lookup x = some c := fun x hx => Option.isSome_iff_exists.mp (PySem.W.cellsFrom_some _ _ _ (.inl hx))
    refine ⟨_, (pss_cons (ps_setComp (te := tTup (tCons (tFld K (tVar 1) "other") (tCons (tVar 0) tNil))) (i := 2) sc_Lookup_leans.nd rfl rfl (caps_of (sc := defScope s_Lookup_leans) (N := ["self", "table", "theirs"]) (cp := [(0, "self")]) hcl) rfl rfl (by decide) (pi_list (pe_op op_cat (pe_lst (pa_cons (pe_fld (pv 0) rfl) pa_nil)) (pe_fld (pv 0) rfl))) (fun _ _ _ _ _ => pts_nil) (fun _ _ _ _ _ => by exact (pe_tup (pa_cons (pe_fld (pv 1) rfl) (pa_cons (pv 0) pa_nil)))) rfl)
      (pss_one (ps_ret (pe_callN G_each_once (hr.mono (by decide)) pass0 (pa_cons (pe_op op_cat (pe_lst (pa_cons (pe_tup (pa_cons (pv 1) (pa_cons (pe_fld (pv 0) rfl) pa_nil))) pa_nil)) (pv 2)) pa_nil))))), ?_⟩
    refine ⟨_, rfl, p, C, dx, fs, _, rfl, h1, Y.cl, Y.n_theirs, h4, sl, fun l1 hl1 => ?_⟩
    have s1 : Same H (upd H l1 (.lst [.str th])) := Same.new hl1
    refine ⟨_, rfl, p, C, dx, fs, _, rfl, s1 _ _ h1, Y.cl, Y.n_names, h5, l1, r, _, _, rfl, rfl, upd_same, s1 _ _ h7, sl (by show 1 + _ ≤ 1000; rw [List.length_map]; omega), fun l2 hl2 => ?_⟩
    have s2 := Same.new (o := .lst ([.str th] ++ zs.map V.str)) hl2
    have s12 := s1.trans s2
    refine ⟨l2, rfl, ⟨_, SqL.of upd_same⟩, fun D hD => ?_⟩
    refine comp_spots (K := K) (t := o) (zs := th :: zs) hD upd_same (by show zs.length + 1 ≤ 100; omega) (fun z H2 q2 s3 kq => ⟨_, rfl, p, C, dx, fs, _, rfl, s3 _ _ (s12 _ _ h1), Y.cl, Y.n_other, h3, _, rfl, sl, fun tp htp => kq tp htp⟩) fun ys H2 h2D s3 hd => ?_
    have s13 := s12.trans s3
    refine ⟨_, rfl, _, rfl, p, C, dx, fs, _, rfl, s13 _ _ h1, Y.cl, Y.n_key, h2, sl, fun t1 ht1 => ?_⟩
    have s4 := Same.new (o := .tup [.str t, .str k]) ht1
    refine ⟨sl, fun l3 hl3 => ?_⟩
    have s5 := Same.new (o := .lst [.ref t1]) hl3
    have hyl : ys.length = zs.length + 1 := by
      have := hd.length
      rw [List.length_map, List.length_map] at this
      exact this
    refine ⟨_, rfl, l3, D, _, _, rfl, rfl, upd_same, s5 _ _ (s4 _ _ h2D), sl (by show 1 + _ ≤ 1000; omega), fun l4 hl4 => ?_⟩
    have s6 := Same.new (o := .lst ([.ref t1] ++ ys)) hl4
    have s46 := (s4.trans s5).trans s6
    refine ⟨l4, _, (t, k) :: (th :: zs).map fun z => (o, z), rfl, SqL.of upd_same, ⟨?_, fun x hx => ?_⟩, (by show (zs.map _).length + 1 + 1 ≤ 100; rw [List.length_map]; omega), fun H7 l' ys' s7 hl' h7' hs => ?_⟩
    · exact .cons (spot_mk (p := (t, k)) (.inl (.inl (s6 _ _ (s5 _ _ upd_same))))) (DtAll.same s46 hd)
    · rcases List.mem_cons.mp hx with rfl | hx
      · exact ⟨ht, hk⟩
      · obtain ⟨z, hz', rfl⟩ := List.mem_map.mp hx
        rcases List.mem_cons.mp hz' with rfl | hz'
        · exact ⟨ho, hth⟩
        · exact ⟨ho, hz z hz'⟩
    · have s8 := s13.trans s46
      exact q H7 l' ys' (s8.trans s7) (none_back s8 hl') h7' hs
end
end My

namespace My
open PySem L2
/-- what a rule of a kind leans on -/
def dueOf (kind : Int) (a b c : Str) (zs : List Str) (t : Str) : List (Str × Str) :=
  if kind < 2 then zs.map fun z => (t, z) else if kind = 2 then [(t, a), (t, b)] else if kind = 3 then (t, a) :: (c :: zs).map fun z => (b, z) else [(t, a)]
section
variable {P : Program} {w : World} {K : PySem.W.Frag} {mg : Str → Option Value} {base : Heap}
def spDue (K : PySem.W.Frag) : Sp := fun vs H Q _ => ∃ (kind : Int) (d e : Addr) (a b c t : Str) (zs : List Str), vs = [.int kind, .ref d, .ref e, .str t] ∧ 0 ≤ kind ∧ H d = some (.lst [.str a, .str b, .str c]) ∧ H e = some (.lst (zs.map V.str)) ∧ zs.length ≤ 6 ∧ Nl t ∧ Nl a ∧ Nl b ∧ Nl c ∧ (∀ z ∈ zs, Nl z) ∧
  ∀ H' l ys, Same H H' → H l = none → H' l = some (.lst ys) → Spots K H' ys (dueOf kind a b c zs t) → Q (.ref l) H'
theorem sc_law_due : FnScope ["_law_kind", "_law_names_here", "_law_some", "_law_table"] ["_law_kind", "_law_names_here", "_law_some", "_law_table"] (defScope s_law_due) := ⟨rfl, rfl, rfl, by decide +kernel, rfl, by decide +kernel, by decide +kernel⟩
theorem k_law_due (T : Tops K mg) : Known P w K mg base CX0 1 "_law_due" ["_law_kind", "_law_names_here", "_law_some", "_law_table"] (spDue K) := by
  refine T.d_law_due.known sc_law_due (fun _ _ _ _ _ _ us hl => match us, hl with | [_, _, _, _], _ => rfl) (fun vs H Q E h => ?_) (fun f cdv A outer s H vs Q E hr h => ?_)
  · obtain ⟨kind, d, e, a, b, c, t, zs, rfl, _⟩ := h
    rfl
  · obtain ⟨kind, d, e, a, b, c, t, zs, rfl, h0, hd, he, h6, ht, ha, hb, hc, hz, q⟩ := h
    have hcl : ∀ x, (cxOf CX0 P w K mg base ["_law_kind", "_law_names_here", "_law_some", "_law_table"] "_law_due" (defScope s_law_due) f cdv A outer s H E).nox.env.scope.names.lookup x = some .cell → ∃ c, (cxOf CX0 P w K mg base ["_law_kind", "_law_names_here", "_law_some", "_law_table"] "_law_due" (defScope s_law_due) f cdv A outer s H E).nox.env.cells.lookup x = some c := fun x hx => Option.isSome_iff_exists.mp (PySem.W.cellsFrom_some _ _ _ (.inl hx))
    refine ⟨_, (pss_cons (ps_if (pt_cmpR op_lt (pv 0) pe_int (nomark _)) (pss_one (ps_ret (pe_comp (caps_of (sc := defScope s_law_due) (N := ["_law_kind", "_law_names_here", "_law_some", "_law_table"]) (cp := [(3, "_law_table")]) hcl) rfl rfl (by decide) (pi_list (pv 2)) (fun _ _ _ _ _ => pts_nil) (fun _ _ _ _ _ => (pe_tup (pa_cons (pv 1) (pa_cons (pv 0) pa_nil))))))) pss_nil)
      (pss_cons (ps_if (pt_cmpR op_eq (pv 0) pe_int (nomark _)) (pss_one (ps_ret (pe_lst (pa_cons (pe_tup (pa_cons (pv 3) (pa_cons (pe_ix ix_list (pv 1) pe_int (fun _ _ => rfl)) pa_nil))) (pa_cons (pe_tup (pa_cons (pv 3) (pa_cons (pe_ix ix_list (pv 1) pe_int (fun _ _ => rfl)) pa_nil))) pa_nil))))) pss_nil)
      (pss_cons (ps_if (pt_cmpR op_eq (pv 0) pe_int (nomark _)) (pss_one (ps_ret (pe_op op_cat (pe_lst (pa_cons (pe_tup (pa_cons (pv 3) (pa_cons (pe_ix ix_list (pv 1) pe_int (fun _ _ => rfl)) pa_nil))) pa_nil)) (pe_comp (te := tTup (tCons (tOp (rIxL K) (tVar 1) (tC (.int 1))) (tCons (tVar 0) tNil))) (caps_of (sc := defScope s_law_due) (N := ["_law_kind", "_law_names_here", "_law_some", "_law_table"]) (cp := [(1, "_law_names_here")]) hcl) rfl rfl (by decide) (pi_list (pe_op op_cat (pe_lst (pa_cons (pe_ix ix_list (pv 1) pe_int (fun _ _ => rfl)) pa_nil)) (pv 2))) (fun _ _ _ _ _ => pts_nil) (fun _ _ _ _ _ => (pe_tup (pa_cons (pe_ix ix_list (pv 1) pe_int (fun _ _ => rfl)) (pa_cons (pv 0) pa_nil)))))))) pss_nil)
      (pss_one (ps_ret (pe_lst (pa_cons (pe_tup (pa_cons (pv 3) (pa_cons (pe_ix ix_list (pv 1) pe_int (fun _ _ => rfl)) pa_nil))) pa_nil))))))), ?_⟩
    have one : ∀ (x : Str), Nl x → ∀ (k : Int), atI [V.str a, V.str b, V.str c] k = some (.str x) → dueOf kind a b c zs t = [(t, x)] →
        tRet (tLst (tCons (tTup (tCons (tVar 3) (tCons (tOp (rIxL K) (tVar 1) (tC (.int k))) tNil))) tNil)) { nx := fun _ H' => Q .non H', rt := Q } [some (.int kind), some (.ref d), some (.ref e), some (.str t)] H := fun x hx k hk ed => by
      refine ⟨_, rfl, _, rfl, d, _, _, _, rfl, rfl, SqL.of hd, hk, sl, fun t1 ht1 => ?_⟩
      have s1 : Same H (upd H t1 (.tup [.str t, .str x])) := Same.new ht1
      refine ⟨sl, fun l hl => ?_⟩
      have s3 := Same.new (o := .lst [.ref t1]) hl
      refine q _ l _ (s1.trans s3) (none_back s1 hl) upd_same ?_
      rw [ed]
      refine ⟨.cons (spot_mk (p := (t, x)) (.inl (.inl (s3 _ _ upd_same)))) .nil, fun y hy => ?_⟩
      rw [List.mem_singleton.mp hy]
      exact ⟨ht, hx⟩
    refine ⟨_, rfl, _, _, rfl, rfl, _, rfl, ?_⟩
    refine ite2 (fun g1 => ?_) (fun g1 => ?_)
    · have g1' : kind < 2 := by simpa using g1
      refine ⟨_, rfl, e, rfl, ⟨_, SqL.of he⟩, fun D hD => ?_⟩
      refine comp_spots (K := K) (t := t) hD he (by omega) (fun z H2 q2 s2 k => ⟨_, rfl, _, rfl, sl, fun tp htp => k tp htp⟩) fun ys H2 h2D s2 hds => ?_
      refine q H2 D ys s2 hD h2D ?_
      unfold dueOf
      rw [if_pos g1']
      refine ⟨hds, fun p hp => ?_⟩
      obtain ⟨z, hz', rfl⟩ := List.mem_map.mp hp
      exact ⟨ht, hz z hz'⟩
    · have g1' : ¬ kind < 2 := by simpa using g1
      refine ⟨_, rfl, rfl, _, rfl, ?_⟩
      refine ite2 (fun g2 => ?_) (fun g2 => ?_)
      · have g2' : kind = 2 := by simpa using g2
        have ed : dueOf kind a b c zs t = [(t, a), (t, b)] := by unfold dueOf; rw [if_neg g1', if_pos g2']
        refine ⟨_, rfl, _, rfl, d, _, _, _, rfl, rfl, SqL.of hd, rfl, sl, fun t1 ht1 => ?_⟩
        have s1 : Same H (upd H t1 (.tup [.str t, .str a])) := Same.new ht1
        refine ⟨_, rfl, _, rfl, d, _, _, _, rfl, rfl, SqL.of (s1 _ _ hd), rfl, sl, fun t2 ht2 => ?_⟩
        have s2 := Same.new (o := .tup [.str t, .str b]) ht2
        refine ⟨sl, fun l hl => ?_⟩
        have s3 := Same.new (o := .lst [.ref t1, .ref t2]) hl
        have s12 := s1.trans s2
        refine q _ l _ (s12.trans s3) (none_back s12 hl) upd_same ?_
        rw [ed]
        refine ⟨.cons (spot_mk (p := (t, a)) (.inl (.inl (s3 _ _ (s2 _ _ upd_same))))) (.cons (spot_mk (p := (t, b)) (.inl (.inl (s3 _ _ upd_same)))) .nil), fun x hx => ?_⟩
        simp only [List.mem_cons, List.not_mem_nil, or_false] at hx
        rcases hx with rfl | rfl
        · exact ⟨ht, ha⟩
        · exact ⟨ht, hb⟩
      · have g2' : ¬ kind = 2 := by simpa using g2
        refine ⟨_, rfl, rfl, _, rfl, ?_⟩
        refine ite2 (fun g3 => ?_) (fun g3 => ?_)
        · have g3' : kind = 3 := by simpa using g3
          have ed : dueOf kind a b c zs t = (t, a) :: (c :: zs).map fun z => (b, z) := by unfold dueOf; rw [if_neg g1', if_neg g2', if_pos g3']
          refine ⟨_, rfl, _, rfl, d, _, _, _, rfl, rfl, SqL.of hd, rfl, sl, fun t1 ht1 => ?_⟩
          have s1 : Same H (upd H t1 (.tup [.str t, .str a])) := Same.new ht1
          refine ⟨sl, fun l0 hl0 => ?_⟩
          have s2 := Same.new (o := .lst [.ref t1]) hl0
          have s12 := s1.trans s2
          refine ⟨_, rfl, d, _, _, _, rfl, rfl, SqL.of (s12 _ _ hd), rfl, sl, fun l1 hl1 => ?_⟩
          have s3 := Same.new (o := .lst [.str c]) hl1
          have s13 := s12.trans s3
          refine ⟨_, rfl, l1, e, _, _, rfl, rfl, upd_same, s13 _ _ he, sl (by show 1 + _ ≤ 1000; rw [List.length_map]; omega), fun l2 hl2 => ?_⟩
          have s4 := Same.new (o := .lst ([.str c] ++ zs.map V.str)) hl2
          have s14 := s13.trans s4
          refine ⟨l2, rfl, ⟨_, SqL.of upd_same⟩, fun D hD => ?_⟩
          refine comp_spots (K := K) (t := b) (zs := c :: zs) hD upd_same (by show zs.length + 1 ≤ 100; omega) (fun z H2 q2 s5 kq => ⟨_, rfl, d, _, _, _, rfl, rfl, SqL.of (s5 _ _ (s14 _ _ hd)), rfl, _, rfl, sl, fun tp htp => kq tp htp⟩) fun ys H2 h2D s5 hds => ?_
          have hyl : ys.length = zs.length + 1 := by
            have := hds.length
            rw [List.length_map, List.length_map] at this
            exact this
          have s25 := (s3.trans s4).trans s5
          have s15 := s12.trans s25
          refine ⟨l0, D, _, _, rfl, rfl, s25 _ _ upd_same, h2D, sl (by show 1 + _ ≤ 1000; omega), fun l hl => ?_⟩
          have s6 := Same.new (o := .lst ([.ref t1] ++ ys)) hl
          refine q _ l _ (s15.trans s6) (none_back s15 hl) upd_same ?_
          rw [ed]
          refine ⟨.cons (spot_mk (p := (t, a)) (.inl (.inl (s6 _ _ (s25 _ _ (s2 _ _ upd_same)))))) (DtAll.same s6 hds), fun x hx => ?_⟩
          rcases List.mem_cons.mp hx with rfl | hx
          · exact ⟨ht, ha⟩
          · obtain ⟨z, hz', rfl⟩ := List.mem_map.mp hx
            rcases List.mem_cons.mp hz' with rfl | hz'
            · exact ⟨hb, hc⟩
            · exact ⟨hb, hz z hz'⟩
        · have g3' : ¬ kind = 3 := by simpa using g3
          exact one a ha 0 rfl (by unfold dueOf; rw [if_neg g1', if_neg g2', if_neg g3'])
end
end My

namespace My
open PySem L2
theorem same_of_init {H H' : Hp} {x dx C : Addr} (hx : H x = none) (hd : H dx = none) (b : But x (upd (upd H dx (.own x)) x (.ins C dx [])) H') : Same H H' := fun c o e => by
  have n1 := ne_of_none e hx
  have n2 := ne_of_none e hd
  refine b c o n1 ?_
  rw [upd_ne n1, upd_ne n2]
  exact e
/-- a rule of a kind, where it stands -/
def RuleAt (K : PySem.W.Frag) (mg : Str → Option Value) (H : Hp) (p : Addr) (kind : Int) (a b c : Str) (zs : List Str) : Prop :=
  (kind = 0 ∧ ∃ C, TCells K mg C ∧ NmAt C H p zs) ∨ (kind = 1 ∧ ∃ C, TAbove K mg C ∧ NmAt C H p zs) ∨ (kind = 2 ∧ ∃ C, TGroup K mg C ∧ KyAt C H p a b) ∨ (kind = 3 ∧ ∃ C, TLookup K mg C ∧ LkAt C H p a b c zs) ∨
  (kind = 4 ∧ ∃ C dx fs, TMend K mg C ∧ H p = some (.ins C dx fs) ∧ fs.lookup ("name" : Str) = some (.str a) ∧ fs.lookup ("leans" : Str) = none)
/-- the same, its list new over G -/
def RuleNew (K : PySem.W.Frag) (mg : Str → Option Value) (G H : Hp) (p : Addr) (kind : Int) (a b c : Str) (zs : List Str) : Prop :=
  (kind = 0 ∧ ∃ C, TCells K mg C ∧ NmNew G C H p zs) ∨ (kind = 1 ∧ ∃ C, TAbove K mg C ∧ NmNew G C H p zs) ∨ (kind = 2 ∧ ∃ C, TGroup K mg C ∧ KyAt C H p a b) ∨ (kind = 3 ∧ ∃ C, TLookup K mg C ∧ LkNew G C H p a b c zs) ∨
  (kind = 4 ∧ ∃ C dx fs, TMend K mg C ∧ H p = some (.ins C dx fs) ∧ fs.lookup ("name" : Str) = some (.str a) ∧ fs.lookup ("leans" : Str) = none)
theorem RuleNew.at {K : PySem.W.Frag} {mg : Str → Option Value} {G H : Hp} {p : Addr} {kind : Int} {a b c : Str} {zs : List Str} {e : Addr} {o u : HO} (h : RuleNew K mg G H p kind a b c zs) (hp : G p = none) (he : G e = some u) : RuleAt K mg (upd H e o) p kind a b c zs := by
  have ne := (ne_of_none he hp).symm
  rcases h with ⟨g, C, Y, h⟩ | ⟨g, C, Y, h⟩ | ⟨g, C, Y, dx, fs, h1, r⟩ | ⟨g, C, Y, h⟩ | ⟨g, C, dx, fs, Y, h1, r⟩
  · exact .inl ⟨g, C, Y, h.at hp he⟩
  · exact .inr (.inl ⟨g, C, Y, h.at hp he⟩)
  · exact .inr (.inr (.inl ⟨g, C, Y, dx, fs, by rw [upd_ne ne]; exact h1, r⟩))
  · exact .inr (.inr (.inr (.inl ⟨g, C, Y, h.at hp he⟩)))
  · exact .inr (.inr (.inr (.inr ⟨g, C, dx, fs, Y, by rw [upd_ne ne]; exact h1, r⟩)))
theorem init_none {G : Hp} {x dx C r : Addr} (hx : G x = none) (hd : G dx = none) (h : upd (upd G dx (.own x)) x (.ins C dx []) r = none) : G r = none := by
  cases e : G r with
  | none => rfl
  | some u =>
    rw [upd_ne (ne_of_none e hx), upd_ne (ne_of_none e hd), e] at h
    cases h
theorem NmNew.init {G : Hp} {C : Addr} {H : Hp} {p dx C' : Addr} {zs : List Str} (hx : G p = none) (hd : G dx = none) (h : NmNew (upd (upd G dx (.own p)) p (.ins C' dx [])) C H p zs) : NmNew G C H p zs := by
  obtain ⟨dx', fs, r, h1, h2, h3, h4, h5, h6⟩ := h
  exact ⟨dx', fs, r, h1, h2, h3, h4, h5, init_none hx hd h6⟩
theorem LkNew.init {G : Hp} {C : Addr} {H : Hp} {p dx C' : Addr} {k o th : Str} {zs : List Str} (hx : G p = none) (hd : G dx = none) (h : LkNew (upd (upd G dx (.own p)) p (.ins C' dx [])) C H p k o th zs) : LkNew G C H p k o th zs := by
  obtain ⟨dx', fs, r, h1, h2, h3, h4, h5, h6, h7, h8, h9, h10, h11, h12⟩ := h
  exact ⟨dx', fs, r, h1, h2, h3, h4, h5, h6, h7, h8, h9, h10, h11, init_none hx hd h12⟩
section
variable {P : Program} {w : World} {K : PySem.W.Frag} {mg : Str → Option Value} {base : Heap}
def spMade (K : PySem.W.Frag) (mg : Str → Option Value) (z : Addr × Addr) : Sp := fun vs H Q _ => ∃ (kind : Int) (d e : Addr) (a b c : Str) (zs : List Str), vs = [.int kind, .ref d, .ref e] ∧ 0 ≤ kind ∧ kind < 5 ∧ H d = some (.lst [.str a, .str b, .str c]) ∧ H e = some (.lst (zs.map V.str)) ∧ zs.length ≤ 6 ∧ Nl a ∧ Nl b ∧ Nl c ∧ (∀ z ∈ zs, Nl z) ∧
  H z.2 = some (TabE z.2) ∧ ∀ H' p, Same H H' → H p = none → RuleNew K mg H H' p kind a b c zs → Q (.ref p) H'
theorem sc_law_made : FnScope ["_law_kind", "_law_names_here", "_law_some"] ["_law_kind", "_law_names_here", "_law_some"] (defScope s_law_made) := ⟨rfl, rfl, rfl, by decide +kernel, rfl, by decide +kernel, by decide +kernel⟩
theorem k_law_made (T : Tops K mg) {z : Addr × Addr} (B : DefT K mg "_law_made" s_law_made z) (M : Maker mg base z.1 z.2) : Known P w K mg base CX0 6 "_law_made" ["_law_kind", "_law_names_here", "_law_some"] (spMade K mg z) := by
  obtain ⟨R, Z⟩ := T.t_Rule
  obtain ⟨C0, Y0⟩ := T.t_Cells
  obtain ⟨C1, Y1⟩ := T.t_Above
  obtain ⟨C2, Y2⟩ := T.t_Group
  obtain ⟨C3, Y3⟩ := T.t_Lookup
  obtain ⟨C4, Y4⟩ := T.t_Mend
  have G0 : KnownI P w K mg base CX0 4 C0 ["self", "names", "function"] (spCellsI K C0) := k_Cells_init T Z Y0
  have G1 : KnownI P w K mg base CX0 4 C1 ["self", "first", "names", "function"] (spAboveI K C1) := k_Above_init T Z Y1
  have G2 : KnownI P w K mg base CX0 3 C2 ["self", "key", "name", "function"] (spGroupI K C2) := k_Group_init T Z Y2
  have G3 : KnownI P w K mg base CX0 4 C3 ["self", "key", "table", "theirs", "names", "function"] (spLookupI K C3) := k_Lookup_init T Z Y3
  have G4 : KnownI P w K mg base CX0 3 C4 ["self", "name", "function"] (spMendI K C4) := k_Mend_init T Z Y4
  refine B.known sc_law_made (fun _ _ _ _ _ _ us hl => match us, hl with | [_, _, _], _ => rfl) (fun vs H Q E h => ?_) (fun f A outer s H vs Q E hr h => ?_)
  · obtain ⟨kind, d, e, a, b, c, zs, rfl, _⟩ := h
    rfl
  · obtain ⟨kind, d, e, a, b, c, zs, rfl, h0, h5, hd, he, h6, ha, hb, hc, hz, hP, q⟩ := h
    refine ⟨_, (pss_cons (ps_if (pt_cmpR op_eq (pv 0) pe_int (nomark _)) (pss_one (ps_ret (pe_makeN G0 (hr.mono (by decide)) Y0.c pass0 (pa_cons (pv 2) (pa_cons (pe_lam M rfl rfl rfl) pa_nil))))) pss_nil)
      (pss_cons (ps_if (pt_cmpR op_eq (pv 0) pe_int (nomark _)) (pss_one (ps_ret (pe_makeN G1 (hr.mono (by decide)) Y1.c pass0 (pa_cons pe_int (pa_cons (pv 2) (pa_cons (pe_lam M rfl rfl rfl) pa_nil)))))) pss_nil)
      (pss_cons (ps_if (pt_cmpR op_eq (pv 0) pe_int (nomark _)) (pss_one (ps_ret (pe_makeN G2 (hr.mono (by decide)) Y2.c pass0 (pa_cons (pe_ix ix_list (pv 1) pe_int (fun _ _ => rfl)) (pa_cons (pe_ix ix_list (pv 1) pe_int (fun _ _ => rfl)) (pa_cons (pe_lam M rfl rfl rfl) pa_nil)))))) pss_nil)
      (pss_cons (ps_if (pt_cmpR op_eq (pv 0) pe_int (nomark _)) (pss_one (ps_ret (pe_makeN G3 (hr.mono (by decide)) Y3.c pass0 (pa_cons (pe_ix ix_list (pv 1) pe_int (fun _ _ => rfl)) (pa_cons (pe_ix ix_list (pv 1) pe_int (fun _ _ => rfl)) (pa_cons (pe_ix ix_list (pv 1) pe_int (fun _ _ => rfl)) (pa_cons (pv 2) (pa_cons (pe_lam M rfl rfl rfl) pa_nil)))))))) pss_nil)
      (pss_one (ps_ret (pe_makeN G4 (hr.mono (by decide)) Y4.c pass0 (pa_cons (pe_ix ix_list (pv 1) pe_int (fun _ _ => rfl)) (pa_cons (pe_lam M rfl rfl rfl) pa_nil))))))))), ?_⟩
    have old : ∀ {x dx C' : Addr} {b' : Addr} {o : HO}, H x = none → H dx = none → H b' = some o → upd (upd H dx (.own x)) x (.ins C' dx []) b' = some o := fun {x dx C' b' o} hx hdx e => by
      rw [upd_ne (ne_of_none e hx), upd_ne (ne_of_none e hdx)]
      exact e
    refine ⟨_, rfl, rfl, _, rfl, ?_⟩
    refine ite2 (fun g => ?_) (fun g0 => ?_)
    · have g' : kind = 0 := by simpa using g
      refine ⟨_, rfl, hP, fun lam hlam x dx hx hdx ne => ?_⟩
      refine ⟨x, dx, e, _, zs, rfl, upd_same, SqL.of (old hx hdx he), h6, hz, fun H' bt nm => ⟨rfl, ?_⟩⟩
      exact q H' x (same_of_init hx hdx bt) hx (.inl ⟨g', C0, Y0, nm.init hx hdx⟩)
    · have g0' : ¬ kind = 0 := by simpa using g0
      refine ⟨_, rfl, rfl, _, rfl, ?_⟩
      refine ite2 (fun g => ?_) (fun g1 => ?_)
      · have g' : kind = 1 := by simpa using g
        refine ⟨_, rfl, hP, fun lam hlam x dx hx hdx ne => ?_⟩
        refine ⟨x, dx, e, 5, _, zs, rfl, by decide +kernel, upd_same, SqL.of (old hx hdx he), h6, hz, fun H' bt nm => ⟨rfl, ?_⟩⟩
        exact q H' x (same_of_init hx hdx bt) hx (.inr (.inl ⟨g', C1, Y1, nm.init hx hdx⟩))
      · have g1' : ¬ kind = 1 := by simpa using g1
        refine ⟨_, rfl, rfl, _, rfl, ?_⟩
        refine ite2 (fun g => ?_) (fun g2 => ?_)
        · have g' : kind = 2 := by simpa using g
          refine ⟨_, rfl, d, _, _, _, rfl, rfl, SqL.of hd, rfl, _, rfl, d, _, _, _, rfl, rfl, SqL.of hd, rfl, hP, fun lam hlam x dx hx hdx ne => ?_⟩
          refine ⟨x, dx, a, b, _, rfl, upd_same, ha, hb, fun H' bt ky => ⟨rfl, ?_⟩⟩
          exact q H' x (same_of_init hx hdx bt) hx (.inr (.inr (.inl ⟨g', C2, Y2, ky⟩)))
        · have g2' : ¬ kind = 2 := by simpa using g2
          refine ⟨_, rfl, rfl, _, rfl, ?_⟩
          refine ite2 (fun g => ?_) (fun g3 => ?_)
          · have g' : kind = 3 := by simpa using g
            refine ⟨_, rfl, d, _, _, _, rfl, rfl, SqL.of hd, rfl, _, rfl, d, _, _, _, rfl, rfl, SqL.of hd, rfl, _, rfl, d, _, _, _, rfl, rfl, SqL.of hd, rfl, _, rfl, hP, fun lam hlam x dx hx hdx ne => ?_⟩
            refine ⟨x, dx, e, a, b, c, _, zs, rfl, upd_same, ha, hb, hc, SqL.of (old hx hdx he), h6, hz, fun H' bt lk => ⟨rfl, ?_⟩⟩
            exact q H' x (same_of_init hx hdx bt) hx (.inr (.inr (.inr (.inl ⟨g', C3, Y3, lk.init hx hdx⟩))))
          · have g3' : ¬ kind = 3 := by simpa using g3
            refine ⟨_, rfl, d, _, _, _, rfl, rfl, SqL.of hd, rfl, hP, fun lam hlam x dx hx hdx ne => ?_⟩
            refine ⟨x, dx, a, _, rfl, upd_same, ha, fun H' dx' fs bt e1 e2 e3 => ⟨rfl, ?_⟩⟩
            exact q H' x (same_of_init hx hdx bt) hx (.inr (.inr (.inr (.inr ⟨by omega, C4, dx', fs, Y4, e1, e2, e3⟩))))
end
end My

namespace L2
open PySem PySem.Spec PyProof.Rows
/-- a comprehension over a range, with a test -/
theorem comp_rangeF {cp : List (Nat × Str)} {tt : TT} {te : TE} {σ : St} {lo : Int} {n : Nat} {D : Addr} {Q : VK} {H1 : Hp} (Pv : Nat → List V → Hp → Prop) (h0 : Pv 0 [] (upd H1 D (.lst [])))
    (hs : ∀ i ys H, i < n → H D = some (.lst ys) → Pv i ys H → tt (some (.int (lo + i)) :: capσ cp σ) H fun b H4 => if b = true then te (some (.int (lo + i)) :: capσ cp σ) H4 (Nxt D Pv i ys) else ∃ ys', H4 D = some (.lst ys') ∧ Pv (i + 1) ys' H4)
    (hd : ∀ ys H, H D = some (.lst ys) → Pv n ys H → Q (.ref D) H) : tLoop cp tt te σ (Itr lo n) D Q H1 := by
  refine ⟨fun i m H => m = n - i ∧ i ≤ n ∧ ∃ ys, H D = some (.lst ys) ∧ Pv i ys H, ⟨n, by simp, Nat.zero_le _, [], upd_same, h0⟩, ?_⟩
  rintro i m H ⟨rfl, hi, ys, hD, p⟩
  by_cases hlt : i < n
  · refine .inr ⟨hlt, Nxt D Pv i ys, fun H4 => ∃ ys', H4 D = some (.lst ys') ∧ Pv (i + 1) ys' H4, fun y H5 ⟨h1, h2, h3⟩ => ⟨ys, n - (i + 1), h1, h2, by omega, rfl, hlt, _, upd_same, h3⟩, fun H4 ⟨ys', h1, h2⟩ => ⟨n - (i + 1), by omega, rfl, hlt, ys', h1, h2⟩, fun v H' y => ?_⟩
    obtain ⟨e, rfl⟩ := y
    subst e
    exact hs i ys _ hlt hD p
  · have e : i = n := by omega
    subst e
    exact .inl ⟨Nat.le_refl _, hd ys H hD p⟩
theorem cutV_take (xs : List V) (k : Nat) (h : k ≤ xs.length) : cutV xs none (some (k : Int)) = xs.take k := by
  unfold cutV
  rw [HT.sIx_none, HT.sIx_nat, List.drop_zero, Nat.min_eq_left h, Nat.sub_zero]
theorem onceOf_in : ∀ {ps : List (Str × Str)} {p : Str × Str}, p ∈ ps → p ∈ onceOf ps := by
  suffices h : ∀ (ps acc : List (Str × Str)) (p : Str × Str), (p ∈ acc ∨ p ∈ ps) → p ∈ ps.foldl (fun acc p => if p ∈ acc then acc else acc ++ [p]) acc by
    intro ps p hp
    exact h ps [] p (.inr hp)
  intro ps
  induction ps with
  | nil => intro acc p h; exact h.elim id (fun z => by cases z)
  | cons q ps ih =>
    intro acc p h
    rw [List.foldl_cons]
    refine ih _ p ?_
    rcases h with h | h
    · left
      split
      · exact h
      · exact List.mem_append_left _ h
    · rcases List.mem_cons.mp h with rfl | h
      · left
        split
        · assumption
        · exact List.mem_append_right _ (List.mem_singleton.mpr rfl)
      · exact .inr h
end L2
namespace My
open PySem L2
theorem spots_get {K : PySem.W.Frag} {H : Hp} {xs : List V} {ps : List (Str × Str)} {i : Nat} {x : V} (h : DtAll K H xs (ps.map spD)) (e : xs[i]? = some x) : ∃ p a, ps[i]? = some p ∧ x = .ref a ∧ SqT K H a [.str p.1, .str p.2] := by
  obtain ⟨d, h1, h2⟩ := h.get e
  rw [List.getElem?_map] at h1
  cases q : ps[i]? with
  | none => rw [q] at h1; cases h1
  | some p =>
    rw [q] at h1
    cases h1
    obtain ⟨a, rfl, hq⟩ := spot_inv h2
    exact ⟨p, a, rfl, rfl, hq⟩
theorem depth_spots : ∀ ps : List (Str × Str), PyData.depthAll (ps.map spD) ≤ 1
  | [] => Nat.zero_le _
  | p :: ps => by
    show max (max 0 (max 0 0) + 1) (PyData.depthAll (ps.map spD)) ≤ 1
    have := depth_spots ps
    omega
theorem DtAll.take {K : PySem.W.Frag} {H : Hp} : ∀ {xs : List V} {ds : List PyData} (n : Nat), DtAll K H xs ds → DtAll K H (xs.take n) (ds.take n)
  | _, _, 0, _ => .nil
  | _, _, _ + 1, .nil => .nil
  | _, _, n + 1, .cons h t => .cons h (DtAll.take n t)
section
variable {P : Program} {w : World} {K : PySem.W.Frag} {mg : Str → Option Value} {base : Heap}
def spRight (K : PySem.W.Frag) : Sp := fun vs H Q _ => ∃ (l m : Addr) (ys xs : List V) (ps : List (Str × Str)), vs = [.ref l, .ref m] ∧ H l = some (.lst ys) ∧ H m = some (.lst xs) ∧ Spots K H ys (onceOf ps) ∧ Spots K H xs ps ∧ ps.length ≤ 100 ∧ ∀ H', Same H H' → Q (.bl true) H'
theorem sc_law_right : FnScope ["_law_found", "_law_due_here", "_law_spot"] ["_law_found", "_law_due_here"] (defScope s_law_right) := ⟨rfl, rfl, rfl, by decide +kernel, rfl, by decide +kernel, by decide +kernel⟩
theorem k_law_right (T : Tops K mg) : Known P w K mg base CX0 1 "_law_right" ["_law_found", "_law_due_here"] (spRight K) := by
  refine T.d_law_right.known sc_law_right (fun _ _ _ _ _ _ us hl => match us, hl with | [_, _], _ => rfl) (fun vs H Q E h => ?_) (fun f cdv A outer s H vs Q E hr h => ?_)
  · obtain ⟨l, m, ys, xs, ps, rfl, _⟩ := h
    rfl
  · obtain ⟨l, m, ys, xs, ps, rfl, hl, hm, hY, hX, h100, q⟩ := h
    have hcl : ∀ x, (cxOf CX0 P w K mg base ["_law_found", "_law_due_here", "_law_spot"] "_law_right" (defScope s_law_right) f cdv A outer s H E).nox.env.scope.names.lookup x = some .cell → ∃ c, (cxOf CX0 P w K mg base ["_law_found", "_law_due_here", "_law_spot"] "_law_right" (defScope s_law_right) f cdv A outer s H E).nox.env.cells.lookup x = some c := fun x hx => Option.isSome_iff_exists.mp (PySem.W.cellsFrom_some _ _ _ (.inl hx))
    refine ⟨_, (pss_cons (ps_if (pt_not (pt_val (pe_callB call_isT rfl T.isinstance b_isinstance (pa_cons (pv 0) (pa_cons (pe_ty T.list b_list) pa_nil))) (fun _ => rfl))) (pss_one (ps_ret pe_bl)) pss_nil)
      (pss_cons (ps_for PassesOwn.never rfl (pi_list (pv 0)) (pg_name (i := 2) sc_law_right.nd rfl (Or.inl rfl)) (pss_cons (ps_if (PW.pt (pw_or (pt_not (pt_val (pe_callB call_isT rfl T.isinstance b_isinstance (pa_cons (pv 2) (pa_cons (pe_ty T.tuple b_tuple) pa_nil))) (fun _ => rfl))) (pw_or1 (pt_cmpR op_ne (pe_callB call_len rfl T.len b_len (pa_cons (pv 2) pa_nil)) pe_int (nomark _))))) (pss_one (ps_ret pe_bl)) pss_nil)
      (pss_one (ps_if (PW.pt (pw_or (pt_not (pt_val (pe_callB call_isT rfl T.isinstance b_isinstance (pa_cons (pe_ix ix_tup (pv 2) pe_int (fun _ _ => rfl)) (pa_cons (pe_ty T.str b_str) pa_nil))) (fun _ => rfl))) (pw_or1 (pt_not (pt_val (pe_callB call_isT rfl T.isinstance b_isinstance (pa_cons (pe_ix ix_tup (pv 2) pe_int (fun _ _ => rfl)) (pa_cons (pe_ty T.str b_str) pa_nil))) (fun _ => rfl)))))) (pss_one (ps_ret pe_bl)) pss_nil))))
      (pss_one (ps_ret (pe_cmpR (op_eqD hr.units) (pv 0) (pe_comp (te := tOp (rIxL K) (tVar 1) (tVar 0))
        (tt := tTest (tOp (fun x y H Q => ∃ d ds, Dt K H x d ∧ Dt K H y (.list ds) ∧ d.canLay0 = true ∧ (PyData.list ds).canLay0 = true ∧ d.depth ≤ 62 ∧ Q (.bl (!ds.any fun z => PyData.eqv z d)) H) (tOp (rIxL K) (tVar 1) (tVar 0)) (tSl (rSlL K) (tVar 1) tNoPart (tPart (tVar 0)))))
        (caps_of (sc := defScope s_law_right) (N := ["_law_found", "_law_due_here", "_law_spot"]) (cp := [(1, "_law_due_here")]) hcl) rfl rfl (by decide) (pi_range1 rfl T.range (pa_cons (pe_callB call_len rfl T.len b_len (pa_cons (pv 1) pa_nil)) pa_nil)) (fun _ _ _ _ _ => (pts_one (pt_cmpR (op_notinD hr.units) (pe_ix ix_list (pv 1) (pv 0) (fun _ _ => rfl)) (pe_slice sl_list (pv 1) po_none (po_some (pv 0))) (by with_unfolding_all rfl)))) (fun _ _ _ _ _ => (pe_ix ix_list (pv 1) (pv 0) (fun _ _ => rfl)))) (nomark _)))))), ?_⟩
    have layY := hY.lay
    have hxl : xs.length = ps.length := by rw [hX.1.length, List.length_map]
    refine ⟨_, rfl, _, "list", _, _, rfl, Dt.lst (SqL.of hl) hY.1, kit_list K _, _, rfl, iteF ?_⟩
    refine ⟨_, rfl, l, rfl, ⟨_, SqL.of hl⟩, ?_⟩
    refine for_list (K := K) (a := l) (xs := ys) (fun i σ H2 => ∃ o, σ = [some (.ref l), some (.ref m), o] ∧ H = H2) ⟨_, rfl, rfl⟩ (fun i σ H2 _ ⟨_, _, e⟩ => by rw [← e]; exact SqL.of hl) ?_ ?_
    · rintro i x σ H2 hx ⟨o, rfl, rfl⟩
      obtain ⟨p, a, hp, rfl, hq⟩ := spots_get hY.1 hx
      refine ⟨_, rfl, _, "tuple", _, _, rfl, spot_mk (p := p) hq, kit_tuple K _, _, rfl, iteF ?_⟩
      refine ⟨_, rfl, _, _, rfl, .inr ⟨_, hq, rfl⟩, rfl, _, rfl, iteF ?_⟩
      refine ⟨_, rfl, a, _, _, _, rfl, rfl, hq, rfl, _, "str", _, _, rfl, .str p.1, kit_str K _, _, rfl, iteF ?_⟩
      refine ⟨_, rfl, a, _, _, _, rfl, rfl, hq, rfl, _, "str", _, _, rfl, .str p.2, kit_str K _, _, rfl, iteF ?_⟩
      exact ⟨_, rfl, rfl⟩
    · rintro σ H2 ⟨o, rfl, rfl⟩
      refine ⟨_, rfl, _, rfl, _, _, rfl, .inl ⟨_, SqL.of hm, rfl⟩, _, rfl, by omega, by omega, fun D hD => ?_⟩
      rw [Int.toNat_natCast]
      refine comp_rangeF (lo := 0) (n := xs.length) (fun i zs H2 => Same H H2 ∧ DtAll K H zs ((onceOf (ps.take i)).map spD)) ⟨Same.new hD, .nil⟩ ?_ ?_
      · rintro i zs H2 hi h2D ⟨s2, hd⟩
        obtain ⟨x, hx⟩ : ∃ x, xs[i]? = some x := ⟨xs[i], List.getElem?_eq_getElem hi⟩
        obtain ⟨p, a, hp, rfl, hq⟩ := spots_get hX.1 hx
        have hpm := List.mem_of_getElem? hp
        have ei : (0 + (i : Int)) = ((i : Nat) : Int) := by omega
        have hat : atI xs (0 + (i : Int)) = some (.ref a) := by
          obtain ⟨v, h1, h2⟩ := at_some xs (0 + (i : Int)) (by omega) (by omega)
          have e2 : (0 + (i : Int)).toNat = i := by omega
          rw [e2, hx] at h2
          cases h2
          exact h1
        have hzl : zs.length ≤ 100 := by
          have h1 := hd.length
          have h2 := onceOf_le (ps.take i)
          rw [List.length_map] at h1
          rw [List.length_take] at h2
          omega
        have et : onceOf (ps.take (i + 1)) = if p ∈ onceOf (ps.take i) then onceOf (ps.take i) else onceOf (ps.take i) ++ [p] := by
          rw [List.take_add_one, hp]
          exact onceOf_snoc _ _
        refine ⟨_, rfl, _, rfl, m, _, _, _, rfl, rfl, SqL.of (s2 _ _ hm), hat, _, rfl, _, rfl, _, rfl, m, _, rfl, SqL.of (s2 _ _ hm), fun c hc => ?_⟩
        have s3 : Same H2 (upd H2 c (.lst (cutV xs none (some (0 + (i : Int)))))) := Same.new hc
        have s23 := s2.trans s3
        refine ⟨spD p, (ps.take i).map spD, spot_mk (Same.seqT s23 hq), Dt.lst (SqL.of upd_same) ?_, spD_lay (hX.2 p hpm).1 (hX.2 p hpm).2, lay_spots fun y hy => hX.2 y (List.mem_of_mem_take hy), (show max 0 (max 0 0) + 1 ≤ 62 by decide), _, rfl, ?_⟩
        · have ec : cutV xs none (some (0 + (i : Int))) = xs.take i := by rw [ei]; exact cutV_take xs i (Nat.le_of_lt hi)
          have th := DtAll.take i (DtAll.same s23 hX.1)
          rw [← List.map_take] at th
          exact Eq.mpr (congrArg (fun z => DtAll K (upd H2 c (.lst (cutV xs none (some (0 + (i : Int)))))) z ((ps.take i).map spD)) ec) th
        · rw [spD_any]
          by_cases hmem : p ∈ ps.take i
          · rw [decide_eq_true hmem]
            rw [if_pos (onceOf_in hmem)] at et
            exact iteF ⟨zs, s3 _ _ h2D, s23, by rw [et]; exact hd⟩
          · rw [decide_eq_false hmem]
            rw [if_neg (fun z => hmem (onceOf_mem z))] at et
            refine iteT ?_
            refine ⟨_, rfl, _, rfl, m, _, _, _, rfl, rfl, SqL.of (s23 _ _ hm), hat, s3 _ _ h2D, small1000 (by omega), s23.on hD, ?_⟩
            rw [et, List.map_append]
            exact DtAll.snoc hd (spot_mk hq)
      · rintro zs H2 h2D ⟨s2, hd⟩
        rw [hxl, List.take_length] at hd
        refine ⟨_, _, Dt.lst (SqL.of (s2 _ _ hl)) (DtAll.same s2 hY.1), Dt.lst (SqL.of h2D) (DtAll.same s2 hd), layY, layY, ?_, ?_⟩
        · exact Nat.le_trans (Nat.succ_le_succ (depth_spots _)) (by decide)
        · rw [SeqAt.eqv_refl _ layY]
          exact q H2 s2
end
end My

namespace L2
open PySem PySem.Spec PyProof.Rows
/-- o.m(..) of an instance of one of several classes -/
def tMethD (R : Addr → Sp → Prop) (m : Str) (E : XK) (ta : TE) (t : TA) : TE := fun σ H Q => ta σ H fun x H1 => ∃ C sp a dx fs, R C sp ∧ x = .ref a ∧ H1 a = some (.ins C dx fs) ∧ fs.lookup m = none ∧ t σ H1 fun vs H2 => sp (x :: vs) H2 Q E
section
variable {X : Cx} {CX : CXT} {k : Nat} {ps : List Str} {R : Addr → Sp → Prop} {E : XK} {x m : Str} {p pos apos : Pos} {e o : Expr} {es : List Expr} {t : TA} {ta : TE}
theorem pe_methD {pl : Sem Bool} (he : PE X o ta) (hR : ∀ C sp, R C sp → Cls X.K C ∧ KnownM X.prog X.w X.K X.mg X.base CX k C m ps sp) (hr : Room k X.A) (hx : Passes CX X E) (ha : PA X (e :: es) t)
    (hst : starEach (e :: es) X.env = (false, eval e X.env) :: starEach es X.env := by rfl) (hpl : (backTo pos (starEach es X.env)).any (·.1) = false := by rfl)
    (ht : eval (.Call (.Attribute o m apos) (e :: es) [] pos) X.env = (do
      let ov ← eval o X.env
      standAt apos.atName
      let (f, first) ← holding [ov] (getMethod ov m pl)
      callWith pos f first (backTo pos (starEach (e :: es) X.env)) (backToKw pos (keywordEach [] X.env))) := by rfl) :
    PE X (.Call (.Attribute o m apos) (e :: es) [] pos) (tMethD R m E ta t) := by
  intro pins s σ H Q I h
  refine PySem.W.methodCall_KW (pl := pl) (thn (he pins s σ H _ I h) fun u s1 ⟨x, H1, I1, rx, C, sp, a, dx, fs, hC, ex, ea, l, q⟩ => ?_) ht
  obtain ⟨c, G⟩ := hR C sp hC
  obtain ⟨f, fd, F, hm, hb⟩ := G.ex
  subst ex
  obtain rfl : u = Value.ref a := rx
  refine getmeth_ok I1 ea c hm l ?_
  refine PySem.W.callWith_K (first := [.ref a]) (h₀ := X.base) I.ok.mod.kin hm.kp (thn (ha pos pins s1 σ H1 _ I1 q) fun us s2 ⟨vs, H2, I2, r, q2⟩ => ⟨I2.kIn, ?_⟩) hst hpl
  exact run_fn (us := .ref a :: us) (vs := .ref a :: vs) F hr hb .nil hx I2 (.cons rfl r) (by rw [List.append_nil]; exact q2)
end
end L2
namespace My
open PySem L2
def LeansR (K : PySem.W.Frag) (mg : Str → Option Value) (C : Addr) (sp : Sp) : Prop :=
  (TCells K mg C ∧ sp = spLeans K C) ∨ (TAbove K mg C ∧ sp = spLeans K C) ∨ (TGroup K mg C ∧ sp = spGLeans K C) ∨ (TLookup K mg C ∧ sp = spLLeans K C) ∨ (TMend K mg C ∧ sp = spMLeans K C)
section
variable {P : Program} {w : World} {K : PySem.W.Frag} {mg : Str → Option Value} {base : Heap}
theorem leansR_ok (T : Tops K mg) : ∀ C sp, LeansR K mg C sp → Cls K C ∧ KnownM P w K mg base CX0 3 C "leans" ["self", "table"] sp := by
  rintro C sp (⟨Y, rfl⟩ | ⟨Y, rfl⟩ | ⟨Y, rfl⟩ | ⟨Y, rfl⟩ | ⟨Y, rfl⟩)
  · exact ⟨Y.cl, k_Cells_leans T Y⟩
  · exact ⟨Y.cl, k_Above_leans T Y⟩
  · exact ⟨Y.cl, k_Group_leans T Y⟩
  · exact ⟨Y.cl, k_Lookup_leans T Y⟩
  · exact ⟨Y.cl, k_Mend_leans T Y⟩
theorem RuleAt.same {H H' : Hp} {p : Addr} {kind : Int} {a b c : Str} {zs : List Str} (s : Same H H') (h : RuleAt K mg H p kind a b c zs) : RuleAt K mg H' p kind a b c zs := by
  rcases h with ⟨g, C, Y, h⟩ | ⟨g, C, Y, h⟩ | ⟨g, C, Y, dx, fs, h1, r⟩ | ⟨g, C, Y, dx, fs, r, h1, h2, h3, h4, h5, h6, h7, h8⟩ | ⟨g, C, dx, fs, Y, h1, r⟩
  · exact .inl ⟨g, C, Y, h.same s⟩
  · exact .inr (.inl ⟨g, C, Y, h.same s⟩)
  · exact .inr (.inr (.inl ⟨g, C, Y, dx, fs, s _ _ h1, r⟩))
  · exact .inr (.inr (.inr (.inl ⟨g, C, Y, dx, fs, r, s _ _ h1, h2, h3, h4, h5, h6, s _ _ h7, h8⟩)))
  · exact .inr (.inr (.inr (.inr ⟨g, C, dx, fs, Y, s _ _ h1, r⟩)))
theorem leans_go {H : Hp} {p : Addr} {kind : Int} {a b c t : Str} {zs : List Str} {E : XK} (h : RuleAt K mg H p kind a b c zs) (h6 : zs.length ≤ 6) (ht : Nl t) (ha : Nl a) :
    ∃ C sp dx fs, LeansR K mg C sp ∧ H p = some (.ins C dx fs) ∧ fs.lookup ("leans" : Str) = none ∧ ∀ Q : VK, (∀ H' l ys, Same H H' → H l = none → H' l = some (.lst ys) → Spots K H' ys (onceOf (dueOf kind a b c zs t)) → Q (.ref l) H') → sp [.ref p, .str t] H Q E := by
  rcases h with ⟨rfl, C, Y, h⟩ | ⟨rfl, C, Y, h⟩ | ⟨rfl, C, Y, h⟩ | ⟨rfl, C, Y, h⟩ | ⟨rfl, C, dx, fs, Y, h1, h2, h3⟩
  · obtain ⟨dx, fs, r, h1, h2, h3, h4⟩ := id h
    exact ⟨C, _, dx, fs, .inl ⟨Y, rfl⟩, h1, h3, fun Q q => ⟨p, t, zs, rfl, h, h6, ht, q⟩⟩
  · obtain ⟨dx, fs, r, h1, h2, h3, h4⟩ := id h
    exact ⟨C, _, dx, fs, .inr (.inl ⟨Y, rfl⟩), h1, h3, fun Q q => ⟨p, t, zs, rfl, h, h6, ht, q⟩⟩
  · obtain ⟨dx, fs, h1, h2, h3, h4, h5⟩ := id h
    exact ⟨C, _, dx, fs, .inr (.inr (.inl ⟨Y, rfl⟩)), h1, h4, fun Q q => ⟨p, t, a, b, rfl, h, ht, q⟩⟩
  · obtain ⟨dx, fs, r, h1, h2, h3, h4, h5, h6', h7⟩ := id h
    exact ⟨C, _, dx, fs, .inr (.inr (.inr (.inl ⟨Y, rfl⟩))), h1, h6', fun Q q => ⟨p, t, a, b, c, zs, rfl, h, h6, ht, q⟩⟩
  · exact ⟨C, _, dx, fs, .inr (.inr (.inr (.inr ⟨Y, rfl⟩))), h1, h3, fun Q q => ⟨p, dx, fs, t, a, rfl, h1, h2, ha, ht, q⟩⟩
/-- a list of names out of the words -/
theorem comp_names {cp : List (Nat × Str)} {σ : St} {H : Hp} {D : Addr} {n : Nat} {te : TE} {Q : VK} (hD : H D = none) (h6 : n ≤ 100)
    (hte : ∀ (j : Nat) (H2 : Hp) (q : VK), j < n → Same H H2 → (∀ z, Nl z → q (.str z) H2) → te (some (.int (0 + (j : Int))) :: capσ cp σ) H2 q)
    (hq : ∀ (zs : List Str) (H2 : Hp), H2 D = some (.lst (zs.map V.str)) → Same H H2 → zs.length = n → (∀ z ∈ zs, Nl z) → Q (.ref D) H2) : tLoop cp tYes te σ (Itr 0 n) D Q H := by
  refine comp_range (lo := 0) (n := n) (fun i ys H2 => ∃ zs : List Str, ys = zs.map V.str ∧ zs.length = i ∧ (∀ z ∈ zs, Nl z) ∧ Same H H2) ⟨[], rfl, rfl, (fun _ h => by cases h), Same.new hD⟩ ?_ ?_
  · rintro i ys H2 hi h2 ⟨zs, rfl, hz, hall, s2⟩
    refine hte i H2 _ hi s2 fun z hN => ⟨h2, ?_, zs ++ [z], by rw [List.map_append]; rfl, by rw [List.length_append, hz]; rfl, fun y hy => ?_, s2.on hD⟩
    · rw [List.length_map, hz]
      exact small1000 (by omega)
    · rcases List.mem_append.mp hy with hy | hy
      · exact hall y hy
      · rw [List.mem_singleton.mp hy]
        exact hN
  · rintro ys H2 h2 ⟨zs, rfl, hz, hall, s2⟩
    exact hq zs H2 h2 s2 hz hall
end
end My

namespace My
open PySem L2
abbrev Nlaw : List Str := ["_law_script", "_law_words", "_law_turn", "_law_at", "_law_kind", "_law_tables", "_law_names_here", "_law_some", "_law_handed", "_law_rule", "_law_table", "_law_found"]
section
variable {P : Program} {w : World} {K : PySem.W.Frag} {mg : Str → Option Value} {base : Heap}
def spLaw (K : PySem.W.Frag) (tabs : List (Addr × Addr)) : Sp := fun vs H Q _ => ∃ (a : Addr) (ns : List Int), vs = [.ref a] ∧ SqL K H a (ns.map V.int) ∧ ns.length ≤ 63 ∧ TabsIn tabs H ∧ ∀ H', TabsIn tabs H' → Q (.bl true) H'
theorem sc_law : FnScope Nlaw ["_law_script"] (defScope s_law) := ⟨rfl, rfl, rfl, by decide +kernel, rfl, by decide +kernel, by decide +kernel⟩
theorem word_at {zs : List Str} (h : zs.length = 7) (hz : ∀ z ∈ zs, Nl z) (i : Int) (h0 : 0 ≤ i) (h7 : i < 7) : ∃ z, atI (zs.map V.str) i = some (.str z) ∧ Nl z := by
  obtain ⟨v, h1, h2⟩ := at_some (zs.map V.str) i h0 (by rw [List.length_map]; omega)
  rw [List.getElem?_map] at h2
  cases e : zs[i.toNat]? with
  | none => rw [e] at h2; cases h2
  | some z =>
    rw [e] at h2
    cases h2
    exact ⟨z, h1, hz z (List.mem_of_getElem? e)⟩
theorem three {zs : List Str} (h : zs.length = 3) : ∃ a b c, zs = [a, b, c] := by
  match zs, h with
  | [a, b, c], _ => exact ⟨a, b, c, rfl⟩
theorem cutN {G : Prop} {N : Hp → Prop} (Pv : Hp → Prop) (h : ∀ H, Pv H → N H) (k : (∀ H, Pv H → N H) → G) : G := k h
theorem due_len {kind : Int} {a b c t : Str} {zs : List Str} (h : zs.length ≤ 6) : (dueOf kind a b c zs t).length ≤ 100 := by
  unfold dueOf
  split
  · rw [List.length_map]; omega
  · split
    · show 2 ≤ 100; decide
    · split
      · show (zs.map _).length + 1 + 1 ≤ 100
        rw [List.length_map]
        omega
      · show 1 ≤ 100; decide
theorem cut_mem {xs : List V} {lo hi : Option Int} {x : V} (h : x ∈ cutV xs lo hi) : x ∈ xs := List.mem_of_mem_drop (List.mem_of_mem_take h)
theorem ok_law (T : Tops K mg) {z : Addr × Addr} (B : DefT K mg "_law_made" s_law_made z) (M : Maker mg base z.1 z.2) {f : Addr} {fd : FuncData} (F : Fun K "law" "law" s_law f fd) : FnOk P w K mg base CX0 10 f fd ["_law_script"] (spLaw K [z]) := by
  have G_law_drawn : Known P w K mg base CX0 1 "_law_drawn" ["_law_script", "_law_k", "_law_size"] (spDrawn K) := k_law_drawn T
  have G_law_names : Known P w K mg base CX0 2 "_law_names" ["_law_script", "_law_many"] (spNames2 K) := k_law_names T
  have G_law_made : Known P w K mg base CX0 6 "_law_made" ["_law_kind", "_law_names_here", "_law_some"] (spMade K mg z) := k_law_made T B M
  have G_law_right : Known P w K mg base CX0 1 "_law_right" ["_law_found", "_law_due_here"] (spRight K) := k_law_right T
  have G_law_due : Known P w K mg base CX0 1 "_law_due" ["_law_kind", "_law_names_here", "_law_some", "_law_table"] (spDue K) := k_law_due T
  refine F.ok sc_law (fun vs H Q E h => ?_) (fun cdv A outer s H vs Q E hr h => ?_)
  · obtain ⟨a, ns, rfl, _⟩ := h
    rfl
  · obtain ⟨a, ns, rfl, hS, hl, hT, q⟩ := h
    have hcl : ∀ x, (cxOf CX0 P w K mg base Nlaw "law" (defScope s_law) f cdv A outer s H E).nox.env.scope.names.lookup x = some .cell → ∃ c, (cxOf CX0 P w K mg base Nlaw "law" (defScope s_law) f cdv A outer s H E).nox.env.cells.lookup x = some c := fun x hx => Option.isSome_iff_exists.mp (PySem.W.cellsFrom_some _ _ _ (.inl hx))
    refine ⟨_, (pss_cons (ps_set (i := 1) sc_law.nd rfl (by first | exact Or.inl rfl | exact Or.inr rfl) (pe_callN G_law_names (hr.mono (by decide)) pass0 (pa_cons (pv 0) (pa_cons pe_int pa_nil))))
      (pss_cons (ps_for PassesOwn.never rfl (pi_range1 rfl T.range (pa_cons pe_int pa_nil)) (pg_name (i := 2) sc_law.nd rfl (by first | exact Or.inl rfl | exact Or.inr rfl)) (pss_cons (ps_set (i := 3) sc_law.nd rfl (by first | exact Or.inl rfl | exact Or.inr rfl) (pe_op op_add (pe_op op_mul pe_int (pv 2)) pe_int))
      (pss_cons (ps_set (i := 4) sc_law.nd rfl (by first | exact Or.inl rfl | exact Or.inr rfl) (pe_callN G_law_drawn (hr.mono (by decide)) pass0 (pa_cons (pv 0) (pa_cons (pv 3) (pa_cons pe_int pa_nil)))))
      (pss_cons (ps_setComp (te := tOp (rIxL K) (tVar 1) _) (i := 5) sc_law.nd rfl rfl (caps_of (sc := defScope s_law) (N := Nlaw) (cp := [(1, "_law_words"), (0, "_law_script"), (3, "_law_at")]) hcl) rfl rfl (by decide) (pi_range1 rfl T.range (pa_cons pe_int pa_nil)) (fun _ _ _ _ _ => pts_nil) (fun _ _ _ _ _ => (pe_ix ix_list (pv 1) (pe_op op_add pe_int (pe_callN G_law_drawn (hr.mono (by decide)) pass0 (pa_cons (pv 2) (pa_cons (pe_op op_add (pe_op op_add (pv 3) pe_int) (pv 0)) (pa_cons pe_int pa_nil))))) (fun _ _ => rfl))) rfl)
      (pss_cons (ps_setComp (te := tOp (rIxL K) (tVar 1) _) (i := 6) sc_law.nd rfl rfl (caps_of (sc := defScope s_law) (N := Nlaw) (cp := [(1, "_law_words"), (0, "_law_script"), (3, "_law_at")]) hcl) rfl rfl (by decide) (pi_range1 rfl T.range (pa_cons pe_int pa_nil)) (fun _ _ _ _ _ => pts_nil) (fun _ _ _ _ _ => (pe_ix ix_list (pv 1) (pe_callN G_law_drawn (hr.mono (by decide)) pass0 (pa_cons (pv 2) (pa_cons (pe_op op_add (pe_op op_add (pv 3) pe_int) (pv 0)) (pa_cons pe_int pa_nil)))) (fun _ _ => rfl))) rfl)
      (pss_cons (ps_if (pt_cmpR op_eq (pv 4) pe_int (nomark _)) (pss_one (ps_asg (pe_ix ix_list (pv 1) (pe_op op_add pe_int (pe_callN G_law_drawn (hr.mono (by decide)) pass0 (pa_cons (pv 0) (pa_cons (pe_op op_add (pv 3) pe_int) (pa_cons pe_int pa_nil))))) (fun _ _ => rfl)) (pg_sub (pv 6) pe_int set_list (fun _ => rfl)))) pss_nil)
      (pss_cons (ps_setComp (te := tOp (rIxL K) (tVar 1) _) (i := 7) sc_law.nd rfl rfl (caps_of (sc := defScope s_law) (N := Nlaw) (cp := [(1, "_law_words"), (0, "_law_script"), (3, "_law_at")]) hcl) rfl rfl (by decide) (pi_range1 rfl T.range (pa_cons (pe_callN G_law_drawn (hr.mono (by decide)) pass0 (pa_cons (pv 0) (pa_cons (pe_op op_add (pv 3) pe_int) (pa_cons pe_int pa_nil)))) pa_nil)) (fun _ _ _ _ _ => pts_nil) (fun _ _ _ _ _ => (pe_ix ix_list (pv 1) (pe_callN G_law_drawn (hr.mono (by decide)) pass0 (pa_cons (pv 2) (pa_cons (pe_op op_add (pe_op op_add (pv 3) pe_int) (pv 0)) (pa_cons pe_int pa_nil)))) (fun _ _ => rfl))) rfl)
      (pss_cons (ps_set (i := 8) sc_law.nd rfl (by first | exact Or.inl rfl | exact Or.inr rfl) (pe_callTy call_list_of rfl T.list b_list (pa_cons (pv 7) pa_nil)))
      (pss_cons (ps_set (i := 9) sc_law.nd rfl (by first | exact Or.inl rfl | exact Or.inr rfl) (pe_callN G_law_made (hr.mono (by decide)) pass0 (pa_cons (pv 4) (pa_cons (pv 6) (pa_cons (pv 8) pa_nil)))))
      (pss_cons (ps_expr (pe_bm0 PySem.F.plainAttrs_list PySem.F.slot_list_clear PySem.F.type_list_clear mt_clear (pv 8)))
      (pss_one (ps_for PassesOwn.never rfl (pi_list (pe_op op_cat (pv 5) (pe_slice sl_list (pv 5) po_none (po_some pe_int)))) (pg_name (i := 10) sc_law.nd rfl (by first | exact Or.inl rfl | exact Or.inr rfl)) (pss_cons (ps_set (i := 11) sc_law.nd rfl (by first | exact Or.inl rfl | exact Or.inr rfl) (pe_methD (pv 9) (leansR_ok T) (hr.mono (by decide)) pass0 (pa_cons (pv 10) pa_nil)))
      (pss_cons (ps_if (pt_not (pt_val (pe_callN G_law_right (hr.mono (by decide)) pass0 (pa_cons (pv 11) (pa_cons (pe_callN G_law_due (hr.mono (by decide)) pass0 (pa_cons (pv 4) (pa_cons (pv 6) (pa_cons (pv 7) (pa_cons (pv 10) pa_nil))))) pa_nil))) (fun _ => rfl))) (pss_one (ps_ret pe_bl)) pss_nil)
      (pss_one (ps_expr (pe_bm PySem.F.plainAttrs_list PySem.F.slot_list_append PySem.F.type_list_append mt_append (pv 11) (pa_cons (pe_tup (pa_cons (pv 10) (pa_cons pe_str pa_nil))) pa_nil))))))))))))))))))
      (pss_one (ps_ret pe_bl)))), ?_⟩
    refine ⟨_, rfl, a, ns, 7, rfl, hS, hl, by decide, fun H0 wd zs7 s0 hw hw0 hw7 hwz _ => ?_⟩
    have hS0 : SqL K H0 a (ns.map V.int) := s0.seq hS
    have hT0 : TabsIn [z] H0 := fun y hy => s0 _ _ (hT y hy)
    refine ⟨8, rfl, by decide, by decide, ?_⟩
    refine for_range (lo := 0) (n := 8) (fun i σ H2 => ∃ o2 o3 o4 o5 o6 o7 o8 o9 o10 o11, σ = [some (.ref a), some (.ref wd), o2, o3, o4, o5, o6, o7, o8, o9, o10, o11] ∧ Same H0 H2) ⟨_, _, _, _, _, _, _, _, _, _, rfl, Same.refl H0⟩ ?_ ?_
    · rintro i σ H2 hi ⟨o2, o3, o4, o5, o6, o7, o8, o9, o10, o11, rfl, s2⟩
      have hA0 : (0 : Int) ≤ 30 * (0 + (i : Int)) + 20 := by omega
      have hA1 : 30 * (0 + (i : Int)) + 20 ≤ 1000 := by omega
      refine ⟨_, rfl, _, _, rfl, rfl, .inl ⟨by decide, by decide⟩, _, _, rfl, rfl, ?_⟩
      have k0 := drawZ_nn ns (30 * (0 + (i : Int)) + 20) (show (0 : Int) < 5 by decide)
      have k1 := drawZ_lt ns (30 * (0 + (i : Int)) + 20) (show (0 : Int) < 5 by decide)
      refine ⟨_, rfl, _, rfl, a, ns, _, 5, rfl, s2.seq hS0, hl, by omega, by omega, by decide, ?_⟩
      refine ⟨2, rfl, by decide, by decide, fun D5 hD5 => ?_⟩
      refine comp_names (n := 2) hD5 (by decide) (fun j H3 q3 hj s3 kq => ?_) fun tb H3 h35 s3 htb2 htb => ?_
      · have b0 := drawZ_nn ns ((30 * (0 + (i : Int)) + 20) + 1 + (0 + (j : Int))) (show (0 : Int) < 3 by decide)
        have b1 := drawZ_lt ns ((30 * (0 + (i : Int)) + 20) + 1 + (0 + (j : Int))) (show (0 : Int) < 3 by decide)
        obtain ⟨zz, hat, hN⟩ := word_at hw7 hwz (4 + drawZ ns ((30 * (0 + (i : Int)) + 20) + 1 + (0 + (j : Int))) 3) (by omega) (by omega)
        exact ⟨_, rfl, _, rfl, _, rfl, _, _, rfl, rfl, _, rfl, _, _, rfl, rfl, a, ns, _, 3, rfl, (s2.trans s3).seq hS0, hl, by omega, by omega, by decide, _, _, rfl, rfl, wd, _, _, _, rfl, rfl, SqL.of ((s2.trans s3) _ _ hw), hat, kq zz hN⟩
      have s03 := s2.trans s3
      refine ⟨3, rfl, by decide, by decide, fun D6 hD6 => ?_⟩
      refine comp_names (n := 3) hD6 (by decide) (fun j H4 q3 hj s4 kq => ?_) fun nm H4 h46 s4 hnm3 hnm => ?_
      · have b0 := drawZ_nn ns ((30 * (0 + (i : Int)) + 20) + 4 + (0 + (j : Int))) (show (0 : Int) < 4 by decide)
        have b1 := drawZ_lt ns ((30 * (0 + (i : Int)) + 20) + 4 + (0 + (j : Int))) (show (0 : Int) < 4 by decide)
        obtain ⟨zz, hat, hN⟩ := word_at hw7 hwz (drawZ ns ((30 * (0 + (i : Int)) + 20) + 4 + (0 + (j : Int))) 4) (by omega) (by omega)
        exact ⟨_, rfl, _, rfl, _, rfl, _, _, rfl, rfl, _, rfl, _, _, rfl, rfl, a, ns, _, 4, rfl, (s03.trans s4).seq hS0, hl, by omega, by omega, by decide, wd, _, _, _, rfl, rfl, SqL.of ((s03.trans s4) _ _ hw), hat, kq zz hN⟩
      have s04 := s03.trans s4
      obtain ⟨n0, n1, n2, rfl⟩ := three hnm3
      have hn0 : Nl n0 := hnm n0 (by simp)
      have hn1 : Nl n1 := hnm n1 (by simp)
      have hn2 : Nl n2 := hnm n2 (by simp)
      have h06 : H0 D6 = none := none_back s03 hD6
      have d56 : D5 ≠ D6 := ne_of_none h35 hD6
      refine ⟨_, rfl, rfl, _, rfl, ?_⟩
      refine cutN (fun H5 => ∃ m1, Nl m1 ∧ H5 D6 = some (.lst [.str n0, .str m1, .str n2]) ∧ H5 D5 = some (.lst (tb.map V.str)) ∧ Same H0 H5) ?h (fun tl => ite2 (fun g => ?_) (fun g => tl H4 ⟨n1, hn1, h46, s4 _ _ h35, s04⟩))
      · rintro H5 ⟨m1, hm1, h56, h55, s05⟩
        have c0 := drawZ_nn ns ((30 * (0 + (i : Int)) + 20) + 9) (show (0 : Int) < 7 by decide)
        have c1 := drawZ_lt ns ((30 * (0 + (i : Int)) + 20) + 9) (show (0 : Int) < 7 by decide)
        obtain ⟨n7, en7, hn7⟩ : ∃ n7 : Nat, drawZ ns ((30 * (0 + (i : Int)) + 20) + 9) 7 = (n7 : Int) ∧ n7 ≤ 6 := ⟨(drawZ ns ((30 * (0 + (i : Int)) + 20) + 9) 7).toNat, by omega, by omega⟩
        refine ⟨_, rfl, _, rfl, _, _, rfl, rfl, a, ns, _, 7, rfl, s05.seq hS0, hl, by omega, by omega, by decide, _, rfl, by omega, by omega, fun D7 hD7 => ?_⟩
        rw [en7, Int.toNat_natCast]
        refine comp_names (n := n7) hD7 (by omega) (fun j H6 q3 hj s6 kq => ?_) fun zs H6 h67 s6 hzl hzs => ?_
        · have b0 := drawZ_nn ns ((30 * (0 + (i : Int)) + 20) + 10 + (0 + (j : Int))) (show (0 : Int) < 4 by decide)
          have b1 := drawZ_lt ns ((30 * (0 + (i : Int)) + 20) + 10 + (0 + (j : Int))) (show (0 : Int) < 4 by decide)
          obtain ⟨zz, hat, hN⟩ := word_at hw7 hwz (drawZ ns ((30 * (0 + (i : Int)) + 20) + 10 + (0 + (j : Int))) 4) (by omega) (by omega)
          exact ⟨_, rfl, _, rfl, _, rfl, _, _, rfl, rfl, _, rfl, _, _, rfl, rfl, a, ns, _, 4, rfl, (s05.trans s6).seq hS0, hl, by omega, by omega, by decide, wd, _, _, _, rfl, rfl, SqL.of ((s05.trans s6) _ _ hw), hat, kq zz hN⟩
        have s06 := s05.trans s6
        refine ⟨_, rfl, D7, _, rfl, .inl (SqL.of h67), fun D8 hD8 => ?_⟩
        have s8 := Same.new (o := .lst (zs.map V.str)) hD8
        have s08 := s06.trans s8
        refine ⟨_, rfl, _, rfl, _, rfl, _, D6, D8, n0, m1, n2, zs, rfl, k0, k1, s8 _ _ (s6 _ _ h56), upd_same, by omega, hn0, hm1, hn2, hzs, s08 _ _ (hT0 z (by simp)), fun H9 p s9 hp9 hR => ?_⟩
        have s09 := s08.trans s9
        have h9D8 := s9 _ _ (upd_same (H := H6) (a := D8) (o := .lst (zs.map V.str)))
        refine ⟨_, rfl, .inl ⟨rfl, _, SqL.of h9D8⟩, D8, _, rfl, rfl, h9D8, ?_⟩
        have hRA := hR.at (o := .lst []) hp9 (upd_same (H := H6) (a := D8) (o := .lst (zs.map V.str)))
        have sA : Same H0 (upd H9 D8 (.lst [])) := s09.on (none_back s06 hD8)
        have n58 : D5 ≠ D8 := ne_of_none (s6 _ _ h55) hD8
        have n68 : D6 ≠ D8 := ne_of_none (s6 _ _ h56) hD8
        have n78 : D7 ≠ D8 := ne_of_none h67 hD8
        have hA5 : upd H9 D8 (.lst []) D5 = some (.lst (tb.map V.str)) := by rw [upd_ne n58]; exact s9 _ _ (s8 _ _ (s6 _ _ h55))
        have hA6 : upd H9 D8 (.lst []) D6 = some (.lst [.str n0, .str m1, .str n2]) := by rw [upd_ne n68]; exact s9 _ _ (s8 _ _ (s6 _ _ h56))
        have hA7 : upd H9 D8 (.lst []) D7 = some (.lst (zs.map V.str)) := by rw [upd_ne n78]; exact s9 _ _ (s8 _ _ h67)
        generalize upd H9 D8 (.lst []) = HA at hRA sA hA5 hA6 hA7 ⊢
        refine ⟨_, rfl, _, rfl, 1, rfl, D5, _, rfl, SqL.of hA5, fun c hc => ?_⟩
        have sB := Same.new (o := .lst (cutV (tb.map V.str) none (some 1))) hc
        refine ⟨D5, c, _, _, rfl, rfl, sB _ _ hA5, upd_same, ?_, fun l hl' => ?_⟩
        · have := cutV_length (tb.map V.str) none (some 1)
          rw [List.length_map] at this ⊢
          exact sl (by omega)
        have sC := Same.new (o := .lst (tb.map V.str ++ cutV (tb.map V.str) none (some 1))) hl'
        have sBC := sB.trans sC
        refine ⟨l, rfl, ⟨_, SqL.of upd_same⟩, ?_⟩
        have hall : ∀ x ∈ tb.map V.str ++ cutV (tb.map V.str) none (some 1), ∃ t, x = .str t ∧ Nl t := fun x hx => by
          have hx' : x ∈ tb.map V.str := (List.mem_append.mp hx).elim id cut_mem
          obtain ⟨t, ht, rfl⟩ := List.mem_map.mp hx'
          exact ⟨t, rfl, htb t ht⟩
        have hl1 := upd_same (H := upd HA c (.lst (cutV (tb.map V.str) none (some 1)))) (a := l) (o := .lst (tb.map V.str ++ cutV (tb.map V.str) none (some 1)))
        generalize upd (upd HA c (.lst (cutV (tb.map V.str) none (some 1)))) l (.lst (tb.map V.str ++ cutV (tb.map V.str) none (some 1))) = HB at sC sBC hl1 ⊢
        have sHB := sA.trans sBC
        refine for_list (K := K) (a := l) (xs := tb.map V.str ++ cutV (tb.map V.str) none (some 1)) (fun i' σ H2 => ∃ o10 o11, σ = [some (.ref a), some (.ref wd), some (.int (0 + (i : Int))), some (.int (30 * (0 + (i : Int)) + 20)), some (.int (drawZ ns (30 * (0 + (i : Int)) + 20) 5)), some (.ref D5), some (.ref D6), some (.ref D7), some (.ref D8), some (.ref p), o10, o11] ∧ Same HB H2) ⟨_, _, rfl, Same.refl HB⟩ (fun i' σ H2 _ ⟨_, _, _, s⟩ => SqL.of (s _ _ hl1)) ?_ ?_
        · rintro i' x σ H2 hx ⟨o10, o11, rfl, s2⟩
          obtain ⟨t, rfl, ht⟩ := hall x (List.mem_of_getElem? hx)
          have sA2 := sBC.trans s2
          obtain ⟨C, sp, dx, fs, hLR, e1, e2, go⟩ := leans_go (E := E0) (hRA.same sA2) (by omega) ht hn0
          refine ⟨_, rfl, C, sp, p, dx, fs, hLR, rfl, e1, e2, _, rfl, go _ fun H3 lf ys s3 hlf hF hSp => ?_⟩
          have sA3 := sA2.trans s3
          refine ⟨_, rfl, _, rfl, _, rfl, _, rfl, _, rfl, _, D6, D7, n0, m1, n2, t, zs, rfl, k0, sA3 _ _ hA6, sA3 _ _ hA7, by omega, ht, hn0, hm1, hn2, hzs, fun H4 m xs s4 hm hM hSx => ?_⟩
          refine ⟨lf, m, ys, xs, _, rfl, s4 _ _ hF, hM, Spots.same s4 hSp, hSx, due_len (by omega), fun H5 s5 => ⟨_, rfl, iteF ?_⟩⟩
          have h5F := s5 _ _ (s4 _ _ hF)
          have hyl : ys.length ≤ 100 := by
            have h1 := hSp.1.length
            have h2 := onceOf_le (dueOf (drawZ ns (30 * (0 + (i : Int)) + 20) 5) n0 m1 n2 zs t)
            have h3 := due_len (kind := drawZ ns (30 * (0 + (i : Int)) + 20) 5) (a := n0) (b := m1) (c := n2) (t := t) (zs := zs) (by omega)
            rw [List.length_map] at h1
            omega
          refine ⟨_, rfl, .inl ⟨rfl, _, SqL.of h5F⟩, _, rfl, sl, fun tp htp => ?_⟩
          have s6' := Same.new (o := .tup [.str t, .str "a"]) htp
          refine ⟨lf, _, _, rfl, rfl, s6' _ _ h5F, small1000 (by omega), ?_⟩
          exact ⟨_, _, rfl, (((s2.trans s3).trans s4).trans (s5.trans s6')).on (none_back s2 hlf)⟩
        · rintro σ H2 ⟨o10, o11, rfl, s2⟩
          exact ⟨_, _, _, _, _, _, _, _, _, _, rfl, sHB.trans s2⟩
      · have b0 := drawZ_nn ns ((30 * (0 + (i : Int)) + 20) + 8) (show (0 : Int) < 3 by decide)
        have b1 := drawZ_lt ns ((30 * (0 + (i : Int)) + 20) + 8) (show (0 : Int) < 3 by decide)
        obtain ⟨zz, hat, hN⟩ := word_at hw7 hwz (4 + drawZ ns ((30 * (0 + (i : Int)) + 20) + 8) 3) (by omega) (by omega)
        refine ⟨_, rfl, _, rfl, _, rfl, _, _, rfl, rfl, a, ns, _, 3, rfl, s04.seq hS0, hl, by omega, by omega, by decide, _, _, rfl, rfl, wd, _, _, _, rfl, rfl, SqL.of (s04 _ _ hw), hat, ?_⟩
        exact ⟨_, rfl, D6, _, 1, 1, rfl, rfl, h46, rfl, tl _ ⟨zz, hN, upd_same, by rw [upd_ne d56]; exact s4 _ _ h35, s04.on h06⟩⟩
    · rintro σ H2 ⟨o2, o3, o4, o5, o6, o7, o8, o9, o10, o11, rfl, s2⟩
      exact q H2 fun y hy => s2 _ _ (hT0 y hy)
end
end My

namespace My
open PySem L2
theorem tops_mk {K : PySem.W.Frag} {h : Heap} {mg : Str → Option Value} (X : K.In h) (G : h.Ns mainGlobals mg)
    (n_len : PySem.W.nsIn K mainGlobals "len" = some none)
    (n_isinstance : PySem.W.nsIn K mainGlobals "isinstance" = some none)
    (n_int : PySem.W.nsIn K mainGlobals "int" = some none)
    (n_bool : PySem.W.nsIn K mainGlobals "bool" = some none)
    (n_str : PySem.W.nsIn K mainGlobals "str" = some none)
    (n_all : PySem.W.nsIn K mainGlobals "all" = some none)
    (n_range : PySem.W.nsIn K mainGlobals "range" = some none)
    (n_abs : PySem.W.nsIn K mainGlobals "abs" = some none)
    (n_list : PySem.W.nsIn K mainGlobals "list" = some none)
    (n_tuple : PySem.W.nsIn K mainGlobals "tuple" = some none)
    (n_ValueError : PySem.W.nsIn K mainGlobals "ValueError" = some none)
    {t_LETTERS : Tok} (i_LETTERS : PySem.W.nsIn K mainGlobals "LETTERS" = some (some (.str ("abcdefghijklmnopqrstuvwxyz" : Str) t_LETTERS)))
    {t_MOST_LETTERS : Tok} (i_MOST_LETTERS : PySem.W.nsIn K mainGlobals "MOST_LETTERS" = some (some (.int 8 t_MOST_LETTERS)))
    {t_MOST_NAMES : Tok} (i_MOST_NAMES : PySem.W.nsIn K mainGlobals "MOST_NAMES" = some (some (.int 6 t_MOST_NAMES)))
    {f_is_whole : Addr} {oc_is_whole kV_is_whole doc_is_whole pm_is_whole ct_is_whole : Value} {cd_is_whole : Value} {od_is_whole an_is_whole : Option Addr} {sl_is_whole : Array (Option Value)} (a_is_whole : PySem.W.nsIn K mainGlobals "is_whole" = some (some (.ref f_is_whole)))
    (l_is_whole : K.lookup f_is_whole = some ⟨oc_is_whole, od_is_whole, .func (PySem.W.fnOf "is_whole" "is_whole" (defArgs s_is_whole) (defBody s_is_whole) (defScope s_is_whole) .none kV_is_whole doc_is_whole pm_is_whole an_is_whole cd_is_whole ct_is_whole), sl_is_whole⟩)
    (c_is_whole : PySem.W.codeIn K cd_is_whole "is_whole" = true) (k_is_whole : PySem.W.keepIn K (.ref f_is_whole) = true)
    {f_is_number : Addr} {oc_is_number kV_is_number doc_is_number pm_is_number ct_is_number : Value} {cd_is_number : Value} {od_is_number an_is_number : Option Addr} {sl_is_number : Array (Option Value)} (a_is_number : PySem.W.nsIn K mainGlobals "is_number" = some (some (.ref f_is_number)))
    (l_is_number : K.lookup f_is_number = some ⟨oc_is_number, od_is_number, .func (PySem.W.fnOf "is_number" "is_number" (defArgs s_is_number) (defBody s_is_number) (defScope s_is_number) .none kV_is_number doc_is_number pm_is_number an_is_number cd_is_number ct_is_number), sl_is_number⟩)
    (c_is_number : PySem.W.codeIn K cd_is_number "is_number" = true) (k_is_number : PySem.W.keepIn K (.ref f_is_number) = true)
    {f_is_name : Addr} {oc_is_name kV_is_name doc_is_name pm_is_name ct_is_name : Value} {cd_is_name : Value} {od_is_name an_is_name : Option Addr} {sl_is_name : Array (Option Value)} (a_is_name : PySem.W.nsIn K mainGlobals "is_name" = some (some (.ref f_is_name)))
    (l_is_name : K.lookup f_is_name = some ⟨oc_is_name, od_is_name, .func (PySem.W.fnOf "is_name" "is_name" (defArgs s_is_name) (defBody s_is_name) (defScope s_is_name) .none kV_is_name doc_is_name pm_is_name an_is_name cd_is_name ct_is_name), sl_is_name⟩)
    (c_is_name : PySem.W.codeIn K cd_is_name "is_name" = true) (k_is_name : PySem.W.keepIn K (.ref f_is_name) = true)
    {f_check_name : Addr} {oc_check_name kV_check_name doc_check_name pm_check_name ct_check_name : Value} {cd_check_name : Value} {od_check_name an_check_name : Option Addr} {sl_check_name : Array (Option Value)} (a_check_name : PySem.W.nsIn K mainGlobals "check_name" = some (some (.ref f_check_name)))
    (l_check_name : K.lookup f_check_name = some ⟨oc_check_name, od_check_name, .func (PySem.W.fnOf "check_name" "check_name" (defArgs s_check_name) (defBody s_check_name) (defScope s_check_name) .none kV_check_name doc_check_name pm_check_name an_check_name cd_check_name ct_check_name), sl_check_name⟩)
    (c_check_name : PySem.W.codeIn K cd_check_name "check_name" = true) (k_check_name : PySem.W.keepIn K (.ref f_check_name) = true)
    {f_checked_names : Addr} {oc_checked_names kV_checked_names doc_checked_names pm_checked_names ct_checked_names : Value} {cd_checked_names : Value} {od_checked_names an_checked_names : Option Addr} {sl_checked_names : Array (Option Value)} (a_checked_names : PySem.W.nsIn K mainGlobals "checked_names" = some (some (.ref f_checked_names)))
    (l_checked_names : K.lookup f_checked_names = some ⟨oc_checked_names, od_checked_names, .func (PySem.W.fnOf "checked_names" "checked_names" (defArgs s_checked_names) (defBody s_checked_names) (defScope s_checked_names) .none kV_checked_names doc_checked_names pm_checked_names an_checked_names cd_checked_names ct_checked_names), sl_checked_names⟩)
    (c_checked_names : PySem.W.codeIn K cd_checked_names "checked_names" = true) (k_checked_names : PySem.W.keepIn K (.ref f_checked_names) = true)
    {f_each_once : Addr} {oc_each_once kV_each_once doc_each_once pm_each_once ct_each_once : Value} {cd_each_once : Value} {od_each_once an_each_once : Option Addr} {sl_each_once : Array (Option Value)} (a_each_once : PySem.W.nsIn K mainGlobals "each_once" = some (some (.ref f_each_once)))
    (l_each_once : K.lookup f_each_once = some ⟨oc_each_once, od_each_once, .func (PySem.W.fnOf "each_once" "each_once" (defArgs s_each_once) (defBody s_each_once) (defScope s_each_once) .none kV_each_once doc_each_once pm_each_once an_each_once cd_each_once ct_each_once), sl_each_once⟩)
    (c_each_once : PySem.W.codeIn K cd_each_once "each_once" = true) (k_each_once : PySem.W.keepIn K (.ref f_each_once) = true)
    {f_law_drawn : Addr} {oc_law_drawn kV_law_drawn doc_law_drawn pm_law_drawn ct_law_drawn : Value} {cd_law_drawn : Value} {od_law_drawn an_law_drawn : Option Addr} {sl_law_drawn : Array (Option Value)} (a_law_drawn : PySem.W.nsIn K mainGlobals "_law_drawn" = some (some (.ref f_law_drawn)))
    (l_law_drawn : K.lookup f_law_drawn = some ⟨oc_law_drawn, od_law_drawn, .func (PySem.W.fnOf "_law_drawn" "_law_drawn" (defArgs s_law_drawn) (defBody s_law_drawn) (defScope s_law_drawn) .none kV_law_drawn doc_law_drawn pm_law_drawn an_law_drawn cd_law_drawn ct_law_drawn), sl_law_drawn⟩)
    (c_law_drawn : PySem.W.codeIn K cd_law_drawn "_law_drawn" = true) (k_law_drawn : PySem.W.keepIn K (.ref f_law_drawn) = true)
    {f_law_names : Addr} {oc_law_names kV_law_names doc_law_names pm_law_names ct_law_names : Value} {cd_law_names : Value} {od_law_names an_law_names : Option Addr} {sl_law_names : Array (Option Value)} (a_law_names : PySem.W.nsIn K mainGlobals "_law_names" = some (some (.ref f_law_names)))
    (l_law_names : K.lookup f_law_names = some ⟨oc_law_names, od_law_names, .func (PySem.W.fnOf "_law_names" "_law_names" (defArgs s_law_names) (defBody s_law_names) (defScope s_law_names) .none kV_law_names doc_law_names pm_law_names an_law_names cd_law_names ct_law_names), sl_law_names⟩)
    (c_law_names : PySem.W.codeIn K cd_law_names "_law_names" = true) (k_law_names : PySem.W.keepIn K (.ref f_law_names) = true)
    {f_law_due : Addr} {oc_law_due kV_law_due doc_law_due pm_law_due ct_law_due : Value} {cd_law_due : Value} {od_law_due an_law_due : Option Addr} {sl_law_due : Array (Option Value)} (a_law_due : PySem.W.nsIn K mainGlobals "_law_due" = some (some (.ref f_law_due)))
    (l_law_due : K.lookup f_law_due = some ⟨oc_law_due, od_law_due, .func (PySem.W.fnOf "_law_due" "_law_due" (defArgs s_law_due) (defBody s_law_due) (defScope s_law_due) .none kV_law_due doc_law_due pm_law_due an_law_due cd_law_due ct_law_due), sl_law_due⟩)
    (c_law_due : PySem.W.codeIn K cd_law_due "_law_due" = true) (k_law_due : PySem.W.keepIn K (.ref f_law_due) = true)
    {f_law_made : Addr} {oc_law_made kV_law_made doc_law_made pm_law_made ct_law_made : Value} {cc_law_made : Addr} {od_law_made an_law_made : Option Addr} {sl_law_made : Array (Option Value)} (a_law_made : PySem.W.nsIn K mainGlobals "_law_made" = some (some (.ref f_law_made)))
    (l_law_made : K.lookup f_law_made = some ⟨oc_law_made, od_law_made, .func (PySem.W.fnOf "_law_made" "_law_made" (defArgs s_law_made) (defBody s_law_made) (defScope s_law_made) .none kV_law_made doc_law_made pm_law_made an_law_made (.ref cc_law_made) ct_law_made), sl_law_made⟩)
    (c_law_made : PySem.W.codeIn K (.ref cc_law_made) "_law_made" = true) (k_law_made : PySem.W.keepIn K (.ref f_law_made) = true)
    {wo_law_made : Value} {wd_law_made : Option Addr} {wv_law_made : Array Value} {ws_law_made : Array (Option Value)} {p_law_made : Addr} (w_law_made : K.lookup cc_law_made = some ⟨wo_law_made, wd_law_made, .fields wv_law_made, ws_law_made⟩) (t_law_made : wv_law_made[11]? = some (.ref p_law_made))
    {f_law_right : Addr} {oc_law_right kV_law_right doc_law_right pm_law_right ct_law_right : Value} {cd_law_right : Value} {od_law_right an_law_right : Option Addr} {sl_law_right : Array (Option Value)} (a_law_right : PySem.W.nsIn K mainGlobals "_law_right" = some (some (.ref f_law_right)))
    (l_law_right : K.lookup f_law_right = some ⟨oc_law_right, od_law_right, .func (PySem.W.fnOf "_law_right" "_law_right" (defArgs s_law_right) (defBody s_law_right) (defScope s_law_right) .none kV_law_right doc_law_right pm_law_right an_law_right cd_law_right ct_law_right), sl_law_right⟩)
    (c_law_right : PySem.W.codeIn K cd_law_right "_law_right" = true) (k_law_right : PySem.W.keepIn K (.ref f_law_right) = true)
    {f_law : Addr} {oc_law kV_law doc_law pm_law ct_law : Value} {cd_law : Value} {od_law an_law : Option Addr} {sl_law : Array (Option Value)} (a_law : PySem.W.nsIn K mainGlobals "law" = some (some (.ref f_law)))
    (l_law : K.lookup f_law = some ⟨oc_law, od_law, .func (PySem.W.fnOf "law" "law" (defArgs s_law) (defBody s_law) (defScope s_law) .none kV_law doc_law pm_law an_law cd_law ct_law), sl_law⟩)
    (c_law : PySem.W.codeIn K cd_law "law" = true) (k_law : PySem.W.keepIn K (.ref f_law) = true)
    (notabs : PySem.W.noTabs K = true)
    {C_Rule : Addr} (a_Rule : PySem.W.nsIn K mainGlobals "Rule" = some (some (.ref C_Rule)))
    (pg_Rule : PySem.W.plainGet K C_Rule Str.empty = true) (hd_Rule : PySem.W.hasDictIn K C_Rule = true) (po_Rule : PySem.W.plainOver K C_Rule = true) (sa_Rule : PySem.W.findIn K (.ref C_Rule) "__setattr__" = some (some (.builtin "object.__setattr__"))) (mk_Rule : PySem.W.makesIn K C_Rule = true) (kc_Rule : PySem.W.keepIn K (.ref C_Rule) = true) (hc_Rule : PySem.W.findIn K (.ref C_Rule) "__class__" = some (some (.builtin "object.__class__")))
    (na_Rule_function : PySem.W.findIn K (.ref C_Rule) "function" = some none)
    {f_Rule_init : Addr} {oc_Rule_init kV_Rule_init doc_Rule_init pm_Rule_init cd_Rule_init ct_Rule_init : Value} {od_Rule_init an_Rule_init : Option Addr} {sl_Rule_init : Array (Option Value)} (a_Rule_init : PySem.W.findIn K (.ref C_Rule) "__init__" = some (some (.ref f_Rule_init))) (j_Rule_init : PySem.W.isFn K (.ref f_Rule_init) = true)
    (l_Rule_init : K.lookup f_Rule_init = some ⟨oc_Rule_init, od_Rule_init, .func (PySem.W.fnOf "__init__" "Rule.__init__" (defArgs s_Rule_init) (defBody s_Rule_init) (defScope s_Rule_init) .none kV_Rule_init doc_Rule_init pm_Rule_init an_Rule_init cd_Rule_init ct_Rule_init), sl_Rule_init⟩)
    (c_Rule_init : PySem.W.codeIn K cd_Rule_init "Rule.__init__" = true) (k_Rule_init : PySem.W.keepIn K (.ref f_Rule_init) = true)
    (vg_Rule_init : PySem.W.specialIn K (.ref C_Rule) "__getattribute__" = some (some (.builtin "type.__getattribute__"))) (vr_Rule_init : PySem.W.readsIn K C_Rule (.type "type") = true) (vf_Rule_init : PySem.W.findCls K (.ref C_Rule) (.type "type") "__init__" = some (.val (.ref f_Rule_init)))
    {C_Cells : Addr} (a_Cells : PySem.W.nsIn K mainGlobals "Cells" = some (some (.ref C_Cells)))
    (pg_Cells : PySem.W.plainGet K C_Cells Str.empty = true) (hd_Cells : PySem.W.hasDictIn K C_Cells = true) (po_Cells : PySem.W.plainOver K C_Cells = true) (sa_Cells : PySem.W.findIn K (.ref C_Cells) "__setattr__" = some (some (.builtin "object.__setattr__"))) (mk_Cells : PySem.W.makesIn K C_Cells = true) (kc_Cells : PySem.W.keepIn K (.ref C_Cells) = true) (hc_Cells : PySem.W.findIn K (.ref C_Cells) "__class__" = some (some (.builtin "object.__class__")))
    (na_Cells_function : PySem.W.findIn K (.ref C_Cells) "function" = some none)
    (na_Cells_names : PySem.W.findIn K (.ref C_Cells) "names" = some none)
    {f_Cells_init : Addr} {oc_Cells_init kV_Cells_init doc_Cells_init pm_Cells_init cd_Cells_init ct_Cells_init : Value} {od_Cells_init an_Cells_init : Option Addr} {sl_Cells_init : Array (Option Value)} (a_Cells_init : PySem.W.findIn K (.ref C_Cells) "__init__" = some (some (.ref f_Cells_init))) (j_Cells_init : PySem.W.isFn K (.ref f_Cells_init) = true)
    (l_Cells_init : K.lookup f_Cells_init = some ⟨oc_Cells_init, od_Cells_init, .func (PySem.W.fnOf "__init__" "Cells.__init__" (defArgs s_Cells_init) (defBody s_Cells_init) (defScope s_Cells_init) .none kV_Cells_init doc_Cells_init pm_Cells_init an_Cells_init cd_Cells_init ct_Cells_init), sl_Cells_init⟩)
    (c_Cells_init : PySem.W.codeIn K cd_Cells_init "Cells.__init__" = true) (k_Cells_init : PySem.W.keepIn K (.ref f_Cells_init) = true)
    {f_Cells_leans : Addr} {oc_Cells_leans kV_Cells_leans doc_Cells_leans pm_Cells_leans cd_Cells_leans ct_Cells_leans : Value} {od_Cells_leans an_Cells_leans : Option Addr} {sl_Cells_leans : Array (Option Value)} (a_Cells_leans : PySem.W.findIn K (.ref C_Cells) "leans" = some (some (.ref f_Cells_leans))) (j_Cells_leans : PySem.W.isFn K (.ref f_Cells_leans) = true)
    (l_Cells_leans : K.lookup f_Cells_leans = some ⟨oc_Cells_leans, od_Cells_leans, .func (PySem.W.fnOf "leans" "Cells.leans" (defArgs s_Cells_leans) (defBody s_Cells_leans) (defScope s_Cells_leans) .none kV_Cells_leans doc_Cells_leans pm_Cells_leans an_Cells_leans cd_Cells_leans ct_Cells_leans), sl_Cells_leans⟩)
    (c_Cells_leans : PySem.W.codeIn K cd_Cells_leans "Cells.leans" = true) (k_Cells_leans : PySem.W.keepIn K (.ref f_Cells_leans) = true)
    {C_Above : Addr} (a_Above : PySem.W.nsIn K mainGlobals "Above" = some (some (.ref C_Above)))
    (pg_Above : PySem.W.plainGet K C_Above Str.empty = true) (hd_Above : PySem.W.hasDictIn K C_Above = true) (po_Above : PySem.W.plainOver K C_Above = true) (sa_Above : PySem.W.findIn K (.ref C_Above) "__setattr__" = some (some (.builtin "object.__setattr__"))) (mk_Above : PySem.W.makesIn K C_Above = true) (kc_Above : PySem.W.keepIn K (.ref C_Above) = true) (hc_Above : PySem.W.findIn K (.ref C_Above) "__class__" = some (some (.builtin "object.__class__")))
    (na_Above_function : PySem.W.findIn K (.ref C_Above) "function" = some none)
    (na_Above_names : PySem.W.findIn K (.ref C_Above) "names" = some none)
    (na_Above_first : PySem.W.findIn K (.ref C_Above) "first" = some none)
    {f_Above_init : Addr} {oc_Above_init kV_Above_init doc_Above_init pm_Above_init cd_Above_init ct_Above_init : Value} {od_Above_init an_Above_init : Option Addr} {sl_Above_init : Array (Option Value)} (a_Above_init : PySem.W.findIn K (.ref C_Above) "__init__" = some (some (.ref f_Above_init))) (j_Above_init : PySem.W.isFn K (.ref f_Above_init) = true)
    (l_Above_init : K.lookup f_Above_init = some ⟨oc_Above_init, od_Above_init, .func (PySem.W.fnOf "__init__" "Above.__init__" (defArgs s_Above_init) (defBody s_Above_init) (defScope s_Above_init) .none kV_Above_init doc_Above_init pm_Above_init an_Above_init cd_Above_init ct_Above_init), sl_Above_init⟩)
    (c_Above_init : PySem.W.codeIn K cd_Above_init "Above.__init__" = true) (k_Above_init : PySem.W.keepIn K (.ref f_Above_init) = true)
    {f_Above_leans : Addr} {oc_Above_leans kV_Above_leans doc_Above_leans pm_Above_leans cd_Above_leans ct_Above_leans : Value} {od_Above_leans an_Above_leans : Option Addr} {sl_Above_leans : Array (Option Value)} (a_Above_leans : PySem.W.findIn K (.ref C_Above) "leans" = some (some (.ref f_Above_leans))) (j_Above_leans : PySem.W.isFn K (.ref f_Above_leans) = true)
    (l_Above_leans : K.lookup f_Above_leans = some ⟨oc_Above_leans, od_Above_leans, .func (PySem.W.fnOf "leans" "Above.leans" (defArgs s_Above_leans) (defBody s_Above_leans) (defScope s_Above_leans) .none kV_Above_leans doc_Above_leans pm_Above_leans an_Above_leans cd_Above_leans ct_Above_leans), sl_Above_leans⟩)
    (c_Above_leans : PySem.W.codeIn K cd_Above_leans "Above.leans" = true) (k_Above_leans : PySem.W.keepIn K (.ref f_Above_leans) = true)
    {C_Group : Addr} (a_Group : PySem.W.nsIn K mainGlobals "Group" = some (some (.ref C_Group)))
    (pg_Group : PySem.W.plainGet K C_Group Str.empty = true) (hd_Group : PySem.W.hasDictIn K C_Group = true) (po_Group : PySem.W.plainOver K C_Group = true) (sa_Group : PySem.W.findIn K (.ref C_Group) "__setattr__" = some (some (.builtin "object.__setattr__"))) (mk_Group : PySem.W.makesIn K C_Group = true) (kc_Group : PySem.W.keepIn K (.ref C_Group) = true) (hc_Group : PySem.W.findIn K (.ref C_Group) "__class__" = some (some (.builtin "object.__class__")))
    (na_Group_function : PySem.W.findIn K (.ref C_Group) "function" = some none)
    (na_Group_key : PySem.W.findIn K (.ref C_Group) "key" = some none)
    (na_Group_name : PySem.W.findIn K (.ref C_Group) "name" = some none)
    {f_Group_init : Addr} {oc_Group_init kV_Group_init doc_Group_init pm_Group_init cd_Group_init ct_Group_init : Value} {od_Group_init an_Group_init : Option Addr} {sl_Group_init : Array (Option Value)} (a_Group_init : PySem.W.findIn K (.ref C_Group) "__init__" = some (some (.ref f_Group_init))) (j_Group_init : PySem.W.isFn K (.ref f_Group_init) = true)
    (l_Group_init : K.lookup f_Group_init = some ⟨oc_Group_init, od_Group_init, .func (PySem.W.fnOf "__init__" "Group.__init__" (defArgs s_Group_init) (defBody s_Group_init) (defScope s_Group_init) .none kV_Group_init doc_Group_init pm_Group_init an_Group_init cd_Group_init ct_Group_init), sl_Group_init⟩)
    (c_Group_init : PySem.W.codeIn K cd_Group_init "Group.__init__" = true) (k_Group_init : PySem.W.keepIn K (.ref f_Group_init) = true)
    {f_Group_leans : Addr} {oc_Group_leans kV_Group_leans doc_Group_leans pm_Group_leans cd_Group_leans ct_Group_leans : Value} {od_Group_leans an_Group_leans : Option Addr} {sl_Group_leans : Array (Option Value)} (a_Group_leans : PySem.W.findIn K (.ref C_Group) "leans" = some (some (.ref f_Group_leans))) (j_Group_leans : PySem.W.isFn K (.ref f_Group_leans) = true)
    (l_Group_leans : K.lookup f_Group_leans = some ⟨oc_Group_leans, od_Group_leans, .func (PySem.W.fnOf "leans" "Group.leans" (defArgs s_Group_leans) (defBody s_Group_leans) (defScope s_Group_leans) .none kV_Group_leans doc_Group_leans pm_Group_leans an_Group_leans cd_Group_leans ct_Group_leans), sl_Group_leans⟩)
    (c_Group_leans : PySem.W.codeIn K cd_Group_leans "Group.leans" = true) (k_Group_leans : PySem.W.keepIn K (.ref f_Group_leans) = true)
    {C_Lookup : Addr} (a_Lookup : PySem.W.nsIn K mainGlobals "Lookup" = some (some (.ref C_Lookup)))
    (pg_Lookup : PySem.W.plainGet K C_Lookup Str.empty = true) (hd_Lookup : PySem.W.hasDictIn K C_Lookup = true) (po_Lookup : PySem.W.plainOver K C_Lookup = true) (sa_Lookup : PySem.W.findIn K (.ref C_Lookup) "__setattr__" = some (some (.builtin "object.__setattr__"))) (mk_Lookup : PySem.W.makesIn K C_Lookup = true) (kc_Lookup : PySem.W.keepIn K (.ref C_Lookup) = true) (hc_Lookup : PySem.W.findIn K (.ref C_Lookup) "__class__" = some (some (.builtin "object.__class__")))
    (na_Lookup_function : PySem.W.findIn K (.ref C_Lookup) "function" = some none)
    (na_Lookup_key : PySem.W.findIn K (.ref C_Lookup) "key" = some none)
    (na_Lookup_other : PySem.W.findIn K (.ref C_Lookup) "other" = some none)
    (na_Lookup_theirs : PySem.W.findIn K (.ref C_Lookup) "theirs" = some none)
    (na_Lookup_names : PySem.W.findIn K (.ref C_Lookup) "names" = some none)
    {f_Lookup_init : Addr} {oc_Lookup_init kV_Lookup_init doc_Lookup_init pm_Lookup_init cd_Lookup_init ct_Lookup_init : Value} {od_Lookup_init an_Lookup_init : Option Addr} {sl_Lookup_init : Array (Option Value)} (a_Lookup_init : PySem.W.findIn K (.ref C_Lookup) "__init__" = some (some (.ref f_Lookup_init))) (j_Lookup_init : PySem.W.isFn K (.ref f_Lookup_init) = true)
    (l_Lookup_init : K.lookup f_Lookup_init = some ⟨oc_Lookup_init, od_Lookup_init, .func (PySem.W.fnOf "__init__" "Lookup.__init__" (defArgs s_Lookup_init) (defBody s_Lookup_init) (defScope s_Lookup_init) .none kV_Lookup_init doc_Lookup_init pm_Lookup_init an_Lookup_init cd_Lookup_init ct_Lookup_init), sl_Lookup_init⟩)
    (c_Lookup_init : PySem.W.codeIn K cd_Lookup_init "Lookup.__init__" = true) (k_Lookup_init : PySem.W.keepIn K (.ref f_Lookup_init) = true)
    {f_Lookup_leans : Addr} {oc_Lookup_leans kV_Lookup_leans doc_Lookup_leans pm_Lookup_leans cd_Lookup_leans ct_Lookup_leans : Value} {od_Lookup_leans an_Lookup_leans : Option Addr} {sl_Lookup_leans : Array (Option Value)} (a_Lookup_leans : PySem.W.findIn K (.ref C_Lookup) "leans" = some (some (.ref f_Lookup_leans))) (j_Lookup_leans : PySem.W.isFn K (.ref f_Lookup_leans) = true)
    (l_Lookup_leans : K.lookup f_Lookup_leans = some ⟨oc_Lookup_leans, od_Lookup_leans, .func (PySem.W.fnOf "leans" "Lookup.leans" (defArgs s_Lookup_leans) (defBody s_Lookup_leans) (defScope s_Lookup_leans) .none kV_Lookup_leans doc_Lookup_leans pm_Lookup_leans an_Lookup_leans cd_Lookup_leans ct_Lookup_leans), sl_Lookup_leans⟩)
    (c_Lookup_leans : PySem.W.codeIn K cd_Lookup_leans "Lookup.leans" = true) (k_Lookup_leans : PySem.W.keepIn K (.ref f_Lookup_leans) = true)
    {C_Mend : Addr} (a_Mend : PySem.W.nsIn K mainGlobals "Mend" = some (some (.ref C_Mend)))
    (pg_Mend : PySem.W.plainGet K C_Mend Str.empty = true) (hd_Mend : PySem.W.hasDictIn K C_Mend = true) (po_Mend : PySem.W.plainOver K C_Mend = true) (sa_Mend : PySem.W.findIn K (.ref C_Mend) "__setattr__" = some (some (.builtin "object.__setattr__"))) (mk_Mend : PySem.W.makesIn K C_Mend = true) (kc_Mend : PySem.W.keepIn K (.ref C_Mend) = true) (hc_Mend : PySem.W.findIn K (.ref C_Mend) "__class__" = some (some (.builtin "object.__class__")))
    (na_Mend_function : PySem.W.findIn K (.ref C_Mend) "function" = some none)
    (na_Mend_name : PySem.W.findIn K (.ref C_Mend) "name" = some none)
    {f_Mend_init : Addr} {oc_Mend_init kV_Mend_init doc_Mend_init pm_Mend_init cd_Mend_init ct_Mend_init : Value} {od_Mend_init an_Mend_init : Option Addr} {sl_Mend_init : Array (Option Value)} (a_Mend_init : PySem.W.findIn K (.ref C_Mend) "__init__" = some (some (.ref f_Mend_init))) (j_Mend_init : PySem.W.isFn K (.ref f_Mend_init) = true)
    (l_Mend_init : K.lookup f_Mend_init = some ⟨oc_Mend_init, od_Mend_init, .func (PySem.W.fnOf "__init__" "Mend.__init__" (defArgs s_Mend_init) (defBody s_Mend_init) (defScope s_Mend_init) .none kV_Mend_init doc_Mend_init pm_Mend_init an_Mend_init cd_Mend_init ct_Mend_init), sl_Mend_init⟩)
    (c_Mend_init : PySem.W.codeIn K cd_Mend_init "Mend.__init__" = true) (k_Mend_init : PySem.W.keepIn K (.ref f_Mend_init) = true)
    {f_Mend_leans : Addr} {oc_Mend_leans kV_Mend_leans doc_Mend_leans pm_Mend_leans cd_Mend_leans ct_Mend_leans : Value} {od_Mend_leans an_Mend_leans : Option Addr} {sl_Mend_leans : Array (Option Value)} (a_Mend_leans : PySem.W.findIn K (.ref C_Mend) "leans" = some (some (.ref f_Mend_leans))) (j_Mend_leans : PySem.W.isFn K (.ref f_Mend_leans) = true)
    (l_Mend_leans : K.lookup f_Mend_leans = some ⟨oc_Mend_leans, od_Mend_leans, .func (PySem.W.fnOf "leans" "Mend.leans" (defArgs s_Mend_leans) (defBody s_Mend_leans) (defScope s_Mend_leans) .none kV_Mend_leans doc_Mend_leans pm_Mend_leans an_Mend_leans cd_Mend_leans ct_Mend_leans), sl_Mend_leans⟩)
    (c_Mend_leans : PySem.W.codeIn K cd_Mend_leans "Mend.leans" = true) (k_Mend_leans : PySem.W.keepIn K (.ref f_Mend_leans) = true) : Tops K mg where
  len := PySem.W.mg_none_of X G n_len
  isinstance := PySem.W.mg_none_of X G n_isinstance
  int := PySem.W.mg_none_of X G n_int
  bool := PySem.W.mg_none_of X G n_bool
  str := PySem.W.mg_none_of X G n_str
  all := PySem.W.mg_none_of X G n_all
  range := PySem.W.mg_none_of X G n_range
  abs := PySem.W.mg_none_of X G n_abs
  list := PySem.W.mg_none_of X G n_list
  tuple := PySem.W.mg_none_of X G n_tuple
  ValueError := PySem.W.mg_none_of X G n_ValueError
  g_LETTERS := ⟨_, PySem.W.mg_of X G i_LETTERS⟩
  g_MOST_LETTERS := ⟨_, PySem.W.mg_of X G i_MOST_LETTERS⟩
  g_MOST_NAMES := ⟨_, PySem.W.mg_of X G i_MOST_NAMES⟩
  d_is_whole := top_def X G a_is_whole l_is_whole c_is_whole k_is_whole
  d_is_number := top_def X G a_is_number l_is_number c_is_number k_is_number
  d_is_name := top_def X G a_is_name l_is_name c_is_name k_is_name
  d_check_name := top_def X G a_check_name l_check_name c_check_name k_check_name
  d_checked_names := top_def X G a_checked_names l_checked_names c_checked_names k_checked_names
  d_each_once := top_def X G a_each_once l_each_once c_each_once k_each_once
  d_law_drawn := top_def X G a_law_drawn l_law_drawn c_law_drawn k_law_drawn
  d_law_names := top_def X G a_law_names l_law_names c_law_names k_law_names
  d_law_due := top_def X G a_law_due l_law_due c_law_due k_law_due
  d_law_made := top_def X G a_law_made l_law_made c_law_made k_law_made
  b_law_made := ⟨_, top_defT X G a_law_made l_law_made c_law_made k_law_made w_law_made t_law_made⟩
  d_law_right := top_def X G a_law_right l_law_right c_law_right k_law_right
  d_law := top_def X G a_law l_law c_law k_law
  notabs := notabs
  t_Rule := ⟨C_Rule, { c := PySem.W.mg_of X G a_Rule, cl := ⟨pg_Rule, hd_Rule, po_Rule, sa_Rule⟩, mks := mk_Rule, kc := kc_Rule, hc := hc_Rule, n_function := na_Rule_function, m_init := mth_mk a_Rule_init j_Rule_init l_Rule_init c_Rule_init k_Rule_init, v_init := ⟨vg_Rule_init, _, _, vr_Rule_init, vf_Rule_init, a_Rule_init⟩ }⟩
  t_Cells := ⟨C_Cells, { c := PySem.W.mg_of X G a_Cells, cl := ⟨pg_Cells, hd_Cells, po_Cells, sa_Cells⟩, mks := mk_Cells, kc := kc_Cells, hc := hc_Cells, n_function := na_Cells_function, n_names := na_Cells_names, m_init := mth_mk a_Cells_init j_Cells_init l_Cells_init c_Cells_init k_Cells_init, m_leans := mth_mk a_Cells_leans j_Cells_leans l_Cells_leans c_Cells_leans k_Cells_leans }⟩
  t_Above := ⟨C_Above, { c := PySem.W.mg_of X G a_Above, cl := ⟨pg_Above, hd_Above, po_Above, sa_Above⟩, mks := mk_Above, kc := kc_Above, hc := hc_Above, n_function := na_Above_function, n_names := na_Above_names, n_first := na_Above_first, m_init := mth_mk a_Above_init j_Above_init l_Above_init c_Above_init k_Above_init, m_leans := mth_mk a_Above_leans j_Above_leans l_Above_leans c_Above_leans k_Above_leans }⟩
  t_Group := ⟨C_Group, { c := PySem.W.mg_of X G a_Group, cl := ⟨pg_Group, hd_Group, po_Group, sa_Group⟩, mks := mk_Group, kc := kc_Group, hc := hc_Group, n_function := na_Group_function, n_key := na_Group_key, n_name := na_Group_name, m_init := mth_mk a_Group_init j_Group_init l_Group_init c_Group_init k_Group_init, m_leans := mth_mk a_Group_leans j_Group_leans l_Group_leans c_Group_leans k_Group_leans }⟩
  t_Lookup := ⟨C_Lookup, { c := PySem.W.mg_of X G a_Lookup, cl := ⟨pg_Lookup, hd_Lookup, po_Lookup, sa_Lookup⟩, mks := mk_Lookup, kc := kc_Lookup, hc := hc_Lookup, n_function := na_Lookup_function, n_key := na_Lookup_key, n_other := na_Lookup_other, n_theirs := na_Lookup_theirs, n_names := na_Lookup_names, m_init := mth_mk a_Lookup_init j_Lookup_init l_Lookup_init c_Lookup_init k_Lookup_init, m_leans := mth_mk a_Lookup_leans j_Lookup_leans l_Lookup_leans c_Lookup_leans k_Lookup_leans }⟩
  t_Mend := ⟨C_Mend, { c := PySem.W.mg_of X G a_Mend, cl := ⟨pg_Mend, hd_Mend, po_Mend, sa_Mend⟩, mks := mk_Mend, kc := kc_Mend, hc := hc_Mend, n_function := na_Mend_function, n_name := na_Mend_name, m_init := mth_mk a_Mend_init j_Mend_init l_Mend_init c_Mend_init k_Mend_init, m_leans := mth_mk a_Mend_leans j_Mend_leans l_Mend_leans c_Mend_leans k_Mend_leans }⟩
theorem walk {l : PySem.W.OpenLaw} {q : Program} {loose : List Str} {XP : (Str → Option Value) → Heap → Prop} {YP : World → Heap → Prop} {d : DefRec} {K : Params → PySem.W.Frag} (hn : l.most = some 63) (hdf : d.params.defaults = []) (hdn : d.name = "law")
    (hY : ∀ (w : World) (h : Heap), YP w h → (K w.params).In h)
    (recs : ((PyProof.Rows.recsOf q).find? (fun e => e.name == ("_law_made" : Str))).isSome = true)
    (F : ∀ (w : World) (mg : Str → Option Value) (h : Heap), (K w.params).In h → h.Ns mainGlobals mg → Tops (K w.params) mg) :
    PySem.W.WalkO q loose XP YP l.row.toRowW d [] (fun f vs => PySem.call f vs) :=
  L2.walk_ofT (n := 63) (k := 10) (x := "_law_script") (CX := fun _ => CX0) (sp := fun w tabs => spLaw (K w.params) tabs) hn (by decide) hdf ⟨rfl, by decide, by decide⟩ hY
    (fun w mg fa h KX G hmg => by
      have T := F w mg h KX G
      obtain ⟨f, fd, F4, hm⟩ := T.d_law.ex
      rw [hdn] at hmg
      have e := hmg.symm.trans hm
      cases e
      obtain ⟨z_law_made, B_law_made⟩ := T.b_law_made
      have r_law_made := recs
      refine ⟨T.notabs, [z_law_made], fun z hz => ?_, fd, fun s u => ?_, fun base kb nb mk => ?_⟩
      · simp only [List.mem_cons, List.not_mem_nil, or_false] at hz
        rcases hz with rfl
        · exact ⟨⟨_, r_law_made, B_law_made.tab⟩⟩
      · obtain ⟨oc, od, kV, doc, pm, an, cdv, ct, osl, rfl, _⟩ := F4.ex
        exact .of_eq rfl
      · exact ok_law T B_law_made (mk _ (by simp)) F4)
    (fun _ _ _ a ns hl hT hS => ⟨a, ns, rfl, hS, hl, hT, fun _ hT' => ⟨rfl, hT'⟩⟩) fun _ _ _ _ _ z => z
end My
def PySem.W.Fast.tw5052001827549415130 : Unit := ()
def PySem.W.Fast.tw9031669990457087408 : Unit := ()
def PySem.W.Fast.tw1963135401217257348 : Unit := ()
def PySem.W.Fast.tw12146603545245232767 : Unit := ()
def PySem.W.Fast.tw3437457445777442034 : Unit := ()
def PySem.W.Fast.tw12464204059643305230 : Unit := ()
def PySem.W.Fast.tw10653484635870130899 : Unit := ()
def PySem.W.Fast.tw4278544182283089347 : Unit := ()
def PySem.W.Fast.tw5077008359025135022 : Unit := ()
def PySem.W.Fast.tw5689424616563748245 : Unit := ()
def PySem.W.Fast.tw3563261949192972972 : Unit := ()
def PySem.W.Fast.tw7137256005448611114 : Unit := ()
def PySem.W.Fast.tw2661775752429404160 : Unit := ()
def PySem.W.Fast.tw10341135754711179032 : Unit := ()
def PySem.W.Fast.tw2561503118430249529 : Unit := ()
def PySem.W.Fast.tw4625557875048487933 : Unit := ()
def PySem.W.Fast.tw6256673872505867993 : Unit := ()
def PySem.W.Fast.tw12296924200936273782 : Unit := ()
def PySem.W.Fast.tw7457093511755508734 : Unit := ()
def PySem.W.Fast.tw13590631891726944931 : Unit := ()
def PySem.W.Fast.tw8018293760630560058 : Unit := ()
def PySem.W.Fast.tw15092279177741809137 : Unit := ()
def PySem.W.Fast.tw2852568549052952448 : Unit := ()
def PySem.W.Fast.tw11342520867803545629 : Unit := ()
def PySem.W.Fast.tw16173052732791889208 : Unit := ()
def PySem.W.Fast.tw15393688746896883580 : Unit := ()
def PySem.W.Fast.tw1031859956513300080 : Unit := ()
def PySem.W.Fast.tw1112533589837706999 : Unit := ()
def PySem.W.Fast.tw12246034616912190989 : Unit := ()
def PySem.W.Fast.tw15203686566257709016 : Unit := ()
def PySem.W.Fast.tw5488536914830169826 : Unit := ()
def PySem.W.Fast.tw7156821915851748833 : Unit := ()
def PySem.W.Fast.tw5304226494247800088 : Unit := ()
def PySem.W.Fast.tw10325908964259744053 : Unit := ()
def PySem.W.Fast.tw14183970081637412122 : Unit := ()
def PySem.W.Fast.tw9638024656966823914 : Unit := ()
def PySem.W.Fast.tw13096035555985286348 : Unit := ()
def PySem.W.Fast.tw7601132198827413373 : Unit := ()
def PySem.W.Fast.tw1926097264114357199 : Unit := ()
def PySem.W.Fast.tw8928253821242665756 : Unit := ()
def PySem.W.Fast.tw11485875013892504347 : Unit := ()
def PySem.W.Fast.tw17039537187684444218 : Unit := ()
def PySem.W.Fast.tw1286398179823794431 : Unit := ()
def PySem.W.Fast.tw2105027527512976269 : Unit := ()
def PySem.W.Fast.tw12688986722463420521 : Unit := ()
def PySem.W.Fast.tw841584572502598993 : Unit := ()
def PySem.W.Fast.tw16545953269748335504 : Unit := ()
def PySem.W.Fast.tw12942645475301594303 : Unit := ()
def PySem.W.Fast.tw17608826885709574288 : Unit := ()
def PySem.W.Fast.tw1255867060391939152 : Unit := ()
def PySem.W.Fast.tw5563704506865649791 : Unit := ()
def PySem.W.Fast.tw9376688799731645174 : Unit := ()
def PySem.W.Fast.tw10714960554950684217 : Unit := ()
def PySem.W.Fast.tw6050115343297273812 : Unit := ()
def PySem.W.Fast.tw10212939701275184966 : Unit := ()
def PySem.W.Fast.tw10456991889156463187 : Unit := ()
def PySem.W.Fast.tw3968421509779163659 : Unit := ()
def PySem.W.Fast.tw4344435372466961131 : Unit := ()
def PySem.W.Fast.tw7508926298501880429 : Unit := ()
def PySem.W.Fast.tw7929429297573324701 : Unit := ()
def PySem.W.Fast.tw2435079543076054923 : Unit := ()
def PySem.W.Fast.tw13060646575469572970 : Unit := ()
def PySem.W.Fast.tw11034495786060737736 : Unit := ()
def PySem.W.Fast.tw7045652595993510812 : Unit := ()
def PySem.W.Fast.tw7696875037401517408 : Unit := ()
def PySem.W.Fast.tw523406176448903792 : Unit := ()
def PySem.W.Fast.tw14482822835036141784 : Unit := ()
def PySem.W.Fast.tw15145639557182064363 : Unit := ()
def PySem.W.Fast.tw3088907904831989122 : Unit := ()
def PySem.W.Fast.tw1551273538821516611 : Unit := ()
def PySem.W.Fast.tw2479211867385788611 : Unit := ()
def PySem.W.Fast.tw16860397202352414691 : Unit := ()
def PySem.W.Fast.tw4933477943409647588 : Unit := ()
def PySem.W.Fast.tw1942026501298236781 : Unit := ()
def PySem.W.Fast.tw387282415933393715 : Unit := ()
def PySem.W.Fast.tw14526327734944194792 : Unit := ()
def PySem.W.Fast.tw9588020430393610019 : Unit := ()
def PySem.W.Fast.tw877288392372958096 : Unit := ()
def PySem.W.Fast.tw15222714825001469506 : Unit := ()
def PySem.W.Fast.tw15907862775205611650 : Unit := ()
def PySem.W.Fast.tw9718508647209301568 : Unit := ()
def PySem.W.Fast.tw14069389303094952628 : Unit := ()
def PySem.W.Fast.tw17799845382363904067 : Unit := ()
def PySem.W.Fast.tw6298672141054231280 : Unit := ()
def PySem.W.Fast.tw17524000526141454267 : Unit := ()
def PySem.W.Fast.tw6194704032795486890 : Unit := ()
def PySem.W.Fast.tw11514937052991611043 : Unit := ()
def PySem.W.Fast.tw10871269249594090402 : Unit := ()
def PySem.W.Fast.tw8915619020415334738 : Unit := ()
def PySem.W.Fast.tw17058644376208662053 : Unit := ()
def PySem.W.Fast.tw8112787336915233640 : Unit := ()
def PySem.W.Fast.tw8118163489264916593 : Unit := ()
def PySem.W.Fast.tw13674363874743047681 : Unit := ()
def PySem.W.Fast.tw11701632247880657755 : Unit := ()
def PySem.W.Fast.tw10482274925108557939 : Unit := ()
def PySem.W.Fast.tw10233092580020295150 : Unit := ()
def PySem.W.Fast.tw15360155118339509343 : Unit := ()
def PySem.W.Fast.tw15147043846344710940 : Unit := ()
def PySem.W.Fast.tw8105647291234649335 : Unit := ()
def PySem.W.Fast.tw7496110957229198866 : Unit := ()
def PySem.W.Fast.tw2207553760449383099 : Unit := ()
def PySem.W.Fast.tw4397970350744435517 : Unit := ()
def PySem.W.Fast.tw9657479964570121141 : Unit := ()
def PySem.W.Fast.tw1941295974712165405 : Unit := ()
def PySem.W.Fast.tw9301664729987985522 : Unit := ()
def PySem.W.Fast.tw14721887116822505838 : Unit := ()
def PySem.W.Fast.tw13868559073316268791 : Unit := ()
def PySem.W.Fast.tw14321720217789330872 : Unit := ()
def PySem.W.Fast.tw9023375837915854294 : Unit := ()
def PySem.W.Fast.tw12140116329088608525 : Unit := ()
def PySem.W.Fast.tw6328795214667540942 : Unit := ()
def PySem.W.Fast.tw13018225272235985632 : Unit := ()
def PySem.W.Fast.tw366079461949637194 : Unit := ()
def PySem.W.Fast.tw389967637717522747 : Unit := ()
def PySem.W.Fast.tw4861923926478077997 : Unit := ()
def PySem.W.Fast.tw11821710044591779163 : Unit := ()
def PySem.W.Fast.tw15054494006179781980 : Unit := ()
def PySem.W.Fast.tw17375859648157141775 : Unit := ()
def PySem.W.Fast.tw6644270277042061525 : Unit := ()
def PySem.W.Fast.tw2187975708645273666 : Unit := ()
def PySem.W.Fast.tw3705262296028726914 : Unit := ()
def PySem.W.Fast.tw15918156726240356063 : Unit := ()
def PySem.W.Fast.tw102579135410860489 : Unit := ()
def PySem.W.Fast.tw17236762418676020235 : Unit := ()
def PySem.W.Fast.tw1397812656765632566 : Unit := ()
def PySem.W.Fast.tw8231215901163517841 : Unit := ()
def PySem.W.Fast.tw14957365478590928750 : Unit := ()
def PySem.W.Fast.tw7978480892234810295 : Unit := ()
def PySem.W.Fast.tw17694164658591961627 : Unit := ()
def PySem.W.Fast.tw13571265984277061987 : Unit := ()
def PySem.W.Fast.tw5545522137092346549 : Unit := ()
def PySem.W.Fast.tw3105653157275510195 : Unit := ()
def PySem.W.Fast.tw7628565884296049481 : Unit := ()
def PySem.W.Fast.tw3318098736661028157 : Unit := ()
def PySem.W.Fast.tw6816452696310015886 : Unit := ()
def PySem.W.Fast.tw7998872666357203129 : Unit := ()
def PySem.W.Fast.tw1295576722222543270 : Unit := ()
def PySem.W.Fast.tw11258117605528868193 : Unit := ()
def PySem.W.Fast.tw1573700377464965969 : Unit := ()
def PySem.W.Fast.tw9057997005352033362 : Unit := ()
def PySem.W.Fast.tw10931376689890543166 : Unit := ()
def PySem.W.Fast.tw12274941830675025260 : Unit := ()
def PySem.W.Fast.tw10541945735988915827 : Unit := ()
def PySem.W.Fast.tw1004749565895811146 : Unit := ()
def PySem.W.Fast.tw7917075544926602621 : Unit := ()
def PySem.W.Fast.tw15017691150006075752 : Unit := ()
def PySem.W.Fast.tw1655116020237358417 : Unit := ()
def PySem.W.Fast.tw15488259979771135079 : Unit := ()
def PySem.W.Fast.tw8678017317102380796 : Unit := ()
def PySem.W.Fast.tw11402029195761230088 : Unit := ()
def PySem.W.Fast.tw16406896415106605982 : Unit := ()
def PySem.W.Fast.tw12658913670733212132 : Unit := ()
def PySem.W.Fast.tw9266569671577903295 : Unit := ()
def PySem.W.Fast.tw7977279774399247162 : Unit := ()
def PySem.W.Fast.tw9256792888890357559 : Unit := ()
def PySem.W.Fast.tw13784660149881143192 : Unit := ()
def PySem.W.Fast.tw8086897694654730921 : Unit := ()
def PySem.W.Fast.tw11220145468570164390 : Unit := ()
def PySem.W.Fast.tw12843691653094998270 : Unit := ()
def PySem.W.Fast.tw13969274857135142219 : Unit := ()
def PySem.W.Fast.tw2705914807447026757 : Unit := ()
def PySem.W.Fast.tw9247047628444003861 : Unit := ()
def PySem.W.Fast.tw9271075330743376577 : Unit := ()
def PySem.W.Fast.tw11568212438143263479 : Unit := ()
def PySem.W.Fast.tw8635268459940216562 : Unit := ()
def PySem.W.Fast.tw11827722693817491233 : Unit := ()
def PySem.W.Fast.tw8041355605623400451 : Unit := ()
def PySem.W.Fast.tw10153497873522011286 : Unit := ()
def PySem.W.Fast.tw14847677656871482506 : Unit := ()
def PySem.W.Fast.tw16553812940322220220 : Unit := ()
def PySem.W.Fast.tw5985120545177654876 : Unit := ()
def PySem.W.Fast.tw7535510876175121335 : Unit := ()
def PySem.W.Fast.tw8183352069942898620 : Unit := ()
def PySem.W.Fast.tw16488363140622709969 : Unit := ()
def PySem.W.Fast.tw9407613398089607858 : Unit := ()
def PySem.W.Fast.tw15122254488263223090 : Unit := ()
def PySem.W.Fast.tw15965910913639588075 : Unit := ()
def PySem.W.Fast.tw11096349497027176628 : Unit := ()
def PySem.W.Fast.tw4527213726510761034 : Unit := ()
def PySem.W.Fast.tw17526610224582907856 : Unit := ()
def PySem.W.Fast.tw11026208340493700286 : Unit := ()
def PySem.W.Fast.tw9082793139848623513 : Unit := ()
def PySem.W.Fast.tw5720338028695927509 : Unit := ()
def PySem.W.Fast.tw2502018283226889144 : Unit := ()
def PySem.W.Fast.tw7258658694594277223 : Unit := ()
def PySem.W.Fast.tw13781266478519905907 : Unit := ()
def PySem.W.Fast.tw4302703460057446502 : Unit := ()
def PySem.W.Fast.tw3896395472181566891 : Unit := ()
def PySem.W.Fast.tw5850720398943032382 : Unit := ()
def PySem.W.Fast.tw982357705275311756 : Unit := ()
def PySem.W.Fast.tw12756868096282315236 : Unit := ()
def PySem.W.Fast.tw4054110980916099630 : Unit := ()
def PySem.W.Fast.tw6420047471731261616 : Unit := ()
def PySem.W.Fast.tw15592161188421676282 : Unit := ()
def PySem.W.Fast.tw10765702841447287450 : Unit := ()
def PySem.W.Fast.tw14976570593349209841 : Unit := ()
def PySem.W.Fast.tw13249114089470001177 : Unit := ()
def PySem.W.Fast.tw1476179151851447267 : Unit := ()
def PySem.W.Fast.tw15327063143433775147 : Unit := ()
def PySem.W.Fast.tw13297430223467220715 : Unit := ()
def PySem.W.Fast.tw14462786570163344267 : Unit := ()
def PySem.W.Fast.tw2856275224149858694 : Unit := ()
def PySem.W.Fast.tw14487715745476844733 : Unit := ()
def PySem.W.Fast.tw1405225045597513393 : Unit := ()
def PySem.W.Fast.tw2695211238173681462 : Unit := ()
def PySem.W.Fast.tw11619729210621476245 : Unit := ()
def PySem.W.Fast.tw1924163143150360257 : Unit := ()
def PySem.W.Fast.tw5727034819616724642 : Unit := ()
def PySem.W.Fast.tw1997394586522821387 : Unit := ()
def PySem.W.Fast.tw6601089397411753304 : Unit := ()
def PySem.W.Fast.tw9933619694302114742 : Unit := ()
def PySem.W.Fast.tw18387154190262251305 : Unit := ()
def PySem.W.Fast.tw14699088199684518090 : Unit := ()
def PySem.W.Fast.tw118278509506603799 : Unit := ()
def PySem.W.Fast.tw9687863958259787444 : Unit := ()
def PySem.W.Fast.tw10565395132437287103 : Unit := ()
def PySem.W.Fast.tw15632021394970180170 : Unit := ()
def PySem.W.Fast.tw6235549299339655543 : Unit := ()
def PySem.W.Fast.tw14386121915341985270 : Unit := ()
def PySem.W.Fast.tw5124789956956599044 : Unit := ()
def PySem.W.Fast.tw13939284065331225493 : Unit := ()
def PySem.W.Fast.tw2820404792956567772 : Unit := ()
def PySem.W.Fast.tw943463750613982990 : Unit := ()
def PySem.W.Fast.tw9468229689919826946 : Unit := ()
def PySem.W.Fast.tw15443624280737120037 : Unit := ()
def PySem.W.Fast.tw479557716765859827 : Unit := ()
def PySem.W.Fast.tw4104652019263481126 : Unit := ()
def PySem.W.Fast.tw2044714507019982978 : Unit := ()
def PySem.W.Fast.tw19688093747668233 : Unit := ()
def PySem.W.Fast.tw5295334211165298680 : Unit := ()
def PySem.W.Fast.tw6005307889238517577 : Unit := ()
def PySem.W.Fast.tw13560374324898732949 : Unit := ()
def PySem.W.Fast.tw15225872205330279958 : Unit := ()
def PySem.W.Fast.tw8882716048617058827 : Unit := ()
def PySem.W.Fast.tw14743327797245183645 : Unit := ()
def PySem.W.Fast.tw9253340327866531831 : Unit := ()
def PySem.W.Fast.tw18411155998843328362 : Unit := ()
def PySem.W.Fast.tw7251312197100518074 : Unit := ()
def PySem.W.Fast.tw17121276768035934290 : Unit := ()
def PySem.W.Fast.tw10365931094309842294 : Unit := ()
def PySem.W.Fast.tw7566259652326833725 : Unit := ()
def PySem.W.Fast.tw4359705962208621624 : Unit := ()
def PySem.W.Fast.tw7286944996276010822 : Unit := ()
def PySem.W.Fast.tw10569618735765212874 : Unit := ()
def PySem.W.Fast.tw11487027225545372605 : Unit := ()
def PySem.W.Fast.tw11527200070844362496 : Unit := ()
def PySem.W.Fast.tw18009772282597864642 : Unit := ()
def PySem.W.Fast.tw2624022693315320343 : Unit := ()
def PySem.W.Fast.tw2294046372011321076 : Unit := ()
def PySem.W.Fast.tw14748238546815738484 : Unit := ()
def PySem.W.Fast.tw18093894129032184229 : Unit := ()
def PySem.W.Fast.tw17049945704989157689 : Unit := ()
def PySem.W.Fast.tw17130896753330891840 : Unit := ()
def PySem.W.Fast.tw7315230235589451799 : Unit := ()
def PySem.W.Fast.tw8395340804145438665 : Unit := ()
def PySem.W.Fast.tw10964269487558807576 : Unit := ()
def PySem.W.Fast.tw1169329709539605552 : Unit := ()
def PySem.W.Fast.tw8863808295595118845 : Unit := ()
def PySem.W.Fast.tw1846875656485725899 : Unit := ()
def PySem.W.Fast.tw6706195280948315512 : Unit := ()
def PySem.W.Fast.tw2105757425536736654 : Unit := ()
def PySem.W.Fast.tw14558193675879963561 : Unit := ()
def PySem.W.Fast.tw17465430287787160504 : Unit := ()
def PySem.W.Fast.tw14565381583940606717 : Unit := ()
def PySem.W.Fast.tw5128824427224890103 : Unit := ()
def PySem.W.Fast.tw17110789927723098239 : Unit := ()
def PySem.W.Fast.tw8696640204345462567 : Unit := ()
def PySem.W.Fast.tw18112073767639557061 : Unit := ()
def PySem.W.Fast.tw13313190083639058211 : Unit := ()
def PySem.W.Fast.tw14226269270645657885 : Unit := ()
def PySem.W.Fast.tw4830493258390330694 : Unit := ()
def PySem.W.Fast.tw278301643627979453 : Unit := ()
def PySem.W.Fast.tw960094784393920491 : Unit := ()
def PySem.W.Fast.tw674039199246236006 : Unit := ()
def PySem.W.Fast.tw1929980781139539398 : Unit := ()
def PySem.W.Fast.tw15610100815891915642 : Unit := ()
def PySem.W.Fast.tw9404012277747074036 : Unit := ()
def PySem.W.Fast.tw5162282258860031399 : Unit := ()
def PySem.W.Fast.tw1879572047710425353 : Unit := ()
def PySem.W.Fast.tw16335795729886896634 : Unit := ()
def PySem.W.Fast.tw6691109657191524130 : Unit := ()
def PySem.W.Fast.tw13993392746127141547 : Unit := ()
def PySem.W.Fast.tw10577896039006352954 : Unit := ()
def PySem.W.Fast.tw17497124892073617383 : Unit := ()
def PySem.W.Fast.tw12034648862729715544 : Unit := ()
def PySem.W.Fast.tw13480248395265377581 : Unit := ()
def PySem.W.Fast.tw16675292119745001319 : Unit := ()
def PySem.W.Fast.tw17142193152291898511 : Unit := ()
def PySem.W.Fast.tw9674948852328749906 : Unit := ()
def PySem.W.Fast.tw10112919738332604401 : Unit := ()
def PySem.W.Fast.tw13855327362445628971 : Unit := ()
def PySem.W.Fast.tw227027016405292563 : Unit := ()
def PySem.W.Fast.tw9479049011975447595 : Unit := ()
def PySem.W.Fast.tw557280786375694099 : Unit := ()
def PySem.W.Fast.tw301295511118875352 : Unit := ()
def PySem.W.Fast.tw8024591785822013959 : Unit := ()
def PySem.W.Fast.tw564525195019370442 : Unit := ()
def PySem.W.Fast.tw8136508528106293516 : Unit := ()
def PySem.W.Fast.tw4884865881155340375 : Unit := ()
def PySem.W.Fast.tw13769357832805483270 : Unit := ()
def PySem.W.Fast.tw5595489716873164157 : Unit := ()
def PySem.W.Fast.tw505573251634643786 : Unit := ()
def PySem.W.Fast.tw13686982837097934053 : Unit := ()
def PySem.W.Fast.tw9748218547668209554 : Unit := ()
def PySem.W.Fast.tw10263342006835699661 : Unit := ()
def PySem.W.Fast.tw14075047616299767074 : Unit := ()
def PySem.W.Fast.tw18030285454797921301 : Unit := ()
def PySem.W.Fast.tw18135264791211259758 : Unit := ()
def PySem.W.Fast.tw8377243642671795820 : Unit := ()
def PySem.W.Fast.tw11686327686602457389 : Unit := ()
def PySem.W.Fast.tw3440022085095201715 : Unit := ()
def PySem.W.Fast.tw249544917072085830 : Unit := ()
def PySem.W.Fast.tw10471989765231266941 : Unit := ()
def PySem.W.Fast.tw8548875799871553111 : Unit := ()
def PySem.W.Fast.tw11763188135701181993 : Unit := ()
def PySem.W.Fast.tw12012008735275185672 : Unit := ()
open PySem PySem.W PyProof.Rows
set_option maxRecDepth 100000 in
set_option maxHeartbeats 0 in
theorem PySem.Challenge.cw_lazycols_k18_what_rules_lean_on_holds : PySem.Challenge.rw_lazycols_k18_what_rules_lean_on.Holds := by
  w_on; o_law; k_head; (case hw => w_witness2)
  k_fill
  refine My.walk (l := PySem.Challenge.rw_lazycols_k18_what_rules_lean_on) rfl rfl rfl (fun w h Y => PySem.W.km_in_of Y) ?R ?F
  case R => first | exact rfl | decide +kernel
  case F =>
    intro w mg h KX G
    refine' My.tops_mk KX G ?n_len ?n_isinstance ?n_int ?n_bool ?n_str ?n_all ?n_range ?n_abs ?n_list ?n_tuple ?n_ValueError ?i_LETTERS ?i_MOST_LETTERS ?i_MOST_NAMES ?a_is_whole ?l_is_whole ?c_is_whole ?k_is_whole ?a_is_number ?l_is_number ?c_is_number ?k_is_number ?a_is_name ?l_is_name ?c_is_name ?k_is_name ?a_check_name ?l_check_name ?c_check_name ?k_check_name ?a_checked_names ?l_checked_names ?c_checked_names ?k_checked_names ?a_each_once ?l_each_once ?c_each_once ?k_each_once ?a_law_drawn ?l_law_drawn ?c_law_drawn ?k_law_drawn ?a_law_names ?l_law_names ?c_law_names ?k_law_names ?a_law_due ?l_law_due ?c_law_due ?k_law_due ?a_law_made ?l_law_made ?c_law_made ?k_law_made ?w_law_made ?t_law_made ?a_law_right ?l_law_right ?c_law_right ?k_law_right ?a_law ?l_law ?c_law ?k_law ?notabs ?a_Rule ?pg_Rule ?hd_Rule ?po_Rule ?sa_Rule ?mk_Rule ?kc_Rule ?hc_Rule ?na_Rule_function ?a_Rule_init ?j_Rule_init ?l_Rule_init ?c_Rule_init ?k_Rule_init ?vg_Rule_init ?vr_Rule_init ?vf_Rule_init ?a_Cells ?pg_Cells ?hd_Cells ?po_Cells ?sa_Cells ?mk_Cells ?kc_Cells ?hc_Cells ?na_Cells_function ?na_Cells_names ?a_Cells_init ?j_Cells_init ?l_Cells_init ?c_Cells_init ?k_Cells_init ?a_Cells_leans ?j_Cells_leans ?l_Cells_leans ?c_Cells_leans ?k_Cells_leans ?a_Above ?pg_Above ?hd_Above ?po_Above ?sa_Above ?mk_Above ?kc_Above ?hc_Above ?na_Above_function ?na_Above_names ?na_Above_first ?a_Above_init ?j_Above_init ?l_Above_init ?c_Above_init ?k_Above_init ?a_Above_leans ?j_Above_leans ?l_Above_leans ?c_Above_leans ?k_Above_leans ?a_Group ?pg_Group ?hd_Group ?po_Group ?sa_Group ?mk_Group ?kc_Group ?hc_Group ?na_Group_function ?na_Group_key ?na_Group_name ?a_Group_init ?j_Group_init ?l_Group_init ?c_Group_init ?k_Group_init ?a_Group_leans ?j_Group_leans ?l_Group_leans ?c_Group_leans ?k_Group_leans ?a_Lookup ?pg_Lookup ?hd_Lookup ?po_Lookup ?sa_Lookup ?mk_Lookup ?kc_Lookup ?hc_Lookup ?na_Lookup_function ?na_Lookup_key ?na_Lookup_other ?na_Lookup_theirs ?na_Lookup_names ?a_Lookup_init ?j_Lookup_init ?l_Lookup_init ?c_Lookup_init ?k_Lookup_init ?a_Lookup_leans ?j_Lookup_leans ?l_Lookup_leans ?c_Lookup_leans ?k_Lookup_leans ?a_Mend ?pg_Mend ?hd_Mend ?po_Mend ?sa_Mend ?mk_Mend ?kc_Mend ?hc_Mend ?na_Mend_function ?na_Mend_name ?a_Mend_init ?j_Mend_init ?l_Mend_init ?c_Mend_init ?k_Mend_init ?a_Mend_leans ?j_Mend_leans ?l_Mend_leans ?c_Mend_leans ?k_Mend_leans
    (case n_len => k_is)
    (case n_isinstance => k_is)
    (case n_int => k_is)
    (case n_bool => k_is)
    (case n_str => k_is)
    (case n_all => k_is)
    (case n_range => k_is)
    (case n_abs => k_is)
    (case n_list => k_is)
    (case n_tuple => k_is)
    (case n_ValueError => k_is)
    (case i_LETTERS => k_is)
    (case i_MOST_LETTERS => k_is)
    (case i_MOST_NAMES => k_is)
    (case a_is_whole => k_is)
    (case l_is_whole => k_is)
    (case c_is_whole => k_is)
    (case k_is_whole => k_is)
    (case a_is_number => k_is)
    (case l_is_number => k_is)
    (case c_is_number => k_is)
    (case k_is_number => k_is)
    (case a_is_name => k_is)
    (case l_is_name => k_is)
    (case c_is_name => k_is)
    (case k_is_name => k_is)
    (case a_check_name => k_is)
    (case l_check_name => k_is)
    (case c_check_name => k_is)
    (case k_check_name => k_is)
    (case a_checked_names => k_is)
    (case l_checked_names => k_is)
    (case c_checked_names => k_is)
    (case k_checked_names => k_is)
    (case a_each_once => k_is)
    (case l_each_once => k_is)
    (case c_each_once => k_is)
    (case k_each_once => k_is)
    (case a_law_drawn => k_is)
    (case l_law_drawn => k_is)
    (case c_law_drawn => k_is)
    (case k_law_drawn => k_is)
    (case a_law_names => k_is)
    (case l_law_names => k_is)
    (case c_law_names => k_is)
    (case k_law_names => k_is)
    (case a_law_due => k_is)
    (case l_law_due => k_is)
    (case c_law_due => k_is)
    (case k_law_due => k_is)
    (case a_law_made => k_is)
    (case l_law_made => k_is)
    (case c_law_made => k_is)
    (case k_law_made => k_is)
    (case w_law_made => k_is)
    (case t_law_made => exact rfl)
    (case a_law_right => k_is)
    (case l_law_right => k_is)
    (case c_law_right => k_is)
    (case k_law_right => k_is)
    (case a_law => k_is)
    (case l_law => k_is)
    (case c_law => k_is)
    (case k_law => k_is)
    (case notabs => kernel_rfl)
    (case a_Rule => k_is)
    (case pg_Rule => k_is)
    (case hd_Rule => k_is)
    (case po_Rule => k_is)
    (case sa_Rule => k_is)
    (case mk_Rule => k_is)
    (case kc_Rule => k_is)
    (case hc_Rule => k_is)
    (case na_Rule_function => k_is)
    (case a_Rule_init => k_is)
    (case j_Rule_init => k_is)
    (case l_Rule_init => k_is)
    (case c_Rule_init => k_is)
    (case k_Rule_init => k_is)
    (case vg_Rule_init => k_is)
    (case vr_Rule_init => k_is)
    (case vf_Rule_init => k_is)
    (case a_Cells => k_is)
    (case pg_Cells => k_is)
    (case hd_Cells => k_is)
    (case po_Cells => k_is)
    (case sa_Cells => k_is)
    (case mk_Cells => k_is)
    (case kc_Cells => k_is)
    (case hc_Cells => k_is)
    (case na_Cells_function => k_is)
    (case na_Cells_names => k_is)
    (case a_Cells_init => k_is)
    (case j_Cells_init => k_is)
    (case l_Cells_init => k_is)
    (case c_Cells_init => k_is)
    (case k_Cells_init => k_is)
    (case a_Cells_leans => k_is)
    (case j_Cells_leans => k_is)
    (case l_Cells_leans => k_is)
    (case c_Cells_leans => k_is)
    (case k_Cells_leans => k_is)
    (case a_Above => k_is)
    (case pg_Above => k_is)
    (case hd_Above => k_is)
    (case po_Above => k_is)
    (case sa_Above => k_is)
    (case mk_Above => k_is)
    (case kc_Above => k_is)
    (case hc_Above => k_is)
    (case na_Above_function => k_is)
    (case na_Above_names => k_is)
    (case na_Above_first => k_is)
    (case a_Above_init => k_is)
    (case j_Above_init => k_is)
    (case l_Above_init => k_is)
    (case c_Above_init => k_is)
    (case k_Above_init => k_is)
    (case a_Above_leans => k_is)
    (case j_Above_leans => k_is)
    (case l_Above_leans => k_is)
    (case c_Above_leans => k_is)
    (case k_Above_leans => k_is)
    (case a_Group => k_is)
    (case pg_Group => k_is)
    (case hd_Group => k_is)
    (case po_Group => k_is)
    (case sa_Group => k_is)
    (case mk_Group => k_is)
    (case kc_Group => k_is)
    (case hc_Group => k_is)
    (case na_Group_function => k_is)
    (case na_Group_key => k_is)
    (case na_Group_name => k_is)
    (case a_Group_init => k_is)
    (case j_Group_init => k_is)
    (case l_Group_init => k_is)
    (case c_Group_init => k_is)
    (case k_Group_init => k_is)
    (case a_Group_leans => k_is)
    (case j_Group_leans => k_is)
    (case l_Group_leans => k_is)
    (case c_Group_leans => k_is)
    (case k_Group_leans => k_is)
    (case a_Lookup => k_is)
    (case pg_Lookup => k_is)
    (case hd_Lookup => k_is)
    (case po_Lookup => k_is)
    (case sa_Lookup => k_is)
    (case mk_Lookup => k_is)
    (case kc_Lookup => k_is)
    (case hc_Lookup => k_is)
    (case na_Lookup_function => k_is)
    (case na_Lookup_key => k_is)
    (case na_Lookup_other => k_is)
    (case na_Lookup_theirs => k_is)
    (case na_Lookup_names => k_is)
    (case a_Lookup_init => k_is)
    (case j_Lookup_init => k_is)
    (case l_Lookup_init => k_is)
    (case c_Lookup_init => k_is)
    (case k_Lookup_init => k_is)
    (case a_Lookup_leans => k_is)
    (case j_Lookup_leans => k_is)
    (case l_Lookup_leans => k_is)
    (case c_Lookup_leans => k_is)
    (case k_Lookup_leans => k_is)
    (case a_Mend => k_is)
    (case pg_Mend => k_is)
    (case hd_Mend => k_is)
    (case po_Mend => k_is)
    (case sa_Mend => k_is)
    (case mk_Mend => k_is)
    (case kc_Mend => k_is)
    (case hc_Mend => k_is)
    (case na_Mend_function => k_is)
    (case na_Mend_name => k_is)
    (case a_Mend_init => k_is)
    (case j_Mend_init => k_is)
    (case l_Mend_init => k_is)
    (case c_Mend_init => k_is)
    (case k_Mend_init => k_is)
    (case a_Mend_leans => k_is)
    (case j_Mend_leans => k_is)
    (case l_Mend_leans => k_is)
    (case c_Mend_leans => k_is)
    (case k_Mend_leans => k_is)
