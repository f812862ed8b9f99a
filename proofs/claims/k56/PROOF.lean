import PyProof.Rows.All
import Wide.All
import OpenK.AllK
import Wide.FinOn
import PyProof.EqAt
import PyProof.EqKinds
import PyProof.TupleCall
import Lean
import PySem.Challenge.RW_lazycols_k56_no_rules
set_option Elab.async false
set_option linter.all false
set_option maxRecDepth 100000
set_option maxHeartbeats 4000000
set_option genSizeOfSpec false
/-! THE HAND LAYER, for ints, bools, texts, own classes, LISTS and tuples (index, slices, in, append, pop ..), calls, loops. Paste it whole ahead of your own text; what your proof does not reach may be deleted. -/
namespace L2
open PySem PySem.Spec PyProof.Rows

/-- a key: an int or a str -/
abbrev Key := Sum Int Str
def keyIs : Key → Value → Bool
  | .inl k, v => Value.isInt k v
  | .inr x, v => Value.isStrOf x v
def keyH (w : World) : Key → Int
  | .inl k => hashInt k
  | .inr x => hashStr w x
theorem keyIs_shape : ∀ {k : Key} {v : Value}, keyIs k v = true → (∃ i t, k = Sum.inl i ∧ v = Value.int i t) ∨ (∃ x t, k = Sum.inr x ∧ v = Value.str x t)
  | .inl i, v, h => by
    obtain ⟨t, e⟩ := Value.isInt_shape (k := i) (v := v) h
    exact .inl ⟨i, t, rfl, e⟩
  | .inr x, v, h => by
    obtain ⟨t, e⟩ := Value.isStrOf_shape (x := x) (v := v) h
    exact .inr ⟨x, t, rfl, e⟩
theorem key_ll (a b : Int) : decide ((Sum.inl a : Key) = Sum.inl b) = (a == b) := by
  by_cases e : a = b
  · subst e; simp
  · have h : ¬ (Sum.inl a : Key) = Sum.inl b := fun q => e (Sum.inl.inj q)
    rw [decide_eq_false h]
    exact (beq_eq_false_iff_ne.mpr e).symm
theorem key_rr (a b : Str) : decide ((Sum.inr a : Key) = Sum.inr b) = decide (a = b) := by
  by_cases e : a = b
  · subst e; simp
  · have h : ¬ (Sum.inr a : Key) = Sum.inr b := fun q => e (Sum.inr.inj q)
    rw [decide_eq_false h, decide_eq_false e]
theorem key_lr (a : Int) (b : Str) : decide ((Sum.inl a : Key) = Sum.inr b) = false := decide_eq_false (fun q => nomatch q)
theorem key_rl (a : Str) (b : Int) : decide ((Sum.inr a : Key) = Sum.inl b) = false := decide_eq_false (fun q => nomatch q)

def mixKind (prog : Program) (w : World) : PySem.KeyKind prog w Key where
  is := keyIs
  hash := keyH w
  inj := fun v a b ha hb => by
    rcases keyIs_shape ha with ⟨i, t, rfl, rfl⟩ | ⟨x, t, rfl, rfl⟩
    · rcases keyIs_shape hb with ⟨j, u, rfl, e⟩ | ⟨y, u, rfl, e⟩
      · injection e with e1 _; rw [e1]
      · exact nomatch e
    · rcases keyIs_shape hb with ⟨j, u, rfl, e⟩ | ⟨y, u, rfl, e⟩
      · exact nomatch e
      · injection e with e1 _; rw [e1]
  byValue := fun k v h => by
    rcases keyIs_shape h with ⟨i, t, rfl, rfl⟩ | ⟨x, t, rfl, rfl⟩ <;> rfl
  pyHash := fun hv h => by
    rcases keyIs_shape hv with ⟨i, t, rfl, rfl⟩ | ⟨x, t, rfl, rfl⟩
    · exact wpAny_pyHash_int h
    · exact wpAny_pyHash_str h
  eqBool := fun hu hv h => by
    rcases keyIs_shape hu with ⟨i, t, rfl, rfl⟩ | ⟨x, t, rfl, rfl⟩
    · rcases keyIs_shape hv with ⟨j, u, rfl, rfl⟩ | ⟨y, u, rfl, rfl⟩
      · rw [key_ll] at h; exact wpAny_eqBool_int h
      · rw [key_lr] at h; exact SeqAt.EqAt.int_str i t y u _ _ _ _ h
    · rcases keyIs_shape hv with ⟨j, u, rfl, rfl⟩ | ⟨y, u, rfl, rfl⟩
      · rw [key_rl] at h; exact SeqAt.EqAt.str_int x t j u _ _ _ _ h
      · rw [key_rr] at h; exact wpAny_eqBool_str h
  «strs» := fun k x t v h => by
    rcases keyIs_shape h with ⟨i, u, rfl, e⟩ | ⟨y, u, rfl, e⟩
    · exact nomatch e
    · injection e with e1 _
      subst e1
      cases v <;> rfl

end L2

namespace L2
open PySem PySem.Spec PyProof.Rows

/-- a value, without the heap -/
inductive V where
  | non | bl (b : Bool) | int (i : Int) | str (x : Str) | byt (b : Array UInt8) | flt (b : UInt64) | ref (a : Addr) | ty (n : String)
  deriving DecidableEq

def RelV : V → Value → Prop
  | .non, u => u = Value.none
  | .bl b, u => u = Value.bool b
  | .int i, u => ∃ t, u = Value.int i t
  | .str x, u => ∃ t, u = Value.str x t
  | .byt b, u => ∃ t, u = Value.bytes b t
  | .flt b, u => ∃ t, u = Value.float b t
  | .ref a, u => u = Value.ref a
  | .ty n, u => u = Value.type n

abbrev Vals : List V → List Value → Prop := Paired RelV
theorem Vals.length {xs : List V} {us : List Value} (r : Vals xs us) : xs.length = us.length := Paired.length r
theorem Vals.get : ∀ {xs : List V} {us : List Value} {i : Nat} {x : V}, Vals xs us → xs[i]? = some x → ∃ u, us[i]? = some u ∧ RelV x u
  | _, _, _, _, .nil, e => by simp at e
  | _, _, 0, _, .cons r _, e => by simp at e; subst e; exact ⟨_, rfl, r⟩
  | _, _, i + 1, x, .cons _ t, e => by
    obtain ⟨u, h1, h2⟩ := Vals.get (i := i) (x := x) t (by simpa using e)
    exact ⟨u, by simpa using h1, h2⟩
theorem Vals.set {x : V} {u : Value} (r : RelV x u) : ∀ {xs : List V} {us : List Value} (i : Nat), Vals xs us → Vals (xs.set i x) (us.set i u)
  | _, _, _, .nil => .nil
  | _, _, 0, .cons _ t => .cons r t
  | _, _, i + 1, .cons q t => .cons q (Vals.set r i t)
theorem Vals.append : ∀ {xs ys : List V} {us ws : List Value}, Vals xs us → Vals ys ws → Vals (xs ++ ys) (us ++ ws)
  | _, _, _, _, .nil, s => s
  | _, _, _, _, .cons r t, s => .cons r (Vals.append t s)
theorem Vals.take : ∀ {xs : List V} {us : List Value} (n : Nat), Vals xs us → Vals (xs.take n) (us.take n)
  | _, _, 0, _ => .nil
  | _, _, _ + 1, .nil => .nil
  | _, _, n + 1, .cons r t => .cons r (Vals.take n t)
theorem Vals.drop : ∀ {xs : List V} {us : List Value} (n : Nat), Vals xs us → Vals (xs.drop n) (us.drop n)
  | _, _, 0, r => r
  | _, _, _ + 1, .nil => .nil
  | _, _, n + 1, .cons _ t => Vals.drop n t
def RelO : Option V → Option Value → Prop
  | some v, some u => RelV v u
  | none, none => True
  | _, _ => False
def KV {κ : Type} : List (κ × V) → List (κ × Value) → Prop := Paired fun (p : κ × V) (q : κ × Value) => p.1 = q.1 ∧ RelV p.2 q.2

/-- a key of a dict (00_mix): an int or a text -/
def kV : Key → V
  | .inl i => .int i
  | .inr x => .str x

/-- what stands at a tracked address -/
inductive HO where
  /-- a list -/
  | lst (xs : List V)
  /-- a tuple (never changes) -/
  | tup (xs : List V)
  /-- a dict whose keys are ints and texts; one whose keys are tuples of ints and texts (the empty one is both) -/
  | dK (kvs : List (Key × V)) | dT (kvs : List (List Key × V))
  /-- a set of ints: its members, its size -/
  | set (S : Int → Bool) (n : Nat)
  /-- an instance of the class at C, its dict at dx, its attributes -/
  | ins (C dx : Addr) (fs : List (Str × V))
  /-- the dict of the instance at x -/
  | own (x : Addr)
  /-- the dict of an exception -/
  | xd (fs : List (Str × V))
  /-- a bound method, f of x -/
  | met (f x : Addr)
  /-- a range object lo, lo + 1, .. below hi -/
  | rng (lo hi : Int)
  /-- a thing that is known to the object (the script; a dict while a loop walks it): read, never written while it is so -/
  | frz (o : Obj) (u : HO)
  /-- a code object's table -/
  | tbl (ps : Array Value)
  /-- any other thing, by what is true of its one object (a def of one's own: SetO a S n := HO.ext fun h => ..) -/
  | ext (φ : Heap → Prop)

abbrev Hp := Addr → Option HO
def upd (H : Hp) (a : Addr) (o : HO) : Hp := fun b => if b = a then some o else H b
theorem upd_same {H : Hp} {a : Addr} {o : HO} : upd H a o a = some o := by unfold upd; rw [if_pos rfl]
theorem upd_ne {H : Hp} {a b : Addr} {o : HO} (h : b ≠ a) : upd H a o b = H b := by unfold upd; rw [if_neg h]
/-- two objects of different content stand apart -/
theorem ne_of {H : Hp} {a b : Addr} {o u : HO} (h : H a = some o) (h' : H b = some u) (d : o ≠ u) : a ≠ b := by
  intro e; subst e; rw [h] at h'; exact d (Option.some.inj h')
theorem ne_of_none {H : Hp} {a b : Addr} {o : HO} (h : H a = some o) (h' : H b = none) : a ≠ b := by
  intro e; subst e; rw [h] at h'; cases h'

section
variable (P : Program) (w : World)
def ObjOk (H : Hp) (h : Heap) (a : Addr) : HO → Prop
  | .lst xs => xs.length ≤ sizeLine ∧ ∃ (its : List Value) (n : Nat), Vals xs its ∧ h.get? a = some { cls := .type "list", data := .seq its.toArray n }
  | .tup xs => xs.length ≤ sizeLine ∧ ∃ its : List Value, Vals xs its ∧ IsTup h a its.toArray
  | .dK kvs => kvs.length ≤ sizeLine ∧ (a == sysModules) = false ∧ ∃ vs, KV kvs vs ∧ h.DictOf (mixKind P w) a vs
  | .dT kvs => kvs.length ≤ sizeLine ∧ (a == sysModules) = false ∧ ∃ xs : List (List Key × Addr × Value),
      Paired (fun (p : List Key × V) (q : List Key × Addr × Value) => p.1 = q.1 ∧ H q.2.1 = some (.tup (p.1.map kV)) ∧ RelV p.2 q.2.2) kvs xs ∧
      ∃ o es ep, h.get? a = some o ∧ o.ExactDict ∧ o.data = .dict es ep ∧ es.toList = xs.map (entryOfKey (tupleKind (mixKind P w))) ∧ (xs.map (·.1)).Nodup
  | .set S n => h.SetOf (intKind P w) a S n
  | .ins C dx fs => H dx = some (.own a) ∧ fs.length ≤ 1000 ∧ dx ≠ a ∧ h.get? a = some (PySem.W.instObj C dx) ∧
      ∃ mA, h.Ns1 dx mA ∧ (∀ f, RelO (fs.lookup f) (mA f)) ∧ PySem.Within mA (fs.map (·.1))
  | .own _ => ∃ o, h.get? a = some o
  | .xd fs => ∃ mA, h.Ns1 a mA ∧ ∀ f, RelO (fs.lookup f) (mA f)
  | .rng lo hi => ∃ t u v, h.get? a = some { cls := .type "range", data := .fields #[.int lo t, .int hi u, .int 1 v] }
  | .frz o u => h.get? a = some o ∧ ObjOk H h a u
  | .tbl ps => h.get? a = some { cls := .none, data := .fields ps }
  | .met f x => h.get? a = some (PySem.W.methodObj (.ref f) (.ref x))
  | .ext φ => φ h ∧ (∃ o, h.get? a = some o) ∧ ∀ h1 h2 : Heap, φ h1 → (∀ o, h1.get? a = some o → h2.get? a = some o) → φ h2
/-- the abstract heap is held -/
def HOk (H : Hp) (h : Heap) : Prop := ∀ a o, H a = some o → ObjOk P w H h a o
end

section
variable {P : Program} {w : World} {H H' : Hp} {h h' : Heap} {a : Addr} {o : HO}
theorem ObjOk.lt (x : ObjOk P w H h a o) : a < h.objs.size := by
  cases o with
  | lst xs => obtain ⟨_, _, _, _, e⟩ := x; exact Heap.lt_size e
  | tup xs => obtain ⟨_, _, _, p⟩ := x; exact p.lt
  | dK kvs => obtain ⟨_, _, _, _, o, _, _, e, _⟩ := x; exact Heap.lt_size e
  | dT kvs => obtain ⟨_, _, _, _, o, _, _, e, _⟩ := x; exact Heap.lt_size e
  | set S n => obtain ⟨o, _, _, _, e, _⟩ := x; exact Heap.lt_size e
  | ins C dx fs => obtain ⟨_, _, _, e, _⟩ := x; exact Heap.lt_size e
  | own y => obtain ⟨_, e⟩ := x; exact Heap.lt_size e
  | xd fs => obtain ⟨_, ⟨_, _, _, e, _⟩, _⟩ := x; exact Heap.lt_size e
  | rng lo hi => obtain ⟨_, _, _, e⟩ := x; exact Heap.lt_size e
  | frz ob u => obtain ⟨e, _⟩ := x; exact Heap.lt_size e
  | tbl ps => exact Heap.lt_size (show h.get? a = some _ from x)
  | met f y => exact Heap.lt_size (show h.get? a = some _ from x)
  | ext φ => obtain ⟨_, ⟨_, e⟩, _⟩ := x; exact Heap.lt_size e
theorem Paired.mapP {α β : Type} {F G : α → β → Prop} : ∀ {l₁ : List α} {l₂ : List β}, Paired F l₁ l₂ → (∀ a b, F a b → G a b) → Paired G l₁ l₂
  | _, _, .nil, _ => .nil
  | _, _, .cons r t, f => .cons (f _ _ r) (Paired.mapP t f)
/-- what an object's description leans on: its own object, its own dict, the tuples -/
theorem ObjOk.stay (x : ObjOk P w H h a o) (k : ∀ b u, (b = a ∨ H b = some (.own a)) → h.get? b = some u → h'.get? b = some u)
    (ho : ∀ b, H b = some (.own a) → H' b = some (.own a)) (ht : ∀ b xs, H b = some (.tup xs) → H' b = some (.tup xs)) : ObjOk P w H' h' a o := by
  induction o with
  | lst xs => obtain ⟨z, its, n, r, e⟩ := x; exact ⟨z, its, n, r, k _ _ (.inl rfl) e⟩
  | tup xs => obtain ⟨z, its, r, ob, e, c⟩ := x; exact ⟨z, its, r, ob, k _ _ (.inl rfl) e, c⟩
  | dK kvs => obtain ⟨z, y, vs, r, ob, es, ep, e, c⟩ := x; exact ⟨z, y, vs, r, ob, es, ep, k _ _ (.inl rfl) e, c⟩
  | dT kvs =>
    obtain ⟨z, y, xs, r, ob, es, ep, e, c⟩ := x
    exact ⟨z, y, xs, Paired.mapP r fun p q z => ⟨z.1, ht _ _ z.2.1, z.2.2⟩, ob, es, ep, k _ _ (.inl rfl) e, c⟩
  | set S n => obtain ⟨ob, es, ep, t, e, c⟩ := x; exact ⟨ob, es, ep, t, k _ _ (.inl rfl) e, c⟩
  | ins C dx fs =>
    obtain ⟨d, z, ne, e, mA, ⟨od, es, ep, e2, c⟩, r⟩ := x
    exact ⟨ho _ d, z, ne, k _ _ (.inl rfl) e, mA, ⟨od, es, ep, k _ _ (.inr d) e2, c⟩, r⟩
  | own y => obtain ⟨ob, e⟩ := x; exact ⟨ob, k _ _ (.inl rfl) e⟩
  | xd fs => obtain ⟨mA, ⟨od, es, ep, e, c⟩, r⟩ := x; exact ⟨mA, ⟨od, es, ep, k _ _ (.inl rfl) e, c⟩, r⟩
  | rng lo hi => obtain ⟨t, u, v, e⟩ := x; exact ⟨t, u, v, k _ _ (.inl rfl) e⟩
  | frz ob u ih => obtain ⟨e, q⟩ := x; exact ⟨k _ _ (.inl rfl) e, ih q⟩
  | tbl ps =>
    have e : h.get? a = some { cls := .none, data := .fields ps } := x
    show h'.get? a = some { cls := .none, data := .fields ps }
    exact k a _ (.inl rfl) e
  | met f y =>
    have e : h.get? a = some (PySem.W.methodObj (.ref f) (.ref y)) := x
    show h'.get? a = some (PySem.W.methodObj (.ref f) (.ref y))
    exact k a _ (.inl rfl) e
  | ext φ => obtain ⟨p, ⟨o, e⟩, st⟩ := x; exact ⟨st _ _ p fun o q => k _ _ (.inl rfl) q, ⟨o, k _ _ (.inl rfl) e⟩, st⟩
theorem HOk.lt (x : HOk P w H h) (e : H a = some o) : a < h.objs.size := (x a o e).lt
theorem HOk.fresh (x : HOk P w H h) (e : h.objs.size ≤ a) : H a = none := by
  cases q : H a with
  | none => rfl
  | some u => exact absurd (Nat.lt_of_lt_of_le (x.lt q) e) (Nat.lt_irrefl _)
/-- every object of the heap is kept -/
theorem HOk.kept (x : HOk P w H h) (k : ∀ b u, h.get? b = some u → h'.get? b = some u) : HOk P w H h' := fun a o e =>
  (x a o e).stay (fun b u _ q => k b u q) (fun _ q => q) fun _ _ q => q
/-- a new object is laid and tracked -/
theorem HOk.laid (x : HOk P w H h) (k : ∀ b u, h.get? b = some u → h'.get? b = some u) (hp : h.objs.size ≤ a) (new : ObjOk P w (upd H a o) h' a o) : HOk P w (upd H a o) h' := fun b u e => by
  have hn := x.fresh hp
  by_cases hb : b = a
  · subst hb; rw [upd_same] at e; cases e; exact new
  · rw [upd_ne hb] at e
    exact (x b u e).stay (fun c v _ q => k c v q) (fun c q => by rw [upd_ne (ne_of_none q hn)]; exact q) fun c xs q => by rw [upd_ne (ne_of_none q hn)]; exact q
end

/-- what may be read as u: it is u, or a known u -/
def Rd (H : Hp) (a : Addr) (u : HO) : Prop := H a = some u ∨ ∃ o, H a = some (.frz o u)
theorem Rd.ok {P : Program} {w : World} {H : Hp} {h : Heap} {a : Addr} {u : HO} (r : Rd H a u) (x : HOk P w H h) : ObjOk P w H h a u := by
  rcases r with r | ⟨o, r⟩
  · exact x a u r
  · obtain ⟨_, q⟩ := x a _ r
    exact q
/-- what may be written -/
def Mut : Option HO → Prop
  | some (.lst _) => True
  | some (.dK _) => True
  | some (.dT _) => True
  | some (.set _ _) => True
  | some (.ins _ _ _) => True
  | some (.ext _) => True
  | _ => False
section
variable {P : Program} {w : World} {H : Hp} {h h' : Heap} {x e : Addr} {o' : HO}
/-- the object at e is changed: x itself, or the dict of the instance x -/
theorem HOk.write (ok : HOk P w H h) (mu : Mut (H x)) (he : e = x ∨ H e = some (.own x)) (k : ∀ b u, b ≠ e → h.get? b = some u → h'.get? b = some u) (heo : ∃ u, h'.get? e = some u)
    (new : ObjOk P w (upd H x o') h' x o') : HOk P w (upd H x o') h' := fun b u q => by
  have nown : ∀ c y, H c = some (.own y) → c ≠ x := fun c y r z => by subst z; rw [r] at mu; exact mu
  have ntup : ∀ c xs, H c = some (.tup xs) → c ≠ x := fun c xs r z => by subst z; rw [r] at mu; exact mu
  by_cases hb : b = x
  · subst hb; rw [upd_same] at q; cases q; exact new
  · rw [upd_ne hb] at q
    by_cases hbe : b = e
    · have q' : H b = some (.own x) := by
        rcases he with z | z
        · exact absurd (hbe.trans z) hb
        · rw [hbe]; exact z
      rw [q] at q'; cases q'
      obtain ⟨v, hv⟩ := heo
      exact ⟨v, by rw [hbe]; exact hv⟩
    · refine (ok b u q).stay (fun c v hc r => k c v ?_ r) (fun c r => by rw [upd_ne (nown c b r)]; exact r) fun c xs r => by rw [upd_ne (ntup c xs r)]; exact r
      rcases hc with rfl | hc
      · exact hbe
      · rintro rfl
        rcases he with z | z
        · exact nown c b hc z
        · rw [hc] at z; cases z; exact hb rfl
end

/-! ### kept unless tracked; of the frames at fs (the callers') the slots may change (an exception that passes writes there); of the records at ex (iterators) nothing is said -/
structure Un (fs ex : List Addr) (H H' : Hp) (h h' : Heap) : Prop where
  keep : ∀ b o, h.get? b = some o → H b = none → b ∉ fs → b ∉ ex → h'.get? b = some o
  slot : ∀ b o, h.get? b = some o → H b = none → b ∈ fs → b ∉ ex → ∃ sl, h'.get? b = some { o with slots := sl }
  free : ∀ b o, h.get? b = some o → H b = none → b ∉ ex → H' b = none
  there : ∀ b o, h.get? b = some o → b ∉ ex → ∃ o', h'.get? b = some o'
  tups : ∀ b xs, H b = some (.tup xs) → H' b = some (.tup xs)
  frzs : ∀ b o u, H b = some (.frz o u) → H' b = some (.frz o u)
  tbls : ∀ b ps, H b = some (.tbl ps) → ∃ more, H' b = some (.tbl (ps ++ more))
section
variable {fs fs' ex ex' : List Addr} {H H1 H2 : Hp} {h h1 h2 h' : Heap} {a x e : Addr} {o : HO}
theorem Un.any (u : Un fs ex H H1 h h1) {b : Addr} {ob : Obj} (q : h.get? b = some ob) (n : H b = none) (hx : b ∉ ex) : ∃ sl, h1.get? b = some { ob with slots := sl } := by
  by_cases hb : b ∈ fs
  · exact u.slot b ob q n hb hx
  · exact ⟨ob.slots, u.keep b ob q n hb hx⟩
theorem Un.kept (k : ∀ b u, h.get? b = some u → h'.get? b = some u) : Un fs ex H H h h' :=
  ⟨fun b ob q _ _ _ => k b ob q, fun b ob q _ _ _ => ⟨ob.slots, k b ob q⟩, fun _ _ _ n _ => n, fun b ob q _ => ⟨ob, k b ob q⟩, fun _ _ q => q, fun _ _ _ q => q, fun _ ps q => ⟨#[], by rw [q]; simp⟩⟩
theorem Un.refl : Un fs ex H H h h := Un.kept fun _ _ q => q
theorem Un.laid (k : ∀ b u, h.get? b = some u → h'.get? b = some u) (hp : h.objs.size ≤ a) (hn : H a = none) : Un fs ex H (upd H a o) h h' where
  keep := fun b u q _ _ _ => k b u q
  slot := fun b u q _ _ _ => ⟨u.slots, k b u q⟩
  free := fun b u q n _ => by rw [upd_ne (Nat.ne_of_lt (Nat.lt_of_lt_of_le (Heap.lt_size q) hp))]; exact n
  there := fun b u q _ => ⟨u, k b u q⟩
  tups := fun b xs q => by rw [upd_ne (ne_of_none q hn)]; exact q
  frzs := fun b u xs q => by rw [upd_ne (ne_of_none q hn)]; exact q
  tbls := fun b ps q => ⟨#[], by rw [upd_ne (ne_of_none q hn), q]; simp⟩
theorem Un.write (mu : Mut (H x)) (he : e = x ∨ H e = some (.own x)) (k : ∀ b u, b ≠ e → h.get? b = some u → h'.get? b = some u) (heo : ∃ u, h'.get? e = some u) : Un fs ex H (upd H x o) h h' := by
  have hx : ∀ b, H b = none → b ≠ x := fun b n z => by subst z; rw [n] at mu; exact mu
  have hb : ∀ b, H b = none → b ≠ e := fun b n z => by
    subst z
    rcases he with r | r
    · exact hx b n r
    · rw [n] at r; cases r
  have hm : ∀ b u, H b = some u → ¬ Mut (some u) → b ≠ x := fun b u q nm z => by subst z; rw [q] at mu; exact nm mu
  refine ⟨fun b u q n _ _ => k b u (hb b n) q, fun b u q n _ _ => ⟨u.slots, k b u (hb b n) q⟩, fun b u q n _ => by rw [upd_ne (hx b n)]; exact n, fun b u q _ => ?_,
    fun b xs q => by rw [upd_ne (hm b _ q fun z => z)]; exact q, fun b u xs q => by rw [upd_ne (hm b _ q fun z => z)]; exact q, fun b ps q => ⟨#[], by rw [upd_ne (hm b _ q fun z => z), q]; simp⟩⟩
  by_cases hbe : b = e
  · subst hbe; exact heo
  · exact ⟨u, k b u hbe q⟩
end

/-! ### the heap without what is tracked -/
def trk (h : Heap) (H : Hp) : List Addr := (List.range h.objs.size).filter fun a => (H a).isSome
def hidT (h : Heap) (H : Hp) : Heap := PySem.W.hideAll h (trk h H)
theorem hidT_size (h : Heap) (H : Hp) : (hidT h H).objs.size = h.objs.size := PySem.W.hideAll_size _ _
theorem hidT_get {h : Heap} {H : Hp} {b : Addr} {o : Obj} (e : h.get? b = some o) (n : H b = none) : (hidT h H).get? b = some o :=
  PySem.W.hideAll_get _ e fun hm => by
    have q : (H b).isSome = true := (List.mem_filter.mp hm).2
    rw [n] at q; simp at q
theorem of_hidT {h : Heap} {H : Hp} {b : Addr} {o : Obj} (e : (hidT h H).get? b = some o) : h.get? b = some o ∧ H b = none := by
  have e' : h.get? b = some o := PySem.W.of_hideAll (trk h H) e
  refine ⟨e', ?_⟩
  cases q : H b with
  | none => rfl
  | some x =>
    have hm : b ∈ trk h H := List.mem_filter.mpr ⟨List.mem_range.mpr (Heap.lt_size e'), by simp [q]⟩
    have z : (hidT h H).get? b = none := PySem.W.hideAll_none (trk h H) hm
    rw [z] at e; cases e

/-! ### OpenK's ledger, filled with every new object but one -/
def allNews (g h : Heap) (L : Addr) : List (Addr × Obj) := (List.range h.objs.size).filterMap fun a => if a = L ∨ (g.get? a).isSome = true then none else (h.get? a).map fun o => (a, o)
def rest (g h : Heap) (L d : Addr) : List (Addr × Obj) := (allNews g h L).filter fun p => decide (p.1 ≠ d)
end L2

namespace L2
open PySem PySem.Spec PyProof.Rows

/-- the module's facts, over the base: the heap at the law's entry without what is tracked there -/
structure Mod (K : PySem.W.Frag) (mg : Str → Option Value) (base : Heap) : Prop where
  kin : K.In base
  glob : base.Ns mainGlobals mg
  blt : ∃ mb, base.Ns builtinsNs mb ∧ ∀ x : Str, x ≠ "__name__" → mb x = bootBuiltins x
  nolimit : base.NoLimit

/-- the context: a def's body (or a comprehension's block) running. base: fixed through the whole law; s₀, H₀: the entry; outer: the frames whose slots others may change (a def's callers); stack: all frames that run;
   ex: iterators that were made ahead of the entry and are walked here (a comprehension's); fn: the names whose cells were made at the entry (a def: all; a comprehension's block: its own); calm: not within an except suite; pn: pins that every state bears; xe: what is wanted of an exception that leaves the code -/
structure Cx where
  prog : Program
  w : World
  K : PySem.W.Frag
  mg : Str → Option Value
  base : Heap
  A : Around
  N : List Str
  s₀ : Shared
  H₀ : Hp
  env : Env
  outer : List Env
  stack : List Env
  ex : List Addr
  fn : Str → Bool
  calm : Bool
  pn : List (Addr × Obj)
  xe : Value → Shared → Prop
/-- the callers' frames -/
def frs (l : List Env) : List Addr := l.filterMap (·.frame)
abbrev Cx.fs (X : Cx) : List Addr := frs X.outer

def Vis (sc : Scope) (x : Str) : Prop := sc.names.lookup x = some .local ∨ sc.names.lookup x = some .cell ∨ sc.names.lookup x = some .free
def Loc (sc : Scope) (x : Str) : Prop := sc.names.lookup x = some .local ∨ sc.names.lookup x = some .cell
def Look (env : Env) (h : Heap) (m : Str → Option Value) (x : Str) (u : Value) : Prop :=
  (env.kindOf x = some .local ∧ m x = some u) ∨ ((env.kindOf x = some .cell ∨ env.kindOf x = some .free) ∧ ∃ c, env.cells.lookup x = some c ∧ h.IsCell c (some u))

structure Cx.Ok (X : Cx) : Prop where
  mod : Mod X.K X.mg X.base
  kind : X.env.scope.kind = .function
  glob : X.env.globals = mainGlobals
  blt : X.env.builtins = builtinsNs
  above : X.s₀.heap.objs.size ≤ X.env.locals
  inj : ∀ x y c, X.env.cells.lookup x = some c → X.env.cells.lookup y = some c → x = y
  has : ∀ x, (X.env.kindOf x = some .cell ∨ X.env.kindOf x = some .free) → ∃ c, X.env.cells.lookup x = some c
  cab : ∀ x c, X.fn x = true → X.env.cells.lookup x = some c → X.s₀.heap.objs.size ≤ c
  hd : X.calm = true → X.A.handled = none
  frames : X.A.frames = some X.stack
  stk : X.stack = X.outer ∨ (X.stack = X.env :: X.outer ∧ X.env.frame = some X.env.locals)
  exf : ∀ b ∈ X.ex, b ≠ X.env.locals ∧ ∀ x c, X.env.cells.lookup x = some c → c ≠ b
  bs : ∀ b o, X.base.get? b = some o → X.s₀.heap.get? b = some o ∧ X.H₀ b = none
  bsz : X.base.objs.size ≤ X.s₀.heap.objs.size
  noex : ∀ b o, X.base.get? b = some o → b ∉ X.ex
  exfs : ∀ b ∈ X.ex, b ∉ X.fs
  funs : X.s₀.heap.FunFrames X.base X.outer
  frf : ∀ b ∈ X.fs, X.H₀ b = none

structure Inv (X : Cx) (pins : List (Addr × Obj)) (σ : List (Option V)) (H : Hp) (s : Shared) : Prop where
  ok : X.Ok
  os : s.os = X.s₀.os
  bare : AllBare s.gens
  base : Un X.fs X.ex X.H₀ H X.s₀.heap s.heap
  loc : ∃ m, s.heap.Ns X.env.locals m ∧ ∀ (i : Nat) (x : Str) (v : V), X.N[i]? = some x → σ[i]? = some (some v) → Vis X.env.scope x → ∃ u, RelV v u ∧ Look X.env s.heap m x u
  cell : ∀ x c, X.env.cells.lookup x = some c → ∃ v, s.heap.IsCell c v
  free : H X.env.locals = none
  freeC : ∀ x c, X.env.cells.lookup x = some c → H c = none
  pin : ∀ p ∈ X.pn ++ pins, s.heap.get? p.1 = some p.2 ∧ H p.1 = none ∧ p.1 ≠ X.env.locals ∧ p.1 ∉ X.fs ∧ ∀ v, p.2.data ≠ .cell v
  hok : HOk X.prog X.w H s.heap
  len : σ.length = X.N.length

section
variable {X : Cx} {pins : List (Addr × Obj)} {σ : List (Option V)} {H H' : Hp} {s : Shared} {h' : Heap}

theorem Cx.Ok.nofr (ok : X.Ok) {b : Addr} {o : Obj} (e : X.base.get? b = some o) : b ∉ X.fs := fun hb => by
  have := (ok.funs.mem hb).1
  rw [e] at this; cases this
theorem Inv.bs (I : Inv X pins σ H s) : ∀ b o, X.base.get? b = some o → s.heap.get? b = some o ∧ H b = none := fun b o e =>
  ⟨I.base.keep b o (I.ok.bs b o e).1 (I.ok.bs b o e).2 (I.ok.nofr e) (I.ok.noex b o e), I.base.free b o (I.ok.bs b o e).1 (I.ok.bs b o e).2 (I.ok.noex b o e)⟩
theorem Inv.bk (I : Inv X pins σ H s) : ∀ b o, X.base.get? b = some o → s.heap.get? b = some o := fun b o e => (I.bs b o e).1
theorem Inv.mod (I : Inv X pins σ H s) : Mod X.K X.mg X.base := I.ok.mod
theorem Inv.kIn (I : Inv X pins σ H s) : X.K.In s.heap := I.ok.mod.kin.keeps I.bk
/-- the frame over the base: for OpenK's rules (K.In X.base is I.mod.kin) -/
theorem Inv.fr (I : Inv X pins σ H s) : ∃ m, Fr X.base X.env.locals s.heap m :=
  let ⟨m, hn, _⟩ := I.loc
  ⟨m, hn, I.bk, Nat.le_trans I.ok.bsz I.ok.above⟩
theorem Inv.lt (I : Inv X pins σ H s) : X.env.locals < s.heap.objs.size := let ⟨_, hn, _⟩ := I.loc; hn.lt
theorem Inv.sz (I : Inv X pins σ H s) : X.s₀.heap.objs.size ≤ s.heap.objs.size := Nat.le_trans I.ok.above (Nat.le_of_lt I.lt)
theorem Inv.nofs (I : Inv X pins σ H s) {a : Addr} (h : s.heap.objs.size ≤ a) : a ∉ X.fs := fun hb => by
  obtain ⟨_, o, ho, _⟩ := I.ok.funs.mem hb
  exact absurd (Nat.lt_of_lt_of_le (Heap.lt_size ho) (Nat.le_trans I.sz h)) (Nat.lt_irrefl _)
theorem Inv.cne (I : Inv X pins σ H s) : ∀ x c, X.env.cells.lookup x = some c → c ≠ X.env.locals := fun x c e z => by
  obtain ⟨v, o, ho, hd⟩ := I.cell x c e
  obtain ⟨m, ⟨o', es, ep, ho', hd', _⟩, _⟩ := I.loc
  rw [z, ho'] at ho; cases ho; rw [hd'] at hd; cases hd
theorem Inv.funs (I : Inv X pins σ H s) : s.heap.FunFrames X.base X.outer := by
  have all : ∀ (l : List Env), (∀ b ∈ frs l, b ∈ X.fs) → X.s₀.heap.FunFrames X.base l → s.heap.FunFrames X.base l := by
    intro l
    induction l with
    | nil => intro _ _; trivial
    | cons env r ih =>
      intro hs hl
      obtain ⟨hk, ⟨L, o, hf, hn, ho, hd⟩, hr⟩ := hl
      have hL : L ∈ X.fs := hs L (by unfold frs; rw [List.filterMap_cons, hf]; exact List.mem_cons_self)
      obtain ⟨sl, e⟩ := I.base.slot L o ho (I.ok.frf L hL) hL fun z => I.ok.exfs L z hL
      exact ⟨hk, ⟨L, _, hf, hn, e, hd⟩, ih (fun b hb => hs b (by unfold frs; rw [List.filterMap_cons, hf]; exact List.mem_cons_of_mem _ hb)) hr⟩
  exact all X.outer (fun _ hb => hb) I.ok.funs

/-- the frames that run, for a call -/
theorem Inv.stack (I : Inv X pins σ H s) : s.heap.FunFrames X.base X.stack := by
  rcases I.ok.stk with e | ⟨e, hf⟩
  · rw [e]; exact I.funs
  · rw [e]
    obtain ⟨m, hn, _⟩ := I.loc
    refine .cons (by rw [I.ok.kind]; decide) hf hn ?_ I.funs
    exact Heap.get?_none_of_le (Nat.le_trans I.ok.bsz I.ok.above)
theorem Inv.stkSub (I : Inv X pins σ H s) : ∀ b ∈ frs X.stack, b ∈ X.env.locals :: X.fs := fun b hb => by
  rcases I.ok.stk with e | ⟨e, hf⟩
  · rw [e] at hb; exact List.mem_cons_of_mem _ hb
  · rw [e] at hb
    unfold frs at hb
    rw [List.filterMap_cons, hf] at hb
    exact hb
theorem Inv.stkFree (I : Inv X pins σ H s) : ∀ b ∈ frs X.stack, H b = none := fun b hb => by
  rcases List.mem_cons.mp (I.stkSub b hb) with e | hb
  · rw [e]; exact I.free
  · obtain ⟨_, o, ho, _⟩ := I.ok.funs.mem hb
    exact I.base.free b o ho (I.ok.frf b hb) fun z => I.ok.exfs b z hb

/-- THE STEP: the untracked objects but the frame and the records at ch are kept (the callers' frames up to slots), the frame's map is kept, the new abstract heap is held -/
theorem Inv.step {g' : Array GenState} {t' : Nat} {d' : Drawn} {ch : List Addr} (I : Inv X pins σ H s)
    (hch : ∀ b ∈ ch, (b ∈ X.ex ∨ X.s₀.heap.objs.size ≤ b) ∧ b ≠ X.env.locals ∧ (∀ x c, X.env.cells.lookup x = some c → c ≠ b) ∧ ∀ p ∈ X.pn ++ pins, p.1 ≠ b)
    (keep : ∀ b o, b ≠ X.env.locals → b ∉ X.fs → b ∉ ch → s.heap.get? b = some o → H b = none → h'.get? b = some o)
    (slot : ∀ b o, b ≠ X.env.locals → b ∈ X.fs → b ∉ ch → s.heap.get? b = some o → H b = none → ∃ sl, h'.get? b = some { o with slots := sl }) (free : ∀ b o, b ∉ ch → s.heap.get? b = some o → H b = none → H' b = none)
    (there : ∀ b o, b ∉ ch → s.heap.get? b = some o → ∃ o', h'.get? b = some o')
    (tups : ∀ b xs, H b = some (.tup xs) → H' b = some (.tup xs)) (frzs : ∀ b o u, H b = some (.frz o u) → H' b = some (.frz o u)) (tbls : ∀ b ps, H b = some (.tbl ps) → ∃ more, H' b = some (.tbl (ps ++ more)))
    (ns : ∀ m, s.heap.Ns X.env.locals m → h'.Ns X.env.locals m) (hok : HOk X.prog X.w H' h') (hg : AllBare g') :
    Inv X pins σ H' { s with heap := h', gens := g', drawn := d', toks := t' } := by
  have neL : ∀ b o, X.s₀.heap.get? b = some o → b ≠ X.env.locals := fun b o e => Nat.ne_of_lt (Nat.lt_of_lt_of_le (Heap.lt_size e) I.ok.above)
  have neC : ∀ b o, X.s₀.heap.get? b = some o → b ∉ X.ex → b ∉ ch := fun b o e hx hb => by
    rcases (hch b hb).1 with z | z
    · exact hx z
    · exact absurd (Nat.lt_of_lt_of_le (Heap.lt_size e) z) (Nat.lt_irrefl _)
  have cellK : ∀ x c, X.env.cells.lookup x = some c → ∀ v, s.heap.IsCell c v → h'.IsCell c v := fun x c e v ⟨o, ho, hd⟩ => by
    have nch : c ∉ ch := fun z => (hch c z).2.2.1 x c e rfl
    by_cases hc : c ∈ X.fs
    · obtain ⟨sl, q⟩ := slot c o (I.cne x c e) hc nch ho (I.freeC x c e)
      exact ⟨_, q, hd⟩
    · exact ⟨o, keep c o (I.cne x c e) hc nch ho (I.freeC x c e), hd⟩
  refine ⟨I.ok, I.os, hg, ⟨fun b o e n hb hx => ?_, fun b o e n hb hx => ?_, fun b o e n hx => ?_, fun b o e hx => ?_, fun b xs e => tups b xs (I.base.tups b xs e), fun b o xs e => frzs b o xs (I.base.frzs b o xs e), fun b ps e => ?_⟩, ?_, fun x c e => ?_, ?_, fun x c e => ?_, fun p hp => ?_, hok, I.len⟩
  · exact keep b o (neL b o e) hb (neC b o e hx) (I.base.keep b o e n hb hx) (I.base.free b o e n hx)
  · obtain ⟨sl, e1⟩ := I.base.slot b o e n hb hx
    obtain ⟨sl', e2⟩ := slot b _ (neL b o e) hb (neC b o e hx) e1 (I.base.free b o e n hx)
    exact ⟨sl', e2⟩
  · obtain ⟨o', e1⟩ := I.base.there b o e hx
    exact free b o' (neC b o e hx) e1 (I.base.free b o e n hx)
  · obtain ⟨o', e1⟩ := I.base.there b o e hx
    exact there b o' (neC b o e hx) e1
  · obtain ⟨m1, e1⟩ := I.base.tbls b ps e
    obtain ⟨m2, e2⟩ := tbls b _ e1
    exact ⟨m1 ++ m2, by rw [e2, Array.append_assoc]⟩
  · obtain ⟨m, hn, hl⟩ := I.loc
    refine ⟨m, ns m hn, fun i x v e1 e2 e3 => ?_⟩
    obtain ⟨u, r, l⟩ := hl i x v e1 e2 e3
    refine ⟨u, r, ?_⟩
    rcases l with l | ⟨k, c, e, z⟩
    · exact .inl l
    · exact .inr ⟨k, c, e, cellK x c e _ z⟩
  · obtain ⟨v, z⟩ := I.cell x c e
    exact ⟨v, cellK x c e v z⟩
  · obtain ⟨m, ⟨o, _, _, ho, _⟩, _⟩ := I.loc
    exact free _ o (fun z => (hch _ z).2.1 rfl) ho I.free
  · obtain ⟨v, o, ho, hd⟩ := I.cell x c e
    exact free c o (fun z => (hch c z).2.2.1 x c e rfl) ho (I.freeC x c e)
  · obtain ⟨e, n, ne, nf, d⟩ := I.pin p hp
    have nch : p.1 ∉ ch := fun z => (hch p.1 z).2.2.2 p hp rfl
    exact ⟨keep p.1 p.2 ne nf nch e n, free p.1 p.2 nch e n, ne, nf, d⟩
/-- .. where the frame's own object is kept too -/
theorem Inv.un {t' : Nat} (I : Inv X pins σ H s) (u : Un X.fs [] H H' s.heap h') (hok : HOk X.prog X.w H' h') : Inv X pins σ H' { s with heap := h', toks := t' } := by
  obtain ⟨m, ⟨o, es, ep, ho, r⟩, _⟩ := id I.loc
  obtain ⟨sl, hL⟩ := u.any ho I.free (by simp)
  exact I.step (g' := s.gens) (d' := s.drawn) (ch := []) (fun _ z => nomatch z) (fun b o _ hb _ e n => u.keep b o e n hb (by simp)) (fun b o _ hb _ e n => u.slot b o e n hb (by simp)) (fun b o _ e n => u.free b o e n (by simp)) (fun b o _ e => u.there b o e (by simp)) u.tups u.frzs u.tbls (fun m' hm => by
    obtain ⟨o', es', ep', ho', r'⟩ := hm
    rw [ho] at ho'; cases ho'
    exact ⟨_, es', ep', hL, r'⟩) hok I.bare
/-- behind a call (or a comprehension's block): the slots of this frame may have changed too, the records at ch may have turned -/
theorem Inv.call {g' : Array GenState} {t' : Nat} {d' : Drawn} {ch : List Addr} (I : Inv X pins σ H s) (u : Un (frs X.stack) ch H H' s.heap h') (hok : HOk X.prog X.w H' h') (hg : AllBare g')
    (hch : ∀ b ∈ ch, (b ∈ X.ex ∨ X.s₀.heap.objs.size ≤ b) ∧ b ≠ X.env.locals ∧ (∀ x c, X.env.cells.lookup x = some c → c ≠ b) ∧ ∀ p ∈ X.pn ++ pins, p.1 ≠ b) :
    Inv X pins σ H' { s with heap := h', gens := g', drawn := d', toks := t' } := by
  obtain ⟨m, ⟨o, es, ep, ho, r⟩, _⟩ := id I.loc
  obtain ⟨sl, hL⟩ := u.any ho I.free fun z => (hch _ z).2.1 rfl
  exact I.step (ch := ch) hch (fun b o hL hb hc e n => u.keep b o e n (fun z => (List.mem_cons.mp (I.stkSub b z)).elim hL hb) hc) (fun b o _ _ hc e n => u.any e n hc) (fun b o hc e n => u.free b o e n hc) (fun b o hc e => u.there b o e hc) u.tups u.frzs u.tbls (fun m' hm => by
    obtain ⟨o', es', ep', ho', r'⟩ := hm
    rw [ho] at ho'; cases ho'
    exact ⟨_, es', ep', hL, r'⟩) hok hg
/-- an untracked record of ours (an iterator) has turned -/
theorem Inv.turned {t' : Nat} {it : Addr} (I : Inv X pins σ H s) (k : ∀ b o, b ≠ it → s.heap.get? b = some o → h'.get? b = some o) (hn : H it = none) (hL : it ≠ X.env.locals)
    (h1 : it ∈ X.ex ∨ X.s₀.heap.objs.size ≤ it) (h2 : ∀ x c, X.env.cells.lookup x = some c → c ≠ it) (h3 : ∀ p ∈ X.pn ++ pins, p.1 ≠ it) : Inv X pins σ H { s with heap := h', toks := t' } := by
  have nit : ∀ b u, H b = some u → b ≠ it := fun b u e z => by rw [z, hn] at e; cases e
  refine I.step (g' := s.gens) (d' := s.drawn) (ch := [it]) (fun b hb => ?_) (fun b o _ _ hc e _ => k b o (fun z => hc (by simp [z])) e) (fun b o _ _ hc e _ => ⟨o.slots, k b o (fun z => hc (by simp [z])) e⟩) (fun _ _ _ _ n => n)
    (fun b o hc e => ⟨o, k b o (fun z => hc (by simp [z])) e⟩) (fun _ _ e => e) (fun _ _ _ e => e) (fun b ps e => ⟨#[], by rw [e]; simp⟩) (fun m hm => ?_) (fun b u e => ?_) I.bare
  · have e : b = it := by simpa using hb
    subst e
    exact ⟨h1, hL, h2, h3⟩
  · obtain ⟨o, es, ep, ho, r⟩ := hm
    exact ⟨o, es, ep, k _ o (Ne.symm hL) ho, r⟩
  · refine (I.hok b u e).stay (fun c v hc q => k c v ?_ q) (fun _ q => q) fun _ _ q => q
    rcases hc with z | z
    · rw [z]; exact nit b u e
    · exact nit c _ z
theorem Inv.tok (I : Inv X pins σ H s) (t : Nat) : Inv X pins σ H { s with toks := t } := I.un (h' := s.heap) (t' := t) Un.refl I.hok
/-- all objects kept -/
theorem Inv.kept {t' : Nat} (I : Inv X pins σ H s) (k : ∀ b u, s.heap.get? b = some u → h'.get? b = some u) : Inv X pins σ H { s with heap := h', toks := t' } := I.un (Un.kept k) (I.hok.kept k)
/-- a new object laid and tracked -/
theorem Inv.laid {a : Addr} {o : HO} {t' : Nat} (I : Inv X pins σ H s) (k : ∀ b u, s.heap.get? b = some u → h'.get? b = some u) (hp : s.heap.objs.size ≤ a) (new : ObjOk X.prog X.w (upd H a o) h' a o) :
    Inv X pins σ (upd H a o) { s with heap := h', toks := t' } := I.un (Un.laid k hp (I.hok.fresh hp)) (I.hok.laid k hp new)
/-- an object written -/
theorem Inv.write {x e : Addr} {o : HO} {t' : Nat} (I : Inv X pins σ H s) (mu : Mut (H x)) (he : e = x ∨ H e = some (.own x)) (k : ∀ b u, b ≠ e → s.heap.get? b = some u → h'.get? b = some u) (heo : ∃ u, h'.get? e = some u)
    (new : ObjOk X.prog X.w (upd H x o) h' x o) : Inv X pins σ (upd H x o) { s with heap := h', toks := t' } := I.un (Un.write mu he k heo) (I.hok.write mu he k heo new)
/-- forgetting slots, pins -/
theorem Inv.weak {σ' : List (Option V)} (I : Inv X pins σ H s) (hl : σ'.length = σ.length) (w : ∀ (i : Nat) v, σ'[i]? = some (some v) → σ[i]? = some (some v)) : Inv X pins σ' H s :=
  ⟨I.ok, I.os, I.bare, I.base, let ⟨m, hn, hl'⟩ := I.loc; ⟨m, hn, fun i x v e1 e2 e3 => hl' i x v e1 (w i v e2) e3⟩, I.cell, I.free, I.freeC, I.pin, I.hok, hl.trans I.len⟩
theorem Inv.pins_of {pins' : List (Addr × Obj)} (I : Inv X pins σ H s) (h : ∀ p ∈ pins', s.heap.get? p.1 = some p.2 ∧ H p.1 = none ∧ p.1 ≠ X.env.locals ∧ p.1 ∉ X.fs ∧ ∀ v, p.2.data ≠ .cell v) : Inv X pins' σ H s :=
  ⟨I.ok, I.os, I.bare, I.base, I.loc, I.cell, I.free, I.freeC, fun p hp => (List.mem_append.mp hp).elim (fun z => I.pin p (List.mem_append_left _ z)) (h p), I.hok, I.len⟩

theorem nodup_ix {N : List Str} (hN : N.Nodup) {i j : Nat} {x : Str} (a : N[i]? = some x) (b : N[j]? = some x) : i = j := by
  obtain ⟨h1, e1⟩ := List.getElem?_eq_some_iff.mp a
  obtain ⟨h2, e2⟩ := List.getElem?_eq_some_iff.mp b
  exact (List.getElem_inj hN).mp (e1.trans e2.symm)

/-- a name is stored; what changed -/
theorem store_ok2 {M : Model} {A : Around} {E : Value → Shared → Prop} {i : Nat} {x : Str} {v : V} {u : Value} {Q : Unit → Shared → Prop} (I : Inv X pins σ H s) (hN : X.N.Nodup) (hi : X.N[i]? = some x) (hx : Loc X.env.scope x) (r : RelV v u)
    (h : ∀ s', Inv X pins (σ.set i (some v)) H s' → (∃ a, Heap.SameBut a s.heap s'.heap ∧ (a = X.env.locals ∨ X.env.cells.lookup x = some a)) → Q () s') (hf : X.fn x = true ∨ X.env.scope.names.lookup x = some .local := by first | exact .inl rfl | exact .inr rfl | assumption) : wpAny M A (storeName X.env x u) Q E s := by
  obtain ⟨m, hn, hl⟩ := id I.loc
  have hcls : (X.env.scope.kind == .class || (X.env.scope.kind == .module && X.env.locals != X.env.globals)) = false := by rw [I.ok.kind]; rfl
  have hiσ : i < σ.length := by rw [I.len]; exact (List.getElem?_eq_some_iff.mp hi).1
  have cne := I.cne
  have tracked : ∀ {a : Addr} {h' : Heap}, (∃ o, s.heap.get? a = some o ∧ H a = none) → Heap.SameBut a s.heap h' → HOk X.prog X.w H h' := fun {a h'} ha hs b ob e => by
    obtain ⟨_, _, hfree⟩ := ha
    refine (I.hok b ob e).stay (fun c w' hc q => (hs.2 c ?_).trans q) (fun _ q => q) fun _ _ q => q
    rintro rfl
    rcases hc with rfl | hc
    · rw [hfree] at e; cases e
    · rw [hfree] at hc; cases hc
  rcases hx with hk | hk
  · refine wpAny_storeName_local hk hn (fun h' hn' hs => ?_) hcls
    obtain ⟨oL, _, _, hoL, _⟩ := id hn
    refine h _ ⟨I.ok, I.os, I.bare, ⟨fun b o e n hb hx => ?_, fun b o e n hb hx => ?_, I.base.free, fun b o e hx => ?_, I.base.tups, I.base.frzs, I.base.tbls⟩, ⟨_, hn', fun j y v' e1 e2 e3 => ?_⟩, fun y c e => ?_, I.free, I.freeC, fun p hp => ?_, tracked ⟨oL, hoL, I.free⟩ hs, by simpa using I.len⟩ ⟨_, hs, .inl rfl⟩
    · exact (hs.2 b (Nat.ne_of_lt (Nat.lt_of_lt_of_le (Heap.lt_size e) I.ok.above))).trans (I.base.keep b o e n hb hx)
    · obtain ⟨sl, e1⟩ := I.base.slot b o e n hb hx
      exact ⟨sl, (hs.2 b (Nat.ne_of_lt (Nat.lt_of_lt_of_le (Heap.lt_size e) I.ok.above))).trans e1⟩
    · obtain ⟨o', e1⟩ := I.base.there b o e hx
      exact ⟨o', (hs.2 b (Nat.ne_of_lt (Nat.lt_of_lt_of_le (Heap.lt_size e) I.ok.above))).trans e1⟩
    · by_cases hj : j = i
      · subst hj
        rw [hi] at e1; cases e1
        rw [List.getElem?_set_self hiσ] at e2
        cases e2
        exact ⟨u, r, .inl ⟨hk, by simp⟩⟩
      · rw [List.getElem?_set_ne (Ne.symm hj)] at e2
        obtain ⟨u', r', q⟩ := hl j y v' e1 e2 e3
        refine ⟨u', r', ?_⟩
        rcases q with ⟨k, e⟩ | ⟨k, c, e, z⟩
        · refine .inl ⟨k, ?_⟩
          have : y ≠ x := fun e => hj (nodup_ix hN e1 (e ▸ hi))
          simp [this, e]
        · exact .inr ⟨k, c, e, z.sameBut hs (cne y c e)⟩
    · obtain ⟨w', z⟩ := I.cell y c e
      exact ⟨w', z.sameBut hs (cne y c e)⟩
    · obtain ⟨e, n, ne, nf, d⟩ := I.pin p hp
      exact ⟨(hs.2 p.1 ne).trans e, n, ne, nf, d⟩
  · have hfn : X.fn x = true := by
      rcases hf with z | z
      · exact z
      · rw [z] at hk; cases hk
    obtain ⟨c, hc⟩ := I.ok.has x (.inl hk)
    obtain ⟨w', z⟩ := I.cell x c hc
    refine wpAny_storeName_cell I.ok.kind hk hc z (fun h' hc' hs => ?_)
    obtain ⟨oc, hoc, hocd⟩ := id z
    refine h { s with heap := h' } ⟨I.ok, I.os, I.bare, ⟨fun b o e n hb hx => ?_, fun b o e n hb hx => ?_, I.base.free, fun b o e hx => ?_, I.base.tups, I.base.frzs, I.base.tbls⟩, ⟨m, hn.sameBut hs (Ne.symm (cne x c hc)), fun j y v' e1 e2 e3 => ?_⟩, fun y c' e => ?_, I.free, I.freeC, fun p hp => ?_, tracked ⟨oc, hoc, I.freeC x c hc⟩ hs, by simpa using I.len⟩ ⟨c, hs, .inr hc⟩
    · exact (hs.2 b (Nat.ne_of_lt (Nat.lt_of_lt_of_le (Heap.lt_size e) (I.ok.cab x c hfn hc)))).trans (I.base.keep b o e n hb hx)
    · obtain ⟨sl, e1⟩ := I.base.slot b o e n hb hx
      exact ⟨sl, (hs.2 b (Nat.ne_of_lt (Nat.lt_of_lt_of_le (Heap.lt_size e) (I.ok.cab x c hfn hc)))).trans e1⟩
    · obtain ⟨o', e1⟩ := I.base.there b o e hx
      exact ⟨o', (hs.2 b (Nat.ne_of_lt (Nat.lt_of_lt_of_le (Heap.lt_size e) (I.ok.cab x c hfn hc)))).trans e1⟩
    · by_cases hj : j = i
      · subst hj
        rw [hi] at e1; cases e1
        rw [List.getElem?_set_self hiσ] at e2
        cases e2
        exact ⟨u, r, .inr ⟨.inl hk, c, hc, hc'⟩⟩
      · rw [List.getElem?_set_ne (Ne.symm hj)] at e2
        obtain ⟨u', r', q⟩ := hl j y v' e1 e2 e3
        refine ⟨u', r', ?_⟩
        rcases q with q | ⟨k, c', e, z'⟩
        · exact .inl q
        · refine .inr ⟨k, c', e, z'.sameBut hs ?_⟩
          rintro rfl
          exact hj (nodup_ix hN e1 (I.ok.inj _ _ _ e hc ▸ hi))
    · by_cases hcc : c' = c
      · subst hcc; exact ⟨_, hc'⟩
      · obtain ⟨w2, z2⟩ := I.cell y c' e
        exact ⟨w2, z2.sameBut hs hcc⟩
    · obtain ⟨e, n, ne, nf, d⟩ := I.pin p hp
      refine ⟨(hs.2 p.1 ?_).trans e, n, ne, nf, d⟩
      intro q
      rw [q, hoc] at e
      have q' : oc = p.2 := Option.some.inj e
      exact d w' (by rw [← q']; exact hocd)
theorem store_ok {M : Model} {A : Around} {E : Value → Shared → Prop} {i : Nat} {x : Str} {v : V} {u : Value} {Q : Unit → Shared → Prop} (I : Inv X pins σ H s) (hN : X.N.Nodup) (hi : X.N[i]? = some x) (hx : Loc X.env.scope x) (r : RelV v u)
    (h : ∀ s', Inv X pins (σ.set i (some v)) H s' → Q () s') (hf : X.fn x = true ∨ X.env.scope.names.lookup x = some .local := by first | exact .inl rfl | exact .inr rfl | assumption) : wpAny M A (storeName X.env x u) Q E s :=
  store_ok2 I hN hi hx r (fun s' I' _ => h s' I') hf
/-- behind a call or a block, the state as it is -/
theorem Inv.call' {s' : Shared} {ch : List Addr} (I : Inv X pins σ H s) (ho : s'.os = s.os) (u : Un (frs X.stack) ch H H' s.heap s'.heap) (hok : HOk X.prog X.w H' s'.heap) (hg : AllBare s'.gens)
    (hch : ∀ b ∈ ch, (b ∈ X.ex ∨ X.s₀.heap.objs.size ≤ b) ∧ b ≠ X.env.locals ∧ (∀ x c, X.env.cells.lookup x = some c → c ≠ b) ∧ ∀ p ∈ X.pn ++ pins, p.1 ≠ b) : Inv X pins σ H' s' := by
  obtain ⟨h', g', d', t', o'⟩ := s'
  have e : o' = s.os := ho
  subst e
  exact I.call (g' := g') (t' := t') (d' := d') u hok hg hch
end

/-! ### the judgements -/
/-- an exception: its class, its own dict's address (where it has one), the abstract heap behind it -/
abbrev XK := Value → Option Addr → Hp → Prop
abbrev St := List (Option V)
abbrev VK := V → Hp → Prop
/-- an expression's reading; a test's; an argument list's -/
abbrev TE := St → Hp → VK → Prop
abbrev TT := St → Hp → (Bool → Hp → Prop) → Prop
abbrev TA := St → Hp → (List V → Hp → Prop) → Prop
/-- what is wanted behind a statement -/
structure Ends where
  nx : St → Hp → Prop
  rt : VK
  bk : St → Hp → Prop := fun _ _ => False
  ct : St → Hp → Prop := fun _ _ => False
abbrev TS := Ends → St → Hp → Prop

def EP (X : Cx) (pins : List (Addr × Obj)) (σ : St) (Q : VK) (u : Value) (s' : Shared) : Prop := ∃ v H', Inv X pins σ H' s' ∧ RelV v u ∧ Q v H'
def TP (X : Cx) (pins : List (Addr × Obj)) (σ : St) (Q : Bool → Hp → Prop) (b : Bool) (s' : Shared) : Prop := ∃ H', Inv X pins σ H' s' ∧ Q b H'
def AP (X : Cx) (pins : List (Addr × Obj)) (σ : St) (Q : List V → Hp → Prop) (us : List Value) (s' : Shared) : Prop := ∃ vs H', Inv X pins σ H' s' ∧ Vals vs us ∧ Q vs H'
def SP (X : Cx) (pins : List (Addr × Obj)) (D : Ends) (f : Flow) (s' : Shared) : Prop :=
  match f with
  | .next => ∃ σ' H', Inv X pins σ' H' s' ∧ D.nx σ' H'
  | .brk => ∃ σ' H', Inv X pins σ' H' s' ∧ D.bk σ' H'
  | .cont => ∃ σ' H', Inv X pins σ' H' s' ∧ D.ct σ' H'
  | .ret u => ∃ v σ' H', Inv X pins σ' H' s' ∧ RelV v u ∧ D.rt v H'

def PE (X : Cx) (e : Expr) (t : TE) : Prop :=
  ∀ (pins : List (Addr × Obj)) (s : Shared) (σ : St) (H : Hp) (Q : VK), Inv X pins σ H s → t σ H Q → wpAny (model X.prog X.w) X.A (eval e X.env) (EP X pins σ Q) X.xe s
def PT (X : Cx) (e : Expr) (t : TT) : Prop :=
  ∀ (pins : List (Addr × Obj)) (s : Shared) (σ : St) (H : Hp) (Q : Bool → Hp → Prop), Inv X pins σ H s → t σ H Q → wpAny (model X.prog X.w) X.A (isTrue e X.env (eval e X.env)) (TP X pins σ Q) X.xe s
/-- a test whatever its 'whole' is (and, or) -/
def PW (X : Cx) (e : Expr) (t : TT) : Prop :=
  ∀ (whole : Sem Value) (pins : List (Addr × Obj)) (s : Shared) (σ : St) (H : Hp) (Q : Bool → Hp → Prop), Inv X pins σ H s → t σ H Q → wpAny (model X.prog X.w) X.A (isTrue e X.env whole) (TP X pins σ Q) X.xe s
theorem PW.pt {X : Cx} {e : Expr} {t : TT} (h : PW X e t) : PT X e t := h _
/-- an argument list (no star), from the left -/
def PA (X : Cx) (es : List Expr) (t : TA) : Prop :=
  ∀ (pos : Pos) (pins : List (Addr × Obj)) (s : Shared) (σ : St) (H : Hp) (Q : List V → Hp → Prop), Inv X pins σ H s → t σ H Q → wpAny (model X.prog X.w) X.A (spliced (backTo pos (starEach es X.env))) (AP X pins σ Q) X.xe s
def PS (X : Cx) (st : Stmt) (t : TS) : Prop :=
  ∀ (pins : List (Addr × Obj)) (s : Shared) (σ : St) (H : Hp) (D : Ends), Inv X pins σ H s → t D σ H → wpAny (model X.prog X.w) X.A (exec st X.env) (SP X pins D) X.xe s
def PSs (X : Cx) (st : List Stmt) (t : TS) : Prop :=
  ∀ (pins : List (Addr × Obj)) (s : Shared) (σ : St) (H : Hp) (D : Ends), Inv X pins σ H s → t D σ H → wpAny (model X.prog X.w) X.A (execs st X.env) (SP X pins D) X.xe s
/-- weaken the end -/
theorem thn {α : Type} {t : Sem α} {Q Q' : α → Shared → Prop} {M : Model} {A : Around} {E : Value → Shared → Prop} {s : Shared} (h : wpAny M A t Q E s) (hQ : ∀ a s, Q a s → Q' a s) : wpAny M A t Q' E s := wpAny_mono h hQ fun _ _ x => x
end L2

namespace L2
open PySem PySem.Spec PyProof.Rows
section
variable {X : Cx}

/-- two expressions in a row -/
theorem bin {a b : Expr} {ta tb : TE} (ha : PE X a ta) (hb : PE X b tb) {pins : List (Addr × Obj)} {s : Shared} {σ : St} {H : Hp} {R : V → V → Hp → Prop} (I : Inv X pins σ H s) (h : ta σ H fun x H1 => tb σ H1 fun y H2 => R x y H2)
    {α : Type} {Q : α → Shared → Prop} {f : Value → Value → Sem α}
    (hf : ∀ v u s2 x y H2, Inv X pins σ H2 s2 → RelV x v → RelV y u → R x y H2 → wpAny (model X.prog X.w) X.A (f v u) Q X.xe s2) :
    wpAny (model X.prog X.w) X.A (eval a X.env) (fun v s₁ => wpAny (model X.prog X.w) X.A (eval b X.env) (fun u s₂ => wpAny (model X.prog X.w) X.A (f v u) Q X.xe s₂) X.xe s₁) X.xe s := by
  refine thn (ha pins s σ H _ I h) fun v s1 ⟨x, H1, I1, r1, q1⟩ => ?_
  refine thn (hb pins s1 σ H1 _ I1 q1) fun u s2 ⟨y, H2, I2, r2, q2⟩ => ?_
  exact hf v u s2 x y H2 I2 r1 r2 q2

/-! ### names and constants -/
def tVar (i : Nat) : TE := fun σ H Q => ∃ v, σ[i]? = some (some v) ∧ Q v H
def tC (v : V) : TE := fun _ H Q => Q v H
theorem pe_var {i : Nat} {x : Str} {pos : Pos} (hN : X.N[i]? = some x) (hv : Vis X.env.scope x) (hd : (x == ("__debug__" : Str)) = false := by decide) (hcd : (x == ("__classdict__" : Str)) = false := by decide) : PE X (.Name x pos) (tVar i) := by
  intro pins s σ H Q I h
  obtain ⟨v, e, h⟩ := h
  obtain ⟨m, hn, hl⟩ := I.loc
  obtain ⟨u, r, l⟩ := hl i x v hN e hv
  have fin : EP X pins σ Q u s := ⟨v, H, I, r, h⟩
  rcases l with ⟨hk, hm⟩ | ⟨hk, c, hc, hcell⟩
  · exact wpAny_Name (wpAny_loadName_local I.ok.kind hk hn hm fin) hd
  · rcases hk with hk | hk
    · exact wpAny_Name (wpAny_loadName_cell I.ok.kind hk hc hcell fin) hd
    · exact wpAny_Name (wpAny_loadName_free I.ok.kind hk hc hcell fin hcd) hd
theorem pe_int {i j pos} : PE X (.Constant (.int i) j pos) (tC (.int i)) := fun _ _ _ H _ I h => wpAny_Constant_int ⟨.int i, H, I.tok _, ⟨_, rfl⟩, h⟩
theorem pe_bl {b j pos} : PE X (.Constant (.bool b) j pos) (tC (.bl b)) := fun _ _ _ H _ I h => Constant_bool ⟨.bl b, H, I, rfl, h⟩
theorem pe_non {j pos} : PE X (.Constant .none j pos) (tC .non) := fun _ _ _ H _ I h => Constant_none ⟨.non, H, I, rfl, h⟩
theorem pe_str {x j pos} : PE X (.Constant (.str x) j pos) (tC (.str x)) := fun _ _ _ H _ I h => Calls.Constant_str ⟨.str x, H, I.tok _, ⟨_, rfl⟩, h⟩

/-- a global name of the def -/
def Gl (X : Cx) (x : Str) : Prop := X.env.kindOf x = some .globalImplicit
theorem ld_glob {E : Value → Shared → Prop} {pins : List (Addr × Obj)} {s : Shared} {σ : St} {H : Hp} {x : Str} {u : Value} {pos : Pos} {Q : Value → Shared → Prop} (I : Inv X pins σ H s) (hg : Gl X x) (hm : X.mg x = some u) (h : Q u s)
    (hd : (x == ("__debug__" : Str)) = false := by decide) : wpAny (model X.prog X.w) X.A (eval (.Name x pos) X.env) Q E s :=
  Calls.Name_function_global I.ok.kind hg (Calls.loadGlobal_global (by rw [I.ok.glob]; exact I.mod.glob.keeps I.bk) hm h) hd
theorem ld_blt {E : Value → Shared → Prop} {pins : List (Addr × Obj)} {s : Shared} {σ : St} {H : Hp} {x : Str} {u : Value} {pos : Pos} {Q : Value → Shared → Prop} (I : Inv X pins σ H s) (hg : Gl X x) (hm : X.mg x = none) (hv : bootBuiltins x = some u) (h : Q u s)
    (hn : x ≠ "__name__" := by decide) (hd : (x == ("__debug__" : Str)) = false := by decide) : wpAny (model X.prog X.w) X.A (eval (.Name x pos) X.env) Q E s := by
  obtain ⟨mb, h1, h2⟩ := I.mod.blt
  exact Calls.Name_function_global I.ok.kind hg (Calls.loadGlobal_builtin (by rw [I.ok.glob]; exact I.mod.glob.keeps I.bk) hm (by rw [I.ok.blt]; exact h1.keeps I.bk) ((h2 x hn).trans hv) h) hd
/-- a module's constant, a class, a function, as a value -/
theorem pe_glob {x : Str} {v : V} {u : Value} {pos : Pos} (hg : Gl X x) (hm : X.mg x = some u) (r : RelV v u) (hd : (x == ("__debug__" : Str)) = false := by decide) : PE X (.Name x pos) (tC v) :=
  fun _ _ _ H _ I h => ld_glob I hg hm ⟨v, H, I, r, h⟩ hd
theorem pe_bltn {x : Str} {v : V} {u : Value} {pos : Pos} (hg : Gl X x) (hm : X.mg x = none) (hv : bootBuiltins x = some u) (r : RelV v u) (hn : x ≠ "__name__" := by decide) (hd : (x == ("__debug__" : Str)) = false := by decide) : PE X (.Name x pos) (tC v) :=
  fun _ _ _ H _ I h => ld_blt I hg hm hv ⟨v, H, I, r, h⟩ hn hd

/-! ### arithmetic -/
variable {a b : Expr} {ta tb : TE} {pos : Pos}
/-! ### comparisons -/
def PC (X : Cx) (op : CmpOp) (a b : Expr) (t : TE) : Prop :=
  ∀ (pins : List (Addr × Obj)) (s : Shared) (σ : St) (H : Hp) (Q : VK), Inv X pins σ H s → t σ H Q →
    wpAny (model X.prog X.w) X.A (eval a X.env) (fun v s₁ => wpAny (model X.prog X.w) X.A (eval b X.env) (fun u s₂ => wpAny (model X.prog X.w) X.A (compareOp op v u) (EP X pins σ Q) X.xe s₂) X.xe s₁) X.xe s
theorem nobehind (b : Expr) {op : CmpOp} (h : op ≠ .In) (h2 : op ≠ .NotIn) : behindInMarks op b = false := by
  have e1 : (op == CmpOp.In) = false := by cases op <;> first | rfl | exact absurd rfl h
  have e2 : (op == CmpOp.NotIn) = false := by cases op <;> first | rfl | exact absurd rfl h2
  cases b <;> simp [behindInMarks, e1, e2]
/-- a comparison as a value, as a test -/
def tB (t : TE) : TT := fun σ H Q => t σ H fun x H1 => ∃ c, x = .bl c ∧ Q c H1
theorem pe_cmp {op : CmpOp} {t : TE} (h : PC X op a b t) (h1 : behindInMarks op b = false := by first | exact nobehind _ (by decide) (by decide) | rfl) : PE X (.Compare a [op] [b] pos) t := fun pins s σ H Q I hw => wpAny_Compare1 (h pins s σ H Q I hw) h1
theorem pt_cmp {op : CmpOp} {t : TE} (h : PC X op a b t) (h1 : behindInMarks op b = false := by first | exact nobehind _ (by decide) (by decide) | rfl) : PT X (.Compare a [op] [b] pos) (tB t) := by
  intro pins s σ H Q I hw
  refine wpAny_isTrue_Compare1 (thn (h pins s σ H _ I hw) fun v s1 h1 => thn h1 fun u s2 h2 => thn h2 fun c s3 ⟨x, H1, I1, r1, q1⟩ => ?_) h1
  obtain ⟨d, rfl, q⟩ := q1
  cases r1
  exact wpAny_truthy_bool ⟨H1, I1, q⟩
/-- an expression whose value is a bool, as a test -/
theorem pt_val {e : Expr} {t : TE} (h : PE X e t) (he : ∀ whole, isTrue e X.env whole = (do let v ← whole; standAt e.pos; holding [v] (truthy v)) := by intro _; rfl) : PT X e (tB t) := by
  intro pins s σ H Q I hw
  refine isTrue_plain (thn (h pins s σ H _ I hw) fun v s1 ⟨x, H1, I1, r1, q1⟩ => ?_) (he _)
  obtain ⟨d, rfl, q⟩ := q1
  cases r1
  exact wpAny_truthy_bool ⟨H1, I1, q⟩

/-! ### and, or, not -/
variable {tA tB' : TT} {rest : List Expr}
def tOr (t u : TT) : TT := fun σ H Q => t σ H fun c H1 => if c = true then Q true H1 else u σ H1 Q
def tNot (t : TT) : TT := fun σ H Q => t σ H fun c H1 => Q (!c) H1
theorem pw_or1 (ha : PT X a tA) : PW X (.BoolOp .Or [a] pos) tA := by
  intro wh pins s σ H Q I h
  refine isTrue_or (thn (ha pins s σ H Q I h) fun c s1 e => ?_)
  cases c with
  | false => exact isTrue_or_nil e
  | true => exact e
theorem pw_or (ha : PT X a tA) (hb : PW X (.BoolOp .Or (b :: rest) pos) tB') : PW X (.BoolOp .Or (a :: b :: rest) pos) (tOr tA tB') := by
  intro wh pins s σ H Q I h
  refine isTrue_or (thn (ha pins s σ H _ I h) fun c s1 ⟨H1, I1, q1⟩ => ?_)
  cases c with
  | true => exact ⟨H1, I1, q1⟩
  | false => exact hb wh pins s1 σ H1 Q I1 q1
theorem pt_not (ha : PT X a tA) : PT X (.UnaryOp .Not a pos) (tNot tA) := by
  intro pins s σ H Q I h
  exact isTrue_not (ha pins s σ H (fun c H1 => Q (!c) H1) I h)
/-- .. as values (bools) -/
def tAndV (ta tb : TE) : TE := fun σ H Q => ta σ H fun x H1 => ∃ c, x = .bl c ∧ if c = true then tb σ H1 Q else Q (.bl false) H1
def tOrV (ta tb : TE) : TE := fun σ H Q => ta σ H fun x H1 => ∃ c, x = .bl c ∧ if c = true then Q (.bl true) H1 else tb σ H1 Q
def tNotV (ta : TE) : TE := fun σ H Q => ta σ H fun x H1 => ∃ c, x = .bl c ∧ Q (.bl (!c)) H1
theorem pe_one {op} {t : TE} (h : PE X a t) : PE X (.BoolOp op [a] pos) t := fun pins s σ H Q I hw => BoolOp_one (h pins s σ H Q I hw)
theorem pe_and (ha : PE X a ta) (hb : PE X (.BoolOp .And (b :: rest) pos) tb) : PE X (.BoolOp .And (a :: b :: rest) pos) (tAndV ta tb) := by
  intro pins s σ H Q I h
  refine BoolOp_and (thn (ha pins s σ H _ I h) fun v s1 ⟨x, H1, I1, r1, q1⟩ => ?_)
  obtain ⟨c, rfl, q1⟩ := q1
  cases r1
  refine wpAny_truthy_bool ?_
  cases c with
  | true => exact hb pins s1 σ H1 Q I1 q1
  | false => exact ⟨.bl false, H1, I1, rfl, q1⟩
theorem pe_or (ha : PE X a ta) (hb : PE X (.BoolOp .Or (b :: rest) pos) tb) : PE X (.BoolOp .Or (a :: b :: rest) pos) (tOrV ta tb) := by
  intro pins s σ H Q I h
  refine BoolOp_or (thn (ha pins s σ H _ I h) fun v s1 ⟨x, H1, I1, r1, q1⟩ => ?_)
  obtain ⟨c, rfl, q1⟩ := q1
  cases r1
  refine wpAny_truthy_bool ?_
  cases c with
  | false => exact hb pins s1 σ H1 Q I1 q1
  | true => exact ⟨.bl true, H1, I1, rfl, q1⟩
theorem pe_not (ha : PE X a ta) : PE X (.UnaryOp .Not a pos) (tNotV ta) := by
  intro pins s σ H Q I h
  refine UnaryOp_ (thn (ha pins s σ H _ I h) fun v s1 ⟨x, H1, I1, r1, q1⟩ => ?_)
  obtain ⟨c, rfl, q1⟩ := q1
  cases r1
  exact not_of (wpAny_truthy_bool ⟨.bl (!c), H1, I1, rfl, q1⟩)
/-- a if t else b -/
def tIf (t : TT) (ta tb : TE) : TE := fun σ H Q => t σ H fun c H1 => if c = true then ta σ H1 Q else tb σ H1 Q
theorem pe_ifExp {c : Expr} (hc : PT X c tA) (ha : PE X a ta) (hb : PE X b tb) : PE X (.IfExp c a b pos) (tIf tA ta tb) := by
  intro pins s σ H Q I h
  refine wpAny_IfExp (thn (hc pins s σ H _ I h) fun d s1 ⟨H1, I1, q1⟩ => ?_)
  cases d with
  | true => exact ha pins s1 σ H1 Q I1 q1
  | false => exact hb pins s1 σ H1 Q I1 q1
end
end L2

namespace L2
open PySem PySem.Spec PyProof.Rows

/-! ### a list, a tuple that is read: tracked, frozen, or an object of the module -/
def SqL (K : PySem.W.Frag) (H : Hp) (a : Addr) (xs : List V) : Prop :=
  Rd H a (.lst xs) ∨
    ∃ (o : Obj) (its : Array Value) (n : Nat), K.lookup a = some o ∧ o.cls = .type "list" ∧ o.dict = none ∧ o.data = .seq its n ∧ its.size ≤ sizeLine ∧ Vals xs its.toList
def SqT (K : PySem.W.Frag) (H : Hp) (a : Addr) (xs : List V) : Prop :=
  Rd H a (.tup xs) ∨
    ∃ (o : Obj) (its : Array Value) (n : Nat), K.lookup a = some o ∧ o.cls = .type "tuple" ∧ o.data = .seq its n ∧ its.size ≤ sizeLine ∧ Vals xs its.toList
def absV : Value → Option V
  | .none => some .non
  | .bool b => some (.bl b)
  | .int i _ => some (.int i)
  | .str x _ => some (.str x)
  | .bytes b _ => some (.byt b)
  | .float b _ => some (.flt b)
  | .ref a => some (.ref a)
  | .type n => some (.ty n)
  | _ => none
theorem RelV.abs {x : V} {u : Value} (r : RelV x u) : absV u = some x := by
  cases x with
  | non => cases r; rfl
  | bl _ => cases r; rfl
  | int _ => obtain ⟨t, rfl⟩ := r; rfl
  | str _ => obtain ⟨t, rfl⟩ := r; rfl
  | byt _ => obtain ⟨t, rfl⟩ := r; rfl
  | flt _ => obtain ⟨t, rfl⟩ := r; rfl
  | ref _ => cases r; rfl
  | ty _ => cases r; rfl
theorem RelV.inj {x y : V} {u : Value} (r : RelV x u) (q : RelV y u) : x = y := Option.some.inj (r.abs.symm.trans q.abs)
theorem Vals.inj : ∀ {xs ys : List V} {us : List Value}, Vals xs us → Vals ys us → xs = ys
  | _, _, _, .nil, .nil => rfl
  | _, _, _, .cons r t, .cons r' t' => by rw [r.inj r', Vals.inj t t']
section
variable {X : Cx} {pins : List (Addr × Obj)} {σ : St} {H : Hp} {s : Shared} {a : Addr} {xs ys : List V}
theorem SqL.of {K : PySem.W.Frag} (h : H a = some (.lst xs)) : SqL K H a xs := .inl (.inl h)
theorem SqT.of {K : PySem.W.Frag} (h : H a = some (.tup xs)) : SqT K H a xs := .inl (.inl h)
theorem Inv.list (I : Inv X pins σ H s) (h : SqL X.K H a xs) : ∃ its : List Value, Vals xs its ∧ PlainL s.heap a its.toArray ∧ xs.length ≤ sizeLine := by
  rcases h with h | ⟨o, its, n, hk, hc, hd, hs, hz, r⟩
  · obtain ⟨z, its, n, r, e⟩ := h.ok I.hok
    exact ⟨its, r, ⟨_, n, e, rfl, rfl, rfl⟩, z⟩
  · refine ⟨its.toList, r, ⟨o, n, I.kIn a o hk, hc, hd, by simpa using hs⟩, ?_⟩
    have e := r.length
    simp only [Array.length_toList] at e
    omega
theorem Inv.tuple (I : Inv X pins σ H s) (h : SqT X.K H a xs) : ∃ its : List Value, Vals xs its ∧ IsTup s.heap a its.toArray ∧ xs.length ≤ sizeLine := by
  rcases h with h | ⟨o, its, n, hk, hc, hs, hz, r⟩
  · obtain ⟨z, its, r, p⟩ := h.ok I.hok
    exact ⟨its, r, p, z⟩
  · refine ⟨its.toList, r, ⟨o, I.kIn a o hk, hc, n, by simpa using hs⟩, ?_⟩
    have e := r.length
    simp only [Array.length_toList] at e
    omega
theorem Inv.list_inj (I : Inv X pins σ H s) (h : SqL X.K H a xs) (h' : SqL X.K H a ys) : xs = ys := by
  obtain ⟨its, r, ⟨o, n, e, _, _, d⟩, _⟩ := I.list h
  obtain ⟨its', r', ⟨o', n', e', _, _, d'⟩, _⟩ := I.list h'
  rw [e] at e'; cases e'
  rw [d] at d'
  injection d' with d1 _
  have : its = its' := by simpa using congrArg Array.toList d1
  subst this
  exact r.inj r'
end

/-! ### another wish about exceptions -/
abbrev Cx.wish (X : Cx) (E : Value → Shared → Prop) : Cx := { X with xe := E }
/-- no exception leaves -/
abbrev Cx.nox (X : Cx) : Cx := X.wish fun _ _ => False
theorem Cx.Ok.wish {X : Cx} (ok : X.Ok) (E : Value → Shared → Prop) : (X.wish E).Ok :=
  ⟨ok.mod, ok.kind, ok.glob, ok.blt, ok.above, ok.inj, ok.has, ok.cab, ok.hd, ok.frames, ok.stk, ok.exf, ok.bs, ok.bsz, ok.noex, ok.exfs, ok.funs, ok.frf⟩
theorem Cx.Ok.unwish {X : Cx} {E : Value → Shared → Prop} (ok : (X.wish E).Ok) : X.Ok :=
  ⟨ok.mod, ok.kind, ok.glob, ok.blt, ok.above, ok.inj, ok.has, ok.cab, ok.hd, ok.frames, ok.stk, ok.exf, ok.bs, ok.bsz, ok.noex, ok.exfs, ok.funs, ok.frf⟩
section
variable {X : Cx} {pins : List (Addr × Obj)} {σ : St} {H : Hp} {s : Shared} {E : Value → Shared → Prop}
theorem Inv.wish (I : Inv X pins σ H s) (E : Value → Shared → Prop) : Inv (X.wish E) pins σ H s := ⟨I.ok.wish E, I.os, I.bare, I.base, I.loc, I.cell, I.free, I.freeC, I.pin, I.hok, I.len⟩
theorem Inv.unwish (I : Inv (X.wish E) pins σ H s) : Inv X pins σ H s := ⟨I.ok.unwish, I.os, I.bare, I.base, I.loc, I.cell, I.free, I.freeC, I.pin, I.hok, I.len⟩
theorem SP.unwish {D : Ends} {f : Flow} {s' : Shared} (h : SP (X.wish E) pins D f s') : SP X pins D f s' := by
  cases f with
  | next => obtain ⟨σ', H', I, q⟩ := h; exact ⟨σ', H', I.unwish, q⟩
  | brk => obtain ⟨σ', H', I, q⟩ := h; exact ⟨σ', H', I.unwish, q⟩
  | cont => obtain ⟨σ', H', I, q⟩ := h; exact ⟨σ', H', I.unwish, q⟩
  | ret u => obtain ⟨v, σ', H', I, r, q⟩ := h; exact ⟨v, σ', H', I.unwish, r, q⟩
theorem PSs.nox {st : List Stmt} {t : TS} (h : PSs X.nox st t) : PSs X st t := fun pins s σ H D I hw =>
  wpAny_mono (h pins s σ H D (I.wish _) hw) (fun _ _ q => q.unwish) fun _ _ z => False.elim z
end

/-! ### blocks and small statements -/
section
variable {X : Cx} {st : Stmt} {rest : List Stmt} {t u : TS} {e : Expr} {te : TE} {pos : Pos}
def tNext : TS := fun D σ H => D.nx σ H
def tSeq (t u : TS) : TS := fun D σ H => t { D with nx := u D } σ H
theorem pss_nil : PSs X [] tNext := fun _ _ σ H _ I h => wpAny_execs_nil ⟨σ, H, I, h⟩
theorem pss_cons (h1 : PS X st t) (h2 : PSs X rest u) : PSs X (st :: rest) (tSeq t u) := by
  intro pins s σ H D I h
  refine wpAny_execs_cons (thn (h1 pins s σ H { D with nx := u D } I h) fun f s1 q => ?_)
  cases f with
  | next =>
    obtain ⟨σ', H', I', q⟩ := q
    exact h2 pins s1 σ' H' D I' q
  | ret v => exact q
  | brk => exact q
  | cont => exact q
theorem pss_one (h1 : PS X st t) : PSs X [st] t := by
  intro pins s σ H D I h
  refine wpAny_execs_cons (thn (h1 pins s σ H D I h) fun f s1 q => ?_)
  cases f with
  | next => exact wpAny_execs_nil q
  | ret v => exact q
  | brk => exact q
  | cont => exact q
/-- in a def's body nothing is shown -/
theorem Inv.quiet {pins : List (Addr × Obj)} {σ : St} {H : Hp} {s : Shared} (I : Inv X pins σ H s) : interactive X.env = false := by simp [interactive, I.ok.kind]
/-- an expression whose value is dropped -/
def tDrop (te : TE) : TS := fun D σ H => te σ H fun _ H1 => D.nx σ H1
theorem ps_expr (he : PE X e te) (hs : swapsWith e none pos.line X.env = pure false := by rfl) : PS X (.Expr e pos) (tDrop te) := by
  intro pins s σ H D I h
  exact wpAny_Expr_any (thn (he pins s σ H _ I h) fun v s1 ⟨x, H1, I1, r1, q1⟩ => ⟨σ, H1, I1, q1⟩) I.quiet hs
def tRet (te : TE) : TS := fun D σ H => te σ H D.rt
theorem ps_ret (he : PE X e te) : PS X (.Return (some e) pos) (tRet te) := by
  intro pins s σ H D I h
  exact wpAny_Return_some (thn (he pins s σ H _ I h) fun v s1 ⟨x, H1, I1, r1, q1⟩ => ⟨x, σ, H1, I1, r1, q1⟩)
def tIfS (c : TT) (t u : TS) : TS := fun D σ H => c σ H fun b H1 => if b = true then t D σ H1 else u D σ H1
theorem ps_if {c : Expr} {a b : List Stmt} {tc : TT} (hc : PT X c tc) (ha : PSs X a t) (hb : PSs X b u) : PS X (.If c a b pos) (tIfS tc t u) := by
  intro pins s σ H D I h
  refine wpAny_If (thn (hc pins s σ H _ I h) fun d s1 ⟨H1, I1, q1⟩ => ?_)
  cases d with
  | true => exact ha pins s1 σ H1 D I1 q1
  | false => exact hb pins s1 σ H1 D I1 q1
end

/-! ### targets -/
abbrev TG := V → St → Hp → (St → Hp → Prop) → Prop
def PG (X : Cx) (target : Expr) (t : TG) : Prop :=
  ∀ (pins : List (Addr × Obj)) (s : Shared) (σ : St) (H : Hp) (v : V) (u : Value) (Q : St → Hp → Prop), Inv X pins σ H s → RelV v u → t v σ H Q →
    wpAny (model X.prog X.w) X.A (assign target X.env u) (fun _ s' => ∃ σ' H', Inv X pins σ' H' s' ∧ Q σ' H') X.xe s
/-- o[i] = v, by values -/
abbrev TSet := V → V → V → Hp → (Hp → Prop) → Prop
def PSet (X : Cx) (t : TSet) : Prop :=
  ∀ (pins : List (Addr × Obj)) (s : Shared) (σ : St) (H : Hp) (o i v : V) (ov iv u : Value) (Q : Hp → Prop), Inv X pins σ H s → RelV o ov → RelV i iv → RelV v u → t o i v H Q →
    wpAny (model X.prog X.w) X.A (setItem ov iv u) (fun _ s' => ∃ H', Inv X pins σ H' s' ∧ Q H') X.xe s
section
variable {X : Cx} {pos : Pos}
def gName (i : Nat) : TG := fun v σ H Q => Q (σ.set i (some v)) H
theorem pg_name {i : Nat} {x : Str} (hN : X.N.Nodup) (hi : X.N[i]? = some x) (hx : Loc X.env.scope x) (hf : X.fn x = true ∨ X.env.scope.names.lookup x = some .local := by first | exact .inl rfl | exact .inr rfl | assumption) : PG X (.Name x pos) (gName i) := by
  intro pins s σ H v u Q I r h
  exact wpAny_assign_Name (store_ok I hN hi hx r (fun s' I' => ⟨_, H, I', h⟩) hf)
/-- o[i] = .. -/
def gSub (to ti : TE) (t : TSet) : TG := fun v σ H Q => to σ H fun o H1 => ti σ H1 fun i H2 => t o i v H2 fun H3 => Q σ H3
theorem pg_sub {o i : Expr} {to ti : TE} {t : TSet} (ho : PE X o to) (hi : PE X i ti) (hs : PSet X t)
    (ha : ∀ v, assign (.Subscript o i pos) X.env v = (do
      let ov ← holding [v] (eval o X.env)
      let iv ← holding [v, ov] (eval i X.env)
      standAt pos
      holding [v, ov, iv] (setItem ov iv v)
      release [v, ov, iv] []) := by intro _; rfl) : PG X (.Subscript o i pos) (gSub to ti t) := by
  intro pins s σ H v u Q I r h
  rw [ha]
  refine wpAny_bind (wpAny_holding (thn (ho pins s σ H _ I h) fun ov s1 ⟨x, H1, I1, r1, q1⟩ => ?_))
  refine wpAny_bind (wpAny_holding (thn (hi pins s1 σ H1 _ I1 q1) fun iv s2 ⟨y, H2, I2, r2, q2⟩ => ?_))
  refine wpAny_bind (wpAny_standAt (wpAny_bind (wpAny_holding (thn (hs pins s2 σ H2 x y v ov iv u _ I2 r1 r2 r q2) fun _ s3 ⟨H3, I3, q3⟩ => ?_))))
  exact wpAny_release ⟨σ, H3, I3, q3⟩
/-- target = value -/
def tAsg (te : TE) (g : TG) : TS := fun D σ H => te σ H fun x H1 => g x σ H1 D.nx
theorem ps_asg {tg e : Expr} {te : TE} {g : TG} (he : PE X e te) (hg : PG X tg g) (hs : swapsWithSole [tg] e pos.line X.env = pure false := by rfl) (hw : swappedStores [tg] e X.env = pure none := by rfl)
    (h1 : (assignEach [tg] X.env).map (·.2) = [assign tg X.env] := by rfl) : PS X (.Assign [tg] e pos) (tAsg te g) := by
  intro pins s σ H D I h
  refine wpAny_Assign_stores (thn (he pins s σ H _ I h) fun v s1 ⟨x, H1, I1, r1, q1⟩ => ?_) hs hw
  rw [h1]
  exact thn (hg pins s1 σ H1 x v _ I1 r1 q1) fun _ s2 q => q
/-- name = value -/
theorem ps_set {i : Nat} {x : Str} {e : Expr} {te : TE} {pos' : Pos} (hN : X.N.Nodup) (hi : X.N[i]? = some x) (hx : Loc X.env.scope x) (he : PE X e te) (hs : swapsWith e (some (.Name x pos')) pos.line X.env = pure false := by rfl) (hf : X.fn x = true ∨ X.env.scope.names.lookup x = some .local := by first | exact .inl rfl | exact .inr rfl | assumption) :
    PS X (.Assign [.Name x pos'] e pos) (tAsg te (gName i)) := by
  intro pins s σ H D I h
  refine wpAny_Assign_Name (thn (he pins s σ H _ I h) fun v s1 ⟨y, H1, I1, r1, q1⟩ => ?_) hs
  exact store_ok I1 hN hi hx r1 (fun s2 I2 => ⟨_, H1, I2, q1⟩) hf
end

/-! ### while -/
section
variable {X : Cx} {pos : Pos}
end

/-! ### what a loop or a comprehension walks -/
/-- at turn i: it yields x (the heap may grow), or it stops -/
structure It where
  go : Nat → Hp → Prop
  yld : Nat → Hp → V → Hp → Prop
  stop : Nat → Hp → Prop
/-- the iterator's own objects may turn: they are not the frame's, not pinned, younger than the entry (or a comprehension's own) -/
def FpOk (X : Cx) (pins : List (Addr × Obj)) (H : Hp) (b : Addr) : Prop :=
  H b = none ∧ b ≠ X.env.locals ∧ b ∉ X.fs ∧ (b ∈ X.ex ∨ X.s₀.heap.objs.size ≤ b) ∧ (∀ x c, X.env.cells.lookup x = some c → c ≠ b) ∧ ∀ p ∈ X.pn ++ pins, p.1 ≠ b
theorem Inv.fpOk {X : Cx} {pins : List (Addr × Obj)} {σ : St} {H H' : Hp} {s : Shared} {b : Addr} (I : Inv X pins σ H s) (hb : s.heap.objs.size ≤ b) (hn : H' b = none) : FpOk X pins H' b := by
  refine ⟨hn, Nat.ne_of_gt (Nat.lt_of_lt_of_le I.lt hb), I.nofs hb, .inr (Nat.le_trans I.sz hb), fun x c e z => ?_, fun p hp z => ?_⟩
  · obtain ⟨v, q⟩ := I.cell x c e
    exact absurd (Nat.lt_of_lt_of_le q.lt (by rw [z]; exact hb)) (Nat.lt_irrefl _)
  · exact absurd (Nat.lt_of_lt_of_le (Heap.lt_size (I.pin p hp).1) (by rw [z]; exact hb)) (Nat.lt_irrefl _)
structure Turn (P : Program) (w : World) (K : PySem.W.Frag) (tg : Expr) (J : It) (fp : List Addr) (it : Addr) (tn : Nat → Heap → Prop) : Prop where
  mem : it ∈ fp
  obj : ∀ i h, tn i h → ∀ b ∈ fp, ∃ o, h.get? b = some o ∧ ∀ v, o.data ≠ .cell v
  keep : ∀ i h h', tn i h → (∀ b ∈ fp, ∀ o, h.get? b = some o → h'.get? b = some o) → tn i h'
  item : ∀ (X : Cx), X.prog = P → X.w = w → X.K = K → X.calm = true → ∀ (i : Nat) (pins : List (Addr × Obj)) (s : Shared) (σ : St) (H : Hp) (E : Value → Shared → Prop), Inv X pins σ H s → (∀ b ∈ fp, FpOk X pins H b) → tn i s.heap → J.go i H →
    wpAny (model P w) X.A (pyNext (.ref it)) (fun r s1 => ∃ u, r = some u ∧
      wpAny (model P w) X.A (letOwnedTupleGo tg (.ref it) u) (fun _ s2 => ∃ x H', Inv X pins σ H' s2 ∧ RelV x u ∧ J.yld i H x H' ∧ tn (i + 1) s2.heap ∧ ∀ b ∈ fp, H' b = none) E s1) E s
  done : ∀ (X : Cx), X.prog = P → X.w = w → X.K = K → X.calm = true → ∀ (i : Nat) (pins : List (Addr × Obj)) (s : Shared) (σ : St) (H : Hp) (E : Value → Shared → Prop), Inv X pins σ H s → (∀ b ∈ fp, FpOk X pins H b) → tn i s.heap → J.stop i H →
    wpAny (model P w) X.A (pyNext (.ref it)) (fun r s1 => r = none ∧ Inv X pins σ H s1) E s
  self : ∀ (A : Around) (i : Nat) (s : Shared) (Q : Value → Shared → Prop) (E : Value → Shared → Prop), tn i s.heap → Q (.ref it) s → wpAny (model P w) A (pyIter (.ref it)) Q E s
abbrev TI := St → Hp → (It → Hp → Prop) → Prop
/-- an iterator has come -/
def PIE (X : Cx) (pins : List (Addr × Obj)) (σ : St) (tg : Expr) (R : It → Hp → Prop) (itv : Value) (s2 : Shared) : Prop :=
  ∃ (it : Addr) (fp : List Addr) (tn : Nat → Heap → Prop) (J : It) (H' : Hp), itv = .ref it ∧ Inv X pins σ H' s2 ∧ Turn X.prog X.w X.K tg J fp it tn ∧ tn 0 s2.heap ∧ (∀ b ∈ fp, FpOk X pins H' b) ∧ R J H'
def PI (X : Cx) (tg iter : Expr) (wi : TI) : Prop :=
  ∀ (pins : List (Addr × Obj)) (s : Shared) (σ : St) (H : Hp) (R : It → Hp → Prop), Inv X pins σ H s → wi σ H R →
    wpAny (model X.prog X.w) X.A (eval iter X.env) (fun v s1 => wpAny (model X.prog X.w) X.A (pyIter v) (PIE X pins σ tg R) X.xe s1) X.xe s

/-- the step ahead of the store is nothing for an iterator that keeps no tuple -/
theorem go_of {M : Model} {A : Around} {E : Value → Shared → Prop} {s : Shared} {tg : Expr} {it : Addr} {u : Value} {o : Obj} {n : String} {vs : Array Value} {Q : Unit → Shared → Prop} (ho : s.heap.get? it = some o) (hc : o.cls = .type n) (hd : o.data = .fields vs)
    (hn : ["enumerate", "zip", "dict_itemiterator", "dict_reverseitemiterator", "odict_iterator", "itertools.zip_longest", "itertools.pairwise"].contains n = false) (hQ : Q () s) : wpAny M A (letOwnedTupleGo tg (.ref it) u) Q E s := by
  unfold letOwnedTupleGo
  cases tg <;> first
    | exact wpAny_pure hQ
    | (cases u <;> first
        | exact wpAny_pure hQ
        | (refine wpAny_bind (wpAny_load ho ?_)
           rw [hc, hd]
           show wpAny M A (if (["enumerate", "zip", "dict_itemiterator", "dict_reverseitemiterator", "odict_iterator", "itertools.zip_longest", "itertools.pairwise"].contains n && vs[0]? == some (rawInt _)) = true then _ else _) Q E s
           rw [if_neg (by intro h; rw [hn, Bool.false_and] at h; cases h)]
           exact wpAny_pure hQ))

/-- the list at a, as it stands at each turn (a loop may append to it) -/
def Itl (K : PySem.W.Frag) (a : Addr) : It :=
  ⟨fun i H => ∃ xs x, SqL K H a xs ∧ xs[i]? = some x, fun i H x H' => H' = H ∧ ∀ xs, SqL K H a xs → xs[i]? = some x, fun i H => ∃ xs, SqL K H a xs ∧ xs.length ≤ i⟩
/-- lo, lo + 1, .. (n of them) -/
def Itr (lo : Int) (n : Nat) : It := ⟨fun i _ => i < n, fun i H x H' => H' = H ∧ x = .int (lo + i), fun i _ => n ≤ i⟩
theorem turn_list {P : Program} {w : World} {K : PySem.W.Frag} {tg : Expr} (a it : Addr) : Turn P w K tg (Itl K a) [it] it (fun i h => h.IsListIter it a i) where
  mem := by simp
  obj := fun i h st b hb => by
    have e : b = it := by simpa using hb
    subst e
    obtain ⟨o, e, c, d⟩ := st
    exact ⟨o, e, fun v z => by rw [d] at z; cases z⟩
  keep := fun i h h' st k => st.at fun o e => k it (by simp) o e
  item := by
    intro X hP hw hK hc i pins s σ H E I hf st hg
    subst hP hw hK
    obtain ⟨xs, x, hq, hx⟩ := hg
    obtain ⟨its, rv, p, hz⟩ := I.list hq
    obtain ⟨u, hu, ru⟩ := rv.get hx
    obtain ⟨f0, f1, f2, f3, f4, f5⟩ := hf it (by simp)
    refine wpAny_pyNext_list_item st p.isList (x := u) (by simpa using hu) fun h' st' sb => ?_
    have I1 : Inv X pins σ H { s with heap := h' } := I.turned (t' := s.toks) (fun b o hb e => (sb.2 b hb).trans e) f0 f1 f3 f4 f5
    obtain ⟨o, e, c, d⟩ := id st'
    exact ⟨u, rfl, go_of (s := { s with heap := h' }) e c d (by decide) ⟨x, H, I1, ru, ⟨rfl, fun ys hy => by rw [I.list_inj hy hq]; exact hx⟩, st', fun b hb => (hf b hb).1⟩⟩
  done := by
    intro X hP hw hK hc i pins s σ H E I hf st hg
    subst hP hw hK
    obtain ⟨xs, hq, hx⟩ := hg
    obtain ⟨its, rv, p, hz⟩ := I.list hq
    obtain ⟨f0, f1, f2, f3, f4, f5⟩ := hf it (by simp)
    have hl := rv.length
    exact wpAny_pyNext_list_end (I.ok.hd hc) st p.isList (by simp; omega) fun h' eb => ⟨rfl, I.turned (t' := s.toks) (fun b o hb e => eb b o hb e) f0 f1 f3 f4 f5⟩
  self := fun _ _ _ _ _ st h => wpAny_pyIter_listiter st h
theorem turn_range {P : Program} {w : World} {K : PySem.W.Frag} {tg : Expr} (it : Addr) (lo : Int) (n : Nat) : Turn P w K tg (Itr lo n) [it] it (fun i h => IsRangeIter h it (lo + (i : Nat) * 1) ((n : Int) - (i : Nat)) 1) where
  mem := by simp
  obj := fun i h st b hb => by
    have e : b = it := by simpa using hb
    subst e
    exact ⟨_, st, fun v z => by
      have z' : Data.fields _ = Data.cell v := z
      cases z'⟩
  keep := fun i h h' st k => k it (by simp) _ st
  item := by
    intro X hP hw hK hc i pins s σ H E I hf st hg
    subst hP hw hK
    obtain ⟨f0, f1, f2, f3, f4, f5⟩ := hf it (by simp)
    have W := Walks.range (prog := X.prog) (w := X.w) (I.ok.hd hc) it lo 1 n
    refine W.item i s _ _ hg st fun v h' tk hv st' kk => ?_
    obtain ⟨t, rfl⟩ := hv
    have I1 : Inv X pins σ H { s with heap := h', toks := tk } := I.turned (fun b o hb e => kk b o (by simpa using hb) e) f0 f1 f3 f4 f5
    refine ⟨_, rfl, go_of (s := { s with heap := h', toks := tk }) (n := "range_iterator") st' rfl rfl (by decide) ⟨.int (lo + i), H, I1, ⟨t, ?_⟩, ⟨rfl, rfl⟩, st', fun b hb => (hf b hb).1⟩⟩
    rw [Int.mul_one]
  done := by
    intro X hP hw hK hc i pins s σ H E I hf st hg
    subst hP hw hK
    obtain ⟨f0, f1, f2, f3, f4, f5⟩ := hf it (by simp)
    exact wpAny_pyNext_range_end (I.ok.hd hc) st (by have : n ≤ i := hg; omega) fun h' eb => ⟨rfl, I.turned (t' := s.toks) (fun b o hb e => eb b o hb e) f0 f1 f3 f4 f5⟩
  self := fun _ _ _ _ _ st h => wpAny_pyIter_rangeiter st h
end L2

namespace L2
open PySem PySem.Spec PyProof.Rows
section
variable {X : Cx} {tg : Expr}
def iList (K : PySem.W.Frag) (tl : TE) : TI := fun σ H R => tl σ H fun x H1 => ∃ a, x = .ref a ∧ (∃ xs, SqL K H1 a xs) ∧ R (Itl K a) H1
theorem pi_list {l : Expr} {tl : TE} (hl : PE X l tl) : PI X tg l (iList X.K tl) := by
  intro pins s σ H R I h
  refine thn (hl pins s σ H _ I h) fun v s1 ⟨x, H1, I1, r1, q1⟩ => ?_
  obtain ⟨a, e, ⟨xs, hq⟩, q⟩ := q1
  subst e
  cases r1
  obtain ⟨its, rv, p, hz⟩ := I1.list hq
  refine wpAny_pyIter_list p.isList ?_
  refine ⟨s1.heap.objs.size, [s1.heap.objs.size], _, _, H1, rfl, I1.kept (t' := s1.toks) fun b o e => Heap.get?_push_of_some _ e, turn_list a _, ⟨_, Heap.get?_push_size _ rfl, rfl, rfl⟩, fun b hb => ?_, q⟩
  have e : b = s1.heap.objs.size := by simpa using hb
  subst e
  exact I1.fpOk (Nat.le_refl _) (I1.hok.fresh (Nat.le_refl _))
/-- a range object just made, walked -/
theorem range_it {pins : List (Addr × Obj)} {σ : St} {H : Hp} {s : Shared} {R : It → Hp → Prop} {E : Value → Shared → Prop} {lo hi : Int} {t u v : Tok} {tk : Nat} (I : Inv X pins σ H s) (h1 : -(2 ^ 62) ≤ lo) (h2 : lo < 2 ^ 62) (h3 : -(2 ^ 62) ≤ hi) (h4 : hi < 2 ^ 62)
    (q : R (Itr lo (hi - lo).toNat) H) : wpAny (model X.prog X.w) X.A (pyIter (.ref s.heap.objs.size)) (PIE X pins σ tg R) E { s with heap := s.heap.push { cls := .type "range", data := .fields #[.int lo t, .int hi u, .int 1 v] }, toks := tk } := by
  refine wpAny_pyIter_range (IsRange.new ..) (small_one h1 h2 h3 h4) ?_
  have I1 : Inv X pins σ H { s with heap := s.heap.push { cls := .type "range", data := .fields #[.int lo t, .int hi u, .int 1 v] }, toks := tk } := I.kept fun b o e => Heap.get?_push_of_some _ e
  refine ⟨(s.heap.push { cls := .type "range", data := .fields #[.int lo t, .int hi u, .int 1 v] }).objs.size, [(s.heap.push { cls := .type "range", data := .fields #[.int lo t, .int hi u, .int 1 v] }).objs.size], _, _, H, rfl,
    I1.kept (t' := tk) fun b o e => Heap.get?_push_of_some _ e, turn_range _ lo (hi - lo).toNat, ?_, fun b hb => ?_, q⟩
  · have e1 : lo + ((0 : Nat) : Int) * 1 = lo := by simp
    have e2 : (((hi - lo).toNat : Nat) : Int) - ((0 : Nat) : Int) = Builtin.Range.rangeSize lo hi 1 := by rw [rangeSize_one]; split <;> omega
    show IsRangeIter _ _ (lo + ((0 : Nat) : Int) * 1) ((((hi - lo).toNat : Nat) : Int) - ((0 : Nat) : Int)) 1
    rw [e1, e2]
    exact Heap.get?_push_size _ rfl
  · have e : b = (s.heap.push { cls := .type "range", data := .fields #[.int lo t, .int hi u, .int 1 v] }).objs.size := by simpa using hb
    subst e
    exact I1.fpOk (Nat.le_refl _) (I1.hok.fresh (Nat.le_refl _))
def iRng1 (ta : TA) : TI := fun σ H R => ta σ H fun vs H1 => ∃ j : Int, vs = [.int j] ∧ -(2 ^ 62) ≤ j ∧ j < 2 ^ 62 ∧ R (Itr 0 j.toNat) H1
theorem pi_range1 {a : Expr} {ta : TA} {p pos : Pos} (hg : Gl X "range") (hm : X.mg "range" = none) (ha : PA X [a] ta) (hs : starEach [a] X.env = [(false, eval a X.env)] := by rfl) : PI X tg (.Call (.Name "range" p) [a] [] pos) (iRng1 ta) := by
  intro pins s σ H R I h
  refine Call_ (ld_blt I hg hm boot_range (PyProof.Rows.callWith_type1 (thn (ha pos pins s σ H _ I h) fun us s1 ⟨vs, H1, I1, r1, q1⟩ => ?_) hs rfl))
  obtain ⟨j, e, q1, q2, q⟩ := q1
  subst e
  cases r1 with
  | cons r rr =>
    cases rr
    obtain ⟨t, rfl⟩ := r
    exact call_range_1 (range_it I1 (by omega) (by omega) q1 q2 (by simpa using q))
/-! ### for -/
/-- W: the invariant by the turn and a measure; N: what the body is to reach -/
def tFor (wi : TI) (g : TG) (tb : TS) : TS := fun D σ H => wi σ H fun J H1 => ∃ W : Nat → Nat → St → Hp → Prop, (∃ m, W 0 m σ H1) ∧ ∀ i m σ H, W i m σ H →
  (J.stop i H ∧ D.nx σ H) ∨ (J.go i H ∧ ∃ N : St → Hp → Prop, (∀ σ' H', N σ' H' → ∃ m', m' < m ∧ W (i + 1) m' σ' H') ∧ ∀ x H', J.yld i H x H' → g x σ H' fun σ2 H2 => tb { D with nx := N, ct := N, bk := D.nx } σ2 H2)
/-- the records at fp as they stand -/
def pinsAt (fp : List Addr) (h : Heap) : List (Addr × Obj) := fp.filterMap fun b => (h.get? b).map fun o => (b, o)
theorem mem_pinsAt {fp : List Addr} {h : Heap} {b : Addr} {o : Obj} (hb : b ∈ fp) (e : h.get? b = some o) : (b, o) ∈ pinsAt fp h := List.mem_filterMap.mpr ⟨b, hb, by rw [e]; rfl⟩
theorem of_pinsAt {fp : List Addr} {h : Heap} {p : Addr × Obj} (hp : p ∈ pinsAt fp h) : p.1 ∈ fp ∧ h.get? p.1 = some p.2 := by
  obtain ⟨b, hb, e⟩ := List.mem_filterMap.mp hp
  cases q : h.get? b with
  | none => rw [q] at e; cases e
  | some o =>
    rw [q] at e
    have e' : (b, o) = p := Option.some.inj e
    subst e'
    exact ⟨hb, q⟩
theorem Inv.pinned {pins : List (Addr × Obj)} {σ : St} {H : Hp} {s : Shared} {fp : List Addr} (I : Inv X pins σ H s) (hf : ∀ b ∈ fp, FpOk X pins H b) (ho : ∀ b ∈ fp, ∃ o, s.heap.get? b = some o ∧ ∀ v, o.data ≠ .cell v) : Inv X (pins ++ pinsAt fp s.heap) σ H s :=
  I.pins_of fun p hp => (List.mem_append.mp hp).elim (fun z => I.pin p (List.mem_append_right _ z)) fun z => by
    obtain ⟨hb, e⟩ := of_pinsAt z
    obtain ⟨f0, f1, f2, _⟩ := hf p.1 hb
    obtain ⟨o, e', d⟩ := ho p.1 hb
    rw [e] at e'; cases e'
    exact ⟨e, f0, f1, f2, d⟩
theorem Inv.unpinned {pins pl : List (Addr × Obj)} {σ : St} {H : Hp} {s : Shared} (I : Inv X (pins ++ pl) σ H s) : Inv X pins σ H s := I.pins_of fun p hp => I.pin p (List.mem_append_right _ (List.mem_append_left _ hp))
theorem ps_for {iter : Expr} {body : List Stmt} {wi : TI} {g : TG} {tb : TS} {pos : Pos} (hp : PassesOwn (model X.prog X.w) X.A X.env X.xe) (hc : X.calm = true) (hi : PI X tg iter wi) (hg : PG X tg g) (hb : PSs X body tb)
    (hs : ∀ x, foldedSetIterable iter X.env x = pure x := by intro _; rfl) : PS X (.For tg iter body [] pos) (tFor wi g tb) := by
  intro pins s σ H D I h
  refine wpAny_For (thn (hi pins s σ H _ I h) fun v s1 h1 => thn h1 fun itv s2 h2 => ?_) hs
  obtain ⟨it, fp, tn, J, H2, e, I2, T, st2, f2, W, ⟨m0, w0⟩, turn⟩ := h2
  subst e
  -- what stays true of the iterator's objects through the loop
  have stat : ∀ {H' : Hp}, (∀ b ∈ fp, H' b = none) → ∀ b ∈ fp, FpOk X pins H' b := fun hn b hb => ⟨hn b hb, (f2 b hb).2⟩
  refine codeAny_forLoop_any (fun n s' => ∃ i σ' H', Inv X pins σ' H' s' ∧ tn i s'.heap ∧ (∀ b ∈ fp, H' b = none) ∧ W i n σ' H') ?_ m0 ⟨0, σ, H2, I2, st2, fun b hb => (f2 b hb).1, w0⟩
  rintro n s3 ⟨i, σ3, H3, I3, st3, fr3, w3⟩
  rcases turn i n σ3 H3 w3 with ⟨stop, qn⟩ | ⟨go, N, hN, step⟩
  · refine wpAny_passesOwn hp (thn (T.done X rfl rfl rfl hc i pins s3 σ3 H3 X.xe I3 (stat fr3) st3 stop) fun r s4 ⟨hr, I4⟩ => ?_)
    subst hr
    exact wpAny_execs_nil ⟨σ3, H3, I4, qn⟩
  · refine wpAny_passesOwn hp (thn (T.item X rfl rfl rfl hc i pins s3 σ3 H3 X.xe I3 (stat fr3) st3 go) fun r s4 ⟨u, hr, h4⟩ => ?_)
    subst hr
    refine wpAny_passesOwn hp (thn h4 fun _ s5 ⟨x, H5, I5, r5, y5, st5, fr5⟩ => ?_)
    have I5' := I5.pinned (stat fr5) (T.obj _ _ st5)
    refine wpAny_passesOwn hp (thn (hg _ s5 σ3 H5 x u _ I5' r5 (step x H5 y5)) fun _ s6 ⟨σ6, H6, I6, q6⟩ => ?_)
    refine wpAny_passesOwn hp (thn (hb _ s6 σ6 H6 _ I6 q6) fun f s7 q7 => ?_)
    have again : ∀ {σ7 : St} {H7 : Hp}, Inv X (pins ++ pinsAt fp s5.heap) σ7 H7 s7 → N σ7 H7 → ∃ m, m < n ∧ ∃ i σ' H', Inv X pins σ' H' s7 ∧ tn i s7.heap ∧ (∀ b ∈ fp, H' b = none) ∧ W i m σ' H' := fun {σ7 H7} I7 n7 => by
      obtain ⟨m', hm, w7⟩ := hN σ7 H7 n7
      refine ⟨m', hm, i + 1, σ7, H7, I7.unpinned, T.keep _ _ _ st5 fun b hb o e => (I7.pin (b, o) (List.mem_append_right _ (List.mem_append_right _ (mem_pinsAt hb e)))).1, fun b hb => ?_, w7⟩
      obtain ⟨o, e, d⟩ := T.obj _ _ st5 b hb
      exact (I7.pin (b, o) (List.mem_append_right _ (List.mem_append_right _ (mem_pinsAt hb e)))).2.1
    cases f with
    | next => obtain ⟨σ7, H7, I7, n7⟩ := q7; exact again I7 n7
    | cont => obtain ⟨σ7, H7, I7, n7⟩ := q7; exact again I7 n7
    | brk => obtain ⟨σ7, H7, I7, q7⟩ := q7; exact ⟨σ7, H7, I7.unpinned, q7⟩
    | ret v => obtain ⟨x7, σ7, H7, I7, r7, q7⟩ := q7; exact ⟨x7, σ7, H7, I7.unpinned, r7, q7⟩
end

/-! ### the forms one uses -/
/-- over a list that the body leaves as it is -/
theorem for_list {K : PySem.W.Frag} {a : Addr} {xs : List V} {g : TG} {tb : TS} {D : Ends} {σ : St} {H : Hp} (Pv : Nat → St → Hp → Prop) (h0 : Pv 0 σ H) (hl : ∀ i σ H, i ≤ xs.length → Pv i σ H → SqL K H a xs)
    (hs : ∀ i x σ H, xs[i]? = some x → Pv i σ H → g x σ H fun σ2 H2 => tb { D with nx := Pv (i + 1), ct := Pv (i + 1), bk := D.nx } σ2 H2) (hd : ∀ σ H, Pv xs.length σ H → D.nx σ H) :
    ∃ W : Nat → Nat → St → Hp → Prop, (∃ m, W 0 m σ H) ∧ ∀ i m σ H, W i m σ H →
      ((Itl K a).stop i H ∧ D.nx σ H) ∨ ((Itl K a).go i H ∧ ∃ N : St → Hp → Prop, (∀ σ' H', N σ' H' → ∃ m', m' < m ∧ W (i + 1) m' σ' H') ∧ ∀ x H', (Itl K a).yld i H x H' → g x σ H' fun σ2 H2 => tb { D with nx := N, ct := N, bk := D.nx } σ2 H2) := by
  refine ⟨fun i m σ H => m = xs.length - i ∧ i ≤ xs.length ∧ Pv i σ H, ⟨xs.length, by simp, Nat.zero_le _, h0⟩, ?_⟩
  rintro i m σ H ⟨rfl, hi, p⟩
  have q := hl i σ H hi p
  by_cases hlt : i < xs.length
  · refine .inr ⟨⟨xs, xs[i], q, by simp [hlt]⟩, Pv (i + 1), fun σ' H' p' => ⟨xs.length - (i + 1), by omega, rfl, hlt, p'⟩, fun x H' y => ?_⟩
    obtain ⟨e, y⟩ := y
    subst e
    exact hs i x σ _ (y xs q) p
  · have e : i = xs.length := by omega
    subst e
    exact .inl ⟨⟨xs, q, Nat.le_refl _⟩, hd σ H p⟩
theorem for_range {lo : Int} {n : Nat} {g : TG} {tb : TS} {D : Ends} {σ : St} {H : Hp} (Pv : Nat → St → Hp → Prop) (h0 : Pv 0 σ H)
    (hs : ∀ i σ H, i < n → Pv i σ H → g (.int (lo + i)) σ H fun σ2 H2 => tb { D with nx := Pv (i + 1), ct := Pv (i + 1), bk := D.nx } σ2 H2) (hd : ∀ σ H, Pv n σ H → D.nx σ H) :
    ∃ W : Nat → Nat → St → Hp → Prop, (∃ m, W 0 m σ H) ∧ ∀ i m σ H, W i m σ H →
      ((Itr lo n).stop i H ∧ D.nx σ H) ∨ ((Itr lo n).go i H ∧ ∃ N : St → Hp → Prop, (∀ σ' H', N σ' H' → ∃ m', m' < m ∧ W (i + 1) m' σ' H') ∧ ∀ x H', (Itr lo n).yld i H x H' → g x σ H' fun σ2 H2 => tb { D with nx := N, ct := N, bk := D.nx } σ2 H2) := by
  refine ⟨fun i m σ H => m = n - i ∧ i ≤ n ∧ Pv i σ H, ⟨n, by simp, Nat.zero_le _, h0⟩, ?_⟩
  rintro i m σ H ⟨rfl, hi, p⟩
  by_cases hlt : i < n
  · refine .inr ⟨hlt, Pv (i + 1), fun σ' H' p' => ⟨n - (i + 1), by omega, rfl, hlt, p'⟩, fun x H' y => ?_⟩
    obtain ⟨e, y⟩ := y
    subst e y
    exact hs i σ _ hlt p
  · have e : i = n := by omega
    subst e
    exact .inl ⟨Nat.le_refl _, hd σ H p⟩
end L2

namespace L2
open PySem PySem.Spec PyProof.Rows

abbrev R2 := V → V → Hp → VK → Prop
/-- a two-place operation on values: f is binaryOp op, inplaceOp op or compareOp op -/
def OpR (X : Cx) (f : Value → Value → Sem Value) (r : R2) : Prop :=
  ∀ (pins : List (Addr × Obj)) (s : Shared) (σ : St) (H : Hp) (x y : V) (v u : Value) (Q : VK), Inv X pins σ H s → RelV x v → RelV y u → r x y H Q →
    wpAny (model X.prog X.w) X.A (f v u) (EP X pins σ Q) X.xe s
/-- a one-place operation -/
def UnR (X : Cx) (f : Value → Sem Value) (r : V → Hp → VK → Prop) : Prop :=
  ∀ (pins : List (Addr × Obj)) (s : Shared) (σ : St) (H : Hp) (x : V) (v : Value) (Q : VK), Inv X pins σ H s → RelV x v → r x H Q →
    wpAny (model X.prog X.w) X.A (f v) (EP X pins σ Q) X.xe s
/-- a call of a value that is known (a builtin, a type) with values -/
def CallR (X : Cx) (f : Value) (r : List V → Hp → VK → Prop) : Prop :=
  ∀ (pins : List (Addr × Obj)) (s : Shared) (σ : St) (H : Hp) (xs : List V) (us : List Value) (Q : VK), Inv X pins σ H s → Vals xs us → r xs H Q →
    wpAny (model X.prog X.w) X.A (call f us) (EP X pins σ Q) X.xe s
/-- a value's truth -/
def TruR (X : Cx) (r : V → Hp → (Bool → Hp → Prop) → Prop) : Prop :=
  ∀ (pins : List (Addr × Obj)) (s : Shared) (σ : St) (H : Hp) (x : V) (v : Value) (Q : Bool → Hp → Prop), Inv X pins σ H s → RelV x v → r x H Q →
    wpAny (model X.prog X.w) X.A (truthy v) (TP X pins σ Q) X.xe s

def tOp (r : R2) (ta tb : TE) : TE := fun σ H Q => ta σ H fun x H1 => tb σ H1 fun y H2 => r x y H2 Q
def tUn (r : V → Hp → VK → Prop) (ta : TE) : TE := fun σ H Q => ta σ H fun x H1 => r x H1 Q
/-- ints in, under C, and a value out -/
def rI (C : Int → Int → Prop) (g : Int → Int → V) : R2 := fun x y H Q => ∃ i j, x = .int i ∧ y = .int j ∧ C i j ∧ Q (g i j) H
def rI0 (g : Int → Int → V) : R2 := fun x y H Q => ∃ i j, x = .int i ∧ y = .int j ∧ Q (g i j) H
def rU (g : Int → V) : V → Hp → VK → Prop := fun x H Q => ∃ i, x = .int i ∧ Q (g i) H

section
variable {X : Cx} {a b c : Expr} {ta tb tc : TE} {pos : Pos}

theorem binT (ha : PE X a ta) (hb : PE X b tb) {pins : List (Addr × Obj)} {s : Shared} {σ : St} {H : Hp} {R : V → V → Hp → Prop} (I : Inv X pins σ H s)
    (h : ta σ H fun x H1 => tb σ H1 fun y H2 => R x y H2) {Q : Value → Shared → Prop} {f : Value → Value → Sem Value}
    (hf : ∀ v u s2 x y H2, Inv X pins σ H2 s2 → RelV x v → RelV y u → R x y H2 → wpAny (model X.prog X.w) X.A (f v u) Q X.xe s2) :
    wpAny (model X.prog X.w) X.A (eval a X.env) (fun v s₁ => wpAny (model X.prog X.w) X.A (eval b X.env) (fun u s₂ => wpAny (model X.prog X.w) X.A (f v u) Q X.xe s₂) X.xe s₁) X.xe s := by
  refine thn (ha pins s σ H _ I h) fun v s1 ⟨x, H1, I1, r1, q1⟩ => ?_
  refine thn (hb pins s1 σ H1 _ I1 q1) fun u s2 ⟨y, H2, I2, r2, q2⟩ => ?_
  exact hf v u s2 x y H2 I2 r1 r2 q2

theorem pe_op {op : Operator} {r : R2} (ho : OpR X (binaryOp op) r) (ha : PE X a ta) (hb : PE X b tb) : PE X (.BinOp a op b pos) (tOp r ta tb) := by
  intro pins s σ H Q I h
  exact wpAny_BinOp (binT ha hb I h fun v u s2 x y H2 I2 rx ry q => ho pins s2 σ H2 x y v u Q I2 rx ry q)
theorem pe_un {op : UnaryOp} {r : V → Hp → VK → Prop} (ho : UnR X (unaryOp op) r) (ha : PE X a ta) : PE X (.UnaryOp op a pos) (tUn r ta) := by
  intro pins s σ H Q I h
  exact UnaryOp_ (thn (ha pins s σ H _ I h) fun v s1 ⟨x, H1, I1, r1, q1⟩ => ho pins s1 σ H1 x v Q I1 r1 q1)
/-! ### ints -/
theorem opI {f : Value → Value → Sem Value} {C : Int → Int → Prop} {g : Int → Int → Int}
    (rule : ∀ (i j : Int) (t u : Tok) (s : Shared) (Q : Value → Shared → Prop) (E : Value → Shared → Prop), C i j → Q (.int (g i j) s.toks) { s with toks := s.toks + 1 } → wpAny (model X.prog X.w) X.A (f (.int i t) (.int j u)) Q E s) :
    OpR X f (rI C fun i j => .int (g i j)) := by
  intro pins s σ H x y v u Q I rx ry h
  obtain ⟨i, j, rfl, rfl, hc, q⟩ := h
  obtain ⟨t, rfl⟩ := rx
  obtain ⟨t', rfl⟩ := ry
  exact rule i j t t' s _ _ hc ⟨.int (g i j), H, I.tok _, ⟨_, rfl⟩, q⟩
theorem opI0 {f : Value → Value → Sem Value} {g : Int → Int → Int}
    (rule : ∀ (i j : Int) (t u : Tok) (s : Shared) (Q : Value → Shared → Prop) (E : Value → Shared → Prop), Q (.int (g i j) s.toks) { s with toks := s.toks + 1 } → wpAny (model X.prog X.w) X.A (f (.int i t) (.int j u)) Q E s) :
    OpR X f (rI0 fun i j => .int (g i j)) := by
  intro pins s σ H x y v u Q I rx ry h
  obtain ⟨i, j, rfl, rfl, q⟩ := h
  obtain ⟨t, rfl⟩ := rx
  obtain ⟨t', rfl⟩ := ry
  exact rule i j t t' s _ _ ⟨.int (g i j), H, I.tok _, ⟨_, rfl⟩, q⟩
theorem opB0 {f : Value → Value → Sem Value} {g : Int → Int → Bool}
    (rule : ∀ (i j : Int) (t u : Tok) (s : Shared) (Q : Value → Shared → Prop) (E : Value → Shared → Prop), Q (.bool (g i j)) s → wpAny (model X.prog X.w) X.A (f (.int i t) (.int j u)) Q E s) :
    OpR X f (rI0 fun i j => .bl (g i j)) := by
  intro pins s σ H x y v u Q I rx ry h
  obtain ⟨i, j, rfl, rfl, q⟩ := h
  obtain ⟨t, rfl⟩ := rx
  obtain ⟨t', rfl⟩ := ry
  exact rule i j t t' s _ _ ⟨.bl (g i j), H, I, rfl, q⟩

def CDiv (i j : Int) : Prop := 0 < j ∧ j < 1073741824
def CPow (i j : Int) : Prop := 0 ≤ j ∧ j ≤ 1000000 ∧ i.natAbs < 2 ^ 64
def CMul (i j : Int) : Prop := (-(2 ^ 64) < i ∧ i < 2 ^ 64) ∨ (-(2 ^ 64) < j ∧ j < 2 ^ 64)
theorem CMul.ok {i j : Int} (h : CMul i j) : IntMulOk i j := by
  rcases h with ⟨h1, h2⟩ | ⟨h1, h2⟩
  · exact .of_left (intBits_le_64 h1 h2)
  · exact .of_right (intBits_le_64 h1 h2)
theorem op_add : OpR X (binaryOp .Add) (rI0 fun i j => .int (i + j)) := opI0 fun _ _ _ _ _ _ _ q => add_int q
theorem op_sub : OpR X (binaryOp .Sub) (rI0 fun i j => .int (i - j)) := opI0 fun _ _ _ _ _ _ _ q => sub_int q
theorem op_mul : OpR X (binaryOp .Mult) (rI CMul fun i j => .int (i * j)) := opI fun _ _ _ _ _ _ _ hc q => mul_int q hc.ok
/-- // by a positive divisor -/
theorem op_fdiv : OpR X (binaryOp .FloorDiv) (rI CDiv fun i j => .int (i / j)) := opI fun i j _ _ _ _ _ hc q => by
  have h1 : (0 : Int) < j := hc.1
  have h2 : j < 1073741824 := hc.2
  exact floordiv_int (by omega) (by rw [Int.fdiv_eq_ediv_of_nonneg i (by omega)]; exact q) (.inl (PyProof.noPylong_small (by omega)))
/-- % by a positive divisor of any size -/
theorem op_mod : OpR X (binaryOp .Mod) (rI (fun _ j => 0 < j) fun i j => .int (i % j)) := opI fun i j _ _ _ _ _ hc q => by
  have h1 : (0 : Int) < j := hc
  exact mod_int' (by omega) (by rw [Int.fmod_eq_emod_of_nonneg i (by omega)]; exact q)
theorem op_pow : OpR X (binaryOp .Pow) (rI CPow fun i j => .int (i ^ j.toNat)) := opI fun _ _ _ _ _ _ _ hc q => pow_int_small hc.1 hc.2.1 hc.2.2 q
theorem unI {f : Value → Sem Value} {g : Int → Int}
    (rule : ∀ (i : Int) (t : Tok) (s : Shared) (Q : Value → Shared → Prop) (E : Value → Shared → Prop), Q (.int (g i) s.toks) { s with toks := s.toks + 1 } → wpAny (model X.prog X.w) X.A (f (.int i t)) Q E s) :
    UnR X f (rU fun i => .int (g i)) := by
  intro pins s σ H x v Q I rx h
  obtain ⟨i, rfl, q⟩ := h
  obtain ⟨t, rfl⟩ := rx
  exact rule i t s _ _ ⟨.int (g i), H, I.tok _, ⟨_, rfl⟩, q⟩
theorem un_neg : UnR X (unaryOp .USub) (rU fun i => .int (-i)) := unI fun _ _ _ _ _ q => neg_int q
/-! ### bools among ints: n += (a < b) -/
end

/-! ### comparisons -/
/-- the scalars that == tells apart as data does -/
def scal : V → V → Bool
  | .non, .non => true | .non, .int _ => true | .int _, .non => true | .non, .bl _ => true | .bl _, .non => true | .non, .str _ => true | .str _, .non => true
  | .int _, .int _ => true | .bl _, .bl _ => true | .str _, .str _ => true | .byt _, .byt _ => true
  | .int _, .str _ => true | .str _, .int _ => true | .bl _, .str _ => true | .str _, .bl _ => true
  | _, _ => false
def rEq : R2 := fun x y H Q => scal x y = true ∧ Q (.bl (decide (x = y))) H
def rNe : R2 := fun x y H Q => scal x y = true ∧ Q (.bl (!decide (x = y))) H

theorem dec_int {i j : Int} : decide (V.int i = V.int j) = (i == j) := by
  rw [Bool.eq_iff_iff]
  simp
theorem dec_bl {i j : Bool} : decide (V.bl i = V.bl j) = (i == j) := by
  rw [Bool.eq_iff_iff]
  simp
theorem dec_str {i j : Str} : decide (V.str i = V.str j) = (i == j) := by
  rw [Bool.eq_iff_iff]
  simp
theorem dec_byt {i j : Array UInt8} : decide (V.byt i = V.byt j) = (i.toList == j.toList) := by
  rw [Bool.eq_iff_iff]
  cases i
  cases j
  simp

section
variable {X : Cx} {a b c : Expr} {ta tb tc : TE} {pos : Pos}
theorem fin_bl {pins : List (Addr × Obj)} {σ : St} {H : Hp} {s : Shared} {Q : VK} {k k' : Bool} (I : Inv X pins σ H s) (q : Q (.bl k) H) (e : k = k') : EP X pins σ Q (.bool k') s := by
  subst e
  exact ⟨.bl k, H, I, rfl, q⟩
theorem op_eq : OpR X (compareOp .Eq) rEq := by
  intro pins s σ H x y v u Q I rx ry h
  obtain ⟨hs, q⟩ := h
  cases x with
  | non =>
    cases rx
    cases y with
    | non => cases ry; exact PySem.EqNone.eq_none_none (fin_bl I q (by simp))
    | bl j => cases ry; exact PySem.EqNone.eq_none_bool (fin_bl I q (by simp))
    | int j => obtain ⟨t', rfl⟩ := ry; exact PySem.EqNone.eq_none_int (fin_bl I q (by simp))
    | str j => obtain ⟨t', rfl⟩ := ry; exact PySem.EqNone.eq_none_str (fin_bl I q (by simp))
    | _ => exact absurd (show false = true from hs) Bool.false_ne_true
  | bl i =>
    cases rx
    cases y with
    | non => cases ry; exact PySem.EqNone.eq_bool_none (fin_bl I q (by simp))
    | bl j => cases ry; exact eq_bool (fin_bl I q dec_bl)
    | str j => obtain ⟨t', rfl⟩ := ry; exact PySem.EqMixed.eq_bool_str (fin_bl I q (by simp))
    | _ => exact absurd (show false = true from hs) Bool.false_ne_true
  | int i =>
    obtain ⟨t, rfl⟩ := rx
    cases y with
    | non => cases ry; exact PySem.EqNone.eq_int_none (fin_bl I q (by simp))
    | int j => obtain ⟨t', rfl⟩ := ry; exact eq_int (fin_bl I q dec_int)
    | str j => obtain ⟨t', rfl⟩ := ry; exact PySem.EqMixed.eq_int_str (fin_bl I q (by simp))
    | _ => exact absurd (show false = true from hs) Bool.false_ne_true
  | str i =>
    obtain ⟨t, rfl⟩ := rx
    cases y with
    | non => cases ry; exact PySem.EqNone.eq_str_none (fin_bl I q (by simp))
    | bl j => cases ry; exact PySem.EqMixed.eq_str_bool (fin_bl I q (by simp))
    | int j => obtain ⟨t', rfl⟩ := ry; exact PySem.EqMixed.eq_str_int (fin_bl I q (by simp))
    | str j => obtain ⟨t', rfl⟩ := ry; exact eq_str (fin_bl I q dec_str)
    | _ => exact absurd (show false = true from hs) Bool.false_ne_true
  | byt i =>
    obtain ⟨t, rfl⟩ := rx
    cases y with
    | byt j => obtain ⟨t', rfl⟩ := ry; exact PySem.W.eq_bytes (fin_bl I q dec_byt)
    | _ => exact absurd (show false = true from hs) Bool.false_ne_true
  | _ => cases y <;> exact absurd (show false = true from hs) Bool.false_ne_true
theorem op_ne : OpR X (compareOp .NotEq) rNe := by
  intro pins s σ H x y v u Q I rx ry h
  obtain ⟨hs, q⟩ := h
  cases x with
  | non =>
    cases rx
    cases y with
    | non => cases ry; exact PySem.EqNone.ne_none_none (fin_bl I q (by simp))
    | bl j => cases ry; exact PySem.EqNone.ne_none_bool (fin_bl I q (by simp))
    | int j => obtain ⟨t', rfl⟩ := ry; exact PySem.EqNone.ne_none_int (fin_bl I q (by simp))
    | str j => obtain ⟨t', rfl⟩ := ry; exact PySem.EqNone.ne_none_str (fin_bl I q (by simp))
    | _ => exact absurd (show false = true from hs) Bool.false_ne_true
  | bl i =>
    cases rx
    cases y with
    | non => cases ry; exact PySem.EqNone.ne_bool_none (fin_bl I q (by simp))
    | bl j => cases ry; exact ne_bool (fin_bl I q (congrArg not dec_bl))
    | str j => obtain ⟨t', rfl⟩ := ry; exact PySem.EqMixed.ne_bool_str (fin_bl I q (by simp))
    | _ => exact absurd (show false = true from hs) Bool.false_ne_true
  | int i =>
    obtain ⟨t, rfl⟩ := rx
    cases y with
    | non => cases ry; exact PySem.EqNone.ne_int_none (fin_bl I q (by simp))
    | int j => obtain ⟨t', rfl⟩ := ry; exact ne_int (fin_bl I q (congrArg not dec_int))
    | str j => obtain ⟨t', rfl⟩ := ry; exact PySem.EqMixed.ne_int_str (fin_bl I q (by simp))
    | _ => exact absurd (show false = true from hs) Bool.false_ne_true
  | str i =>
    obtain ⟨t, rfl⟩ := rx
    cases y with
    | non => cases ry; exact PySem.EqNone.ne_str_none (fin_bl I q (by simp))
    | bl j => cases ry; exact PySem.EqMixed.ne_str_bool (fin_bl I q (by simp))
    | int j => obtain ⟨t', rfl⟩ := ry; exact PySem.EqMixed.ne_str_int (fin_bl I q (by simp))
    | str j => obtain ⟨t', rfl⟩ := ry; exact ne_str (fin_bl I q (congrArg not dec_str))
    | _ => exact absurd (show false = true from hs) Bool.false_ne_true
  | byt i =>
    obtain ⟨t, rfl⟩ := rx
    cases y with
    | byt j => obtain ⟨t', rfl⟩ := ry; exact PySem.W.ne_bytes (fin_bl I q (congrArg not dec_byt))
    | _ => exact absurd (show false = true from hs) Bool.false_ne_true
  | _ => cases y <;> exact absurd (show false = true from hs) Bool.false_ne_true

theorem op_lt : OpR X (compareOp .Lt) (rI0 fun i j => .bl (decide (i < j))) := opB0 fun _ _ _ _ _ _ _ q => lt_int q
theorem op_le : OpR X (compareOp .LtE) (rI0 fun i j => .bl (decide (i ≤ j))) := opB0 fun _ _ _ _ _ _ _ q => le_int q
theorem op_gt : OpR X (compareOp .Gt) (rI0 fun i j => .bl (decide (j < i))) := opB0 fun _ _ _ _ _ _ _ q => gt_int q
/-- the one string within the other -/
theorem op_in_str : OpR X (compareOp .In) (fun x y H Q => ∃ i j, x = .str i ∧ y = .str j ∧ Q (.bl (!(Builtin.Str.occurrences j i 0 j.length 1).isEmpty)) H) := by
  intro pins s σ H x y v u Q I rx ry h
  obtain ⟨i, j, rfl, rfl, q⟩ := h
  obtain ⟨t, rfl⟩ := rx
  obtain ⟨t', rfl⟩ := ry
  exact in_str (fin_bl I q rfl)

theorem nomark (b : Expr) {op : CmpOp} (h : op ≠ .In := by decide) (h2 : op ≠ .NotIn := by decide) : behindInMarks op b = false := by
  have e1 : (op == CmpOp.In) = false := by cases op <;> first | rfl | exact absurd rfl h
  have e2 : (op == CmpOp.NotIn) = false := by cases op <;> first | rfl | exact absurd rfl h2
  cases b <;> simp [behindInMarks, e1, e2]
/-- a comparison as a value; hm: nomark b, or (for in, not in) by with_unfolding_all rfl -/
theorem pe_cmpR {op : CmpOp} {r : R2} (ho : OpR X (compareOp op) r) (ha : PE X a ta) (hb : PE X b tb) (hm : behindInMarks op b = false) : PE X (.Compare a [op] [b] pos) (tOp r ta tb) := by
  intro pins s σ H Q I h
  exact wpAny_Compare1 (binT ha hb I h fun v u s2 x y H2 I2 rx ry q => ho pins s2 σ H2 x y v u Q I2 rx ry q) hm
/-- a reading of a value as a test -/
def tTest (t : TE) : TT := fun σ H Q => t σ H fun x H' => ∃ k, x = .bl k ∧ Q k H'
theorem pt_cmpR {op : CmpOp} {r : R2} (ho : OpR X (compareOp op) r) (ha : PE X a ta) (hb : PE X b tb) (hm : behindInMarks op b = false) : PT X (.Compare a [op] [b] pos) (tTest (tOp r ta tb)) := by
  intro pins s σ H Q I h
  refine wpAny_isTrue_Compare1 (thn (ha pins s σ H _ I h) fun v s1 ⟨x, H1, I1, r1, q1⟩ => thn (hb pins s1 σ H1 _ I1 q1) fun u s2 ⟨y, H2, I2, r2, q2⟩ =>
    thn (ho pins s2 σ H2 x y v u _ I2 r1 r2 q2) fun c s3 ⟨z, H3, I3, r3, k, e, q3⟩ => ?_) hm
  subst e
  cases r3
  exact wpAny_truthy_bool ⟨H3, I3, q3⟩
/-- a op1 b op2 c -/
def tChain (r r' : R2) (ta tb tc : TE) : TE := fun σ H Q => ta σ H fun x H1 => tb σ H1 fun y H2 => r x y H2 fun z H3 => ∃ k, z = .bl k ∧
  (if k = true then tc σ H3 fun w' H4 => r' y w' H4 Q else Q (.bl false) H3)
theorem pt_chain {op op' : CmpOp} {r r' : R2} (ho : OpR X (compareOp op) r) (ho' : OpR X (compareOp op') r') (ha : PE X a ta) (hb : PE X b tb) (hc : PE X c tc)
    (hm : lastMarks [op, op'] [b, c] = false := by with_unfolding_all rfl) : PT X (.Compare a [op, op'] [b, c] pos) (tTest (tChain r r' ta tb tc)) := by
  intro pins s σ H Q I h
  refine isTrue_chain (thn (ha pins s σ H _ I h) fun v s1 ⟨x, H1, I1, r1, q1⟩ => test_link (thn (hb pins s1 σ H1 _ I1 q1) fun u s2 ⟨y, H2, I2, r2, q2⟩ =>
    thn (ho pins s2 σ H2 x y v u _ I2 r1 r2 q2) fun d s3 ⟨z, H3, I3, r3, k, e, q3⟩ => ?_)) hm
  subst e
  cases r3
  refine wpAny_truthy_bool ?_
  cases k with
  | false =>
    obtain ⟨k', e', q'⟩ := q3
    cases e'
    exact ite_ff ⟨H3, I3, q'⟩
  | true =>
    refine ite_tt (test_last (thn (hc pins s3 σ H3 _ I3 q3) fun w' s4 ⟨z', H4, I4, r4, q4⟩ => thn (ho' pins s4 σ H4 y z' u w' _ I4 r2 r4 q4) fun d' s5 ⟨z2, H5, I5, r5, k2, e2, q5⟩ => ?_))
    subst e2
    cases r5
    exact wpAny_truthy_bool ⟨H5, I5, q5⟩

/-! ### truth -/
/-- a value's truth by the abstract heap -/
def TruV (K : PySem.W.Frag) (x : V) (H : Hp) (k : Bool) : Prop :=
  match x with
  | .non => k = false
  | .bl b => k = b
  | .int i => k = (i != 0)
  | .str y => y.length ≤ sizeLine ∧ k = ((y.length : Int) != 0)
  | .byt y => y.size ≤ sizeLine ∧ k = ((y.size : Int) != 0)
  | .ref p => (∃ xs, SqL K H p xs ∧ k = !xs.isEmpty) ∨ (∃ xs, SqT K H p xs ∧ k = !xs.isEmpty) ∨ ∃ kvs, H p = some (.dK kvs) ∧ k = !kvs.isEmpty
  | _ => False
theorem isEmpty_kv {κ : Type} {kvs : List (κ × V)} {vs : List (κ × Value)} (r : KV kvs vs) : (!vs.isEmpty) = !kvs.isEmpty := by
  cases r <;> rfl
theorem isEmpty_of {xs : List V} {its : List Value} (r : Vals xs its) : (!its.toArray.isEmpty) = !xs.isEmpty := by
  cases r <;> simp
theorem line63 : (sizeLine : Nat) < 2 ^ 63 := by rw [sizeLine_eq]; decide
theorem tru_ok : TruR X (fun x H Q => ∃ k, TruV X.K x H k ∧ Q k H) := by
  intro pins s σ H x v Q I rx h
  obtain ⟨k, e, q⟩ := h
  have hl := line63
  have hs : sizeLine = 16777216 := sizeLine_eq
  cases x with
  | non =>
    cases rx
    have e' : k = false := e
    subst e'
    exact truthy_none ⟨H, I, q⟩
  | bl b =>
    cases rx
    have e' : k = b := e
    subst e'
    exact wpAny_truthy_bool ⟨H, I, q⟩
  | int i =>
    obtain ⟨t, rfl⟩ := rx
    have e' : k = (i != 0) := e
    subst e'
    exact PySem.P.truthy_int ⟨H, I, q⟩
  | str y =>
    obtain ⟨t, rfl⟩ := rx
    obtain ⟨hy, e'⟩ : y.length ≤ sizeLine ∧ k = ((y.length : Int) != 0) := e
    subst e'
    exact PySem.P.truthy_str (by omega) ⟨H, I.tok _, q⟩
  | byt y =>
    obtain ⟨t, rfl⟩ := rx
    obtain ⟨hy, e'⟩ : y.size ≤ sizeLine ∧ k = ((y.size : Int) != 0) := e
    subst e'
    exact PySem.W.truthy_bytes (by omega) ⟨H, I.tok _, q⟩
  | ref p =>
    cases rx
    have e' : (∃ xs, SqL X.K H p xs ∧ k = !xs.isEmpty) ∨ (∃ xs, SqT X.K H p xs ∧ k = !xs.isEmpty) ∨ ∃ kvs, H p = some (.dK kvs) ∧ k = !kvs.isEmpty := e
    rcases e' with ⟨xs, hx, e'⟩ | ⟨xs, hx, e'⟩ | ⟨kvs, hx, e'⟩
    · subst e'
      obtain ⟨its, r, pl, hz⟩ := I.list hx
      have hlen := r.length
      exact wpAny_truthy_list pl.isList (by simp only [List.size_toArray]; omega) ⟨H, I.tok _, by rw [isEmpty_of r]; exact q⟩
    · subst e'
      obtain ⟨its, r, pl, hz⟩ := I.tuple hx
      have hlen := r.length
      exact truthy_tuple pl (by simp only [List.size_toArray]; omega) ⟨H, I.tok _, by rw [isEmpty_of r]; exact q⟩
    · subst e'
      obtain ⟨hz, hS, vs, r, m⟩ : kvs.length ≤ sizeLine ∧ (p == sysModules) = false ∧ ∃ vs, KV kvs vs ∧ s.heap.DictOf (mixKind X.prog X.w) p vs := I.hok p _ hx
      have hlen : kvs.length = vs.length := Paired.length r
      exact wpAny_truthy_dict hS m (by omega) ⟨H, I.tok _, by rw [isEmpty_kv r]; exact q⟩
  | _ => exact (show False from e).elim
/-! ### strs and bytes -/
theorem op_add_str : OpR X (binaryOp .Add) (fun x y H Q => ∃ i j, x = .str i ∧ y = .str j ∧ i.length + j.length ≤ sizeLine ∧ Q (.str (i ++ j)) H) := by
  intro pins s σ H x y v u Q I rx ry h
  obtain ⟨i, j, rfl, rfl, hz, q⟩ := h
  obtain ⟨t, rfl⟩ := rx
  obtain ⟨t', rfl⟩ := ry
  exact add_str (fun t' tk => ⟨.str (i ++ j), H, I.tok _, ⟨_, rfl⟩, q⟩) hz
/-! ### scalar builtins, by CallR -/
theorem vals1 {x : V} {us : List Value} (r : Vals [x] us) : ∃ u, us = [u] ∧ RelV x u := by
  cases r with
  | cons r1 r2 => cases r2; exact ⟨_, rfl, r1⟩
theorem call_abs : CallR X (.builtin "abs") (fun xs H Q => ∃ i, xs = [.int i] ∧ Q (.int (if i < 0 then -i else i)) H) := by
  intro pins s σ H xs us Q I r h
  obtain ⟨i, rfl, q⟩ := h
  obtain ⟨u, rfl, t, rfl⟩ := vals1 r
  exact call_abs_int fun u tk => ⟨.int (if i < 0 then -i else i), H, I.tok _, ⟨_, rfl⟩, q⟩
/-- len of a str, a bytes, a list, a tuple -/
def LenV (K : PySem.W.Frag) (x : V) (H : Hp) (n : Nat) : Prop :=
  match x with
  | .str y => y.length ≤ sizeLine ∧ n = y.length
  | .byt y => y.size ≤ sizeLine ∧ n = y.size
  | .ref p => (∃ xs, SqL K H p xs ∧ n = xs.length) ∨ ∃ xs, SqT K H p xs ∧ n = xs.length
  | _ => False
theorem call_len : CallR X (.builtin "len") (fun xs H Q => ∃ x n, xs = [x] ∧ LenV X.K x H n ∧ Q (.int n) H) := by
  intro pins s σ H xs us Q I r h
  obtain ⟨x, n, rfl, e, q⟩ := h
  obtain ⟨u, rfl, rx⟩ := vals1 r
  have hl := line63
  have hs : sizeLine = 16777216 := sizeLine_eq
  cases x with
  | str y =>
    obtain ⟨t, rfl⟩ := rx
    obtain ⟨hy, e'⟩ : y.length ≤ sizeLine ∧ n = y.length := e
    subst e'
    exact len_str (by omega) ⟨.int _, H, I.tok _, ⟨_, rfl⟩, q⟩
  | byt y =>
    obtain ⟨t, rfl⟩ := rx
    obtain ⟨hy, e'⟩ : y.size ≤ sizeLine ∧ n = y.size := e
    subst e'
    exact PySem.W.len_bytes (by omega) ⟨.int _, H, I.tok _, ⟨_, rfl⟩, q⟩
  | ref p =>
    cases rx
    have e' : (∃ xs, SqL X.K H p xs ∧ n = xs.length) ∨ ∃ xs, SqT X.K H p xs ∧ n = xs.length := e
    rcases e' with ⟨xs, hx, e'⟩ | ⟨xs, hx, e'⟩
    · subst e'
      obtain ⟨its, r', pl, hz⟩ := I.list hx
      have hlen := r'.length
      exact Calls.call_len_list pl.isList (by simp only [List.size_toArray]; omega) ⟨.int xs.length, H, I.tok _, ⟨_, by simp only [List.size_toArray]; rw [hlen]⟩, q⟩
    · subst e'
      obtain ⟨its, r', pl, hz⟩ := I.tuple hx
      have hlen := r'.length
      exact len_tuple pl (by simp only [List.size_toArray]; omega) ⟨.int xs.length, H, I.tok _, ⟨_, by simp only [List.size_toArray]; rw [hlen]⟩, q⟩
  | _ => exact (show False from e).elim
end
end L2

namespace L2
open PySem PySem.Spec PyProof.Rows

/-! ### an instance, its attributes a map -/
structure ObjM (h : Heap) (x dx C : Addr) (mA : Str → Option Value) : Prop where
  obj : h.get? x = some (PySem.W.instObj C dx)
  ns : h.Ns1 dx mA
  ne : dx ≠ x

theorem lookIn_ns {h : Heap} {dx : Addr} {mA : Str → Option Value} (n : h.Ns1 dx mA) : ∃ od, h.get? dx = some od ∧ ∀ name, PySem.W.lookIn name od = some (mA name) := by
  obtain ⟨o, es, ep, ho, hd, hk, _, hm⟩ := n
  refine ⟨o, ho, fun name => ?_⟩
  have e := hm name
  unfold nsFind findBy at e
  rw [← Array.find?_toList] at e
  unfold PySem.W.lookIn
  rw [hd]
  dsimp only
  split
  · rename_i y q
    rw [q] at e
    exact congrArg some e
  · rename_i q
    rw [q] at e
    have a : es.toList.any (·.refKey) = false := by
      rw [List.any_eq_false]
      intro y hy
      obtain ⟨z, t, hkey⟩ := hk y (Array.mem_toList_iff.mp hy)
      simp [DictEntry.refKey, hkey]
    have a' : ¬ es.toList.any (·.refKey) = true := by rw [a]; exact Bool.false_ne_true
    rw [if_neg a']
    exact congrArg some e

theorem ObjM.look {h : Heap} {x dx C : Addr} {mA : Str → Option Value} (I : ObjM h x dx C mA) : ∃ od, PySem.W.InstAt h x (PySem.W.instObj C dx) C (some od) ∧ ∀ name, PySem.W.lookIn name od = some (mA name) :=
  let ⟨od, ho, hl⟩ := lookIn_ns I.ns
  ⟨od, ⟨I.obj, rfl, rfl, ho⟩, hl⟩

section
variable {prog : Program} {w : World} {A : Around} {E : Value → Shared → Prop} {s : Shared} {K : PySem.W.Frag} {x dx C f : Addr} {mA : Str → Option Value} {name : Str} {v : Value}

theorem get_map {expr : Bool} {Q : Value → Shared → Prop} (X : K.In s.heap) (I : ObjM s.heap x dx C mA) (hg : PySem.W.plainGet K C name = true) (hh : PySem.W.hasDictIn K C = true)
    (ha : PySem.W.findIn K (.ref C) name = some none) (hv : mA name = some v) (hv' : PySem.W.handedIn v = true) (h : Q v { s with toks := s.toks + 1 }) :
    wpAny (model prog w) A (getAttr (.ref x) name expr) Q E s := by
  obtain ⟨od, J, hl⟩ := I.look
  exact PySem.W.get_value X J (PySem.W.plainGet_of hg).1 (PySem.W.findObj_own hh ha rfl (by rw [hl, hv])) hv' h

theorem get_meth {pl : Sem Bool} {Q : Value × List Value → Shared → Prop} (X : K.In s.heap) (I : ObjM s.heap x dx C mA) (hg : PySem.W.plainGet K C name = true)
    (hf : PySem.W.findIn K (.ref C) name = some (some (.ref f))) (ht : PySem.W.isFn K (.ref f) = true) (hv : mA name = none) (h : Q (.ref f, [.ref x]) s) :
    wpAny (model prog w) A (getMethod (.ref x) name pl) Q E s := by
  obtain ⟨od, J, hl⟩ := I.look
  exact PySem.W.method_fn X J (PySem.W.plainGet_of hg).1 (PySem.W.plainGet_of hg).2 hf (beq_iff_eq.mp ht) (by show (PySem.W.lookIn name od).map (·.isSome) = some false; rw [hl, hv]; rfl) h

theorem set_map {ns : List Str} {Q : Unit → Shared → Prop} (X : K.In s.heap) (I : ObjM s.heap x dx C mA)
    (hs : PySem.W.findIn K (.ref C) "__setattr__" = some (some (.builtin "object.__setattr__"))) (hp : PySem.W.plainOver K C = true) (ht : PySem.W.takerIn K C name = some none) (hh : PySem.W.hasDictIn K C = true)
    (hw : PySem.Within mA ns) (hsz : ns.length ≤ sizeLine)
    (h : ∀ h', ObjM h' x dx C (fun y => if y = name then some v else mA y) → Heap.SameBut dx s.heap h' → Q () { s with heap := h', toks := s.toks + 2 }) :
    wpAny (model prog w) A (setAttr (.ref x) name v) Q E s := by
  obtain ⟨od, J, hl⟩ := I.look
  refine PySem.W.set_plain X J hs (PySem.W.osa_open (s := { s with toks := s.toks + 1 }) (r := none) X J hp ht fun b => ?_)
  obtain ⟨cd, hc, hd'⟩ := PySem.W.any_some hh
  have hx : s.heap.get? x = some ⟨.ref C, some dx, .plain, #[]⟩ := I.obj
  refine wpAny_bind (wpAny_pure (wpAny_bind (wpAny_bind (wpAny_loadPart hx (wpAny_bind (PySem.W.Looks.here (s := { s with toks := s.toks + 1 }) (PySem.W.looks_clsIn X hc) ?_))))))
  rw [hd']
  refine wpAny_pure (a := some dx) (wpAny_bind (wpAny_pure (wpAny_bind ?_)))
  refine wpAny_nsSet1 (s := { s with toks := s.toks + 1 }) I.ns fun h' hn2 hs2 => ?_
  obtain ⟨oD, esD, epD, hoD, hdD, hcD⟩ := hn2.count (PySem.Within.cons name v hw)
  refine wpAny_bind (wpAny_lookBehind hoD (by rw [hdD]; exact pastItsLine_dict (Nat.le_trans hcD (by rw [List.length_cons]; omega))) ?_)
  exact wpAny_pure (h _ ⟨(hs2.2 _ (Ne.symm I.ne)).trans I.obj, hn2, I.ne⟩ hs2)

/-- C(..): the dict at the heap's end, the instance behind it; then its __init__ -/
theorem make_map {R : Result → Shared → Prop} {vs : List Value} {kw : List (Str × Value)} (X : K.In s.heap) (hm : PySem.W.makesIn K C = true)
    (hi : PySem.W.findIn K (.ref C) "__init__" = some (some (.ref f))) (hf : PySem.W.typeIn K (.ref f) = some (.type "function"))
    (h : codeAny (model prog w) (A.under (.builtin "type.__call__" ⟨.ref C :: vs, kw⟩)) (.call (.ref f) ⟨.ref (s.heap.objs.size + 1) :: vs, kw⟩) (PySem.W.InitBack (s.heap.objs.size + 1) R)
      { s with heap := (s.heap.push PySem.W.emptyDict).push (PySem.W.instObj C s.heap.objs.size) }) :
    codeAny (model prog w) A (.call (.ref C) ⟨vs, kw⟩) R s := by
  obtain ⟨hh, g, d, t, os⟩ := s
  exact PySem.W.make_core (PySem.W.makes_of X hm) (PySem.W.looks_findIn X hi) (fun self => PySem.W.bind_fn X self hf) (.inl rfl) h
end

/-! ### the attributes as a list of pairs -/
def putF (f : Str) (v : V) : List (Str × V) → List (Str × V)
  | [] => [(f, v)]
  | (g, x) :: r => if g = f then (g, v) :: r else (g, x) :: putF f v r
theorem lookup_putF (f g : Str) (v : V) : ∀ fs : List (Str × V), (putF f v fs).lookup g = if g = f then some v else fs.lookup g
  | [] => by
    show List.lookup g [(f, v)] = _
    by_cases h : g = f
    · have hb : (g == f) = true := beq_iff_eq.mpr h
      simp only [List.lookup, hb, if_pos h]
    · have hb : (g == f) = false := beq_eq_false_iff_ne.mpr h
      simp only [List.lookup, hb, if_neg h]
  | (k, x) :: r => by
    have ih := lookup_putF f g v r
    rw [show putF f v ((k, x) :: r) = (if k = f then (k, v) :: r else (k, x) :: putF f v r) from rfl]
    by_cases hk : k = f
    · rw [if_pos hk]
      by_cases h : g = k
      · have hb : (g == k) = true := beq_iff_eq.mpr h
        simp only [List.lookup, hb, if_pos (h.trans hk)]
      · have hb : (g == k) = false := beq_eq_false_iff_ne.mpr h
        simp only [List.lookup, hb, if_neg (fun e : g = f => h (e.trans hk.symm))]
    · rw [if_neg hk]
      by_cases h : g = k
      · have hb : (g == k) = true := beq_iff_eq.mpr h
        simp only [List.lookup, hb, if_neg (fun e : g = f => hk (h.symm.trans e))]
      · have hb : (g == k) = false := beq_eq_false_iff_ne.mpr h
        simp only [List.lookup, hb]
        exact ih
theorem keys_putF (f : Str) (v : V) : ∀ fs : List (Str × V), f ∈ (putF f v fs).map (·.1) ∧ ∀ g, g ∈ fs.map (·.1) → g ∈ (putF f v fs).map (·.1)
  | [] => ⟨by simp [putF], fun g h => by simp at h⟩
  | (k, x) :: r => by
    obtain ⟨i1, i2⟩ := keys_putF f v r
    rw [show putF f v ((k, x) :: r) = (if k = f then (k, v) :: r else (k, x) :: putF f v r) from rfl]
    by_cases hk : k = f
    · rw [if_pos hk]
      subst hk
      exact ⟨by simp, fun g h => by simpa using h⟩
    · rw [if_neg hk]
      refine ⟨?_, fun g h => ?_⟩
      · rw [List.map_cons]
        exact List.mem_cons_of_mem _ i1
      · rw [List.map_cons] at h ⊢
        rcases List.mem_cons.mp h with e | e
        · exact List.mem_cons.mpr (.inl e)
        · exact List.mem_cons_of_mem _ (i2 g e)
theorem length_putF (f : Str) (v : V) : ∀ fs : List (Str × V), (putF f v fs).length ≤ fs.length + 1
  | [] => by simp [putF]
  | (k, x) :: r => by
    have ih := length_putF f v r
    rw [show putF f v ((k, x) :: r) = (if k = f then (k, v) :: r else (k, x) :: putF f v r) from rfl]
    by_cases hk : k = f
    · rw [if_pos hk, List.length_cons, List.length_cons]; omega
    · rw [if_neg hk, List.length_cons, List.length_cons]; omega

theorem RelO.some_of {v : V} {o : Option Value} (r : RelO (some v) o) : ∃ u, o = some u ∧ RelV v u := by
  cases o with
  | none => exact (show False from r).elim
  | some u => exact ⟨u, rfl, r⟩
theorem RelO.none_of {o : Option Value} (r : RelO none o) : o = none := by
  cases o with
  | none => rfl
  | some u => exact (show False from r).elim
theorem handed_of {v : V} {u : Value} (r : RelV v u) : PySem.W.handedIn u = true := by
  cases v with
  | non => cases (show u = Value.none from r); rfl
  | bl b => cases (show u = Value.bool b from r); rfl
  | int i => obtain ⟨t, e⟩ := (show ∃ t, u = Value.int i t from r); cases e; rfl
  | str x => obtain ⟨t, e⟩ := (show ∃ t, u = Value.str x t from r); cases e; rfl
  | byt b => obtain ⟨t, e⟩ := (show ∃ t, u = Value.bytes b t from r); cases e; rfl
  | flt b => obtain ⟨t, e⟩ := (show ∃ t, u = Value.float b t from r); cases e; rfl
  | ref a => cases (show u = Value.ref a from r); rfl
  | ty n => cases (show u = Value.type n from r); rfl

section
variable {P : Program} {w : World} {H H' : Hp} {h h' : Heap} {a C dx : Addr} {fs fs' : List (Str × V)}
theorem ins_get (hok : HOk P w H h) (e : H a = some (.ins C dx fs)) : ∃ mA, ObjM h a dx C mA ∧ (∀ f, RelO (fs.lookup f) (mA f)) ∧ PySem.Within mA (fs.map (·.1)) ∧ fs.length ≤ 1000 ∧ H dx = some (.own a) := by
  obtain ⟨d, z, ne, ob, mA, n, r, q⟩ := (show ObjOk P w H h a (.ins C dx fs) from hok a _ e)
  exact ⟨mA, ⟨ob, n, ne⟩, r, q, z, d⟩
end

/-! ### what of the text a class must have -/
structure Cls (K : PySem.W.Frag) (C : Addr) : Prop where
  pg : PySem.W.plainGet K C Str.empty = true
  hd : PySem.W.hasDictIn K C = true
  po : PySem.W.plainOver K C = true
  sa : PySem.W.findIn K (.ref C) "__setattr__" = some (some (.builtin "object.__setattr__"))
theorem Cls.get {K : PySem.W.Frag} {C : Addr} (c : Cls K C) (f : Str) : PySem.W.plainGet K C f = true := c.pg
/-- no class of it has the name -/
def NoAttr (K : PySem.W.Frag) (C : Addr) (f : Str) : Prop := PySem.W.findIn K (.ref C) f = some none
theorem NoAttr.taker {K : PySem.W.Frag} {C : Addr} {f : Str} (n : NoAttr K C f) : PySem.W.takerIn K C f = some none := by
  unfold PySem.W.takerIn
  rw [show PySem.W.findIn K (.ref C) f = some none from n]
  rfl
/-- a constant of the class -/
structure Con (K : PySem.W.Frag) (C : Addr) (f : Str) (v : V) (u : Value) : Prop where
  at_ : PySem.W.findIn K (.ref C) f = some (some u)
  rel : RelV v u
  get : PySem.W.specialIn K u "__get__" = some none
  cp : PySem.W.copiedNames.contains f = false
/-- a method: a plain def of the class or of one above it -/
structure Meth (K : PySem.W.Frag) (C : Addr) (m : Str) (f : Addr) : Prop where
  at_ : PySem.W.findIn K (.ref C) m = some (some (.ref f))
  fn : PySem.W.isFn K (.ref f) = true
  kp : PySem.W.keepIn K (.ref f) = true

section
variable {X : Cx} {pins : List (Addr × Obj)} {σ : St} {H : Hp} {s : Shared} {a C dx : Addr} {fs : List (Str × V)} {f : Str} {v : V} {A : Around} {E : Value → Shared → Prop}

theorem getattr_ok {b : Bool} {Q : Value → Shared → Prop} (I : Inv X pins σ H s) (e : H a = some (.ins C dx fs)) (c : Cls X.K C) (n : NoAttr X.K C f) (l : fs.lookup f = some v)
    (h : ∀ u s', Inv X pins σ H s' → RelV v u → Q u s') : wpAny (model X.prog X.w) A (getAttr (.ref a) f b) Q E s := by
  obtain ⟨mA, O, r, _, _, _⟩ := ins_get I.hok e
  obtain ⟨u, hu, ru⟩ := RelO.some_of (v := v) (o := mA f) (by rw [← l]; exact r f)
  exact get_map I.kIn O (c.get f) c.hd n hu (handed_of ru) (h u _ (I.tok _) ru)

theorem getmeth_ok {m : Str} {g : Addr} {pl : Sem Bool} {Q : Value × List Value → Shared → Prop} (I : Inv X pins σ H s) (e : H a = some (.ins C dx fs)) (c : Cls X.K C) (k : Meth X.K C m g) (l : fs.lookup m = none)
    (h : Q (.ref g, [.ref a]) s) : wpAny (model X.prog X.w) A (getMethod (.ref a) m pl) Q E s := by
  obtain ⟨mA, O, r, _, _, _⟩ := ins_get I.hok e
  have hn : mA m = none := RelO.none_of (by rw [← l]; exact r m)
  exact get_meth I.kIn O (c.get m) k.at_ k.fn hn h

theorem setattr_ok {y : V} {u : Value} {Q : Unit → Shared → Prop} (I : Inv X pins σ H s) (e : H a = some (.ins C dx fs)) (c : Cls X.K C) (n : NoAttr X.K C f) (hl : fs.length < 1000) (ry : RelV y u)
    (h : ∀ s', Inv X pins σ (upd H a (.ins C dx (putF f y fs))) s' → Q () s') : wpAny (model X.prog X.w) A (setAttr (.ref a) f u) Q E s := by
  obtain ⟨mA, O, r, wi, _, ho⟩ := ins_get I.hok e
  have hz : (fs.map (·.1)).length ≤ sizeLine := by rw [List.length_map, sizeLine_eq]; omega
  refine set_map I.kIn O c.sa c.po n.taker c.hd wi hz fun h' O' sb => h _ ?_
  have hd : ∃ o, h'.get? dx = some o := let ⟨o, _, _, e', _⟩ := O'.ns; ⟨o, e'⟩
  refine I.write (x := a) (e := dx) (by rw [e]; exact True.intro) (.inr ho) (fun b q hb z => (sb.2 b hb).trans z) hd ?_
  refine ⟨by rw [upd_ne O.ne]; exact ho, ?_, O.ne, O'.obj, _, O'.ns, fun g => ?_, fun g hg => ?_⟩
  · have := length_putF f y fs; omega
  · show RelO ((putF f y fs).lookup g) (if g = f then some u else mA g)
    rw [lookup_putF]
    by_cases q : g = f
    · rw [if_pos q, if_pos q]; exact ry
    · rw [if_neg q, if_neg q]; exact r g
  · by_cases q : g = f
    · rw [q]; exact (keys_putF f y fs).1
    · refine (keys_putF f y fs).2 g (wi g fun z => hg ?_)
      show (if g = f then some u else mA g) = none
      rw [if_neg q]; exact z

/-- a new instance, tracked, without attributes -/
theorem Inv.made (I : Inv X pins σ H s) : Inv X pins σ (upd (upd H s.heap.objs.size (.own (s.heap.objs.size + 1))) (s.heap.objs.size + 1) (.ins C s.heap.objs.size []))
    { s with heap := (s.heap.push PySem.W.emptyDict).push (PySem.W.instObj C s.heap.objs.size) } := by
  have e1 : (s.heap.push PySem.W.emptyDict).get? s.heap.objs.size = some PySem.W.emptyDict := Heap.get?_push_size s.heap rfl
  have e2 : ((s.heap.push PySem.W.emptyDict).push (PySem.W.instObj C s.heap.objs.size)).get? (s.heap.objs.size + 1) = some (PySem.W.instObj C s.heap.objs.size) := by
    have := Heap.get?_push_size (s.heap.push PySem.W.emptyDict) (o := PySem.W.instObj C s.heap.objs.size) rfl
    rwa [Heap.size_push] at this
  have e3 : (s.heap.push PySem.W.emptyDict).Ns s.heap.objs.size (fun _ => none) := ⟨PySem.W.emptyDict, #[], _, e1, rfl, (fun e he => absurd he (by simp)), fun _ => rfl⟩
  have I1 := I.laid (a := s.heap.objs.size) (o := .own (s.heap.objs.size + 1)) (h' := s.heap.push PySem.W.emptyDict) (t' := s.toks) (fun b u q => Heap.get?_push_of_some _ q) (Nat.le_refl _) ⟨_, e1⟩
  refine I1.laid (a := s.heap.objs.size + 1) (o := .ins C s.heap.objs.size []) (t' := s.toks) (fun b u q => Heap.get?_push_of_some _ q) (Nat.le_of_eq (Heap.size_push _ _)) ?_
  have ne : s.heap.objs.size ≠ s.heap.objs.size + 1 := Nat.ne_of_lt (Nat.lt_succ_self _)
  refine ⟨by rw [upd_ne ne, upd_same], Nat.zero_le _, ne, e2, fun _ => none, (Heap.Ns1.of_empty e3).at fun o q => Heap.get?_push_of_some _ q, fun _ => True.intro, fun y hy => absurd rfl hy⟩

/-- e.f where nothing but the object is asked: through attributeBase (super) and the last hold -/
theorem attr_of {prog : Program} {w : World} {env : Env} {e : Expr} {f : Str} {pos : Pos} {s : Shared} {Q : Value → Shared → Prop} (hb : attributeBase e f env (eval e env) = eval e env)
    (h : wpAny (model prog w) A (eval e env) (fun o s₁ => wpAny (model prog w) A (getAttr o f true) Q E s₁) E s) : wpAny (model prog w) A (eval (.Attribute e f pos) env) Q E s :=
  Attribute_any_ h (by rw [arm_eval_Attribute, hb])
end

/-! ### readings and rules -/
/-- e.f, an attribute of the instance -/
def tFld (K : PySem.W.Frag) (ta : TE) (f : Str) : TE := fun σ H Q => ta σ H fun x H1 => ∃ a C dx fs v, x = .ref a ∧ H1 a = some (.ins C dx fs) ∧ Cls K C ∧ NoAttr K C f ∧ fs.lookup f = some v ∧ Q v H1
/-- e.f = value -/
def sFld (K : PySem.W.Frag) (ta tv : TE) (f : Str) : TS := fun D σ H => tv σ H fun y H1 => ta σ H1 fun x H2 => ∃ a C dx fs, x = .ref a ∧ H2 a = some (.ins C dx fs) ∧ Cls K C ∧ NoAttr K C f ∧ fs.length < 1000 ∧
  D.nx σ (upd H2 a (.ins C dx (putF f y fs)))
section
variable {X : Cx} {o e value : Expr} {f : Str} {pos pos' tpos : Pos} {ta tv : TE}
theorem pe_fld (he : PE X e ta) (hb : attributeBase e f X.env (eval e X.env) = eval e X.env) : PE X (.Attribute e f pos) (tFld X.K ta f) := by
  intro pins s σ H Q I h
  refine attr_of hb (thn (he pins s σ H _ I h) fun u s1 ⟨x, H1, I1, rx, a, C, dx, fs, v, ex, ea, c, n, l, q⟩ => ?_)
  subst ex
  obtain rfl : u = Value.ref a := rx
  exact getattr_ok I1 ea c n l fun u' s2 I2 ru => ⟨v, H1, I2, ru, q⟩
theorem ps_fld (ha : PE X o ta) (hv : PE X value tv) (hs : swapsWith value (some (.Attribute o f pos')) pos.line X.env = pure false) : PS X (.Assign [.Attribute o f pos'] value pos) (sFld X.K ta tv f) := by
  intro pins s σ H D I h
  refine plainObj_wpAny_Assign_Attribute (thn (hv pins s σ H _ I h) fun u s1 ⟨y, H1, I1, ry, q⟩ => thn (ha pins s1 σ H1 _ I1 q) fun ov s2 ⟨x, H2, I2, rx, a, C, dx, fs, ex, ea, c, n, l, q2⟩ => ?_) hs
  subst ex
  obtain rfl : ov = Value.ref a := rx
  exact setattr_ok I2 ea c n l ry fun s3 I3 => ⟨σ, _, I3, q2⟩
/-- what is between an instance and its method: the tree of a method call -/
theorem methcall_of {pl : Sem Bool} {m : Str} {apos : Pos} {args : List Expr} {pins : List (Addr × Obj)} {s : Shared} {σ : St} {H : Hp} {Q : Value → Shared → Prop} {te : TE} (he : PE X e te) (I : Inv X pins σ H s)
    (h : te σ H fun x H1 => ∃ a C dx fs g, x = .ref a ∧ H1 a = some (.ins C dx fs) ∧ Cls X.K C ∧ Meth X.K C m g ∧ fs.lookup m = none ∧
      ∀ s1, Inv X pins σ H1 s1 → wpAny (model X.prog X.w) X.A (callWith pos (.ref g) [.ref a] (backTo pos (starEach args X.env)) (backToKw pos (keywordEach [] X.env))) Q X.xe s1)
    (ht : eval (.Call (.Attribute e m apos) args [] pos) X.env = (do
      let ov ← eval e X.env
      standAt apos.atName
      let (f, first) ← holding [ov] (getMethod ov m pl)
      callWith pos f first (backTo pos (starEach args X.env)) (backToKw pos (keywordEach [] X.env)))) :
    wpAny (model X.prog X.w) X.A (eval (.Call (.Attribute e m apos) args [] pos) X.env) Q X.xe s := by
  refine PySem.W.methodCall_KW (pl := pl) (thn (he pins s σ H _ I h) fun u s1 ⟨x, H1, I1, rx, a, C, dx, fs, g, ex, ea, c, k, l, q⟩ => ?_) ht
  subst ex
  obtain rfl : u = Value.ref a := rx
  exact getmeth_ok I1 ea c k l (q s1 I1)
end

/-! ### isinstance -/
section
variable {X : Cx} {pins : List (Addr × Obj)} {σ : St} {H : Hp} {s : Shared} {A : Around} {E : Value → Shared → Prop} {Q : Value → Shared → Prop} {c : Value} {b : Bool}
/-- the type of a value, as the fragment's deciders take it; for an instance its class -/
inductive TyOf (K : PySem.W.Frag) (H : Hp) : V → Value → Prop where
  | non : TyOf K H .non (.type "NoneType")
  | bl (x : Bool) : TyOf K H (.bl x) (.type "bool")
  | int (i : Int) : TyOf K H (.int i) (.type "int")
  | str (x : Str) : TyOf K H (.str x) (.type "str")
  | flt (x : UInt64) : TyOf K H (.flt x) (.type "float")
  | lst {a : Addr} {xs : List V} (e : H a = some (.lst xs)) : TyOf K H (.ref a) (.type "list")
  | frz {a : Addr} {o : Obj} {xs : List V} (e : H a = some (.frz o (.lst xs))) : TyOf K H (.ref a) (.type "list")
  | tup {a : Addr} {xs : List V} (e : H a = some (.tup xs)) : TyOf K H (.ref a) (.type "tuple")
  | dK {a : Addr} {kvs : List (Key × V)} (e : H a = some (.dK kvs)) : TyOf K H (.ref a) (.type "dict")
  | dT {a : Addr} {kvs : List (List Key × V)} (e : H a = some (.dT kvs)) : TyOf K H (.ref a) (.type "dict")
  | ins {a C dx : Addr} {fs : List (Str × V)} (e : H a = some (.ins C dx fs)) (cl : Cls K C) (ha : PySem.W.findIn K (.ref C) "__class__" = some (some (.builtin "object.__class__")))
      (hn : PySem.W.specialIn K (.builtin "object.__class__") "__get__" = some (some (.builtin "getset_descriptor.__get__"))) (htk : PySem.W.takesIn K (.builtin "object.__class__") = some true)
      (hm : PySem.W.mroIn K C (.type "object") = some true) : TyOf K H (.ref a) (.ref C)
end
end L2

namespace L2
open PySem PySem.Spec PyProof.Rows

/-! ### room -/
structure Room (k : Nat) (A : Around) : Prop where
  hd : A.handled = none
  dp : A.depth + 3 * k + 5 < recursionLimit
  un : A.units + 16 * k + 200 < cLine
theorem Room.mono {j k : Nat} {A : Around} (r : Room k A) (h : j ≤ k) : Room j A := ⟨r.hd, by have := r.dp; omega, by have := r.un; omega⟩
theorem Room.deeper {k : Nat} {A : Around} (r : Room (k + 1) A) (env : Env) : Room k (A.deeper env) :=
  ⟨r.hd, by have := r.dp; show A.depth + 1 + 3 * k + 5 < _; omega, by have := r.un; show A.units + 3 + 16 * k + 200 < _; omega⟩
theorem make_depth {A : Around} {C : Addr} {us : List Value} {kw : List (Str × Value)} : (A.under (.builtin "type.__call__" ⟨.ref C :: us, kw⟩)).depth = A.depth + 1 := by
  first | rfl | simp [Around.under, Code.weight, Code.isCreation, Code.isGuard, Code.isCaller, Code.frames, Code.isFrame, guardIds]
theorem make_units {A : Around} {C : Addr} {us : List Value} {kw : List (Str × Value)} : (A.under (.builtin "type.__call__" ⟨.ref C :: us, kw⟩)).units = A.units + 1 := by
  first | rfl | simp [Around.under, Code.cUnits, Code.frames, Code.isFrame]
theorem Room.make {k : Nat} {A : Around} (r : Room (k + 1) A) (C : Addr) (us : List Value) (kw : List (Str × Value)) : Room k (A.under (.builtin "type.__call__" ⟨.ref C :: us, kw⟩)) :=
  ⟨r.hd, by have := r.dp; rw [make_depth]; omega, by have := r.un; rw [make_units]; omega⟩
theorem Room.depth {k : Nat} {A : Around} (r : Room k A) : A.depth < recursionLimit := by have := r.dp; omega
theorem Room.units {k : Nat} {A : Around} (r : Room k A) : A.units + 64 < cLine := by have := r.un; omega
/-! ### argument lists and displays -/
def tNil : TA := fun _ H Q => Q [] H
def tCons (ta : TE) (tr : TA) : TA := fun σ H Q => ta σ H fun x H1 => tr σ H1 fun xs H2 => Q (x :: xs) H2
section
variable {X : Cx} {e : Expr} {es : List Expr} {te : TE} {t : TA} {pos : Pos}
theorem pa_nil : PA X [] tNil := fun _ _ _ _ H Q I h => Calls.spliced_nil ⟨[], H, I, .nil, h⟩
theorem pa_cons (ha : PE X e te) (hr : PA X es t) (hs : starEach (e :: es) X.env = (false, eval e X.env) :: starEach es X.env := by rfl) : PA X (e :: es) (tCons te t) := by
  intro pos pins s σ H Q I h
  rw [hs]
  show wpAny _ _ (spliced ((false, eval e X.env) :: backTo pos (starEach es X.env))) _ _ s
  refine Calls.spliced_cons (thn (ha pins s σ H _ I h) fun u s1 ⟨x, H1, I1, r1, q1⟩ => ?_)
  exact thn (hr pos pins s1 σ H1 _ I1 q1) fun us s2 ⟨xs, H2, I2, r2, q2⟩ => ⟨x :: xs, H2, I2, .cons r1 r2, q2⟩

/-- a tuple, a list of written items -/
def tTup (t : TA) : TE := fun σ H Q => t σ H fun xs H1 => xs.length ≤ sizeLine ∧ ∀ p, H1 p = none → Q (.ref p) (upd H1 p (.tup xs))
def tLst (t : TA) : TE := fun σ H Q => t σ H fun xs H1 => xs.length ≤ sizeLine ∧ ∀ p, H1 p = none → Q (.ref p) (upd H1 p (.lst xs))
theorem pe_tup {x1} (h : PA X es t) : PE X (.Tuple es x1 pos) (tTup t) := by
  intro pins s σ H Q I hq
  refine wpAny_Tuple_spliced (thn (h pos pins s σ H _ I hq) fun us s1 ⟨xs, H1, I1, r, z, q⟩ => ⟨by rw [← r.length]; exact z, ?_⟩)
  have hf : H1 s1.heap.objs.size = none := I1.hok.fresh (Nat.le_refl _)
  refine ⟨.ref s1.heap.objs.size, upd H1 s1.heap.objs.size (.tup xs), I1.laid (t' := s1.toks) (fun b u e => Heap.get?_push_of_some _ e) (Nat.le_refl _) ?_, rfl, q _ hf⟩
  exact ⟨z, us, r, ⟨_, Heap.get?_push_size _ rfl, rfl, _, rfl⟩⟩
theorem pe_lst (h : PA X es t) : PE X (.List es pos) (tLst t) := by
  intro pins s σ H Q I hq
  refine wpAny_List_spliced (thn (h pos pins s σ H _ I hq) fun us s1 ⟨xs, H1, I1, r, z, q⟩ => ⟨by rw [← r.length]; exact z, ?_⟩)
  have hf : H1 s1.heap.objs.size = none := I1.hok.fresh (Nat.le_refl _)
  refine ⟨.ref s1.heap.objs.size, upd H1 s1.heap.objs.size (.lst xs), I1.laid (t' := s1.toks) (fun b u e => Heap.get?_push_of_some _ e) (Nat.le_refl _) ?_, rfl, q _ hf⟩
  exact ⟨z, us, 0, r, Heap.get?_push_size _ rfl⟩
end

/-! ### what a def promises -/
/-- a def's promise: the bound arguments in the parameters' order, the heap, the wanted end, the wanted exception -/
abbrev Sp := List V → Hp → VK → XK → Prop
/-- how an exception lies behind a call (file 08 gives it): the callers' frames, abstract heap and state ahead of the call, the wish, the exception, the state -/
abbrev CXT := List Env → Hp → Shared → XK → Value → Shared → Prop

/-- the state at a call -/
structure Env0 (P : Program) (w : World) (K : PySem.W.Frag) (mg : Str → Option Value) (base : Heap) (A : Around) (outer : List Env) (s : Shared) (H : Hp) : Prop where
  frames : A.frames = some outer
  mod : Mod K mg base
  bs : ∀ b o, base.get? b = some o → s.heap.get? b = some o ∧ H b = none
  bsz : base.objs.size ≤ s.heap.objs.size
  funs : s.heap.FunFrames base outer
  frf : ∀ b ∈ frs outer, H b = none
  hok : HOk P w H s.heap
  bare : AllBare s.gens
/-- a call's end -/
def CE (outer : List Env) (P : Program) (w : World) (H : Hp) (s : Shared) (Q : VK) (u : Value) (s' : Shared) : Prop :=
  ∃ v H', s'.os = s.os ∧ AllBare s'.gens ∧ Un (frs outer) [] H H' s.heap s'.heap ∧ HOk P w H' s'.heap ∧ RelV v u ∧ Q v H'
def CR (CX : CXT) (outer : List Env) (P : Program) (w : World) (H : Hp) (s : Shared) (Q : VK) (E : XK) (r : Result) (s' : Shared) : Prop :=
  match r with
  | .ok (.ret u) => CE outer P w H s Q u s'
  | .ok _ => False
  | .error e => CX outer H s E e s'
structure FnOk (P : Program) (w : World) (K : PySem.W.Frag) (mg : Str → Option Value) (base : Heap) (CX : CXT) (k : Nat) (f : Addr) (fd : FuncData) (ps : List Str) (sp : Sp) : Prop where
  len : ∀ vs H Q E, sp vs H Q E → vs.length = ps.length
  run : ∀ (A : Around) (outer : List Env) (s : Shared) (H : Hp) (args : Args) (us : List Value) (vs : List V) (Q : VK) (E : XK), Room k A → Env0 P w K mg base A outer s H → BindsTo s fd args (ps.zip us) → Vals vs us → sp vs H Q E →
    codeAny (model P w) A (.call (.ref f) args) (CR CX outer P w H s Q E) s
theorem FnOk.mono {P : Program} {w : World} {K : PySem.W.Frag} {mg : Str → Option Value} {base : Heap} {CX : CXT} {j k : Nat} {f : Addr} {fd : FuncData} {ps : List Str} {sp : Sp} (F : FnOk P w K mg base CX j f fd ps sp) (h : j ≤ k) :
    FnOk P w K mg base CX k f fd ps sp := ⟨F.len, fun A outer s H args us vs Q E hr => F.run A outer s H args us vs Q E (hr.mono h)⟩
theorem Env0.make {P : Program} {w : World} {K : PySem.W.Frag} {mg : Str → Option Value} {base : Heap} {A : Around} {outer : List Env} {s : Shared} {H : Hp} (e : Env0 P w K mg base A outer s H) (C : Addr) (us : List Value) (kw : List (Str × Value)) :
    Env0 P w K mg base (A.under (.builtin "type.__call__" ⟨.ref C :: us, kw⟩)) outer s H := ⟨by first | exact e.frames | (simpa [Around.under, Code.envs, Code.isFrame, pushEnvs] using e.frames), e.mod, e.bs, e.bsz, e.funs, e.frf, e.hok, e.bare⟩
section
variable {X : Cx} {pins : List (Addr × Obj)} {σ : St} {H : Hp} {s s' : Shared}
/-- from a body: what a callee wants -/
theorem Inv.env0 (I : Inv X pins σ H s) : Env0 X.prog X.w X.K X.mg X.base X.A X.stack s H :=
  ⟨I.ok.frames, I.ok.mod, I.bs, Nat.le_trans I.ok.bsz I.sz, I.stack, I.stkFree, I.hok, I.bare⟩
/-- behind a call -/
theorem Inv.after {Q : VK} {u : Value} (I : Inv X pins σ H s) (h : CE X.stack X.prog X.w H s Q u s') : EP X pins σ Q u s' := by
  obtain ⟨v, H', os, bare, un, hok, r, q⟩ := h
  obtain ⟨hh, g, d, t, os'⟩ := s'
  obtain rfl : os' = s.os := os
  exact ⟨v, H', I.call (h' := hh) (g' := g) (d' := d) (t' := t) (ch := []) un hok bare (fun b z => absurd z (by simp)), r, q⟩
end

/-! ### calls -/
/-- f(..): the written arguments, then the defaults dvs; E: what is wanted of an exception -/
def tCall (sp : Sp) (dvs : List V) (E : XK) (t : TA) : TE := fun σ H Q => t σ H fun vs H1 => sp (vs ++ dvs) H1 Q E
/-- o.m(..) of an instance of the class at C -/
def tMeth (C : Addr) (m : Str) (sp : Sp) (dvs : List V) (E : XK) (ta : TE) (t : TA) : TE := fun σ H Q => ta σ H fun x H1 => ∃ a dx fs, x = .ref a ∧ H1 a = some (.ins C dx fs) ∧ fs.lookup m = none ∧
  t σ H1 fun vs H2 => sp (x :: (vs ++ dvs)) H2 Q E
/-- C(..): a new instance and its dict, then __init__ -/
def tMake (C : Addr) (sp : Sp) (dvs : List V) (E : XK) (t : TA) : TE := fun σ H Q => t σ H fun vs H1 => ∀ x dx, H1 x = none → H1 dx = none → dx ≠ x →
  sp (.ref x :: (vs ++ dvs)) (upd (upd H1 dx (.own x)) x (.ins C dx [])) (fun v H2 => v = .non ∧ Q (.ref x) H2) E

/-- how the parameters are bound: us the positional arguments, kw the keywords' values by name, ds the defaults that fill up -/
def Binds (K : PySem.W.Frag) (fd : FuncData) (ps : List Str) (ds : List Value) : Prop :=
  ∀ (s : Shared) (us : List Value), K.In s.heap → (us ++ ds).length = ps.length → BindsTo s fd ⟨us, []⟩ (ps.zip (us ++ ds))
/-- every parameter is given -/
theorem Binds.all {K : PySem.W.Frag} {fd : FuncData} {ps : List Str} (h : ∀ us : List Value, us.length = ps.length → bindArgs fd ⟨us, []⟩ = pure (ps.zip us)) : Binds K fd ps [] := fun s us _ hl => by
  rw [List.append_nil] at hl ⊢
  exact .of_eq (h us hl)

/-- an exception of a callee reaches what this body wants of exceptions -/
def Passes (CX : CXT) (X : Cx) (E : XK) : Prop := ∀ (pins : List (Addr × Obj)) (σ : St) (H : Hp) (s : Shared) (e : Value) (s' : Shared), Inv X pins σ H s → CX X.stack H s E e s' → X.xe e s'

section
variable {X : Cx} {CX : CXT} {k : Nat} {f C : Addr} {fd : FuncData} {ps : List Str} {sp : Sp} {dvs : List V} {ds : List Value} {E : XK} {x m : Str} {p pos apos : Pos} {e o : Expr} {es : List Expr} {ta : TE} {t : TA}

/-- the callee runs -/
theorem run_fn {pins : List (Addr × Obj)} {σ : St} {H : Hp} {s : Shared} {Q : VK} {us : List Value} {vs : List V} (F : FnOk X.prog X.w X.K X.mg X.base CX k f fd ps sp) (hr : Room k X.A) (hb : Binds X.K fd ps ds) (hd : Vals dvs ds) (hx : Passes CX X E)
    (I : Inv X pins σ H s) (r : Vals vs us) (h : sp (vs ++ dvs) H Q E) : wpAny (model X.prog X.w) X.A (call (.ref f) us) (EP X pins σ Q) X.xe s := by
  have r2 : Vals (vs ++ dvs) (us ++ ds) := r.append hd
  have hl : (us ++ ds).length = ps.length := by rw [← r2.length]; exact F.len _ _ _ _ h
  refine wpAny_call (codeAny_mono (F.run X.A X.stack s H ⟨us, []⟩ (us ++ ds) (vs ++ dvs) Q E hr I.env0 (hb s us I.kIn hl) r2 h) fun r s' hq => ?_)
  cases r with
  | error e => exact hx pins σ H s e s' I hq
  | ok fl =>
    cases fl with
    | ret u => exact I.after hq
    | next => exact False.elim hq
    | brk => exact False.elim hq
    | cont => exact False.elim hq

theorem pe_call (F : FnOk X.prog X.w X.K X.mg X.base CX k f fd ps sp) (hr : Room k X.A) (hg : Gl X x) (hm : X.mg x = some (.ref f)) (hk : PySem.W.keepIn X.K (.ref f) = true) (hb : Binds X.K fd ps ds) (hd : Vals dvs ds) (hx : Passes CX X E)
    (ha : PA X (e :: es) t) (hdb : (x == ("__debug__" : Str)) = false := by decide) (he : starEach (e :: es) X.env = (false, eval e X.env) :: starEach es X.env := by rfl) (hpl : (backTo pos (starEach es X.env)).any (·.1) = false := by rfl) :
    PE X (.Call (.Name x p) (e :: es) [] pos) (tCall sp dvs E t) := by
  intro pins s σ H Q I h
  refine wpAny_Call_Name_kw (ld_glob I hg hm ?_ hdb)
  refine PySem.W.callWith_K (h₀ := X.base) I.ok.mod.kin hk (thn (ha pos pins s σ H _ I h) fun us s1 ⟨vs, H1, I1, r, q⟩ => ⟨I1.kIn, ?_⟩) he hpl
  exact run_fn F hr hb hd hx I1 r q
/-- o.m(e, ..) -/
theorem pe_meth {pl : Sem Bool} (he : PE X o ta) (c : Cls X.K C) (hm : Meth X.K C m f) (F : FnOk X.prog X.w X.K X.mg X.base CX k f fd ps sp) (hr : Room k X.A) (hb : Binds X.K fd ps ds) (hd : Vals dvs ds) (hx : Passes CX X E) (ha : PA X (e :: es) t)
    (hst : starEach (e :: es) X.env = (false, eval e X.env) :: starEach es X.env := by rfl) (hpl : (backTo pos (starEach es X.env)).any (·.1) = false := by rfl)
    (ht : eval (.Call (.Attribute o m apos) (e :: es) [] pos) X.env = (do
      let ov ← eval o X.env
      standAt apos.atName
      let (f, first) ← holding [ov] (getMethod ov m pl)
      callWith pos f first (backTo pos (starEach (e :: es) X.env)) (backToKw pos (keywordEach [] X.env))) := by rfl) :
    PE X (.Call (.Attribute o m apos) (e :: es) [] pos) (tMeth C m sp dvs E ta t) := by
  intro pins s σ H Q I h
  refine PySem.W.methodCall_KW (pl := pl) (thn (he pins s σ H _ I h) fun u s1 ⟨x, H1, I1, rx, a, dx, fs, ex, ea, l, q⟩ => ?_) ht
  subst ex
  obtain rfl : u = Value.ref a := rx
  refine getmeth_ok I1 ea c hm l ?_
  refine PySem.W.callWith_K (first := [.ref a]) (h₀ := X.base) I.ok.mod.kin hm.kp (thn (ha pos pins s1 σ H1 _ I1 q) fun us s2 ⟨vs, H2, I2, r, q2⟩ => ⟨I2.kIn, ?_⟩) hst hpl
  exact run_fn (us := .ref a :: us) (vs := .ref a :: vs) F hr hb hd hx I2 (.cons rfl r) q2
/-- what a class must have to be made -/
structure Mk (K : PySem.W.Frag) (C f : Addr) : Prop where
  makes : PySem.W.makesIn K C = true
  init : PySem.W.findIn K (.ref C) "__init__" = some (some (.ref f))
  fn : PySem.W.isFn K (.ref f) = true
  kp : PySem.W.keepIn K (.ref C) = true

theorem run_make {pins : List (Addr × Obj)} {σ : St} {H : Hp} {s : Shared} {Q : VK} {us : List Value} {vs : List V} (M : Mk X.K C f) (F : FnOk X.prog X.w X.K X.mg X.base CX k f fd ps sp) (hr : Room (k + 1) X.A) (hb : Binds X.K fd ps ds) (hd : Vals dvs ds)
    (hx : Passes CX X E) (I : Inv X pins σ H s) (r : Vals vs us)
    (h : ∀ x dx, H x = none → H dx = none → dx ≠ x → sp (.ref x :: (vs ++ dvs)) (upd (upd H dx (.own x)) x (.ins C dx [])) (fun v H2 => v = .non ∧ Q (.ref x) H2) E) :
    wpAny (model X.prog X.w) X.A (call (.ref C) us) (EP X pins σ Q) X.xe s := by
  have hq := h (s.heap.objs.size + 1) s.heap.objs.size (I.hok.fresh (Nat.le_succ _)) (I.hok.fresh (Nat.le_refl _)) (Nat.ne_of_lt (Nat.lt_succ_self _))
  have I2 := Inv.made (C := C) I
  have r2 : Vals (V.ref (s.heap.objs.size + 1) :: (vs ++ dvs)) (Value.ref (s.heap.objs.size + 1) :: (us ++ ds)) := .cons rfl (r.append hd)
  have hl : (Value.ref (s.heap.objs.size + 1) :: us ++ ds).length = ps.length := by
    have e := r2.length
    rw [F.len _ _ _ _ hq] at e
    exact e.symm
  refine wpAny_call (make_map (f := f) I.kIn M.makes M.init (beq_iff_eq.mp M.fn) (codeAny_mono (F.run _ X.stack _ _ ⟨Value.ref (s.heap.objs.size + 1) :: us, []⟩ (Value.ref (s.heap.objs.size + 1) :: (us ++ ds)) _ _ E (hr.make C us [])
    (I2.env0.make C us []) (hb _ (Value.ref (s.heap.objs.size + 1) :: us) I2.kIn hl) r2 hq) fun r s' hq' => ?_))
  cases r with
  | error e => exact hx pins σ _ _ e s' I2 hq'
  | ok fl =>
    cases fl with
    | ret u =>
      obtain ⟨v, H', I3, rv, ev, q3⟩ := I2.after hq'
      subst ev
      exact ⟨rv, ⟨V.ref (s.heap.objs.size + 1), H', I3, rfl, q3⟩⟩
    | next => exact False.elim hq'
    | brk => exact False.elim hq'
    | cont => exact False.elim hq'
theorem pe_make (M : Mk X.K C f) (F : FnOk X.prog X.w X.K X.mg X.base CX k f fd ps sp) (hr : Room (k + 1) X.A) (hg : Gl X x) (hm : X.mg x = some (.ref C)) (hb : Binds X.K fd ps ds) (hd : Vals dvs ds) (hx : Passes CX X E)
    (ha : PA X (e :: es) t) (hdb : (x == ("__debug__" : Str)) = false := by decide) (he : starEach (e :: es) X.env = (false, eval e X.env) :: starEach es X.env := by rfl) (hpl : (backTo pos (starEach es X.env)).any (·.1) = false := by rfl) :
    PE X (.Call (.Name x p) (e :: es) [] pos) (tMake C sp dvs E t) := by
  intro pins s σ H Q I h
  refine wpAny_Call_Name_kw (ld_glob I hg hm ?_ hdb)
  refine PySem.W.callWith_K (h₀ := X.base) I.ok.mod.kin M.kp (thn (ha pos pins s σ H _ I h) fun us s1 ⟨vs, H1, I1, r, q⟩ => ⟨I1.kIn, ?_⟩) he hpl
  exact run_make M F hr hb hd hx I1 r q
end

/-! ### keywords -/
section
variable {X : Cx} {CX : CXT} {k : Nat} {f C : Addr} {fd : FuncData} {ps ks : List Str} {sp : Sp} {E : XK} {x m : Str} {p pos apos kpos : Pos} {e o : Expr} {es : List Expr} {kws : List Keyword} {te ta : TE} {t tk : TA} {nm : Option Str}
/-- how a call with keywords binds: g puts the positional values us and the keywords' values ws (names ks) in the parameters' order, defaults among them -/
structure KBinds (K : PySem.W.Frag) (fd : FuncData) (ps ks : List Str) (g : List Value → List Value → List Value) (gV : List V → List V → List V) : Prop where
  to : ∀ (s : Shared) (us ws : List Value), K.In s.heap → (g us ws).length = ps.length → BindsTo s fd ⟨us, ks.zip ws⟩ (ps.zip (g us ws))
  rel : ∀ {vs : List V} {us : List Value} {zs : List V} {ws : List Value}, Vals vs us → Vals zs ws → Vals (gV vs zs) (g us ws)
variable {g : List Value → List Value → List Value} {gV : List V → List V → List V}
end

/-! ### a def's body keeps its promise -/
/-- names: the parameters first -/
structure FnScope (N P : List Str) (sc : Scope) : Prop where
  kind : sc.kind = .function
  co : sc.isCoroutine = false
  gen : sc.isGenerator = false
  nd : N.Nodup
  pre : N.take P.length = P
  par : ∀ x ∈ P, sc.names.lookup x = some .local ∨ sc.names.lookup x = some .cell
  nofree : ∀ y ∈ sc.names, y.2 ≠ .free

theorem bindL_out {kindOf : Str → Option NameKind} {x : Str} : ∀ {binds : List (Str × Value)} {m : Str → Option Value}, (∀ v, (x, v) ∉ binds) → bindL kindOf binds m x = m x
  | [], _, _ => rfl
  | (n, v) :: r, m, h => by
    unfold bindL
    rw [bindL_out fun w hw => h w (List.mem_cons_of_mem _ hw)]
    split
    · have : x ≠ n := by rintro rfl; exact h v List.mem_cons_self
      simp [this]
    · rfl
theorem bindC_out {kindOf : Str → Option NameKind} {x : Str} : ∀ {binds : List (Str × Value)} {m : Str → Option Value}, (∀ v, (x, v) ∉ binds) → bindC kindOf binds m x = m x
  | [], _, _ => rfl
  | (n, v) :: r, m, h => by
    unfold bindC
    rw [bindC_out fun w hw => h w (List.mem_cons_of_mem _ hw)]
    split
    · rfl
    · have : x ≠ n := by rintro rfl; exact h v List.mem_cons_self
      simp [this]
theorem bindL_get {kindOf : Str → Option NameKind} {x : Str} {v : Value} : ∀ {P : List Str} {vs : List Value} {i : Nat} {m : Str → Option Value}, P.Nodup → P[i]? = some x → vs[i]? = some v → kindOf x = some .local →
    bindL kindOf (P.zip vs) m x = some v
  | [], _, _, _, _, h, _, _ => by simp at h
  | _ :: _, [], _, _, _, _, h, _ => by simp at h
  | p :: P, w :: vs, 0, m, nd, h1, h2, hk => by
    simp at h1 h2; subst h1; subst h2
    show bindL kindOf ((p, w) :: P.zip vs) m p = _
    unfold bindL
    rw [bindL_out fun v hv => (List.nodup_cons.mp nd).1 (List.of_mem_zip hv).1, if_pos hk]
    simp
  | p :: P, w :: vs, i + 1, m, nd, h1, h2, hk => by
    show bindL kindOf ((p, w) :: P.zip vs) m x = _
    unfold bindL
    exact bindL_get (i := i) (List.nodup_cons.mp nd).2 (by simpa using h1) (by simpa using h2) hk
theorem bindC_get {kindOf : Str → Option NameKind} {x : Str} {v : Value} : ∀ {P : List Str} {vs : List Value} {i : Nat} {m : Str → Option Value}, P.Nodup → P[i]? = some x → vs[i]? = some v → kindOf x ≠ some .local →
    bindC kindOf (P.zip vs) m x = some v
  | [], _, _, _, _, h, _, _ => by simp at h
  | _ :: _, [], _, _, _, _, h, _ => by simp at h
  | p :: P, w :: vs, 0, m, nd, h1, h2, hk => by
    simp at h1 h2; subst h1; subst h2
    show bindC kindOf ((p, w) :: P.zip vs) m p = _
    unfold bindC
    rw [bindC_out fun v hv => (List.nodup_cons.mp nd).1 (List.of_mem_zip hv).1, if_neg hk]
    simp
  | p :: P, w :: vs, i + 1, m, nd, h1, h2, hk => by
    show bindC kindOf ((p, w) :: P.zip vs) m x = _
    unfold bindC
    exact bindC_get (i := i) (List.nodup_cons.mp nd).2 (by simpa using h1) (by simpa using h2) hk

/-- the names' values at the entry -/
def start (N : List Str) (vs : List V) : St := vs.map some ++ List.replicate (N.length - vs.length) none

/-- the context of a def's body, at its entry; an exception leaves the frame, then lies as CX says -/
def cxOf (CX : CXT) (P : Program) (w : World) (K : PySem.W.Frag) (mg : Str → Option Value) (base : Heap) (N : List Str) (qual : Str) (scope : Scope) (f : Addr) (cd : Value) (A : Around) (outer : List Env) (s : Shared) (H : Hp) (E : XK) : Cx where
  prog := P
  w := w
  K := K
  mg := mg
  base := base
  A := A.deeper (envOfC qual scope s.heap.objs.size f cd)
  N := N
  s₀ := s
  H₀ := H
  env := envOfC qual scope s.heap.objs.size f cd
  outer := outer
  stack := envOfC qual scope s.heap.objs.size f cd :: outer
  ex := []
  calm := true
  fn := fun _ => true
  pn := []
  xe := fun e s' => wpAny (model P w) (A.deeper (envOfC qual scope s.heap.objs.size f cd)) (leaving (envOfC qual scope s.heap.objs.size f cd) e) (fun _ s'' => CX outer H s E e s'') (fun e' s'' => CX outer H s E e' s'') s'

theorem cell_has {sc : Scope} {n : Nat} {x : Str} (h : sc.names.lookup x = some .cell) : ∃ c, (cellsFrom n sc.names []).lookup x = some c := by
  have q := PySem.W.cellsFrom_some sc.names n [] (.inl h)
  exact Option.isSome_iff_exists.mp q

theorem inv_start {CX : CXT} {P : Program} {w : World} {K : PySem.W.Frag} {mg : Str → Option Value} {base : Heap} {N ps : List Str} {qual : Str} {scope : Scope} {f : Addr} {cd : Value} {A : Around} {outer : List Env} {s s1 : Shared} {H : Hp} {E : XK} {us : List Value} {vs : List V}
    (S : FnScope N ps scope) (hd : A.handled = none) (e0 : Env0 P w K mg base A outer s H) (hl : vs.length = ps.length) (r : Vals vs us)
    (x : InCallC s s.heap.objs.size (bindL (envOfC qual scope s.heap.objs.size f cd).kindOf (ps.zip us) fun _ => none) (cellsFrom (s.heap.objs.size + 1) scope.names []) (bindC (envOfC qual scope s.heap.objs.size f cd).kindOf (ps.zip us) fun _ => none) s1) :
    Inv (cxOf CX P w K mg base N qual scope f cd A outer s H E) [] (start N vs) H s1 := by
  have hpl : ps.length ≤ N.length := by have := congrArg List.length S.pre; rw [List.length_take] at this; omega
  obtain ⟨h1, tk, rfl, hk⟩ := x.done
  have noA : ∀ b : Addr, b ∉ (cxOf CX P w K mg base N qual scope f cd A outer s H E).ex := fun b z => absurd (show b ∈ ([] : List Addr) from z) (by simp)
  refine ⟨⟨e0.mod, S.kind, rfl, rfl, Nat.le_refl _, fun y z c h1 h2 => ?_, fun y hy => ?_, fun y c _ h => ?_, fun _ => hd, Around.frames_deeper e0.frames, .inr ⟨rfl, rfl⟩, fun b z => absurd z (noA b), e0.bs, e0.bsz, fun b _ _ => noA b, fun b z => absurd z (noA b), e0.funs, e0.frf⟩,
    rfl, e0.bare, Un.kept hk, ⟨_, x.toInCall.ns, fun i y v h1 h2 h3 => ?_⟩, fun y c h => ⟨_, x.cell y c h⟩, e0.hok.fresh (Nat.le_refl _), fun y c h => ?_, fun p hp => absurd (show p ∈ ([] : List (Addr × Obj)) from hp) (by simp), e0.hok.kept hk, ?_⟩
  · exact name_of_addr x.apart (PySem.mem_of_lookup h1) (PySem.mem_of_lookup h2)
  · have hy : scope.names.lookup y = some .cell ∨ scope.names.lookup y = some .free := hy
    rcases hy with hy | hy
    · exact cell_has hy
    · exact absurd rfl (S.nofree _ (PySem.mem_of_lookup hy))
  · exact Nat.le_of_lt (x.above y c (PySem.mem_of_lookup h))
  · have hi : i < vs.length := by
      unfold start at h2
      by_cases hi : i < vs.length
      · exact hi
      · rw [List.getElem?_append_right (by simpa using hi)] at h2
        rw [List.getElem?_replicate] at h2
        split at h2 <;> cases h2
    have ha : vs[i]? = some v := by
      unfold start at h2
      rw [List.getElem?_append_left (by simpa using hi), List.getElem?_map] at h2
      cases e : vs[i]? with
      | none => rw [e] at h2; cases h2
      | some a => rw [e] at h2; cases h2; rfl
    obtain ⟨u, hu, rv⟩ := r.get ha
    have hp : ps[i]? = some y := by
      rw [← S.pre, List.getElem?_take_of_lt (by omega)]; exact h1
    have ndP : ps.Nodup := by rw [← S.pre]; exact S.nd.sublist (List.take_sublist _ _)
    refine ⟨u, rv, ?_⟩
    rcases S.par y (List.mem_of_getElem? hp) with k | k
    · exact .inl ⟨k, bindL_get ndP hp hu k⟩
    · obtain ⟨c, e⟩ := cell_has (n := s.heap.objs.size + 1) k
      refine .inr ⟨.inl k, c, e, ?_⟩
      have q := x.cell y c e
      rw [bindC_get ndP hp hu (by show scope.names.lookup y ≠ _; rw [k]; decide)] at q
      exact q
  · exact e0.hok.fresh (Nat.le_of_lt (x.above y c (PySem.mem_of_lookup h)))
  · unfold start
    show _ = N.length
    rw [List.length_append, List.length_map, List.length_replicate]
    omega

/-- THE RULE: a def (or a method) of the text, by its body. The body's reading t is chosen for each entry; it is run at the parameters' values -/
theorem fn_of {CX : CXT} {P : Program} {w : World} {K : PySem.W.Frag} {mg : Str → Option Value} {base : Heap} {k : Nat} {f : Addr} {name qual : Str} {params : Arguments} {body : List Stmt} {scope : Scope} {dV kV doc pm cdv ct oc : Value} {an od : Option Addr}
    {osl : Array (Option Value)} {N ps : List Str} {sp : Sp} (lk : K.lookup f = some ⟨oc, od, .func (PySem.W.fnOf name qual params body scope dV kV doc pm an cdv ct), osl⟩) (hcd : PySem.W.codeIn K cdv qual = true) (S : FnScope N ps scope)
    (len : ∀ vs H Q E, sp vs H Q E → vs.length = ps.length)
    (hbody : ∀ (A : Around) (outer : List Env) (s : Shared) (H : Hp) (vs : List V) (Q : VK) (E : XK), Room k (A.deeper (envOfC qual scope s.heap.objs.size f cdv)) → sp vs H Q E →
      ∃ t, PSs (cxOf CX P w K mg base N qual scope f cdv A outer s H E) body t ∧ t { nx := fun _ H' => Q .non H', rt := Q } (start N vs) H) :
    FnOk P w K mg base CX (k + 1) f (PySem.W.fnOf name qual params body scope dV kV doc pm an cdv ct) ps sp := by
  refine ⟨len, fun A outer s H args us vs Q E hr e0 hb r hsp => ?_⟩
  have hl := len _ _ _ _ hsp
  have KX : K.In s.heap := e0.mod.kin.keeps fun b o e => (e0.bs b o e).1
  have lim : s.heap.NoLimit := e0.mod.nolimit.keeps fun b o e => (e0.bs b o e).1
  have hkind : ∀ y ∈ ps.zip us, scope.names.lookup y.1 = some .local ∨ (scope.names.lookup y.1 = some .cell ∧ ((cellsFrom (s.heap.objs.size + 1) scope.names []).lookup y.1).isSome = true) := fun ⟨n, v⟩ hy => by
    rcases S.par n (List.of_mem_zip hy).1 with q | q
    · exact .inl q
    · exact .inr ⟨q, PySem.W.cellsFrom_some _ _ _ (.inl q)⟩
  refine codeAny_call_function hr.depth (KX _ _ lk) rfl S.co S.gen rfl (PySem.W.codeRec_of KX hcd) (hb _ _ _ _ ?_)
  refine wpAny_newFunctionEnv_cells S.kind hkind fun env he s1 x => ?_
  subst he
  refine ⟨lim.keeps x.toInCall.keep, codeAny_func ?_⟩
  obtain ⟨t, ht, hq⟩ := hbody A outer s H vs Q E (hr.deeper _) hsp
  have I : Inv (cxOf CX P w K mg base N qual scope f cdv A outer s H E) [] (start N vs) H s1 := inv_start S hr.hd e0 hl r x
  refine wpAny_mono (ht [] s1 (start N vs) H _ I hq) (fun fl s' hs => ?_) fun e s' hs => hs
  have fin : ∀ {σ' : St} {H' : Hp} {v : V} {u : Value}, Inv (cxOf CX P w K mg base N qual scope f cdv A outer s H E) [] σ' H' s' → RelV v u → Q v H' → CE outer P w H s Q u s' :=
    fun {σ' H' v u} J rv q => ⟨v, H', J.os, J.bare, J.base, J.hok, rv, q⟩
  cases fl with
  | ret u =>
    obtain ⟨v, σ', H', J, rv, q⟩ := hs
    exact fin J rv q
  | next =>
    obtain ⟨σ', H', J, q⟩ := hs
    exact fin (v := V.non) (u := Value.none) J rfl q
  | brk =>
    obtain ⟨_, _, _, q⟩ := hs
    exact False.elim q
  | cont =>
    obtain ⟨_, _, _, q⟩ := hs
    exact False.elim q
end L2

namespace L2
open PySem PySem.Spec PyProof.Rows
section
variable {X : Cx} {x : Str} {p pos : Pos} {e : Expr} {es : List Expr} {t : TA} {id T : String} {r : List V → Hp → VK → Prop}

def tCB (r : List V → Hp → VK → Prop) (t : TA) : TE := fun σ H Q => t σ H fun vs H1 => r vs H1 Q
/-- f(e, ..), f a built-in function -/
theorem pe_callB (hc : CallR X (.builtin id) r) (hg : Gl X x) (hm : X.mg x = none) (hv : bootBuiltins x = some (.builtin id)) (ha : PA X (e :: es) t) (hn : x ≠ "__name__" := by decide) (hdb : (x == ("__debug__" : Str)) = false := by decide)
    (he : starEach (e :: es) X.env = (false, eval e X.env) :: starEach es X.env := by rfl) (hpl : (backTo pos (starEach es X.env)).any (·.1) = false := by rfl) : PE X (.Call (.Name x p) (e :: es) [] pos) (tCB r t) := by
  intro pins s σ H Q I h
  refine wpAny_Call_Name_kw (ld_blt I hg hm hv ?_ hn hdb)
  exact PyProof.Rows.callWith_builtin1 (thn (ha pos pins s σ H _ I h) fun us s1 ⟨vs, H1, I1, r1, q1⟩ => hc pins s1 σ H1 vs us Q I1 r1 q1) he hpl
/-- T(e, ..), T a built-in type -/
theorem pe_callTy (hc : CallR X (.type T) r) (hg : Gl X x) (hm : X.mg x = none) (hv : bootBuiltins x = some (.type T)) (ha : PA X (e :: es) t) (hn : x ≠ "__name__" := by decide) (hdb : (x == ("__debug__" : Str)) = false := by decide)
    (he : starEach (e :: es) X.env = (false, eval e X.env) :: starEach es X.env := by rfl) (hpl : (backTo pos (starEach es X.env)).any (·.1) = false := by rfl) : PE X (.Call (.Name x p) (e :: es) [] pos) (tCB r t) := by
  intro pins s σ H Q I h
  refine wpAny_Call_Name_kw (ld_blt I hg hm hv ?_ hn hdb)
  exact PyProof.Rows.callWith_type1 (thn (ha pos pins s σ H _ I h) fun us s1 ⟨vs, H1, I1, r1, q1⟩ => hc pins s1 σ H1 vs us Q I1 r1 q1) he hpl
end
end L2

namespace HT
open PySem PyProof.Rows

section
open PySem.SeqAt
open PySem.AutoSeq1 (wpAny_loadPart')
open PySem.MeetsSeq PySem.MeetsSeq2 PySem.MeetsSeq3

end

section
variable {prog : Program} {w : World} {A : Around} {E : Value → Shared → Prop} {s : Shared}

/-! ### t[a:b], not the whole -/
/-- a slice's bound as a place among n (d where it is left out) -/
def sIx (n d : Nat) : Option Int → Nat
  | none => d
  | some v => if v < 0 then (v + (n : Int)).toNat else min v.toNat n
theorem sIx_none (n d : Nat) : sIx n d none = d := rfl
theorem sIx_nat (n d k : Nat) : sIx n d (some (k : Int)) = min k n := by
  show (if (k : Int) < 0 then ((k : Int) + (n : Int)).toNat else min (k : Int).toNat n) = min k n
  rw [if_neg (by omega), Int.toNat_natCast]
end
end HT

namespace L2
open PySem PySem.Spec PyProof.Rows

/-! ### the parts of a slice -/
abbrev TO := St → Hp → (Option Int → Hp → Prop) → Prop
/-- a slice's part (left out, or an int) -/
def PO (X : Cx) (e : Option Expr) (t : TO) : Prop :=
  ∀ (pins : List (Addr × Obj)) (s : Shared) (σ : St) (H : Hp) (Q : Option Int → Hp → Prop), Inv X pins σ H s → t σ H Q →
    wpAny (model X.prog X.w) X.A (evalPart e X.env) (fun u s' => ∃ o H', Inv X pins σ H' s' ∧ IsPart u o ∧ Q o H') X.xe s
def tNoPart : TO := fun _ H Q => Q none H
def tPart (t : TE) : TO := fun σ H Q => t σ H fun x H1 => ∃ i, x = .int i ∧ Q (some i) H1

section
variable {X : Cx} {e : Expr} {te : TE} {lo hi : Option Expr} {tl th : TO} {pos p2 : Pos}

theorem po_none : PO X none tNoPart := by
  intro pins s σ H Q I h
  rw [evalPart_none]
  exact wpAny_pure ⟨none, H, I, .none, h⟩
theorem po_some (h : PE X e te) : PO X (some e) (tPart te) := by
  intro pins s σ H Q I hw
  rw [evalPart_some]
  refine thn (h pins s σ H _ I hw) fun u s1 ⟨x, H1, I1, r1, q1⟩ => ?_
  obtain ⟨i, rfl, q⟩ := q1
  obtain ⟨t, rfl⟩ := r1
  exact ⟨some i, H1, I1, .int i t, q⟩

/-- what a slice of a value is, by values: the slice object stands at sl -/
def SlR (X : Cx) (r : V → Option Int → Option Int → Hp → VK → Prop) : Prop :=
  ∀ (pins : List (Addr × Obj)) (s : Shared) (σ : St) (H : Hp) (x : V) (v vl vu : Value) (lo hi : Option Int) (sl : Addr) (Q : VK), Inv X pins σ H s → RelV x v → s.heap.IsSliceOf sl vl vu .none → IsPart vl lo → IsPart vu hi → r x lo hi H Q →
    ∃ T id, typeLookup (.type T) "__getitem__" = pure (some (.builtin id)) ∧ s.TypeIs v T ∧ wpAny (model X.prog X.w) X.A (getItem v (.ref sl)) (EP X pins σ Q) X.xe s
def tSl (r : V → Option Int → Option Int → Hp → VK → Prop) (te : TE) (tl th : TO) : TE := fun σ H Q => te σ H fun x H1 => tl σ H1 fun l H2 => th σ H2 fun u H3 => r x l u H3 Q
/-- a[lo:hi], any a -/
theorem pe_slice {r : V → Option Int → Option Int → Hp → VK → Prop} (hr : SlR X r) (he : PE X e te) (hl : PO X lo tl) (hu : PO X hi th) : PE X (.Subscript e (.Slice lo hi none p2) pos) (tSl r te tl th) := by
  intro pins s σ H Q I h
  refine Subscript_ (thn (he pins s σ H _ I h) fun v s1 ⟨x, H1, I1, r1, q1⟩ => ?_)
  refine wpAny_Slice (thn (hl pins s1 σ H1 _ I1 q1) fun vl s2 ⟨l, H2, I2, pl, q2⟩ => thn (hu pins s2 σ H2 _ I2 q2) fun vu s3 ⟨u, H3, I3, pu, q3⟩ => ?_)
  rw [evalPart_none]
  refine wpAny_pure ?_
  have I4 : Inv X pins σ H3 { s3 with heap := s3.heap.push { cls := .type "slice", data := .fields #[vl, vu, .none] } } := I3.kept (t' := s3.toks) fun b ob q => Heap.get?_push_of_some _ q
  obtain ⟨T, id, hT, ht, hg⟩ := hr pins { s3 with heap := s3.heap.push { cls := .type "slice", data := .fields #[vl, vu, .none] } } σ H3 x v vl vu l u s3.heap.objs.size Q I4 r1 (Heap.IsSliceOf.new ..) pl pu q3
  show wpAny (model X.prog X.w) X.A (subscriptTail e (.Slice lo hi none p2) v (.ref s3.heap.objs.size)) (EP X pins σ Q) X.xe { s3 with heap := s3.heap.push { cls := .type "slice", data := .fields #[vl, vu, .none] } }
  exact tail_any (ops := [.ref s3.heap.objs.size, v]) ht hT hg (by with_unfolding_all rfl)

/-- the items of xs[lo:hi] -/
def cutV (xs : List V) (lo hi : Option Int) : List V := (xs.drop (HT.sIx xs.length 0 lo)).take (HT.sIx xs.length xs.length hi - HT.sIx xs.length 0 lo)
theorem cutV_length (xs : List V) (lo hi : Option Int) : (cutV xs lo hi).length ≤ xs.length := by
  unfold cutV
  rw [List.length_take, List.length_drop]
  omega
/-! ### t < u, t + u -/
end
end L2

namespace L2
open PySem PySem.Spec PyProof.Rows

/-! ### places -/
/-- the place that an index of any sign means -/
def ixN (n : Nat) (i : Int) : Option Nat := if 0 ≤ i then (if i < n then some i.toNat else none) else if -(n : Int) ≤ i then some (i + n).toNat else none
def atI {α : Type} (xs : List α) (i : Int) : Option α := (ixN xs.length i).bind fun j => xs[j]?
theorem ixN_seq {n : Nat} {i : Int} {j : Nat} (h : ixN n i = some j) : seqIndex? i n = some j ∧ j < n ∧ -(n : Int) ≤ i ∧ i < n := by
  unfold ixN at h
  by_cases h0 : 0 ≤ i
  · rw [if_pos h0] at h
    by_cases h1 : i < n
    · rw [if_pos h1] at h
      have e : i.toNat = j := Option.some.inj h
      exact ⟨by rw [seqIndex_of h0 h1, e], by omega, by omega, h1⟩
    · rw [if_neg h1] at h; cases h
  · rw [if_neg h0] at h
    by_cases h1 : -(n : Int) ≤ i
    · rw [if_pos h1] at h
      have e : (i + n).toNat = j := Option.some.inj h
      exact ⟨by rw [seqIndex_neg (by omega) h1, e], by omega, h1, by omega⟩
    · rw [if_neg h1] at h; cases h
theorem atI_get {α : Type} {xs : List α} {i : Int} {v : α} (h : atI xs i = some v) : ∃ j, seqIndex? i xs.length = some j ∧ xs[j]? = some v ∧ j < xs.length ∧ -(xs.length : Int) ≤ i ∧ i < xs.length := by
  unfold atI at h
  cases e : ixN xs.length i with
  | none => rw [e] at h; cases h
  | some j =>
    rw [e] at h
    obtain ⟨h1, h2, h3, h4⟩ := ixN_seq e
    exact ⟨j, h1, h, h2, h3, h4⟩
theorem atI_nat {α : Type} {xs : List α} {j : Nat} {v : α} (h : xs[j]? = some v) : atI xs (j : Int) = some v := by
  have hj : j < xs.length := (List.getElem?_eq_some_iff.mp h).1
  have e : ixN xs.length (j : Int) = some j := by
    unfold ixN
    rw [if_pos (by omega), if_pos (by omega)]; simp
  unfold atI; rw [e]; exact h
/-! ### what may be subscripted -/
/-- what stands as an index of a plain subscript -/
def PlainIx (b : Expr) : Prop := ∀ o i, subscripted b false o i = operate [o, i] (getItem o i)
/-- a subscript by values -/
def IxR (X : Cx) (r : R2) : Prop :=
  ∀ (value slice : Expr) (pins : List (Addr × Obj)) (s : Shared) (σ : St) (H : Hp) (x y : V) (v u : Value) (Q : VK), Inv X pins σ H s → RelV x v → RelV y u → r x y H Q →
    subscripted slice false v u = operate [v, u] (getItem v u) → wpAny (model X.prog X.w) X.A (subscriptTail value slice v u) (EP X pins σ Q) X.xe s
/-- a call of a builtin's method by values: the receiver, the arguments -/
def MtR (X : Cx) (id : String) (r : V → List V → Hp → VK → Prop) : Prop :=
  ∀ (pins : List (Addr × Obj)) (s : Shared) (σ : St) (H : Hp) (x : V) (xs : List V) (v : Value) (us : List Value) (Q : VK), Inv X pins σ H s → RelV x v → Vals xs us → r x xs H Q →
    wpAny (model X.prog X.w) X.A (call (.builtin id) (v :: us)) (EP X pins σ Q) X.xe s
section
variable {X : Cx} {a b : Expr} {ta tb : TE} {pos : Pos}
/-- a[b] -/
theorem pe_ix {r : R2} (hr : IxR X r) (ha : PE X a ta) (hb : PE X b tb) (hs : PlainIx b) : PE X (.Subscript a b pos) (tOp r ta tb) := by
  intro pins s σ H Q I h
  exact Subscript_ (binT ha hb I h fun v u s2 x y H2 I2 rx ry q => hr a b pins s2 σ H2 x y v u Q I2 rx ry q (hs _ _))

def rIxL (K : PySem.W.Frag) : R2 := fun x y H Q => ∃ p xs i v, x = .ref p ∧ y = .int i ∧ SqL K H p xs ∧ atI xs i = some v ∧ Q v H
def rIxT (K : PySem.W.Frag) : R2 := fun x y H Q => ∃ p xs i v, x = .ref p ∧ y = .int i ∧ SqT K H p xs ∧ atI xs i = some v ∧ Q v H
def rIxS : R2 := fun x y H Q => ∃ z i c, x = .str z ∧ y = .int i ∧ z.length ≤ sizeLine ∧ atI z.cps.toList i = some c ∧ Q (.str ⟨#[c]⟩) H
theorem ix_list : IxR X (rIxL X.K) := by
  intro value slice pins s σ H x y v u Q I rx ry h hs
  obtain ⟨p, xs, i, z, rfl, rfl, hq, he, q⟩ := h
  cases rx
  obtain ⟨t, rfl⟩ := ry
  obtain ⟨its, r, pl, hz⟩ := I.list hq
  obtain ⟨j, h1, h2, h3, h4, h5⟩ := atI_get he
  obtain ⟨w, ew, rw'⟩ := r.get h2
  have hl := r.length
  have hn := line63
  have fin : EP X pins σ Q w s := ⟨z, H, I, rw', q⟩
  by_cases h0 : 0 ≤ i
  · have hj : i.toNat = j := by
      rw [seqIndex_of h0 h5] at h1
      exact Option.some.inj h1
    exact item_listR pl.isList h0 (by omega) (by rw [hj]; simpa using ew) fin hs
  · have hj : (i + (its.toArray.size : Int)).toNat = j := by
      rw [seqIndex_neg (by omega) h4] at h1
      rw [List.size_toArray, ← hl]
      exact Option.some.inj h1
    exact subscriptTail_builtinR (x := w) pl.isList.typeIs slot_list_getitem.lookup
      (wpAny_getItem_list_neg (Q := fun r s' => r = w ∧ EP X pins σ Q r s') pl.isList (by omega) (by rw [List.size_toArray] <;> omega) (by omega) (by rw [hj]; simpa using ew) ⟨rfl, fin⟩) hs
theorem ix_tup : IxR X (rIxT X.K) := by
  intro value slice pins s σ H x y v u Q I rx ry h hs
  obtain ⟨p, xs, i, z, rfl, rfl, hq, he, q⟩ := h
  cases rx
  obtain ⟨t, rfl⟩ := ry
  obtain ⟨its, r, pl, hz⟩ := I.tuple hq
  obtain ⟨j, h1, h2, h3, h4, h5⟩ := atI_get he
  obtain ⟨w, ew, rw'⟩ := r.get h2
  have hl := r.length
  have hn := line63
  have fin : EP X pins σ Q w s := ⟨z, H, I, rw', q⟩
  exact subscriptTail_builtinR (x := w) pl.typeIs slot_tuple_getitem.lookup
    (getItem_tuple (j := j) (Q := fun r s' => r = w ∧ EP X pins σ Q r s') pl (by omega) (by omega) (by rw [List.size_toArray, ← hl]; exact h1) (by simpa using ew) ⟨rfl, fin⟩) hs
theorem ix_str : IxR X rIxS := by
  intro value slice pins s σ H x y v u Q I rx ry h hs
  obtain ⟨z, i, c, rfl, rfl, hz, he, q⟩ := h
  obtain ⟨t, rfl⟩ := rx
  obtain ⟨t', rfl⟩ := ry
  obtain ⟨j, h1, h2, h3, h4, h5⟩ := atI_get he
  have hl : z.cps.toList.length = z.length := by simp [Str.length]
  rw [hl] at h1 h4 h5
  have hn := line63
  exact tail_any (typeIs_str s z t) slot_str_getitem.lookup (getItem_str (c := c) (by
    have e1 : decide (i < -(2 ^ 63 : Int)) = false := decide_eq_false (by omega)
    have e2 : decide (i ≥ 2 ^ 63) = false := decide_eq_false (by omega)
    rw [e1, e2, Bool.or_false]) (by rw [h1]; simpa using h2) ⟨.str ⟨#[c]⟩, H, I.tok _, ⟨_, rfl⟩, q⟩) hs
/-! ### xs[i] = v, any sign -/
/-- the list's object behind a store -/
theorem mapSeq_set (its : List Value) (n j : Nat) (u : Value) : Obj.mapSeq (·.setIfInBounds j u) { cls := .type "list", data := .seq its.toArray n } = { cls := .type "list", data := .seq (its.set j u).toArray n } := by
  simp [Obj.mapSeq]
theorem Inv.lst {pins : List (Addr × Obj)} {σ : St} {H : Hp} {s : Shared} {p : Addr} {xs : List V} (I : Inv X pins σ H s) (h : H p = some (.lst xs)) :
    ∃ (its : List Value) (n : Nat), Vals xs its ∧ s.heap.get? p = some { cls := .type "list", data := .seq its.toArray n } ∧ xs.length ≤ sizeLine := by
  obtain ⟨z, its, n, r, e⟩ := I.hok p _ h
  exact ⟨its, n, r, e, z⟩
/-- the list at p is written by an update of its object -/
theorem Inv.lstUpd {pins : List (Addr × Obj)} {σ : St} {H : Hp} {s : Shared} {p : Addr} {xs ys : List V} {its its' : List Value} {n n' : Nat} {f : Obj → Obj} (I : Inv X pins σ H s) (h : H p = some (.lst xs))
    (ho : s.heap.get? p = some { cls := .type "list", data := .seq its.toArray n }) (hf : f { cls := .type "list", data := .seq its.toArray n } = { cls := .type "list", data := .seq its'.toArray n' }) (r : Vals ys its') (hz : ys.length ≤ sizeLine) (t : Nat) :
    Inv X pins σ (upd H p (.lst ys)) { s with heap := s.heap.update p f, toks := t } := by
  have e : (s.heap.update p f).get? p = some { cls := .type "list", data := .seq its'.toArray n' } := by
    rw [Heap.get?_update_self f ho (by rw [hf] <;> rfl), hf]
  refine I.write (x := p) (e := p) (by rw [h]; trivial) (.inl rfl) (fun b u hb q => (Heap.get?_update_other _ _ (Ne.symm hb)).trans q) ⟨_, e⟩ ?_
  exact ⟨hz, its', n', r, e⟩
def rSetL : V → V → V → Hp → (Hp → Prop) → Prop := fun o i v H Q => ∃ p xs k j, o = .ref p ∧ i = .int k ∧ H p = some (.lst xs) ∧ ixN xs.length k = some j ∧ Q (upd H p (.lst (xs.set j v)))
theorem set_list : PSet X rSetL := by
  intro pins s σ H o i v ov iv u Q I ro ri rv h
  obtain ⟨p, xs, k, j, rfl, rfl, hp, hj, q⟩ := h
  cases ro
  obtain ⟨t, rfl⟩ := ri
  obtain ⟨its, n, r, ho, hz⟩ := I.lst hp
  obtain ⟨h1, h2, h3, h4⟩ := ixN_seq hj
  have hl := r.length
  have hn := line63
  have I' : Inv X pins σ (upd H p (.lst (xs.set j v))) { s with heap := s.heap.update p (Obj.mapSeq (·.setIfInBounds j u)) } :=
    I.lstUpd hp ho (mapSeq_set its n j u) (r.set rv j) (by rw [List.length_set]; exact hz) s.toks
  by_cases h0 : 0 ≤ k
  · have hk : k.toNat = j := by
      rw [seqIndex_of h0 h4] at h1
      exact Option.some.inj h1
    exact PySem.W.ki_setAt ho h0 (by omega) (by rw [List.size_toArray, ← hl]; exact h4) (by rw [hk]; exact ⟨_, I', q⟩)
  · have hk : (k + (its.toArray.size : Int)).toNat = j := by
      rw [seqIndex_neg (by omega) h3] at h1
      rw [List.size_toArray, ← hl]
      exact Option.some.inj h1
    exact PySem.W.ki_setBack ho (by omega) (by rw [List.size_toArray, ← hl]; exact h3) (by omega) (by rw [hk]; exact ⟨_, I', q⟩)

/-! ### slices -/
theorem slice_bounds (lo hi : Option Int) (n : Nat) : (sliceBounds lo hi none n).1 = ((HT.sIx n 0 lo : Nat) : Int) ∧ (sliceBounds lo hi none n).2.1 = ((HT.sIx n n hi : Nat) : Int) ∧ (sliceBounds lo hi none n).2.2 = 1 := by
  refine ⟨?_, ?_, rfl⟩
  · cases lo with
    | none => simp [sliceBounds, HT.sIx]
    | some i =>
      simp only [sliceBounds, HT.sIx, Option.getD_none, show (1 : Int) > 0 by decide, if_true]
      by_cases h : i < 0
      · simp only [h, if_true] <;> omega
      · simp only [h, if_false] <;> omega
  · cases hi with
    | none => simp [sliceBounds, HT.sIx]
    | some i =>
      simp only [sliceBounds, HT.sIx, Option.getD_none, show (1 : Int) > 0 by decide, if_true]
      by_cases h : i < 0
      · simp only [h, if_true] <;> omega
      · simp only [h, if_false] <;> omega
theorem slicePick_cut (its : List Value) (lo hi : Option Int) : slicePick its.toArray lo hi none = ((its.drop (HT.sIx its.length 0 lo)).take (HT.sIx its.length its.length hi - HT.sIx its.length 0 lo)).toArray := by
  obtain ⟨h1, h2, h3⟩ := slice_bounds lo hi its.toArray.size
  unfold slicePick
  rw [h1, h2, h3]
  simp only [sliceRange_one, pick_run, List.size_toArray] <;> rfl
/-- xs[lo:hi] of a list: a new list -/
def rSlL (K : PySem.W.Frag) : V → Option Int → Option Int → Hp → VK → Prop := fun x lo hi H Q => ∃ a xs, x = .ref a ∧ SqL K H a xs ∧ ∀ p, H p = none → Q (.ref p) (upd H p (.lst (cutV xs lo hi)))
theorem sl_list : SlR X (rSlL X.K) := by
  intro pins s σ H x v vl vu lo hi sl Q I rx hs pl pu h
  obtain ⟨a, xs, rfl, hx, q⟩ := h
  cases rx
  obtain ⟨its, r, ht, hz⟩ := I.list hx
  have hlen := r.length
  refine ⟨"list", _, slot_list_getitem.lookup, ht.isList.typeIs, ?_⟩
  refine wpAny_getItem_list_slice ht.isList hs pl pu .none (by simp) ?_ (by rw [List.size_toArray] <;> omega)
  rw [slicePick_cut, ← hlen]
  refine ⟨.ref s.heap.objs.size, _, I.laid (t' := s.toks) (o := .lst (cutV xs lo hi)) (fun b ob q => Heap.get?_push_of_some _ q) (Nat.le_refl _) ?_, rfl, q _ (I.hok.fresh (Nat.le_refl _))⟩
  exact ⟨Nat.le_trans (cutV_length xs lo hi) hz, _, 0, (r.drop (HT.sIx xs.length 0 lo)).take (HT.sIx xs.length xs.length hi - HT.sIx xs.length 0 lo), Heap.get?_push_size _ rfl⟩

/-! ### in, not in: flat items -/
def flatV : V → Bool
  | .non => true
  | .bl _ => true
  | .int _ => true
  | .str _ => true
  | _ => false
/-- == of flat values -/
def eqV : V → V → Bool
  | .non, .non => true
  | .bl a, .bl b => a == b
  | .bl a, .int b => (if a then 1 else 0) == b
  | .int a, .bl b => a == (if b then 1 else 0)
  | .int a, .int b => a == b
  | .str a, .str b => a == b
  | _, _ => false
theorem eqAt_V {A : Around} {s : Shared} {y x : V} {u v : Value} (ry : RelV y u) (rx : RelV x v) (fy : flatV y = true) (fx : flatV x = true) : SeqAt.EqAt A s u v (eqV y x) := by
  cases y with
  | non =>
    cases ry
    cases x with
    | non => cases rx; exact SeqAt.EqAt.same _
    | bl b => cases rx; exact SeqAt.EqAt.none_bool b
    | int b => obtain ⟨t, rfl⟩ := rx; exact SeqAt.EqAt.none_int b t
    | str b => obtain ⟨t, rfl⟩ := rx; exact SeqAt.EqAt.none_str b t
    | _ => exact absurd (show false = true from fx) Bool.false_ne_true
  | bl a =>
    cases ry
    cases x with
    | non => cases rx; exact SeqAt.EqAt.bool_none a
    | bl b => cases rx; exact SeqAt.EqAt.bool_bool a b
    | int b => obtain ⟨t, rfl⟩ := rx; exact SeqAt.EqAt.bool_int a b t
    | str b => obtain ⟨t, rfl⟩ := rx; exact SeqAt.EqAt.bool_str a b t
    | _ => exact absurd (show false = true from fx) Bool.false_ne_true
  | int a =>
    obtain ⟨t', rfl⟩ := ry
    cases x with
    | non => cases rx; exact SeqAt.EqAt.int_none a t'
    | bl b => cases rx; exact SeqAt.EqAt.int_bool a t' b
    | int b => obtain ⟨t, rfl⟩ := rx; exact SeqAt.EqAt.int_int a t' b t
    | str b => obtain ⟨t, rfl⟩ := rx; exact SeqAt.EqAt.int_str a t' b t
    | _ => exact absurd (show false = true from fx) Bool.false_ne_true
  | str a =>
    obtain ⟨t', rfl⟩ := ry
    cases x with
    | non => cases rx; exact SeqAt.EqAt.str_none a t'
    | bl b => cases rx; exact SeqAt.EqAt.str_bool a t' b
    | int b => obtain ⟨t, rfl⟩ := rx; exact SeqAt.EqAt.str_int a t' b t
    | str b => obtain ⟨t, rfl⟩ := rx; exact SeqAt.EqAt.str_str a t' b t
    | _ => exact absurd (show false = true from fx) Bool.false_ne_true
  | _ => exact absurd (show false = true from fy) Bool.false_ne_true
/-- the items' answers, read off the values (a value's own answer does not lean on its token) -/
def eqU (x : V) (u : Value) : Bool := match u with
  | .none => eqV .non x
  | .bool b => eqV (.bl b) x
  | .int i _ => eqV (.int i) x
  | .str z _ => eqV (.str z) x
  | _ => false
theorem eqU_of {x y : V} {u : Value} (r : RelV y u) (f : flatV y = true) : eqU x u = eqV y x := by
  cases y with
  | non => cases r; rfl
  | bl b => cases r; rfl
  | int i => obtain ⟨t, rfl⟩ := r; rfl
  | str z => obtain ⟨t, rfl⟩ := r; rfl
  | _ => exact absurd (show false = true from f) Bool.false_ne_true
theorem any_eqU {x : V} : ∀ {xs : List V} {us : List Value}, Vals xs us → xs.all flatV = true → us.any (eqU x) = xs.any fun y => eqV y x
  | _, _, .nil, _ => rfl
  | y :: xs, u :: us, .cons r t, f => by
    rw [List.all_cons, Bool.and_eq_true] at f
    rw [List.any_cons, List.any_cons, eqU_of r f.1, any_eqU t f.2]
theorem mem_eqAt {A : Around} {s : Shared} {x : V} {v : Value} (rx : RelV x v) (fx : flatV x = true) : ∀ {xs : List V} {us : List Value}, Vals xs us → xs.all flatV = true → ∀ u ∈ us, SeqAt.EqAt A s u v (eqU x u)
  | _, _, .nil, _ => fun u hu => by cases hu
  | y :: xs, u :: us, .cons r t, f => fun u' hu => by
    rw [List.all_cons, Bool.and_eq_true] at f
    rcases List.mem_cons.mp hu with rfl | hu
    · rw [eqU_of r f.1]; exact eqAt_V r rx f.1 fx
    · exact mem_eqAt rx fx t f.2 u' hu
def inV (x : V) (xs : List V) : Bool := xs.any fun y => eqV y x
/-- x in a list or tuple of flat items -/
def rIn (K : PySem.W.Frag) (neg : Bool) : R2 := fun x y H Q => ∃ p xs, y = .ref p ∧ (SqL K H p xs ∨ SqT K H p xs) ∧ flatV x = true ∧ xs.all flatV = true ∧ Q (.bl (if neg then !inV x xs else inV x xs)) H
theorem op_in_seq : OpR X (compareOp .In) (rIn X.K false) := by
  intro pins s σ H x y v u Q I rx ry h
  obtain ⟨p, xs, rfl, hq, fx, fs, q⟩ := h
  cases ry
  rcases hq with hq | hq
  · obtain ⟨its, r, pl, hz⟩ := I.list hq
    refine SeqAt.in_listAt (eqU x) pl.isList (fun w hw => mem_eqAt rx fx r fs w (by simpa using hw)) ⟨.bl _, H, I, rfl, ?_⟩
    rw [show its.toArray.any (eqU x) = its.any (eqU x) by simp, any_eqU r fs]
    exact q
  · obtain ⟨its, r, pl, hz⟩ := I.tuple hq
    refine SeqAt.in_tupleAt (eqU x) pl (fun w hw => mem_eqAt rx fx r fs w (by simpa using hw)) ⟨.bl _, H, I, rfl, ?_⟩
    rw [show its.toArray.any (eqU x) = its.any (eqU x) by simp, any_eqU r fs]
    exact q
theorem op_notIn_seq : OpR X (compareOp .NotIn) (rIn X.K true) := by
  intro pins s σ H x y v u Q I rx ry h
  obtain ⟨p, xs, rfl, hq, fx, fs, q⟩ := h
  cases ry
  rcases hq with hq | hq
  · obtain ⟨its, r, pl, hz⟩ := I.list hq
    refine SeqAt.notIn_listAt (eqU x) pl.isList (fun w hw => mem_eqAt rx fx r fs w (by simpa using hw)) ⟨.bl _, H, I, rfl, ?_⟩
    rw [show its.toArray.any (eqU x) = its.any (eqU x) by simp, any_eqU r fs]
    exact q
  · obtain ⟨its, r, pl, hz⟩ := I.tuple hq
    refine SeqAt.notIn_tupleAt (eqU x) pl (fun w hw => mem_eqAt rx fx r fs w (by simpa using hw)) ⟨.bl _, H, I, rfl, ?_⟩
    rw [show its.toArray.any (eqU x) = its.any (eqU x) by simp, any_eqU r fs]
    exact q
/-! ### len, list(x), tuple(x) of any list or tuple that is read -/
theorem call_list_of : CallR X (.type "list") (fun xs H Q => ∃ p ys, xs = [.ref p] ∧ (SqL X.K H p ys ∨ SqT X.K H p ys) ∧ ∀ l, H l = none → Q (.ref l) (upd H l (.lst ys))) := by
  intro pins s σ H xs us Q I r h
  obtain ⟨p, ys, rfl, hq, q⟩ := h
  obtain ⟨u, rfl, rx⟩ := vals1 r
  cases rx
  have fin : ∀ (its : List Value), Vals ys its → ys.length ≤ sizeLine → ∀ (h' : Heap) (c' : Nat), (∀ b o', s.heap.get? b = some o' → h'.get? b = some o') →
      h'.get? s.heap.objs.size = some { cls := .type "list", dict := none, data := .seq its.toArray c', slots := #[] } → EP X pins σ Q (.ref s.heap.objs.size) { s with heap := h' } := fun its r' hz h' c' kp e =>
    ⟨.ref s.heap.objs.size, _, I.laid (t' := s.toks) kp (Nat.le_refl _) (show ObjOk X.prog X.w _ h' _ (.lst ys) from ⟨hz, its, c', r', e⟩), rfl, q _ (I.hok.fresh (Nat.le_refl _))⟩
  rcases hq with hq | hq
  · obtain ⟨its, r', pl, hz⟩ := I.list hq
    have hlen := r'.length
    obtain ⟨o, ho, hc, n, hd⟩ := pl.isList
    exact call_list_seq p (.inl rfl) ho hc hd (fun h' c' kp e => fin its r' hz h' c' kp e) (by simp only [List.size_toArray] <;> omega)
  · obtain ⟨its, r', pl, hz⟩ := I.tuple hq
    have hlen := r'.length
    obtain ⟨o, ho, hc, n, hd⟩ := pl
    exact call_list_seq p (.inr rfl) ho hc hd (fun h' c' kp e => fin its r' hz h' c' kp e) (by simp only [List.size_toArray] <;> omega)
/-! ### the call of a builtin's method: o.m(..) -/
/-- the value is of that builtin type -/
def tyV (K : PySem.W.Frag) (T : String) (x : V) (H : Hp) : Prop := match x with
  | .str _ => T = "str"
  | .int _ => T = "int"
  | .ref p => (T = "list" ∧ ∃ xs, SqL K H p xs) ∨ (T = "tuple" ∧ ∃ o, K.lookup p = some o ∧ o.cls = .type "tuple" ∧ o.dict = none) ∨
      (T = "dict" ∧ ((∃ kvs, H p = some (.dK kvs)) ∨ ∃ kvs, H p = some (.dT kvs))) ∨ (T = "set" ∧ ∃ S n, H p = some (.set S n))
  | _ => False
theorem tyV_is {pins : List (Addr × Obj)} {σ : St} {H : Hp} {s : Shared} {T : String} {x : V} {v : Value} (I : Inv X pins σ H s) (r : RelV x v) (ty : tyV X.K T x H) :
    s.TypeIs v T ∧ ∀ a, v = .ref a → ∃ ob, s.heap.get? a = some ob ∧ ob.dict = none := by
  cases x with
  | str z =>
    obtain ⟨t, rfl⟩ := r
    cases (show T = "str" from ty)
    exact ⟨typeIs_str s z t, fun _ e => nomatch e⟩
  | int i =>
    obtain ⟨t, rfl⟩ := r
    cases (show T = "int" from ty)
    exact ⟨typeIs_int s i t, fun _ e => nomatch e⟩
  | ref p =>
    cases r
    rcases ty with ⟨rfl, xs, hq⟩ | ⟨rfl, o, hk, hc, hd⟩ | ⟨rfl, hk⟩ | ⟨rfl, S, n, hk⟩
    · obtain ⟨its, _, pl, _⟩ := I.list hq
      refine ⟨pl.isList.typeIs, fun a e => ?_⟩
      cases e
      obtain ⟨o, n, e, c, hd, _⟩ := pl
      exact ⟨o, e, hd⟩
    · refine ⟨⟨o, I.kIn p o hk, hc⟩, fun a e => ?_⟩
      cases e
      exact ⟨o, I.kIn _ o hk, hd⟩
    · have z : ∃ o, s.heap.get? p = some o ∧ o.ExactDict := by
        rcases hk with ⟨kvs, hk⟩ | ⟨kvs, hk⟩
        · obtain ⟨_, _, _, _, o, _, _, e, ex, _⟩ := I.hok p _ hk
          exact ⟨o, e, ex⟩
        · obtain ⟨_, _, _, _, o, _, _, e, ex, _⟩ := I.hok p _ hk
          exact ⟨o, e, ex⟩
      obtain ⟨o, e, ex⟩ := z
      refine ⟨⟨o, e, ex.1⟩, fun a e2 => ?_⟩
      cases e2
      exact ⟨o, e, ex.2.1⟩
    · obtain ⟨o, _, _, _, e, ex, _⟩ := I.hok p _ hk
      refine ⟨⟨o, e, ex.1⟩, fun a e2 => ?_⟩
      cases e2
      exact ⟨o, e, ex.2.1⟩
  | _ => exact False.elim ty
def tBM0 (K : PySem.W.Frag) (T : String) (r : V → List V → Hp → VK → Prop) (to : TE) : TE := fun σ H Q => to σ H fun x H1 => tyV K T x H1 ∧ r x [] H1 Q
def tBM (K : PySem.W.Frag) (T : String) (r : V → List V → Hp → VK → Prop) (to : TE) (t : TA) : TE := fun σ H Q => to σ H fun x H1 => tyV K T x H1 ∧ t σ H1 fun xs H2 => r x xs H2 Q
variable {o e : Expr} {es : List Expr} {to : TE} {t : TA} {name : Str} {apos cpos : Pos} {T id : String} {r : V → List V → Hp → VK → Prop}
theorem pe_bm0 (pa : PlainAttrs T) (slot : Slot T name id) (hty : typeOf (.builtin id) = pure (.type "method_descriptor")) (hm : MtR X id r) (ho : PE X o to)
    (hbase : attributeBase o name X.env (eval o X.env) = eval o X.env := by rfl) (hline : (apos.endLine == cpos.line) = true := by rfl) : PE X (.Call (.Attribute o name apos) [] [] cpos) (tBM0 X.K T r to) := by
  intro pins s σ H Q I h
  refine wpAny_Call_method0_late hbase hline (thn (ho pins s σ H _ I h) fun v s1 ⟨x, H1, I1, r1, ty, q1⟩ => ?_)
  obtain ⟨h1, h2⟩ := tyV_is I1 r1 ty
  exact ⟨T, id, pa, slot, hty, h1, h2, Calls.callWith_builtin rfl (PySem.evalArgs_none (hm pins s1 σ H1 x [] v [] Q I1 r1 .nil q1))⟩
theorem pe_bm (pa : PlainAttrs T) (slot : Slot T name id) (hty : typeOf (.builtin id) = pure (.type "method_descriptor")) (hm : MtR X id r) (ho : PE X o to) (ha : PA X (e :: es) t)
    (hbase : attributeBase o name X.env (eval o X.env) = eval o X.env := by rfl)
    (hfew : ((backTo cpos (starEach (e :: es) X.env)).all (fun x => !x.1) && (backToKw cpos (keywordEach [] X.env)).all (fun x => x.1.isSome)
      && decide ((e :: es).length + ([] : List Keyword).length + (if ([] : List Keyword).isEmpty then 0 else 1) < 30)) = true := by rfl)
    (hline : (apos.endLine == cpos.line) = true := by rfl) (hs : starEach (e :: es) X.env = (false, eval e X.env) :: starEach es X.env := by rfl) (hplain : (backTo cpos (starEach es X.env)).any (·.1) = false := by rfl) :
    PE X (.Call (.Attribute o name apos) (e :: es) [] cpos) (tBM X.K T r to t) := by
  intro pins s σ H Q I h
  refine wpAny_Call_method_late hbase hfew hline rfl (thn (ho pins s σ H _ I h) fun v s1 ⟨x, H1, I1, r1, ty, q1⟩ => ?_)
  obtain ⟨h1, h2⟩ := tyV_is I1 r1 ty
  refine ⟨T, id, pa, slot, hty, h1, h2, ?_⟩
  have hA := ha cpos pins s1 σ H1 _ I1 q1
  rw [hs] at hA ⊢
  refine Calls.callWith_builtin (by show (false || (backTo cpos (starEach es X.env)).any (·.1)) = false; rw [hplain] <;> rfl) (Calls.evalArgs_plain ?_)
  exact thn hA fun us s2 ⟨vs, H2, I2, r2, q2⟩ => hm pins s2 σ H2 x vs v us Q I2 r1 r2 q2
/- xs.append(e), list.index on a module's tuple .. are MtR facts of 06m -/
end
end L2

namespace L2
open PySem PySem.Spec PyProof.Rows

def MtM (X : Cx) (id : String) (r : V → List V → Hp → VK → Prop) : Prop :=
  ∀ (pins : List (Addr × Obj)) (s : Shared) (σ : St) (H : Hp) (x : V) (xs : List V) (v : Value) (us : List Value) (Q : VK), Inv X pins σ H s → RelV x v → Vals xs us → r x xs H Q →
    wpAny (model X.prog X.w) X.A (call (.builtin id) (v :: us)) (EP X pins σ Q) X.xe s

/-! ### lists of values -/
theorem Vals.one : ∀ {x : V} {us : List Value}, Vals [x] us → ∃ u, us = [u] ∧ RelV x u
  | _, _, .cons r .nil => ⟨_, rfl, r⟩
theorem Vals.two : ∀ {x y : V} {us : List Value}, Vals [x, y] us → ∃ u v, us = [u, v] ∧ RelV x u ∧ RelV y v
  | _, _, _, .cons r (.cons q .nil) => ⟨_, _, rfl, r, q⟩
section
variable {X : Cx} {pins : List (Addr × Obj)} {σ : St} {H : Hp} {s : Shared} {l b : Addr} {xs ys zs : List V}

/-! ### the two steps: a tracked list is rewritten, a new list is laid -/
theorem Inv.lset {its its' : List Value} {n : Nat} {f : Array Value → Array Value} {t' : Nat} (I : Inv X pins σ H s) (hH : H l = some (.lst xs))
    (e : s.heap.get? l = some { cls := .type "list", data := .seq its.toArray n }) (hf : f its.toArray = its'.toArray) (hv : Vals ys its') (hz : ys.length ≤ sizeLine) :
    Inv X pins σ (upd H l (.lst ys)) { s with heap := s.heap.update l (Obj.mapSeq f), toks := t' } := by
  have q := PySem.IsL.update e f
  rw [hf] at q
  refine I.write (x := l) (e := l) (by rw [hH]; exact trivial) (.inl rfl) (fun b' u hb hu => (Heap.get?_update_other s.heap (Obj.mapSeq f) (Ne.symm hb)).trans hu) ⟨_, q⟩ ?_
  exact ⟨hz, its', _, hv, q⟩
theorem Inv.lnew {its : List Value} {t' : Nat} (I : Inv X pins σ H s) (hv : Vals ys its) (hz : ys.length ≤ sizeLine) :
    Inv X pins σ (upd H s.heap.objs.size (.lst ys)) { s with heap := s.heap.push { cls := .type "list", data := .seq its.toArray }, toks := t' } :=
  I.laid (fun _ _ q => Heap.get?_push_of_some _ q) (Nat.le_refl _) ⟨hz, its, 0, hv, Heap.get?_push_size _ rfl⟩
theorem Inv.fresh (I : Inv X pins σ H s) : H s.heap.objs.size = none := I.hok.fresh (Nat.le_refl _)
theorem Inv.lstM (I : Inv X pins σ H s) (hH : H l = some (.lst xs)) : xs.length ≤ sizeLine ∧ ∃ (its : List Value) (n : Nat), Vals xs its ∧ xs.length = its.length ∧ s.heap.get? l = some { cls := .type "list", data := .seq its.toArray n } := by
  obtain ⟨z, its, n, r, e⟩ := I.hok l _ hH
  exact ⟨z, its, n, r, r.length, e⟩

theorem notLongL {n : Nat} (h : n ≤ sizeLine) : Builtin.List.listTooLong n = false := by
  unfold Builtin.List.listTooLong
  exact decide_eq_false (by omega)
end

section
variable {X : Cx}

/-! ### methods -/
def rAppend : V → List V → Hp → VK → Prop := fun x vs H Q => ∃ l xs y, x = .ref l ∧ vs = [y] ∧ H l = some (.lst xs) ∧ xs.length < sizeLine ∧ Q .non (upd H l (.lst (xs ++ [y])))
theorem mt_append : MtM X "list.append" rAppend := by
  intro pins s σ H x vs v us Q I rx rv h
  obtain ⟨l, xs, y, rfl, rfl, hH, hz, q⟩ := h
  cases rx
  obtain ⟨u, rfl, ru⟩ := rv.one
  obtain ⟨z, its, n, r, hl, e⟩ := I.lstM hH
  refine call_meets F.slot_list_append ⟨_, e, rfl⟩ F.entry_list_append (F.args_list_append_2 _ _) (PySem.list_append l its.toArray n u (by rw [List.size_toArray]; omega)) ⟨e, ?_⟩
  refine ⟨.non, _, I.lset (its' := its ++ [u]) hH e (by simp) (r.append (.cons ru .nil)) ?_, rfl, q⟩
  rw [List.length_append, List.length_singleton]
  omega

def rExtend : V → List V → Hp → VK → Prop := fun x vs H Q => ∃ l b xs zs, x = .ref l ∧ vs = [.ref b] ∧ H l = some (.lst xs) ∧ H b = some (.lst zs) ∧ xs.length + zs.length ≤ sizeLine ∧ Q .non (upd H l (.lst (xs ++ zs)))
theorem mt_extend : MtM X "list.extend" rExtend := by
  intro pins s σ H x vs v us Q I rx rv h
  obtain ⟨l, b, xs, zs, rfl, rfl, hH, hB, hz, q⟩ := h
  cases rx
  obtain ⟨u, rfl, ru⟩ := rv.one
  cases ru
  obtain ⟨z, its, n, r, hl, e⟩ := I.lstM hH
  obtain ⟨z2, its2, n2, r2, hl2, e2⟩ := I.lstM hB
  have hsz : its.toArray.size + its2.toArray.size ≤ sizeLine := by rw [List.size_toArray, List.size_toArray]; omega
  have hlong : ¬ (!its.toArray.isEmpty && Builtin.List.listTooLong (its.toArray.size + its2.toArray.size)) = true := by
    rw [notLongL hsz, Bool.and_false]
    exact Bool.false_ne_true
  refine call_meets F.slot_list_extend ⟨_, e, rfl⟩ F.entry_list_extend (F.args_list_extend_2 _ _)
    (AutoSeq1.list_extend_list_list_0 l its.toArray n b its2.toArray n2 hlong (by rw [List.size_toArray]; omega) (by omega)) ⟨e, e2, ?_⟩
  refine ⟨.non, _, I.lset (its' := its ++ its2) hH e (by simp) (r.append r2) ?_, rfl, q⟩
  rw [List.length_append]
  omega

/-! ### list + list, list += list, list * int -/
def rCat : R2 := fun x y H Q => ∃ l b xs zs, x = .ref l ∧ y = .ref b ∧ H l = some (.lst xs) ∧ H b = some (.lst zs) ∧ xs.length + zs.length ≤ sizeLine ∧ ∀ p, H p = none → Q (.ref p) (upd H p (.lst (xs ++ zs)))
theorem op_cat : OpR X (binaryOp .Add) rCat := by
  intro pins s σ H x y v u Q I rx ry h
  obtain ⟨l, b, xs, zs, rfl, rfl, hH, hB, hz, q⟩ := h
  cases rx
  cases ry
  obtain ⟨z, its, n, r, hl, e⟩ := I.lstM hH
  obtain ⟨z2, its2, n2, r2, hl2, e2⟩ := I.lstM hB
  refine PySem.P.add_list e e2 ?_ (by rw [List.size_toArray, List.size_toArray]; omega)
  have ea : its.toArray ++ its2.toArray = (its ++ its2).toArray := by simp
  rw [ea]
  exact ⟨.ref _, _, I.lnew (t' := s.toks) (r.append r2) (by rw [List.length_append]; omega), rfl, q _ I.fresh⟩
/-! ### del xs[i] -/
end

/-! ### xs[a:b] = ys -/
section
variable {prog : Program} {w : World} {A : Around} {E : Value → Shared → Prop} {s : Shared}
set_option maxRecDepth 100000 in
end

section
variable {X : Cx}
end
end L2

namespace L2
open PySem PySem.Spec PyProof.Rows

/-! ### lists of pairs as tables -/
section
variable {κ : Type} [DecidableEq κ]
end

/-! ### a tracked dict, its keys ints and texts or tuples of these -/
section
variable {P : Program} {w : World} {H : Hp} {h : Heap} {a : Addr}
end

section
variable {X : Cx} {pins : List (Addr × Obj)} {σ : St} {H : Hp} {s : Shared} {a : Addr} {y v : V} {u r : Value} {o : Option V} {A : Around} {E : Value → Shared → Prop}

end

section
variable {X : Cx} {pins : List (Addr × Obj)} {σ : St} {H : Hp} {s : Shared} {a : Addr} {kvs : List (Key × V)} {k : Key} {u : Value} {A : Around} {E : Value → Shared → Prop}
end

/-! ### readings and rules -/
/-- the element of a subscription, not a slice -/
def NoSl (i : Expr) : Prop := ∀ ov iv, subscripted i false ov iv = operate [ov, iv] (getItem ov iv)
theorem subD_of {prog : Program} {w : World} {A : Around} {E : Value → Shared → Prop} {s : Shared} {env : Env} {value slice : Expr} {pos : Pos} {T id : String} {Q : Value → Shared → Prop}
    (hl : typeLookup (.type T) "__getitem__" = pure (some (.builtin id))) (hs : NoSl slice)
    (h : wpAny (model prog w) A (eval value env) (fun o s₁ => wpAny (model prog w) A (eval slice env) (fun i s₂ => s₂.TypeIs o T ∧ wpAny (model prog w) A (getItem o i) Q E s₂) E s₁) E s) :
    wpAny (model prog w) A (eval (.Subscript value slice pos) env) Q E s := by
  refine Subscript_ (wpAny_mono h (fun o s₁ h₁ => wpAny_mono h₁ (fun i s₂ h₂ => ?_) fun _ _ x => x) fun _ _ x => x)
  obtain ⟨hT, h₂⟩ := h₂
  unfold subscriptTail
  refine wpAny_bind ?_
  rw [getitemInPython_of_ne hT.not_modules]
  refine wpAny_bind (wpAny_specialOf hT hl ?_)
  have fin : wpAny (model prog w) A (subscripted slice false o i) (fun r s₃ => wpAny (model prog w) A (letTemporaryGo value o r >>= fun _ => pure r) Q E s₃) E s₂ := by
    rw [hs o i]
    exact wpAny_operating (wpAny_mono h₂ (fun r s₃ h₃ => wpAny_bind (wpAny_letTemporaryGo (wpAny_pure h₃))) fun _ _ x => x)
  first
    | exact wpAny_pure (wpAny_bind fin)
    | exact wpAny_bind (wpAny_pure (wpAny_bind fin))
    | exact wpAny_bind fin

section
variable {X : Cx} {o i e value : Expr} {pos pos' tpos : Pos} {td ty tv : TE}
end

/-! ### displays -/
section
variable {X : Cx} {pos : Pos}
end

/-- the pairs of a display, from the left -/
def tPairs : List (TE × TE) → St → Hp → (List (V × V) → Hp → Prop) → Prop
  | [], _, H, Q => Q [] H
  | (tk, tv) :: r, σ, H, Q => tk σ H fun x H1 => tv σ H1 fun y H2 => tPairs r σ H2 fun ps H3 => Q ((x, y) :: ps) H3
abbrev VV : List (V × V) → List (Value × Value) → Prop := Paired fun p q => RelV p.1 q.1 ∧ RelV p.2 q.2
def PPs (X : Cx) (pos : Pos) (keys : List (Option Expr)) (values : List Expr) (trs : List (TE × TE)) : Prop :=
  ∀ (pins : List (Addr × Obj)) (s : Shared) (σ : St) (H : Hp) (Q : List (V × V) → Hp → Prop), Inv X pins σ H s → tPairs trs σ H Q →
    wpAny (model X.prog X.w) X.A (evalPairs (pairTrees keys values X.env pos)) (fun vs s' => ∃ ps H', Inv X pins σ H' s' ∧ VV ps vs ∧ Q ps H') X.xe s
/-! ### methods -/
/-- a method call o.m(e) of a built-in, with one argument: what must be seen of the text -/
structure M1 (X : Cx) (o : Expr) (m : Str) (apos : Pos) (e : Expr) (cpos : Pos) : Prop where
  base : attributeBase o m X.env (eval o X.env) = eval o X.env
  few : ((backTo cpos (starEach [e] X.env)).all (fun x => !x.1) && (backToKw cpos (keywordEach [] X.env)).all (fun x => x.1.isSome)
    && decide (([e] : List Expr).length + ([] : List Keyword).length + (if ([] : List Keyword).isEmpty then 0 else 1) < 30)) = true
  line : (apos.endLine == cpos.line) = true
  trees : backTo cpos (starEach [e] X.env) = [(false, eval e X.env)]
structure M2 (X : Cx) (o : Expr) (m : Str) (apos : Pos) (e f : Expr) (cpos : Pos) : Prop where
  base : attributeBase o m X.env (eval o X.env) = eval o X.env
  few : ((backTo cpos (starEach [e, f] X.env)).all (fun x => !x.1) && (backToKw cpos (keywordEach [] X.env)).all (fun x => x.1.isSome)
    && decide (([e, f] : List Expr).length + ([] : List Keyword).length + (if ([] : List Keyword).isEmpty then 0 else 1) < 30)) = true
  line : (apos.endLine == cpos.line) = true
  trees : backTo cpos (starEach [e, f] X.env) = [(false, eval e X.env), (false, eval f X.env)]

section
variable {X : Cx} {pins : List (Addr × Obj)} {σ : St} {H : Hp} {s : Shared} {a : Addr} {y d : V} {u r : Value} {o : Option V} {A : Around} {E : Value → Shared → Prop}
end

section
variable {X : Cx} {o e f : Expr} {apos cpos : Pos} {td ty tx : TE}
end

/-! ### dict(d): a copy -/
section
variable {X : Cx} {pins : List (Addr × Obj)} {σ : St} {H : Hp} {s : Shared} {a : Addr} {kvs : List (Key × V)} {A : Around} {E : Value → Shared → Prop}
end

section
variable {X : Cx} {pins : List (Addr × Obj)} {σ : St} {H : Hp} {s : Shared} {a : Addr} {y : V} {u : Value} {A : Around} {E : Value → Shared → Prop}
end
end L2

namespace Att
open PySem PySem.W PySem.Calls PyProof.Rows

/-! ### the script -/
theorem ints_of_wellAll {P : Params} {h : Heap} : ∀ (ns : List Int) (vs : List Value), WellAll P h vs (ns.map WData.int) → IntsAre vs ns := by
  intro ns
  induction ns with
  | nil =>
    intro vs w
    rw [List.map_nil] at w
    cases w
    exact .nil
  | cons n ns ih =>
    intro vs w
    rw [List.map_cons] at w
    cases w with
    | cons a b =>
      cases a
      exact .cons _ _ (ih _ b)

theorem script_of {l : OpenLaw} {n : Nat} (hn : l.most = some n) {P : Params} {h : Heap} {args : List WData} {vals : List Value}
    (hpre : l.row.toRowW.claim.pre args = true) (hwl : WellAll P h vals args) :
    ∃ a vs ns, vals = [Value.ref a] ∧ args = [WData.list (ns.map WData.int)] ∧ h.get? a = some { cls := .type "list", data := .seq vs.toArray } ∧ IntsAre vs ns ∧ ns.length ≤ n := by
  have hsh : WShape.hasAll [] args [.list .int] = true := (pre_splitW hpre).1
  have hc : l.pre.holds [] { args := args } = true := (pre_splitW hpre).2
  obtain ⟨d, r, rfl, h1, h2⟩ := hasAllW_cons hsh
  obtain rfl := hasAllW_nil h2
  obtain ⟨xs, rfl, h3⟩ := hasW_list h1
  obtain ⟨ns, rfl⟩ := items_int h3
  have hlen : ns.length ≤ n := by
    unfold OpenLaw.pre at hc
    have h4 : (WTm.not (.lt (.lit (.int (n : Int))) (.len (.arg 0)))).holds [] { args := [.list (ns.map .int)] } = true := by
      have h4 := (holds_andW hc).1
      rw [hn] at h4
      exact h4
    have h5 := condW_of h4 (w_not (w_lt w_lit (w_len_list (w_arg rfl))))
    rw [List.length_map] at h5
    refine Nat.le_of_not_lt fun q => ?_
    have q' : (n : Int) < ((ns.length : Nat) : Int) := by omega
    first
      | (rw [decide_eq_true q'] at h5; exact absurd h5 (by decide))
      | (simp at h5; omega)
  cases hwl with
  | cons w1 w2 =>
    cases w2
    cases w1 with
    | list ho hall => exact ⟨_, _, ns, rfl, rfl, ho, ints_of_wellAll ns _ hall, hlen⟩

theorem post_true (l : OpenLaw) (args : List WData) : l.row.toRowW.claim.post args (.bool true) args = true :=
  postW_of (r := l.row.toRowW) (X := (true == true))
    (show WShape.has [] (.bool true) .bool = true by first | rfl | decide | simp [WShape.has, WShape.arms, WShape.armsAll])
    (show (WTm.eq .res (.lit (.bool true))).value [] { args := args, res := some (.bool true), after := args } = some (.bool (true == true)) from w_eq_bool (w_res rfl) w_lit) rfl

/-! ### the attachment: holds_open's last premise (the goal 'hc' behind k_head) from a wpAny of the law's body -/
/-- the same from a codeAny of the CALL (for a layer whose function contracts speak of calls) -/
theorem attach_call {l : OpenLaw} {n : Nat} {q : Program} {loose : List Str} {XP : (Str → Option Value) → Heap → Prop} {YP : World → Heap → Prop} {d : DefRec}
    (hn : l.most = some n) (hdf : d.params.defaults = [])
    (call : ∀ (w : World) (s₀ s₁ : Shared) (mg mb : Str → Option Value) (fa : Addr) (o : Obj) (pm cd doc : Value) (a : Addr) (vs : List Value) (ns : List Int),
      Ground q loose [] XP w s₀ mg mb s₁.heap → YP w s₁.heap →
      s₁.heap.get? fa = some o → o.data = .func (docDef d.name d.params d.body d.scope pm cd doc) → s₁.heap.CodeRec cd d.name → mg d.name = some (.ref fa) →
      s₁.heap.get? a = some { cls := .type "list", data := .seq vs.toArray } → IntsAre vs ns → ns.length ≤ n → s₁.gens = #[] →
      codeAny (model l.prog w) callerA (.call (.ref fa) ⟨[.ref a], []⟩) (fun r s' => r = .ok (.ret (.bool true)) ∧ OldK s₁.heap s'.heap ∧ s'.os = s₁.os ∧ AllBare s'.gens) s₁) :
    WalkO q loose XP YP l.row.toRowW d [] (fun f vs => PySem.call f vs) := by
  intro w s₀ s₁ mg mb G Y fa o pm cd doc dV kV ho hd hcd hD hmg hg args vals as hpre hlay hrd hwl hlo
  obtain rfl : dV = .none := Dflts.none hD hdf
  obtain rfl : kV = .none := Dflts.noKw hD
  obtain ⟨a, vs, ns, rfl, rfl, hobj, hints, hlen⟩ := script_of hn hpre hwl
  refine enter_call (codeAny_mono (call w s₀ s₁ mg mb fa o pm cd doc a vs ns G Y ho (fd_plain hd) hcd hmg hobj hints hlen hg) fun r s' hq => ?_)
  obtain ⟨rfl, h2, h3, h4⟩ := hq
  exact ⟨.inl ⟨.bool true, .bool true, [], rfl, fun _ => rfl, .bool true, post_true l _, fun _ => ⟨List.Pairwise.nil, fun _ hm => (nomatch hm)⟩⟩, h2, h3, h4⟩

/-! ### rules over ANY heap (no ledger) from facts about the written part K: the library's own take a ledger (News) for what they write -/
section
variable {prog : Program} {w : World} {A : Around} {E : Value → Shared → Prop} {s : Shared} {K : Frag}

/-! the whole heap as the ledger: makes every rule that writes through a ledger a rule over any heap -/
def ledger (h : Heap) (L d : Addr) : List (Addr × Obj) := (List.range h.objs.size).filterMap fun a => if a = L ∨ a = d then none else (h.get? a).map fun o => (a, o)
end
end Att

namespace L2
open PySem PySem.Spec PyProof.Rows

theorem vals_ints : ∀ {vs : List Value} {ns : List Int}, IntsAre vs ns → Vals (ns.map V.int) vs
  | _, _, .nil => .nil
  | _, _, .cons n t h => .cons ⟨t, rfl⟩ (vals_ints h)

end L2

namespace L2
open PySem PySem.Spec PyProof.Rows

end L2

/-! SHORT WORDS over the layer: a def of the text, its body, what a loop and a test want. -/
namespace L2
open PySem PySem.Spec PyProof.Rows

/-! ### the text by places -/
def defArgs (s : Stmt) : Arguments := match s with
  | .FunctionDef _ a _ _ _ _ _ _ _ _ => a
  | _ => { posonlyargs := [], args := [], vararg := none, kwonlyargs := [], kw_defaults := [], kwarg := none, defaults := [] }
def defBody (s : Stmt) : List Stmt := match s with
  | .FunctionDef _ _ b _ _ _ _ _ _ _ => b
  | _ => []
def defScope (s : Stmt) : Scope := match s with
  | .FunctionDef _ _ _ _ _ _ sc _ _ _ => sc
  | _ => { kind := .function, names := [], isGenerator := false, isCoroutine := false }

/-! ### no exception leaves a def -/
abbrev CX0 : CXT := fun _ _ _ _ _ _ => False
abbrev E0 : XK := fun _ _ _ => False
theorem pass0 {X : Cx} : Passes CX0 X E0 := fun _ _ _ _ _ _ _ h => h.elim

/-! ### a def (or method) of the text as it stands behind the top -/
structure Fun (K : PySem.W.Frag) (x qual : Str) (st : Stmt) (f : Addr) (fd : FuncData) : Prop where
  ex : ∃ (oc : Value) (od : Option Addr) (kV doc pm : Value) (an : Option Addr) (cdv ct : Value) (osl : Array (Option Value)),
    fd = PySem.W.fnOf x qual (defArgs st) (defBody st) (defScope st) .none kV doc pm an cdv ct ∧ K.lookup f = some ⟨oc, od, .func fd, osl⟩ ∧ PySem.W.codeIn K cdv qual = true
  kp : PySem.W.keepIn K (.ref f) = true
section
variable {P : Program} {w : World} {K : PySem.W.Frag} {mg : Str → Option Value} {base : Heap}
/-- THE RULE for a def: its body as a term of rules, and the reading of that term -/
theorem Fun.ok {x qual : Str} {st : Stmt} {f : Addr} {fd : FuncData} {N ps : List Str} {k : Nat} {sp : Sp} (F : Fun K x qual st f fd) (S : FnScope N ps (defScope st)) (len : ∀ vs H Q E, sp vs H Q E → vs.length = ps.length)
    (hbody : ∀ (cdv : Value) (A : Around) (outer : List Env) (s : Shared) (H : Hp) (vs : List V) (Q : VK) (E : XK), Room k (A.deeper (envOfC qual (defScope st) s.heap.objs.size f cdv)) → sp vs H Q E →
      ∃ t, PSs (cxOf CX0 P w K mg base N qual (defScope st) f cdv A outer s H E).nox (defBody st) t ∧ t { nx := fun _ H' => Q .non H', rt := Q } (start N vs) H) : FnOk P w K mg base CX0 (k + 1) f fd ps sp := by
  obtain ⟨oc, od, kV, doc, pm, an, cdv, ct, osl, rfl, lk, hcd⟩ := F.ex
  refine fn_of lk hcd S len fun A outer s H vs Q E hr hsp => ?_
  obtain ⟨t, h, q⟩ := hbody cdv A outer s H vs Q E hr hsp
  exact ⟨t, h.nox, q⟩
/-- how its arguments bind (no defaults): h is «fun _ _ _ _ _ _ us hl => match us, hl with | [_, _], _ => rfl», one _ a parameter -/
theorem Fun.binds {x qual : Str} {st : Stmt} {f : Addr} {fd : FuncData} {ps : List Str} (F : Fun K x qual st f fd)
    (h : ∀ (kV doc pm : Value) (an : Option Addr) (cdv ct : Value) (us : List Value), us.length = ps.length → bindArgs (PySem.W.fnOf x qual (defArgs st) (defBody st) (defScope st) .none kV doc pm an cdv ct) ⟨us, []⟩ = pure (ps.zip us)) : Binds K fd ps [] := by
  obtain ⟨oc, od, kV, doc, pm, an, cdv, ct, osl, rfl, lk, hcd⟩ := F.ex
  exact .all (h kV doc pm an cdv ct)
theorem fun_mk {x qual : Str} {st : Stmt} {f : Addr} {oc : Value} {od an : Option Addr} {osl : Array (Option Value)} {kV doc pm cdv ct : Value} (l : K.lookup f = some ⟨oc, od, .func (PySem.W.fnOf x qual (defArgs st) (defBody st) (defScope st) .none kV doc pm an cdv ct), osl⟩)
    (c : PySem.W.codeIn K cdv qual = true) (k : PySem.W.keepIn K (.ref f) = true) : Fun K x qual st f (PySem.W.fnOf x qual (defArgs st) (defBody st) (defScope st) .none kV doc pm an cdv ct) := ⟨⟨oc, od, kV, doc, pm, an, cdv, ct, osl, rfl, l, c⟩, k⟩
end
theorem small1000 {n : Nat} (h : n ≤ 1000) : n < sizeLine := Nat.lt_of_le_of_lt h (by decide)

/-! ### expressions in short: the name that stands in the i-th slot -/
section
variable {X : Cx}
theorem pv (i : Nat) {x : Str} {pos : Pos} (hN : X.N[i]? = some x := by rfl) (hv : Vis X.env.scope x := by first | exact Or.inl rfl | exact Or.inr (Or.inl rfl) | exact Or.inr (Or.inr rfl)) (hd : (x == ("__debug__" : Str)) = false := by decide)
    (hcd : (x == ("__classdict__" : Str)) = false := by decide) : PE X (.Name x pos) (tVar i) := pe_var hN hv hd hcd
end

/-! ### tests -/
theorem iteF {A B : Prop} (h : B) : if false = true then A else B := by
  rw [if_neg Bool.false_ne_true]
  exact h
theorem iteT {A B : Prop} (h : A) : if true = true then A else B := by
  rw [if_pos rfl]
  exact h
theorem ite2 {c A B : Prop} [Decidable c] (h1 : c → A) (h2 : ¬ c → B) : if c then A else B := by
  by_cases h : c
  · rw [if_pos h]
    exact h1 h
  · rw [if_neg h]
    exact h2 h
theorem iteNS {c A B : Prop} [Decidable c] (hc : c) (h : B) : if (!decide c) = true then A else B := by
  rw [decide_eq_true hc]
  exact iteF h

/-! ### heaps -/
/-- all that was tracked is as it was -/
def Same (H H' : Hp) : Prop := ∀ b o, H b = some o → H' b = some o
theorem Same.refl (H : Hp) : Same H H := fun _ _ h => h
theorem Same.trans {H H1 H2 : Hp} (a : Same H H1) (b : Same H1 H2) : Same H H2 := fun c o h => b c o (a c o h)
theorem Same.seq {K : PySem.W.Frag} {H H' : Hp} {a : Addr} {xs : List V} (e : Same H H') (h : SqL K H a xs) : SqL K H' a xs := by
  rcases h with (h | ⟨o, h⟩) | h
  · exact .inl (.inl (e _ _ h))
  · exact .inl (.inr ⟨o, e _ _ h⟩)
  · exact .inr h

/-! ### a dict's pairs: keys that differ -/
section
variable {κ : Type} [DecidableEq κ]
end
end L2

namespace L2
open PySem PySem.Spec PyProof.Rows

/-! ### small rules -/
section
variable {X : Cx} {a b c : Expr} {ta tb tc : TE} {pos : Pos}
/-- a name of the top that holds an int, a text, an object -/
theorem pe_gI {x : Str} {i : Int} (h : ∃ t, X.mg x = some (.int i t)) (hg : Gl X x := by rfl) (hd : (x == ("__debug__" : Str)) = false := by decide) : PE X (.Name x pos) (tC (.int i)) := by
  obtain ⟨t, h⟩ := h
  exact pe_glob hg h ⟨t, rfl⟩ hd
theorem pe_gS {x z : Str} (h : ∃ t, X.mg x = some (.str z t)) (hg : Gl X x := by rfl) (hd : (x == ("__debug__" : Str)) = false := by decide) : PE X (.Name x pos) (tC (.str z)) := by
  obtain ⟨t, h⟩ := h
  exact pe_glob hg h ⟨t, rfl⟩ hd
theorem pe_gR {x : Str} {f : Addr} (h : X.mg x = some (.ref f)) (hg : Gl X x := by rfl) (hd : (x == ("__debug__" : Str)) = false := by decide) : PE X (.Name x pos) (tC (.ref f)) := pe_glob hg h rfl hd
/-- a built-in type as a value -/
theorem pe_ty {x : Str} {T : String} (hm : X.mg x = none) (hv : bootBuiltins x = some (.type T)) (hg : Gl X x := by rfl) (hn : x ≠ "__name__" := by decide) (hd : (x == ("__debug__" : Str)) = false := by decide) : PE X (.Name x pos) (tC (.ty T)) := pe_bltn hg hm hv rfl hn hd
/-- a text times a number -/
theorem op_mul_str : OpR X (binaryOp .Mult) (fun x y H Q => ∃ i n, x = .str i ∧ y = .int n ∧ i.length ≤ 64 ∧ n ≤ 1000 ∧ -1000 ≤ n ∧ Q (.str (Txt.mul i n)) H) := by
  intro pins s σ H x y v u Q I rx ry h
  obtain ⟨i, n, rfl, rfl, h1, h2, h3, q⟩ := h
  obtain ⟨t, rfl⟩ := rx
  obtain ⟨t', rfl⟩ := ry
  exact SB.mul (mulOk_of 64 1000 h1 (by omega) (by omega) (by decide) (by decide)) fun t' k => ⟨.str _, H, I.tok k, ⟨_, rfl⟩, q⟩
end

/-! ### data -/
mutual
inductive Dt (K : PySem.W.Frag) (H : Hp) : V → PyData → Prop where
  | non : Dt K H .non .none
  | bl (b : Bool) : Dt K H (.bl b) (.bool b)
  | int (i : Int) : Dt K H (.int i) (.int i)
  | str (x : Str) : Dt K H (.str x) (.str x)
  | lst {a : Addr} {xs : List V} {ds : List PyData} : SqL K H a xs → DtAll K H xs ds → Dt K H (.ref a) (.list ds)
  | tup {a : Addr} {xs : List V} {ds : List PyData} : SqT K H a xs → DtAll K H xs ds → Dt K H (.ref a) (.tuple ds)
  | dK {a : Addr} {kvs : List (Key × V)} : H a = some (.dK kvs) → Dt K H (.ref a) (.dict [])
  | dT {a : Addr} {kvs : List (List Key × V)} : H a = some (.dT kvs) → Dt K H (.ref a) (.dict [])
inductive DtAll (K : PySem.W.Frag) (H : Hp) : List V → List PyData → Prop where
  | nil : DtAll K H [] []
  | cons {v : V} {d : PyData} {vs : List V} {ds : List PyData} : Dt K H v d → DtAll K H vs ds → DtAll K H (v :: vs) (d :: ds)
end
section
variable {X : Cx} {pins : List (Addr × Obj)} {σ : St} {H H' : Hp} {s : Shared}
mutual
theorem Dt.reads (I : Inv X pins σ H s) : ∀ {v : V} {d : PyData} {u : Value}, Dt X.K H v d → RelV v u → d.canLay0 = true → ∃ as, Reads s.heap u d as
  | _, _, _, .non, r, _ => by cases r; exact ⟨_, .none⟩
  | _, _, _, .bl b, r, _ => by cases r; exact ⟨_, .bool b⟩
  | _, _, _, .int i, r, _ => by obtain ⟨t, rfl⟩ := r; exact ⟨_, .int i t⟩
  | _, _, _, .str x, r, _ => by obtain ⟨t, rfl⟩ := r; exact ⟨_, .str x t⟩
  | _, _, _, .lst h hd, r, l => by
    cases r
    obtain ⟨its, rv, ⟨o, n, e, hc, _, hs⟩, _⟩ := I.list h
    obtain ⟨as, ra⟩ := DtAll.reads I hd rv (by rw [PyData.canLay0] at l; exact l)
    exact ⟨_, .list e hc hs (by simpa using ra)⟩
  | _, _, _, .tup h hd, r, l => by
    cases r
    obtain ⟨its, rv, ⟨o, e, hc, n, hs⟩, _⟩ := I.tuple h
    obtain ⟨as, ra⟩ := DtAll.reads I hd rv (by rw [PyData.canLay0] at l; exact l)
    exact ⟨_, .tuple e hc hs (by simpa using ra)⟩
  | _, _, _, .dK _, _, l => by rw [PyData.canLay0] at l; cases l
  | _, _, _, .dT _, _, l => by rw [PyData.canLay0] at l; cases l
theorem DtAll.reads (I : Inv X pins σ H s) : ∀ {vs : List V} {ds : List PyData} {us : List Value}, DtAll X.K H vs ds → Vals vs us → PyData.canLayAll0 ds = true → ∃ as, ReadsAll s.heap us ds as
  | _, _, _, .nil, r, _ => by cases r; exact ⟨_, .nil⟩
  | _, _, _, .cons h hd, r, l => by
    rw [PyData.canLayAll0, Bool.and_eq_true] at l
    cases r with
    | cons r1 rr =>
      obtain ⟨as, ra⟩ := Dt.reads I h r1 l.1
      obtain ⟨bs, rb⟩ := DtAll.reads I hd rr l.2
      exact ⟨_, .cons ra rb⟩
end
theorem Same.seqT {K : PySem.W.Frag} {a : Addr} {xs : List V} (e : Same H H') (h : SqT K H a xs) : SqT K H' a xs := by
  rcases h with (h | ⟨o, h⟩) | h
  · exact .inl (.inl (e _ _ h))
  · exact .inl (.inr ⟨o, e _ _ h⟩)
  · exact .inr h
mutual
theorem Dt.same {K : PySem.W.Frag} (e : Same H H') : ∀ {v : V} {d : PyData}, Dt K H v d → Dt K H' v d
  | _, _, .non => .non
  | _, _, .bl b => .bl b
  | _, _, .int i => .int i
  | _, _, .str x => .str x
  | _, _, .lst h hd => .lst (e.seq h) (DtAll.same e hd)
  | _, _, .tup h hd => .tup (Same.seqT e h) (DtAll.same e hd)
  | _, _, .dK h => .dK (e _ _ h)
  | _, _, .dT h => .dT (e _ _ h)
theorem DtAll.same {K : PySem.W.Frag} (e : Same H H') : ∀ {vs : List V} {ds : List PyData}, DtAll K H vs ds → DtAll K H' vs ds
  | _, _, .nil => .nil
  | _, _, .cons h hd => .cons (Dt.same e h) (DtAll.same e hd)
end
theorem DtAll.get {K : PySem.W.Frag} : ∀ {vs : List V} {ds : List PyData} {i : Nat} {v : V}, DtAll K H vs ds → vs[i]? = some v → ∃ d, ds[i]? = some d ∧ Dt K H v d
  | _, _, _, _, .nil, e => by simp at e
  | _, _, 0, _, .cons h _, e => by simp at e; subst e; exact ⟨_, rfl, h⟩
  | _, _, i + 1, v, .cons _ t, e => by
    obtain ⟨d, h1, h2⟩ := DtAll.get (i := i) (v := v) t (by simpa using e)
    exact ⟨d, by simpa using h1, h2⟩
theorem DtAll.length {K : PySem.W.Frag} : ∀ {vs : List V} {ds : List PyData}, DtAll K H vs ds → vs.length = ds.length
  | _, _, .nil => rfl
  | _, _, .cons _ t => by rw [List.length_cons, List.length_cons, DtAll.length t]
theorem DtAll.append {K : PySem.W.Frag} : ∀ {vs ws : List V} {ds es : List PyData}, DtAll K H vs ds → DtAll K H ws es → DtAll K H (vs ++ ws) (ds ++ es)
  | _, _, _, _, .nil, h => h
  | _, _, _, _, .cons h t, h' => .cons h (DtAll.append t h')
/-- == of data -/
theorem op_eqD (hu : X.A.units + 64 < cLine) : OpR X (compareOp .Eq) (fun x y H Q => ∃ dx dy, Dt X.K H x dx ∧ Dt X.K H y dy ∧ dx.canLay0 = true ∧ dy.canLay0 = true ∧ dx.depth ≤ 64 ∧ Q (.bl (PyData.eqv dx dy)) H) := by
  intro pins s σ H x y v u Q I rx ry h
  obtain ⟨dx, dy, hx, hy, lx, ly, hd, q⟩ := h
  obtain ⟨as, ra⟩ := Dt.reads I hx rx lx
  obtain ⟨bs, rb⟩ := Dt.reads I hy ry ly
  exact SeqAt.compareEq_reads ra rb lx ly (by have := Nat.min_le_left dx.depth dy.depth; omega) ⟨.bl _, H, I, rfl, q⟩
end

/-! ### the signs of a text, walked -/
def Its (x : Str) : It := ⟨fun i _ => i < x.cps.size, fun i H v H' => H' = H ∧ ∃ c, x.cps[i]? = some c ∧ v = .str ⟨#[c]⟩, fun i _ => x.cps.size ≤ i⟩
theorem turn_str {P : Program} {w : World} {K : PySem.W.Frag} {tg : Expr} (it : Addr) (x : Str) (t : Tok) : ∀ ty : String, (ty = "str_ascii_iterator" ∨ ty = "str_iterator") → Turn P w K tg (Its x) [it] it (fun i h => h.IsStrIter it ty x t i) := by
  intro ty hty
  refine ⟨by simp, ?_, ?_, ?_, ?_, ?_⟩
  · intro i h st b hb
    have e : b = it := by simpa using hb
    subst e
    obtain ⟨o, e, c, d⟩ := st
    exact ⟨o, e, fun v z => by rw [d] at z; cases z⟩
  · intro i h h' st k
    obtain ⟨o, e, c, d⟩ := st
    exact ⟨o, k it (by simp) o e, c, d⟩
  · intro X hP hw hK hc i pins s σ H E I hf st hg
    subst hP hw hK
    obtain ⟨f0, f1, f2, f3, f4, f5⟩ := hf it (by simp)
    have hi : i < x.cps.size := hg
    have hx : x.cps[i]? = some x.cps[i] := by simp [hi]
    have fin : ∀ h', h'.IsStrIter it ty x t (i + 1) → Heap.SameBut it s.heap h' → ∃ u, some (Value.str ⟨#[x.cps[i]]⟩ s.toks) = some u ∧
        wpAny (model X.prog X.w) X.A (letOwnedTupleGo tg (.ref it) u) (fun _ s2 => ∃ y H', Inv X pins σ H' s2 ∧ RelV y u ∧ (Its x).yld i H y H' ∧ s2.heap.IsStrIter it ty x t (i + 1) ∧ ∀ b ∈ [it], H' b = none) E { s with heap := h', toks := s.toks + 1 } := by
      intro h' st' sb
      have I1 : Inv X pins σ H { s with heap := h', toks := s.toks + 1 } := I.turned (fun b o hb e => (sb.2 b hb).trans e) f0 f1 f3 f4 f5
      obtain ⟨o, e, c, d⟩ := id st'
      refine ⟨_, rfl, go_of (s := { s with heap := h', toks := s.toks + 1 }) e c d ?_ ⟨.str ⟨#[x.cps[i]]⟩, H, I1, ⟨_, rfl⟩, ⟨rfl, _, hx, rfl⟩, st', fun b hb => (hf b hb).1⟩⟩
      rcases hty with rfl | rfl <;> decide
    rcases hty with rfl | rfl
    · exact wpAny_pyNext_ascii_item st hx fin
    · exact wpAny_pyNext_wide_item st hx fin
  · intro X hP hw hK hc i pins s σ H E I hf st hg
    subst hP hw hK
    obtain ⟨f0, f1, f2, f3, f4, f5⟩ := hf it (by simp)
    have hi : x.cps.size ≤ i := hg
    have hx : x.cps[i]? = none := by simp [hi]
    have fin : ∀ h', Heap.ExtBut it s.heap h' → (none : Option Value) = none ∧ Inv X pins σ H { s with heap := h' } := fun h' eb => ⟨rfl, I.turned (t' := s.toks) (fun b o hb e => eb b o hb e) f0 f1 f3 f4 f5⟩
    rcases hty with rfl | rfl
    · exact wpAny_pyNext_ascii_end (I.ok.hd hc) st hx fin
    · exact wpAny_pyNext_wide_end (I.ok.hd hc) st hx fin
  · intro A i s Q E st h
    rcases hty with rfl | rfl
    · exact wpAny_pyIter_striter_ascii st h
    · exact wpAny_pyIter_striter_wide st h
section
variable {X : Cx} {tg : Expr}
def iStr (tl : TE) : TI := fun σ H R => tl σ H fun v H1 => ∃ x, v = .str x ∧ R (Its x) H1
theorem pi_str {l : Expr} {tl : TE} (hl : PE X l tl) : PI X tg l (iStr tl) := by
  intro pins s σ H R I h
  refine thn (hl pins s σ H _ I h) fun v s1 ⟨y, H1, I1, r1, q1⟩ => ?_
  obtain ⟨x, e, q⟩ := q1
  subst e
  obtain ⟨t, rfl⟩ := r1
  have fin : ∀ ty : String, (ty = "str_ascii_iterator" ∨ ty = "str_iterator") → PIE X pins σ tg R (.ref s1.heap.objs.size) { s1 with heap := s1.heap.push { cls := .type ty, data := .fields #[.str x t, .int 0 0] } } := fun ty hty => by
    refine ⟨s1.heap.objs.size, [s1.heap.objs.size], _, _, H1, rfl, I1.kept (t' := s1.toks) fun b o e => Heap.get?_push_of_some _ e, turn_str _ x t ty hty, ⟨_, Heap.get?_push_size _ rfl, rfl, rfl⟩, fun b hb => ?_, q⟩
    have e : b = s1.heap.objs.size := by simpa using hb
    subst e
    exact I1.fpOk (Nat.le_refl _) (I1.hok.fresh (Nat.le_refl _))
  cases ha : x.cps.all (· < 128)
  · exact wpAny_pyIter_wide ha (fin _ (.inr rfl))
  · exact wpAny_pyIter_ascii ha (fin _ (.inl rfl))
end
end L2

namespace L2
open PySem PySem.Spec PyProof.Rows

/-! ### a list's comprehension -/
section
variable {prog : Program} {w : World} {A : Around} {R : Result → Shared → Prop} {s : Shared}
theorem compLoop_own {elt target iter : Expr} {ifs : List Expr} {scope : Scope} {pos : Pos} {it acc : Value} {env : Env} (I : Nat → Shared → Prop)
    (turn : ∀ n s, I n s → wpAny (model prog w) A (pyNext it) (fun r s₁ => match r with
      | none => R (.ok .next) s₁
      | some v => wpAny (model prog w) A (letOwnedTupleGo target it v) (fun _ s₁' => wpAny (model prog w) A (assign target env v) (fun _ s₂ =>
          wpAny (model prog w) A (forIn ifs true fun c r => if r = true then do let ok ← isTrue c env (eval c env); pure (ForInStep.yield ok) else pure (ForInStep.yield r)) (fun ok s₃ =>
            if ok = true then wpAny (model prog w) A (eval elt env) (fun x s₄ =>
              wpAny (model prog w) A (call (.builtin "list.append") [acc, x]) (fun _ s₅ => ∃ m, m < n ∧ I m s₅) (fun _ _ => False) s₄) (fun _ _ => False) s₃
            else ∃ m, m < n ∧ I m s₃) (fun _ _ => False) s₂) (fun _ _ => False) s₁') (fun _ _ => False) s₁) (fun _ _ => False) s)
    (n : Nat) (h : I n s) :
    codeAny (model prog w) A (.compLoop (.ListComp elt [⟨target, iter, ifs, 0⟩] scope pos) 0 it acc env) R s := by
  refine codeAny_loop rfl I (fun n s hI => ?_) n h
  show wpAny _ A ((compTurn (.ListComp elt [⟨target, iter, ifs, 0⟩] scope pos) 0 it acc env).onRaise (fun x => do noteFrame x env; theTreesLotGoes x)) _ _ s
  refine wpAny_noted ?_
  rw [compTurn_list]
  refine wpAny_bind (wpAny_standAt (wpAny_bind (wpAny_mono (turn n s hI) (fun r s₁ h₁ => ?_) fun _ _ h' => h'.elim)))
  cases r with
  | none => exact wpAny_pure h₁
  | some v =>
    refine wpAny_bind (wpAny_mono h₁ (fun _ s₁' h₁' => ?_) fun _ _ h' => h'.elim)
    refine wpAny_bind (wpAny_mono h₁' (fun _ s₂ h₂ => wpAny_bind (wpAny_mono h₂ (fun ok s₃ h₃ => ?_) fun _ _ h' => h'.elim)) fun _ _ h' => h'.elim)
    cases ok with
    | false => exact wpAny_pure ⟨rfl, h₃⟩
    | true =>
      exact wpAny_bind (wpAny_bind (wpAny_mono h₃ (fun x s₄ h₄ => wpAny_bind (wpAny_mono h₄ (fun _ s₅ h₅ => wpAny_pure (wpAny_pure ⟨rfl, h₅⟩)) fun _ _ h' => h'.elim)) fun _ _ h' => h'.elim))
end

/-- the context of a comprehension's block -/
def cxComp (X : Cx) (scope : Scope) (cl : List (Str × Addr)) (C : Addr) (N' : List Str) (fp : List Addr) (pins : List (Addr × Obj)) (s : Shared) (H : Hp) : Cx where
  prog := X.prog
  w := X.w
  K := X.K
  mg := X.mg
  base := X.base
  A := X.A
  N := N'
  s₀ := s
  H₀ := H
  env := compEnvC scope cl C X.env
  outer := X.stack
  stack := X.stack
  ex := fp
  calm := X.calm
  fn := fun _ => false
  pn := X.pn ++ pins
  xe := fun _ _ => False
/-- the cells that the block sees -/
structure Caps (X : Cx) (scope : Scope) (cl : List (Str × Addr)) (cp : List (Nat × Str)) : Prop where
  kind : scope.kind = .function
  nocell : ∀ y ∈ scope.names, y.2 ≠ .cell
  names : ∀ y ∈ scope.names, y.2 = .local → scope.names.lookup y.1 = some .local
  clos : closureFor scope X.env = pure cl
  sub : ∀ x c, cl.lookup x = some c → X.env.cells.lookup x = some c
  has : ∀ x, ((relabel scope X.env).names.lookup x = some .cell ∨ (relabel scope X.env).names.lookup x = some .free) → ∃ c, cl.lookup x = some c
  at' : ∀ p ∈ cp, X.N[p.1]? = some p.2 ∧ (X.env.scope.names.lookup p.2 = some .cell ∨ X.env.scope.names.lookup p.2 = some .free) ∧ ((relabel scope X.env).names.lookup p.2 = some .cell ∨ (relabel scope X.env).names.lookup p.2 = some .free)
def capσ (cp : List (Nat × Str)) (σ : St) : St := cp.map fun p => (σ[p.1]?).getD none
section
variable {X : Cx} {pins : List (Addr × Obj)} {σ : St} {H : Hp} {s : Shared} {scope : Scope} {cl : List (Str × Addr)} {cp : List (Nat × Str)} {fp : List Addr} {x : Str}
theorem inv_comp (I : Inv X pins σ H s) (c : Caps X scope cl cp) (hf : ∀ b ∈ fp, FpOk X pins H b) (hfo : ∀ b ∈ fp, b < s.heap.objs.size) {h' : Heap} {ty : String} {tk : Nat} {m : Str → Option Value} (hm : h'.Ns s.heap.objs.size m)
    (sb : Heap.SameBut s.heap.objs.size (s.heap.push { cls := .type ty, data := .dict #[] }) h') :
    Inv (cxComp X scope cl s.heap.objs.size (x :: cp.map (·.2)) fp pins s H) [] (none :: capσ cp σ) H { s with heap := h', toks := tk } := by
  have old : ∀ b o, s.heap.get? b = some o → h'.get? b = some o := fun b o e => (sb.2 b (Nat.ne_of_lt (Heap.lt_size e))).trans (Heap.get?_push_of_some _ e)
  have hC : H s.heap.objs.size = none := I.hok.fresh (Nat.le_refl _)
  refine ⟨⟨I.ok.mod, c.kind, I.ok.glob, I.ok.blt, Nat.le_refl _, fun y z k h1 h2 => I.ok.inj y z k (c.sub _ _ h1) (c.sub _ _ h2), c.has, fun y k z => (Bool.noConfusion z), I.ok.hd, I.ok.frames, .inl rfl, fun b hb => ?_, fun b o e => I.bs b o e, Nat.le_trans I.ok.bsz I.sz, fun b o e hb => ?_, fun b hb hz => ?_, I.stack, I.stkFree⟩,
    rfl, I.bare, Un.kept old, ⟨m, hm, fun i y v h1 h2 h3 => ?_⟩, fun y k e => ?_, hC, fun y k e => I.freeC y k (c.sub y k e), fun p hp => ?_, I.hok.kept old, ?_⟩
  · obtain ⟨f0, f1, f2, f3, f4, f5⟩ := hf b hb
    exact ⟨Nat.ne_of_lt (hfo b hb), fun y k e => f4 y k (c.sub y k e)⟩
  · obtain ⟨f0, f1, f2, f3, f4, f5⟩ := hf b hb
    rcases f3 with z | z
    · exact I.ok.noex b o e z
    · exact absurd (Nat.lt_of_lt_of_le (Heap.lt_size (I.ok.bs b o e).1) z) (Nat.lt_irrefl _)
  · obtain ⟨f0, f1, f2, f3, f4, f5⟩ := hf b hb
    rcases List.mem_cons.mp (I.stkSub b hz) with e | e
    · exact f1 e
    · exact f2 e
  · cases i with
    | zero => simp at h2
    | succ i =>
      have h1' : (cp.map (·.2))[i]? = some y := by
        have z : (x :: cp.map (·.2))[i + 1]? = some y := h1
        rw [List.getElem?_cons_succ] at z
        exact z
      have h2' : (capσ cp σ)[i]? = some (some v) := by simpa using h2
      unfold capσ at h2'
      rw [List.getElem?_map] at h1' h2'
      cases e : cp[i]? with
      | none => rw [e] at h1'; cases h1'
      | some p =>
        rw [e] at h1' h2'
        simp only [Option.map_some, Option.some.injEq] at h1' h2'
        obtain ⟨k1, k2, k3⟩ := c.at' p (List.mem_of_getElem? e)
        subst h1'
        have h2'' : σ[p.1]? = some (some v) := by
          cases q : σ[p.1]? with
          | none => rw [q] at h2'; cases h2'
          | some z => rw [q] at h2'; simpa using h2'
        obtain ⟨m0, hn0, hl0⟩ := I.loc
        obtain ⟨u, r, l⟩ := hl0 p.1 p.2 v k1 h2'' (k2.elim (fun z => .inr (.inl z)) fun z => .inr (.inr z))
        refine ⟨u, r, .inr ⟨k3, ?_⟩⟩
        rcases l with ⟨z, _⟩ | ⟨_, cc, e1, e2⟩
        · have z' : X.env.scope.names.lookup p.2 = some .local := z
          rcases k2 with k | k <;> (rw [z'] at k; cases k)
        · obtain ⟨cc', e3⟩ := c.has p.2 k3
          have e4 := c.sub _ _ e3
          rw [e1] at e4
          cases e4
          obtain ⟨o, ho, hd⟩ := e2
          exact ⟨cc, e3, o, old _ _ ho, hd⟩
  · obtain ⟨v, o, ho, hd⟩ := I.cell y k (c.sub y k e)
    exact ⟨v, o, old _ _ ho, hd⟩
  · have hp' : p ∈ X.pn ++ pins := by
      rcases List.mem_append.mp hp with z | z
      · exact z
      · cases z
    obtain ⟨e, n, ne, nf, d⟩ := I.pin p hp'
    refine ⟨old _ _ e, n, Nat.ne_of_lt (Heap.lt_size e), fun hz => ?_, d⟩
    rcases List.mem_cons.mp (I.stkSub p.1 hz) with q | q
    · exact ne q
    · exact nf q
  · show (none :: capσ cp σ).length = (x :: cp.map (·.2)).length
    simp [capσ]
/-- behind the block -/
theorem Inv.uncomp {C : Addr} {N' : List Str} {σ' : St} {H' : Hp} {s' : Shared} {h'' : Heap} (I : Inv X pins σ H s) (hC : C = s.heap.objs.size) (hf : ∀ b ∈ fp, FpOk X pins H b) (J : Inv (cxComp X scope cl C N' fp pins s H) [] σ' H' s') (sb : Heap.SameBut C s'.heap h'') :
    Inv X pins σ H' { s' with heap := h'' } := by
  have ne : ∀ b o, s.heap.get? b = some o → b ≠ C := fun b o e => by rw [hC]; exact Nat.ne_of_lt (Heap.lt_size e)
  have B : Un (frs X.stack) fp H H' s.heap s'.heap := J.base
  refine I.call' (s' := { s' with heap := h'' }) (ch := fp) (show s'.os = s.os from J.os) ⟨fun b o e n hb hx => ?_, fun b o e n hb hx => ?_, B.free, fun b o e hx => ?_, B.tups, B.frzs, B.tbls⟩ (fun b ob e => ?_) J.bare fun b hb => ?_
  · exact (sb.2 b (ne b o e)).trans (B.keep b o e n hb hx)
  · obtain ⟨sl, q⟩ := B.slot b o e n hb hx
    exact ⟨sl, (sb.2 b (ne b o e)).trans q⟩
  · obtain ⟨o', q⟩ := B.there b o e hx
    exact ⟨o', (sb.2 b (ne b o e)).trans q⟩
  · have hfree : H' C = none := J.free
    refine (J.hok b ob e).stay (fun k w' hk q => (sb.2 k ?_).trans q) (fun _ q => q) fun _ _ q => q
    rintro rfl
    rcases hk with rfl | hk
    · rw [hfree] at e; cases e
    · rw [hfree] at hk; cases hk
  · obtain ⟨f0, f1, f2, f3, f4, f5⟩ := hf b hb
    exact ⟨f3, f1, f4, f5⟩
end

/-- the tests behind the for -/
def PTs (X : Cx) (ifs : List Expr) (t : TT) : Prop :=
  ∀ (pins : List (Addr × Obj)) (s : Shared) (σ : St) (H : Hp) (Q : Bool → Hp → Prop), Inv X pins σ H s → t σ H Q →
    wpAny (model X.prog X.w) X.A (forIn ifs true fun c r => if r = true then do let ok ← isTrue c X.env (eval c X.env); pure (ForInStep.yield ok) else pure (ForInStep.yield r)) (TP X pins σ Q) X.xe s
def tYes : TT := fun _ H Q => Q true H
theorem pts_nil {X : Cx} : PTs X [] tYes := fun _ _ _ H _ I h => wpAny_tests_nil ⟨H, I, h⟩
theorem pts_one {X : Cx} {c : Expr} {t : TT} (h : PT X c t) : PTs X [c] t := fun pins s σ H Q I q => wpAny_tests_one (h pins s σ H Q I q)
/-- the loop of a comprehension: W by the turn and a measure; the list grows at D -/
def tLoop (cp : List (Nat × Str)) (tt : TT) (te : TE) (σ : St) (J : It) (D : Addr) (Q : VK) (H1 : Hp) : Prop :=
  ∃ W : Nat → Nat → Hp → Prop, (∃ m, W 0 m (upd H1 D (.lst []))) ∧ ∀ i m H2, W i m H2 → (J.stop i H2 ∧ Q (.ref D) H2) ∨
    (J.go i H2 ∧ ∃ (N : VK) (N' : Hp → Prop), (∀ y H5, N y H5 → ∃ ys m', H5 D = some (.lst ys) ∧ ys.length < sizeLine ∧ m' < m ∧ W (i + 1) m' (upd H5 D (.lst (ys ++ [y])))) ∧ (∀ H4, N' H4 → ∃ m', m' < m ∧ W (i + 1) m' H4) ∧
      ∀ v H3, J.yld i H2 v H3 → tt (some v :: capσ cp σ) H3 fun b H4 => if b = true then te (some v :: capσ cp σ) H4 N else N' H4)
def tComp (cp : List (Nat × Str)) (wi : TI) (tt : TT) (te : TE) : TE := fun σ H Q => wi σ H fun J H1 => ∀ D, H1 D = none → tLoop cp tt te σ J D Q H1
section
variable {X : Cx} {scope : Scope} {cl : List (Str × Addr)} {cp : List (Nat × Str)} {x : Str} {px pos : Pos} {elt iter : Expr} {ifs : List Expr} {wi : TI} {tt : TT} {te : TE}
theorem comp_core {pins : List (Addr × Obj)} {σ : St} {H2 : Hp} {s2 : Shared} {it : Addr} {fp : List Addr} {tn : Nat → Heap → Prop} {J : It} {Q : VK} {R : Addr → Result → Shared → Prop} {E : Value → Shared → Prop} (c : Caps X scope cl cp) (hcalm : X.calm = true) (hx : scope.names.lookup x = some .local) (hnd : (x :: cp.map (·.2)).Nodup)
    (ht : ∀ C fp pins s H, PTs (cxComp X scope cl C (x :: cp.map (·.2)) fp pins s H) ifs tt) (he : ∀ C fp pins s H, PE (cxComp X scope cl C (x :: cp.map (·.2)) fp pins s H) elt te)
    (I2 : Inv X pins σ H2 s2) (T : Turn X.prog X.w X.K (.Name x px) J fp it tn) (st2 : tn 0 s2.heap) (f2 : ∀ b ∈ fp, FpOk X pins H2 b) (q : tLoop cp tt te σ J s2.heap.objs.size Q H2)
    (hR : ∀ (C : Addr) (H' : Hp) (s' : Shared), (∃ m, s'.heap.Ns C m) → X.s₀.heap.objs.size ≤ C → H' C = none → C ≠ X.env.locals → (∀ x c, X.env.cells.lookup x = some c → c ≠ C) → (∀ p ∈ X.pn ++ pins, p.1 ≠ C) → (∀ h'', Heap.SameBut C s'.heap h'' → Inv X pins σ H' { s' with heap := h'' }) → Q (.ref s2.heap.objs.size) H' → R C (.ok .next) s') :
    wpAny (model X.prog X.w) X.A (newList []) (fun acc s₃ => wpAny (model X.prog X.w) X.A (newFunctionEnv scope X.env.globals cl [] X.env.qual none .none (some X.env)) (fun cenv s₄ =>
      acc = .ref s2.heap.objs.size ∧ codeAny (model X.prog X.w) X.A (.compStart (.ListComp elt [⟨.Name x px, iter, ifs, 0⟩] scope pos) 0 (.ref it) acc { cenv with scope := relabel scope X.env }) (R cenv.locals) s₄) E s₃) E s2 := by
  obtain ⟨W, ⟨m0, w0⟩, turn⟩ := q
  refine wpAny_newObj_type ?_
  have I3 : Inv X pins σ (upd H2 s2.heap.objs.size (.lst [])) { s2 with heap := s2.heap.push { cls := .type "list", dict := none, data := .seq ([] : List Value).toArray } } :=
    I2.lnew (t' := s2.toks) (ys := []) (its := []) .nil (Nat.zero_le _)
  have fpo : ∀ b ∈ fp, b < s2.heap.objs.size := fun b hb => by
    obtain ⟨o, e, _⟩ := T.obj _ _ st2 b hb
    exact Heap.lt_size e
  have f3 : ∀ b ∈ fp, FpOk X pins (upd H2 s2.heap.objs.size (.lst [])) b := fun b hb => ⟨by rw [upd_ne (Nat.ne_of_lt (fpo b hb))]; exact (f2 b hb).1, (f2 b hb).2⟩
  generalize hs3 : ({ s2 with heap := s2.heap.push { cls := .type "list", dict := none, data := .seq ([] : List Value).toArray } } : Shared) = s3 at I3
  have e3 : s3.heap = s2.heap.push { cls := .type "list", dict := none, data := .seq ([] : List Value).toArray } := by rw [← hs3]
  have sz3 : s2.heap.objs.size < s3.heap.objs.size := by rw [e3, Heap.size_push]; exact Nat.lt_succ_self _
  refine wpAny_newFunctionEnv c.nocell (by intro y hy; cases hy) (fun h₁ hns sb => ?_) c.kind
  have J3 := inv_comp (x := x) (tk := s3.toks + ([] : List (Str × Value)).length) I3 c f3 (fun b hb => Nat.lt_trans (fpo b hb) sz3) hns sb
  refine ⟨rfl, ?_⟩
  have st3 : tn 0 h₁ := T.keep _ _ _ st2 fun b hb o e => (sb.2 b (Nat.ne_of_lt (Nat.lt_trans (fpo b hb) sz3))).trans (Heap.get?_push_of_some _ (by rw [e3]; exact Heap.get?_push_of_some _ e))
  generalize hX : cxComp X scope cl s3.heap.objs.size (x :: cp.map (·.2)) fp pins s3 (upd H2 s2.heap.objs.size (.lst [])) = X' at J3
  have eA : X'.A = X.A := by rw [← hX]; rfl
  have eP : X'.prog = X.prog := by rw [← hX]; rfl
  have ew : X'.w = X.w := by rw [← hX]; rfl
  have eK : X'.K = X.K := by rw [← hX]; rfl
  have ec : X'.calm = true := by rw [← hX]; exact hcalm
  have ee : X'.env = compEnvC scope cl s3.heap.objs.size X.env := by rw [← hX]; rfl
  have ex : X'.xe = fun _ _ => False := by rw [← hX]; rfl
  have fpX : ∀ {H' : Hp}, (∀ b ∈ fp, H' b = none) → ∀ b ∈ fp, FpOk X' [] H' b := fun hn b hb => by
    obtain ⟨f0, f1, f2', f3', f4, f5⟩ := f3 b hb
    subst hX
    refine ⟨hn b hb, Nat.ne_of_lt (Nat.lt_trans (fpo b hb) sz3), fun hz => ?_, .inl hb, fun y k e => f4 y k (c.sub y k e), fun p hp => ?_⟩
    · rcases List.mem_cons.mp (I3.stkSub b hz) with e | e
      · exact f1 e
      · exact f2' e
    · rcases List.mem_append.mp hp with z | z
      · exact f5 p z
      · cases z
  have pT := ht s3.heap.objs.size fp pins s3 (upd H2 s2.heap.objs.size (.lst []))
  have pE := he s3.heap.objs.size fp pins s3 (upd H2 s2.heap.objs.size (.lst []))
  have pG : PG X' (.Name x px) (gName 0) := by
    subst hX
    exact pg_name hnd rfl (.inl (lookup_relabel_local hx)) (.inr (lookup_relabel_local hx))
  rw [hX] at pT pE
  have loop : codeAny (model X.prog X.w) X.A (.compLoop (.ListComp elt [⟨.Name x px, iter, ifs, 0⟩] scope pos) 0 (.ref it) (.ref s2.heap.objs.size) (compEnvC scope cl s3.heap.objs.size X.env)) (R s3.heap.objs.size) { s3 with heap := h₁, toks := s3.toks + ([] : List (Str × Value)).length } := by
    refine compLoop_own (fun n s' => ∃ i o H', Inv X' [] (o :: capσ cp σ) H' s' ∧ tn i s'.heap ∧ (∀ b ∈ fp, H' b = none) ∧ W i n H') ?_ m0 ⟨0, none, _, J3, st3, fun b hb => (f3 b hb).1, w0⟩
    rintro n s5 ⟨i, o, H5, J5, st5, fr5, w5⟩
    rcases turn i n H5 w5 with ⟨stop, qn⟩ | ⟨go, N, N', hN, hN', step⟩
    · have z := T.done X' eP ew eK ec i [] s5 _ H5 (fun _ _ => False) J5 (fpX fr5) st5 stop
      rw [eA] at z
      refine thn z fun r s6 ⟨hr, J6⟩ => ?_
      subst hr
      subst hX
      obtain ⟨m6, hn6, _⟩ := J6.loc
      refine hR s3.heap.objs.size H5 s6 ⟨m6, hn6⟩ I3.sz J6.free (Nat.ne_of_gt I3.lt) (fun y k e z => ?_) (fun p hp z => ?_) (fun h'' sb' => I3.uncomp rfl f3 J6 sb') qn
      · obtain ⟨v, w'⟩ := I3.cell y k e
        exact absurd w'.lt (by rw [z]; exact Nat.lt_irrefl _)
      · exact absurd (Heap.lt_size (I3.pin p hp).1) (by rw [z]; exact Nat.lt_irrefl _)
    · have z := T.item X' eP ew eK ec i [] s5 _ H5 (fun _ _ => False) J5 (fpX fr5) st5 go
      rw [eA] at z
      refine thn z fun r s6 ⟨u, hr, h6⟩ => ?_
      subst hr
      refine thn h6 fun _ s7 ⟨v, H7, J7, r7, y7, st7, fr7⟩ => ?_
      have J7' := J7.pinned (fpX fr7) (T.obj _ _ st7)
      have z8 := pG _ s7 _ H7 v u (fun σ' H' => σ' = some v :: capσ cp σ ∧ H' = H7) J7' r7 ⟨rfl, rfl⟩
      rw [eA, eP, ew, ee, ex] at z8
      refine thn z8 fun _ s8 ⟨σ8, H8, J8, e8, e8'⟩ => ?_
      subst e8 e8'
      have z9 := pT _ s8 _ H8 _ J8 (step v H8 y7)
      rw [eA, eP, ew, ee, ex] at z9
      refine thn z9 fun ok s9 ⟨H9, J9, q9⟩ => ?_
      have fin : ∀ {H' : Hp} {s' : Shared}, Inv X' ([] ++ pinsAt fp s7.heap) (some v :: capσ cp σ) H' s' → (∃ m', m' < n ∧ W (i + 1) m' H') → ∃ m, m < n ∧ ∃ i o H', Inv X' [] (o :: capσ cp σ) H' s' ∧ tn i s'.heap ∧ (∀ b ∈ fp, H' b = none) ∧ W i m H' := fun {H' s'} K' ⟨m', hm, w'⟩ => by
        refine ⟨m', hm, i + 1, some v, H', K'.unpinned, T.keep _ _ _ st7 fun b hb ob e => (K'.pin (b, ob) (List.mem_append_right _ (List.mem_append_right _ (mem_pinsAt hb e)))).1, fun b hb => ?_, w'⟩
        obtain ⟨ob, e, d⟩ := T.obj _ _ st7 b hb
        exact (K'.pin (b, ob) (List.mem_append_right _ (List.mem_append_right _ (mem_pinsAt hb e)))).2.1
      cases ok with
      | false =>
        rw [if_neg Bool.false_ne_true] at q9 ⊢
        exact fin J9 (hN' _ q9)
      | true =>
        rw [if_pos rfl] at q9 ⊢
        have z10 := pE _ s9 _ H9 _ J9 q9
        rw [eA, eP, ew, ee, ex] at z10
        refine thn z10 fun u10 s10 ⟨y, H10, J10, r10, n10⟩ => ?_
        obtain ⟨ys, m', hD, hz, hm, w'⟩ := hN y H10 n10
        have z11 := mt_append (X := X') _ s10 _ H10 (.ref s2.heap.objs.size) [y] (.ref s2.heap.objs.size) [u10] (fun _ H' => H' = upd H10 s2.heap.objs.size (.lst (ys ++ [y]))) J10 rfl (.cons r10 .nil) ⟨_, ys, y, rfl, rfl, hD, hz, rfl⟩
        rw [eA, eP, ew, ex] at z11
        refine thn z11 fun u11 s11 ⟨y', H11, J11, r11, e11⟩ => ?_
        subst e11
        exact fin J11 ⟨m', hm, w'⟩
  exact codeAny_compStart_list loop (T.self _ 0 _ _ _ st3 loop)
theorem pe_comp (c : Caps X scope cl cp) (hcalm : X.calm = true) (hx : scope.names.lookup x = some .local) (hnd : (x :: cp.map (·.2)).Nodup) (hi : PI X (.Name x px) iter wi)
    (ht : ∀ C fp pins s H, PTs (cxComp X scope cl C (x :: cp.map (·.2)) fp pins s H) ifs tt) (he : ∀ C fp pins s H, PE (cxComp X scope cl C (x :: cp.map (·.2)) fp pins s H) elt te)
    (hs : ∀ v, foldedSetIterable iter X.env v = pure v := by intro _; rfl) : PE X (.ListComp elt [⟨.Name x px, iter, ifs, 0⟩] scope pos) (tComp cp wi tt te) := by
  intro pins s σ H Q I h
  rw [eval_ListComp]
  refine wpAny_comprehension_free (use := none) (g := ⟨.Name x px, iter, ifs, 0⟩) (gs := []) (cl := cl) rfl hs c.clos c.kind c.names ?_
  refine thn (hi pins s σ H _ I h) fun v s1 h1 => thn h1 fun itv s2 h2 => ?_
  obtain ⟨it, fp, tn, J, H2, e, I2, T, st2, f2, q⟩ := h2
  subst e
  refine thn (comp_core (iter := iter) (pos := pos) (R := fun C => compPost (model X.prog X.w) X.A X.xe none (EP X pins σ Q) (.ref s2.heap.objs.size) C) c hcalm hx hnd ht he I2 T st2 f2 (q _ (I2.hok.fresh (Nat.le_refl _))) ?_) fun acc s3 h3 => thn h3 fun cenv s4 h4 => ?_
  · rintro C H' s' ⟨m, hn⟩ _ _ _ _ _ hI hq
    exact ⟨m, hn, fun h'' sb => ⟨.ref s2.heap.objs.size, H', hI h'' sb, rfl, hq⟩⟩
  · obtain ⟨e, h4⟩ := h4
    subst e
    exact h4
end
end L2

namespace L2
open PySem PySem.Spec PyProof.Rows

section
variable {X : Cx} {scope : Scope} {cl : List (Str × Addr)} {cp : List (Nat × Str)} {x : Str} {px pos : Pos} {elt iter : Expr} {ifs : List Expr} {wi : TI} {tt : TT} {te : TE}
/-- y = [.. for ..]: the store comes ahead of the letting go -/
theorem ps_setComp {i : Nat} {y : Str} {py : Pos} {pos' : Pos} (hN : X.N.Nodup) (hi' : X.N[i]? = some y) (hy : X.env.scope.names.lookup y = some .local) (c : Caps X scope cl cp) (hcalm : X.calm = true) (hx : scope.names.lookup x = some .local) (hnd : (x :: cp.map (·.2)).Nodup) (hi : PI X (.Name x px) iter wi)
    (ht : ∀ C fp pins s H, PTs (cxComp X scope cl C (x :: cp.map (·.2)) fp pins s H) ifs tt) (he : ∀ C fp pins s H, PE (cxComp X scope cl C (x :: cp.map (·.2)) fp pins s H) elt te)
    (hsw : swapsWith (.ListComp elt [⟨.Name x px, iter, ifs, 0⟩] scope pos) (some (.Name y py)) pos'.line X.env = pure true)
    (hs : ∀ v, foldedSetIterable iter X.env v = pure v := by intro _; rfl) : PS X (.Assign [.Name y py] (.ListComp elt [⟨.Name x px, iter, ifs, 0⟩] scope pos) pos') (tAsg (tComp cp wi tt te) (gName i)) := by
  intro pins s σ H D I h
  rw [exec_Assign_Name_used _ _ _ _ hsw]
  refine wpAny_bind (wpAny_standAt (wpAny_bind (wpAny_bind ?_)))
  refine wpAny_comprehension_free (use := some (assign (.Name y py) X.env)) (g := ⟨.Name x px, iter, ifs, 0⟩) (gs := []) (cl := cl) rfl hs c.clos c.kind c.names ?_
  refine thn (hi pins s σ H _ I h) fun v s1 h1 => thn h1 fun itv s2 h2 => ?_
  obtain ⟨it, fp, tn, J, H2, e, I2, T, st2, f2, q⟩ := h2
  subst e
  refine thn (comp_core (iter := iter) (pos := pos) (R := fun C => compPost (model X.prog X.w) X.A X.xe (some (assign (.Name y py) X.env)) (fun _ s' => wpAny (model X.prog X.w) X.A (pure ()) (fun _ s' => wpAny (model X.prog X.w) X.A (pure Flow.next) (SP X pins D) X.xe s') X.xe s') (.ref s2.heap.objs.size) C) c hcalm hx hnd ht he I2 T st2 f2 (q _ (I2.hok.fresh (Nat.le_refl _))) ?_) fun acc s3 h3 => thn h3 fun cenv s4 h4 => ?_
  · rintro C H' s' ⟨m, hn⟩ hC0 hCn hCL hCc hCp hI hq
    have I' : Inv X pins σ H' s' := hI s'.heap (Heap.SameBut.refl ..)
    refine wpAny_assign_Name (store_ok2 (v := .ref s2.heap.objs.size) I' hN hi' (.inl hy) rfl (fun s'' I'' hb => ?_) (.inr hy))
    obtain ⟨a, sb, ha⟩ := hb
    have hne : C ≠ a := by
      rcases ha with z | z
      · rw [z]; exact hCL
      · exact fun e => hCc y a z e.symm
    refine ⟨m, hn.sameBut sb hne, fun h'' sb'' => wpAny_pure (wpAny_pure ⟨_, H', ?_, hq⟩)⟩
    exact I''.turned (t' := s''.toks) (fun b o hb e => (sb''.2 b hb).trans e) hCn hCL (.inr hC0) hCc hCp
  · obtain ⟨e, h4⟩ := h4
    subst e
    exact h4
end

/-! ### all, join -/
theorem bools_of : ∀ {bs : List Bool} {us : List Value}, Vals (bs.map V.bl) us → ∀ (i : Nat) (v : Value), us[i]? = some v → ∃ b : Bool, bs[i]? = some b ∧ v = Value.bool b
  | [], _, .nil, i, v, h => by simp at h
  | b :: bs, u :: us, .cons r t, 0, v, h => by
    simp at h
    subst h
    cases r
    exact ⟨b, rfl, rfl⟩
  | b :: bs, u :: us, .cons r t, i + 1, v, h => by
    obtain ⟨b', e1, e2⟩ := bools_of t i v (by simpa using h)
    exact ⟨b', by simpa using e1, e2⟩
theorem strs_of : ∀ {ys : List Str} {us : List Value}, Vals (ys.map V.str) us → StrsAre us ys
  | [], _, .nil => .nil
  | y :: ys, u :: us, .cons r t => by
    obtain ⟨k, rfl⟩ := r
    exact .cons y k (strs_of t)
section
variable {X : Cx}
theorem call_all (hc : X.calm = true) : CallR X (.builtin "all") (fun xs H Q => ∃ (a : Addr) (bs : List Bool), xs = [.ref a] ∧ SqL X.K H a (bs.map V.bl) ∧ Q (.bl (bs.all id)) H) := by
  intro pins s σ H xs us Q I r h
  obtain ⟨a, bs, rfl, hq, q⟩ := h
  obtain ⟨u, rfl, ru⟩ := r.one
  cases ru
  obtain ⟨its, rv, pl, hz⟩ := I.list hq
  have hl : s.heap.IsList a its.toArray := pl.isList
  have hlt : a < s.heap.objs.size := by obtain ⟨_, e, _⟩ := hl; exact Heap.lt_size e
  refine call_all_walk (wpAny_pyIter_list hl ?_)
  refine ⟨s.heap.objs.size, [s.heap.objs.size, a], [s.heap.objs.size], its.toArray.size, _, _, fun i => (bs[i]?).getD true, rfl, Walks.list (A := X.A.in1) (I.ok.hd hc) _ a (Nat.ne_of_lt hlt) its.toArray,
    ⟨⟨_, Heap.get?_push_size _ rfl, rfl, rfl⟩, hl.push _⟩, fun i v s' Q' E' hP hQ => ?_, fun h' tk hk => ?_⟩
  · obtain ⟨b, e, rfl⟩ := bools_of rv i v (by simpa using hP)
    simp only [e, Option.getD_some] at hQ
    exact wpAny_truthy_bool hQ
  · have e : ((List.range its.toArray.size).all fun i => (bs[i]?).getD true) = bs.all id := by
      have := rv.length
      rw [List.length_map] at this
      rw [List.size_toArray, ← this]
      exact PyProof.Rows.LSm.range_all bs
    rw [e]
    refine ⟨.bl _, H, I.kept (t' := tk) fun b o e' => hk b o (fun hm => ?_) (Heap.get?_push_of_some _ e'), rfl, q⟩
    rw [List.mem_singleton.mp hm] at e'
    exact Nat.lt_irrefl _ (Heap.lt_size e')
def rJoin (K : PySem.W.Frag) : V → List V → Hp → VK → Prop := fun x vs H Q => ∃ (z : Str) (a : Addr) (ys : List Str), x = .str z ∧ vs = [.ref a] ∧ SqL K H a (ys.map V.str) ∧ (ys.map (·.length)).sum + ys.length * z.length ≤ 16777216 ∧ Q (.str (Txt.join z ys)) H
theorem mt_join : MtR X "str.join" (rJoin X.K) := by
  intro pins s σ H x vs v us Q I rx rv h
  obtain ⟨z, a, ys, rfl, rfl, hq, hz, q⟩ := h
  obtain ⟨t, rfl⟩ := rx
  obtain ⟨u, rfl, ru⟩ := rv.one
  cases ru
  obtain ⟨its, r, pl, _⟩ := I.list hq
  exact join_list pl.isList (by simpa using strs_of r) hz fun t' k => ⟨.str _, H, I.tok k, ⟨_, rfl⟩, q⟩
end

/-! ### a def that is known: its promise and how it is called -/
structure Known (P : Program) (w : World) (K : PySem.W.Frag) (mg : Str → Option Value) (base : Heap) (CX : CXT) (k : Nat) (x : Str) (ps : List Str) (sp : Sp) : Prop where
  ex : ∃ f fd, FnOk P w K mg base CX k f fd ps sp ∧ mg x = some (.ref f) ∧ PySem.W.keepIn K (.ref f) = true ∧ Binds K fd ps []
section
variable {X : Cx} {CX : CXT} {k : Nat} {ps : List Str} {sp : Sp} {E : XK} {x : Str} {p pos : Pos} {e : Expr} {es : List Expr} {t : TA}
theorem pe_callN (G : Known X.prog X.w X.K X.mg X.base CX k x ps sp) (hr : Room k X.A) (hx : Passes CX X E) (ha : PA X (e :: es) t) (hg : Gl X x := by rfl) (hdb : (x == ("__debug__" : Str)) = false := by decide)
    (he : starEach (e :: es) X.env = (false, eval e X.env) :: starEach es X.env := by rfl) (hpl : (backTo pos (starEach es X.env)).any (·.1) = false := by rfl) : PE X (.Call (.Name x p) (e :: es) [] pos) (tCall sp [] E t) := by
  obtain ⟨f, fd, F, hm, hk, hb⟩ := G.ex
  exact pe_call F hr hg hm hk hb .nil hx ha hdb he hpl
end
theorem Known.mono {P : Program} {w : World} {K : PySem.W.Frag} {mg : Str → Option Value} {base : Heap} {CX : CXT} {j k : Nat} {x : Str} {ps : List Str} {sp : Sp} (G : Known P w K mg base CX j x ps sp) (h : j ≤ k) : Known P w K mg base CX k x ps sp := by
  obtain ⟨f, fd, F, hm, hk, hb⟩ := G.ex
  exact ⟨f, fd, F.mono h, hm, hk, hb⟩
/-! ### the forms of a comprehension that one uses: Pv by the turn, the list so far, the heap (in which it stands at D) -/
def Nxt (D : Addr) (Pv : Nat → List V → Hp → Prop) (i : Nat) (ys : List V) : VK := fun y H5 => H5 D = some (.lst ys) ∧ ys.length < sizeLine ∧ Pv (i + 1) (ys ++ [y]) (upd H5 D (.lst (ys ++ [y])))
theorem comp_it {cp : List (Nat × Str)} {te : TE} {σ : St} {J : It} {n : Nat} {D : Addr} {Q : VK} {H1 : Hp} (Pv : Nat → List V → Hp → Prop) (h0 : Pv 0 [] (upd H1 D (.lst []))) 
    (hg : ∀ i ys H, H D = some (.lst ys) → Pv i ys H → (i < n → J.go i H) ∧ (i = n → J.stop i H))
    (hs : ∀ i ys H v H', i < n → H D = some (.lst ys) → Pv i ys H → J.yld i H v H' → te (some v :: capσ cp σ) H' (Nxt D Pv i ys))
    (hd : ∀ ys H, H D = some (.lst ys) → Pv n ys H → Q (.ref D) H) : tLoop cp tYes te σ J D Q H1 := by
  refine ⟨fun i m H => m = n - i ∧ i ≤ n ∧ ∃ ys, H D = some (.lst ys) ∧ Pv i ys H, ⟨n, by simp, Nat.zero_le _, [], upd_same, h0⟩, ?_⟩
  rintro i m H ⟨rfl, hi, ys, hD, p⟩
  by_cases hlt : i < n
  · refine .inr ⟨(hg i ys H hD p).1 hlt, Nxt D Pv i ys, fun _ => False, fun y H5 ⟨h1, h2, h3⟩ => ⟨ys, n - (i + 1), h1, h2, by omega, rfl, hlt, _, upd_same, h3⟩, fun _ z => z.elim, fun v H' y => ?_⟩
    exact hs i ys H v H' hlt hD p y
  · have e : i = n := by omega
    subst e
    exact .inl ⟨(hg i ys H hD p).2 rfl, hd ys H hD p⟩
theorem comp_str {cp : List (Nat × Str)} {te : TE} {σ : St} {x : Str} {D : Addr} {Q : VK} {H1 : Hp} (Pv : Nat → List V → Hp → Prop) (h0 : Pv 0 [] (upd H1 D (.lst [])))
    (hs : ∀ i c ys H, x.cps[i]? = some c → H D = some (.lst ys) → Pv i ys H → te (some (.str ⟨#[c]⟩) :: capσ cp σ) H (Nxt D Pv i ys))
    (hd : ∀ ys H, H D = some (.lst ys) → Pv x.cps.size ys H → Q (.ref D) H) : tLoop cp tYes te σ (Its x) D Q H1 :=
  comp_it (n := x.cps.size) Pv h0 (fun i ys H _ _ => ⟨fun h => h, fun h => by subst h; exact Nat.le_refl _⟩) (fun i ys H v H' hi hD p y => by
    obtain ⟨e, c, hc, rfl⟩ := y
    subst e
    exact hs i c ys _ hc hD p) hd
theorem comp_list {K : PySem.W.Frag} {cp : List (Nat × Str)} {te : TE} {σ : St} {a : Addr} {xs : List V} {D : Addr} {Q : VK} {H1 : Hp} (Pv : Nat → List V → Hp → Prop) (h0 : Pv 0 [] (upd H1 D (.lst [])))
    (hl : ∀ i ys H, H D = some (.lst ys) → Pv i ys H → SqL K H a xs)
    (hs : ∀ i x ys H, xs[i]? = some x → H D = some (.lst ys) → Pv i ys H → te (some x :: capσ cp σ) H (Nxt D Pv i ys))
    (hd : ∀ ys H, H D = some (.lst ys) → Pv xs.length ys H → Q (.ref D) H) : tLoop cp tYes te σ (Itl K a) D Q H1 :=
  comp_it (n := xs.length) Pv h0 (fun i ys H hD p => ⟨fun h => ⟨xs, xs[i], hl i ys H hD p, by simp [h]⟩, fun h => by subst h; exact ⟨xs, hl _ ys H hD p, Nat.le_refl _⟩⟩) (fun i ys H v H' hi hD p y => by
    obtain ⟨e, y⟩ := y
    subst e
    exact hs i v ys _ (y xs (hl i ys _ hD p)) hD p) hd
end L2

namespace L2
open PySem PySem.Spec PyProof.Rows

/-! ### the kinds of plain things, isinstance of them -/
inductive Kd where
  | non | bl | int | str | lst | tup | dct
  deriving DecidableEq
def Kd.nm : Kd → String
  | .non => "NoneType" | .bl => "bool" | .int => "int" | .str => "str" | .lst => "list" | .tup => "tuple" | .dct => "dict"
theorem kit_int (K : PySem.W.Frag) (a : Kd) : PySem.W.kitOne K (.type a.nm) (.type "int") = some (decide (a = .int ∨ a = .bl)) := by cases a <;> kernel_rfl
theorem kit_bool (K : PySem.W.Frag) (a : Kd) : PySem.W.kitOne K (.type a.nm) (.type "bool") = some (decide (a = .bl)) := by cases a <;> kernel_rfl
theorem kit_str (K : PySem.W.Frag) (a : Kd) : PySem.W.kitOne K (.type a.nm) (.type "str") = some (decide (a = .str)) := by cases a <;> kernel_rfl
theorem kit_list (K : PySem.W.Frag) (a : Kd) : PySem.W.kitOne K (.type a.nm) (.type "list") = some (decide (a = .lst)) := by cases a <;> kernel_rfl
theorem kit_tuple (K : PySem.W.Frag) (a : Kd) : PySem.W.kitOne K (.type a.nm) (.type "tuple") = some (decide (a = .tup)) := by cases a <;> kernel_rfl
def kdD : PyData → Kd
  | .none => .non | .bool _ => .bl | .int _ => .int | .str _ => .str | .list _ => .lst | .tuple _ => .tup | .dict _ => .dct
/-- isinstance(x, T), T a built-in type -/
theorem call_isT {X : Cx} : CallR X (.builtin "isinstance") (fun xs H Q => ∃ x T d k, xs = [x, .ty T] ∧ Dt X.K H x d ∧ PySem.W.kitOne X.K (.type (kdD d).nm) (.type T) = some k ∧ Q (.bl k) H) := by
  intro pins s σ H xs us Q I r h
  obtain ⟨x, T, d, k, rfl, hd, e, q⟩ := h
  obtain ⟨u, c, rfl, r1, r2⟩ := r.two
  cases r2
  have fin : ∀ tk, EP X pins σ Q (.bool k) { s with toks := tk } := fun tk => ⟨.bl k, H, I.tok tk, rfl, q⟩
  cases hd with
  | non => cases r1; exact PySem.W.kia_one PySem.W.kitx_none I.kIn True.intro e (fun z => nomatch z) fin
  | bl b => cases r1; exact PySem.W.kia_one PySem.W.kitx_bool I.kIn True.intro e (fun z => nomatch z) fin
  | int i => obtain ⟨t, rfl⟩ := r1; exact PySem.W.kia_one PySem.W.kitx_int I.kIn True.intro e (fun z => nomatch z) fin
  | str z => obtain ⟨t, rfl⟩ := r1; exact PySem.W.kia_one PySem.W.kitx_str I.kIn True.intro e (fun z => nomatch z) fin
  | lst hq _ =>
    cases r1
    obtain ⟨its, _, ⟨o, n, eo, hc, _, _⟩, _⟩ := I.list hq
    exact PySem.W.kia_one PySem.W.kitx_list I.kIn ⟨o, eo, hc⟩ e (fun z => nomatch z) fin
  | tup hq _ =>
    cases r1
    obtain ⟨its, _, ⟨o, eo, hc, _⟩, _⟩ := I.tuple hq
    exact PySem.W.kia_one PySem.W.kitx_tuple I.kIn ⟨o, eo, hc⟩ e (fun z => nomatch z) fin
  | dK ea =>
    cases r1
    obtain ⟨_, _, vs, _, o, es, ep, h1, h2, _⟩ := I.hok _ _ ea
    exact PySem.W.kia_one PySem.W.kitx_dict I.kIn ⟨o, h1, h2.1⟩ e (fun z => nomatch z) fin
  | dT ea =>
    cases r1
    obtain ⟨_, _, zs, _, o, es, ep, h1, h2, _⟩ := I.hok _ _ ea
    exact PySem.W.kia_one PySem.W.kitx_dict I.kIn ⟨o, h1, h2.1⟩ e (fun z => nomatch z) fin

/-! ### no cell is caught -/
theorem caps0 {X : Cx} {scope : Scope} (kind : scope.kind = .function := by rfl) (plain : ∀ y ∈ scope.names, y.2 = .local ∨ y.2 = .globalImplicit := by decide) (names : ∀ y ∈ scope.names, y.2 = .local → scope.names.lookup y.1 = some .local := by decide +kernel) : Caps X scope [] [] where
  kind := kind
  nocell := fun y hy z => by rcases plain y hy with h | h <;> rw [h] at z <;> cases z
  names := names
  clos := closureFor_none fun y hy z => by rcases plain y hy with h | h <;> rw [h] at z <;> cases z
  sub := fun x c e => by cases e
  has := fun x h => by
    have hm : ∀ (k : NameKind), (relabel scope X.env).names.lookup x = some k → k = .local ∨ k = .globalImplicit := fun k e => by
      have m := PySem.mem_of_lookup e
      unfold relabel at m
      obtain ⟨⟨n, k'⟩, hy, e'⟩ := List.mem_map.mp m
      have q := plain _ hy
      have nf : (k' == NameKind.free) = false := by rcases q with h | h <;> (have h' : k' = _ := h; subst h'; rfl)
      simp only [nf, Bool.false_and, Bool.false_eq_true, if_false] at e'
      have : k' = k := congrArg (·.2) e'
      rw [← this]
      exact q
    rcases h with h | h
    · rcases hm _ h with z | z <;> cases z
    · rcases hm _ h with z | z <;> cases z
  at' := fun p hp => by cases hp

/-! ### a def of the text -/
structure Def (K : PySem.W.Frag) (mg : Str → Option Value) (x : Str) (st : Stmt) : Prop where
  ex : ∃ f fd, Fun K x x st f fd ∧ mg x = some (.ref f)
section
variable {P : Program} {w : World} {K : PySem.W.Frag} {mg : Str → Option Value} {base : Heap}
theorem top_def {h : Heap} {x : Str} {st : Stmt} {f : Addr} {oc : Value} {od an : Option Addr} {osl : Array (Option Value)} {kV doc pm cdv ct : Value} (X : K.In h) (G : h.Ns mainGlobals mg) (a : PySem.W.nsIn K mainGlobals x = some (some (.ref f)))
    (l : K.lookup f = some ⟨oc, od, .func (PySem.W.fnOf x x (defArgs st) (defBody st) (defScope st) .none kV doc pm an cdv ct), osl⟩) (c : PySem.W.codeIn K cdv x = true) (k : PySem.W.keepIn K (.ref f) = true) : Def K mg x st :=
  ⟨f, _, fun_mk l c k, PySem.W.mg_of X G a⟩
theorem Def.known {x : Str} {st : Stmt} {N ps : List Str} {k : Nat} {sp : Sp} (D : Def K mg x st) (S : FnScope N ps (defScope st))
    (hb : ∀ (kV doc pm : Value) (an : Option Addr) (cdv ct : Value) (us : List Value), us.length = ps.length → bindArgs (PySem.W.fnOf x x (defArgs st) (defBody st) (defScope st) .none kV doc pm an cdv ct) ⟨us, []⟩ = pure (ps.zip us))
    (len : ∀ vs H Q E, sp vs H Q E → vs.length = ps.length)
    (hbody : ∀ (f : Addr) (cdv : Value) (A : Around) (outer : List Env) (s : Shared) (H : Hp) (vs : List V) (Q : VK) (E : XK), Room k (A.deeper (envOfC x (defScope st) s.heap.objs.size f cdv)) → sp vs H Q E →
      ∃ t, PSs (cxOf CX0 P w K mg base N x (defScope st) f cdv A outer s H E).nox (defBody st) t ∧ t { nx := fun _ H' => Q .non H', rt := Q } (start N vs) H) : Known P w K mg base CX0 (k + 1) x ps sp := by
  obtain ⟨f, fd, F, hm⟩ := D.ex
  exact ⟨f, fd, F.ok S len fun cdv A outer s H vs Q E hr h => hbody f cdv A outer s H vs Q E hr h, hm, F.kp, F.binds hb⟩
end

/-! ### heaps that grow -/
theorem Same.new {H : Hp} {D : Addr} {o : HO} (h : H D = none) : Same H (upd H D o) := fun b u e => by rw [upd_ne (ne_of_none e h)]; exact e
/-- a new thing is turned -/
theorem Same.on {H H2 : Hp} {D : Addr} {o : HO} (e : Same H H2) (h : H D = none) : Same H (upd H2 D o) := fun b u z => by rw [upd_ne (ne_of_none z h)]; exact e b u z

/-! ### a new list, a new tuple of data -/
/-! ### texts -/
theorem join0 : ∀ zs : List Str, (Str.join "" zs).cps.toList = zs.flatMap (·.cps.toList)
  | [] => by rfl
  | [x] => by simp [Str.join]
  | x :: y :: r => by
    have ih := join0 (y :: r)
    have e : Str.join "" (x :: y :: r) = x ++ ("" : Str) ++ Str.join "" (y :: r) := rfl
    have e2 : (x ++ ("" : Str) ++ Str.join "" (y :: r)).cps = x.cps ++ ("" : Str).cps ++ (Str.join "" (y :: r)).cps := rfl
    have e3 : ("" : Str).cps = #[] := by decide +kernel
    rw [e, e2, e3, Array.append_empty, Array.toList_append, ih]
    simp only [List.flatMap_cons]
abbrev one (c : Nat) : Str := ⟨#[c]⟩
theorem flat_ones : ∀ cs : List Nat, (cs.map one).flatMap (·.cps.toList) = cs
  | [] => rfl
  | c :: r => by
    rw [List.map_cons, List.flatMap_cons, flat_ones r]
    rfl
theorem join_ones (cs : List Nat) : Txt.join ("" : Str) (cs.map one) = ⟨cs.toArray⟩ := by
  have e : (Txt.join ("" : Str) (cs.map one)).cps.toList = cs := by
    show (Builtin.Str.glued ("" : Str) (cs.map one)).cps.toList = cs
    rw [StrLaws.glued_eq_join, join0, flat_ones]
  generalize Txt.join ("" : Str) (cs.map one) = z at e
  obtain ⟨⟨l⟩⟩ := z
  have e' : l = cs := e
  rw [e']
theorem sum_ones (cs : List Nat) : ((cs.map one).map (·.length)).sum = cs.length := by
  induction cs with
  | nil => rfl
  | cons c r ih =>
    rw [List.map_cons, List.map_cons, List.sum_cons, ih, List.length_cons]
    show 1 + r.length = r.length + 1
    omega
theorem join_room {cs : List Nat} (h : cs.length ≤ 1000) : ((cs.map one).map (·.length)).sum + (cs.map one).length * ("" : Str).length ≤ 16777216 := by
  have e : ("" : Str).length = 0 := by decide +kernel
  rw [sum_ones, e, Nat.mul_zero]
  omega
theorem at_some {α : Type} (xs : List α) (i : Int) (h0 : 0 ≤ i) (h : i < xs.length) : ∃ v, atI xs i = some v ∧ xs[i.toNat]? = some v := by
  have e : i = (i.toNat : Int) := by omega
  have hl : i.toNat < xs.length := by omega
  generalize i.toNat = j at e hl
  subst e
  exact ⟨_, atI_nat (List.getElem?_eq_getElem hl), List.getElem?_eq_getElem hl⟩
theorem DtAll.pick {K : PySem.W.Frag} {H : Hp} {xs : List V} {ds : List PyData} {i : Int} (all : DtAll K H xs ds) (h0 : 0 ≤ i) (h : i < ds.length) : ∃ v d, atI xs i = some v ∧ ds[i.toNat]? = some d ∧ Dt K H v d := by
  obtain ⟨v, hat, hv⟩ := at_some xs i h0 (by rw [all.length]; exact h)
  obtain ⟨d, hd, hdt⟩ := all.get hv
  exact ⟨v, d, hat, hd, hdt⟩
theorem at_map (ns : List Int) (i : Int) (h0 : 0 ≤ i) (h : i < ns.length) : atI (ns.map V.int) i = some (V.int (ns.getD i.toNat 0)) := by
  have e : i = (i.toNat : Int) := by omega
  have hl : i.toNat < ns.length := by omega
  generalize i.toNat = j at e hl
  subst e
  refine atI_nat ?_
  rw [List.getElem?_map, List.getElem?_eq_getElem hl]
  simp [List.getD, hl]

/-! ### data of texts and ints -/
theorem dt_strs {K : PySem.W.Frag} {H : Hp} : ∀ zs : List Str, DtAll K H (zs.map V.str) (zs.map PyData.str)
  | [] => .nil
  | z :: r => .cons (.str z) (dt_strs r)
theorem lay_text {cs : List Nat} (h : ∀ c ∈ cs, c < 128) : PyData.canLay0 (.str ⟨cs.toArray⟩) = true := by
  have : ∀ c ∈ cs, c < 1114112 := fun c hc => by have := h c hc; omega
  simp [PyData.canLay0, PyData.strOk]
  exact this

theorem sl {n : Nat} (h : n ≤ 1000 := by simp) : n ≤ sizeLine := Nat.le_of_lt (small1000 h)

/-! ### names of Python's own -/
theorem b_all : bootBuiltins "all" = some (.builtin "all") := by kernel_rfl
theorem b_isinstance : bootBuiltins "isinstance" = some (.builtin "isinstance") := by kernel_rfl
theorem b_abs : bootBuiltins "abs" = some (.builtin "abs") := by kernel_rfl
theorem b_len : bootBuiltins "len" = some (.builtin "len") := by kernel_rfl
theorem b_int : bootBuiltins "int" = some (.type "int") := by kernel_rfl
theorem b_bool : bootBuiltins "bool" = some (.type "bool") := by kernel_rfl
theorem b_str : bootBuiltins "str" = some (.type "str") := by kernel_rfl
theorem b_list : bootBuiltins "list" = some (.type "list") := by kernel_rfl
theorem b_tuple : bootBuiltins "tuple" = some (.type "tuple") := by kernel_rfl
end L2

namespace L2
open PySem PySem.Spec PyProof.Rows

/-! ### exceptions -/
/-- an exception that left a frame: its object at ea, its record at T -/
def Fly (h : Heap) (ea T : Addr) (C : Value) : Prop :=
  ∃ oe vs oT ts, h.get? ea = some oe ∧ oe.cls = C ∧ oe.dict = none ∧ oe.data = .fields vs ∧ vs[1]? = some (.ref T) ∧ T ≠ ea ∧ h.get? T = some oT ∧ oT.data = .fields ts ∧ ts[3]? = some .none
/-- what passing through the frames fs changes: the exception's own objects, the frames' slots -/
structure Flew (fs own : List Addr) (h h' : Heap) : Prop where
  keep : ∀ b o, b ∉ own → b ∉ fs → h.get? b = some o → h'.get? b = some o
  slot : ∀ b o, b ∉ own → h.get? b = some o → ∃ sl, h'.get? b = some { o with slots := sl }
theorem dict_mapFields (o : Obj) (g : Array Value → Array Value) : (o.mapFields g).dict = o.dict := by
  obtain ⟨c, d, dt, sl⟩ := o
  cases dt <;> rfl
section
variable {M : Model} {A : Around} {E : Value → Shared → Prop} {s : Shared} {base : Heap} {env : Env} {outer : List Env} {L ea T : Addr} {C : Value}
theorem entry_laid {oe : Obj} {vs : Array Value} {head : Value} {hadNext : Bool} {Q : Unit → Shared → Prop} (hfr : A.frames = some (env :: outer)) (hl : s.heap.FunFrames base (env :: outer)) (hf : env.frame = some L)
    (he : s.heap.get? ea = some oe) (hdn : oe.dict = none) (hd : oe.data = .fields vs) (hsz : 1 < vs.size)
    (k : ∀ h' T', s.heap.objs.size ≤ T' → Fly h' ea T' oe.cls → Flew (frs (env :: outer)) [ea] s.heap h' → Q () { s with heap := h' }) :
    wpAny M A (do let a ← frameOf env; let pl ← entryPlaceOf L hadNext; let b ← EntryCells.newEntry head a .none (rawInt L) .none pl; setField (.ref ea) 1 b) (fun _ s' => wpAny M A (setFlight (.ref ea) none) Q E s') E s := by
  have nfr : ea ∉ frs (env :: outer) := fun hm => by
    obtain ⟨_, o, ho, hnf⟩ := hl.mem hm
    rw [he] at ho
    cases ho
    exact hnf vs hd
  refine wpAny_bind (wpAny_frameOf_fun hfr hl hf fun g so => ?_)
  refine wpAny_bind (wpAny_entryPlaceOf fun pl hpl => ?_)
  unfold EntryCells.newEntry newFields
  refine wpAny_bind (wpAny_newObj_type ?_ (hpl.sizeOk5 _ _ _ _ _))
  have hts : 3 < ([head, .ref L, .none, rawInt L, .none] ++ (if pl.isEmpty then List.replicate 6 Value.none else pl)).toArray.size := by
    rw [List.size_toArray, List.length_append]
    exact Nat.lt_of_lt_of_le (by decide : 3 < 5) (Nat.le_add_right _ _)
  generalize ([head, .ref L, .none, rawInt L, .none] ++ (if pl.isEmpty then List.replicate 6 Value.none else pl)).toArray = ts at hts
  have g1 : g.get? ea = some oe := (so.2.1 ea nfr).trans he
  have gT : g.objs.size = s.heap.objs.size := so.1
  have neT : g.objs.size ≠ ea := Nat.ne_of_gt (Heap.lt_size g1)
  have g2 := Heap.get?_push_of_some (h := g) ({ cls := .type "traceback", dict := none, data := .fields ts } : Obj) g1
  refine wpAny_setField g2 hd hsz ?_
  have d3 := Obj.data_mapFields hd (·.setIfInBounds 1 (Value.ref g.objs.size))
  have g3 := Heap.get?_update_self (Obj.mapFields (·.setIfInBounds 1 (Value.ref g.objs.size))) g2 (Obj.isFreed_of_fields d3)
  have t3 : ((g.push ({ cls := .type "traceback", dict := none, data := .fields ts } : Obj)).update ea (Obj.mapFields (·.setIfInBounds 1 (Value.ref g.objs.size)))).get? g.objs.size = some { cls := .type "traceback", dict := none, data := .fields ts } :=
    (Heap.get?_update_other _ _ (Ne.symm neT)).trans (Heap.get?_push_size g rfl)
  unfold setFlight
  refine wpAny_bind (wpAny_field g3 d3 (x := .ref g.objs.size) (by simp [hsz]) ?_)
  rw [if_pos (show (Value.ref g.objs.size != Value.none) = true from by simp)]
  refine wpAny_setField t3 rfl hts ?_
  have d4 := Obj.data_mapFields (o := ({ cls := .type "traceback", dict := none, data := .fields ts } : Obj)) (vs := ts) rfl (·.setIfInBounds 3 ((none : Option Addr).elim Value.none fun f => rawInt f))
  refine k _ g.objs.size (by rw [gT]; exact Nat.le_refl _) ⟨_, _, _, _, (Heap.get?_update_other _ _ neT).trans g3, Obj.cls_mapFields _ _, (dict_mapFields _ _).trans hdn, d3, by simp [hsz], neT, Heap.get?_update_self _ t3 (Obj.isFreed_of_fields d4), d4, by simp [hts]⟩ ?_
  have up : ∀ b o, b ≠ ea → g.get? b = some o → (((g.push ({ cls := .type "traceback", dict := none, data := .fields ts } : Obj)).update ea (Obj.mapFields (·.setIfInBounds 1 (Value.ref g.objs.size)))).update g.objs.size (Obj.mapFields (·.setIfInBounds 3 ((none : Option Addr).elim Value.none fun f => rawInt f)))).get? b = some o := fun b o nb hb =>
    (Heap.get?_update_other _ _ (Nat.ne_of_gt (Heap.lt_size hb))).trans ((Heap.get?_update_other _ _ (Ne.symm nb)).trans (Heap.get?_push_of_some _ hb))
  refine ⟨fun b o nb nf hb => up b o (fun z => nb (by simp [z])) ((so.2.1 b nf).trans hb), fun b o nb hb => ?_⟩
  obtain ⟨sl, hs⟩ := so.2.2 b o hb
  exact ⟨sl, up b _ (fun z => nb (by simp [z])) hs⟩
/-- a new exception leaves its frame -/
theorem leave_new {oe : Obj} {vs : Array Value} {Q : Unit → Shared → Prop} (hfr : A.frames = some (env :: outer)) (hl : s.heap.FunFrames base (env :: outer)) (hf : env.frame = some L)
    (he : s.heap.get? ea = some oe) (hdn : oe.dict = none) (hd : oe.data = .fields vs) (h1 : vs[1]? = some .none)
    (k : ∀ h' T', s.heap.objs.size ≤ T' → Fly h' ea T' oe.cls → Flew (frs (env :: outer)) [ea] s.heap h' → Q () { s with heap := h' }) : wpAny M A (leaving env (.ref ea)) Q E s := by
  unfold leaving noteFrame
  simp only [hf]
  refine wpAny_bind (wpAny_bind (wpAny_field he hd h1 ?_))
  rw [if_neg (by decide)]
  exact entry_laid hfr hl hf he hdn hd (Array.getElem?_eq_some_iff.mp h1).1 k
/-- one that flies comes through the next frame -/
theorem note_fly {Q : Unit → Shared → Prop} (hfr : A.frames = some (env :: outer)) (hl : s.heap.FunFrames base (env :: outer)) (hf : env.frame = some L) (hx : Fly s.heap ea T C)
    (k : ∀ h' T', s.heap.objs.size ≤ T' → Fly h' ea T' C → Flew (frs (env :: outer)) [ea, T] s.heap h' → Q () { s with heap := h' }) :
    wpAny M A (noteFrame (.ref ea) env) (fun _ s' => wpAny M A (setFlight (.ref ea) none) Q E s') E s := by
  obtain ⟨oe, vs, oT, ts, he, hc, hdn, hd, h1, hTe, hT, hdT, h3⟩ := hx
  subst hc
  unfold noteFrame
  simp only [hf]
  refine wpAny_bind (wpAny_field he hd h1 ?_)
  rw [if_pos (show (Value.ref T != Value.none) = true from by simp)]
  refine wpAny_bind (wpAny_field hT hdT h3 ?_)
  rw [if_neg (show ¬ ((Value.none == rawInt L) = true) from by simp [rawInt])]
  refine wpAny_bind (wpAny_setField hT hdT (Array.getElem?_eq_some_iff.mp h3).1 ?_)
  have far : ∀ b, b ≠ T → (s.heap.update T (Obj.mapFields (·.setIfInBounds 3 Value.none))).get? b = s.heap.get? b := fun b nb => Heap.get?_update_other _ _ (Ne.symm nb)
  have nT : T ∉ frs (env :: outer) := fun hm => by
    obtain ⟨_, o, ho, hnf⟩ := hl.mem hm
    rw [hT] at ho
    cases ho
    exact hnf ts hdT
  have hl2 : (s.heap.update T (Obj.mapFields (·.setIfInBounds 3 Value.none))).FunFrames base (env :: outer) := hl.of_keeps fun b o hb hnf => ⟨o, (far b fun z => by
    rw [z, hT] at hb
    cases hb
    exact hnf ts hdT).trans hb, rfl⟩
  refine entry_laid (s := { s with heap := s.heap.update T (Obj.mapFields (·.setIfInBounds 3 Value.none)) }) hfr hl2 hf ((far ea (Ne.symm hTe)).trans he) hdn hd (Array.getElem?_eq_some_iff.mp h1).1 fun h' T' hT' hfly hflew => ?_
  refine k h' T' (by simpa using hT') hfly ⟨fun b o nb nf hb => hflew.keep b o (fun z => nb (by simp at z; simp [z])) nf ((far b fun z => nb (by simp [z])).trans hb), fun b o nb hb => hflew.slot b o (fun z => nb (by simp at z; simp [z])) ((far b fun z => nb (by simp [z])).trans hb)⟩
end
end L2

namespace L2
open PySem PySem.Spec PyProof.Rows

theorem ObjOk.there {P : Program} {w : World} {H : Hp} {h : Heap} {a : Addr} {o : HO} (x : ObjOk P w H h a o) : ∃ ob, h.get? a = some ob := by
  cases o with
  | lst xs => obtain ⟨_, _, _, _, e⟩ := x; exact ⟨_, e⟩
  | tup xs => obtain ⟨_, _, _, o, e, _⟩ := x; exact ⟨_, e⟩
  | dK kvs => obtain ⟨_, _, _, _, o, _, _, e, _⟩ := x; exact ⟨_, e⟩
  | dT kvs => obtain ⟨_, _, _, _, o, _, _, e, _⟩ := x; exact ⟨_, e⟩
  | set S n => obtain ⟨o, _, _, _, e, _⟩ := x; exact ⟨_, e⟩
  | ins C dx fs => obtain ⟨_, _, _, e, _⟩ := x; exact ⟨_, e⟩
  | own y => exact x
  | xd fs => obtain ⟨_, ⟨_, _, _, e, _⟩, _⟩ := x; exact ⟨_, e⟩
  | rng lo hi => obtain ⟨_, _, _, e⟩ := x; exact ⟨_, e⟩
  | frz ob u => obtain ⟨e, _⟩ := x; exact ⟨_, e⟩
  | tbl ps => exact ⟨_, x⟩
  | met f y => exact ⟨_, x⟩
  | ext φ => obtain ⟨_, e, _⟩ := x; exact e
/-- how an exception lies behind a call -/
def CXE (P : Program) (w : World) : CXT := fun outer H s E e s' => ∃ (ea T : Addr) (C : Value) (H' : Hp), e = .ref ea ∧ s'.os = s.os ∧ AllBare s'.gens ∧ Un (frs outer) [] H H' s.heap s'.heap ∧ HOk P w H' s'.heap ∧
  Fly s'.heap ea T C ∧ s.heap.get? ea = none ∧ s.heap.get? T = none ∧ H' ea = none ∧ H' T = none ∧ E C none H'
section
variable {P : Program} {w : World} {K : PySem.W.Frag} {mg : Str → Option Value} {base : Heap} {N : List Str} {qual : Str} {scope : Scope} {f : Addr} {cd : Value} {A : Around} {outer : List Env} {s : Shared} {H : Hp} {E : XK}
abbrev bodyCx (P : Program) (w : World) (K : PySem.W.Frag) (mg : Str → Option Value) (base : Heap) (N : List Str) (qual : Str) (scope : Scope) (f : Addr) (cd : Value) (A : Around) (outer : List Env) (s : Shared) (H : Hp) (E : XK) : Cx := cxOf (CXE P w) P w K mg base N qual scope f cd A outer s H E
/-- the frames but one's own, in a body -/
theorem Flew.un {fs own : List Addr} {H0 H2 : Hp} {h0 h2 h3 : Heap} {L : Addr} {os : List Addr} (u : Un os [] H0 H2 h0 h2) (fl : Flew fs own h2 h3) (hfs : ∀ b ∈ fs, b = L ∨ b ∈ os) (hL : h0.objs.size ≤ L) (hown : ∀ b ∈ own, h0.get? b = none) : Un os [] H0 H2 h0 h3 := by
  have no : ∀ b o, h0.get? b = some o → b ∉ own := fun b o e z => by rw [hown b z] at e; cases e
  have nL : ∀ b o, h0.get? b = some o → b ≠ L := fun b o e => Nat.ne_of_lt (Nat.lt_of_lt_of_le (Heap.lt_size e) hL)
  refine ⟨fun b o e n hb hx => fl.keep b o (no b o e) (fun z => (hfs b z).elim (nL b o e) hb) (u.keep b o e n hb hx), fun b o e n hb hx => ?_, u.free, fun b o e hx => ?_, u.tups, u.frzs, u.tbls⟩
  · obtain ⟨sl, e1⟩ := u.slot b o e n hb hx
    obtain ⟨sl', e2⟩ := fl.slot b _ (no b o e) e1
    exact ⟨sl', e2⟩
  · obtain ⟨o', e1⟩ := u.there b o e hx
    obtain ⟨sl', e2⟩ := fl.slot b _ (no b o e) e1
    exact ⟨_, e2⟩
theorem Flew.hok {fs own : List Addr} {H2 : Hp} {h2 h3 : Heap} (x : HOk P w H2 h2) (fl : Flew fs own h2 h3) (hfs : ∀ b ∈ fs, H2 b = none) (hown : ∀ b ∈ own, H2 b = none) : HOk P w H2 h3 := fun b o e =>
  (x b o e).stay (fun c u hc q => fl.keep c u (fun z => by
      rcases hc with rfl | hc
      · rw [hown _ z] at e; cases e
      · rw [hown _ z] at hc; cases hc) (fun z => by
      rcases hc with rfl | hc
      · rw [hfs _ z] at e; cases e
      · rw [hfs _ z] at hc; cases hc) q) (fun _ q => q) fun _ _ q => q
theorem cxe_of {pins : List (Addr × Obj)} {σ : St} {H2 : Hp} {s2 : Shared} {h3 : Heap} {own : List Addr} {ea T3 : Addr} {C : Value} (I2 : Inv (bodyCx P w K mg base N qual scope f cd A outer s H E) pins σ H2 s2) (fly : Fly h3 ea T3 C)
    (fl : Flew (frs ((bodyCx P w K mg base N qual scope f cd A outer s H E).env :: outer)) own s2.heap h3) (hown : ∀ b ∈ own, s.heap.get? b = none ∧ H2 b = none) (hea : s.heap.get? ea = none ∧ H2 ea = none) (hT : s2.heap.objs.size ≤ T3) (q : E C none H2) :
    CXE P w outer H s E (.ref ea) { s2 with heap := h3 } := by
  have B : Un (frs outer) [] H H2 s.heap s2.heap := I2.base
  have hfs : ∀ b ∈ frs ((bodyCx P w K mg base N qual scope f cd A outer s H E).env :: outer), b = (bodyCx P w K mg base N qual scope f cd A outer s H E).env.locals ∨ b ∈ frs outer := fun b hb => List.mem_cons.mp (I2.stkSub b hb)
  refine ⟨ea, T3, C, H2, rfl, I2.os, I2.bare, fl.un B hfs (Nat.le_refl _) (fun b hb => (hown b hb).1), fl.hok I2.hok (fun b hb => I2.stkFree b hb) (fun b hb => (hown b hb).2), fly, hea.1, ?_, hea.2, I2.hok.fresh hT, q⟩
  exact Heap.get?_none_of_le (Nat.le_trans I2.sz hT)
/-- a callee's exception goes on -/
theorem passE : Passes (CXE P w) (bodyCx P w K mg base N qual scope f cd A outer s H E) E := by
  intro pins σ H1 s1 e s2 I hq
  obtain ⟨ea, T, C, H2, rfl, os, bare, un, hok, fly, n1, n2, f1, f2, q⟩ := hq
  have I2 : Inv (bodyCx P w K mg base N qual scope f cd A outer s H E) pins σ H2 s2 := I.call' os un hok bare (fun b z => absurd z (by simp))
  have old : ∀ b, s1.heap.get? b = none → s.heap.get? b = none := fun b e => by
    cases z : s.heap.get? b with
    | none => rfl
    | some o =>
      obtain ⟨o', e'⟩ := I.base.there b o z (by intro hz; cases hz)
      rw [e] at e'
      cases e'
  show wpAny (model P w) (bodyCx P w K mg base N qual scope f cd A outer s H E).A (leaving (bodyCx P w K mg base N qual scope f cd A outer s H E).env (.ref ea)) _ _ s2
  unfold leaving
  refine wpAny_bind (note_fly (base := base) I.ok.frames I2.stack rfl fly fun h3 T3 hT3 fly3 flew => ?_)
  refine cxe_of I2 fly3 flew (fun b hb => ?_) ⟨old ea n1, f1⟩ hT3 q
  simp only [List.mem_cons, List.not_mem_nil, or_false] at hb
  rcases hb with rfl | rfl
  · exact ⟨old _ n1, f1⟩
  · exact ⟨old _ n2, f2⟩
end

/-! ### raise C(..), C an own class below ValueError -/
abbrev mroV : List Value := [.type "ValueError", .type "Exception", .type "BaseException", .type "object"]
theorem ownCls_of {K : PySem.W.Frag} {h : Heap} {mg : Str → Option Value} {x : Str} {C : Addr} {bmB : List Value} {newId : String} (X : K.In h) (hm : mg x = some (.ref C)) (q : PySem.W.excIn K C bmB newId = true) : OwnCls x C bmB newId mg h := by
  refine ⟨hm, ?_⟩
  unfold PySem.W.excIn at q
  split at q
  · rename_i dd cdt sl ho
    split at q
    · rename_i C' bm k0 k1 k2 k3 n k5 hmr hs
      simp only [Bool.and_eq_true, beq_iff_eq, Bool.not_eq_true'] at q
      obtain ⟨⟨⟨⟨⟨q1, q2⟩, q3⟩, q4⟩, q5⟩, q6⟩ := q
      subst q1 q2
      obtain ⟨nm, bs, mro, ns, qn, hd, sn, sub, ab, col, del⟩ := cdt
      obtain ⟨l⟩ := sl
      dsimp only at hmr hs q3 q5 q6
      subst hmr hs q3
      exact ⟨bm, ns, nm, qn, bs, hd, sn, sub, ab, col, dd, k0, k1, k2, k3, k5, _, X _ _ ho, .of_isNs (PySem.W.isNs_of_in X q5), PySem.W.nsMap_none_of_in X q5 q6, PySem.W.tail_of_in X q4⟩
    · cases q
  · cases q
section
variable {P : Program} {w : World} {K : PySem.W.Frag} {mg : Str → Option Value} {base : Heap} {N : List Str} {qual : Str} {scope : Scope} {f : Addr} {cd : Value} {A : Around} {outer : List Env} {s : Shared} {H : Hp} {E : XK}
def tRaise (E : XK) (C : Addr) (ta : TA) : TS := fun _ σ H => ta σ H fun vs H1 => vs.length ≤ sizeLine ∧ E (.ref C) none H1
theorem ps_raise {x : Str} {np cpos pos : Pos} {C : Addr} {e : Expr} {es : List Expr} {ta : TA} (hm : mg x = some (.ref C)) (hq : PySem.W.excIn K C mroV "ValueError.__new__" = true) (ha : PA (bodyCx P w K mg base N qual scope f cd A outer s H E) (e :: es) ta)
    (hg : Gl (bodyCx P w K mg base N qual scope f cd A outer s H E) x := by rfl) (hdb : (x == ("__debug__" : Str)) = false := by decide)
    (he : starEach (e :: es) (bodyCx P w K mg base N qual scope f cd A outer s H E).env = (false, eval e (bodyCx P w K mg base N qual scope f cd A outer s H E).env) :: starEach es (bodyCx P w K mg base N qual scope f cd A outer s H E).env := by rfl)
    (hpl : (backTo cpos (starEach es (bodyCx P w K mg base N qual scope f cd A outer s H E).env)).any (·.1) = false := by rfl) :
    PS (bodyCx P w K mg base N qual scope f cd A outer s H E) (.Raise (some (.Call (.Name x np) (e :: es) [] cpos)) none pos) (tRaise E C ta) := by
  intro pins s1 σ H1 D I h
  have O := ownCls_of I.ok.mod.kin hm hq
  obtain ⟨tl, Nn, nm, q, bs, hdct, sn, sub, ab, col, dd, k0, k1, k2, k3, k5, mN, hC, hN, hni, TT'⟩ := O.obj
  refine wpAny_Raise_call_subT (C := C) (nm := nm) (q := q) (N := Nn) (bs := bs) (bm := tl) (hdct := hdct) (sn := sn) (sub := sub) (ab := ab) (col := col) (dd := dd) (k0 := k0) (k1 := k1) (k2 := k2) (k3 := k3) (k5 := k5)
    F.excBase_ValueError (mN := mN) (TT'.hasType F.excBase_ValueError.hasBase) (I.ok.hd rfl) ?_ hni ?_
  · rw [he]
    show (false || (backTo cpos (starEach es _)).any (·.1)) = false
    rw [hpl]
    rfl
  refine ld_glob I hg hm ⟨rfl, ?_⟩ hdb
  have hA := ha cpos pins s1 σ H1 _ I h
  rw [he] at hA ⊢
  refine Calls.evalArgs_plain (thn hA fun us s2 ⟨vs, H2, I2, r2, hl2, q2⟩ => ⟨rfl, by rw [← r2.length]; exact hl2, I2.bk _ _ hC, hN.keeps I2.bk, TT'.keeps I2.bk, fun h' ea hmade => ?_⟩)
  have I3 : Inv (bodyCx P w K mg base N qual scope f cd A outer s H E) pins σ H2 { s2 with heap := h' } := I2.kept (t' := s2.toks) hmade.keeps
  obtain ⟨t, ht, _, _⟩ := hmade.there
  have old : s.heap.get? ea = none := by
    cases z : s.heap.get? ea with
    | none => rfl
    | some o =>
      obtain ⟨o', e'⟩ := I2.base.there ea o z (by intro hz; cases hz)
      rw [hmade.new] at e'
      cases e'
  have fr : H2 ea = none := by
    cases z : H2 ea with
    | none => rfl
    | some o =>
      obtain ⟨oo, e'⟩ := (I2.hok ea o z).there
      rw [hmade.new] at e'
      cases e'
  show wpAny (model P w) (bodyCx P w K mg base N qual scope f cd A outer s H E).A (leaving (bodyCx P w K mg base N qual scope f cd A outer s H E).env (.ref ea)) _ _ { s2 with heap := h' }
  refine leave_new (s := { s2 with heap := h' }) (base := base) I.ok.frames I3.stack rfl ht rfl rfl rfl fun h3 T3 hT3 fly flew => ?_
  refine cxe_of I3 fly flew (fun b hb => ?_) ⟨old, fr⟩ hT3 q2
  simp only [List.mem_cons, List.not_mem_nil, or_false] at hb
  subst hb
  exact ⟨old, fr⟩
/-- a def that may raise -/
theorem Fun.okE {x qual : Str} {st : Stmt} {f : Addr} {fd : FuncData} {N ps : List Str} {k : Nat} {sp : Sp} (F : Fun K x qual st f fd) (S : FnScope N ps (defScope st)) (len : ∀ vs H Q E, sp vs H Q E → vs.length = ps.length)
    (hbody : ∀ (cdv : Value) (A : Around) (outer : List Env) (s : Shared) (H : Hp) (vs : List V) (Q : VK) (E : XK), Room k (A.deeper (envOfC qual (defScope st) s.heap.objs.size f cdv)) → sp vs H Q E →
      ∃ t, PSs (bodyCx P w K mg base N qual (defScope st) f cdv A outer s H E) (defBody st) t ∧ t { nx := fun _ H' => Q .non H', rt := Q } (start N vs) H) : FnOk P w K mg base (CXE P w) (k + 1) f fd ps sp := by
  obtain ⟨oc, od, kV, doc, pm, an, cdv, ct, osl, rfl, lk, hcd⟩ := F.ex
  exact fn_of lk hcd S len fun A outer s H vs Q E hr hsp => hbody cdv A outer s H vs Q E hr hsp
theorem Def.knownE {x : Str} {st : Stmt} {N ps : List Str} {k : Nat} {sp : Sp} (D : Def K mg x st) (S : FnScope N ps (defScope st))
    (hb : ∀ (kV doc pm : Value) (an : Option Addr) (cdv ct : Value) (us : List Value), us.length = ps.length → bindArgs (PySem.W.fnOf x x (defArgs st) (defBody st) (defScope st) .none kV doc pm an cdv ct) ⟨us, []⟩ = pure (ps.zip us))
    (len : ∀ vs H Q E, sp vs H Q E → vs.length = ps.length)
    (hbody : ∀ (f : Addr) (cdv : Value) (A : Around) (outer : List Env) (s : Shared) (H : Hp) (vs : List V) (Q : VK) (E : XK), Room k (A.deeper (envOfC x (defScope st) s.heap.objs.size f cdv)) → sp vs H Q E →
      ∃ t, PSs (bodyCx P w K mg base N x (defScope st) f cdv A outer s H E) (defBody st) t ∧ t { nx := fun _ H' => Q .non H', rt := Q } (start N vs) H) : Known P w K mg base (CXE P w) (k + 1) x ps sp := by
  obtain ⟨f, fd, F, hm⟩ := D.ex
  exact ⟨f, fd, F.okE S len fun cdv A outer s H vs Q E hr h => hbody f cdv A outer s H vs Q E hr h, hm, F.kp, F.binds hb⟩
end
end L2

namespace L2
open PySem PySem.Spec PyProof.Rows

/-! ### try .. except C as n -/
/-- a caught exception, of the class C -/
def excO (ea : Addr) (C : Value) : HO := .ext fun h => ∃ o, h.get? ea = some o ∧ o.cls = C ∧ o.dict = none ∧ PySem.W.notCls o = true
section
variable {X : Cx} {pins : List (Addr × Obj)} {σ : St} {H : Hp} {s : Shared}
/-- frames' slots and the exception's own objects have changed -/
theorem Inv.flew {own : List Addr} {h3 : Heap} {t' : Nat} (I : Inv X pins σ H s) (fl : Flew (frs X.stack) own s.heap h3)
    (hown : ∀ b ∈ own, X.s₀.heap.get? b = none ∧ H b = none ∧ b ≠ X.env.locals ∧ (∀ x c, X.env.cells.lookup x = some c → c ≠ b) ∧ ∀ p ∈ X.pn ++ pins, p.1 ≠ b) : Inv X pins σ H { s with heap := h3, toks := t' } := by
  have no : ∀ b o, X.s₀.heap.get? b = some o → b ∉ own := fun b o e z => by rw [(hown b z).1] at e; cases e
  have nL : ∀ b o, X.s₀.heap.get? b = some o → b ≠ X.env.locals := fun b o e => Nat.ne_of_lt (Nat.lt_of_lt_of_le (Heap.lt_size e) I.ok.above)
  have cellK : ∀ x c, X.env.cells.lookup x = some c → ∀ v, s.heap.IsCell c v → h3.IsCell c v := fun x c e v ⟨o, ho, hd⟩ => by
    obtain ⟨sl, q⟩ := fl.slot c o (fun z => (hown c z).2.2.2.1 x c e rfl) ho
    exact ⟨_, q, hd⟩
  refine ⟨I.ok, I.os, I.bare, ⟨fun b o e n hb hx => ?_, fun b o e n hb hx => ?_, I.base.free, fun b o e hx => ?_, I.base.tups, I.base.frzs, I.base.tbls⟩, ?_, fun x c e => ?_, I.free, I.freeC, fun p hp => ?_, fl.hok I.hok (fun b hb => I.stkFree b hb) (fun b hb => (hown b hb).2.1), I.len⟩
  · exact fl.keep b o (no b o e) (fun z => (List.mem_cons.mp (I.stkSub b z)).elim (nL b o e) hb) (I.base.keep b o e n hb hx)
  · obtain ⟨sl, e1⟩ := I.base.slot b o e n hb hx
    obtain ⟨sl', e2⟩ := fl.slot b _ (no b o e) e1
    exact ⟨sl', e2⟩
  · obtain ⟨o', e1⟩ := I.base.there b o e hx
    obtain ⟨sl', e2⟩ := fl.slot b _ (no b o e) e1
    exact ⟨_, e2⟩
  · obtain ⟨m, ⟨o, es, ep, ho, r⟩, hl⟩ := I.loc
    obtain ⟨sl, hL⟩ := fl.slot _ o (fun z => (hown _ z).2.2.1 rfl) ho
    refine ⟨m, ⟨_, es, ep, hL, r⟩, fun i x v e1 e2 e3 => ?_⟩
    obtain ⟨u, rv, l⟩ := hl i x v e1 e2 e3
    refine ⟨u, rv, ?_⟩
    rcases l with l | ⟨k, c, e, z⟩
    · exact .inl l
    · exact .inr ⟨k, c, e, cellK x c e _ z⟩
  · obtain ⟨v, z⟩ := I.cell x c e
    exact ⟨v, cellK x c e v z⟩
  · obtain ⟨e, n, ne, nf, d⟩ := I.pin p hp
    exact ⟨fl.keep _ _ (fun z => (hown _ z).2.2.2.2 p hp rfl) (fun z => (List.mem_cons.mp (I.stkSub _ z)).elim ne nf) e, n, ne, nf, d⟩
/-- an object that was not tracked is tracked -/
theorem Inv.adopt {a : Addr} {o : HO} (I : Inv X pins σ H s) (hn : H a = none) (h0 : X.s₀.heap.get? a = none) (hL : a ≠ X.env.locals) (hc : ∀ x c, X.env.cells.lookup x = some c → c ≠ a) (hp : ∀ p ∈ X.pn ++ pins, p.1 ≠ a)
    (new : ObjOk X.prog X.w (upd H a o) s.heap a o) : Inv X pins σ (upd H a o) s := by
  have ne : ∀ b u, H b = some u → b ≠ a := fun b u e => ne_of_none e hn
  refine ⟨I.ok, I.os, I.bare, ⟨I.base.keep, I.base.slot, fun b u e n hx => ?_, I.base.there, fun b xs e => ?_, fun b u xs e => ?_, fun b ps e => ?_⟩, I.loc, I.cell, ?_, fun x c e => ?_, fun p hq => ?_, fun b u e => ?_, I.len⟩
  · rw [upd_ne (fun z => by rw [z, h0] at e; cases e)]
    exact I.base.free b u e n hx
  · have q := I.base.tups b xs e
    rw [upd_ne (ne _ _ q)]
    exact q
  · have q := I.base.frzs b u xs e
    rw [upd_ne (ne _ _ q)]
    exact q
  · obtain ⟨more, q⟩ := I.base.tbls b ps e
    exact ⟨more, by rw [upd_ne (ne _ _ q)]; exact q⟩
  · rw [upd_ne (Ne.symm hL)]
    exact I.free
  · rw [upd_ne (hc x c e)]
    exact I.freeC x c e
  · obtain ⟨e, n, r⟩ := I.pin p hq
    exact ⟨e, by rw [upd_ne (hp p hq)]; exact n, r⟩
  · by_cases hb : b = a
    · subst hb
      rw [upd_same] at e
      cases e
      exact new
    · rw [upd_ne hb] at e
      exact (I.hok b u e).stay (fun _ _ _ q => q) (fun c q => by rw [upd_ne (ne _ _ q)]; exact q) fun c xs q => by rw [upd_ne (ne _ _ q)]; exact q
/-- a local name goes -/
theorem Inv.unname {j : Nat} {n : Str} {h' : Heap} {m : Str → Option Value} {v : Option Value} {t' : Nat} (I : Inv X pins σ H s) (hN : X.N.Nodup) (hj : X.N[j]? = some n) (hm : s.heap.Ns X.env.locals m)
    (hl : ∀ (i : Nat) (x : Str) (v : V), X.N[i]? = some x → σ[i]? = some (some v) → Vis X.env.scope x → ∃ u, RelV v u ∧ Look X.env s.heap m x u) (hn : h'.Ns X.env.locals (fun x => if x = n then v else m x)) (sb : Heap.SameBut X.env.locals s.heap h') :
    Inv X pins (σ.set j none) H { s with heap := h', toks := t' } := by
  have hjσ : j < σ.length := by rw [I.len]; exact (List.getElem?_eq_some_iff.mp hj).1
  have nL : ∀ b o, X.s₀.heap.get? b = some o → b ≠ X.env.locals := fun b o e => Nat.ne_of_lt (Nat.lt_of_lt_of_le (Heap.lt_size e) I.ok.above)
  refine ⟨I.ok, I.os, I.bare, ⟨fun b o e n hb hx => (sb.2 b (nL b o e)).trans (I.base.keep b o e n hb hx), fun b o e n hb hx => ?_, I.base.free, fun b o e hx => ?_, I.base.tups, I.base.frzs, I.base.tbls⟩, ⟨_, hn, fun i y w' e1 e2 e3 => ?_⟩, fun y c e => ?_, I.free, I.freeC, fun p hp => ?_, fun b ob e => ?_, by simpa using I.len⟩
  · obtain ⟨sl, e1⟩ := I.base.slot b o e n hb hx
    exact ⟨sl, (sb.2 b (nL b o e)).trans e1⟩
  · obtain ⟨o', e1⟩ := I.base.there b o e hx
    exact ⟨o', (sb.2 b (nL b o e)).trans e1⟩
  · by_cases hi : i = j
    · subst hi
      rw [List.getElem?_set_self hjσ] at e2
      cases e2
    · rw [List.getElem?_set_ne (Ne.symm hi)] at e2
      obtain ⟨u, r, q⟩ := hl i y w' e1 e2 e3
      refine ⟨u, r, ?_⟩
      rcases q with ⟨k, e⟩ | ⟨k, c, e, z⟩
      · refine .inl ⟨k, ?_⟩
        have : y ≠ n := fun e => hi (nodup_ix hN e1 (e ▸ hj))
        simp [this, e]
      · exact .inr ⟨k, c, e, z.sameBut sb (I.cne y c e)⟩
  · obtain ⟨v', z⟩ := I.cell y c e
    exact ⟨v', z.sameBut sb (I.cne y c e)⟩
  · obtain ⟨e, n, ne, nf, d⟩ := I.pin p hp
    exact ⟨(sb.2 p.1 ne).trans e, n, ne, nf, d⟩
  · obtain ⟨oL, _, _, hoL, _⟩ := id hm
    refine (I.hok b ob e).stay (fun c w' hc q => (sb.2 c ?_).trans q) (fun _ q => q) fun _ _ q => q
    rintro rfl
    rcases hc with rfl | hc
    · rw [I.free] at e; cases e
    · rw [I.free] at hc; cases hc
end
/-- within an except suite -/
abbrev Cx.inEx (X : Cx) (ea : Addr) : Cx := { X with A := X.A.mark (some (.ref ea)), calm := false, xe := fun _ _ => False }
abbrev Cx.pinned (X : Cx) (pn : List (Addr × Obj)) (E1 : Value → Shared → Prop) : Cx := { X with pn := pn, xe := E1 }
section
variable {X : Cx} {pins : List (Addr × Obj)} {σ : St} {H : Hp} {s : Shared}
theorem Inv.inEx (I : Inv X pins σ H s) (ea : Addr) : Inv (X.inEx ea) pins σ H s :=
  ⟨⟨I.ok.mod, I.ok.kind, I.ok.glob, I.ok.blt, I.ok.above, I.ok.inj, I.ok.has, I.ok.cab, fun z => Bool.noConfusion z, I.ok.frames, I.ok.stk, I.ok.exf, I.ok.bs, I.ok.bsz, I.ok.noex, I.ok.exfs, I.ok.funs, I.ok.frf⟩, I.os, I.bare, I.base, I.loc, I.cell, I.free, I.freeC, I.pin, I.hok, I.len⟩
theorem Inv.outEx {ea : Addr} (ok : X.Ok) (I : Inv (X.inEx ea) pins σ H s) : Inv X pins σ H s := ⟨ok, I.os, I.bare, I.base, I.loc, I.cell, I.free, I.freeC, I.pin, I.hok, I.len⟩
theorem Inv.pinnedIn (I : Inv X pins σ H s) (E1 : Value → Shared → Prop) : Inv (X.pinned (X.pn ++ pins) E1) [] σ H s :=
  ⟨⟨I.ok.mod, I.ok.kind, I.ok.glob, I.ok.blt, I.ok.above, I.ok.inj, I.ok.has, I.ok.cab, I.ok.hd, I.ok.frames, I.ok.stk, I.ok.exf, I.ok.bs, I.ok.bsz, I.ok.noex, I.ok.exfs, I.ok.funs, I.ok.frf⟩, I.os, I.bare, I.base, I.loc, I.cell, I.free, I.freeC,
    fun p hp => I.pin p (by simpa using hp), I.hok, I.len⟩
theorem Inv.pinnedOut {pins' : List (Addr × Obj)} {E1 : Value → Shared → Prop} (ok : X.Ok) (I : Inv (X.pinned (X.pn ++ pins) E1) pins' σ H s) : Inv X pins σ H s :=
  ⟨ok, I.os, I.bare, I.base, I.loc, I.cell, I.free, I.freeC, fun p hp => I.pin p (List.mem_append_left _ hp), I.hok, I.len⟩
end
def Ends.less (D : Ends) (j : Nat) : Ends where
  nx := fun σ H => D.nx (σ.set j none) H
  rt := D.rt
  bk := fun σ H => D.bk (σ.set j none) H
  ct := fun σ H => D.ct (σ.set j none) H
/-- what is wanted of an exception in the suite of a try -/
def eTry (K : PySem.W.Frag) (B : Addr) (m j : Nat) (th : TS) (D : Ends) : XK := fun C _ H' => PySem.W.exmOne K C (.ref B) = some true ∧ ∀ ea, H' ea = none → th (D.less j) ((List.replicate m none).set j (some (.ref ea))) (upd H' ea (excO ea C))
def tTry (K : PySem.W.Frag) (B : Addr) (m j : Nat) (tb : XK → TS) (th : TS) : TS := fun D σ H => tb (eTry K B m j th D) D σ H
theorem ps_try {X : Cx} {body suite : List Stmt} {b₀ : Stmt} {x n : Str} {np hpos pos : Pos} {B : Addr} {tb : XK → TS} {th : TS} {j : Nat} (hex : X.ex = []) (hst : X.stack = X.env :: X.outer) (hfr : X.env.frame = some X.env.locals) (hN : X.N.Nodup) (hj : X.N[j]? = some n)
    (hn : X.env.scope.names.lookup n = some .local) (hm : X.mg x = some (.ref B)) (hb : ∀ pn E' E1, Passes (CXE X.prog X.w) (X.pinned pn E1) E' → PSs (X.pinned pn E1) body (tb E')) (hh : ∀ ea, PSs (X.inEx ea) (b₀ :: suite) th)
    (hg : Gl X x := by rfl) (hdb : (x == ("__debug__" : Str)) = false := by decide) :
    PS X (.Try body [.ExceptHandler (some (.Name x np)) (some n) (b₀ :: suite) hpos] [] [] pos) (tTry X.K B X.N.length j tb th) := by
  intro pins s σ H D I h
  have pass : Passes (CXE X.prog X.w) (X.pinned (X.pn ++ pins) (fun e s1 => wpAny (model X.prog X.w) X.A (noteFrame e X.env) (fun _ s2 => wpAny (model X.prog X.w) X.A (setFlight e none) (fun _ s3 =>
      wpAny (model X.prog X.w) X.A (handleBy e X.env [.ExceptHandler (some (.Name x np)) (some n) (b₀ :: suite) hpos]) (SP X pins D) X.xe s3) X.xe s2) X.xe s1)) (eTry X.K B X.N.length j th D) := by
    intro pins' σ' H1 s1 e s2 I1 hq
    obtain ⟨ea, T, C, H2, rfl, os, bare, un, hok, fly, n1, n2, f1, f2, hx, q⟩ := hq
    have I1' : Inv X pins (List.replicate X.N.length none) H1 s1 := (I1.pinnedOut I.ok).weak (by rw [List.length_replicate, I1.len]) fun i v e => by
      rw [List.getElem?_replicate] at e
      split at e <;> cases e
    have I2 : Inv X pins (List.replicate X.N.length none) H2 s2 := I1'.call' os un hok bare (fun b z => absurd z (by simp))
    have own : ∀ b, s1.heap.get? b = none → H2 b = none → X.s₀.heap.get? b = none ∧ H2 b = none ∧ b ≠ X.env.locals ∧ (∀ x c, X.env.cells.lookup x = some c → c ≠ b) ∧ ∀ p ∈ X.pn ++ pins, p.1 ≠ b := fun b e hb => by
      refine ⟨?_, hb, fun z => ?_, fun y c hc z => ?_, fun p hp z => ?_⟩
      · cases z : X.s₀.heap.get? b with
        | none => rfl
        | some o =>
          obtain ⟨o', e'⟩ := I1'.base.there b o z (by rw [hex]; intro hz; cases hz)
          rw [e] at e'
          cases e'
      · obtain ⟨m, ⟨o, _, _, ho, _⟩, _⟩ := I1'.loc
        rw [← z, e] at ho
        cases ho
      · obtain ⟨v, o, ho, _⟩ := I1'.cell y c hc
        rw [z, e] at ho
        cases ho
      · have ho := (I1'.pin p hp).1
        rw [z, e] at ho
        cases ho
    have st2 : s2.heap.FunFrames X.base (X.env :: X.outer) := hst ▸ I2.stack
    have fr2 : X.A.frames = some (X.env :: X.outer) := hst ▸ I.ok.frames
    refine note_fly (base := X.base) fr2 st2 hfr fly fun h3 T3 hT3 fly3 flew => ?_
    have I3 : Inv X pins (List.replicate X.N.length none) H2 { s2 with heap := h3 } := I2.flew (t' := s2.toks) (hst ▸ flew) fun b hb => by
      simp only [List.mem_cons, List.not_mem_nil, or_false] at hb
      rcases hb with rfl | rfl
      · exact own _ n1 f1
      · exact own _ n2 f2
    obtain ⟨oe, vs, oT, ts, he, hcl, hdn, hd, h1, hTe, hT, hdT, h3'⟩ := fly3
    refine wpAny_handleBy_cons (codeAny_handlers_test ?_) (by intro z; cases z)
    refine ld_glob (X := X.inEx ea) (I3.inEx ea) hg hm ?_ hdb
    have LT : PySem.W.Looks (model X.prog X.w) h3 (typeOf (.ref ea)) C := hcl ▸ (PySem.W.Looks.ld he).andThen .now
    have LX := PySem.W.exm_one (M := model X.prog X.w) I3.kIn LT hx
    refine LX _ _ _ { s2 with heap := h3 } (fun _ _ z => z) ?_
    show codeAny _ _ _ _ _
    refine codeAny_handlers_suite_as ?_
    -- setFlight
    unfold setFlight
    refine wpAny_bind (wpAny_field (s := { s2 with heap := h3 }) he hd h1 ?_)
    rw [if_pos (show (Value.ref T3 != Value.none) = true from by simp)]
    refine wpAny_setField (s := { s2 with heap := h3 }) hT hdT (Array.getElem?_eq_some_iff.mp h3').1 ?_
    have far : ∀ b, b ≠ T3 → (h3.update T3 (Obj.mapFields (·.setIfInBounds 3 ((none : Option Addr).elim Value.none fun f => rawInt f)))).get? b = h3.get? b := fun b nb => Heap.get?_update_other _ _ (Ne.symm nb)
    have hfT : H2 T3 = none := I2.hok.fresh hT3
    have oT3 : T3 ≠ X.env.locals := Nat.ne_of_gt (Nat.lt_of_lt_of_le I2.lt hT3)
    have I4 : Inv X pins (List.replicate X.N.length none) H2 { s2 with heap := h3.update T3 (Obj.mapFields (·.setIfInBounds 3 ((none : Option Addr).elim Value.none fun f => rawInt f))) } :=
      I3.turned (t' := s2.toks) (fun b o nb e => (far b nb).trans e) hfT oT3 (.inr (Nat.le_trans I2.sz hT3)) (fun y c hc z => by
        obtain ⟨v, w'⟩ := I2.cell y c hc
        exact absurd w'.lt (by rw [z]; exact Nat.not_lt.mpr hT3)) (fun p hp z => absurd (Heap.lt_size (I2.pin p hp).1) (by rw [z]; exact Nat.not_lt.mpr hT3))
    obtain ⟨o0, o1, o2, o3, o4⟩ := own ea n1 f1
    have he4 := (far ea (Ne.symm hTe)).trans he
    have I5 : Inv X pins (List.replicate X.N.length none) (upd H2 ea (excO ea C)) _ := I4.adopt o1 o0 o2 o3 o4 ⟨⟨oe, he4, hcl, hdn, by unfold PySem.W.notCls; rw [hd]⟩, ⟨oe, he4⟩, fun a b ⟨o, e1, e2⟩ k => ⟨o, k o e1, e2⟩⟩
    refine store_ok (v := .ref ea) I5 hN hj (.inl hn) rfl (fun s6 I6 => ?_) (.inr hn)
    have run := hh ea pins s6 _ _ (D.less j) (I6.inEx ea) (q ea f1)
    refine wpAny_mono run (fun fl s7 q7 => ?_) fun _ _ z => z.elim
    have fin : ∀ {σ7 : St} {H7 : Hp} {R : Unit → Shared → Prop}, Inv (X.inEx ea) pins σ7 H7 s7 → (∀ s8, Inv X pins (σ7.set j none) H7 s8 → R () s8) → wpAny (model X.prog X.w) X.A (do bindName X.env n .none; unbindBehindTheSuite X.env n hpos) R X.xe s7 := fun {σ7 H7 R} I7 k => by
      have I7' := I7.outEx I.ok
      obtain ⟨m, hm7, hl7⟩ := I7'.loc
      refine wpAny_nameGoes_keeps (show X.env.scope.names.lookup n = some .local from hn) hm7 (by rw [I.ok.kind]; rfl) fun h8 v hn8 sb8 => ?_
      exact k _ (I7'.unname hN hj hm7 hl7 hn8 sb8)
    cases fl with
    | next => obtain ⟨σ7, H7, I7, n7⟩ := q7; exact fin I7 fun s8 I8 => ⟨_, H7, I8, n7⟩
    | brk => obtain ⟨σ7, H7, I7, n7⟩ := q7; exact fin I7 fun s8 I8 => ⟨_, H7, I8, n7⟩
    | cont => obtain ⟨σ7, H7, I7, n7⟩ := q7; exact fin I7 fun s8 I8 => ⟨_, H7, I8, n7⟩
    | ret u => obtain ⟨v7, σ7, H7, I7, r7, n7⟩ := q7; exact fin I7 fun s8 I8 => ⟨v7, _, H7, I8, r7, n7⟩
  have run := hb (X.pn ++ pins) (eTry X.K B X.N.length j th D) _ pass [] s σ H D (I.pinnedIn _) h
  refine wpAny_Try_except (wpAny_mono run (fun fl s1 q1 => ?_) fun e s1 q1 => q1)
  cases fl with
  | next => obtain ⟨σ1, H1, I1, n1⟩ := q1; exact wpAny_execs_nil ⟨σ1, H1, I1.pinnedOut I.ok, n1⟩
  | brk => obtain ⟨σ1, H1, I1, n1⟩ := q1; exact ⟨σ1, H1, I1.pinnedOut I.ok, n1⟩
  | cont => obtain ⟨σ1, H1, I1, n1⟩ := q1; exact ⟨σ1, H1, I1.pinnedOut I.ok, n1⟩
  | ret u => obtain ⟨v1, σ1, H1, I1, r1, n1⟩ := q1; exact ⟨v1, σ1, H1, I1.pinnedOut I.ok, r1, n1⟩
/-! ### isinstance of a caught exception -/
structure ExcK (K : PySem.W.Frag) (C : Addr) : Prop where
  hga : PySem.W.findIn K (.ref C) "__getattribute__" = some (some (.builtin "BaseException.__getattribute__"))
  hk : PySem.W.findIn K (.ref C) "__getattr__" = some none
  hc : ∃ cd, PySem.W.clsIn K C = some cd
  ha : PySem.W.findIn K (.ref C) "__class__" = some (some (.builtin "object.__class__"))
  hn : PySem.W.specialIn K (.builtin "object.__class__") "__get__" = some (some (.builtin "getset_descriptor.__get__"))
  ht : PySem.W.takesIn K (.builtin "object.__class__") = some true
  hm : PySem.W.mroIn K C (.type "object") = some true
  hb : PySem.W.mroIn K C (.type "BaseException") = some true
/-- the class of a caught exception, asked by its own __getattribute__ -/
theorem exc_class {prog : Program} {w : World} {A : Around} {E : Value → Shared → Prop} {s : Shared} {K : PySem.W.Frag} {x C : Addr} {ox : Obj} {Q : Option Value → Shared → Prop} (k : ExcK K C) (X : K.In s.heap) (I : PySem.W.InstAt s.heap x ox C none)
    (h : Q (some (.ref C)) { s with toks := s.toks + 1 }) : wpAny (model prog w) A (getAttr? (.ref x) "__class__") Q E s := by
  obtain ⟨hh, g, d, t, os⟩ := s
  obtain ⟨cd, hc⟩ := k.hc
  have hf : PySem.W.findObj K C none "__class__" = some (.bind (.builtin "getset_descriptor.__get__") (.builtin "object.__class__")) := by
    show (PySem.W.clsIn K C).bind _ = _
    rw [hc, Option.bind_some, k.ha, Option.bind_some]
    simp [k.hn, k.ht]
  have L0 := I.type (M := model prog w)
  have L1 := PySem.W.looks_findIn (M := model prog w) X k.hga
  have L2 := PySem.W.looks_findIn (M := model prog w) X k.hk
  have L3 := PySem.W.looks_mroIn (M := model prog w) X k.hb
  have L4 := PySem.W.looks_find (M := model prog w) X I hf
  unfold getAttr? getAttrBy? getAttrBy
  refine wpAny_bind (wpAny_mkText (wpAny_bind (wpAny_attempt (wpAny_holding (wpAny_bind (L0.at (wpAny_bind (L1.at ?_))))))))
  show wpAny _ _ (getAttrByItsOwn _ _ _ _ _ _) _ _ _
  unfold getAttrByItsOwn
  refine wpAny_bind ?_
  show wpAny _ _ (typeLookup (.ref C) "__getattr__") _ _ _
  refine L2.at (wpAny_bind (wpAny_attempt (wpAny_holding ?_)))
  show wpAny _ _ (boundAndCalled _ _ _) _ _ _
  unfold boundAndCalled
  rw [F.excAttr_ValueError.ga.bind (.ref x)]
  refine wpAny_bind (wpAny_pure (wpAny_call ?_))
  refine codeAny_call_builtin F.excAttr_ValueError.ga.plain F.entry_bexc_ga ?_
  have hk : builtinKind "BaseException.__getattribute__" = some .slot := by decide +kernel
  have hsp : splitId "BaseException.__getattribute__" = some ("BaseException", "__getattribute__") := by decide +kernel
  have L5 : PySem.W.Looks (model prog w) hh (isInstance (.ref x) (.type "BaseException")) true := L0.andThen L3
  have ha := F.args_bexc_ga (.ref x) (.str "__class__" t)
  have key : ∀ (Q2 : Unit → Shared → Prop) (E2 : Value → Shared → Prop) (A2 : Around), Q2 () ⟨hh, g, d, t + 1, os⟩ → wpAny (model prog w) A2 (checkBuiltinCall "BaseException.__getattribute__" ⟨[.ref x, .str "__class__" t], []⟩) Q2 E2 ⟨hh, g, d, t + 1, os⟩ := by
    intro Q2 E2 A2 q
    have z := @PySem.W.check_slot (model prog w) A2 E2 ⟨hh, g, d, t + 1, os⟩ _ _ _ (.ref x) [.str "__class__" t] [] Q2 hk hsp L5 ha q
    exact z
  refine key _ _ _ ?_
  unfold Builtin.«object.__getattribute__»
  refine wpAny_bind (wpAny_pure (wpAny_bind (wpAny_pure (wpAny_bind (L0.at (wpAny_bind (L4.at ?_)))))))
  refine wpAny_bind (wpAny_holding (wpAny_call ?_))
  exact PySem.W.class_get (s := ⟨hh, g, d, t + 1, os⟩) (ox := ox) (od := none) X I k.hm (wpAny_pure (PySem.W.handed_on rfl (wpAny_pure h)))
theorem kitx_exc {K : PySem.W.Frag} {x C : Addr} (k : ExcK K C) : PySem.W.KitX K (.ref x) (.ref C) (fun h => ∃ ox, PySem.W.InstAt h x ox C none) where
  ty := fun _ _ _ ⟨_, I⟩ => I.type
  it := fun _ _ X _ => by
    obtain ⟨cd, hc⟩ := k.hc
    unfold PySem.W.clsIn at hc
    split at hc
    · rename_i ho
      intro A' Q' E' s' kk q
      unfold isType loadHead
      exact wpAny_bind (wpAny_loadPart (kk _ _ (X _ _ ho)) (wpAny_pure q))
    · cases hc
  ne := fun h tp dd its n sl X htp => by
    obtain ⟨cd, hc⟩ := k.hc
    refine Bool.eq_false_iff.mpr fun q => ?_
    have e : C = tp := Value.ref.inj (beq_iff_eq.mp q)
    subst e
    unfold PySem.W.clsIn at hc
    split at hc
    · rename_i ho
      have z := (X _ _ ho).symm.trans htp
      cases z
    · cases hc
  ca := fun {prog w A E Q s} X ⟨ox, I⟩ h => exc_class k X I h
theorem call_isX {X : Cx} : CallR X (.builtin "isinstance") (fun xs H Q => ∃ ea C D cv k, xs = [.ref ea, D] ∧ H ea = some (excO ea (.ref C)) ∧ ExcK X.K C ∧ ((∃ D', D = .ref D' ∧ cv = Value.ref D') ∨ ∃ T, D = .ty T ∧ cv = Value.type T) ∧ PySem.W.kitOne X.K (.ref C) cv = some k ∧ Q (.bl k) H) := by
  intro pins s σ H xs us Q I r h
  obtain ⟨ea, C, D, cv, k, rfl, hea, hk, hD, e, q⟩ := h
  obtain ⟨u, c, rfl, r1, r2⟩ := r.two
  cases r1
  obtain ⟨⟨o, h1, h2, h3, h4⟩, _⟩ := I.hok _ _ hea
  have ec : c = cv := by
    rcases hD with ⟨D', rfl, rfl⟩ | ⟨T, rfl, rfl⟩ <;> exact r2
  subst ec
  refine PySem.W.kia_one (kitx_exc hk) I.kIn ⟨o, h1, h2, h4, ?_⟩ e (fun z => nomatch z) fun tk => ⟨.bl k, H, I.tok tk, rfl, q⟩
  rw [h3]
  trivial
end L2

namespace L2
open PySem PySem.Spec PyProof.Rows
/-! ### a slice of a text -/
theorem sl_str {X : Cx} : SlR X (fun x lo hi H Q => ∃ z, x = .str z ∧ z.length ≤ sizeLine ∧ Q (.str (Txt.slice z lo hi)) H) := by
  intro pins s σ H x v vl vu lo hi sl Q I rx hs pl pu h
  obtain ⟨z, rfl, hz, q⟩ := h
  obtain ⟨t, rfl⟩ := rx
  have part : ∀ {u : Value} {o : Option Int}, IsPart u o → ∃ l : Option (Int × Tok), partValue l = u ∧ l.map (·.1) = o := fun p => by
    cases p with
    | none => exact ⟨none, rfl, rfl⟩
    | int i t => exact ⟨some (i, t), rfl, rfl⟩
  obtain ⟨l, rfl, rfl⟩ := part pl
  obtain ⟨u, rfl, rfl⟩ := part pu
  exact ⟨"str", _, F.slot_str_getitem.lookup, typeIs_str _ _ _, wpAny_getItem_str_slice (l := l) (u := u) (st := none) hs rfl
    (post_val_or_str ⟨Nat.le_trans (Txt.slice_le z _ _) hz, fun t' k => ⟨.str _, H, I.tok k, ⟨_, rfl⟩, q⟩⟩)⟩
theorem b_ValueError : bootBuiltins "ValueError" = some (.type "ValueError") := by kernel_rfl
end L2

namespace L2
open PySem PySem.Spec PyProof.Rows
/-! ### list(range(n)), list(d) -/
section
variable {X : Cx}
end
/-- the j-th statement of a class's body -/
def inCls (s : Stmt) (j : Nat) : Stmt := match s with
  | .ClassDef _ _ _ body _ _ _ _ _ _ _ => body.getD j (.Pass ⟨0, 0, 0, 0⟩)
  | _ => .Pass ⟨0, 0, 0, 0⟩
/-! ### methods and classes, by what they promise -/
structure KnownM (P : Program) (w : World) (K : PySem.W.Frag) (mg : Str → Option Value) (base : Heap) (CX : CXT) (k : Nat) (C : Addr) (m : Str) (ps : List Str) (sp : Sp) : Prop where
  ex : ∃ f fd, FnOk P w K mg base CX k f fd ps sp ∧ Meth K C m f ∧ Binds K fd ps []
structure KnownI (P : Program) (w : World) (K : PySem.W.Frag) (mg : Str → Option Value) (base : Heap) (CX : CXT) (k : Nat) (C : Addr) (ps : List Str) (sp : Sp) : Prop where
  ex : ∃ f fd, FnOk P w K mg base CX k f fd ps sp ∧ Mk K C f ∧ Binds K fd ps []
structure Mth (K : PySem.W.Frag) (C : Addr) (m qual : Str) (st : Stmt) : Prop where
  ex : ∃ f fd, Fun K m qual st f fd ∧ PySem.W.findIn K (.ref C) m = some (some (.ref f)) ∧ PySem.W.isFn K (.ref f) = true
section
variable {P : Program} {w : World} {K : PySem.W.Frag} {mg : Str → Option Value} {base : Heap} {C : Addr}
theorem mth_mk {m qual : Str} {st : Stmt} {f : Addr} {oc : Value} {od an : Option Addr} {osl : Array (Option Value)} {kV doc pm cdv ct : Value} (a : PySem.W.findIn K (.ref C) m = some (some (.ref f))) (i : PySem.W.isFn K (.ref f) = true)
    (l : K.lookup f = some ⟨oc, od, .func (PySem.W.fnOf m qual (defArgs st) (defBody st) (defScope st) .none kV doc pm an cdv ct), osl⟩) (c : PySem.W.codeIn K cdv qual = true) (k : PySem.W.keepIn K (.ref f) = true) : Mth K C m qual st :=
  ⟨f, _, fun_mk l c k, a, i⟩
theorem Mth.known {m qual : Str} {st : Stmt} {N ps : List Str} {k : Nat} {sp : Sp} (D : Mth K C m qual st) (S : FnScope N ps (defScope st))
    (hb : ∀ (kV doc pm : Value) (an : Option Addr) (cdv ct : Value) (us : List Value), us.length = ps.length → bindArgs (PySem.W.fnOf m qual (defArgs st) (defBody st) (defScope st) .none kV doc pm an cdv ct) ⟨us, []⟩ = pure (ps.zip us))
    (len : ∀ vs H Q E, sp vs H Q E → vs.length = ps.length)
    (hbody : ∀ (f : Addr) (cdv : Value) (A : Around) (outer : List Env) (s : Shared) (H : Hp) (vs : List V) (Q : VK) (E : XK), Room k (A.deeper (envOfC qual (defScope st) s.heap.objs.size f cdv)) → sp vs H Q E →
      ∃ t, PSs (cxOf CX0 P w K mg base N qual (defScope st) f cdv A outer s H E).nox (defBody st) t ∧ t { nx := fun _ H' => Q .non H', rt := Q } (start N vs) H) : KnownM P w K mg base CX0 (k + 1) C m ps sp := by
  obtain ⟨f, fd, F, ha, hi⟩ := D.ex
  exact ⟨f, fd, F.ok S len fun cdv A outer s H vs Q E hr h => hbody f cdv A outer s H vs Q E hr h, ⟨ha, hi, F.kp⟩, F.binds hb⟩
theorem KnownM.init {CX : CXT} {k : Nat} {ps : List Str} {sp : Sp} (G : KnownM P w K mg base CX k C "__init__" ps sp) (mk : PySem.W.makesIn K C = true) (kc : PySem.W.keepIn K (.ref C) = true) : KnownI P w K mg base CX k C ps sp := by
  obtain ⟨f, fd, F, hm, hb⟩ := G.ex
  exact ⟨f, fd, F, ⟨mk, hm.at_, hm.fn, kc⟩, hb⟩
end
section
variable {X : Cx} {CX : CXT} {k : Nat} {C : Addr} {ps : List Str} {sp : Sp} {E : XK} {x m : Str} {p pos apos : Pos} {e o : Expr} {es : List Expr} {t : TA} {ta : TE}
theorem pe_methN {pl : Sem Bool} (he : PE X o ta) (c : Cls X.K C) (G : KnownM X.prog X.w X.K X.mg X.base CX k C m ps sp) (hr : Room k X.A) (hx : Passes CX X E) (ha : PA X (e :: es) t)
    (hst : starEach (e :: es) X.env = (false, eval e X.env) :: starEach es X.env := by rfl) (hpl : (backTo pos (starEach es X.env)).any (·.1) = false := by rfl)
    (ht : eval (.Call (.Attribute o m apos) (e :: es) [] pos) X.env = (do
      let ov ← eval o X.env
      standAt apos.atName
      let (f, first) ← holding [ov] (getMethod ov m pl)
      callWith pos f first (backTo pos (starEach (e :: es) X.env)) (backToKw pos (keywordEach [] X.env))) := by rfl) :
    PE X (.Call (.Attribute o m apos) (e :: es) [] pos) (tMeth C m sp [] E ta t) := by
  obtain ⟨f, fd, F, hm, hb⟩ := G.ex
  exact pe_meth (pl := pl) he c hm F hr hb .nil hx ha hst hpl ht
theorem pe_makeN (G : KnownI X.prog X.w X.K X.mg X.base CX k C ps sp) (hr : Room (k + 1) X.A) (hm : X.mg x = some (.ref C)) (hx : Passes CX X E)
    (ha : PA X (e :: es) t) (hg : Gl X x := by rfl) (hdb : (x == ("__debug__" : Str)) = false := by decide) (he : starEach (e :: es) X.env = (false, eval e X.env) :: starEach es X.env := by rfl) (hpl : (backTo pos (starEach es X.env)).any (·.1) = false := by rfl) :
    PE X (.Call (.Name x p) (e :: es) [] pos) (tMake C sp [] E t) := by
  obtain ⟨f, fd, F, M, hb⟩ := G.ex
  exact pe_make M F hr hg hm hb .nil hx ha hdb he hpl
end
end L2

namespace L2
open PySem PySem.Spec PyProof.Rows
/-! ### what a comprehension catches -/
def clFold (cells : List (Str × Addr)) : List (Str × NameKind) → List (Str × Addr) → List (Str × Addr)
  | [], acc => acc
  | (n, k) :: r, acc => clFold cells r (if k == .free then (n, (cells.lookup n).getD 0) :: acc else acc)
theorem closureFor_fold {env : Env} : ∀ {names : List (Str × NameKind)} {acc : List (Str × Addr)}, (∀ y ∈ names, y.2 = .free → ∃ c, env.cells.lookup y.1 = some c) →
    (forIn names acc fun (x : Str × NameKind) (cs : List (Str × Addr)) => (do
      let (name, kind) := x
      if kind == NameKind.free then (do let a ← cellOf env name; pure (ForInStep.yield ((name, a) :: cs))) else pure (ForInStep.yield cs) : Sem (ForInStep (List (Str × Addr))))) = pure (clFold env.cells names acc)
  | [], acc, _ => rfl
  | (n, k) :: r, acc, h => by
    rw [List.forIn_cons]
    by_cases hk : (k == NameKind.free) = true
    · obtain ⟨c, hc⟩ := h (n, k) List.mem_cons_self (by simpa using hk)
      have e : cellOf env n = pure c := by unfold cellOf; rw [show env.cells.lookup n = some c from hc]
      have ih := closureFor_fold (env := env) (names := r) (acc := (n, c) :: acc) fun y hy => h y (List.mem_cons_of_mem _ hy)
      show (do let r ← (if k == NameKind.free then (do let a ← cellOf env n; pure (ForInStep.yield ((n, a) :: acc))) else pure (ForInStep.yield acc) : Sem (ForInStep (List (Str × Addr)))); _) = _
      rw [if_pos hk, e, pure_bind, pure_bind]
      refine Eq.trans ih ?_
      show _ = pure (clFold env.cells r (if (k == NameKind.free) = true then (n, (env.cells.lookup n).getD 0) :: acc else acc))
      rw [if_pos hk, show env.cells.lookup n = some c from hc]
      rfl
    · have ih := closureFor_fold (env := env) (names := r) (acc := acc) fun y hy => h y (List.mem_cons_of_mem _ hy)
      show (do let r ← (if k == NameKind.free then (do let a ← cellOf env n; pure (ForInStep.yield ((n, a) :: acc))) else pure (ForInStep.yield acc) : Sem (ForInStep (List (Str × Addr)))); _) = _
      rw [if_neg hk, pure_bind]
      refine Eq.trans ih ?_
      show _ = pure (clFold env.cells r (if (k == NameKind.free) = true then (n, (env.cells.lookup n).getD 0) :: acc else acc))
      rw [if_neg hk]
theorem clFold_sub {cells : List (Str × Addr)} : ∀ {names : List (Str × NameKind)} {acc : List (Str × Addr)}, (∀ y ∈ names, y.2 = .free → ∃ c, cells.lookup y.1 = some c) → (∀ x c, acc.lookup x = some c → cells.lookup x = some c) →
    ∀ x c, (clFold cells names acc).lookup x = some c → cells.lookup x = some c
  | [], _, _, h => h
  | (n, k) :: r, acc, hf, h => by
    refine clFold_sub (names := r) (fun y hy => hf y (List.mem_cons_of_mem _ hy)) ?_
    intro x c e
    by_cases hk : (k == NameKind.free) = true
    · obtain ⟨c', hc⟩ := hf (n, k) List.mem_cons_self (by simpa using hk)
      have hc' : cells.lookup n = some c' := hc
      rw [if_pos hk, hc', List.lookup_cons] at e
      by_cases hx : (x == n) = true
      · rw [hx] at e
        cases e
        have : x = n := by simpa using hx
        rw [this]
        exact hc'
      · rw [show (x == n) = false by simpa using hx] at e
        exact h x c e
    · rw [if_neg hk] at e
      exact h x c e
theorem clFold_keep {cells : List (Str × Addr)} : ∀ {names : List (Str × NameKind)} {acc : List (Str × Addr)} {x : Str}, (∃ c, acc.lookup x = some c) → ∃ c, (clFold cells names acc).lookup x = some c
  | [], _, _, h => h
  | (n, k) :: r, acc, x, ⟨c, h⟩ => by
    refine clFold_keep (names := r) ?_
    by_cases hk : (k == NameKind.free) = true
    · rw [if_pos hk, List.lookup_cons]
      cases hx : x == n with
      | true => exact ⟨_, rfl⟩
      | false => exact ⟨c, h⟩
    · rw [if_neg hk]
      exact ⟨c, h⟩
theorem clFold_has {cells : List (Str × Addr)} : ∀ {names : List (Str × NameKind)} {acc : List (Str × Addr)} {x : Str}, (x, NameKind.free) ∈ names → ∃ c, (clFold cells names acc).lookup x = some c
  | (n, k) :: r, acc, x, h => by
    rcases List.mem_cons.mp h with e | h
    · cases e
      refine clFold_keep (names := r) ⟨(cells.lookup n).getD 0, ?_⟩
      rw [if_pos (by rfl), List.lookup_cons, beq_self_eq_true]
    · exact clFold_has (names := r) h
theorem relabel_kind {env : Env} : ∀ {names : List (Str × NameKind)} {x : Str}, names.lookup x = some .free →
    (names.map fun (n, k) => if (k == NameKind.free && env.scope.kind == .function && env.kindOf n == some .cell) then (n, NameKind.cell) else (n, k)).lookup x = some .cell ∨
    (names.map fun (n, k) => if (k == NameKind.free && env.scope.kind == .function && env.kindOf n == some .cell) then (n, NameKind.cell) else (n, k)).lookup x = some .free
  | [], _, h => by simp at h
  | (n, k) :: r, x, h => by
    have ih := @relabel_kind env r x
    rw [List.lookup_cons] at h
    rw [List.map_cons]
    cases hx : x == n with
    | true =>
      rw [hx] at h
      cases h
      by_cases hc : (NameKind.free == NameKind.free && env.scope.kind == .function && env.kindOf n == some .cell) = true
      · simp only [hc, if_true, List.lookup_cons, hx]
        exact .inl trivial
      · simp only [hc, if_false, List.lookup_cons, hx, Bool.false_eq_true]
        exact .inr trivial
    | false =>
      rw [hx] at h
      by_cases hc : (k == NameKind.free && env.scope.kind == .function && env.kindOf n == some .cell) = true
      · simp only [hc, if_true, List.lookup_cons, hx]
        exact ih h
      · simp only [hc, if_false, List.lookup_cons, hx, Bool.false_eq_true]
        exact ih h
theorem caps_of {X : Cx} {scope : Scope} {cp : List (Nat × Str)} {sc : Scope} {N : List Str} (hcell : ∀ x, X.env.scope.names.lookup x = some .cell → ∃ c, X.env.cells.lookup x = some c) (hs : X.env.scope = sc := by rfl) (hN : X.N = N := by rfl)
    (kind : scope.kind = .function := by rfl) (plain : ∀ y ∈ scope.names, y.2 ≠ .cell := by decide) (names : ∀ y ∈ scope.names, y.2 = .local → scope.names.lookup y.1 = some .local := by decide +kernel)
    (free : ∀ y ∈ scope.names, y.2 = .free → sc.names.lookup y.1 = some .cell := by decide +kernel) (at' : ∀ p ∈ cp, N[p.1]? = some p.2 ∧ sc.names.lookup p.2 = some .cell ∧ scope.names.lookup p.2 = some .free := by decide +kernel) :
    Caps X scope (clFold X.env.cells scope.names []) cp := by
  subst hs hN
  have hf : ∀ y ∈ scope.names, y.2 = .free → ∃ c, X.env.cells.lookup y.1 = some c := fun y hy e => hcell _ (free y hy e)
  refine ⟨kind, plain, names, ?_, clFold_sub hf (fun x c e => by cases e), fun x h => ?_, fun p hp => ?_⟩
  · show closureFor scope X.env = _
    simp only [closureFor]
    have := closureFor_fold (env := X.env) (acc := []) hf
    exact (congrArg (fun z => z >>= fun r => pure r) this).trans (pure_bind _ _)
  · have hm : ∀ k, (relabel scope X.env).names.lookup x = some k → (k = .cell ∨ k = .free) → (x, NameKind.free) ∈ scope.names := fun k e hk => by
      have m := PySem.mem_of_lookup e
      unfold relabel at m
      obtain ⟨⟨n, k'⟩, hy, e'⟩ := List.mem_map.mp m
      have nc := plain _ hy
      by_cases hc : (k' == NameKind.free && X.env.scope.kind == .function && X.env.kindOf n == some .cell) = true
      · simp only [hc, if_true] at e'
        have e1 : n = x := congrArg (·.1) e'
        have : k' = .free := by simp only [Bool.and_eq_true, beq_iff_eq] at hc; exact hc.1.1
        subst e1 this
        exact hy
      · simp only [hc, if_false, Bool.false_eq_true] at e'
        have e1 : n = x := congrArg (·.1) e'
        have e2 : k' = k := congrArg (·.2) e'
        subst e1 e2
        rcases hk with z | z
        · exact absurd z nc
        · subst z; exact hy
    rcases h with h | h
    · exact clFold_has (hm _ h (.inl rfl))
    · exact clFold_has (hm _ h (.inr rfl))
  · obtain ⟨h1, h2, h3⟩ := at' p hp
    exact ⟨h1, .inl h2, relabel_kind h3⟩
end L2

namespace L2
open PySem PySem.Spec PyProof.Rows PySem.Builtin PySem.Builtin.Str
/-! ### what a slice of a text is -/
end L2

namespace L2
open PySem PySem.Spec PyProof.Rows
/-! ### for over a dict: it stands still while it is walked -/
section
variable {X : Cx} {pins : List (Addr × Obj)} {σ : St} {H : Hp} {s : Shared} {d : Addr}
end
section
variable {X : Cx} {tg : Expr}
end
end L2

namespace L2
open PySem PySem.Spec PyProof.Rows
/-! ### list.insert -/
section
variable {X : Cx}
/-! ### dict(d) -/
/-! ### d != e, where both hold the same things -/
end
/-! ### for k, v in d.items() -/
section
variable {X : Cx} {elts : List Expr} {x1 : Nat} {tpos apos pos : Pos}
end
/-! ### xs != [], xs[::-1], what is never come to -/
section
variable {X : Cx} {e st : Expr} {te : TE} {ts : TO} {p2 pos : Pos}
theorem ps_dead {st : Stmt} : PS X st (fun _ _ _ => False) := fun _ _ _ _ _ _ h => h.elim
end
end L2

namespace L2
open PySem PySem.Spec PyProof.Rows
/-! ### lambdas: the table of the code that makes them is tracked by what is true of it -/
/-- what the base tells of the code that makes lambdas -/
structure Maker (mg : Str → Option Value) (base : Heap) (c P : Addr) : Prop where
  hd : PySem.W.CodeHd base c P
  bt : base.BuiltinsAt mg P
section
variable {X : Cx}
theorem triples_app : ∀ {xs : List Value} {l c : Nat} {a : Addr}, TriplesOk xs → TriplesOk (xs ++ [rawInt l, rawInt c, .ref a])
  | [], _, _, _, _ => trivial
  | .int _ _ :: .int _ _ :: _ :: rest, _, _, _, t => triples_app (xs := rest) t
theorem triples_more {ps : Array Value} {l c : Nat} {a : Addr} (t : TriplesOk ps.toList) : TriplesOk (ps ++ #[rawInt l, rawInt c, .ref a]).toList := by
  rw [Array.toList_append]
  exact triples_app t
end
/-! ### the head, with tables -/
/-- a def whose code's table stands in the written part -/
structure TabOf (q : Program) (K : PySem.W.Frag) (z : Addr × Addr) : Prop where
  ex : ∃ x : Str, ((recsOf q).find? (fun e => e.name == x)).isSome = true ∧ PySem.W.tabIn K x = some z
theorem noTab {K : PySem.W.Frag} {h : Heap} {a : Addr} {ps : Array Value} (hK : PySem.W.noTabs K = true) (X : K.In h) (e : h.get? a = some (PySem.W.tabObj ps)) : K.lookup a = none := by
  cases q : K.lookup a with
  | none => rfl
  | some o =>
    have e2 := X a o q
    rw [e] at e2
    cases e2
    have h2 := List.all_eq_true.mp hK (a, _) (PySem.W.mem_of_lookupK q)
    exact absurd (show false = true from h2) Bool.false_ne_true
end L2

namespace L2
open PySem PySem.Spec PyProof.Rows
/-! ### C.m(x, ..): a method called through its class -/
/-- what the written part tells of a class whose method m is read from it -/
structure ClsM (K : PySem.W.Frag) (C : Addr) (m : Str) : Prop where
  ga : PySem.W.specialIn K (.ref C) "__getattribute__" = some (some (.builtin "type.__getattribute__"))
  ex : ∃ (mc : Value) (f : Addr), PySem.W.readsIn K C mc = true ∧ PySem.W.findCls K (.ref C) mc m = some (.val (.ref f)) ∧ PySem.W.findIn K (.ref C) m = some (some (.ref f))
section
variable {X : Cx} {CX : CXT} {k : Nat} {C : Addr} {ps : List Str} {sp : Sp} {E : XK} {x m : Str} {p pos apos : Pos} {e o : Expr} {es : List Expr} {t : TA} {ta : TE}
theorem pe_clsN {pl : Sem Bool} (he : PE X o (tC (.ref C))) (c : ClsM X.K C m) (G : KnownM X.prog X.w X.K X.mg X.base CX k C m ps sp) (hr : Room k X.A) (hx : Passes CX X E) (ha : PA X (e :: es) t)
    (hst : starEach (e :: es) X.env = (false, eval e X.env) :: starEach es X.env := by rfl) (hpl : (backTo pos (starEach es X.env)).any (·.1) = false := by rfl)
    (ht : eval (.Call (.Attribute o m apos) (e :: es) [] pos) X.env = (do
      let ov ← eval o X.env
      standAt apos.atName
      let (f, first) ← holding [ov] (getMethod ov m pl)
      callWith pos f first (backTo pos (starEach (e :: es) X.env)) (backToKw pos (keywordEach [] X.env))) := by rfl) :
    PE X (.Call (.Attribute o m apos) (e :: es) [] pos) (tCall sp [] E t) := by
  obtain ⟨f, fd, F, hm, hb⟩ := G.ex
  intro pins s σ H Q I h
  refine PySem.W.methodCall_KW (pl := pl) (thn (he pins s σ H (fun v H1 => v = .ref C ∧ H1 = H) I ⟨rfl, rfl⟩) fun u s1 ⟨x, H1, I1, rx, q⟩ => ?_) ht
  obtain ⟨rfl, rfl⟩ := q
  obtain rfl : u = Value.ref C := rx
  obtain ⟨mc, f', h1, h2, h3⟩ := c.ex
  have e1 := hm.at_
  rw [h3] at e1
  cases e1
  refine PySem.W.method_cls I1.kIn c.ga (PySem.W.cls_value I1.kIn h1 h2 rfl ?_)
  refine PySem.W.callWith_K (first := []) (h₀ := X.base) I.ok.mod.kin hm.kp (thn (ha pos pins _ σ _ _ (I1.tok _) h) fun us s2 ⟨vs, H2, I2, r, q2⟩ => ⟨I2.kIn, ?_⟩) hst hpl
  exact run_fn (us := us) (vs := vs) F hr hb .nil hx I2 r q2
end
end L2
namespace L2
open PySem PySem.Spec PyProof.Rows
/-! ### a def that makes lambdas: its code's table -/
structure DefT (K : PySem.W.Frag) (mg : Str → Option Value) (x : Str) (st : Stmt) (z : Addr × Addr) : Prop where
  ex : ∃ f fd, Fun K x x st f fd ∧ mg x = some (.ref f) ∧ fd.code = .ref z.1
  tab : PySem.W.tabIn K x = some z
section
variable {P : Program} {w : World} {K : PySem.W.Frag} {mg : Str → Option Value} {base : Heap}
theorem tab_mk {x : Str} {f c p : Addr} {oc wo : Value} {od wd : Option Addr} {fd : FuncData} {osl ws : Array (Option Value)} {vs : Array Value} (a : PySem.W.nsIn K mainGlobals x = some (some (.ref f)))
    (l : K.lookup f = some ⟨oc, od, .func fd, osl⟩) (hc : fd.code = .ref c) (w : K.lookup c = some ⟨wo, wd, .fields vs, ws⟩) (h : vs[11]? = some (.ref p)) : PySem.W.tabIn K x = some (c, p) := by
  unfold PySem.W.tabIn
  rw [a]
  dsimp only
  rw [l]
  dsimp only
  rw [hc]
  dsimp only
  rw [w]
  dsimp only
  rw [h]
theorem top_defT {h : Heap} {x : Str} {st : Stmt} {f c p : Addr} {oc wo : Value} {od an wd : Option Addr} {osl ws : Array (Option Value)} {kV doc pm ct : Value} {vs : Array Value} (X : K.In h) (G : h.Ns mainGlobals mg) (a : PySem.W.nsIn K mainGlobals x = some (some (.ref f)))
    (l : K.lookup f = some ⟨oc, od, .func (PySem.W.fnOf x x (defArgs st) (defBody st) (defScope st) .none kV doc pm an (.ref c) ct), osl⟩) (hc : PySem.W.codeIn K (.ref c) x = true) (k : PySem.W.keepIn K (.ref f) = true)
    (w : K.lookup c = some ⟨wo, wd, .fields vs, ws⟩) (t : vs[11]? = some (.ref p)) : DefT K mg x st (c, p) :=
  ⟨⟨f, _, fun_mk l hc k, PySem.W.mg_of X G a, rfl⟩, tab_mk a l rfl w t⟩
end
end L2

namespace L2
open PySem PySem.Spec PyProof.Rows
/-! ### text.index(text) -/
end L2

namespace L2
open PySem PySem.Spec PyProof.Rows
/-! ### x in a list, by the data -/
section
variable {X : Cx}
theorem op_inD (hu : X.A.units + 64 < cLine) : OpR X (compareOp .In) (fun x y H Q => ∃ d ds, Dt X.K H x d ∧ Dt X.K H y (.list ds) ∧ d.canLay0 = true ∧ (PyData.list ds).canLay0 = true ∧ d.depth ≤ 62 ∧ Q (.bl (ds.any fun z => PyData.eqv z d)) H) := by
  intro pins s σ H x y v u Q I rx ry h
  obtain ⟨d, ds, hx, hy, lx, ly, hd, q⟩ := h
  obtain ⟨as, ra⟩ := Dt.reads I hx rx lx
  obtain ⟨bs, rb⟩ := Dt.reads I hy ry ly
  exact SeqAt.in_list_reads rb ra ly lx (by have := Nat.min_le_right (PyData.depthAll ds) d.depth; omega) ⟨.bl _, H, I, rfl, q⟩
theorem op_notinD (hu : X.A.units + 64 < cLine) : OpR X (compareOp .NotIn) (fun x y H Q => ∃ d ds, Dt X.K H x d ∧ Dt X.K H y (.list ds) ∧ d.canLay0 = true ∧ (PyData.list ds).canLay0 = true ∧ d.depth ≤ 62 ∧ Q (.bl (!ds.any fun z => PyData.eqv z d)) H) := by
  intro pins s σ H x y v u Q I rx ry h
  obtain ⟨d, ds, hx, hy, lx, ly, hd, q⟩ := h
  obtain ⟨as, ra⟩ := Dt.reads I hx rx lx
  obtain ⟨bs, rb⟩ := Dt.reads I hy ry ly
  exact SeqAt.notIn_list_reads rb ra ly lx (by have := Nat.min_le_right (PyData.depthAll ds) d.depth; omega) ⟨.bl _, H, I, rfl, q⟩
end
/-! ### spots: pairs of texts -/
abbrev spD (p : Str × Str) : PyData := .tuple [.str p.1, .str p.2]
theorem spD_eqv (p q : Str × Str) : PyData.eqv (spD p) (spD q) = decide (p = q) := by
  obtain ⟨a, b⟩ := p
  obtain ⟨c, d⟩ := q
  show (a == c && (b == d && true)) = decide ((a, b) = (c, d))
  rw [Bool.and_true]
  by_cases h1 : a = c
  · by_cases h2 : b = d
    · subst h1; subst h2
      simp
    · rw [decide_eq_false (fun e => h2 (Prod.mk.inj e).2), beq_eq_false_iff_ne.mpr h2, Bool.and_false]
  · rw [decide_eq_false (fun e => h1 (Prod.mk.inj e).1), beq_eq_false_iff_ne.mpr h1, Bool.false_and]
theorem spD_any (p : Str × Str) : ∀ ps : List (Str × Str), ((ps.map spD).any fun z => PyData.eqv z (spD p)) = decide (p ∈ ps)
  | [] => rfl
  | q :: ps => by
    rw [List.map_cons, List.any_cons, spD_any p ps, spD_eqv]
    by_cases h : p = q
    · subst h; simp
    · rw [decide_eq_false (fun e => h e.symm), Bool.false_or]
      simp [h]
/-- what is told more than once, once -/
def onceOf (ps : List (Str × Str)) : List (Str × Str) := ps.foldl (fun acc p => if p ∈ acc then acc else acc ++ [p]) []
theorem onceOf_snoc (ps : List (Str × Str)) (p : Str × Str) : onceOf (ps ++ [p]) = if p ∈ onceOf ps then onceOf ps else onceOf ps ++ [p] := by
  unfold onceOf
  rw [List.foldl_append]
  rfl
theorem onceOf_le : ∀ ps : List (Str × Str), (onceOf ps).length ≤ ps.length := by
  suffices h : ∀ (ps acc : List (Str × Str)), (ps.foldl (fun acc p => if p ∈ acc then acc else acc ++ [p]) acc).length ≤ acc.length + ps.length by
    intro ps
    have := h ps []
    simpa [onceOf] using this
  intro ps
  induction ps with
  | nil => intro acc; simp
  | cons p ps ih =>
    intro acc
    rw [List.foldl_cons]
    refine Nat.le_trans (ih _) ?_
    split
    · simp
    · simp; omega
theorem onceOf_mem : ∀ {ps : List (Str × Str)} {p : Str × Str}, p ∈ onceOf ps → p ∈ ps := by
  suffices h : ∀ (ps acc : List (Str × Str)) (p : Str × Str), p ∈ ps.foldl (fun acc p => if p ∈ acc then acc else acc ++ [p]) acc → p ∈ acc ∨ p ∈ ps by
    intro ps p hp
    rcases h ps [] p hp with h | h
    · cases h
    · exact h
  intro ps
  induction ps with
  | nil => intro acc p h; exact .inl h
  | cons q ps ih =>
    intro acc p h
    rw [List.foldl_cons] at h
    rcases ih _ p h with h | h
    · split at h
      · exact .inl h
      · rcases List.mem_append.mp h with h | h
        · exact .inl h
        · exact .inr (by rw [List.mem_singleton.mp h]; exact List.mem_cons_self)
    · exact .inr (List.mem_cons_of_mem _ h)
end L2

namespace L2
open PySem PySem.Spec PyProof.Rows
/-! ### lambdas that are called -/
/-- a thing that is known to the object, and nothing more -/
def Fz (o : Obj) : HO := .frz o (.ext fun _ => True)
theorem fz_ok {P : Program} {w : World} {H : Hp} {h : Heap} {a : Addr} {o : Obj} (e : h.get? a = some o) : ObjOk P w H h a (Fz o) := ⟨e, trivial, ⟨o, e⟩, fun _ _ _ _ => trivial⟩
def CodeO (q : Str) (o : Obj) : Prop := ∃ vs t, o.data = .fields vs ∧ vs[1]? = some (.str q t)
/-- a code object's table: the code in it stands at S -/
def TabC (P : Addr) (S : List Addr) : HO := .ext fun h => ∃ ps : Array Value, h.get? P = some (PySem.W.tabObj ps) ∧ TriplesOk ps.toList ∧ ∀ pos cv, codeAmong pos ps.toList = some cv → ∃ c ∈ S, cv = .ref c
def TabIn (q : Str) (H : Hp) (P : Addr) : Prop := ∃ S, H P = some (TabC P S) ∧ ∀ c ∈ S, ∃ o, H c = some (Fz o) ∧ CodeO q o
def LamAt (q : Str) (params : Arguments) (body : Expr) (scope : Scope) (clos : List (Str × Addr)) (H : Hp) (fa : Addr) : Prop :=
  ∃ pm c ctv o, H fa = some (Fz (PySem.W.kla_obj "<lambda>" q params body scope clos pm c ctv)) ∧ H c = some (Fz o) ∧ CodeO q o
theorem tabC_ok {P : Program} {w : World} {H : Hp} {h : Heap} {a : Addr} {ps : Array Value} {S : List Addr} (e : h.get? a = some (PySem.W.tabObj ps)) (t : TriplesOk ps.toList) (c : ∀ pos cv, codeAmong pos ps.toList = some cv → ∃ c ∈ S, cv = .ref c) : ObjOk P w H h a (TabC a S) :=
  ⟨⟨ps, e, t, c⟩, ⟨_, e⟩, fun h1 h2 ⟨qs, e1, t1⟩ k => ⟨qs, k _ e1, t1⟩⟩
theorem among_app {pos : Pos} {l c : Nat} {a : Addr} {cv : Value} : ∀ {xs : List Value}, TriplesOk xs → codeAmong pos (xs ++ [rawInt l, rawInt c, .ref a]) = some cv → codeAmong pos xs = some cv ∨ cv = .ref a
  | [], _, h => by
    right
    simp only [List.nil_append, rawInt, codeAmong] at h
    split at h
    · exact (Option.some.inj h).symm
    · cases h
  | .int x _ :: .int y _ :: z :: rest, t, h => by
    simp only [List.cons_append, codeAmong] at h ⊢
    split at h
    · rename_i e
      rw [if_pos e]
      exact .inl h
    · rename_i e
      rw [if_neg e]
      exact among_app (xs := rest) t h
theorem hok_fz {P : Program} {w : World} {H : Hp} {h : Heap} {c : Addr} {o : Obj} (x : HOk P w H h) (hn : H c = none) (e : h.get? c = some o) : HOk P w (upd H c (Fz o)) h := fun b u q => by
  by_cases hb : b = c
  · subst hb; rw [upd_same] at q; cases q; exact fz_ok e
  · rw [upd_ne hb] at q
    exact (x b u q).stay (fun _ _ _ z => z) (fun d z => by rw [upd_ne (ne_of_none z hn)]; exact z) fun d xs z => by rw [upd_ne (ne_of_none z hn)]; exact z
/-- all but what stands at P is as it was -/
def SameX (P : Addr) (H H' : Hp) : Prop := ∀ b o, b ≠ P → H b = some o → H' b = some o
def tLamF (P : Addr) (q : Str) (params : Arguments) (body : Expr) (scope : Scope) (clos : List (Str × Addr)) : TE := fun _ H Q => TabIn q H P ∧ ∀ a H', H a = none → SameX P H H' → TabIn q H' P → LamAt q params body scope clos H' a → Q (.ref a) H'
section
variable {X : Cx}
theorem pe_lamF {params : Arguments} {body : Expr} {scope : Scope} {pos : Pos} {c P : Addr} {clos : List (Str × Addr)} (M : Maker X.mg X.base c P) (hc : X.env.code = .ref c) (hcl : closureFor scope X.env = pure clos) (hdef : defaultsOf params X.env = ([], [])) :
    PE X (.Lambda params body scope pos) (tLamF P (X.env.qual ++ "<lambda>") params body scope clos) := by
  intro pins s σ H Q I h
  obtain ⟨⟨S, hP, hS⟩, q⟩ := h
  obtain ⟨⟨ps, e, t, tc⟩, _, _⟩ := I.hok P _ hP
  have hg : s.heap.Ns mainGlobals X.mg := I.mod.glob.keeps I.bk
  have C := M.hd.keeps I.bk
  have hb : s.heap.BuiltinsAt X.mg P := let ⟨bm, o, b1, b2, b3, b4, b5, r⟩ := M.bt; ⟨bm, o, b1, b2, b3, b4, I.bk _ _ b5, r⟩
  have hgP : mainGlobals ≠ P := fun z => by
    obtain ⟨o, es, ep, e1, hd, _⟩ := hg
    rw [z, e] at e1; cases e1; cases hd
  refine PySem.W.kla_eval hdef ?_
  cases hf : codeAmong pos ps.toList with
  | none =>
    refine PySem.W.kla_makeFunction (mg := X.mg) hcl I.ok.glob hg hc C e t hf hgP hb fun c' ctv h' tk hx hge hlt hrec htb => ?_
    obtain ⟨c1, oc, vs, tq, ec, goc, doc, dq⟩ := hrec
    obtain rfl : c' = c1 := by cases ec; rfl
    have nP : ∀ b, H b = none → b ≠ P := fun b n z => by rw [z, hP] at n; cases n
    have hPlt : P < s.heap.objs.size := Heap.lt_size e
    have goc' : (h'.push (PySem.W.kla_obj "<lambda>" (X.env.qual ++ "<lambda>") params body scope clos ((X.mg "__name__").getD .none) c' ctv)).get? c' = some oc := Heap.get?_push_of_some _ goc
    have cP : c' ≠ P := Nat.ne_of_gt (Nat.lt_of_lt_of_le hPlt hge)
    have aP : h'.objs.size ≠ P := Nat.ne_of_gt (Nat.lt_of_lt_of_le hPlt (Nat.le_of_lt (Nat.lt_of_le_of_lt hge hlt)))
    have ac : h'.objs.size ≠ c' := Nat.ne_of_gt hlt
    have fr : ∀ b, s.heap.objs.size ≤ b → H b = none := fun b z => I.hok.fresh z
    have hk : ∀ b u, b ≠ P → s.heap.get? b = some u → (h'.push (PySem.W.kla_obj "<lambda>" (X.env.qual ++ "<lambda>") params body scope clos ((X.mg "__name__").getD .none) c' ctv)).get? b = some u := fun b u nb eb => Heap.get?_push_of_some _ (hx b u nb eb)
    have hok1 : HOk X.prog X.w (upd H P (TabC P (c' :: S))) (h'.push (PySem.W.kla_obj "<lambda>" (X.env.qual ++ "<lambda>") params body scope clos ((X.mg "__name__").getD .none) c' ctv)) :=
      I.hok.write (x := P) (e := P) (by rw [hP]; trivial) (.inl rfl) hk ⟨_, Heap.get?_push_of_some _ htb⟩ (tabC_ok (Heap.get?_push_of_some _ htb) (triples_more t) fun pos cv z => by
        rw [Array.toList_append] at z
        rcases among_app t z with z | z
        · obtain ⟨d, hd, r⟩ := tc pos cv z
          exact ⟨d, List.mem_cons_of_mem _ hd, r⟩
        · exact ⟨c', List.mem_cons_self, z⟩)
    have n1 : upd H P (TabC P (c' :: S)) c' = none := by rw [upd_ne cP]; exact fr _ hge
    have hok2 := hok_fz hok1 n1 goc'
    have n2 : upd (upd H P (TabC P (c' :: S))) c' (Fz oc) h'.objs.size = none := by rw [upd_ne ac, upd_ne aP]; exact fr _ (Nat.le_of_lt (Nat.lt_of_le_of_lt hge hlt))
    have hok3 := hok_fz hok2 n2 (Heap.get?_push_size _ rfl)
    have sm : ∀ b, b ≠ P → H b ≠ none → upd (upd (upd H P (TabC P (c' :: S))) c' (Fz oc)) h'.objs.size (Fz (PySem.W.kla_obj "<lambda>" (X.env.qual ++ "<lambda>") params body scope clos ((X.mg "__name__").getD .none) c' ctv)) b = H b := fun b z1 z2 => by
      have y1 : b ≠ h'.objs.size := fun z => z2 (by rw [z]; exact fr _ (Nat.le_of_lt (Nat.lt_of_le_of_lt hge hlt)))
      have y2 : b ≠ c' := fun z => z2 (by rw [z]; exact fr _ hge)
      rw [upd_ne y1, upd_ne y2, upd_ne z1]
    have sv : ∀ b o, b ≠ P → H b = some o → upd (upd (upd H P (TabC P (c' :: S))) c' (Fz oc)) h'.objs.size (Fz (PySem.W.kla_obj "<lambda>" (X.env.qual ++ "<lambda>") params body scope clos ((X.mg "__name__").getD .none) c' ctv)) b = some o := fun b o z1 z2 => by
      rw [sm b z1 (by rw [z2]; intro z; cases z)]; exact z2
    have J := I.step (h' := h'.push (PySem.W.kla_obj "<lambda>" (X.env.qual ++ "<lambda>") params body scope clos ((X.mg "__name__").getD .none) c' ctv)) (g' := s.gens) (t' := tk) (d' := s.drawn) (ch := []) (fun _ z => nomatch z)
      (fun b o _ _ _ eb n => hk b o (nP b n) eb) (fun b o _ _ _ eb n => ⟨o.slots, hk b o (nP b n) eb⟩)
      (fun b o _ eb n => by rw [upd_ne (Nat.ne_of_lt (Nat.lt_of_lt_of_le (Heap.lt_size eb) (Nat.le_of_lt (Nat.lt_of_le_of_lt hge hlt)))), upd_ne (Nat.ne_of_lt (Nat.lt_of_lt_of_le (Heap.lt_size eb) hge)), upd_ne (nP b n)]; exact n)
      (fun b o _ eb => by
        by_cases z : b = P
        · subst z; exact ⟨_, Heap.get?_push_of_some _ htb⟩
        · exact ⟨o, hk b o z eb⟩)
      (fun b xs z => sv b _ (fun y => by rw [y, hP] at z; cases z) z) (fun b o u z => sv b _ (fun y => by rw [y, hP] at z; cases z) z) (fun b ps z => ⟨#[], by rw [sv b _ (fun y => by rw [y, hP] at z; cases z) z]; simp⟩)
      (fun m ⟨o, es, ep, ho, r⟩ => ⟨o, es, ep, hk _ o (nP _ I.free) ho, r⟩) hok3 I.bare
    refine ⟨.ref h'.objs.size, _, J, rfl, q _ _ (fr _ (Nat.le_of_lt (Nat.lt_of_le_of_lt hge hlt))) (fun b o z1 z2 => sv b o z1 z2) ⟨c' :: S, ?_, fun d hd => ?_⟩ ⟨_, c', ctv, oc, upd_same, ?_, vs, tq, doc, dq⟩⟩
    · rw [upd_ne (Ne.symm aP), upd_ne (Ne.symm cP), upd_same]
    · rcases List.mem_cons.mp hd with rfl | hd
      · exact ⟨oc, by rw [upd_ne (Ne.symm ac), upd_same], vs, tq, doc, dq⟩
      · obtain ⟨o, e1, e2⟩ := hS d hd
        exact ⟨o, sv d _ (fun y => by rw [y, hP] at e1; cases e1) e1, e2⟩
    · rw [upd_ne (Ne.symm ac), upd_same]
  | some cv =>
    obtain ⟨d, hd, rfl⟩ := tc _ _ hf
    obtain ⟨od, e1, e2⟩ := hS d hd
    refine PySem.W.kla_makeFunctionHit (mg := X.mg) hcl I.ok.glob hg hc C e t hf hb fun ctv h' tk hk hsz => ?_
    have fr : H h'.objs.size = none := I.hok.fresh hsz
    have sv : ∀ b o, H b = some o → upd H h'.objs.size (Fz (PySem.W.kla_obj "<lambda>" (X.env.qual ++ "<lambda>") params body scope clos ((X.mg "__name__").getD .none) d ctv)) b = some o := fun b o z => by
      rw [upd_ne (ne_of_none z fr)]; exact z
    refine ⟨.ref h'.objs.size, _, I.laid (a := h'.objs.size) (o := Fz (PySem.W.kla_obj "<lambda>" (X.env.qual ++ "<lambda>") params body scope clos ((X.mg "__name__").getD .none) d ctv)) (fun b o eb => Heap.get?_push_of_some _ (hk b o eb)) hsz (fz_ok (Heap.get?_push_size _ rfl)), rfl,
      q _ _ fr (fun b o _ z => sv b o z) ⟨S, sv _ _ hP, fun d' hd' => ?_⟩ ⟨_, d, ctv, od, upd_same, sv _ _ e1, e2⟩⟩
    obtain ⟨o, e3, e4⟩ := hS d' hd'
    exact ⟨o, sv _ _ e3, e4⟩
end
end L2

namespace L2
open PySem PySem.Spec PyProof.Rows
/-! ### the maker's cells, lent to those that it calls -/
abbrev Lend := Addr → Option Obj
def lend (f : Lend) (H : Hp) : Hp := fun b => match f b with
  | some o => some (Fz o)
  | none => H b
theorem lend_at {f : Lend} {H : Hp} {b : Addr} {o : Obj} (e : f b = some o) : lend f H b = some (Fz o) := by unfold lend; rw [e]
theorem lend_no {f : Lend} {H : Hp} {b : Addr} (e : f b = none) : lend f H b = H b := by unfold lend; rw [e]
section
variable {P : Program} {w : World} {H H' : Hp} {h h' : Heap} {f : Lend} {fs : List Addr}
theorem hok_lend (x : HOk P w H h) (hf : ∀ b o, f b = some o → H b = none ∧ h.get? b = some o) : HOk P w (lend f H) h := fun b u q => by
  have keep : ∀ c v, H c = some v → lend f H c = some v := fun c v z => by
    cases e : f c with
    | none => rw [lend_no e]; exact z
    | some o => rw [(hf c o e).1] at z; cases z
  cases e : f b with
  | none =>
    rw [lend_no e] at q
    exact (x b u q).stay (fun _ _ _ z => z) (fun c z => keep c _ z) fun c xs z => keep c _ z
  | some o =>
    rw [lend_at e] at q
    cases q
    exact fz_ok (hf b o e).2
end
structure Lent (X : Cx) (σ : St) (H : Hp) (f : Lend) : Prop where
  free : ∀ b o, f b = some o → H b = none
  cell : ∀ x c, X.env.cells.lookup x = some c → ∃ o v, f c = some o ∧ o.data = .cell v
  val : ∀ (i : Nat) x v, X.N[i]? = some x → σ[i]? = some (some v) → X.env.scope.names.lookup x = some .cell → ∃ c o u, X.env.cells.lookup x = some c ∧ f c = some o ∧ o.data = .cell (some u) ∧ RelV v u
  inj : ∀ x y c, X.env.cells.lookup x = some c → X.env.cells.lookup y = some c → x = y
section
variable {X : Cx} {k : Nat} {C : Addr} {ps : List Str} {sp : Sp} {x m : Str} {p pos apos : Pos} {e o : Expr} {es : List Expr} {t : TA} {ta : TE}
end
/-! ### a lambda runs -/
structure LamFn (P : Program) (w : World) (K : PySem.W.Frag) (mg : Str → Option Value) (base : Heap) (k : Nat) (fa : Addr) (sp : Sp) : Prop where
  fn : ∀ vs H Q E, sp vs H Q E → ∃ c d fd sl, H fa = some (Fz ⟨c, d, .func fd, sl⟩)
  run : ∀ (A : Around) (outer : List Env) (s : Shared) (H : Hp) (us : List Value) (vs : List V) (Q : VK) (E : XK), Room k A → Env0 P w K mg base A outer s H → Vals vs us → sp vs H Q E →
    codeAny (model P w) A (.call (.ref fa) ⟨us, []⟩) (CR CX0 outer P w H s Q E) s
section
variable {X : Cx} {k : Nat} {x : Str} {p pos : Pos} {e : Expr} {es : List Expr} {t : TA}
end
end L2

namespace L2
open PySem PySem.Spec PyProof.Rows
/-! ### what a lambda promises -/
/-! ### the head, with tables of code that is called -/
abbrev TabsIn0 (tabs : List (Addr × Addr)) (H : Hp) : Prop := ∀ z ∈ tabs, H z.2 = some (TabC z.2 [])
abbrev TabsOut (tabs : List (Addr × Addr)) (H : Hp) : Prop := ∀ z ∈ tabs, ∃ S, H z.2 = some (TabC z.2 S)
theorem law_callC {P : Program} {w : World} {K : PySem.W.Frag} {mg mb : Str → Option Value} {CX : CXT} {k : Nat} {fa a : Addr} {fd : FuncData} {x : Str} {sp : Sp} {s₁ : Shared} {vs : List Value} {ns : List Int} {tabs : List (Addr × Addr)}
    (KX : K.In s₁.heap) (hns : s₁.heap.Ns mainGlobals mg) (hb : s₁.heap.Ns builtinsNs mb) (hbb : ∀ x : Str, x ≠ "__name__" → mb x = bootBuiltins x) (hlim : s₁.heap.NoLimit) (hg : s₁.gens = #[])
    (ha : s₁.heap.get? a = some { cls := .type "list", data := .seq vs.toArray }) (hi : IntsAre vs ns) (hl : ns.length ≤ sizeLine) (hr : Room k callerA)
    (hT : ∀ z ∈ tabs, PySem.W.CodeHd s₁.heap z.1 z.2 ∧ s₁.heap.get? z.2 = some (PySem.W.tabObj #[]) ∧ K.lookup z.2 = none)
    (hbm : ∃ bm ob, mg "__builtins__" = some (.ref bm) ∧ bm ≠ builtinsNs ∧ s₁.heap.get? bm = some ob ∧ ob.cls = .type "module" ∧ ob.dict = some builtinsNs ∧ ob.data = .plain)
    (F : ∀ base : Heap, K.In base → base.Ns mainGlobals mg → (∀ z ∈ tabs, Maker mg base z.1 z.2) → FnOk P w K mg base CX k fa fd [x] sp) (hbind : ∀ (s : Shared) (u : Value), BindsTo s fd ⟨[u], []⟩ [(x, u)])
    (hsp : ∀ H : Hp, TabsIn0 tabs H → SqL K H a (ns.map V.int) → sp [.ref a] H (fun v H' => v = .bl true ∧ TabsOut tabs H') fun _ _ _ => False)
    (hCX : ∀ H e s', CX [] H s₁ (fun _ _ _ => False) e s' → False) :
    codeAny (model P w) callerA (.call (.ref fa) ⟨[.ref a], []⟩) (fun r s' => r = .ok (.ret (.bool true)) ∧ OldK s₁.heap s'.heap ∧ s'.os = s₁.os ∧ AllBare s'.gens) s₁ := by
  have rv := vals_ints hi
  have lenV := hi.length
  have neT : ∀ z ∈ tabs, z.2 ≠ a := fun z hz e => by
    have e1 := (hT z hz).2.1
    rw [e, ha] at e1
    cases e1
  have core : ∀ H : Hp, TabsIn0 tabs H → (∀ b, H b = none ∨ (b = a ∧ K.lookup a = none ∧ ∃ o xs, H b = some (.frz o (.lst xs))) ∨ ∃ z ∈ tabs, b = z.2) → SqL K H a (ns.map V.int) → HOk P w H s₁.heap →
      codeAny (model P w) callerA (.call (.ref fa) ⟨[.ref a], []⟩) (fun r s' => r = .ok (.ret (.bool true)) ∧ OldK s₁.heap s'.heap ∧ s'.os = s₁.os ∧ AllBare s'.gens) s₁ := by
    intro H hTb hO hS hok
    have base_of : ∀ {b : Addr} {o : Obj}, s₁.heap.get? b = some o → H b = none → (hidT s₁.heap H).get? b = some o := fun e n => hidT_get e n
    have free : ∀ {b : Addr} {o : Obj}, s₁.heap.get? b = some o → o ≠ { cls := .type "list", data := .seq vs.toArray } → o ≠ PySem.W.tabObj #[] → H b = none := fun {b o} e n1 n2 => by
      rcases hO b with z | ⟨rfl, _, _⟩ | ⟨z, hz, rfl⟩
      · exact z
      · rw [ha] at e; exact absurd (Option.some.inj e).symm n1
      · rw [(hT z hz).2.1] at e; exact absurd (Option.some.inj e).symm n2
    have noA : ∀ {b : Addr} {o : Obj} {es : Array DictEntry} {ep : Nat}, s₁.heap.get? b = some o → o.data = .dict es ep → H b = none := fun {b o es ep} e d =>
      free e (fun z => by rw [z] at d; cases d) (fun z => by rw [z] at d; cases d)
    have nsK : ∀ {b : Addr} {m : Str → Option Value}, s₁.heap.Ns b m → (hidT s₁.heap H).Ns b m := fun {b m} ⟨o, es, ep, e, d, r⟩ => ⟨o, es, ep, base_of e (noA e d), d, r⟩
    have hKb : K.In (hidT s₁.heap H) := fun b o e => base_of (KX b o e) (by
      rcases hO b with z | ⟨rfl, z, _⟩ | ⟨z, hz, rfl⟩
      · exact z
      · rw [z] at e; cases e
      · rw [(hT z hz).2.2] at e; cases e)
    have hM : Mod K mg (hidT s₁.heap H) := ⟨hKb, nsK hns, ⟨mb, nsK hb, hbb⟩, let ⟨mc, h1, h2⟩ := hlim; ⟨mc, nsK h1, h2⟩⟩
    have e0 : Env0 P w K mg (hidT s₁.heap H) callerA [] s₁ H := ⟨rfl, hM, fun b o e => of_hidT e, Nat.le_of_eq (hidT_size _ _), trivial, fun b hb => absurd (show b ∈ ([] : List Addr) from hb) (by simp), hok, .of_eq hg⟩
    have hMk : ∀ z ∈ tabs, Maker mg (hidT s₁.heap H) z.1 z.2 := fun z hz => by
      obtain ⟨⟨o, ws, file, tf, flags, tg, inF, text, tt, e1, e2, r⟩, e3, _⟩ := hT z hz
      obtain ⟨bm, ob, b1, b2, b3, b4, b5, b6⟩ := hbm
      refine ⟨⟨o, ws, file, tf, flags, tg, inF, text, tt, base_of e1 (free e1 (fun q => by rw [q] at e2; exact absurd (Value.type.inj e2) (by decide)) (fun q => by rw [q] at e2; cases e2)), e2, r⟩, bm, ob, b1, b2, fun q => ?_, fun q => ?_, base_of b3 (free b3 (fun q => by rw [q] at b4; exact absurd (Value.type.inj b4) (by decide)) (fun q => by rw [q] at b4; cases b4)), b4, b5, b6⟩
      · obtain ⟨o', es, ep, e', d', _⟩ := hns
        rw [q, e'] at b3; cases b3; rw [d'] at b6; cases b6
      · rw [q, e3] at b3; cases b3; cases b4
    refine codeAny_mono ((F _ hKb (nsK hns) hMk).run callerA [] s₁ H ⟨[.ref a], []⟩ [.ref a] [.ref a] _ _ hr e0 (hbind s₁ (.ref a)) (.cons rfl .nil) (hsp H hTb hS)) fun r s' h => ?_
    cases r with
    | error e => exact (hCX H e s' h).elim
    | ok fl =>
      cases fl with
      | next => exact False.elim h
      | brk => exact False.elim h
      | cont => exact False.elim h
      | ret u =>
        obtain ⟨v, H', os, bare, un, hok', r', q⟩ := h
        obtain ⟨q', hT'⟩ : v = .bl true ∧ TabsOut tabs H' := q
        subst q'
        obtain rfl : u = Value.bool true := r'
        refine ⟨rfl, ⟨fun b o e => ?_, fun b o e => un.there b o e (by simp)⟩, os, bare⟩
        rcases hO b with z | ⟨rfl, _, ob, xs, z⟩ | ⟨z, hz, rfl⟩
        · exact .inl (un.keep b o e z (by intro z; exact absurd (show b ∈ ([] : List Addr) from z) (by simp)) (by simp))
        · have z2 := un.frzs b ob _ z
          obtain ⟨e1, _⟩ := hok b _ z
          obtain ⟨e2, _⟩ := hok' b _ z2
          rw [e] at e1; cases e1
          exact .inl e2
        · obtain ⟨S4, z4⟩ := hT' z hz
          obtain ⟨⟨ps, e4, _⟩, _⟩ := hok' z.2 _ z4
          have e3 := (hT z hz).2.1
          rw [e3] at e
          cases e
          exact .inr (.inl ⟨((hT z hz).1.tab e3).isCodeTable, rfl, #[], ps, rfl, by rw [e4, Array.empty_append]⟩)
  have hTok : ∀ (H : Hp) (z : Addr × Addr), z ∈ tabs → ObjOk P w H s₁.heap z.2 (TabC z.2 []) := fun H z hz => tabC_ok (hT z hz).2.1 trivial fun pos cv e => by cases e
  classical
  let Ht : Hp := fun b => if b ∈ tabs.map (·.2) then some (TabC b []) else none
  have hHt : TabsIn0 tabs Ht := fun z hz => if_pos (List.mem_map_of_mem hz)
  have ofHt : ∀ b u, Ht b = some u → ∃ z ∈ tabs, b = z.2 ∧ u = TabC z.2 [] := fun b u e => by
    by_cases hb : b ∈ tabs.map (·.2)
    · have e' := (if_pos hb).symm.trans e
      obtain ⟨z, hz, rfl⟩ := List.mem_map.mp hb
      exact ⟨z, hz, rfl, (Option.some.inj e').symm⟩
    · have e' := (if_neg hb).symm.trans e
      cases e'
  cases hk : K.lookup a with
  | some o =>
    have e := KX a o hk
    rw [ha] at e
    cases e
    refine core Ht hHt (fun b => ?_) (.inr ⟨_, vs.toArray, _, hk, rfl, rfl, rfl, by rw [List.size_toArray, lenV]; exact hl, by simpa using rv⟩) (fun b u z => ?_)
    · cases q : Ht b with
      | none => exact .inl rfl
      | some u => obtain ⟨z, hz, e, _⟩ := ofHt b u q; exact .inr (.inr ⟨z, hz, e⟩)
    · obtain ⟨y, hy, rfl, rfl⟩ := ofHt b u z
      exact hTok _ y hy
  | none =>
    refine core (fun b => if b = a then some (.frz { cls := .type "list", data := .seq vs.toArray } (.lst (ns.map V.int))) else Ht b) (fun z hz => ?_) (fun b => ?_) (.inl (.inr ⟨{ cls := .type "list", data := .seq vs.toArray }, if_pos rfl⟩)) (fun b u z => ?_)
    · exact (if_neg (neT z hz)).trans (hHt z hz)
    · by_cases hb : b = a
      · exact .inr (.inl ⟨hb, hk, _, _, if_pos hb⟩)
      · cases q : Ht b with
        | none => exact .inl (if_neg hb)
        | some u => obtain ⟨z, hz, e, _⟩ := ofHt b u q; exact .inr (.inr ⟨z, hz, e⟩)
    · by_cases hb : b = a
      · have z' := (if_pos hb).symm.trans z
        cases z'
        subst hb
        exact ⟨ha, by rw [List.length_map]; exact hl, vs, _, rv, ha⟩
      · have z' := (if_neg hb).symm.trans z
        obtain ⟨y, hy, rfl, rfl⟩ := ofHt b u z'
        exact hTok _ y hy
theorem walk_ofC {l : PySem.W.OpenLaw} {n k : Nat} {q : Program} {loose : List Str} {XP : (Str → Option Value) → Heap → Prop} {YP : World → Heap → Prop} {d : DefRec} {K : Params → PySem.W.Frag} {CX : World → CXT} {sp : World → List (Addr × Addr) → Sp} {x : Str}
    (hn : l.most = some n) (hn2 : n ≤ sizeLine) (hdf : d.params.defaults = []) (hr : Room k callerA)
    (hY : ∀ (w : World) (h : Heap), YP w h → (K w.params).In h)
    (F : ∀ (w : World) (mg : Str → Option Value) (fa : Addr) (h : Heap), (K w.params).In h → h.Ns mainGlobals mg → mg d.name = some (.ref fa) →
      PySem.W.noTabs (K w.params) = true ∧ ∃ tabs : List (Addr × Addr), (∀ z ∈ tabs, TabOf q (K w.params) z) ∧ ∃ fd : FuncData, (∀ (s : Shared) (u : Value), BindsTo s fd ⟨[u], []⟩ [(x, u)]) ∧
        ∀ base : Heap, (K w.params).In base → base.Ns mainGlobals mg → (∀ z ∈ tabs, Maker mg base z.1 z.2) → FnOk l.prog w (K w.params) mg base (CX w) k fa fd [x] (sp w tabs))
    (hsp : ∀ (w : World) (tabs : List (Addr × Addr)) (H : Hp) (a : Addr) (ns : List Int), ns.length ≤ n → TabsIn0 tabs H → SqL (K w.params) H a (ns.map V.int) → sp w tabs [.ref a] H (fun v H' => v = .bl true ∧ TabsOut tabs H') fun _ _ _ => False)
    (hCX : ∀ (w : World) (H : Hp) (s : Shared) (e : Value) (s' : Shared), CX w [] H s (fun _ _ _ => False) e s' → False) :
    PySem.W.WalkO q loose XP YP l.row.toRowW d [] (fun f vs => PySem.call f vs) := by
  refine Att.attach_call hn hdf fun w s₀ s₁ mg mb fa o pm cd doc a vs ns G Y ho hd hcd hmg hobj hints hlen hg => ?_
  have KX := hY w _ Y
  obtain ⟨hnT, tabs, hTb, fd, hb, hF⟩ := F w mg fa _ KX G.T.g hmg
  refine law_callC KX G.T.g G.T.b G.T.builtins G.T.nolimit hg hobj hints (Nat.le_trans hlen hn2) hr (fun z hz => ?_) G.T.bmain hF hb (fun H hO hS => hsp w tabs H a ns hlen hO hS) fun H e s' => hCX w H s₁ e s'
  obtain ⟨y, h1, h2⟩ := (hTb z hz).ex
  obtain ⟨d', h1⟩ := Option.isSome_iff_exists.mp h1
  obtain ⟨t1, t2⟩ := PySem.W.tab_of G.T KX h1 h2
  exact ⟨t1, t2, noTab hnT KX t2⟩
end L2

namespace L2
open PySem PySem.Spec PyProof.Rows
/-! ### o.f(..), f a field of the instance: a lambda -/
section
variable {X : Cx} {k : Nat} {m : Str} {p pos apos : Pos} {e o : Expr} {es : List Expr} {ta : TE} {t : TA}
end
/-! ### a def that returns a closure: its cells stay, known to the object -/
structure EndsR where
  nx : St → Hp → Prop
  rt : V → St → Hp → Prop
abbrev TSR := EndsR → St → Hp → Prop
def SPR (X : Cx) (pins : List (Addr × Obj)) (D : EndsR) (f : Flow) (s' : Shared) : Prop :=
  match f with
  | .next => ∃ σ' H', Inv X pins σ' H' s' ∧ D.nx σ' H'
  | .ret u => ∃ v σ' H', Inv X pins σ' H' s' ∧ RelV v u ∧ D.rt v σ' H'
  | _ => False
def PSR (X : Cx) (st : Stmt) (t : TSR) : Prop :=
  ∀ (pins : List (Addr × Obj)) (s : Shared) (σ : St) (H : Hp) (D : EndsR), Inv X pins σ H s → t D σ H → wpAny (model X.prog X.w) X.A (exec st X.env) (SPR X pins D) X.xe s
def PSRs (X : Cx) (st : List Stmt) (t : TSR) : Prop :=
  ∀ (pins : List (Addr × Obj)) (s : Shared) (σ : St) (H : Hp) (D : EndsR), Inv X pins σ H s → t D σ H → wpAny (model X.prog X.w) X.A (execs st X.env) (SPR X pins D) X.xe s
section
variable {X : Cx} {st : Stmt} {rest : List Stmt} {t u : TSR} {e : Expr} {te : TE} {pos : Pos}
def rSeq (t u : TSR) : TSR := fun D σ H => t { D with nx := u D } σ H
def rOf (t : TS) : TSR := fun D σ H => t { nx := D.nx, rt := fun _ _ => False } σ H
def rRet (te : TE) : TSR := fun D σ H => te σ H fun v H1 => D.rt v σ H1
theorem psr_cons (h1 : PSR X st t) (h2 : PSRs X rest u) : PSRs X (st :: rest) (rSeq t u) := by
  intro pins s σ H D I h
  refine wpAny_execs_cons (thn (h1 pins s σ H { D with nx := u D } I h) fun f s1 q => ?_)
  cases f with
  | next =>
    obtain ⟨σ', H', I', q⟩ := q
    exact h2 pins s1 σ' H' D I' q
  | ret v => exact q
  | brk => exact q
  | cont => exact q
theorem psr_one (h1 : PSR X st t) : PSRs X [st] t := by
  intro pins s σ H D I h
  refine wpAny_execs_cons (thn (h1 pins s σ H D I h) fun f s1 q => ?_)
  cases f with
  | next => exact wpAny_execs_nil q
  | ret v => exact q
  | brk => exact q
  | cont => exact q
theorem psr_of {t : TS} (h1 : PS X st t) : PSR X st (rOf t) := by
  intro pins s σ H D I h
  refine thn (h1 pins s σ H _ I h) fun f s1 q => ?_
  cases f with
  | next => exact q
  | ret v =>
    obtain ⟨_, _, _, _, _, z⟩ := q
    exact False.elim z
  | brk =>
    obtain ⟨_, _, _, z⟩ := q
    exact z
  | cont =>
    obtain ⟨_, _, _, z⟩ := q
    exact z
theorem psr_ret (he : PE X e te) : PSR X (.Return (some e) pos) (rRet te) := by
  intro pins s σ H D I h
  exact wpAny_Return_some (thn (he pins s σ H _ I h) fun v s1 ⟨x, H1, I1, r1, q1⟩ => ⟨x, σ, H1, I1, r1, q1⟩)
end
theorem lent_dom {X : Cx} {pins : List (Addr × Obj)} {σ : St} {H : Hp} {s : Shared} (I : Inv X pins σ H s) : ∃ f : Lend, Lent X σ H f ∧ (∀ b o, f b = some o → H b = none ∧ s.heap.get? b = some o ∧ ∃ x, X.env.cells.lookup x = some b) := by
  classical
  let f : Lend := fun b => if (∃ x, X.env.cells.lookup x = some b) then s.heap.get? b else none
  have fe : ∀ {b o}, f b = some o → (∃ x, X.env.cells.lookup x = some b) ∧ s.heap.get? b = some o := fun {b o} e => by
    by_cases z : ∃ x, X.env.cells.lookup x = some b
    · exact ⟨z, by rw [show f b = s.heap.get? b from if_pos z] at e; exact e⟩
    · rw [show f b = none from if_neg z] at e; cases e
  have ff : ∀ {x c}, X.env.cells.lookup x = some c → f c = s.heap.get? c := fun {x c} e => if_pos ⟨x, e⟩
  refine ⟨f, ⟨fun b o e => ?_, fun x c e => ?_, fun i x v e1 e2 e3 => ?_, I.ok.inj⟩, fun b o e => ?_⟩
  · obtain ⟨⟨x, z⟩, _⟩ := fe e
    exact I.freeC x b z
  · obtain ⟨v, o, ho, hd⟩ := I.cell x c e
    exact ⟨o, v, by rw [ff e]; exact ho, hd⟩
  · obtain ⟨m, _, hl⟩ := I.loc
    obtain ⟨u, r, l⟩ := hl i x v e1 e2 (.inr (.inl e3))
    rcases l with ⟨k, _⟩ | ⟨_, c, ec, o, ho, hd⟩
    · have k' : X.env.scope.names.lookup x = some .local := k
      rw [e3] at k'; cases k'
    · exact ⟨c, o, u, ec, by rw [ff ec]; exact ho, hd, r⟩
  · obtain ⟨⟨x, z⟩, g⟩ := fe e
    exact ⟨I.freeC x b z, g, x, z⟩
theorem fn_ofR {P : Program} {w : World} {K : PySem.W.Frag} {mg : Str → Option Value} {base : Heap} {k : Nat} {f : Addr} {name qual : Str} {params : Arguments} {body : List Stmt} {scope : Scope} {dV kV doc pm cdv ct oc : Value} {an od : Option Addr}
    {osl : Array (Option Value)} {N ps : List Str} {sp : Sp} (lk : K.lookup f = some ⟨oc, od, .func (PySem.W.fnOf name qual params body scope dV kV doc pm an cdv ct), osl⟩) (hcd : PySem.W.codeIn K cdv qual = true) (S : FnScope N ps scope)
    (len : ∀ vs H Q E, sp vs H Q E → vs.length = ps.length)
    (hbody : ∀ (A : Around) (outer : List Env) (s : Shared) (H : Hp) (vs : List V) (Q : VK) (E : XK), Room k (A.deeper (envOfC qual scope s.heap.objs.size f cdv)) → sp vs H Q E →
      ∃ t, PSRs (cxOf CX0 P w K mg base N qual scope f cdv A outer s H E).nox body t ∧ t { nx := fun _ _ => False, rt := fun v σ H' => ∀ g, Lent (cxOf CX0 P w K mg base N qual scope f cdv A outer s H E).nox σ H' g → Q v (lend g H') } (start N vs) H) :
    FnOk P w K mg base CX0 (k + 1) f (PySem.W.fnOf name qual params body scope dV kV doc pm an cdv ct) ps sp := by
  refine ⟨len, fun A outer s H args us vs Q E hr e0 hb r hsp => ?_⟩
  have hl := len _ _ _ _ hsp
  have KX : K.In s.heap := e0.mod.kin.keeps fun b o e => (e0.bs b o e).1
  have lim : s.heap.NoLimit := e0.mod.nolimit.keeps fun b o e => (e0.bs b o e).1
  have hkind : ∀ y ∈ ps.zip us, scope.names.lookup y.1 = some .local ∨ (scope.names.lookup y.1 = some .cell ∧ ((cellsFrom (s.heap.objs.size + 1) scope.names []).lookup y.1).isSome = true) := fun ⟨n, v⟩ hy => by
    rcases S.par n (List.of_mem_zip hy).1 with q | q
    · exact .inl q
    · exact .inr ⟨q, PySem.W.cellsFrom_some _ _ _ (.inl q)⟩
  refine codeAny_call_function hr.depth (KX _ _ lk) rfl S.co S.gen rfl (PySem.W.codeRec_of KX hcd) (hb _ _ _ _ ?_)
  refine wpAny_newFunctionEnv_cells S.kind hkind fun env he s1 x => ?_
  subst he
  refine ⟨lim.keeps x.toInCall.keep, codeAny_func ?_⟩
  obtain ⟨t, ht, hq⟩ := hbody A outer s H vs Q E (hr.deeper _) hsp
  have I0 : Inv (cxOf CX0 P w K mg base N qual scope f cdv A outer s H E) [] (start N vs) H s1 := inv_start S hr.hd e0 hl r x
  have I : Inv (cxOf CX0 P w K mg base N qual scope f cdv A outer s H E).nox [] (start N vs) H s1 := ⟨⟨I0.ok.mod, I0.ok.kind, I0.ok.glob, I0.ok.blt, I0.ok.above, I0.ok.inj, I0.ok.has, I0.ok.cab, I0.ok.hd, I0.ok.frames, I0.ok.stk, I0.ok.exf, I0.ok.bs, I0.ok.bsz, I0.ok.noex, I0.ok.exfs, I0.ok.funs, I0.ok.frf⟩, I0.os, I0.bare, I0.base, I0.loc, I0.cell, I0.free, I0.freeC, I0.pin, I0.hok, I0.len⟩
  refine wpAny_mono (ht [] s1 (start N vs) H _ I hq) (fun fl s' hs => ?_) fun e s' hs => False.elim hs
  cases fl with
  | ret u =>
    obtain ⟨v, σ', H', J, rv, q⟩ := hs
    obtain ⟨g, L, hg⟩ := lent_dom J
    have hnew : ∀ b o, s.heap.get? b = some o → g b = none := fun b o e => by
      cases z : g b with
      | none => rfl
      | some ob =>
        exfalso
        obtain ⟨x', hx'⟩ : ∃ y, (cxOf CX0 P w K mg base N qual scope f cdv A outer s H E).nox.env.cells.lookup y = some b := (hg b ob z).2.2
        exact absurd (Nat.lt_of_lt_of_le (Heap.lt_size e) (J.ok.cab x' b rfl hx')) (Nat.lt_irrefl _)
    have hB : Un (frs outer) [] H H' s.heap s'.heap := J.base
    refine ⟨v, lend g H', J.os, J.bare, ⟨hB.keep, hB.slot, fun b o e n hx => ?_, hB.there, fun b xs z => ?_, fun b o xs z => ?_, fun b ps z => ?_⟩, hok_lend J.hok fun b o z => ⟨(hg b o z).1, (hg b o z).2.1⟩, rv, q g L⟩
    · rw [lend_no (hnew b o e)]
      exact hB.free b o e n hx
    · have := hB.tups b xs z
      cases y : g b with
      | none => rw [lend_no y]; exact this
      | some ob => rw [(hg b ob y).1] at this; cases this
    · have := hB.frzs b o xs z
      cases y : g b with
      | none => rw [lend_no y]; exact this
      | some ob => rw [(hg b ob y).1] at this; cases this
    · obtain ⟨more, this⟩ := hB.tbls b ps z
      refine ⟨more, ?_⟩
      cases y : g b with
      | none => rw [lend_no y]; exact this
      | some ob => rw [(hg b ob y).1] at this; cases this
  | next =>
    obtain ⟨_, _, _, q⟩ := hs
    exact False.elim q
  | brk => exact False.elim hs
  | cont => exact False.elim hs
theorem DefT.knownR {P : Program} {w : World} {K : PySem.W.Frag} {mg : Str → Option Value} {base : Heap} {x : Str} {st : Stmt} {N ps : List Str} {k : Nat} {sp : Sp} {z : Addr × Addr} (D : DefT K mg x st z) (S : FnScope N ps (defScope st))
    (hb : ∀ (kV doc pm : Value) (an : Option Addr) (cdv ct : Value) (us : List Value), us.length = ps.length → bindArgs (PySem.W.fnOf x x (defArgs st) (defBody st) (defScope st) .none kV doc pm an cdv ct) ⟨us, []⟩ = pure (ps.zip us))
    (len : ∀ vs H Q E, sp vs H Q E → vs.length = ps.length)
    (hbody : ∀ (f : Addr) (A : Around) (outer : List Env) (s : Shared) (H : Hp) (vs : List V) (Q : VK) (E : XK), Room k (A.deeper (envOfC x (defScope st) s.heap.objs.size f (.ref z.1))) → sp vs H Q E →
      ∃ t, PSRs (cxOf CX0 P w K mg base N x (defScope st) f (.ref z.1) A outer s H E).nox (defBody st) t ∧ t { nx := fun _ _ => False, rt := fun v σ H' => ∀ g, Lent (cxOf CX0 P w K mg base N x (defScope st) f (.ref z.1) A outer s H E).nox σ H' g → Q v (lend g H') } (start N vs) H) : Known P w K mg base CX0 (k + 1) x ps sp := by
  obtain ⟨f, fd, F, hm, hc⟩ := D.ex
  refine ⟨f, fd, ?_, hm, F.kp, F.binds hb⟩
  obtain ⟨oc, od, kV, doc, pm, an, cdv, ct, osl, rfl, lk, hcd⟩ := F.ex
  have e : cdv = .ref z.1 := hc
  subst e
  exact fn_ofR lk hcd S len fun A outer s H vs Q E hr hsp => hbody f A outer s H vs Q E hr hsp
end L2

namespace L2
open PySem PySem.Spec PyProof.Rows
section
variable {P : Program} {w : World} {K : PySem.W.Frag} {mg : Str → Option Value} {base : Heap} {N : List Str} {qual : Str} {scope : Scope} {f : Addr} {cd : Value} {A : Around} {outer : List Env} {s : Shared} {H : Hp} {E : XK}
/-- an exception of a loop's body goes on -/
theorem po_body : PassesOwn (model P w) (bodyCx P w K mg base N qual scope f cd A outer s H E).A (bodyCx P w K mg base N qual scope f cd A outer s H E).env (bodyCx P w K mg base N qual scope f cd A outer s H E).xe := PassesOwn.leaving
end
end L2

namespace L2
open PySem PySem.Spec PyProof.Rows
/-! ### isinstance with a tuple of own classes -/
end L2

namespace L2
open PySem PySem.Spec PyProof.Rows
/-! ### rules laid in boxes: what is in them stays closed while the parts are fitted -/
structure PEw (X : Cx) (e : Expr) (t : TE) : Prop where
  run : PE X e t
structure PAw (X : Cx) (es : List Expr) (t : TA) : Prop where
  run : PA X es t
structure PTw (X : Cx) (e : Expr) (t : TT) : Prop where
  run : PT X e t
structure PSw (X : Cx) (st : Stmt) (t : TS) : Prop where
  run : PS X st t
structure PSsw (X : Cx) (st : List Stmt) (t : TS) : Prop where
  run : PSs X st t
section
variable {X : Cx} {es : List Expr} {te : TE} {t u : TA}
theorem paw_nil : PAw X [] tNil := ⟨pa_nil⟩
theorem paw_t {elts : List Expr} {k : Nat} {pos : Pos} (ha : PEw X (.Tuple elts k pos) te) (hr : PAw X es t) : PAw X (.Tuple elts k pos :: es) (tCons te t) := ⟨pa_cons ha.run hr.run rfl⟩
theorem paw_l {elts : List Expr} {pos : Pos} (ha : PEw X (.List elts pos) te) (hr : PAw X es t) : PAw X (.List elts pos :: es) (tCons te t) := ⟨pa_cons ha.run hr.run rfl⟩
theorem paw_k {c : Const} {k : Nat} {pos : Pos} (ha : PEw X (.Constant c k pos) te) (hr : PAw X es t) : PAw X (.Constant c k pos :: es) (tCons te t) := ⟨pa_cons ha.run hr.run rfl⟩
theorem paw_b {a b : Expr} {op : Operator} {pos : Pos} (ha : PEw X (.BinOp a op b pos) te) (hr : PAw X es t) : PAw X (.BinOp a op b pos :: es) (tCons te t) := ⟨pa_cons ha.run hr.run rfl⟩
theorem paw_c {f : Expr} {as : List Expr} {kw : List Keyword} {pos : Pos} (ha : PEw X (.Call f as kw pos) te) (hr : PAw X es t) : PAw X (.Call f as kw pos :: es) (tCons te t) := ⟨pa_cons ha.run hr.run rfl⟩
theorem paw_n {x : Str} {pos : Pos} (ha : PEw X (.Name x pos) te) (hr : PAw X es t) : PAw X (.Name x pos :: es) (tCons te t) := ⟨pa_cons ha.run hr.run rfl⟩
theorem pew_lst {pos : Pos} (h : PAw X es t) : PEw X (.List es pos) (tLst t) := ⟨pe_lst h.run⟩
theorem pew_str {x j} {pos : Pos} : PEw X (.Constant (.str x) j pos) (tC (.str x)) := ⟨pe_str⟩
theorem pew_int {i j} {pos : Pos} : PEw X (.Constant (.int i) j pos) (tC (.int i)) := ⟨pe_int⟩
theorem pew_bl {b j} {pos : Pos} : PEw X (.Constant (.bool b) j pos) (tC (.bl b)) := ⟨pe_bl⟩
theorem pew_non {j} {pos : Pos} : PEw X (.Constant .none j pos) (tC .non) := ⟨pe_non⟩
theorem pew_op {op : Operator} {r : R2} {a b : Expr} {ta tb : TE} {pos : Pos} (ho : OpR X (binaryOp op) r) (ha : PEw X a ta) (hb : PEw X b tb) : PEw X (.BinOp a op b pos) (tOp r ta tb) := ⟨pe_op ho ha.run hb.run⟩
end
section
variable {X : Cx} {st : Stmt} {rest : List Stmt} {t u : TS} {pos : Pos}
theorem psw_set {i : Nat} {x : Str} {e : Expr} {te : TE} {pos' : Pos} (hN : X.N.Nodup) (hi : X.N[i]? = some x) (hx : Loc X.env.scope x) (he : PEw X e te) (hs : swapsWith e (some (.Name x pos')) pos.line X.env = pure false := by rfl) (hf : X.fn x = true ∨ X.env.scope.names.lookup x = some .local := by first | exact .inl rfl | exact .inr rfl | assumption) :
    PSw X (.Assign [.Name x pos'] e pos) (tAsg te (gName i)) := ⟨ps_set hN hi hx he.run hs hf⟩
theorem pssw_cons (h1 : PSw X st t) (h2 : PSsw X rest u) : PSsw X (st :: rest) (tSeq t u) := ⟨pss_cons h1.run h2.run⟩
theorem pssw_one (h1 : PSw X st t) : PSsw X [st] t := ⟨pss_one h1.run⟩
theorem pssw_nil : PSsw X [] tNext := ⟨pss_nil⟩
theorem psw_ret {e : Expr} {te : TE} (he : PEw X e te) : PSw X (.Return (some e) pos) (tRet te) := ⟨ps_ret he.run⟩
end
end L2

namespace L2
open PySem PySem.Spec PyProof.Rows
/-! ### text.startswith(text), text.upper(), int(text) -/
theorem mt_starts {X : Cx} : MtR X "str.startswith" (fun x xs H Q => ∃ z y : Str, x = .str z ∧ xs = [.str y] ∧ Q (.bl (Txt.startswith z y)) H) := by
  intro pins s σ H x vs v us Q I rx rv h
  obtain ⟨z, y, rfl, rfl, q⟩ := h
  obtain ⟨t, rfl⟩ := rx
  obtain ⟨u, rfl, ru⟩ := rv.one
  obtain ⟨t', rfl⟩ := ru
  exact call_gives F.slot_str_startswith (typeIs_str _ _ _) F.entry_str_startswith (F.args_str_startswith_2 _ _) (gives_str_startswith z y t t') ⟨.bl (Txt.startswith z y), H, I, rfl, q⟩
theorem mt_upper {X : Cx} : MtR X "str.upper" (fun x xs H Q => ∃ z : Str, x = .str z ∧ xs = [] ∧ Builtin.Str.tooLong (Txt.upper z).length = false ∧ Q (.str (Txt.upper z)) H) := by
  intro pins s σ H x vs v us Q I rx rv h
  obtain ⟨z, rfl, rfl, hf, q⟩ := h
  obtain ⟨t, rfl⟩ := rx
  cases rv
  exact SC.upper hf ⟨.str (Txt.upper z), H, I.tok _, ⟨_, rfl⟩, q⟩
theorem call_int_text {X : Cx} : CallR X (.type "int") (fun xs H Q => ∃ (x : Str) (n : Int), xs = [.str x] ∧ PySem.intText? x = some n ∧ x.length ≤ 640 ∧ Q (.int n) H) := by
  intro pins s σ H xs us Q I r h
  obtain ⟨x, n, rfl, hn, hl, q⟩ := h
  obtain ⟨u, rfl, t, rfl⟩ := vals1 r
  exact PySem.W.KIN.call_text hn hl ⟨.int n, H, I.tok _, ⟨_, rfl⟩, q⟩
/-! ### what these texts are -/
theorem str_ext {a b : Str} (h : a.cps.toList = b.cps.toList) : a = b := by
  obtain ⟨a⟩ := a
  obtain ⟨b⟩ := b
  exact congrArg Str.mk (Array.toList_inj.mp h)
theorem len_list (a : Str) : a.length = a.cps.toList.length := by
  show a.cps.size = _
  rw [Array.length_toList]
theorem cat_list (a b : Str) : (a ++ b).cps.toList = a.cps.toList ++ b.cps.toList := by
  show (a.cps ++ b.cps).toList = _
  rw [Array.toList_append]
theorem slice_list {x : Str} {a b : Nat} (hab : a ≤ b) (hb : b ≤ x.length) : (Txt.slice x (some (a : Int)) (some (b : Int))).cps.toList = (x.cps.toList.drop a).take (b - a) := by
  unfold Txt.slice
  split
  · rename_i h
    rw [StrLaws.strSliceIndices_plain hab hb] at h
    have hl : x.cps.toList.length = x.length := by rw [Array.length_toList]; rfl
    have e : b - a = x.length := by simpa using h
    have ea : a = 0 := by omega
    rw [ea, List.drop_zero, List.take_of_length_le (by omega)]
  · show (List.toArray _).toList = _
    rw [List.toList_toArray, StrLaws.sliced_plain x hab hb]
theorem slice_end {x : Str} {a : Nat} : Txt.slice x (some (a : Int)) none = Txt.slice x (some (a : Int)) (some (x.length : Int)) := by
  have e : Builtin.Str.strSliceIndices (some (a : Int)) none 1 x.length = Builtin.Str.strSliceIndices (some (a : Int)) (some (x.length : Int)) 1 x.length := by
    have e1 : max (0 : Int) (min (x.length : Int) (x.length : Int)) = (x.length : Int) := by omega
    have e2 : ¬ ((x.length : Int) < 0) := by omega
    simp [Builtin.Str.strSliceIndices, e1, e2]
  unfold Txt.slice
  rw [e]
theorem slice1_list (z : Str) (h : 1 ≤ z.length) : (Txt.slice z (some (1 : Int)) none).cps.toList = z.cps.toList.drop 1 := by
  have e : Txt.slice z (some (1 : Int)) none = Txt.slice z (some ((1 : Nat) : Int)) (some (z.length : Int)) := slice_end (a := 1)
  have hl : z.cps.toList.length = z.length := by rw [Array.length_toList]; rfl
  rw [e, slice_list h (Nat.le_refl _), List.take_of_length_le (by rw [List.length_drop, hl]; exact Nat.le_refl _)]
theorem starts_one (z : Str) (c : Nat) : Txt.startswith z ⟨#[c]⟩ = decide (z.cps.toList.head? = some c) := by
  obtain ⟨l⟩ := z
  obtain ⟨l⟩ := l
  show (decide (0 + 1 ≤ l.length) && (l.toArray.extract 0 (0 + 1) == #[c])) = decide (l.head? = some c)
  cases l with
  | nil => rfl
  | cons x xs =>
    by_cases h : x = c
    · subst h
      simp
    · simp [h]
end L2

namespace L2
open PySem PySem.Spec PyProof.Rows
/-! ### for over a dict whose keys are tuples -/
section
variable {prog : Program} {w : World} {A : Around} {E : Value → Shared → Prop} {s : Shared} {it d : Addr} {i n ep : Nat} {od : Obj} {es : Array DictEntry}
end
section
variable {X : Cx} {pins : List (Addr × Obj)} {σ : St} {H : Hp} {s : Shared} {d : Addr}
end
section
variable {X : Cx} {tg : Expr}
end
end L2

namespace L2
open PySem PySem.Spec PyProof.Rows
section
variable {X : Cx} {CX : CXT} {k : Nat} {R : Addr → Sp → Prop} {ps : List Str} {E : XK} {m : Str} {pos apos : Pos} {e o : Expr} {es : List Expr} {t : TA} {ta : TE}
end
end L2

namespace L2
open PySem PySem.Spec PyProof.Rows
/-! ### list(reversed(xs)) -/
section
variable {prog : Program} {w : World} {A : Around} {s : Shared}
end
section
variable {X : Cx} {e : Expr} {te : TE} {x x' : Str} {p p' pos pos' : Pos}
end
/-! ### xs.count(y), the items refs -/
section
variable {X : Cx}
end
/-! ### d != e of dicts whose keys are tuples, alike -/
section
variable {prog : Program} {w : World} {K : Type} [DecidableEq K] {knd : HeapKind prog w K} {A : Around} {E : Value → Shared → Prop} {s : Shared}
end
section
variable {X : Cx}
end
end L2

namespace L2
open PySem PySem.Spec PyProof.Rows
/-! ### {k: v, ..} where the keys are tuples -/
section
variable {X : Cx} {pins : List (Addr × Obj)} {σ : St} {A : Around} {E : Value → Shared → Prop} {a : Addr}
end
/-! in boxes -/
structure PPw (X : Cx) (pos : Pos) (keys : List (Option Expr)) (values : List Expr) (trs : List (TE × TE)) : Prop where
  run : PPs X pos keys values trs
section
variable {X : Cx} {pos : Pos} {keys : List (Option Expr)} {values : List Expr} {trs : List (TE × TE)} {k v : Expr} {tk tv : TE}
end
theorem boxS {X : Cx} {st : List Stmt} {D : Ends} {σ : St} {H : Hp} (h : ∃ t, PSsw X st t ∧ t D σ H) : ∃ t, PSs X st t ∧ t D σ H := let ⟨t, h1, h2⟩ := h; ⟨t, h1.run, h2⟩
end L2

namespace L2
open PySem PySem.Spec PyProof.Rows
/-! ### a statement that leaves by an exception, while a dict is gone through -/
section
variable {X : Cx} {st : Stmt} {t u : TS}
end
end L2

namespace L2
open PySem PySem.Spec PyProof.Rows
/-! ### xs.count(y), xs.index(y), all of them flat -/
section
variable {X : Cx}
end
end L2

namespace L2
open PySem PySem.Spec PyProof.Rows
/-! ### dict(enumerate(xs)) -/
section
variable {prog : Program} {w : World} {A : Around} {E : Value → Shared → Prop} {s : Shared}
end
end L2

namespace L2
open PySem PySem.Spec PyProof.Rows
section
variable {prog : Program} {w : World} {A : Around} {R : Result → Shared → Prop}
end
section
variable {prog : Program} {w : World} {A : Around} {E : Value → Shared → Prop} {s : Shared}
end
section
variable {X : Cx} {e : Expr} {te : TE} {x x' : Str} {p p' pos pos' : Pos}
end
end L2

namespace L2
open PySem PySem.Spec PyProof.Rows
/-! ### a dict of the module, its keys texts -/
structure KDict (P : Params) (K : PySem.W.Frag) (p : Addr) : Prop where
  ex : ∃ (es : Array DictEntry) (n : Nat), K.lookup p = some ⟨.type "dict", none, .dict es n, #[]⟩ ∧ PySem.W.KeysLit P es.toList
  lo : (p == sysModules) = false
def tKGet (K : PySem.W.Frag) (to ty : TE) : TE := fun σ H Q => to σ H fun x H1 => ty σ H1 fun y H2 => ∃ p z f, x = .ref p ∧ y = .str z ∧ PySem.W.nsIn K p z = some (some (.ref f)) ∧ Q (.ref f) H2
def tKIn (K : PySem.W.Frag) (ty to : TE) : TE := fun σ H Q => ty σ H fun y H1 => to σ H1 fun x H2 => ∃ p z r, x = .ref p ∧ y = .str z ∧ PySem.W.nsIn K p z = some r ∧ Q (.bl r.isSome) H2
section
variable {X : Cx} {i o : Expr} {to ty : TE} {pos : Pos}
theorem pe_kget {p : Addr} (D : KDict X.w.params X.K p) (ho : PE X o (tC (.ref p))) (hi : PE X i ty) (hs : NoSl i) : PE X (.Subscript o i pos) (tKGet X.K (tC (.ref p)) ty) := by
  intro pins s σ H Q I h
  obtain ⟨es, n, hl, hk⟩ := D.ex
  refine subD_of PySem.F.slot_dict_getitem.lookup hs (thn (ho pins s σ H (fun x H1 => x = .ref p ∧ ty σ H1 fun y H2 => ∃ p z f, x = .ref p ∧ y = .str z ∧ PySem.W.nsIn X.K p z = some (some (.ref f)) ∧ Q (.ref f) H2) I ⟨rfl, h⟩) fun u s1 ⟨x, H1, I1, rx, ex, q1⟩ => thn (hi pins s1 σ H1 _ I1 q1) fun iv s2 ⟨y, H2, I2, ry, p', z, f, ex', ey, e, q2⟩ => ?_)
  subst ex
  cases ex'
  subst ey
  obtain rfl : u = Value.ref p := rx
  obtain ⟨t, rfl⟩ := ry
  have hm := PySem.W.mapOf_K (prog := X.prog) (w := X.w) I2.kIn hl hk
  exact ⟨hm.typeIs, wpAny_getItem_of (PySem.strKind_is X.prog X.w z t) hm (PySem.W.find_K hl e) ⟨.ref f, H2, I2.tok _, rfl, q2⟩⟩
theorem pc_kin {p : Addr} (D : KDict X.w.params X.K p) (hi : PE X i ty) (ho : PE X o (tC (.ref p))) : PC X .In i o (tKIn X.K ty (tC (.ref p))) := by
  intro pins s σ H Q I h
  obtain ⟨es, n, hl, hk⟩ := D.ex
  refine thn (hi pins s σ H _ I h) fun iv s1 ⟨y, H1, I1, ry, q1⟩ => thn (ho pins s1 σ H1 (fun x H2 => x = .ref p ∧ ∃ p z r, x = .ref p ∧ y = .str z ∧ PySem.W.nsIn X.K p z = some r ∧ Q (.bl r.isSome) H2) I1 ⟨rfl, q1⟩) fun u s2 ⟨x, H2, I2, rx, ex, p', z, r, ex', ey, e, q2⟩ => ?_
  subst ex
  cases ex'
  subst ey
  obtain rfl : u = Value.ref p := rx
  obtain ⟨t, rfl⟩ := ry
  refine wpAny_in_of (PySem.strKind_is X.prog X.w z t) D.lo (PySem.W.mapOf_K (prog := X.prog) (w := X.w) I2.kIn hl hk) ?_
  rw [PySem.W.find_K hl e]
  exact ⟨.bl r.isSome, H2, I2.tok _, rfl, q2⟩
end
/-! ### d[k](e, ..), where a def of the module is found -/
theorem arm_Call_Sub (o i : Expr) (p : Pos) (args : List Expr) (keywords : List Keyword) (pos : Pos) (env : Env) : eval (.Call (.Subscript o i p) args keywords pos) env = (do
    callWith pos (← eval (.Subscript o i p) env) [] (backTo pos (starEach args env)) (backToKw pos (keywordEach keywords env))) := rfl
def tCallG (mg : Str → Option Value) (x : Str) (sp : Sp) (E : XK) (tf : TE) (t : TA) : TE := fun σ H Q => tf σ H fun y H1 => ∃ f, y = .ref f ∧ mg x = some (.ref f) ∧ t σ H1 fun vs H2 => sp (vs ++ []) H2 Q E
section
variable {X : Cx} {CX : CXT} {k : Nat} {ps : List Str} {sp : Sp} {E : XK} {x : Str} {p pos : Pos} {o i e : Expr} {es : List Expr} {tf : TE} {t : TA}
theorem pe_callS (G : Known X.prog X.w X.K X.mg X.base CX k x ps sp) (hr : Room k X.A) (hx : Passes CX X E) (hf : PE X (.Subscript o i p) tf) (ha : PA X (e :: es) t)
    (he : starEach (e :: es) X.env = (false, eval e X.env) :: starEach es X.env := by rfl) (hpl : (backTo pos (starEach es X.env)).any (·.1) = false := by rfl) : PE X (.Call (.Subscript o i p) (e :: es) [] pos) (tCallG X.mg x sp E tf t) := by
  obtain ⟨f, fd, F, hm, hk, hb⟩ := G.ex
  intro pins s σ H Q I h
  rw [arm_Call_Sub]
  refine wpAny_bind (thn (hf pins s σ H _ I h) fun u s1 ⟨y, H1, I1, ry, f', ey, hm', q⟩ => ?_)
  subst ey
  rw [hm] at hm'
  cases hm'
  obtain rfl : u = Value.ref f := ry
  refine PySem.W.callWith_K (h₀ := X.base) I1.ok.mod.kin hk (thn (ha pos pins s1 σ H1 _ I1 q) fun us s2 ⟨vs, H2, I2, r, q2⟩ => ⟨I2.kIn, ?_⟩) he hpl
  exact run_fn F hr hb .nil hx I2 r q2
end
/-! ### text.split(text) -/
theorem vals_strValues : ∀ l : List (Str × Tok), Vals ((l.map (·.1)).map V.str) (strValues l)
  | [] => .nil
  | q :: r => .cons ⟨q.2, rfl⟩ (vals_strValues r)
end L2

namespace L2
open PySem PySem.Spec PyProof.Rows
/-! ### sum(xs), max(xs), min(xs) of a list of whole numbers -/
section
variable {X : Cx}
end
/-! ### o.f(e, ..), where f holds a def of the module -/
structure FnV (P : Program) (w : World) (K : PySem.W.Frag) (mg : Str → Option Value) (base : Heap) (k : Nat) (fa : Addr) (sp : Sp) : Prop where
  kp : PySem.W.keepIn K (.ref fa) = true
  run : ∀ (A : Around) (outer : List Env) (s : Shared) (H : Hp) (us : List Value) (vs : List V) (Q : VK) (E : XK), Room k A → Env0 P w K mg base A outer s H → K.In s.heap → Vals vs us → sp vs H Q E →
    codeAny (model P w) A (.call (.ref fa) ⟨us, []⟩) (CR CX0 outer P w H s Q E) s
section
variable {X : Cx} {k : Nat} {m : Str} {p pos apos : Pos} {e o : Expr} {es : List Expr} {ta : TE} {t : TA}
end
end L2

namespace L2
open PySem PySem.Spec PyProof.Rows
/-! ### a def within a def, then a lambda: the table of code by places -/
section
variable {X : Cx} {pins : List (Addr × Obj)} {σ : St} {H : Hp} {s : Shared} {P : Addr}
end
section
variable {X : Cx}
end
end L2

namespace L2
open PySem PySem.Spec PyProof.Rows
/-! ### what a def within a def promises -/
end L2

namespace L2
open PySem PySem.Spec PyProof.Rows
/-! ### what a split at one sign is -/
open PySem.StrLaws PySem.Builtin.Str in
theorem occ_filter (x : Str) (c limit : Nat) : ∀ (n a : Nat) (st : Array Nat × Nat), st.snd ≤ a → st.fst.size + n ≤ limit → (forIn (List.range' a n) st (occBody x ⟨#[c]⟩ x.length limit)).run.fst.toList = st.fst.toList ++ (List.range' a n).filter (fun i => x.cps.toList[i]? == some c)
  | 0, a, st, _, _ => by simp
  | n + 1, a, st, h1, h2 => by
    rw [List.range'_succ, List.forIn_cons]
    unfold occBody
    have one := subAt_one x c a
    by_cases hc : x.cps.toList[a]? = some c
    · obtain ⟨g1, g2⟩ := one.mpr hc
      rw [if_pos ⟨⟨⟨by omega, h1⟩, g1⟩, g2⟩]
      have ih := occ_filter x c limit n (a + 1) (st.fst.push a, a + (⟨#[c]⟩ : Str).length) (by show a + 1 ≤ a + 1; omega) (by simp; omega)
      refine ih.trans ?_
      rw [List.filter_cons, hc]
      simp
    · rw [if_neg (fun z => hc (one.mp ⟨z.1.2, z.2⟩))]
      have ih := occ_filter x c limit n (a + 1) (st.fst, st.snd) (by show st.snd ≤ a + 1; omega) (by show st.fst.size + n ≤ limit; omega)
      refine ih.trans ?_
      rw [List.filter_cons]
      have : (x.cps.toList[a]? == some c) = false := by
        cases z : x.cps.toList[a]? == some c with
        | false => rfl
        | true => exact absurd (by simpa using z) hc
      rw [this]
      simp
def cutsOf (c : Nat) (l : List Nat) : List Nat := (List.range' 0 (l.length + 1)).filter (fun i => l[i]? == some c)
theorem occ_cuts (x : Str) (c : Nat) : Builtin.Str.occurrences x ⟨#[c]⟩ 0 x.length (x.length + 1) = cutsOf c x.cps.toList := by
  rw [StrLaws.occ_eq]
  have h := occ_filter x c (x.length + 1) (x.length + 1 - 0) 0 (#[], 0) (Nat.le_refl _) (by show 0 + (x.length + 1 - 0) ≤ x.length + 1; omega)
  refine h.trans ?_
  unfold cutsOf
  have : x.cps.toList.length = x.length := by simp [Str.length]
  rw [this]
  simp
theorem cuts_none {c : Nat} {l : List Nat} (h : c ∉ l) : cutsOf c l = [] := by
  unfold cutsOf
  rw [List.filter_eq_nil_iff]
  intro i _ z
  exact h (List.mem_of_getElem? (by simpa using z))
theorem cuts_cons {c : Nat} {w r : List Nat} (h : c ∉ w) : cutsOf c (w ++ c :: r) = w.length :: (cutsOf c r).map (· + (w.length + 1)) := by
  unfold cutsOf
  have e1 : List.range' 0 ((w ++ c :: r).length + 1) = List.range' 0 w.length ++ (w.length :: List.range' (w.length + 1) (r.length + 1)) := by
    have : (w ++ c :: r).length + 1 = w.length + (1 + (r.length + 1)) := by rw [List.length_append, List.length_cons]; omega
    rw [this, ← List.range'_append_1, Nat.zero_add, Nat.add_comm 1, List.range'_succ]
  rw [e1, List.filter_append]
  have e2 : (List.range' 0 w.length).filter (fun i => (w ++ c :: r)[i]? == some c) = [] := by
    rw [List.filter_eq_nil_iff]
    intro i hi z
    have hi' : i < w.length := by simpa using hi
    rw [List.getElem?_append_left hi'] at z
    exact h (List.mem_of_getElem? (by simpa using z))
  rw [e2, List.nil_append, List.filter_cons]
  have e3 : ((w ++ c :: r)[w.length]? == some c) = true := by
    rw [List.getElem?_append_right (Nat.le_refl _), Nat.sub_self]
    simp
  rw [e3, if_pos rfl]
  have e4 : List.range' (w.length + 1) (r.length + 1) = (List.range' 0 (r.length + 1)).map (· + (w.length + 1)) := by
    have e5 : (fun x : Nat => x + (w.length + 1)) = fun x => w.length + 1 + x := funext fun x => Nat.add_comm _ _
    rw [e5, List.map_add_range']
  rw [e4, List.filter_map]
  congr 2
  refine List.filter_congr fun i _ => ?_
  show ((w ++ c :: r)[i + (w.length + 1)]? == some c) = _
  rw [List.getElem?_append_right (by omega), show i + (w.length + 1) - w.length = i + 1 by omega, List.getElem?_cons_succ]
/-- the parts of a text between the signs c -/
def splitC (c : Nat) (x : Str) : List Str := Builtin.Str.partsBetween x (cutsOf c x.cps.toList) 1
theorem parts_nil (x : Str) : Builtin.Str.partsBetween x [] 1 = [x] := by
  simp [Builtin.Str.partsBetween, Builtin.Str.strSub, Str.length]
theorem kind_ge (x : Str) : 1 ≤ Builtin.Str.strKind x := by
  unfold Builtin.Str.strKind
  split
  · exact Nat.le_refl _
  · split <;> omega
theorem split_eq {c : Nat} (hc : c < 256) (x : Str) : Txt.split x ⟨#[c]⟩ = splitC c x := by
  unfold Txt.split splitC
  rw [occ_cuts]
  have hk : Builtin.Str.strKind ⟨#[c]⟩ = 1 := by
    unfold Builtin.Str.strKind
    rw [if_pos (by simp [hc])]
  split
  · rename_i h
    have h0 : x.length = 0 := by
      rw [hk] at h
      have := kind_ge x
      rw [Bool.or_eq_true, decide_eq_true_eq, decide_eq_true_eq] at h
      rcases h with h | h
      · have h' : x.length < 1 := h
        omega
      · omega
    have e : x.cps.toList = [] := by
      have : x.cps.toList.length = 0 := by simpa [Str.length] using h0
      exact List.length_eq_zero_iff.mp this
    rw [e, cuts_none (by simp), parts_nil]
  · split
    · rename_i h
      have : cutsOf c x.cps.toList = [] := by simpa using h
      rw [this, parts_nil]
    · rfl
theorem splitC_none {c : Nat} {x : Str} (h : c ∉ x.cps.toList) : splitC c x = [x] := by
  unfold splitC
  rw [cuts_none h, parts_nil]
theorem parts_shift (x r : Str) (k : Nat) (hx : x.cps.toList.drop k = r.cps.toList) (hl : x.length = r.length + k) (w : Nat) : ∀ (cuts : List Nat) (a : Nat),
    (((a + k) :: (cuts.map (· + k)).map (· + w)).zip (cuts.map (· + k) ++ [x.length])).map (fun p => Builtin.Str.strSub x p.1 p.2) = ((a :: cuts.map (· + w)).zip (cuts ++ [r.length])).map (fun p => Builtin.Str.strSub r p.1 p.2) := by
  have one : ∀ i j, Builtin.Str.strSub x (i + k) (j + k) = Builtin.Str.strSub r i j := fun i j => by
    unfold Builtin.Str.strSub
    congr 1
    apply Array.toList_inj.mp
    rw [Array.toList_extract, Array.toList_extract, List.extract_eq_take_drop, List.extract_eq_take_drop, ← hx, List.drop_drop]
    congr 1
    · omega
    · congr 1; omega
  intro cuts
  induction cuts with
  | nil =>
    intro a
    simp only [List.map_nil, List.nil_append, List.zip_cons_cons, List.zip_nil_right, List.map_cons]
    rw [hl, one]
  | cons q cuts ih =>
    intro a
    simp only [List.map_cons, List.cons_append, List.zip_cons_cons]
    rw [one]
    have := ih (q + w)
    have e : q + k + w = q + w + k := by omega
    rw [e]
    rw [← this]
theorem splitC_cons {c : Nat} {w r : Str} (h : c ∉ w.cps.toList) : splitC c (w ++ ⟨#[c]⟩ ++ r) = w :: splitC c r := by
  have el : (w ++ ⟨#[c]⟩ ++ r).cps.toList = w.cps.toList ++ c :: r.cps.toList := by
    show (w.cps ++ #[c] ++ r.cps).toList = _
    rw [Array.toList_append, Array.toList_append]
    simp
  have ew : w.cps.toList.length = w.length := by simp [Str.length]
  have en : (w ++ ⟨#[c]⟩ ++ r).length = r.length + (w.length + 1) := by
    have := congrArg List.length el
    have e1 : (w ++ ⟨#[c]⟩ ++ r).cps.toList.length = (w ++ ⟨#[c]⟩ ++ r).length := by simp [Str.length]
    have e2 : r.cps.toList.length = r.length := by simp [Str.length]
    rw [e1, List.length_append, List.length_cons, ew, e2] at this
    omega
  unfold splitC
  rw [el, cuts_cons h, ew]
  unfold Builtin.Str.partsBetween
  simp only [List.map_cons, List.cons_append, List.zip_cons_cons, List.map_cons]
  congr 1
  · unfold Builtin.Str.strSub
    cases w with
    | mk wc =>
      congr 1
      apply Array.toList_inj.mp
      rw [Array.toList_extract, List.extract_eq_take_drop, el]
      show List.take ((⟨wc⟩ : Str).length - 0) (List.drop 0 (wc.toList ++ c :: r.cps.toList)) = wc.toList
      have : (⟨wc⟩ : Str).length = wc.toList.length := by simp [Str.length]
      rw [List.drop_zero, Nat.sub_zero, this]
      simp
  · have := parts_shift (w ++ ⟨#[c]⟩ ++ r) r (w.length + 1) (by rw [el, ← ew, List.drop_append]; simp) en 1 (cutsOf c r.cps.toList) 0
    rw [Nat.zero_add] at this
    exact this
end L2

namespace L2
open PySem PySem.Spec PyProof.Rows
/-! ### dict(zip(xs, ys)) -/
section
variable {prog : Program} {w : World} {A : Around} {E : Value → Shared → Prop} {s : Shared}
end
end L2

namespace L2
open PySem PySem.Spec PyProof.Rows
section
variable {prog : Program} {w : World} {A : Around} {R : Result → Shared → Prop}
end
section
variable {prog : Program} {w : World} {A : Around} {E : Value → Shared → Prop} {s : Shared}
end
section
variable {X : Cx} {e1 e2 : Expr} {ta : TA} {x x' : Str} {p p' pos pos' : Pos}
end
end L2

namespace L2
open PySem PySem.Spec PyProof.Rows
/-! ### for x in reversed(xs) -/
section
variable {X : Cx} {tg e : Expr} {te : TE} {x' : Str} {p' pos' : Pos}
end
/-! ### texts among texts -/
theorem inV_str (z : Str) : ∀ zs : List Str, inV (.str z) (zs.map V.str) = decide (z ∈ zs)
  | [] => rfl
  | y :: r => by
    have ih := inV_str z r
    unfold inV at ih ⊢
    rw [List.map_cons, List.any_cons, ih]
    have e : eqV (.str y) (.str z) = decide (y = z) := by
      by_cases h : y = z <;> simp [eqV, h]
    rw [e, ← Bool.decide_or]
    congr 1
    rw [List.mem_cons]
    exact propext ⟨fun h => h.imp Eq.symm id, fun h => h.imp Eq.symm id⟩
theorem flat_strs : ∀ zs : List Str, (zs.map V.str).all flatV = true
  | [] => rfl
  | y :: r => by
    rw [List.map_cons, List.all_cons, flat_strs r]
    rfl
end L2

namespace L2
open PySem PySem.Spec PyProof.Rows
/-! ### * and // of greater numbers, a split of a longer text -/
section
variable {X : Cx}
end
def rSplitB : V → List V → Hp → VK → Prop := fun x xs H Q => ∃ (z y : Str), x = .str z ∧ xs = [.str y] ∧ (y.length == 0) = false ∧ z.length ≤ 9000 ∧ ∀ p, H p = none → Q (.ref p) (upd H p (.lst ((Txt.split z y).map V.str)))
theorem mt_splitB {X : Cx} : MtR X "str.split" rSplitB := by
  intro pins s σ H x vs v us Q I rx rv h
  obtain ⟨z, y, rfl, rfl, hy, hz, q⟩ := h
  obtain ⟨t, rfl⟩ := rx
  obtain ⟨u, rfl, ru⟩ := rv.one
  obtain ⟨t', rfl⟩ := ru
  have hszl : (9010 : Nat) ≤ sizeLine := by decide
  have fin : ∀ (l : List (Str × Tok)) (tk : Nat), l.map (·.1) = Txt.split z y → l.length ≤ sizeLine → EP X pins σ Q (.ref s.heap.objs.size) { s with heap := s.heap.push { cls := .type "list", data := .seq (strValues l).toArray }, toks := tk } := fun l tk el hl => by
    refine ⟨.ref s.heap.objs.size, _, I.laid (t' := tk) (o := .lst ((Txt.split z y).map V.str)) (fun b o e => Heap.get?_push_of_some _ e) (Nat.le_refl _) ?_, rfl, q _ (I.hok.fresh (Nat.le_refl _))⟩
    rw [← el]
    exact ⟨by rw [List.length_map, List.length_map]; exact hl, strValues l, _, vals_strValues l, Heap.get?_push_size _ rfl⟩
  have hn : (Builtin.Str.partsBetween z (Builtin.Str.occurrences z y 0 z.length (z.length + 1)) y.length).length ≤ sizeLine := by
    have e1 := StrLaws.occ_length_le z y 0 z.length (z.length + 1)
    rw [length_partsBetween]; omega
  cases h1 : (decide (z.length < y.length) || decide (Builtin.Str.strKind z < Builtin.Str.strKind y))
  · cases hf : (Builtin.Str.occurrences z y 0 z.length (z.length + 1)).isEmpty
    · refine call_meets F.slot_str_split (typeIs_str _ _ _) F.entry_str_split (F.args_str_split_2 _ _) (meets_str_split_sep z y t t' h1 hy hf (by omega) hn) ?_
      show wants (EP X pins σ Q) X.xe _ { s with toks := _, heap := s.heap.push { cls := .type "list", data := .seq (strsFrom s.toks (Builtin.Str.partsBetween z (Builtin.Str.occurrences z y 0 z.length (z.length + 1)) y.length)).toArray } }
      rw [strsFrom_eq]
      exact fin (PySem.numbered s.toks _) _ ((numbered_texts _ _).trans ((if_neg (ne_true_of_eq_false h1)).trans (if_neg (ne_true_of_eq_false hf))).symm) (by
        have := congrArg List.length (numbered_texts s.toks (Builtin.Str.partsBetween z (Builtin.Str.occurrences z y 0 z.length (z.length + 1)) y.length))
        rw [List.length_map] at this
        omega)
    · exact call_meets F.slot_str_split (typeIs_str _ _ _) F.entry_str_split (F.args_str_split_2 _ _) (meets_str_split_not_found z y t t' h1 hy hf)
        (fin [(z, t)] s.toks ((if_neg (ne_true_of_eq_false h1)).trans (if_pos hf)).symm (by show 1 ≤ sizeLine; omega))
  · exact call_meets F.slot_str_split (typeIs_str _ _ _) F.entry_str_split (F.args_str_split_2 _ _) (meets_str_split_cannot_occur z y t t' h1)
      (fin [(z, t)] s.toks (if_pos h1).symm (by show 1 ≤ sizeLine; omega))
end L2

namespace L2
open PySem PySem.Spec PyProof.Rows
/-! ### a dict of the module: a key that is not there -/
def keyS (e : DictEntry) : Str := match e.key with
  | .str x _ => x
  | _ => ""
theorem ns_absent {K : PySem.W.Frag} {PP : Params} {p : Addr} {es : Array DictEntry} {n : Nat} (hl : K.lookup p = some ⟨.type "dict", none, .dict es n, #[]⟩) (hk : PySem.W.KeysLit PP es.toList) {ks : List Str} (hq : es.toList.map keyS = ks) {z : Str} (h : z ∉ ks) : PySem.W.nsIn K p z = some none := by
  have key : ∀ e ∈ es.toList, ∃ x t, e.key = .str x t ∧ x ≠ z := fun e he => by
    obtain ⟨x, t, e1, _⟩ := hk.all e he
    refine ⟨x, t, e1, fun ez => h ?_⟩
    rw [← hq, ← ez]
    refine List.mem_map.mpr ⟨e, he, ?_⟩
    unfold keyS
    rw [e1]
  have h1 : es.toList.find? (·.key.isStr z) = none := by
    rw [List.find?_eq_none]
    intro e he
    obtain ⟨x, t, e1, ne⟩ := key e he
    rw [e1]
    simpa [Value.isStr] using ne
  have h2 : es.toList.any (·.refKey) = false := by
    rw [List.any_eq_false]
    intro e he
    obtain ⟨x, t, e1, _⟩ := key e he
    unfold DictEntry.refKey
    rw [e1]
    simp
  unfold PySem.W.nsIn
  rw [hl]
  dsimp only
  rw [h1]
  dsimp only
  rw [h2]
  rfl
end L2

namespace My
open PySem L2
def top (i : Nat) : Stmt := PySem.Challenge.pw_lazycols_k56_no_rules.main.body.getD i (.Pass ⟨0, 0, 0, 0⟩)
abbrev s_is_whole : Stmt := top 20
abbrev s_is_number : Stmt := top 21
abbrev s_is_name : Stmt := top 22
abbrev s_is_fault : Stmt := top 23
abbrev s_check_name : Stmt := top 26
abbrev s_checked_names : Stmt := top 27
abbrev s_each_once : Stmt := top 28
abbrev s_writes_number : Stmt := top 38
abbrev s_is_reckoning : Stmt := top 44
abbrev s_names_in : Stmt := top 45
abbrev s_bounded : Stmt := top 46
abbrev s_reckoned : Stmt := top 47
abbrev s_joined : Stmt := top 48
abbrev s_number_of : Stmt := top 49
abbrev s_sum_of : Stmt := top 52
abbrev s_most_of : Stmt := top 53
abbrev s_least_of : Stmt := top 54
abbrev s_how_many : Stmt := top 55
abbrev s_refuse_unless : Stmt := top 57
abbrev s_check_names : Stmt := top 58
abbrev s_columns_in : Stmt := top 59
abbrev s_function_of : Stmt := top 60
abbrev s_read_cells : Stmt := top 61
abbrev s_read_above : Stmt := top 62
abbrev s_read_group : Stmt := top 63
abbrev s_read_lookup : Stmt := top 64
abbrev s_read_mend : Stmt := top 65
abbrev s_read_rule : Stmt := top 67
abbrev s_law_cell : Stmt := top 69
abbrev s_law_word : Stmt := top 70
abbrev s_law_bad_number : Stmt := top 71
abbrev s_law_bad_name : Stmt := top 72
abbrev s_law_bad_reckoning : Stmt := top 73
abbrev s_law_text : Stmt := top 74
abbrev s_law_refused : Stmt := top 75
abbrev s_law : Stmt := top 76
/-- where the refusals stand -/
structure Ad where
  ColsError : Addr
  NoName : Addr
  NoValue : Addr
  NoTable : Addr
  NoColumn : Addr
  NoPlace : Addr
  NoSize : Addr
  NoText : Addr
  NoRow : Addr
  NoBack : Addr
  TooMuch : Addr
  Ruled : Addr
  Ring : Addr
  Nobody : Addr
  Several : Addr
structure Excs (K : PySem.W.Frag) (mg : Str → Option Value) (c : Ad) : Prop where
  c_ColsError : mg "ColsError" = some (.ref c.ColsError)
  c_NoName : mg "NoName" = some (.ref c.NoName)
  c_NoValue : mg "NoValue" = some (.ref c.NoValue)
  c_NoTable : mg "NoTable" = some (.ref c.NoTable)
  c_NoColumn : mg "NoColumn" = some (.ref c.NoColumn)
  c_NoPlace : mg "NoPlace" = some (.ref c.NoPlace)
  c_NoSize : mg "NoSize" = some (.ref c.NoSize)
  c_NoText : mg "NoText" = some (.ref c.NoText)
  c_NoRow : mg "NoRow" = some (.ref c.NoRow)
  c_NoBack : mg "NoBack" = some (.ref c.NoBack)
  c_TooMuch : mg "TooMuch" = some (.ref c.TooMuch)
  c_Ruled : mg "Ruled" = some (.ref c.Ruled)
  c_Ring : mg "Ring" = some (.ref c.Ring)
  c_Nobody : mg "Nobody" = some (.ref c.Nobody)
  c_Several : mg "Several" = some (.ref c.Several)
  x_NoText : PySem.W.excIn K c.NoText mroV "ValueError.__new__" = true
  k_NoText : ExcK K c.NoText
  v_NoText : PySem.W.kitOne K (.ref c.NoText) (.type "ValueError") = some true
  i_NoText_ColsError : PySem.W.kitOne K (.ref c.NoText) (.ref c.ColsError) = some true
  e_NoText_ColsError : PySem.W.exmOne K (.ref c.NoText) (.ref c.ColsError) = some true
  i_NoText_NoName : PySem.W.kitOne K (.ref c.NoText) (.ref c.NoName) = some false
  i_NoText_NoValue : PySem.W.kitOne K (.ref c.NoText) (.ref c.NoValue) = some false
  i_NoText_NoTable : PySem.W.kitOne K (.ref c.NoText) (.ref c.NoTable) = some false
  i_NoText_NoColumn : PySem.W.kitOne K (.ref c.NoText) (.ref c.NoColumn) = some false
  i_NoText_NoPlace : PySem.W.kitOne K (.ref c.NoText) (.ref c.NoPlace) = some false
  i_NoText_NoSize : PySem.W.kitOne K (.ref c.NoText) (.ref c.NoSize) = some false
  i_NoText_NoText : PySem.W.kitOne K (.ref c.NoText) (.ref c.NoText) = some true
  i_NoText_NoRow : PySem.W.kitOne K (.ref c.NoText) (.ref c.NoRow) = some false
  i_NoText_NoBack : PySem.W.kitOne K (.ref c.NoText) (.ref c.NoBack) = some false
  i_NoText_TooMuch : PySem.W.kitOne K (.ref c.NoText) (.ref c.TooMuch) = some false
  i_NoText_Ruled : PySem.W.kitOne K (.ref c.NoText) (.ref c.Ruled) = some false
  i_NoText_Ring : PySem.W.kitOne K (.ref c.NoText) (.ref c.Ring) = some false
  i_NoText_Nobody : PySem.W.kitOne K (.ref c.NoText) (.ref c.Nobody) = some false
  i_NoText_Several : PySem.W.kitOne K (.ref c.NoText) (.ref c.Several) = some false
abbrev s_Rule_init : Stmt := inCls (top 29) 0
abbrev s_Cells_init : Stmt := inCls (top 30) 0
abbrev s_Cells_leans : Stmt := inCls (top 30) 1
abbrev s_Above_init : Stmt := inCls (top 31) 0
abbrev s_Above_leans : Stmt := inCls (top 31) 1
abbrev s_Group_init : Stmt := inCls (top 32) 0
abbrev s_Group_leans : Stmt := inCls (top 32) 1
abbrev s_Lookup_init : Stmt := inCls (top 33) 0
abbrev s_Lookup_leans : Stmt := inCls (top 33) 1
abbrev s_Mend_init : Stmt := inCls (top 34) 0
abbrev s_Mend_leans : Stmt := inCls (top 34) 1
structure TRule (K : PySem.W.Frag) (mg : Str → Option Value) (C : Addr) : Prop where
  c : mg "Rule" = some (.ref C)
  cl : Cls K C
  mks : PySem.W.makesIn K C = true
  kc : PySem.W.keepIn K (.ref C) = true
  hc : PySem.W.findIn K (.ref C) "__class__" = some (some (.builtin "object.__class__"))
  n_function : NoAttr K C "function"
  m_init : Mth K C "__init__" "Rule.__init__" s_Rule_init
  v_init : ClsM K C "__init__"
structure TCells (K : PySem.W.Frag) (mg : Str → Option Value) (C : Addr) : Prop where
  c : mg "Cells" = some (.ref C)
  cl : Cls K C
  mks : PySem.W.makesIn K C = true
  kc : PySem.W.keepIn K (.ref C) = true
  hc : PySem.W.findIn K (.ref C) "__class__" = some (some (.builtin "object.__class__"))
  n_function : NoAttr K C "function"
  n_names : NoAttr K C "names"
  m_init : Mth K C "__init__" "Cells.__init__" s_Cells_init
  m_leans : Mth K C "leans" "Cells.leans" s_Cells_leans
structure TAbove (K : PySem.W.Frag) (mg : Str → Option Value) (C : Addr) : Prop where
  c : mg "Above" = some (.ref C)
  cl : Cls K C
  mks : PySem.W.makesIn K C = true
  kc : PySem.W.keepIn K (.ref C) = true
  hc : PySem.W.findIn K (.ref C) "__class__" = some (some (.builtin "object.__class__"))
  n_function : NoAttr K C "function"
  n_names : NoAttr K C "names"
  n_first : NoAttr K C "first"
  m_init : Mth K C "__init__" "Above.__init__" s_Above_init
  m_leans : Mth K C "leans" "Above.leans" s_Above_leans
structure TGroup (K : PySem.W.Frag) (mg : Str → Option Value) (C : Addr) : Prop where
  c : mg "Group" = some (.ref C)
  cl : Cls K C
  mks : PySem.W.makesIn K C = true
  kc : PySem.W.keepIn K (.ref C) = true
  hc : PySem.W.findIn K (.ref C) "__class__" = some (some (.builtin "object.__class__"))
  n_function : NoAttr K C "function"
  n_key : NoAttr K C "key"
  n_name : NoAttr K C "name"
  m_init : Mth K C "__init__" "Group.__init__" s_Group_init
  m_leans : Mth K C "leans" "Group.leans" s_Group_leans
structure TLookup (K : PySem.W.Frag) (mg : Str → Option Value) (C : Addr) : Prop where
  c : mg "Lookup" = some (.ref C)
  cl : Cls K C
  mks : PySem.W.makesIn K C = true
  kc : PySem.W.keepIn K (.ref C) = true
  hc : PySem.W.findIn K (.ref C) "__class__" = some (some (.builtin "object.__class__"))
  n_function : NoAttr K C "function"
  n_key : NoAttr K C "key"
  n_other : NoAttr K C "other"
  n_theirs : NoAttr K C "theirs"
  n_names : NoAttr K C "names"
  m_init : Mth K C "__init__" "Lookup.__init__" s_Lookup_init
  m_leans : Mth K C "leans" "Lookup.leans" s_Lookup_leans
structure TMend (K : PySem.W.Frag) (mg : Str → Option Value) (C : Addr) : Prop where
  c : mg "Mend" = some (.ref C)
  cl : Cls K C
  mks : PySem.W.makesIn K C = true
  kc : PySem.W.keepIn K (.ref C) = true
  hc : PySem.W.findIn K (.ref C) "__class__" = some (some (.builtin "object.__class__"))
  n_function : NoAttr K C "function"
  n_name : NoAttr K C "name"
  m_init : Mth K C "__init__" "Mend.__init__" s_Mend_init
  m_leans : Mth K C "leans" "Mend.leans" s_Mend_leans
structure Tops (K : PySem.W.Frag) (mg : Str → Option Value) : Prop where
  len : mg "len" = none
  isinstance : mg "isinstance" = none
  int : mg "int" = none
  bool : mg "bool" = none
  str : mg "str" = none
  all : mg "all" = none
  range : mg "range" = none
  abs : mg "abs" = none
  list : mg "list" = none
  tuple : mg "tuple" = none
  dict : mg "dict" = none
  max : mg "max" = none
  min : mg "min" = none
  sum : mg "sum" = none
  reversed : mg "reversed" = none
  zip : mg "zip" = none
  ValueError : mg "ValueError" = none
  g_LETTERS : ∃ t, mg "LETTERS" = some (.str ("abcdefghijklmnopqrstuvwxyz" : Str) t)
  g_MOST_LETTERS : ∃ t, mg "MOST_LETTERS" = some (.int 8 t)
  g_MOST_NAMES : ∃ t, mg "MOST_NAMES" = some (.int 6 t)
  g_FIGURES : ∃ t, mg "FIGURES" = some (.str ("0123456789" : Str) t)
  g_MOST_FIGURES : ∃ t, mg "MOST_FIGURES" = some (.int 60 t)
  g_MOST_WORDS : ∃ t, mg "MOST_WORDS" = some (.int 24 t)
  g_SIGNS : ∃ p, mg "SIGNS" = some (.ref p) ∧ ∀ H, SqT K H p [V.str ("+" : Str), V.str ("-" : Str), V.str ("*" : Str), V.str ("/" : Str), V.str (":" : Str), V.str ("<" : Str), V.str ("=" : Str)]
  g_NOUGHT : ∃ p, mg "NOUGHT" = some (.ref p) ∧ ∀ H, SqT K H p [V.str ("fault" : Str), V.str ("nought" : Str)]
  g_GREAT : ∃ p, mg "GREAT" = some (.ref p) ∧ ∀ H, SqT K H p [V.str ("fault" : Str), V.str ("great" : Str)]
  g_UP : ∃ t, mg "UP" = some (.str ("up" : Str) t)
  d_is_whole : Def K mg "is_whole" s_is_whole
  d_is_number : Def K mg "is_number" s_is_number
  d_is_name : Def K mg "is_name" s_is_name
  d_is_fault : Def K mg "is_fault" s_is_fault
  d_check_name : Def K mg "check_name" s_check_name
  d_checked_names : Def K mg "checked_names" s_checked_names
  d_each_once : Def K mg "each_once" s_each_once
  d_writes_number : Def K mg "writes_number" s_writes_number
  d_is_reckoning : Def K mg "is_reckoning" s_is_reckoning
  d_names_in : Def K mg "names_in" s_names_in
  d_bounded : Def K mg "bounded" s_bounded
  d_reckoned : Def K mg "reckoned" s_reckoned
  d_joined : Def K mg "joined" s_joined
  d_number_of : Def K mg "number_of" s_number_of
  d_sum_of : Def K mg "sum_of" s_sum_of
  d_most_of : Def K mg "most_of" s_most_of
  d_least_of : Def K mg "least_of" s_least_of
  d_how_many : Def K mg "how_many" s_how_many
  d_refuse_unless : Def K mg "refuse_unless" s_refuse_unless
  d_check_names : Def K mg "check_names" s_check_names
  d_columns_in : Def K mg "columns_in" s_columns_in
  d_function_of : Def K mg "function_of" s_function_of
  d_read_cells : Def K mg "read_cells" s_read_cells
  d_read_above : Def K mg "read_above" s_read_above
  d_read_group : Def K mg "read_group" s_read_group
  d_read_lookup : Def K mg "read_lookup" s_read_lookup
  d_read_mend : Def K mg "read_mend" s_read_mend
  d_read_rule : Def K mg "read_rule" s_read_rule
  d_law_cell : Def K mg "_law_cell" s_law_cell
  d_law_word : Def K mg "_law_word" s_law_word
  d_law_bad_number : Def K mg "_law_bad_number" s_law_bad_number
  d_law_bad_name : Def K mg "_law_bad_name" s_law_bad_name
  d_law_bad_reckoning : Def K mg "_law_bad_reckoning" s_law_bad_reckoning
  d_law_text : Def K mg "_law_text" s_law_text
  d_law_refused : Def K mg "_law_refused" s_law_refused
  d_law : Def K mg "law" s_law
  bs : ∃ z_function_of z_read_mend : Addr × Addr, DefT K mg "function_of" s_function_of z_function_of ∧ DefT K mg "read_mend" s_read_mend z_read_mend ∧ z_function_of.2 ≠ z_read_mend.2
  notabs : PySem.W.noTabs K = true
  exc : ∃ c : Ad, Excs K mg c
  t_Rule : ∃ C, TRule K mg C
  t_Cells : ∃ C, TCells K mg C
  t_Above : ∃ C, TAbove K mg C
  t_Group : ∃ C, TGroup K mg C
  t_Lookup : ∃ C, TLookup K mg C
  t_Mend : ∃ C, TMend K mg C
/-- the dicts of the module -/
structure Dcs (PP : Params) (K : PySem.W.Frag) (mg : Str → Option Value) : Prop where
  g_OF_GROUPS : ∃ p, mg "OF_GROUPS" = some (.ref p) ∧ KDict PP K p ∧ (∀ z : Str, z ∉ ([("sum" : Str), ("most" : Str), ("least" : Str), ("many" : Str)] : List Str) → PySem.W.nsIn K p z = some none) ∧ (∃ f, mg "sum_of" = some (.ref f) ∧ PySem.W.nsIn K p "sum" = some (some (.ref f))) ∧ (∃ f, mg "most_of" = some (.ref f) ∧ PySem.W.nsIn K p "most" = some (some (.ref f))) ∧ (∃ f, mg "least_of" = some (.ref f) ∧ PySem.W.nsIn K p "least" = some (some (.ref f))) ∧ (∃ f, mg "how_many" = some (.ref f) ∧ PySem.W.nsIn K p "many" = some (some (.ref f)))
  g_KINDS : ∃ p, mg "KINDS" = some (.ref p) ∧ KDict PP K p ∧ (∀ z : Str, z ∉ ([("cells" : Str), ("above" : Str), ("group" : Str), ("lookup" : Str), ("mend" : Str)] : List Str) → PySem.W.nsIn K p z = some none) ∧ (∃ f, mg "read_cells" = some (.ref f) ∧ PySem.W.nsIn K p "cells" = some (some (.ref f))) ∧ (∃ f, mg "read_above" = some (.ref f) ∧ PySem.W.nsIn K p "above" = some (some (.ref f))) ∧ (∃ f, mg "read_group" = some (.ref f) ∧ PySem.W.nsIn K p "group" = some (some (.ref f))) ∧ (∃ f, mg "read_lookup" = some (.ref f) ∧ PySem.W.nsIn K p "lookup" = some (some (.ref f))) ∧ (∃ f, mg "read_mend" = some (.ref f) ∧ PySem.W.nsIn K p "mend" = some (some (.ref f)))
end My

namespace My
open PySem L2
abbrev letters : Str := "abcdefghijklmnopqrstuvwxyz"
def inL (c : Nat) : Bool := !(Builtin.Str.occurrences letters ⟨#[c]⟩ 0 letters.length 1).isEmpty
def nameS (t : Str) : Bool := decide ((1 : Int) ≤ t.length) && decide ((t.length : Int) ≤ 8) && t.cps.toList.all inL
def wholeD : PyData → Bool
  | .int _ => true
  | _ => false
def numD : PyData → Bool
  | .int i => decide ((if i < 0 then -i else i) < 10 ^ (60 : Int).toNat)
  | _ => false
def nameD : PyData → Bool
  | .str t => nameS t
  | _ => false
def faultD : PyData → Bool
  | .tuple [.str z, d] => decide (z = "fault") && nameD d
  | _ => false
def valueD (d : PyData) : Bool := numD d || faultD d
/-- a text is short; the texts in a tuple are -/
def shortS (d : PyData) : Prop := ∀ t, d = .str t → t.length ≤ 1000
def shortD (d : PyData) : Prop := ∀ ds, d = .tuple ds → ∀ e ∈ ds, shortS e
theorem shortS_str {t : Str} (h : t.length ≤ 1000) : shortS (.str t) := fun z e => by cases e; exact h
section
variable {P : Program} {w : World} {K : PySem.W.Frag} {mg : Str → Option Value} {base : Heap}
def spWhole (K : PySem.W.Frag) : Sp := fun vs H Q _ => ∃ x d, vs = [x] ∧ Dt K H x d ∧ Q (.bl (wholeD d)) H
theorem sc_is_whole : FnScope ["thing"] ["thing"] (defScope s_is_whole) := ⟨rfl, rfl, rfl, by decide +kernel, rfl, by decide +kernel, by decide +kernel⟩
theorem k_is_whole (T : Tops K mg) : Known P w K mg base CX0 1 "is_whole" ["thing"] (spWhole K) := by
  refine T.d_is_whole.known sc_is_whole (fun _ _ _ _ _ _ us hl => match us, hl with | [_], _ => rfl) (fun vs H Q E h => ?_) (fun f cdv A outer s H vs Q E hr h => ?_)
  · obtain ⟨x, a, rfl, _⟩ := h
    rfl
  · obtain ⟨x, d, rfl, hd, q⟩ := h
    refine ⟨_, (pss_one (ps_ret (pe_and (pe_callB call_isT rfl T.isinstance b_isinstance (pa_cons (pv 0) (pa_cons (pe_ty T.int b_int) pa_nil))) (pe_one (pe_not (pe_callB call_isT rfl T.isinstance b_isinstance (pa_cons (pv 0) (pa_cons (pe_ty T.bool b_bool) pa_nil)))))))), ?_⟩
    refine ⟨_, rfl, x, "int", d, _, rfl, hd, kit_int K _, _, rfl, ?_⟩
    refine ite2 (fun h1 => ?_) (fun h1 => ?_)
    · refine ⟨_, rfl, x, "bool", d, _, rfl, hd, kit_bool K _, _, rfl, ?_⟩
      have e : (!decide (kdD d = Kd.bl)) = wholeD d := by cases d <;> simp [kdD, wholeD] at h1 ⊢
      show Q (.bl (!decide (kdD d = Kd.bl))) H
      rw [e]
      exact q
    · have e : false = wholeD d := by cases d <;> simp [kdD, wholeD] at h1 ⊢
      show Q (.bl false) H
      rw [e]
      exact q
def spName (K : PySem.W.Frag) : Sp := fun vs H Q _ => ∃ x d, vs = [x] ∧ Dt K H x d ∧ shortS d ∧ ∀ H', Same H H' → Q (.bl (nameD d)) H'
theorem sc_is_name : FnScope ["thing"] ["thing"] (defScope s_is_name) := ⟨rfl, rfl, rfl, by decide +kernel, rfl, by decide +kernel, by decide +kernel⟩
theorem k_is_name (T : Tops K mg) : Known P w K mg base CX0 1 "is_name" ["thing"] (spName K) := by
  refine T.d_is_name.known sc_is_name (fun _ _ _ _ _ _ us hl => match us, hl with | [_], _ => rfl) (fun vs H Q E h => ?_) (fun f cdv A outer s H vs Q E hr h => ?_)
  · obtain ⟨x, a, rfl, _⟩ := h
    rfl
  · obtain ⟨x, d, rfl, hd, hsh, q⟩ := h
    refine ⟨_, (pss_cons (ps_if (PW.pt (pw_or (pt_not (pt_val (pe_callB call_isT rfl T.isinstance b_isinstance (pa_cons (pv 0) (pa_cons (pe_ty T.str b_str) pa_nil))) (fun _ => rfl))) (pw_or1 (pt_not (pt_chain op_le op_le pe_int (pe_callB call_len rfl T.len b_len (pa_cons (pv 0) pa_nil)) (pe_gI T.g_MOST_LETTERS)))))) (pss_one (ps_ret pe_bl)) pss_nil)
      (pss_one (ps_ret (pe_callB (call_all rfl) rfl T.all b_all (pa_cons (pe_comp caps0 rfl rfl (by decide) (pi_str (pv 0)) (fun _ _ _ _ _ => pts_nil) (fun _ _ _ _ _ => (pe_cmpR op_in_str (pv 0) (pe_gS T.g_LETTERS) (by with_unfolding_all rfl)))) pa_nil))))), ?_⟩
    refine ⟨_, rfl, x, "str", d, _, rfl, hd, kit_str K _, _, rfl, ?_⟩
    by_cases hk : kdD d = .str
    · obtain ⟨t, rfl⟩ : ∃ t, d = .str t := by cases d <;> simp [kdD] at hk ⊢
      cases hd
      have ht : t.length ≤ 1000 := hsh t rfl
      refine iteF ?_
      refine ⟨_, rfl, _, _, rfl, ⟨sl ht, rfl⟩, _, _, rfl, rfl, _, rfl, ?_⟩
      refine ite2 (fun h1 => ?_) (fun h1 => ?_)
      · refine ⟨_, _, rfl, rfl, _, rfl, ?_⟩
        refine ite2 (fun h2 => ?_) (fun h2 => ?_)
        · have e : nameD (.str t) = false := by
            show nameS t = false
            unfold nameS
            have : decide ((t.length : Int) ≤ 8) = false := by simpa using h2
            rw [this, Bool.and_false, Bool.false_and]
          rw [← e]
          exact q H (Same.refl H)
        · have h8 : t.cps.size ≤ 8 := by
            have : (t.length : Int) ≤ 8 := by simpa using h2
            show t.length ≤ 8
            omega
          refine ⟨_, rfl, t, rfl, fun D hD => ?_⟩
          refine comp_str (x := t) (fun i ys H2 => ys = (t.cps.toList.take i).map (fun c => V.bl (inL c)) ∧ Same H H2) ⟨rfl, Same.new hD⟩ ?_ ?_
          · rintro i c ys H2 hc h2D ⟨rfl, s2⟩
            have hi : i < t.cps.size := (Array.getElem?_eq_some_iff.mp hc).1
            refine ⟨_, rfl, _, _, rfl, rfl, h2D, ?_, ?_, s2.on hD⟩
            · rw [List.length_map, List.length_take, Array.length_toList]
              exact small1000 (by omega)
            · rw [List.take_add_one, List.map_append, Array.getElem?_toList, hc]
              rfl
          · rintro ys H2 h2D ⟨rfl, s2⟩
            refine ⟨D, t.cps.toList.map inL, rfl, SqL.of ?_, ?_⟩
            · rw [h2D, List.take_of_length_le (by simp), List.map_map]
              rfl
            · have e : nameD (.str t) = (t.cps.toList.map inL).all id := by
                show nameS t = _
                unfold nameS
                have e1 : decide ((1 : Int) ≤ t.length) = true := h1
                have e2 : decide ((t.length : Int) ≤ 8) = true := by simpa using h2
                rw [e1, e2, Bool.true_and, Bool.true_and, List.all_map]
                rfl
              rw [← e]
              exact q H2 s2
      · refine ⟨_, rfl, ?_⟩
        refine iteT ?_
        have e : nameD (.str t) = false := by
          show nameS t = false
          unfold nameS
          have : decide ((1 : Int) ≤ t.length) = false := by simpa using h1
          rw [this, Bool.false_and, Bool.false_and]
        rw [← e]
        exact q H (Same.refl H)
    · rw [decide_eq_false hk]
      refine iteT (iteT ?_)
      have e : nameD d = false := by cases d <;> simp [kdD] at hk <;> rfl
      rw [← e]
      exact q H (Same.refl H)
def spNumber (K : PySem.W.Frag) : Sp := fun vs H Q _ => ∃ x d, vs = [x] ∧ Dt K H x d ∧ Q (.bl (numD d)) H
theorem sc_is_number : FnScope ["thing"] ["thing"] (defScope s_is_number) := ⟨rfl, rfl, rfl, by decide +kernel, rfl, by decide +kernel, by decide +kernel⟩
theorem k_is_number (T : Tops K mg) : Known P w K mg base CX0 2 "is_number" ["thing"] (spNumber K) := by
  have G_is_whole : Known P w K mg base CX0 1 "is_whole" ["thing"] (spWhole K) := k_is_whole T
  refine T.d_is_number.known sc_is_number (fun _ _ _ _ _ _ us hl => match us, hl with | [_], _ => rfl) (fun vs H Q E h => ?_) (fun f cdv A outer s H vs Q E hr h => ?_)
  · obtain ⟨x, a, rfl, _⟩ := h
    rfl
  · obtain ⟨x, d, rfl, hd, q⟩ := h
    refine ⟨_, (pss_one (ps_ret (pe_and (pe_callN G_is_whole (hr.mono (by decide)) pass0 (pa_cons (pv 0) pa_nil)) (pe_one (pe_cmpR op_lt (pe_callB call_abs rfl T.abs b_abs (pa_cons (pv 0) pa_nil)) (pe_op op_pow pe_int pe_int) (nomark _)))))), ?_⟩
    refine ⟨_, rfl, x, d, rfl, hd, _, rfl, ?_⟩
    refine ite2 (fun h1 => ?_) (fun h1 => ?_)
    · obtain ⟨i, rfl⟩ : ∃ i, d = .int i := by cases d <;> simp [wholeD] at h1 ⊢
      cases hd
      exact ⟨_, rfl, i, rfl, _, _, rfl, rfl, ⟨by decide, by decide, by decide⟩, _, _, rfl, rfl, q⟩
    · have e : numD d = false := by cases d <;> simp [wholeD] at h1 <;> rfl
      show Q (.bl false) H
      rw [← e]
      exact q
def spFault (K : PySem.W.Frag) : Sp := fun vs H Q _ => ∃ x d, vs = [x] ∧ Dt K H x d ∧ shortD d ∧ ∀ H', Same H H' → Q (.bl (faultD d)) H'
theorem sc_is_fault : FnScope ["thing"] ["thing"] (defScope s_is_fault) := ⟨rfl, rfl, rfl, by decide +kernel, rfl, by decide +kernel, by decide +kernel⟩
theorem faultD_len {ds : List PyData} (h : ds.length ≠ 2) : faultD (.tuple ds) = false := by
  match ds, h with
  | [], _ => rfl
  | [a], _ => cases a <;> rfl
  | [a, b], h => exact absurd rfl h
  | a :: b :: c :: r, _ => cases a <;> rfl
theorem k_is_fault (T : Tops K mg) : Known P w K mg base CX0 2 "is_fault" ["thing"] (spFault K) := by
  have G_is_name : Known P w K mg base CX0 1 "is_name" ["thing"] (spName K) := k_is_name T
  refine T.d_is_fault.known sc_is_fault (fun _ _ _ _ _ _ us hl => match us, hl with | [_], _ => rfl) (fun vs H Q E h => ?_) (fun f cdv A outer s H vs Q E hr h => ?_)
  · obtain ⟨x, a, rfl, _⟩ := h
    rfl
  · obtain ⟨x, d, rfl, hd, hsh, q⟩ := h
    refine ⟨_, (pss_cons (ps_if (PW.pt (pw_or (pt_not (pt_val (pe_callB call_isT rfl T.isinstance b_isinstance (pa_cons (pv 0) (pa_cons (pe_ty T.tuple b_tuple) pa_nil))) (fun _ => rfl))) (pw_or1 (pt_cmpR op_ne (pe_callB call_len rfl T.len b_len (pa_cons (pv 0) pa_nil)) pe_int (nomark _))))) (pss_one (ps_ret pe_bl)) pss_nil)
      (pss_one (ps_ret (pe_and (pe_callB call_isT rfl T.isinstance b_isinstance (pa_cons (pe_ix ix_tup (pv 0) pe_int (fun _ _ => rfl)) (pa_cons (pe_ty T.str b_str) pa_nil))) (pe_and (pe_cmpR op_eq (pe_ix ix_tup (pv 0) pe_int (fun _ _ => rfl)) pe_str (nomark _)) (pe_one (pe_callN G_is_name (hr.mono (by decide)) pass0 (pa_cons (pe_ix ix_tup (pv 0) pe_int (fun _ _ => rfl)) pa_nil)))))))), ?_⟩
    refine ⟨_, rfl, x, "tuple", d, _, rfl, hd, kit_tuple K _, _, rfl, ?_⟩
    by_cases hk : kdD d = .tup
    · obtain ⟨ds, rfl⟩ : ∃ ds, d = .tuple ds := by cases d <;> simp [kdD] at hk ⊢
      cases hd with
      | @tup a xs _ hq hall =>
        refine iteF ?_
        refine ⟨_, rfl, _, _, rfl, .inr ⟨_, hq, rfl⟩, rfl, _, rfl, ?_⟩
        have hl := hall.length
        refine ite2 (fun h1 => ?_) (fun h1 => ?_)
        · have h1' : xs.length ≠ 2 := by
            intro z
            rw [z] at h1
            exact absurd h1 (by decide)
          have e := faultD_len (ds := ds) (by rw [← hl]; exact h1')
          rw [← e]
          exact q H (Same.refl H)
        · have h1' : xs.length = 2 := by
            have z : ¬ (!decide (V.int (xs.length : Int) = V.int 2)) = true := h1
            have z2 : (xs.length : Int) = 2 := by simpa using z
            omega
          match xs, ds, hall, h1', hl with
          | [y, z], _, .cons (d := d1) h2 (.cons (d := d2) h3 .nil), _, _ =>
            have a0 : atI [y, z] 0 = some y := rfl
            have a1 : atI [y, z] 1 = some z := rfl
            refine ⟨_, rfl, _, _, _, _, rfl, rfl, hq, a0, y, "str", d1, _, rfl, h2, kit_str K _, _, rfl, ?_⟩
            refine ite2 (fun h4 => ?_) (fun h4 => ?_)
            · obtain ⟨t, rfl⟩ : ∃ t, d1 = .str t := by cases d1 <;> simp [kdD] at h4 ⊢
              cases h2
              refine ⟨_, rfl, _, _, _, _, rfl, rfl, hq, a0, rfl, _, rfl, ?_⟩
              refine ite2 (fun h5 => ?_) (fun h5 => ?_)
              · have h5' : t = "fault" := by
                  have z5 : V.str t = V.str "fault" := by simpa using h5
                  exact V.str.inj z5
                refine ⟨_, rfl, _, _, _, _, rfl, rfl, hq, a1, z, d2, rfl, h3, hsh _ rfl _ (List.mem_cons_of_mem _ List.mem_cons_self), fun H' s' => ?_⟩
                · have e : faultD (.tuple [.str t, d2]) = nameD d2 := by
                    show (decide (t = "fault") && nameD d2) = nameD d2
                    rw [decide_eq_true h5', Bool.true_and]
                  rw [← e]
                  exact q H' s'
              · have h5' : t ≠ "fault" := fun z5 => h5 (by rw [z5]; rfl)
                have e : faultD (.tuple [.str t, d2]) = false := by
                  show (decide (t = "fault") && nameD d2) = false
                  rw [decide_eq_false h5', Bool.false_and]
                show Q (.bl false) H
                rw [← e]
                exact q H (Same.refl H)
            · have e : faultD (.tuple [d1, d2]) = false := by cases d1 <;> simp [kdD] at h4 <;> rfl
              show Q (.bl false) H
              rw [← e]
              exact q H (Same.refl H)
    · rw [decide_eq_false hk]
      refine iteT (iteT ?_)
      have e : faultD d = false := by cases d <;> simp [kdD] at hk <;> rfl
      rw [← e]
      exact q H (Same.refl H)
end
end My

namespace My
open PySem L2
def cellZ (ns : List Int) (k : Int) : Int := if k < ns.length then ns.getD k.toNat 0 else ((if 0 < (ns.length : Int) then ns.getD (k % ns.length).toNat 0 % 2147483647 else 41) + k * k + 5) * (48271 + 16807 * k) % 2147483629
section
variable {P : Program} {w : World} {K : PySem.W.Frag} {mg : Str → Option Value} {base : Heap}
def spCell (K : PySem.W.Frag) : Sp := fun vs H Q _ => ∃ (a : Addr) (ns : List Int) (k : Int), vs = [.ref a, .int k] ∧ SqL K H a (ns.map V.int) ∧ ns.length ≤ 63 ∧ 0 ≤ k ∧ k ≤ 1000000 ∧ Q (.int (cellZ ns k)) H
theorem sc_law_cell : FnScope ["_law_script", "_law_k", "_law_seed"] ["_law_script", "_law_k"] (defScope s_law_cell) := ⟨rfl, rfl, rfl, by decide +kernel, rfl, by decide +kernel, by decide +kernel⟩
theorem k_law_cell (T : Tops K mg) : Known P w K mg base CX0 1 "_law_cell" ["_law_script", "_law_k"] (spCell K) := by
  refine T.d_law_cell.known sc_law_cell (fun _ _ _ _ _ _ us hl => match us, hl with | [_, _], _ => rfl) (fun vs H Q E h => ?_) (fun f cdv A outer s H vs Q E hr h => ?_)
  · obtain ⟨a, ns, k, rfl, _⟩ := h
    rfl
  · obtain ⟨a, ns, k, rfl, hS, hl, h0, h6, q⟩ := h
    refine ⟨_, (pss_cons (ps_if (pt_cmpR op_lt (pv 1) (pe_callB call_len rfl T.len b_len (pa_cons (pv 0) pa_nil)) (nomark _)) (pss_one (ps_ret (pe_ix ix_list (pv 0) (pv 1) (fun _ _ => rfl)))) pss_nil)
      (pss_cons (ps_set (i := 2) sc_law_cell.nd rfl (Or.inl rfl) pe_int)
      (pss_cons (ps_if (pt_cmpR op_gt (pe_callB call_len rfl T.len b_len (pa_cons (pv 0) pa_nil)) pe_int (nomark _)) (pss_one (ps_set (i := 2) sc_law_cell.nd rfl (Or.inl rfl) (pe_op op_mod (pe_ix ix_list (pv 0) (pe_op op_mod (pv 1) (pe_callB call_len rfl T.len b_len (pa_cons (pv 0) pa_nil))) (fun _ _ => rfl)) pe_int))) pss_nil)
      (pss_one (ps_ret (pe_op op_mod (pe_op op_mul (pe_op op_add (pe_op op_add (pv 2) (pe_op op_mul (pv 1) (pv 1))) pe_int) (pe_op op_add pe_int (pe_op op_mul pe_int (pv 1)))) pe_int)))))), ?_⟩
    have el : ((ns.map V.int).length : Int) = (ns.length : Int) := by rw [List.length_map]
    refine ⟨_, rfl, _, rfl, _, _, rfl, .inl ⟨_, hS, rfl⟩, _, _, rfl, rfl, _, rfl, ?_⟩
    rw [el]
    refine ite2 (fun h1 => ?_) (fun h1 => ?_)
    · have h1' : k < ns.length := by simpa using h1
      refine ⟨_, rfl, _, rfl, a, _, k, _, rfl, rfl, hS, at_map ns k h0 h1', ?_⟩
      have e : cellZ ns k = ns.getD k.toNat 0 := by unfold cellZ; rw [if_pos h1']
      rw [← e]
      exact q
    · have h1' : ¬ k < ns.length := by simpa using h1
      refine ⟨_, rfl, _, _, rfl, .inl ⟨_, hS, rfl⟩, _, _, rfl, rfl, _, rfl, ?_⟩
      rw [el]
      have fin : ∀ seed : Int, cellZ ns k = (seed + k * k + 5) * (48271 + 16807 * k) % 2147483629 →
          tRet (tOp (rI (fun _ j => 0 < j) fun i j => .int (i % j)) (tOp (rI CMul fun i j => .int (i * j)) (tOp (rI0 fun i j => .int (i + j)) (tOp (rI0 fun i j => .int (i + j)) (tVar 2) (tOp (rI CMul fun i j => .int (i * j)) (tVar 1) (tVar 1))) (tC (.int 5))) (tOp (rI0 fun i j => .int (i + j)) (tC (.int 48271)) (tOp (rI CMul fun i j => .int (i * j)) (tC (.int 16807)) (tVar 1)))) (tC (.int 2147483629)))
            { nx := fun _ H' => Q .non H', rt := Q } [some (.ref a), some (.int k), some (.int seed)] H := fun seed e => by
        refine ⟨_, rfl, _, rfl, _, rfl, _, _, rfl, rfl, .inl ⟨by omega, by omega⟩, _, _, rfl, rfl, _, _, rfl, rfl, _, rfl, _, _, rfl, rfl, .inl ⟨by decide, by decide⟩, _, _, rfl, rfl, _, _, rfl, rfl, .inr ⟨by omega, by omega⟩, _, _, rfl, rfl, (show (0 : Int) < 2147483629 by decide), ?_⟩
        show Q (.int ((seed + k * k + 5) * (48271 + 16807 * k) % 2147483629)) H
        rw [← e]
        exact q
      refine ite2 (fun h2 => ?_) (fun h2 => ?_)
      · have h2' : 0 < (ns.length : Int) := by simpa using h2
        have hm := Int.emod_nonneg k (Int.ne_of_gt h2')
        have hm' := Int.emod_lt_of_pos k h2'
        refine ⟨_, rfl, _, rfl, _, rfl, _, _, rfl, .inl ⟨_, hS, rfl⟩, _, _, rfl, rfl, by rw [el]; exact h2', a, _, _, _, rfl, rfl, hS, by rw [el]; exact at_map ns _ hm hm', _, _, rfl, rfl, (show (0 : Int) < 2147483647 by decide), ?_⟩
        refine fin _ ?_
        unfold cellZ
        rw [if_neg h1', if_pos h2']
      · have h2' : ¬ 0 < (ns.length : Int) := by simpa using h2
        refine fin 41 ?_
        unfold cellZ
        rw [if_neg h1', if_neg h2']
theorem let_len : letters.cps.toList.length = 26 := by decide +kernel
/-- a word of small letters -/
def Word (cs : List Nat) : Prop := 1 ≤ cs.length ∧ cs.length ≤ 8 ∧ ∀ c ∈ cs, c ∈ letters.cps.toList
end
end My

namespace My
open PySem L2
/-- a name, by its letters -/
def Nl (t : Str) : Prop := 1 ≤ t.length ∧ t.length ≤ 8 ∧ ∀ c ∈ t.cps.toList, c ∈ letters.cps.toList
end My

namespace My
open PySem L2
theorem Nl.name {t : Str} (h : Nl t) : nameS t = true := by
  unfold nameS
  have a1 : decide ((1 : Int) ≤ t.length) = true := by rw [decide_eq_true_eq]; have := h.1; omega
  have a2 : decide ((t.length : Int) ≤ 8) = true := by rw [decide_eq_true_eq]; have := h.2.1; omega
  have a3 : t.cps.toList.all inL = true := by
    rw [List.all_eq_true]
    intro c hc
    have : ∀ c ∈ letters.cps.toList, inL c = true := by decide +kernel
    exact this c (h.2.2 c hc)
  rw [a1, a2, a3]
  rfl
theorem Nl.lay {z : Str} (h : Nl z) : PyData.canLay0 (.str z) = true := by
  obtain ⟨⟨l⟩⟩ := z
  have : ∀ c ∈ letters.cps.toList, c < 128 := by decide +kernel
  exact lay_text fun c hc => this c (h.2.2 c hc)
theorem spD_lay {p : Str × Str} (h1 : Nl p.1) (h2 : Nl p.2) : (spD p).canLay0 = true := by
  show PyData.canLayAll0 [.str p.1, .str p.2] = true
  show (PyData.canLay0 (.str p.1) && (PyData.canLay0 (.str p.2) && true)) = true
  rw [h1.lay, h2.lay]
  rfl
/-- spots of good names -/
def Spots (K : PySem.W.Frag) (H : Hp) (xs : List V) (ps : List (Str × Str)) : Prop := DtAll K H xs (ps.map spD) ∧ ∀ p ∈ ps, Nl p.1 ∧ Nl p.2
theorem lay_spots : ∀ {ps : List (Str × Str)}, (∀ p ∈ ps, Nl p.1 ∧ Nl p.2) → (PyData.list (ps.map spD)).canLay0 = true
  | [], _ => rfl
  | p :: ps, h => by
    show ((spD p).canLay0 && PyData.canLayAll0 (ps.map spD)) = true
    have e : PyData.canLayAll0 (ps.map spD) = true := lay_spots fun q hq => h q (List.mem_cons_of_mem _ hq)
    rw [e, spD_lay (h p List.mem_cons_self).1 (h p List.mem_cons_self).2]
    rfl
theorem DtAll.snoc {K : PySem.W.Frag} {H : Hp} : ∀ {xs : List V} {ds : List PyData} {x : V} {d : PyData}, DtAll K H xs ds → Dt K H x d → DtAll K H (xs ++ [x]) (ds ++ [d])
  | _, _, _, _, .nil, h => .cons h .nil
  | _, _, _, _, .cons h t, q => .cons h (DtAll.snoc t q)
section
variable {P : Program} {w : World} {K : PySem.W.Frag} {mg : Str → Option Value} {base : Heap}
def spCName : Sp := fun vs H Q _ => ∃ z : Str, vs = [.str z] ∧ Nl z ∧ ∀ H', Same H H' → Q .non H'
theorem sc_check_name : FnScope ["name"] ["name"] (defScope s_check_name) := ⟨rfl, rfl, rfl, by decide +kernel, rfl, by decide +kernel, by decide +kernel⟩
theorem k_check_name (T : Tops K mg) : Known P w K mg base CX0 2 "check_name" ["name"] spCName := by
  have G_is_name : Known P w K mg base CX0 1 "is_name" ["thing"] (spName K) := k_is_name T
  refine T.d_check_name.known sc_check_name (fun _ _ _ _ _ _ us hl => match us, hl with | [_], _ => rfl) (fun vs H Q E h => ?_) (fun f cdv A outer s H vs Q E hr h => ?_)
  · obtain ⟨z, rfl, _⟩ := h
    rfl
  · obtain ⟨z, rfl, hz, q⟩ := h
    refine ⟨_, (pss_one (ps_if (pt_not (pt_val (pe_callN G_is_name (hr.mono (by decide)) pass0 (pa_cons (pv 0) pa_nil)) (fun _ => rfl))) (pss_one ps_dead) pss_nil)), ?_⟩
    have h8 := hz.2.1
    refine ⟨_, rfl, _, _, rfl, .str z, shortS_str (by omega), fun H' s' => ⟨_, rfl, ?_⟩⟩
    rw [show nameD (.str z) = true from hz.name]
    exact iteF (q H' s')
def spCNames (K : PySem.W.Frag) : Sp := fun vs H Q _ => ∃ (a : Addr) (zs : List Str), vs = [.ref a] ∧ SqL K H a (zs.map V.str) ∧ zs.length ≤ 6 ∧ (∀ z ∈ zs, Nl z) ∧ ∀ H' l, Same H H' → H l = none → H' l = some (.lst (zs.map V.str)) → Q (.ref l) H'
theorem dt_strs {K : PySem.W.Frag} {H : Hp} : ∀ zs : List Str, DtAll K H (zs.map V.str) (zs.map PyData.str)
  | [] => .nil
  | z :: zs => .cons (.str z) (dt_strs zs)
theorem sc_checked_names : FnScope ["names", "name"] ["names"] (defScope s_checked_names) := ⟨rfl, rfl, rfl, by decide +kernel, rfl, by decide +kernel, by decide +kernel⟩
theorem k_checked_names (T : Tops K mg) : Known P w K mg base CX0 3 "checked_names" ["names"] (spCNames K) := by
  have G_check_name : Known P w K mg base CX0 2 "check_name" ["name"] spCName := k_check_name T
  refine T.d_checked_names.known sc_checked_names (fun _ _ _ _ _ _ us hl => match us, hl with | [_], _ => rfl) (fun vs H Q E h => ?_) (fun f cdv A outer s H vs Q E hr h => ?_)
  · obtain ⟨a, zs, rfl, _⟩ := h
    rfl
  · obtain ⟨a, zs, rfl, hq, h6, hz, q⟩ := h
    refine ⟨_, (pss_cons (ps_if (PW.pt (pw_or (pt_not (pt_val (pe_callB call_isT rfl T.isinstance b_isinstance (pa_cons (pv 0) (pa_cons (pe_ty T.list b_list) pa_nil))) (fun _ => rfl))) (pw_or1 (pt_cmpR op_gt (pe_callB call_len rfl T.len b_len (pa_cons (pv 0) pa_nil)) (pe_gI T.g_MOST_NAMES) (nomark _))))) (pss_one ps_dead) pss_nil)
      (pss_cons (ps_for PassesOwn.never rfl (pi_list (pv 0)) (pg_name (i := 1) sc_checked_names.nd rfl (Or.inl rfl)) (pss_one (ps_expr (pe_callN G_check_name (hr.mono (by decide)) pass0 (pa_cons (pv 1) pa_nil)))))
      (pss_one (ps_ret (pe_callTy call_list_of rfl T.list b_list (pa_cons (pv 0) pa_nil)))))), ?_⟩
    refine ⟨_, rfl, _, "list", _, _, rfl, Dt.lst hq (dt_strs zs), kit_list K _, _, rfl, iteF ?_⟩
    refine ⟨_, rfl, _, _, rfl, .inl ⟨_, hq, rfl⟩, _, _, rfl, rfl, _, rfl, ?_⟩
    rw [List.length_map, decide_eq_false (by omega)]
    refine iteF ?_
    refine ⟨_, rfl, a, rfl, ⟨_, hq⟩, ?_⟩
    refine for_list (K := K) (a := a) (xs := zs.map V.str) (fun i σ H2 => ∃ o, σ = [some (.ref a), o] ∧ Same H H2) ⟨_, rfl, Same.refl H⟩ (fun i σ H2 _ ⟨_, _, s2⟩ => s2.seq hq) ?_ ?_
    · rintro i x σ H2 hx ⟨o, rfl, s2⟩
      rw [List.getElem?_map] at hx
      cases e : zs[i]? with
      | none => rw [e] at hx; cases hx
      | some z =>
        rw [e] at hx
        cases hx
        exact ⟨_, rfl, z, rfl, hz z (List.mem_of_getElem? e), fun H3 s3 => ⟨_, rfl, s2.trans s3⟩⟩
    · rintro σ H2 ⟨o, rfl, s2⟩
      refine ⟨_, rfl, a, _, rfl, .inl (s2.seq hq), fun l hl => ?_⟩
      have hl' : H l = none := by
        cases e : H l with
        | none => rfl
        | some u => rw [s2 _ _ e] at hl; cases hl
      exact q _ l (s2.trans (Same.new hl)) hl' upd_same
def spOnce (K : PySem.W.Frag) : Sp := fun vs H Q _ => ∃ (a : Addr) (xs : List V) (ps : List (Str × Str)), vs = [.ref a] ∧ SqL K H a xs ∧ Spots K H xs ps ∧ ps.length ≤ 100 ∧
  ∀ H' l ys, Same H H' → H l = none → H' l = some (.lst ys) → Spots K H' ys (onceOf ps) → Q (.ref l) H'
theorem sc_each_once : FnScope ["spots", "found", "spot"] ["spots"] (defScope s_each_once) := ⟨rfl, rfl, rfl, by decide +kernel, rfl, by decide +kernel, by decide +kernel⟩
theorem k_each_once (T : Tops K mg) : Known P w K mg base CX0 2 "each_once" ["spots"] (spOnce K) := by
  refine T.d_each_once.known sc_each_once (fun _ _ _ _ _ _ us hl => match us, hl with | [_], _ => rfl) (fun vs H Q E h => ?_) (fun f cdv A outer s H vs Q E hr h => ?_)
  · obtain ⟨a, xs, ps, rfl, _⟩ := h
    rfl
  · obtain ⟨a, xs, ps, rfl, hq, hsp, h100, q⟩ := h
    refine ⟨_, (pss_cons (ps_set (i := 1) sc_each_once.nd rfl (Or.inl rfl) (pe_lst pa_nil))
      (pss_cons (ps_for PassesOwn.never rfl (pi_list (pv 0)) (pg_name (i := 2) sc_each_once.nd rfl (Or.inl rfl)) (pss_one (ps_if (pt_cmpR (op_notinD hr.units) (pv 2) (pv 1) (by with_unfolding_all rfl)) (pss_one (ps_expr (pe_bm PySem.F.plainAttrs_list PySem.F.slot_list_append PySem.F.type_list_append mt_append (pv 1) (pa_cons (pv 2) pa_nil)))) pss_nil)))
      (pss_one (ps_ret (pv 1))))), ?_⟩
    have hlx : xs.length = ps.length := by rw [hsp.1.length, List.length_map]
    refine ⟨sl, fun l hl => ?_⟩
    refine ⟨_, rfl, a, rfl, ⟨_, (Same.new hl).seq hq⟩, ?_⟩
    refine for_list (K := K) (a := a) (xs := xs) (fun i σ H2 => ∃ o ys, σ = [some (.ref a), some (.ref l), o] ∧ Same H H2 ∧ H2 l = some (.lst ys) ∧ DtAll K H ys ((onceOf (ps.take i)).map spD)) ⟨_, [], rfl, Same.new hl, upd_same, .nil⟩ (fun i σ H2 _ ⟨_, _, _, s2, _⟩ => s2.seq hq) ?_ ?_
    · rintro i x σ H2 hx ⟨o, ys, rfl, s2, h2, hd⟩
      obtain ⟨d, hd1, hd2⟩ := hsp.1.get hx
      rw [List.getElem?_map] at hd1
      cases e : ps[i]? with
      | none => rw [e] at hd1; cases hd1
      | some p =>
        rw [e] at hd1
        cases hd1
        have hp := List.mem_of_getElem? e
        have hle : ((onceOf (ps.take i)).map spD).length = ys.length := hd.length.symm
        rw [List.length_map] at hle
        have hyl : ys.length ≤ 100 := by
          have h3 := onceOf_le (ps.take i)
          rw [List.length_take] at h3
          omega
        have lay2 : (PyData.list ((onceOf (ps.take i)).map spD)).canLay0 = true := lay_spots fun p' hp' => hsp.2 p' (List.mem_of_mem_take (onceOf_mem hp'))
        have et : onceOf (ps.take (i + 1)) = if p ∈ onceOf (ps.take i) then onceOf (ps.take i) else onceOf (ps.take i) ++ [p] := by
          rw [List.take_add_one, e]
          exact onceOf_snoc _ _
        refine ⟨_, rfl, _, rfl, spD p, _, hd2.same s2, Dt.lst (SqL.of h2) (DtAll.same s2 hd), spD_lay (hsp.2 p hp).1 (hsp.2 p hp).2, lay2, (show max 0 (max 0 0) + 1 ≤ 62 by decide), _, rfl, ?_⟩
        rw [spD_any]
        by_cases hm : p ∈ onceOf (ps.take i)
        · rw [decide_eq_true hm]
          rw [if_pos hm] at et
          exact iteF ⟨_, ys, rfl, s2, h2, by rw [et]; exact hd⟩
        · rw [decide_eq_false hm]
          rw [if_neg hm] at et
          refine iteT ?_
          refine ⟨_, rfl, .inl ⟨rfl, _, SqL.of h2⟩, _, rfl, l, _, _, rfl, rfl, h2, small1000 (by omega), ?_⟩
          have s3 : Same H (upd H2 l (.lst (ys ++ [x]))) := s2.on hl
          refine ⟨_, ys ++ [x], rfl, s3, upd_same, ?_⟩
          rw [et, List.map_append]
          exact DtAll.snoc hd hd2
    · rintro σ H2 ⟨o, ys, rfl, s2, h2, hd⟩
      refine ⟨_, rfl, q H2 l ys s2 hl h2 ⟨?_, fun p hp => hsp.2 p (onceOf_mem hp)⟩⟩
      rw [hlx, List.take_length] at hd
      exact DtAll.same s2 hd
end
end My

namespace My
open PySem L2
/-- all stays but the instance at p -/
def But (p : Addr) (H H' : Hp) : Prop := ∀ b o, b ≠ p → H b = some o → H' b = some o
theorem But.of {p : Addr} {H H' : Hp} (s : Same H H') : But p H H' := fun b o _ e => s b o e
theorem But.trans {p : Addr} {H H1 H2 : Hp} (a : But p H H1) (b : But p H1 H2) : But p H H2 := fun c o n e => b c o n (a c o n e)
theorem But.upd {p : Addr} {H : Hp} {o : HO} : But p H (upd H p o) := fun b u n e => by rw [upd_ne n]; exact e
theorem spot_inv {K : PySem.W.Frag} {H : Hp} {v : V} {p : Str × Str} (h : Dt K H v (spD p)) : ∃ a, v = .ref a ∧ SqT K H a [.str p.1, .str p.2] := by
  cases h with
  | @tup a xs _ hq hall =>
    cases hall with
    | cons h1 t1 =>
      cases t1 with
      | cons h2 t2 =>
        cases t2
        cases h1
        cases h2
        exact ⟨a, rfl, hq⟩
theorem spot_mk {K : PySem.W.Frag} {H : Hp} {a : Addr} {p : Str × Str} (h : SqT K H a [.str p.1, .str p.2]) : Dt K H (.ref a) (spD p) := .tup h (.cons (.str _) (.cons (.str _) .nil))
theorem sqT_upd {K : PySem.W.Frag} {H : Hp} {a D : Addr} {xs ys : List V} {o : HO} (hD : H D = some (.lst ys)) (h : SqT K H a xs) : SqT K (upd H D o) a xs := by
  rcases h with (h | ⟨o', h⟩) | h
  · exact .inl (.inl (by rw [upd_ne (ne_of h hD (fun z => by cases z))]; exact h))
  · exact .inl (.inr ⟨o', by rw [upd_ne (ne_of h hD (fun z => by cases z))]; exact h⟩)
  · exact .inr h
theorem spots_upd {K : PySem.W.Frag} {H : Hp} {D : Addr} {ys : List V} {o : HO} (hD : H D = some (.lst ys)) : ∀ {xs : List V} {ps : List (Str × Str)}, DtAll K H xs (ps.map spD) → DtAll K (upd H D o) xs (ps.map spD)
  | [], [], _ => .nil
  | _ :: _, p :: ps, .cons h t => by
    obtain ⟨a, rfl, hq⟩ := spot_inv h
    exact .cons (spot_mk (sqT_upd hD hq)) (spots_upd hD t)
theorem none_back {H H' : Hp} {l : Addr} (s : Same H H') (h : H' l = none) : H l = none := by
  cases e : H l with
  | none => rfl
  | some u => rw [s _ _ e] at h; cases h
section
variable {P : Program} {w : World} {K : PySem.W.Frag} {mg : Str → Option Value} {base : Heap}
def spRuleI (K : PySem.W.Frag) : Sp := fun vs H Q _ => ∃ (p C dx : Addr) (fs : List (Str × V)) (v : V), vs = [.ref p, v] ∧ H p = some (.ins C dx fs) ∧ Cls K C ∧ NoAttr K C "function" ∧ fs.length < 1000 ∧ Q .non (upd H p (.ins C dx (putF "function" v fs)))
theorem sc_Rule_init : FnScope ["self", "function"] ["self", "function"] (defScope s_Rule_init) := ⟨rfl, rfl, rfl, by decide +kernel, rfl, by decide +kernel, by decide +kernel⟩
theorem k_Rule_init (T : Tops K mg) {C : Addr} (Y : TRule K mg C) : KnownM P w K mg base CX0 1 C "__init__" ["self", "function"] (spRuleI K) := by
  refine Y.m_init.known sc_Rule_init (fun _ _ _ _ _ _ us hl => match us, hl with | [_, _], _ => rfl) (fun vs H Q E h => ?_) (fun f cdv A outer s H vs Q E hr h => ?_)
  · obtain ⟨p, C', dx, fs, v, rfl, _⟩ := h
    rfl
  · obtain ⟨p, C', dx, fs, v, rfl, hp, hC, hN, hl, q⟩ := h
    refine ⟨_, (pss_one (ps_fld (pv 0) (pv 1) rfl)), ?_⟩
    exact ⟨_, rfl, _, rfl, p, C', dx, fs, rfl, hp, hC, hN, hl, q⟩
theorem sqL_but {K : PySem.W.Frag} {H H' : Hp} {p a : Addr} {xs : List V} (b : But p H H') (hp : ∃ C dx fs, H p = some (.ins C dx fs)) (h : SqL K H a xs) : SqL K H' a xs := by
  have na : ∀ u, H a = some u → (∀ C dx fs, u ≠ .ins C dx fs) → a ≠ p := fun u e n z => by
    obtain ⟨C, dx, fs, e'⟩ := hp
    rw [← z, e] at e'
    exact n _ _ _ (Option.some.inj e')
  rcases h with (h | ⟨o, h⟩) | h
  · exact .inl (.inl (b _ _ (na _ h (fun _ _ _ z => by cases z)) h))
  · exact .inl (.inr ⟨o, b _ _ (na _ h (fun _ _ _ z => by cases z)) h⟩)
  · exact .inr h
theorem comp_spots {cp : List (Nat × Str)} {σ : St} {H : Hp} {r D : Addr} {t : Str} {zs : List Str} {te : TE} {Q : VK} (hD : H D = none) (h4 : H r = some (.lst (zs.map V.str))) (h6 : zs.length ≤ 100)
    (hte : ∀ (z : Str) (H2 : Hp) (q : VK), Same H H2 → (∀ tp, H2 tp = none → q (.ref tp) (upd H2 tp (.tup [.str t, .str z]))) → te (some (.str z) :: capσ cp σ) H2 q)
    (hq : ∀ ys H2, H2 D = some (.lst ys) → Same H H2 → DtAll K H2 ys ((zs.map fun z => (t, z)).map spD) → Q (.ref D) H2) : tLoop cp tYes te σ (Itl K r) D Q H := by
  refine comp_list (K := K) (a := r) (xs := zs.map V.str) (fun i ys H2 => Same H H2 ∧ DtAll K H2 ys (((zs.take i).map fun z => (t, z)).map spD)) ⟨Same.new hD, .nil⟩ (fun i ys H2 _ ⟨s2, _⟩ => SqL.of (s2 _ _ h4)) ?_ ?_
  · rintro i x ys H2 hx h2D ⟨s2, hd⟩
    rw [List.getElem?_map] at hx
    cases e : zs[i]? with
    | none => rw [e] at hx; cases hx
    | some z =>
      rw [e] at hx
      cases hx
      have hi : i < zs.length := (List.getElem?_eq_some_iff.mp e).1
      have hyl : ys.length ≤ 100 := by
        have := hd.length
        rw [List.length_map, List.length_map, List.length_take] at this
        omega
      refine hte z H2 _ s2 fun tp htp => ?_
      have s3 : Same H2 (upd H2 tp (.tup [.str t, .str z])) := Same.new htp
      have h3D := s3 _ _ h2D
      refine ⟨h3D, small1000 (by omega), (s2.trans s3).on hD, ?_⟩
      have et : ((zs.take (i + 1)).map fun z => (t, z)).map spD = ((zs.take i).map fun z => (t, z)).map spD ++ [spD (t, z)] := by
        rw [List.take_add_one, e, List.map_append, List.map_append]
        rfl
      rw [et]
      exact DtAll.snoc (spots_upd h3D (DtAll.same s3 hd)) (spot_mk (p := (t, z)) (sqT_upd h3D (.inl (.inl upd_same))))
  · rintro ys H2 h2D ⟨s2, hd⟩
    rw [List.length_map, List.take_length] at hd
    exact hq ys H2 h2D s2 hd
/-- what every rule holds beside its own: no methods of its own, its function -/
def Flds (fs : List (Str × V)) (v : V) : Prop := fs.lookup ("leans" : Str) = none ∧ fs.lookup ("gather" : Str) = none ∧ fs.lookup ("reckon" : Str) = none ∧ fs.lookup ("function" : Str) = some v
theorem same_of_init {H H' : Hp} {x dx C : Addr} (hx : H x = none) (hdx : H dx = none) (bt : But x (upd (upd H dx (.own x)) x (.ins C dx [])) H') : Same H H' := fun b o e => by
  refine bt b o (ne_of_none e hx) ?_
  rw [upd_ne (ne_of_none e hx), upd_ne (ne_of_none e hdx)]
  exact e
end
theorem comp_listF {K : PySem.W.Frag} {cp : List (Nat × Str)} {tt : TT} {te : TE} {σ : St} {a : Addr} {xs : List V} {D : Addr} {Q : VK} {H1 : Hp} (Pv : Nat → List V → Hp → Prop) (h0 : Pv 0 [] (upd H1 D (.lst [])))
    (hl : ∀ i ys H, H D = some (.lst ys) → Pv i ys H → SqL K H a xs)
    (hs : ∀ i x ys H, xs[i]? = some x → H D = some (.lst ys) → Pv i ys H → tt (some x :: capσ cp σ) H fun b H4 => if b = true then te (some x :: capσ cp σ) H4 (Nxt D Pv i ys) else ∃ ys', H4 D = some (.lst ys') ∧ Pv (i + 1) ys' H4)
    (hd : ∀ ys H, H D = some (.lst ys) → Pv xs.length ys H → Q (.ref D) H) : tLoop cp tt te σ (Itl K a) D Q H1 := by
  refine ⟨fun i m H => m = xs.length - i ∧ i ≤ xs.length ∧ ∃ ys, H D = some (.lst ys) ∧ Pv i ys H, ⟨xs.length, by simp, Nat.zero_le _, [], upd_same, h0⟩, ?_⟩
  rintro i m H ⟨rfl, hi, ys, hD, p⟩
  by_cases hlt : i < xs.length
  · refine .inr ⟨⟨xs, xs[i], hl i ys H hD p, by simp [hlt]⟩, Nxt D Pv i ys, fun H4 => ∃ ys', H4 D = some (.lst ys') ∧ Pv (i + 1) ys' H4, fun y H5 ⟨h1, h2, h3⟩ => ⟨ys, xs.length - (i + 1), h1, h2, by omega, rfl, hlt, _, upd_same, h3⟩, fun H4 ⟨ys', h1, h2⟩ => ⟨xs.length - (i + 1), by omega, rfl, hlt, ys', h1, h2⟩, fun v H' y => ?_⟩
    obtain ⟨e, y⟩ := y
    subst e
    exact hs i v ys _ (y xs (hl i ys _ hD p)) hD p
  · have e : i = xs.length := by omega
    subst e
    exact .inl ⟨⟨xs, hl _ ys H hD p, Nat.le_refl _⟩, hd ys H hD p⟩
end My

namespace My
open PySem L2
/-! ### texts by their signs -/
abbrev figT : Str := "0123456789"
def inF (c : Nat) : Bool := !(Builtin.Str.occurrences figT ⟨#[c]⟩ 0 figT.length 1).isEmpty
theorem inF_lt : ∀ c, c < 128 → inF c = (decide (48 ≤ c) && decide (c ≤ 57)) := by decide +kernel
theorem inL_lt : ∀ c, c < 128 → inL c = (decide (97 ≤ c) && decide (c ≤ 122)) := by decide +kernel
def okF (ds : List Nat) : Bool := decide ((1 : Int) ≤ (ds.length : Int)) && decide ((ds.length : Int) ≤ 60) && ds.all inF
def numL (cs : List Nat) : Bool := if cs.head? = some 45 then okF (cs.drop 1) && !decide ((cs.drop 1).head? = some 48) else okF cs && (decide (cs = [48]) || !decide (cs.head? = some 48))
theorem nameS_len {z : Str} (h : nameS z = true) : z.length ≤ 8 := by
  unfold nameS at h
  simp only [Bool.and_eq_true, decide_eq_true_eq] at h
  omega
theorem okF_no {ds : List Nat} {c : Nat} (h : c ∈ ds) (hc : inF c = false) : okF ds = false := by
  have : ds.all inF = false := List.all_eq_false.mpr ⟨c, h, by rw [hc]; decide⟩
  unfold okF
  rw [this, Bool.and_false]
theorem name_no {ws : List Nat} {c : Nat} (h : c ∈ ws) (hc : inL c = false) : nameS ⟨ws.toArray⟩ = false := by
  unfold nameS
  have : (⟨ws.toArray⟩ : Str).cps.toList.all inL = false := List.all_eq_false.mpr ⟨c, by simpa using h, by rw [hc]; decide⟩
  rw [this, Bool.and_false]
/-- figures of a number over 0 -/
def Fig (ds : List Nat) : Prop := 1 ≤ ds.length ∧ ds.length ≤ 60 ∧ (∀ c ∈ ds, 48 ≤ c ∧ c ≤ 57) ∧ ds.head? ≠ some 48
theorem Fig.ok {ds : List Nat} (h : Fig ds) : okF ds = true := by
  obtain ⟨h1, h2, h3, _⟩ := h
  unfold okF
  have a : ds.all inF = true := List.all_eq_true.mpr fun c hc => by
    obtain ⟨g1, g2⟩ := h3 c hc
    rw [inF_lt c (by omega), decide_eq_true g1, decide_eq_true g2]
    rfl
  rw [a, decide_eq_true (by omega), decide_eq_true (by omega)]
  rfl
theorem Fig.head {ds : List Nat} (h : Fig ds) : ∃ c r, ds = c :: r ∧ 49 ≤ c ∧ c ≤ 57 := by
  obtain ⟨h1, h2, h3, h4⟩ := h
  cases ds with
  | nil => simp at h1
  | cons c r =>
    obtain ⟨g1, g2⟩ := h3 c (by simp)
    have : c ≠ 48 := fun e => h4 (by rw [e]; rfl)
    exact ⟨c, r, rfl, by omega, g2⟩
theorem Fig.num {ds : List Nat} (h : Fig ds) : numL ds = true := by
  obtain ⟨c, r, e, g1, g2⟩ := h.head
  unfold numL
  rw [if_neg (by rw [e]; simp; omega), h.ok, decide_eq_false h.2.2.2]
  simp
theorem Fig.neg {ds : List Nat} (h : Fig ds) : numL (45 :: ds) = true := by
  unfold numL
  rw [if_pos (show (45 :: ds).head? = some 45 from rfl), show (List.drop 1 (45 :: ds)) = ds from rfl, h.ok, decide_eq_false h.2.2.2]
  rfl
theorem num_zero : numL [48] = true := by decide +kernel
/-! ### the figures of a number -/
open PySem.NumText
def digL (n : Nat) : List Nat := if n = 0 then [] else (Nat.toDigits 10 n).map Char.toNat
theorem digL_step {n : Nat} (h : 0 < n) : digL n = digL (n / 10) ++ [48 + n % 10] := by
  have hd : ∀ d : Nat, d < 10 → [(Nat.digitChar d).toNat] = [48 + d] := by decide
  unfold digL
  rw [if_neg (by omega)]
  by_cases hn : n < 10
  · rw [if_pos (by omega), Nat.toDigits_of_lt_base hn, Nat.mod_eq_of_lt hn]
    exact hd n hn
  · rw [if_neg (by omega)]
    have hm : n % 10 < 10 := Nat.mod_lt n (by decide)
    have t : Nat.toDigits 10 (n / 10) ++ Nat.toDigits 10 (n % 10) = Nat.toDigits 10 (10 * (n / 10) + n % 10) := Nat.toDigits_append_toDigits (by decide) (by omega) hm
    rw [Nat.div_add_mod] at t
    rw [← t, List.map_append, Nat.toDigits_of_lt_base hm]
    congr 1
    exact hd _ hm
theorem digL_fig : ∀ (k n : Nat), 0 < n → n < 10 ^ k → 1 ≤ (digL n).length ∧ (digL n).length ≤ k ∧ (∀ c ∈ digL n, 48 ≤ c ∧ c ≤ 57) ∧ (digL n).head? ≠ some 48 ∧ digitsVal (digL n) = n
  | 0, n, h0, h1 => by simp at h1; omega
  | k + 1, n, h0, h1 => by
    have hm : n % 10 < 10 := Nat.mod_lt n (by decide)
    rw [digL_step h0]
    by_cases hn : n / 10 = 0
    · rw [hn, show digL 0 = [] from rfl]
      have e : n % 10 = n := Nat.mod_eq_of_lt (by omega)
      rw [e]
      refine ⟨by simp, by simp, fun c hc => by simp at hc; omega, by simp; omega, ?_⟩
      show 0 * 10 + (48 + n - 48) = n
      omega
    · have hlt : n / 10 < 10 ^ k := by
        rw [Nat.pow_succ] at h1
        omega
      obtain ⟨g1, g2, g3, g4, g5⟩ := digL_fig k (n / 10) (by omega) hlt
      refine ⟨by simp, by simp; omega, fun c hc => ?_, ?_, ?_⟩
      · rcases List.mem_append.mp hc with h | h
        · exact g3 c h
        · simp at h; omega
      · cases e : digL (n / 10) with
        | nil => rw [e] at g1; simp at g1
        | cons c r => rw [e] at g4; simpa using g4
      · rw [digitsVal_snoc, g5]
        omega
theorem fig_of {n : Nat} (h0 : 0 < n) (h1 : n < 10 ^ 60) : Fig (digL n) := by
  obtain ⟨g1, g2, g3, g4, _⟩ := digL_fig 60 n h0 h1
  exact ⟨g1, g2, g3, g4⟩
/-- how a whole number is written -/
def wrL (i : Int) : List Nat := if i = 0 then [48] else if i < 0 then 45 :: digL i.natAbs else digL i.natAbs
theorem wr_num {i : Int} (h1 : -(10 ^ 60) < i) (h2 : i < 10 ^ 60) : numL (wrL i) = true := by
  have hn : i ≠ 0 → i.natAbs < 10 ^ 60 := fun _ => by omega
  unfold wrL
  split
  · exact num_zero
  · rename_i h0
    split
    · exact (fig_of (by omega) (hn h0)).neg
    · exact (fig_of (by omega) (hn h0)).num
end My

namespace My
open PySem L2
section
variable {P : Program} {w : World} {K : PySem.W.Frag} {mg : Str → Option Value} {base : Heap}
def spWrites : Sp := fun vs H Q _ => ∃ z : Str, vs = [.str z] ∧ z.length ≤ 1000 ∧ ∀ H', Same H H' → Q (.bl (numL z.cps.toList)) H'
theorem sc_writes_number : FnScope ["word", "figures"] ["word"] (defScope s_writes_number) := ⟨rfl, rfl, rfl, by decide +kernel, rfl, by decide +kernel, by decide +kernel⟩
theorem str_eq_list (z : Str) (cs : List Nat) : decide (V.str z = V.str ⟨cs.toArray⟩) = decide (z.cps.toList = cs) := by
  by_cases h : z.cps.toList = cs
  · rw [decide_eq_true h]
    refine decide_eq_true (congrArg V.str (str_ext ?_))
    rw [h]
  · rw [decide_eq_false h]
    exact decide_eq_false fun e => h (by rw [V.str.inj e])
theorem k_writes_number (T : Tops K mg) : Known P w K mg base CX0 1 "writes_number" ["word"] spWrites := by
  refine T.d_writes_number.known sc_writes_number (fun _ _ _ _ _ _ us hl => match us, hl with | [_], _ => rfl) (fun vs H Q E h => ?_) (fun f cdv A outer s H vs Q E hr h => ?_)
  · obtain ⟨z, rfl, _⟩ := h
    rfl
  · obtain ⟨z, rfl, hz, q⟩ := h
    have rest : ∃ t, PSs (cxOf CX0 P w K mg base ["word", "figures"] "writes_number" (defScope s_writes_number) f cdv A outer s H E).nox ((defBody s_writes_number).drop 1) t ∧
        ∀ y : Str, y.length ≤ 1000 → numL z.cps.toList = (okF y.cps.toList && (decide (z.cps.toList = [48]) || !decide (y.cps.toList.head? = some 48))) → t { nx := fun _ H' => Q .non H', rt := Q } [some (.str z), some (.str y)] H := by
      refine ⟨_, (pss_cons (ps_if (PW.pt (pw_or (pt_not (pt_chain op_le op_le pe_int (pe_callB call_len rfl T.len b_len (pa_cons (pv 1) pa_nil)) (pe_gI T.g_MOST_FIGURES))) (pw_or1 (pt_not (pt_val (pe_callB (call_all rfl) rfl T.all b_all (pa_cons (pe_comp caps0 rfl rfl (by decide) (pi_str (pv 1)) (fun _ _ _ _ _ => pts_nil) (fun _ _ _ _ _ => (pe_cmpR op_in_str (pv 0) (pe_gS T.g_FIGURES) (by with_unfolding_all rfl)))) pa_nil)) (fun _ => rfl)))))) (pss_one (ps_ret pe_bl)) pss_nil)
        (pss_one (ps_ret (pe_or (pe_cmpR op_eq (pv 0) pe_str (nomark _)) (pe_one (pe_cmpR op_ne (pe_ix ix_str (pv 1) pe_int (fun _ _ => rfl)) pe_str (nomark _))))))), fun t ht e => ?_⟩
      have no : okF t.cps.toList = false → ∀ H', Same H H' → Q (.bl false) H' := fun h H' s' => by
        have := q H' s'
        rw [e, h, Bool.false_and] at this
        exact this
      have el : (t.cps.toList.length : Int) = (t.length : Int) := by rw [len_list]
      refine ⟨_, rfl, _, _, rfl, ⟨sl ht, rfl⟩, _, _, rfl, rfl, _, rfl, ?_⟩
      refine ite2 (fun h1 => ?_) (fun h1 => ?_)
      · refine ⟨_, _, rfl, rfl, _, rfl, ?_⟩
        refine ite2 (fun h2 => ?_) (fun h2 => ?_)
        · refine no ?_ H (Same.refl H)
          unfold okF
          rw [el]
          have : decide ((t.length : Int) ≤ 60) = false := by simpa using h2
          rw [this, Bool.and_false, Bool.false_and]
        · have h8 : t.cps.size ≤ 60 := by
            have : (t.length : Int) ≤ 60 := by simpa using h2
            show t.length ≤ 60
            omega
          refine ⟨_, rfl, t, rfl, fun D hD => ?_⟩
          refine comp_str (x := t) (fun i ys H2 => ys = (t.cps.toList.take i).map (fun c => V.bl (inF c)) ∧ Same H H2) ⟨rfl, Same.new hD⟩ ?_ ?_
          · rintro i c ys H2 hc h2D ⟨rfl, s2⟩
            have hi : i < t.cps.size := (Array.getElem?_eq_some_iff.mp hc).1
            refine ⟨_, rfl, _, _, rfl, rfl, h2D, ?_, ?_, s2.on hD⟩
            · rw [List.length_map, List.length_take, Array.length_toList]
              exact small1000 (by omega)
            · rw [List.take_add_one, List.map_append, Array.getElem?_toList, hc]
              rfl
          · rintro ys H2 h2D ⟨rfl, s2⟩
            refine ⟨D, t.cps.toList.map inF, rfl, SqL.of ?_, ?_⟩
            · rw [h2D, List.take_of_length_le (by simp), List.map_map]
              rfl
            · have ek : okF t.cps.toList = (t.cps.toList.map inF).all id := by
                unfold okF
                rw [el]
                have e1 : decide ((1 : Int) ≤ t.length) = true := h1
                have e2 : decide ((t.length : Int) ≤ 60) = true := by simpa using h2
                rw [e1, e2, Bool.true_and, Bool.true_and, List.all_map]
                rfl
              rw [← ek]
              refine ⟨_, rfl, ite2 (fun h3 => ?_) (fun h3 => ?_)⟩
              · exact no (by simpa using h3) H2 s2
              · have h3 : okF t.cps.toList = true := by simpa using h3
                have hne : 1 ≤ t.cps.toList.length := by
                  have : (1 : Int) ≤ (t.length : Int) := by simpa using h1
                  omega
                obtain ⟨c, r, hc⟩ : ∃ c r, t.cps.toList = c :: r := by
                  cases hh : t.cps.toList with
                  | nil => rw [hh] at hne; simp at hne
                  | cons c r => exact ⟨c, r, rfl⟩
                have qq := q H2 s2
                rw [e, h3, Bool.true_and] at qq
                refine ⟨_, rfl, rfl, _, rfl, ?_⟩
                have e48 : decide (V.str z = V.str ("0" : Str)) = decide (z.cps.toList = [48]) := str_eq_list z [48]
                rw [e48]
                refine ite2 (fun h4 => ?_) (fun h4 => ?_)
                · rw [h4, Bool.true_or] at qq
                  exact qq
                · have h4 : decide (z.cps.toList = [48]) = false := by simpa using h4
                  rw [h4, Bool.false_or] at qq
                  refine ⟨_, rfl, t, 0, c, rfl, rfl, sl ht, ?_, rfl, ?_⟩
                  · rw [hc]; exact atI_nat (j := 0) rfl
                  · have e49 : decide (V.str ⟨#[c]⟩ = V.str ("0" : Str)) = decide (t.cps.toList.head? = some 48) := by
                      rw [hc]
                      by_cases h : c = 48
                      · rw [h, decide_eq_true (show (48 :: r).head? = some 48 from rfl)]
                        decide +kernel
                      · rw [decide_eq_false (p := (c :: r).head? = some 48) (by simpa using h)]
                        refine decide_eq_false fun e => h ?_
                        have := congrArg (fun s : Str => s.cps.toList) (V.str.inj e)
                        have e' : ([c] : List Nat) = [48] := this
                        simpa using e'
                    rw [← e49] at qq
                    exact qq
      · refine ⟨_, rfl, ?_⟩
        refine iteT ?_
        refine no ?_ H (Same.refl H)
        unfold okF
        rw [el]
        have : decide ((1 : Int) ≤ t.length) = false := by simpa using h1
        rw [this, Bool.false_and, Bool.false_and]
    obtain ⟨t, ht, qt⟩ := rest
    refine ⟨_, pss_cons (ps_set (i := 1) sc_writes_number.nd rfl (Or.inl rfl) (pe_ifExp (pt_val (pe_bm PySem.F.plainAttrs_str PySem.F.slot_str_startswith PySem.F.type_str_startswith mt_starts (pv 0) (pa_cons pe_str pa_nil)) (fun _ => rfl)) (pe_slice sl_str (pv 0) (po_some pe_int) po_none) (pv 0))) ht, ?_⟩
    refine ⟨_, rfl, rfl, z, "-", rfl, rfl, _, rfl, ?_⟩
    have e45 : Txt.startswith z ("-" : Str) = decide (z.cps.toList.head? = some 45) := starts_one z 45
    rw [e45]
    refine ite2 (fun h => ?_) (fun h => ?_)
    · have h : z.cps.toList.head? = some 45 := of_decide_eq_true h
      have h1 : 1 ≤ z.length := by
        rw [len_list]
        cases hh : z.cps.toList with
        | nil => rw [hh] at h; cases h
        | cons c r => simp
      refine ⟨_, rfl, 1, rfl, z, rfl, sl hz, qt _ ?_ ?_⟩
      · exact Nat.le_trans (Txt.slice_le z _ _) hz
      · rw [slice1_list z h1]
        unfold numL
        have h48 : decide (z.cps.toList = [48]) = false := decide_eq_false fun e => by rw [e] at h; cases h
        rw [if_pos h, h48, Bool.false_or]
    · have h : ¬ z.cps.toList.head? = some 45 := fun e => h (decide_eq_true e)
      refine ⟨_, rfl, qt z hz ?_⟩
      unfold numL
      rw [if_neg h]
/-! ### a fault, a value's text -/
end
end My

namespace My
open PySem L2
abbrev F60 : Int := 10 ^ (60 : Int).toNat
theorem log_of {n : Int} (h1 : -F60 < n) (h2 : n < F60) : n.natAbs.log2 < 1920 := by
  have hb : n.natAbs < 2 ^ 1920 := by
    have e : F60 = ((10 ^ 60 : Nat) : Int) := by decide +kernel
    have e2 : (10 ^ 60 : Nat) < 2 ^ 1920 := by decide +kernel
    rw [e] at h1 h2
    omega
  by_cases h0 : n.natAbs = 0
  · rw [h0]; decide
  · exact (Nat.log2_lt h0).mpr hb
theorem numD_near {n : Int} (h1 : -F60 < n) (h2 : n < F60) : numD (.int n) = true := by
  show decide ((if n < 0 then -n else n) < F60) = true
  generalize F60 = F at *
  rw [decide_eq_true_eq]
  split <;> omega
def bnd (F : Int) (n : Int) : Prop := -F < n ∧ n < F
theorem numD_of {n : Int} (h : bnd F60 n) : numD (.int n) = true := numD_near h.1 h.2
/-! ### what the words of a group tell -/
theorem wr_reads {i : Int} {z : Str} (h1 : -F60 < i) (h2 : i < F60) (hz : z.cps.toList = wrL i) : PySem.intText? z = some i ∧ z.length ≤ 61 := by
  have e : F60 = ((10 ^ 60 : Nat) : Int) := by decide +kernel
  have nb : i.natAbs < 10 ^ 60 := by
    rw [e] at h1 h2
    generalize (10 ^ 60 : Nat) = F at *
    omega
  have zl := len_list z
  unfold wrL at hz
  by_cases h0 : i = 0
  · rw [if_pos h0] at hz
    have hl : z.length = 1 := by rw [zl, hz]; rfl
    refine ⟨?_, by omega⟩
    have := intText_digits (x := z) (by rw [hz]; intro c hc; simp at hc; omega) (by rw [hz]; simp) (by omega)
    rw [this, hz, h0]
    rfl
  · rw [if_neg h0] at hz
    obtain ⟨g1, g2, g3, g4, g5⟩ := digL_fig 60 i.natAbs (by omega) nb
    by_cases hn : i < 0
    · rw [if_pos hn] at hz
      have hl : z.length = (digL i.natAbs).length + 1 := by rw [zl, hz]; rfl
      refine ⟨?_, by omega⟩
      have := intText_neg (x := z) hz g3 (by intro e; rw [e] at g1; simp at g1) (by omega)
      rw [this, g5]
      congr 1
      omega
    · rw [if_neg hn] at hz
      have hl : z.length = (digL i.natAbs).length := by rw [zl, hz]
      refine ⟨?_, by omega⟩
      have := intText_digits (x := z) (by rw [hz]; exact g3) (by rw [hz]; intro e; rw [e] at g1; simp at g1) (by omega)
      rw [this, hz, g5]
      congr 1
      omega
end My

namespace My
open PySem L2
/-! ### reckonings: words with signs ahead -/
abbrev sgns : List Str := ["+", "-", "*", "/", ":", "<", "="]
/-- a word that writes the number i -/
def NumW (z : Str) (i : Int) : Prop := bnd F60 i ∧ z.cps.toList = wrL i
def Opd (z : Str) : Prop := Nl z ∨ ∃ i, NumW z i
theorem sgn_no : ∀ z ∈ sgns, nameS z = false ∧ z.length = 1 ∧ (32 : Nat) ∉ z.cps.toList ∧ ∀ c ∈ z.cps.toList, c = 43 ∨ c = 45 ∨ c = 42 ∨ c = 47 ∨ c = 58 ∨ c = 60 ∨ c = 61 := by decide +kernel
theorem NumW.num {z : Str} {i : Int} (h : NumW z i) : numL z.cps.toList = true := by
  rw [h.2]
  have e : F60 = 10 ^ 60 := by decide +kernel
  exact wr_num (by rw [← e]; exact h.1.1) (by rw [← e]; exact h.1.2)
theorem NumW.reads {z : Str} {i : Int} (h : NumW z i) : PySem.intText? z = some i ∧ z.length ≤ 61 := wr_reads h.1.1 h.1.2 h.2
theorem wr_chars {i : Int} (h : bnd F60 i) : (∀ c ∈ wrL i, c = 45 ∨ (48 ≤ c ∧ c ≤ 57)) ∧ ∃ d ∈ wrL i, 48 ≤ d ∧ d ≤ 57 := by
  have e : F60 = ((10 ^ 60 : Nat) : Int) := by decide +kernel
  have nb : i.natAbs < 10 ^ 60 := by
    have h1 := h.1
    have h2 := h.2
    rw [e] at h1 h2
    generalize (10 ^ 60 : Nat) = F at *
    omega
  unfold wrL
  by_cases h0 : i = 0
  · rw [if_pos h0]
    exact ⟨fun c hc => by rw [List.mem_singleton.mp hc]; exact .inr ⟨by decide, by decide⟩, 48, by simp, by decide, by decide⟩
  · rw [if_neg h0]
    obtain ⟨g1, _, g3, _, _⟩ := digL_fig 60 i.natAbs (by omega) nb
    obtain ⟨d, hd⟩ : ∃ d, d ∈ digL i.natAbs := List.exists_mem_of_length_pos (by omega)
    by_cases hn : i < 0
    · rw [if_pos hn]
      refine ⟨fun c hc => ?_, d, List.mem_cons_of_mem _ hd, g3 d hd⟩
      rcases List.mem_cons.mp hc with e | hc
      · exact .inl e
      · exact .inr (g3 c hc)
    · rw [if_neg hn]
      exact ⟨fun c hc => .inr (g3 c hc), d, hd, g3 d hd⟩
theorem NumW.nn {z : Str} {i : Int} (h : NumW z i) : nameS z = false := by
  obtain ⟨_, d, hd, h1, h2⟩ := wr_chars h.1
  have e : z = ⟨(wrL i).toArray⟩ := str_ext (by rw [h.2])
  rw [e]
  refine name_no hd ?_
  rw [inL_lt d (by omega)]
  have : ¬ 97 ≤ d := by omega
  rw [decide_eq_false this, Bool.false_and]
theorem NumW.ns {z : Str} {i : Int} (h : NumW z i) : z ∉ sgns := fun m => by
  obtain ⟨_, d, hd, h1, h2⟩ := wr_chars h.1
  rw [← h.2] at hd
  have := (sgn_no z m).2.2.2 d hd
  omega
theorem Nl.is {z : Str} (h : Nl z) : nameS z = true := h.name
theorem Nl.ns {z : Str} (h : Nl z) : z ∉ sgns := fun m => by
  have := (sgn_no z m).1
  rw [h.is] at this
  cases this
theorem Opd.ns {z : Str} (h : Opd z) : z ∉ sgns := by
  rcases h with h | ⟨i, h⟩
  · exact h.ns
  · exact h.ns
theorem Opd.len {z : Str} (h : Opd z) : z.length ≤ 61 := by
  rcases h with h | ⟨i, h⟩
  · have := h.2.1; omega
  · exact h.reads.2
/-- the words, begun where n are lacking, leave m lacking -/
def Pre : List Str → Nat → Nat → Prop
  | [], n, m => n = m
  | z :: r, n, m => 0 < n ∧ ((z ∈ sgns ∧ Pre r (n + 1) m) ∨ (Opd z ∧ Pre r (n - 1) m))
theorem Pre.all : ∀ {zs : List Str} {n m : Nat}, Pre zs n m → ∀ z ∈ zs, z ∈ sgns ∨ Opd z
  | [], _, _, _, z, hz => by cases hz
  | y :: r, n, m, h, z, hz => by
    rcases List.mem_cons.mp hz with rfl | hz
    · exact h.2.imp (fun q => q.1) (fun q => q.1)
    · rcases h.2 with q | q
      · exact Pre.all q.2 z hz
      · exact Pre.all q.2 z hz
/-! ### what comes -/
abbrev great : PyData := .tuple [.str "fault", .str "great"]
abbrev nought : PyData := .tuple [.str "fault", .str "nought"]
structure RvF (d : PyData) : Prop where
  lay : d.canLay0 = true
  dep : d.depth ≤ 62
  sh : shortD d
  val : valueD d = true
  eq : PyData.eqv d d = true
/-! ### each once -/
def onceS (zs : List Str) : List Str := zs.foldl (fun acc z => if z ∈ acc then acc else acc ++ [z]) []
theorem onceS_snoc (zs : List Str) (z : Str) : onceS (zs ++ [z]) = if z ∈ onceS zs then onceS zs else onceS zs ++ [z] := by
  unfold onceS
  rw [List.foldl_append]
  rfl
theorem onceS_at {zs : List Str} : ∀ i, i ≤ zs.length → (onceS (zs.take i)).Nodup ∧ (∀ z, z ∈ onceS (zs.take i) ↔ z ∈ zs.take i) ∧ (onceS (zs.take i)).length ≤ i
  | 0, _ => ⟨by simp [onceS], fun z => by simp [onceS], by simp [onceS]⟩
  | i + 1, h => by
    obtain ⟨h1, h2, h3⟩ := onceS_at (zs := zs) i (by omega)
    have hz : zs[i]? = some zs[i] := List.getElem?_eq_getElem (by omega)
    have e : zs.take (i + 1) = zs.take i ++ [zs[i]] := by rw [List.take_add_one, hz]; rfl
    rw [e, onceS_snoc]
    by_cases m : zs[i] ∈ onceS (zs.take i)
    · rw [if_pos m]
      refine ⟨h1, fun z => ?_, by omega⟩
      rw [h2 z, List.mem_append, List.mem_singleton]
      refine ⟨.inl, fun q => ?_⟩
      rcases q with q | rfl
      · exact q
      · exact (h2 _).mp m
    · rw [if_neg m]
      refine ⟨?_, fun z => ?_, by rw [List.length_append]; simp; omega⟩
      · rw [List.nodup_append]
        refine ⟨h1, by simp, fun a ha b hb e => ?_⟩
        rw [List.mem_singleton.mp hb] at e
        exact m (e ▸ ha)
      · rw [List.mem_append, List.mem_append, h2 z]
theorem onceS_all (zs : List Str) : (onceS zs).Nodup ∧ (∀ z, z ∈ onceS zs ↔ z ∈ zs) ∧ (onceS zs).length ≤ zs.length := by
  have := onceS_at (zs := zs) zs.length (Nat.le_refl _)
  rw [List.take_of_length_le (Nat.le_refl _)] at this
  exact this
end My

namespace My
open PySem L2
section
variable {P : Program} {w : World} {K : PySem.W.Frag} {mg : Str → Option Value} {base : Heap}
def spRefuse : Sp := fun vs H Q _ => vs = [.bl true] ∧ Q .non H
theorem sc_refuse_unless : FnScope ["holds"] ["holds"] (defScope s_refuse_unless) := ⟨rfl, rfl, rfl, by decide +kernel, rfl, by decide +kernel, by decide +kernel⟩
theorem k_refuse_unless (T : Tops K mg) : Known P w K mg base CX0 1 "refuse_unless" ["holds"] spRefuse := by
  refine T.d_refuse_unless.known sc_refuse_unless (fun _ _ _ _ _ _ us hl => match us, hl with | [_], _ => rfl) (fun vs H Q E h => ?_) (fun f cdv A outer s H vs Q E hr h => ?_)
  · obtain ⟨rfl, _⟩ := h
    rfl
  · obtain ⟨rfl, q⟩ := h
    refine ⟨_, (pss_one (ps_if (pt_not (pt_val (pv 0) (fun _ => rfl))) (pss_one ps_dead) pss_nil)), ?_⟩
    exact ⟨_, rfl, _, rfl, iteF q⟩
def spChkNames (K : PySem.W.Frag) : Sp := fun vs H Q _ => ∃ (a : Addr) (zs : List Str), vs = [.ref a] ∧ SqL K H a (zs.map V.str) ∧ (∀ z ∈ zs, Nl z) ∧ ∀ H', Same H H' → Q .non H'
theorem sc_check_names : FnScope ["words", "word"] ["words"] (defScope s_check_names) := ⟨rfl, rfl, rfl, by decide +kernel, rfl, by decide +kernel, by decide +kernel⟩
theorem k_check_names (T : Tops K mg) : Known P w K mg base CX0 2 "check_names" ["words"] (spChkNames K) := by
  have G_is_name : Known P w K mg base CX0 1 "is_name" ["thing"] (spName K) := k_is_name T
  have G_refuse_unless : Known P w K mg base CX0 1 "refuse_unless" ["holds"] spRefuse := k_refuse_unless T
  refine T.d_check_names.known sc_check_names (fun _ _ _ _ _ _ us hl => match us, hl with | [_], _ => rfl) (fun vs H Q E h => ?_) (fun f cdv A outer s H vs Q E hr h => ?_)
  · obtain ⟨a, zs, rfl, _⟩ := h
    rfl
  · obtain ⟨a, zs, rfl, hq, hz, q⟩ := h
    refine ⟨_, (pss_one (ps_for PassesOwn.never rfl (pi_list (pv 0)) (pg_name (i := 1) sc_check_names.nd rfl (Or.inl rfl)) (pss_one (ps_expr (pe_callN G_refuse_unless (hr.mono (by decide)) pass0 (pa_cons (pe_callN G_is_name (hr.mono (by decide)) pass0 (pa_cons (pv 1) pa_nil)) pa_nil)))))), ?_⟩
    refine ⟨_, rfl, a, rfl, ⟨_, hq⟩, ?_⟩
    refine for_list (K := K) (a := a) (xs := zs.map V.str) (fun i σ H2 => ∃ o, σ = [some (.ref a), o] ∧ Same H H2) ⟨_, rfl, Same.refl _⟩ (fun i σ H2 _ ⟨_, _, s2⟩ => s2.seq hq) ?_ ?_
    · rintro i x σ H2 hx ⟨o, rfl, s2⟩
      rw [List.getElem?_map] at hx
      cases e : zs[i]? with
      | none => rw [e] at hx; cases hx
      | some z =>
        rw [e] at hx
        cases hx
        have hzm := hz z (List.mem_of_getElem? e)
        have h8 := hzm.2.1
        refine ⟨_, rfl, _, _, rfl, .str z, shortS_str (by omega), fun H3 s3 => ?_⟩
        rw [show nameD (.str z) = true from hzm.name]
        exact ⟨rfl, _, rfl, s2.trans s3⟩
    · rintro σ H2 ⟨o, rfl, s2⟩
      exact q _ s2
end
end My

namespace My
open PySem L2
theorem str_at {zs : List Str} {i : Nat} {x : V} (h : (zs.map V.str)[i]? = some x) : ∃ z, zs[i]? = some z ∧ x = .str z := by
  rw [List.getElem?_map] at h
  cases e : zs[i]? with
  | none => rw [e] at h; cases h
  | some z => rw [e] at h; cases h; exact ⟨z, rfl, rfl⟩
theorem drop_at {α : Type} {zs : List α} {i : Nat} {z : α} (h : zs[i]? = some z) : zs.drop i = z :: zs.drop (i + 1) := by
  have hi := (List.getElem?_eq_some_iff.mp h).1
  rw [List.drop_eq_getElem_cons hi, (List.getElem?_eq_some_iff.mp h).2]
section
variable {P : Program} {w : World} {K : PySem.W.Frag} {mg : Str → Option Value} {base : Heap}
def spIsRk (K : PySem.W.Frag) : Sp := fun vs H Q _ => ∃ (a : Addr) (zs : List Str), vs = [.ref a] ∧ SqL K H a (zs.map V.str) ∧ zs.length ≤ 24 ∧ Pre zs 1 0 ∧ ∀ H', Same H H' → Q (.bl true) H'
theorem sc_is_reckoning : FnScope ["words", "lacking", "word"] ["words"] (defScope s_is_reckoning) := ⟨rfl, rfl, rfl, by decide +kernel, rfl, by decide +kernel, by decide +kernel⟩
theorem k_is_reckoning (T : Tops K mg) : Known P w K mg base CX0 2 "is_reckoning" ["words"] (spIsRk K) := by
  have G_is_name : Known P w K mg base CX0 1 "is_name" ["thing"] (spName K) := k_is_name T
  have G_writes_number : Known P w K mg base CX0 1 "writes_number" ["word"] spWrites := k_writes_number T
  obtain ⟨tW, hW⟩ := T.g_MOST_WORDS
  obtain ⟨pS, hS, hSq⟩ := T.g_SIGNS
  refine T.d_is_reckoning.known sc_is_reckoning (fun _ _ _ _ _ _ us hl => match us, hl with | [_], _ => rfl) (fun vs H Q E h => ?_) (fun f cdv A outer s H vs Q E hr h => ?_)
  · obtain ⟨a, zs, rfl, _⟩ := h
    rfl
  · obtain ⟨a, zs, rfl, hq, h24, hP, q⟩ := h
    refine ⟨_, (pss_cons (ps_if (pt_cmpR op_gt (pe_callB call_len rfl T.len b_len (pa_cons (pv 0) pa_nil)) (pe_gI T.g_MOST_WORDS) (nomark _)) (pss_one (ps_ret pe_bl)) pss_nil)
      (pss_cons (ps_set (i := 1) sc_is_reckoning.nd rfl (Or.inl rfl) pe_int)
      (pss_cons (ps_for PassesOwn.never rfl (pi_list (pv 0)) (pg_name (i := 2) sc_is_reckoning.nd rfl (Or.inl rfl)) (pss_cons (ps_if (pt_cmpR op_eq (pv 1) pe_int (nomark _)) (pss_one (ps_ret pe_bl)) pss_nil)
      (pss_one (ps_if (pt_cmpR op_in_seq (pv 2) (pe_gR hS) (by with_unfolding_all rfl)) (pss_one (ps_set (i := 1) sc_is_reckoning.nd rfl (Or.inl rfl) (pe_op op_add (pv 1) pe_int))) (pss_one (ps_if (PW.pt (pw_or (pt_val (pe_callN G_is_name (hr.mono (by decide)) pass0 (pa_cons (pv 2) pa_nil)) (fun _ => rfl)) (pw_or1 (pt_val (pe_callN G_writes_number (hr.mono (by decide)) pass0 (pa_cons (pv 2) pa_nil)) (fun _ => rfl))))) (pss_one (ps_set (i := 1) sc_is_reckoning.nd rfl (Or.inl rfl) (pe_op op_sub (pv 1) pe_int))) (pss_one (ps_ret pe_bl))))))))
      (pss_one (ps_ret (pe_cmpR op_eq (pv 1) pe_int (nomark _))))))), ?_⟩
    refine ⟨_, rfl, _, _, rfl, .inl ⟨_, hq, rfl⟩, _, _, rfl, rfl, _, rfl, ?_⟩
    refine ite2 (fun h => ?_) (fun _ => ?_)
    · exfalso
      have := of_decide_eq_true h
      rw [List.length_map] at this
      omega
    refine ⟨_, rfl, a, rfl, ⟨_, hq⟩, ?_⟩
    refine for_list (K := K) (a := a) (xs := zs.map V.str) (fun i σ H2 => ∃ (o : Option V) (m : Nat), σ = [some (.ref a), some (.int (m : Int)), o] ∧ Same H H2 ∧ Pre (zs.drop i) m 0) ⟨_, 1, rfl, Same.refl _, hP⟩ (fun i σ H2 _ ⟨_, _, _, s2, _⟩ => s2.seq hq) ?_ ?_
    · rintro i x σ H2 hx ⟨o, m, rfl, s2, hp⟩
      obtain ⟨z, hz, rfl⟩ := str_at hx
      rw [drop_at hz] at hp
      obtain ⟨h0, hp⟩ := hp
      refine ⟨_, rfl, rfl, _, rfl, ?_⟩
      refine ite2 (fun h => ?_) (fun _ => ?_)
      · exfalso
        have := V.int.inj (of_decide_eq_true h)
        omega
      refine ⟨_, rfl, pS, sgns.map V.str, rfl, .inr (hSq H2), rfl, flat_strs sgns, _, rfl, ?_⟩
      rw [show (if false = true then !inV (.str z) (sgns.map V.str) else inV (.str z) (sgns.map V.str)) = decide (z ∈ sgns) by rw [if_neg Bool.false_ne_true, inV_str]]
      refine ite2 (fun h => ?_) (fun h => ?_)
      · have h : z ∈ sgns := of_decide_eq_true h
        rcases hp with ⟨_, hp⟩ | ⟨hp, _⟩
        · refine ⟨_, rfl, _, _, rfl, rfl, ?_⟩
          exact ⟨_, m + 1, rfl, s2, hp⟩
        · exact absurd h hp.ns
      · have h : z ∉ sgns := fun y => h (decide_eq_true y)
        rcases hp with ⟨hp, _⟩ | ⟨hz', hp⟩
        · exact absurd hp h
        · have hl := hz'.len
          refine ⟨_, rfl, _, .str z, rfl, .str z, shortS_str (by omega), fun H3 s3 => ⟨_, rfl, ?_⟩⟩
          have fin : ∀ H4, Same H2 H4 → ∃ (o : Option V) (m' : Nat), ([some (.ref a), some (.int ((m : Int) - 1)), some (.str z)] : St) = [some (.ref a), some (.int (m' : Int)), o] ∧ Same H H4 ∧ Pre (zs.drop (i + 1)) m' 0 := fun H4 s4 =>
            ⟨_, m - 1, by rw [show ((m - 1 : Nat) : Int) = (m : Int) - 1 by omega], s2.trans s4, hp⟩
          rcases hz' with hz' | ⟨j, hz'⟩
          · rw [show nameD (.str z) = true from hz'.is]
            exact iteT ⟨_, rfl, _, _, rfl, rfl, fin H3 s3⟩
          · rw [show nameD (.str z) = false from hz'.nn]
            refine iteF ⟨_, rfl, z, rfl, by omega, fun H4 s4 => ⟨_, rfl, ?_⟩⟩
            rw [hz'.num]
            exact iteT ⟨_, rfl, _, _, rfl, rfl, fin H4 (s3.trans s4)⟩
    · rintro σ H2 ⟨o, m, rfl, s2, hp⟩
      rw [List.length_map, List.drop_length] at hp
      have e : m = 0 := hp
      subst e
      exact ⟨_, rfl, rfl, q _ s2⟩
/-- each of the texts once -/
def spOnceS (K : PySem.W.Frag) : Sp := fun vs H Q _ => ∃ (a : Addr) (zs : List Str), vs = [.ref a] ∧ SqL K H a (zs.map V.str) ∧ zs.length ≤ 100 ∧ ∀ H' l, Same H H' → H l = none → H' l = some (.lst ((onceS zs).map V.str)) → Q (.ref l) H'
theorem k_each_onceS (T : Tops K mg) : Known P w K mg base CX0 1 "each_once" ["spots"] (spOnceS K) := by
  refine T.d_each_once.known sc_each_once (fun _ _ _ _ _ _ us hl => match us, hl with | [_], _ => rfl) (fun vs H Q E h => ?_) (fun f cdv A outer s H vs Q E hr h => ?_)
  · obtain ⟨a, zs, rfl, _⟩ := h
    rfl
  · obtain ⟨a, zs, rfl, hq, h100, q⟩ := h
    refine ⟨_, (pss_cons (ps_set (i := 1) sc_each_once.nd rfl (Or.inl rfl) (pe_lst pa_nil))
      (pss_cons (ps_for PassesOwn.never rfl (pi_list (pv 0)) (pg_name (i := 2) sc_each_once.nd rfl (Or.inl rfl)) (pss_one (ps_if (pt_cmpR op_notIn_seq (pv 2) (pv 1) (by with_unfolding_all rfl)) (pss_one (ps_expr (pe_bm PySem.F.plainAttrs_list PySem.F.slot_list_append PySem.F.type_list_append mt_append (pv 1) (pa_cons (pv 2) pa_nil)))) pss_nil)))
      (pss_one (ps_ret (pv 1))))), ?_⟩
    refine ⟨sl, fun l hl => ?_⟩
    refine ⟨_, rfl, a, rfl, ⟨_, (Same.new hl).seq hq⟩, ?_⟩
    refine for_list (K := K) (a := a) (xs := zs.map V.str) (fun i σ H2 => ∃ o, σ = [some (.ref a), some (.ref l), o] ∧ Same H H2 ∧ H2 l = some (.lst ((onceS (zs.take i)).map V.str))) ⟨_, rfl, Same.new hl, upd_same⟩ (fun i σ H2 _ ⟨_, _, s2, _⟩ => s2.seq hq) ?_ ?_
    · rintro i x σ H2 hx ⟨o, rfl, s2, h2⟩
      obtain ⟨z, hz, rfl⟩ := str_at hx
      have hi : i < zs.length := (List.getElem?_eq_some_iff.mp hz).1
      have htk : zs.take (i + 1) = zs.take i ++ [z] := by rw [List.take_add_one, hz]; rfl
      have hlen := (onceS_at (zs := zs) i (by omega)).2.2
      refine ⟨_, rfl, _, rfl, l, _, rfl, .inl (SqL.of h2), rfl, flat_strs _, _, rfl, ?_⟩
      rw [show (if true = true then !inV (.str z) ((onceS (zs.take i)).map V.str) else inV (.str z) ((onceS (zs.take i)).map V.str)) = !decide (z ∈ onceS (zs.take i)) by rw [if_pos rfl, inV_str]]
      rw [htk, onceS_snoc]
      by_cases m : z ∈ onceS (zs.take i)
      · rw [if_pos m]
        exact iteNS m ⟨_, rfl, s2, h2⟩
      · rw [if_neg m, decide_eq_false m]
        refine iteT ⟨_, rfl, .inl ⟨rfl, _, SqL.of h2⟩, _, rfl, l, _, _, rfl, rfl, h2, small1000 (by rw [List.length_map]; omega), ?_⟩
        refine ⟨_, rfl, fun b o e => ?_, ?_⟩
        · rw [upd_ne (ne_of_none e hl)]
          exact s2 _ _ e
        · rw [List.map_append]
          exact upd_same
    · rintro σ H2 ⟨o, rfl, s2, h2⟩
      rw [List.length_map, List.take_of_length_le (Nat.le_refl _)] at h2
      exact ⟨_, rfl, q _ l s2 hl h2⟩
def spNamesIn (K : PySem.W.Frag) : Sp := fun vs H Q _ => ∃ (a : Addr) (zs : List Str), vs = [.ref a] ∧ SqL K H a (zs.map V.str) ∧ zs.length ≤ 24 ∧ (∀ z ∈ zs, z.length ≤ 1000) ∧ ∀ H' l, Same H H' → H l = none → H' l = some (.lst ((onceS (zs.filter nameS)).map V.str)) → Q (.ref l) H'
theorem sc_names_in : FnScope ["words"] ["words"] (defScope s_names_in) := ⟨rfl, rfl, rfl, by decide +kernel, rfl, by decide +kernel, by decide +kernel⟩
theorem k_names_in (T : Tops K mg) : Known P w K mg base CX0 2 "names_in" ["words"] (spNamesIn K) := by
  have G_is_name : Known P w K mg base CX0 1 "is_name" ["thing"] (spName K) := k_is_name T
  have G_each_once : Known P w K mg base CX0 1 "each_once" ["spots"] (spOnceS K) := k_each_onceS T
  refine T.d_names_in.known sc_names_in (fun _ _ _ _ _ _ us hl => match us, hl with | [_], _ => rfl) (fun vs H Q E h => ?_) (fun f cdv A outer s H vs Q E hr h => ?_)
  · obtain ⟨a, zs, rfl, _⟩ := h
    rfl
  · obtain ⟨a, zs, rfl, hq, h24, hlen, q⟩ := h
    refine ⟨_, (pss_one (ps_ret (pe_callN G_each_once (hr.mono (by decide)) pass0 (pa_cons (pe_comp (tt := tTest (tCall (spName K) [] E0 (tCons (tVar 0) tNil))) caps0 rfl rfl (by decide) (pi_list (pv 0)) (fun _ _ _ _ _ => (pts_one (pt_val (pe_callN G_is_name (hr.mono (by decide)) pass0 (pa_cons (pv 0) pa_nil)) (fun _ => rfl)))) (fun _ _ _ _ _ => (pv 0))) pa_nil)))), ?_⟩
    refine ⟨_, rfl, a, rfl, ⟨_, hq⟩, fun D hD => ?_⟩
    refine comp_listF (K := K) (a := a) (xs := zs.map V.str) (fun i ys H2 => Same H H2 ∧ ys = ((zs.take i).filter nameS).map V.str) ⟨Same.new hD, rfl⟩ (fun i ys H2 _ ⟨s2, _⟩ => s2.seq hq) ?_ ?_
    · rintro i x ys H2 hx h2D ⟨s2, rfl⟩
      obtain ⟨z, hz, rfl⟩ := str_at hx
      have htk : zs.take (i + 1) = zs.take i ++ [z] := by rw [List.take_add_one, hz]; rfl
      refine ⟨_, rfl, _, .str z, rfl, .str z, shortS_str (hlen z (List.mem_of_getElem? hz)), fun H3 s3 => ⟨_, rfl, ?_⟩⟩
      rw [show nameD (.str z) = nameS z from rfl]
      cases hn : nameS z with
      | true =>
        refine iteT ⟨_, rfl, s3 _ _ h2D, small1000 ?_, (s2.trans s3).on hD, ?_⟩
        · rw [List.length_map]
          refine Nat.le_trans (List.length_filter_le _ _) ?_
          rw [List.length_take]
          omega
        · show _ = ((zs.take (i + 1)).filter nameS).map V.str
          rw [htk, List.filter_append, List.map_append]
          simp [hn]
      | false =>
        refine iteF ⟨_, s3 _ _ h2D, s2.trans s3, ?_⟩
        rw [htk, List.filter_append, List.map_append]
        simp [hn]
    · rintro ys H2 h2D ⟨s2, rfl⟩
      rw [List.length_map, List.take_of_length_le (Nat.le_refl _)] at h2D
      refine ⟨D, _, rfl, SqL.of h2D, Nat.le_trans (List.length_filter_le _ _) (by omega), fun H3 l s3 hl h3 => q H3 l (s2.trans s3) (none_back s2 hl) h3⟩
abbrev Ncol : List Str := ["words", "others", "names"]
def spColumns (K : PySem.W.Frag) : Sp := fun vs H Q _ => ∃ (a b : Addr) (zs os : List Str), vs = [.ref a, .ref b] ∧ SqL K H a (zs.map V.str) ∧ SqL K H b (os.map V.str) ∧ zs.length ≤ 24 ∧ Pre zs 1 0 ∧ ((onceS (zs.filter nameS)).filter fun z => decide (z ∉ os)).length ≤ 6 ∧
  ∀ H' l, Same H H' → H l = none → H' l = some (.lst (((onceS (zs.filter nameS)).filter fun z => decide (z ∉ os)).map V.str)) → Q (.ref l) H'
theorem sc_columns_in : FnScope Ncol ["words", "others"] (defScope s_columns_in) := ⟨rfl, rfl, rfl, by decide +kernel, rfl, by decide +kernel, by decide +kernel⟩
theorem k_columns_in (T : Tops K mg) : Known P w K mg base CX0 3 "columns_in" ["words", "others"] (spColumns K) := by
  have G_refuse_unless : Known P w K mg base CX0 1 "refuse_unless" ["holds"] spRefuse := k_refuse_unless T
  have G_is_reckoning : Known P w K mg base CX0 2 "is_reckoning" ["words"] (spIsRk K) := k_is_reckoning T
  have G_names_in : Known P w K mg base CX0 2 "names_in" ["words"] (spNamesIn K) := k_names_in T
  refine T.d_columns_in.known sc_columns_in (fun _ _ _ _ _ _ us hl => match us, hl with | [_, _], _ => rfl) (fun vs H Q E h => ?_) (fun f cdv A outer s H vs Q E hr h => ?_)
  · obtain ⟨a, b, zs, os, rfl, _⟩ := h
    rfl
  · obtain ⟨a, b, zs, os, rfl, hq, hb, h24, hP, h6, q⟩ := h
    have hcl : ∀ x, (cxOf CX0 P w K mg base Ncol "columns_in" (defScope s_columns_in) f cdv A outer s H E).nox.env.scope.names.lookup x = some .cell → ∃ c, (cxOf CX0 P w K mg base Ncol "columns_in" (defScope s_columns_in) f cdv A outer s H E).nox.env.cells.lookup x = some c := fun x hx => Option.isSome_iff_exists.mp (PySem.W.cellsFrom_some _ _ _ (.inl hx))
    refine ⟨_, (pss_cons (ps_expr (pe_callN G_refuse_unless (hr.mono (by decide)) pass0 (pa_cons (pe_callN G_is_reckoning (hr.mono (by decide)) pass0 (pa_cons (pv 0) pa_nil)) pa_nil)))
      (pss_cons (ps_setComp (tt := tTest (tOp (rIn K true) (tVar 0) (tVar 1))) (i := 2) sc_columns_in.nd rfl rfl (caps_of (sc := defScope s_columns_in) (N := Ncol) (cp := [(1, "others")]) hcl) rfl rfl (by decide) (pi_list (pe_callN G_names_in (hr.mono (by decide)) pass0 (pa_cons (pv 0) pa_nil))) (fun _ _ _ _ _ => (pts_one (pt_cmpR op_notIn_seq (pv 0) (pv 1) (by with_unfolding_all rfl)))) (fun _ _ _ _ _ => (pv 0)) rfl)
      (pss_cons (ps_expr (pe_callN G_refuse_unless (hr.mono (by decide)) pass0 (pa_cons (pe_cmpR op_le (pe_callB call_len rfl T.len b_len (pa_cons (pv 2) pa_nil)) (pe_gI T.g_MOST_NAMES) (nomark _)) pa_nil)))
      (pss_one (ps_ret (pv 2)))))), ?_⟩
    refine ⟨_, rfl, a, zs, rfl, hq, h24, hP, fun H1 s1 => ⟨rfl, ?_⟩⟩
    have hzl : ∀ z ∈ zs, z.length ≤ 1000 := fun z hz => by
      rcases hP.all z hz with h | h
      · have := (sgn_no z h).2.1; omega
      · have := h.len; omega
    refine ⟨_, rfl, a, zs, rfl, s1.seq hq, h24, hzl, fun H2 l2 s2 hl2 h2 => ?_⟩
    have s02 := s1.trans s2
    have ol := (onceS_all (zs.filter nameS)).2.2
    have fl := List.length_filter_le nameS zs
    refine ⟨l2, rfl, ⟨_, SqL.of h2⟩, fun D hD => ?_⟩
    refine comp_listF (K := K) (a := l2) (xs := (onceS (zs.filter nameS)).map V.str) (fun i ys H3 => Same H2 H3 ∧ ys = (((onceS (zs.filter nameS)).take i).filter fun z => decide (z ∉ os)).map V.str) ⟨Same.new hD, rfl⟩ (fun i ys H3 _ ⟨s3, _⟩ => SqL.of (s3 _ _ h2)) ?_ ?_
    · rintro i x ys H3 hx h3D ⟨s3, rfl⟩
      obtain ⟨z, hz, rfl⟩ := str_at hx
      have htk : (onceS (zs.filter nameS)).take (i + 1) = (onceS (zs.filter nameS)).take i ++ [z] := by rw [List.take_add_one, hz]; rfl
      refine ⟨_, rfl, _, rfl, b, _, rfl, .inl ((s02.trans s3).seq hb), rfl, flat_strs os, _, rfl, ?_⟩
      rw [show (if true = true then !inV (.str z) (os.map V.str) else inV (.str z) (os.map V.str)) = !decide (z ∈ os) by rw [if_pos rfl, inV_str]]
      by_cases m : z ∈ os
      · refine iteNS m ⟨_, h3D, s3, ?_⟩
        rw [htk, List.filter_append, List.map_append]
        simp [m]
      · rw [decide_eq_false m]
        refine iteT ⟨_, rfl, h3D, small1000 ?_, s3.on hD, ?_⟩
        · rw [List.length_map]
          refine Nat.le_trans (List.length_filter_le _ _) ?_
          rw [List.length_take]
          omega
        · show _ = (((onceS (zs.filter nameS)).take (i + 1)).filter fun z => decide (z ∉ os)).map V.str
          rw [htk, List.filter_append, List.map_append]
          simp [m]
    · rintro ys H3 h3D ⟨s3, rfl⟩
      rw [List.length_map, List.take_of_length_le (Nat.le_refl _)] at h3D
      refine ⟨_, rfl, _, _, rfl, .inl ⟨_, SqL.of h3D, rfl⟩, _, _, rfl, rfl, ?_, _, rfl, ?_⟩
      · rw [List.length_map]
        exact congrArg (fun b => [V.bl b]) (decide_eq_true (by omega))
      · exact q _ D (s02.trans s3) (none_back s02 hD) h3D
end
end My

namespace My
open PySem L2
/-! ### reckonings: what is one, what is none -/
def rkGo : List Str → Nat → Bool
  | [], n => decide (n = 0)
  | z :: r, n => if n = 0 then false else if z ∈ sgns then rkGo r (n + 1) else if nameS z || numL z.cps.toList then rkGo r (n - 1) else false
theorem rkGo_cons (z : Str) (r : List Str) (n : Nat) : rkGo (z :: r) n = if n = 0 then false else if z ∈ sgns then rkGo r (n + 1) else if nameS z || numL z.cps.toList then rkGo r (n - 1) else false := rfl
def rkB (zs : List Str) : Bool := if 24 < zs.length then false else rkGo zs 1
def Sml (zs : List Str) : Prop := zs.length ≤ 1000 ∧ ∀ z ∈ zs, z.length ≤ 1000
/-- no columns are told by the words -/
def colBad (zs os : List Str) : Prop := rkB zs = false ∨ (rkB zs = true ∧ 6 < ((onceS (zs.filter nameS)).filter fun z => decide (z ∉ os)).length)
def BadC (zs : List Str) : Prop := colBad zs []
def BadA (zs : List Str) : Prop := zs = [] ∨ ∃ z r, zs = z :: r ∧ (numL z.cps.toList = false ∨ (numL z.cps.toList = true ∧ colBad r ["up"]))
abbrev ofg : List Str := ["sum", "most", "least", "many"]
def BadG (zs : List Str) : Prop := zs.length ≠ 3 ∨ ∃ x y z, zs = [x, y, z] ∧ (z ∉ ofg ∨ (z ∈ ofg ∧ (nameS x = false ∨ nameS y = false)))
def BadL (zs : List Str) : Prop := zs.length ≠ 4 ∨ (zs.length = 4 ∧ ∃ z ∈ zs, nameS z = false)
def BadM (zs : List Str) : Prop := zs.length ≠ 2 ∨ ∃ x y, zs = [x, y] ∧ (numL y.cps.toList = false ∨ (numL y.cps.toList = true ∧ nameS x = false))
section
variable {P : Program} {w : World} {K : PySem.W.Frag} {mg : Str → Option Value} {base : Heap}
def spRkB (K : PySem.W.Frag) : Sp := fun vs H Q _ => ∃ (a : Addr) (zs : List Str), vs = [.ref a] ∧ SqL K H a (zs.map V.str) ∧ Sml zs ∧ ∀ H', Same H H' → Q (.bl (rkB zs)) H'
theorem k_is_rkB (T : Tops K mg) : Known P w K mg base CX0 2 "is_reckoning" ["words"] (spRkB K) := by
  have G_is_name : Known P w K mg base CX0 1 "is_name" ["thing"] (spName K) := k_is_name T
  have G_writes_number : Known P w K mg base CX0 1 "writes_number" ["word"] spWrites := k_writes_number T
  obtain ⟨tW, hW⟩ := T.g_MOST_WORDS
  obtain ⟨pS, hS, hSq⟩ := T.g_SIGNS
  refine T.d_is_reckoning.known sc_is_reckoning (fun _ _ _ _ _ _ us hl => match us, hl with | [_], _ => rfl) (fun vs H Q E h => ?_) (fun f cdv A outer s H vs Q E hr h => ?_)
  · obtain ⟨a, zs, rfl, _⟩ := h
    rfl
  · obtain ⟨a, zs, rfl, hq, hsm, q⟩ := h
    refine ⟨_, (pss_cons (ps_if (pt_cmpR op_gt (pe_callB call_len rfl T.len b_len (pa_cons (pv 0) pa_nil)) (pe_gI T.g_MOST_WORDS) (nomark _)) (pss_one (ps_ret pe_bl)) pss_nil)
      (pss_cons (ps_set (i := 1) sc_is_reckoning.nd rfl (Or.inl rfl) pe_int)
      (pss_cons (ps_for PassesOwn.never rfl (pi_list (pv 0)) (pg_name (i := 2) sc_is_reckoning.nd rfl (Or.inl rfl)) (pss_cons (ps_if (pt_cmpR op_eq (pv 1) pe_int (nomark _)) (pss_one (ps_ret pe_bl)) pss_nil)
      (pss_one (ps_if (pt_cmpR op_in_seq (pv 2) (pe_gR hS) (by with_unfolding_all rfl)) (pss_one (ps_set (i := 1) sc_is_reckoning.nd rfl (Or.inl rfl) (pe_op op_add (pv 1) pe_int))) (pss_one (ps_if (PW.pt (pw_or (pt_val (pe_callN G_is_name (hr.mono (by decide)) pass0 (pa_cons (pv 2) pa_nil)) (fun _ => rfl)) (pw_or1 (pt_val (pe_callN G_writes_number (hr.mono (by decide)) pass0 (pa_cons (pv 2) pa_nil)) (fun _ => rfl))))) (pss_one (ps_set (i := 1) sc_is_reckoning.nd rfl (Or.inl rfl) (pe_op op_sub (pv 1) pe_int))) (pss_one (ps_ret pe_bl))))))))
      (pss_one (ps_ret (pe_cmpR op_eq (pv 1) pe_int (nomark _))))))), ?_⟩
    refine ⟨_, rfl, _, _, rfl, .inl ⟨_, hq, rfl⟩, _, _, rfl, rfl, _, rfl, ?_⟩
    refine ite2 (fun h => ?_) (fun h => ?_)
    · have h : (24 : Int) < ((zs.map V.str).length : Int) := of_decide_eq_true h
      rw [List.length_map] at h
      have := q H (Same.refl H)
      unfold rkB at this
      rw [if_pos (by omega)] at this
      exact this
    have h24 : ¬ 24 < zs.length := fun y => h (decide_eq_true (by rw [List.length_map]; show (24 : Int) < (zs.length : Int); omega))
    have q : ∀ H', Same H H' → Q (.bl (rkGo zs 1)) H' := fun H' s' => by
      have := q H' s'
      unfold rkB at this
      rwa [if_neg h24] at this
    refine ⟨_, rfl, a, rfl, ⟨_, hq⟩, ?_⟩
    refine for_list (K := K) (a := a) (xs := zs.map V.str) (fun i σ H2 => ∃ (o : Option V) (m : Nat), σ = [some (.ref a), some (.int (m : Int)), o] ∧ Same H H2 ∧ rkGo (zs.drop i) m = rkGo zs 1) ⟨_, 1, rfl, Same.refl _, rfl⟩ (fun i σ H2 _ ⟨_, _, _, s2, _⟩ => s2.seq hq) ?_ ?_
    · rintro i x σ H2 hx ⟨o, m, rfl, s2, hp⟩
      obtain ⟨z, hz, rfl⟩ := str_at hx
      rw [drop_at hz] at hp
      have hzl := hsm.2 z (List.mem_of_getElem? hz)
      refine ⟨_, rfl, rfl, _, rfl, ?_⟩
      refine ite2 (fun h => ?_) (fun h => ?_)
      · have hm := V.int.inj (of_decide_eq_true h)
        have m0 : m = 0 := by omega
        subst m0
        have e : rkGo zs 1 = false := by rw [← hp]; rfl
        have := q H2 s2
        rwa [e] at this
      have hm : m ≠ 0 := fun y => h (decide_eq_true (by rw [y]; rfl))
      rw [rkGo_cons, if_neg hm] at hp
      refine ⟨_, rfl, pS, sgns.map V.str, rfl, .inr (hSq H2), rfl, flat_strs sgns, _, rfl, ?_⟩
      rw [show (if false = true then !inV (.str z) (sgns.map V.str) else inV (.str z) (sgns.map V.str)) = decide (z ∈ sgns) by rw [if_neg Bool.false_ne_true, inV_str]]
      refine ite2 (fun h => ?_) (fun h => ?_)
      · have h : z ∈ sgns := of_decide_eq_true h
        rw [if_pos h] at hp
        refine ⟨_, rfl, _, _, rfl, rfl, ?_⟩
        exact ⟨_, m + 1, rfl, s2, hp⟩
      · have h : z ∉ sgns := fun y => h (decide_eq_true y)
        rw [if_neg h] at hp
        refine ⟨_, rfl, _, .str z, rfl, .str z, shortS_str hzl, fun H3 s3 => ⟨_, rfl, ?_⟩⟩
        have fin : ∀ H4, Same H2 H4 → rkGo (zs.drop (i + 1)) (m - 1) = rkGo zs 1 → ∃ (o : Option V) (m' : Nat), ([some (.ref a), some (.int ((m : Int) - 1)), some (.str z)] : St) = [some (.ref a), some (.int (m' : Int)), o] ∧ Same H H4 ∧ rkGo (zs.drop (i + 1)) m' = rkGo zs 1 := fun H4 s4 e =>
          ⟨_, m - 1, by rw [show ((m - 1 : Nat) : Int) = (m : Int) - 1 by omega], s2.trans s4, e⟩
        rw [show nameD (.str z) = nameS z from rfl]
        cases hn : nameS z with
        | true =>
          rw [hn, Bool.true_or, if_pos rfl] at hp
          exact iteT ⟨_, rfl, _, _, rfl, rfl, fin H3 s3 hp⟩
        | false =>
          rw [hn, Bool.false_or] at hp
          refine iteF ⟨_, rfl, z, rfl, by omega, fun H4 s4 => ⟨_, rfl, ?_⟩⟩
          cases hu : numL z.cps.toList with
          | true =>
            rw [hu, if_pos rfl] at hp
            exact iteT ⟨_, rfl, _, _, rfl, rfl, fin H4 (s3.trans s4) hp⟩
          | false =>
            rw [hu, if_neg Bool.false_ne_true] at hp
            have := q H4 (s2.trans (s3.trans s4))
            rw [← hp] at this
            exact iteF this
    · rintro σ H2 ⟨o, m, rfl, s2, hp⟩
      rw [List.length_map, List.drop_length] at hp
      refine ⟨_, rfl, rfl, ?_⟩
      have := q _ s2
      rw [← hp] at this
      have e : decide (V.int (m : Int) = V.int 0) = decide (m = 0) := by
        by_cases c : m = 0
        · rw [c]; decide
        · rw [decide_eq_false c]
          exact decide_eq_false fun y => c (by have := V.int.inj y; omega)
      rw [e]
      exact this
/-! ### what refuses -/
def spRefE (c : Ad) : Sp := fun vs H Q E => ∃ b, vs = [.bl b] ∧ (b = true → Q .non H) ∧ (b = false → E (.ref c.NoText) none H)
theorem k_refE (T : Tops K mg) {c : Ad} (X : Excs K mg c) : Known P w K mg base (CXE P w) 1 "refuse_unless" ["holds"] (spRefE c) := by
  refine T.d_refuse_unless.knownE sc_refuse_unless (fun _ _ _ _ _ _ us hl => match us, hl with | [_], _ => rfl) (fun vs H Q E h => ?_) (fun f cdv A outer s H vs Q E hr h => ?_)
  · obtain ⟨b, rfl, _⟩ := h
    rfl
  · obtain ⟨b, rfl, q1, q2⟩ := h
    refine ⟨_, (pss_one (ps_if (pt_not (pt_val (pv 0) (fun _ => rfl))) (pss_one (ps_raise X.c_NoText X.x_NoText (pa_cons pe_str pa_nil))) pss_nil)), ?_⟩
    refine ⟨_, rfl, _, rfl, ?_⟩
    cases b with
    | true => exact iteF (q1 rfl)
    | false => exact iteT ⟨sl, q2 rfl⟩
def spChkE (K : PySem.W.Frag) (c : Ad) : Sp := fun vs H Q E => ∃ (a : Addr) (zs : List Str), vs = [.ref a] ∧ SqL K H a (zs.map V.str) ∧ Sml zs ∧ (∃ z ∈ zs, nameS z = false) ∧ ∀ H', Same H H' → E (.ref c.NoText) none H'
theorem k_chkE (T : Tops K mg) {c : Ad} (X : Excs K mg c) : Known P w K mg base (CXE P w) 2 "check_names" ["words"] (spChkE K c) := by
  have G_is_name : Known P w K mg base CX0 1 "is_name" ["thing"] (spName K) := k_is_name T
  have G_refuse : Known P w K mg base (CXE P w) 1 "refuse_unless" ["holds"] (spRefE c) := k_refE T X
  refine T.d_check_names.knownE sc_check_names (fun _ _ _ _ _ _ us hl => match us, hl with | [_], _ => rfl) (fun vs H Q E h => ?_) (fun f cdv A outer s H vs Q E hr h => ?_)
  · obtain ⟨a, zs, rfl, _⟩ := h
    rfl
  · obtain ⟨a, zs, rfl, hq, hsm, ⟨z0, hz0, hb0⟩, q⟩ := h
    refine ⟨_, (pss_one (ps_for po_body rfl (pi_list (pv 0)) (pg_name (i := 1) sc_check_names.nd rfl (Or.inl rfl)) (pss_one (ps_expr (pe_callN G_refuse (hr.mono (by decide)) passE (pa_cons (pe_callN G_is_name (hr.mono (by decide)) pass0 (pa_cons (pv 1) pa_nil)) pa_nil)))))), ?_⟩
    refine ⟨_, rfl, a, rfl, ⟨_, hq⟩, ?_⟩
    refine for_list (K := K) (a := a) (xs := zs.map V.str) (fun i σ H2 => ∃ o, σ = [some (.ref a), o] ∧ Same H H2 ∧ ∀ z ∈ zs.take i, nameS z = true) ⟨_, rfl, Same.refl _, fun z hz => by simp at hz⟩ (fun i σ H2 _ ⟨_, _, s2, _⟩ => s2.seq hq) ?_ ?_
    · rintro i x σ H2 hx ⟨o, rfl, s2, hg⟩
      obtain ⟨z, hz, rfl⟩ := str_at hx
      refine ⟨_, rfl, _, _, rfl, .str z, shortS_str (hsm.2 z (List.mem_of_getElem? hz)), fun H3 s3 => ?_⟩
      refine ⟨_, rfl, fun hn => ⟨_, rfl, s2.trans s3, fun y hy => ?_⟩, fun _ => q _ (s2.trans s3)⟩
      rw [List.take_add_one, hz] at hy
      rcases List.mem_append.mp hy with h | h
      · exact hg y h
      · simp at h
        rw [h]; exact hn
    · rintro σ H2 ⟨o, rfl, s2, hg⟩
      rw [List.length_map, List.take_of_length_le (Nat.le_refl _)] at hg
      exact absurd (hg z0 hz0) (by rw [hb0]; decide)
def spColE (K : PySem.W.Frag) (c : Ad) : Sp := fun vs H Q E => ∃ (a b : Addr) (zs os : List Str), vs = [.ref a, .ref b] ∧ SqL K H a (zs.map V.str) ∧ SqL K H b (os.map V.str) ∧ Sml zs ∧ colBad zs os ∧ ∀ H', Same H H' → E (.ref c.NoText) none H'
theorem k_colE (T : Tops K mg) {c : Ad} (X : Excs K mg c) : Known P w K mg base (CXE P w) 3 "columns_in" ["words", "others"] (spColE K c) := by
  have G_refuse : Known P w K mg base (CXE P w) 1 "refuse_unless" ["holds"] (spRefE c) := k_refE T X
  have G_is_reckoning : Known P w K mg base CX0 2 "is_reckoning" ["words"] (spRkB K) := k_is_rkB T
  have G_names_in : Known P w K mg base CX0 2 "names_in" ["words"] (spNamesIn K) := k_names_in T
  refine T.d_columns_in.knownE sc_columns_in (fun _ _ _ _ _ _ us hl => match us, hl with | [_, _], _ => rfl) (fun vs H Q E h => ?_) (fun f cdv A outer s H vs Q E hr h => ?_)
  · obtain ⟨a, b, zs, os, rfl, _⟩ := h
    rfl
  · obtain ⟨a, b, zs, os, rfl, hq, hb, hsm, hbad, q⟩ := h
    rcases hbad with hbad | ⟨hgood, h6⟩
    · refine ⟨_, (pss_cons (ps_expr (pe_callN G_refuse (hr.mono (by decide)) passE (pa_cons (pe_callN G_is_reckoning (hr.mono (by decide)) pass0 (pa_cons (pv 0) pa_nil)) pa_nil)))
        (pss_cons ps_dead (pss_cons ps_dead (pss_one ps_dead)))), ?_⟩
      refine ⟨_, rfl, a, zs, rfl, hq, hsm, fun H1 s1 => ⟨_, rfl, fun e => ?_, fun _ => q _ s1⟩⟩
      rw [hbad] at e; cases e
    · have hcl : ∀ x, (bodyCx P w K mg base Ncol "columns_in" (defScope s_columns_in) f cdv A outer s H E).env.scope.names.lookup x = some .cell → ∃ c, (bodyCx P w K mg base Ncol "columns_in" (defScope s_columns_in) f cdv A outer s H E).env.cells.lookup x = some c := fun x hx => Option.isSome_iff_exists.mp (PySem.W.cellsFrom_some _ _ _ (.inl hx))
      refine ⟨_, (pss_cons (ps_expr (pe_callN G_refuse (hr.mono (by decide)) passE (pa_cons (pe_callN G_is_reckoning (hr.mono (by decide)) pass0 (pa_cons (pv 0) pa_nil)) pa_nil)))
        (pss_cons (ps_setComp (tt := tTest (tOp (rIn K true) (tVar 0) (tVar 1))) (i := 2) sc_columns_in.nd rfl rfl (caps_of (sc := defScope s_columns_in) (N := Ncol) (cp := [(1, "others")]) hcl) rfl rfl (by decide) (pi_list (pe_callN G_names_in (hr.mono (by decide)) pass0 (pa_cons (pv 0) pa_nil))) (fun _ _ _ _ _ => (pts_one (pt_cmpR op_notIn_seq (pv 0) (pv 1) (by with_unfolding_all rfl)))) (fun _ _ _ _ _ => (pv 0)) rfl)
        (pss_cons (ps_expr (pe_callN G_refuse (hr.mono (by decide)) passE (pa_cons (pe_cmpR op_le (pe_callB call_len rfl T.len b_len (pa_cons (pv 2) pa_nil)) (pe_gI T.g_MOST_NAMES) (nomark _)) pa_nil)))
        (pss_one ps_dead)))), ?_⟩
      have h24 : zs.length ≤ 24 := by
        unfold rkB at hgood
        by_cases c : 24 < zs.length
        · rw [if_pos c] at hgood; cases hgood
        · omega
      refine ⟨_, rfl, a, zs, rfl, hq, hsm, fun H1 s1 => ⟨_, rfl, fun _ => ?_, fun e => by rw [hgood] at e; cases e⟩⟩
      refine ⟨_, rfl, a, zs, rfl, s1.seq hq, h24, hsm.2, fun H2 l2 s2 hl2 h2 => ?_⟩
      have s02 := s1.trans s2
      have ol := (onceS_all (zs.filter nameS)).2.2
      have fl := List.length_filter_le nameS zs
      refine ⟨l2, rfl, ⟨_, SqL.of h2⟩, fun D hD => ?_⟩
      refine comp_listF (K := K) (a := l2) (xs := (onceS (zs.filter nameS)).map V.str) (fun i ys H3 => Same H2 H3 ∧ ys = (((onceS (zs.filter nameS)).take i).filter fun z => decide (z ∉ os)).map V.str) ⟨Same.new hD, rfl⟩ (fun i ys H3 _ ⟨s3, _⟩ => SqL.of (s3 _ _ h2)) ?_ ?_
      · rintro i x ys H3 hx h3D ⟨s3, rfl⟩
        obtain ⟨z, hz, rfl⟩ := str_at hx
        have htk : (onceS (zs.filter nameS)).take (i + 1) = (onceS (zs.filter nameS)).take i ++ [z] := by rw [List.take_add_one, hz]; rfl
        refine ⟨_, rfl, _, rfl, b, _, rfl, .inl ((s02.trans s3).seq hb), rfl, flat_strs os, _, rfl, ?_⟩
        rw [show (if true = true then !inV (.str z) (os.map V.str) else inV (.str z) (os.map V.str)) = !decide (z ∈ os) by rw [if_pos rfl, inV_str]]
        by_cases m : z ∈ os
        · refine iteNS m ⟨_, h3D, s3, ?_⟩
          rw [htk, List.filter_append, List.map_append]
          simp [m]
        · rw [decide_eq_false m]
          refine iteT ⟨_, rfl, h3D, small1000 ?_, s3.on hD, ?_⟩
          · rw [List.length_map]
            refine Nat.le_trans (List.length_filter_le _ _) ?_
            rw [List.length_take]
            omega
          · show _ = (((onceS (zs.filter nameS)).take (i + 1)).filter fun z => decide (z ∉ os)).map V.str
            rw [htk, List.filter_append, List.map_append]
            simp [m]
      · rintro ys H3 h3D ⟨s3, rfl⟩
        rw [List.length_map, List.take_of_length_le (Nat.le_refl _)] at h3D
        refine ⟨_, rfl, _, _, rfl, .inl ⟨_, SqL.of h3D, rfl⟩, _, _, rfl, rfl, _, rfl, fun e => ?_, fun _ => q _ (s02.trans s3)⟩
        have e := of_decide_eq_true e
        rw [List.length_map] at e
        exfalso
        omega
end
end My

namespace My
open PySem L2
theorem at_cons {α : Type} (x : α) (r : List α) : atI (x :: r) 0 = some x := by
  obtain ⟨v, h1, h2⟩ := at_some (x :: r) 0 (by decide) (by simp)
  rw [h1]
  simpa using h2.symm
theorem cut1 (kd : Str) (ws : List Str) : cutV ((kd :: ws).map V.str) (some 1) none = ws.map V.str := by
  unfold cutV
  rw [show HT.sIx ((kd :: ws).map V.str).length 0 (some 1) = 1 from (HT.sIx_nat _ _ 1).trans (by simp), HT.sIx_none]
  simp [List.take_of_length_le]
section
variable {P : Program} {w : World} {K : PySem.W.Frag} {mg : Str → Option Value} {base : Heap}
/-- the words of a kind that are refused -/
def spBadR (K : PySem.W.Frag) (c : Ad) (B : List Str → Prop) : Sp := fun vs H Q E => ∃ (a : Addr) (zs : List Str), vs = [.ref a] ∧ H a = some (.lst (zs.map V.str)) ∧ Sml zs ∧ B zs ∧ ∀ H', Same H H' → E (.ref c.NoText) none H'
theorem sc_read_cells : FnScope ["words", "names"] ["words"] (defScope s_read_cells) := ⟨rfl, rfl, rfl, by decide +kernel, rfl, by decide +kernel, by decide +kernel⟩
theorem e_read_cells (T : Tops K mg) {c : Ad} (X : Excs K mg c) : Known P w K mg base (CXE P w) 4 "read_cells" ["words"] (spBadR K c BadC) := by
  have G_col : Known P w K mg base (CXE P w) 3 "columns_in" ["words", "others"] (spColE K c) := k_colE T X
  refine T.d_read_cells.knownE sc_read_cells (fun _ _ _ _ _ _ us hl => match us, hl with | [_], _ => rfl) (fun vs H Q E h => ?_) (fun f cdv A outer s H vs Q E hr h => ?_)
  · obtain ⟨a, zs, rfl, _⟩ := h
    rfl
  · obtain ⟨a, zs, rfl, ha, hsm, hb, q⟩ := h
    refine ⟨_, (pss_cons (ps_set (i := 1) sc_read_cells.nd rfl (Or.inl rfl) (pe_callN G_col (hr.mono (by decide)) passE (pa_cons (pv 0) (pa_cons (pe_lst pa_nil) pa_nil)))) (pss_one ps_dead)), ?_⟩
    refine ⟨_, rfl, sl, fun l0 hl0 => ?_⟩
    have s0 := Same.new (o := .lst []) hl0
    exact ⟨a, l0, zs, [], rfl, SqL.of (s0 _ _ ha), SqL.of upd_same, hsm, hb, fun H1 s1 => q _ (s0.trans s1)⟩
theorem sc_read_above : FnScope ["words", "reckoning", "names"] ["words"] (defScope s_read_above) := ⟨rfl, rfl, rfl, by decide +kernel, rfl, by decide +kernel, by decide +kernel⟩
theorem e_read_above (T : Tops K mg) {c : Ad} (X : Excs K mg c) : Known P w K mg base (CXE P w) 4 "read_above" ["words"] (spBadR K c BadA) := by
  have G_refuse : Known P w K mg base (CXE P w) 1 "refuse_unless" ["holds"] (spRefE c) := k_refE T X
  have G_writes_number : Known P w K mg base CX0 1 "writes_number" ["word"] spWrites := k_writes_number T
  have G_col : Known P w K mg base (CXE P w) 3 "columns_in" ["words", "others"] (spColE K c) := k_colE T X
  refine T.d_read_above.knownE sc_read_above (fun _ _ _ _ _ _ us hl => match us, hl with | [_], _ => rfl) (fun vs H Q E h => ?_) (fun f cdv A outer s H vs Q E hr h => ?_)
  · obtain ⟨a, zs, rfl, _⟩ := h
    rfl
  · obtain ⟨a, zs, rfl, ha, hsm, hb, q⟩ := h
    refine ⟨_, (pss_cons (ps_expr (pe_callN G_refuse (hr.mono (by decide)) passE (pa_cons (pe_and (pe_cmpR op_gt (pe_callB call_len rfl T.len b_len (pa_cons (pv 0) pa_nil)) pe_int (nomark _)) (pe_one (pe_callN G_writes_number (hr.mono (by decide)) pass0 (pa_cons (pe_ix ix_list (pv 0) pe_int (fun _ _ => rfl)) pa_nil)))) pa_nil)))
      (pss_cons (ps_set (i := 1) sc_read_above.nd rfl (Or.inl rfl) (pe_slice sl_list (pv 0) (po_some pe_int) po_none))
      (pss_cons (ps_set (i := 2) sc_read_above.nd rfl (Or.inl rfl) (pe_callN G_col (hr.mono (by decide)) passE (pa_cons (pv 1) (pa_cons (pe_lst (pa_cons (pe_gS T.g_UP) pa_nil)) pa_nil)))) (pss_one ps_dead)))), ?_⟩
    refine ⟨_, rfl, _, _, rfl, .inl ⟨_, SqL.of ha, rfl⟩, _, _, rfl, rfl, _, rfl, ?_⟩
    rcases hb with rfl | ⟨z, r, rfl, hb⟩
    · exact iteF ⟨_, rfl, (fun e => by cases e), fun _ => q _ (Same.refl H)⟩
    · refine ite2 (fun _ => ?_) (fun h => absurd (decide_eq_true (show (0 : Int) < (((z :: r).map V.str).length : Int) by rw [List.length_map, List.length_cons]; omega)) h)
      refine ⟨_, rfl, a, _, _, _, rfl, rfl, SqL.of ha, at_cons _ _, z, rfl, hsm.2 z (by simp), fun H1 s1 => ⟨_, rfl, fun e => ?_, fun _ => q _ s1⟩⟩
      rcases hb with hb | ⟨_, hb⟩
      · rw [hb] at e; cases e
      refine ⟨_, rfl, _, rfl, a, _, rfl, SqL.of (s1 _ _ ha), fun c1 hc1 => ?_⟩
      have s2 := Same.new (o := .lst (cutV ((z :: r).map V.str) (some 1) none)) hc1
      have h2 : upd H1 c1 (.lst (cutV ((z :: r).map V.str) (some 1) none)) c1 = some (.lst (r.map V.str)) := by rw [cut1]; exact upd_same
      generalize upd H1 c1 (.lst (cutV ((z :: r).map V.str) (some 1) none)) = H2 at s2 h2 ⊢
      refine ⟨_, rfl, sl, fun l3 hl3 => ?_⟩
      have s3 := Same.new (o := .lst [.str "up"]) hl3
      exact ⟨c1, l3, r, ["up"], rfl, SqL.of (s3 _ _ h2), SqL.of upd_same, ⟨by have := hsm.1; rw [List.length_cons] at this; omega, fun y hy => hsm.2 y (List.mem_cons_of_mem _ hy)⟩, hb, fun H4 s4 => q _ (((s1.trans s2).trans s3).trans s4)⟩
theorem sc_read_group : FnScope ["words"] ["words"] (defScope s_read_group) := ⟨rfl, rfl, rfl, by decide +kernel, rfl, by decide +kernel, by decide +kernel⟩
theorem len_ne {zs : List Str} {n : Nat} (h : zs.length ≠ n) : decide (V.int ((zs.map V.str).length : Int) = V.int (n : Int)) = false := decide_eq_false fun e => h (by
  have := V.int.inj e
  rw [List.length_map] at this
  omega)
theorem e_read_group (T : Tops K mg) {c : Ad} (X : Excs K mg c) {pG : Addr} (hG : mg "OF_GROUPS" = some (.ref pG)) (D : KDict w.params K pG) (no : ∀ z : Str, z ∉ ofg → PySem.W.nsIn K pG z = some none) (ye : ∀ z : Str, z ∈ ofg → ∃ f, PySem.W.nsIn K pG z = some (some (.ref f))) : Known P w K mg base (CXE P w) 4 "read_group" ["words"] (spBadR K c BadG) := by
  have G_refuse : Known P w K mg base (CXE P w) 1 "refuse_unless" ["holds"] (spRefE c) := k_refE T X
  have G_chk : Known P w K mg base (CXE P w) 2 "check_names" ["words"] (spChkE K c) := k_chkE T X
  refine T.d_read_group.knownE sc_read_group (fun _ _ _ _ _ _ us hl => match us, hl with | [_], _ => rfl) (fun vs H Q E h => ?_) (fun f cdv A outer s H vs Q E hr h => ?_)
  · obtain ⟨a, zs, rfl, _⟩ := h
    rfl
  · obtain ⟨a, zs, rfl, ha, hsm, hb, q⟩ := h
    refine ⟨_, (pss_cons (ps_expr (pe_callN G_refuse (hr.mono (by decide)) passE (pa_cons (pe_and (pe_cmpR op_eq (pe_callB call_len rfl T.len b_len (pa_cons (pv 0) pa_nil)) pe_int (nomark _)) (pe_one (pe_cmp (pc_kin D (pe_ix ix_list (pv 0) pe_int (fun _ _ => rfl)) (pe_gR hG)) (by with_unfolding_all rfl)))) pa_nil)))
      (pss_cons (ps_expr (pe_callN G_chk (hr.mono (by decide)) passE (pa_cons (pe_slice sl_list (pv 0) po_none (po_some pe_int)) pa_nil)))
      (pss_one ps_dead))), ?_⟩
    refine ⟨_, rfl, _, _, rfl, .inl ⟨_, SqL.of ha, rfl⟩, rfl, _, rfl, ?_⟩
    rcases hb with hb | ⟨x, y, z, rfl, hb⟩
    · rw [show decide (V.int ((zs.map V.str).length : Int) = V.int 3) = false from len_ne hb]
      exact iteF ⟨_, rfl, (fun e => by cases e), fun _ => q _ (Same.refl H)⟩
    · refine iteT ?_
      rcases hb with hb | ⟨hz, hb⟩
      · refine ⟨_, rfl, a, _, _, _, rfl, rfl, SqL.of ha, rfl, pG, z, _, rfl, rfl, no z hb, _, rfl, (fun e => by cases e), fun _ => q _ (Same.refl H)⟩
      · obtain ⟨g, hg⟩ := ye z hz
        refine ⟨_, rfl, a, _, _, _, rfl, rfl, SqL.of ha, rfl, pG, z, _, rfl, rfl, hg, _, rfl, fun _ => ?_, fun e => by cases e⟩
        refine ⟨_, rfl, _, rfl, a, _, rfl, SqL.of ha, fun c1 hc1 => ?_⟩
        have s1 := Same.new (o := .lst (cutV ([x, y, z].map V.str) none (some 2))) hc1
        refine ⟨c1, [x, y], rfl, SqL.of upd_same, ⟨by simp, fun u hu => hsm.2 u (by simp at hu ⊢; rcases hu with rfl | rfl <;> simp)⟩, ?_, fun H2 s2 => q _ (s1.trans s2)⟩
        rcases hb with hb | hb
        · exact ⟨x, by simp, hb⟩
        · exact ⟨y, by simp, hb⟩
theorem sc_read_lookup : FnScope ["words"] ["words"] (defScope s_read_lookup) := ⟨rfl, rfl, rfl, by decide +kernel, rfl, by decide +kernel, by decide +kernel⟩
theorem e_read_lookup (T : Tops K mg) {c : Ad} (X : Excs K mg c) : Known P w K mg base (CXE P w) 4 "read_lookup" ["words"] (spBadR K c BadL) := by
  have G_refuse : Known P w K mg base (CXE P w) 1 "refuse_unless" ["holds"] (spRefE c) := k_refE T X
  have G_chk : Known P w K mg base (CXE P w) 2 "check_names" ["words"] (spChkE K c) := k_chkE T X
  refine T.d_read_lookup.knownE sc_read_lookup (fun _ _ _ _ _ _ us hl => match us, hl with | [_], _ => rfl) (fun vs H Q E h => ?_) (fun f cdv A outer s H vs Q E hr h => ?_)
  · obtain ⟨a, zs, rfl, _⟩ := h
    rfl
  · obtain ⟨a, zs, rfl, ha, hsm, hb, q⟩ := h
    refine ⟨_, (pss_cons (ps_expr (pe_callN G_refuse (hr.mono (by decide)) passE (pa_cons (pe_cmpR op_eq (pe_callB call_len rfl T.len b_len (pa_cons (pv 0) pa_nil)) pe_int (nomark _)) pa_nil)))
      (pss_cons (ps_expr (pe_callN G_chk (hr.mono (by decide)) passE (pa_cons (pv 0) pa_nil)))
      (pss_one ps_dead))), ?_⟩
    refine ⟨_, rfl, _, _, rfl, .inl ⟨_, SqL.of ha, rfl⟩, rfl, _, rfl, ?_⟩
    rcases hb with hb | ⟨h4, hb⟩
    · exact ⟨(fun e => by rw [show decide (V.int ((zs.map V.str).length : Int) = V.int 4) = false from len_ne hb] at e; cases e), fun _ => q _ (Same.refl H)⟩
    · refine ⟨fun _ => ?_, fun e => ?_⟩
      · exact ⟨_, rfl, a, zs, rfl, SqL.of ha, hsm, hb, fun H2 s2 => q _ s2⟩
      · have e := of_decide_eq_false e
        rw [List.length_map, h4] at e
        exact absurd rfl e
theorem sc_read_mend : FnScope ["words", "number"] ["words"] (defScope s_read_mend) := ⟨rfl, rfl, rfl, by decide +kernel, rfl, by decide +kernel, by decide +kernel⟩
theorem e_read_mend (T : Tops K mg) {c : Ad} (X : Excs K mg c) : Known P w K mg base (CXE P w) 4 "read_mend" ["words"] (spBadR K c BadM) := by
  have G_refuse : Known P w K mg base (CXE P w) 1 "refuse_unless" ["holds"] (spRefE c) := k_refE T X
  have G_writes_number : Known P w K mg base CX0 1 "writes_number" ["word"] spWrites := k_writes_number T
  have G_chk : Known P w K mg base (CXE P w) 2 "check_names" ["words"] (spChkE K c) := k_chkE T X
  refine T.d_read_mend.knownE sc_read_mend (fun _ _ _ _ _ _ us hl => match us, hl with | [_], _ => rfl) (fun vs H Q E h => ?_) (fun f cdv A outer s H vs Q E hr h => ?_)
  · obtain ⟨a, zs, rfl, _⟩ := h
    rfl
  · obtain ⟨a, zs, rfl, ha, hsm, hb, q⟩ := h
    refine ⟨_, (pss_cons (ps_expr (pe_callN G_refuse (hr.mono (by decide)) passE (pa_cons (pe_and (pe_cmpR op_eq (pe_callB call_len rfl T.len b_len (pa_cons (pv 0) pa_nil)) pe_int (nomark _)) (pe_one (pe_callN G_writes_number (hr.mono (by decide)) pass0 (pa_cons (pe_ix ix_list (pv 0) pe_int (fun _ _ => rfl)) pa_nil)))) pa_nil)))
      (pss_cons (ps_expr (pe_callN G_chk (hr.mono (by decide)) passE (pa_cons (pe_slice sl_list (pv 0) po_none (po_some pe_int)) pa_nil)))
      (pss_cons ps_dead (pss_one ps_dead)))), ?_⟩
    refine ⟨_, rfl, _, _, rfl, .inl ⟨_, SqL.of ha, rfl⟩, rfl, _, rfl, ?_⟩
    rcases hb with hb | ⟨x, y, rfl, hb⟩
    · rw [show decide (V.int ((zs.map V.str).length : Int) = V.int 2) = false from len_ne hb]
      exact iteF ⟨_, rfl, (fun e => by cases e), fun _ => q _ (Same.refl H)⟩
    · refine iteT ⟨_, rfl, a, _, _, _, rfl, rfl, SqL.of ha, rfl, y, rfl, hsm.2 y (by simp), fun H1 s1 => ⟨_, rfl, fun e => ?_, fun _ => q _ s1⟩⟩
      rcases hb with hb | ⟨_, hb⟩
      · rw [hb] at e; cases e
      refine ⟨_, rfl, _, rfl, a, _, rfl, SqL.of (s1 _ _ ha), fun c1 hc1 => ?_⟩
      have s2 := Same.new (o := .lst (cutV ([x, y].map V.str) none (some 1))) hc1
      exact ⟨c1, [x], rfl, SqL.of upd_same, ⟨by simp, fun u hu => hsm.2 u (by simp at hu ⊢; exact .inl hu)⟩, ⟨x, by simp, hb⟩, fun H3 s3 => q _ ((s1.trans s2).trans s3)⟩
end
end My

namespace My
open PySem L2
abbrev kinds : List Str := ["cells", "above", "group", "lookup", "mend"]
/-- words that write no rule -/
def BadT (ws : List Str) : Prop := ∃ kd r, ws = kd :: r ∧ (kd ∉ kinds ∨ (kd = "cells" ∧ BadC r) ∨ (kd = "above" ∧ BadA r) ∨ (kd = "group" ∧ BadG r) ∨ (kd = "lookup" ∧ BadL r) ∨ (kd = "mend" ∧ BadM r))
section
variable {P : Program} {w : World} {K : PySem.W.Frag} {mg : Str → Option Value} {base : Heap}
def spRdE (K : PySem.W.Frag) (c : Ad) : Sp := fun vs H Q E => ∃ x d, vs = [x] ∧ Dt K H x d ∧ ((∀ z, d ≠ .str z) ∨ ∃ z, d = .str z ∧ z.length ≤ 9000 ∧ Sml (Txt.split z " ") ∧ BadT (Txt.split z " ")) ∧ ∀ H', Same H H' → E (.ref c.NoText) none H'
theorem sc_read_rule : FnScope ["text", "words"] ["text"] (defScope s_read_rule) := ⟨rfl, rfl, rfl, by decide +kernel, rfl, by decide +kernel, by decide +kernel⟩
theorem body_kind (T : Tops K mg) {c : Ad} (X : Excs K mg c) {pK g : Addr} (hK : mg "KINDS" = some (.ref pK)) (DK : KDict w.params K pK) {kd x : Str} {B : List Str → Prop} (G : Known P w K mg base (CXE P w) 4 x ["words"] (spBadR K c B)) (hg : mg x = some (.ref g)) (hkg : PySem.W.nsIn K pK kd = some (some (.ref g)))
    {f : Addr} {cdv : Value} {A : Around} {outer : List Env} {s : Shared} {H : Hp} {Q : VK} {E : XK} (hr : Room 4 (A.deeper (PyProof.Rows.envOfC "read_rule" (defScope s_read_rule) s.heap.objs.size f cdv))) {z : Str} {r : List Str} (hz : z.length ≤ 9000) (hsp : Txt.split z " " = kd :: r) (hsm : Sml (kd :: r)) (hB : B r) (q : ∀ H', Same H H' → E (.ref c.NoText) none H') :
    ∃ t, PSs (bodyCx P w K mg base ["text", "words"] "read_rule" (defScope s_read_rule) f cdv A outer s H E) (defBody s_read_rule) t ∧ t { nx := fun _ H' => Q .non H', rt := Q } (start ["text", "words"] [.str z]) H := by
  have G_refuse : Known P w K mg base (CXE P w) 1 "refuse_unless" ["holds"] (spRefE c) := k_refE T X
  refine ⟨_, (pss_cons (ps_expr (pe_callN G_refuse (hr.mono (by decide)) passE (pa_cons (pe_callB call_isT rfl T.isinstance b_isinstance (pa_cons (pv 0) (pa_cons (pe_ty T.str b_str) pa_nil))) pa_nil)))
    (pss_cons (ps_set (i := 1) sc_read_rule.nd rfl (Or.inl rfl) (pe_bm PySem.F.plainAttrs_str PySem.F.slot_str_split PySem.F.type_str_split mt_splitB (pv 0) (pa_cons pe_str pa_nil)))
    (pss_cons (ps_expr (pe_callN G_refuse (hr.mono (by decide)) passE (pa_cons (pe_cmp (pc_kin DK (pe_ix ix_list (pv 1) pe_int (fun _ _ => rfl)) (pe_gR hK)) (by with_unfolding_all rfl)) pa_nil)))
    (pss_one (ps_ret (pe_callS G hr passE (pe_kget DK (pe_gR hK) (pe_ix ix_list (pv 1) pe_int (fun _ _ => rfl)) (fun _ _ => rfl)) (pa_cons (pe_slice sl_list (pv 1) (po_some pe_int) po_none) pa_nil))))))), ?_⟩
  refine ⟨_, rfl, _, "str", .str z, _, rfl, .str z, kit_str K _, _, rfl, fun _ => ?_, (fun e => by cases e)⟩
  refine ⟨_, rfl, rfl, z, " ", rfl, rfl, by decide, hz, fun l hl => ?_⟩
  rw [hsp]
  have s1 := Same.new (o := .lst ((kd :: r).map V.str)) hl
  have h1 : upd H l (.lst ((kd :: r).map V.str)) l = some (.lst ((kd :: r).map V.str)) := upd_same
  generalize upd H l (.lst ((kd :: r).map V.str)) = H1 at s1 h1 ⊢
  have e0 : atI ((kd :: r).map V.str) 0 = some (.str kd) := at_cons _ _
  refine ⟨_, rfl, l, _, _, _, rfl, rfl, SqL.of h1, e0, pK, kd, _, rfl, rfl, hkg, _, rfl, fun _ => ?_, (fun e => by cases e)⟩
  refine ⟨_, rfl, l, _, _, _, rfl, rfl, SqL.of h1, e0, pK, kd, g, rfl, rfl, hkg, g, rfl, hg, ?_⟩
  refine ⟨_, rfl, _, rfl, l, _, rfl, SqL.of h1, fun c2 hc2 => ?_⟩
  have s2 := Same.new (o := .lst (cutV ((kd :: r).map V.str) (some 1) none)) hc2
  exact ⟨c2, r, rfl, by rw [cut1]; exact upd_same, ⟨by have := hsm.1; rw [List.length_cons] at this; omega, fun y hy => hsm.2 y (List.mem_cons_of_mem _ hy)⟩, hB, fun H3 s3 => q _ ((s1.trans s2).trans s3)⟩
theorem e_read_rule (T : Tops K mg) (TD : Dcs w.params K mg) {c : Ad} (X : Excs K mg c) : Known P w K mg base (CXE P w) 5 "read_rule" ["text"] (spRdE K c) := by
  have G_refuse : Known P w K mg base (CXE P w) 1 "refuse_unless" ["holds"] (spRefE c) := k_refE T X
  obtain ⟨pG, hG, DG, nG, ⟨f1, _, g1⟩, ⟨f2, _, g2⟩, ⟨f3, _, g3⟩, ⟨f4, _, g4⟩⟩ := TD.g_OF_GROUPS
  obtain ⟨pK, hK, DK, nK, ⟨k1, m1, n1⟩, ⟨k2, m2, n2⟩, ⟨k3, m3, n3⟩, ⟨k4, m4, n4⟩, ⟨k5, m5, n5⟩⟩ := TD.g_KINDS
  have yG : ∀ z : Str, z ∈ ofg → ∃ f, PySem.W.nsIn K pG z = some (some (.ref f)) := fun z hz => by
    simp only [ofg, List.mem_cons, List.not_mem_nil, or_false] at hz
    rcases hz with rfl | rfl | rfl | rfl
    · exact ⟨_, g1⟩
    · exact ⟨_, g2⟩
    · exact ⟨_, g3⟩
    · exact ⟨_, g4⟩
  refine T.d_read_rule.knownE sc_read_rule (fun _ _ _ _ _ _ us hl => match us, hl with | [_], _ => rfl) (fun vs H Q E h => ?_) (fun f cdv A outer s H vs Q E hr h => ?_)
  · obtain ⟨x, d, rfl, _⟩ := h
    rfl
  · obtain ⟨x, d, rfl, hd, hb, q⟩ := h
    rcases hb with hb | ⟨z, rfl, hz, hsm, kd, r, hsp, hb⟩
    · refine ⟨_, (pss_cons (ps_expr (pe_callN G_refuse (hr.mono (by decide)) passE (pa_cons (pe_callB call_isT rfl T.isinstance b_isinstance (pa_cons (pv 0) (pa_cons (pe_ty T.str b_str) pa_nil))) pa_nil)))
        (pss_cons ps_dead (pss_cons ps_dead (pss_one ps_dead)))), ?_⟩
      refine ⟨_, rfl, x, "str", d, _, rfl, hd, kit_str K _, _, rfl, fun e => ?_, fun _ => q _ (Same.refl H)⟩
      have e := of_decide_eq_true e
      cases d <;> simp [kdD] at e
      exact absurd rfl (hb _)
    · have hx : x = .str z := by cases hd; rfl
      subst hx
      rw [hsp] at hsm
      rcases hb with hb | ⟨rfl, hb⟩ | ⟨rfl, hb⟩ | ⟨rfl, hb⟩ | ⟨rfl, hb⟩ | ⟨rfl, hb⟩
      · refine ⟨_, (pss_cons (ps_expr (pe_callN G_refuse (hr.mono (by decide)) passE (pa_cons (pe_callB call_isT rfl T.isinstance b_isinstance (pa_cons (pv 0) (pa_cons (pe_ty T.str b_str) pa_nil))) pa_nil)))
          (pss_cons (ps_set (i := 1) sc_read_rule.nd rfl (Or.inl rfl) (pe_bm PySem.F.plainAttrs_str PySem.F.slot_str_split PySem.F.type_str_split mt_splitB (pv 0) (pa_cons pe_str pa_nil)))
          (pss_cons (ps_expr (pe_callN G_refuse (hr.mono (by decide)) passE (pa_cons (pe_cmp (pc_kin DK (pe_ix ix_list (pv 1) pe_int (fun _ _ => rfl)) (pe_gR hK)) (by with_unfolding_all rfl)) pa_nil)))
          (pss_one ps_dead)))), ?_⟩
        refine ⟨_, rfl, _, "str", .str z, _, rfl, .str z, kit_str K _, _, rfl, fun _ => ?_, (fun e => by cases e)⟩
        refine ⟨_, rfl, rfl, z, " ", rfl, rfl, by decide, hz, fun l hl => ?_⟩
        rw [hsp]
        have s1 := Same.new (o := .lst ((kd :: r).map V.str)) hl
        have h1 : upd H l (.lst ((kd :: r).map V.str)) l = some (.lst ((kd :: r).map V.str)) := upd_same
        generalize upd H l (.lst ((kd :: r).map V.str)) = H1 at s1 h1 ⊢
        have e0 : atI ((kd :: r).map V.str) 0 = some (.str kd) := at_cons _ _
        exact ⟨_, rfl, l, _, _, _, rfl, rfl, SqL.of h1, e0, pK, kd, _, rfl, rfl, nK kd hb, _, rfl, (fun e => by cases e), fun _ => q _ s1⟩
      · exact body_kind T X hK DK (e_read_cells T X) m1 n1 hr hz hsp hsm hb q
      · exact body_kind T X hK DK (e_read_above T X) m2 n2 hr hz hsp hsm hb q
      · exact body_kind T X hK DK (e_read_group T X hG DG nG yG) m3 n3 hr hz hsp hsm hb q
      · exact body_kind T X hK DK (e_read_lookup T X) m4 n4 hr hz hsp hsm hb q
      · exact body_kind T X hK DK (e_read_mend T X) m5 n5 hr hz hsp hsm hb q
/-! ### what is refused -/
def spRefd (K : PySem.W.Frag) : Sp := fun vs H Q _ => ∃ x d, vs = [x] ∧ Dt K H x d ∧ ((∀ z, d ≠ .str z) ∨ ∃ z, d = .str z ∧ z.length ≤ 9000 ∧ Sml (Txt.split z " ") ∧ BadT (Txt.split z " ")) ∧ ∀ H', Same H H' → Q (.bl true) H'
theorem sc_law_refused : FnScope ["_law_text_here", "_law_caught", "e"] ["_law_text_here"] (defScope s_law_refused) := ⟨rfl, rfl, rfl, by decide +kernel, rfl, by decide +kernel, by decide +kernel⟩
theorem k_law_refused (T : Tops K mg) (TD : Dcs w.params K mg) {c : Ad} (X : Excs K mg c) : Known P w K mg base CX0 6 "_law_refused" ["_law_text_here"] (spRefd K) := by
  have G_read : Known P w K mg base (CXE P w) 5 "read_rule" ["text"] (spRdE K c) := e_read_rule T TD X
  refine T.d_law_refused.known sc_law_refused (fun _ _ _ _ _ _ us hl => match us, hl with | [_], _ => rfl) (fun vs H Q E h => ?_) (fun f cdv A outer s H vs Q E hr h => ?_)
  · obtain ⟨x, d, rfl, _⟩ := h
    rfl
  · obtain ⟨x, d, rfl, hd, hn, q⟩ := h
    refine ⟨_, (pss_cons (ps_set (i := 1) sc_law_refused.nd rfl (Or.inl rfl) pe_non)
      (pss_cons (ps_try (j := 2) rfl rfl rfl sc_law_refused.nd rfl rfl X.c_ColsError (fun pn E' E1 hp => pss_one (ps_expr (pe_callN G_read (hr.mono (by decide)) hp (pa_cons (pv 0) pa_nil)))) (fun ea => pss_one (ps_set (i := 1) sc_law_refused.nd rfl (Or.inl rfl) (pv 2))))
      (pss_cons (ps_if (PW.pt (pw_or (pt_val (pe_callB call_isX rfl T.isinstance b_isinstance (pa_cons (pv 1) (pa_cons (pe_gR X.c_Nobody) pa_nil))) (fun _ => rfl)) (pw_or (pt_val (pe_callB call_isX rfl T.isinstance b_isinstance (pa_cons (pv 1) (pa_cons (pe_gR X.c_NoBack) pa_nil))) (fun _ => rfl)) (pw_or1 (pt_val (pe_callB call_isX rfl T.isinstance b_isinstance (pa_cons (pv 1) (pa_cons (pe_gR X.c_NoColumn) pa_nil))) (fun _ => rfl)))))) (pss_one (ps_ret pe_bl)) pss_nil)
      (pss_cons (ps_if (PW.pt (pw_or (pt_val (pe_callB call_isX rfl T.isinstance b_isinstance (pa_cons (pv 1) (pa_cons (pe_gR X.c_NoPlace) pa_nil))) (fun _ => rfl)) (pw_or (pt_val (pe_callB call_isX rfl T.isinstance b_isinstance (pa_cons (pv 1) (pa_cons (pe_gR X.c_NoRow) pa_nil))) (fun _ => rfl)) (pw_or1 (pt_val (pe_callB call_isX rfl T.isinstance b_isinstance (pa_cons (pv 1) (pa_cons (pe_gR X.c_NoSize) pa_nil))) (fun _ => rfl)))))) (pss_one (ps_ret pe_bl)) pss_nil)
      (pss_cons (ps_if (PW.pt (pw_or (pt_val (pe_callB call_isX rfl T.isinstance b_isinstance (pa_cons (pv 1) (pa_cons (pe_gR X.c_NoTable) pa_nil))) (fun _ => rfl)) (pw_or (pt_val (pe_callB call_isX rfl T.isinstance b_isinstance (pa_cons (pv 1) (pa_cons (pe_gR X.c_NoValue) pa_nil))) (fun _ => rfl)) (pw_or1 (pt_val (pe_callB call_isX rfl T.isinstance b_isinstance (pa_cons (pv 1) (pa_cons (pe_gR X.c_NoName) pa_nil))) (fun _ => rfl)))))) (pss_one (ps_ret pe_bl)) pss_nil)
      (pss_cons (ps_if (PW.pt (pw_or (pt_val (pe_callB call_isX rfl T.isinstance b_isinstance (pa_cons (pv 1) (pa_cons (pe_gR X.c_Ring) pa_nil))) (fun _ => rfl)) (pw_or (pt_val (pe_callB call_isX rfl T.isinstance b_isinstance (pa_cons (pv 1) (pa_cons (pe_gR X.c_Ruled) pa_nil))) (fun _ => rfl)) (pw_or1 (pt_val (pe_callB call_isX rfl T.isinstance b_isinstance (pa_cons (pv 1) (pa_cons (pe_gR X.c_Several) pa_nil))) (fun _ => rfl)))))) (pss_one (ps_ret pe_bl)) pss_nil)
      (pss_one (ps_ret (pe_and (pe_callB call_isX rfl T.isinstance b_isinstance (pa_cons (pv 1) (pa_cons (pe_gR X.c_NoText) pa_nil))) (pe_and (pe_callB call_isX rfl T.isinstance b_isinstance (pa_cons (pv 1) (pa_cons (pe_ty T.ValueError b_ValueError) pa_nil))) (pe_one (pe_not (pe_callB call_isX rfl T.isinstance b_isinstance (pa_cons (pv 1) (pa_cons (pe_gR X.c_TooMuch) pa_nil))))))))))))))), ?_⟩
    refine ⟨_, rfl, x, d, rfl, hd, hn, fun H' s' => ⟨X.e_NoText_ColsError, fun ea hea => ⟨_, rfl, ?_⟩⟩⟩
    have he : (upd H' ea (excO ea (.ref c.NoText))) ea = some (excO ea (.ref c.NoText)) := upd_same
    refine ⟨_, rfl, ea, c.NoText, _, _, _, rfl, he, X.k_NoText, .inl ⟨_, rfl, rfl⟩, X.i_NoText_Nobody, _, rfl, iteF ?_⟩
    refine ⟨_, rfl, ea, c.NoText, _, _, _, rfl, he, X.k_NoText, .inl ⟨_, rfl, rfl⟩, X.i_NoText_NoBack, _, rfl, iteF ?_⟩
    refine ⟨_, rfl, ea, c.NoText, _, _, _, rfl, he, X.k_NoText, .inl ⟨_, rfl, rfl⟩, X.i_NoText_NoColumn, _, rfl, iteF ?_⟩
    refine ⟨_, rfl, ea, c.NoText, _, _, _, rfl, he, X.k_NoText, .inl ⟨_, rfl, rfl⟩, X.i_NoText_NoPlace, _, rfl, iteF ?_⟩
    refine ⟨_, rfl, ea, c.NoText, _, _, _, rfl, he, X.k_NoText, .inl ⟨_, rfl, rfl⟩, X.i_NoText_NoRow, _, rfl, iteF ?_⟩
    refine ⟨_, rfl, ea, c.NoText, _, _, _, rfl, he, X.k_NoText, .inl ⟨_, rfl, rfl⟩, X.i_NoText_NoSize, _, rfl, iteF ?_⟩
    refine ⟨_, rfl, ea, c.NoText, _, _, _, rfl, he, X.k_NoText, .inl ⟨_, rfl, rfl⟩, X.i_NoText_NoTable, _, rfl, iteF ?_⟩
    refine ⟨_, rfl, ea, c.NoText, _, _, _, rfl, he, X.k_NoText, .inl ⟨_, rfl, rfl⟩, X.i_NoText_NoValue, _, rfl, iteF ?_⟩
    refine ⟨_, rfl, ea, c.NoText, _, _, _, rfl, he, X.k_NoText, .inl ⟨_, rfl, rfl⟩, X.i_NoText_NoName, _, rfl, iteF ?_⟩
    refine ⟨_, rfl, ea, c.NoText, _, _, _, rfl, he, X.k_NoText, .inl ⟨_, rfl, rfl⟩, X.i_NoText_Ring, _, rfl, iteF ?_⟩
    refine ⟨_, rfl, ea, c.NoText, _, _, _, rfl, he, X.k_NoText, .inl ⟨_, rfl, rfl⟩, X.i_NoText_Ruled, _, rfl, iteF ?_⟩
    refine ⟨_, rfl, ea, c.NoText, _, _, _, rfl, he, X.k_NoText, .inl ⟨_, rfl, rfl⟩, X.i_NoText_Several, _, rfl, iteF ?_⟩
    refine ⟨_, rfl, ea, c.NoText, _, _, _, rfl, he, X.k_NoText, .inl ⟨_, rfl, rfl⟩, X.i_NoText_NoText, _, rfl, iteT ?_⟩
    refine ⟨_, rfl, ea, c.NoText, _, _, _, rfl, he, X.k_NoText, .inr ⟨_, rfl, rfl⟩, X.v_NoText, _, rfl, iteT ?_⟩
    refine ⟨_, rfl, ea, c.NoText, _, _, _, rfl, he, X.k_NoText, .inl ⟨_, rfl, rfl⟩, X.i_NoText_TooMuch, _, rfl, ?_⟩
    exact q _ (s'.trans (Same.new hea))
end
end My

namespace My
open PySem L2
theorem cat_room {a b : Str} (ha : a.length ≤ 400) (hb : b.length ≤ 400) : a.length + b.length ≤ sizeLine := sl (by omega)
theorem cat_len (a b : Str) : (a ++ b).length = a.length + b.length := by
  rw [len_list, cat_list, List.length_append, ← len_list, ← len_list]
theorem upper_list : ∀ cs : List Nat, (∀ c ∈ cs, 97 ≤ c ∧ c ≤ 122) → (Txt.upper ⟨cs.toArray⟩).cps.toList = cs.map (· - 32)
  | [], _ => by decide +kernel
  | c :: cs, h => by
    obtain ⟨g1, g2⟩ := h c (by simp)
    have e : (⟨(c :: cs).toArray⟩ : Str) = ⟨#[c]⟩ ++ ⟨cs.toArray⟩ := str_ext (by rw [cat_list]; simp)
    rw [e, PySem.W.KOpn.upper_app, PySem.W.KOpn.upper_one (by omega), cat_list, upper_list cs fun d hd => h d (by simp [hd]), if_pos ⟨g1, g2⟩]
    rfl
theorem let_rng : ∀ c ∈ letters.cps.toList, 97 ≤ c ∧ c ≤ 122 := by decide +kernel
theorem mul9_eq (y : Str) (h : 1 ≤ y.length) : (Txt.mul y 9).cps.toList = y.cps.toList ++ (List.replicate 8 y.cps.toList).flatten := by
  have h0 : (y.length == 0) = false := by simp; omega
  have e : Txt.mul y 9 = ⟨(List.replicate 9 y.cps).foldl (· ++ ·) #[]⟩ := by
    unfold Txt.mul
    rw [if_neg (by decide), h0]
    rfl
  rw [e]
  simp [List.replicate]
/-! ### words and their text -/
def Wd (z : Str) : Prop := (32 : Nat) ∉ z.cps.toList ∧ z.length ≤ 100
instance (z : Str) : Decidable (Wd z) := inferInstanceAs (Decidable (_ ∧ _))
def jn : List Str → Str
  | [] => ""
  | [z] => z
  | z :: y :: r => z ++ " " ++ jn (y :: r)
theorem jn_cons (z : Str) {ws : List Str} (h : ws ≠ []) : jn (z :: ws) = z ++ " " ++ jn ws := by
  cases ws with
  | nil => exact absurd rfl h
  | cons y r => rfl
theorem sp_eq : (" " : Str) = ⟨#[32]⟩ := by decide +kernel
theorem split_jn : ∀ {ws : List Str}, ws ≠ [] → (∀ z ∈ ws, Wd z) → Txt.split (jn ws) " " = ws
  | [], h, _ => absurd rfl h
  | [z], _, hw => by
    rw [sp_eq, split_eq (by decide)]
    exact splitC_none (hw z (by simp)).1
  | z :: y :: r, _, hw => by
    have ih := split_jn (ws := y :: r) (by simp) (fun u hu => hw u (List.mem_cons_of_mem _ hu))
    rw [sp_eq, split_eq (by decide)] at ih ⊢
    show splitC 32 (z ++ " " ++ jn (y :: r)) = _
    rw [sp_eq, splitC_cons (hw z (by simp)).1, ih]
theorem jn_len : ∀ {ws : List Str} {n : Nat}, (∀ z ∈ ws, z.length ≤ n) → (jn ws).length ≤ ws.length * (n + 1)
  | [], n, _ => by
    have : (jn []).length = 0 := by decide +kernel
    omega
  | [z], n, h => by
    have := h z (by simp)
    show z.length ≤ 1 * (n + 1)
    omega
  | z :: y :: r, n, h => by
    have h1 := h z (by simp)
    have ih := jn_len (ws := y :: r) (n := n) (fun u hu => h u (List.mem_cons_of_mem _ hu))
    show (z ++ " " ++ jn (y :: r)).length ≤ _
    rw [cat_len, cat_len, show (" " : Str).length = 1 by decide +kernel, List.length_cons, Nat.succ_mul]
    omega
/-- a text of words, at most thirty -/
def TxW (t : Str) (ws : List Str) : Prop := t = jn ws ∧ ws ≠ [] ∧ ws.length ≤ 40 ∧ ∀ z ∈ ws, Wd z
theorem TxW.ok {t : Str} {ws : List Str} (h : TxW t ws) : t.length ≤ 9000 ∧ Txt.split t " " = ws ∧ Sml ws := by
  obtain ⟨rfl, h1, h2, h3⟩ := h
  have := jn_len (ws := ws) (n := 100) (fun z hz => (h3 z hz).2)
  exact ⟨by omega, split_jn h1 h3, by omega, fun z hz => by have := (h3 z hz).2; omega⟩
theorem TxW.pre {t pr kd : Str} {ws : List Str} (h : TxW t ws) (e : pr = kd ++ " ") (hk : Wd kd) (hl : ws.length ≤ 39) : TxW (pr ++ t) (kd :: ws) := by
  obtain ⟨rfl, h1, h2, h3⟩ := h
  refine ⟨by rw [jn_cons _ h1, e], by simp, by rw [List.length_cons]; omega, fun z hz => ?_⟩
  rcases List.mem_cons.mp hz with rfl | hz
  · exact hk
  · exact h3 z hz
theorem sapp (a b c : Str) : a ++ b ++ c = a ++ (b ++ c) := str_ext (by simp only [cat_list, List.append_assoc])
/-- what is refused: a text of such words -/
def BadZ (t : Str) : Prop := ∃ ws, TxW t ws ∧ BadT ws
/-! ### the drawn word -/
theorem Nl.wd {y : Str} (h : Nl y) : Wd y := ⟨fun m => by have := let_rng 32 (h.2.2 32 m); omega, by have := h.2.1; omega⟩
theorem Nl.cons {y : Str} (h : Nl y) : ∃ c r, y.cps.toList = c :: r ∧ 97 ≤ c ∧ c ≤ 122 := by
  have h1 := h.1
  rw [len_list] at h1
  cases e : y.cps.toList with
  | nil => rw [e] at h1; simp at h1
  | cons c r => exact ⟨c, r, rfl, let_rng c (h.2.2 c (by rw [e]; simp))⟩
/-- neither a sign nor a name nor a number -/
def Not3 (z : Str) : Prop := z ∉ sgns ∧ nameS z = false ∧ numL z.cps.toList = false
theorem okF_head {c : Nat} {r : List Nat} (h : inF c = false) : okF (c :: r) = false := okF_no (by simp) h
theorem num_head {c : Nat} {r : List Nat} (h : inF c = false) (h45 : c ≠ 45) : numL (c :: r) = false := by
  unfold numL
  rw [if_neg (by simp; exact h45), okF_head h, Bool.false_and]
theorem nameS_of {y : Str} {cs : List Nat} (e : y.cps.toList = cs) : y = ⟨cs.toArray⟩ := str_ext (by rw [e])
theorem Nl.upper {y : Str} (h : Nl y) : ∃ c r, (Txt.upper y).cps.toList = c :: r ∧ 65 ≤ c ∧ c ≤ 90 ∧ Wd (Txt.upper y) ∧ (Txt.upper y).length ≤ 8 := by
  obtain ⟨c, r, e, h1, h2⟩ := h.cons
  have lr : ∀ d ∈ y.cps.toList, 97 ≤ d ∧ d ≤ 122 := fun d hd => let_rng d (h.2.2 d hd)
  have ul : (Txt.upper y).cps.toList = y.cps.toList.map (· - 32) := by
    have := upper_list y.cps.toList lr
    rwa [← nameS_of (y := y) rfl] at this
  have hl : (Txt.upper y).length ≤ 8 := by rw [len_list, ul, List.length_map, ← len_list]; exact h.2.1
  refine ⟨c - 32, r.map (· - 32), by rw [ul, e]; rfl, by omega, by omega, ⟨fun m => ?_, by omega⟩, hl⟩
  rw [ul] at m
  obtain ⟨d, hd, e2⟩ := List.mem_map.mp m
  have := lr d hd
  have e2 : d - 32 = 32 := e2
  omega
theorem sgn_head {z : Str} {c : Nat} {r : List Nat} (e : z.cps.toList = c :: r) (h : 65 ≤ c) : z ∉ sgns := fun m => by
  have := (sgn_no z m).2.2.2 c (by rw [e]; simp)
  omega
theorem Nl.upper3 {y : Str} (h : Nl y) : Not3 (Txt.upper y) := by
  obtain ⟨c, r, e, h1, h2, _⟩ := h.upper
  refine ⟨sgn_head e h1, ?_, ?_⟩
  · rw [nameS_of e]
    exact name_no (c := c) (by simp) (by rw [inL_lt c (by omega), decide_eq_false (show ¬ 97 ≤ c by omega), Bool.false_and])
  · rw [e]
    exact num_head (by rw [inF_lt c (by omega), decide_eq_false (show ¬ c ≤ 57 by omega), Bool.and_false]) (by omega)
theorem Nl.mul9 {y : Str} (h : Nl y) : Not3 (Txt.mul y 9) ∧ Wd (Txt.mul y 9) := by
  obtain ⟨c, r, e, h1, h2⟩ := h.cons
  have em := mul9_eq y h.1
  have ml : (Txt.mul y 9).length = 9 * y.length := by
    rw [len_list, em, List.length_append, len_list]
    simp [List.replicate]
    omega
  have h8 := h.2.1
  have h0 := h.1
  have e2 : (Txt.mul y 9).cps.toList = c :: (r ++ (List.replicate 8 y.cps.toList).flatten) := by rw [em, e]; rfl
  refine ⟨⟨sgn_head e2 (by omega), ?_, ?_⟩, fun m => ?_, by omega⟩
  · cases hn : nameS (Txt.mul y 9) with
    | false => rfl
    | true => have := nameS_len hn; omega
  · rw [e2]
    exact num_head (by rw [inF_lt c (by omega), decide_eq_false (show ¬ c ≤ 57 by omega), Bool.and_false]) (by omega)
  · rw [em] at m
    have : (32 : Nat) ∈ y.cps.toList := by
      rcases List.mem_append.mp m with m | m
      · exact m
      · obtain ⟨l, hl, hm⟩ := List.mem_flatten.mp m
        rw [(List.mem_replicate.mp hl).2] at hm
        exact hm
    exact h.wd.1 this
theorem Nl.snoc {y s : Str} {d : Nat} (h : Nl y) (hs : s.cps.toList = [d]) (hd : inL d = false) (h32 : d ≠ 32) : nameS (y ++ s) = false ∧ Wd (y ++ s) ∧ (y ++ s).length ≤ 9 := by
  have el : (y ++ s).cps.toList = y.cps.toList ++ [d] := by rw [cat_list, hs]
  have hl : (y ++ s).length = y.length + 1 := by rw [len_list, el, List.length_append, ← len_list]; rfl
  have h8 := h.2.1
  refine ⟨?_, ⟨fun m => ?_, by omega⟩, by omega⟩
  · rw [nameS_of el]
    exact name_no (c := d) (by simp) hd
  · rw [el] at m
    rcases List.mem_append.mp m with m | m
    · exact h.wd.1 m
    · exact h32 (List.mem_singleton.mp m).symm
/-! ### bad names, bad numbers, bad reckonings -/
def badNm (y : Str) : List Str := ["", "A", y ++ "7", "abcdefghi", "1", "-", y ++ "."]
theorem badNm_ok {y : Str} (h : Nl y) {z : Str} (hz : z ∈ badNm y) : nameS z = false ∧ Wd z ∧ z.length ≤ 9 := by
  simp only [badNm, List.mem_cons, List.not_mem_nil, or_false] at hz
  rcases hz with rfl | rfl | rfl | rfl | rfl | rfl | rfl
  · exact ⟨by decide +kernel, by decide +kernel, by decide +kernel⟩
  · exact ⟨by decide +kernel, by decide +kernel, by decide +kernel⟩
  · exact h.snoc (d := 55) (by decide +kernel) (by decide +kernel) (by decide)
  · exact ⟨by decide +kernel, by decide +kernel, by decide +kernel⟩
  · exact ⟨by decide +kernel, by decide +kernel, by decide +kernel⟩
  · exact ⟨by decide +kernel, by decide +kernel, by decide +kernel⟩
  · exact h.snoc (d := 46) (by decide +kernel) (by decide +kernel) (by decide)
def badNo : List Str := ["", "x", "01", "-0", "+1", "1_0", "--1", "1.", "-", Txt.mul "1" 61, "1 2", "!a"]
theorem badNo_ok : ∀ z ∈ badNo, z.length ≤ 61 ∧ (z = "1 2" ∨ (numL z.cps.toList = false ∧ Wd z)) := by decide +kernel
def badRk (y : Str) : List Str := ((["", "+", "+ 1", "+ 1 2 3", "1 2", y ++ " " ++ y, "* " ++ y, "; 1 2", "+ 01 2", "+ 1 +"] : List Str) ++ (["+  1 2", "+ 1 2 ", " 1", "1 ", "+ - 1 2", "- -1", "(1)", Txt.upper y, Txt.mul y 9] : List Str)) ++ (["+ 1 1" ++ Txt.mul "0" 60, "** 1 2", "1,"] : List Str) ++ (["+ a + b + c + d + e + f g", Txt.mul "+ " 12 ++ Txt.mul "1 " 12 ++ "1", "- 1 -0"] : List Str)
def BadK (t : Str) : Prop := ∃ ws, TxW t ws ∧ ws.length ≤ 30 ∧ colBad ws [] ∧ colBad ws ["up"]
theorem badK {t : Str} {ws : List Str} (e : t = jn ws) (h0 : ws ≠ []) (hl : ws.length ≤ 30) (hw : ∀ z ∈ ws, Wd z) (hb : rkB ws = false) : BadK t := ⟨ws, ⟨e, h0, by omega, hw⟩, hl, .inl hb, .inl hb⟩
theorem rk_one {z : Str} (h : Not3 z) : rkB [z] = false := by
  unfold rkB
  rw [if_neg (by simp), rkGo_cons, if_neg (by decide), if_neg h.1, h.2.1, h.2.2]
  rfl
theorem wd2 {a b : Str} (ha : Wd a) (hb : Wd b) : ∀ z ∈ [a, b], Wd z := fun z hz => by
  simp only [List.mem_cons, List.not_mem_nil, or_false] at hz
  rcases hz with rfl | rfl
  · exact ha
  · exact hb
theorem wd1 {a : Str} (ha : Wd a) : ∀ z ∈ [a], Wd z := fun z hz => by rw [List.mem_singleton.mp hz]; exact ha
theorem badRk_ok {y : Str} (h : Nl y) {t : Str} (ht : t ∈ badRk y) : BadK t := by
  simp only [badRk, List.mem_append, List.mem_cons, List.not_mem_nil, or_false] at ht
  have hn : (nameS y || numL y.cps.toList) = true := by rw [h.is, Bool.true_or]
  rcases ht with (((rfl | rfl | rfl | rfl | rfl | rfl | rfl | rfl | rfl | rfl) | (rfl | rfl | rfl | rfl | rfl | rfl | rfl | rfl | rfl)) | (rfl | rfl | rfl)) | (rfl | rfl | rfl)
  · exact badK (ws := [""]) (by decide +kernel) (by simp) (by decide +kernel) (by decide +kernel) (by decide +kernel)
  · exact badK (ws := ["+"]) (by decide +kernel) (by simp) (by decide +kernel) (by decide +kernel) (by decide +kernel)
  · exact badK (ws := ["+", "1"]) (by decide +kernel) (by simp) (by decide +kernel) (by decide +kernel) (by decide +kernel)
  · exact badK (ws := ["+", "1", "2", "3"]) (by decide +kernel) (by simp) (by decide +kernel) (by decide +kernel) (by decide +kernel)
  · exact badK (ws := ["1", "2"]) (by decide +kernel) (by simp) (by decide +kernel) (by decide +kernel) (by decide +kernel)
  · refine badK (ws := [y, y]) rfl (by simp) (by simp) (wd2 h.wd h.wd) ?_
    unfold rkB
    rw [if_neg (by simp), rkGo_cons, if_neg (by decide), if_neg h.ns, if_pos hn]
    rfl
  · refine badK (ws := ["*", y]) (by rw [show ("* " : Str) = "*" ++ " " by decide +kernel]; rfl) (by simp) (by simp) (wd2 (by decide +kernel) h.wd) ?_
    unfold rkB
    rw [if_neg (by simp), rkGo_cons, if_neg (by decide), if_pos (by decide +kernel), rkGo_cons, if_neg (by decide), if_neg h.ns, if_pos hn]
    rfl
  · exact badK (ws := [";", "1", "2"]) (by decide +kernel) (by simp) (by decide +kernel) (by decide +kernel) (by decide +kernel)
  · exact badK (ws := ["+", "01", "2"]) (by decide +kernel) (by simp) (by decide +kernel) (by decide +kernel) (by decide +kernel)
  · exact badK (ws := ["+", "1", "+"]) (by decide +kernel) (by simp) (by decide +kernel) (by decide +kernel) (by decide +kernel)
  · exact badK (ws := ["+", "", "1", "2"]) (by decide +kernel) (by simp) (by decide +kernel) (by decide +kernel) (by decide +kernel)
  · exact badK (ws := ["+", "1", "2", ""]) (by decide +kernel) (by simp) (by decide +kernel) (by decide +kernel) (by decide +kernel)
  · exact badK (ws := ["", "1"]) (by decide +kernel) (by simp) (by decide +kernel) (by decide +kernel) (by decide +kernel)
  · exact badK (ws := ["1", ""]) (by decide +kernel) (by simp) (by decide +kernel) (by decide +kernel) (by decide +kernel)
  · exact badK (ws := ["+", "-", "1", "2"]) (by decide +kernel) (by simp) (by decide +kernel) (by decide +kernel) (by decide +kernel)
  · exact badK (ws := ["-", "-1"]) (by decide +kernel) (by simp) (by decide +kernel) (by decide +kernel) (by decide +kernel)
  · exact badK (ws := ["(1)"]) (by decide +kernel) (by simp) (by decide +kernel) (by decide +kernel) (by decide +kernel)
  · obtain ⟨_, _, _, _, _, hw, _⟩ := h.upper
    exact badK (ws := [Txt.upper y]) rfl (by simp) (by simp) (wd1 hw) (rk_one h.upper3)
  · exact badK (ws := [Txt.mul y 9]) rfl (by simp) (by simp) (wd1 h.mul9.2) (rk_one h.mul9.1)
  · exact badK (ws := ["+", "1", "1" ++ Txt.mul "0" 60]) (by decide +kernel) (by simp) (by decide +kernel) (by decide +kernel) (by decide +kernel)
  · exact badK (ws := ["**", "1", "2"]) (by decide +kernel) (by simp) (by decide +kernel) (by decide +kernel) (by decide +kernel)
  · exact badK (ws := ["1,"]) (by decide +kernel) (by simp) (by decide +kernel) (by decide +kernel) (by decide +kernel)
  · exact ⟨["+", "a", "+", "b", "+", "c", "+", "d", "+", "e", "+", "f", "g"], ⟨by decide +kernel, by simp, by decide +kernel, by decide +kernel⟩, by decide +kernel, .inr ⟨by decide +kernel, by decide +kernel⟩, .inr ⟨by decide +kernel, by decide +kernel⟩⟩
  · exact badK (ws := List.replicate 12 ("+" : Str) ++ List.replicate 13 ("1" : Str)) (by decide +kernel) (by decide +kernel) (by decide +kernel) (by decide +kernel) (by decide +kernel)
  · exact badK (ws := ["-", "1", "-0"]) (by decide +kernel) (by simp) (by decide +kernel) (by decide +kernel) (by decide +kernel)
end My

namespace My
open PySem L2
theorem badC {t : Str} (h : BadK t) : BadZ ("cells " ++ t) := by
  obtain ⟨ws, h1, h2, h3, _⟩ := h
  exact ⟨_, h1.pre (kd := "cells") (by decide +kernel) (by decide +kernel) (by omega), "cells", ws, rfl, .inr (.inl ⟨rfl, h3⟩)⟩
theorem badA3 {t : Str} (h : BadK t) : BadZ ("above 3 " ++ t) := by
  obtain ⟨ws, h1, h2, _, h3⟩ := h
  have h4 := h1.pre (pr := "3 ") (kd := "3") (by decide +kernel) (by decide +kernel) (by omega)
  have h5 := h4.pre (pr := "above ") (kd := "above") (by decide +kernel) (by decide +kernel) (by rw [List.length_cons]; omega)
  rw [← sapp, show ("above " : Str) ++ "3 " = "above 3 " by decide +kernel] at h5
  exact ⟨_, h5, "above", _, rfl, .inr (.inr (.inl ⟨rfl, .inr ⟨"3", ws, rfl, .inr ⟨by decide +kernel, h3⟩⟩⟩))⟩
theorem txw {t : Str} {ws : List Str} (e : t = jn ws) (h0 : ws ≠ []) (hl : ws.length ≤ 30) (hw : ∀ z ∈ ws, Wd z) : TxW t ws := ⟨e, h0, by omega, hw⟩
theorem wd3 {a b c : Str} (ha : Wd a) (hb : Wd b) (hc : Wd c) : ∀ z ∈ [a, b, c], Wd z := fun z hz => by
  rcases List.mem_cons.mp hz with rfl | hz
  · exact ha
  · exact wd2 hb hc z hz
theorem wd4 {a b c d : Str} (ha : Wd a) (hb : Wd b) (hc : Wd c) (hd : Wd d) : ∀ z ∈ [a, b, c, d], Wd z := fun z hz => by
  rcases List.mem_cons.mp hz with rfl | hz
  · exact ha
  · exact wd3 hb hc hd z hz
theorem badAn {y b : Str} (h : Nl y) (hb : b ∈ badNo) : BadZ ("above " ++ b ++ " " ++ y) := by
  rcases (badNo_ok b hb).2 with rfl | ⟨h1, h2⟩
  · refine ⟨["above", "1", "2", y], txw ?_ (by simp) (by simp) (wd4 (by decide +kernel) (by decide +kernel) (by decide +kernel) h.wd), "above", _, rfl, .inr (.inr (.inl ⟨rfl, .inr ⟨"1", ["2", y], rfl, .inr ⟨by decide +kernel, .inl ?_⟩⟩⟩))⟩
    · show _ = "above" ++ " " ++ ("1" ++ " " ++ ("2" ++ " " ++ y))
      rw [← sapp, ← sapp]
      congr 1
    · unfold rkB
      rw [if_neg (by simp), rkGo_cons, if_neg (by decide), if_neg (by decide +kernel), if_pos (by decide +kernel)]
      rfl
  · refine ⟨["above", b, y], txw ?_ (by simp) (by simp) (wd3 (by decide +kernel) h2 h.wd), "above", _, rfl, .inr (.inr (.inl ⟨rfl, .inr ⟨b, [y], rfl, .inl h1⟩⟩))⟩
    show _ = "above" ++ " " ++ (b ++ " " ++ y)
    rw [← sapp, ← sapp, show ("above" : Str) ++ " " = "above " by decide +kernel]
/-! ### groups -/
def grpT (y b : Str) : List Str := ([b ++ " " ++ y ++ " sum", y ++ " " ++ b ++ " most", y ++ " a " ++ Txt.upper y, y ++ " sum"] : List Str) ++ ([y ++ " a sum sum", y ++ " a sums", "a b c", ""] : List Str)
theorem badG {t : Str} {ws : List Str} (h : TxW t ws) (hl : ws.length ≤ 30) (hb : BadG ws) : BadZ ("group " ++ t) :=
  ⟨_, h.pre (kd := "group") (by decide +kernel) (by decide +kernel) (by omega), "group", ws, rfl, .inr (.inr (.inr (.inl ⟨rfl, hb⟩)))⟩
theorem grp_ok {y b : Str} (h : Nl y) (hb : b ∈ badNm y) {t : Str} (ht : t ∈ grpT y b) : BadZ ("group " ++ t) ∧ t.length ≤ 60 := by
  obtain ⟨b1, b2, b3⟩ := badNm_ok h hb
  obtain ⟨c, r, u1, u2, u3, u4, u5⟩ := h.upper
  have y8 := h.2.1
  simp only [grpT, List.mem_append, List.mem_cons, List.not_mem_nil, or_false] at ht
  rcases ht with (rfl | rfl | rfl | rfl) | (rfl | rfl | rfl | rfl)
  · refine ⟨badG (ws := [b, y, "sum"]) (txw ?_ (by simp) (by simp) (wd3 b2 h.wd (by decide +kernel))) (by simp) (.inr ⟨b, y, _, rfl, .inr ⟨by decide +kernel, .inl b1⟩⟩), ?_⟩
    · show _ = b ++ " " ++ (y ++ " " ++ "sum")
      rw [show (" sum" : Str) = " " ++ "sum" by decide +kernel]
      simp only [sapp]
    · rw [cat_len, cat_len, cat_len, show (" " : Str).length = 1 by decide +kernel, show (" sum" : Str).length = 4 by decide +kernel]
      omega
  · refine ⟨badG (ws := [y, b, "most"]) (txw ?_ (by simp) (by simp) (wd3 h.wd b2 (by decide +kernel))) (by simp) (.inr ⟨y, b, _, rfl, .inr ⟨by decide +kernel, .inr b1⟩⟩), ?_⟩
    · show _ = y ++ " " ++ (b ++ " " ++ "most")
      rw [show (" most" : Str) = " " ++ "most" by decide +kernel]
      simp only [sapp]
    · rw [cat_len, cat_len, cat_len, show (" " : Str).length = 1 by decide +kernel, show (" most" : Str).length = 5 by decide +kernel]
      omega
  · refine ⟨badG (ws := [y, "a", Txt.upper y]) (txw ?_ (by simp) (by simp) (wd3 h.wd (by decide +kernel) u4)) (by simp) (.inr ⟨y, _, _, rfl, .inl fun m => ?_⟩), ?_⟩
    · show _ = y ++ " " ++ ("a" ++ " " ++ Txt.upper y)
      rw [show (" a " : Str) = " " ++ ("a" ++ " ") by decide +kernel]
      simp only [sapp]
    · have key : ∀ z ∈ ofg, ∀ d ∈ z.cps.toList, 97 ≤ d := by decide +kernel
      have := key _ m c (by rw [u1]; simp)
      omega
    · rw [cat_len, cat_len, show (" a " : Str).length = 3 by decide +kernel]
      omega
  · refine ⟨badG (ws := [y, "sum"]) (txw ?_ (by simp) (by simp) (wd2 h.wd (by decide +kernel))) (by simp) (.inl (by simp)), ?_⟩
    · show _ = y ++ " " ++ "sum"
      rw [sapp, show (" " : Str) ++ "sum" = " sum" by decide +kernel]
    · rw [cat_len, show (" sum" : Str).length = 4 by decide +kernel]
      omega
  · refine ⟨badG (ws := [y, "a", "sum", "sum"]) (txw ?_ (by simp) (by simp) (wd4 h.wd (by decide +kernel) (by decide +kernel) (by decide +kernel))) (by simp) (.inl (by simp)), ?_⟩
    · show _ = y ++ " " ++ ("a" ++ " " ++ ("sum" ++ " " ++ "sum"))
      rw [sapp, show (" " : Str) ++ ("a" ++ " " ++ ("sum" ++ " " ++ "sum")) = " a sum sum" by decide +kernel]
    · rw [cat_len, show (" a sum sum" : Str).length = 10 by decide +kernel]
      omega
  · refine ⟨badG (ws := [y, "a", "sums"]) (txw ?_ (by simp) (by simp) (wd3 h.wd (by decide +kernel) (by decide +kernel))) (by simp) (.inr ⟨y, _, _, rfl, .inl (by decide +kernel)⟩), ?_⟩
    · show _ = y ++ " " ++ ("a" ++ " " ++ "sums")
      rw [sapp, show (" " : Str) ++ ("a" ++ " " ++ "sums") = " a sums" by decide +kernel]
    · rw [cat_len, show (" a sums" : Str).length = 7 by decide +kernel]
      omega
  · exact ⟨badG (ws := ["a", "b", "c"]) (txw (by decide +kernel) (by simp) (by simp) (by decide +kernel)) (by simp) (.inr ⟨_, _, _, rfl, .inl (by decide +kernel)⟩), by decide +kernel⟩
  · exact ⟨badG (ws := [""]) (txw (by decide +kernel) (by simp) (by simp) (by decide +kernel)) (by simp) (.inl (by simp)), by decide +kernel⟩
/-! ### lookups -/
theorem badL {t : Str} {ws : List Str} (h : TxW t ws) (hl : ws.length ≤ 30) (hb : BadL ws) : BadZ ("lookup " ++ t) :=
  ⟨_, h.pre (kd := "lookup") (by decide +kernel) (by decide +kernel) (by omega), "lookup", ws, rfl, .inr (.inr (.inr (.inr (.inl ⟨rfl, hb⟩))))⟩
def lkW (y b : Str) (n : Nat) : List Str := [y, "t", "a", y].set n b
def lkT (y b : Str) (n : Nat) : List Str := [jn (lkW y b n), "a t b", "a t b c d", "a  t b c", ""]
theorem lkW_ok {y b : Str} (h : Nl y) (hb : b ∈ badNm y) {n : Nat} (hn : n < 4) : (lkW y b n).length = 4 ∧ (∀ z ∈ lkW y b n, Wd z ∧ z.length ≤ 9) ∧ b ∈ lkW y b n := by
  obtain ⟨b1, b2, b3⟩ := badNm_ok h hb
  have hy : Wd y ∧ y.length ≤ 9 := ⟨h.wd, by have := h.2.1; omega⟩
  refine ⟨by simp [lkW], fun z hz => ?_, List.mem_set hn b⟩
  rcases List.mem_or_eq_of_mem_set hz with hz | rfl
  · simp only [List.mem_cons, List.not_mem_nil, or_false] at hz
    rcases hz with rfl | rfl | rfl | rfl
    · exact hy
    · exact ⟨by decide +kernel, by decide +kernel⟩
    · exact ⟨by decide +kernel, by decide +kernel⟩
    · exact hy
  · exact ⟨b2, b3⟩
theorem lkT_ok {y b : Str} (h : Nl y) (hb : b ∈ badNm y) {n : Nat} (hn : n < 4) {t : Str} (ht : t ∈ lkT y b n) : BadZ ("lookup " ++ t) ∧ t.length ≤ 60 := by
  obtain ⟨w1, w2, w3⟩ := lkW_ok h hb hn
  simp only [lkT, List.mem_cons, List.not_mem_nil, or_false] at ht
  rcases ht with rfl | rfl | rfl | rfl | rfl
  · refine ⟨badL (ws := lkW y b n) (txw rfl (fun e => by rw [e] at w1; cases w1) (by omega) (fun z hz => (w2 z hz).1)) (by omega) (.inr ⟨w1, b, w3, (badNm_ok h hb).1⟩), ?_⟩
    have := jn_len (ws := lkW y b n) (n := 9) (fun z hz => (w2 z hz).2)
    omega
  · exact ⟨badL (ws := ["a", "t", "b"]) (txw (by decide +kernel) (by simp) (by simp) (by decide +kernel)) (by simp) (.inl (by simp)), by decide +kernel⟩
  · exact ⟨badL (ws := ["a", "t", "b", "c", "d"]) (txw (by decide +kernel) (by simp) (by simp) (by decide +kernel)) (by simp) (.inl (by simp)), by decide +kernel⟩
  · exact ⟨badL (ws := ["a", "", "t", "b", "c"]) (txw (by decide +kernel) (by simp) (by simp) (by decide +kernel)) (by simp) (.inl (by simp)), by decide +kernel⟩
  · exact ⟨badL (ws := [""]) (txw (by decide +kernel) (by simp) (by simp) (by decide +kernel)) (by simp) (.inl (by simp)), by decide +kernel⟩
/-! ### mends -/
theorem badM {t : Str} {ws : List Str} (h : TxW t ws) (hl : ws.length ≤ 30) (hb : BadM ws) : BadZ ("mend " ++ t) :=
  ⟨_, h.pre (kd := "mend") (by decide +kernel) (by decide +kernel) (by omega), "mend", ws, rfl, .inr (.inr (.inr (.inr (.inr ⟨rfl, hb⟩))))⟩
def mdT (y b n : Str) : List Str := ([y ++ " " ++ n, b ++ " 1"] : List Str) ++ ([y, y ++ " 1 2", ""] : List Str)
theorem mdT_ok {y b n : Str} (h : Nl y) (hb : b ∈ badNm y) (hn : n ∈ badNo) {t : Str} (ht : t ∈ mdT y b n) : BadZ ("mend " ++ t) ∧ t.length ≤ 100 := by
  obtain ⟨b1, b2, b3⟩ := badNm_ok h hb
  have n1 := (badNo_ok n hn).1
  have y8 := h.2.1
  simp only [mdT, List.mem_append, List.mem_cons, List.not_mem_nil, or_false] at ht
  rcases ht with (rfl | rfl) | (ey | rfl | rfl)
  · refine ⟨?_, by rw [cat_len, cat_len, show (" " : Str).length = 1 by decide +kernel]; omega⟩
    rcases (badNo_ok n hn).2 with rfl | ⟨h1, h2⟩
    · refine badM (ws := [y, "1", "2"]) (txw ?_ (by simp) (by simp) (wd3 h.wd (by decide +kernel) (by decide +kernel))) (by simp) (.inl (by simp))
      show _ = y ++ " " ++ ("1" ++ " " ++ "2")
      rw [show (("1" : Str) ++ " " ++ "2") = "1 2" by decide +kernel]
    · exact badM (ws := [y, n]) (txw rfl (by simp) (by simp) (wd2 h.wd h2)) (by simp) (.inr ⟨y, n, rfl, .inl h1⟩)
  · refine ⟨badM (ws := [b, "1"]) (txw ?_ (by simp) (by simp) (wd2 b2 (by decide +kernel))) (by simp) (.inr ⟨b, "1", rfl, .inr ⟨by decide +kernel, b1⟩⟩), ?_⟩
    · show _ = b ++ " " ++ "1"
      rw [sapp, show (" " : Str) ++ "1" = " 1" by decide +kernel]
    · rw [cat_len, show (" 1" : Str).length = 2 by decide +kernel]
      omega
  · rw [ey]
    exact ⟨badM (ws := [y]) (txw rfl (by simp) (by simp) (wd1 h.wd)) (by simp) (.inl (by simp)), by omega⟩
  · refine ⟨badM (ws := [y, "1", "2"]) (txw ?_ (by simp) (by simp) (wd3 h.wd (by decide +kernel) (by decide +kernel))) (by simp) (.inl (by simp)), ?_⟩
    · show _ = y ++ " " ++ ("1" ++ " " ++ "2")
      rw [sapp, show (" " : Str) ++ ("1" ++ " " ++ "2") = " 1 2" by decide +kernel]
    · rw [cat_len, show (" 1 2" : Str).length = 4 by decide +kernel]
      omega
  · exact ⟨badM (ws := [""]) (txw (by decide +kernel) (by simp) (by simp) (by decide +kernel)) (by simp) (.inl (by simp)), by decide +kernel⟩
/-! ### others -/
def othT (y : Str) : List Str := ["", "cells", "above", "above 1", "group", "lookup", "mend", "Cells 1", "cell 1", " cells 1", "cells\t1", y ++ "q 1", "sum a"]
theorem badO {t kd : Str} {r : List Str} (e : t = jn (kd :: r)) (hl : r.length ≤ 29) (hw : ∀ z ∈ kd :: r, Wd z) (hb : kd ∉ kinds) : BadZ t := ⟨_, txw e (by simp) (by rw [List.length_cons]; omega) hw, kd, r, rfl, .inl hb⟩
theorem othT_ok {y : Str} (h : Nl y) {t : Str} (ht : t ∈ othT y) : BadZ t := by
  simp only [othT, List.mem_cons, List.not_mem_nil, or_false] at ht
  rcases ht with rfl | rfl | rfl | rfl | rfl | rfl | rfl | rfl | rfl | rfl | rfl | rfl | rfl
  · exact badO (kd := "") (r := []) (by decide +kernel) (by simp) (by decide +kernel) (by decide +kernel)
  · exact ⟨["cells"], txw (by decide +kernel) (by simp) (by simp) (by decide +kernel), "cells", [], rfl, .inr (.inl ⟨rfl, .inl (by decide +kernel)⟩)⟩
  · exact ⟨["above"], txw (by decide +kernel) (by simp) (by simp) (by decide +kernel), "above", [], rfl, .inr (.inr (.inl ⟨rfl, .inl rfl⟩))⟩
  · exact ⟨["above", "1"], txw (by decide +kernel) (by simp) (by simp) (by decide +kernel), "above", ["1"], rfl, .inr (.inr (.inl ⟨rfl, .inr ⟨"1", [], rfl, .inr ⟨by decide +kernel, .inl (by decide +kernel)⟩⟩⟩))⟩
  · exact ⟨["group"], txw (by decide +kernel) (by simp) (by simp) (by decide +kernel), "group", [], rfl, .inr (.inr (.inr (.inl ⟨rfl, .inl (by simp)⟩)))⟩
  · exact ⟨["lookup"], txw (by decide +kernel) (by simp) (by simp) (by decide +kernel), "lookup", [], rfl, .inr (.inr (.inr (.inr (.inl ⟨rfl, .inl (by simp)⟩))))⟩
  · exact ⟨["mend"], txw (by decide +kernel) (by simp) (by simp) (by decide +kernel), "mend", [], rfl, .inr (.inr (.inr (.inr (.inr ⟨rfl, .inl (by simp)⟩))))⟩
  · exact badO (kd := "Cells") (r := ["1"]) (by decide +kernel) (by simp) (by decide +kernel) (by decide +kernel)
  · exact badO (kd := "cell") (r := ["1"]) (by decide +kernel) (by simp) (by decide +kernel) (by decide +kernel)
  · exact badO (kd := "") (r := ["cells", "1"]) (by decide +kernel) (by simp) (by decide +kernel) (by decide +kernel)
  · exact badO (kd := "cells\t1") (r := []) (by decide +kernel) (by simp) (by decide +kernel) (by decide +kernel)
  · have el : (y ++ ("q" : Str)).cps.toList = y.cps.toList ++ [113] := by rw [cat_list]; rfl
    refine badO (kd := y ++ "q") (r := ["1"]) ?_ (by simp) (wd2 ⟨fun m => ?_, ?_⟩ (by decide +kernel)) (fun m => ?_)
    · show _ = y ++ "q" ++ " " ++ "1"
      rw [sapp, sapp, show ("q" : Str) ++ (" " ++ "1") = "q 1" by decide +kernel]
    · rw [el] at m
      rcases List.mem_append.mp m with m | m
      · exact h.wd.1 m
      · simp at m
    · rw [cat_len, show ("q" : Str).length = 1 by decide +kernel]
      have := h.2.1
      omega
    · have key : ∀ z ∈ kinds, (113 : Nat) ∉ z.cps.toList := by decide +kernel
      exact key _ m (by rw [el]; simp)
  · exact badO (kd := "sum") (r := ["a"]) (by decide +kernel) (by simp) (by decide +kernel) (by decide +kernel)
end My

set_option maxHeartbeats 800000
namespace My
open PySem L2
section
variable {X : Cx}
theorem pew_ix {r : R2} {a b : Expr} {ta tb : TE} {pos : Pos} (hr : IxR X r) (ha : PEw X a ta) (hb : PEw X b tb) (hs : PlainIx b) : PEw X (.Subscript a b pos) (tOp r ta tb) := ⟨pe_ix hr ha.run hb.run hs⟩
end
theorem mod_rng (c : Int) {n : Int} (h : 0 < n) : 0 ≤ c % n ∧ c % n < n := ⟨Int.emod_nonneg _ (by omega), Int.emod_lt_of_pos _ h⟩
theorem text_at {zs : List Str} {i : Int} (h0 : 0 ≤ i) (h : i < zs.length) : ∃ z, atI (zs.map V.str) i = some (.str z) ∧ z ∈ zs := by
  obtain ⟨v, h1, h2⟩ := at_some (zs.map V.str) i h0 (by rw [List.length_map]; exact h)
  rw [List.getElem?_map] at h2
  cases e : zs[i.toNat]? with
  | none => rw [e] at h2; cases h2
  | some z => rw [e] at h2; cases h2; exact ⟨z, h1, List.mem_of_getElem? e⟩
section
variable {P : Program} {w : World} {K : PySem.W.Frag} {mg : Str → Option Value} {base : Heap}
def spBadNo : Sp := fun vs H Q _ => ∃ n : Int, vs = [.int n] ∧ ∀ H' z, Same H H' → z ∈ badNo → Q (.str z) H'
theorem sc_law_bad_number : FnScope ["_law_cell_here"] ["_law_cell_here"] (defScope s_law_bad_number) := ⟨rfl, rfl, rfl, by decide +kernel, rfl, by decide +kernel, by decide +kernel⟩
theorem k_law_bad_number (T : Tops K mg) : Known P w K mg base CX0 1 "_law_bad_number" ["_law_cell_here"] spBadNo := by
  refine T.d_law_bad_number.known sc_law_bad_number (fun _ _ _ _ _ _ us hl => match us, hl with | [_], _ => rfl) (fun vs H Q E h => ?_) (fun f cdv A outer s H vs Q E hr h => ?_)
  · obtain ⟨n, rfl, _⟩ := h
    rfl
  · obtain ⟨n, rfl, q⟩ := h
    refine boxS ⟨_, (pssw_one (psw_ret (pew_ix ix_list (pew_lst (paw_k pew_str (paw_k pew_str (paw_k pew_str (paw_k pew_str (paw_k pew_str (paw_k pew_str (paw_k pew_str (paw_k pew_str (paw_k pew_str (paw_b (PEw.mk (pe_op op_mul_str pe_str pe_int)) (paw_k pew_str (paw_k pew_str paw_nil))))))))))))) (PEw.mk (pe_op op_mod (pv 0) pe_int)) (fun _ _ => rfl)))), ?_⟩
    obtain ⟨m0, m1⟩ := mod_rng n (n := 12) (by decide)
    obtain ⟨z, hz, hm⟩ := text_at (zs := badNo) m0 m1
    refine ⟨_, _, rfl, rfl, by decide +kernel, by decide, by decide, sl, fun l hl => ?_⟩
    exact ⟨_, rfl, _, _, rfl, rfl, (show (0 : Int) < 12 by decide), l, _, _, _, rfl, rfl, SqL.of upd_same, hz, q _ z (Same.new hl) hm⟩
def spBadNm : Sp := fun vs H Q _ => ∃ (n : Int) (y : Str), vs = [.int n, .str y] ∧ y.length ≤ 8 ∧ ∀ H' z, Same H H' → z ∈ badNm y → Q (.str z) H'
theorem sc_law_bad_name : FnScope ["_law_cell_here", "_law_word_here"] ["_law_cell_here", "_law_word_here"] (defScope s_law_bad_name) := ⟨rfl, rfl, rfl, by decide +kernel, rfl, by decide +kernel, by decide +kernel⟩
theorem k_law_bad_name (T : Tops K mg) : Known P w K mg base CX0 1 "_law_bad_name" ["_law_cell_here", "_law_word_here"] spBadNm := by
  refine T.d_law_bad_name.known sc_law_bad_name (fun _ _ _ _ _ _ us hl => match us, hl with | [_, _], _ => rfl) (fun vs H Q E h => ?_) (fun f cdv A outer s H vs Q E hr h => ?_)
  · obtain ⟨n, y, rfl, _⟩ := h
    rfl
  · obtain ⟨n, y, rfl, y8, q⟩ := h
    refine boxS ⟨_, (pssw_one (psw_ret (pew_ix ix_list (pew_lst (paw_k pew_str (paw_k pew_str (paw_b (PEw.mk (pe_op op_add_str (pv 1) pe_str)) (paw_k pew_str (paw_k pew_str (paw_k pew_str (paw_b (PEw.mk (pe_op op_add_str (pv 1) pe_str)) paw_nil)))))))) (PEw.mk (pe_op op_mod (pv 0) pe_int)) (fun _ _ => rfl)))), ?_⟩
    obtain ⟨m0, m1⟩ := mod_rng n (n := 7) (by decide)
    obtain ⟨z, hz, hm⟩ := text_at (zs := badNm y) m0 m1
    refine ⟨_, rfl, _, _, rfl, rfl, cat_room (by omega) (by decide +kernel), _, rfl, _, _, rfl, rfl, cat_room (by omega) (by decide +kernel), sl, fun l hl => ?_⟩
    exact ⟨_, rfl, _, _, rfl, rfl, (show (0 : Int) < 7 by decide), l, _, _, _, rfl, rfl, SqL.of upd_same, hz, q _ z (Same.new hl) hm⟩
def spBadRk : Sp := fun vs H Q _ => ∃ (n : Int) (y : Str), vs = [.int n, .str y] ∧ Nl y ∧ ∀ H' z, Same H H' → z ∈ badRk y → Q (.str z) H'
theorem sc_law_bad_reckoning : FnScope ["_law_cell_here", "_law_word_here", "_law_some"] ["_law_cell_here", "_law_word_here"] (defScope s_law_bad_reckoning) := ⟨rfl, rfl, rfl, by decide +kernel, rfl, by decide +kernel, by decide +kernel⟩
theorem k_law_bad_reckoning (T : Tops K mg) : Known P w K mg base CX0 1 "_law_bad_reckoning" ["_law_cell_here", "_law_word_here"] spBadRk := by
  refine T.d_law_bad_reckoning.known sc_law_bad_reckoning (fun _ _ _ _ _ _ us hl => match us, hl with | [_, _], _ => rfl) (fun vs H Q E h => ?_) (fun f cdv A outer s H vs Q E hr h => ?_)
  · obtain ⟨n, y, rfl, _⟩ := h
    rfl
  · obtain ⟨n, y, rfl, hy, q⟩ := h
    refine boxS ⟨_, (pssw_cons (psw_set (i := 2) sc_law_bad_reckoning.nd rfl (Or.inl rfl) (pew_lst (paw_k pew_str (paw_k pew_str (paw_k pew_str (paw_k pew_str (paw_k pew_str (paw_b (PEw.mk (pe_op op_add_str (pe_op op_add_str (pv 1) pe_str) (pv 1))) (paw_b (PEw.mk (pe_op op_add_str pe_str (pv 1))) (paw_k pew_str (paw_k pew_str (paw_k pew_str paw_nil))))))))))))
      (pssw_cons (psw_set (i := 2) sc_law_bad_reckoning.nd rfl (Or.inl rfl) (pew_op op_cat (PEw.mk (pv 2)) (pew_lst (paw_k pew_str (paw_k pew_str (paw_k pew_str (paw_k pew_str (paw_k pew_str (paw_k pew_str (paw_k pew_str (paw_c (PEw.mk (pe_bm0 PySem.F.plainAttrs_str PySem.F.slot_str_upper PySem.F.type_str_upper mt_upper (pv 1))) (paw_b (PEw.mk (pe_op op_mul_str (pv 1) pe_int)) paw_nil))))))))))))
      (pssw_cons (psw_set (i := 2) sc_law_bad_reckoning.nd rfl (Or.inl rfl) (pew_op op_cat (PEw.mk (pv 2)) (pew_lst (paw_b (PEw.mk (pe_op op_add_str pe_str (pe_op op_mul_str pe_str pe_int))) (paw_k pew_str (paw_k pew_str paw_nil))))))
      (pssw_cons (psw_set (i := 2) sc_law_bad_reckoning.nd rfl (Or.inl rfl) (pew_op op_cat (PEw.mk (pv 2)) (pew_lst (paw_k pew_str (paw_b (PEw.mk (pe_op op_add_str (pe_op op_add_str (pe_op op_mul_str pe_str pe_int) (pe_op op_mul_str pe_str pe_int)) pe_str)) (paw_k pew_str paw_nil))))))
      (pssw_one (PSw.mk (ps_ret (pe_ix ix_list (pv 2) (pe_op op_mod (pv 0) pe_int) (fun _ _ => rfl))))))))), ?_⟩
    obtain ⟨m0, m1⟩ := mod_rng n (n := 25) (by decide)
    obtain ⟨z, hz, hm⟩ := text_at (zs := badRk y) m0 m1
    obtain ⟨_, _, _, _, _, _, ul⟩ := hy.upper
    have ml := hy.mul9.2.2
    have y8 := hy.2.1
    refine ⟨_, rfl, _, _, rfl, rfl, cat_room (by omega) (by decide +kernel), _, rfl, _, _, rfl, rfl, cat_room (by rw [cat_len, show (" " : Str).length = 1 by decide +kernel]; omega) (by omega), _, rfl, _, _, rfl, rfl, cat_room (by decide +kernel) (by omega), sl, fun l1 hl1 => ?_⟩
    have u1 := Same.new (o := .lst ((["", "+", "+ 1", "+ 1 2 3", "1 2", y ++ " " ++ y, "* " ++ y, "; 1 2", "+ 01 2", "+ 1 +"] : List Str).map V.str)) hl1
    refine ⟨_, rfl, _, rfl, rfl, y, rfl, rfl, ?_, _, rfl, _, _, rfl, rfl, by omega, by decide, by decide, sl, fun l2 hl2 => ?_⟩
    · show decide ((Txt.upper y).length > sizeLine) = false
      exact decide_eq_false (by have := small1000 (n := (Txt.upper y).length) (by omega); omega)
    have u2 := Same.new (o := .lst ((["+  1 2", "+ 1 2 ", " 1", "1 ", "+ - 1 2", "- -1", "(1)", Txt.upper y, Txt.mul y 9] : List Str).map V.str)) hl2
    refine ⟨l1, l2, _, _, rfl, rfl, u2 _ _ upd_same, upd_same, sl, fun l3 hl3 => ?_⟩
    have u3 := Same.new (o := .lst ((["", "+", "+ 1", "+ 1 2 3", "1 2", y ++ " " ++ y, "* " ++ y, "; 1 2", "+ 01 2", "+ 1 +"] : List Str).map V.str ++ (["+  1 2", "+ 1 2 ", " 1", "1 ", "+ - 1 2", "- -1", "(1)", Txt.upper y, Txt.mul y 9] : List Str).map V.str)) hl3
    have s3 := (u1.trans u2).trans u3
    refine ⟨_, rfl, _, _, rfl, rfl, by decide +kernel, by decide, by decide, _, _, rfl, rfl, cat_room (by decide +kernel) (by decide +kernel), sl, fun l4 hl4 => ?_⟩
    have u4 := Same.new (o := .lst ((["+ 1 1" ++ Txt.mul "0" 60, "** 1 2", "1,"] : List Str).map V.str)) hl4
    refine ⟨l3, l4, _, _, rfl, rfl, u4 _ _ upd_same, upd_same, sl, fun l5 hl5 => ?_⟩
    have u5 := Same.new (o := .lst (((["", "+", "+ 1", "+ 1 2 3", "1 2", y ++ " " ++ y, "* " ++ y, "; 1 2", "+ 01 2", "+ 1 +"] : List Str).map V.str ++ (["+  1 2", "+ 1 2 ", " 1", "1 ", "+ - 1 2", "- -1", "(1)", Txt.upper y, Txt.mul y 9] : List Str).map V.str) ++ (["+ 1 1" ++ Txt.mul "0" 60, "** 1 2", "1,"] : List Str).map V.str)) hl5
    have s5 := (s3.trans u4).trans u5
    refine ⟨_, rfl, _, _, rfl, rfl, by decide +kernel, by decide, by decide, _, _, rfl, rfl, by decide +kernel, by decide, by decide, _, _, rfl, rfl, cat_room (by decide +kernel) (by decide +kernel), _, _, rfl, rfl, cat_room (by decide +kernel) (by decide +kernel), sl, fun l6 hl6 => ?_⟩
    have u6 := Same.new (o := .lst ((["+ a + b + c + d + e + f g", Txt.mul "+ " 12 ++ Txt.mul "1 " 12 ++ "1", "- 1 -0"] : List Str).map V.str)) hl6
    refine ⟨l5, l6, _, _, rfl, rfl, u6 _ _ upd_same, upd_same, sl, fun l7 hl7 => ?_⟩
    have e : ((((["", "+", "+ 1", "+ 1 2 3", "1 2", y ++ " " ++ y, "* " ++ y, "; 1 2", "+ 01 2", "+ 1 +"] : List Str).map V.str ++ (["+  1 2", "+ 1 2 ", " 1", "1 ", "+ - 1 2", "- -1", "(1)", Txt.upper y, Txt.mul y 9] : List Str).map V.str) ++ (["+ 1 1" ++ Txt.mul "0" 60, "** 1 2", "1,"] : List Str).map V.str) ++ (["+ a + b + c + d + e + f g", Txt.mul "+ " 12 ++ Txt.mul "1 " 12 ++ "1", "- 1 -0"] : List Str).map V.str) = (badRk y).map V.str := by
      unfold badRk
      rw [List.map_append, List.map_append, List.map_append]
    refine ⟨_, rfl, _, rfl, _, _, rfl, rfl, (show (0 : Int) < 25 by decide), l7, _, _, _, rfl, rfl, SqL.of upd_same, ?_, q _ z ((s5.trans u6).trans (Same.new hl7)) hm⟩
    show atI ((((["", "+", "+ 1", "+ 1 2 3", "1 2", y ++ " " ++ y, "* " ++ y, "; 1 2", "+ 01 2", "+ 1 +"] : List Str).map V.str ++ (["+  1 2", "+ 1 2 ", " 1", "1 ", "+ - 1 2", "- -1", "(1)", Txt.upper y, Txt.mul y 9] : List Str).map V.str) ++ (["+ 1 1" ++ Txt.mul "0" 60, "** 1 2", "1,"] : List Str).map V.str) ++ (["+ a + b + c + d + e + f g", Txt.mul "+ " 12 ++ Txt.mul "1 " 12 ++ "1", "- 1 -0"] : List Str).map V.str) _ = _
    rw [e]
    exact hz
end
end My

set_option maxHeartbeats 1000000
namespace My
open PySem L2
theorem join_one (x : Str) : Txt.join (" " : Str) [x] = x := by
  unfold Txt.join
  rw [StrLaws.glued_eq_join]
  rfl
theorem join_cons (x y : Str) (r : List Str) : Txt.join (" " : Str) (x :: y :: r) = x ++ " " ++ Txt.join (" " : Str) (y :: r) := by
  unfold Txt.join
  rw [StrLaws.glued_eq_join, StrLaws.glued_eq_join]
  rfl
theorem join_jn : ∀ {ws : List Str}, ws ≠ [] → Txt.join (" " : Str) ws = jn ws
  | [], h => absurd rfl h
  | [z], _ => join_one z
  | z :: y :: r, _ => by
    rw [join_cons, join_jn (ws := y :: r) (by simp)]
    rfl
theorem cat_room9 {a b : Str} (ha : a.length ≤ 400) (hb : b.length ≤ 9000) : a.length + b.length ≤ sizeLine := Nat.le_trans (show a.length + b.length ≤ 9400 by omega) (by decide +kernel)
section
variable {X : Cx}
theorem psw_if {c : Expr} {a b : List Stmt} {tc : TT} {t u : TS} {pos : Pos} (hc : PT X c tc) (ha : PSsw X a t) (hb : PSsw X b u) : PSw X (.If c a b pos) (tIfS tc t u) := ⟨ps_if hc ha.run hb.run⟩
end
section
variable {P : Program} {w : World} {K : PySem.W.Frag} {mg : Str → Option Value} {base : Heap}
def BadD (d : PyData) : Prop := (∀ z, d ≠ .str z) ∨ ∃ z, d = .str z ∧ z.length ≤ 9000 ∧ Sml (Txt.split z " ") ∧ BadT (Txt.split z " ")
theorem BadZ.d {z : Str} (h : BadZ z) : BadD (.str z) := by
  obtain ⟨ws, h1, h2⟩ := h
  obtain ⟨g1, g2, g3⟩ := h1.ok
  exact .inr ⟨z, rfl, g1, by rw [g2]; exact g3, by rw [g2]; exact h2⟩
def spText (K : PySem.W.Frag) : Sp := fun vs H Q _ => ∃ (a : Addr) (ns : List Int) (y : Str), vs = [.ref a, .str y] ∧ SqL K H a (ns.map V.int) ∧ ns.length ≤ 63 ∧ Nl y ∧ ∀ H' v d, Same H H' → Dt K H' v d → BadD d → Q v H'
theorem sc_law_text : FnScope ["_law_script", "_law_word_here", "_law_cell_here", "_law_way", "_law_bad", "_law_some", "_law_words"] ["_law_script", "_law_word_here"] (defScope s_law_text) := ⟨rfl, rfl, rfl, by decide +kernel, rfl, by decide +kernel, by decide +kernel⟩
theorem dt_map (H : Hp) : ∀ zs : List Str, DtAll K H (zs.map V.str) (zs.map PyData.str)
  | [] => .nil
  | z :: zs => .cons (.str z) (dt_map H zs)
theorem k_law_text (T : Tops K mg) : Known P w K mg base CX0 2 "_law_text" ["_law_script", "_law_word_here"] (spText K) := by
  have G_law_cell : Known P w K mg base CX0 1 "_law_cell" ["_law_script", "_law_k"] (spCell K) := k_law_cell T
  have G_law_bad_number : Known P w K mg base CX0 1 "_law_bad_number" ["_law_cell_here"] spBadNo := k_law_bad_number T
  have G_law_bad_name : Known P w K mg base CX0 1 "_law_bad_name" ["_law_cell_here", "_law_word_here"] spBadNm := k_law_bad_name T
  have G_law_bad_reckoning : Known P w K mg base CX0 1 "_law_bad_reckoning" ["_law_cell_here", "_law_word_here"] spBadRk := k_law_bad_reckoning T
  refine T.d_law_text.known sc_law_text (fun _ _ _ _ _ _ us hl => match us, hl with | [_, _], _ => rfl) (fun vs H Q E h => ?_) (fun f cdv A outer s H vs Q E hr h => ?_)
  · obtain ⟨a, ns, y, rfl, _⟩ := h
    rfl
  · obtain ⟨a, ns, y, rfl, hS, hl, hy, q⟩ := h
    refine boxS ⟨_, (pssw_cons (PSw.mk (ps_set (i := 2) sc_law_text.nd rfl (Or.inl rfl) (pe_callN G_law_cell (hr.mono (by decide)) pass0 (pa_cons (pv 0) (pa_cons pe_int pa_nil)))))
      (pssw_cons (PSw.mk (ps_set (i := 3) sc_law_text.nd rfl (Or.inl rfl) (pe_op op_mod (pe_callN G_law_cell (hr.mono (by decide)) pass0 (pa_cons (pv 0) (pa_cons pe_int pa_nil))) pe_int)))
      (pssw_cons (psw_if (pt_cmpR op_lt (pv 3) pe_int (nomark _)) (pssw_one (PSw.mk (ps_ret (pe_op op_add_str pe_str (pe_callN G_law_bad_reckoning (hr.mono (by decide)) pass0 (pa_cons (pv 2) (pa_cons (pv 1) pa_nil))))))) pssw_nil)
      (pssw_cons (psw_if (pt_cmpR op_eq (pv 3) pe_int (nomark _)) (pssw_one (PSw.mk (ps_ret (pe_op op_add_str pe_str (pe_callN G_law_bad_reckoning (hr.mono (by decide)) pass0 (pa_cons (pv 2) (pa_cons (pv 1) pa_nil))))))) pssw_nil)
      (pssw_cons (psw_if (pt_cmpR op_eq (pv 3) pe_int (nomark _)) (pssw_one (PSw.mk (ps_ret (pe_op op_add_str (pe_op op_add_str (pe_op op_add_str pe_str (pe_callN G_law_bad_number (hr.mono (by decide)) pass0 (pa_cons (pv 2) pa_nil))) pe_str) (pv 1))))) pssw_nil)
      (pssw_cons (psw_if (pt_cmpR op_eq (pv 3) pe_int (nomark _)) (pssw_cons (PSw.mk (ps_set (i := 4) sc_law_text.nd rfl (Or.inl rfl) (pe_callN G_law_bad_name (hr.mono (by decide)) pass0 (pa_cons (pv 2) (pa_cons (pv 1) pa_nil)))))
        (pssw_cons (psw_set (i := 5) sc_law_text.nd rfl (Or.inl rfl) (pew_lst (paw_b (PEw.mk (pe_op op_add_str (pe_op op_add_str (pe_op op_add_str (pv 4) pe_str) (pv 1)) pe_str)) (paw_b (PEw.mk (pe_op op_add_str (pe_op op_add_str (pe_op op_add_str (pv 1) pe_str) (pv 4)) pe_str)) (paw_b (PEw.mk (pe_op op_add_str (pe_op op_add_str (pv 1) pe_str) (pe_bm0 PySem.F.plainAttrs_str PySem.F.slot_str_upper PySem.F.type_str_upper mt_upper (pv 1)))) (paw_b (PEw.mk (pe_op op_add_str (pv 1) pe_str)) paw_nil))))))
        (pssw_cons (psw_set (i := 5) sc_law_text.nd rfl (Or.inl rfl) (pew_op op_cat (PEw.mk (pv 5)) (pew_lst (paw_b (PEw.mk (pe_op op_add_str (pv 1) pe_str)) (paw_b (PEw.mk (pe_op op_add_str (pv 1) pe_str)) (paw_k pew_str (paw_k pew_str paw_nil)))))))
        (pssw_one (PSw.mk (ps_ret (pe_op op_add_str pe_str (pe_ix ix_list (pv 5) (pe_op op_mod (pe_op op_fdiv (pv 2) pe_int) pe_int) (fun _ _ => rfl))))))))) pssw_nil)
      (pssw_cons (psw_if (pt_cmpR op_eq (pv 3) pe_int (nomark _)) (pssw_cons (psw_set (i := 6) sc_law_text.nd rfl (Or.inl rfl) (pew_lst (paw_n (PEw.mk (pv 1)) (paw_k pew_str (paw_k pew_str (paw_n (PEw.mk (pv 1)) paw_nil))))))
        (pssw_cons (PSw.mk (ps_asg (pe_callN G_law_bad_name (hr.mono (by decide)) pass0 (pa_cons (pv 2) (pa_cons (pv 1) pa_nil))) (pg_sub (pv 6) (pe_op op_mod (pe_op op_fdiv (pv 2) pe_int) pe_int) set_list (fun _ => rfl))))
        (pssw_one (psw_ret (pew_op op_add_str pew_str (pew_ix ix_list (pew_lst (paw_c (PEw.mk (pe_bm PySem.F.plainAttrs_str PySem.F.slot_str_join PySem.F.type_str_join mt_join pe_str (pa_cons (pv 6) pa_nil))) (paw_k pew_str (paw_k pew_str (paw_k pew_str (paw_k pew_str paw_nil)))))) (PEw.mk (pe_op op_mod (pe_op op_fdiv (pv 2) pe_int) pe_int)) (fun _ _ => rfl))))))) pssw_nil)
      (pssw_cons (psw_if (pt_cmpR op_eq (pv 3) pe_int (nomark _)) (pssw_cons (psw_set (i := 5) sc_law_text.nd rfl (Or.inl rfl) (pew_lst (paw_b (PEw.mk (pe_op op_add_str (pe_op op_add_str (pv 1) pe_str) (pe_callN G_law_bad_number (hr.mono (by decide)) pass0 (pa_cons (pv 2) pa_nil)))) (paw_b (PEw.mk (pe_op op_add_str (pe_callN G_law_bad_name (hr.mono (by decide)) pass0 (pa_cons (pv 2) (pa_cons (pv 1) pa_nil))) pe_str)) paw_nil))))
        (pssw_cons (psw_set (i := 5) sc_law_text.nd rfl (Or.inl rfl) (pew_op op_cat (PEw.mk (pv 5)) (pew_lst (paw_n (PEw.mk (pv 1)) (paw_b (PEw.mk (pe_op op_add_str (pv 1) pe_str)) (paw_k pew_str paw_nil))))))
        (pssw_one (PSw.mk (ps_ret (pe_op op_add_str pe_str (pe_ix ix_list (pv 5) (pe_op op_mod (pe_op op_fdiv (pv 2) pe_int) pe_int) (fun _ _ => rfl)))))))) pssw_nil)
      (pssw_cons (psw_set (i := 5) sc_law_text.nd rfl (Or.inl rfl) (pew_lst (paw_k pew_str (paw_k pew_str (paw_k pew_str (paw_k pew_str (paw_k pew_str (paw_k pew_str (paw_k pew_str (paw_k pew_str (paw_k pew_str (paw_k pew_str (paw_k pew_str paw_nil)))))))))))))
      (pssw_cons (psw_set (i := 5) sc_law_text.nd rfl (Or.inl rfl) (pew_op op_cat (PEw.mk (pv 5)) (pew_lst (paw_b (PEw.mk (pe_op op_add_str (pv 1) pe_str)) (paw_k pew_non (paw_k pew_int (paw_k pew_bl (paw_l (PEw.mk (pe_lst (pa_cons pe_str (pa_cons pe_str pa_nil)))) (paw_t (PEw.mk (pe_tup (pa_cons pe_str (pa_cons pe_str (pa_cons pe_str pa_nil))))) (paw_k pew_str paw_nil))))))))))
      (pssw_one (PSw.mk (ps_ret (pe_ix ix_list (pv 5) (pe_op op_mod (pv 2) pe_int) (fun _ _ => rfl))))))))))))))), ?_⟩
    refine ⟨_, rfl, a, ns, 1, rfl, hS, hl, by decide, by decide, ?_⟩
    refine ⟨_, rfl, a, ns, 0, rfl, hS, hl, by decide, by decide, _, _, rfl, rfl, (show (0 : Int) < 8 by decide), ?_⟩
    generalize cellZ ns 0 = c0
    generalize cellZ ns 1 = c
    have qS : ∀ H' z, Same H H' → BadZ z → Q (.str z) H' := fun H' z s' hb => q H' _ _ s' (.str z) hb.d
    have y8 := hy.2.1
    obtain ⟨_, _, _, _, _, _, ul⟩ := hy.upper
    have up : Builtin.Str.tooLong (Txt.upper y).length = false := by
      show decide ((Txt.upper y).length > sizeLine) = false
      exact decide_eq_false (by have := small1000 (n := (Txt.upper y).length) (by omega); omega)
    have l1 : (" " : Str).length = 1 := by decide +kernel
    have kl : ∀ z, z ∈ badRk y → z.length ≤ 9000 := fun z hz => by
      obtain ⟨ws, h1, _⟩ := badRk_ok hy hz
      exact h1.ok.1
    refine ⟨_, rfl, _, _, rfl, rfl, _, rfl, ite2 (fun _ => ?_) (fun _ => ?_)⟩
    · exact ⟨_, rfl, _, rfl, c, y, rfl, hy, fun H1 z s1 hz => ⟨_, _, rfl, rfl, cat_room9 (by decide +kernel) (kl z hz), qS _ _ s1 (badC (badRk_ok hy hz))⟩⟩
    refine ⟨_, rfl, rfl, _, rfl, ite2 (fun _ => ?_) (fun _ => ?_)⟩
    · exact ⟨_, rfl, _, rfl, c, y, rfl, hy, fun H1 z s1 hz => ⟨_, _, rfl, rfl, cat_room9 (by decide +kernel) (kl z hz), qS _ _ s1 (badA3 (badRk_ok hy hz))⟩⟩
    refine ⟨_, rfl, rfl, _, rfl, ite2 (fun _ => ?_) (fun _ => ?_)⟩
    · refine ⟨_, rfl, c, rfl, fun H1 z s1 hz => ?_⟩
      have zl := (badNo_ok z hz).1
      have e1 : ("above " : Str).length = 6 := by decide +kernel
      exact ⟨_, _, rfl, rfl, cat_room (by decide +kernel) (by omega), _, _, rfl, rfl, cat_room (by rw [cat_len, e1]; omega) (by decide +kernel), _, rfl, _, _, rfl, rfl, cat_room (by rw [cat_len, cat_len, e1, l1]; omega) (by omega), qS _ _ s1 (badAn hy hz)⟩
    refine ⟨_, rfl, rfl, _, rfl, ite2 (fun _ => ?_) (fun _ => ?_)⟩
    · refine ⟨_, rfl, _, rfl, c, y, rfl, y8, fun H1 b s1 hb => ?_⟩
      obtain ⟨b1, b2, b3⟩ := badNm_ok hy hb
      refine ⟨_, rfl, _, _, rfl, rfl, cat_room (by omega) (by decide +kernel), _, rfl, _, _, rfl, rfl, cat_room (by rw [cat_len, l1]; omega) (by omega), _, _, rfl, rfl, cat_room (by rw [cat_len, cat_len, l1]; omega) (by decide +kernel), _, rfl, _, _, rfl, rfl, cat_room (by omega) (by decide +kernel), _, rfl, _, _, rfl, rfl, cat_room (by rw [cat_len, l1]; omega) (by omega), _, _, rfl, rfl, cat_room (by rw [cat_len, cat_len, l1]; omega) (by decide +kernel), _, rfl, _, _, rfl, rfl, cat_room (by omega) (by decide +kernel), _, rfl, rfl, y, rfl, rfl, up, _, _, rfl, rfl, cat_room (by rw [cat_len, show (" a " : Str).length = 3 by decide +kernel]; omega) (by omega), _, rfl, _, _, rfl, rfl, cat_room (by omega) (by decide +kernel), sl, fun p1 hp1 => ?_⟩
      have u1 := Same.new (o := .lst (([b ++ " " ++ y ++ " sum", y ++ " " ++ b ++ " most", y ++ " a " ++ Txt.upper y, y ++ " sum"] : List Str).map V.str)) hp1
      refine ⟨_, rfl, _, rfl, _, _, rfl, rfl, cat_room (by omega) (by decide +kernel), _, rfl, _, _, rfl, rfl, cat_room (by omega) (by decide +kernel), sl, fun p2 hp2 => ?_⟩
      have u2 := Same.new (o := .lst (([y ++ " a sum sum", y ++ " a sums", "a b c", ""] : List Str).map V.str)) hp2
      refine ⟨p1, p2, _, _, rfl, rfl, u2 _ _ upd_same, upd_same, sl, fun p3 hp3 => ?_⟩
      obtain ⟨m0, m1⟩ := mod_rng (c / 7) (n := 8) (by decide)
      obtain ⟨t, ht, hm⟩ := text_at (zs := grpT y b) m0 m1
      obtain ⟨g1, g2⟩ := grp_ok hy hb hm
      exact ⟨_, rfl, _, rfl, _, _, rfl, rfl, ⟨by decide, by decide⟩, _, _, rfl, rfl, (show (0 : Int) < 8 by decide), p3, _, _, _, rfl, rfl, SqL.of upd_same, ht, _, _, rfl, rfl, cat_room (by decide +kernel) (by omega), qS _ _ (((s1.trans u1).trans u2).trans (Same.new hp3)) g1⟩
    refine ⟨_, rfl, rfl, _, rfl, ite2 (fun _ => ?_) (fun _ => ?_)⟩
    · refine ⟨_, rfl, _, rfl, sl, fun p1 hp1 => ?_⟩
      have u1 := Same.new (o := .lst (([y, "t", "a", y] : List Str).map V.str)) hp1
      have g1 : upd H p1 (.lst (([y, "t", "a", y] : List Str).map V.str)) p1 = some (.lst (([y, "t", "a", y] : List Str).map V.str)) := upd_same
      refine ⟨_, rfl, _, rfl, c, y, rfl, y8, fun H1 b s1 hb => ?_⟩
      have u1 : Same H (upd H p1 (.lst (([y, "t", "a", y] : List Str).map V.str))) := u1
      have s1 : Same (upd H p1 (.lst (([y, "t", "a", y] : List Str).map V.str))) H1 := s1
      obtain ⟨m0, m1⟩ := mod_rng (c / 7) (n := 4) (by decide)
      obtain ⟨k, hk⟩ := Int.eq_ofNat_of_zero_le m0
      have hk4 : k < 4 := by omega
      have hix : ixN (([y, "t", "a", y] : List Str).map V.str).length (c / 7 % 4) = some k := by
        rw [hk]
        unfold ixN
        have : (([y, "t", "a", y] : List Str).map V.str).length = 4 := rfl
        rw [this]
        simp
        omega
      refine ⟨_, rfl, _, rfl, _, _, rfl, rfl, ⟨by decide, by decide⟩, _, _, rfl, rfl, (show (0 : Int) < 4 by decide), p1, _, _, k, rfl, rfl, s1 _ _ g1, hix, ?_⟩
      have g2 : upd H1 p1 (.lst ((([y, "t", "a", y] : List Str).map V.str).set k (.str b))) p1 = some (.lst ((lkW y b k).map V.str)) := by
        rw [upd_same]
        unfold lkW
        rw [List.map_set]
      have s2 : Same H (upd H1 p1 (.lst ((([y, "t", "a", y] : List Str).map V.str).set k (.str b)))) := (u1.trans s1).on hp1
      generalize upd H1 p1 (.lst ((([y, "t", "a", y] : List Str).map V.str).set k (.str b))) = H2 at g2 s2 ⊢
      obtain ⟨w1, w2, w3⟩ := lkW_ok hy hb hk4
      have wl : ((lkW y b k).map (·.length)).sum ≤ 36 := by
        have key : ∀ ws : List Str, (∀ z ∈ ws, z.length ≤ 9) → (ws.map (·.length)).sum ≤ 9 * ws.length := fun ws => by
          induction ws with
          | nil => intro _; simp
          | cons z r ih =>
            intro h
            have h1 := h z (by simp)
            have h2 := ih fun u hu => h u (List.mem_cons_of_mem _ hu)
            simp only [List.map_cons, List.sum_cons, List.length_cons]
            omega
        have := key _ fun z hz => (w2 z hz).2
        omega
      refine ⟨rfl, _, rfl, _, p1, lkW y b k, rfl, rfl, SqL.of g2, by rw [w1, l1]; omega, sl, fun p3 hp3 => ?_⟩
      rw [join_jn (fun e => by rw [e] at w1; cases w1)]
      obtain ⟨n0, n1⟩ := mod_rng (c / 28) (n := 5) (by decide)
      obtain ⟨t, ht, hm⟩ := text_at (zs := lkT y b k) n0 n1
      obtain ⟨r1, r2⟩ := lkT_ok hy hb hk4 hm
      exact ⟨_, rfl, _, _, rfl, rfl, ⟨by decide, by decide⟩, _, _, rfl, rfl, (show (0 : Int) < 5 by decide), p3, _, _, _, rfl, rfl, SqL.of upd_same, ht, _, _, rfl, rfl, cat_room (by decide +kernel) (by omega), qS _ _ (s2.trans (Same.new hp3)) r1⟩
    refine ⟨_, rfl, rfl, _, rfl, ite2 (fun _ => ?_) (fun _ => ?_)⟩
    · refine ⟨_, rfl, _, _, rfl, rfl, cat_room (by omega) (by decide +kernel), _, rfl, c, rfl, fun H1 n s1 hn => ?_⟩
      have nl := (badNo_ok n hn).1
      refine ⟨_, _, rfl, rfl, cat_room (by rw [cat_len, l1]; omega) (by omega), _, rfl, _, rfl, c, y, rfl, y8, fun H2 b s2 hb => ?_⟩
      obtain ⟨b1, b2, b3⟩ := badNm_ok hy hb
      refine ⟨_, _, rfl, rfl, cat_room (by omega) (by decide +kernel), sl, fun p1 hp1 => ?_⟩
      have u1 := Same.new (o := .lst (([y ++ " " ++ n, b ++ " 1"] : List Str).map V.str)) hp1
      refine ⟨_, rfl, _, rfl, _, rfl, _, _, rfl, rfl, cat_room (by omega) (by decide +kernel), sl, fun p2 hp2 => ?_⟩
      have u2 := Same.new (o := .lst (([y, y ++ " 1 2", ""] : List Str).map V.str)) hp2
      refine ⟨p1, p2, _, _, rfl, rfl, u2 _ _ upd_same, upd_same, sl, fun p3 hp3 => ?_⟩
      obtain ⟨m0, m1⟩ := mod_rng (c / 12) (n := 5) (by decide)
      obtain ⟨t, ht, hm⟩ := text_at (zs := mdT y b n) m0 m1
      obtain ⟨g1, g2⟩ := mdT_ok hy hb hn hm
      exact ⟨_, rfl, _, rfl, _, _, rfl, rfl, ⟨by decide, by decide⟩, _, _, rfl, rfl, (show (0 : Int) < 5 by decide), p3, _, _, _, rfl, rfl, SqL.of upd_same, ht, _, _, rfl, rfl, cat_room (by decide +kernel) (by omega), qS _ _ ((((s1.trans s2).trans u1).trans u2).trans (Same.new hp3)) g1⟩
    · refine ⟨sl, fun p1 hp1 => ?_⟩
      have u1 := Same.new (o := .lst ((["", "cells", "above", "above 1", "group", "lookup", "mend", "Cells 1", "cell 1", " cells 1", "cells\t1"] : List Str).map V.str)) hp1
      refine ⟨_, rfl, _, rfl, _, _, rfl, rfl, cat_room (by omega) (by decide +kernel), sl, fun p2 hp2 => ⟨sl, fun p3 hp3 => ⟨sl, fun p4 hp4 => ?_⟩⟩⟩
      have u2 := Same.new (o := .lst [.str "cells", .str "1"]) hp2
      have u3 := Same.new (o := .tup [.str "mend", .str "a", .str "1"]) hp3
      have u4 := Same.new (o := .lst [.str (y ++ "q 1"), .non, .int 1, .bl true, .ref p2, .ref p3, .str "sum a"]) hp4
      refine ⟨p1, p4, _, _, rfl, rfl, ((u2.trans u3).trans u4) _ _ upd_same, upd_same, sl, fun p5 hp5 => ?_⟩
      have u5 := Same.new (o := .lst ((["", "cells", "above", "above 1", "group", "lookup", "mend", "Cells 1", "cell 1", " cells 1", "cells\t1"] : List Str).map V.str ++ [.str (y ++ "q 1"), .non, .int 1, .bl true, .ref p2, .ref p3, .str "sum a"])) hp5
      have sA := (((u1.trans u2).trans u3).trans u4).trans u5
      obtain ⟨m0, m1⟩ := mod_rng c (n := 18) (by decide)
      have key : ∀ HF : Hp, Same H HF → HF p2 = some (.lst [.str "cells", .str "1"]) → HF p3 = some (.tup [.str "mend", .str "a", .str "1"]) →
          ∃ v, atI ((["", "cells", "above", "above 1", "group", "lookup", "mend", "Cells 1", "cell 1", " cells 1", "cells\t1"] : List Str).map V.str ++ [.str (y ++ "q 1"), .non, .int 1, .bl true, .ref p2, .ref p3, .str "sum a"]) (c % 18) = some v ∧ Q v HF := fun HF sF h2 h3 => by
        have all : DtAll K HF ((["", "cells", "above", "above 1", "group", "lookup", "mend", "Cells 1", "cell 1", " cells 1", "cells\t1"] : List Str).map V.str ++ [.str (y ++ "q 1"), .non, .int 1, .bl true, .ref p2, .ref p3, .str "sum a"]) ((["", "cells", "above", "above 1", "group", "lookup", "mend", "Cells 1", "cell 1", " cells 1", "cells\t1"] : List Str).map PyData.str ++ [.str (y ++ "q 1"), .none, .int 1, .bool true, .list [.str "cells", .str "1"], .tuple [.str "mend", .str "a", .str "1"], .str "sum a"]) :=
          DtAll.append (dt_map HF _) (.cons (.str _) (.cons .non (.cons (.int _) (.cons (.bl _) (.cons (.lst (SqL.of h2) (.cons (.str _) (.cons (.str _) .nil))) (.cons (.tup (SqT.of h3) (.cons (.str _) (.cons (.str _) (.cons (.str _) .nil)))) (.cons (.str _) .nil)))))))
        obtain ⟨v, d, hat, hdm, hd⟩ := all.pick m0 m1
        refine ⟨v, hat, q HF v d sF hd ?_⟩
        have hm := List.mem_of_getElem? hdm
        have fin : ∀ z, z ∈ othT y → d = .str z → BadD d := fun z hz e => by rw [e]; exact (othT_ok hy hz).d
        simp only [List.map_cons, List.map_nil, List.cons_append, List.nil_append, List.mem_cons, List.not_mem_nil, or_false] at hm
        rcases hm with e | e | e | e | e | e | e | e | e | e | e | e | e | e | e | e | e | e
        · exact fin _ (by simp [othT]) e
        · exact fin _ (by simp [othT]) e
        · exact fin _ (by simp [othT]) e
        · exact fin _ (by simp [othT]) e
        · exact fin _ (by simp [othT]) e
        · exact fin _ (by simp [othT]) e
        · exact fin _ (by simp [othT]) e
        · exact fin _ (by simp [othT]) e
        · exact fin _ (by simp [othT]) e
        · exact fin _ (by simp [othT]) e
        · exact fin _ (by simp [othT]) e
        · exact fin _ (by simp [othT]) e
        · rw [e]; exact .inl fun z e => by cases e
        · rw [e]; exact .inl fun z e => by cases e
        · rw [e]; exact .inl fun z e => by cases e
        · rw [e]; exact .inl fun z e => by cases e
        · rw [e]; exact .inl fun z e => by cases e
        · exact fin _ (by simp [othT]) e
      obtain ⟨v, hat, qv⟩ := key _ sA ((u3.trans (u4.trans u5)) _ _ upd_same) ((u4.trans u5) _ _ upd_same)
      exact ⟨_, rfl, _, rfl, _, _, rfl, rfl, (show (0 : Int) < 18 by decide), p5, _, _, v, rfl, rfl, SqL.of upd_same, hat, qv⟩
end
end My

namespace My
open PySem L2
def KeepC (H H' : Hp) : Prop := ∀ b o, (∀ φ, o ≠ .ext φ) → H b = some o → H' b = some o
theorem KeepC.of {H H' : Hp} (s : Same H H') : KeepC H H' := fun b o _ e => s b o e
theorem KeepC.tab {H H' : Hp} {P : Addr} {q : Str} (t : TabIn q H P) (s : SameX P H H') : KeepC H H' := fun b o n e => by
  obtain ⟨S, h, _⟩ := t
  exact s b o (fun z => by rw [z, h] at e; exact n _ (Option.some.inj e).symm) e
theorem tabIn_same {q : Str} {H H' : Hp} {P : Addr} (s : Same H H') (h : TabIn q H P) : TabIn q H' P := by
  obtain ⟨S, e, r⟩ := h
  exact ⟨S, s _ _ e, fun c hc => let ⟨o, e1, e2⟩ := r c hc; ⟨o, s _ _ e1, e2⟩⟩
theorem sameX_lend {P : Addr} {H H' : Hp} {X : Cx} {σ : St} {g : Lend} (s : SameX P H H') (L : Lent X σ H' g) : SameX P H (lend g H') := fun b o n e => by
  have e' := s b o n e
  cases e2 : g b with
  | none => rw [lend_no e2]; exact e'
  | some ob => rw [L.free b ob e2] at e'; cases e'
theorem lent_same {H : Hp} {X : Cx} {σ : St} {g : Lend} (L : Lent X σ H g) : Same H (lend g H) := fun b o e => by
  cases e2 : g b with
  | none => rw [lend_no e2]; exact e
  | some ob => rw [L.free b ob e2] at e; cases e
theorem sx_of {P : Addr} {H H' : Hp} (s : Same H H') : SameX P H H' := fun b o _ e => s b o e
theorem sx_trans {P : Addr} {H H1 H2 : Hp} (a : SameX P H H1) (b : SameX P H1 H2) : SameX P H H2 := fun c o n e => b c o n (a c o n e)
end My

namespace My
open PySem L2
section
variable {P : Program} {w : World} {K : PySem.W.Frag} {mg : Str → Option Value} {base : Heap}
/-- a Cells: its names, its function -/
def CeF (C : Addr) (H : Hp) (p : Addr) (zs : List Str) (v : V) : Prop := ∃ dx fs r, H p = some (.ins C dx fs) ∧ fs.lookup ("names" : Str) = some (.ref r) ∧ Flds fs v ∧ H r = some (.lst (zs.map V.str)) ∧ ∀ z ∈ zs, Nl z
def spCellsI (K : PySem.W.Frag) (C : Addr) : Sp := fun vs H Q _ => ∃ (p dx a : Addr) (v : V) (zs : List Str), vs = [.ref p, .ref a, v] ∧ H p = some (.ins C dx []) ∧ SqL K H a (zs.map V.str) ∧ zs.length ≤ 6 ∧ (∀ z ∈ zs, Nl z) ∧ ∀ H', But p H H' → CeF C H' p zs v → Q .non H'
theorem sc_Cells_init : FnScope ["self", "names", "function"] ["self", "names", "function"] (defScope s_Cells_init) := ⟨rfl, rfl, rfl, by decide +kernel, rfl, by decide +kernel, by decide +kernel⟩
theorem k_Cells_init (T : Tops K mg) {R C : Addr} (Z : TRule K mg R) (Y : TCells K mg C) : KnownI P w K mg base CX0 4 C ["self", "names", "function"] (spCellsI K C) := by
  have G_init : KnownM P w K mg base CX0 1 R "__init__" ["self", "function"] (spRuleI K) := k_Rule_init T Z
  have G_checked_names : Known P w K mg base CX0 3 "checked_names" ["names"] (spCNames K) := k_checked_names T
  refine (Y.m_init.known sc_Cells_init (fun _ _ _ _ _ _ us hl => match us, hl with | [_, _, _], _ => rfl) (fun vs H Q E h => ?_) (fun f cdv A outer s H vs Q E hr h => ?_)).init Y.mks Y.kc
  · obtain ⟨p, dx, a, v, zs, rfl, _⟩ := h
    rfl
  · obtain ⟨p, dx, a, v, zs, rfl, hp, hq, h6, hz, q⟩ := h
    refine ⟨_, (pss_cons (ps_expr (pe_clsN (pe_gR Z.c) Z.v_init G_init (hr.mono (by decide)) pass0 (pa_cons (pv 0) (pa_cons (pv 2) pa_nil))))
      (pss_one (ps_fld (pv 0) (pe_callN G_checked_names (hr.mono (by decide)) pass0 (pa_cons (pv 1) pa_nil)) rfl))), ?_⟩
    have b1 : But p H (upd H p (.ins C dx (putF "function" v []))) := But.upd
    refine ⟨_, rfl, _, rfl, p, C, dx, [], v, rfl, hp, Y.cl, Y.n_function, by decide, ?_⟩
    refine ⟨_, rfl, a, zs, rfl, sqL_but b1 ⟨_, _, _, hp⟩ hq, h6, hz, fun H2 l s2 hl h2 => ?_⟩
    have nlp : l ≠ p := fun z => by rw [z, upd_same] at hl; cases hl
    refine ⟨_, rfl, p, C, dx, _, rfl, s2 _ _ upd_same, Y.cl, Y.n_names, (by show 1 < 1000; decide), ?_⟩
    refine q _ ((b1.trans (But.of s2)).trans But.upd) ⟨dx, _, l, upd_same, ?_, ⟨?_, ?_, ?_, ?_⟩, by rw [upd_ne nlp]; exact h2, hz⟩
    · rw [lookup_putF, if_pos rfl]
    · rw [lookup_putF, if_neg (by decide), lookup_putF, if_neg (by decide)]
      rfl
    · rw [lookup_putF, if_neg (by decide), lookup_putF, if_neg (by decide)]
      rfl
    · rw [lookup_putF, if_neg (by decide), lookup_putF, if_neg (by decide)]
      rfl
    · rw [lookup_putF, if_neg (by decide), lookup_putF, if_pos rfl]
def spLeans (K : PySem.W.Frag) (C : Addr) : Sp := fun vs H Q _ => ∃ (p : Addr) (t : Str) (zs : List Str) (v : V), vs = [.ref p, .str t] ∧ CeF C H p zs v ∧ zs.length ≤ 6 ∧ Nl t ∧
  ∀ H' l ys, Same H H' → H l = none → H' l = some (.lst ys) → Spots K H' ys (onceOf (zs.map fun z => (t, z))) → Q (.ref l) H'
theorem sc_Cells_leans : FnScope ["self", "table"] ["self", "table"] (defScope s_Cells_leans) := ⟨rfl, rfl, rfl, by decide +kernel, rfl, by decide +kernel, by decide +kernel⟩
theorem k_Cells_leans (T : Tops K mg) {C : Addr} (Y : TCells K mg C) : KnownM P w K mg base CX0 3 C "leans" ["self", "table"] (spLeans K C) := by
  have G_each_once : Known P w K mg base CX0 2 "each_once" ["spots"] (spOnce K) := k_each_once T
  refine Y.m_leans.known sc_Cells_leans (fun _ _ _ _ _ _ us hl => match us, hl with | [_, _], _ => rfl) (fun vs H Q E h => ?_) (fun f cdv A outer s H vs Q E hr h => ?_)
  · obtain ⟨p, t, zs, v, rfl, _⟩ := h
    rfl
  · obtain ⟨p, t, zs, v, rfl, ⟨dx, fs, r, h1, h2, h3, h4, h5⟩, h6, ht, q⟩ := h
    have hcl : ∀ x, (cxOf CX0 P w K mg base ["self", "table"] "Cells.leans" (defScope s_Cells_leans) f cdv A outer s H E).nox.env.scope.names.lookup x = some .cell → ∃ c, (cxOf CX0 P w K mg base ["self", "table"] "Cells.leans" (defScope s_Cells_leans) f cdv A outer s H E).nox.env.cells.lookup x = some c := fun x hx => Option.isSome_iff_exists.mp (PySem.W.cellsFrom_some _ _ _ (.inl hx))
    refine ⟨_, (pss_one (ps_ret (pe_callN G_each_once (hr.mono (by decide)) pass0 (pa_cons (pe_comp (caps_of (sc := defScope s_Cells_leans) (N := ["self", "table"]) (cp := [(1, "table")]) hcl) rfl rfl (by decide) (pi_list (pe_fld (pv 0) rfl)) (fun _ _ _ _ _ => pts_nil) (fun _ _ _ _ _ => (pe_tup (pa_cons (pv 1) (pa_cons (pv 0) pa_nil))))) pa_nil)))), ?_⟩
    refine ⟨_, rfl, p, C, dx, fs, _, rfl, h1, Y.cl, Y.n_names, h2, r, rfl, ⟨_, SqL.of h4⟩, fun D hD => ?_⟩
    refine comp_list (K := K) (a := r) (xs := zs.map V.str) (fun i ys H2 => Same H H2 ∧ DtAll K H2 ys (((zs.take i).map fun z => (t, z)).map spD)) ⟨Same.new hD, .nil⟩ (fun i ys H2 _ ⟨s2, _⟩ => SqL.of (s2 _ _ h4)) ?_ ?_
    · rintro i x ys H2 hx h2D ⟨s2, hd⟩
      rw [List.getElem?_map] at hx
      cases e : zs[i]? with
      | none => rw [e] at hx; cases hx
      | some z =>
        rw [e] at hx
        cases hx
        have hi : i < zs.length := (List.getElem?_eq_some_iff.mp e).1
        have hyl : ys.length ≤ 6 := by
          have := hd.length
          rw [List.length_map, List.length_map, List.length_take] at this
          omega
        refine ⟨_, rfl, _, rfl, sl, fun tp htp => ?_⟩
        have s3 : Same H2 (upd H2 tp (.tup [.str t, .str z])) := Same.new htp
        have h3D := s3 _ _ h2D
        refine ⟨h3D, small1000 (by omega), (s2.trans s3).on hD, ?_⟩
        have et : ((zs.take (i + 1)).map fun z => (t, z)).map spD = ((zs.take i).map fun z => (t, z)).map spD ++ [spD (t, z)] := by
          rw [List.take_add_one, e, List.map_append, List.map_append]
          rfl
        rw [et]
        refine DtAll.snoc (spots_upd h3D (DtAll.same s3 hd)) (spot_mk (p := (t, z)) (sqT_upd h3D (.inl (.inl upd_same))))
    · rintro ys H2 h2D ⟨s2, hd⟩
      rw [List.length_map, List.take_length] at hd
      refine ⟨D, ys, _, rfl, SqL.of h2D, ⟨hd, fun p' hp' => ?_⟩, by rw [List.length_map]; omega, fun H3 l ys' s3 hl h3 hs3 => ?_⟩
      · obtain ⟨z, hz, rfl⟩ := List.mem_map.mp hp'
        exact ⟨ht, h5 z hz⟩
      · have hl' : H l = none := by
          cases e : H l with
          | none => rfl
          | some u => rw [s2 _ _ e] at hl; cases hl
        exact q H3 l ys' (s2.trans s3) hl' h3 hs3
end
end My

namespace My
open PySem L2
section
variable {P : Program} {w : World} {K : PySem.W.Frag} {mg : Str → Option Value} {base : Heap}
/-- an Above: its first, its names, its function -/
def AbF (C : Addr) (H : Hp) (p : Addr) (i : Int) (zs : List Str) (v : V) : Prop := ∃ dx fs r, H p = some (.ins C dx fs) ∧ fs.lookup ("names" : Str) = some (.ref r) ∧ fs.lookup ("first" : Str) = some (.int i) ∧ Flds fs v ∧ H r = some (.lst (zs.map V.str)) ∧ ∀ z ∈ zs, Nl z
def spAboveI (K : PySem.W.Frag) (C : Addr) : Sp := fun vs H Q _ => ∃ (p dx a : Addr) (i : Int) (v : V) (zs : List Str), vs = [.ref p, .int i, .ref a, v] ∧ numD (.int i) = true ∧ H p = some (.ins C dx []) ∧ SqL K H a (zs.map V.str) ∧ zs.length ≤ 6 ∧ (∀ z ∈ zs, Nl z) ∧ ∀ H', But p H H' → AbF C H' p i zs v → Q .non H'
theorem sc_Above_init : FnScope ["self", "first", "names", "function"] ["self", "first", "names", "function"] (defScope s_Above_init) := ⟨rfl, rfl, rfl, by decide +kernel, rfl, by decide +kernel, by decide +kernel⟩
theorem k_Above_init (T : Tops K mg) {R C : Addr} (Z : TRule K mg R) (Y : TAbove K mg C) : KnownI P w K mg base CX0 4 C ["self", "first", "names", "function"] (spAboveI K C) := by
  have G_init : KnownM P w K mg base CX0 1 R "__init__" ["self", "function"] (spRuleI K) := k_Rule_init T Z
  have G_checked_names : Known P w K mg base CX0 3 "checked_names" ["names"] (spCNames K) := k_checked_names T
  have G_is_number : Known P w K mg base CX0 2 "is_number" ["thing"] (spNumber K) := k_is_number T
  refine (Y.m_init.known sc_Above_init (fun _ _ _ _ _ _ us hl => match us, hl with | [_, _, _, _], _ => rfl) (fun vs H Q E h => ?_) (fun f cdv A outer s H vs Q E hr h => ?_)).init Y.mks Y.kc
  · obtain ⟨p, dx, a, i, v, zs, rfl, _⟩ := h
    rfl
  · obtain ⟨p, dx, a, i, v, zs, rfl, hi, hp, hq, h6, hz, q⟩ := h
    refine ⟨_, (pss_cons (ps_expr (pe_clsN (pe_gR Z.c) Z.v_init G_init (hr.mono (by decide)) pass0 (pa_cons (pv 0) (pa_cons (pv 3) pa_nil))))
      (pss_cons (ps_fld (pv 0) (pe_callN G_checked_names (hr.mono (by decide)) pass0 (pa_cons (pv 2) pa_nil)) rfl)
      (pss_cons (ps_if (pt_not (pt_val (pe_callN G_is_number (hr.mono (by decide)) pass0 (pa_cons (pv 1) pa_nil)) (fun _ => rfl))) (pss_one ps_dead) pss_nil)
      (pss_one (ps_fld (pv 0) (pv 1) rfl))))), ?_⟩
    have b1 : But p H (upd H p (.ins C dx (putF "function" v []))) := But.upd
    refine ⟨_, rfl, _, rfl, p, C, dx, [], v, rfl, hp, Y.cl, Y.n_function, by decide, ?_⟩
    refine ⟨_, rfl, a, zs, rfl, sqL_but b1 ⟨_, _, _, hp⟩ hq, h6, hz, fun H2 l s2 hl h2 => ?_⟩
    have nlp : l ≠ p := fun z => by rw [z, upd_same] at hl; cases hl
    refine ⟨_, rfl, p, C, dx, _, rfl, s2 _ _ upd_same, Y.cl, Y.n_names, (by show 1 < 1000; decide), ?_⟩
    refine ⟨_, rfl, _, _, rfl, .int i, _, rfl, ?_⟩
    rw [hi]
    refine iteF ?_
    refine ⟨_, rfl, _, rfl, p, C, dx, _, rfl, upd_same, Y.cl, Y.n_first, (by show 2 < 1000; decide), ?_⟩
    refine q _ (((b1.trans (But.of s2)).trans But.upd).trans But.upd) ⟨dx, _, l, upd_same, ?_, ?_, ⟨?_, ?_, ?_, ?_⟩, by rw [upd_ne nlp, upd_ne nlp]; exact h2, hz⟩
    · rw [lookup_putF, if_neg (by decide), lookup_putF, if_pos rfl]
    · rw [lookup_putF, if_pos rfl]
    · rw [lookup_putF, if_neg (by decide), lookup_putF, if_neg (by decide), lookup_putF, if_neg (by decide)]
      rfl
    · rw [lookup_putF, if_neg (by decide), lookup_putF, if_neg (by decide), lookup_putF, if_neg (by decide)]
      rfl
    · rw [lookup_putF, if_neg (by decide), lookup_putF, if_neg (by decide), lookup_putF, if_neg (by decide)]
      rfl
    · rw [lookup_putF, if_neg (by decide), lookup_putF, if_neg (by decide), lookup_putF, if_pos rfl]
def spLeansA (K : PySem.W.Frag) (C : Addr) : Sp := fun vs H Q _ => ∃ (p : Addr) (t : Str) (i : Int) (zs : List Str) (v : V), vs = [.ref p, .str t] ∧ AbF C H p i zs v ∧ zs.length ≤ 6 ∧ Nl t ∧
  ∀ H' l ys, Same H H' → H l = none → H' l = some (.lst ys) → Spots K H' ys (onceOf (zs.map fun z => (t, z))) → Q (.ref l) H'
theorem sc_Above_leans : FnScope ["self", "table"] ["self", "table"] (defScope s_Above_leans) := ⟨rfl, rfl, rfl, by decide +kernel, rfl, by decide +kernel, by decide +kernel⟩
theorem k_Above_leans (T : Tops K mg) {C : Addr} (Y : TAbove K mg C) : KnownM P w K mg base CX0 3 C "leans" ["self", "table"] (spLeansA K C) := by
  have G_each_once : Known P w K mg base CX0 2 "each_once" ["spots"] (spOnce K) := k_each_once T
  refine Y.m_leans.known sc_Above_leans (fun _ _ _ _ _ _ us hl => match us, hl with | [_, _], _ => rfl) (fun vs H Q E h => ?_) (fun f cdv A outer s H vs Q E hr h => ?_)
  · obtain ⟨p, t, i0, zs, v, rfl, _⟩ := h
    rfl
  · obtain ⟨p, t, i0, zs, v, rfl, ⟨dx, fs, r, h1, h2, h3a, h3, h4, h5⟩, h6, ht, q⟩ := h
    have hcl : ∀ x, (cxOf CX0 P w K mg base ["self", "table"] "Above.leans" (defScope s_Above_leans) f cdv A outer s H E).nox.env.scope.names.lookup x = some .cell → ∃ c, (cxOf CX0 P w K mg base ["self", "table"] "Above.leans" (defScope s_Above_leans) f cdv A outer s H E).nox.env.cells.lookup x = some c := fun x hx => Option.isSome_iff_exists.mp (PySem.W.cellsFrom_some _ _ _ (.inl hx))
    refine ⟨_, (pss_one (ps_ret (pe_callN G_each_once (hr.mono (by decide)) pass0 (pa_cons (pe_comp (caps_of (sc := defScope s_Above_leans) (N := ["self", "table"]) (cp := [(1, "table")]) hcl) rfl rfl (by decide) (pi_list (pe_fld (pv 0) rfl)) (fun _ _ _ _ _ => pts_nil) (fun _ _ _ _ _ => (pe_tup (pa_cons (pv 1) (pa_cons (pv 0) pa_nil))))) pa_nil)))), ?_⟩
    refine ⟨_, rfl, p, C, dx, fs, _, rfl, h1, Y.cl, Y.n_names, h2, r, rfl, ⟨_, SqL.of h4⟩, fun D hD => ?_⟩
    refine comp_spots (K := K) (t := t) hD h4 (by omega) (fun z H2 q2 s2 k => ⟨_, rfl, _, rfl, sl, fun tp htp => k tp htp⟩) fun ys H2 h2D s2 hd => ?_
    refine ⟨D, ys, _, rfl, SqL.of h2D, ⟨hd, fun p' hp' => ?_⟩, by rw [List.length_map]; omega, fun H3 l ys' s3 hl h3 hs3 => ?_⟩
    · obtain ⟨z, hz, rfl⟩ := List.mem_map.mp hp'
      exact ⟨ht, h5 z hz⟩
    · exact q H3 l ys' (s2.trans s3) (none_back s2 hl) h3 hs3
end
end My

namespace My
open PySem L2
section
variable {P : Program} {w : World} {K : PySem.W.Frag} {mg : Str → Option Value} {base : Heap}
def KyAt (C : Addr) (H : Hp) (p : Addr) (k n : Str) (v : V) : Prop := ∃ dx fs, H p = some (.ins C dx fs) ∧ fs.lookup ("key" : Str) = some (.str k) ∧ fs.lookup ("name" : Str) = some (.str n) ∧ (fs.lookup ("leans" : Str) = none ∧ fs.lookup ("gather" : Str) = none ∧ fs.lookup ("reckon" : Str) = none ∧ fs.lookup ("function" : Str) = some v) ∧ Nl k ∧ Nl n
def spGroupI (K : PySem.W.Frag) (C : Addr) : Sp := fun vs H Q _ => ∃ (p dx : Addr) (k n : Str) (v : V), vs = [.ref p, .str k, .str n, v] ∧ H p = some (.ins C dx []) ∧ Nl k ∧ Nl n ∧ ∀ H', But p H H' → KyAt C H' p k n v → Q .non H'
theorem sc_Group_init : FnScope ["self", "key", "name", "function"] ["self", "key", "name", "function"] (defScope s_Group_init) := ⟨rfl, rfl, rfl, by decide +kernel, rfl, by decide +kernel, by decide +kernel⟩
theorem k_Group_init (T : Tops K mg) {R C : Addr} (Z : TRule K mg R) (Y : TGroup K mg C) : KnownI P w K mg base CX0 3 C ["self", "key", "name", "function"] (spGroupI K C) := by
  have G_init : KnownM P w K mg base CX0 1 R "__init__" ["self", "function"] (spRuleI K) := k_Rule_init T Z
  have G_check_name : Known P w K mg base CX0 2 "check_name" ["name"] spCName := k_check_name T
  refine (Y.m_init.known sc_Group_init (fun _ _ _ _ _ _ us hl => match us, hl with | [_, _, _, _], _ => rfl) (fun vs H Q E h => ?_) (fun f cdv A outer s H vs Q E hr h => ?_)).init Y.mks Y.kc
  · obtain ⟨p, dx, k, n, v, rfl, _⟩ := h
    rfl
  · obtain ⟨p, dx, k, n, v, rfl, hp, hk, hn, q⟩ := h
    refine ⟨_, (pss_cons (ps_expr (pe_clsN (pe_gR Z.c) Z.v_init G_init (hr.mono (by decide)) pass0 (pa_cons (pv 0) (pa_cons (pv 3) pa_nil))))
      (pss_cons (ps_expr (pe_callN G_check_name (hr.mono (by decide)) pass0 (pa_cons (pv 1) pa_nil)))
      (pss_cons (ps_expr (pe_callN G_check_name (hr.mono (by decide)) pass0 (pa_cons (pv 2) pa_nil)))
      (pss_cons (ps_fld (pv 0) (pv 1) rfl)
      (pss_one (ps_fld (pv 0) (pv 2) rfl)))))), ?_⟩
    have b1 : But p H (upd H p (.ins C dx (putF "function" v []))) := But.upd
    refine ⟨_, rfl, _, rfl, p, C, dx, [], v, rfl, hp, Y.cl, Y.n_function, by decide, ?_⟩
    refine ⟨_, rfl, k, rfl, hk, fun H2 s2 => ⟨_, rfl, n, rfl, hn, fun H3 s3 => ?_⟩⟩
    have s23 := s2.trans s3
    refine ⟨_, rfl, _, rfl, p, C, dx, _, rfl, s23 _ _ upd_same, Y.cl, Y.n_key, (by show 1 < 1000; decide), ?_⟩
    refine ⟨_, rfl, _, rfl, p, C, dx, _, rfl, upd_same, Y.cl, Y.n_name, (by show 2 < 1000; decide), ?_⟩
    refine q _ (((b1.trans (But.of s23)).trans But.upd).trans But.upd) ⟨dx, _, upd_same, ?_, ?_, ?_, hk, hn⟩
    · rw [lookup_putF, if_neg (by decide), lookup_putF, if_pos rfl]
    · rw [lookup_putF, if_pos rfl]
    · refine ⟨?_, ?_, ?_, ?_⟩
      · rw [lookup_putF, if_neg (by decide), lookup_putF, if_neg (by decide), lookup_putF, if_neg (by decide)]
        rfl
      · rw [lookup_putF, if_neg (by decide), lookup_putF, if_neg (by decide), lookup_putF, if_neg (by decide)]
        rfl
      · rw [lookup_putF, if_neg (by decide), lookup_putF, if_neg (by decide), lookup_putF, if_neg (by decide)]
        rfl
      · rw [lookup_putF, if_neg (by decide), lookup_putF, if_neg (by decide), lookup_putF, if_pos rfl]
def spGLeans (K : PySem.W.Frag) (C : Addr) : Sp := fun vs H Q _ => ∃ (p : Addr) (t k n : Str) (v : V), vs = [.ref p, .str t] ∧ KyAt C H p k n v ∧ Nl t ∧
  ∀ H' l ys, Same H H' → H l = none → H' l = some (.lst ys) → Spots K H' ys (onceOf [(t, k), (t, n)]) → Q (.ref l) H'
theorem sc_Group_leans : FnScope ["self", "table"] ["self", "table"] (defScope s_Group_leans) := ⟨rfl, rfl, rfl, by decide +kernel, rfl, by decide +kernel, by decide +kernel⟩
theorem k_Group_leans (T : Tops K mg) {C : Addr} (Y : TGroup K mg C) : KnownM P w K mg base CX0 3 C "leans" ["self", "table"] (spGLeans K C) := by
  have G_each_once : Known P w K mg base CX0 2 "each_once" ["spots"] (spOnce K) := k_each_once T
  refine Y.m_leans.known sc_Group_leans (fun _ _ _ _ _ _ us hl => match us, hl with | [_, _], _ => rfl) (fun vs H Q E h => ?_) (fun f cdv A outer s H vs Q E hr h => ?_)
  · obtain ⟨p, t, k, n, v, rfl, _⟩ := h
    rfl
  · obtain ⟨p, t, k, n, v, rfl, ⟨dx, fs, h1, h2, h3, h4, hk, hn⟩, ht, q⟩ := h
    refine ⟨_, (pss_one (ps_ret (pe_callN G_each_once (hr.mono (by decide)) pass0 (pa_cons (pe_lst (pa_cons (pe_tup (pa_cons (pv 1) (pa_cons (pe_fld (pv 0) rfl) pa_nil))) (pa_cons (pe_tup (pa_cons (pv 1) (pa_cons (pe_fld (pv 0) rfl) pa_nil))) pa_nil))) pa_nil)))), ?_⟩
    refine ⟨_, rfl, _, rfl, p, C, dx, fs, _, rfl, h1, Y.cl, Y.n_key, h2, sl, fun t1 ht1 => ?_⟩
    have s1 : Same H (upd H t1 (.tup [.str t, .str k])) := Same.new ht1
    refine ⟨_, rfl, _, rfl, p, C, dx, fs, _, rfl, s1 _ _ h1, Y.cl, Y.n_name, h3, sl, fun t2 ht2 => ?_⟩
    have s2 := Same.new (o := .tup [.str t, .str n]) ht2
    refine ⟨sl, fun l hl => ?_⟩
    have s3 := Same.new (o := .lst [.ref t1, .ref t2]) hl
    refine ⟨l, _, [(t, k), (t, n)], rfl, SqL.of upd_same, ⟨.cons (spot_mk (p := (t, k)) (.inl (.inl (s3 _ _ (s2 _ _ upd_same))))) (.cons (spot_mk (p := (t, n)) (.inl (.inl (s3 _ _ upd_same)))) .nil), fun x hx => ?_⟩, (show 2 ≤ 100 by decide), fun H4 l' ys s4 hl' h4' hs => ?_⟩
    · simp only [List.mem_cons, List.not_mem_nil, or_false] at hx
      rcases hx with rfl | rfl
      · exact ⟨ht, hk⟩
      · exact ⟨ht, hn⟩
    · have s5 := (s1.trans s2).trans s3
      exact q H4 l' ys (s5.trans s4) (none_back s5 hl') h4' hs
end
end My

namespace My
open PySem L2
section
variable {P : Program} {w : World} {K : PySem.W.Frag} {mg : Str → Option Value} {base : Heap}
def MdF (C : Addr) (H : Hp) (p : Addr) (n : Str) (v : V) : Prop := ∃ dx fs, H p = some (.ins C dx fs) ∧ fs.lookup ("name" : Str) = some (.str n) ∧ Flds fs v ∧ Nl n
theorem MdF.keepC {C : Addr} {H H' : Hp} {p : Addr} {n : Str} {v : V} (s : KeepC H H') (h : MdF C H p n v) : MdF C H' p n v := by
  obtain ⟨dx, fs, h1, h2⟩ := h
  exact ⟨dx, fs, s _ _ (fun φ z => by cases z) h1, h2⟩
def spMendI (K : PySem.W.Frag) (C : Addr) : Sp := fun vs H Q _ => ∃ (p dx : Addr) (n : Str) (v : V), vs = [.ref p, .str n, v] ∧ H p = some (.ins C dx []) ∧ Nl n ∧ ∀ H', But p H H' → MdF C H' p n v → Q .non H'
theorem sc_Mend_init : FnScope ["self", "name", "function"] ["self", "name", "function"] (defScope s_Mend_init) := ⟨rfl, rfl, rfl, by decide +kernel, rfl, by decide +kernel, by decide +kernel⟩
theorem k_Mend_init (T : Tops K mg) {R C : Addr} (Z : TRule K mg R) (Y : TMend K mg C) : KnownI P w K mg base CX0 3 C ["self", "name", "function"] (spMendI K C) := by
  have G_init : KnownM P w K mg base CX0 1 R "__init__" ["self", "function"] (spRuleI K) := k_Rule_init T Z
  have G_check_name : Known P w K mg base CX0 2 "check_name" ["name"] spCName := k_check_name T
  refine (Y.m_init.known sc_Mend_init (fun _ _ _ _ _ _ us hl => match us, hl with | [_, _, _], _ => rfl) (fun vs H Q E h => ?_) (fun f cdv A outer s H vs Q E hr h => ?_)).init Y.mks Y.kc
  · obtain ⟨p, dx, n, v, rfl, _⟩ := h
    rfl
  · obtain ⟨p, dx, n, v, rfl, hp, hn, q⟩ := h
    refine ⟨_, (pss_cons (ps_expr (pe_clsN (pe_gR Z.c) Z.v_init G_init (hr.mono (by decide)) pass0 (pa_cons (pv 0) (pa_cons (pv 2) pa_nil))))
      (pss_cons (ps_expr (pe_callN G_check_name (hr.mono (by decide)) pass0 (pa_cons (pv 1) pa_nil)))
      (pss_one (ps_fld (pv 0) (pv 1) rfl)))), ?_⟩
    have b1 : But p H (upd H p (.ins C dx (putF "function" v []))) := But.upd
    refine ⟨_, rfl, _, rfl, p, C, dx, [], v, rfl, hp, Y.cl, Y.n_function, by decide, ?_⟩
    refine ⟨_, rfl, n, rfl, hn, fun H2 s2 => ?_⟩
    refine ⟨_, rfl, _, rfl, p, C, dx, _, rfl, s2 _ _ upd_same, Y.cl, Y.n_name, (by show 1 < 1000; decide), ?_⟩
    refine q _ ((b1.trans (But.of s2)).trans But.upd) ⟨dx, _, upd_same, ?_, ⟨?_, ?_, ?_, ?_⟩, hn⟩
    · rw [lookup_putF, if_pos rfl]
    · rw [lookup_putF, if_neg (by decide), lookup_putF, if_neg (by decide)]
      rfl
    · rw [lookup_putF, if_neg (by decide), lookup_putF, if_neg (by decide)]
      rfl
    · rw [lookup_putF, if_neg (by decide), lookup_putF, if_neg (by decide)]
      rfl
    · rw [lookup_putF, if_neg (by decide), lookup_putF, if_pos rfl]
def spMLeans (K : PySem.W.Frag) (C : Addr) : Sp := fun vs H Q _ => ∃ (p dx : Addr) (fs : List (Str × V)) (t n : Str), vs = [.ref p, .str t] ∧ H p = some (.ins C dx fs) ∧ fs.lookup ("name" : Str) = some (.str n) ∧ Nl n ∧ Nl t ∧
  ∀ H' l ys, Same H H' → H l = none → H' l = some (.lst ys) → Spots K H' ys [(t, n)] → Q (.ref l) H'
theorem sc_Mend_leans : FnScope ["self", "table"] ["self", "table"] (defScope s_Mend_leans) := ⟨rfl, rfl, rfl, by decide +kernel, rfl, by decide +kernel, by decide +kernel⟩
theorem k_Mend_leans (T : Tops K mg) {C : Addr} (Y : TMend K mg C) : KnownM P w K mg base CX0 3 C "leans" ["self", "table"] (spMLeans K C) := by
  refine Y.m_leans.known sc_Mend_leans (fun _ _ _ _ _ _ us hl => match us, hl with | [_, _], _ => rfl) (fun vs H Q E h => ?_) (fun f cdv A outer s H vs Q E hr h => ?_)
  · obtain ⟨p, dx, fs, t, n, rfl, _⟩ := h
    rfl
  · obtain ⟨p, dx, fs, t, n, rfl, h1, h2, hn, ht, q⟩ := h
    refine ⟨_, (pss_one (ps_ret (pe_lst (pa_cons (pe_tup (pa_cons (pv 1) (pa_cons (pe_fld (pv 0) rfl) pa_nil))) pa_nil)))), ?_⟩
    refine ⟨_, rfl, _, rfl, p, C, dx, fs, _, rfl, h1, Y.cl, Y.n_name, h2, sl, fun t1 ht1 => ?_⟩
    have s1 : Same H (upd H t1 (.tup [.str t, .str n])) := Same.new ht1
    refine ⟨sl, fun l hl => ?_⟩
    have s3 := Same.new (o := .lst [.ref t1]) hl
    refine q _ l _ (s1.trans s3) (none_back s1 hl) upd_same ⟨.cons (spot_mk (p := (t, n)) (.inl (.inl (s3 _ _ upd_same)))) .nil, fun x hx => ?_⟩
    rw [List.mem_singleton.mp hx]
    exact ⟨ht, hn⟩
end
end My

namespace My
open PySem L2
section
variable {P : Program} {w : World} {K : PySem.W.Frag} {mg : Str → Option Value} {base : Heap}
/-- a rule read: its kind is called with its words -/
def spRdRule (kd : Str) (sp : Sp) : Sp := fun vs H Q _ => ∃ (z : Str) (ws : List Str), vs = [.str z] ∧ z.length ≤ 9000 ∧ Txt.split z " " = kd :: ws ∧ ∀ H1 c, Same H H1 → H c = none → H1 c = some (.lst (ws.map V.str)) → sp [.ref c] H1 Q E0
theorem k_read_rule (T : Tops K mg) {pK g : Addr} (hK : mg "KINDS" = some (.ref pK)) (DK : KDict w.params K pK) {kd x : Str} {n : Nat} {sp : Sp} (hn : 1 ≤ n) (G : Known P w K mg base CX0 n x ["words"] sp) (hg : mg x = some (.ref g)) (hkg : PySem.W.nsIn K pK kd = some (some (.ref g))) :
    Known P w K mg base CX0 (n + 1) "read_rule" ["text"] (spRdRule kd sp) := by
  have G_refuse_unless : Known P w K mg base CX0 1 "refuse_unless" ["holds"] spRefuse := k_refuse_unless T
  refine T.d_read_rule.known sc_read_rule (fun _ _ _ _ _ _ us hl => match us, hl with | [_], _ => rfl) (fun vs H Q E h => ?_) (fun f cdv A outer s H vs Q E hr h => ?_)
  · obtain ⟨z, ws, rfl, _⟩ := h
    rfl
  · obtain ⟨z, ws, rfl, hz, hsp, q⟩ := h
    refine ⟨_, (pss_cons (ps_expr (pe_callN G_refuse_unless (hr.mono hn) pass0 (pa_cons (pe_callB call_isT rfl T.isinstance b_isinstance (pa_cons (pv 0) (pa_cons (pe_ty T.str b_str) pa_nil))) pa_nil)))
      (pss_cons (ps_set (i := 1) sc_read_rule.nd rfl (Or.inl rfl) (pe_bm PySem.F.plainAttrs_str PySem.F.slot_str_split PySem.F.type_str_split mt_splitB (pv 0) (pa_cons pe_str pa_nil)))
      (pss_cons (ps_expr (pe_callN G_refuse_unless (hr.mono hn) pass0 (pa_cons (pe_cmp (pc_kin DK (pe_ix ix_list (pv 1) pe_int (fun _ _ => rfl)) (pe_gR hK)) (by with_unfolding_all rfl)) pa_nil)))
      (pss_one (ps_ret (pe_callS G hr pass0 (pe_kget DK (pe_gR hK) (pe_ix ix_list (pv 1) pe_int (fun _ _ => rfl)) (fun _ _ => rfl)) (pa_cons (pe_slice sl_list (pv 1) (po_some pe_int) po_none) pa_nil))))))), ?_⟩
    refine ⟨_, rfl, _, "str", .str z, _, rfl, .str z, kit_str K _, rfl, ?_⟩
    refine ⟨_, rfl, rfl, z, " ", rfl, rfl, by decide, hz, fun l hl => ?_⟩
    rw [hsp]
    have s1 := Same.new (o := .lst ((kd :: ws).map V.str)) hl
    have h1 : upd H l (.lst ((kd :: ws).map V.str)) l = some (.lst ((kd :: ws).map V.str)) := upd_same
    generalize upd H l (.lst ((kd :: ws).map V.str)) = H1 at s1 h1 ⊢
    have e0 : atI ((kd :: ws).map V.str) 0 = some (.str kd) := at_cons _ _
    refine ⟨_, rfl, l, _, _, _, rfl, rfl, SqL.of h1, e0, pK, kd, _, rfl, rfl, hkg, rfl, ?_⟩
    refine ⟨_, rfl, l, _, _, _, rfl, rfl, SqL.of h1, e0, pK, kd, g, rfl, rfl, hkg, g, rfl, hg, ?_⟩
    refine ⟨_, rfl, _, rfl, l, _, rfl, SqL.of h1, fun c hc => ?_⟩
    have s2 := Same.new (o := .lst (cutV ((kd :: ws).map V.str) (some 1) none)) hc
    exact q _ c (s1.trans s2) (none_back s1 hc) (by rw [cut1]; exact upd_same)
end
end My

namespace My
open PySem L2
theorem names_ok {zs : List Str} (hP : Pre zs 1 0) : (∀ z ∈ onceS (zs.filter nameS), Nl z) ∧ ∀ z ∈ zs, Nl z → z ∈ onceS (zs.filter nameS) := by
  refine ⟨fun z hz => ?_, fun z hz nz => ((onceS_all _).2.1 z).mpr (List.mem_filter.mpr ⟨hz, nz.is⟩)⟩
  have h1 := List.mem_filter.mp (((onceS_all _).2.1 z).mp hz)
  rcases hP.all z h1.1 with h | h
  · have := (sgn_no z h).1
    rw [h1.2] at this
    cases this
  · rcases h with h | ⟨i, h⟩
    · exact h
    · have := h.nn
      rw [h1.2] at this
      cases this
def colsOf (zs : List Str) : List Str := (onceS (zs.filter nameS)).filter fun z => decide (z ∉ (["up"] : List Str))
theorem once_filter (p : Str → Bool) (zs : List Str) : ∀ i, i ≤ zs.length → (onceS (zs.take i)).filter p = onceS ((zs.take i).filter p)
  | 0, _ => rfl
  | i + 1, h => by
    have ih := once_filter p zs i (by omega)
    have hz : zs[i]? = some zs[i] := List.getElem?_eq_getElem (by omega)
    have e : zs.take (i + 1) = zs.take i ++ [zs[i]] := by rw [List.take_add_one, hz]; rfl
    rw [e, onceS_snoc, List.filter_append]
    have m2 := fun z => (onceS_all ((zs.take i).filter p)).2.1 z
    have m1 := fun z => (onceS_all (zs.take i)).2.1 z
    cases hp : p zs[i] with
    | false =>
      rw [show [zs[i]].filter p = [] by simp [hp], List.append_nil, ← ih]
      split
      · rfl
      · rw [List.filter_append, show [zs[i]].filter p = [] by simp [hp], List.append_nil]
    | true =>
      rw [show [zs[i]].filter p = [zs[i]] by simp [hp], onceS_snoc, ← ih]
      by_cases c : zs[i] ∈ onceS (zs.take i)
      · rw [if_pos c, if_pos (List.mem_filter.mpr ⟨c, hp⟩)]
      · rw [if_neg c, if_neg (fun q => c (List.mem_filter.mp q).1), List.filter_append, show [zs[i]].filter p = [zs[i]] by simp [hp]]
theorem cols_eq (zs : List Str) : colsOf zs = onceS (zs.filter fun z => nameS z && decide (z ≠ "up")) := by
  unfold colsOf
  have := once_filter (fun z => decide (z ∉ (["up"] : List Str))) (zs.filter nameS) (zs.filter nameS).length (Nat.le_refl _)
  rw [List.take_of_length_le (Nat.le_refl _)] at this
  rw [this, List.filter_filter]
  congr 1
  apply List.filter_congr
  intro z _
  simp [Bool.and_comm]
theorem cols_ok {zs : List Str} (hP : Pre zs 1 0) : (∀ z ∈ colsOf zs, Nl z) ∧ (("up" : Str) :: colsOf zs).Nodup ∧ (∀ z ∈ zs, Nl z → z ∈ ("up" : Str) :: colsOf zs) ∧ (colsOf zs).length ≤ zs.length := by
  obtain ⟨h1, h2⟩ := names_ok hP
  refine ⟨fun z hz => h1 z (List.mem_filter.mp hz).1, List.nodup_cons.mpr ⟨fun m => ?_, (onceS_all _).1.filter _⟩, fun z hz nz => ?_, ?_⟩
  · have := (List.mem_filter.mp m).2
    simp at this
  · by_cases e : z = "up"
    · rw [e]; exact List.mem_cons_self
    · exact List.mem_cons_of_mem _ (List.mem_filter.mpr ⟨h2 z hz nz, by simpa using e⟩)
  · have a := List.length_filter_le (fun z => decide (z ∉ (["up"] : List Str))) (onceS (zs.filter nameS))
    have b := (onceS_all (zs.filter nameS)).2.2
    have c := List.length_filter_le nameS zs
    unfold colsOf
    omega
section
variable {P : Program} {w : World} {K : PySem.W.Frag} {mg : Str → Option Value} {base : Heap}
theorem filt_nil (xs : List Str) : (xs.filter fun z => decide (z ∉ ([] : List Str))) = xs := by
  rw [List.filter_eq_self]
  intro z _
  simp
abbrev qFo : Str := ("function_of" : Str) ++ ".<locals>." ++ "<lambda>"
abbrev qRm : Str := ("read_mend" : Str) ++ ".<locals>." ++ "<lambda>"
def spFnOf (zt : Addr) : Sp := fun vs H Q _ => ∃ (a b : Addr), vs = [.ref a, .ref b] ∧ TabIn qFo H zt ∧ ∀ H' fa, SameX zt H H' → TabIn qFo H' zt → Q (.ref fa) H'
theorem sc_function_of : FnScope ["words", "names"] ["words", "names"] (defScope s_function_of) := ⟨rfl, rfl, rfl, by decide +kernel, rfl, by decide +kernel, by decide +kernel⟩
theorem k_function_of (T : Tops K mg) {z : Addr × Addr} (B : DefT K mg "function_of" s_function_of z) (M : Maker mg base z.1 z.2) : Known P w K mg base CX0 1 "function_of" ["words", "names"] (spFnOf z.2) := by
  refine B.knownR sc_function_of (fun _ _ _ _ _ _ us hl => match us, hl with | [_, _], _ => rfl) (fun vs H Q E h => ?_) (fun f A outer s H vs Q E hr h => ?_)
  · obtain ⟨a, b, rfl, _⟩ := h
    rfl
  · obtain ⟨a, b, rfl, hT, q⟩ := h
    have hcl : ∀ x, (cxOf CX0 P w K mg base ["words", "names"] "function_of" (defScope s_function_of) f (.ref z.1) A outer s H E).nox.env.scope.names.lookup x = some .cell → ∃ c, (cxOf CX0 P w K mg base ["words", "names"] "function_of" (defScope s_function_of) f (.ref z.1) A outer s H E).nox.env.cells.lookup x = some c := fun x hx => Option.isSome_iff_exists.mp (PySem.W.cellsFrom_some _ _ _ (.inl hx))
    refine ⟨_, psr_one (psr_ret (pe_lamF M rfl (caps_of (sc := defScope s_function_of) (N := ["words", "names"]) (cp := [(0, "words"), (1, "names")]) hcl).clos rfl)), ?_⟩
    exact ⟨hT, fun fa H1 hfa s1 tb1 la => fun g L => q _ fa (sameX_lend s1 L) (tabIn_same (lent_same L) tb1)⟩
def spRdCells (C zt : Addr) : Sp := fun vs H Q _ => ∃ (a : Addr) (zs : List Str), vs = [.ref a] ∧ H a = some (.lst (zs.map V.str)) ∧ zs.length ≤ 24 ∧ Pre zs 1 0 ∧ (onceS (zs.filter nameS)).length ≤ 6 ∧ TabIn qFo H zt ∧
  ∀ H' r v, SameX zt H H' → TabIn qFo H' zt → CeF C H' r (onceS (zs.filter nameS)) v → Q (.ref r) H'
theorem k_read_cells (T : Tops K mg) {R C : Addr} (Z : TRule K mg R) (Y : TCells K mg C) {z : Addr × Addr} (B : DefT K mg "function_of" s_function_of z) (M : Maker mg base z.1 z.2) : Known P w K mg base CX0 6 "read_cells" ["words"] (spRdCells C z.2) := by
  have G_columns_in : Known P w K mg base CX0 3 "columns_in" ["words", "others"] (spColumns K) := k_columns_in T
  have G_function_of : Known P w K mg base CX0 1 "function_of" ["words", "names"] (spFnOf z.2) := k_function_of T B M
  have GI : KnownI P w K mg base CX0 4 C ["self", "names", "function"] (spCellsI K C) := k_Cells_init T Z Y
  refine T.d_read_cells.known sc_read_cells (fun _ _ _ _ _ _ us hl => match us, hl with | [_], _ => rfl) (fun vs H Q E h => ?_) (fun f cdv A outer s H vs Q E hr h => ?_)
  · obtain ⟨a, zs, rfl, _⟩ := h
    rfl
  · obtain ⟨a, zs, rfl, ha, hlz, hP, h6, hT, q⟩ := h
    refine ⟨_, (pss_cons (ps_set (i := 1) sc_read_cells.nd rfl (Or.inl rfl) (pe_callN G_columns_in (hr.mono (by decide)) pass0 (pa_cons (pv 0) (pa_cons (pe_lst pa_nil) pa_nil))))
      (pss_one (ps_ret (pe_makeN GI (hr.mono (by decide)) Y.c pass0 (pa_cons (pv 1) (pa_cons (pe_callN G_function_of (hr.mono (by decide)) pass0 (pa_cons (pv 0) (pa_cons (pv 1) pa_nil))) pa_nil)))))), ?_⟩
    refine ⟨_, rfl, sl, fun l0 hl0 => ?_⟩
    have s0 := Same.new (o := .lst []) hl0
    refine ⟨a, l0, zs, [], rfl, SqL.of (s0 _ _ ha), SqL.of upd_same, hlz, hP, by rw [filt_nil]; exact h6, fun H1 b s1 hb h1 => ?_⟩
    rw [filt_nil] at h1
    have s01 := s0.trans s1
    obtain ⟨nl, sub⟩ := names_ok hP
    have ol := onceS_all (zs.filter nameS)
    have fl := List.length_filter_le nameS zs
    refine ⟨_, rfl, _, rfl, _, rfl, a, b, rfl, tabIn_same s01 hT, fun H2 fa s2 tb2 => ?_⟩
    have k2 := KeepC.tab (tabIn_same s01 hT) s2
    intro x dx hx hdx ne
    have h2b := k2 _ _ (fun φ z => by cases z) h1
    refine ⟨x, dx, b, .ref fa, _, rfl, upd_same, SqL.of (by rw [upd_ne (ne_of_none h2b hx), upd_ne (ne_of_none h2b hdx)]; exact h2b), h6, nl, fun H3 b3 ce => ⟨rfl, ?_⟩⟩
    have s3 := same_of_init hx hdx b3
    exact q _ x _ (sx_trans (sx_of s01) (sx_trans s2 (sx_of s3))) (tabIn_same s3 tb2) ce
def spRdAbove (C zt : Addr) : Sp := fun vs H Q _ => ∃ (a : Addr) (y : Str) (zs : List Str) (i : Int), vs = [.ref a] ∧ H a = some (.lst ((y :: zs).map V.str)) ∧ NumW y i ∧ zs.length ≤ 24 ∧ Pre zs 1 0 ∧ (colsOf zs).length ≤ 6 ∧ TabIn qFo H zt ∧
  ∀ H' r v, SameX zt H H' → TabIn qFo H' zt → AbF C H' r i (colsOf zs) v → Q (.ref r) H'
theorem k_read_above (T : Tops K mg) {R C : Addr} (Z : TRule K mg R) (Y : TAbove K mg C) {z : Addr × Addr} (B : DefT K mg "function_of" s_function_of z) (M : Maker mg base z.1 z.2) : Known P w K mg base CX0 6 "read_above" ["words"] (spRdAbove C z.2) := by
  have G_refuse_unless : Known P w K mg base CX0 1 "refuse_unless" ["holds"] spRefuse := k_refuse_unless T
  have G_writes_number : Known P w K mg base CX0 1 "writes_number" ["word"] spWrites := k_writes_number T
  have G_columns_in : Known P w K mg base CX0 3 "columns_in" ["words", "others"] (spColumns K) := k_columns_in T
  have G_function_of : Known P w K mg base CX0 1 "function_of" ["words", "names"] (spFnOf z.2) := k_function_of T B M
  have GI : KnownI P w K mg base CX0 4 C ["self", "first", "names", "function"] (spAboveI K C) := k_Above_init T Z Y
  refine T.d_read_above.known sc_read_above (fun _ _ _ _ _ _ us hl => match us, hl with | [_], _ => rfl) (fun vs H Q E h => ?_) (fun f cdv A outer s H vs Q E hr h => ?_)
  · obtain ⟨a, y, zs, i, rfl, _⟩ := h
    rfl
  · obtain ⟨a, y, zs, i, rfl, ha, hy, hlz, hP, h6, hT, q⟩ := h
    obtain ⟨cn, cd, cs, cl⟩ := cols_ok hP
    refine ⟨_, (pss_cons (ps_expr (pe_callN G_refuse_unless (hr.mono (by decide)) pass0 (pa_cons (pe_and (pe_cmpR op_gt (pe_callB call_len rfl T.len b_len (pa_cons (pv 0) pa_nil)) pe_int (nomark _)) (pe_one (pe_callN G_writes_number (hr.mono (by decide)) pass0 (pa_cons (pe_ix ix_list (pv 0) pe_int (fun _ _ => rfl)) pa_nil)))) pa_nil)))
      (pss_cons (ps_set (i := 1) sc_read_above.nd rfl (Or.inl rfl) (pe_slice sl_list (pv 0) (po_some pe_int) po_none))
      (pss_cons (ps_set (i := 2) sc_read_above.nd rfl (Or.inl rfl) (pe_callN G_columns_in (hr.mono (by decide)) pass0 (pa_cons (pv 1) (pa_cons (pe_lst (pa_cons (pe_gS T.g_UP) pa_nil)) pa_nil))))
      (pss_one (ps_ret (pe_makeN GI (hr.mono (by decide)) Y.c pass0 (pa_cons (pe_callTy call_int_text rfl T.int b_int (pa_cons (pe_ix ix_list (pv 0) pe_int (fun _ _ => rfl)) pa_nil)) (pa_cons (pv 2) (pa_cons (pe_callN G_function_of (hr.mono (by decide)) pass0 (pa_cons (pv 1) (pa_cons (pe_op op_cat (pe_lst (pa_cons (pe_gS T.g_UP) pa_nil)) (pv 2)) pa_nil))) pa_nil))))))))), ?_⟩
    have e0 : atI ((y :: zs).map V.str) 0 = some (.str y) := at_cons _ _
    have yl := hy.reads.2
    refine ⟨_, rfl, _, _, rfl, .inl ⟨_, SqL.of ha, rfl⟩, _, _, rfl, rfl, _, rfl, ?_⟩
    rw [show decide ((((y :: zs).map V.str).length : Int) > 0) = true from decide_eq_true (by rw [List.length_map, List.length_cons]; omega)]
    refine iteT ⟨_, rfl, a, _, _, _, rfl, rfl, SqL.of ha, e0, y, rfl, by omega, fun H1 s1 => ?_⟩
    rw [hy.num]
    have ha1 := s1 _ _ ha
    refine ⟨rfl, _, rfl, _, rfl, a, _, rfl, SqL.of ha1, fun c hc => ?_⟩
    rw [cut1]
    have s2 := Same.new (o := .lst (zs.map V.str)) hc
    have s02 := s1.trans s2
    refine ⟨_, rfl, sl, fun ul hul => ?_⟩
    have s3 := Same.new (o := .lst [.str "up"]) hul
    have s03 := s02.trans s3
    refine ⟨c, ul, zs, ["up"], rfl, SqL.of (s3 _ _ upd_same), SqL.of upd_same, hlz, hP, h6, fun H4 l s4 hl h4 => ?_⟩
    have s04 := s03.trans s4
    have hc4 := s4 _ _ (s3 _ _ (upd_same (H := H1) (a := c) (o := .lst (zs.map V.str))))
    refine ⟨_, rfl, a, _, _, _, rfl, rfl, SqL.of (s04 _ _ ha), e0, y, i, rfl, hy.reads.1, by omega, _, rfl, _, rfl, sl, fun u2 hu2 => ?_⟩
    have s5 := Same.new (o := .lst [.str "up"]) hu2
    refine ⟨_, rfl, u2, l, _, _, rfl, rfl, upd_same, s5 _ _ h4, sl (by rw [List.length_map]; show 1 + (colsOf zs).length ≤ 1000; omega), fun b hb => ?_⟩
    have s6 := Same.new (o := .lst ([.str "up"] ++ (colsOf zs).map V.str)) hb
    have s06 := s04.trans (s5.trans s6)
    have hb6 : upd (upd H4 u2 (.lst [.str "up"])) b (.lst ([.str "up"] ++ (colsOf zs).map V.str)) b = some (.lst ((("up" : Str) :: colsOf zs).map V.str)) := upd_same
    have hc6 := s6 _ _ (s5 _ _ hc4)
    have hl6 := s6 _ _ (s5 _ _ h4)
    refine ⟨c, b, rfl, tabIn_same s06 hT, fun H7 fa s7 tb7 => ?_⟩
    have k7 := KeepC.tab (tabIn_same s06 hT) s7
    intro x dx hx hdx ne
    have h7l := k7 _ _ (fun φ z => by cases z) hl6
    refine ⟨x, dx, l, i, .ref fa, _, rfl, numD_of hy.1, upd_same, SqL.of (by rw [upd_ne (ne_of_none h7l hx), upd_ne (ne_of_none h7l hdx)]; exact h7l), h6, cn, fun H8 b8 ab => ⟨rfl, ?_⟩⟩
    have s8 := same_of_init hx hdx b8
    exact q _ x _ (sx_trans (sx_of s06) (sx_trans s7 (sx_of s8))) (tabIn_same s8 tb7) ab
def spRdGroup (K : PySem.W.Frag) (pG C : Addr) : Sp := fun vs H Q _ => ∃ (a fa : Addr) (k n wd : Str), vs = [.ref a] ∧ SqL K H a [.str k, .str n, .str wd] ∧ Nl k ∧ Nl n ∧ PySem.W.nsIn K pG wd = some (some (.ref fa)) ∧
  ∀ H' r, Same H H' → H r = none → KyAt C H' r k n (.ref fa) → Q (.ref r) H'
theorem k_read_group (T : Tops K mg) {R C pG : Addr} (Z : TRule K mg R) (Y : TGroup K mg C) (hG : mg "OF_GROUPS" = some (.ref pG)) (D : KDict w.params K pG) : Known P w K mg base CX0 5 "read_group" ["words"] (spRdGroup K pG C) := by
  have G_refuse_unless : Known P w K mg base CX0 1 "refuse_unless" ["holds"] spRefuse := k_refuse_unless T
  have G_check_names : Known P w K mg base CX0 2 "check_names" ["words"] (spChkNames K) := k_check_names T
  have GI : KnownI P w K mg base CX0 3 C ["self", "key", "name", "function"] (spGroupI K C) := k_Group_init T Z Y
  refine T.d_read_group.known sc_read_group (fun _ _ _ _ _ _ us hl => match us, hl with | [_], _ => rfl) (fun vs H Q E h => ?_) (fun f cdv A outer s H vs Q E hr h => ?_)
  · obtain ⟨a, fa, k, n, wd, rfl, _⟩ := h
    rfl
  · obtain ⟨a, fa, k, n, wd, rfl, hq, hk, hn, hw, q⟩ := h
    refine ⟨_, (pss_cons (ps_expr (pe_callN G_refuse_unless (hr.mono (by decide)) pass0 (pa_cons (pe_and (pe_cmpR op_eq (pe_callB call_len rfl T.len b_len (pa_cons (pv 0) pa_nil)) pe_int (nomark _)) (pe_one (pe_cmp (pc_kin D (pe_ix ix_list (pv 0) pe_int (fun _ _ => rfl)) (pe_gR hG)) (by with_unfolding_all rfl)))) pa_nil)))
      (pss_cons (ps_expr (pe_callN G_check_names (hr.mono (by decide)) pass0 (pa_cons (pe_slice sl_list (pv 0) po_none (po_some pe_int)) pa_nil)))
      (pss_one (ps_ret (pe_makeN GI (hr.mono (by decide)) Y.c pass0 (pa_cons (pe_ix ix_list (pv 0) pe_int (fun _ _ => rfl)) (pa_cons (pe_ix ix_list (pv 0) pe_int (fun _ _ => rfl)) (pa_cons (pe_kget D (pe_gR hG) (pe_ix ix_list (pv 0) pe_int (fun _ _ => rfl)) (fun _ _ => rfl)) pa_nil)))))))), ?_⟩
    refine ⟨_, rfl, _, _, rfl, .inl ⟨_, hq, rfl⟩, rfl, _, rfl, iteT ?_⟩
    refine ⟨_, rfl, a, _, _, _, rfl, rfl, hq, rfl, pG, wd, _, rfl, rfl, hw, rfl, ?_⟩
    refine ⟨_, rfl, _, rfl, a, _, rfl, hq, fun c hc => ?_⟩
    have s1 := Same.new (o := .lst (cutV [.str k, .str n, .str wd] none (some 2))) hc
    refine ⟨c, [k, n], rfl, SqL.of upd_same, fun z hz => ?_, fun H2 s2 => ?_⟩
    · simp only [List.mem_cons, List.not_mem_nil, or_false] at hz
      rcases hz with rfl | rfl
      · exact hk
      · exact hn
    have s12 := s1.trans s2
    refine ⟨_, rfl, a, _, _, _, rfl, rfl, s12.seq hq, rfl, _, rfl, a, _, _, _, rfl, rfl, s12.seq hq, rfl, _, rfl, a, _, _, _, rfl, rfl, s12.seq hq, rfl, pG, wd, fa, rfl, rfl, hw, fun x dx hx hdx ne => ?_⟩
    refine ⟨x, dx, k, n, .ref fa, rfl, upd_same, hk, hn, fun H3 b3 ky => ⟨rfl, q _ x (s12.trans (same_of_init hx hdx b3)) (none_back s12 hx) ky⟩⟩
def spRdMend (C zt : Addr) : Sp := fun vs H Q _ => ∃ (a : Addr) (n y : Str) (i : Int), vs = [.ref a] ∧ H a = some (.lst [.str n, .str y]) ∧ Nl n ∧ y.length ≤ 640 ∧ numL y.cps.toList = true ∧ PySem.intText? y = some i ∧ TabIn qRm H zt ∧
  ∀ H' r v, SameX zt H H' → TabIn qRm H' zt → MdF C H' r n v → Q (.ref r) H'
theorem k_read_mend (T : Tops K mg) {R C : Addr} (Z : TRule K mg R) (Y : TMend K mg C) {z : Addr × Addr} (B : DefT K mg "read_mend" s_read_mend z) (M : Maker mg base z.1 z.2) : Known P w K mg base CX0 6 "read_mend" ["words"] (spRdMend C z.2) := by
  have G_refuse_unless : Known P w K mg base CX0 1 "refuse_unless" ["holds"] spRefuse := k_refuse_unless T
  have G_writes_number : Known P w K mg base CX0 1 "writes_number" ["word"] spWrites := k_writes_number T
  have G_check_names : Known P w K mg base CX0 2 "check_names" ["words"] (spChkNames K) := k_check_names T
  have GI : KnownI P w K mg base CX0 3 C ["self", "name", "function"] (spMendI K C) := k_Mend_init T Z Y
  refine B.knownR sc_read_mend (fun _ _ _ _ _ _ us hl => match us, hl with | [_], _ => rfl) (fun vs H Q E h => ?_) (fun f A outer s H vs Q E hr h => ?_)
  · obtain ⟨a, n, y, i, rfl, _⟩ := h
    rfl
  · obtain ⟨a, n, y, i, rfl, ha, hn, hy, hy2, hy3, hT, q⟩ := h
    have hcl : ∀ x, (cxOf CX0 P w K mg base ["words", "number"] "read_mend" (defScope s_read_mend) f (.ref z.1) A outer s H E).nox.env.scope.names.lookup x = some .cell → ∃ c, (cxOf CX0 P w K mg base ["words", "number"] "read_mend" (defScope s_read_mend) f (.ref z.1) A outer s H E).nox.env.cells.lookup x = some c := fun x hx => Option.isSome_iff_exists.mp (PySem.W.cellsFrom_some _ _ _ (.inl hx))
    refine ⟨_, (psr_cons (psr_of (ps_expr (pe_callN G_refuse_unless (hr.mono (by decide)) pass0 (pa_cons (pe_and (pe_cmpR op_eq (pe_callB call_len rfl T.len b_len (pa_cons (pv 0) pa_nil)) pe_int (nomark _)) (pe_one (pe_callN G_writes_number (hr.mono (by decide)) pass0 (pa_cons (pe_ix ix_list (pv 0) pe_int (fun _ _ => rfl)) pa_nil)))) pa_nil))))
      (psr_cons (psr_of (ps_expr (pe_callN G_check_names (hr.mono (by decide)) pass0 (pa_cons (pe_slice sl_list (pv 0) po_none (po_some pe_int)) pa_nil))))
      (psr_cons (psr_of (ps_set (i := 1) sc_read_mend.nd rfl (by first | exact Or.inl rfl | exact Or.inr rfl) (pe_callTy call_int_text rfl T.int b_int (pa_cons (pe_ix ix_list (pv 0) pe_int (fun _ _ => rfl)) pa_nil))))
      (psr_one (psr_ret (pe_makeN GI (hr.mono (by decide)) Y.c pass0 (pa_cons (pe_ix ix_list (pv 0) pe_int (fun _ _ => rfl)) (pa_cons (pe_lamF M rfl (caps_of (sc := defScope s_read_mend) (N := ["words", "number"]) (cp := [(1, "number")]) hcl).clos rfl) pa_nil)))))))), ?_⟩
    refine ⟨_, rfl, _, _, rfl, .inl ⟨_, SqL.of ha, rfl⟩, rfl, _, rfl, iteT ?_⟩
    refine ⟨_, rfl, a, _, _, _, rfl, rfl, SqL.of ha, rfl, y, rfl, by omega, fun H1 s1 => ?_⟩
    rw [hy2]
    have ha1 := s1 _ _ ha
    refine ⟨rfl, _, rfl, _, rfl, a, _, rfl, SqL.of ha1, fun c hc => ?_⟩
    have s2 := s1.trans (Same.new (o := .lst (cutV [.str n, .str y] none (some 1))) hc)
    refine ⟨c, [n], rfl, SqL.of upd_same, fun y' hy' => by rw [List.mem_singleton.mp hy']; exact hn, fun H3 s3 => ?_⟩
    have s13 := s2.trans s3
    have ha3 := s13 _ _ ha
    refine ⟨_, rfl, a, _, _, _, rfl, rfl, SqL.of ha3, rfl, y, i, rfl, hy3, hy, ?_⟩
    refine ⟨_, rfl, a, _, _, _, rfl, rfl, SqL.of ha3, rfl, ?_⟩
    have tb3 := tabIn_same s13 hT
    refine ⟨tb3, fun fa H4 hfa s4 tb4 la => ?_⟩
    intro x dx hx hdx ne
    refine ⟨x, dx, n, .ref fa, rfl, upd_same, hn, fun H5 b5 ky => ⟨rfl, fun g L => ?_⟩⟩
    have s5 := same_of_init hx hdx b5
    have sL := lent_same L
    exact q _ x _ (sameX_lend (sx_trans (sx_of s13) (sx_trans s4 (sx_of s5))) L) (tabIn_same sL (tabIn_same s5 tb4)) (ky.keepC (KeepC.of sL))
end
end My

set_option maxHeartbeats 2000000
namespace My
open PySem L2
def spLaw (K : PySem.W.Frag) (tabs : List (Addr × Addr)) : Sp := fun vs H Q _ => ∃ (a : Addr) (ns : List Int), vs = [.ref a] ∧ SqL K H a (ns.map V.int) ∧ ns.length ≤ 63 ∧ TabsIn0 tabs H ∧ ∀ H', TabsOut tabs H' → Q (.bl true) H'
abbrev Nlaw : List Str := ["_law_script", "_law_word_here", "_law_good"]
theorem sc_law : FnScope Nlaw ["_law_script"] (defScope s_law) := ⟨rfl, rfl, rfl, by decide +kernel, rfl, by decide +kernel, by decide +kernel⟩
theorem tabIn0 {q : Str} {H : Hp} {P : Addr} (h : H P = some (TabC P [])) : TabIn q H P := ⟨[], h, fun c hc => by cases hc⟩
theorem tab_at {q : Str} {H : Hp} {P : Addr} (h : TabIn q H P) : ∃ S, H P = some (TabC P S) := let ⟨S, e, _⟩ := h; ⟨S, e⟩
def goods (y : Str) : List Str := ["cells + 1 " ++ y, "above 3 + up " ++ y, "group a " ++ y ++ " many", "mend " ++ y ++ " -5"]
theorem nl_t : Nl ("t" : Str) := ⟨by decide, by decide, by decide +kernel⟩
theorem nl_a : Nl ("a" : Str) := ⟨by decide, by decide, by decide +kernel⟩
theorem nl_down : Nl ("down" : Str) := ⟨by decide, by decide, by decide +kernel⟩
theorem opd1 : Opd ("1" : Str) := .inr ⟨1, ⟨by decide +kernel, by decide +kernel⟩, by decide +kernel⟩
theorem num3 : NumW ("3" : Str) 3 := ⟨⟨by decide +kernel, by decide +kernel⟩, by decide +kernel⟩
theorem num5 : NumW ("-5" : Str) (-5) := ⟨⟨by decide +kernel, by decide +kernel⟩, by decide +kernel⟩
theorem opdup : Opd ("up" : Str) := .inl ⟨by decide, by decide, by decide +kernel⟩
theorem pre_c {y : Str} (h : Nl y) : Pre ["+", "1", y] 1 0 := ⟨by decide, .inl ⟨by decide +kernel, by decide, .inr ⟨opd1, by decide, .inr ⟨.inl h, rfl⟩⟩⟩⟩
theorem pre_a {y : Str} (h : Nl y) : Pre ["+", "up", y] 1 0 := ⟨by decide, .inl ⟨by decide +kernel, by decide, .inr ⟨opdup, by decide, .inr ⟨.inl h, rfl⟩⟩⟩⟩
theorem cols_c {y : Str} (h : Nl y) : onceS ((["+", "1", y] : List Str).filter nameS) = [y] := by
  have : (["+", "1", y] : List Str).filter nameS = [y] := by
    rw [List.filter_cons, show nameS ("+" : Str) = false by decide +kernel, if_neg (by decide), List.filter_cons, show nameS ("1" : Str) = false by decide +kernel, if_neg (by decide), List.filter_cons, h.is]
    rfl
  rw [this]
  rfl
theorem cols_a {y : Str} (h : Nl y) (hu : y ≠ "up") : colsOf ["+", "up", y] = [y] := by
  rw [cols_eq]
  have : ((["+", "up", y] : List Str).filter fun z => nameS z && decide (z ≠ "up")) = [y] := by
    rw [List.filter_cons, show (nameS ("+" : Str) && decide (("+" : Str) ≠ "up")) = false by decide +kernel, if_neg (by decide), List.filter_cons, show (nameS ("up" : Str) && decide (("up" : Str) ≠ "up")) = false by decide +kernel, if_neg (by decide), List.filter_cons, h.is, decide_eq_true hu]
    rfl
  rw [this]
  rfl
theorem good_c {y : Str} (h : Nl y) : TxW ("cells + 1 " ++ y) ["cells", "+", "1", y] := by
  refine txw ?_ (by simp) (by simp) (wd4 (by decide +kernel) (by decide +kernel) (by decide +kernel) h.wd)
  show _ = "cells" ++ " " ++ ("+" ++ " " ++ ("1" ++ " " ++ y))
  rw [← sapp, ← sapp]
  congr 1
theorem good_a {y : Str} (h : Nl y) : TxW ("above 3 + up " ++ y) ["above", "3", "+", "up", y] := by
  refine txw ?_ (by simp) (by simp) (fun z hz => ?_)
  · show _ = "above" ++ " " ++ ("3" ++ " " ++ ("+" ++ " " ++ ("up" ++ " " ++ y)))
    rw [← sapp, ← sapp, ← sapp]
    congr 1
  · rcases List.mem_cons.mp hz with rfl | hz
    · decide +kernel
    · exact wd4 (by decide +kernel) (by decide +kernel) (by decide +kernel) h.wd z hz
theorem good_g {y : Str} (h : Nl y) : TxW ("group a " ++ y ++ " many") ["group", "a", y, "many"] := by
  refine txw ?_ (by simp) (by simp) (wd4 (by decide +kernel) (by decide +kernel) h.wd (by decide +kernel))
  show _ = "group" ++ " " ++ ("a" ++ " " ++ (y ++ " " ++ "many"))
  rw [show (" many" : Str) = " " ++ "many" by decide +kernel, show ("group a " : Str) = "group" ++ (" " ++ ("a" ++ " ")) by decide +kernel]
  simp only [sapp]
theorem good_m {y : Str} (h : Nl y) : TxW ("mend " ++ y ++ " -5") ["mend", y, "-5"] := by
  refine txw ?_ (by simp) (by simp) (wd3 (by decide +kernel) h.wd (by decide +kernel))
  show _ = "mend" ++ " " ++ (y ++ " " ++ "-5")
  rw [show (" -5" : Str) = " " ++ "-5" by decide +kernel, show ("mend " : Str) = "mend" ++ " " by decide +kernel]
  simp only [sapp]
section
variable {P : Program} {w : World} {K : PySem.W.Frag} {mg : Str → Option Value} {base : Heap}
/-- the last of the spots -/
theorem lastS {H : Hp} {ys : List V} {ps : List (Str × Str)} {x : Str × Str} (hp : ps = [x] ∨ ∃ u, ps = [u, x]) (h : Spots K H ys ps) : ∃ v, atI ys (-1) = some v ∧ Dt K H v (spD x) := by
  obtain ⟨h, _⟩ := h
  rcases hp with rfl | ⟨u, rfl⟩
  · cases h with
    | cons h1 t => cases t; exact ⟨_, rfl, h1⟩
  · cases h with
    | cons h1 t =>
      cases t with
      | cons h2 t => cases t; exact ⟨_, rfl, h2⟩
theorem once_g (y : Str) : onceOf [(("t" : Str), ("a" : Str)), ("t", y)] = [(("t" : Str), y)] ∨ ∃ u, onceOf [(("t" : Str), ("a" : Str)), ("t", y)] = [u, (("t" : Str), y)] := by
  by_cases e : y = "a"
  · rw [e]; exact .inl (by decide +kernel)
  · refine .inr ⟨("t", "a"), ?_⟩
    unfold onceOf
    simp [e]
def spWord (K : PySem.W.Frag) : Sp := fun vs H Q _ => ∃ (a : Addr) (ns : List Int), vs = [.ref a] ∧ SqL K H a (ns.map V.int) ∧ ns.length ≤ 63 ∧ ∀ H' cs, Same H H' → Word cs → Q (.str ⟨cs.toArray⟩) H'
theorem sc_law_word : FnScope ["_law_script", "_law_some", "_law_k"] ["_law_script"] (defScope s_law_word) := ⟨rfl, rfl, rfl, by decide +kernel, rfl, by decide +kernel, by decide +kernel⟩
theorem k_law_word (T : Tops K mg) : Known P w K mg base CX0 2 "_law_word" ["_law_script"] (spWord K) := by
  have G_law_cell : Known P w K mg base CX0 1 "_law_cell" ["_law_script", "_law_k"] (spCell K) := k_law_cell T
  refine T.d_law_word.known sc_law_word (fun _ _ _ _ _ _ us hl => match us, hl with | [_], _ => rfl) (fun vs H Q E h => ?_) (fun f cdv A outer s H vs Q E hr h => ?_)
  · obtain ⟨a, ns, rfl, _⟩ := h
    rfl
  · obtain ⟨a, ns, rfl, hS, hl, q⟩ := h
    refine ⟨_, (pss_cons (ps_set (i := 1) sc_law_word.nd rfl (Or.inl rfl) (pe_lst pa_nil))
      (pss_cons (ps_for PassesOwn.never rfl (pi_range1 rfl T.range (pa_cons (pe_op op_add pe_int (pe_op op_mod (pe_callN G_law_cell (hr.mono (by decide)) pass0 (pa_cons (pv 0) (pa_cons pe_int pa_nil))) pe_int)) pa_nil)) (pg_name (i := 2) sc_law_word.nd rfl (Or.inl rfl)) (pss_one (ps_expr (pe_bm PySem.F.plainAttrs_list PySem.F.slot_list_append PySem.F.type_list_append mt_append (pv 1) (pa_cons (pe_ix ix_str pe_str (pe_op op_mod (pe_op op_fdiv (pe_callN G_law_cell (hr.mono (by decide)) pass0 (pa_cons (pv 0) (pa_cons (pe_op op_add pe_int (pv 2)) pa_nil))) pe_int) pe_int) (fun _ _ => rfl)) pa_nil)))))
      (pss_one (ps_ret (pe_bm PySem.F.plainAttrs_str PySem.F.slot_str_join PySem.F.type_str_join mt_join pe_str (pa_cons (pv 1) pa_nil)))))), ?_⟩
    refine ⟨sl, fun p hp => ?_⟩
    have s1 : Same H (upd H p (.lst [])) := Same.new hp
    have hm0 := Int.emod_nonneg (cellZ ns 2) (show (8 : Int) ≠ 0 by decide)
    have hm1 := Int.emod_lt_of_pos (cellZ ns 2) (show (0 : Int) < 8 by decide)
    refine ⟨_, rfl, a, ns, 2, rfl, s1.seq hS, hl, by decide, by decide, _, _, rfl, rfl, (show (0 : Int) < 8 by decide), _, _, rfl, rfl, _, rfl, by omega, by omega, ?_⟩
    generalize cellZ ns 2 % 8 = n at hm0 hm1 ⊢
    refine for_range (lo := 0) (n := (1 + n).toNat) (fun i σ H2 => ∃ (cs : List Nat) (o : Option V), σ = [some (.ref a), some (.ref p), o] ∧ Same H H2 ∧ H2 p = some (.lst ((cs.map one).map V.str)) ∧ cs.length = i ∧ ∀ c ∈ cs, c ∈ letters.cps.toList) ⟨[], none, rfl, s1, upd_same, rfl, fun _ h => by cases h⟩ ?_ ?_
    · rintro i σ H2 hi ⟨cs, o, rfl, s2, h2, hc, hin⟩
      have hk0 : (0 : Int) ≤ 6 + (0 + (i : Int)) := by omega
      have hk1 : 6 + (0 + (i : Int)) ≤ 1000000 := by omega
      have hd0 := Int.emod_nonneg (cellZ ns (6 + (0 + (i : Int))) / 3) (show (26 : Int) ≠ 0 by decide)
      have hd1 := Int.emod_lt_of_pos (cellZ ns (6 + (0 + (i : Int))) / 3) (show (0 : Int) < 26 by decide)
      obtain ⟨c, hat, hcm⟩ := at_some letters.cps.toList (cellZ ns (6 + (0 + (i : Int))) / 3 % 26) hd0 (by rw [let_len]; exact hd1)
      refine ⟨_, rfl, .inl ⟨rfl, _, SqL.of h2⟩, _, rfl, _, rfl, _, _, rfl, rfl, a, ns, _, rfl, s2.seq hS, hl, hk0, hk1, _, _, rfl, rfl, ⟨by decide, by decide⟩, _, _, rfl, rfl, (show (0 : Int) < 26 by decide), letters, _, c, rfl, rfl, (by decide +kernel), hat, p, _, _, rfl, rfl, h2, ?_, ?_⟩
      · rw [List.length_map, List.length_map, hc]
        exact small1000 (by omega)
      · refine ⟨cs ++ [c], _, rfl, s2.on hp, ?_, by rw [List.length_append, hc]; rfl, fun z hz => ?_⟩
        · rw [upd_same, List.map_append, List.map_append]
          rfl
        · rcases List.mem_append.mp hz with hz | hz
          · exact hin z hz
          · rw [List.mem_singleton.mp hz]
            exact List.mem_of_getElem? hcm
    · rintro σ H2 ⟨cs, o, rfl, s2, h2, hc, hin⟩
      refine ⟨rfl, _, rfl, _, p, cs.map one, rfl, rfl, SqL.of h2, join_room (by omega), ?_⟩
      rw [join_ones]
      exact q H2 cs s2 ⟨by omega, by omega, hin⟩
/-- the last line of the law, whatever is read -/
def spEnd (K : PySem.W.Frag) (tabs : List (Addr × Addr)) (C : Addr) (spL : Sp) (y : Str) : VK := fun r H7 => ∃ p dx fs, r = .ref p ∧ H7 p = some (.ins C dx fs) ∧ fs.lookup ("leans" : Str) = none ∧ spL [.ref p, .str "t"] H7 (fun l H8 => ∃ la ys v, l = .ref la ∧ SqL K H8 la ys ∧ atI ys (-1) = some v ∧ Dt K H8 v (spD ("t", y)) ∧ TabsOut tabs H8) E0
theorem law_end {spR spL : Sp} {C : Addr} {tabs : List (Addr × Addr)} (T : Tops K mg) (G : Known P w K mg base CX0 7 "read_rule" ["text"] spR) (cl : Cls K C) (GL : KnownM P w K mg base CX0 3 C "leans" ["self", "table"] spL)
    (mL : ∀ vs H (Q Q' : VK), (∀ v H', Q v H' → Q' v H') → spL vs H Q E0 → spL vs H Q' E0) (mR : ∀ vs H (Q Q' : VK), (∀ v H', Q v H' → Q' v H') → spR vs H Q E0 → spR vs H Q' E0)
    {f : Addr} {cdv : Value} {A : Around} {outer : List Env} {s : Shared} {H : Hp} {Q : VK} {E : XK} (hr : Room 13 (A.deeper (PyProof.Rows.envOfC "law" (defScope s_law) s.heap.objs.size f cdv))) {a : Addr} {ns : List Int} (hl : ns.length ≤ 63) (q : ∀ H', TabsOut tabs H' → Q (.bl true) H') :
    ∃ t, PSs (cxOf CX0 P w K mg base Nlaw "law" (defScope s_law) f cdv A outer s H E).nox ((defBody s_law).drop 4) t ∧ ∀ H6 gl y txt, SqL K H6 a (ns.map V.int) → H6 gl = some (.lst ((goods y).map V.str)) → Nl y → atI ((goods y).map V.str) (cellZ ns 3 % 4) = some (.str txt) → spR [.str txt] H6 (spEnd K tabs C spL y) E0 →
      t { nx := fun _ H' => Q .non H', rt := Q } [some (.ref a), some (.str y), some (.ref gl)] H6 := by
  have G_law_cell : Known P w K mg base CX0 1 "_law_cell" ["_law_script", "_law_k"] (spCell K) := k_law_cell T
  refine ⟨_, (pss_one (ps_ret (pe_cmpR (op_eqD hr.units) (pe_ix ix_list (pe_methN (pe_callN G (hr.mono (by decide)) pass0 (pa_cons (pe_ix ix_list (pv 2) (pe_op op_mod (pe_callN G_law_cell (hr.mono (by decide)) pass0 (pa_cons (pv 0) (pa_cons pe_int pa_nil))) pe_int) (fun _ _ => rfl)) pa_nil)) cl GL (hr.mono (by decide)) pass0 (pa_cons pe_str pa_nil)) (pe_un un_neg pe_int) (fun _ _ => rfl)) (pe_tup (pa_cons pe_str (pa_cons (pv 1) pa_nil))) (nomark _)))), ?_⟩
  intro H6 gl y txt hS hgl hy hat hR
  refine ⟨_, rfl, _, rfl, a, ns, 3, rfl, hS, hl, by decide, by decide, _, _, rfl, rfl, (show (0 : Int) < 4 by decide), gl, _, _, _, rfl, rfl, SqL.of hgl, hat, ?_⟩
  refine mR _ _ _ _ (fun r H7 h7 => ?_) hR
  obtain ⟨p, dx, fs, rfl, g1, g2, hL⟩ := h7
  refine ⟨p, dx, fs, rfl, g1, g2, ?_⟩
  refine mL _ _ _ _ (fun l H8 h8 => ?_) hL
  obtain ⟨la, ys, v, rfl, k1, k2, k3, k4⟩ := h8
  refine ⟨_, rfl, la, _, _, _, rfl, rfl, k1, k2, ?_⟩
  refine ⟨_, rfl, sl, fun tp htp => ?_⟩
  have s9 := Same.new (o := .tup [.str ("t" : Str), .str y]) htp
  have ly := Nl.lay hy
  have lt := Nl.lay nl_t
  have lay : PyData.canLay0 (spD ("t", y)) = true := by
    show PyData.canLay0 (.tuple [.str ("t" : Str), .str y]) = true
    simp only [PyData.canLay0, PyData.canLayAll0, Bool.and_true, Bool.and_eq_true] at lt ly ⊢
    exact ⟨lt, ly⟩
  refine ⟨spD ("t", y), spD ("t", y), Dt.same s9 k3, spot_mk (p := ("t", y)) (.inl (.inl upd_same)), lay, lay, (show 1 ≤ 64 by decide), ?_⟩
  rw [show PyData.eqv (spD ("t", y)) (spD ("t", y)) = true by show PyData.eqv (.tuple [.str ("t" : Str), .str y]) (.tuple [.str ("t" : Str), .str y]) = true; simp [PyData.eqv, PyData.eqvAll]]
  exact q _ fun z hz => let ⟨S, e⟩ := k4 z hz; ⟨S, s9 _ _ e⟩
end
end My

set_option maxHeartbeats 2000000
namespace My
open PySem L2
section
variable {P : Program} {w : World} {K : PySem.W.Frag} {mg : Str → Option Value} {base : Heap}
theorem rd_mono {kd : Str} {sp : Sp} (m1 : ∀ vs H (Q Q' : VK), (∀ v H', Q v H' → Q' v H') → sp vs H Q E0 → sp vs H Q' E0) : ∀ vs H (Q Q' : VK), (∀ v H', Q v H' → Q' v H') → spRdRule kd sp vs H Q E0 → spRdRule kd sp vs H Q' E0 :=
  fun vs H Q Q' m ⟨z, ws, e, h1, h2, h⟩ => ⟨z, ws, e, h1, h2, fun H1 c s n e1 => m1 _ _ _ _ m (h H1 c s n e1)⟩
theorem law_rest (T : Tops K mg) (TD : Dcs w.params K mg) {z1 z2 : Addr × Addr} (B1 : DefT K mg "function_of" s_function_of z1) (M1 : Maker mg base z1.1 z1.2) (B2 : DefT K mg "read_mend" s_read_mend z2) (M2 : Maker mg base z2.1 z2.2) (ne : z1.2 ≠ z2.2)
    {f : Addr} {cdv : Value} {A : Around} {outer : List Env} {s : Shared} {H : Hp} {Q : VK} {E : XK} (hr : Room 13 (A.deeper (PyProof.Rows.envOfC "law" (defScope s_law) s.heap.objs.size f cdv))) {a : Addr} {ns : List Int} (hl : ns.length ≤ 63) (q : ∀ H', TabsOut [z1, z2] H' → Q (.bl true) H') :
    ∃ t, PSs (cxOf CX0 P w K mg base Nlaw "law" (defScope s_law) f cdv A outer s H E).nox ((defBody s_law).drop 4) t ∧ ∀ H6 gl y, SqL K H6 a (ns.map V.int) → H6 gl = some (.lst ((goods y).map V.str)) → Nl y → y ≠ "up" → H6 z1.2 = some (TabC z1.2 []) → H6 z2.2 = some (TabC z2.2 []) →
      t { nx := fun _ H' => Q .non H', rt := Q } [some (.ref a), some (.str y), some (.ref gl)] H6 := by
  obtain ⟨R, Z⟩ := T.t_Rule
  obtain ⟨pG, hG, DG, nG, _, _, _, ⟨f4, _, g4⟩⟩ := TD.g_OF_GROUPS
  obtain ⟨pK, hK, DK, nK, ⟨k1, m1, n1⟩, ⟨k2, m2, n2⟩, ⟨k3, m3, n3⟩, _, ⟨k5, m5, n5⟩⟩ := TD.g_KINDS
  have cs : cellZ ns 3 % 4 = 0 ∨ cellZ ns 3 % 4 = 1 ∨ cellZ ns 3 % 4 = 2 ∨ cellZ ns 3 % 4 = 3 := by
    have := mod_rng (cellZ ns 3) (n := 4) (by decide)
    omega
  have out : ∀ {H1 H7 H8 : Hp}, (∃ S, H7 z1.2 = some (TabC z1.2 S)) → (∃ S, H7 z2.2 = some (TabC z2.2 S)) → Same H7 H8 → TabsOut [z1, z2] H8 := fun ⟨S1, e1⟩ ⟨S2, e2⟩ s8 z hz => by
    simp only [List.mem_cons, List.not_mem_nil, or_false] at hz
    rcases hz with rfl | rfl
    · exact ⟨_, s8 _ _ e1⟩
    · exact ⟨_, s8 _ _ e2⟩
  rcases cs with ec | ec | ec | ec
  · obtain ⟨C, Y⟩ := T.t_Cells
    have G := k_read_rule T hK DK (n := 6) (by decide) (k_read_cells (P := P) (w := w) (base := base) T Z Y B1 M1) m1 n1
    obtain ⟨t, ht, qt⟩ := law_end (tabs := [z1, z2]) (H := H) (Q := Q) (E := E) (outer := outer) (s := s) (f := f) (a := a) T G Y.cl (k_Cells_leans T Y) (fun vs H Q Q' m ⟨p, t, zs, v, e, h1, h2, h3, h⟩ => ⟨p, t, zs, v, e, h1, h2, h3, fun H' l ys s n e2 sp => m _ _ (h H' l ys s n e2 sp)⟩)
      (rd_mono fun vs H Q Q' m ⟨a, zs, e, h1, h2, h3, h4, h5, h⟩ => ⟨a, zs, e, h1, h2, h3, h4, h5, fun H' r v s t ce => m _ _ (h H' r v s t ce)⟩) hr hl q
    refine ⟨t, ht, fun H6 gl y hS hgl hy hu t1 t2 => qt H6 gl y ("cells + 1 " ++ y) hS hgl hy (by rw [ec]; rfl) ?_⟩
    obtain ⟨g1, g2, _⟩ := (good_c hy).ok
    refine ⟨_, ["+", "1", y], rfl, g1, g2, fun H1 c s1 hc h1 => ⟨c, ["+", "1", y], rfl, h1, by simp, pre_c hy, by rw [cols_c hy]; simp, tabIn0 (s1 _ _ t1), fun H7 r v sX tb ce => ?_⟩⟩
    rw [cols_c hy] at ce
    have ce' := ce
    obtain ⟨dx, fs, r', c1, c2, c3, c4⟩ := ce'
    refine ⟨r, dx, fs, rfl, c1, c3.1, r, "t", [y], v, rfl, ce, by simp, nl_t, fun H8 l ys s8 hl8 h8 hsp => ?_⟩
    obtain ⟨v', k1, k2⟩ := lastS (x := ("t", y)) (.inl rfl) hsp
    exact ⟨l, ys, v', rfl, SqL.of h8, k1, k2, out (H1 := H1) (tab_at tb) ⟨_, sX _ _ (Ne.symm ne) (s1 _ _ t2)⟩ s8⟩
  · obtain ⟨C, Y⟩ := T.t_Above
    have G := k_read_rule T hK DK (n := 6) (by decide) (k_read_above (P := P) (w := w) (base := base) T Z Y B1 M1) m2 n2
    obtain ⟨t, ht, qt⟩ := law_end (tabs := [z1, z2]) (H := H) (Q := Q) (E := E) (outer := outer) (s := s) (f := f) (a := a) T G Y.cl (k_Above_leans T Y) (fun vs H Q Q' m ⟨p, t, i, zs, v, e, h1, h2, h3, h⟩ => ⟨p, t, i, zs, v, e, h1, h2, h3, fun H' l ys s n e2 sp => m _ _ (h H' l ys s n e2 sp)⟩)
      (rd_mono fun vs H Q Q' m ⟨a, y, zs, i, e, h1, h2, h3, h4, h5, h6, h⟩ => ⟨a, y, zs, i, e, h1, h2, h3, h4, h5, h6, fun H' r v s t ce => m _ _ (h H' r v s t ce)⟩) hr hl q
    refine ⟨t, ht, fun H6 gl y hS hgl hy hu t1 t2 => qt H6 gl y ("above 3 + up " ++ y) hS hgl hy (by rw [ec]; rfl) ?_⟩
    obtain ⟨g1, g2, _⟩ := (good_a hy).ok
    refine ⟨_, ["3", "+", "up", y], rfl, g1, g2, fun H1 c s1 hc h1 => ⟨c, "3", ["+", "up", y], 3, rfl, h1, num3, by simp, pre_a hy, by rw [cols_a hy hu]; simp, tabIn0 (s1 _ _ t1), fun H7 r v sX tb ce => ?_⟩⟩
    rw [cols_a hy hu] at ce
    have ce' := ce
    obtain ⟨dx, fs, r', c1, c2, c3, c4, c5⟩ := ce'
    refine ⟨r, dx, fs, rfl, c1, c4.1, r, "t", 3, [y], v, rfl, ce, by simp, nl_t, fun H8 l ys s8 hl8 h8 hsp => ?_⟩
    obtain ⟨v', k1, k2⟩ := lastS (x := ("t", y)) (.inl rfl) hsp
    exact ⟨l, ys, v', rfl, SqL.of h8, k1, k2, out (H1 := H1) (tab_at tb) ⟨_, sX _ _ (Ne.symm ne) (s1 _ _ t2)⟩ s8⟩
  · obtain ⟨C, Y⟩ := T.t_Group
    have G := k_read_rule T hK DK (n := 6) (by decide) ((k_read_group (P := P) (w := w) (base := base) T Z Y hG DG).mono (by decide)) m3 n3
    obtain ⟨t, ht, qt⟩ := law_end (tabs := [z1, z2]) (H := H) (Q := Q) (E := E) (outer := outer) (s := s) (f := f) (a := a) T G Y.cl (k_Group_leans T Y) (fun vs H Q Q' m ⟨p, t, k, n, v, e, h1, h2, h⟩ => ⟨p, t, k, n, v, e, h1, h2, fun H' l ys s n e2 sp => m _ _ (h H' l ys s n e2 sp)⟩)
      (rd_mono fun vs H Q Q' m ⟨a, fa, k, n, wd, e, h1, h2, h3, h4, h⟩ => ⟨a, fa, k, n, wd, e, h1, h2, h3, h4, fun H' r s n ce => m _ _ (h H' r s n ce)⟩) hr hl q
    refine ⟨t, ht, fun H6 gl y hS hgl hy hu t1 t2 => qt H6 gl y ("group a " ++ y ++ " many") hS hgl hy (by rw [ec]; rfl) ?_⟩
    obtain ⟨g1, g2, _⟩ := (good_g hy).ok
    refine ⟨_, ["a", y, "many"], rfl, g1, g2, fun H1 c s1 hc h1 => ⟨c, f4, "a", y, "many", rfl, SqL.of h1, nl_a, hy, g4, fun H7 r s7 hr7 ky => ?_⟩⟩
    have ky' := ky
    obtain ⟨dx, fs, c1, c2, c3, c4, c5⟩ := ky'
    refine ⟨r, dx, fs, rfl, c1, c4.1, r, "t", "a", y, _, rfl, ky, nl_t, fun H8 l ys s8 hl8 h8 hsp => ?_⟩
    obtain ⟨v', k1, k2⟩ := lastS (x := ("t", y)) (once_g y) hsp
    exact ⟨l, ys, v', rfl, SqL.of h8, k1, k2, out (H1 := H1) ⟨_, s7 _ _ (s1 _ _ t1)⟩ ⟨_, s7 _ _ (s1 _ _ t2)⟩ s8⟩
  · obtain ⟨C, Y⟩ := T.t_Mend
    have G := k_read_rule T hK DK (n := 6) (by decide) (k_read_mend (P := P) (w := w) (base := base) T Z Y B2 M2) m5 n5
    obtain ⟨t, ht, qt⟩ := law_end (tabs := [z1, z2]) (H := H) (Q := Q) (E := E) (outer := outer) (s := s) (f := f) (a := a) T G Y.cl (k_Mend_leans T Y) (fun vs H Q Q' m ⟨p, dx, fs, t, n, e, h1, h2, h3, h4, h⟩ => ⟨p, dx, fs, t, n, e, h1, h2, h3, h4, fun H' l ys s n e2 sp => m _ _ (h H' l ys s n e2 sp)⟩)
      (rd_mono fun vs H Q Q' m ⟨a, n, y, i, e, h1, h2, h3, h4, h5, h6, h⟩ => ⟨a, n, y, i, e, h1, h2, h3, h4, h5, h6, fun H' r v s t ce => m _ _ (h H' r v s t ce)⟩) hr hl q
    refine ⟨t, ht, fun H6 gl y hS hgl hy hu t1 t2 => qt H6 gl y ("mend " ++ y ++ " -5") hS hgl hy (by rw [ec]; rfl) ?_⟩
    obtain ⟨g1, g2, _⟩ := (good_m hy).ok
    refine ⟨_, [y, "-5"], rfl, g1, g2, fun H1 c s1 hc h1 => ⟨c, y, "-5", -5, rfl, h1, hy, by decide +kernel, num5.num, num5.reads.1, tabIn0 (s1 _ _ t2), fun H7 r v sX tb ce => ?_⟩⟩
    have ce' := ce
    obtain ⟨dx, fs, c1, c2, c3, c4⟩ := ce'
    refine ⟨r, dx, fs, rfl, c1, c3.1, r, dx, fs, "t", y, rfl, c1, c2, hy, nl_t, fun H8 l ys s8 hl8 h8 hsp => ?_⟩
    obtain ⟨v', k1, k2⟩ := lastS (x := ("t", y)) (.inl rfl) hsp
    exact ⟨l, ys, v', rfl, SqL.of h8, k1, k2, out (H1 := H1) ⟨_, sX _ _ ne (s1 _ _ t1)⟩ (tab_at tb) s8⟩
theorem ok_law (T : Tops K mg) (TD : Dcs w.params K mg) {z1 z2 : Addr × Addr} (B1 : DefT K mg "function_of" s_function_of z1) (M1 : Maker mg base z1.1 z1.2) (B2 : DefT K mg "read_mend" s_read_mend z2) (M2 : Maker mg base z2.1 z2.2) (ne : z1.2 ≠ z2.2) {f : Addr} {fd : FuncData} (F : Fun K "law" "law" s_law f fd) :
    FnOk P w K mg base CX0 14 f fd ["_law_script"] (spLaw K [z1, z2]) := by
  obtain ⟨c, X⟩ := T.exc
  have G_law_word : Known P w K mg base CX0 2 "_law_word" ["_law_script"] (spWord K) := k_law_word T
  have G_law_text : Known P w K mg base CX0 2 "_law_text" ["_law_script", "_law_word_here"] (spText K) := k_law_text T
  have G_law_refused : Known P w K mg base CX0 6 "_law_refused" ["_law_text_here"] (spRefd K) := k_law_refused T TD X
  refine F.ok sc_law (fun vs H Q E h => ?_) (fun cdv A outer s H vs Q E hr h => ?_)
  · obtain ⟨a, ns, rfl, _⟩ := h
    rfl
  · obtain ⟨a, ns, rfl, hS, hl, hT, q⟩ := h
    have t1 : H z1.2 = some (TabC z1.2 []) := hT z1 (by simp)
    have t2 : H z2.2 = some (TabC z2.2 []) := hT z2 (by simp)
    obtain ⟨tE, hE, qE⟩ := law_rest (P := P) (w := w) (base := base) T TD B1 M1 B2 M2 ne (H := H) (Q := Q) (E := E) (outer := outer) (s := s) (f := f) (a := a) hr hl q
    have rest : ∃ t, PSs (cxOf CX0 P w K mg base Nlaw "law" (defScope s_law) f cdv A outer s H E).nox ((defBody s_law).drop 2) t ∧ ∀ H1 y, Same H H1 → Nl y → y ≠ "up" →
        t { nx := fun _ H' => Q .non H', rt := Q } [some (.ref a), some (.str y), none] H1 := by
      refine ⟨_, PSsw.run (pssw_cons (psw_set (i := 2) sc_law.nd rfl (Or.inl rfl) (pew_lst (paw_b (PEw.mk (pe_op op_add_str pe_str (pv 1))) (paw_b (PEw.mk (pe_op op_add_str pe_str (pv 1))) (paw_b (PEw.mk (pe_op op_add_str (pe_op op_add_str pe_str (pv 1)) pe_str)) (paw_b (PEw.mk (pe_op op_add_str (pe_op op_add_str pe_str (pv 1)) pe_str)) paw_nil))))))
        (pssw_cons (PSw.mk (ps_if (pt_not (pt_val (pe_callN G_law_refused (hr.mono (by decide)) pass0 (pa_cons (pe_callN G_law_text (hr.mono (by decide)) pass0 (pa_cons (pv 0) (pa_cons (pv 1) pa_nil))) pa_nil)) (fun _ => rfl))) (pss_one (ps_ret pe_bl)) pss_nil)) (PSsw.mk hE))), ?_⟩
      intro H1 y s1 hy hu
      have y8 := hy.2.1
      have l1 : ("group a " : Str).length = 8 := by decide +kernel
      have l2 : ("mend " : Str).length = 5 := by decide +kernel
      refine ⟨_, rfl, _, _, rfl, rfl, cat_room (by decide +kernel) (by omega), _, rfl, _, _, rfl, rfl, cat_room (by decide +kernel) (by omega), _, rfl, _, _, rfl, rfl, cat_room (by decide +kernel) (by omega), _, _, rfl, rfl, cat_room (by rw [cat_len, l1]; omega) (by decide +kernel), _, rfl, _, _, rfl, rfl, cat_room (by decide +kernel) (by omega), _, _, rfl, rfl, cat_room (by rw [cat_len, l2]; omega) (by decide +kernel), sl, fun gl hgl => ?_⟩
      have s2 := s1.trans (Same.new (o := .lst ((goods y).map V.str)) hgl)
      have g2 : upd H1 gl (.lst ((goods y).map V.str)) gl = some (.lst ((goods y).map V.str)) := upd_same
      refine ⟨_, rfl, _, rfl, a, ns, y, rfl, s2.seq hS, hl, hy, fun H3 v d s3 hd hb => ⟨v, d, rfl, hd, hb, fun H4 s4 => ⟨_, rfl, iteF ?_⟩⟩⟩
      have s24 := s2.trans (s3.trans s4)
      exact qE H4 gl y (s24.seq hS) ((s3.trans s4) _ _ g2) hy hu (s24 _ _ t1) (s24 _ _ t2)
    obtain ⟨tR, hR, qR⟩ := rest
    refine ⟨_, (pss_cons (ps_set (i := 1) sc_law.nd rfl (Or.inl rfl) (pe_callN G_law_word (hr.mono (by decide)) pass0 (pa_cons (pv 0) pa_nil)))
      (pss_cons (ps_if (pt_cmpR op_eq (pv 1) pe_str (nomark _)) (pss_one (ps_set (i := 1) sc_law.nd rfl (Or.inl rfl) pe_str)) pss_nil) hR)), ?_⟩
    refine ⟨_, rfl, a, ns, rfl, hS, hl, fun H1 cs s1 hw => ?_⟩
    have hy : Nl (⟨cs.toArray⟩ : Str) := ⟨by show 1 ≤ cs.toArray.size; simpa using hw.1, by show cs.toArray.size ≤ 8; simpa using hw.2.1, fun c hc => hw.2.2 c (by simpa using hc)⟩
    refine ⟨_, rfl, rfl, _, rfl, ite2 (fun _ => ?_) (fun h => ?_)⟩
    · exact qR H1 "down" s1 nl_down (by decide +kernel)
    · exact qR H1 _ s1 hy fun e => h (decide_eq_true (by rw [e]))
end
end My

namespace My
open PySem L2
theorem tops_mk {PP : Params} {K : PySem.W.Frag} {h : Heap} {mg : Str → Option Value} (X : K.In h) (G : h.Ns mainGlobals mg)
    (n_len : PySem.W.nsIn K mainGlobals "len" = some none)
    (n_isinstance : PySem.W.nsIn K mainGlobals "isinstance" = some none)
    (n_int : PySem.W.nsIn K mainGlobals "int" = some none)
    (n_bool : PySem.W.nsIn K mainGlobals "bool" = some none)
    (n_str : PySem.W.nsIn K mainGlobals "str" = some none)
    (n_all : PySem.W.nsIn K mainGlobals "all" = some none)
    (n_range : PySem.W.nsIn K mainGlobals "range" = some none)
    (n_abs : PySem.W.nsIn K mainGlobals "abs" = some none)
    (n_list : PySem.W.nsIn K mainGlobals "list" = some none)
    (n_tuple : PySem.W.nsIn K mainGlobals "tuple" = some none)
    (n_dict : PySem.W.nsIn K mainGlobals "dict" = some none)
    (n_max : PySem.W.nsIn K mainGlobals "max" = some none)
    (n_min : PySem.W.nsIn K mainGlobals "min" = some none)
    (n_sum : PySem.W.nsIn K mainGlobals "sum" = some none)
    (n_reversed : PySem.W.nsIn K mainGlobals "reversed" = some none)
    (n_zip : PySem.W.nsIn K mainGlobals "zip" = some none)
    (n_ValueError : PySem.W.nsIn K mainGlobals "ValueError" = some none)
    {t_LETTERS : Tok} (i_LETTERS : PySem.W.nsIn K mainGlobals "LETTERS" = some (some (.str ("abcdefghijklmnopqrstuvwxyz" : Str) t_LETTERS)))
    {t_MOST_LETTERS : Tok} (i_MOST_LETTERS : PySem.W.nsIn K mainGlobals "MOST_LETTERS" = some (some (.int 8 t_MOST_LETTERS)))
    {t_MOST_NAMES : Tok} (i_MOST_NAMES : PySem.W.nsIn K mainGlobals "MOST_NAMES" = some (some (.int 6 t_MOST_NAMES)))
    {t_FIGURES : Tok} (i_FIGURES : PySem.W.nsIn K mainGlobals "FIGURES" = some (some (.str ("0123456789" : Str) t_FIGURES)))
    {t_MOST_FIGURES : Tok} (i_MOST_FIGURES : PySem.W.nsIn K mainGlobals "MOST_FIGURES" = some (some (.int 60 t_MOST_FIGURES)))
    {t_MOST_WORDS : Tok} (i_MOST_WORDS : PySem.W.nsIn K mainGlobals "MOST_WORDS" = some (some (.int 24 t_MOST_WORDS)))
    {p_SIGNS : Addr} {t0_SIGNS t1_SIGNS t2_SIGNS t3_SIGNS t4_SIGNS t5_SIGNS t6_SIGNS : Tok} {od_SIGNS : Option Addr} {m_SIGNS : Nat} {sl_SIGNS : Array (Option Value)} (i_SIGNS : PySem.W.nsIn K mainGlobals "SIGNS" = some (some (.ref p_SIGNS))) (j_SIGNS : K.lookup p_SIGNS = some ⟨.type "tuple", od_SIGNS, .seq #[Value.str ("+" : Str) t0_SIGNS, Value.str ("-" : Str) t1_SIGNS, Value.str ("*" : Str) t2_SIGNS, Value.str ("/" : Str) t3_SIGNS, Value.str (":" : Str) t4_SIGNS, Value.str ("<" : Str) t5_SIGNS, Value.str ("=" : Str) t6_SIGNS] m_SIGNS, sl_SIGNS⟩)
    {p_NOUGHT : Addr} {t0_NOUGHT t1_NOUGHT : Tok} {od_NOUGHT : Option Addr} {m_NOUGHT : Nat} {sl_NOUGHT : Array (Option Value)} (i_NOUGHT : PySem.W.nsIn K mainGlobals "NOUGHT" = some (some (.ref p_NOUGHT))) (j_NOUGHT : K.lookup p_NOUGHT = some ⟨.type "tuple", od_NOUGHT, .seq #[Value.str ("fault" : Str) t0_NOUGHT, Value.str ("nought" : Str) t1_NOUGHT] m_NOUGHT, sl_NOUGHT⟩)
    {p_GREAT : Addr} {t0_GREAT t1_GREAT : Tok} {od_GREAT : Option Addr} {m_GREAT : Nat} {sl_GREAT : Array (Option Value)} (i_GREAT : PySem.W.nsIn K mainGlobals "GREAT" = some (some (.ref p_GREAT))) (j_GREAT : K.lookup p_GREAT = some ⟨.type "tuple", od_GREAT, .seq #[Value.str ("fault" : Str) t0_GREAT, Value.str ("great" : Str) t1_GREAT] m_GREAT, sl_GREAT⟩)
    {t_UP : Tok} (i_UP : PySem.W.nsIn K mainGlobals "UP" = some (some (.str ("up" : Str) t_UP)))
    {f_is_whole : Addr} {oc_is_whole kV_is_whole doc_is_whole pm_is_whole ct_is_whole : Value} {cd_is_whole : Value} {od_is_whole an_is_whole : Option Addr} {sl_is_whole : Array (Option Value)} (a_is_whole : PySem.W.nsIn K mainGlobals "is_whole" = some (some (.ref f_is_whole)))
    (l_is_whole : K.lookup f_is_whole = some ⟨oc_is_whole, od_is_whole, .func (PySem.W.fnOf "is_whole" "is_whole" (defArgs s_is_whole) (defBody s_is_whole) (defScope s_is_whole) .none kV_is_whole doc_is_whole pm_is_whole an_is_whole cd_is_whole ct_is_whole), sl_is_whole⟩)
    (c_is_whole : PySem.W.codeIn K cd_is_whole "is_whole" = true) (k_is_whole : PySem.W.keepIn K (.ref f_is_whole) = true)
    {f_is_number : Addr} {oc_is_number kV_is_number doc_is_number pm_is_number ct_is_number : Value} {cd_is_number : Value} {od_is_number an_is_number : Option Addr} {sl_is_number : Array (Option Value)} (a_is_number : PySem.W.nsIn K mainGlobals "is_number" = some (some (.ref f_is_number)))
    (l_is_number : K.lookup f_is_number = some ⟨oc_is_number, od_is_number, .func (PySem.W.fnOf "is_number" "is_number" (defArgs s_is_number) (defBody s_is_number) (defScope s_is_number) .none kV_is_number doc_is_number pm_is_number an_is_number cd_is_number ct_is_number), sl_is_number⟩)
    (c_is_number : PySem.W.codeIn K cd_is_number "is_number" = true) (k_is_number : PySem.W.keepIn K (.ref f_is_number) = true)
    {f_is_name : Addr} {oc_is_name kV_is_name doc_is_name pm_is_name ct_is_name : Value} {cd_is_name : Value} {od_is_name an_is_name : Option Addr} {sl_is_name : Array (Option Value)} (a_is_name : PySem.W.nsIn K mainGlobals "is_name" = some (some (.ref f_is_name)))
    (l_is_name : K.lookup f_is_name = some ⟨oc_is_name, od_is_name, .func (PySem.W.fnOf "is_name" "is_name" (defArgs s_is_name) (defBody s_is_name) (defScope s_is_name) .none kV_is_name doc_is_name pm_is_name an_is_name cd_is_name ct_is_name), sl_is_name⟩)
    (c_is_name : PySem.W.codeIn K cd_is_name "is_name" = true) (k_is_name : PySem.W.keepIn K (.ref f_is_name) = true)
    {f_is_fault : Addr} {oc_is_fault kV_is_fault doc_is_fault pm_is_fault ct_is_fault : Value} {cd_is_fault : Value} {od_is_fault an_is_fault : Option Addr} {sl_is_fault : Array (Option Value)} (a_is_fault : PySem.W.nsIn K mainGlobals "is_fault" = some (some (.ref f_is_fault)))
    (l_is_fault : K.lookup f_is_fault = some ⟨oc_is_fault, od_is_fault, .func (PySem.W.fnOf "is_fault" "is_fault" (defArgs s_is_fault) (defBody s_is_fault) (defScope s_is_fault) .none kV_is_fault doc_is_fault pm_is_fault an_is_fault cd_is_fault ct_is_fault), sl_is_fault⟩)
    (c_is_fault : PySem.W.codeIn K cd_is_fault "is_fault" = true) (k_is_fault : PySem.W.keepIn K (.ref f_is_fault) = true)
    {f_check_name : Addr} {oc_check_name kV_check_name doc_check_name pm_check_name ct_check_name : Value} {cd_check_name : Value} {od_check_name an_check_name : Option Addr} {sl_check_name : Array (Option Value)} (a_check_name : PySem.W.nsIn K mainGlobals "check_name" = some (some (.ref f_check_name)))
    (l_check_name : K.lookup f_check_name = some ⟨oc_check_name, od_check_name, .func (PySem.W.fnOf "check_name" "check_name" (defArgs s_check_name) (defBody s_check_name) (defScope s_check_name) .none kV_check_name doc_check_name pm_check_name an_check_name cd_check_name ct_check_name), sl_check_name⟩)
    (c_check_name : PySem.W.codeIn K cd_check_name "check_name" = true) (k_check_name : PySem.W.keepIn K (.ref f_check_name) = true)
    {f_checked_names : Addr} {oc_checked_names kV_checked_names doc_checked_names pm_checked_names ct_checked_names : Value} {cd_checked_names : Value} {od_checked_names an_checked_names : Option Addr} {sl_checked_names : Array (Option Value)} (a_checked_names : PySem.W.nsIn K mainGlobals "checked_names" = some (some (.ref f_checked_names)))
    (l_checked_names : K.lookup f_checked_names = some ⟨oc_checked_names, od_checked_names, .func (PySem.W.fnOf "checked_names" "checked_names" (defArgs s_checked_names) (defBody s_checked_names) (defScope s_checked_names) .none kV_checked_names doc_checked_names pm_checked_names an_checked_names cd_checked_names ct_checked_names), sl_checked_names⟩)
    (c_checked_names : PySem.W.codeIn K cd_checked_names "checked_names" = true) (k_checked_names : PySem.W.keepIn K (.ref f_checked_names) = true)
    {f_each_once : Addr} {oc_each_once kV_each_once doc_each_once pm_each_once ct_each_once : Value} {cd_each_once : Value} {od_each_once an_each_once : Option Addr} {sl_each_once : Array (Option Value)} (a_each_once : PySem.W.nsIn K mainGlobals "each_once" = some (some (.ref f_each_once)))
    (l_each_once : K.lookup f_each_once = some ⟨oc_each_once, od_each_once, .func (PySem.W.fnOf "each_once" "each_once" (defArgs s_each_once) (defBody s_each_once) (defScope s_each_once) .none kV_each_once doc_each_once pm_each_once an_each_once cd_each_once ct_each_once), sl_each_once⟩)
    (c_each_once : PySem.W.codeIn K cd_each_once "each_once" = true) (k_each_once : PySem.W.keepIn K (.ref f_each_once) = true)
    {f_writes_number : Addr} {oc_writes_number kV_writes_number doc_writes_number pm_writes_number ct_writes_number : Value} {cd_writes_number : Value} {od_writes_number an_writes_number : Option Addr} {sl_writes_number : Array (Option Value)} (a_writes_number : PySem.W.nsIn K mainGlobals "writes_number" = some (some (.ref f_writes_number)))
    (l_writes_number : K.lookup f_writes_number = some ⟨oc_writes_number, od_writes_number, .func (PySem.W.fnOf "writes_number" "writes_number" (defArgs s_writes_number) (defBody s_writes_number) (defScope s_writes_number) .none kV_writes_number doc_writes_number pm_writes_number an_writes_number cd_writes_number ct_writes_number), sl_writes_number⟩)
    (c_writes_number : PySem.W.codeIn K cd_writes_number "writes_number" = true) (k_writes_number : PySem.W.keepIn K (.ref f_writes_number) = true)
    {f_is_reckoning : Addr} {oc_is_reckoning kV_is_reckoning doc_is_reckoning pm_is_reckoning ct_is_reckoning : Value} {cd_is_reckoning : Value} {od_is_reckoning an_is_reckoning : Option Addr} {sl_is_reckoning : Array (Option Value)} (a_is_reckoning : PySem.W.nsIn K mainGlobals "is_reckoning" = some (some (.ref f_is_reckoning)))
    (l_is_reckoning : K.lookup f_is_reckoning = some ⟨oc_is_reckoning, od_is_reckoning, .func (PySem.W.fnOf "is_reckoning" "is_reckoning" (defArgs s_is_reckoning) (defBody s_is_reckoning) (defScope s_is_reckoning) .none kV_is_reckoning doc_is_reckoning pm_is_reckoning an_is_reckoning cd_is_reckoning ct_is_reckoning), sl_is_reckoning⟩)
    (c_is_reckoning : PySem.W.codeIn K cd_is_reckoning "is_reckoning" = true) (k_is_reckoning : PySem.W.keepIn K (.ref f_is_reckoning) = true)
    {f_names_in : Addr} {oc_names_in kV_names_in doc_names_in pm_names_in ct_names_in : Value} {cd_names_in : Value} {od_names_in an_names_in : Option Addr} {sl_names_in : Array (Option Value)} (a_names_in : PySem.W.nsIn K mainGlobals "names_in" = some (some (.ref f_names_in)))
    (l_names_in : K.lookup f_names_in = some ⟨oc_names_in, od_names_in, .func (PySem.W.fnOf "names_in" "names_in" (defArgs s_names_in) (defBody s_names_in) (defScope s_names_in) .none kV_names_in doc_names_in pm_names_in an_names_in cd_names_in ct_names_in), sl_names_in⟩)
    (c_names_in : PySem.W.codeIn K cd_names_in "names_in" = true) (k_names_in : PySem.W.keepIn K (.ref f_names_in) = true)
    {f_bounded : Addr} {oc_bounded kV_bounded doc_bounded pm_bounded ct_bounded : Value} {cd_bounded : Value} {od_bounded an_bounded : Option Addr} {sl_bounded : Array (Option Value)} (a_bounded : PySem.W.nsIn K mainGlobals "bounded" = some (some (.ref f_bounded)))
    (l_bounded : K.lookup f_bounded = some ⟨oc_bounded, od_bounded, .func (PySem.W.fnOf "bounded" "bounded" (defArgs s_bounded) (defBody s_bounded) (defScope s_bounded) .none kV_bounded doc_bounded pm_bounded an_bounded cd_bounded ct_bounded), sl_bounded⟩)
    (c_bounded : PySem.W.codeIn K cd_bounded "bounded" = true) (k_bounded : PySem.W.keepIn K (.ref f_bounded) = true)
    {f_reckoned : Addr} {oc_reckoned kV_reckoned doc_reckoned pm_reckoned ct_reckoned : Value} {cd_reckoned : Value} {od_reckoned an_reckoned : Option Addr} {sl_reckoned : Array (Option Value)} (a_reckoned : PySem.W.nsIn K mainGlobals "reckoned" = some (some (.ref f_reckoned)))
    (l_reckoned : K.lookup f_reckoned = some ⟨oc_reckoned, od_reckoned, .func (PySem.W.fnOf "reckoned" "reckoned" (defArgs s_reckoned) (defBody s_reckoned) (defScope s_reckoned) .none kV_reckoned doc_reckoned pm_reckoned an_reckoned cd_reckoned ct_reckoned), sl_reckoned⟩)
    (c_reckoned : PySem.W.codeIn K cd_reckoned "reckoned" = true) (k_reckoned : PySem.W.keepIn K (.ref f_reckoned) = true)
    {f_joined : Addr} {oc_joined kV_joined doc_joined pm_joined ct_joined : Value} {cd_joined : Value} {od_joined an_joined : Option Addr} {sl_joined : Array (Option Value)} (a_joined : PySem.W.nsIn K mainGlobals "joined" = some (some (.ref f_joined)))
    (l_joined : K.lookup f_joined = some ⟨oc_joined, od_joined, .func (PySem.W.fnOf "joined" "joined" (defArgs s_joined) (defBody s_joined) (defScope s_joined) .none kV_joined doc_joined pm_joined an_joined cd_joined ct_joined), sl_joined⟩)
    (c_joined : PySem.W.codeIn K cd_joined "joined" = true) (k_joined : PySem.W.keepIn K (.ref f_joined) = true)
    {f_number_of : Addr} {oc_number_of kV_number_of doc_number_of pm_number_of ct_number_of : Value} {cd_number_of : Value} {od_number_of an_number_of : Option Addr} {sl_number_of : Array (Option Value)} (a_number_of : PySem.W.nsIn K mainGlobals "number_of" = some (some (.ref f_number_of)))
    (l_number_of : K.lookup f_number_of = some ⟨oc_number_of, od_number_of, .func (PySem.W.fnOf "number_of" "number_of" (defArgs s_number_of) (defBody s_number_of) (defScope s_number_of) .none kV_number_of doc_number_of pm_number_of an_number_of cd_number_of ct_number_of), sl_number_of⟩)
    (c_number_of : PySem.W.codeIn K cd_number_of "number_of" = true) (k_number_of : PySem.W.keepIn K (.ref f_number_of) = true)
    {f_sum_of : Addr} {oc_sum_of kV_sum_of doc_sum_of pm_sum_of ct_sum_of : Value} {cd_sum_of : Value} {od_sum_of an_sum_of : Option Addr} {sl_sum_of : Array (Option Value)} (a_sum_of : PySem.W.nsIn K mainGlobals "sum_of" = some (some (.ref f_sum_of)))
    (l_sum_of : K.lookup f_sum_of = some ⟨oc_sum_of, od_sum_of, .func (PySem.W.fnOf "sum_of" "sum_of" (defArgs s_sum_of) (defBody s_sum_of) (defScope s_sum_of) .none kV_sum_of doc_sum_of pm_sum_of an_sum_of cd_sum_of ct_sum_of), sl_sum_of⟩)
    (c_sum_of : PySem.W.codeIn K cd_sum_of "sum_of" = true) (k_sum_of : PySem.W.keepIn K (.ref f_sum_of) = true)
    {f_most_of : Addr} {oc_most_of kV_most_of doc_most_of pm_most_of ct_most_of : Value} {cd_most_of : Value} {od_most_of an_most_of : Option Addr} {sl_most_of : Array (Option Value)} (a_most_of : PySem.W.nsIn K mainGlobals "most_of" = some (some (.ref f_most_of)))
    (l_most_of : K.lookup f_most_of = some ⟨oc_most_of, od_most_of, .func (PySem.W.fnOf "most_of" "most_of" (defArgs s_most_of) (defBody s_most_of) (defScope s_most_of) .none kV_most_of doc_most_of pm_most_of an_most_of cd_most_of ct_most_of), sl_most_of⟩)
    (c_most_of : PySem.W.codeIn K cd_most_of "most_of" = true) (k_most_of : PySem.W.keepIn K (.ref f_most_of) = true)
    {f_least_of : Addr} {oc_least_of kV_least_of doc_least_of pm_least_of ct_least_of : Value} {cd_least_of : Value} {od_least_of an_least_of : Option Addr} {sl_least_of : Array (Option Value)} (a_least_of : PySem.W.nsIn K mainGlobals "least_of" = some (some (.ref f_least_of)))
    (l_least_of : K.lookup f_least_of = some ⟨oc_least_of, od_least_of, .func (PySem.W.fnOf "least_of" "least_of" (defArgs s_least_of) (defBody s_least_of) (defScope s_least_of) .none kV_least_of doc_least_of pm_least_of an_least_of cd_least_of ct_least_of), sl_least_of⟩)
    (c_least_of : PySem.W.codeIn K cd_least_of "least_of" = true) (k_least_of : PySem.W.keepIn K (.ref f_least_of) = true)
    {f_how_many : Addr} {oc_how_many kV_how_many doc_how_many pm_how_many ct_how_many : Value} {cd_how_many : Value} {od_how_many an_how_many : Option Addr} {sl_how_many : Array (Option Value)} (a_how_many : PySem.W.nsIn K mainGlobals "how_many" = some (some (.ref f_how_many)))
    (l_how_many : K.lookup f_how_many = some ⟨oc_how_many, od_how_many, .func (PySem.W.fnOf "how_many" "how_many" (defArgs s_how_many) (defBody s_how_many) (defScope s_how_many) .none kV_how_many doc_how_many pm_how_many an_how_many cd_how_many ct_how_many), sl_how_many⟩)
    (c_how_many : PySem.W.codeIn K cd_how_many "how_many" = true) (k_how_many : PySem.W.keepIn K (.ref f_how_many) = true)
    {f_refuse_unless : Addr} {oc_refuse_unless kV_refuse_unless doc_refuse_unless pm_refuse_unless ct_refuse_unless : Value} {cd_refuse_unless : Value} {od_refuse_unless an_refuse_unless : Option Addr} {sl_refuse_unless : Array (Option Value)} (a_refuse_unless : PySem.W.nsIn K mainGlobals "refuse_unless" = some (some (.ref f_refuse_unless)))
    (l_refuse_unless : K.lookup f_refuse_unless = some ⟨oc_refuse_unless, od_refuse_unless, .func (PySem.W.fnOf "refuse_unless" "refuse_unless" (defArgs s_refuse_unless) (defBody s_refuse_unless) (defScope s_refuse_unless) .none kV_refuse_unless doc_refuse_unless pm_refuse_unless an_refuse_unless cd_refuse_unless ct_refuse_unless), sl_refuse_unless⟩)
    (c_refuse_unless : PySem.W.codeIn K cd_refuse_unless "refuse_unless" = true) (k_refuse_unless : PySem.W.keepIn K (.ref f_refuse_unless) = true)
    {f_check_names : Addr} {oc_check_names kV_check_names doc_check_names pm_check_names ct_check_names : Value} {cd_check_names : Value} {od_check_names an_check_names : Option Addr} {sl_check_names : Array (Option Value)} (a_check_names : PySem.W.nsIn K mainGlobals "check_names" = some (some (.ref f_check_names)))
    (l_check_names : K.lookup f_check_names = some ⟨oc_check_names, od_check_names, .func (PySem.W.fnOf "check_names" "check_names" (defArgs s_check_names) (defBody s_check_names) (defScope s_check_names) .none kV_check_names doc_check_names pm_check_names an_check_names cd_check_names ct_check_names), sl_check_names⟩)
    (c_check_names : PySem.W.codeIn K cd_check_names "check_names" = true) (k_check_names : PySem.W.keepIn K (.ref f_check_names) = true)
    {f_columns_in : Addr} {oc_columns_in kV_columns_in doc_columns_in pm_columns_in ct_columns_in : Value} {cd_columns_in : Value} {od_columns_in an_columns_in : Option Addr} {sl_columns_in : Array (Option Value)} (a_columns_in : PySem.W.nsIn K mainGlobals "columns_in" = some (some (.ref f_columns_in)))
    (l_columns_in : K.lookup f_columns_in = some ⟨oc_columns_in, od_columns_in, .func (PySem.W.fnOf "columns_in" "columns_in" (defArgs s_columns_in) (defBody s_columns_in) (defScope s_columns_in) .none kV_columns_in doc_columns_in pm_columns_in an_columns_in cd_columns_in ct_columns_in), sl_columns_in⟩)
    (c_columns_in : PySem.W.codeIn K cd_columns_in "columns_in" = true) (k_columns_in : PySem.W.keepIn K (.ref f_columns_in) = true)
    {f_function_of : Addr} {oc_function_of kV_function_of doc_function_of pm_function_of ct_function_of : Value} {cc_function_of : Addr} {od_function_of an_function_of : Option Addr} {sl_function_of : Array (Option Value)} (a_function_of : PySem.W.nsIn K mainGlobals "function_of" = some (some (.ref f_function_of)))
    (l_function_of : K.lookup f_function_of = some ⟨oc_function_of, od_function_of, .func (PySem.W.fnOf "function_of" "function_of" (defArgs s_function_of) (defBody s_function_of) (defScope s_function_of) .none kV_function_of doc_function_of pm_function_of an_function_of (.ref cc_function_of) ct_function_of), sl_function_of⟩)
    (c_function_of : PySem.W.codeIn K (.ref cc_function_of) "function_of" = true) (k_function_of : PySem.W.keepIn K (.ref f_function_of) = true)
    {wo_function_of : Value} {wd_function_of : Option Addr} {wv_function_of : Array Value} {ws_function_of : Array (Option Value)} {p_function_of : Addr} (w_function_of : K.lookup cc_function_of = some ⟨wo_function_of, wd_function_of, .fields wv_function_of, ws_function_of⟩) (t_function_of : wv_function_of[11]? = some (.ref p_function_of))
    {f_read_cells : Addr} {oc_read_cells kV_read_cells doc_read_cells pm_read_cells ct_read_cells : Value} {cd_read_cells : Value} {od_read_cells an_read_cells : Option Addr} {sl_read_cells : Array (Option Value)} (a_read_cells : PySem.W.nsIn K mainGlobals "read_cells" = some (some (.ref f_read_cells)))
    (l_read_cells : K.lookup f_read_cells = some ⟨oc_read_cells, od_read_cells, .func (PySem.W.fnOf "read_cells" "read_cells" (defArgs s_read_cells) (defBody s_read_cells) (defScope s_read_cells) .none kV_read_cells doc_read_cells pm_read_cells an_read_cells cd_read_cells ct_read_cells), sl_read_cells⟩)
    (c_read_cells : PySem.W.codeIn K cd_read_cells "read_cells" = true) (k_read_cells : PySem.W.keepIn K (.ref f_read_cells) = true)
    {f_read_above : Addr} {oc_read_above kV_read_above doc_read_above pm_read_above ct_read_above : Value} {cd_read_above : Value} {od_read_above an_read_above : Option Addr} {sl_read_above : Array (Option Value)} (a_read_above : PySem.W.nsIn K mainGlobals "read_above" = some (some (.ref f_read_above)))
    (l_read_above : K.lookup f_read_above = some ⟨oc_read_above, od_read_above, .func (PySem.W.fnOf "read_above" "read_above" (defArgs s_read_above) (defBody s_read_above) (defScope s_read_above) .none kV_read_above doc_read_above pm_read_above an_read_above cd_read_above ct_read_above), sl_read_above⟩)
    (c_read_above : PySem.W.codeIn K cd_read_above "read_above" = true) (k_read_above : PySem.W.keepIn K (.ref f_read_above) = true)
    {f_read_group : Addr} {oc_read_group kV_read_group doc_read_group pm_read_group ct_read_group : Value} {cd_read_group : Value} {od_read_group an_read_group : Option Addr} {sl_read_group : Array (Option Value)} (a_read_group : PySem.W.nsIn K mainGlobals "read_group" = some (some (.ref f_read_group)))
    (l_read_group : K.lookup f_read_group = some ⟨oc_read_group, od_read_group, .func (PySem.W.fnOf "read_group" "read_group" (defArgs s_read_group) (defBody s_read_group) (defScope s_read_group) .none kV_read_group doc_read_group pm_read_group an_read_group cd_read_group ct_read_group), sl_read_group⟩)
    (c_read_group : PySem.W.codeIn K cd_read_group "read_group" = true) (k_read_group : PySem.W.keepIn K (.ref f_read_group) = true)
    {f_read_lookup : Addr} {oc_read_lookup kV_read_lookup doc_read_lookup pm_read_lookup ct_read_lookup : Value} {cd_read_lookup : Value} {od_read_lookup an_read_lookup : Option Addr} {sl_read_lookup : Array (Option Value)} (a_read_lookup : PySem.W.nsIn K mainGlobals "read_lookup" = some (some (.ref f_read_lookup)))
    (l_read_lookup : K.lookup f_read_lookup = some ⟨oc_read_lookup, od_read_lookup, .func (PySem.W.fnOf "read_lookup" "read_lookup" (defArgs s_read_lookup) (defBody s_read_lookup) (defScope s_read_lookup) .none kV_read_lookup doc_read_lookup pm_read_lookup an_read_lookup cd_read_lookup ct_read_lookup), sl_read_lookup⟩)
    (c_read_lookup : PySem.W.codeIn K cd_read_lookup "read_lookup" = true) (k_read_lookup : PySem.W.keepIn K (.ref f_read_lookup) = true)
    {f_read_mend : Addr} {oc_read_mend kV_read_mend doc_read_mend pm_read_mend ct_read_mend : Value} {cc_read_mend : Addr} {od_read_mend an_read_mend : Option Addr} {sl_read_mend : Array (Option Value)} (a_read_mend : PySem.W.nsIn K mainGlobals "read_mend" = some (some (.ref f_read_mend)))
    (l_read_mend : K.lookup f_read_mend = some ⟨oc_read_mend, od_read_mend, .func (PySem.W.fnOf "read_mend" "read_mend" (defArgs s_read_mend) (defBody s_read_mend) (defScope s_read_mend) .none kV_read_mend doc_read_mend pm_read_mend an_read_mend (.ref cc_read_mend) ct_read_mend), sl_read_mend⟩)
    (c_read_mend : PySem.W.codeIn K (.ref cc_read_mend) "read_mend" = true) (k_read_mend : PySem.W.keepIn K (.ref f_read_mend) = true)
    {wo_read_mend : Value} {wd_read_mend : Option Addr} {wv_read_mend : Array Value} {ws_read_mend : Array (Option Value)} {p_read_mend : Addr} (w_read_mend : K.lookup cc_read_mend = some ⟨wo_read_mend, wd_read_mend, .fields wv_read_mend, ws_read_mend⟩) (t_read_mend : wv_read_mend[11]? = some (.ref p_read_mend))
    {f_read_rule : Addr} {oc_read_rule kV_read_rule doc_read_rule pm_read_rule ct_read_rule : Value} {cd_read_rule : Value} {od_read_rule an_read_rule : Option Addr} {sl_read_rule : Array (Option Value)} (a_read_rule : PySem.W.nsIn K mainGlobals "read_rule" = some (some (.ref f_read_rule)))
    (l_read_rule : K.lookup f_read_rule = some ⟨oc_read_rule, od_read_rule, .func (PySem.W.fnOf "read_rule" "read_rule" (defArgs s_read_rule) (defBody s_read_rule) (defScope s_read_rule) .none kV_read_rule doc_read_rule pm_read_rule an_read_rule cd_read_rule ct_read_rule), sl_read_rule⟩)
    (c_read_rule : PySem.W.codeIn K cd_read_rule "read_rule" = true) (k_read_rule : PySem.W.keepIn K (.ref f_read_rule) = true)
    {f_law_cell : Addr} {oc_law_cell kV_law_cell doc_law_cell pm_law_cell ct_law_cell : Value} {cd_law_cell : Value} {od_law_cell an_law_cell : Option Addr} {sl_law_cell : Array (Option Value)} (a_law_cell : PySem.W.nsIn K mainGlobals "_law_cell" = some (some (.ref f_law_cell)))
    (l_law_cell : K.lookup f_law_cell = some ⟨oc_law_cell, od_law_cell, .func (PySem.W.fnOf "_law_cell" "_law_cell" (defArgs s_law_cell) (defBody s_law_cell) (defScope s_law_cell) .none kV_law_cell doc_law_cell pm_law_cell an_law_cell cd_law_cell ct_law_cell), sl_law_cell⟩)
    (c_law_cell : PySem.W.codeIn K cd_law_cell "_law_cell" = true) (k_law_cell : PySem.W.keepIn K (.ref f_law_cell) = true)
    {f_law_word : Addr} {oc_law_word kV_law_word doc_law_word pm_law_word ct_law_word : Value} {cd_law_word : Value} {od_law_word an_law_word : Option Addr} {sl_law_word : Array (Option Value)} (a_law_word : PySem.W.nsIn K mainGlobals "_law_word" = some (some (.ref f_law_word)))
    (l_law_word : K.lookup f_law_word = some ⟨oc_law_word, od_law_word, .func (PySem.W.fnOf "_law_word" "_law_word" (defArgs s_law_word) (defBody s_law_word) (defScope s_law_word) .none kV_law_word doc_law_word pm_law_word an_law_word cd_law_word ct_law_word), sl_law_word⟩)
    (c_law_word : PySem.W.codeIn K cd_law_word "_law_word" = true) (k_law_word : PySem.W.keepIn K (.ref f_law_word) = true)
    {f_law_bad_number : Addr} {oc_law_bad_number kV_law_bad_number doc_law_bad_number pm_law_bad_number ct_law_bad_number : Value} {cd_law_bad_number : Value} {od_law_bad_number an_law_bad_number : Option Addr} {sl_law_bad_number : Array (Option Value)} (a_law_bad_number : PySem.W.nsIn K mainGlobals "_law_bad_number" = some (some (.ref f_law_bad_number)))
    (l_law_bad_number : K.lookup f_law_bad_number = some ⟨oc_law_bad_number, od_law_bad_number, .func (PySem.W.fnOf "_law_bad_number" "_law_bad_number" (defArgs s_law_bad_number) (defBody s_law_bad_number) (defScope s_law_bad_number) .none kV_law_bad_number doc_law_bad_number pm_law_bad_number an_law_bad_number cd_law_bad_number ct_law_bad_number), sl_law_bad_number⟩)
    (c_law_bad_number : PySem.W.codeIn K cd_law_bad_number "_law_bad_number" = true) (k_law_bad_number : PySem.W.keepIn K (.ref f_law_bad_number) = true)
    {f_law_bad_name : Addr} {oc_law_bad_name kV_law_bad_name doc_law_bad_name pm_law_bad_name ct_law_bad_name : Value} {cd_law_bad_name : Value} {od_law_bad_name an_law_bad_name : Option Addr} {sl_law_bad_name : Array (Option Value)} (a_law_bad_name : PySem.W.nsIn K mainGlobals "_law_bad_name" = some (some (.ref f_law_bad_name)))
    (l_law_bad_name : K.lookup f_law_bad_name = some ⟨oc_law_bad_name, od_law_bad_name, .func (PySem.W.fnOf "_law_bad_name" "_law_bad_name" (defArgs s_law_bad_name) (defBody s_law_bad_name) (defScope s_law_bad_name) .none kV_law_bad_name doc_law_bad_name pm_law_bad_name an_law_bad_name cd_law_bad_name ct_law_bad_name), sl_law_bad_name⟩)
    (c_law_bad_name : PySem.W.codeIn K cd_law_bad_name "_law_bad_name" = true) (k_law_bad_name : PySem.W.keepIn K (.ref f_law_bad_name) = true)
    {f_law_bad_reckoning : Addr} {oc_law_bad_reckoning kV_law_bad_reckoning doc_law_bad_reckoning pm_law_bad_reckoning ct_law_bad_reckoning : Value} {cd_law_bad_reckoning : Value} {od_law_bad_reckoning an_law_bad_reckoning : Option Addr} {sl_law_bad_reckoning : Array (Option Value)} (a_law_bad_reckoning : PySem.W.nsIn K mainGlobals "_law_bad_reckoning" = some (some (.ref f_law_bad_reckoning)))
    (l_law_bad_reckoning : K.lookup f_law_bad_reckoning = some ⟨oc_law_bad_reckoning, od_law_bad_reckoning, .func (PySem.W.fnOf "_law_bad_reckoning" "_law_bad_reckoning" (defArgs s_law_bad_reckoning) (defBody s_law_bad_reckoning) (defScope s_law_bad_reckoning) .none kV_law_bad_reckoning doc_law_bad_reckoning pm_law_bad_reckoning an_law_bad_reckoning cd_law_bad_reckoning ct_law_bad_reckoning), sl_law_bad_reckoning⟩)
    (c_law_bad_reckoning : PySem.W.codeIn K cd_law_bad_reckoning "_law_bad_reckoning" = true) (k_law_bad_reckoning : PySem.W.keepIn K (.ref f_law_bad_reckoning) = true)
    {f_law_text : Addr} {oc_law_text kV_law_text doc_law_text pm_law_text ct_law_text : Value} {cd_law_text : Value} {od_law_text an_law_text : Option Addr} {sl_law_text : Array (Option Value)} (a_law_text : PySem.W.nsIn K mainGlobals "_law_text" = some (some (.ref f_law_text)))
    (l_law_text : K.lookup f_law_text = some ⟨oc_law_text, od_law_text, .func (PySem.W.fnOf "_law_text" "_law_text" (defArgs s_law_text) (defBody s_law_text) (defScope s_law_text) .none kV_law_text doc_law_text pm_law_text an_law_text cd_law_text ct_law_text), sl_law_text⟩)
    (c_law_text : PySem.W.codeIn K cd_law_text "_law_text" = true) (k_law_text : PySem.W.keepIn K (.ref f_law_text) = true)
    {f_law_refused : Addr} {oc_law_refused kV_law_refused doc_law_refused pm_law_refused ct_law_refused : Value} {cd_law_refused : Value} {od_law_refused an_law_refused : Option Addr} {sl_law_refused : Array (Option Value)} (a_law_refused : PySem.W.nsIn K mainGlobals "_law_refused" = some (some (.ref f_law_refused)))
    (l_law_refused : K.lookup f_law_refused = some ⟨oc_law_refused, od_law_refused, .func (PySem.W.fnOf "_law_refused" "_law_refused" (defArgs s_law_refused) (defBody s_law_refused) (defScope s_law_refused) .none kV_law_refused doc_law_refused pm_law_refused an_law_refused cd_law_refused ct_law_refused), sl_law_refused⟩)
    (c_law_refused : PySem.W.codeIn K cd_law_refused "_law_refused" = true) (k_law_refused : PySem.W.keepIn K (.ref f_law_refused) = true)
    {f_law : Addr} {oc_law kV_law doc_law pm_law ct_law : Value} {cd_law : Value} {od_law an_law : Option Addr} {sl_law : Array (Option Value)} (a_law : PySem.W.nsIn K mainGlobals "law" = some (some (.ref f_law)))
    (l_law : K.lookup f_law = some ⟨oc_law, od_law, .func (PySem.W.fnOf "law" "law" (defArgs s_law) (defBody s_law) (defScope s_law) .none kV_law doc_law pm_law an_law cd_law ct_law), sl_law⟩)
    (c_law : PySem.W.codeIn K cd_law "law" = true) (k_law : PySem.W.keepIn K (.ref f_law) = true)
    (ne_function_of_read_mend : p_function_of ≠ p_read_mend)
    (notabs : PySem.W.noTabs K = true)
    {C_ColsError : Addr} (q_ColsError : PySem.W.nsIn K mainGlobals "ColsError" = some (some (.ref C_ColsError)))
    {C_NoName : Addr} (q_NoName : PySem.W.nsIn K mainGlobals "NoName" = some (some (.ref C_NoName)))
    {C_NoValue : Addr} (q_NoValue : PySem.W.nsIn K mainGlobals "NoValue" = some (some (.ref C_NoValue)))
    {C_NoTable : Addr} (q_NoTable : PySem.W.nsIn K mainGlobals "NoTable" = some (some (.ref C_NoTable)))
    {C_NoColumn : Addr} (q_NoColumn : PySem.W.nsIn K mainGlobals "NoColumn" = some (some (.ref C_NoColumn)))
    {C_NoPlace : Addr} (q_NoPlace : PySem.W.nsIn K mainGlobals "NoPlace" = some (some (.ref C_NoPlace)))
    {C_NoSize : Addr} (q_NoSize : PySem.W.nsIn K mainGlobals "NoSize" = some (some (.ref C_NoSize)))
    {C_NoText : Addr} (q_NoText : PySem.W.nsIn K mainGlobals "NoText" = some (some (.ref C_NoText)))
    {C_NoRow : Addr} (q_NoRow : PySem.W.nsIn K mainGlobals "NoRow" = some (some (.ref C_NoRow)))
    {C_NoBack : Addr} (q_NoBack : PySem.W.nsIn K mainGlobals "NoBack" = some (some (.ref C_NoBack)))
    {C_TooMuch : Addr} (q_TooMuch : PySem.W.nsIn K mainGlobals "TooMuch" = some (some (.ref C_TooMuch)))
    {C_Ruled : Addr} (q_Ruled : PySem.W.nsIn K mainGlobals "Ruled" = some (some (.ref C_Ruled)))
    {C_Ring : Addr} (q_Ring : PySem.W.nsIn K mainGlobals "Ring" = some (some (.ref C_Ring)))
    {C_Nobody : Addr} (q_Nobody : PySem.W.nsIn K mainGlobals "Nobody" = some (some (.ref C_Nobody)))
    {C_Several : Addr} (q_Several : PySem.W.nsIn K mainGlobals "Several" = some (some (.ref C_Several)))
    (x_NoText : PySem.W.excIn K C_NoText mroV "ValueError.__new__" = true) (v_NoText : PySem.W.kitOne K (.ref C_NoText) (.type "ValueError") = some true)
    (wa_NoText : PySem.W.findIn K (.ref C_NoText) "__getattribute__" = some (some (.builtin "BaseException.__getattribute__")))
    (wb_NoText : PySem.W.findIn K (.ref C_NoText) "__getattr__" = some none)
    (wd_NoText : PySem.W.findIn K (.ref C_NoText) "__class__" = some (some (.builtin "object.__class__")))
    (we_NoText : PySem.W.mroIn K C_NoText (.type "object") = some true)
    (wf_NoText : PySem.W.mroIn K C_NoText (.type "BaseException") = some true)
    {cd_NoText : ClassData} (wc_NoText : PySem.W.clsIn K C_NoText = some cd_NoText)
    (i_NoText_ColsError : PySem.W.kitOne K (.ref C_NoText) (.ref C_ColsError) = some true)
    (e_NoText_ColsError : PySem.W.exmOne K (.ref C_NoText) (.ref C_ColsError) = some true)
    (i_NoText_NoName : PySem.W.kitOne K (.ref C_NoText) (.ref C_NoName) = some false)
    (i_NoText_NoValue : PySem.W.kitOne K (.ref C_NoText) (.ref C_NoValue) = some false)
    (i_NoText_NoTable : PySem.W.kitOne K (.ref C_NoText) (.ref C_NoTable) = some false)
    (i_NoText_NoColumn : PySem.W.kitOne K (.ref C_NoText) (.ref C_NoColumn) = some false)
    (i_NoText_NoPlace : PySem.W.kitOne K (.ref C_NoText) (.ref C_NoPlace) = some false)
    (i_NoText_NoSize : PySem.W.kitOne K (.ref C_NoText) (.ref C_NoSize) = some false)
    (i_NoText_NoText : PySem.W.kitOne K (.ref C_NoText) (.ref C_NoText) = some true)
    (i_NoText_NoRow : PySem.W.kitOne K (.ref C_NoText) (.ref C_NoRow) = some false)
    (i_NoText_NoBack : PySem.W.kitOne K (.ref C_NoText) (.ref C_NoBack) = some false)
    (i_NoText_TooMuch : PySem.W.kitOne K (.ref C_NoText) (.ref C_TooMuch) = some false)
    (i_NoText_Ruled : PySem.W.kitOne K (.ref C_NoText) (.ref C_Ruled) = some false)
    (i_NoText_Ring : PySem.W.kitOne K (.ref C_NoText) (.ref C_Ring) = some false)
    (i_NoText_Nobody : PySem.W.kitOne K (.ref C_NoText) (.ref C_Nobody) = some false)
    (i_NoText_Several : PySem.W.kitOne K (.ref C_NoText) (.ref C_Several) = some false)
    (w4 : PySem.W.specialIn K (.builtin "object.__class__") "__get__" = some (some (.builtin "getset_descriptor.__get__"))) (w5 : PySem.W.takesIn K (.builtin "object.__class__") = some true)
    {p_OF_GROUPS : Addr} {es_OF_GROUPS : Array DictEntry} {en_OF_GROUPS : Nat} (i_OF_GROUPS : PySem.W.nsIn K mainGlobals "OF_GROUPS" = some (some (.ref p_OF_GROUPS))) (j_OF_GROUPS : K.lookup p_OF_GROUPS = some ⟨.type "dict", none, .dict es_OF_GROUPS en_OF_GROUPS, #[]⟩) (dk_OF_GROUPS : PySem.W.KeysLit PP es_OF_GROUPS.toList) (lo_OF_GROUPS : (p_OF_GROUPS == sysModules) = false)
    (dq_OF_GROUPS : es_OF_GROUPS.toList.map keyS = [("sum" : Str), ("most" : Str), ("least" : Str), ("many" : Str)])
    (dv_OF_GROUPS_sum : PySem.W.nsIn K p_OF_GROUPS "sum" = some (some (.ref f_sum_of)))
    (dv_OF_GROUPS_most : PySem.W.nsIn K p_OF_GROUPS "most" = some (some (.ref f_most_of)))
    (dv_OF_GROUPS_least : PySem.W.nsIn K p_OF_GROUPS "least" = some (some (.ref f_least_of)))
    (dv_OF_GROUPS_many : PySem.W.nsIn K p_OF_GROUPS "many" = some (some (.ref f_how_many)))
    {p_KINDS : Addr} {es_KINDS : Array DictEntry} {en_KINDS : Nat} (i_KINDS : PySem.W.nsIn K mainGlobals "KINDS" = some (some (.ref p_KINDS))) (j_KINDS : K.lookup p_KINDS = some ⟨.type "dict", none, .dict es_KINDS en_KINDS, #[]⟩) (dk_KINDS : PySem.W.KeysLit PP es_KINDS.toList) (lo_KINDS : (p_KINDS == sysModules) = false)
    (dq_KINDS : es_KINDS.toList.map keyS = [("cells" : Str), ("above" : Str), ("group" : Str), ("lookup" : Str), ("mend" : Str)])
    (dv_KINDS_cells : PySem.W.nsIn K p_KINDS "cells" = some (some (.ref f_read_cells)))
    (dv_KINDS_above : PySem.W.nsIn K p_KINDS "above" = some (some (.ref f_read_above)))
    (dv_KINDS_group : PySem.W.nsIn K p_KINDS "group" = some (some (.ref f_read_group)))
    (dv_KINDS_lookup : PySem.W.nsIn K p_KINDS "lookup" = some (some (.ref f_read_lookup)))
    (dv_KINDS_mend : PySem.W.nsIn K p_KINDS "mend" = some (some (.ref f_read_mend)))
    {C_Rule : Addr} (a_Rule : PySem.W.nsIn K mainGlobals "Rule" = some (some (.ref C_Rule)))
    (pg_Rule : PySem.W.plainGet K C_Rule Str.empty = true) (hd_Rule : PySem.W.hasDictIn K C_Rule = true) (po_Rule : PySem.W.plainOver K C_Rule = true) (sa_Rule : PySem.W.findIn K (.ref C_Rule) "__setattr__" = some (some (.builtin "object.__setattr__"))) (mk_Rule : PySem.W.makesIn K C_Rule = true) (kc_Rule : PySem.W.keepIn K (.ref C_Rule) = true) (hc_Rule : PySem.W.findIn K (.ref C_Rule) "__class__" = some (some (.builtin "object.__class__")))
    (na_Rule_function : PySem.W.findIn K (.ref C_Rule) "function" = some none)
    {f_Rule_init : Addr} {oc_Rule_init kV_Rule_init doc_Rule_init pm_Rule_init cd_Rule_init ct_Rule_init : Value} {od_Rule_init an_Rule_init : Option Addr} {sl_Rule_init : Array (Option Value)} (a_Rule_init : PySem.W.findIn K (.ref C_Rule) "__init__" = some (some (.ref f_Rule_init))) (j_Rule_init : PySem.W.isFn K (.ref f_Rule_init) = true)
    (l_Rule_init : K.lookup f_Rule_init = some ⟨oc_Rule_init, od_Rule_init, .func (PySem.W.fnOf "__init__" "Rule.__init__" (defArgs s_Rule_init) (defBody s_Rule_init) (defScope s_Rule_init) .none kV_Rule_init doc_Rule_init pm_Rule_init an_Rule_init cd_Rule_init ct_Rule_init), sl_Rule_init⟩)
    (c_Rule_init : PySem.W.codeIn K cd_Rule_init "Rule.__init__" = true) (k_Rule_init : PySem.W.keepIn K (.ref f_Rule_init) = true)
    (vg_Rule_init : PySem.W.specialIn K (.ref C_Rule) "__getattribute__" = some (some (.builtin "type.__getattribute__"))) (vr_Rule_init : PySem.W.readsIn K C_Rule (.type "type") = true) (vf_Rule_init : PySem.W.findCls K (.ref C_Rule) (.type "type") "__init__" = some (.val (.ref f_Rule_init)))
    {C_Cells : Addr} (a_Cells : PySem.W.nsIn K mainGlobals "Cells" = some (some (.ref C_Cells)))
    (pg_Cells : PySem.W.plainGet K C_Cells Str.empty = true) (hd_Cells : PySem.W.hasDictIn K C_Cells = true) (po_Cells : PySem.W.plainOver K C_Cells = true) (sa_Cells : PySem.W.findIn K (.ref C_Cells) "__setattr__" = some (some (.builtin "object.__setattr__"))) (mk_Cells : PySem.W.makesIn K C_Cells = true) (kc_Cells : PySem.W.keepIn K (.ref C_Cells) = true) (hc_Cells : PySem.W.findIn K (.ref C_Cells) "__class__" = some (some (.builtin "object.__class__")))
    (na_Cells_function : PySem.W.findIn K (.ref C_Cells) "function" = some none)
    (na_Cells_names : PySem.W.findIn K (.ref C_Cells) "names" = some none)
    {f_Cells_init : Addr} {oc_Cells_init kV_Cells_init doc_Cells_init pm_Cells_init cd_Cells_init ct_Cells_init : Value} {od_Cells_init an_Cells_init : Option Addr} {sl_Cells_init : Array (Option Value)} (a_Cells_init : PySem.W.findIn K (.ref C_Cells) "__init__" = some (some (.ref f_Cells_init))) (j_Cells_init : PySem.W.isFn K (.ref f_Cells_init) = true)
    (l_Cells_init : K.lookup f_Cells_init = some ⟨oc_Cells_init, od_Cells_init, .func (PySem.W.fnOf "__init__" "Cells.__init__" (defArgs s_Cells_init) (defBody s_Cells_init) (defScope s_Cells_init) .none kV_Cells_init doc_Cells_init pm_Cells_init an_Cells_init cd_Cells_init ct_Cells_init), sl_Cells_init⟩)
    (c_Cells_init : PySem.W.codeIn K cd_Cells_init "Cells.__init__" = true) (k_Cells_init : PySem.W.keepIn K (.ref f_Cells_init) = true)
    {f_Cells_leans : Addr} {oc_Cells_leans kV_Cells_leans doc_Cells_leans pm_Cells_leans cd_Cells_leans ct_Cells_leans : Value} {od_Cells_leans an_Cells_leans : Option Addr} {sl_Cells_leans : Array (Option Value)} (a_Cells_leans : PySem.W.findIn K (.ref C_Cells) "leans" = some (some (.ref f_Cells_leans))) (j_Cells_leans : PySem.W.isFn K (.ref f_Cells_leans) = true)
    (l_Cells_leans : K.lookup f_Cells_leans = some ⟨oc_Cells_leans, od_Cells_leans, .func (PySem.W.fnOf "leans" "Cells.leans" (defArgs s_Cells_leans) (defBody s_Cells_leans) (defScope s_Cells_leans) .none kV_Cells_leans doc_Cells_leans pm_Cells_leans an_Cells_leans cd_Cells_leans ct_Cells_leans), sl_Cells_leans⟩)
    (c_Cells_leans : PySem.W.codeIn K cd_Cells_leans "Cells.leans" = true) (k_Cells_leans : PySem.W.keepIn K (.ref f_Cells_leans) = true)
    {C_Above : Addr} (a_Above : PySem.W.nsIn K mainGlobals "Above" = some (some (.ref C_Above)))
    (pg_Above : PySem.W.plainGet K C_Above Str.empty = true) (hd_Above : PySem.W.hasDictIn K C_Above = true) (po_Above : PySem.W.plainOver K C_Above = true) (sa_Above : PySem.W.findIn K (.ref C_Above) "__setattr__" = some (some (.builtin "object.__setattr__"))) (mk_Above : PySem.W.makesIn K C_Above = true) (kc_Above : PySem.W.keepIn K (.ref C_Above) = true) (hc_Above : PySem.W.findIn K (.ref C_Above) "__class__" = some (some (.builtin "object.__class__")))
    (na_Above_function : PySem.W.findIn K (.ref C_Above) "function" = some none)
    (na_Above_names : PySem.W.findIn K (.ref C_Above) "names" = some none)
    (na_Above_first : PySem.W.findIn K (.ref C_Above) "first" = some none)
    {f_Above_init : Addr} {oc_Above_init kV_Above_init doc_Above_init pm_Above_init cd_Above_init ct_Above_init : Value} {od_Above_init an_Above_init : Option Addr} {sl_Above_init : Array (Option Value)} (a_Above_init : PySem.W.findIn K (.ref C_Above) "__init__" = some (some (.ref f_Above_init))) (j_Above_init : PySem.W.isFn K (.ref f_Above_init) = true)
    (l_Above_init : K.lookup f_Above_init = some ⟨oc_Above_init, od_Above_init, .func (PySem.W.fnOf "__init__" "Above.__init__" (defArgs s_Above_init) (defBody s_Above_init) (defScope s_Above_init) .none kV_Above_init doc_Above_init pm_Above_init an_Above_init cd_Above_init ct_Above_init), sl_Above_init⟩)
    (c_Above_init : PySem.W.codeIn K cd_Above_init "Above.__init__" = true) (k_Above_init : PySem.W.keepIn K (.ref f_Above_init) = true)
    {f_Above_leans : Addr} {oc_Above_leans kV_Above_leans doc_Above_leans pm_Above_leans cd_Above_leans ct_Above_leans : Value} {od_Above_leans an_Above_leans : Option Addr} {sl_Above_leans : Array (Option Value)} (a_Above_leans : PySem.W.findIn K (.ref C_Above) "leans" = some (some (.ref f_Above_leans))) (j_Above_leans : PySem.W.isFn K (.ref f_Above_leans) = true)
    (l_Above_leans : K.lookup f_Above_leans = some ⟨oc_Above_leans, od_Above_leans, .func (PySem.W.fnOf "leans" "Above.leans" (defArgs s_Above_leans) (defBody s_Above_leans) (defScope s_Above_leans) .none kV_Above_leans doc_Above_leans pm_Above_leans an_Above_leans cd_Above_leans ct_Above_leans), sl_Above_leans⟩)
    (c_Above_leans : PySem.W.codeIn K cd_Above_leans "Above.leans" = true) (k_Above_leans : PySem.W.keepIn K (.ref f_Above_leans) = true)
    {C_Group : Addr} (a_Group : PySem.W.nsIn K mainGlobals "Group" = some (some (.ref C_Group)))
    (pg_Group : PySem.W.plainGet K C_Group Str.empty = true) (hd_Group : PySem.W.hasDictIn K C_Group = true) (po_Group : PySem.W.plainOver K C_Group = true) (sa_Group : PySem.W.findIn K (.ref C_Group) "__setattr__" = some (some (.builtin "object.__setattr__"))) (mk_Group : PySem.W.makesIn K C_Group = true) (kc_Group : PySem.W.keepIn K (.ref C_Group) = true) (hc_Group : PySem.W.findIn K (.ref C_Group) "__class__" = some (some (.builtin "object.__class__")))
    (na_Group_function : PySem.W.findIn K (.ref C_Group) "function" = some none)
    (na_Group_key : PySem.W.findIn K (.ref C_Group) "key" = some none)
    (na_Group_name : PySem.W.findIn K (.ref C_Group) "name" = some none)
    {f_Group_init : Addr} {oc_Group_init kV_Group_init doc_Group_init pm_Group_init cd_Group_init ct_Group_init : Value} {od_Group_init an_Group_init : Option Addr} {sl_Group_init : Array (Option Value)} (a_Group_init : PySem.W.findIn K (.ref C_Group) "__init__" = some (some (.ref f_Group_init))) (j_Group_init : PySem.W.isFn K (.ref f_Group_init) = true)
    (l_Group_init : K.lookup f_Group_init = some ⟨oc_Group_init, od_Group_init, .func (PySem.W.fnOf "__init__" "Group.__init__" (defArgs s_Group_init) (defBody s_Group_init) (defScope s_Group_init) .none kV_Group_init doc_Group_init pm_Group_init an_Group_init cd_Group_init ct_Group_init), sl_Group_init⟩)
    (c_Group_init : PySem.W.codeIn K cd_Group_init "Group.__init__" = true) (k_Group_init : PySem.W.keepIn K (.ref f_Group_init) = true)
    {f_Group_leans : Addr} {oc_Group_leans kV_Group_leans doc_Group_leans pm_Group_leans cd_Group_leans ct_Group_leans : Value} {od_Group_leans an_Group_leans : Option Addr} {sl_Group_leans : Array (Option Value)} (a_Group_leans : PySem.W.findIn K (.ref C_Group) "leans" = some (some (.ref f_Group_leans))) (j_Group_leans : PySem.W.isFn K (.ref f_Group_leans) = true)
    (l_Group_leans : K.lookup f_Group_leans = some ⟨oc_Group_leans, od_Group_leans, .func (PySem.W.fnOf "leans" "Group.leans" (defArgs s_Group_leans) (defBody s_Group_leans) (defScope s_Group_leans) .none kV_Group_leans doc_Group_leans pm_Group_leans an_Group_leans cd_Group_leans ct_Group_leans), sl_Group_leans⟩)
    (c_Group_leans : PySem.W.codeIn K cd_Group_leans "Group.leans" = true) (k_Group_leans : PySem.W.keepIn K (.ref f_Group_leans) = true)
    {C_Lookup : Addr} (a_Lookup : PySem.W.nsIn K mainGlobals "Lookup" = some (some (.ref C_Lookup)))
    (pg_Lookup : PySem.W.plainGet K C_Lookup Str.empty = true) (hd_Lookup : PySem.W.hasDictIn K C_Lookup = true) (po_Lookup : PySem.W.plainOver K C_Lookup = true) (sa_Lookup : PySem.W.findIn K (.ref C_Lookup) "__setattr__" = some (some (.builtin "object.__setattr__"))) (mk_Lookup : PySem.W.makesIn K C_Lookup = true) (kc_Lookup : PySem.W.keepIn K (.ref C_Lookup) = true) (hc_Lookup : PySem.W.findIn K (.ref C_Lookup) "__class__" = some (some (.builtin "object.__class__")))
    (na_Lookup_function : PySem.W.findIn K (.ref C_Lookup) "function" = some none)
    (na_Lookup_key : PySem.W.findIn K (.ref C_Lookup) "key" = some none)
    (na_Lookup_other : PySem.W.findIn K (.ref C_Lookup) "other" = some none)
    (na_Lookup_theirs : PySem.W.findIn K (.ref C_Lookup) "theirs" = some none)
    (na_Lookup_names : PySem.W.findIn K (.ref C_Lookup) "names" = some none)
    {f_Lookup_init : Addr} {oc_Lookup_init kV_Lookup_init doc_Lookup_init pm_Lookup_init cd_Lookup_init ct_Lookup_init : Value} {od_Lookup_init an_Lookup_init : Option Addr} {sl_Lookup_init : Array (Option Value)} (a_Lookup_init : PySem.W.findIn K (.ref C_Lookup) "__init__" = some (some (.ref f_Lookup_init))) (j_Lookup_init : PySem.W.isFn K (.ref f_Lookup_init) = true)
    (l_Lookup_init : K.lookup f_Lookup_init = some ⟨oc_Lookup_init, od_Lookup_init, .func (PySem.W.fnOf "__init__" "Lookup.__init__" (defArgs s_Lookup_init) (defBody s_Lookup_init) (defScope s_Lookup_init) .none kV_Lookup_init doc_Lookup_init pm_Lookup_init an_Lookup_init cd_Lookup_init ct_Lookup_init), sl_Lookup_init⟩)
    (c_Lookup_init : PySem.W.codeIn K cd_Lookup_init "Lookup.__init__" = true) (k_Lookup_init : PySem.W.keepIn K (.ref f_Lookup_init) = true)
    {f_Lookup_leans : Addr} {oc_Lookup_leans kV_Lookup_leans doc_Lookup_leans pm_Lookup_leans cd_Lookup_leans ct_Lookup_leans : Value} {od_Lookup_leans an_Lookup_leans : Option Addr} {sl_Lookup_leans : Array (Option Value)} (a_Lookup_leans : PySem.W.findIn K (.ref C_Lookup) "leans" = some (some (.ref f_Lookup_leans))) (j_Lookup_leans : PySem.W.isFn K (.ref f_Lookup_leans) = true)
    (l_Lookup_leans : K.lookup f_Lookup_leans = some ⟨oc_Lookup_leans, od_Lookup_leans, .func (PySem.W.fnOf "leans" "Lookup.leans" (defArgs s_Lookup_leans) (defBody s_Lookup_leans) (defScope s_Lookup_leans) .none kV_Lookup_leans doc_Lookup_leans pm_Lookup_leans an_Lookup_leans cd_Lookup_leans ct_Lookup_leans), sl_Lookup_leans⟩)
    (c_Lookup_leans : PySem.W.codeIn K cd_Lookup_leans "Lookup.leans" = true) (k_Lookup_leans : PySem.W.keepIn K (.ref f_Lookup_leans) = true)
    {C_Mend : Addr} (a_Mend : PySem.W.nsIn K mainGlobals "Mend" = some (some (.ref C_Mend)))
    (pg_Mend : PySem.W.plainGet K C_Mend Str.empty = true) (hd_Mend : PySem.W.hasDictIn K C_Mend = true) (po_Mend : PySem.W.plainOver K C_Mend = true) (sa_Mend : PySem.W.findIn K (.ref C_Mend) "__setattr__" = some (some (.builtin "object.__setattr__"))) (mk_Mend : PySem.W.makesIn K C_Mend = true) (kc_Mend : PySem.W.keepIn K (.ref C_Mend) = true) (hc_Mend : PySem.W.findIn K (.ref C_Mend) "__class__" = some (some (.builtin "object.__class__")))
    (na_Mend_function : PySem.W.findIn K (.ref C_Mend) "function" = some none)
    (na_Mend_name : PySem.W.findIn K (.ref C_Mend) "name" = some none)
    {f_Mend_init : Addr} {oc_Mend_init kV_Mend_init doc_Mend_init pm_Mend_init cd_Mend_init ct_Mend_init : Value} {od_Mend_init an_Mend_init : Option Addr} {sl_Mend_init : Array (Option Value)} (a_Mend_init : PySem.W.findIn K (.ref C_Mend) "__init__" = some (some (.ref f_Mend_init))) (j_Mend_init : PySem.W.isFn K (.ref f_Mend_init) = true)
    (l_Mend_init : K.lookup f_Mend_init = some ⟨oc_Mend_init, od_Mend_init, .func (PySem.W.fnOf "__init__" "Mend.__init__" (defArgs s_Mend_init) (defBody s_Mend_init) (defScope s_Mend_init) .none kV_Mend_init doc_Mend_init pm_Mend_init an_Mend_init cd_Mend_init ct_Mend_init), sl_Mend_init⟩)
    (c_Mend_init : PySem.W.codeIn K cd_Mend_init "Mend.__init__" = true) (k_Mend_init : PySem.W.keepIn K (.ref f_Mend_init) = true)
    {f_Mend_leans : Addr} {oc_Mend_leans kV_Mend_leans doc_Mend_leans pm_Mend_leans cd_Mend_leans ct_Mend_leans : Value} {od_Mend_leans an_Mend_leans : Option Addr} {sl_Mend_leans : Array (Option Value)} (a_Mend_leans : PySem.W.findIn K (.ref C_Mend) "leans" = some (some (.ref f_Mend_leans))) (j_Mend_leans : PySem.W.isFn K (.ref f_Mend_leans) = true)
    (l_Mend_leans : K.lookup f_Mend_leans = some ⟨oc_Mend_leans, od_Mend_leans, .func (PySem.W.fnOf "leans" "Mend.leans" (defArgs s_Mend_leans) (defBody s_Mend_leans) (defScope s_Mend_leans) .none kV_Mend_leans doc_Mend_leans pm_Mend_leans an_Mend_leans cd_Mend_leans ct_Mend_leans), sl_Mend_leans⟩)
    (c_Mend_leans : PySem.W.codeIn K cd_Mend_leans "Mend.leans" = true) (k_Mend_leans : PySem.W.keepIn K (.ref f_Mend_leans) = true) : Tops K mg ∧ Dcs PP K mg := ⟨{
  len := PySem.W.mg_none_of X G n_len,
  isinstance := PySem.W.mg_none_of X G n_isinstance,
  int := PySem.W.mg_none_of X G n_int,
  bool := PySem.W.mg_none_of X G n_bool,
  str := PySem.W.mg_none_of X G n_str,
  all := PySem.W.mg_none_of X G n_all,
  range := PySem.W.mg_none_of X G n_range,
  abs := PySem.W.mg_none_of X G n_abs,
  list := PySem.W.mg_none_of X G n_list,
  tuple := PySem.W.mg_none_of X G n_tuple,
  dict := PySem.W.mg_none_of X G n_dict,
  max := PySem.W.mg_none_of X G n_max,
  min := PySem.W.mg_none_of X G n_min,
  sum := PySem.W.mg_none_of X G n_sum,
  reversed := PySem.W.mg_none_of X G n_reversed,
  zip := PySem.W.mg_none_of X G n_zip,
  ValueError := PySem.W.mg_none_of X G n_ValueError,
  g_LETTERS := ⟨_, PySem.W.mg_of X G i_LETTERS⟩,
  g_MOST_LETTERS := ⟨_, PySem.W.mg_of X G i_MOST_LETTERS⟩,
  g_MOST_NAMES := ⟨_, PySem.W.mg_of X G i_MOST_NAMES⟩,
  g_FIGURES := ⟨_, PySem.W.mg_of X G i_FIGURES⟩,
  g_MOST_FIGURES := ⟨_, PySem.W.mg_of X G i_MOST_FIGURES⟩,
  g_MOST_WORDS := ⟨_, PySem.W.mg_of X G i_MOST_WORDS⟩,
  g_SIGNS := ⟨p_SIGNS, PySem.W.mg_of X G i_SIGNS, fun H => .inr ⟨_, _, _, j_SIGNS, rfl, rfl, sl (by simp), .cons ⟨_, rfl⟩ (.cons ⟨_, rfl⟩ (.cons ⟨_, rfl⟩ (.cons ⟨_, rfl⟩ (.cons ⟨_, rfl⟩ (.cons ⟨_, rfl⟩ (.cons ⟨_, rfl⟩ (.nil)))))))⟩⟩,
  g_NOUGHT := ⟨p_NOUGHT, PySem.W.mg_of X G i_NOUGHT, fun H => .inr ⟨_, _, _, j_NOUGHT, rfl, rfl, sl (by simp), .cons ⟨_, rfl⟩ (.cons ⟨_, rfl⟩ (.nil))⟩⟩,
  g_GREAT := ⟨p_GREAT, PySem.W.mg_of X G i_GREAT, fun H => .inr ⟨_, _, _, j_GREAT, rfl, rfl, sl (by simp), .cons ⟨_, rfl⟩ (.cons ⟨_, rfl⟩ (.nil))⟩⟩,
  g_UP := ⟨_, PySem.W.mg_of X G i_UP⟩,
  d_is_whole := top_def X G a_is_whole l_is_whole c_is_whole k_is_whole,
  d_is_number := top_def X G a_is_number l_is_number c_is_number k_is_number,
  d_is_name := top_def X G a_is_name l_is_name c_is_name k_is_name,
  d_is_fault := top_def X G a_is_fault l_is_fault c_is_fault k_is_fault,
  d_check_name := top_def X G a_check_name l_check_name c_check_name k_check_name,
  d_checked_names := top_def X G a_checked_names l_checked_names c_checked_names k_checked_names,
  d_each_once := top_def X G a_each_once l_each_once c_each_once k_each_once,
  d_writes_number := top_def X G a_writes_number l_writes_number c_writes_number k_writes_number,
  d_is_reckoning := top_def X G a_is_reckoning l_is_reckoning c_is_reckoning k_is_reckoning,
  d_names_in := top_def X G a_names_in l_names_in c_names_in k_names_in,
  d_bounded := top_def X G a_bounded l_bounded c_bounded k_bounded,
  d_reckoned := top_def X G a_reckoned l_reckoned c_reckoned k_reckoned,
  d_joined := top_def X G a_joined l_joined c_joined k_joined,
  d_number_of := top_def X G a_number_of l_number_of c_number_of k_number_of,
  d_sum_of := top_def X G a_sum_of l_sum_of c_sum_of k_sum_of,
  d_most_of := top_def X G a_most_of l_most_of c_most_of k_most_of,
  d_least_of := top_def X G a_least_of l_least_of c_least_of k_least_of,
  d_how_many := top_def X G a_how_many l_how_many c_how_many k_how_many,
  d_refuse_unless := top_def X G a_refuse_unless l_refuse_unless c_refuse_unless k_refuse_unless,
  d_check_names := top_def X G a_check_names l_check_names c_check_names k_check_names,
  d_columns_in := top_def X G a_columns_in l_columns_in c_columns_in k_columns_in,
  d_function_of := top_def X G a_function_of l_function_of c_function_of k_function_of,
  d_read_cells := top_def X G a_read_cells l_read_cells c_read_cells k_read_cells,
  d_read_above := top_def X G a_read_above l_read_above c_read_above k_read_above,
  d_read_group := top_def X G a_read_group l_read_group c_read_group k_read_group,
  d_read_lookup := top_def X G a_read_lookup l_read_lookup c_read_lookup k_read_lookup,
  d_read_mend := top_def X G a_read_mend l_read_mend c_read_mend k_read_mend,
  d_read_rule := top_def X G a_read_rule l_read_rule c_read_rule k_read_rule,
  d_law_cell := top_def X G a_law_cell l_law_cell c_law_cell k_law_cell,
  d_law_word := top_def X G a_law_word l_law_word c_law_word k_law_word,
  d_law_bad_number := top_def X G a_law_bad_number l_law_bad_number c_law_bad_number k_law_bad_number,
  d_law_bad_name := top_def X G a_law_bad_name l_law_bad_name c_law_bad_name k_law_bad_name,
  d_law_bad_reckoning := top_def X G a_law_bad_reckoning l_law_bad_reckoning c_law_bad_reckoning k_law_bad_reckoning,
  d_law_text := top_def X G a_law_text l_law_text c_law_text k_law_text,
  d_law_refused := top_def X G a_law_refused l_law_refused c_law_refused k_law_refused,
  d_law := top_def X G a_law l_law c_law k_law,
  bs := ⟨_, _, top_defT X G a_function_of l_function_of c_function_of k_function_of w_function_of t_function_of, top_defT X G a_read_mend l_read_mend c_read_mend k_read_mend w_read_mend t_read_mend, ne_function_of_read_mend⟩,
  notabs := notabs,
  exc := ⟨⟨C_ColsError, C_NoName, C_NoValue, C_NoTable, C_NoColumn, C_NoPlace, C_NoSize, C_NoText, C_NoRow, C_NoBack, C_TooMuch, C_Ruled, C_Ring, C_Nobody, C_Several⟩, { c_ColsError := PySem.W.mg_of X G q_ColsError, c_NoName := PySem.W.mg_of X G q_NoName, c_NoValue := PySem.W.mg_of X G q_NoValue, c_NoTable := PySem.W.mg_of X G q_NoTable, c_NoColumn := PySem.W.mg_of X G q_NoColumn, c_NoPlace := PySem.W.mg_of X G q_NoPlace, c_NoSize := PySem.W.mg_of X G q_NoSize, c_NoText := PySem.W.mg_of X G q_NoText, c_NoRow := PySem.W.mg_of X G q_NoRow, c_NoBack := PySem.W.mg_of X G q_NoBack, c_TooMuch := PySem.W.mg_of X G q_TooMuch, c_Ruled := PySem.W.mg_of X G q_Ruled, c_Ring := PySem.W.mg_of X G q_Ring, c_Nobody := PySem.W.mg_of X G q_Nobody, c_Several := PySem.W.mg_of X G q_Several, x_NoText := x_NoText, v_NoText := v_NoText, k_NoText := ⟨wa_NoText, wb_NoText, ⟨_, wc_NoText⟩, wd_NoText, w4, w5, we_NoText, wf_NoText⟩, i_NoText_ColsError := i_NoText_ColsError, e_NoText_ColsError := e_NoText_ColsError, i_NoText_NoName := i_NoText_NoName, i_NoText_NoValue := i_NoText_NoValue, i_NoText_NoTable := i_NoText_NoTable, i_NoText_NoColumn := i_NoText_NoColumn, i_NoText_NoPlace := i_NoText_NoPlace, i_NoText_NoSize := i_NoText_NoSize, i_NoText_NoText := i_NoText_NoText, i_NoText_NoRow := i_NoText_NoRow, i_NoText_NoBack := i_NoText_NoBack, i_NoText_TooMuch := i_NoText_TooMuch, i_NoText_Ruled := i_NoText_Ruled, i_NoText_Ring := i_NoText_Ring, i_NoText_Nobody := i_NoText_Nobody, i_NoText_Several := i_NoText_Several }⟩,
  t_Rule := ⟨C_Rule, { c := PySem.W.mg_of X G a_Rule, cl := ⟨pg_Rule, hd_Rule, po_Rule, sa_Rule⟩, mks := mk_Rule, kc := kc_Rule, hc := hc_Rule, n_function := na_Rule_function, m_init := mth_mk a_Rule_init j_Rule_init l_Rule_init c_Rule_init k_Rule_init, v_init := ⟨vg_Rule_init, _, _, vr_Rule_init, vf_Rule_init, a_Rule_init⟩ }⟩,
  t_Cells := ⟨C_Cells, { c := PySem.W.mg_of X G a_Cells, cl := ⟨pg_Cells, hd_Cells, po_Cells, sa_Cells⟩, mks := mk_Cells, kc := kc_Cells, hc := hc_Cells, n_function := na_Cells_function, n_names := na_Cells_names, m_init := mth_mk a_Cells_init j_Cells_init l_Cells_init c_Cells_init k_Cells_init, m_leans := mth_mk a_Cells_leans j_Cells_leans l_Cells_leans c_Cells_leans k_Cells_leans }⟩,
  t_Above := ⟨C_Above, { c := PySem.W.mg_of X G a_Above, cl := ⟨pg_Above, hd_Above, po_Above, sa_Above⟩, mks := mk_Above, kc := kc_Above, hc := hc_Above, n_function := na_Above_function, n_names := na_Above_names, n_first := na_Above_first, m_init := mth_mk a_Above_init j_Above_init l_Above_init c_Above_init k_Above_init, m_leans := mth_mk a_Above_leans j_Above_leans l_Above_leans c_Above_leans k_Above_leans }⟩,
  t_Group := ⟨C_Group, { c := PySem.W.mg_of X G a_Group, cl := ⟨pg_Group, hd_Group, po_Group, sa_Group⟩, mks := mk_Group, kc := kc_Group, hc := hc_Group, n_function := na_Group_function, n_key := na_Group_key, n_name := na_Group_name, m_init := mth_mk a_Group_init j_Group_init l_Group_init c_Group_init k_Group_init, m_leans := mth_mk a_Group_leans j_Group_leans l_Group_leans c_Group_leans k_Group_leans }⟩,
  t_Lookup := ⟨C_Lookup, { c := PySem.W.mg_of X G a_Lookup, cl := ⟨pg_Lookup, hd_Lookup, po_Lookup, sa_Lookup⟩, mks := mk_Lookup, kc := kc_Lookup, hc := hc_Lookup, n_function := na_Lookup_function, n_key := na_Lookup_key, n_other := na_Lookup_other, n_theirs := na_Lookup_theirs, n_names := na_Lookup_names, m_init := mth_mk a_Lookup_init j_Lookup_init l_Lookup_init c_Lookup_init k_Lookup_init, m_leans := mth_mk a_Lookup_leans j_Lookup_leans l_Lookup_leans c_Lookup_leans k_Lookup_leans }⟩,
  t_Mend := ⟨C_Mend, { c := PySem.W.mg_of X G a_Mend, cl := ⟨pg_Mend, hd_Mend, po_Mend, sa_Mend⟩, mks := mk_Mend, kc := kc_Mend, hc := hc_Mend, n_function := na_Mend_function, n_name := na_Mend_name, m_init := mth_mk a_Mend_init j_Mend_init l_Mend_init c_Mend_init k_Mend_init, m_leans := mth_mk a_Mend_leans j_Mend_leans l_Mend_leans c_Mend_leans k_Mend_leans }⟩ }, { g_OF_GROUPS := ⟨_, PySem.W.mg_of X G i_OF_GROUPS, ⟨⟨_, _, j_OF_GROUPS, dk_OF_GROUPS⟩, lo_OF_GROUPS⟩, fun z hz => ns_absent j_OF_GROUPS dk_OF_GROUPS dq_OF_GROUPS hz, ⟨_, PySem.W.mg_of X G a_sum_of, dv_OF_GROUPS_sum⟩, ⟨_, PySem.W.mg_of X G a_most_of, dv_OF_GROUPS_most⟩, ⟨_, PySem.W.mg_of X G a_least_of, dv_OF_GROUPS_least⟩, ⟨_, PySem.W.mg_of X G a_how_many, dv_OF_GROUPS_many⟩⟩, g_KINDS := ⟨_, PySem.W.mg_of X G i_KINDS, ⟨⟨_, _, j_KINDS, dk_KINDS⟩, lo_KINDS⟩, fun z hz => ns_absent j_KINDS dk_KINDS dq_KINDS hz, ⟨_, PySem.W.mg_of X G a_read_cells, dv_KINDS_cells⟩, ⟨_, PySem.W.mg_of X G a_read_above, dv_KINDS_above⟩, ⟨_, PySem.W.mg_of X G a_read_group, dv_KINDS_group⟩, ⟨_, PySem.W.mg_of X G a_read_lookup, dv_KINDS_lookup⟩, ⟨_, PySem.W.mg_of X G a_read_mend, dv_KINDS_mend⟩⟩ }⟩
theorem walk {l : PySem.W.OpenLaw} {q : Program} {loose : List Str} {XP : (Str → Option Value) → Heap → Prop} {YP : World → Heap → Prop} {d : DefRec} {K : Params → PySem.W.Frag} (hn : l.most = some 63) (hdf : d.params.defaults = []) (hdn : d.name = "law")
    (hY : ∀ (w : World) (h : Heap), YP w h → (K w.params).In h)
    (recs : ((PyProof.Rows.recsOf q).find? (fun e => e.name == ("function_of" : Str))).isSome = true ∧ ((PyProof.Rows.recsOf q).find? (fun e => e.name == ("read_mend" : Str))).isSome = true)
    (F : ∀ (w : World) (mg : Str → Option Value) (h : Heap), (K w.params).In h → h.Ns mainGlobals mg → Tops (K w.params) mg ∧ Dcs w.params (K w.params) mg) :
    PySem.W.WalkO q loose XP YP l.row.toRowW d [] (fun f vs => PySem.call f vs) :=
  L2.walk_ofC (n := 63) (k := 14) (x := "_law_script") (CX := fun _ => CX0) (sp := fun w tabs => spLaw (K w.params) tabs) hn (by decide) hdf ⟨rfl, by decide, by decide⟩ hY
    (fun w mg fa h KX G hmg => by
      obtain ⟨T, TD⟩ := F w mg h KX G
      obtain ⟨f, fd, F4, hm⟩ := T.d_law.ex
      rw [hdn] at hmg
      have e := hmg.symm.trans hm
      cases e
      obtain ⟨z_function_of, z_read_mend, B_function_of, B_read_mend, ne_function_of_read_mend⟩ := T.bs
      obtain ⟨r_function_of, r_read_mend⟩ := recs
      refine ⟨T.notabs, [z_function_of, z_read_mend], fun z hz => ?_, fd, fun s u => ?_, fun base kb nb mk => ?_⟩
      · simp only [List.mem_cons, List.not_mem_nil, or_false] at hz
        rcases hz with rfl | rfl
        · exact ⟨⟨_, r_function_of, B_function_of.tab⟩⟩
        · exact ⟨⟨_, r_read_mend, B_read_mend.tab⟩⟩
      · obtain ⟨oc, od, kV, doc, pm, an, cdv, ct, osl, rfl, _⟩ := F4.ex
        exact .of_eq rfl
      · exact ok_law T TD B_function_of (mk _ (by simp)) B_read_mend (mk _ (by simp)) ne_function_of_read_mend F4)
    (fun _ _ _ a ns hl hT hS => ⟨a, ns, rfl, hS, hl, hT, fun _ hT' => ⟨rfl, hT'⟩⟩) fun _ _ _ _ _ z => z
end My
def PySem.W.Fast.tw7959981185999547131 : Unit := ()
def PySem.W.Fast.tw13513728238424934317 : Unit := ()
def PySem.W.Fast.tw12801469432452674376 : Unit := ()
def PySem.W.Fast.tw10984200150366405487 : Unit := ()
def PySem.W.Fast.tw17593759886222593320 : Unit := ()
def PySem.W.Fast.tw7856758772398656243 : Unit := ()
def PySem.W.Fast.tw14757859714520934997 : Unit := ()
def PySem.W.Fast.tw18092373515028131785 : Unit := ()
def PySem.W.Fast.tw7634723549952947541 : Unit := ()
def PySem.W.Fast.tw14842922489712641097 : Unit := ()
def PySem.W.Fast.tw14717156731339238213 : Unit := ()
def PySem.W.Fast.tw5031623917026050542 : Unit := ()
def PySem.W.Fast.tw13268676577265679920 : Unit := ()
def PySem.W.Fast.tw885363409061789732 : Unit := ()
def PySem.W.Fast.tw13346982709646983952 : Unit := ()
def PySem.W.Fast.tw633543836803928837 : Unit := ()
def PySem.W.Fast.tw10200376565714857221 : Unit := ()
def PySem.W.Fast.tw18008418406743680811 : Unit := ()
def PySem.W.Fast.tw1621571191608877648 : Unit := ()
def PySem.W.Fast.tw15093830405488058766 : Unit := ()
def PySem.W.Fast.tw1602326673629675679 : Unit := ()
def PySem.W.Fast.tw14637934196957746704 : Unit := ()
def PySem.W.Fast.tw18374844052117739415 : Unit := ()
def PySem.W.Fast.tw15354367857137474496 : Unit := ()
def PySem.W.Fast.tw14318274520721213192 : Unit := ()
def PySem.W.Fast.tw4525224773395384654 : Unit := ()
def PySem.W.Fast.tw14696856270348326168 : Unit := ()
def PySem.W.Fast.tw630743848548109346 : Unit := ()
def PySem.W.Fast.tw12589533230140191850 : Unit := ()
def PySem.W.Fast.tw4478394231333167462 : Unit := ()
def PySem.W.Fast.tw440552425148939397 : Unit := ()
def PySem.W.Fast.tw11617058435165562436 : Unit := ()
def PySem.W.Fast.tw6355503819237203416 : Unit := ()
def PySem.W.Fast.tw1480007728599838186 : Unit := ()
def PySem.W.Fast.tw13938563895868390779 : Unit := ()
def PySem.W.Fast.tw18052937227351389571 : Unit := ()
def PySem.W.Fast.tw13089197441111282888 : Unit := ()
def PySem.W.Fast.tw2548401745726458228 : Unit := ()
def PySem.W.Fast.tw10005346283076643190 : Unit := ()
def PySem.W.Fast.tw11018646838815016228 : Unit := ()
def PySem.W.Fast.tw3708345644644831836 : Unit := ()
def PySem.W.Fast.tw2273954950264019148 : Unit := ()
def PySem.W.Fast.tw8202240643605107298 : Unit := ()
def PySem.W.Fast.tw4050270365649305997 : Unit := ()
def PySem.W.Fast.tw16960016275254613841 : Unit := ()
def PySem.W.Fast.tw7487060580641135579 : Unit := ()
def PySem.W.Fast.tw6207755121293698785 : Unit := ()
def PySem.W.Fast.tw10104873294750404444 : Unit := ()
def PySem.W.Fast.tw17853079177216036850 : Unit := ()
def PySem.W.Fast.tw17634480098061651360 : Unit := ()
def PySem.W.Fast.tw733954581355349719 : Unit := ()
def PySem.W.Fast.tw2578507882428197010 : Unit := ()
def PySem.W.Fast.tw5082676378190566261 : Unit := ()
def PySem.W.Fast.tw13821693043059417468 : Unit := ()
def PySem.W.Fast.tw15039252856060643679 : Unit := ()
def PySem.W.Fast.tw6743486961888830283 : Unit := ()
def PySem.W.Fast.tw3537741399665427619 : Unit := ()
def PySem.W.Fast.tw9379294895590552151 : Unit := ()
def PySem.W.Fast.tw3788837977217363426 : Unit := ()
def PySem.W.Fast.tw13508766811332921046 : Unit := ()
def PySem.W.Fast.tw14217323577262138392 : Unit := ()
def PySem.W.Fast.tw13191890651040715015 : Unit := ()
def PySem.W.Fast.tw14366981028386575418 : Unit := ()
def PySem.W.Fast.tw17647855648484956588 : Unit := ()
def PySem.W.Fast.tw9578204803265614495 : Unit := ()
def PySem.W.Fast.tw17901187914624256504 : Unit := ()
def PySem.W.Fast.tw1816116923282310180 : Unit := ()
def PySem.W.Fast.tw15879426750780659284 : Unit := ()
def PySem.W.Fast.tw10058741593201450107 : Unit := ()
def PySem.W.Fast.tw11192760169958913380 : Unit := ()
def PySem.W.Fast.tw9436528979288528010 : Unit := ()
def PySem.W.Fast.tw3146814719791045643 : Unit := ()
def PySem.W.Fast.tw8989493517847947157 : Unit := ()
def PySem.W.Fast.tw13691085074796736429 : Unit := ()
def PySem.W.Fast.tw10575983980847758279 : Unit := ()
def PySem.W.Fast.tw14470517568132388527 : Unit := ()
def PySem.W.Fast.tw11336226919345113440 : Unit := ()
def PySem.W.Fast.tw12801518907877128637 : Unit := ()
def PySem.W.Fast.tw11960726844694912438 : Unit := ()
def PySem.W.Fast.tw432003180357578624 : Unit := ()
def PySem.W.Fast.tw9531199805771021789 : Unit := ()
def PySem.W.Fast.tw10195864208832129264 : Unit := ()
def PySem.W.Fast.tw2726686534593909938 : Unit := ()
def PySem.W.Fast.tw17640195791507196383 : Unit := ()
def PySem.W.Fast.tw9721533437441344504 : Unit := ()
def PySem.W.Fast.tw9282807512378107009 : Unit := ()
def PySem.W.Fast.tw10289595721261269620 : Unit := ()
def PySem.W.Fast.tw4789802121958068141 : Unit := ()
def PySem.W.Fast.tw14349247066087372262 : Unit := ()
def PySem.W.Fast.tw1082980189358071899 : Unit := ()
def PySem.W.Fast.tw17905377440042750719 : Unit := ()
def PySem.W.Fast.tw14080652134674502725 : Unit := ()
def PySem.W.Fast.tw15938827595226411716 : Unit := ()
def PySem.W.Fast.tw5885505589062841714 : Unit := ()
def PySem.W.Fast.tw17048444861741810828 : Unit := ()
def PySem.W.Fast.tw11894739905646159846 : Unit := ()
def PySem.W.Fast.tw7385011618208899014 : Unit := ()
def PySem.W.Fast.tw13409210093212272945 : Unit := ()
def PySem.W.Fast.tw17704453109692543067 : Unit := ()
def PySem.W.Fast.tw12814831756600451604 : Unit := ()
def PySem.W.Fast.tw8727336066455414042 : Unit := ()
def PySem.W.Fast.tw12809248830025136057 : Unit := ()
def PySem.W.Fast.tw2661772594826350332 : Unit := ()
def PySem.W.Fast.tw15290132555187592932 : Unit := ()
def PySem.W.Fast.tw6212430869496960978 : Unit := ()
def PySem.W.Fast.tw7288428346114646363 : Unit := ()
def PySem.W.Fast.tw17960493160992593147 : Unit := ()
def PySem.W.Fast.tw6102587919789877609 : Unit := ()
def PySem.W.Fast.tw18146822931404463369 : Unit := ()
def PySem.W.Fast.tw1951484082712636571 : Unit := ()
def PySem.W.Fast.tw8720866352416909430 : Unit := ()
def PySem.W.Fast.tw18073822997708309784 : Unit := ()
def PySem.W.Fast.tw166755083505971933 : Unit := ()
def PySem.W.Fast.tw4809271938591907266 : Unit := ()
def PySem.W.Fast.tw9388938963291298848 : Unit := ()
def PySem.W.Fast.tw4051991009629901040 : Unit := ()
def PySem.W.Fast.tw6496180368021832924 : Unit := ()
def PySem.W.Fast.tw2857359013345523626 : Unit := ()
def PySem.W.Fast.tw16026994670447993537 : Unit := ()
def PySem.W.Fast.tw4725481556493943689 : Unit := ()
def PySem.W.Fast.tw12753834454406446558 : Unit := ()
def PySem.W.Fast.tw15798469612397093793 : Unit := ()
def PySem.W.Fast.tw11398699579069919560 : Unit := ()
def PySem.W.Fast.tw8364141741631579171 : Unit := ()
def PySem.W.Fast.tw8437244612010763456 : Unit := ()
def PySem.W.Fast.tw5157114656351982640 : Unit := ()
def PySem.W.Fast.tw14406562029424325548 : Unit := ()
def PySem.W.Fast.tw4003537793006525569 : Unit := ()
def PySem.W.Fast.tw11701294649060396408 : Unit := ()
def PySem.W.Fast.tw13311800943936157979 : Unit := ()
def PySem.W.Fast.tw13199057946430812879 : Unit := ()
def PySem.W.Fast.tw5645740103484776559 : Unit := ()
def PySem.W.Fast.tw939140741612666097 : Unit := ()
def PySem.W.Fast.tw8068845187369772169 : Unit := ()
def PySem.W.Fast.tw13173395169357086081 : Unit := ()
def PySem.W.Fast.tw14565372214110775130 : Unit := ()
def PySem.W.Fast.tw15381436125860468149 : Unit := ()
def PySem.W.Fast.tw14902558774826364540 : Unit := ()
def PySem.W.Fast.tw484696253495046252 : Unit := ()
def PySem.W.Fast.tw16701132384385964346 : Unit := ()
def PySem.W.Fast.tw18302655545012469213 : Unit := ()
def PySem.W.Fast.tw11807943328886055676 : Unit := ()
def PySem.W.Fast.tw10934489933378082414 : Unit := ()
def PySem.W.Fast.tw15954807730389603637 : Unit := ()
def PySem.W.Fast.tw15843092167062559295 : Unit := ()
def PySem.W.Fast.tw13175898644311112340 : Unit := ()
def PySem.W.Fast.tw11729143689568170197 : Unit := ()
def PySem.W.Fast.tw15266226139545912972 : Unit := ()
def PySem.W.Fast.tw134629018219285422 : Unit := ()
def PySem.W.Fast.tw12474985013339047201 : Unit := ()
def PySem.W.Fast.tw2924182861213331444 : Unit := ()
def PySem.W.Fast.tw390709399420089508 : Unit := ()
def PySem.W.Fast.tw6738875631564359032 : Unit := ()
def PySem.W.Fast.tw5698365458343675530 : Unit := ()
def PySem.W.Fast.tw1076583794047589886 : Unit := ()
def PySem.W.Fast.tw5163805441723414274 : Unit := ()
def PySem.W.Fast.tw16362786951936523455 : Unit := ()
def PySem.W.Fast.tw9992260359138790321 : Unit := ()
def PySem.W.Fast.tw16926322083133464378 : Unit := ()
def PySem.W.Fast.tw4241398945318424483 : Unit := ()
def PySem.W.Fast.tw16218923063183519185 : Unit := ()
def PySem.W.Fast.tw17517633433921910745 : Unit := ()
def PySem.W.Fast.tw16994608516775819027 : Unit := ()
def PySem.W.Fast.tw2785560092382283995 : Unit := ()
def PySem.W.Fast.tw17100265323199857764 : Unit := ()
def PySem.W.Fast.tw4848727493156116348 : Unit := ()
def PySem.W.Fast.tw4950881661838133188 : Unit := ()
def PySem.W.Fast.tw4887858396591160411 : Unit := ()
def PySem.W.Fast.tw13970825710648971054 : Unit := ()
def PySem.W.Fast.tw11661134901063824649 : Unit := ()
def PySem.W.Fast.tw7233469274969532426 : Unit := ()
def PySem.W.Fast.tw12253844300199688712 : Unit := ()
def PySem.W.Fast.tw563298202732304897 : Unit := ()
def PySem.W.Fast.tw14081125859741815284 : Unit := ()
def PySem.W.Fast.tw9268646773484260880 : Unit := ()
def PySem.W.Fast.tw13217689064662859274 : Unit := ()
def PySem.W.Fast.tw17058025781408653268 : Unit := ()
def PySem.W.Fast.tw3065644999570571833 : Unit := ()
def PySem.W.Fast.tw10171177176365274763 : Unit := ()
def PySem.W.Fast.tw8206334100458530884 : Unit := ()
def PySem.W.Fast.tw3793969160107212756 : Unit := ()
def PySem.W.Fast.tw11183335252675237304 : Unit := ()
def PySem.W.Fast.tw12488244479458982698 : Unit := ()
def PySem.W.Fast.tw14000957265642623389 : Unit := ()
def PySem.W.Fast.tw15034543771268644104 : Unit := ()
def PySem.W.Fast.tw205457989366293882 : Unit := ()
def PySem.W.Fast.tw17739688930208415606 : Unit := ()
def PySem.W.Fast.tw10905233023703106219 : Unit := ()
def PySem.W.Fast.tw16004672808607488876 : Unit := ()
def PySem.W.Fast.tw17958621484668068527 : Unit := ()
def PySem.W.Fast.tw17048435256878981686 : Unit := ()
def PySem.W.Fast.tw11767184013886154608 : Unit := ()
def PySem.W.Fast.tw6045545613500060961 : Unit := ()
def PySem.W.Fast.tw3006010638473811935 : Unit := ()
def PySem.W.Fast.tw14276927257797623184 : Unit := ()
def PySem.W.Fast.tw13606839705354241689 : Unit := ()
def PySem.W.Fast.tw14954068029286282001 : Unit := ()
def PySem.W.Fast.tw10697559800976560375 : Unit := ()
def PySem.W.Fast.tw7712380087264966150 : Unit := ()
def PySem.W.Fast.tw17750208398398626419 : Unit := ()
def PySem.W.Fast.tw8824750155941354090 : Unit := ()
def PySem.W.Fast.tw9671910071432812617 : Unit := ()
def PySem.W.Fast.tw5793195344781702952 : Unit := ()
def PySem.W.Fast.tw11317199315352711919 : Unit := ()
def PySem.W.Fast.tw16508896024777506793 : Unit := ()
def PySem.W.Fast.tw2411466780570944645 : Unit := ()
def PySem.W.Fast.tw11829278134430746219 : Unit := ()
def PySem.W.Fast.tw25097000458585313 : Unit := ()
def PySem.W.Fast.tw14835921124001721927 : Unit := ()
def PySem.W.Fast.tw14937084294231771428 : Unit := ()
def PySem.W.Fast.tw3898418693247769783 : Unit := ()
def PySem.W.Fast.tw5088017053717417344 : Unit := ()
def PySem.W.Fast.tw5483813567639953236 : Unit := ()
def PySem.W.Fast.tw552677056413651744 : Unit := ()
def PySem.W.Fast.tw13190822211101346836 : Unit := ()
def PySem.W.Fast.tw6788231865681795086 : Unit := ()
def PySem.W.Fast.tw16263734167823230510 : Unit := ()
def PySem.W.Fast.tw7665075969691982053 : Unit := ()
def PySem.W.Fast.tw8018252102149434803 : Unit := ()
def PySem.W.Fast.tw14532462665324866131 : Unit := ()
def PySem.W.Fast.tw17533107182335189164 : Unit := ()
def PySem.W.Fast.tw3176137828250610378 : Unit := ()
def PySem.W.Fast.tw1985288509093714097 : Unit := ()
def PySem.W.Fast.tw11194196795551569379 : Unit := ()
def PySem.W.Fast.tw6550439993587448807 : Unit := ()
def PySem.W.Fast.tw1333440871259657513 : Unit := ()
def PySem.W.Fast.tw10387222193500169222 : Unit := ()
def PySem.W.Fast.tw16102300796801666196 : Unit := ()
def PySem.W.Fast.tw11978283973978265337 : Unit := ()
def PySem.W.Fast.tw15297650739243509744 : Unit := ()
def PySem.W.Fast.tw13493397588563099309 : Unit := ()
def PySem.W.Fast.tw5946183834184005742 : Unit := ()
def PySem.W.Fast.tw8928608331255785152 : Unit := ()
def PySem.W.Fast.tw10460749176789061707 : Unit := ()
def PySem.W.Fast.tw15002886757328792103 : Unit := ()
def PySem.W.Fast.tw4930573021339955027 : Unit := ()
def PySem.W.Fast.tw15733726596548664806 : Unit := ()
def PySem.W.Fast.tw18170822382002490876 : Unit := ()
def PySem.W.Fast.tw10878564663866644900 : Unit := ()
def PySem.W.Fast.tw2641091705067728444 : Unit := ()
def PySem.W.Fast.tw8986490509050138245 : Unit := ()
def PySem.W.Fast.tw5110629379933484779 : Unit := ()
def PySem.W.Fast.tw6272913476091067626 : Unit := ()
def PySem.W.Fast.tw14092260237703861711 : Unit := ()
def PySem.W.Fast.tw1117383484138619405 : Unit := ()
def PySem.W.Fast.tw8519045618880312138 : Unit := ()
def PySem.W.Fast.tw7968127563038500407 : Unit := ()
def PySem.W.Fast.tw1617249397508336267 : Unit := ()
def PySem.W.Fast.tw12755558414423664106 : Unit := ()
def PySem.W.Fast.tw4942194069201217705 : Unit := ()
def PySem.W.Fast.tw12696092524882832350 : Unit := ()
def PySem.W.Fast.tw8183311980408545248 : Unit := ()
def PySem.W.Fast.tw16055883498877813293 : Unit := ()
def PySem.W.Fast.tw6760113991899547569 : Unit := ()
def PySem.W.Fast.tw14992935934216069724 : Unit := ()
def PySem.W.Fast.tw15090544042100996355 : Unit := ()
def PySem.W.Fast.tw5684058896149254100 : Unit := ()
def PySem.W.Fast.tw18037523303348099865 : Unit := ()
def PySem.W.Fast.tw1027105829302660438 : Unit := ()
def PySem.W.Fast.tw1272317947659799414 : Unit := ()
def PySem.W.Fast.tw3915719749702063058 : Unit := ()
def PySem.W.Fast.tw13954821345946168183 : Unit := ()
def PySem.W.Fast.tw11411714797116984741 : Unit := ()
def PySem.W.Fast.tw1118531676690752995 : Unit := ()
def PySem.W.Fast.tw12072335731336567266 : Unit := ()
def PySem.W.Fast.tw12092827344805173390 : Unit := ()
def PySem.W.Fast.tw2501041852406463152 : Unit := ()
def PySem.W.Fast.tw7033474978378363082 : Unit := ()
def PySem.W.Fast.tw6910372743320389513 : Unit := ()
def PySem.W.Fast.tw1045611024373893518 : Unit := ()
def PySem.W.Fast.tw13434033315769290628 : Unit := ()
def PySem.W.Fast.tw4747355797671572258 : Unit := ()
def PySem.W.Fast.tw5029481363308283935 : Unit := ()
def PySem.W.Fast.tw6405718212282303078 : Unit := ()
def PySem.W.Fast.tw3260439568543008297 : Unit := ()
def PySem.W.Fast.tw5025931580423296708 : Unit := ()
def PySem.W.Fast.tw2160722161613206236 : Unit := ()
def PySem.W.Fast.tw9428531065559716274 : Unit := ()
def PySem.W.Fast.tw5501310176531805707 : Unit := ()
def PySem.W.Fast.tw12686642847476977119 : Unit := ()
def PySem.W.Fast.tw14089350529482084688 : Unit := ()
def PySem.W.Fast.tw3708911603515367663 : Unit := ()
def PySem.W.Fast.tw13239062877271573401 : Unit := ()
def PySem.W.Fast.tw18273755466603256769 : Unit := ()
def PySem.W.Fast.tw8284690339861771305 : Unit := ()
def PySem.W.Fast.tw9346356073645479426 : Unit := ()
def PySem.W.Fast.tw1768598923882411230 : Unit := ()
def PySem.W.Fast.tw13208337939921061355 : Unit := ()
def PySem.W.Fast.tw4446209536956324353 : Unit := ()
def PySem.W.Fast.tw18042745468233933844 : Unit := ()
def PySem.W.Fast.tw18008329831105960885 : Unit := ()
def PySem.W.Fast.tw8865247705275989187 : Unit := ()
def PySem.W.Fast.tw11372806608282673774 : Unit := ()
def PySem.W.Fast.tw17843608327948417338 : Unit := ()
def PySem.W.Fast.tw6310092427979312046 : Unit := ()
def PySem.W.Fast.tw17935529991007253734 : Unit := ()
def PySem.W.Fast.tw15291704461430285585 : Unit := ()
def PySem.W.Fast.tw285781027284919533 : Unit := ()
def PySem.W.Fast.tw17698164106816120087 : Unit := ()
def PySem.W.Fast.tw9753372434957971098 : Unit := ()
def PySem.W.Fast.tw14538337401167722137 : Unit := ()
def PySem.W.Fast.tw4047296434546180800 : Unit := ()
def PySem.W.Fast.tw3628913069610801206 : Unit := ()
def PySem.W.Fast.tw17740984206760557756 : Unit := ()
def PySem.W.Fast.tw8349020444520433597 : Unit := ()
def PySem.W.Fast.tw12191124543427497972 : Unit := ()
def PySem.W.Fast.tw11545202173229843103 : Unit := ()
def PySem.W.Fast.tw12469497705230739677 : Unit := ()
def PySem.W.Fast.tw14731896855003920248 : Unit := ()
def PySem.W.Fast.tw17421248974204544029 : Unit := ()
def PySem.W.Fast.tw7205958013435347354 : Unit := ()
def PySem.W.Fast.tw16912783953105717836 : Unit := ()
def PySem.W.Fast.tw16571863547929841553 : Unit := ()
def PySem.W.Fast.tw12514406386654640516 : Unit := ()
def PySem.W.Fast.tw3795756644263492350 : Unit := ()
def PySem.W.Fast.tw12179689276413347240 : Unit := ()
def PySem.W.Fast.tw13023584611615905792 : Unit := ()
def PySem.W.Fast.tw17292621541196173037 : Unit := ()
def PySem.W.Fast.tw17484235961316124899 : Unit := ()
def PySem.W.Fast.tw12584506058315096438 : Unit := ()
def PySem.W.Fast.tw3692650747427249089 : Unit := ()
def PySem.W.Fast.tw15993199030579753642 : Unit := ()
def PySem.W.Fast.tw10924994577702892392 : Unit := ()
def PySem.W.Fast.tw7401971310703450495 : Unit := ()
def PySem.W.Fast.tw5900684328412320147 : Unit := ()
def PySem.W.Fast.tw15556479499350646857 : Unit := ()
def PySem.W.Fast.tw6082586542283035915 : Unit := ()
def PySem.W.Fast.tw3230680466656481710 : Unit := ()
def PySem.W.Fast.tw11464316739266239084 : Unit := ()
def PySem.W.Fast.tw5916659456026940617 : Unit := ()
def PySem.W.Fast.tw16315613318932227618 : Unit := ()
def PySem.W.Fast.tw1011723494499840775 : Unit := ()
def PySem.W.Fast.tw10619428236308637045 : Unit := ()
def PySem.W.Fast.tw10450091578695044770 : Unit := ()
def PySem.W.Fast.tw4664156442759485958 : Unit := ()
def PySem.W.Fast.tw3195495129467252802 : Unit := ()
def PySem.W.Fast.tw2952979637762886516 : Unit := ()
def PySem.W.Fast.tw16150715067760767184 : Unit := ()
def PySem.W.Fast.tw11004785768891174038 : Unit := ()
def PySem.W.Fast.tw10487574277097848696 : Unit := ()
def PySem.W.Fast.tw14576469427383326775 : Unit := ()
def PySem.W.Fast.tw12319198232837045471 : Unit := ()
def PySem.W.Fast.tw9473111711122986998 : Unit := ()
def PySem.W.Fast.tw17086532812331007476 : Unit := ()
def PySem.W.Fast.tw12805213849825481017 : Unit := ()
def PySem.W.Fast.tw12591619418567212390 : Unit := ()
def PySem.W.Fast.tw12027460410045789042 : Unit := ()
def PySem.W.Fast.tw15327304737912240207 : Unit := ()
def PySem.W.Fast.tw12205576210792785824 : Unit := ()
def PySem.W.Fast.tw16050767772794790792 : Unit := ()
def PySem.W.Fast.tw9335535266756319542 : Unit := ()
def PySem.W.Fast.tw6292861165016166174 : Unit := ()
def PySem.W.Fast.tw7218708456747031785 : Unit := ()
def PySem.W.Fast.tw2880669684739721017 : Unit := ()
def PySem.W.Fast.tw3796407776144816214 : Unit := ()
def PySem.W.Fast.tw8947535007943495812 : Unit := ()
def PySem.W.Fast.tw10119055822172562840 : Unit := ()
def PySem.W.Fast.tw2440957454502558499 : Unit := ()
def PySem.W.Fast.tw12895396647422737303 : Unit := ()
def PySem.W.Fast.tw2981094647873296703 : Unit := ()
def PySem.W.Fast.tw12662179686171592653 : Unit := ()
def PySem.W.Fast.tw12210210002217529142 : Unit := ()
def PySem.W.Fast.tw4857210527863719851 : Unit := ()
def PySem.W.Fast.tw18430913845583105966 : Unit := ()
def PySem.W.Fast.tw3600383320816695496 : Unit := ()
def PySem.W.Fast.tw16795972087301452224 : Unit := ()
def PySem.W.Fast.tw1582754569745521677 : Unit := ()
def PySem.W.Fast.tw4253698155283155509 : Unit := ()
def PySem.W.Fast.tw7211450639923925035 : Unit := ()
def PySem.W.Fast.tw16135608412895043027 : Unit := ()
def PySem.W.Fast.tw5688921081441226489 : Unit := ()
def PySem.W.Fast.tw3411846796757022009 : Unit := ()
def PySem.W.Fast.tw10271346157782519557 : Unit := ()
def PySem.W.Fast.tw7053481615337510062 : Unit := ()
def PySem.W.Fast.tw7158139083722070990 : Unit := ()
def PySem.W.Fast.tw18148179828108704717 : Unit := ()
def PySem.W.Fast.tw18114985245504294936 : Unit := ()
def PySem.W.Fast.tw16560868627397044933 : Unit := ()
def PySem.W.Fast.tw8011510870182614078 : Unit := ()
def PySem.W.Fast.tw11716979973007808518 : Unit := ()
def PySem.W.Fast.tw2204439583488552240 : Unit := ()
def PySem.W.Fast.tw11545458403670152111 : Unit := ()
def PySem.W.Fast.tw11882718599650975379 : Unit := ()
def PySem.W.Fast.tw6914087217125713448 : Unit := ()
def PySem.W.Fast.tw4327715002630785795 : Unit := ()
def PySem.W.Fast.tw6900250469480308660 : Unit := ()
def PySem.W.Fast.tw10512697055677237960 : Unit := ()
def PySem.W.Fast.tw3131005342416515930 : Unit := ()
def PySem.W.Fast.tw7914642672679098647 : Unit := ()
def PySem.W.Fast.tw1395206345307292096 : Unit := ()
def PySem.W.Fast.tw10436347195229182061 : Unit := ()
def PySem.W.Fast.tw3862606117587743752 : Unit := ()
def PySem.W.Fast.tw13102180326235920066 : Unit := ()
def PySem.W.Fast.tw3527159982857386056 : Unit := ()
def PySem.W.Fast.tw12992694808395174063 : Unit := ()
def PySem.W.Fast.tw5594352223932267049 : Unit := ()
def PySem.W.Fast.tw6763800231897692906 : Unit := ()
def PySem.W.Fast.tw1445010075635416941 : Unit := ()
def PySem.W.Fast.tw291044325394796336 : Unit := ()
def PySem.W.Fast.tw17342349843733087998 : Unit := ()
def PySem.W.Fast.tw4757092332627597696 : Unit := ()
def PySem.W.Fast.tw16432504472826603091 : Unit := ()
def PySem.W.Fast.tw2538968680323893968 : Unit := ()
def PySem.W.Fast.tw13006950185806771323 : Unit := ()
def PySem.W.Fast.tw12358216507104778541 : Unit := ()
def PySem.W.Fast.tw846225594653585404 : Unit := ()
def PySem.W.Fast.tw16562771630865960628 : Unit := ()
def PySem.W.Fast.tw15981952877346409188 : Unit := ()
def PySem.W.Fast.tw393772211991942436 : Unit := ()
def PySem.W.Fast.tw4466626604070227572 : Unit := ()
def PySem.W.Fast.tw4433420694771812143 : Unit := ()
def PySem.W.Fast.tw12376050577596644764 : Unit := ()
def PySem.W.Fast.tw8168635711799272989 : Unit := ()
def PySem.W.Fast.tw3007822146393932385 : Unit := ()
def PySem.W.Fast.tw11626026388586152519 : Unit := ()
def PySem.W.Fast.tw16235809958138665985 : Unit := ()
def PySem.W.Fast.tw1176996796562629186 : Unit := ()
def PySem.W.Fast.tw16553169083300771403 : Unit := ()
def PySem.W.Fast.tw7463528425035579215 : Unit := ()
def PySem.W.Fast.tw10287099801405316299 : Unit := ()
def PySem.W.Fast.tw13318364677289438916 : Unit := ()
def PySem.W.Fast.tw2514069573481129326 : Unit := ()
def PySem.W.Fast.tw16022379614861049055 : Unit := ()
def PySem.W.Fast.tw2260427661445913098 : Unit := ()
def PySem.W.Fast.tw11856370902051557650 : Unit := ()
def PySem.W.Fast.tw5664651682247536597 : Unit := ()
def PySem.W.Fast.tw8718574840494660481 : Unit := ()
def PySem.W.Fast.tw456779180424671920 : Unit := ()
def PySem.W.Fast.tw970362692934301045 : Unit := ()
def PySem.W.Fast.tw2443068819878719846 : Unit := ()
def PySem.W.Fast.tw11783537875398041766 : Unit := ()
def PySem.W.Fast.tw14446324191100812110 : Unit := ()
def PySem.W.Fast.tw10551366396745210472 : Unit := ()
def PySem.W.Fast.tw1813063917425951241 : Unit := ()
def PySem.W.Fast.tw6415877106809286196 : Unit := ()
def PySem.W.Fast.tw1672755389117803682 : Unit := ()
def PySem.W.Fast.tw14667867402877110835 : Unit := ()
def PySem.W.Fast.tw12129113824571357790 : Unit := ()
def PySem.W.Fast.tw16051831997695547886 : Unit := ()
def PySem.W.Fast.tw16925432378255679183 : Unit := ()
def PySem.W.Fast.tw4537077885867161548 : Unit := ()
def PySem.W.Fast.tw16096810443267177620 : Unit := ()
def PySem.W.Fast.tw11530199224561311306 : Unit := ()
def PySem.W.Fast.tw18300577253379083396 : Unit := ()
def PySem.W.Fast.tw11940272541005404405 : Unit := ()
def PySem.W.Fast.tw15525276601427589527 : Unit := ()
def PySem.W.Fast.tw9125198095207455347 : Unit := ()
def PySem.W.Fast.tw7927882634988289191 : Unit := ()
def PySem.W.Fast.tw5665756308850254227 : Unit := ()
def PySem.W.Fast.tw866103860614129930 : Unit := ()
def PySem.W.Fast.tw13444922867370618292 : Unit := ()
def PySem.W.Fast.tw8178835686098997597 : Unit := ()
def PySem.W.Fast.tw142924900103670520 : Unit := ()
def PySem.W.Fast.tw15471817871181669863 : Unit := ()
def PySem.W.Fast.tw4552441117576838025 : Unit := ()
def PySem.W.Fast.tw11864195969929347237 : Unit := ()
def PySem.W.Fast.tw17825357297925492940 : Unit := ()
def PySem.W.Fast.tw4615969454693755870 : Unit := ()
def PySem.W.Fast.tw12727324014734634961 : Unit := ()
def PySem.W.Fast.tw2219940660470371968 : Unit := ()
def PySem.W.Fast.tw7851769496988684264 : Unit := ()
def PySem.W.Fast.tw16435841685020863170 : Unit := ()
def PySem.W.Fast.tw4831366785423310554 : Unit := ()
def PySem.W.Fast.tw14178572718479055363 : Unit := ()
def PySem.W.Fast.tw3614335464343755169 : Unit := ()
def PySem.W.Fast.tw11425051758984772941 : Unit := ()
def PySem.W.Fast.tw703320278167981999 : Unit := ()
def PySem.W.Fast.tw9319114516434631242 : Unit := ()
def PySem.W.Fast.tw12829439424750704777 : Unit := ()
def PySem.W.Fast.tw6902543106912052331 : Unit := ()
def PySem.W.Fast.tw16539516266739843506 : Unit := ()
def PySem.W.Fast.tw13339387286897179488 : Unit := ()
def PySem.W.Fast.tw5160477381881478377 : Unit := ()
def PySem.W.Fast.tw13725983327720851202 : Unit := ()
def PySem.W.Fast.tw11710036954604713050 : Unit := ()
def PySem.W.Fast.tw10650362327953711812 : Unit := ()
def PySem.W.Fast.tw16384647661009052824 : Unit := ()
def PySem.W.Fast.tw1280082731061879713 : Unit := ()
def PySem.W.Fast.tw14800953834154619536 : Unit := ()
def PySem.W.Fast.tw11365167362668403743 : Unit := ()
def PySem.W.Fast.tw16194034081476835693 : Unit := ()
def PySem.W.Fast.tw16269508058815813638 : Unit := ()
def PySem.W.Fast.tw13656852699280057001 : Unit := ()
def PySem.W.Fast.tw18340299001792553942 : Unit := ()
def PySem.W.Fast.tw5905984961937436375 : Unit := ()
def PySem.W.Fast.tw15451906270826199993 : Unit := ()
def PySem.W.Fast.tw16236735327677144576 : Unit := ()
def PySem.W.Fast.tw11534800636959191208 : Unit := ()
def PySem.W.Fast.tw6559078631790770309 : Unit := ()
def PySem.W.Fast.tw16394094250529717622 : Unit := ()
def PySem.W.Fast.tw5453625927806021167 : Unit := ()
def PySem.W.Fast.tw18355662293680858295 : Unit := ()
def PySem.W.Fast.tw3271828933682997907 : Unit := ()
def PySem.W.Fast.tw6477291928506393073 : Unit := ()
def PySem.W.Fast.tw1060086991280118127 : Unit := ()
def PySem.W.Fast.tw10538525499715849931 : Unit := ()
def PySem.W.Fast.tw4748376439174034421 : Unit := ()
def PySem.W.Fast.tw3355141324004332906 : Unit := ()
def PySem.W.Fast.tw17346250204868716144 : Unit := ()
def PySem.W.Fast.tw18198429297874348143 : Unit := ()
def PySem.W.Fast.tw146582566446010364 : Unit := ()
def PySem.W.Fast.tw6556287394315055002 : Unit := ()
def PySem.W.Fast.tw18353422154761796908 : Unit := ()
def PySem.W.Fast.tw7832926486473659359 : Unit := ()
def PySem.W.Fast.tw8099138746762919150 : Unit := ()
def PySem.W.Fast.tw16330931962665716564 : Unit := ()
def PySem.W.Fast.tw8788732038968900491 : Unit := ()
def PySem.W.Fast.tw15508219833647756342 : Unit := ()
def PySem.W.Fast.tw9839704107283491708 : Unit := ()
def PySem.W.Fast.tw18193173957583938409 : Unit := ()
def PySem.W.Fast.tw2751970518068398424 : Unit := ()
def PySem.W.Fast.tw12887827420695437426 : Unit := ()
def PySem.W.Fast.tw1476371067366020701 : Unit := ()
def PySem.W.Fast.tw16304908534251599681 : Unit := ()
def PySem.W.Fast.tw8603495239596103759 : Unit := ()
def PySem.W.Fast.tw4713461477886828770 : Unit := ()
def PySem.W.Fast.tw11821646683831884452 : Unit := ()
def PySem.W.Fast.tw9053032018205417188 : Unit := ()
def PySem.W.Fast.tw12089263939841331189 : Unit := ()
def PySem.W.Fast.tw8011085260878280620 : Unit := ()
def PySem.W.Fast.tw4756692771139196351 : Unit := ()
def PySem.W.Fast.tw14195815880923836789 : Unit := ()
def PySem.W.Fast.tw13310340103478425831 : Unit := ()
def PySem.W.Fast.tw11557355865036826777 : Unit := ()
def PySem.W.Fast.tw3867194914809954560 : Unit := ()
def PySem.W.Fast.tw17031761827669183110 : Unit := ()
def PySem.W.Fast.tw11627423940801913254 : Unit := ()
def PySem.W.Fast.tw5386567663269603985 : Unit := ()
def PySem.W.Fast.tw12124371828854727409 : Unit := ()
def PySem.W.Fast.tw2119379592009607983 : Unit := ()
def PySem.W.Fast.tw9671656427585401717 : Unit := ()
def PySem.W.Fast.tw6328636131891660402 : Unit := ()
def PySem.W.Fast.tw907100737110365137 : Unit := ()
def PySem.W.Fast.tw11128540815370606585 : Unit := ()
def PySem.W.Fast.tw12442482503425775950 : Unit := ()
def PySem.W.Fast.tw11500258631744973695 : Unit := ()
def PySem.W.Fast.tw6953212535217399377 : Unit := ()
def PySem.W.Fast.tw12004578433618243838 : Unit := ()
def PySem.W.Fast.tw11319660767835867736 : Unit := ()
def PySem.W.Fast.tw11345689183456547171 : Unit := ()
def PySem.W.Fast.tw1797672458283994349 : Unit := ()
def PySem.W.Fast.tw2173568974176390589 : Unit := ()
def PySem.W.Fast.tw3213921288532858364 : Unit := ()
def PySem.W.Fast.tw9957001883507951296 : Unit := ()
def PySem.W.Fast.tw3034395554989547 : Unit := ()
def PySem.W.Fast.tw7245060327079240693 : Unit := ()
def PySem.W.Fast.tw2419059978467115445 : Unit := ()
def PySem.W.Fast.tw3933505688131211577 : Unit := ()
def PySem.W.Fast.tw7315261832210223703 : Unit := ()
def PySem.W.Fast.tw9421639052551748560 : Unit := ()
def PySem.W.Fast.tw3438703395198985327 : Unit := ()
def PySem.W.Fast.tw2870365292740837716 : Unit := ()
def PySem.W.Fast.tw12104129576094600097 : Unit := ()
def PySem.W.Fast.tw10595897928263870891 : Unit := ()
def PySem.W.Fast.tw4032850734244435170 : Unit := ()
def PySem.W.Fast.tw1374855471192663817 : Unit := ()
def PySem.W.Fast.tw8799519860103747671 : Unit := ()
def PySem.W.Fast.tw8526750281070159943 : Unit := ()
def PySem.W.Fast.tw2118048744555471934 : Unit := ()
def PySem.W.Fast.tw1073940883802564451 : Unit := ()
def PySem.W.Fast.tw16885562104102775496 : Unit := ()
def PySem.W.Fast.tw74776631565728503 : Unit := ()
def PySem.W.Fast.tw12378832365461993511 : Unit := ()
def PySem.W.Fast.tw1802490554683827647 : Unit := ()
def PySem.W.Fast.tw13767604569131358351 : Unit := ()
def PySem.W.Fast.tw4368045288881126238 : Unit := ()
def PySem.W.Fast.tw6211597669054588915 : Unit := ()
def PySem.W.Fast.tw1423223300196716964 : Unit := ()
def PySem.W.Fast.tw14855938815683857603 : Unit := ()
def PySem.W.Fast.tw3161956923931731351 : Unit := ()
def PySem.W.Fast.tw6983535698929738085 : Unit := ()
def PySem.W.Fast.tw8532592286716853308 : Unit := ()
def PySem.W.Fast.tw16660850499939063926 : Unit := ()
def PySem.W.Fast.tw4871799986885124593 : Unit := ()
def PySem.W.Fast.tw3774787815980808169 : Unit := ()
def PySem.W.Fast.tw16608982845326878530 : Unit := ()
def PySem.W.Fast.tw9660591440387386922 : Unit := ()
def PySem.W.Fast.tw11876340691510114631 : Unit := ()
def PySem.W.Fast.tw16612046829429854813 : Unit := ()
def PySem.W.Fast.tw17160275379194861826 : Unit := ()
def PySem.W.Fast.tw17606760379280284922 : Unit := ()
def PySem.W.Fast.tw4561517078174794443 : Unit := ()
def PySem.W.Fast.tw13289340587774443657 : Unit := ()
def PySem.W.Fast.tw9448546897165591643 : Unit := ()
def PySem.W.Fast.tw12376782213221491576 : Unit := ()
def PySem.W.Fast.tw12824918352100061068 : Unit := ()
def PySem.W.Fast.tw18368543369809375407 : Unit := ()
def PySem.W.Fast.tw16914698044298249126 : Unit := ()
def PySem.W.Fast.tw4799265324752894424 : Unit := ()
def PySem.W.Fast.tw2172452651772468826 : Unit := ()
def PySem.W.Fast.tw10777526658150245585 : Unit := ()
def PySem.W.Fast.tw11561669513098779308 : Unit := ()
def PySem.W.Fast.tw20835002199672023 : Unit := ()
def PySem.W.Fast.tw15107377906589324033 : Unit := ()
def PySem.W.Fast.tw7390464081098502533 : Unit := ()
def PySem.W.Fast.tw12448641912190833230 : Unit := ()
def PySem.W.Fast.tw16009671589487629245 : Unit := ()
def PySem.W.Fast.tw12433548370318697545 : Unit := ()
def PySem.W.Fast.tw14487127632338959575 : Unit := ()
def PySem.W.Fast.tw10745188655176243962 : Unit := ()
def PySem.W.Fast.tw3619285129117655332 : Unit := ()
def PySem.W.Fast.tw4420555047660638503 : Unit := ()
def PySem.W.Fast.tw7718064470065414997 : Unit := ()
def PySem.W.Fast.tw9922089230532718217 : Unit := ()
def PySem.W.Fast.tw13305837374932489395 : Unit := ()
def PySem.W.Fast.tw7156700364516205273 : Unit := ()
def PySem.W.Fast.tw7962015323220601050 : Unit := ()
def PySem.W.Fast.tw1931059524640731913 : Unit := ()
def PySem.W.Fast.tw15798105727896800265 : Unit := ()
def PySem.W.Fast.tw7340478608543403561 : Unit := ()
def PySem.W.Fast.tw12669361876384485941 : Unit := ()
def PySem.W.Fast.tw2025476315940986111 : Unit := ()
def PySem.W.Fast.tw15574892389517902070 : Unit := ()
def PySem.W.Fast.tw18219828659489530938 : Unit := ()
def PySem.W.Fast.tw13800312595272626951 : Unit := ()
def PySem.W.Fast.tw2235725314487154375 : Unit := ()
def PySem.W.Fast.tw9463950697247163361 : Unit := ()
def PySem.W.Fast.tw17794733491883266453 : Unit := ()
def PySem.W.Fast.tw5210435973338060539 : Unit := ()
def PySem.W.Fast.tw16649855274194656368 : Unit := ()
def PySem.W.Fast.tw6306548788172575289 : Unit := ()
def PySem.W.Fast.tw15590881100508529683 : Unit := ()
def PySem.W.Fast.tw737847829375394440 : Unit := ()
def PySem.W.Fast.tw2745034211072513373 : Unit := ()
def PySem.W.Fast.tw11540709035966076792 : Unit := ()
def PySem.W.Fast.tw3392993827004926657 : Unit := ()
def PySem.W.Fast.tw10357419485495767665 : Unit := ()
def PySem.W.Fast.tw2835090758336577856 : Unit := ()
def PySem.W.Fast.tw9943241831612792009 : Unit := ()
def PySem.W.Fast.tw9248506867344309465 : Unit := ()
def PySem.W.Fast.tw13334500326562095113 : Unit := ()
def PySem.W.Fast.tw2459883074600632943 : Unit := ()
def PySem.W.Fast.tw5944212874156346930 : Unit := ()
def PySem.W.Fast.tw10911506074285789521 : Unit := ()
def PySem.W.Fast.tw10405864995562803488 : Unit := ()
def PySem.W.Fast.tw17043444618080006690 : Unit := ()
def PySem.W.Fast.tw12736074188620171968 : Unit := ()
def PySem.W.Fast.tw4996697573816059709 : Unit := ()
def PySem.W.Fast.tw16331739005024870458 : Unit := ()
def PySem.W.Fast.tw10386622534472910915 : Unit := ()
def PySem.W.Fast.tw15250494216531377651 : Unit := ()
def PySem.W.Fast.tw1418667980769211248 : Unit := ()
def PySem.W.Fast.tw12606264449450036562 : Unit := ()
def PySem.W.Fast.tw2041611260855334944 : Unit := ()
def PySem.W.Fast.tw12906455390981036374 : Unit := ()
def PySem.W.Fast.tw6486258867910374383 : Unit := ()
def PySem.W.Fast.tw6272196832226184789 : Unit := ()
def PySem.W.Fast.tw4702034401732447136 : Unit := ()
def PySem.W.Fast.tw3125805850928798425 : Unit := ()
def PySem.W.Fast.tw12262669385655324676 : Unit := ()
def PySem.W.Fast.tw12349255989092703939 : Unit := ()
def PySem.W.Fast.tw15060437524971003355 : Unit := ()
def PySem.W.Fast.tw7602634180729375998 : Unit := ()
def PySem.W.Fast.tw9804214116398981748 : Unit := ()
def PySem.W.Fast.tw16281713032628223078 : Unit := ()
def PySem.W.Fast.tw11280735363108889931 : Unit := ()
def PySem.W.Fast.tw5065451011074680468 : Unit := ()
open PySem PySem.W PyProof.Rows
set_option maxRecDepth 100000 in
set_option maxHeartbeats 0 in
theorem PySem.Challenge.cw_lazycols_k56_no_rules_holds : PySem.Challenge.rw_lazycols_k56_no_rules.Holds := by
  w_on; o_law; k_head; (case hw => w_witness2)
  k_fill
  refine My.walk (l := PySem.Challenge.rw_lazycols_k56_no_rules) rfl rfl rfl (fun w h Y => PySem.W.km_in_of Y) ?R ?F
  case R => first | exact rfl | decide +kernel
  case F =>
    intro w mg h KX G
    refine' My.tops_mk (PP := w.params) KX G ?n_len ?n_isinstance ?n_int ?n_bool ?n_str ?n_all ?n_range ?n_abs ?n_list ?n_tuple ?n_dict ?n_max ?n_min ?n_sum ?n_reversed ?n_zip ?n_ValueError ?i_LETTERS ?i_MOST_LETTERS ?i_MOST_NAMES ?i_FIGURES ?i_MOST_FIGURES ?i_MOST_WORDS ?i_SIGNS ?j_SIGNS ?i_NOUGHT ?j_NOUGHT ?i_GREAT ?j_GREAT ?i_UP ?a_is_whole ?l_is_whole ?c_is_whole ?k_is_whole ?a_is_number ?l_is_number ?c_is_number ?k_is_number ?a_is_name ?l_is_name ?c_is_name ?k_is_name ?a_is_fault ?l_is_fault ?c_is_fault ?k_is_fault ?a_check_name ?l_check_name ?c_check_name ?k_check_name ?a_checked_names ?l_checked_names ?c_checked_names ?k_checked_names ?a_each_once ?l_each_once ?c_each_once ?k_each_once ?a_writes_number ?l_writes_number ?c_writes_number ?k_writes_number ?a_is_reckoning ?l_is_reckoning ?c_is_reckoning ?k_is_reckoning ?a_names_in ?l_names_in ?c_names_in ?k_names_in ?a_bounded ?l_bounded ?c_bounded ?k_bounded ?a_reckoned ?l_reckoned ?c_reckoned ?k_reckoned ?a_joined ?l_joined ?c_joined ?k_joined ?a_number_of ?l_number_of ?c_number_of ?k_number_of ?a_sum_of ?l_sum_of ?c_sum_of ?k_sum_of ?a_most_of ?l_most_of ?c_most_of ?k_most_of ?a_least_of ?l_least_of ?c_least_of ?k_least_of ?a_how_many ?l_how_many ?c_how_many ?k_how_many ?a_refuse_unless ?l_refuse_unless ?c_refuse_unless ?k_refuse_unless ?a_check_names ?l_check_names ?c_check_names ?k_check_names ?a_columns_in ?l_columns_in ?c_columns_in ?k_columns_in ?a_function_of ?l_function_of ?c_function_of ?k_function_of ?w_function_of ?t_function_of ?a_read_cells ?l_read_cells ?c_read_cells ?k_read_cells ?a_read_above ?l_read_above ?c_read_above ?k_read_above ?a_read_group ?l_read_group ?c_read_group ?k_read_group ?a_read_lookup ?l_read_lookup ?c_read_lookup ?k_read_lookup ?a_read_mend ?l_read_mend ?c_read_mend ?k_read_mend ?w_read_mend ?t_read_mend ?a_read_rule ?l_read_rule ?c_read_rule ?k_read_rule ?a_law_cell ?l_law_cell ?c_law_cell ?k_law_cell ?a_law_word ?l_law_word ?c_law_word ?k_law_word ?a_law_bad_number ?l_law_bad_number ?c_law_bad_number ?k_law_bad_number ?a_law_bad_name ?l_law_bad_name ?c_law_bad_name ?k_law_bad_name ?a_law_bad_reckoning ?l_law_bad_reckoning ?c_law_bad_reckoning ?k_law_bad_reckoning ?a_law_text ?l_law_text ?c_law_text ?k_law_text ?a_law_refused ?l_law_refused ?c_law_refused ?k_law_refused ?a_law ?l_law ?c_law ?k_law ?ne_function_of_read_mend ?notabs ?q_ColsError ?q_NoName ?q_NoValue ?q_NoTable ?q_NoColumn ?q_NoPlace ?q_NoSize ?q_NoText ?q_NoRow ?q_NoBack ?q_TooMuch ?q_Ruled ?q_Ring ?q_Nobody ?q_Several ?x_NoText ?v_NoText ?wa_NoText ?wb_NoText ?wd_NoText ?we_NoText ?wf_NoText ?wc_NoText ?i_NoText_ColsError ?e_NoText_ColsError ?i_NoText_NoName ?i_NoText_NoValue ?i_NoText_NoTable ?i_NoText_NoColumn ?i_NoText_NoPlace ?i_NoText_NoSize ?i_NoText_NoText ?i_NoText_NoRow ?i_NoText_NoBack ?i_NoText_TooMuch ?i_NoText_Ruled ?i_NoText_Ring ?i_NoText_Nobody ?i_NoText_Several ?w4 ?w5 ?i_OF_GROUPS ?j_OF_GROUPS ?dk_OF_GROUPS ?lo_OF_GROUPS ?dq_OF_GROUPS ?dv_OF_GROUPS_sum ?dv_OF_GROUPS_most ?dv_OF_GROUPS_least ?dv_OF_GROUPS_many ?i_KINDS ?j_KINDS ?dk_KINDS ?lo_KINDS ?dq_KINDS ?dv_KINDS_cells ?dv_KINDS_above ?dv_KINDS_group ?dv_KINDS_lookup ?dv_KINDS_mend ?a_Rule ?pg_Rule ?hd_Rule ?po_Rule ?sa_Rule ?mk_Rule ?kc_Rule ?hc_Rule ?na_Rule_function ?a_Rule_init ?j_Rule_init ?l_Rule_init ?c_Rule_init ?k_Rule_init ?vg_Rule_init ?vr_Rule_init ?vf_Rule_init ?a_Cells ?pg_Cells ?hd_Cells ?po_Cells ?sa_Cells ?mk_Cells ?kc_Cells ?hc_Cells ?na_Cells_function ?na_Cells_names ?a_Cells_init ?j_Cells_init ?l_Cells_init ?c_Cells_init ?k_Cells_init ?a_Cells_leans ?j_Cells_leans ?l_Cells_leans ?c_Cells_leans ?k_Cells_leans ?a_Above ?pg_Above ?hd_Above ?po_Above ?sa_Above ?mk_Above ?kc_Above ?hc_Above ?na_Above_function ?na_Above_names ?na_Above_first ?a_Above_init ?j_Above_init ?l_Above_init ?c_Above_init ?k_Above_init ?a_Above_leans ?j_Above_leans ?l_Above_leans ?c_Above_leans ?k_Above_leans ?a_Group ?pg_Group ?hd_Group ?po_Group ?sa_Group ?mk_Group ?kc_Group ?hc_Group ?na_Group_function ?na_Group_key ?na_Group_name ?a_Group_init ?j_Group_init ?l_Group_init ?c_Group_init ?k_Group_init ?a_Group_leans ?j_Group_leans ?l_Group_leans ?c_Group_leans ?k_Group_leans ?a_Lookup ?pg_Lookup ?hd_Lookup ?po_Lookup ?sa_Lookup ?mk_Lookup ?kc_Lookup ?hc_Lookup ?na_Lookup_function ?na_Lookup_key ?na_Lookup_other ?na_Lookup_theirs ?na_Lookup_names ?a_Lookup_init ?j_Lookup_init ?l_Lookup_init ?c_Lookup_init ?k_Lookup_init ?a_Lookup_leans ?j_Lookup_leans ?l_Lookup_leans ?c_Lookup_leans ?k_Lookup_leans ?a_Mend ?pg_Mend ?hd_Mend ?po_Mend ?sa_Mend ?mk_Mend ?kc_Mend ?hc_Mend ?na_Mend_function ?na_Mend_name ?a_Mend_init ?j_Mend_init ?l_Mend_init ?c_Mend_init ?k_Mend_init ?a_Mend_leans ?j_Mend_leans ?l_Mend_leans ?c_Mend_leans ?k_Mend_leans
    (case n_len => k_is)
    (case n_isinstance => k_is)
    (case n_int => k_is)
    (case n_bool => k_is)
    (case n_str => k_is)
    (case n_all => k_is)
    (case n_range => k_is)
    (case n_abs => k_is)
    (case n_list => k_is)
    (case n_tuple => k_is)
    (case n_dict => k_is)
    (case n_max => k_is)
    (case n_min => k_is)
    (case n_sum => k_is)
    (case n_reversed => k_is)
    (case n_zip => k_is)
    (case n_ValueError => k_is)
    (case i_LETTERS => k_is)
    (case i_MOST_LETTERS => k_is)
    (case i_MOST_NAMES => k_is)
    (case i_FIGURES => k_is)
    (case i_MOST_FIGURES => k_is)
    (case i_MOST_WORDS => k_is)
    (case i_SIGNS => k_is)
    (case j_SIGNS => k_is)
    (case i_NOUGHT => k_is)
    (case j_NOUGHT => k_is)
    (case i_GREAT => k_is)
    (case j_GREAT => k_is)
    (case i_UP => k_is)
    (case a_is_whole => k_is)
    (case l_is_whole => k_is)
    (case c_is_whole => k_is)
    (case k_is_whole => k_is)
    (case a_is_number => k_is)
    (case l_is_number => k_is)
    (case c_is_number => k_is)
    (case k_is_number => k_is)
    (case a_is_name => k_is)
    (case l_is_name => k_is)
    (case c_is_name => k_is)
    (case k_is_name => k_is)
    (case a_is_fault => k_is)
    (case l_is_fault => k_is)
    (case c_is_fault => k_is)
    (case k_is_fault => k_is)
    (case a_check_name => k_is)
    (case l_check_name => k_is)
    (case c_check_name => k_is)
    (case k_check_name => k_is)
    (case a_checked_names => k_is)
    (case l_checked_names => k_is)
    (case c_checked_names => k_is)
    (case k_checked_names => k_is)
    (case a_each_once => k_is)
    (case l_each_once => k_is)
    (case c_each_once => k_is)
    (case k_each_once => k_is)
    (case a_writes_number => k_is)
    (case l_writes_number => k_is)
    (case c_writes_number => k_is)
    (case k_writes_number => k_is)
    (case a_is_reckoning => k_is)
    (case l_is_reckoning => k_is)
    (case c_is_reckoning => k_is)
    (case k_is_reckoning => k_is)
    (case a_names_in => k_is)
    (case l_names_in => k_is)
    (case c_names_in => k_is)
    (case k_names_in => k_is)
    (case a_bounded => k_is)
    (case l_bounded => k_is)
    (case c_bounded => k_is)
    (case k_bounded => k_is)
    (case a_reckoned => k_is)
    (case l_reckoned => k_is)
    (case c_reckoned => k_is)
    (case k_reckoned => k_is)
    (case a_joined => k_is)
    (case l_joined => k_is)
    (case c_joined => k_is)
    (case k_joined => k_is)
    (case a_number_of => k_is)
    (case l_number_of => k_is)
    (case c_number_of => k_is)
    (case k_number_of => k_is)
    (case a_sum_of => k_is)
    (case l_sum_of => k_is)
    (case c_sum_of => k_is)
    (case k_sum_of => k_is)
    (case a_most_of => k_is)
    (case l_most_of => k_is)
    (case c_most_of => k_is)
    (case k_most_of => k_is)
    (case a_least_of => k_is)
    (case l_least_of => k_is)
    (case c_least_of => k_is)
    (case k_least_of => k_is)
    (case a_how_many => k_is)
    (case l_how_many => k_is)
    (case c_how_many => k_is)
    (case k_how_many => k_is)
    (case a_refuse_unless => k_is)
    (case l_refuse_unless => k_is)
    (case c_refuse_unless => k_is)
    (case k_refuse_unless => k_is)
    (case a_check_names => k_is)
    (case l_check_names => k_is)
    (case c_check_names => k_is)
    (case k_check_names => k_is)
    (case a_columns_in => k_is)
    (case l_columns_in => k_is)
    (case c_columns_in => k_is)
    (case k_columns_in => k_is)
    (case a_function_of => k_is)
    (case l_function_of => k_is)
    (case c_function_of => k_is)
    (case k_function_of => k_is)
    (case w_function_of => k_is)
    (case t_function_of => exact rfl)
    (case a_read_cells => k_is)
    (case l_read_cells => k_is)
    (case c_read_cells => k_is)
    (case k_read_cells => k_is)
    (case a_read_above => k_is)
    (case l_read_above => k_is)
    (case c_read_above => k_is)
    (case k_read_above => k_is)
    (case a_read_group => k_is)
    (case l_read_group => k_is)
    (case c_read_group => k_is)
    (case k_read_group => k_is)
    (case a_read_lookup => k_is)
    (case l_read_lookup => k_is)
    (case c_read_lookup => k_is)
    (case k_read_lookup => k_is)
    (case a_read_mend => k_is)
    (case l_read_mend => k_is)
    (case c_read_mend => k_is)
    (case k_read_mend => k_is)
    (case w_read_mend => k_is)
    (case t_read_mend => exact rfl)
    (case a_read_rule => k_is)
    (case l_read_rule => k_is)
    (case c_read_rule => k_is)
    (case k_read_rule => k_is)
    (case a_law_cell => k_is)
    (case l_law_cell => k_is)
    (case c_law_cell => k_is)
    (case k_law_cell => k_is)
    (case a_law_word => k_is)
    (case l_law_word => k_is)
    (case c_law_word => k_is)
    (case k_law_word => k_is)
    (case a_law_bad_number => k_is)
    (case l_law_bad_number => k_is)
    (case c_law_bad_number => k_is)
    (case k_law_bad_number => k_is)
    (case a_law_bad_name => k_is)
    (case l_law_bad_name => k_is)
    (case c_law_bad_name => k_is)
    (case k_law_bad_name => k_is)
    (case a_law_bad_reckoning => k_is)
    (case l_law_bad_reckoning => k_is)
    (case c_law_bad_reckoning => k_is)
    (case k_law_bad_reckoning => k_is)
    (case a_law_text => k_is)
    (case l_law_text => k_is)
    (case c_law_text => k_is)
    (case k_law_text => k_is)
    (case a_law_refused => k_is)
    (case l_law_refused => k_is)
    (case c_law_refused => k_is)
    (case k_law_refused => k_is)
    (case a_law => k_is)
    (case l_law => k_is)
    (case c_law => k_is)
    (case k_law => k_is)
    (case ne_function_of_read_mend => decide)
    (case notabs => kernel_rfl)
    (case q_ColsError => k_is)
    (case q_NoName => k_is)
    (case q_NoValue => k_is)
    (case q_NoTable => k_is)
    (case q_NoColumn => k_is)
    (case q_NoPlace => k_is)
    (case q_NoSize => k_is)
    (case q_NoText => k_is)
    (case q_NoRow => k_is)
    (case q_NoBack => k_is)
    (case q_TooMuch => k_is)
    (case q_Ruled => k_is)
    (case q_Ring => k_is)
    (case q_Nobody => k_is)
    (case q_Several => k_is)
    (case x_NoText => k_exc)
    (case v_NoText => kit_is)
    (case wa_NoText => k_is)
    (case wb_NoText => k_is)
    (case wd_NoText => k_is)
    (case we_NoText => k_is)
    (case wf_NoText => k_is)
    (case wc_NoText => k_is)
    (case i_NoText_ColsError => kit_is)
    (case e_NoText_ColsError => kts_exm)
    (case i_NoText_NoName => kit_is)
    (case i_NoText_NoValue => kit_is)
    (case i_NoText_NoTable => kit_is)
    (case i_NoText_NoColumn => kit_is)
    (case i_NoText_NoPlace => kit_is)
    (case i_NoText_NoSize => kit_is)
    (case i_NoText_NoText => kit_is)
    (case i_NoText_NoRow => kit_is)
    (case i_NoText_NoBack => kit_is)
    (case i_NoText_TooMuch => kit_is)
    (case i_NoText_Ruled => kit_is)
    (case i_NoText_Ring => kit_is)
    (case i_NoText_Nobody => kit_is)
    (case i_NoText_Several => kit_is)
    (case w4 => k_is)
    (case w5 => k_is)
    (case i_OF_GROUPS => k_is)
    (case j_OF_GROUPS => k_is)
    (case dk_OF_GROUPS => k_keys)
    (case lo_OF_GROUPS => decide)
    (case dq_OF_GROUPS => exact rfl)
    (case dv_OF_GROUPS_sum => k_is)
    (case dv_OF_GROUPS_most => k_is)
    (case dv_OF_GROUPS_least => k_is)
    (case dv_OF_GROUPS_many => k_is)
    (case i_KINDS => k_is)
    (case j_KINDS => k_is)
    (case dk_KINDS => k_keys)
    (case lo_KINDS => decide)
    (case dq_KINDS => exact rfl)
    (case dv_KINDS_cells => k_is)
    (case dv_KINDS_above => k_is)
    (case dv_KINDS_group => k_is)
    (case dv_KINDS_lookup => k_is)
    (case dv_KINDS_mend => k_is)
    (case a_Rule => k_is)
    (case pg_Rule => k_is)
    (case hd_Rule => k_is)
    (case po_Rule => k_is)
    (case sa_Rule => k_is)
    (case mk_Rule => k_is)
    (case kc_Rule => k_is)
    (case hc_Rule => k_is)
    (case na_Rule_function => k_is)
    (case a_Rule_init => k_is)
    (case j_Rule_init => k_is)
    (case l_Rule_init => k_is)
    (case c_Rule_init => k_is)
    (case k_Rule_init => k_is)
    (case vg_Rule_init => k_is)
    (case vr_Rule_init => k_is)
    (case vf_Rule_init => k_is)
    (case a_Cells => k_is)
    (case pg_Cells => k_is)
    (case hd_Cells => k_is)
    (case po_Cells => k_is)
    (case sa_Cells => k_is)
    (case mk_Cells => k_is)
    (case kc_Cells => k_is)
    (case hc_Cells => k_is)
    (case na_Cells_function => k_is)
    (case na_Cells_names => k_is)
    (case a_Cells_init => k_is)
    (case j_Cells_init => k_is)
    (case l_Cells_init => k_is)
    (case c_Cells_init => k_is)
    (case k_Cells_init => k_is)
    (case a_Cells_leans => k_is)
    (case j_Cells_leans => k_is)
    (case l_Cells_leans => k_is)
    (case c_Cells_leans => k_is)
    (case k_Cells_leans => k_is)
    (case a_Above => k_is)
    (case pg_Above => k_is)
    (case hd_Above => k_is)
    (case po_Above => k_is)
    (case sa_Above => k_is)
    (case mk_Above => k_is)
    (case kc_Above => k_is)
    (case hc_Above => k_is)
    (case na_Above_function => k_is)
    (case na_Above_names => k_is)
    (case na_Above_first => k_is)
    (case a_Above_init => k_is)
    (case j_Above_init => k_is)
    (case l_Above_init => k_is)
    (case c_Above_init => k_is)
    (case k_Above_init => k_is)
    (case a_Above_leans => k_is)
    (case j_Above_leans => k_is)
    (case l_Above_leans => k_is)
    (case c_Above_leans => k_is)
    (case k_Above_leans => k_is)
    (case a_Group => k_is)
    (case pg_Group => k_is)
    (case hd_Group => k_is)
    (case po_Group => k_is)
    (case sa_Group => k_is)
    (case mk_Group => k_is)
    (case kc_Group => k_is)
    (case hc_Group => k_is)
    (case na_Group_function => k_is)
    (case na_Group_key => k_is)
    (case na_Group_name => k_is)
    (case a_Group_init => k_is)
    (case j_Group_init => k_is)
    (case l_Group_init => k_is)
    (case c_Group_init => k_is)
    (case k_Group_init => k_is)
    (case a_Group_leans => k_is)
    (case j_Group_leans => k_is)
    (case l_Group_leans => k_is)
    (case c_Group_leans => k_is)
    (case k_Group_leans => k_is)
    (case a_Lookup => k_is)
    (case pg_Lookup => k_is)
    (case hd_Lookup => k_is)
    (case po_Lookup => k_is)
    (case sa_Lookup => k_is)
    (case mk_Lookup => k_is)
    (case kc_Lookup => k_is)
    (case hc_Lookup => k_is)
    (case na_Lookup_function => k_is)
    (case na_Lookup_key => k_is)
    (case na_Lookup_other => k_is)
    (case na_Lookup_theirs => k_is)
    (case na_Lookup_names => k_is)
    (case a_Lookup_init => k_is)
    (case j_Lookup_init => k_is)
    (case l_Lookup_init => k_is)
    (case c_Lookup_init => k_is)
    (case k_Lookup_init => k_is)
    (case a_Lookup_leans => k_is)
    (case j_Lookup_leans => k_is)
    (case l_Lookup_leans => k_is)
    (case c_Lookup_leans => k_is)
    (case k_Lookup_leans => k_is)
    (case a_Mend => k_is)
    (case pg_Mend => k_is)
    (case hd_Mend => k_is)
    (case po_Mend => k_is)
    (case sa_Mend => k_is)
    (case mk_Mend => k_is)
    (case kc_Mend => k_is)
    (case hc_Mend => k_is)
    (case na_Mend_function => k_is)
    (case na_Mend_name => k_is)
    (case a_Mend_init => k_is)
    (case j_Mend_init => k_is)
    (case l_Mend_init => k_is)
    (case c_Mend_init => k_is)
    (case k_Mend_init => k_is)
    (case a_Mend_leans => k_is)
    (case j_Mend_leans => k_is)
    (case l_Mend_leans => k_is)
    (case c_Mend_leans => k_is)
    (case k_Mend_leans => k_is)
