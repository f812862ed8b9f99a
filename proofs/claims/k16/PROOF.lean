import PyProof.Rows.All
import Wide.All
import OpenK.AllK
import Wide.FinOn
import PyProof.EqAt
import PyProof.EqKinds
import PyProof.TupleCall
import Lean
import PySem.Challenge.RW_lazycols_k16_functions_called
set_option Elab.async false
set_option linter.all false
set_option maxRecDepth 100000
set_option maxHeartbeats 4000000
set_option genSizeOfSpec false
/-! THE HAND LAYER, for ints, bools, texts, own classes, LISTS and tuples (index, slices, in, append, pop ..), calls, loops. Paste it whole ahead of your own text; what your proof does not reach may be deleted. -/
namespace L2
open PySem PySem.Spec PyProof.Rows

/-- a key: an int or a str -/
abbrev Key := Sum Int Str
def keyIs : Key → Value → Bool
  | .inl k, v => Value.isInt k v
  | .inr x, v => Value.isStrOf x v
def keyH (w : World) : Key → Int
  | .inl k => hashInt k
  | .inr x => hashStr w x
theorem keyIs_shape : ∀ {k : Key} {v : Value}, keyIs k v = true → (∃ i t, k = Sum.inl i ∧ v = Value.int i t) ∨ (∃ x t, k = Sum.inr x ∧ v = Value.str x t)
  | .inl i, v, h => by
    obtain ⟨t, e⟩ := Value.isInt_shape (k := i) (v := v) h
    exact .inl ⟨i, t, rfl, e⟩
  | .inr x, v, h => by
    obtain ⟨t, e⟩ := Value.isStrOf_shape (x := x) (v := v) h
    exact .inr ⟨x, t, rfl, e⟩
theorem key_ll (a b : Int) : decide ((Sum.inl a : Key) = Sum.inl b) = (a == b) := by
  by_cases e : a = b
  · subst e; simp
  · have h : ¬ (Sum.inl a : Key) = Sum.inl b := fun q => e (Sum.inl.inj q)
    rw [decide_eq_false h]
    exact (beq_eq_false_iff_ne.mpr e).symm
theorem key_rr (a b : Str) : decide ((Sum.inr a : Key) = Sum.inr b) = decide (a = b) := by
  by_cases e : a = b
  · subst e; simp
  · have h : ¬ (Sum.inr a : Key) = Sum.inr b := fun q => e (Sum.inr.inj q)
    rw [decide_eq_false h, decide_eq_false e]
theorem key_lr (a : Int) (b : Str) : decide ((Sum.inl a : Key) = Sum.inr b) = false := decide_eq_false (fun q => nomatch q)
theorem key_rl (a : Str) (b : Int) : decide ((Sum.inr a : Key) = Sum.inl b) = false := decide_eq_false (fun q => nomatch q)

def mixKind (prog : Program) (w : World) : PySem.KeyKind prog w Key where
  is := keyIs
  hash := keyH w
  inj := fun v a b ha hb => by
    rcases keyIs_shape ha with ⟨i, t, rfl, rfl⟩ | ⟨x, t, rfl, rfl⟩
    · rcases keyIs_shape hb with ⟨j, u, rfl, e⟩ | ⟨y, u, rfl, e⟩
      · injection e with e1 _; rw [e1]
      · exact nomatch e
    · rcases keyIs_shape hb with ⟨j, u, rfl, e⟩ | ⟨y, u, rfl, e⟩
      · exact nomatch e
      · injection e with e1 _; rw [e1]
  byValue := fun k v h => by
    rcases keyIs_shape h with ⟨i, t, rfl, rfl⟩ | ⟨x, t, rfl, rfl⟩ <;> rfl
  pyHash := fun hv h => by
    rcases keyIs_shape hv with ⟨i, t, rfl, rfl⟩ | ⟨x, t, rfl, rfl⟩
    · exact wpAny_pyHash_int h
    · exact wpAny_pyHash_str h
  eqBool := fun hu hv h => by
    rcases keyIs_shape hu with ⟨i, t, rfl, rfl⟩ | ⟨x, t, rfl, rfl⟩
    · rcases keyIs_shape hv with ⟨j, u, rfl, rfl⟩ | ⟨y, u, rfl, rfl⟩
      · rw [key_ll] at h; exact wpAny_eqBool_int h
      · rw [key_lr] at h; exact SeqAt.EqAt.int_str i t y u _ _ _ _ h
    · rcases keyIs_shape hv with ⟨j, u, rfl, rfl⟩ | ⟨y, u, rfl, rfl⟩
      · rw [key_rl] at h; exact SeqAt.EqAt.str_int x t j u _ _ _ _ h
      · rw [key_rr] at h; exact wpAny_eqBool_str h
  «strs» := fun k x t v h => by
    rcases keyIs_shape h with ⟨i, u, rfl, e⟩ | ⟨y, u, rfl, e⟩
    · exact nomatch e
    · injection e with e1 _
      subst e1
      cases v <;> rfl

end L2

namespace L2
open PySem PySem.Spec PyProof.Rows

/-- a value, without the heap -/
inductive V where
  | non | bl (b : Bool) | int (i : Int) | str (x : Str) | byt (b : Array UInt8) | flt (b : UInt64) | ref (a : Addr) | ty (n : String)
  deriving DecidableEq

def RelV : V → Value → Prop
  | .non, u => u = Value.none
  | .bl b, u => u = Value.bool b
  | .int i, u => ∃ t, u = Value.int i t
  | .str x, u => ∃ t, u = Value.str x t
  | .byt b, u => ∃ t, u = Value.bytes b t
  | .flt b, u => ∃ t, u = Value.float b t
  | .ref a, u => u = Value.ref a
  | .ty n, u => u = Value.type n

abbrev Vals : List V → List Value → Prop := Paired RelV
theorem Vals.length {xs : List V} {us : List Value} (r : Vals xs us) : xs.length = us.length := Paired.length r
theorem Vals.get : ∀ {xs : List V} {us : List Value} {i : Nat} {x : V}, Vals xs us → xs[i]? = some x → ∃ u, us[i]? = some u ∧ RelV x u
  | _, _, _, _, .nil, e => by simp at e
  | _, _, 0, _, .cons r _, e => by simp at e; subst e; exact ⟨_, rfl, r⟩
  | _, _, i + 1, x, .cons _ t, e => by
    obtain ⟨u, h1, h2⟩ := Vals.get (i := i) (x := x) t (by simpa using e)
    exact ⟨u, by simpa using h1, h2⟩
theorem Vals.append : ∀ {xs ys : List V} {us ws : List Value}, Vals xs us → Vals ys ws → Vals (xs ++ ys) (us ++ ws)
  | _, _, _, _, .nil, s => s
  | _, _, _, _, .cons r t, s => .cons r (Vals.append t s)
theorem Vals.take : ∀ {xs : List V} {us : List Value} (n : Nat), Vals xs us → Vals (xs.take n) (us.take n)
  | _, _, 0, _ => .nil
  | _, _, _ + 1, .nil => .nil
  | _, _, n + 1, .cons r t => .cons r (Vals.take n t)
theorem Vals.drop : ∀ {xs : List V} {us : List Value} (n : Nat), Vals xs us → Vals (xs.drop n) (us.drop n)
  | _, _, 0, r => r
  | _, _, _ + 1, .nil => .nil
  | _, _, n + 1, .cons _ t => Vals.drop n t
def RelO : Option V → Option Value → Prop
  | some v, some u => RelV v u
  | none, none => True
  | _, _ => False
def KV {κ : Type} : List (κ × V) → List (κ × Value) → Prop := Paired fun (p : κ × V) (q : κ × Value) => p.1 = q.1 ∧ RelV p.2 q.2

/-- a key of a dict (00_mix): an int or a text -/
def kV : Key → V
  | .inl i => .int i
  | .inr x => .str x

/-- what stands at a tracked address -/
inductive HO where
  /-- a list -/
  | lst (xs : List V)
  /-- a tuple (never changes) -/
  | tup (xs : List V)
  /-- a dict whose keys are ints and texts; one whose keys are tuples of ints and texts (the empty one is both) -/
  | dK (kvs : List (Key × V)) | dT (kvs : List (List Key × V))
  /-- a set of ints: its members, its size -/
  | set (S : Int → Bool) (n : Nat)
  /-- an instance of the class at C, its dict at dx, its attributes -/
  | ins (C dx : Addr) (fs : List (Str × V))
  /-- the dict of the instance at x -/
  | own (x : Addr)
  /-- the dict of an exception -/
  | xd (fs : List (Str × V))
  /-- a bound method, f of x -/
  | met (f x : Addr)
  /-- a range object lo, lo + 1, .. below hi -/
  | rng (lo hi : Int)
  /-- a thing that is known to the object (the script; a dict while a loop walks it): read, never written while it is so -/
  | frz (o : Obj) (u : HO)
  /-- a code object's table -/
  | tbl (ps : Array Value)
  /-- any other thing, by what is true of its one object (a def of one's own: SetO a S n := HO.ext fun h => ..) -/
  | ext (φ : Heap → Prop)

abbrev Hp := Addr → Option HO
def upd (H : Hp) (a : Addr) (o : HO) : Hp := fun b => if b = a then some o else H b
theorem upd_same {H : Hp} {a : Addr} {o : HO} : upd H a o a = some o := by unfold upd; rw [if_pos rfl]
theorem upd_ne {H : Hp} {a b : Addr} {o : HO} (h : b ≠ a) : upd H a o b = H b := by unfold upd; rw [if_neg h]
/-- two objects of different content stand apart -/
theorem ne_of {H : Hp} {a b : Addr} {o u : HO} (h : H a = some o) (h' : H b = some u) (d : o ≠ u) : a ≠ b := by
  intro e; subst e; rw [h] at h'; exact d (Option.some.inj h')
theorem ne_of_none {H : Hp} {a b : Addr} {o : HO} (h : H a = some o) (h' : H b = none) : a ≠ b := by
  intro e; subst e; rw [h] at h'; cases h'

section
variable (P : Program) (w : World)
def ObjOk (H : Hp) (h : Heap) (a : Addr) : HO → Prop
  | .lst xs => xs.length ≤ sizeLine ∧ ∃ (its : List Value) (n : Nat), Vals xs its ∧ h.get? a = some { cls := .type "list", data := .seq its.toArray n }
  | .tup xs => xs.length ≤ sizeLine ∧ ∃ its : List Value, Vals xs its ∧ IsTup h a its.toArray
  | .dK kvs => kvs.length ≤ sizeLine ∧ (a == sysModules) = false ∧ ∃ vs, KV kvs vs ∧ h.DictOf (mixKind P w) a vs
  | .dT kvs => kvs.length ≤ sizeLine ∧ (a == sysModules) = false ∧ ∃ xs : List (List Key × Addr × Value),
      Paired (fun (p : List Key × V) (q : List Key × Addr × Value) => p.1 = q.1 ∧ H q.2.1 = some (.tup (p.1.map kV)) ∧ RelV p.2 q.2.2) kvs xs ∧
      ∃ o es ep, h.get? a = some o ∧ o.ExactDict ∧ o.data = .dict es ep ∧ es.toList = xs.map (entryOfKey (tupleKind (mixKind P w))) ∧ (xs.map (·.1)).Nodup
  | .set S n => h.SetOf (intKind P w) a S n
  | .ins C dx fs => H dx = some (.own a) ∧ fs.length ≤ 1000 ∧ dx ≠ a ∧ h.get? a = some (PySem.W.instObj C dx) ∧
      ∃ mA, h.Ns1 dx mA ∧ (∀ f, RelO (fs.lookup f) (mA f)) ∧ PySem.Within mA (fs.map (·.1))
  | .own _ => ∃ o, h.get? a = some o
  | .xd fs => ∃ mA, h.Ns1 a mA ∧ ∀ f, RelO (fs.lookup f) (mA f)
  | .rng lo hi => ∃ t u v, h.get? a = some { cls := .type "range", data := .fields #[.int lo t, .int hi u, .int 1 v] }
  | .frz o u => h.get? a = some o ∧ ObjOk H h a u
  | .tbl ps => h.get? a = some { cls := .none, data := .fields ps }
  | .met f x => h.get? a = some (PySem.W.methodObj (.ref f) (.ref x))
  | .ext φ => φ h ∧ (∃ o, h.get? a = some o) ∧ ∀ h1 h2 : Heap, φ h1 → (∀ o, h1.get? a = some o → h2.get? a = some o) → φ h2
/-- the abstract heap is held -/
def HOk (H : Hp) (h : Heap) : Prop := ∀ a o, H a = some o → ObjOk P w H h a o
end

section
variable {P : Program} {w : World} {H H' : Hp} {h h' : Heap} {a : Addr} {o : HO}
theorem ObjOk.lt (x : ObjOk P w H h a o) : a < h.objs.size := by
  cases o with
  | lst xs => obtain ⟨_, _, _, _, e⟩ := x; exact Heap.lt_size e
  | tup xs => obtain ⟨_, _, _, p⟩ := x; exact p.lt
  | dK kvs => obtain ⟨_, _, _, _, o, _, _, e, _⟩ := x; exact Heap.lt_size e
  | dT kvs => obtain ⟨_, _, _, _, o, _, _, e, _⟩ := x; exact Heap.lt_size e
  | set S n => obtain ⟨o, _, _, _, e, _⟩ := x; exact Heap.lt_size e
  | ins C dx fs => obtain ⟨_, _, _, e, _⟩ := x; exact Heap.lt_size e
  | own y => obtain ⟨_, e⟩ := x; exact Heap.lt_size e
  | xd fs => obtain ⟨_, ⟨_, _, _, e, _⟩, _⟩ := x; exact Heap.lt_size e
  | rng lo hi => obtain ⟨_, _, _, e⟩ := x; exact Heap.lt_size e
  | frz ob u => obtain ⟨e, _⟩ := x; exact Heap.lt_size e
  | tbl ps => exact Heap.lt_size (show h.get? a = some _ from x)
  | met f y => exact Heap.lt_size (show h.get? a = some _ from x)
  | ext φ => obtain ⟨_, ⟨_, e⟩, _⟩ := x; exact Heap.lt_size e
theorem Paired.mapP {α β : Type} {F G : α → β → Prop} : ∀ {l₁ : List α} {l₂ : List β}, Paired F l₁ l₂ → (∀ a b, F a b → G a b) → Paired G l₁ l₂
  | _, _, .nil, _ => .nil
  | _, _, .cons r t, f => .cons (f _ _ r) (Paired.mapP t f)
/-- what an object's description leans on: its own object, its own dict, the tuples -/
theorem ObjOk.stay (x : ObjOk P w H h a o) (k : ∀ b u, (b = a ∨ H b = some (.own a)) → h.get? b = some u → h'.get? b = some u)
    (ho : ∀ b, H b = some (.own a) → H' b = some (.own a)) (ht : ∀ b xs, H b = some (.tup xs) → H' b = some (.tup xs)) : ObjOk P w H' h' a o := by
  induction o with
  | lst xs => obtain ⟨z, its, n, r, e⟩ := x; exact ⟨z, its, n, r, k _ _ (.inl rfl) e⟩
  | tup xs => obtain ⟨z, its, r, ob, e, c⟩ := x; exact ⟨z, its, r, ob, k _ _ (.inl rfl) e, c⟩
  | dK kvs => obtain ⟨z, y, vs, r, ob, es, ep, e, c⟩ := x; exact ⟨z, y, vs, r, ob, es, ep, k _ _ (.inl rfl) e, c⟩
  | dT kvs =>
    obtain ⟨z, y, xs, r, ob, es, ep, e, c⟩ := x
    exact ⟨z, y, xs, Paired.mapP r fun p q z => ⟨z.1, ht _ _ z.2.1, z.2.2⟩, ob, es, ep, k _ _ (.inl rfl) e, c⟩
  | set S n => obtain ⟨ob, es, ep, t, e, c⟩ := x; exact ⟨ob, es, ep, t, k _ _ (.inl rfl) e, c⟩
  | ins C dx fs =>
    obtain ⟨d, z, ne, e, mA, ⟨od, es, ep, e2, c⟩, r⟩ := x
    exact ⟨ho _ d, z, ne, k _ _ (.inl rfl) e, mA, ⟨od, es, ep, k _ _ (.inr d) e2, c⟩, r⟩
  | own y => obtain ⟨ob, e⟩ := x; exact ⟨ob, k _ _ (.inl rfl) e⟩
  | xd fs => obtain ⟨mA, ⟨od, es, ep, e, c⟩, r⟩ := x; exact ⟨mA, ⟨od, es, ep, k _ _ (.inl rfl) e, c⟩, r⟩
  | rng lo hi => obtain ⟨t, u, v, e⟩ := x; exact ⟨t, u, v, k _ _ (.inl rfl) e⟩
  | frz ob u ih => obtain ⟨e, q⟩ := x; exact ⟨k _ _ (.inl rfl) e, ih q⟩
  | tbl ps =>
    have e : h.get? a = some { cls := .none, data := .fields ps } := x
    show h'.get? a = some { cls := .none, data := .fields ps }
    exact k a _ (.inl rfl) e
  | met f y =>
    have e : h.get? a = some (PySem.W.methodObj (.ref f) (.ref y)) := x
    show h'.get? a = some (PySem.W.methodObj (.ref f) (.ref y))
    exact k a _ (.inl rfl) e
  | ext φ => obtain ⟨p, ⟨o, e⟩, st⟩ := x; exact ⟨st _ _ p fun o q => k _ _ (.inl rfl) q, ⟨o, k _ _ (.inl rfl) e⟩, st⟩
theorem HOk.lt (x : HOk P w H h) (e : H a = some o) : a < h.objs.size := (x a o e).lt
theorem HOk.fresh (x : HOk P w H h) (e : h.objs.size ≤ a) : H a = none := by
  cases q : H a with
  | none => rfl
  | some u => exact absurd (Nat.lt_of_lt_of_le (x.lt q) e) (Nat.lt_irrefl _)
/-- every object of the heap is kept -/
theorem HOk.kept (x : HOk P w H h) (k : ∀ b u, h.get? b = some u → h'.get? b = some u) : HOk P w H h' := fun a o e =>
  (x a o e).stay (fun b u _ q => k b u q) (fun _ q => q) fun _ _ q => q
/-- a new object is laid and tracked -/
theorem HOk.laid (x : HOk P w H h) (k : ∀ b u, h.get? b = some u → h'.get? b = some u) (hp : h.objs.size ≤ a) (new : ObjOk P w (upd H a o) h' a o) : HOk P w (upd H a o) h' := fun b u e => by
  have hn := x.fresh hp
  by_cases hb : b = a
  · subst hb; rw [upd_same] at e; cases e; exact new
  · rw [upd_ne hb] at e
    exact (x b u e).stay (fun c v _ q => k c v q) (fun c q => by rw [upd_ne (ne_of_none q hn)]; exact q) fun c xs q => by rw [upd_ne (ne_of_none q hn)]; exact q
end

/-- what may be read as u: it is u, or a known u -/
def Rd (H : Hp) (a : Addr) (u : HO) : Prop := H a = some u ∨ ∃ o, H a = some (.frz o u)
theorem Rd.ok {P : Program} {w : World} {H : Hp} {h : Heap} {a : Addr} {u : HO} (r : Rd H a u) (x : HOk P w H h) : ObjOk P w H h a u := by
  rcases r with r | ⟨o, r⟩
  · exact x a u r
  · obtain ⟨_, q⟩ := x a _ r
    exact q
/-- what may be written -/
def Mut : Option HO → Prop
  | some (.lst _) => True
  | some (.dK _) => True
  | some (.dT _) => True
  | some (.set _ _) => True
  | some (.ins _ _ _) => True
  | some (.ext _) => True
  | _ => False
section
variable {P : Program} {w : World} {H : Hp} {h h' : Heap} {x e : Addr} {o' : HO}
/-- the object at e is changed: x itself, or the dict of the instance x -/
theorem HOk.write (ok : HOk P w H h) (mu : Mut (H x)) (he : e = x ∨ H e = some (.own x)) (k : ∀ b u, b ≠ e → h.get? b = some u → h'.get? b = some u) (heo : ∃ u, h'.get? e = some u)
    (new : ObjOk P w (upd H x o') h' x o') : HOk P w (upd H x o') h' := fun b u q => by
  have nown : ∀ c y, H c = some (.own y) → c ≠ x := fun c y r z => by subst z; rw [r] at mu; exact mu
  have ntup : ∀ c xs, H c = some (.tup xs) → c ≠ x := fun c xs r z => by subst z; rw [r] at mu; exact mu
  by_cases hb : b = x
  · subst hb; rw [upd_same] at q; cases q; exact new
  · rw [upd_ne hb] at q
    by_cases hbe : b = e
    · have q' : H b = some (.own x) := by
        rcases he with z | z
        · exact absurd (hbe.trans z) hb
        · rw [hbe]; exact z
      rw [q] at q'; cases q'
      obtain ⟨v, hv⟩ := heo
      exact ⟨v, by rw [hbe]; exact hv⟩
    · refine (ok b u q).stay (fun c v hc r => k c v ?_ r) (fun c r => by rw [upd_ne (nown c b r)]; exact r) fun c xs r => by rw [upd_ne (ntup c xs r)]; exact r
      rcases hc with rfl | hc
      · exact hbe
      · rintro rfl
        rcases he with z | z
        · exact nown c b hc z
        · rw [hc] at z; cases z; exact hb rfl
end

/-! ### kept unless tracked; of the frames at fs (the callers') the slots may change (an exception that passes writes there); of the records at ex (iterators) nothing is said -/
structure Un (fs ex : List Addr) (H H' : Hp) (h h' : Heap) : Prop where
  keep : ∀ b o, h.get? b = some o → H b = none → b ∉ fs → b ∉ ex → h'.get? b = some o
  slot : ∀ b o, h.get? b = some o → H b = none → b ∈ fs → b ∉ ex → ∃ sl, h'.get? b = some { o with slots := sl }
  free : ∀ b o, h.get? b = some o → H b = none → b ∉ ex → H' b = none
  there : ∀ b o, h.get? b = some o → b ∉ ex → ∃ o', h'.get? b = some o'
  tups : ∀ b xs, H b = some (.tup xs) → H' b = some (.tup xs)
  frzs : ∀ b o u, H b = some (.frz o u) → H' b = some (.frz o u)
  tbls : ∀ b ps, H b = some (.tbl ps) → ∃ more, H' b = some (.tbl (ps ++ more))
section
variable {fs fs' ex ex' : List Addr} {H H1 H2 : Hp} {h h1 h2 h' : Heap} {a x e : Addr} {o : HO}
theorem Un.any (u : Un fs ex H H1 h h1) {b : Addr} {ob : Obj} (q : h.get? b = some ob) (n : H b = none) (hx : b ∉ ex) : ∃ sl, h1.get? b = some { ob with slots := sl } := by
  by_cases hb : b ∈ fs
  · exact u.slot b ob q n hb hx
  · exact ⟨ob.slots, u.keep b ob q n hb hx⟩
theorem Un.kept (k : ∀ b u, h.get? b = some u → h'.get? b = some u) : Un fs ex H H h h' :=
  ⟨fun b ob q _ _ _ => k b ob q, fun b ob q _ _ _ => ⟨ob.slots, k b ob q⟩, fun _ _ _ n _ => n, fun b ob q _ => ⟨ob, k b ob q⟩, fun _ _ q => q, fun _ _ _ q => q, fun _ ps q => ⟨#[], by rw [q]; simp⟩⟩
theorem Un.refl : Un fs ex H H h h := Un.kept fun _ _ q => q
theorem Un.laid (k : ∀ b u, h.get? b = some u → h'.get? b = some u) (hp : h.objs.size ≤ a) (hn : H a = none) : Un fs ex H (upd H a o) h h' where
  keep := fun b u q _ _ _ => k b u q
  slot := fun b u q _ _ _ => ⟨u.slots, k b u q⟩
  free := fun b u q n _ => by rw [upd_ne (Nat.ne_of_lt (Nat.lt_of_lt_of_le (Heap.lt_size q) hp))]; exact n
  there := fun b u q _ => ⟨u, k b u q⟩
  tups := fun b xs q => by rw [upd_ne (ne_of_none q hn)]; exact q
  frzs := fun b u xs q => by rw [upd_ne (ne_of_none q hn)]; exact q
  tbls := fun b ps q => ⟨#[], by rw [upd_ne (ne_of_none q hn), q]; simp⟩
theorem Un.write (mu : Mut (H x)) (he : e = x ∨ H e = some (.own x)) (k : ∀ b u, b ≠ e → h.get? b = some u → h'.get? b = some u) (heo : ∃ u, h'.get? e = some u) : Un fs ex H (upd H x o) h h' := by
  have hx : ∀ b, H b = none → b ≠ x := fun b n z => by subst z; rw [n] at mu; exact mu
  have hb : ∀ b, H b = none → b ≠ e := fun b n z => by
    subst z
    rcases he with r | r
    · exact hx b n r
    · rw [n] at r; cases r
  have hm : ∀ b u, H b = some u → ¬ Mut (some u) → b ≠ x := fun b u q nm z => by subst z; rw [q] at mu; exact nm mu
  refine ⟨fun b u q n _ _ => k b u (hb b n) q, fun b u q n _ _ => ⟨u.slots, k b u (hb b n) q⟩, fun b u q n _ => by rw [upd_ne (hx b n)]; exact n, fun b u q _ => ?_,
    fun b xs q => by rw [upd_ne (hm b _ q fun z => z)]; exact q, fun b u xs q => by rw [upd_ne (hm b _ q fun z => z)]; exact q, fun b ps q => ⟨#[], by rw [upd_ne (hm b _ q fun z => z), q]; simp⟩⟩
  by_cases hbe : b = e
  · subst hbe; exact heo
  · exact ⟨u, k b u hbe q⟩
end

/-! ### the heap without what is tracked -/
def trk (h : Heap) (H : Hp) : List Addr := (List.range h.objs.size).filter fun a => (H a).isSome
def hidT (h : Heap) (H : Hp) : Heap := PySem.W.hideAll h (trk h H)
theorem hidT_size (h : Heap) (H : Hp) : (hidT h H).objs.size = h.objs.size := PySem.W.hideAll_size _ _
theorem hidT_get {h : Heap} {H : Hp} {b : Addr} {o : Obj} (e : h.get? b = some o) (n : H b = none) : (hidT h H).get? b = some o :=
  PySem.W.hideAll_get _ e fun hm => by
    have q : (H b).isSome = true := (List.mem_filter.mp hm).2
    rw [n] at q; simp at q
theorem of_hidT {h : Heap} {H : Hp} {b : Addr} {o : Obj} (e : (hidT h H).get? b = some o) : h.get? b = some o ∧ H b = none := by
  have e' : h.get? b = some o := PySem.W.of_hideAll (trk h H) e
  refine ⟨e', ?_⟩
  cases q : H b with
  | none => rfl
  | some x =>
    have hm : b ∈ trk h H := List.mem_filter.mpr ⟨List.mem_range.mpr (Heap.lt_size e'), by simp [q]⟩
    have z : (hidT h H).get? b = none := PySem.W.hideAll_none (trk h H) hm
    rw [z] at e; cases e

/-! ### OpenK's ledger, filled with every new object but one -/
def allNews (g h : Heap) (L : Addr) : List (Addr × Obj) := (List.range h.objs.size).filterMap fun a => if a = L ∨ (g.get? a).isSome = true then none else (h.get? a).map fun o => (a, o)
def rest (g h : Heap) (L d : Addr) : List (Addr × Obj) := (allNews g h L).filter fun p => decide (p.1 ≠ d)
end L2

namespace L2
open PySem PySem.Spec PyProof.Rows

/-- the module's facts, over the base: the heap at the law's entry without what is tracked there -/
structure Mod (K : PySem.W.Frag) (mg : Str → Option Value) (base : Heap) : Prop where
  kin : K.In base
  glob : base.Ns mainGlobals mg
  blt : ∃ mb, base.Ns builtinsNs mb ∧ ∀ x : Str, x ≠ "__name__" → mb x = bootBuiltins x
  nolimit : base.NoLimit

/-- the context: a def's body (or a comprehension's block) running. base: fixed through the whole law; s₀, H₀: the entry; outer: the frames whose slots others may change (a def's callers); stack: all frames that run;
   ex: iterators that were made ahead of the entry and are walked here (a comprehension's); fn: the names whose cells were made at the entry (a def: all; a comprehension's block: its own); calm: not within an except suite; pn: pins that every state bears; xe: what is wanted of an exception that leaves the code -/
structure Cx where
  prog : Program
  w : World
  K : PySem.W.Frag
  mg : Str → Option Value
  base : Heap
  A : Around
  N : List Str
  s₀ : Shared
  H₀ : Hp
  env : Env
  outer : List Env
  stack : List Env
  ex : List Addr
  fn : Str → Bool
  calm : Bool
  pn : List (Addr × Obj)
  xe : Value → Shared → Prop
/-- the callers' frames -/
def frs (l : List Env) : List Addr := l.filterMap (·.frame)
abbrev Cx.fs (X : Cx) : List Addr := frs X.outer

def Vis (sc : Scope) (x : Str) : Prop := sc.names.lookup x = some .local ∨ sc.names.lookup x = some .cell ∨ sc.names.lookup x = some .free
def Loc (sc : Scope) (x : Str) : Prop := sc.names.lookup x = some .local ∨ sc.names.lookup x = some .cell
def Look (env : Env) (h : Heap) (m : Str → Option Value) (x : Str) (u : Value) : Prop :=
  (env.kindOf x = some .local ∧ m x = some u) ∨ ((env.kindOf x = some .cell ∨ env.kindOf x = some .free) ∧ ∃ c, env.cells.lookup x = some c ∧ h.IsCell c (some u))

structure Cx.Ok (X : Cx) : Prop where
  mod : Mod X.K X.mg X.base
  kind : X.env.scope.kind = .function
  glob : X.env.globals = mainGlobals
  blt : X.env.builtins = builtinsNs
  above : X.s₀.heap.objs.size ≤ X.env.locals
  inj : ∀ x y c, X.env.cells.lookup x = some c → X.env.cells.lookup y = some c → x = y
  has : ∀ x, (X.env.kindOf x = some .cell ∨ X.env.kindOf x = some .free) → ∃ c, X.env.cells.lookup x = some c
  cab : ∀ x c, X.fn x = true → X.env.cells.lookup x = some c → X.s₀.heap.objs.size ≤ c
  hd : X.calm = true → X.A.handled = none
  frames : X.A.frames = some X.stack
  stk : X.stack = X.outer ∨ (X.stack = X.env :: X.outer ∧ X.env.frame = some X.env.locals)
  exf : ∀ b ∈ X.ex, b ≠ X.env.locals ∧ ∀ x c, X.env.cells.lookup x = some c → c ≠ b
  bs : ∀ b o, X.base.get? b = some o → X.s₀.heap.get? b = some o ∧ X.H₀ b = none
  bsz : X.base.objs.size ≤ X.s₀.heap.objs.size
  noex : ∀ b o, X.base.get? b = some o → b ∉ X.ex
  exfs : ∀ b ∈ X.ex, b ∉ X.fs
  funs : X.s₀.heap.FunFrames X.base X.outer
  frf : ∀ b ∈ X.fs, X.H₀ b = none

structure Inv (X : Cx) (pins : List (Addr × Obj)) (σ : List (Option V)) (H : Hp) (s : Shared) : Prop where
  ok : X.Ok
  os : s.os = X.s₀.os
  bare : AllBare s.gens
  base : Un X.fs X.ex X.H₀ H X.s₀.heap s.heap
  loc : ∃ m, s.heap.Ns X.env.locals m ∧ ∀ (i : Nat) (x : Str) (v : V), X.N[i]? = some x → σ[i]? = some (some v) → Vis X.env.scope x → ∃ u, RelV v u ∧ Look X.env s.heap m x u
  cell : ∀ x c, X.env.cells.lookup x = some c → ∃ v, s.heap.IsCell c v
  free : H X.env.locals = none
  freeC : ∀ x c, X.env.cells.lookup x = some c → H c = none
  pin : ∀ p ∈ X.pn ++ pins, s.heap.get? p.1 = some p.2 ∧ H p.1 = none ∧ p.1 ≠ X.env.locals ∧ p.1 ∉ X.fs ∧ ∀ v, p.2.data ≠ .cell v
  hok : HOk X.prog X.w H s.heap
  len : σ.length = X.N.length

section
variable {X : Cx} {pins : List (Addr × Obj)} {σ : List (Option V)} {H H' : Hp} {s : Shared} {h' : Heap}

theorem Cx.Ok.nofr (ok : X.Ok) {b : Addr} {o : Obj} (e : X.base.get? b = some o) : b ∉ X.fs := fun hb => by
  have := (ok.funs.mem hb).1
  rw [e] at this; cases this
theorem Inv.bs (I : Inv X pins σ H s) : ∀ b o, X.base.get? b = some o → s.heap.get? b = some o ∧ H b = none := fun b o e =>
  ⟨I.base.keep b o (I.ok.bs b o e).1 (I.ok.bs b o e).2 (I.ok.nofr e) (I.ok.noex b o e), I.base.free b o (I.ok.bs b o e).1 (I.ok.bs b o e).2 (I.ok.noex b o e)⟩
theorem Inv.bk (I : Inv X pins σ H s) : ∀ b o, X.base.get? b = some o → s.heap.get? b = some o := fun b o e => (I.bs b o e).1
theorem Inv.mod (I : Inv X pins σ H s) : Mod X.K X.mg X.base := I.ok.mod
theorem Inv.kIn (I : Inv X pins σ H s) : X.K.In s.heap := I.ok.mod.kin.keeps I.bk
theorem Inv.lt (I : Inv X pins σ H s) : X.env.locals < s.heap.objs.size := let ⟨_, hn, _⟩ := I.loc; hn.lt
theorem Inv.sz (I : Inv X pins σ H s) : X.s₀.heap.objs.size ≤ s.heap.objs.size := Nat.le_trans I.ok.above (Nat.le_of_lt I.lt)
theorem Inv.nofs (I : Inv X pins σ H s) {a : Addr} (h : s.heap.objs.size ≤ a) : a ∉ X.fs := fun hb => by
  obtain ⟨_, o, ho, _⟩ := I.ok.funs.mem hb
  exact absurd (Nat.lt_of_lt_of_le (Heap.lt_size ho) (Nat.le_trans I.sz h)) (Nat.lt_irrefl _)
theorem Inv.cne (I : Inv X pins σ H s) : ∀ x c, X.env.cells.lookup x = some c → c ≠ X.env.locals := fun x c e z => by
  obtain ⟨v, o, ho, hd⟩ := I.cell x c e
  obtain ⟨m, ⟨o', es, ep, ho', hd', _⟩, _⟩ := I.loc
  rw [z, ho'] at ho; cases ho; rw [hd'] at hd; cases hd
theorem Inv.funs (I : Inv X pins σ H s) : s.heap.FunFrames X.base X.outer := by
  have all : ∀ (l : List Env), (∀ b ∈ frs l, b ∈ X.fs) → X.s₀.heap.FunFrames X.base l → s.heap.FunFrames X.base l := by
    intro l
    induction l with
    | nil => intro _ _; trivial
    | cons env r ih =>
      intro hs hl
      obtain ⟨hk, ⟨L, o, hf, hn, ho, hd⟩, hr⟩ := hl
      have hL : L ∈ X.fs := hs L (by unfold frs; rw [List.filterMap_cons, hf]; exact List.mem_cons_self)
      obtain ⟨sl, e⟩ := I.base.slot L o ho (I.ok.frf L hL) hL fun z => I.ok.exfs L z hL
      exact ⟨hk, ⟨L, _, hf, hn, e, hd⟩, ih (fun b hb => hs b (by unfold frs; rw [List.filterMap_cons, hf]; exact List.mem_cons_of_mem _ hb)) hr⟩
  exact all X.outer (fun _ hb => hb) I.ok.funs

/-- the frames that run, for a call -/
theorem Inv.stack (I : Inv X pins σ H s) : s.heap.FunFrames X.base X.stack := by
  rcases I.ok.stk with e | ⟨e, hf⟩
  · rw [e]; exact I.funs
  · rw [e]
    obtain ⟨m, hn, _⟩ := I.loc
    refine .cons (by rw [I.ok.kind]; decide) hf hn ?_ I.funs
    exact Heap.get?_none_of_le (Nat.le_trans I.ok.bsz I.ok.above)
theorem Inv.stkSub (I : Inv X pins σ H s) : ∀ b ∈ frs X.stack, b ∈ X.env.locals :: X.fs := fun b hb => by
  rcases I.ok.stk with e | ⟨e, hf⟩
  · rw [e] at hb; exact List.mem_cons_of_mem _ hb
  · rw [e] at hb
    unfold frs at hb
    rw [List.filterMap_cons, hf] at hb
    exact hb
theorem Inv.stkFree (I : Inv X pins σ H s) : ∀ b ∈ frs X.stack, H b = none := fun b hb => by
  rcases List.mem_cons.mp (I.stkSub b hb) with e | hb
  · rw [e]; exact I.free
  · obtain ⟨_, o, ho, _⟩ := I.ok.funs.mem hb
    exact I.base.free b o ho (I.ok.frf b hb) fun z => I.ok.exfs b z hb

/-- THE STEP: the untracked objects but the frame and the records at ch are kept (the callers' frames up to slots), the frame's map is kept, the new abstract heap is held -/
theorem Inv.step {g' : Array GenState} {t' : Nat} {d' : Drawn} {ch : List Addr} (I : Inv X pins σ H s)
    (hch : ∀ b ∈ ch, (b ∈ X.ex ∨ X.s₀.heap.objs.size ≤ b) ∧ b ≠ X.env.locals ∧ (∀ x c, X.env.cells.lookup x = some c → c ≠ b) ∧ ∀ p ∈ X.pn ++ pins, p.1 ≠ b)
    (keep : ∀ b o, b ≠ X.env.locals → b ∉ X.fs → b ∉ ch → s.heap.get? b = some o → H b = none → h'.get? b = some o)
    (slot : ∀ b o, b ≠ X.env.locals → b ∈ X.fs → b ∉ ch → s.heap.get? b = some o → H b = none → ∃ sl, h'.get? b = some { o with slots := sl }) (free : ∀ b o, b ∉ ch → s.heap.get? b = some o → H b = none → H' b = none)
    (there : ∀ b o, b ∉ ch → s.heap.get? b = some o → ∃ o', h'.get? b = some o')
    (tups : ∀ b xs, H b = some (.tup xs) → H' b = some (.tup xs)) (frzs : ∀ b o u, H b = some (.frz o u) → H' b = some (.frz o u)) (tbls : ∀ b ps, H b = some (.tbl ps) → ∃ more, H' b = some (.tbl (ps ++ more)))
    (ns : ∀ m, s.heap.Ns X.env.locals m → h'.Ns X.env.locals m) (hok : HOk X.prog X.w H' h') (hg : AllBare g') :
    Inv X pins σ H' { s with heap := h', gens := g', drawn := d', toks := t' } := by
  have neL : ∀ b o, X.s₀.heap.get? b = some o → b ≠ X.env.locals := fun b o e => Nat.ne_of_lt (Nat.lt_of_lt_of_le (Heap.lt_size e) I.ok.above)
  have neC : ∀ b o, X.s₀.heap.get? b = some o → b ∉ X.ex → b ∉ ch := fun b o e hx hb => by
    rcases (hch b hb).1 with z | z
    · exact hx z
    · exact absurd (Nat.lt_of_lt_of_le (Heap.lt_size e) z) (Nat.lt_irrefl _)
  have cellK : ∀ x c, X.env.cells.lookup x = some c → ∀ v, s.heap.IsCell c v → h'.IsCell c v := fun x c e v ⟨o, ho, hd⟩ => by
    have nch : c ∉ ch := fun z => (hch c z).2.2.1 x c e rfl
    by_cases hc : c ∈ X.fs
    · obtain ⟨sl, q⟩ := slot c o (I.cne x c e) hc nch ho (I.freeC x c e)
      exact ⟨_, q, hd⟩
    · exact ⟨o, keep c o (I.cne x c e) hc nch ho (I.freeC x c e), hd⟩
  refine ⟨I.ok, I.os, hg, ⟨fun b o e n hb hx => ?_, fun b o e n hb hx => ?_, fun b o e n hx => ?_, fun b o e hx => ?_, fun b xs e => tups b xs (I.base.tups b xs e), fun b o xs e => frzs b o xs (I.base.frzs b o xs e), fun b ps e => ?_⟩, ?_, fun x c e => ?_, ?_, fun x c e => ?_, fun p hp => ?_, hok, I.len⟩
  · exact keep b o (neL b o e) hb (neC b o e hx) (I.base.keep b o e n hb hx) (I.base.free b o e n hx)
  · obtain ⟨sl, e1⟩ := I.base.slot b o e n hb hx
    obtain ⟨sl', e2⟩ := slot b _ (neL b o e) hb (neC b o e hx) e1 (I.base.free b o e n hx)
    exact ⟨sl', e2⟩
  · obtain ⟨o', e1⟩ := I.base.there b o e hx
    exact free b o' (neC b o e hx) e1 (I.base.free b o e n hx)
  · obtain ⟨o', e1⟩ := I.base.there b o e hx
    exact there b o' (neC b o e hx) e1
  · obtain ⟨m1, e1⟩ := I.base.tbls b ps e
    obtain ⟨m2, e2⟩ := tbls b _ e1
    exact ⟨m1 ++ m2, by rw [e2, Array.append_assoc]⟩
  · obtain ⟨m, hn, hl⟩ := I.loc
    refine ⟨m, ns m hn, fun i x v e1 e2 e3 => ?_⟩
    obtain ⟨u, r, l⟩ := hl i x v e1 e2 e3
    refine ⟨u, r, ?_⟩
    rcases l with l | ⟨k, c, e, z⟩
    · exact .inl l
    · exact .inr ⟨k, c, e, cellK x c e _ z⟩
  · obtain ⟨v, z⟩ := I.cell x c e
    exact ⟨v, cellK x c e v z⟩
  · obtain ⟨m, ⟨o, _, _, ho, _⟩, _⟩ := I.loc
    exact free _ o (fun z => (hch _ z).2.1 rfl) ho I.free
  · obtain ⟨v, o, ho, hd⟩ := I.cell x c e
    exact free c o (fun z => (hch c z).2.2.1 x c e rfl) ho (I.freeC x c e)
  · obtain ⟨e, n, ne, nf, d⟩ := I.pin p hp
    have nch : p.1 ∉ ch := fun z => (hch p.1 z).2.2.2 p hp rfl
    exact ⟨keep p.1 p.2 ne nf nch e n, free p.1 p.2 nch e n, ne, nf, d⟩
/-- .. where the frame's own object is kept too -/
theorem Inv.un {t' : Nat} (I : Inv X pins σ H s) (u : Un X.fs [] H H' s.heap h') (hok : HOk X.prog X.w H' h') : Inv X pins σ H' { s with heap := h', toks := t' } := by
  obtain ⟨m, ⟨o, es, ep, ho, r⟩, _⟩ := id I.loc
  obtain ⟨sl, hL⟩ := u.any ho I.free (by simp)
  exact I.step (g' := s.gens) (d' := s.drawn) (ch := []) (fun _ z => nomatch z) (fun b o _ hb _ e n => u.keep b o e n hb (by simp)) (fun b o _ hb _ e n => u.slot b o e n hb (by simp)) (fun b o _ e n => u.free b o e n (by simp)) (fun b o _ e => u.there b o e (by simp)) u.tups u.frzs u.tbls (fun m' hm => by
    obtain ⟨o', es', ep', ho', r'⟩ := hm
    rw [ho] at ho'; cases ho'
    exact ⟨_, es', ep', hL, r'⟩) hok I.bare
/-- behind a call (or a comprehension's block): the slots of this frame may have changed too, the records at ch may have turned -/
theorem Inv.call {g' : Array GenState} {t' : Nat} {d' : Drawn} {ch : List Addr} (I : Inv X pins σ H s) (u : Un (frs X.stack) ch H H' s.heap h') (hok : HOk X.prog X.w H' h') (hg : AllBare g')
    (hch : ∀ b ∈ ch, (b ∈ X.ex ∨ X.s₀.heap.objs.size ≤ b) ∧ b ≠ X.env.locals ∧ (∀ x c, X.env.cells.lookup x = some c → c ≠ b) ∧ ∀ p ∈ X.pn ++ pins, p.1 ≠ b) :
    Inv X pins σ H' { s with heap := h', gens := g', drawn := d', toks := t' } := by
  obtain ⟨m, ⟨o, es, ep, ho, r⟩, _⟩ := id I.loc
  obtain ⟨sl, hL⟩ := u.any ho I.free fun z => (hch _ z).2.1 rfl
  exact I.step (ch := ch) hch (fun b o hL hb hc e n => u.keep b o e n (fun z => (List.mem_cons.mp (I.stkSub b z)).elim hL hb) hc) (fun b o _ _ hc e n => u.any e n hc) (fun b o hc e n => u.free b o e n hc) (fun b o hc e => u.there b o e hc) u.tups u.frzs u.tbls (fun m' hm => by
    obtain ⟨o', es', ep', ho', r'⟩ := hm
    rw [ho] at ho'; cases ho'
    exact ⟨_, es', ep', hL, r'⟩) hok hg
/-- an untracked record of ours (an iterator) has turned -/
theorem Inv.turned {t' : Nat} {it : Addr} (I : Inv X pins σ H s) (k : ∀ b o, b ≠ it → s.heap.get? b = some o → h'.get? b = some o) (hn : H it = none) (hL : it ≠ X.env.locals)
    (h1 : it ∈ X.ex ∨ X.s₀.heap.objs.size ≤ it) (h2 : ∀ x c, X.env.cells.lookup x = some c → c ≠ it) (h3 : ∀ p ∈ X.pn ++ pins, p.1 ≠ it) : Inv X pins σ H { s with heap := h', toks := t' } := by
  have nit : ∀ b u, H b = some u → b ≠ it := fun b u e z => by rw [z, hn] at e; cases e
  refine I.step (g' := s.gens) (d' := s.drawn) (ch := [it]) (fun b hb => ?_) (fun b o _ _ hc e _ => k b o (fun z => hc (by simp [z])) e) (fun b o _ _ hc e _ => ⟨o.slots, k b o (fun z => hc (by simp [z])) e⟩) (fun _ _ _ _ n => n)
    (fun b o hc e => ⟨o, k b o (fun z => hc (by simp [z])) e⟩) (fun _ _ e => e) (fun _ _ _ e => e) (fun b ps e => ⟨#[], by rw [e]; simp⟩) (fun m hm => ?_) (fun b u e => ?_) I.bare
  · have e : b = it := by simpa using hb
    subst e
    exact ⟨h1, hL, h2, h3⟩
  · obtain ⟨o, es, ep, ho, r⟩ := hm
    exact ⟨o, es, ep, k _ o (Ne.symm hL) ho, r⟩
  · refine (I.hok b u e).stay (fun c v hc q => k c v ?_ q) (fun _ q => q) fun _ _ q => q
    rcases hc with z | z
    · rw [z]; exact nit b u e
    · exact nit c _ z
theorem Inv.tok (I : Inv X pins σ H s) (t : Nat) : Inv X pins σ H { s with toks := t } := I.un (h' := s.heap) (t' := t) Un.refl I.hok
/-- all objects kept -/
theorem Inv.kept {t' : Nat} (I : Inv X pins σ H s) (k : ∀ b u, s.heap.get? b = some u → h'.get? b = some u) : Inv X pins σ H { s with heap := h', toks := t' } := I.un (Un.kept k) (I.hok.kept k)
/-- a new object laid and tracked -/
theorem Inv.laid {a : Addr} {o : HO} {t' : Nat} (I : Inv X pins σ H s) (k : ∀ b u, s.heap.get? b = some u → h'.get? b = some u) (hp : s.heap.objs.size ≤ a) (new : ObjOk X.prog X.w (upd H a o) h' a o) :
    Inv X pins σ (upd H a o) { s with heap := h', toks := t' } := I.un (Un.laid k hp (I.hok.fresh hp)) (I.hok.laid k hp new)
/-- an object written -/
theorem Inv.write {x e : Addr} {o : HO} {t' : Nat} (I : Inv X pins σ H s) (mu : Mut (H x)) (he : e = x ∨ H e = some (.own x)) (k : ∀ b u, b ≠ e → s.heap.get? b = some u → h'.get? b = some u) (heo : ∃ u, h'.get? e = some u)
    (new : ObjOk X.prog X.w (upd H x o) h' x o) : Inv X pins σ (upd H x o) { s with heap := h', toks := t' } := I.un (Un.write mu he k heo) (I.hok.write mu he k heo new)
theorem Inv.pins_of {pins' : List (Addr × Obj)} (I : Inv X pins σ H s) (h : ∀ p ∈ pins', s.heap.get? p.1 = some p.2 ∧ H p.1 = none ∧ p.1 ≠ X.env.locals ∧ p.1 ∉ X.fs ∧ ∀ v, p.2.data ≠ .cell v) : Inv X pins' σ H s :=
  ⟨I.ok, I.os, I.bare, I.base, I.loc, I.cell, I.free, I.freeC, fun p hp => (List.mem_append.mp hp).elim (fun z => I.pin p (List.mem_append_left _ z)) (h p), I.hok, I.len⟩

theorem nodup_ix {N : List Str} (hN : N.Nodup) {i j : Nat} {x : Str} (a : N[i]? = some x) (b : N[j]? = some x) : i = j := by
  obtain ⟨h1, e1⟩ := List.getElem?_eq_some_iff.mp a
  obtain ⟨h2, e2⟩ := List.getElem?_eq_some_iff.mp b
  exact (List.getElem_inj hN).mp (e1.trans e2.symm)

/-- a name is stored; what changed -/
theorem store_ok2 {M : Model} {A : Around} {E : Value → Shared → Prop} {i : Nat} {x : Str} {v : V} {u : Value} {Q : Unit → Shared → Prop} (I : Inv X pins σ H s) (hN : X.N.Nodup) (hi : X.N[i]? = some x) (hx : Loc X.env.scope x) (r : RelV v u)
    (h : ∀ s', Inv X pins (σ.set i (some v)) H s' → (∃ a, Heap.SameBut a s.heap s'.heap ∧ (a = X.env.locals ∨ X.env.cells.lookup x = some a)) → Q () s') (hf : X.fn x = true ∨ X.env.scope.names.lookup x = some .local := by first | exact .inl rfl | exact .inr rfl | assumption) : wpAny M A (storeName X.env x u) Q E s := by
  obtain ⟨m, hn, hl⟩ := id I.loc
  have hcls : (X.env.scope.kind == .class || (X.env.scope.kind == .module && X.env.locals != X.env.globals)) = false := by rw [I.ok.kind]; rfl
  have hiσ : i < σ.length := by rw [I.len]; exact (List.getElem?_eq_some_iff.mp hi).1
  have cne := I.cne
  have tracked : ∀ {a : Addr} {h' : Heap}, (∃ o, s.heap.get? a = some o ∧ H a = none) → Heap.SameBut a s.heap h' → HOk X.prog X.w H h' := fun {a h'} ha hs b ob e => by
    obtain ⟨_, _, hfree⟩ := ha
    refine (I.hok b ob e).stay (fun c w' hc q => (hs.2 c ?_).trans q) (fun _ q => q) fun _ _ q => q
    rintro rfl
    rcases hc with rfl | hc
    · rw [hfree] at e; cases e
    · rw [hfree] at hc; cases hc
  rcases hx with hk | hk
  · refine wpAny_storeName_local hk hn (fun h' hn' hs => ?_) hcls
    obtain ⟨oL, _, _, hoL, _⟩ := id hn
    refine h _ ⟨I.ok, I.os, I.bare, ⟨fun b o e n hb hx => ?_, fun b o e n hb hx => ?_, I.base.free, fun b o e hx => ?_, I.base.tups, I.base.frzs, I.base.tbls⟩, ⟨_, hn', fun j y v' e1 e2 e3 => ?_⟩, fun y c e => ?_, I.free, I.freeC, fun p hp => ?_, tracked ⟨oL, hoL, I.free⟩ hs, by simpa using I.len⟩ ⟨_, hs, .inl rfl⟩
    · exact (hs.2 b (Nat.ne_of_lt (Nat.lt_of_lt_of_le (Heap.lt_size e) I.ok.above))).trans (I.base.keep b o e n hb hx)
    · obtain ⟨sl, e1⟩ := I.base.slot b o e n hb hx
      exact ⟨sl, (hs.2 b (Nat.ne_of_lt (Nat.lt_of_lt_of_le (Heap.lt_size e) I.ok.above))).trans e1⟩
    · obtain ⟨o', e1⟩ := I.base.there b o e hx
      exact ⟨o', (hs.2 b (Nat.ne_of_lt (Nat.lt_of_lt_of_le (Heap.lt_size e) I.ok.above))).trans e1⟩
    · by_cases hj : j = i
      · subst hj
        rw [hi] at e1; cases e1
        rw [List.getElem?_set_self hiσ] at e2
        cases e2
        exact ⟨u, r, .inl ⟨hk, by simp⟩⟩
      · rw [List.getElem?_set_ne (Ne.symm hj)] at e2
        obtain ⟨u', r', q⟩ := hl j y v' e1 e2 e3
        refine ⟨u', r', ?_⟩
        rcases q with ⟨k, e⟩ | ⟨k, c, e, z⟩
        · refine .inl ⟨k, ?_⟩
          have : y ≠ x := fun e => hj (nodup_ix hN e1 (e ▸ hi))
          simp [this, e]
        · exact .inr ⟨k, c, e, z.sameBut hs (cne y c e)⟩
    · obtain ⟨w', z⟩ := I.cell y c e
      exact ⟨w', z.sameBut hs (cne y c e)⟩
    · obtain ⟨e, n, ne, nf, d⟩ := I.pin p hp
      exact ⟨(hs.2 p.1 ne).trans e, n, ne, nf, d⟩
  · have hfn : X.fn x = true := by
      rcases hf with z | z
      · exact z
      · rw [z] at hk; cases hk
    obtain ⟨c, hc⟩ := I.ok.has x (.inl hk)
    obtain ⟨w', z⟩ := I.cell x c hc
    refine wpAny_storeName_cell I.ok.kind hk hc z (fun h' hc' hs => ?_)
    obtain ⟨oc, hoc, hocd⟩ := id z
    refine h { s with heap := h' } ⟨I.ok, I.os, I.bare, ⟨fun b o e n hb hx => ?_, fun b o e n hb hx => ?_, I.base.free, fun b o e hx => ?_, I.base.tups, I.base.frzs, I.base.tbls⟩, ⟨m, hn.sameBut hs (Ne.symm (cne x c hc)), fun j y v' e1 e2 e3 => ?_⟩, fun y c' e => ?_, I.free, I.freeC, fun p hp => ?_, tracked ⟨oc, hoc, I.freeC x c hc⟩ hs, by simpa using I.len⟩ ⟨c, hs, .inr hc⟩
    · exact (hs.2 b (Nat.ne_of_lt (Nat.lt_of_lt_of_le (Heap.lt_size e) (I.ok.cab x c hfn hc)))).trans (I.base.keep b o e n hb hx)
    · obtain ⟨sl, e1⟩ := I.base.slot b o e n hb hx
      exact ⟨sl, (hs.2 b (Nat.ne_of_lt (Nat.lt_of_lt_of_le (Heap.lt_size e) (I.ok.cab x c hfn hc)))).trans e1⟩
    · obtain ⟨o', e1⟩ := I.base.there b o e hx
      exact ⟨o', (hs.2 b (Nat.ne_of_lt (Nat.lt_of_lt_of_le (Heap.lt_size e) (I.ok.cab x c hfn hc)))).trans e1⟩
    · by_cases hj : j = i
      · subst hj
        rw [hi] at e1; cases e1
        rw [List.getElem?_set_self hiσ] at e2
        cases e2
        exact ⟨u, r, .inr ⟨.inl hk, c, hc, hc'⟩⟩
      · rw [List.getElem?_set_ne (Ne.symm hj)] at e2
        obtain ⟨u', r', q⟩ := hl j y v' e1 e2 e3
        refine ⟨u', r', ?_⟩
        rcases q with q | ⟨k, c', e, z'⟩
        · exact .inl q
        · refine .inr ⟨k, c', e, z'.sameBut hs ?_⟩
          rintro rfl
          exact hj (nodup_ix hN e1 (I.ok.inj _ _ _ e hc ▸ hi))
    · by_cases hcc : c' = c
      · subst hcc; exact ⟨_, hc'⟩
      · obtain ⟨w2, z2⟩ := I.cell y c' e
        exact ⟨w2, z2.sameBut hs hcc⟩
    · obtain ⟨e, n, ne, nf, d⟩ := I.pin p hp
      refine ⟨(hs.2 p.1 ?_).trans e, n, ne, nf, d⟩
      intro q
      rw [q, hoc] at e
      have q' : oc = p.2 := Option.some.inj e
      exact d w' (by rw [← q']; exact hocd)
theorem store_ok {M : Model} {A : Around} {E : Value → Shared → Prop} {i : Nat} {x : Str} {v : V} {u : Value} {Q : Unit → Shared → Prop} (I : Inv X pins σ H s) (hN : X.N.Nodup) (hi : X.N[i]? = some x) (hx : Loc X.env.scope x) (r : RelV v u)
    (h : ∀ s', Inv X pins (σ.set i (some v)) H s' → Q () s') (hf : X.fn x = true ∨ X.env.scope.names.lookup x = some .local := by first | exact .inl rfl | exact .inr rfl | assumption) : wpAny M A (storeName X.env x u) Q E s :=
  store_ok2 I hN hi hx r (fun s' I' _ => h s' I') hf
/-- behind a call or a block, the state as it is -/
theorem Inv.call' {s' : Shared} {ch : List Addr} (I : Inv X pins σ H s) (ho : s'.os = s.os) (u : Un (frs X.stack) ch H H' s.heap s'.heap) (hok : HOk X.prog X.w H' s'.heap) (hg : AllBare s'.gens)
    (hch : ∀ b ∈ ch, (b ∈ X.ex ∨ X.s₀.heap.objs.size ≤ b) ∧ b ≠ X.env.locals ∧ (∀ x c, X.env.cells.lookup x = some c → c ≠ b) ∧ ∀ p ∈ X.pn ++ pins, p.1 ≠ b) : Inv X pins σ H' s' := by
  obtain ⟨h', g', d', t', o'⟩ := s'
  have e : o' = s.os := ho
  subst e
  exact I.call (g' := g') (t' := t') (d' := d') u hok hg hch
end

/-! ### the judgements -/
/-- an exception: its class, its own dict's address (where it has one), the abstract heap behind it -/
abbrev XK := Value → Option Addr → Hp → Prop
abbrev St := List (Option V)
abbrev VK := V → Hp → Prop
/-- an expression's reading; a test's; an argument list's -/
abbrev TE := St → Hp → VK → Prop
abbrev TT := St → Hp → (Bool → Hp → Prop) → Prop
abbrev TA := St → Hp → (List V → Hp → Prop) → Prop
/-- what is wanted behind a statement -/
structure Ends where
  nx : St → Hp → Prop
  rt : VK
  bk : St → Hp → Prop := fun _ _ => False
  ct : St → Hp → Prop := fun _ _ => False
abbrev TS := Ends → St → Hp → Prop

def EP (X : Cx) (pins : List (Addr × Obj)) (σ : St) (Q : VK) (u : Value) (s' : Shared) : Prop := ∃ v H', Inv X pins σ H' s' ∧ RelV v u ∧ Q v H'
def TP (X : Cx) (pins : List (Addr × Obj)) (σ : St) (Q : Bool → Hp → Prop) (b : Bool) (s' : Shared) : Prop := ∃ H', Inv X pins σ H' s' ∧ Q b H'
def AP (X : Cx) (pins : List (Addr × Obj)) (σ : St) (Q : List V → Hp → Prop) (us : List Value) (s' : Shared) : Prop := ∃ vs H', Inv X pins σ H' s' ∧ Vals vs us ∧ Q vs H'
def SP (X : Cx) (pins : List (Addr × Obj)) (D : Ends) (f : Flow) (s' : Shared) : Prop :=
  match f with
  | .next => ∃ σ' H', Inv X pins σ' H' s' ∧ D.nx σ' H'
  | .brk => ∃ σ' H', Inv X pins σ' H' s' ∧ D.bk σ' H'
  | .cont => ∃ σ' H', Inv X pins σ' H' s' ∧ D.ct σ' H'
  | .ret u => ∃ v σ' H', Inv X pins σ' H' s' ∧ RelV v u ∧ D.rt v H'

def PE (X : Cx) (e : Expr) (t : TE) : Prop :=
  ∀ (pins : List (Addr × Obj)) (s : Shared) (σ : St) (H : Hp) (Q : VK), Inv X pins σ H s → t σ H Q → wpAny (model X.prog X.w) X.A (eval e X.env) (EP X pins σ Q) X.xe s
def PT (X : Cx) (e : Expr) (t : TT) : Prop :=
  ∀ (pins : List (Addr × Obj)) (s : Shared) (σ : St) (H : Hp) (Q : Bool → Hp → Prop), Inv X pins σ H s → t σ H Q → wpAny (model X.prog X.w) X.A (isTrue e X.env (eval e X.env)) (TP X pins σ Q) X.xe s
/-- a test whatever its 'whole' is (and, or) -/
def PW (X : Cx) (e : Expr) (t : TT) : Prop :=
  ∀ (whole : Sem Value) (pins : List (Addr × Obj)) (s : Shared) (σ : St) (H : Hp) (Q : Bool → Hp → Prop), Inv X pins σ H s → t σ H Q → wpAny (model X.prog X.w) X.A (isTrue e X.env whole) (TP X pins σ Q) X.xe s
theorem PW.pt {X : Cx} {e : Expr} {t : TT} (h : PW X e t) : PT X e t := h _
/-- an argument list (no star), from the left -/
def PA (X : Cx) (es : List Expr) (t : TA) : Prop :=
  ∀ (pos : Pos) (pins : List (Addr × Obj)) (s : Shared) (σ : St) (H : Hp) (Q : List V → Hp → Prop), Inv X pins σ H s → t σ H Q → wpAny (model X.prog X.w) X.A (spliced (backTo pos (starEach es X.env))) (AP X pins σ Q) X.xe s
def PS (X : Cx) (st : Stmt) (t : TS) : Prop :=
  ∀ (pins : List (Addr × Obj)) (s : Shared) (σ : St) (H : Hp) (D : Ends), Inv X pins σ H s → t D σ H → wpAny (model X.prog X.w) X.A (exec st X.env) (SP X pins D) X.xe s
def PSs (X : Cx) (st : List Stmt) (t : TS) : Prop :=
  ∀ (pins : List (Addr × Obj)) (s : Shared) (σ : St) (H : Hp) (D : Ends), Inv X pins σ H s → t D σ H → wpAny (model X.prog X.w) X.A (execs st X.env) (SP X pins D) X.xe s
/-- weaken the end -/
theorem thn {α : Type} {t : Sem α} {Q Q' : α → Shared → Prop} {M : Model} {A : Around} {E : Value → Shared → Prop} {s : Shared} (h : wpAny M A t Q E s) (hQ : ∀ a s, Q a s → Q' a s) : wpAny M A t Q' E s := wpAny_mono h hQ fun _ _ x => x
end L2

namespace L2
open PySem PySem.Spec PyProof.Rows
section
variable {X : Cx}

/-- two expressions in a row -/
theorem bin {a b : Expr} {ta tb : TE} (ha : PE X a ta) (hb : PE X b tb) {pins : List (Addr × Obj)} {s : Shared} {σ : St} {H : Hp} {R : V → V → Hp → Prop} (I : Inv X pins σ H s) (h : ta σ H fun x H1 => tb σ H1 fun y H2 => R x y H2)
    {α : Type} {Q : α → Shared → Prop} {f : Value → Value → Sem α}
    (hf : ∀ v u s2 x y H2, Inv X pins σ H2 s2 → RelV x v → RelV y u → R x y H2 → wpAny (model X.prog X.w) X.A (f v u) Q X.xe s2) :
    wpAny (model X.prog X.w) X.A (eval a X.env) (fun v s₁ => wpAny (model X.prog X.w) X.A (eval b X.env) (fun u s₂ => wpAny (model X.prog X.w) X.A (f v u) Q X.xe s₂) X.xe s₁) X.xe s := by
  refine thn (ha pins s σ H _ I h) fun v s1 ⟨x, H1, I1, r1, q1⟩ => ?_
  refine thn (hb pins s1 σ H1 _ I1 q1) fun u s2 ⟨y, H2, I2, r2, q2⟩ => ?_
  exact hf v u s2 x y H2 I2 r1 r2 q2

/-! ### names and constants -/
def tVar (i : Nat) : TE := fun σ H Q => ∃ v, σ[i]? = some (some v) ∧ Q v H
def tC (v : V) : TE := fun _ H Q => Q v H
theorem pe_var {i : Nat} {x : Str} {pos : Pos} (hN : X.N[i]? = some x) (hv : Vis X.env.scope x) (hd : (x == ("__debug__" : Str)) = false := by decide) (hcd : (x == ("__classdict__" : Str)) = false := by decide) : PE X (.Name x pos) (tVar i) := by
  intro pins s σ H Q I h
  obtain ⟨v, e, h⟩ := h
  obtain ⟨m, hn, hl⟩ := I.loc
  obtain ⟨u, r, l⟩ := hl i x v hN e hv
  have fin : EP X pins σ Q u s := ⟨v, H, I, r, h⟩
  rcases l with ⟨hk, hm⟩ | ⟨hk, c, hc, hcell⟩
  · exact wpAny_Name (wpAny_loadName_local I.ok.kind hk hn hm fin) hd
  · rcases hk with hk | hk
    · exact wpAny_Name (wpAny_loadName_cell I.ok.kind hk hc hcell fin) hd
    · exact wpAny_Name (wpAny_loadName_free I.ok.kind hk hc hcell fin hcd) hd
theorem pe_int {i j pos} : PE X (.Constant (.int i) j pos) (tC (.int i)) := fun _ _ _ H _ I h => wpAny_Constant_int ⟨.int i, H, I.tok _, ⟨_, rfl⟩, h⟩
theorem pe_bl {b j pos} : PE X (.Constant (.bool b) j pos) (tC (.bl b)) := fun _ _ _ H _ I h => Constant_bool ⟨.bl b, H, I, rfl, h⟩
theorem pe_non {j pos} : PE X (.Constant .none j pos) (tC .non) := fun _ _ _ H _ I h => Constant_none ⟨.non, H, I, rfl, h⟩
theorem pe_str {x j pos} : PE X (.Constant (.str x) j pos) (tC (.str x)) := fun _ _ _ H _ I h => Calls.Constant_str ⟨.str x, H, I.tok _, ⟨_, rfl⟩, h⟩

/-- a global name of the def -/
def Gl (X : Cx) (x : Str) : Prop := X.env.kindOf x = some .globalImplicit
theorem ld_glob {E : Value → Shared → Prop} {pins : List (Addr × Obj)} {s : Shared} {σ : St} {H : Hp} {x : Str} {u : Value} {pos : Pos} {Q : Value → Shared → Prop} (I : Inv X pins σ H s) (hg : Gl X x) (hm : X.mg x = some u) (h : Q u s)
    (hd : (x == ("__debug__" : Str)) = false := by decide) : wpAny (model X.prog X.w) X.A (eval (.Name x pos) X.env) Q E s :=
  Calls.Name_function_global I.ok.kind hg (Calls.loadGlobal_global (by rw [I.ok.glob]; exact I.mod.glob.keeps I.bk) hm h) hd
theorem ld_blt {E : Value → Shared → Prop} {pins : List (Addr × Obj)} {s : Shared} {σ : St} {H : Hp} {x : Str} {u : Value} {pos : Pos} {Q : Value → Shared → Prop} (I : Inv X pins σ H s) (hg : Gl X x) (hm : X.mg x = none) (hv : bootBuiltins x = some u) (h : Q u s)
    (hn : x ≠ "__name__" := by decide) (hd : (x == ("__debug__" : Str)) = false := by decide) : wpAny (model X.prog X.w) X.A (eval (.Name x pos) X.env) Q E s := by
  obtain ⟨mb, h1, h2⟩ := I.mod.blt
  exact Calls.Name_function_global I.ok.kind hg (Calls.loadGlobal_builtin (by rw [I.ok.glob]; exact I.mod.glob.keeps I.bk) hm (by rw [I.ok.blt]; exact h1.keeps I.bk) ((h2 x hn).trans hv) h) hd
/-- a module's constant, a class, a function, as a value -/
theorem pe_glob {x : Str} {v : V} {u : Value} {pos : Pos} (hg : Gl X x) (hm : X.mg x = some u) (r : RelV v u) (hd : (x == ("__debug__" : Str)) = false := by decide) : PE X (.Name x pos) (tC v) :=
  fun _ _ _ H _ I h => ld_glob I hg hm ⟨v, H, I, r, h⟩ hd
theorem pe_bltn {x : Str} {v : V} {u : Value} {pos : Pos} (hg : Gl X x) (hm : X.mg x = none) (hv : bootBuiltins x = some u) (r : RelV v u) (hn : x ≠ "__name__" := by decide) (hd : (x == ("__debug__" : Str)) = false := by decide) : PE X (.Name x pos) (tC v) :=
  fun _ _ _ H _ I h => ld_blt I hg hm hv ⟨v, H, I, r, h⟩ hn hd

/-! ### arithmetic -/
variable {a b : Expr} {ta tb : TE} {pos : Pos}
/-! ### comparisons -/
def PC (X : Cx) (op : CmpOp) (a b : Expr) (t : TE) : Prop :=
  ∀ (pins : List (Addr × Obj)) (s : Shared) (σ : St) (H : Hp) (Q : VK), Inv X pins σ H s → t σ H Q →
    wpAny (model X.prog X.w) X.A (eval a X.env) (fun v s₁ => wpAny (model X.prog X.w) X.A (eval b X.env) (fun u s₂ => wpAny (model X.prog X.w) X.A (compareOp op v u) (EP X pins σ Q) X.xe s₂) X.xe s₁) X.xe s
theorem nobehind (b : Expr) {op : CmpOp} (h : op ≠ .In) (h2 : op ≠ .NotIn) : behindInMarks op b = false := by
  have e1 : (op == CmpOp.In) = false := by cases op <;> first | rfl | exact absurd rfl h
  have e2 : (op == CmpOp.NotIn) = false := by cases op <;> first | rfl | exact absurd rfl h2
  cases b <;> simp [behindInMarks, e1, e2]
/-- a comparison as a value, as a test -/
def tB (t : TE) : TT := fun σ H Q => t σ H fun x H1 => ∃ c, x = .bl c ∧ Q c H1
theorem pt_cmp {op : CmpOp} {t : TE} (h : PC X op a b t) (h1 : behindInMarks op b = false := by first | exact nobehind _ (by decide) (by decide) | rfl) : PT X (.Compare a [op] [b] pos) (tB t) := by
  intro pins s σ H Q I hw
  refine wpAny_isTrue_Compare1 (thn (h pins s σ H _ I hw) fun v s1 h1 => thn h1 fun u s2 h2 => thn h2 fun c s3 ⟨x, H1, I1, r1, q1⟩ => ?_) h1
  obtain ⟨d, rfl, q⟩ := q1
  cases r1
  exact wpAny_truthy_bool ⟨H1, I1, q⟩
/-- an expression whose value is a bool, as a test -/
theorem pt_val {e : Expr} {t : TE} (h : PE X e t) (he : ∀ whole, isTrue e X.env whole = (do let v ← whole; standAt e.pos; holding [v] (truthy v)) := by intro _; rfl) : PT X e (tB t) := by
  intro pins s σ H Q I hw
  refine isTrue_plain (thn (h pins s σ H _ I hw) fun v s1 ⟨x, H1, I1, r1, q1⟩ => ?_) (he _)
  obtain ⟨d, rfl, q⟩ := q1
  cases r1
  exact wpAny_truthy_bool ⟨H1, I1, q⟩

/-! ### and, or, not -/
variable {tA tB' : TT} {rest : List Expr}
def tAnd (t u : TT) : TT := fun σ H Q => t σ H fun c H1 => if c = true then u σ H1 Q else Q false H1
def tOr (t u : TT) : TT := fun σ H Q => t σ H fun c H1 => if c = true then Q true H1 else u σ H1 Q
def tNot (t : TT) : TT := fun σ H Q => t σ H fun c H1 => Q (!c) H1
theorem pw_and1 (ha : PT X a tA) : PW X (.BoolOp .And [a] pos) tA := by
  intro wh pins s σ H Q I h
  refine isTrue_and (thn (ha pins s σ H Q I h) fun c s1 e => ?_)
  cases c with
  | true => exact isTrue_and_nil e
  | false => exact e
theorem pw_or1 (ha : PT X a tA) : PW X (.BoolOp .Or [a] pos) tA := by
  intro wh pins s σ H Q I h
  refine isTrue_or (thn (ha pins s σ H Q I h) fun c s1 e => ?_)
  cases c with
  | false => exact isTrue_or_nil e
  | true => exact e
theorem pw_and (ha : PT X a tA) (hb : PW X (.BoolOp .And (b :: rest) pos) tB') : PW X (.BoolOp .And (a :: b :: rest) pos) (tAnd tA tB') := by
  intro wh pins s σ H Q I h
  refine isTrue_and (thn (ha pins s σ H _ I h) fun c s1 ⟨H1, I1, q1⟩ => ?_)
  cases c with
  | true => exact hb wh pins s1 σ H1 Q I1 q1
  | false => exact ⟨H1, I1, q1⟩
theorem pw_or (ha : PT X a tA) (hb : PW X (.BoolOp .Or (b :: rest) pos) tB') : PW X (.BoolOp .Or (a :: b :: rest) pos) (tOr tA tB') := by
  intro wh pins s σ H Q I h
  refine isTrue_or (thn (ha pins s σ H _ I h) fun c s1 ⟨H1, I1, q1⟩ => ?_)
  cases c with
  | true => exact ⟨H1, I1, q1⟩
  | false => exact hb wh pins s1 σ H1 Q I1 q1
theorem pt_not (ha : PT X a tA) : PT X (.UnaryOp .Not a pos) (tNot tA) := by
  intro pins s σ H Q I h
  exact isTrue_not (ha pins s σ H (fun c H1 => Q (!c) H1) I h)
/-- .. as values (bools) -/
def tAndV (ta tb : TE) : TE := fun σ H Q => ta σ H fun x H1 => ∃ c, x = .bl c ∧ if c = true then tb σ H1 Q else Q (.bl false) H1
def tOrV (ta tb : TE) : TE := fun σ H Q => ta σ H fun x H1 => ∃ c, x = .bl c ∧ if c = true then Q (.bl true) H1 else tb σ H1 Q
def tNotV (ta : TE) : TE := fun σ H Q => ta σ H fun x H1 => ∃ c, x = .bl c ∧ Q (.bl (!c)) H1
theorem pe_one {op} {t : TE} (h : PE X a t) : PE X (.BoolOp op [a] pos) t := fun pins s σ H Q I hw => BoolOp_one (h pins s σ H Q I hw)
theorem pe_and (ha : PE X a ta) (hb : PE X (.BoolOp .And (b :: rest) pos) tb) : PE X (.BoolOp .And (a :: b :: rest) pos) (tAndV ta tb) := by
  intro pins s σ H Q I h
  refine BoolOp_and (thn (ha pins s σ H _ I h) fun v s1 ⟨x, H1, I1, r1, q1⟩ => ?_)
  obtain ⟨c, rfl, q1⟩ := q1
  cases r1
  refine wpAny_truthy_bool ?_
  cases c with
  | true => exact hb pins s1 σ H1 Q I1 q1
  | false => exact ⟨.bl false, H1, I1, rfl, q1⟩
theorem pe_or (ha : PE X a ta) (hb : PE X (.BoolOp .Or (b :: rest) pos) tb) : PE X (.BoolOp .Or (a :: b :: rest) pos) (tOrV ta tb) := by
  intro pins s σ H Q I h
  refine BoolOp_or (thn (ha pins s σ H _ I h) fun v s1 ⟨x, H1, I1, r1, q1⟩ => ?_)
  obtain ⟨c, rfl, q1⟩ := q1
  cases r1
  refine wpAny_truthy_bool ?_
  cases c with
  | false => exact hb pins s1 σ H1 Q I1 q1
  | true => exact ⟨.bl true, H1, I1, rfl, q1⟩
theorem pe_not (ha : PE X a ta) : PE X (.UnaryOp .Not a pos) (tNotV ta) := by
  intro pins s σ H Q I h
  refine UnaryOp_ (thn (ha pins s σ H _ I h) fun v s1 ⟨x, H1, I1, r1, q1⟩ => ?_)
  obtain ⟨c, rfl, q1⟩ := q1
  cases r1
  exact not_of (wpAny_truthy_bool ⟨.bl (!c), H1, I1, rfl, q1⟩)
end
end L2

namespace L2
open PySem PySem.Spec PyProof.Rows

/-! ### a list, a tuple that is read: tracked, frozen, or an object of the module -/
def SqL (K : PySem.W.Frag) (H : Hp) (a : Addr) (xs : List V) : Prop :=
  Rd H a (.lst xs) ∨
    ∃ (o : Obj) (its : Array Value) (n : Nat), K.lookup a = some o ∧ o.cls = .type "list" ∧ o.dict = none ∧ o.data = .seq its n ∧ its.size ≤ sizeLine ∧ Vals xs its.toList
def SqT (K : PySem.W.Frag) (H : Hp) (a : Addr) (xs : List V) : Prop :=
  Rd H a (.tup xs) ∨
    ∃ (o : Obj) (its : Array Value) (n : Nat), K.lookup a = some o ∧ o.cls = .type "tuple" ∧ o.data = .seq its n ∧ its.size ≤ sizeLine ∧ Vals xs its.toList
def absV : Value → Option V
  | .none => some .non
  | .bool b => some (.bl b)
  | .int i _ => some (.int i)
  | .str x _ => some (.str x)
  | .bytes b _ => some (.byt b)
  | .float b _ => some (.flt b)
  | .ref a => some (.ref a)
  | .type n => some (.ty n)
  | _ => none
theorem RelV.abs {x : V} {u : Value} (r : RelV x u) : absV u = some x := by
  cases x with
  | non => cases r; rfl
  | bl _ => cases r; rfl
  | int _ => obtain ⟨t, rfl⟩ := r; rfl
  | str _ => obtain ⟨t, rfl⟩ := r; rfl
  | byt _ => obtain ⟨t, rfl⟩ := r; rfl
  | flt _ => obtain ⟨t, rfl⟩ := r; rfl
  | ref _ => cases r; rfl
  | ty _ => cases r; rfl
theorem RelV.inj {x y : V} {u : Value} (r : RelV x u) (q : RelV y u) : x = y := Option.some.inj (r.abs.symm.trans q.abs)
theorem Vals.inj : ∀ {xs ys : List V} {us : List Value}, Vals xs us → Vals ys us → xs = ys
  | _, _, _, .nil, .nil => rfl
  | _, _, _, .cons r t, .cons r' t' => by rw [r.inj r', Vals.inj t t']
section
variable {X : Cx} {pins : List (Addr × Obj)} {σ : St} {H : Hp} {s : Shared} {a : Addr} {xs ys : List V}
theorem SqL.of {K : PySem.W.Frag} (h : H a = some (.lst xs)) : SqL K H a xs := .inl (.inl h)
theorem SqT.of {K : PySem.W.Frag} (h : H a = some (.tup xs)) : SqT K H a xs := .inl (.inl h)
theorem Inv.list (I : Inv X pins σ H s) (h : SqL X.K H a xs) : ∃ its : List Value, Vals xs its ∧ PlainL s.heap a its.toArray ∧ xs.length ≤ sizeLine := by
  rcases h with h | ⟨o, its, n, hk, hc, hd, hs, hz, r⟩
  · obtain ⟨z, its, n, r, e⟩ := h.ok I.hok
    exact ⟨its, r, ⟨_, n, e, rfl, rfl, rfl⟩, z⟩
  · refine ⟨its.toList, r, ⟨o, n, I.kIn a o hk, hc, hd, by simpa using hs⟩, ?_⟩
    have e := r.length
    simp only [Array.length_toList] at e
    omega
theorem Inv.tuple (I : Inv X pins σ H s) (h : SqT X.K H a xs) : ∃ its : List Value, Vals xs its ∧ IsTup s.heap a its.toArray ∧ xs.length ≤ sizeLine := by
  rcases h with h | ⟨o, its, n, hk, hc, hs, hz, r⟩
  · obtain ⟨z, its, r, p⟩ := h.ok I.hok
    exact ⟨its, r, p, z⟩
  · refine ⟨its.toList, r, ⟨o, I.kIn a o hk, hc, n, by simpa using hs⟩, ?_⟩
    have e := r.length
    simp only [Array.length_toList] at e
    omega
theorem Inv.list_inj (I : Inv X pins σ H s) (h : SqL X.K H a xs) (h' : SqL X.K H a ys) : xs = ys := by
  obtain ⟨its, r, ⟨o, n, e, _, _, d⟩, _⟩ := I.list h
  obtain ⟨its', r', ⟨o', n', e', _, _, d'⟩, _⟩ := I.list h'
  rw [e] at e'; cases e'
  rw [d] at d'
  injection d' with d1 _
  have : its = its' := by simpa using congrArg Array.toList d1
  subst this
  exact r.inj r'
end

/-! ### another wish about exceptions -/
abbrev Cx.wish (X : Cx) (E : Value → Shared → Prop) : Cx := { X with xe := E }
/-- no exception leaves -/
abbrev Cx.nox (X : Cx) : Cx := X.wish fun _ _ => False
theorem Cx.Ok.wish {X : Cx} (ok : X.Ok) (E : Value → Shared → Prop) : (X.wish E).Ok :=
  ⟨ok.mod, ok.kind, ok.glob, ok.blt, ok.above, ok.inj, ok.has, ok.cab, ok.hd, ok.frames, ok.stk, ok.exf, ok.bs, ok.bsz, ok.noex, ok.exfs, ok.funs, ok.frf⟩
theorem Cx.Ok.unwish {X : Cx} {E : Value → Shared → Prop} (ok : (X.wish E).Ok) : X.Ok :=
  ⟨ok.mod, ok.kind, ok.glob, ok.blt, ok.above, ok.inj, ok.has, ok.cab, ok.hd, ok.frames, ok.stk, ok.exf, ok.bs, ok.bsz, ok.noex, ok.exfs, ok.funs, ok.frf⟩
section
variable {X : Cx} {pins : List (Addr × Obj)} {σ : St} {H : Hp} {s : Shared} {E : Value → Shared → Prop}
theorem Inv.wish (I : Inv X pins σ H s) (E : Value → Shared → Prop) : Inv (X.wish E) pins σ H s := ⟨I.ok.wish E, I.os, I.bare, I.base, I.loc, I.cell, I.free, I.freeC, I.pin, I.hok, I.len⟩
theorem Inv.unwish (I : Inv (X.wish E) pins σ H s) : Inv X pins σ H s := ⟨I.ok.unwish, I.os, I.bare, I.base, I.loc, I.cell, I.free, I.freeC, I.pin, I.hok, I.len⟩
theorem SP.unwish {D : Ends} {f : Flow} {s' : Shared} (h : SP (X.wish E) pins D f s') : SP X pins D f s' := by
  cases f with
  | next => obtain ⟨σ', H', I, q⟩ := h; exact ⟨σ', H', I.unwish, q⟩
  | brk => obtain ⟨σ', H', I, q⟩ := h; exact ⟨σ', H', I.unwish, q⟩
  | cont => obtain ⟨σ', H', I, q⟩ := h; exact ⟨σ', H', I.unwish, q⟩
  | ret u => obtain ⟨v, σ', H', I, r, q⟩ := h; exact ⟨v, σ', H', I.unwish, r, q⟩
theorem PSs.nox {st : List Stmt} {t : TS} (h : PSs X.nox st t) : PSs X st t := fun pins s σ H D I hw =>
  wpAny_mono (h pins s σ H D (I.wish _) hw) (fun _ _ q => q.unwish) fun _ _ z => False.elim z
end

/-! ### blocks and small statements -/
section
variable {X : Cx} {st : Stmt} {rest : List Stmt} {t u : TS} {e : Expr} {te : TE} {pos : Pos}
def tNext : TS := fun D σ H => D.nx σ H
def tSeq (t u : TS) : TS := fun D σ H => t { D with nx := u D } σ H
theorem pss_nil : PSs X [] tNext := fun _ _ σ H _ I h => wpAny_execs_nil ⟨σ, H, I, h⟩
theorem pss_cons (h1 : PS X st t) (h2 : PSs X rest u) : PSs X (st :: rest) (tSeq t u) := by
  intro pins s σ H D I h
  refine wpAny_execs_cons (thn (h1 pins s σ H { D with nx := u D } I h) fun f s1 q => ?_)
  cases f with
  | next =>
    obtain ⟨σ', H', I', q⟩ := q
    exact h2 pins s1 σ' H' D I' q
  | ret v => exact q
  | brk => exact q
  | cont => exact q
theorem pss_one (h1 : PS X st t) : PSs X [st] t := by
  intro pins s σ H D I h
  refine wpAny_execs_cons (thn (h1 pins s σ H D I h) fun f s1 q => ?_)
  cases f with
  | next => exact wpAny_execs_nil q
  | ret v => exact q
  | brk => exact q
  | cont => exact q
/-- in a def's body nothing is shown -/
theorem Inv.quiet {pins : List (Addr × Obj)} {σ : St} {H : Hp} {s : Shared} (I : Inv X pins σ H s) : interactive X.env = false := by simp [interactive, I.ok.kind]
/-- an expression whose value is dropped -/
def tDrop (te : TE) : TS := fun D σ H => te σ H fun _ H1 => D.nx σ H1
theorem ps_expr (he : PE X e te) (hs : swapsWith e none pos.line X.env = pure false := by rfl) : PS X (.Expr e pos) (tDrop te) := by
  intro pins s σ H D I h
  exact wpAny_Expr_any (thn (he pins s σ H _ I h) fun v s1 ⟨x, H1, I1, r1, q1⟩ => ⟨σ, H1, I1, q1⟩) I.quiet hs
def tRet (te : TE) : TS := fun D σ H => te σ H D.rt
theorem ps_ret (he : PE X e te) : PS X (.Return (some e) pos) (tRet te) := by
  intro pins s σ H D I h
  exact wpAny_Return_some (thn (he pins s σ H _ I h) fun v s1 ⟨x, H1, I1, r1, q1⟩ => ⟨x, σ, H1, I1, r1, q1⟩)
def tIfS (c : TT) (t u : TS) : TS := fun D σ H => c σ H fun b H1 => if b = true then t D σ H1 else u D σ H1
theorem ps_if {c : Expr} {a b : List Stmt} {tc : TT} (hc : PT X c tc) (ha : PSs X a t) (hb : PSs X b u) : PS X (.If c a b pos) (tIfS tc t u) := by
  intro pins s σ H D I h
  refine wpAny_If (thn (hc pins s σ H _ I h) fun d s1 ⟨H1, I1, q1⟩ => ?_)
  cases d with
  | true => exact ha pins s1 σ H1 D I1 q1
  | false => exact hb pins s1 σ H1 D I1 q1
end

/-! ### targets -/
abbrev TG := V → St → Hp → (St → Hp → Prop) → Prop
abbrev TGs := List V → St → Hp → (St → Hp → Prop) → Prop
def PG (X : Cx) (target : Expr) (t : TG) : Prop :=
  ∀ (pins : List (Addr × Obj)) (s : Shared) (σ : St) (H : Hp) (v : V) (u : Value) (Q : St → Hp → Prop), Inv X pins σ H s → RelV v u → t v σ H Q →
    wpAny (model X.prog X.w) X.A (assign target X.env u) (fun _ s' => ∃ σ' H', Inv X pins σ' H' s' ∧ Q σ' H') X.xe s
/-- several targets, one after another -/
def PGs (X : Cx) (ts : List Expr) (t : TGs) : Prop :=
  ∀ (pins : List (Addr × Obj)) (s : Shared) (σ : St) (H : Hp) (vs : List V) (us : List Value) (Q : St → Hp → Prop), Inv X pins σ H s → Vals vs us → t vs σ H Q →
    wpAny (model X.prog X.w) X.A (assignInOrder ((assignEach ts X.env).map (·.2)) us) (fun _ s' => ∃ σ' H', Inv X pins σ' H' s' ∧ Q σ' H') X.xe s
section
variable {X : Cx} {pos : Pos}
def gName (i : Nat) : TG := fun v σ H Q => Q (σ.set i (some v)) H
theorem pg_name {i : Nat} {x : Str} (hN : X.N.Nodup) (hi : X.N[i]? = some x) (hx : Loc X.env.scope x) (hf : X.fn x = true ∨ X.env.scope.names.lookup x = some .local := by first | exact .inl rfl | exact .inr rfl | assumption) : PG X (.Name x pos) (gName i) := by
  intro pins s σ H v u Q I r h
  exact wpAny_assign_Name (store_ok I hN hi hx r (fun s' I' => ⟨_, H, I', h⟩) hf)
def gNil : TGs := fun vs σ H Q => vs = [] ∧ Q σ H
def gCons (t : TG) (u : TGs) : TGs := fun vs σ H Q => ∃ v r, vs = v :: r ∧ t v σ H fun σ' H' => u r σ' H' Q
theorem pgs_nil : PGs X [] gNil := by
  intro pins s σ H vs us Q I r h
  obtain ⟨e, h⟩ := h
  subst e
  cases r
  exact assignInOrder_nil ⟨σ, H, I, h⟩
theorem pgs_cons {e : Expr} {es : List Expr} {t : TG} {u : TGs} (h1 : PG X e t) (h2 : PGs X es u)
    (hs : (assignEach (e :: es) X.env).map (·.2) = assign e X.env :: (assignEach es X.env).map (·.2) := by rfl) : PGs X (e :: es) (gCons t u) := by
  intro pins s σ H vs us Q I r h
  obtain ⟨v, vr, e1, h⟩ := h
  subst e1
  cases r with
  | cons r rr =>
    rw [hs]
    refine assignInOrder_cons (thn (h1 pins s σ H _ _ _ I r h) fun _ s1 ⟨σ1, H1, I1, q1⟩ => ?_)
    exact h2 pins s1 σ1 H1 _ _ Q I1 rr q1
/-- (a, b, ..) = a tuple of that length -/
def gTup (K : PySem.W.Frag) (n : Nat) (t : TGs) : TG := fun v σ H Q => ∃ a xs, v = .ref a ∧ SqT K H a xs ∧ xs.length = n ∧ t xs σ H Q
theorem pg_tup {es : List Expr} {k : Nat} {t : TGs} {n : Nat} (hc : X.calm = true) (h : PGs X es t)
    (hn : (assignEach es X.env).length = n := by rfl) (hst : (assignEach es X.env).findIdx? (·.1) = none := by rfl) : PG X (.Tuple es k pos) (gTup X.K n t) := by
  intro pins s σ H v u Q I r hw
  obtain ⟨a, xs, e1, hq, hl, hw⟩ := hw
  subst e1
  cases r
  obtain ⟨its, rv, ht, hz⟩ := I.tuple hq
  refine assign_Tuple_tuple (I.ok.hd hc) ht (by simp [hn, ← hl, rv.length]) hst fun h' hx => ?_
  have I1 : Inv X pins σ H { s with heap := h' } := I.kept (t' := s.toks) fun b o e => hx b o (Nat.ne_of_lt (Heap.lt_size e)) e
  exact h pins _ σ H xs _ Q I1 (by simpa using rv) hw
/-- target = value -/
def tAsg (te : TE) (g : TG) : TS := fun D σ H => te σ H fun x H1 => g x σ H1 D.nx
/-- name = value -/
theorem ps_set {i : Nat} {x : Str} {e : Expr} {te : TE} {pos' : Pos} (hN : X.N.Nodup) (hi : X.N[i]? = some x) (hx : Loc X.env.scope x) (he : PE X e te) (hs : swapsWith e (some (.Name x pos')) pos.line X.env = pure false := by rfl) (hf : X.fn x = true ∨ X.env.scope.names.lookup x = some .local := by first | exact .inl rfl | exact .inr rfl | assumption) :
    PS X (.Assign [.Name x pos'] e pos) (tAsg te (gName i)) := by
  intro pins s σ H D I h
  refine wpAny_Assign_Name (thn (he pins s σ H _ I h) fun v s1 ⟨y, H1, I1, r1, q1⟩ => ?_) hs
  exact store_ok I1 hN hi hx r1 (fun s2 I2 => ⟨_, H1, I2, q1⟩) hf
end

/-! ### while -/
section
variable {X : Cx} {pos : Pos}
end

/-! ### what a loop or a comprehension walks -/
/-- at turn i: it yields x (the heap may grow), or it stops -/
structure It where
  go : Nat → Hp → Prop
  yld : Nat → Hp → V → Hp → Prop
  stop : Nat → Hp → Prop
/-- the iterator's own objects may turn: they are not the frame's, not pinned, younger than the entry (or a comprehension's own) -/
def FpOk (X : Cx) (pins : List (Addr × Obj)) (H : Hp) (b : Addr) : Prop :=
  H b = none ∧ b ≠ X.env.locals ∧ b ∉ X.fs ∧ (b ∈ X.ex ∨ X.s₀.heap.objs.size ≤ b) ∧ (∀ x c, X.env.cells.lookup x = some c → c ≠ b) ∧ ∀ p ∈ X.pn ++ pins, p.1 ≠ b
theorem Inv.fpOk {X : Cx} {pins : List (Addr × Obj)} {σ : St} {H H' : Hp} {s : Shared} {b : Addr} (I : Inv X pins σ H s) (hb : s.heap.objs.size ≤ b) (hn : H' b = none) : FpOk X pins H' b := by
  refine ⟨hn, Nat.ne_of_gt (Nat.lt_of_lt_of_le I.lt hb), I.nofs hb, .inr (Nat.le_trans I.sz hb), fun x c e z => ?_, fun p hp z => ?_⟩
  · obtain ⟨v, q⟩ := I.cell x c e
    exact absurd (Nat.lt_of_lt_of_le q.lt (by rw [z]; exact hb)) (Nat.lt_irrefl _)
  · exact absurd (Nat.lt_of_lt_of_le (Heap.lt_size (I.pin p hp).1) (by rw [z]; exact hb)) (Nat.lt_irrefl _)
structure Turn (P : Program) (w : World) (K : PySem.W.Frag) (tg : Expr) (J : It) (fp : List Addr) (it : Addr) (tn : Nat → Heap → Prop) : Prop where
  mem : it ∈ fp
  obj : ∀ i h, tn i h → ∀ b ∈ fp, ∃ o, h.get? b = some o ∧ ∀ v, o.data ≠ .cell v
  keep : ∀ i h h', tn i h → (∀ b ∈ fp, ∀ o, h.get? b = some o → h'.get? b = some o) → tn i h'
  item : ∀ (X : Cx), X.prog = P → X.w = w → X.K = K → X.calm = true → ∀ (i : Nat) (pins : List (Addr × Obj)) (s : Shared) (σ : St) (H : Hp) (E : Value → Shared → Prop), Inv X pins σ H s → (∀ b ∈ fp, FpOk X pins H b) → tn i s.heap → J.go i H →
    wpAny (model P w) X.A (pyNext (.ref it)) (fun r s1 => ∃ u, r = some u ∧
      wpAny (model P w) X.A (letOwnedTupleGo tg (.ref it) u) (fun _ s2 => ∃ x H', Inv X pins σ H' s2 ∧ RelV x u ∧ J.yld i H x H' ∧ tn (i + 1) s2.heap ∧ ∀ b ∈ fp, H' b = none) E s1) E s
  done : ∀ (X : Cx), X.prog = P → X.w = w → X.K = K → X.calm = true → ∀ (i : Nat) (pins : List (Addr × Obj)) (s : Shared) (σ : St) (H : Hp) (E : Value → Shared → Prop), Inv X pins σ H s → (∀ b ∈ fp, FpOk X pins H b) → tn i s.heap → J.stop i H →
    wpAny (model P w) X.A (pyNext (.ref it)) (fun r s1 => r = none ∧ Inv X pins σ H s1) E s
  self : ∀ (A : Around) (i : Nat) (s : Shared) (Q : Value → Shared → Prop) (E : Value → Shared → Prop), tn i s.heap → Q (.ref it) s → wpAny (model P w) A (pyIter (.ref it)) Q E s
abbrev TI := St → Hp → (It → Hp → Prop) → Prop
/-- an iterator has come -/
def PIE (X : Cx) (pins : List (Addr × Obj)) (σ : St) (tg : Expr) (R : It → Hp → Prop) (itv : Value) (s2 : Shared) : Prop :=
  ∃ (it : Addr) (fp : List Addr) (tn : Nat → Heap → Prop) (J : It) (H' : Hp), itv = .ref it ∧ Inv X pins σ H' s2 ∧ Turn X.prog X.w X.K tg J fp it tn ∧ tn 0 s2.heap ∧ (∀ b ∈ fp, FpOk X pins H' b) ∧ R J H'
def PI (X : Cx) (tg iter : Expr) (wi : TI) : Prop :=
  ∀ (pins : List (Addr × Obj)) (s : Shared) (σ : St) (H : Hp) (R : It → Hp → Prop), Inv X pins σ H s → wi σ H R →
    wpAny (model X.prog X.w) X.A (eval iter X.env) (fun v s1 => wpAny (model X.prog X.w) X.A (pyIter v) (PIE X pins σ tg R) X.xe s1) X.xe s

/-- the step ahead of the store is nothing for an iterator that keeps no tuple -/
theorem go_of {M : Model} {A : Around} {E : Value → Shared → Prop} {s : Shared} {tg : Expr} {it : Addr} {u : Value} {o : Obj} {n : String} {vs : Array Value} {Q : Unit → Shared → Prop} (ho : s.heap.get? it = some o) (hc : o.cls = .type n) (hd : o.data = .fields vs)
    (hn : ["enumerate", "zip", "dict_itemiterator", "dict_reverseitemiterator", "odict_iterator", "itertools.zip_longest", "itertools.pairwise"].contains n = false) (hQ : Q () s) : wpAny M A (letOwnedTupleGo tg (.ref it) u) Q E s := by
  unfold letOwnedTupleGo
  cases tg <;> first
    | exact wpAny_pure hQ
    | (cases u <;> first
        | exact wpAny_pure hQ
        | (refine wpAny_bind (wpAny_load ho ?_)
           rw [hc, hd]
           show wpAny M A (if (["enumerate", "zip", "dict_itemiterator", "dict_reverseitemiterator", "odict_iterator", "itertools.zip_longest", "itertools.pairwise"].contains n && vs[0]? == some (rawInt _)) = true then _ else _) Q E s
           rw [if_neg (by intro h; rw [hn, Bool.false_and] at h; cases h)]
           exact wpAny_pure hQ))

/-- the list at a, as it stands at each turn (a loop may append to it) -/
def Itl (K : PySem.W.Frag) (a : Addr) : It :=
  ⟨fun i H => ∃ xs x, SqL K H a xs ∧ xs[i]? = some x, fun i H x H' => H' = H ∧ ∀ xs, SqL K H a xs → xs[i]? = some x, fun i H => ∃ xs, SqL K H a xs ∧ xs.length ≤ i⟩
/-- lo, lo + 1, .. (n of them) -/
def Itr (lo : Int) (n : Nat) : It := ⟨fun i _ => i < n, fun i H x H' => H' = H ∧ x = .int (lo + i), fun i _ => n ≤ i⟩
theorem turn_list {P : Program} {w : World} {K : PySem.W.Frag} {tg : Expr} (a it : Addr) : Turn P w K tg (Itl K a) [it] it (fun i h => h.IsListIter it a i) where
  mem := by simp
  obj := fun i h st b hb => by
    have e : b = it := by simpa using hb
    subst e
    obtain ⟨o, e, c, d⟩ := st
    exact ⟨o, e, fun v z => by rw [d] at z; cases z⟩
  keep := fun i h h' st k => st.at fun o e => k it (by simp) o e
  item := by
    intro X hP hw hK hc i pins s σ H E I hf st hg
    subst hP hw hK
    obtain ⟨xs, x, hq, hx⟩ := hg
    obtain ⟨its, rv, p, hz⟩ := I.list hq
    obtain ⟨u, hu, ru⟩ := rv.get hx
    obtain ⟨f0, f1, f2, f3, f4, f5⟩ := hf it (by simp)
    refine wpAny_pyNext_list_item st p.isList (x := u) (by simpa using hu) fun h' st' sb => ?_
    have I1 : Inv X pins σ H { s with heap := h' } := I.turned (t' := s.toks) (fun b o hb e => (sb.2 b hb).trans e) f0 f1 f3 f4 f5
    obtain ⟨o, e, c, d⟩ := id st'
    exact ⟨u, rfl, go_of (s := { s with heap := h' }) e c d (by decide) ⟨x, H, I1, ru, ⟨rfl, fun ys hy => by rw [I.list_inj hy hq]; exact hx⟩, st', fun b hb => (hf b hb).1⟩⟩
  done := by
    intro X hP hw hK hc i pins s σ H E I hf st hg
    subst hP hw hK
    obtain ⟨xs, hq, hx⟩ := hg
    obtain ⟨its, rv, p, hz⟩ := I.list hq
    obtain ⟨f0, f1, f2, f3, f4, f5⟩ := hf it (by simp)
    have hl := rv.length
    exact wpAny_pyNext_list_end (I.ok.hd hc) st p.isList (by simp; omega) fun h' eb => ⟨rfl, I.turned (t' := s.toks) (fun b o hb e => eb b o hb e) f0 f1 f3 f4 f5⟩
  self := fun _ _ _ _ _ st h => wpAny_pyIter_listiter st h
theorem turn_range {P : Program} {w : World} {K : PySem.W.Frag} {tg : Expr} (it : Addr) (lo : Int) (n : Nat) : Turn P w K tg (Itr lo n) [it] it (fun i h => IsRangeIter h it (lo + (i : Nat) * 1) ((n : Int) - (i : Nat)) 1) where
  mem := by simp
  obj := fun i h st b hb => by
    have e : b = it := by simpa using hb
    subst e
    exact ⟨_, st, fun v z => by
      have z' : Data.fields _ = Data.cell v := z
      cases z'⟩
  keep := fun i h h' st k => k it (by simp) _ st
  item := by
    intro X hP hw hK hc i pins s σ H E I hf st hg
    subst hP hw hK
    obtain ⟨f0, f1, f2, f3, f4, f5⟩ := hf it (by simp)
    have W := Walks.range (prog := X.prog) (w := X.w) (I.ok.hd hc) it lo 1 n
    refine W.item i s _ _ hg st fun v h' tk hv st' kk => ?_
    obtain ⟨t, rfl⟩ := hv
    have I1 : Inv X pins σ H { s with heap := h', toks := tk } := I.turned (fun b o hb e => kk b o (by simpa using hb) e) f0 f1 f3 f4 f5
    refine ⟨_, rfl, go_of (s := { s with heap := h', toks := tk }) (n := "range_iterator") st' rfl rfl (by decide) ⟨.int (lo + i), H, I1, ⟨t, ?_⟩, ⟨rfl, rfl⟩, st', fun b hb => (hf b hb).1⟩⟩
    rw [Int.mul_one]
  done := by
    intro X hP hw hK hc i pins s σ H E I hf st hg
    subst hP hw hK
    obtain ⟨f0, f1, f2, f3, f4, f5⟩ := hf it (by simp)
    exact wpAny_pyNext_range_end (I.ok.hd hc) st (by have : n ≤ i := hg; omega) fun h' eb => ⟨rfl, I.turned (t' := s.toks) (fun b o hb e => eb b o hb e) f0 f1 f3 f4 f5⟩
  self := fun _ _ _ _ _ st h => wpAny_pyIter_rangeiter st h
end L2

namespace L2
open PySem PySem.Spec PyProof.Rows
section
variable {X : Cx} {tg : Expr}
def iList (K : PySem.W.Frag) (tl : TE) : TI := fun σ H R => tl σ H fun x H1 => ∃ a, x = .ref a ∧ (∃ xs, SqL K H1 a xs) ∧ R (Itl K a) H1
theorem pi_list {l : Expr} {tl : TE} (hl : PE X l tl) : PI X tg l (iList X.K tl) := by
  intro pins s σ H R I h
  refine thn (hl pins s σ H _ I h) fun v s1 ⟨x, H1, I1, r1, q1⟩ => ?_
  obtain ⟨a, e, ⟨xs, hq⟩, q⟩ := q1
  subst e
  cases r1
  obtain ⟨its, rv, p, hz⟩ := I1.list hq
  refine wpAny_pyIter_list p.isList ?_
  refine ⟨s1.heap.objs.size, [s1.heap.objs.size], _, _, H1, rfl, I1.kept (t' := s1.toks) fun b o e => Heap.get?_push_of_some _ e, turn_list a _, ⟨_, Heap.get?_push_size _ rfl, rfl, rfl⟩, fun b hb => ?_, q⟩
  have e : b = s1.heap.objs.size := by simpa using hb
  subst e
  exact I1.fpOk (Nat.le_refl _) (I1.hok.fresh (Nat.le_refl _))
/-- a range object just made, walked -/
theorem range_it {pins : List (Addr × Obj)} {σ : St} {H : Hp} {s : Shared} {R : It → Hp → Prop} {E : Value → Shared → Prop} {lo hi : Int} {t u v : Tok} {tk : Nat} (I : Inv X pins σ H s) (h1 : -(2 ^ 62) ≤ lo) (h2 : lo < 2 ^ 62) (h3 : -(2 ^ 62) ≤ hi) (h4 : hi < 2 ^ 62)
    (q : R (Itr lo (hi - lo).toNat) H) : wpAny (model X.prog X.w) X.A (pyIter (.ref s.heap.objs.size)) (PIE X pins σ tg R) E { s with heap := s.heap.push { cls := .type "range", data := .fields #[.int lo t, .int hi u, .int 1 v] }, toks := tk } := by
  refine wpAny_pyIter_range (IsRange.new ..) (small_one h1 h2 h3 h4) ?_
  have I1 : Inv X pins σ H { s with heap := s.heap.push { cls := .type "range", data := .fields #[.int lo t, .int hi u, .int 1 v] }, toks := tk } := I.kept fun b o e => Heap.get?_push_of_some _ e
  refine ⟨(s.heap.push { cls := .type "range", data := .fields #[.int lo t, .int hi u, .int 1 v] }).objs.size, [(s.heap.push { cls := .type "range", data := .fields #[.int lo t, .int hi u, .int 1 v] }).objs.size], _, _, H, rfl,
    I1.kept (t' := tk) fun b o e => Heap.get?_push_of_some _ e, turn_range _ lo (hi - lo).toNat, ?_, fun b hb => ?_, q⟩
  · have e1 : lo + ((0 : Nat) : Int) * 1 = lo := by simp
    have e2 : (((hi - lo).toNat : Nat) : Int) - ((0 : Nat) : Int) = Builtin.Range.rangeSize lo hi 1 := by rw [rangeSize_one]; split <;> omega
    show IsRangeIter _ _ (lo + ((0 : Nat) : Int) * 1) ((((hi - lo).toNat : Nat) : Int) - ((0 : Nat) : Int)) 1
    rw [e1, e2]
    exact Heap.get?_push_size _ rfl
  · have e : b = (s.heap.push { cls := .type "range", data := .fields #[.int lo t, .int hi u, .int 1 v] }).objs.size := by simpa using hb
    subst e
    exact I1.fpOk (Nat.le_refl _) (I1.hok.fresh (Nat.le_refl _))
def iRng1 (ta : TA) : TI := fun σ H R => ta σ H fun vs H1 => ∃ j : Int, vs = [.int j] ∧ -(2 ^ 62) ≤ j ∧ j < 2 ^ 62 ∧ R (Itr 0 j.toNat) H1
theorem pi_range1 {a : Expr} {ta : TA} {p pos : Pos} (hg : Gl X "range") (hm : X.mg "range" = none) (ha : PA X [a] ta) (hs : starEach [a] X.env = [(false, eval a X.env)] := by rfl) : PI X tg (.Call (.Name "range" p) [a] [] pos) (iRng1 ta) := by
  intro pins s σ H R I h
  refine Call_ (ld_blt I hg hm boot_range (PyProof.Rows.callWith_type1 (thn (ha pos pins s σ H _ I h) fun us s1 ⟨vs, H1, I1, r1, q1⟩ => ?_) hs rfl))
  obtain ⟨j, e, q1, q2, q⟩ := q1
  subst e
  cases r1 with
  | cons r rr =>
    cases rr
    obtain ⟨t, rfl⟩ := r
    exact call_range_1 (range_it I1 (by omega) (by omega) q1 q2 (by simpa using q))
/-! ### for -/
/-- W: the invariant by the turn and a measure; N: what the body is to reach -/
def tFor (wi : TI) (g : TG) (tb : TS) : TS := fun D σ H => wi σ H fun J H1 => ∃ W : Nat → Nat → St → Hp → Prop, (∃ m, W 0 m σ H1) ∧ ∀ i m σ H, W i m σ H →
  (J.stop i H ∧ D.nx σ H) ∨ (J.go i H ∧ ∃ N : St → Hp → Prop, (∀ σ' H', N σ' H' → ∃ m', m' < m ∧ W (i + 1) m' σ' H') ∧ ∀ x H', J.yld i H x H' → g x σ H' fun σ2 H2 => tb { D with nx := N, ct := N, bk := D.nx } σ2 H2)
/-- the records at fp as they stand -/
def pinsAt (fp : List Addr) (h : Heap) : List (Addr × Obj) := fp.filterMap fun b => (h.get? b).map fun o => (b, o)
theorem mem_pinsAt {fp : List Addr} {h : Heap} {b : Addr} {o : Obj} (hb : b ∈ fp) (e : h.get? b = some o) : (b, o) ∈ pinsAt fp h := List.mem_filterMap.mpr ⟨b, hb, by rw [e]; rfl⟩
theorem of_pinsAt {fp : List Addr} {h : Heap} {p : Addr × Obj} (hp : p ∈ pinsAt fp h) : p.1 ∈ fp ∧ h.get? p.1 = some p.2 := by
  obtain ⟨b, hb, e⟩ := List.mem_filterMap.mp hp
  cases q : h.get? b with
  | none => rw [q] at e; cases e
  | some o =>
    rw [q] at e
    have e' : (b, o) = p := Option.some.inj e
    subst e'
    exact ⟨hb, q⟩
theorem Inv.pinned {pins : List (Addr × Obj)} {σ : St} {H : Hp} {s : Shared} {fp : List Addr} (I : Inv X pins σ H s) (hf : ∀ b ∈ fp, FpOk X pins H b) (ho : ∀ b ∈ fp, ∃ o, s.heap.get? b = some o ∧ ∀ v, o.data ≠ .cell v) : Inv X (pins ++ pinsAt fp s.heap) σ H s :=
  I.pins_of fun p hp => (List.mem_append.mp hp).elim (fun z => I.pin p (List.mem_append_right _ z)) fun z => by
    obtain ⟨hb, e⟩ := of_pinsAt z
    obtain ⟨f0, f1, f2, _⟩ := hf p.1 hb
    obtain ⟨o, e', d⟩ := ho p.1 hb
    rw [e] at e'; cases e'
    exact ⟨e, f0, f1, f2, d⟩
theorem Inv.unpinned {pins pl : List (Addr × Obj)} {σ : St} {H : Hp} {s : Shared} (I : Inv X (pins ++ pl) σ H s) : Inv X pins σ H s := I.pins_of fun p hp => I.pin p (List.mem_append_right _ (List.mem_append_left _ hp))
theorem ps_for {iter : Expr} {body : List Stmt} {wi : TI} {g : TG} {tb : TS} {pos : Pos} (hp : PassesOwn (model X.prog X.w) X.A X.env X.xe) (hc : X.calm = true) (hi : PI X tg iter wi) (hg : PG X tg g) (hb : PSs X body tb)
    (hs : ∀ x, foldedSetIterable iter X.env x = pure x := by intro _; rfl) : PS X (.For tg iter body [] pos) (tFor wi g tb) := by
  intro pins s σ H D I h
  refine wpAny_For (thn (hi pins s σ H _ I h) fun v s1 h1 => thn h1 fun itv s2 h2 => ?_) hs
  obtain ⟨it, fp, tn, J, H2, e, I2, T, st2, f2, W, ⟨m0, w0⟩, turn⟩ := h2
  subst e
  -- what stays true of the iterator's objects through the loop
  have stat : ∀ {H' : Hp}, (∀ b ∈ fp, H' b = none) → ∀ b ∈ fp, FpOk X pins H' b := fun hn b hb => ⟨hn b hb, (f2 b hb).2⟩
  refine codeAny_forLoop_any (fun n s' => ∃ i σ' H', Inv X pins σ' H' s' ∧ tn i s'.heap ∧ (∀ b ∈ fp, H' b = none) ∧ W i n σ' H') ?_ m0 ⟨0, σ, H2, I2, st2, fun b hb => (f2 b hb).1, w0⟩
  rintro n s3 ⟨i, σ3, H3, I3, st3, fr3, w3⟩
  rcases turn i n σ3 H3 w3 with ⟨stop, qn⟩ | ⟨go, N, hN, step⟩
  · refine wpAny_passesOwn hp (thn (T.done X rfl rfl rfl hc i pins s3 σ3 H3 X.xe I3 (stat fr3) st3 stop) fun r s4 ⟨hr, I4⟩ => ?_)
    subst hr
    exact wpAny_execs_nil ⟨σ3, H3, I4, qn⟩
  · refine wpAny_passesOwn hp (thn (T.item X rfl rfl rfl hc i pins s3 σ3 H3 X.xe I3 (stat fr3) st3 go) fun r s4 ⟨u, hr, h4⟩ => ?_)
    subst hr
    refine wpAny_passesOwn hp (thn h4 fun _ s5 ⟨x, H5, I5, r5, y5, st5, fr5⟩ => ?_)
    have I5' := I5.pinned (stat fr5) (T.obj _ _ st5)
    refine wpAny_passesOwn hp (thn (hg _ s5 σ3 H5 x u _ I5' r5 (step x H5 y5)) fun _ s6 ⟨σ6, H6, I6, q6⟩ => ?_)
    refine wpAny_passesOwn hp (thn (hb _ s6 σ6 H6 _ I6 q6) fun f s7 q7 => ?_)
    have again : ∀ {σ7 : St} {H7 : Hp}, Inv X (pins ++ pinsAt fp s5.heap) σ7 H7 s7 → N σ7 H7 → ∃ m, m < n ∧ ∃ i σ' H', Inv X pins σ' H' s7 ∧ tn i s7.heap ∧ (∀ b ∈ fp, H' b = none) ∧ W i m σ' H' := fun {σ7 H7} I7 n7 => by
      obtain ⟨m', hm, w7⟩ := hN σ7 H7 n7
      refine ⟨m', hm, i + 1, σ7, H7, I7.unpinned, T.keep _ _ _ st5 fun b hb o e => (I7.pin (b, o) (List.mem_append_right _ (List.mem_append_right _ (mem_pinsAt hb e)))).1, fun b hb => ?_, w7⟩
      obtain ⟨o, e, d⟩ := T.obj _ _ st5 b hb
      exact (I7.pin (b, o) (List.mem_append_right _ (List.mem_append_right _ (mem_pinsAt hb e)))).2.1
    cases f with
    | next => obtain ⟨σ7, H7, I7, n7⟩ := q7; exact again I7 n7
    | cont => obtain ⟨σ7, H7, I7, n7⟩ := q7; exact again I7 n7
    | brk => obtain ⟨σ7, H7, I7, q7⟩ := q7; exact ⟨σ7, H7, I7.unpinned, q7⟩
    | ret v => obtain ⟨x7, σ7, H7, I7, r7, q7⟩ := q7; exact ⟨x7, σ7, H7, I7.unpinned, r7, q7⟩
end

/-! ### the forms one uses -/
/-- over a list that the body leaves as it is -/
theorem for_list {K : PySem.W.Frag} {a : Addr} {xs : List V} {g : TG} {tb : TS} {D : Ends} {σ : St} {H : Hp} (Pv : Nat → St → Hp → Prop) (h0 : Pv 0 σ H) (hl : ∀ i σ H, i ≤ xs.length → Pv i σ H → SqL K H a xs)
    (hs : ∀ i x σ H, xs[i]? = some x → Pv i σ H → g x σ H fun σ2 H2 => tb { D with nx := Pv (i + 1), ct := Pv (i + 1), bk := D.nx } σ2 H2) (hd : ∀ σ H, Pv xs.length σ H → D.nx σ H) :
    ∃ W : Nat → Nat → St → Hp → Prop, (∃ m, W 0 m σ H) ∧ ∀ i m σ H, W i m σ H →
      ((Itl K a).stop i H ∧ D.nx σ H) ∨ ((Itl K a).go i H ∧ ∃ N : St → Hp → Prop, (∀ σ' H', N σ' H' → ∃ m', m' < m ∧ W (i + 1) m' σ' H') ∧ ∀ x H', (Itl K a).yld i H x H' → g x σ H' fun σ2 H2 => tb { D with nx := N, ct := N, bk := D.nx } σ2 H2) := by
  refine ⟨fun i m σ H => m = xs.length - i ∧ i ≤ xs.length ∧ Pv i σ H, ⟨xs.length, by simp, Nat.zero_le _, h0⟩, ?_⟩
  rintro i m σ H ⟨rfl, hi, p⟩
  have q := hl i σ H hi p
  by_cases hlt : i < xs.length
  · refine .inr ⟨⟨xs, xs[i], q, by simp [hlt]⟩, Pv (i + 1), fun σ' H' p' => ⟨xs.length - (i + 1), by omega, rfl, hlt, p'⟩, fun x H' y => ?_⟩
    obtain ⟨e, y⟩ := y
    subst e
    exact hs i x σ _ (y xs q) p
  · have e : i = xs.length := by omega
    subst e
    exact .inl ⟨⟨xs, q, Nat.le_refl _⟩, hd σ H p⟩
theorem for_range {lo : Int} {n : Nat} {g : TG} {tb : TS} {D : Ends} {σ : St} {H : Hp} (Pv : Nat → St → Hp → Prop) (h0 : Pv 0 σ H)
    (hs : ∀ i σ H, i < n → Pv i σ H → g (.int (lo + i)) σ H fun σ2 H2 => tb { D with nx := Pv (i + 1), ct := Pv (i + 1), bk := D.nx } σ2 H2) (hd : ∀ σ H, Pv n σ H → D.nx σ H) :
    ∃ W : Nat → Nat → St → Hp → Prop, (∃ m, W 0 m σ H) ∧ ∀ i m σ H, W i m σ H →
      ((Itr lo n).stop i H ∧ D.nx σ H) ∨ ((Itr lo n).go i H ∧ ∃ N : St → Hp → Prop, (∀ σ' H', N σ' H' → ∃ m', m' < m ∧ W (i + 1) m' σ' H') ∧ ∀ x H', (Itr lo n).yld i H x H' → g x σ H' fun σ2 H2 => tb { D with nx := N, ct := N, bk := D.nx } σ2 H2) := by
  refine ⟨fun i m σ H => m = n - i ∧ i ≤ n ∧ Pv i σ H, ⟨n, by simp, Nat.zero_le _, h0⟩, ?_⟩
  rintro i m σ H ⟨rfl, hi, p⟩
  by_cases hlt : i < n
  · refine .inr ⟨hlt, Pv (i + 1), fun σ' H' p' => ⟨n - (i + 1), by omega, rfl, hlt, p'⟩, fun x H' y => ?_⟩
    obtain ⟨e, y⟩ := y
    subst e y
    exact hs i σ _ hlt p
  · have e : i = n := by omega
    subst e
    exact .inl ⟨Nat.le_refl _, hd σ H p⟩
end L2

namespace L2
open PySem PySem.Spec PyProof.Rows

abbrev R2 := V → V → Hp → VK → Prop
/-- a two-place operation on values: f is binaryOp op, inplaceOp op or compareOp op -/
def OpR (X : Cx) (f : Value → Value → Sem Value) (r : R2) : Prop :=
  ∀ (pins : List (Addr × Obj)) (s : Shared) (σ : St) (H : Hp) (x y : V) (v u : Value) (Q : VK), Inv X pins σ H s → RelV x v → RelV y u → r x y H Q →
    wpAny (model X.prog X.w) X.A (f v u) (EP X pins σ Q) X.xe s
/-- a one-place operation -/
def UnR (X : Cx) (f : Value → Sem Value) (r : V → Hp → VK → Prop) : Prop :=
  ∀ (pins : List (Addr × Obj)) (s : Shared) (σ : St) (H : Hp) (x : V) (v : Value) (Q : VK), Inv X pins σ H s → RelV x v → r x H Q →
    wpAny (model X.prog X.w) X.A (f v) (EP X pins σ Q) X.xe s
/-- a call of a value that is known (a builtin, a type) with values -/
def CallR (X : Cx) (f : Value) (r : List V → Hp → VK → Prop) : Prop :=
  ∀ (pins : List (Addr × Obj)) (s : Shared) (σ : St) (H : Hp) (xs : List V) (us : List Value) (Q : VK), Inv X pins σ H s → Vals xs us → r xs H Q →
    wpAny (model X.prog X.w) X.A (call f us) (EP X pins σ Q) X.xe s
/-- a value's truth -/
def TruR (X : Cx) (r : V → Hp → (Bool → Hp → Prop) → Prop) : Prop :=
  ∀ (pins : List (Addr × Obj)) (s : Shared) (σ : St) (H : Hp) (x : V) (v : Value) (Q : Bool → Hp → Prop), Inv X pins σ H s → RelV x v → r x H Q →
    wpAny (model X.prog X.w) X.A (truthy v) (TP X pins σ Q) X.xe s

def tOp (r : R2) (ta tb : TE) : TE := fun σ H Q => ta σ H fun x H1 => tb σ H1 fun y H2 => r x y H2 Q
def tUn (r : V → Hp → VK → Prop) (ta : TE) : TE := fun σ H Q => ta σ H fun x H1 => r x H1 Q
/-- ints in, under C, and a value out -/
def rI (C : Int → Int → Prop) (g : Int → Int → V) : R2 := fun x y H Q => ∃ i j, x = .int i ∧ y = .int j ∧ C i j ∧ Q (g i j) H
def rI0 (g : Int → Int → V) : R2 := fun x y H Q => ∃ i j, x = .int i ∧ y = .int j ∧ Q (g i j) H
def rU (g : Int → V) : V → Hp → VK → Prop := fun x H Q => ∃ i, x = .int i ∧ Q (g i) H

section
variable {X : Cx} {a b c : Expr} {ta tb tc : TE} {pos : Pos}

theorem binT (ha : PE X a ta) (hb : PE X b tb) {pins : List (Addr × Obj)} {s : Shared} {σ : St} {H : Hp} {R : V → V → Hp → Prop} (I : Inv X pins σ H s)
    (h : ta σ H fun x H1 => tb σ H1 fun y H2 => R x y H2) {Q : Value → Shared → Prop} {f : Value → Value → Sem Value}
    (hf : ∀ v u s2 x y H2, Inv X pins σ H2 s2 → RelV x v → RelV y u → R x y H2 → wpAny (model X.prog X.w) X.A (f v u) Q X.xe s2) :
    wpAny (model X.prog X.w) X.A (eval a X.env) (fun v s₁ => wpAny (model X.prog X.w) X.A (eval b X.env) (fun u s₂ => wpAny (model X.prog X.w) X.A (f v u) Q X.xe s₂) X.xe s₁) X.xe s := by
  refine thn (ha pins s σ H _ I h) fun v s1 ⟨x, H1, I1, r1, q1⟩ => ?_
  refine thn (hb pins s1 σ H1 _ I1 q1) fun u s2 ⟨y, H2, I2, r2, q2⟩ => ?_
  exact hf v u s2 x y H2 I2 r1 r2 q2

theorem pe_op {op : Operator} {r : R2} (ho : OpR X (binaryOp op) r) (ha : PE X a ta) (hb : PE X b tb) : PE X (.BinOp a op b pos) (tOp r ta tb) := by
  intro pins s σ H Q I h
  exact wpAny_BinOp (binT ha hb I h fun v u s2 x y H2 I2 rx ry q => ho pins s2 σ H2 x y v u Q I2 rx ry q)
theorem pe_un {op : UnaryOp} {r : V → Hp → VK → Prop} (ho : UnR X (unaryOp op) r) (ha : PE X a ta) : PE X (.UnaryOp op a pos) (tUn r ta) := by
  intro pins s σ H Q I h
  exact UnaryOp_ (thn (ha pins s σ H _ I h) fun v s1 ⟨x, H1, I1, r1, q1⟩ => ho pins s1 σ H1 x v Q I1 r1 q1)
/-! ### ints -/
theorem opI {f : Value → Value → Sem Value} {C : Int → Int → Prop} {g : Int → Int → Int}
    (rule : ∀ (i j : Int) (t u : Tok) (s : Shared) (Q : Value → Shared → Prop) (E : Value → Shared → Prop), C i j → Q (.int (g i j) s.toks) { s with toks := s.toks + 1 } → wpAny (model X.prog X.w) X.A (f (.int i t) (.int j u)) Q E s) :
    OpR X f (rI C fun i j => .int (g i j)) := by
  intro pins s σ H x y v u Q I rx ry h
  obtain ⟨i, j, rfl, rfl, hc, q⟩ := h
  obtain ⟨t, rfl⟩ := rx
  obtain ⟨t', rfl⟩ := ry
  exact rule i j t t' s _ _ hc ⟨.int (g i j), H, I.tok _, ⟨_, rfl⟩, q⟩
theorem opI0 {f : Value → Value → Sem Value} {g : Int → Int → Int}
    (rule : ∀ (i j : Int) (t u : Tok) (s : Shared) (Q : Value → Shared → Prop) (E : Value → Shared → Prop), Q (.int (g i j) s.toks) { s with toks := s.toks + 1 } → wpAny (model X.prog X.w) X.A (f (.int i t) (.int j u)) Q E s) :
    OpR X f (rI0 fun i j => .int (g i j)) := by
  intro pins s σ H x y v u Q I rx ry h
  obtain ⟨i, j, rfl, rfl, q⟩ := h
  obtain ⟨t, rfl⟩ := rx
  obtain ⟨t', rfl⟩ := ry
  exact rule i j t t' s _ _ ⟨.int (g i j), H, I.tok _, ⟨_, rfl⟩, q⟩
theorem opB0 {f : Value → Value → Sem Value} {g : Int → Int → Bool}
    (rule : ∀ (i j : Int) (t u : Tok) (s : Shared) (Q : Value → Shared → Prop) (E : Value → Shared → Prop), Q (.bool (g i j)) s → wpAny (model X.prog X.w) X.A (f (.int i t) (.int j u)) Q E s) :
    OpR X f (rI0 fun i j => .bl (g i j)) := by
  intro pins s σ H x y v u Q I rx ry h
  obtain ⟨i, j, rfl, rfl, q⟩ := h
  obtain ⟨t, rfl⟩ := rx
  obtain ⟨t', rfl⟩ := ry
  exact rule i j t t' s _ _ ⟨.bl (g i j), H, I, rfl, q⟩

def CDiv (i j : Int) : Prop := 0 < j ∧ j < 1073741824
def CPow (i j : Int) : Prop := 0 ≤ j ∧ j ≤ 1000000 ∧ i.natAbs < 2 ^ 64
def CMul (i j : Int) : Prop := (-(2 ^ 64) < i ∧ i < 2 ^ 64) ∨ (-(2 ^ 64) < j ∧ j < 2 ^ 64)
theorem CMul.ok {i j : Int} (h : CMul i j) : IntMulOk i j := by
  rcases h with ⟨h1, h2⟩ | ⟨h1, h2⟩
  · exact .of_left (intBits_le_64 h1 h2)
  · exact .of_right (intBits_le_64 h1 h2)
theorem op_add : OpR X (binaryOp .Add) (rI0 fun i j => .int (i + j)) := opI0 fun _ _ _ _ _ _ _ q => add_int q
theorem op_sub : OpR X (binaryOp .Sub) (rI0 fun i j => .int (i - j)) := opI0 fun _ _ _ _ _ _ _ q => sub_int q
theorem op_mul : OpR X (binaryOp .Mult) (rI CMul fun i j => .int (i * j)) := opI fun _ _ _ _ _ _ _ hc q => mul_int q hc.ok
/-- // by a positive divisor -/
theorem op_fdiv : OpR X (binaryOp .FloorDiv) (rI CDiv fun i j => .int (i / j)) := opI fun i j _ _ _ _ _ hc q => by
  have h1 : (0 : Int) < j := hc.1
  have h2 : j < 1073741824 := hc.2
  exact floordiv_int (by omega) (by rw [Int.fdiv_eq_ediv_of_nonneg i (by omega)]; exact q) (.inl (PyProof.noPylong_small (by omega)))
/-- % by a positive divisor of any size -/
theorem op_mod : OpR X (binaryOp .Mod) (rI (fun _ j => 0 < j) fun i j => .int (i % j)) := opI fun i j _ _ _ _ _ hc q => by
  have h1 : (0 : Int) < j := hc
  exact mod_int' (by omega) (by rw [Int.fmod_eq_emod_of_nonneg i (by omega)]; exact q)
theorem op_pow : OpR X (binaryOp .Pow) (rI CPow fun i j => .int (i ^ j.toNat)) := opI fun _ _ _ _ _ _ _ hc q => pow_int_small hc.1 hc.2.1 hc.2.2 q
theorem unI {f : Value → Sem Value} {g : Int → Int}
    (rule : ∀ (i : Int) (t : Tok) (s : Shared) (Q : Value → Shared → Prop) (E : Value → Shared → Prop), Q (.int (g i) s.toks) { s with toks := s.toks + 1 } → wpAny (model X.prog X.w) X.A (f (.int i t)) Q E s) :
    UnR X f (rU fun i => .int (g i)) := by
  intro pins s σ H x v Q I rx h
  obtain ⟨i, rfl, q⟩ := h
  obtain ⟨t, rfl⟩ := rx
  exact rule i t s _ _ ⟨.int (g i), H, I.tok _, ⟨_, rfl⟩, q⟩
theorem un_neg : UnR X (unaryOp .USub) (rU fun i => .int (-i)) := unI fun _ _ _ _ _ q => neg_int q
/-! ### bools among ints: n += (a < b) -/
end

/-! ### comparisons -/
/-- the scalars that == tells apart as data does -/
def scal : V → V → Bool
  | .non, .non => true | .non, .int _ => true | .int _, .non => true | .non, .bl _ => true | .bl _, .non => true | .non, .str _ => true | .str _, .non => true
  | .int _, .int _ => true | .bl _, .bl _ => true | .str _, .str _ => true | .byt _, .byt _ => true
  | .int _, .str _ => true | .str _, .int _ => true | .bl _, .str _ => true | .str _, .bl _ => true
  | _, _ => false
def rEq : R2 := fun x y H Q => scal x y = true ∧ Q (.bl (decide (x = y))) H
def rNe : R2 := fun x y H Q => scal x y = true ∧ Q (.bl (!decide (x = y))) H

theorem dec_int {i j : Int} : decide (V.int i = V.int j) = (i == j) := by
  rw [Bool.eq_iff_iff]
  simp
theorem dec_bl {i j : Bool} : decide (V.bl i = V.bl j) = (i == j) := by
  rw [Bool.eq_iff_iff]
  simp
theorem dec_str {i j : Str} : decide (V.str i = V.str j) = (i == j) := by
  rw [Bool.eq_iff_iff]
  simp
theorem dec_byt {i j : Array UInt8} : decide (V.byt i = V.byt j) = (i.toList == j.toList) := by
  rw [Bool.eq_iff_iff]
  cases i
  cases j
  simp

section
variable {X : Cx} {a b c : Expr} {ta tb tc : TE} {pos : Pos}
theorem fin_bl {pins : List (Addr × Obj)} {σ : St} {H : Hp} {s : Shared} {Q : VK} {k k' : Bool} (I : Inv X pins σ H s) (q : Q (.bl k) H) (e : k = k') : EP X pins σ Q (.bool k') s := by
  subst e
  exact ⟨.bl k, H, I, rfl, q⟩
theorem op_eq : OpR X (compareOp .Eq) rEq := by
  intro pins s σ H x y v u Q I rx ry h
  obtain ⟨hs, q⟩ := h
  cases x with
  | non =>
    cases rx
    cases y with
    | non => cases ry; exact PySem.EqNone.eq_none_none (fin_bl I q (by simp))
    | bl j => cases ry; exact PySem.EqNone.eq_none_bool (fin_bl I q (by simp))
    | int j => obtain ⟨t', rfl⟩ := ry; exact PySem.EqNone.eq_none_int (fin_bl I q (by simp))
    | str j => obtain ⟨t', rfl⟩ := ry; exact PySem.EqNone.eq_none_str (fin_bl I q (by simp))
    | _ => exact absurd (show false = true from hs) Bool.false_ne_true
  | bl i =>
    cases rx
    cases y with
    | non => cases ry; exact PySem.EqNone.eq_bool_none (fin_bl I q (by simp))
    | bl j => cases ry; exact eq_bool (fin_bl I q dec_bl)
    | str j => obtain ⟨t', rfl⟩ := ry; exact PySem.EqMixed.eq_bool_str (fin_bl I q (by simp))
    | _ => exact absurd (show false = true from hs) Bool.false_ne_true
  | int i =>
    obtain ⟨t, rfl⟩ := rx
    cases y with
    | non => cases ry; exact PySem.EqNone.eq_int_none (fin_bl I q (by simp))
    | int j => obtain ⟨t', rfl⟩ := ry; exact eq_int (fin_bl I q dec_int)
    | str j => obtain ⟨t', rfl⟩ := ry; exact PySem.EqMixed.eq_int_str (fin_bl I q (by simp))
    | _ => exact absurd (show false = true from hs) Bool.false_ne_true
  | str i =>
    obtain ⟨t, rfl⟩ := rx
    cases y with
    | non => cases ry; exact PySem.EqNone.eq_str_none (fin_bl I q (by simp))
    | bl j => cases ry; exact PySem.EqMixed.eq_str_bool (fin_bl I q (by simp))
    | int j => obtain ⟨t', rfl⟩ := ry; exact PySem.EqMixed.eq_str_int (fin_bl I q (by simp))
    | str j => obtain ⟨t', rfl⟩ := ry; exact eq_str (fin_bl I q dec_str)
    | _ => exact absurd (show false = true from hs) Bool.false_ne_true
  | byt i =>
    obtain ⟨t, rfl⟩ := rx
    cases y with
    | byt j => obtain ⟨t', rfl⟩ := ry; exact PySem.W.eq_bytes (fin_bl I q dec_byt)
    | _ => exact absurd (show false = true from hs) Bool.false_ne_true
  | _ => cases y <;> exact absurd (show false = true from hs) Bool.false_ne_true
theorem op_ne : OpR X (compareOp .NotEq) rNe := by
  intro pins s σ H x y v u Q I rx ry h
  obtain ⟨hs, q⟩ := h
  cases x with
  | non =>
    cases rx
    cases y with
    | non => cases ry; exact PySem.EqNone.ne_none_none (fin_bl I q (by simp))
    | bl j => cases ry; exact PySem.EqNone.ne_none_bool (fin_bl I q (by simp))
    | int j => obtain ⟨t', rfl⟩ := ry; exact PySem.EqNone.ne_none_int (fin_bl I q (by simp))
    | str j => obtain ⟨t', rfl⟩ := ry; exact PySem.EqNone.ne_none_str (fin_bl I q (by simp))
    | _ => exact absurd (show false = true from hs) Bool.false_ne_true
  | bl i =>
    cases rx
    cases y with
    | non => cases ry; exact PySem.EqNone.ne_bool_none (fin_bl I q (by simp))
    | bl j => cases ry; exact ne_bool (fin_bl I q (congrArg not dec_bl))
    | str j => obtain ⟨t', rfl⟩ := ry; exact PySem.EqMixed.ne_bool_str (fin_bl I q (by simp))
    | _ => exact absurd (show false = true from hs) Bool.false_ne_true
  | int i =>
    obtain ⟨t, rfl⟩ := rx
    cases y with
    | non => cases ry; exact PySem.EqNone.ne_int_none (fin_bl I q (by simp))
    | int j => obtain ⟨t', rfl⟩ := ry; exact ne_int (fin_bl I q (congrArg not dec_int))
    | str j => obtain ⟨t', rfl⟩ := ry; exact PySem.EqMixed.ne_int_str (fin_bl I q (by simp))
    | _ => exact absurd (show false = true from hs) Bool.false_ne_true
  | str i =>
    obtain ⟨t, rfl⟩ := rx
    cases y with
    | non => cases ry; exact PySem.EqNone.ne_str_none (fin_bl I q (by simp))
    | bl j => cases ry; exact PySem.EqMixed.ne_str_bool (fin_bl I q (by simp))
    | int j => obtain ⟨t', rfl⟩ := ry; exact PySem.EqMixed.ne_str_int (fin_bl I q (by simp))
    | str j => obtain ⟨t', rfl⟩ := ry; exact ne_str (fin_bl I q (congrArg not dec_str))
    | _ => exact absurd (show false = true from hs) Bool.false_ne_true
  | byt i =>
    obtain ⟨t, rfl⟩ := rx
    cases y with
    | byt j => obtain ⟨t', rfl⟩ := ry; exact PySem.W.ne_bytes (fin_bl I q (congrArg not dec_byt))
    | _ => exact absurd (show false = true from hs) Bool.false_ne_true
  | _ => cases y <;> exact absurd (show false = true from hs) Bool.false_ne_true

theorem op_lt : OpR X (compareOp .Lt) (rI0 fun i j => .bl (decide (i < j))) := opB0 fun _ _ _ _ _ _ _ q => lt_int q
theorem op_le : OpR X (compareOp .LtE) (rI0 fun i j => .bl (decide (i ≤ j))) := opB0 fun _ _ _ _ _ _ _ q => le_int q
theorem op_gt : OpR X (compareOp .Gt) (rI0 fun i j => .bl (decide (j < i))) := opB0 fun _ _ _ _ _ _ _ q => gt_int q
/-- the one string within the other -/
theorem op_in_str : OpR X (compareOp .In) (fun x y H Q => ∃ i j, x = .str i ∧ y = .str j ∧ Q (.bl (!(Builtin.Str.occurrences j i 0 j.length 1).isEmpty)) H) := by
  intro pins s σ H x y v u Q I rx ry h
  obtain ⟨i, j, rfl, rfl, q⟩ := h
  obtain ⟨t, rfl⟩ := rx
  obtain ⟨t', rfl⟩ := ry
  exact in_str (fin_bl I q rfl)

theorem nomark (b : Expr) {op : CmpOp} (h : op ≠ .In := by decide) (h2 : op ≠ .NotIn := by decide) : behindInMarks op b = false := by
  have e1 : (op == CmpOp.In) = false := by cases op <;> first | rfl | exact absurd rfl h
  have e2 : (op == CmpOp.NotIn) = false := by cases op <;> first | rfl | exact absurd rfl h2
  cases b <;> simp [behindInMarks, e1, e2]
/-- a comparison as a value; hm: nomark b, or (for in, not in) by with_unfolding_all rfl -/
theorem pe_cmpR {op : CmpOp} {r : R2} (ho : OpR X (compareOp op) r) (ha : PE X a ta) (hb : PE X b tb) (hm : behindInMarks op b = false) : PE X (.Compare a [op] [b] pos) (tOp r ta tb) := by
  intro pins s σ H Q I h
  exact wpAny_Compare1 (binT ha hb I h fun v u s2 x y H2 I2 rx ry q => ho pins s2 σ H2 x y v u Q I2 rx ry q) hm
/-- a reading of a value as a test -/
def tTest (t : TE) : TT := fun σ H Q => t σ H fun x H' => ∃ k, x = .bl k ∧ Q k H'
theorem pt_cmpR {op : CmpOp} {r : R2} (ho : OpR X (compareOp op) r) (ha : PE X a ta) (hb : PE X b tb) (hm : behindInMarks op b = false) : PT X (.Compare a [op] [b] pos) (tTest (tOp r ta tb)) := by
  intro pins s σ H Q I h
  refine wpAny_isTrue_Compare1 (thn (ha pins s σ H _ I h) fun v s1 ⟨x, H1, I1, r1, q1⟩ => thn (hb pins s1 σ H1 _ I1 q1) fun u s2 ⟨y, H2, I2, r2, q2⟩ =>
    thn (ho pins s2 σ H2 x y v u _ I2 r1 r2 q2) fun c s3 ⟨z, H3, I3, r3, k, e, q3⟩ => ?_) hm
  subst e
  cases r3
  exact wpAny_truthy_bool ⟨H3, I3, q3⟩
/-- a op1 b op2 c -/
def tChain (r r' : R2) (ta tb tc : TE) : TE := fun σ H Q => ta σ H fun x H1 => tb σ H1 fun y H2 => r x y H2 fun z H3 => ∃ k, z = .bl k ∧
  (if k = true then tc σ H3 fun w' H4 => r' y w' H4 Q else Q (.bl false) H3)
theorem pt_chain {op op' : CmpOp} {r r' : R2} (ho : OpR X (compareOp op) r) (ho' : OpR X (compareOp op') r') (ha : PE X a ta) (hb : PE X b tb) (hc : PE X c tc)
    (hm : lastMarks [op, op'] [b, c] = false := by with_unfolding_all rfl) : PT X (.Compare a [op, op'] [b, c] pos) (tTest (tChain r r' ta tb tc)) := by
  intro pins s σ H Q I h
  refine isTrue_chain (thn (ha pins s σ H _ I h) fun v s1 ⟨x, H1, I1, r1, q1⟩ => test_link (thn (hb pins s1 σ H1 _ I1 q1) fun u s2 ⟨y, H2, I2, r2, q2⟩ =>
    thn (ho pins s2 σ H2 x y v u _ I2 r1 r2 q2) fun d s3 ⟨z, H3, I3, r3, k, e, q3⟩ => ?_)) hm
  subst e
  cases r3
  refine wpAny_truthy_bool ?_
  cases k with
  | false =>
    obtain ⟨k', e', q'⟩ := q3
    cases e'
    exact ite_ff ⟨H3, I3, q'⟩
  | true =>
    refine ite_tt (test_last (thn (hc pins s3 σ H3 _ I3 q3) fun w' s4 ⟨z', H4, I4, r4, q4⟩ => thn (ho' pins s4 σ H4 y z' u w' _ I4 r2 r4 q4) fun d' s5 ⟨z2, H5, I5, r5, k2, e2, q5⟩ => ?_))
    subst e2
    cases r5
    exact wpAny_truthy_bool ⟨H5, I5, q5⟩

/-! ### truth -/
/-- a value's truth by the abstract heap -/
def TruV (K : PySem.W.Frag) (x : V) (H : Hp) (k : Bool) : Prop :=
  match x with
  | .non => k = false
  | .bl b => k = b
  | .int i => k = (i != 0)
  | .str y => y.length ≤ sizeLine ∧ k = ((y.length : Int) != 0)
  | .byt y => y.size ≤ sizeLine ∧ k = ((y.size : Int) != 0)
  | .ref p => (∃ xs, SqL K H p xs ∧ k = !xs.isEmpty) ∨ (∃ xs, SqT K H p xs ∧ k = !xs.isEmpty) ∨ ∃ kvs, H p = some (.dK kvs) ∧ k = !kvs.isEmpty
  | _ => False
theorem isEmpty_kv {κ : Type} {kvs : List (κ × V)} {vs : List (κ × Value)} (r : KV kvs vs) : (!vs.isEmpty) = !kvs.isEmpty := by
  cases r <;> rfl
theorem isEmpty_of {xs : List V} {its : List Value} (r : Vals xs its) : (!its.toArray.isEmpty) = !xs.isEmpty := by
  cases r <;> simp
theorem line63 : (sizeLine : Nat) < 2 ^ 63 := by rw [sizeLine_eq]; decide
theorem tru_ok : TruR X (fun x H Q => ∃ k, TruV X.K x H k ∧ Q k H) := by
  intro pins s σ H x v Q I rx h
  obtain ⟨k, e, q⟩ := h
  have hl := line63
  have hs : sizeLine = 16777216 := sizeLine_eq
  cases x with
  | non =>
    cases rx
    have e' : k = false := e
    subst e'
    exact truthy_none ⟨H, I, q⟩
  | bl b =>
    cases rx
    have e' : k = b := e
    subst e'
    exact wpAny_truthy_bool ⟨H, I, q⟩
  | int i =>
    obtain ⟨t, rfl⟩ := rx
    have e' : k = (i != 0) := e
    subst e'
    exact PySem.P.truthy_int ⟨H, I, q⟩
  | str y =>
    obtain ⟨t, rfl⟩ := rx
    obtain ⟨hy, e'⟩ : y.length ≤ sizeLine ∧ k = ((y.length : Int) != 0) := e
    subst e'
    exact PySem.P.truthy_str (by omega) ⟨H, I.tok _, q⟩
  | byt y =>
    obtain ⟨t, rfl⟩ := rx
    obtain ⟨hy, e'⟩ : y.size ≤ sizeLine ∧ k = ((y.size : Int) != 0) := e
    subst e'
    exact PySem.W.truthy_bytes (by omega) ⟨H, I.tok _, q⟩
  | ref p =>
    cases rx
    have e' : (∃ xs, SqL X.K H p xs ∧ k = !xs.isEmpty) ∨ (∃ xs, SqT X.K H p xs ∧ k = !xs.isEmpty) ∨ ∃ kvs, H p = some (.dK kvs) ∧ k = !kvs.isEmpty := e
    rcases e' with ⟨xs, hx, e'⟩ | ⟨xs, hx, e'⟩ | ⟨kvs, hx, e'⟩
    · subst e'
      obtain ⟨its, r, pl, hz⟩ := I.list hx
      have hlen := r.length
      exact wpAny_truthy_list pl.isList (by simp only [List.size_toArray]; omega) ⟨H, I.tok _, by rw [isEmpty_of r]; exact q⟩
    · subst e'
      obtain ⟨its, r, pl, hz⟩ := I.tuple hx
      have hlen := r.length
      exact truthy_tuple pl (by simp only [List.size_toArray]; omega) ⟨H, I.tok _, by rw [isEmpty_of r]; exact q⟩
    · subst e'
      obtain ⟨hz, hS, vs, r, m⟩ : kvs.length ≤ sizeLine ∧ (p == sysModules) = false ∧ ∃ vs, KV kvs vs ∧ s.heap.DictOf (mixKind X.prog X.w) p vs := I.hok p _ hx
      have hlen : kvs.length = vs.length := Paired.length r
      exact wpAny_truthy_dict hS m (by omega) ⟨H, I.tok _, by rw [isEmpty_kv r]; exact q⟩
  | _ => exact (show False from e).elim
/-! ### strs and bytes -/
/-! ### scalar builtins, by CallR -/
theorem vals1 {x : V} {us : List Value} (r : Vals [x] us) : ∃ u, us = [u] ∧ RelV x u := by
  cases r with
  | cons r1 r2 => cases r2; exact ⟨_, rfl, r1⟩
theorem call_abs : CallR X (.builtin "abs") (fun xs H Q => ∃ i, xs = [.int i] ∧ Q (.int (if i < 0 then -i else i)) H) := by
  intro pins s σ H xs us Q I r h
  obtain ⟨i, rfl, q⟩ := h
  obtain ⟨u, rfl, t, rfl⟩ := vals1 r
  exact call_abs_int fun u tk => ⟨.int (if i < 0 then -i else i), H, I.tok _, ⟨_, rfl⟩, q⟩
/-- len of a str, a bytes, a list, a tuple -/
def LenV (K : PySem.W.Frag) (x : V) (H : Hp) (n : Nat) : Prop :=
  match x with
  | .str y => y.length ≤ sizeLine ∧ n = y.length
  | .byt y => y.size ≤ sizeLine ∧ n = y.size
  | .ref p => (∃ xs, SqL K H p xs ∧ n = xs.length) ∨ ∃ xs, SqT K H p xs ∧ n = xs.length
  | _ => False
theorem call_len : CallR X (.builtin "len") (fun xs H Q => ∃ x n, xs = [x] ∧ LenV X.K x H n ∧ Q (.int n) H) := by
  intro pins s σ H xs us Q I r h
  obtain ⟨x, n, rfl, e, q⟩ := h
  obtain ⟨u, rfl, rx⟩ := vals1 r
  have hl := line63
  have hs : sizeLine = 16777216 := sizeLine_eq
  cases x with
  | str y =>
    obtain ⟨t, rfl⟩ := rx
    obtain ⟨hy, e'⟩ : y.length ≤ sizeLine ∧ n = y.length := e
    subst e'
    exact len_str (by omega) ⟨.int _, H, I.tok _, ⟨_, rfl⟩, q⟩
  | byt y =>
    obtain ⟨t, rfl⟩ := rx
    obtain ⟨hy, e'⟩ : y.size ≤ sizeLine ∧ n = y.size := e
    subst e'
    exact PySem.W.len_bytes (by omega) ⟨.int _, H, I.tok _, ⟨_, rfl⟩, q⟩
  | ref p =>
    cases rx
    have e' : (∃ xs, SqL X.K H p xs ∧ n = xs.length) ∨ ∃ xs, SqT X.K H p xs ∧ n = xs.length := e
    rcases e' with ⟨xs, hx, e'⟩ | ⟨xs, hx, e'⟩
    · subst e'
      obtain ⟨its, r', pl, hz⟩ := I.list hx
      have hlen := r'.length
      exact Calls.call_len_list pl.isList (by simp only [List.size_toArray]; omega) ⟨.int xs.length, H, I.tok _, ⟨_, by simp only [List.size_toArray]; rw [hlen]⟩, q⟩
    · subst e'
      obtain ⟨its, r', pl, hz⟩ := I.tuple hx
      have hlen := r'.length
      exact len_tuple pl (by simp only [List.size_toArray]; omega) ⟨.int xs.length, H, I.tok _, ⟨_, by simp only [List.size_toArray]; rw [hlen]⟩, q⟩
  | _ => exact (show False from e).elim
end
end L2

namespace L2
open PySem PySem.Spec PyProof.Rows

/-! ### an instance, its attributes a map -/
structure ObjM (h : Heap) (x dx C : Addr) (mA : Str → Option Value) : Prop where
  obj : h.get? x = some (PySem.W.instObj C dx)
  ns : h.Ns1 dx mA
  ne : dx ≠ x

theorem lookIn_ns {h : Heap} {dx : Addr} {mA : Str → Option Value} (n : h.Ns1 dx mA) : ∃ od, h.get? dx = some od ∧ ∀ name, PySem.W.lookIn name od = some (mA name) := by
  obtain ⟨o, es, ep, ho, hd, hk, _, hm⟩ := n
  refine ⟨o, ho, fun name => ?_⟩
  have e := hm name
  unfold nsFind findBy at e
  rw [← Array.find?_toList] at e
  unfold PySem.W.lookIn
  rw [hd]
  dsimp only
  split
  · rename_i y q
    rw [q] at e
    exact congrArg some e
  · rename_i q
    rw [q] at e
    have a : es.toList.any (·.refKey) = false := by
      rw [List.any_eq_false]
      intro y hy
      obtain ⟨z, t, hkey⟩ := hk y (Array.mem_toList_iff.mp hy)
      simp [DictEntry.refKey, hkey]
    have a' : ¬ es.toList.any (·.refKey) = true := by rw [a]; exact Bool.false_ne_true
    rw [if_neg a']
    exact congrArg some e

theorem ObjM.look {h : Heap} {x dx C : Addr} {mA : Str → Option Value} (I : ObjM h x dx C mA) : ∃ od, PySem.W.InstAt h x (PySem.W.instObj C dx) C (some od) ∧ ∀ name, PySem.W.lookIn name od = some (mA name) :=
  let ⟨od, ho, hl⟩ := lookIn_ns I.ns
  ⟨od, ⟨I.obj, rfl, rfl, ho⟩, hl⟩

section
variable {prog : Program} {w : World} {A : Around} {E : Value → Shared → Prop} {s : Shared} {K : PySem.W.Frag} {x dx C f : Addr} {mA : Str → Option Value} {name : Str} {v : Value}

theorem get_map {expr : Bool} {Q : Value → Shared → Prop} (X : K.In s.heap) (I : ObjM s.heap x dx C mA) (hg : PySem.W.plainGet K C name = true) (hh : PySem.W.hasDictIn K C = true)
    (ha : PySem.W.findIn K (.ref C) name = some none) (hv : mA name = some v) (hv' : PySem.W.handedIn v = true) (h : Q v { s with toks := s.toks + 1 }) :
    wpAny (model prog w) A (getAttr (.ref x) name expr) Q E s := by
  obtain ⟨od, J, hl⟩ := I.look
  exact PySem.W.get_value X J (PySem.W.plainGet_of hg).1 (PySem.W.findObj_own hh ha rfl (by rw [hl, hv])) hv' h

theorem get_meth {pl : Sem Bool} {Q : Value × List Value → Shared → Prop} (X : K.In s.heap) (I : ObjM s.heap x dx C mA) (hg : PySem.W.plainGet K C name = true)
    (hf : PySem.W.findIn K (.ref C) name = some (some (.ref f))) (ht : PySem.W.isFn K (.ref f) = true) (hv : mA name = none) (h : Q (.ref f, [.ref x]) s) :
    wpAny (model prog w) A (getMethod (.ref x) name pl) Q E s := by
  obtain ⟨od, J, hl⟩ := I.look
  exact PySem.W.method_fn X J (PySem.W.plainGet_of hg).1 (PySem.W.plainGet_of hg).2 hf (beq_iff_eq.mp ht) (by show (PySem.W.lookIn name od).map (·.isSome) = some false; rw [hl, hv]; rfl) h

theorem set_map {ns : List Str} {Q : Unit → Shared → Prop} (X : K.In s.heap) (I : ObjM s.heap x dx C mA)
    (hs : PySem.W.findIn K (.ref C) "__setattr__" = some (some (.builtin "object.__setattr__"))) (hp : PySem.W.plainOver K C = true) (ht : PySem.W.takerIn K C name = some none) (hh : PySem.W.hasDictIn K C = true)
    (hw : PySem.Within mA ns) (hsz : ns.length ≤ sizeLine)
    (h : ∀ h', ObjM h' x dx C (fun y => if y = name then some v else mA y) → Heap.SameBut dx s.heap h' → Q () { s with heap := h', toks := s.toks + 2 }) :
    wpAny (model prog w) A (setAttr (.ref x) name v) Q E s := by
  obtain ⟨od, J, hl⟩ := I.look
  refine PySem.W.set_plain X J hs (PySem.W.osa_open (s := { s with toks := s.toks + 1 }) (r := none) X J hp ht fun b => ?_)
  obtain ⟨cd, hc, hd'⟩ := PySem.W.any_some hh
  have hx : s.heap.get? x = some ⟨.ref C, some dx, .plain, #[]⟩ := I.obj
  refine wpAny_bind (wpAny_pure (wpAny_bind (wpAny_bind (wpAny_loadPart hx (wpAny_bind (PySem.W.Looks.here (s := { s with toks := s.toks + 1 }) (PySem.W.looks_clsIn X hc) ?_))))))
  rw [hd']
  refine wpAny_pure (a := some dx) (wpAny_bind (wpAny_pure (wpAny_bind ?_)))
  refine wpAny_nsSet1 (s := { s with toks := s.toks + 1 }) I.ns fun h' hn2 hs2 => ?_
  obtain ⟨oD, esD, epD, hoD, hdD, hcD⟩ := hn2.count (PySem.Within.cons name v hw)
  refine wpAny_bind (wpAny_lookBehind hoD (by rw [hdD]; exact pastItsLine_dict (Nat.le_trans hcD (by rw [List.length_cons]; omega))) ?_)
  exact wpAny_pure (h _ ⟨(hs2.2 _ (Ne.symm I.ne)).trans I.obj, hn2, I.ne⟩ hs2)

/-- C(..): the dict at the heap's end, the instance behind it; then its __init__ -/
theorem make_map {R : Result → Shared → Prop} {vs : List Value} {kw : List (Str × Value)} (X : K.In s.heap) (hm : PySem.W.makesIn K C = true)
    (hi : PySem.W.findIn K (.ref C) "__init__" = some (some (.ref f))) (hf : PySem.W.typeIn K (.ref f) = some (.type "function"))
    (h : codeAny (model prog w) (A.under (.builtin "type.__call__" ⟨.ref C :: vs, kw⟩)) (.call (.ref f) ⟨.ref (s.heap.objs.size + 1) :: vs, kw⟩) (PySem.W.InitBack (s.heap.objs.size + 1) R)
      { s with heap := (s.heap.push PySem.W.emptyDict).push (PySem.W.instObj C s.heap.objs.size) }) :
    codeAny (model prog w) A (.call (.ref C) ⟨vs, kw⟩) R s := by
  obtain ⟨hh, g, d, t, os⟩ := s
  exact PySem.W.make_core (PySem.W.makes_of X hm) (PySem.W.looks_findIn X hi) (fun self => PySem.W.bind_fn X self hf) (.inl rfl) h
end

/-! ### the attributes as a list of pairs -/
def putF (f : Str) (v : V) : List (Str × V) → List (Str × V)
  | [] => [(f, v)]
  | (g, x) :: r => if g = f then (g, v) :: r else (g, x) :: putF f v r
theorem lookup_putF (f g : Str) (v : V) : ∀ fs : List (Str × V), (putF f v fs).lookup g = if g = f then some v else fs.lookup g
  | [] => by
    show List.lookup g [(f, v)] = _
    by_cases h : g = f
    · have hb : (g == f) = true := beq_iff_eq.mpr h
      simp only [List.lookup, hb, if_pos h]
    · have hb : (g == f) = false := beq_eq_false_iff_ne.mpr h
      simp only [List.lookup, hb, if_neg h]
  | (k, x) :: r => by
    have ih := lookup_putF f g v r
    rw [show putF f v ((k, x) :: r) = (if k = f then (k, v) :: r else (k, x) :: putF f v r) from rfl]
    by_cases hk : k = f
    · rw [if_pos hk]
      by_cases h : g = k
      · have hb : (g == k) = true := beq_iff_eq.mpr h
        simp only [List.lookup, hb, if_pos (h.trans hk)]
      · have hb : (g == k) = false := beq_eq_false_iff_ne.mpr h
        simp only [List.lookup, hb, if_neg (fun e : g = f => h (e.trans hk.symm))]
    · rw [if_neg hk]
      by_cases h : g = k
      · have hb : (g == k) = true := beq_iff_eq.mpr h
        simp only [List.lookup, hb, if_neg (fun e : g = f => hk (h.symm.trans e))]
      · have hb : (g == k) = false := beq_eq_false_iff_ne.mpr h
        simp only [List.lookup, hb]
        exact ih
theorem keys_putF (f : Str) (v : V) : ∀ fs : List (Str × V), f ∈ (putF f v fs).map (·.1) ∧ ∀ g, g ∈ fs.map (·.1) → g ∈ (putF f v fs).map (·.1)
  | [] => ⟨by simp [putF], fun g h => by simp at h⟩
  | (k, x) :: r => by
    obtain ⟨i1, i2⟩ := keys_putF f v r
    rw [show putF f v ((k, x) :: r) = (if k = f then (k, v) :: r else (k, x) :: putF f v r) from rfl]
    by_cases hk : k = f
    · rw [if_pos hk]
      subst hk
      exact ⟨by simp, fun g h => by simpa using h⟩
    · rw [if_neg hk]
      refine ⟨?_, fun g h => ?_⟩
      · rw [List.map_cons]
        exact List.mem_cons_of_mem _ i1
      · rw [List.map_cons] at h ⊢
        rcases List.mem_cons.mp h with e | e
        · exact List.mem_cons.mpr (.inl e)
        · exact List.mem_cons_of_mem _ (i2 g e)
theorem length_putF (f : Str) (v : V) : ∀ fs : List (Str × V), (putF f v fs).length ≤ fs.length + 1
  | [] => by simp [putF]
  | (k, x) :: r => by
    have ih := length_putF f v r
    rw [show putF f v ((k, x) :: r) = (if k = f then (k, v) :: r else (k, x) :: putF f v r) from rfl]
    by_cases hk : k = f
    · rw [if_pos hk, List.length_cons, List.length_cons]; omega
    · rw [if_neg hk, List.length_cons, List.length_cons]; omega

theorem RelO.some_of {v : V} {o : Option Value} (r : RelO (some v) o) : ∃ u, o = some u ∧ RelV v u := by
  cases o with
  | none => exact (show False from r).elim
  | some u => exact ⟨u, rfl, r⟩
theorem RelO.none_of {o : Option Value} (r : RelO none o) : o = none := by
  cases o with
  | none => rfl
  | some u => exact (show False from r).elim
theorem handed_of {v : V} {u : Value} (r : RelV v u) : PySem.W.handedIn u = true := by
  cases v with
  | non => cases (show u = Value.none from r); rfl
  | bl b => cases (show u = Value.bool b from r); rfl
  | int i => obtain ⟨t, e⟩ := (show ∃ t, u = Value.int i t from r); cases e; rfl
  | str x => obtain ⟨t, e⟩ := (show ∃ t, u = Value.str x t from r); cases e; rfl
  | byt b => obtain ⟨t, e⟩ := (show ∃ t, u = Value.bytes b t from r); cases e; rfl
  | flt b => obtain ⟨t, e⟩ := (show ∃ t, u = Value.float b t from r); cases e; rfl
  | ref a => cases (show u = Value.ref a from r); rfl
  | ty n => cases (show u = Value.type n from r); rfl

section
variable {P : Program} {w : World} {H H' : Hp} {h h' : Heap} {a C dx : Addr} {fs fs' : List (Str × V)}
theorem ins_get (hok : HOk P w H h) (e : H a = some (.ins C dx fs)) : ∃ mA, ObjM h a dx C mA ∧ (∀ f, RelO (fs.lookup f) (mA f)) ∧ PySem.Within mA (fs.map (·.1)) ∧ fs.length ≤ 1000 ∧ H dx = some (.own a) := by
  obtain ⟨d, z, ne, ob, mA, n, r, q⟩ := (show ObjOk P w H h a (.ins C dx fs) from hok a _ e)
  exact ⟨mA, ⟨ob, n, ne⟩, r, q, z, d⟩
end

/-! ### what of the text a class must have -/
structure Cls (K : PySem.W.Frag) (C : Addr) : Prop where
  pg : PySem.W.plainGet K C Str.empty = true
  hd : PySem.W.hasDictIn K C = true
  po : PySem.W.plainOver K C = true
  sa : PySem.W.findIn K (.ref C) "__setattr__" = some (some (.builtin "object.__setattr__"))
theorem Cls.get {K : PySem.W.Frag} {C : Addr} (c : Cls K C) (f : Str) : PySem.W.plainGet K C f = true := c.pg
/-- no class of it has the name -/
def NoAttr (K : PySem.W.Frag) (C : Addr) (f : Str) : Prop := PySem.W.findIn K (.ref C) f = some none
theorem NoAttr.taker {K : PySem.W.Frag} {C : Addr} {f : Str} (n : NoAttr K C f) : PySem.W.takerIn K C f = some none := by
  unfold PySem.W.takerIn
  rw [show PySem.W.findIn K (.ref C) f = some none from n]
  rfl
/-- a constant of the class -/
structure Con (K : PySem.W.Frag) (C : Addr) (f : Str) (v : V) (u : Value) : Prop where
  at_ : PySem.W.findIn K (.ref C) f = some (some u)
  rel : RelV v u
  get : PySem.W.specialIn K u "__get__" = some none
  cp : PySem.W.copiedNames.contains f = false
/-- a method: a plain def of the class or of one above it -/
structure Meth (K : PySem.W.Frag) (C : Addr) (m : Str) (f : Addr) : Prop where
  at_ : PySem.W.findIn K (.ref C) m = some (some (.ref f))
  fn : PySem.W.isFn K (.ref f) = true
  kp : PySem.W.keepIn K (.ref f) = true

section
variable {X : Cx} {pins : List (Addr × Obj)} {σ : St} {H : Hp} {s : Shared} {a C dx : Addr} {fs : List (Str × V)} {f : Str} {v : V} {A : Around} {E : Value → Shared → Prop}

theorem getattr_ok {b : Bool} {Q : Value → Shared → Prop} (I : Inv X pins σ H s) (e : H a = some (.ins C dx fs)) (c : Cls X.K C) (n : NoAttr X.K C f) (l : fs.lookup f = some v)
    (h : ∀ u s', Inv X pins σ H s' → RelV v u → Q u s') : wpAny (model X.prog X.w) A (getAttr (.ref a) f b) Q E s := by
  obtain ⟨mA, O, r, _, _, _⟩ := ins_get I.hok e
  obtain ⟨u, hu, ru⟩ := RelO.some_of (v := v) (o := mA f) (by rw [← l]; exact r f)
  exact get_map I.kIn O (c.get f) c.hd n hu (handed_of ru) (h u _ (I.tok _) ru)

theorem getmeth_ok {m : Str} {g : Addr} {pl : Sem Bool} {Q : Value × List Value → Shared → Prop} (I : Inv X pins σ H s) (e : H a = some (.ins C dx fs)) (c : Cls X.K C) (k : Meth X.K C m g) (l : fs.lookup m = none)
    (h : Q (.ref g, [.ref a]) s) : wpAny (model X.prog X.w) A (getMethod (.ref a) m pl) Q E s := by
  obtain ⟨mA, O, r, _, _, _⟩ := ins_get I.hok e
  have hn : mA m = none := RelO.none_of (by rw [← l]; exact r m)
  exact get_meth I.kIn O (c.get m) k.at_ k.fn hn h

theorem setattr_ok {y : V} {u : Value} {Q : Unit → Shared → Prop} (I : Inv X pins σ H s) (e : H a = some (.ins C dx fs)) (c : Cls X.K C) (n : NoAttr X.K C f) (hl : fs.length < 1000) (ry : RelV y u)
    (h : ∀ s', Inv X pins σ (upd H a (.ins C dx (putF f y fs))) s' → Q () s') : wpAny (model X.prog X.w) A (setAttr (.ref a) f u) Q E s := by
  obtain ⟨mA, O, r, wi, _, ho⟩ := ins_get I.hok e
  have hz : (fs.map (·.1)).length ≤ sizeLine := by rw [List.length_map, sizeLine_eq]; omega
  refine set_map I.kIn O c.sa c.po n.taker c.hd wi hz fun h' O' sb => h _ ?_
  have hd : ∃ o, h'.get? dx = some o := let ⟨o, _, _, e', _⟩ := O'.ns; ⟨o, e'⟩
  refine I.write (x := a) (e := dx) (by rw [e]; exact True.intro) (.inr ho) (fun b q hb z => (sb.2 b hb).trans z) hd ?_
  refine ⟨by rw [upd_ne O.ne]; exact ho, ?_, O.ne, O'.obj, _, O'.ns, fun g => ?_, fun g hg => ?_⟩
  · have := length_putF f y fs; omega
  · show RelO ((putF f y fs).lookup g) (if g = f then some u else mA g)
    rw [lookup_putF]
    by_cases q : g = f
    · rw [if_pos q, if_pos q]; exact ry
    · rw [if_neg q, if_neg q]; exact r g
  · by_cases q : g = f
    · rw [q]; exact (keys_putF f y fs).1
    · refine (keys_putF f y fs).2 g (wi g fun z => hg ?_)
      show (if g = f then some u else mA g) = none
      rw [if_neg q]; exact z

/-- a new instance, tracked, without attributes -/
theorem Inv.made (I : Inv X pins σ H s) : Inv X pins σ (upd (upd H s.heap.objs.size (.own (s.heap.objs.size + 1))) (s.heap.objs.size + 1) (.ins C s.heap.objs.size []))
    { s with heap := (s.heap.push PySem.W.emptyDict).push (PySem.W.instObj C s.heap.objs.size) } := by
  have e1 : (s.heap.push PySem.W.emptyDict).get? s.heap.objs.size = some PySem.W.emptyDict := Heap.get?_push_size s.heap rfl
  have e2 : ((s.heap.push PySem.W.emptyDict).push (PySem.W.instObj C s.heap.objs.size)).get? (s.heap.objs.size + 1) = some (PySem.W.instObj C s.heap.objs.size) := by
    have := Heap.get?_push_size (s.heap.push PySem.W.emptyDict) (o := PySem.W.instObj C s.heap.objs.size) rfl
    rwa [Heap.size_push] at this
  have e3 : (s.heap.push PySem.W.emptyDict).Ns s.heap.objs.size (fun _ => none) := ⟨PySem.W.emptyDict, #[], _, e1, rfl, (fun e he => absurd he (by simp)), fun _ => rfl⟩
  have I1 := I.laid (a := s.heap.objs.size) (o := .own (s.heap.objs.size + 1)) (h' := s.heap.push PySem.W.emptyDict) (t' := s.toks) (fun b u q => Heap.get?_push_of_some _ q) (Nat.le_refl _) ⟨_, e1⟩
  refine I1.laid (a := s.heap.objs.size + 1) (o := .ins C s.heap.objs.size []) (t' := s.toks) (fun b u q => Heap.get?_push_of_some _ q) (Nat.le_of_eq (Heap.size_push _ _)) ?_
  have ne : s.heap.objs.size ≠ s.heap.objs.size + 1 := Nat.ne_of_lt (Nat.lt_succ_self _)
  refine ⟨by rw [upd_ne ne, upd_same], Nat.zero_le _, ne, e2, fun _ => none, (Heap.Ns1.of_empty e3).at fun o q => Heap.get?_push_of_some _ q, fun _ => True.intro, fun y hy => absurd rfl hy⟩

end

/-! ### readings and rules -/
/-- e.f = value -/
def sFld (K : PySem.W.Frag) (ta tv : TE) (f : Str) : TS := fun D σ H => tv σ H fun y H1 => ta σ H1 fun x H2 => ∃ a C dx fs, x = .ref a ∧ H2 a = some (.ins C dx fs) ∧ Cls K C ∧ NoAttr K C f ∧ fs.length < 1000 ∧
  D.nx σ (upd H2 a (.ins C dx (putF f y fs)))
section
variable {X : Cx} {o e value : Expr} {f : Str} {pos pos' tpos : Pos} {ta tv : TE}
theorem ps_fld (ha : PE X o ta) (hv : PE X value tv) (hs : swapsWith value (some (.Attribute o f pos')) pos.line X.env = pure false) : PS X (.Assign [.Attribute o f pos'] value pos) (sFld X.K ta tv f) := by
  intro pins s σ H D I h
  refine plainObj_wpAny_Assign_Attribute (thn (hv pins s σ H _ I h) fun u s1 ⟨y, H1, I1, ry, q⟩ => thn (ha pins s1 σ H1 _ I1 q) fun ov s2 ⟨x, H2, I2, rx, a, C, dx, fs, ex, ea, c, n, l, q2⟩ => ?_) hs
  subst ex
  obtain rfl : ov = Value.ref a := rx
  exact setattr_ok I2 ea c n l ry fun s3 I3 => ⟨σ, _, I3, q2⟩
end

/-! ### isinstance -/
section
variable {X : Cx} {pins : List (Addr × Obj)} {σ : St} {H : Hp} {s : Shared} {A : Around} {E : Value → Shared → Prop} {Q : Value → Shared → Prop} {c : Value} {b : Bool}
/-- the type of a value, as the fragment's deciders take it; for an instance its class -/
inductive TyOf (K : PySem.W.Frag) (H : Hp) : V → Value → Prop where
  | non : TyOf K H .non (.type "NoneType")
  | bl (x : Bool) : TyOf K H (.bl x) (.type "bool")
  | int (i : Int) : TyOf K H (.int i) (.type "int")
  | str (x : Str) : TyOf K H (.str x) (.type "str")
  | flt (x : UInt64) : TyOf K H (.flt x) (.type "float")
  | lst {a : Addr} {xs : List V} (e : H a = some (.lst xs)) : TyOf K H (.ref a) (.type "list")
  | frz {a : Addr} {o : Obj} {xs : List V} (e : H a = some (.frz o (.lst xs))) : TyOf K H (.ref a) (.type "list")
  | tup {a : Addr} {xs : List V} (e : H a = some (.tup xs)) : TyOf K H (.ref a) (.type "tuple")
  | dK {a : Addr} {kvs : List (Key × V)} (e : H a = some (.dK kvs)) : TyOf K H (.ref a) (.type "dict")
  | dT {a : Addr} {kvs : List (List Key × V)} (e : H a = some (.dT kvs)) : TyOf K H (.ref a) (.type "dict")
  | ins {a C dx : Addr} {fs : List (Str × V)} (e : H a = some (.ins C dx fs)) (cl : Cls K C) (ha : PySem.W.findIn K (.ref C) "__class__" = some (some (.builtin "object.__class__")))
      (hn : PySem.W.specialIn K (.builtin "object.__class__") "__get__" = some (some (.builtin "getset_descriptor.__get__"))) (htk : PySem.W.takesIn K (.builtin "object.__class__") = some true)
      (hm : PySem.W.mroIn K C (.type "object") = some true) : TyOf K H (.ref a) (.ref C)
/-- isinstance(x, c) for one class c, a built-in or an own one: kitOne's answer -/
theorem isinst_ok {x : V} {u t : Value} (I : Inv X pins σ H s) (rx : RelV x u) (ty : TyOf X.K H x t) (e : PySem.W.kitOne X.K t c = some b) (h : ∀ tk, Q (.bool b) { s with toks := tk }) :
    wpAny (model X.prog X.w) A (call (.builtin "isinstance") [u, c]) Q E s := by
  cases ty with
  | non => cases (show u = Value.none from rx); exact PySem.W.kia_one PySem.W.kitx_none I.kIn True.intro e (fun z => nomatch z) h
  | bl y => cases (show u = Value.bool y from rx); exact PySem.W.kia_one PySem.W.kitx_bool I.kIn True.intro e (fun z => nomatch z) h
  | int i => obtain ⟨t, q⟩ := (show ∃ t, u = Value.int i t from rx); cases q; exact PySem.W.kia_one PySem.W.kitx_int I.kIn True.intro e (fun z => nomatch z) h
  | str y => obtain ⟨t, q⟩ := (show ∃ t, u = Value.str y t from rx); cases q; exact PySem.W.kia_one PySem.W.kitx_str I.kIn True.intro e (fun z => nomatch z) h
  | flt y => obtain ⟨t, q⟩ := (show ∃ t, u = Value.float y t from rx); cases q; exact PySem.W.kia_one PySem.W.kitx_float I.kIn True.intro e (fun z => nomatch z) h
  | @lst a xs ea =>
    cases (show u = Value.ref a from rx)
    obtain ⟨_, _, n, _, h1⟩ := (show ObjOk X.prog X.w H s.heap a (.lst xs) from I.hok a _ ea)
    exact PySem.W.kia_one PySem.W.kitx_list I.kIn ⟨_, h1, rfl⟩ e (fun z => nomatch z) h
  | @frz a ob xs ea =>
    cases (show u = Value.ref a from rx)
    obtain ⟨_, _, _, n, _, h1⟩ := (show ObjOk X.prog X.w H s.heap a (.frz ob (.lst xs)) from I.hok a _ ea)
    exact PySem.W.kia_one PySem.W.kitx_list I.kIn ⟨_, h1, rfl⟩ e (fun z => nomatch z) h
  | @tup a xs ea =>
    cases (show u = Value.ref a from rx)
    obtain ⟨_, _, _, p⟩ := (show ObjOk X.prog X.w H s.heap a (.tup xs) from I.hok a _ ea)
    obtain ⟨o, h1, h2, _⟩ := p
    exact PySem.W.kia_one PySem.W.kitx_tuple I.kIn ⟨o, h1, h2⟩ e (fun z => nomatch z) h
  | @dK a kvs ea =>
    cases (show u = Value.ref a from rx)
    obtain ⟨_, _, vs, _, p⟩ := (show ObjOk X.prog X.w H s.heap a (.dK kvs) from I.hok a _ ea)
    obtain ⟨o, es, ep, h1, h2, _⟩ := p
    exact PySem.W.kia_one PySem.W.kitx_dict I.kIn ⟨o, h1, h2.1⟩ e (fun z => nomatch z) h
  | @dT a kvs ea =>
    cases (show u = Value.ref a from rx)
    obtain ⟨_, _, xs, _, o, es, ep, h1, h2, _⟩ := (show ObjOk X.prog X.w H s.heap a (.dT kvs) from I.hok a _ ea)
    exact PySem.W.kia_one PySem.W.kitx_dict I.kIn ⟨o, h1, h2.1⟩ e (fun z => nomatch z) h
  | @ins a C dx fs ea cl ha hn htk hm =>
    cases (show u = Value.ref a from rx)
    obtain ⟨mA, O, _⟩ := ins_get I.hok ea
    obtain ⟨od, J, _⟩ := O.look
    exact PySem.W.kia_one (PySem.W.kitx_own (cl.get _) cl.hd ha hn htk hm) I.kIn J e (fun z => nomatch z) h
end
end L2

namespace L2
open PySem PySem.Spec PyProof.Rows

/-! ### room -/
structure Room (k : Nat) (A : Around) : Prop where
  hd : A.handled = none
  dp : A.depth + 3 * k + 5 < recursionLimit
  un : A.units + 16 * k + 200 < cLine
theorem Room.mono {j k : Nat} {A : Around} (r : Room k A) (h : j ≤ k) : Room j A := ⟨r.hd, by have := r.dp; omega, by have := r.un; omega⟩
theorem Room.deeper {k : Nat} {A : Around} (r : Room (k + 1) A) (env : Env) : Room k (A.deeper env) :=
  ⟨r.hd, by have := r.dp; show A.depth + 1 + 3 * k + 5 < _; omega, by have := r.un; show A.units + 3 + 16 * k + 200 < _; omega⟩
theorem make_depth {A : Around} {C : Addr} {us : List Value} {kw : List (Str × Value)} : (A.under (.builtin "type.__call__" ⟨.ref C :: us, kw⟩)).depth = A.depth + 1 := by
  first | rfl | simp [Around.under, Code.weight, Code.isCreation, Code.isGuard, Code.isCaller, Code.frames, Code.isFrame, guardIds]
theorem make_units {A : Around} {C : Addr} {us : List Value} {kw : List (Str × Value)} : (A.under (.builtin "type.__call__" ⟨.ref C :: us, kw⟩)).units = A.units + 1 := by
  first | rfl | simp [Around.under, Code.cUnits, Code.frames, Code.isFrame]
theorem Room.make {k : Nat} {A : Around} (r : Room (k + 1) A) (C : Addr) (us : List Value) (kw : List (Str × Value)) : Room k (A.under (.builtin "type.__call__" ⟨.ref C :: us, kw⟩)) :=
  ⟨r.hd, by have := r.dp; rw [make_depth]; omega, by have := r.un; rw [make_units]; omega⟩
theorem Room.depth {k : Nat} {A : Around} (r : Room k A) : A.depth < recursionLimit := by have := r.dp; omega
theorem Room.units {k : Nat} {A : Around} (r : Room k A) : A.units + 64 < cLine := by have := r.un; omega
/-! ### argument lists and displays -/
def tNil : TA := fun _ H Q => Q [] H
def tCons (ta : TE) (tr : TA) : TA := fun σ H Q => ta σ H fun x H1 => tr σ H1 fun xs H2 => Q (x :: xs) H2
section
variable {X : Cx} {e : Expr} {es : List Expr} {te : TE} {t : TA} {pos : Pos}
theorem pa_nil : PA X [] tNil := fun _ _ _ _ H Q I h => Calls.spliced_nil ⟨[], H, I, .nil, h⟩
theorem pa_cons (ha : PE X e te) (hr : PA X es t) (hs : starEach (e :: es) X.env = (false, eval e X.env) :: starEach es X.env := by rfl) : PA X (e :: es) (tCons te t) := by
  intro pos pins s σ H Q I h
  rw [hs]
  show wpAny _ _ (spliced ((false, eval e X.env) :: backTo pos (starEach es X.env))) _ _ s
  refine Calls.spliced_cons (thn (ha pins s σ H _ I h) fun u s1 ⟨x, H1, I1, r1, q1⟩ => ?_)
  exact thn (hr pos pins s1 σ H1 _ I1 q1) fun us s2 ⟨xs, H2, I2, r2, q2⟩ => ⟨x :: xs, H2, I2, .cons r1 r2, q2⟩

/-- a tuple, a list of written items -/
def tTup (t : TA) : TE := fun σ H Q => t σ H fun xs H1 => xs.length ≤ sizeLine ∧ ∀ p, H1 p = none → Q (.ref p) (upd H1 p (.tup xs))
def tLst (t : TA) : TE := fun σ H Q => t σ H fun xs H1 => xs.length ≤ sizeLine ∧ ∀ p, H1 p = none → Q (.ref p) (upd H1 p (.lst xs))
theorem pe_tup {x1} (h : PA X es t) : PE X (.Tuple es x1 pos) (tTup t) := by
  intro pins s σ H Q I hq
  refine wpAny_Tuple_spliced (thn (h pos pins s σ H _ I hq) fun us s1 ⟨xs, H1, I1, r, z, q⟩ => ⟨by rw [← r.length]; exact z, ?_⟩)
  have hf : H1 s1.heap.objs.size = none := I1.hok.fresh (Nat.le_refl _)
  refine ⟨.ref s1.heap.objs.size, upd H1 s1.heap.objs.size (.tup xs), I1.laid (t' := s1.toks) (fun b u e => Heap.get?_push_of_some _ e) (Nat.le_refl _) ?_, rfl, q _ hf⟩
  exact ⟨z, us, r, ⟨_, Heap.get?_push_size _ rfl, rfl, _, rfl⟩⟩
theorem pe_lst (h : PA X es t) : PE X (.List es pos) (tLst t) := by
  intro pins s σ H Q I hq
  refine wpAny_List_spliced (thn (h pos pins s σ H _ I hq) fun us s1 ⟨xs, H1, I1, r, z, q⟩ => ⟨by rw [← r.length]; exact z, ?_⟩)
  have hf : H1 s1.heap.objs.size = none := I1.hok.fresh (Nat.le_refl _)
  refine ⟨.ref s1.heap.objs.size, upd H1 s1.heap.objs.size (.lst xs), I1.laid (t' := s1.toks) (fun b u e => Heap.get?_push_of_some _ e) (Nat.le_refl _) ?_, rfl, q _ hf⟩
  exact ⟨z, us, 0, r, Heap.get?_push_size _ rfl⟩
end

/-! ### what a def promises -/
/-- a def's promise: the bound arguments in the parameters' order, the heap, the wanted end, the wanted exception -/
abbrev Sp := List V → Hp → VK → XK → Prop
/-- how an exception lies behind a call (file 08 gives it): the callers' frames, abstract heap and state ahead of the call, the wish, the exception, the state -/
abbrev CXT := List Env → Hp → Shared → XK → Value → Shared → Prop

/-- the state at a call -/
structure Env0 (P : Program) (w : World) (K : PySem.W.Frag) (mg : Str → Option Value) (base : Heap) (A : Around) (outer : List Env) (s : Shared) (H : Hp) : Prop where
  frames : A.frames = some outer
  mod : Mod K mg base
  bs : ∀ b o, base.get? b = some o → s.heap.get? b = some o ∧ H b = none
  bsz : base.objs.size ≤ s.heap.objs.size
  funs : s.heap.FunFrames base outer
  frf : ∀ b ∈ frs outer, H b = none
  hok : HOk P w H s.heap
  bare : AllBare s.gens
/-- a call's end -/
def CE (outer : List Env) (P : Program) (w : World) (H : Hp) (s : Shared) (Q : VK) (u : Value) (s' : Shared) : Prop :=
  ∃ v H', s'.os = s.os ∧ AllBare s'.gens ∧ Un (frs outer) [] H H' s.heap s'.heap ∧ HOk P w H' s'.heap ∧ RelV v u ∧ Q v H'
def CR (CX : CXT) (outer : List Env) (P : Program) (w : World) (H : Hp) (s : Shared) (Q : VK) (E : XK) (r : Result) (s' : Shared) : Prop :=
  match r with
  | .ok (.ret u) => CE outer P w H s Q u s'
  | .ok _ => False
  | .error e => CX outer H s E e s'
structure FnOk (P : Program) (w : World) (K : PySem.W.Frag) (mg : Str → Option Value) (base : Heap) (CX : CXT) (k : Nat) (f : Addr) (fd : FuncData) (ps : List Str) (sp : Sp) : Prop where
  len : ∀ vs H Q E, sp vs H Q E → vs.length = ps.length
  run : ∀ (A : Around) (outer : List Env) (s : Shared) (H : Hp) (args : Args) (us : List Value) (vs : List V) (Q : VK) (E : XK), Room k A → Env0 P w K mg base A outer s H → BindsTo s fd args (ps.zip us) → Vals vs us → sp vs H Q E →
    codeAny (model P w) A (.call (.ref f) args) (CR CX outer P w H s Q E) s
theorem Env0.make {P : Program} {w : World} {K : PySem.W.Frag} {mg : Str → Option Value} {base : Heap} {A : Around} {outer : List Env} {s : Shared} {H : Hp} (e : Env0 P w K mg base A outer s H) (C : Addr) (us : List Value) (kw : List (Str × Value)) :
    Env0 P w K mg base (A.under (.builtin "type.__call__" ⟨.ref C :: us, kw⟩)) outer s H := ⟨by first | exact e.frames | (simpa [Around.under, Code.envs, Code.isFrame, pushEnvs] using e.frames), e.mod, e.bs, e.bsz, e.funs, e.frf, e.hok, e.bare⟩
section
variable {X : Cx} {pins : List (Addr × Obj)} {σ : St} {H : Hp} {s s' : Shared}
/-- from a body: what a callee wants -/
theorem Inv.env0 (I : Inv X pins σ H s) : Env0 X.prog X.w X.K X.mg X.base X.A X.stack s H :=
  ⟨I.ok.frames, I.ok.mod, I.bs, Nat.le_trans I.ok.bsz I.sz, I.stack, I.stkFree, I.hok, I.bare⟩
/-- behind a call -/
theorem Inv.after {Q : VK} {u : Value} (I : Inv X pins σ H s) (h : CE X.stack X.prog X.w H s Q u s') : EP X pins σ Q u s' := by
  obtain ⟨v, H', os, bare, un, hok, r, q⟩ := h
  obtain ⟨hh, g, d, t, os'⟩ := s'
  obtain rfl : os' = s.os := os
  exact ⟨v, H', I.call (h' := hh) (g' := g) (d' := d) (t' := t) (ch := []) un hok bare (fun b z => absurd z (by simp)), r, q⟩
end

/-! ### calls -/
/-- f(..): the written arguments, then the defaults dvs; E: what is wanted of an exception -/
def tCall (sp : Sp) (dvs : List V) (E : XK) (t : TA) : TE := fun σ H Q => t σ H fun vs H1 => sp (vs ++ dvs) H1 Q E
/-- C(..): a new instance and its dict, then __init__ -/
def tMake (C : Addr) (sp : Sp) (dvs : List V) (E : XK) (t : TA) : TE := fun σ H Q => t σ H fun vs H1 => ∀ x dx, H1 x = none → H1 dx = none → dx ≠ x →
  sp (.ref x :: (vs ++ dvs)) (upd (upd H1 dx (.own x)) x (.ins C dx [])) (fun v H2 => v = .non ∧ Q (.ref x) H2) E

/-- how the parameters are bound: us the positional arguments, kw the keywords' values by name, ds the defaults that fill up -/
def Binds (K : PySem.W.Frag) (fd : FuncData) (ps : List Str) (ds : List Value) : Prop :=
  ∀ (s : Shared) (us : List Value), K.In s.heap → (us ++ ds).length = ps.length → BindsTo s fd ⟨us, []⟩ (ps.zip (us ++ ds))
/-- every parameter is given -/
theorem Binds.all {K : PySem.W.Frag} {fd : FuncData} {ps : List Str} (h : ∀ us : List Value, us.length = ps.length → bindArgs fd ⟨us, []⟩ = pure (ps.zip us)) : Binds K fd ps [] := fun s us _ hl => by
  rw [List.append_nil] at hl ⊢
  exact .of_eq (h us hl)

/-- an exception of a callee reaches what this body wants of exceptions -/
def Passes (CX : CXT) (X : Cx) (E : XK) : Prop := ∀ (pins : List (Addr × Obj)) (σ : St) (H : Hp) (s : Shared) (e : Value) (s' : Shared), Inv X pins σ H s → CX X.stack H s E e s' → X.xe e s'

section
variable {X : Cx} {CX : CXT} {k : Nat} {f C : Addr} {fd : FuncData} {ps : List Str} {sp : Sp} {dvs : List V} {ds : List Value} {E : XK} {x m : Str} {p pos apos : Pos} {e o : Expr} {es : List Expr} {ta : TE} {t : TA}

/-- the callee runs -/
theorem run_fn {pins : List (Addr × Obj)} {σ : St} {H : Hp} {s : Shared} {Q : VK} {us : List Value} {vs : List V} (F : FnOk X.prog X.w X.K X.mg X.base CX k f fd ps sp) (hr : Room k X.A) (hb : Binds X.K fd ps ds) (hd : Vals dvs ds) (hx : Passes CX X E)
    (I : Inv X pins σ H s) (r : Vals vs us) (h : sp (vs ++ dvs) H Q E) : wpAny (model X.prog X.w) X.A (call (.ref f) us) (EP X pins σ Q) X.xe s := by
  have r2 : Vals (vs ++ dvs) (us ++ ds) := r.append hd
  have hl : (us ++ ds).length = ps.length := by rw [← r2.length]; exact F.len _ _ _ _ h
  refine wpAny_call (codeAny_mono (F.run X.A X.stack s H ⟨us, []⟩ (us ++ ds) (vs ++ dvs) Q E hr I.env0 (hb s us I.kIn hl) r2 h) fun r s' hq => ?_)
  cases r with
  | error e => exact hx pins σ H s e s' I hq
  | ok fl =>
    cases fl with
    | ret u => exact I.after hq
    | next => exact False.elim hq
    | brk => exact False.elim hq
    | cont => exact False.elim hq

theorem pe_call (F : FnOk X.prog X.w X.K X.mg X.base CX k f fd ps sp) (hr : Room k X.A) (hg : Gl X x) (hm : X.mg x = some (.ref f)) (hk : PySem.W.keepIn X.K (.ref f) = true) (hb : Binds X.K fd ps ds) (hd : Vals dvs ds) (hx : Passes CX X E)
    (ha : PA X (e :: es) t) (hdb : (x == ("__debug__" : Str)) = false := by decide) (he : starEach (e :: es) X.env = (false, eval e X.env) :: starEach es X.env := by rfl) (hpl : (backTo pos (starEach es X.env)).any (·.1) = false := by rfl) :
    PE X (.Call (.Name x p) (e :: es) [] pos) (tCall sp dvs E t) := by
  intro pins s σ H Q I h
  refine wpAny_Call_Name_kw (ld_glob I hg hm ?_ hdb)
  refine PySem.W.callWith_K (h₀ := X.base) I.ok.mod.kin hk (thn (ha pos pins s σ H _ I h) fun us s1 ⟨vs, H1, I1, r, q⟩ => ⟨I1.kIn, ?_⟩) he hpl
  exact run_fn F hr hb hd hx I1 r q
/-- what a class must have to be made -/
structure Mk (K : PySem.W.Frag) (C f : Addr) : Prop where
  makes : PySem.W.makesIn K C = true
  init : PySem.W.findIn K (.ref C) "__init__" = some (some (.ref f))
  fn : PySem.W.isFn K (.ref f) = true
  kp : PySem.W.keepIn K (.ref C) = true

theorem run_make {pins : List (Addr × Obj)} {σ : St} {H : Hp} {s : Shared} {Q : VK} {us : List Value} {vs : List V} (M : Mk X.K C f) (F : FnOk X.prog X.w X.K X.mg X.base CX k f fd ps sp) (hr : Room (k + 1) X.A) (hb : Binds X.K fd ps ds) (hd : Vals dvs ds)
    (hx : Passes CX X E) (I : Inv X pins σ H s) (r : Vals vs us)
    (h : ∀ x dx, H x = none → H dx = none → dx ≠ x → sp (.ref x :: (vs ++ dvs)) (upd (upd H dx (.own x)) x (.ins C dx [])) (fun v H2 => v = .non ∧ Q (.ref x) H2) E) :
    wpAny (model X.prog X.w) X.A (call (.ref C) us) (EP X pins σ Q) X.xe s := by
  have hq := h (s.heap.objs.size + 1) s.heap.objs.size (I.hok.fresh (Nat.le_succ _)) (I.hok.fresh (Nat.le_refl _)) (Nat.ne_of_lt (Nat.lt_succ_self _))
  have I2 := Inv.made (C := C) I
  have r2 : Vals (V.ref (s.heap.objs.size + 1) :: (vs ++ dvs)) (Value.ref (s.heap.objs.size + 1) :: (us ++ ds)) := .cons rfl (r.append hd)
  have hl : (Value.ref (s.heap.objs.size + 1) :: us ++ ds).length = ps.length := by
    have e := r2.length
    rw [F.len _ _ _ _ hq] at e
    exact e.symm
  refine wpAny_call (make_map (f := f) I.kIn M.makes M.init (beq_iff_eq.mp M.fn) (codeAny_mono (F.run _ X.stack _ _ ⟨Value.ref (s.heap.objs.size + 1) :: us, []⟩ (Value.ref (s.heap.objs.size + 1) :: (us ++ ds)) _ _ E (hr.make C us [])
    (I2.env0.make C us []) (hb _ (Value.ref (s.heap.objs.size + 1) :: us) I2.kIn hl) r2 hq) fun r s' hq' => ?_))
  cases r with
  | error e => exact hx pins σ _ _ e s' I2 hq'
  | ok fl =>
    cases fl with
    | ret u =>
      obtain ⟨v, H', I3, rv, ev, q3⟩ := I2.after hq'
      subst ev
      exact ⟨rv, ⟨V.ref (s.heap.objs.size + 1), H', I3, rfl, q3⟩⟩
    | next => exact False.elim hq'
    | brk => exact False.elim hq'
    | cont => exact False.elim hq'
theorem pe_make (M : Mk X.K C f) (F : FnOk X.prog X.w X.K X.mg X.base CX k f fd ps sp) (hr : Room (k + 1) X.A) (hg : Gl X x) (hm : X.mg x = some (.ref C)) (hb : Binds X.K fd ps ds) (hd : Vals dvs ds) (hx : Passes CX X E)
    (ha : PA X (e :: es) t) (hdb : (x == ("__debug__" : Str)) = false := by decide) (he : starEach (e :: es) X.env = (false, eval e X.env) :: starEach es X.env := by rfl) (hpl : (backTo pos (starEach es X.env)).any (·.1) = false := by rfl) :
    PE X (.Call (.Name x p) (e :: es) [] pos) (tMake C sp dvs E t) := by
  intro pins s σ H Q I h
  refine wpAny_Call_Name_kw (ld_glob I hg hm ?_ hdb)
  refine PySem.W.callWith_K (h₀ := X.base) I.ok.mod.kin M.kp (thn (ha pos pins s σ H _ I h) fun us s1 ⟨vs, H1, I1, r, q⟩ => ⟨I1.kIn, ?_⟩) he hpl
  exact run_make M F hr hb hd hx I1 r q
end

/-! ### keywords -/
section
variable {X : Cx} {CX : CXT} {k : Nat} {f C : Addr} {fd : FuncData} {ps ks : List Str} {sp : Sp} {E : XK} {x m : Str} {p pos apos kpos : Pos} {e o : Expr} {es : List Expr} {kws : List Keyword} {te ta : TE} {t tk : TA} {nm : Option Str}
/-- how a call with keywords binds: g puts the positional values us and the keywords' values ws (names ks) in the parameters' order, defaults among them -/
structure KBinds (K : PySem.W.Frag) (fd : FuncData) (ps ks : List Str) (g : List Value → List Value → List Value) (gV : List V → List V → List V) : Prop where
  to : ∀ (s : Shared) (us ws : List Value), K.In s.heap → (g us ws).length = ps.length → BindsTo s fd ⟨us, ks.zip ws⟩ (ps.zip (g us ws))
  rel : ∀ {vs : List V} {us : List Value} {zs : List V} {ws : List Value}, Vals vs us → Vals zs ws → Vals (gV vs zs) (g us ws)
variable {g : List Value → List Value → List Value} {gV : List V → List V → List V}
end

/-! ### a def's body keeps its promise -/
/-- names: the parameters first -/
structure FnScope (N P : List Str) (sc : Scope) : Prop where
  kind : sc.kind = .function
  co : sc.isCoroutine = false
  gen : sc.isGenerator = false
  nd : N.Nodup
  pre : N.take P.length = P
  par : ∀ x ∈ P, sc.names.lookup x = some .local ∨ sc.names.lookup x = some .cell
  nofree : ∀ y ∈ sc.names, y.2 ≠ .free

theorem bindL_out {kindOf : Str → Option NameKind} {x : Str} : ∀ {binds : List (Str × Value)} {m : Str → Option Value}, (∀ v, (x, v) ∉ binds) → bindL kindOf binds m x = m x
  | [], _, _ => rfl
  | (n, v) :: r, m, h => by
    unfold bindL
    rw [bindL_out fun w hw => h w (List.mem_cons_of_mem _ hw)]
    split
    · have : x ≠ n := by rintro rfl; exact h v List.mem_cons_self
      simp [this]
    · rfl
theorem bindC_out {kindOf : Str → Option NameKind} {x : Str} : ∀ {binds : List (Str × Value)} {m : Str → Option Value}, (∀ v, (x, v) ∉ binds) → bindC kindOf binds m x = m x
  | [], _, _ => rfl
  | (n, v) :: r, m, h => by
    unfold bindC
    rw [bindC_out fun w hw => h w (List.mem_cons_of_mem _ hw)]
    split
    · rfl
    · have : x ≠ n := by rintro rfl; exact h v List.mem_cons_self
      simp [this]
theorem bindL_get {kindOf : Str → Option NameKind} {x : Str} {v : Value} : ∀ {P : List Str} {vs : List Value} {i : Nat} {m : Str → Option Value}, P.Nodup → P[i]? = some x → vs[i]? = some v → kindOf x = some .local →
    bindL kindOf (P.zip vs) m x = some v
  | [], _, _, _, _, h, _, _ => by simp at h
  | _ :: _, [], _, _, _, _, h, _ => by simp at h
  | p :: P, w :: vs, 0, m, nd, h1, h2, hk => by
    simp at h1 h2; subst h1; subst h2
    show bindL kindOf ((p, w) :: P.zip vs) m p = _
    unfold bindL
    rw [bindL_out fun v hv => (List.nodup_cons.mp nd).1 (List.of_mem_zip hv).1, if_pos hk]
    simp
  | p :: P, w :: vs, i + 1, m, nd, h1, h2, hk => by
    show bindL kindOf ((p, w) :: P.zip vs) m x = _
    unfold bindL
    exact bindL_get (i := i) (List.nodup_cons.mp nd).2 (by simpa using h1) (by simpa using h2) hk
theorem bindC_get {kindOf : Str → Option NameKind} {x : Str} {v : Value} : ∀ {P : List Str} {vs : List Value} {i : Nat} {m : Str → Option Value}, P.Nodup → P[i]? = some x → vs[i]? = some v → kindOf x ≠ some .local →
    bindC kindOf (P.zip vs) m x = some v
  | [], _, _, _, _, h, _, _ => by simp at h
  | _ :: _, [], _, _, _, _, h, _ => by simp at h
  | p :: P, w :: vs, 0, m, nd, h1, h2, hk => by
    simp at h1 h2; subst h1; subst h2
    show bindC kindOf ((p, w) :: P.zip vs) m p = _
    unfold bindC
    rw [bindC_out fun v hv => (List.nodup_cons.mp nd).1 (List.of_mem_zip hv).1, if_neg hk]
    simp
  | p :: P, w :: vs, i + 1, m, nd, h1, h2, hk => by
    show bindC kindOf ((p, w) :: P.zip vs) m x = _
    unfold bindC
    exact bindC_get (i := i) (List.nodup_cons.mp nd).2 (by simpa using h1) (by simpa using h2) hk

/-- the names' values at the entry -/
def start (N : List Str) (vs : List V) : St := vs.map some ++ List.replicate (N.length - vs.length) none

/-- the context of a def's body, at its entry; an exception leaves the frame, then lies as CX says -/
def cxOf (CX : CXT) (P : Program) (w : World) (K : PySem.W.Frag) (mg : Str → Option Value) (base : Heap) (N : List Str) (qual : Str) (scope : Scope) (f : Addr) (cd : Value) (A : Around) (outer : List Env) (s : Shared) (H : Hp) (E : XK) : Cx where
  prog := P
  w := w
  K := K
  mg := mg
  base := base
  A := A.deeper (envOfC qual scope s.heap.objs.size f cd)
  N := N
  s₀ := s
  H₀ := H
  env := envOfC qual scope s.heap.objs.size f cd
  outer := outer
  stack := envOfC qual scope s.heap.objs.size f cd :: outer
  ex := []
  calm := true
  fn := fun _ => true
  pn := []
  xe := fun e s' => wpAny (model P w) (A.deeper (envOfC qual scope s.heap.objs.size f cd)) (leaving (envOfC qual scope s.heap.objs.size f cd) e) (fun _ s'' => CX outer H s E e s'') (fun e' s'' => CX outer H s E e' s'') s'

theorem cell_has {sc : Scope} {n : Nat} {x : Str} (h : sc.names.lookup x = some .cell) : ∃ c, (cellsFrom n sc.names []).lookup x = some c := by
  have q := PySem.W.cellsFrom_some sc.names n [] (.inl h)
  exact Option.isSome_iff_exists.mp q

theorem inv_start {CX : CXT} {P : Program} {w : World} {K : PySem.W.Frag} {mg : Str → Option Value} {base : Heap} {N ps : List Str} {qual : Str} {scope : Scope} {f : Addr} {cd : Value} {A : Around} {outer : List Env} {s s1 : Shared} {H : Hp} {E : XK} {us : List Value} {vs : List V}
    (S : FnScope N ps scope) (hd : A.handled = none) (e0 : Env0 P w K mg base A outer s H) (hl : vs.length = ps.length) (r : Vals vs us)
    (x : InCallC s s.heap.objs.size (bindL (envOfC qual scope s.heap.objs.size f cd).kindOf (ps.zip us) fun _ => none) (cellsFrom (s.heap.objs.size + 1) scope.names []) (bindC (envOfC qual scope s.heap.objs.size f cd).kindOf (ps.zip us) fun _ => none) s1) :
    Inv (cxOf CX P w K mg base N qual scope f cd A outer s H E) [] (start N vs) H s1 := by
  have hpl : ps.length ≤ N.length := by have := congrArg List.length S.pre; rw [List.length_take] at this; omega
  obtain ⟨h1, tk, rfl, hk⟩ := x.done
  have noA : ∀ b : Addr, b ∉ (cxOf CX P w K mg base N qual scope f cd A outer s H E).ex := fun b z => absurd (show b ∈ ([] : List Addr) from z) (by simp)
  refine ⟨⟨e0.mod, S.kind, rfl, rfl, Nat.le_refl _, fun y z c h1 h2 => ?_, fun y hy => ?_, fun y c _ h => ?_, fun _ => hd, Around.frames_deeper e0.frames, .inr ⟨rfl, rfl⟩, fun b z => absurd z (noA b), e0.bs, e0.bsz, fun b _ _ => noA b, fun b z => absurd z (noA b), e0.funs, e0.frf⟩,
    rfl, e0.bare, Un.kept hk, ⟨_, x.toInCall.ns, fun i y v h1 h2 h3 => ?_⟩, fun y c h => ⟨_, x.cell y c h⟩, e0.hok.fresh (Nat.le_refl _), fun y c h => ?_, fun p hp => absurd (show p ∈ ([] : List (Addr × Obj)) from hp) (by simp), e0.hok.kept hk, ?_⟩
  · exact name_of_addr x.apart (PySem.mem_of_lookup h1) (PySem.mem_of_lookup h2)
  · have hy : scope.names.lookup y = some .cell ∨ scope.names.lookup y = some .free := hy
    rcases hy with hy | hy
    · exact cell_has hy
    · exact absurd rfl (S.nofree _ (PySem.mem_of_lookup hy))
  · exact Nat.le_of_lt (x.above y c (PySem.mem_of_lookup h))
  · have hi : i < vs.length := by
      unfold start at h2
      by_cases hi : i < vs.length
      · exact hi
      · rw [List.getElem?_append_right (by simpa using hi)] at h2
        rw [List.getElem?_replicate] at h2
        split at h2 <;> cases h2
    have ha : vs[i]? = some v := by
      unfold start at h2
      rw [List.getElem?_append_left (by simpa using hi), List.getElem?_map] at h2
      cases e : vs[i]? with
      | none => rw [e] at h2; cases h2
      | some a => rw [e] at h2; cases h2; rfl
    obtain ⟨u, hu, rv⟩ := r.get ha
    have hp : ps[i]? = some y := by
      rw [← S.pre, List.getElem?_take_of_lt (by omega)]; exact h1
    have ndP : ps.Nodup := by rw [← S.pre]; exact S.nd.sublist (List.take_sublist _ _)
    refine ⟨u, rv, ?_⟩
    rcases S.par y (List.mem_of_getElem? hp) with k | k
    · exact .inl ⟨k, bindL_get ndP hp hu k⟩
    · obtain ⟨c, e⟩ := cell_has (n := s.heap.objs.size + 1) k
      refine .inr ⟨.inl k, c, e, ?_⟩
      have q := x.cell y c e
      rw [bindC_get ndP hp hu (by show scope.names.lookup y ≠ _; rw [k]; decide)] at q
      exact q
  · exact e0.hok.fresh (Nat.le_of_lt (x.above y c (PySem.mem_of_lookup h)))
  · unfold start
    show _ = N.length
    rw [List.length_append, List.length_map, List.length_replicate]
    omega

/-- THE RULE: a def (or a method) of the text, by its body. The body's reading t is chosen for each entry; it is run at the parameters' values -/
theorem fn_of {CX : CXT} {P : Program} {w : World} {K : PySem.W.Frag} {mg : Str → Option Value} {base : Heap} {k : Nat} {f : Addr} {name qual : Str} {params : Arguments} {body : List Stmt} {scope : Scope} {dV kV doc pm cdv ct oc : Value} {an od : Option Addr}
    {osl : Array (Option Value)} {N ps : List Str} {sp : Sp} (lk : K.lookup f = some ⟨oc, od, .func (PySem.W.fnOf name qual params body scope dV kV doc pm an cdv ct), osl⟩) (hcd : PySem.W.codeIn K cdv qual = true) (S : FnScope N ps scope)
    (len : ∀ vs H Q E, sp vs H Q E → vs.length = ps.length)
    (hbody : ∀ (A : Around) (outer : List Env) (s : Shared) (H : Hp) (vs : List V) (Q : VK) (E : XK), Room k (A.deeper (envOfC qual scope s.heap.objs.size f cdv)) → sp vs H Q E →
      ∃ t, PSs (cxOf CX P w K mg base N qual scope f cdv A outer s H E) body t ∧ t { nx := fun _ H' => Q .non H', rt := Q } (start N vs) H) :
    FnOk P w K mg base CX (k + 1) f (PySem.W.fnOf name qual params body scope dV kV doc pm an cdv ct) ps sp := by
  refine ⟨len, fun A outer s H args us vs Q E hr e0 hb r hsp => ?_⟩
  have hl := len _ _ _ _ hsp
  have KX : K.In s.heap := e0.mod.kin.keeps fun b o e => (e0.bs b o e).1
  have lim : s.heap.NoLimit := e0.mod.nolimit.keeps fun b o e => (e0.bs b o e).1
  have hkind : ∀ y ∈ ps.zip us, scope.names.lookup y.1 = some .local ∨ (scope.names.lookup y.1 = some .cell ∧ ((cellsFrom (s.heap.objs.size + 1) scope.names []).lookup y.1).isSome = true) := fun ⟨n, v⟩ hy => by
    rcases S.par n (List.of_mem_zip hy).1 with q | q
    · exact .inl q
    · exact .inr ⟨q, PySem.W.cellsFrom_some _ _ _ (.inl q)⟩
  refine codeAny_call_function hr.depth (KX _ _ lk) rfl S.co S.gen rfl (PySem.W.codeRec_of KX hcd) (hb _ _ _ _ ?_)
  refine wpAny_newFunctionEnv_cells S.kind hkind fun env he s1 x => ?_
  subst he
  refine ⟨lim.keeps x.toInCall.keep, codeAny_func ?_⟩
  obtain ⟨t, ht, hq⟩ := hbody A outer s H vs Q E (hr.deeper _) hsp
  have I : Inv (cxOf CX P w K mg base N qual scope f cdv A outer s H E) [] (start N vs) H s1 := inv_start S hr.hd e0 hl r x
  refine wpAny_mono (ht [] s1 (start N vs) H _ I hq) (fun fl s' hs => ?_) fun e s' hs => hs
  have fin : ∀ {σ' : St} {H' : Hp} {v : V} {u : Value}, Inv (cxOf CX P w K mg base N qual scope f cdv A outer s H E) [] σ' H' s' → RelV v u → Q v H' → CE outer P w H s Q u s' :=
    fun {σ' H' v u} J rv q => ⟨v, H', J.os, J.bare, J.base, J.hok, rv, q⟩
  cases fl with
  | ret u =>
    obtain ⟨v, σ', H', J, rv, q⟩ := hs
    exact fin J rv q
  | next =>
    obtain ⟨σ', H', J, q⟩ := hs
    exact fin (v := V.non) (u := Value.none) J rfl q
  | brk =>
    obtain ⟨_, _, _, q⟩ := hs
    exact False.elim q
  | cont =>
    obtain ⟨_, _, _, q⟩ := hs
    exact False.elim q
end L2

namespace L2
open PySem PySem.Spec PyProof.Rows
section
variable {X : Cx} {x : Str} {p pos : Pos} {e : Expr} {es : List Expr} {t : TA} {id T : String} {r : List V → Hp → VK → Prop}

def tCB (r : List V → Hp → VK → Prop) (t : TA) : TE := fun σ H Q => t σ H fun vs H1 => r vs H1 Q
/-- f(e, ..), f a built-in function -/
theorem pe_callB (hc : CallR X (.builtin id) r) (hg : Gl X x) (hm : X.mg x = none) (hv : bootBuiltins x = some (.builtin id)) (ha : PA X (e :: es) t) (hn : x ≠ "__name__" := by decide) (hdb : (x == ("__debug__" : Str)) = false := by decide)
    (he : starEach (e :: es) X.env = (false, eval e X.env) :: starEach es X.env := by rfl) (hpl : (backTo pos (starEach es X.env)).any (·.1) = false := by rfl) : PE X (.Call (.Name x p) (e :: es) [] pos) (tCB r t) := by
  intro pins s σ H Q I h
  refine wpAny_Call_Name_kw (ld_blt I hg hm hv ?_ hn hdb)
  exact PyProof.Rows.callWith_builtin1 (thn (ha pos pins s σ H _ I h) fun us s1 ⟨vs, H1, I1, r1, q1⟩ => hc pins s1 σ H1 vs us Q I1 r1 q1) he hpl
/-- T(e, ..), T a built-in type -/
theorem pe_callTy (hc : CallR X (.type T) r) (hg : Gl X x) (hm : X.mg x = none) (hv : bootBuiltins x = some (.type T)) (ha : PA X (e :: es) t) (hn : x ≠ "__name__" := by decide) (hdb : (x == ("__debug__" : Str)) = false := by decide)
    (he : starEach (e :: es) X.env = (false, eval e X.env) :: starEach es X.env := by rfl) (hpl : (backTo pos (starEach es X.env)).any (·.1) = false := by rfl) : PE X (.Call (.Name x p) (e :: es) [] pos) (tCB r t) := by
  intro pins s σ H Q I h
  refine wpAny_Call_Name_kw (ld_blt I hg hm hv ?_ hn hdb)
  exact PyProof.Rows.callWith_type1 (thn (ha pos pins s σ H _ I h) fun us s1 ⟨vs, H1, I1, r1, q1⟩ => hc pins s1 σ H1 vs us Q I1 r1 q1) he hpl
end
end L2

namespace HT
open PySem PyProof.Rows

section
open PySem.SeqAt
open PySem.AutoSeq1 (wpAny_loadPart')
open PySem.MeetsSeq PySem.MeetsSeq2 PySem.MeetsSeq3

end

section
variable {prog : Program} {w : World} {A : Around} {E : Value → Shared → Prop} {s : Shared}

/-! ### t[a:b], not the whole -/
/-- a slice's bound as a place among n (d where it is left out) -/
def sIx (n d : Nat) : Option Int → Nat
  | none => d
  | some v => if v < 0 then (v + (n : Int)).toNat else min v.toNat n
end
end HT

namespace L2
open PySem PySem.Spec PyProof.Rows

/-! ### the parts of a slice -/
abbrev TO := St → Hp → (Option Int → Hp → Prop) → Prop
section
variable {X : Cx} {e : Expr} {te : TE} {lo hi : Option Expr} {tl th : TO} {pos p2 : Pos}

/-- what a slice of a value is, by values: the slice object stands at sl -/
def SlR (X : Cx) (r : V → Option Int → Option Int → Hp → VK → Prop) : Prop :=
  ∀ (pins : List (Addr × Obj)) (s : Shared) (σ : St) (H : Hp) (x : V) (v vl vu : Value) (lo hi : Option Int) (sl : Addr) (Q : VK), Inv X pins σ H s → RelV x v → s.heap.IsSliceOf sl vl vu .none → IsPart vl lo → IsPart vu hi → r x lo hi H Q →
    ∃ T id, typeLookup (.type T) "__getitem__" = pure (some (.builtin id)) ∧ s.TypeIs v T ∧ wpAny (model X.prog X.w) X.A (getItem v (.ref sl)) (EP X pins σ Q) X.xe s
theorem SlR.or {r r' : V → Option Int → Option Int → Hp → VK → Prop} (h : SlR X r) (h' : SlR X r') : SlR X (fun x lo hi H Q => r x lo hi H Q ∨ r' x lo hi H Q) := by
  intro pins s σ H x v vl vu lo hi sl Q I rx hs pl pu q
  rcases q with q | q
  · exact h pins s σ H x v vl vu lo hi sl Q I rx hs pl pu q
  · exact h' pins s σ H x v vl vu lo hi sl Q I rx hs pl pu q
/-- the items of xs[lo:hi] -/
def cutV (xs : List V) (lo hi : Option Int) : List V := (xs.drop (HT.sIx xs.length 0 lo)).take (HT.sIx xs.length xs.length hi - HT.sIx xs.length 0 lo)
theorem cutV_length (xs : List V) (lo hi : Option Int) : (cutV xs lo hi).length ≤ xs.length := by
  unfold cutV
  rw [List.length_take, List.length_drop]
  omega
/-! ### t < u, t + u -/
end
end L2

namespace L2
open PySem PySem.Spec PyProof.Rows

/-! ### places -/
/-- the place that an index of any sign means -/
def ixN (n : Nat) (i : Int) : Option Nat := if 0 ≤ i then (if i < n then some i.toNat else none) else if -(n : Int) ≤ i then some (i + n).toNat else none
def atI {α : Type} (xs : List α) (i : Int) : Option α := (ixN xs.length i).bind fun j => xs[j]?
theorem ixN_seq {n : Nat} {i : Int} {j : Nat} (h : ixN n i = some j) : seqIndex? i n = some j ∧ j < n ∧ -(n : Int) ≤ i ∧ i < n := by
  unfold ixN at h
  by_cases h0 : 0 ≤ i
  · rw [if_pos h0] at h
    by_cases h1 : i < n
    · rw [if_pos h1] at h
      have e : i.toNat = j := Option.some.inj h
      exact ⟨by rw [seqIndex_of h0 h1, e], by omega, by omega, h1⟩
    · rw [if_neg h1] at h; cases h
  · rw [if_neg h0] at h
    by_cases h1 : -(n : Int) ≤ i
    · rw [if_pos h1] at h
      have e : (i + n).toNat = j := Option.some.inj h
      exact ⟨by rw [seqIndex_neg (by omega) h1, e], by omega, h1, by omega⟩
    · rw [if_neg h1] at h; cases h
theorem atI_get {α : Type} {xs : List α} {i : Int} {v : α} (h : atI xs i = some v) : ∃ j, seqIndex? i xs.length = some j ∧ xs[j]? = some v ∧ j < xs.length ∧ -(xs.length : Int) ≤ i ∧ i < xs.length := by
  unfold atI at h
  cases e : ixN xs.length i with
  | none => rw [e] at h; cases h
  | some j =>
    rw [e] at h
    obtain ⟨h1, h2, h3, h4⟩ := ixN_seq e
    exact ⟨j, h1, h, h2, h3, h4⟩
theorem atI_nat {α : Type} {xs : List α} {j : Nat} {v : α} (h : xs[j]? = some v) : atI xs (j : Int) = some v := by
  have hj : j < xs.length := (List.getElem?_eq_some_iff.mp h).1
  have e : ixN xs.length (j : Int) = some j := by
    unfold ixN
    rw [if_pos (by omega), if_pos (by omega)]; simp
  unfold atI; rw [e]; exact h
/-! ### what may be subscripted -/
/-- what stands as an index of a plain subscript -/
def PlainIx (b : Expr) : Prop := ∀ o i, subscripted b false o i = operate [o, i] (getItem o i)
/-- a subscript by values -/
def IxR (X : Cx) (r : R2) : Prop :=
  ∀ (value slice : Expr) (pins : List (Addr × Obj)) (s : Shared) (σ : St) (H : Hp) (x y : V) (v u : Value) (Q : VK), Inv X pins σ H s → RelV x v → RelV y u → r x y H Q →
    subscripted slice false v u = operate [v, u] (getItem v u) → wpAny (model X.prog X.w) X.A (subscriptTail value slice v u) (EP X pins σ Q) X.xe s
/-- a call of a builtin's method by values: the receiver, the arguments -/
def MtR (X : Cx) (id : String) (r : V → List V → Hp → VK → Prop) : Prop :=
  ∀ (pins : List (Addr × Obj)) (s : Shared) (σ : St) (H : Hp) (x : V) (xs : List V) (v : Value) (us : List Value) (Q : VK), Inv X pins σ H s → RelV x v → Vals xs us → r x xs H Q →
    wpAny (model X.prog X.w) X.A (call (.builtin id) (v :: us)) (EP X pins σ Q) X.xe s
section
variable {X : Cx} {a b : Expr} {ta tb : TE} {pos : Pos}
/-- a[b] -/
theorem pe_ix {r : R2} (hr : IxR X r) (ha : PE X a ta) (hb : PE X b tb) (hs : PlainIx b) : PE X (.Subscript a b pos) (tOp r ta tb) := by
  intro pins s σ H Q I h
  exact Subscript_ (binT ha hb I h fun v u s2 x y H2 I2 rx ry q => hr a b pins s2 σ H2 x y v u Q I2 rx ry q (hs _ _))

def rIxL (K : PySem.W.Frag) : R2 := fun x y H Q => ∃ p xs i v, x = .ref p ∧ y = .int i ∧ SqL K H p xs ∧ atI xs i = some v ∧ Q v H
def rIxT (K : PySem.W.Frag) : R2 := fun x y H Q => ∃ p xs i v, x = .ref p ∧ y = .int i ∧ SqT K H p xs ∧ atI xs i = some v ∧ Q v H
theorem ix_list : IxR X (rIxL X.K) := by
  intro value slice pins s σ H x y v u Q I rx ry h hs
  obtain ⟨p, xs, i, z, rfl, rfl, hq, he, q⟩ := h
  cases rx
  obtain ⟨t, rfl⟩ := ry
  obtain ⟨its, r, pl, hz⟩ := I.list hq
  obtain ⟨j, h1, h2, h3, h4, h5⟩ := atI_get he
  obtain ⟨w, ew, rw'⟩ := r.get h2
  have hl := r.length
  have hn := line63
  have fin : EP X pins σ Q w s := ⟨z, H, I, rw', q⟩
  by_cases h0 : 0 ≤ i
  · have hj : i.toNat = j := by
      rw [seqIndex_of h0 h5] at h1
      exact Option.some.inj h1
    exact item_listR pl.isList h0 (by omega) (by rw [hj]; simpa using ew) fin hs
  · have hj : (i + (its.toArray.size : Int)).toNat = j := by
      rw [seqIndex_neg (by omega) h4] at h1
      rw [List.size_toArray, ← hl]
      exact Option.some.inj h1
    exact subscriptTail_builtinR (x := w) pl.isList.typeIs slot_list_getitem.lookup
      (wpAny_getItem_list_neg (Q := fun r s' => r = w ∧ EP X pins σ Q r s') pl.isList (by omega) (by rw [List.size_toArray] <;> omega) (by omega) (by rw [hj]; simpa using ew) ⟨rfl, fin⟩) hs
theorem ix_tup : IxR X (rIxT X.K) := by
  intro value slice pins s σ H x y v u Q I rx ry h hs
  obtain ⟨p, xs, i, z, rfl, rfl, hq, he, q⟩ := h
  cases rx
  obtain ⟨t, rfl⟩ := ry
  obtain ⟨its, r, pl, hz⟩ := I.tuple hq
  obtain ⟨j, h1, h2, h3, h4, h5⟩ := atI_get he
  obtain ⟨w, ew, rw'⟩ := r.get h2
  have hl := r.length
  have hn := line63
  have fin : EP X pins σ Q w s := ⟨z, H, I, rw', q⟩
  exact subscriptTail_builtinR (x := w) pl.typeIs slot_tuple_getitem.lookup
    (getItem_tuple (j := j) (Q := fun r s' => r = w ∧ EP X pins σ Q r s') pl (by omega) (by omega) (by rw [List.size_toArray, ← hl]; exact h1) (by simpa using ew) ⟨rfl, fin⟩) hs
/-! ### xs[i] = v, any sign -/
/-! ### slices -/
theorem slice_bounds (lo hi : Option Int) (n : Nat) : (sliceBounds lo hi none n).1 = ((HT.sIx n 0 lo : Nat) : Int) ∧ (sliceBounds lo hi none n).2.1 = ((HT.sIx n n hi : Nat) : Int) ∧ (sliceBounds lo hi none n).2.2 = 1 := by
  refine ⟨?_, ?_, rfl⟩
  · cases lo with
    | none => simp [sliceBounds, HT.sIx]
    | some i =>
      simp only [sliceBounds, HT.sIx, Option.getD_none, show (1 : Int) > 0 by decide, if_true]
      by_cases h : i < 0
      · simp only [h, if_true] <;> omega
      · simp only [h, if_false] <;> omega
  · cases hi with
    | none => simp [sliceBounds, HT.sIx]
    | some i =>
      simp only [sliceBounds, HT.sIx, Option.getD_none, show (1 : Int) > 0 by decide, if_true]
      by_cases h : i < 0
      · simp only [h, if_true] <;> omega
      · simp only [h, if_false] <;> omega
theorem slicePick_cut (its : List Value) (lo hi : Option Int) : slicePick its.toArray lo hi none = ((its.drop (HT.sIx its.length 0 lo)).take (HT.sIx its.length its.length hi - HT.sIx its.length 0 lo)).toArray := by
  obtain ⟨h1, h2, h3⟩ := slice_bounds lo hi its.toArray.size
  unfold slicePick
  rw [h1, h2, h3]
  simp only [sliceRange_one, pick_run, List.size_toArray] <;> rfl
/-- xs[lo:hi] of a list: a new list -/
def rSlL (K : PySem.W.Frag) : V → Option Int → Option Int → Hp → VK → Prop := fun x lo hi H Q => ∃ a xs, x = .ref a ∧ SqL K H a xs ∧ ∀ p, H p = none → Q (.ref p) (upd H p (.lst (cutV xs lo hi)))
theorem sl_list : SlR X (rSlL X.K) := by
  intro pins s σ H x v vl vu lo hi sl Q I rx hs pl pu h
  obtain ⟨a, xs, rfl, hx, q⟩ := h
  cases rx
  obtain ⟨its, r, ht, hz⟩ := I.list hx
  have hlen := r.length
  refine ⟨"list", _, slot_list_getitem.lookup, ht.isList.typeIs, ?_⟩
  refine wpAny_getItem_list_slice ht.isList hs pl pu .none (by simp) ?_ (by rw [List.size_toArray] <;> omega)
  rw [slicePick_cut, ← hlen]
  refine ⟨.ref s.heap.objs.size, _, I.laid (t' := s.toks) (o := .lst (cutV xs lo hi)) (fun b ob q => Heap.get?_push_of_some _ q) (Nat.le_refl _) ?_, rfl, q _ (I.hok.fresh (Nat.le_refl _))⟩
  exact ⟨Nat.le_trans (cutV_length xs lo hi) hz, _, 0, (r.drop (HT.sIx xs.length 0 lo)).take (HT.sIx xs.length xs.length hi - HT.sIx xs.length 0 lo), Heap.get?_push_size _ rfl⟩

/-! ### in, not in: flat items -/
/-! ### len, list(x), tuple(x) of any list or tuple that is read -/
theorem call_list_of : CallR X (.type "list") (fun xs H Q => ∃ p ys, xs = [.ref p] ∧ (SqL X.K H p ys ∨ SqT X.K H p ys) ∧ ∀ l, H l = none → Q (.ref l) (upd H l (.lst ys))) := by
  intro pins s σ H xs us Q I r h
  obtain ⟨p, ys, rfl, hq, q⟩ := h
  obtain ⟨u, rfl, rx⟩ := vals1 r
  cases rx
  have fin : ∀ (its : List Value), Vals ys its → ys.length ≤ sizeLine → ∀ (h' : Heap) (c' : Nat), (∀ b o', s.heap.get? b = some o' → h'.get? b = some o') →
      h'.get? s.heap.objs.size = some { cls := .type "list", dict := none, data := .seq its.toArray c', slots := #[] } → EP X pins σ Q (.ref s.heap.objs.size) { s with heap := h' } := fun its r' hz h' c' kp e =>
    ⟨.ref s.heap.objs.size, _, I.laid (t' := s.toks) kp (Nat.le_refl _) (show ObjOk X.prog X.w _ h' _ (.lst ys) from ⟨hz, its, c', r', e⟩), rfl, q _ (I.hok.fresh (Nat.le_refl _))⟩
  rcases hq with hq | hq
  · obtain ⟨its, r', pl, hz⟩ := I.list hq
    have hlen := r'.length
    obtain ⟨o, ho, hc, n, hd⟩ := pl.isList
    exact call_list_seq p (.inl rfl) ho hc hd (fun h' c' kp e => fin its r' hz h' c' kp e) (by simp only [List.size_toArray] <;> omega)
  · obtain ⟨its, r', pl, hz⟩ := I.tuple hq
    have hlen := r'.length
    obtain ⟨o, ho, hc, n, hd⟩ := pl
    exact call_list_seq p (.inr rfl) ho hc hd (fun h' c' kp e => fin its r' hz h' c' kp e) (by simp only [List.size_toArray] <;> omega)
/-! ### the call of a builtin's method: o.m(..) -/
/-- the value is of that builtin type -/
def tyV (K : PySem.W.Frag) (T : String) (x : V) (H : Hp) : Prop := match x with
  | .str _ => T = "str"
  | .int _ => T = "int"
  | .ref p => (T = "list" ∧ ∃ xs, SqL K H p xs) ∨ (T = "tuple" ∧ ∃ o, K.lookup p = some o ∧ o.cls = .type "tuple" ∧ o.dict = none) ∨
      (T = "dict" ∧ ((∃ kvs, H p = some (.dK kvs)) ∨ ∃ kvs, H p = some (.dT kvs))) ∨ (T = "set" ∧ ∃ S n, H p = some (.set S n))
  | _ => False
theorem tyV_is {pins : List (Addr × Obj)} {σ : St} {H : Hp} {s : Shared} {T : String} {x : V} {v : Value} (I : Inv X pins σ H s) (r : RelV x v) (ty : tyV X.K T x H) :
    s.TypeIs v T ∧ ∀ a, v = .ref a → ∃ ob, s.heap.get? a = some ob ∧ ob.dict = none := by
  cases x with
  | str z =>
    obtain ⟨t, rfl⟩ := r
    cases (show T = "str" from ty)
    exact ⟨typeIs_str s z t, fun _ e => nomatch e⟩
  | int i =>
    obtain ⟨t, rfl⟩ := r
    cases (show T = "int" from ty)
    exact ⟨typeIs_int s i t, fun _ e => nomatch e⟩
  | ref p =>
    cases r
    rcases ty with ⟨rfl, xs, hq⟩ | ⟨rfl, o, hk, hc, hd⟩ | ⟨rfl, hk⟩ | ⟨rfl, S, n, hk⟩
    · obtain ⟨its, _, pl, _⟩ := I.list hq
      refine ⟨pl.isList.typeIs, fun a e => ?_⟩
      cases e
      obtain ⟨o, n, e, c, hd, _⟩ := pl
      exact ⟨o, e, hd⟩
    · refine ⟨⟨o, I.kIn p o hk, hc⟩, fun a e => ?_⟩
      cases e
      exact ⟨o, I.kIn _ o hk, hd⟩
    · have z : ∃ o, s.heap.get? p = some o ∧ o.ExactDict := by
        rcases hk with ⟨kvs, hk⟩ | ⟨kvs, hk⟩
        · obtain ⟨_, _, _, _, o, _, _, e, ex, _⟩ := I.hok p _ hk
          exact ⟨o, e, ex⟩
        · obtain ⟨_, _, _, _, o, _, _, e, ex, _⟩ := I.hok p _ hk
          exact ⟨o, e, ex⟩
      obtain ⟨o, e, ex⟩ := z
      refine ⟨⟨o, e, ex.1⟩, fun a e2 => ?_⟩
      cases e2
      exact ⟨o, e, ex.2.1⟩
    · obtain ⟨o, _, _, _, e, ex, _⟩ := I.hok p _ hk
      refine ⟨⟨o, e, ex.1⟩, fun a e2 => ?_⟩
      cases e2
      exact ⟨o, e, ex.2.1⟩
  | _ => exact False.elim ty
def tBM (K : PySem.W.Frag) (T : String) (r : V → List V → Hp → VK → Prop) (to : TE) (t : TA) : TE := fun σ H Q => to σ H fun x H1 => tyV K T x H1 ∧ t σ H1 fun xs H2 => r x xs H2 Q
variable {o e : Expr} {es : List Expr} {to : TE} {t : TA} {name : Str} {apos cpos : Pos} {T id : String} {r : V → List V → Hp → VK → Prop}
theorem pe_bm (pa : PlainAttrs T) (slot : Slot T name id) (hty : typeOf (.builtin id) = pure (.type "method_descriptor")) (hm : MtR X id r) (ho : PE X o to) (ha : PA X (e :: es) t)
    (hbase : attributeBase o name X.env (eval o X.env) = eval o X.env := by rfl)
    (hfew : ((backTo cpos (starEach (e :: es) X.env)).all (fun x => !x.1) && (backToKw cpos (keywordEach [] X.env)).all (fun x => x.1.isSome)
      && decide ((e :: es).length + ([] : List Keyword).length + (if ([] : List Keyword).isEmpty then 0 else 1) < 30)) = true := by rfl)
    (hline : (apos.endLine == cpos.line) = true := by rfl) (hs : starEach (e :: es) X.env = (false, eval e X.env) :: starEach es X.env := by rfl) (hplain : (backTo cpos (starEach es X.env)).any (·.1) = false := by rfl) :
    PE X (.Call (.Attribute o name apos) (e :: es) [] cpos) (tBM X.K T r to t) := by
  intro pins s σ H Q I h
  refine wpAny_Call_method_late hbase hfew hline rfl (thn (ho pins s σ H _ I h) fun v s1 ⟨x, H1, I1, r1, ty, q1⟩ => ?_)
  obtain ⟨h1, h2⟩ := tyV_is I1 r1 ty
  refine ⟨T, id, pa, slot, hty, h1, h2, ?_⟩
  have hA := ha cpos pins s1 σ H1 _ I1 q1
  rw [hs] at hA ⊢
  refine Calls.callWith_builtin (by show (false || (backTo cpos (starEach es X.env)).any (·.1)) = false; rw [hplain] <;> rfl) (Calls.evalArgs_plain ?_)
  exact thn hA fun us s2 ⟨vs, H2, I2, r2, q2⟩ => hm pins s2 σ H2 x vs v us Q I2 r1 r2 q2
/- xs.append(e), list.index on a module's tuple .. are MtR facts of 06m -/
end
end L2

namespace L2
open PySem PySem.Spec PyProof.Rows

def MtM (X : Cx) (id : String) (r : V → List V → Hp → VK → Prop) : Prop :=
  ∀ (pins : List (Addr × Obj)) (s : Shared) (σ : St) (H : Hp) (x : V) (xs : List V) (v : Value) (us : List Value) (Q : VK), Inv X pins σ H s → RelV x v → Vals xs us → r x xs H Q →
    wpAny (model X.prog X.w) X.A (call (.builtin id) (v :: us)) (EP X pins σ Q) X.xe s

/-! ### lists of values -/
theorem Vals.one : ∀ {x : V} {us : List Value}, Vals [x] us → ∃ u, us = [u] ∧ RelV x u
  | _, _, .cons r .nil => ⟨_, rfl, r⟩
theorem Vals.two : ∀ {x y : V} {us : List Value}, Vals [x, y] us → ∃ u v, us = [u, v] ∧ RelV x u ∧ RelV y v
  | _, _, _, .cons r (.cons q .nil) => ⟨_, _, rfl, r, q⟩
section
variable {X : Cx} {pins : List (Addr × Obj)} {σ : St} {H : Hp} {s : Shared} {l b : Addr} {xs ys zs : List V}

/-! ### the two steps: a tracked list is rewritten, a new list is laid -/
theorem Inv.lset {its its' : List Value} {n : Nat} {f : Array Value → Array Value} {t' : Nat} (I : Inv X pins σ H s) (hH : H l = some (.lst xs))
    (e : s.heap.get? l = some { cls := .type "list", data := .seq its.toArray n }) (hf : f its.toArray = its'.toArray) (hv : Vals ys its') (hz : ys.length ≤ sizeLine) :
    Inv X pins σ (upd H l (.lst ys)) { s with heap := s.heap.update l (Obj.mapSeq f), toks := t' } := by
  have q := PySem.IsL.update e f
  rw [hf] at q
  refine I.write (x := l) (e := l) (by rw [hH]; exact trivial) (.inl rfl) (fun b' u hb hu => (Heap.get?_update_other s.heap (Obj.mapSeq f) (Ne.symm hb)).trans hu) ⟨_, q⟩ ?_
  exact ⟨hz, its', _, hv, q⟩
theorem Inv.lnew {its : List Value} {t' : Nat} (I : Inv X pins σ H s) (hv : Vals ys its) (hz : ys.length ≤ sizeLine) :
    Inv X pins σ (upd H s.heap.objs.size (.lst ys)) { s with heap := s.heap.push { cls := .type "list", data := .seq its.toArray }, toks := t' } :=
  I.laid (fun _ _ q => Heap.get?_push_of_some _ q) (Nat.le_refl _) ⟨hz, its, 0, hv, Heap.get?_push_size _ rfl⟩
theorem Inv.fresh (I : Inv X pins σ H s) : H s.heap.objs.size = none := I.hok.fresh (Nat.le_refl _)
theorem Inv.lstM (I : Inv X pins σ H s) (hH : H l = some (.lst xs)) : xs.length ≤ sizeLine ∧ ∃ (its : List Value) (n : Nat), Vals xs its ∧ xs.length = its.length ∧ s.heap.get? l = some { cls := .type "list", data := .seq its.toArray n } := by
  obtain ⟨z, its, n, r, e⟩ := I.hok l _ hH
  exact ⟨z, its, n, r, r.length, e⟩

theorem notLongL {n : Nat} (h : n ≤ sizeLine) : Builtin.List.listTooLong n = false := by
  unfold Builtin.List.listTooLong
  exact decide_eq_false (by omega)
end

section
variable {X : Cx}

/-! ### methods -/
def rAppend : V → List V → Hp → VK → Prop := fun x vs H Q => ∃ l xs y, x = .ref l ∧ vs = [y] ∧ H l = some (.lst xs) ∧ xs.length < sizeLine ∧ Q .non (upd H l (.lst (xs ++ [y])))
theorem mt_append : MtM X "list.append" rAppend := by
  intro pins s σ H x vs v us Q I rx rv h
  obtain ⟨l, xs, y, rfl, rfl, hH, hz, q⟩ := h
  cases rx
  obtain ⟨u, rfl, ru⟩ := rv.one
  obtain ⟨z, its, n, r, hl, e⟩ := I.lstM hH
  refine call_meets F.slot_list_append ⟨_, e, rfl⟩ F.entry_list_append (F.args_list_append_2 _ _) (PySem.list_append l its.toArray n u (by rw [List.size_toArray]; omega)) ⟨e, ?_⟩
  refine ⟨.non, _, I.lset (its' := its ++ [u]) hH e (by simp) (r.append (.cons ru .nil)) ?_, rfl, q⟩
  rw [List.length_append, List.length_singleton]
  omega

def rExtend : V → List V → Hp → VK → Prop := fun x vs H Q => ∃ l b xs zs, x = .ref l ∧ vs = [.ref b] ∧ H l = some (.lst xs) ∧ H b = some (.lst zs) ∧ xs.length + zs.length ≤ sizeLine ∧ Q .non (upd H l (.lst (xs ++ zs)))
theorem mt_extend : MtM X "list.extend" rExtend := by
  intro pins s σ H x vs v us Q I rx rv h
  obtain ⟨l, b, xs, zs, rfl, rfl, hH, hB, hz, q⟩ := h
  cases rx
  obtain ⟨u, rfl, ru⟩ := rv.one
  cases ru
  obtain ⟨z, its, n, r, hl, e⟩ := I.lstM hH
  obtain ⟨z2, its2, n2, r2, hl2, e2⟩ := I.lstM hB
  have hsz : its.toArray.size + its2.toArray.size ≤ sizeLine := by rw [List.size_toArray, List.size_toArray]; omega
  have hlong : ¬ (!its.toArray.isEmpty && Builtin.List.listTooLong (its.toArray.size + its2.toArray.size)) = true := by
    rw [notLongL hsz, Bool.and_false]
    exact Bool.false_ne_true
  refine call_meets F.slot_list_extend ⟨_, e, rfl⟩ F.entry_list_extend (F.args_list_extend_2 _ _)
    (AutoSeq1.list_extend_list_list_0 l its.toArray n b its2.toArray n2 hlong (by rw [List.size_toArray]; omega) (by omega)) ⟨e, e2, ?_⟩
  refine ⟨.non, _, I.lset (its' := its ++ its2) hH e (by simp) (r.append r2) ?_, rfl, q⟩
  rw [List.length_append]
  omega

/-! ### list + list, list += list, list * int -/
def rCat : R2 := fun x y H Q => ∃ l b xs zs, x = .ref l ∧ y = .ref b ∧ H l = some (.lst xs) ∧ H b = some (.lst zs) ∧ xs.length + zs.length ≤ sizeLine ∧ ∀ p, H p = none → Q (.ref p) (upd H p (.lst (xs ++ zs)))
theorem op_cat : OpR X (binaryOp .Add) rCat := by
  intro pins s σ H x y v u Q I rx ry h
  obtain ⟨l, b, xs, zs, rfl, rfl, hH, hB, hz, q⟩ := h
  cases rx
  cases ry
  obtain ⟨z, its, n, r, hl, e⟩ := I.lstM hH
  obtain ⟨z2, its2, n2, r2, hl2, e2⟩ := I.lstM hB
  refine PySem.P.add_list e e2 ?_ (by rw [List.size_toArray, List.size_toArray]; omega)
  have ea : its.toArray ++ its2.toArray = (its ++ its2).toArray := by simp
  rw [ea]
  exact ⟨.ref _, _, I.lnew (t' := s.toks) (r.append r2) (by rw [List.length_append]; omega), rfl, q _ I.fresh⟩
/-! ### del xs[i] -/
end

/-! ### xs[a:b] = ys -/
section
variable {prog : Program} {w : World} {A : Around} {E : Value → Shared → Prop} {s : Shared}
set_option maxRecDepth 100000 in
end

section
variable {X : Cx}
end
end L2

namespace L2
open PySem PySem.Spec PyProof.Rows

/-! ### lists of pairs as tables -/
section
variable {κ : Type} [DecidableEq κ]
end

/-! ### a tracked dict, its keys ints and texts or tuples of these -/
section
variable {P : Program} {w : World} {H : Hp} {h : Heap} {a : Addr}
end

section
variable {X : Cx} {pins : List (Addr × Obj)} {σ : St} {H : Hp} {s : Shared} {a : Addr} {y v : V} {u r : Value} {o : Option V} {A : Around} {E : Value → Shared → Prop}

end

section
variable {X : Cx} {pins : List (Addr × Obj)} {σ : St} {H : Hp} {s : Shared} {a : Addr} {kvs : List (Key × V)} {k : Key} {u : Value} {A : Around} {E : Value → Shared → Prop}
end

/-! ### readings and rules -/
section
variable {X : Cx} {o i e value : Expr} {pos pos' tpos : Pos} {td ty tv : TE}
end

/-! ### displays -/
section
variable {X : Cx} {pos : Pos}
end

/-! ### methods -/
/-- a method call o.m(e) of a built-in, with one argument: what must be seen of the text -/
structure M1 (X : Cx) (o : Expr) (m : Str) (apos : Pos) (e : Expr) (cpos : Pos) : Prop where
  base : attributeBase o m X.env (eval o X.env) = eval o X.env
  few : ((backTo cpos (starEach [e] X.env)).all (fun x => !x.1) && (backToKw cpos (keywordEach [] X.env)).all (fun x => x.1.isSome)
    && decide (([e] : List Expr).length + ([] : List Keyword).length + (if ([] : List Keyword).isEmpty then 0 else 1) < 30)) = true
  line : (apos.endLine == cpos.line) = true
  trees : backTo cpos (starEach [e] X.env) = [(false, eval e X.env)]
structure M2 (X : Cx) (o : Expr) (m : Str) (apos : Pos) (e f : Expr) (cpos : Pos) : Prop where
  base : attributeBase o m X.env (eval o X.env) = eval o X.env
  few : ((backTo cpos (starEach [e, f] X.env)).all (fun x => !x.1) && (backToKw cpos (keywordEach [] X.env)).all (fun x => x.1.isSome)
    && decide (([e, f] : List Expr).length + ([] : List Keyword).length + (if ([] : List Keyword).isEmpty then 0 else 1) < 30)) = true
  line : (apos.endLine == cpos.line) = true
  trees : backTo cpos (starEach [e, f] X.env) = [(false, eval e X.env), (false, eval f X.env)]

section
variable {X : Cx} {pins : List (Addr × Obj)} {σ : St} {H : Hp} {s : Shared} {a : Addr} {y d : V} {u r : Value} {o : Option V} {A : Around} {E : Value → Shared → Prop}
end

section
variable {X : Cx} {o e f : Expr} {apos cpos : Pos} {td ty tx : TE}
end

/-! ### dict(d): a copy -/
section
variable {X : Cx} {pins : List (Addr × Obj)} {σ : St} {H : Hp} {s : Shared} {a : Addr} {kvs : List (Key × V)} {A : Around} {E : Value → Shared → Prop}
end

section
variable {X : Cx} {pins : List (Addr × Obj)} {σ : St} {H : Hp} {s : Shared} {a : Addr} {y : V} {u : Value} {A : Around} {E : Value → Shared → Prop}
end
end L2

namespace Att
open PySem PySem.W PySem.Calls PyProof.Rows

/-! ### the script -/
theorem ints_of_wellAll {P : Params} {h : Heap} : ∀ (ns : List Int) (vs : List Value), WellAll P h vs (ns.map WData.int) → IntsAre vs ns := by
  intro ns
  induction ns with
  | nil =>
    intro vs w
    rw [List.map_nil] at w
    cases w
    exact .nil
  | cons n ns ih =>
    intro vs w
    rw [List.map_cons] at w
    cases w with
    | cons a b =>
      cases a
      exact .cons _ _ (ih _ b)

theorem script_of {l : OpenLaw} {n : Nat} (hn : l.most = some n) {P : Params} {h : Heap} {args : List WData} {vals : List Value}
    (hpre : l.row.toRowW.claim.pre args = true) (hwl : WellAll P h vals args) :
    ∃ a vs ns, vals = [Value.ref a] ∧ args = [WData.list (ns.map WData.int)] ∧ h.get? a = some { cls := .type "list", data := .seq vs.toArray } ∧ IntsAre vs ns ∧ ns.length ≤ n := by
  have hsh : WShape.hasAll [] args [.list .int] = true := (pre_splitW hpre).1
  have hc : l.pre.holds [] { args := args } = true := (pre_splitW hpre).2
  obtain ⟨d, r, rfl, h1, h2⟩ := hasAllW_cons hsh
  obtain rfl := hasAllW_nil h2
  obtain ⟨xs, rfl, h3⟩ := hasW_list h1
  obtain ⟨ns, rfl⟩ := items_int h3
  have hlen : ns.length ≤ n := by
    unfold OpenLaw.pre at hc
    have h4 : (WTm.not (.lt (.lit (.int (n : Int))) (.len (.arg 0)))).holds [] { args := [.list (ns.map .int)] } = true := by
      have h4 := (holds_andW hc).1
      rw [hn] at h4
      exact h4
    have h5 := condW_of h4 (w_not (w_lt w_lit (w_len_list (w_arg rfl))))
    rw [List.length_map] at h5
    refine Nat.le_of_not_lt fun q => ?_
    have q' : (n : Int) < ((ns.length : Nat) : Int) := by omega
    first
      | (rw [decide_eq_true q'] at h5; exact absurd h5 (by decide))
      | (simp at h5; omega)
  cases hwl with
  | cons w1 w2 =>
    cases w2
    cases w1 with
    | list ho hall => exact ⟨_, _, ns, rfl, rfl, ho, ints_of_wellAll ns _ hall, hlen⟩

theorem post_true (l : OpenLaw) (args : List WData) : l.row.toRowW.claim.post args (.bool true) args = true :=
  postW_of (r := l.row.toRowW) (X := (true == true))
    (show WShape.has [] (.bool true) .bool = true by first | rfl | decide | simp [WShape.has, WShape.arms, WShape.armsAll])
    (show (WTm.eq .res (.lit (.bool true))).value [] { args := args, res := some (.bool true), after := args } = some (.bool (true == true)) from w_eq_bool (w_res rfl) w_lit) rfl

/-! ### the attachment: holds_open's last premise (the goal 'hc' behind k_head) from a wpAny of the law's body -/
/-- the same from a codeAny of the CALL (for a layer whose function contracts speak of calls) -/
theorem attach_call {l : OpenLaw} {n : Nat} {q : Program} {loose : List Str} {XP : (Str → Option Value) → Heap → Prop} {YP : World → Heap → Prop} {d : DefRec}
    (hn : l.most = some n) (hdf : d.params.defaults = [])
    (call : ∀ (w : World) (s₀ s₁ : Shared) (mg mb : Str → Option Value) (fa : Addr) (o : Obj) (pm cd doc : Value) (a : Addr) (vs : List Value) (ns : List Int),
      Ground q loose [] XP w s₀ mg mb s₁.heap → YP w s₁.heap →
      s₁.heap.get? fa = some o → o.data = .func (docDef d.name d.params d.body d.scope pm cd doc) → s₁.heap.CodeRec cd d.name → mg d.name = some (.ref fa) →
      s₁.heap.get? a = some { cls := .type "list", data := .seq vs.toArray } → IntsAre vs ns → ns.length ≤ n → s₁.gens = #[] →
      codeAny (model l.prog w) callerA (.call (.ref fa) ⟨[.ref a], []⟩) (fun r s' => r = .ok (.ret (.bool true)) ∧ OldK s₁.heap s'.heap ∧ s'.os = s₁.os ∧ AllBare s'.gens) s₁) :
    WalkO q loose XP YP l.row.toRowW d [] (fun f vs => PySem.call f vs) := by
  intro w s₀ s₁ mg mb G Y fa o pm cd doc dV kV ho hd hcd hD hmg hg args vals as hpre hlay hrd hwl hlo
  obtain rfl : dV = .none := Dflts.none hD hdf
  obtain rfl : kV = .none := Dflts.noKw hD
  obtain ⟨a, vs, ns, rfl, rfl, hobj, hints, hlen⟩ := script_of hn hpre hwl
  refine enter_call (codeAny_mono (call w s₀ s₁ mg mb fa o pm cd doc a vs ns G Y ho (fd_plain hd) hcd hmg hobj hints hlen hg) fun r s' hq => ?_)
  obtain ⟨rfl, h2, h3, h4⟩ := hq
  exact ⟨.inl ⟨.bool true, .bool true, [], rfl, fun _ => rfl, .bool true, post_true l _, fun _ => ⟨List.Pairwise.nil, fun _ hm => (nomatch hm)⟩⟩, h2, h3, h4⟩

/-! ### rules over ANY heap (no ledger) from facts about the written part K: the library's own take a ledger (News) for what they write -/
section
variable {prog : Program} {w : World} {A : Around} {E : Value → Shared → Prop} {s : Shared} {K : Frag}

/-! the whole heap as the ledger: makes every rule that writes through a ledger a rule over any heap -/
def ledger (h : Heap) (L d : Addr) : List (Addr × Obj) := (List.range h.objs.size).filterMap fun a => if a = L ∨ a = d then none else (h.get? a).map fun o => (a, o)
end
end Att

namespace L2
open PySem PySem.Spec PyProof.Rows

theorem vals_ints : ∀ {vs : List Value} {ns : List Int}, IntsAre vs ns → Vals (ns.map V.int) vs
  | _, _, .nil => .nil
  | _, _, .cons n t h => .cons ⟨t, rfl⟩ (vals_ints h)

end L2

namespace L2
open PySem PySem.Spec PyProof.Rows

end L2

/-! SHORT WORDS over the layer: a def of the text, its body, what a loop and a test want. -/
namespace L2
open PySem PySem.Spec PyProof.Rows

/-! ### the text by places -/
def defArgs (s : Stmt) : Arguments := match s with
  | .FunctionDef _ a _ _ _ _ _ _ _ _ => a
  | _ => { posonlyargs := [], args := [], vararg := none, kwonlyargs := [], kw_defaults := [], kwarg := none, defaults := [] }
def defBody (s : Stmt) : List Stmt := match s with
  | .FunctionDef _ _ b _ _ _ _ _ _ _ => b
  | _ => []
def defScope (s : Stmt) : Scope := match s with
  | .FunctionDef _ _ _ _ _ _ sc _ _ _ => sc
  | _ => { kind := .function, names := [], isGenerator := false, isCoroutine := false }

/-! ### no exception leaves a def -/
abbrev CX0 : CXT := fun _ _ _ _ _ _ => False
abbrev E0 : XK := fun _ _ _ => False
theorem pass0 {X : Cx} : Passes CX0 X E0 := fun _ _ _ _ _ _ _ h => h.elim

/-! ### a def (or method) of the text as it stands behind the top -/
structure Fun (K : PySem.W.Frag) (x qual : Str) (st : Stmt) (f : Addr) (fd : FuncData) : Prop where
  ex : ∃ (oc : Value) (od : Option Addr) (kV doc pm : Value) (an : Option Addr) (cdv ct : Value) (osl : Array (Option Value)),
    fd = PySem.W.fnOf x qual (defArgs st) (defBody st) (defScope st) .none kV doc pm an cdv ct ∧ K.lookup f = some ⟨oc, od, .func fd, osl⟩ ∧ PySem.W.codeIn K cdv qual = true
  kp : PySem.W.keepIn K (.ref f) = true
section
variable {P : Program} {w : World} {K : PySem.W.Frag} {mg : Str → Option Value} {base : Heap}
/-- THE RULE for a def: its body as a term of rules, and the reading of that term -/
theorem Fun.ok {x qual : Str} {st : Stmt} {f : Addr} {fd : FuncData} {N ps : List Str} {k : Nat} {sp : Sp} (F : Fun K x qual st f fd) (S : FnScope N ps (defScope st)) (len : ∀ vs H Q E, sp vs H Q E → vs.length = ps.length)
    (hbody : ∀ (cdv : Value) (A : Around) (outer : List Env) (s : Shared) (H : Hp) (vs : List V) (Q : VK) (E : XK), Room k (A.deeper (envOfC qual (defScope st) s.heap.objs.size f cdv)) → sp vs H Q E →
      ∃ t, PSs (cxOf CX0 P w K mg base N qual (defScope st) f cdv A outer s H E).nox (defBody st) t ∧ t { nx := fun _ H' => Q .non H', rt := Q } (start N vs) H) : FnOk P w K mg base CX0 (k + 1) f fd ps sp := by
  obtain ⟨oc, od, kV, doc, pm, an, cdv, ct, osl, rfl, lk, hcd⟩ := F.ex
  refine fn_of lk hcd S len fun A outer s H vs Q E hr hsp => ?_
  obtain ⟨t, h, q⟩ := hbody cdv A outer s H vs Q E hr hsp
  exact ⟨t, h.nox, q⟩
/-- how its arguments bind (no defaults): h is «fun _ _ _ _ _ _ us hl => match us, hl with | [_, _], _ => rfl», one _ a parameter -/
theorem Fun.binds {x qual : Str} {st : Stmt} {f : Addr} {fd : FuncData} {ps : List Str} (F : Fun K x qual st f fd)
    (h : ∀ (kV doc pm : Value) (an : Option Addr) (cdv ct : Value) (us : List Value), us.length = ps.length → bindArgs (PySem.W.fnOf x qual (defArgs st) (defBody st) (defScope st) .none kV doc pm an cdv ct) ⟨us, []⟩ = pure (ps.zip us)) : Binds K fd ps [] := by
  obtain ⟨oc, od, kV, doc, pm, an, cdv, ct, osl, rfl, lk, hcd⟩ := F.ex
  exact .all (h kV doc pm an cdv ct)
theorem fun_mk {x qual : Str} {st : Stmt} {f : Addr} {oc : Value} {od an : Option Addr} {osl : Array (Option Value)} {kV doc pm cdv ct : Value} (l : K.lookup f = some ⟨oc, od, .func (PySem.W.fnOf x qual (defArgs st) (defBody st) (defScope st) .none kV doc pm an cdv ct), osl⟩)
    (c : PySem.W.codeIn K cdv qual = true) (k : PySem.W.keepIn K (.ref f) = true) : Fun K x qual st f (PySem.W.fnOf x qual (defArgs st) (defBody st) (defScope st) .none kV doc pm an cdv ct) := ⟨⟨oc, od, kV, doc, pm, an, cdv, ct, osl, rfl, l, c⟩, k⟩
end
theorem small1000 {n : Nat} (h : n ≤ 1000) : n < sizeLine := Nat.lt_of_le_of_lt h (by decide)

/-! ### expressions in short: the name that stands in the i-th slot -/
section
variable {X : Cx}
theorem pv (i : Nat) {x : Str} {pos : Pos} (hN : X.N[i]? = some x := by rfl) (hv : Vis X.env.scope x := by first | exact Or.inl rfl | exact Or.inr (Or.inl rfl) | exact Or.inr (Or.inr rfl)) (hd : (x == ("__debug__" : Str)) = false := by decide)
    (hcd : (x == ("__classdict__" : Str)) = false := by decide) : PE X (.Name x pos) (tVar i) := pe_var hN hv hd hcd
end

/-! ### tests -/
theorem iteF {A B : Prop} (h : B) : if false = true then A else B := by
  rw [if_neg Bool.false_ne_true]
  exact h
theorem iteT {A B : Prop} (h : A) : if true = true then A else B := by
  rw [if_pos rfl]
  exact h
theorem ite2 {c A B : Prop} [Decidable c] (h1 : c → A) (h2 : ¬ c → B) : if c then A else B := by
  by_cases h : c
  · rw [if_pos h]
    exact h1 h
  · rw [if_neg h]
    exact h2 h
/-! ### heaps -/
/-- all that was tracked is as it was -/
def Same (H H' : Hp) : Prop := ∀ b o, H b = some o → H' b = some o
theorem Same.refl (H : Hp) : Same H H := fun _ _ h => h
theorem Same.trans {H H1 H2 : Hp} (a : Same H H1) (b : Same H1 H2) : Same H H2 := fun c o h => b c o (a c o h)
theorem Same.seq {K : PySem.W.Frag} {H H' : Hp} {a : Addr} {xs : List V} (e : Same H H') (h : SqL K H a xs) : SqL K H' a xs := by
  rcases h with (h | ⟨o, h⟩) | h
  · exact .inl (.inl (e _ _ h))
  · exact .inl (.inr ⟨o, e _ _ h⟩)
  · exact .inr h

/-! ### a dict's pairs: keys that differ -/
section
variable {κ : Type} [DecidableEq κ]
end
end L2

namespace L2
open PySem PySem.Spec PyProof.Rows

/-! ### small rules -/
section
variable {X : Cx} {a b c : Expr} {ta tb tc : TE} {pos : Pos}
/-- a name of the top that holds an int, a text, an object -/
theorem pe_gI {x : Str} {i : Int} (h : ∃ t, X.mg x = some (.int i t)) (hg : Gl X x := by rfl) (hd : (x == ("__debug__" : Str)) = false := by decide) : PE X (.Name x pos) (tC (.int i)) := by
  obtain ⟨t, h⟩ := h
  exact pe_glob hg h ⟨t, rfl⟩ hd
theorem pe_gS {x z : Str} (h : ∃ t, X.mg x = some (.str z t)) (hg : Gl X x := by rfl) (hd : (x == ("__debug__" : Str)) = false := by decide) : PE X (.Name x pos) (tC (.str z)) := by
  obtain ⟨t, h⟩ := h
  exact pe_glob hg h ⟨t, rfl⟩ hd
theorem pe_gR {x : Str} {f : Addr} (h : X.mg x = some (.ref f)) (hg : Gl X x := by rfl) (hd : (x == ("__debug__" : Str)) = false := by decide) : PE X (.Name x pos) (tC (.ref f)) := pe_glob hg h rfl hd
/-- a built-in type as a value -/
theorem pe_ty {x : Str} {T : String} (hm : X.mg x = none) (hv : bootBuiltins x = some (.type T)) (hg : Gl X x := by rfl) (hn : x ≠ "__name__" := by decide) (hd : (x == ("__debug__" : Str)) = false := by decide) : PE X (.Name x pos) (tC (.ty T)) := pe_bltn hg hm hv rfl hn hd
/-- isinstance(x, C), C an own class -/
theorem call_isC : CallR X (.builtin "isinstance") (fun xs H Q => ∃ x C t k, xs = [x, .ref C] ∧ TyOf X.K H x t ∧ PySem.W.kitOne X.K t (.ref C) = some k ∧ Q (.bl k) H) := by
  intro pins s σ H xs us Q I r h
  obtain ⟨x, C, t, k, rfl, ty, e, q⟩ := h
  cases r with
  | cons r1 rr =>
    cases rr with
    | cons r2 rr =>
      cases rr
      cases r2
      exact isinst_ok I r1 ty e fun tk => ⟨.bl k, H, I.tok tk, rfl, q⟩
end

/-! ### data -/
mutual
inductive Dt (K : PySem.W.Frag) (H : Hp) : V → PyData → Prop where
  | non : Dt K H .non .none
  | bl (b : Bool) : Dt K H (.bl b) (.bool b)
  | int (i : Int) : Dt K H (.int i) (.int i)
  | str (x : Str) : Dt K H (.str x) (.str x)
  | lst {a : Addr} {xs : List V} {ds : List PyData} : SqL K H a xs → DtAll K H xs ds → Dt K H (.ref a) (.list ds)
  | tup {a : Addr} {xs : List V} {ds : List PyData} : SqT K H a xs → DtAll K H xs ds → Dt K H (.ref a) (.tuple ds)
  | dK {a : Addr} {kvs : List (Key × V)} : H a = some (.dK kvs) → Dt K H (.ref a) (.dict [])
  | dT {a : Addr} {kvs : List (List Key × V)} : H a = some (.dT kvs) → Dt K H (.ref a) (.dict [])
inductive DtAll (K : PySem.W.Frag) (H : Hp) : List V → List PyData → Prop where
  | nil : DtAll K H [] []
  | cons {v : V} {d : PyData} {vs : List V} {ds : List PyData} : Dt K H v d → DtAll K H vs ds → DtAll K H (v :: vs) (d :: ds)
end
section
variable {X : Cx} {pins : List (Addr × Obj)} {σ : St} {H H' : Hp} {s : Shared}
mutual
theorem Dt.reads (I : Inv X pins σ H s) : ∀ {v : V} {d : PyData} {u : Value}, Dt X.K H v d → RelV v u → d.canLay0 = true → ∃ as, Reads s.heap u d as
  | _, _, _, .non, r, _ => by cases r; exact ⟨_, .none⟩
  | _, _, _, .bl b, r, _ => by cases r; exact ⟨_, .bool b⟩
  | _, _, _, .int i, r, _ => by obtain ⟨t, rfl⟩ := r; exact ⟨_, .int i t⟩
  | _, _, _, .str x, r, _ => by obtain ⟨t, rfl⟩ := r; exact ⟨_, .str x t⟩
  | _, _, _, .lst h hd, r, l => by
    cases r
    obtain ⟨its, rv, ⟨o, n, e, hc, _, hs⟩, _⟩ := I.list h
    obtain ⟨as, ra⟩ := DtAll.reads I hd rv (by rw [PyData.canLay0] at l; exact l)
    exact ⟨_, .list e hc hs (by simpa using ra)⟩
  | _, _, _, .tup h hd, r, l => by
    cases r
    obtain ⟨its, rv, ⟨o, e, hc, n, hs⟩, _⟩ := I.tuple h
    obtain ⟨as, ra⟩ := DtAll.reads I hd rv (by rw [PyData.canLay0] at l; exact l)
    exact ⟨_, .tuple e hc hs (by simpa using ra)⟩
  | _, _, _, .dK _, _, l => by rw [PyData.canLay0] at l; cases l
  | _, _, _, .dT _, _, l => by rw [PyData.canLay0] at l; cases l
theorem DtAll.reads (I : Inv X pins σ H s) : ∀ {vs : List V} {ds : List PyData} {us : List Value}, DtAll X.K H vs ds → Vals vs us → PyData.canLayAll0 ds = true → ∃ as, ReadsAll s.heap us ds as
  | _, _, _, .nil, r, _ => by cases r; exact ⟨_, .nil⟩
  | _, _, _, .cons h hd, r, l => by
    rw [PyData.canLayAll0, Bool.and_eq_true] at l
    cases r with
    | cons r1 rr =>
      obtain ⟨as, ra⟩ := Dt.reads I h r1 l.1
      obtain ⟨bs, rb⟩ := DtAll.reads I hd rr l.2
      exact ⟨_, .cons ra rb⟩
end
theorem Same.seqT {K : PySem.W.Frag} {a : Addr} {xs : List V} (e : Same H H') (h : SqT K H a xs) : SqT K H' a xs := by
  rcases h with (h | ⟨o, h⟩) | h
  · exact .inl (.inl (e _ _ h))
  · exact .inl (.inr ⟨o, e _ _ h⟩)
  · exact .inr h
mutual
theorem Dt.same {K : PySem.W.Frag} (e : Same H H') : ∀ {v : V} {d : PyData}, Dt K H v d → Dt K H' v d
  | _, _, .non => .non
  | _, _, .bl b => .bl b
  | _, _, .int i => .int i
  | _, _, .str x => .str x
  | _, _, .lst h hd => .lst (e.seq h) (DtAll.same e hd)
  | _, _, .tup h hd => .tup (Same.seqT e h) (DtAll.same e hd)
  | _, _, .dK h => .dK (e _ _ h)
  | _, _, .dT h => .dT (e _ _ h)
theorem DtAll.same {K : PySem.W.Frag} (e : Same H H') : ∀ {vs : List V} {ds : List PyData}, DtAll K H vs ds → DtAll K H' vs ds
  | _, _, .nil => .nil
  | _, _, .cons h hd => .cons (Dt.same e h) (DtAll.same e hd)
end
theorem DtAll.length {K : PySem.W.Frag} : ∀ {vs : List V} {ds : List PyData}, DtAll K H vs ds → vs.length = ds.length
  | _, _, .nil => rfl
  | _, _, .cons _ t => by rw [List.length_cons, List.length_cons, DtAll.length t]
/-- == of data -/
theorem op_eqD (hu : X.A.units + 64 < cLine) : OpR X (compareOp .Eq) (fun x y H Q => ∃ dx dy, Dt X.K H x dx ∧ Dt X.K H y dy ∧ dx.canLay0 = true ∧ dy.canLay0 = true ∧ dx.depth ≤ 64 ∧ Q (.bl (PyData.eqv dx dy)) H) := by
  intro pins s σ H x y v u Q I rx ry h
  obtain ⟨dx, dy, hx, hy, lx, ly, hd, q⟩ := h
  obtain ⟨as, ra⟩ := Dt.reads I hx rx lx
  obtain ⟨bs, rb⟩ := Dt.reads I hy ry ly
  exact SeqAt.compareEq_reads ra rb lx ly (by have := Nat.min_le_left dx.depth dy.depth; omega) ⟨.bl _, H, I, rfl, q⟩
theorem op_neD (hu : X.A.units + 64 < cLine) : OpR X (compareOp .NotEq) (fun x y H Q => ∃ dx dy, Dt X.K H x dx ∧ Dt X.K H y dy ∧ dx.canLay0 = true ∧ dy.canLay0 = true ∧ dx.depth ≤ 64 ∧ Q (.bl (!PyData.eqv dx dy)) H) := by
  intro pins s σ H x y v u Q I rx ry h
  obtain ⟨dx, dy, hx, hy, lx, ly, hd, q⟩ := h
  obtain ⟨as, ra⟩ := Dt.reads I hx rx lx
  obtain ⟨bs, rb⟩ := Dt.reads I hy ry ly
  exact SeqAt.compareNe_reads ra rb lx ly (by have := Nat.min_le_left dx.depth dy.depth; omega) ⟨.bl _, H, I, rfl, q⟩
end

/-! ### the signs of a text, walked -/
def Its (x : Str) : It := ⟨fun i _ => i < x.cps.size, fun i H v H' => H' = H ∧ ∃ c, x.cps[i]? = some c ∧ v = .str ⟨#[c]⟩, fun i _ => x.cps.size ≤ i⟩
theorem turn_str {P : Program} {w : World} {K : PySem.W.Frag} {tg : Expr} (it : Addr) (x : Str) (t : Tok) : ∀ ty : String, (ty = "str_ascii_iterator" ∨ ty = "str_iterator") → Turn P w K tg (Its x) [it] it (fun i h => h.IsStrIter it ty x t i) := by
  intro ty hty
  refine ⟨by simp, ?_, ?_, ?_, ?_, ?_⟩
  · intro i h st b hb
    have e : b = it := by simpa using hb
    subst e
    obtain ⟨o, e, c, d⟩ := st
    exact ⟨o, e, fun v z => by rw [d] at z; cases z⟩
  · intro i h h' st k
    obtain ⟨o, e, c, d⟩ := st
    exact ⟨o, k it (by simp) o e, c, d⟩
  · intro X hP hw hK hc i pins s σ H E I hf st hg
    subst hP hw hK
    obtain ⟨f0, f1, f2, f3, f4, f5⟩ := hf it (by simp)
    have hi : i < x.cps.size := hg
    have hx : x.cps[i]? = some x.cps[i] := by simp [hi]
    have fin : ∀ h', h'.IsStrIter it ty x t (i + 1) → Heap.SameBut it s.heap h' → ∃ u, some (Value.str ⟨#[x.cps[i]]⟩ s.toks) = some u ∧
        wpAny (model X.prog X.w) X.A (letOwnedTupleGo tg (.ref it) u) (fun _ s2 => ∃ y H', Inv X pins σ H' s2 ∧ RelV y u ∧ (Its x).yld i H y H' ∧ s2.heap.IsStrIter it ty x t (i + 1) ∧ ∀ b ∈ [it], H' b = none) E { s with heap := h', toks := s.toks + 1 } := by
      intro h' st' sb
      have I1 : Inv X pins σ H { s with heap := h', toks := s.toks + 1 } := I.turned (fun b o hb e => (sb.2 b hb).trans e) f0 f1 f3 f4 f5
      obtain ⟨o, e, c, d⟩ := id st'
      refine ⟨_, rfl, go_of (s := { s with heap := h', toks := s.toks + 1 }) e c d ?_ ⟨.str ⟨#[x.cps[i]]⟩, H, I1, ⟨_, rfl⟩, ⟨rfl, _, hx, rfl⟩, st', fun b hb => (hf b hb).1⟩⟩
      rcases hty with rfl | rfl <;> decide
    rcases hty with rfl | rfl
    · exact wpAny_pyNext_ascii_item st hx fin
    · exact wpAny_pyNext_wide_item st hx fin
  · intro X hP hw hK hc i pins s σ H E I hf st hg
    subst hP hw hK
    obtain ⟨f0, f1, f2, f3, f4, f5⟩ := hf it (by simp)
    have hi : x.cps.size ≤ i := hg
    have hx : x.cps[i]? = none := by simp [hi]
    have fin : ∀ h', Heap.ExtBut it s.heap h' → (none : Option Value) = none ∧ Inv X pins σ H { s with heap := h' } := fun h' eb => ⟨rfl, I.turned (t' := s.toks) (fun b o hb e => eb b o hb e) f0 f1 f3 f4 f5⟩
    rcases hty with rfl | rfl
    · exact wpAny_pyNext_ascii_end (I.ok.hd hc) st hx fin
    · exact wpAny_pyNext_wide_end (I.ok.hd hc) st hx fin
  · intro A i s Q E st h
    rcases hty with rfl | rfl
    · exact wpAny_pyIter_striter_ascii st h
    · exact wpAny_pyIter_striter_wide st h
section
variable {X : Cx} {tg : Expr}
def iStr (tl : TE) : TI := fun σ H R => tl σ H fun v H1 => ∃ x, v = .str x ∧ R (Its x) H1
theorem pi_str {l : Expr} {tl : TE} (hl : PE X l tl) : PI X tg l (iStr tl) := by
  intro pins s σ H R I h
  refine thn (hl pins s σ H _ I h) fun v s1 ⟨y, H1, I1, r1, q1⟩ => ?_
  obtain ⟨x, e, q⟩ := q1
  subst e
  obtain ⟨t, rfl⟩ := r1
  have fin : ∀ ty : String, (ty = "str_ascii_iterator" ∨ ty = "str_iterator") → PIE X pins σ tg R (.ref s1.heap.objs.size) { s1 with heap := s1.heap.push { cls := .type ty, data := .fields #[.str x t, .int 0 0] } } := fun ty hty => by
    refine ⟨s1.heap.objs.size, [s1.heap.objs.size], _, _, H1, rfl, I1.kept (t' := s1.toks) fun b o e => Heap.get?_push_of_some _ e, turn_str _ x t ty hty, ⟨_, Heap.get?_push_size _ rfl, rfl, rfl⟩, fun b hb => ?_, q⟩
    have e : b = s1.heap.objs.size := by simpa using hb
    subst e
    exact I1.fpOk (Nat.le_refl _) (I1.hok.fresh (Nat.le_refl _))
  cases ha : x.cps.all (· < 128)
  · exact wpAny_pyIter_wide ha (fin _ (.inr rfl))
  · exact wpAny_pyIter_ascii ha (fin _ (.inl rfl))
end
end L2

namespace L2
open PySem PySem.Spec PyProof.Rows

/-! ### a list's comprehension -/
section
variable {prog : Program} {w : World} {A : Around} {R : Result → Shared → Prop} {s : Shared}
theorem compLoop_own {elt target iter : Expr} {ifs : List Expr} {scope : Scope} {pos : Pos} {it acc : Value} {env : Env} (I : Nat → Shared → Prop)
    (turn : ∀ n s, I n s → wpAny (model prog w) A (pyNext it) (fun r s₁ => match r with
      | none => R (.ok .next) s₁
      | some v => wpAny (model prog w) A (letOwnedTupleGo target it v) (fun _ s₁' => wpAny (model prog w) A (assign target env v) (fun _ s₂ =>
          wpAny (model prog w) A (forIn ifs true fun c r => if r = true then do let ok ← isTrue c env (eval c env); pure (ForInStep.yield ok) else pure (ForInStep.yield r)) (fun ok s₃ =>
            if ok = true then wpAny (model prog w) A (eval elt env) (fun x s₄ =>
              wpAny (model prog w) A (call (.builtin "list.append") [acc, x]) (fun _ s₅ => ∃ m, m < n ∧ I m s₅) (fun _ _ => False) s₄) (fun _ _ => False) s₃
            else ∃ m, m < n ∧ I m s₃) (fun _ _ => False) s₂) (fun _ _ => False) s₁') (fun _ _ => False) s₁) (fun _ _ => False) s)
    (n : Nat) (h : I n s) :
    codeAny (model prog w) A (.compLoop (.ListComp elt [⟨target, iter, ifs, 0⟩] scope pos) 0 it acc env) R s := by
  refine codeAny_loop rfl I (fun n s hI => ?_) n h
  show wpAny _ A ((compTurn (.ListComp elt [⟨target, iter, ifs, 0⟩] scope pos) 0 it acc env).onRaise (fun x => do noteFrame x env; theTreesLotGoes x)) _ _ s
  refine wpAny_noted ?_
  rw [compTurn_list]
  refine wpAny_bind (wpAny_standAt (wpAny_bind (wpAny_mono (turn n s hI) (fun r s₁ h₁ => ?_) fun _ _ h' => h'.elim)))
  cases r with
  | none => exact wpAny_pure h₁
  | some v =>
    refine wpAny_bind (wpAny_mono h₁ (fun _ s₁' h₁' => ?_) fun _ _ h' => h'.elim)
    refine wpAny_bind (wpAny_mono h₁' (fun _ s₂ h₂ => wpAny_bind (wpAny_mono h₂ (fun ok s₃ h₃ => ?_) fun _ _ h' => h'.elim)) fun _ _ h' => h'.elim)
    cases ok with
    | false => exact wpAny_pure ⟨rfl, h₃⟩
    | true =>
      exact wpAny_bind (wpAny_bind (wpAny_mono h₃ (fun x s₄ h₄ => wpAny_bind (wpAny_mono h₄ (fun _ s₅ h₅ => wpAny_pure (wpAny_pure ⟨rfl, h₅⟩)) fun _ _ h' => h'.elim)) fun _ _ h' => h'.elim))
end

/-- the context of a comprehension's block -/
def cxComp (X : Cx) (scope : Scope) (cl : List (Str × Addr)) (C : Addr) (N' : List Str) (fp : List Addr) (pins : List (Addr × Obj)) (s : Shared) (H : Hp) : Cx where
  prog := X.prog
  w := X.w
  K := X.K
  mg := X.mg
  base := X.base
  A := X.A
  N := N'
  s₀ := s
  H₀ := H
  env := compEnvC scope cl C X.env
  outer := X.stack
  stack := X.stack
  ex := fp
  calm := X.calm
  fn := fun _ => false
  pn := X.pn ++ pins
  xe := fun _ _ => False
/-- the cells that the block sees -/
structure Caps (X : Cx) (scope : Scope) (cl : List (Str × Addr)) (cp : List (Nat × Str)) : Prop where
  kind : scope.kind = .function
  nocell : ∀ y ∈ scope.names, y.2 ≠ .cell
  names : ∀ y ∈ scope.names, y.2 = .local → scope.names.lookup y.1 = some .local
  clos : closureFor scope X.env = pure cl
  sub : ∀ x c, cl.lookup x = some c → X.env.cells.lookup x = some c
  has : ∀ x, ((relabel scope X.env).names.lookup x = some .cell ∨ (relabel scope X.env).names.lookup x = some .free) → ∃ c, cl.lookup x = some c
  at' : ∀ p ∈ cp, X.N[p.1]? = some p.2 ∧ (X.env.scope.names.lookup p.2 = some .cell ∨ X.env.scope.names.lookup p.2 = some .free) ∧ ((relabel scope X.env).names.lookup p.2 = some .cell ∨ (relabel scope X.env).names.lookup p.2 = some .free)
def capσ (cp : List (Nat × Str)) (σ : St) : St := cp.map fun p => (σ[p.1]?).getD none
section
variable {X : Cx} {pins : List (Addr × Obj)} {σ : St} {H : Hp} {s : Shared} {scope : Scope} {cl : List (Str × Addr)} {cp : List (Nat × Str)} {fp : List Addr} {x : Str}
theorem inv_comp (I : Inv X pins σ H s) (c : Caps X scope cl cp) (hf : ∀ b ∈ fp, FpOk X pins H b) (hfo : ∀ b ∈ fp, b < s.heap.objs.size) {h' : Heap} {ty : String} {tk : Nat} {m : Str → Option Value} (hm : h'.Ns s.heap.objs.size m)
    (sb : Heap.SameBut s.heap.objs.size (s.heap.push { cls := .type ty, data := .dict #[] }) h') :
    Inv (cxComp X scope cl s.heap.objs.size (x :: cp.map (·.2)) fp pins s H) [] (none :: capσ cp σ) H { s with heap := h', toks := tk } := by
  have old : ∀ b o, s.heap.get? b = some o → h'.get? b = some o := fun b o e => (sb.2 b (Nat.ne_of_lt (Heap.lt_size e))).trans (Heap.get?_push_of_some _ e)
  have hC : H s.heap.objs.size = none := I.hok.fresh (Nat.le_refl _)
  refine ⟨⟨I.ok.mod, c.kind, I.ok.glob, I.ok.blt, Nat.le_refl _, fun y z k h1 h2 => I.ok.inj y z k (c.sub _ _ h1) (c.sub _ _ h2), c.has, fun y k z => (Bool.noConfusion z), I.ok.hd, I.ok.frames, .inl rfl, fun b hb => ?_, fun b o e => I.bs b o e, Nat.le_trans I.ok.bsz I.sz, fun b o e hb => ?_, fun b hb hz => ?_, I.stack, I.stkFree⟩,
    rfl, I.bare, Un.kept old, ⟨m, hm, fun i y v h1 h2 h3 => ?_⟩, fun y k e => ?_, hC, fun y k e => I.freeC y k (c.sub y k e), fun p hp => ?_, I.hok.kept old, ?_⟩
  · obtain ⟨f0, f1, f2, f3, f4, f5⟩ := hf b hb
    exact ⟨Nat.ne_of_lt (hfo b hb), fun y k e => f4 y k (c.sub y k e)⟩
  · obtain ⟨f0, f1, f2, f3, f4, f5⟩ := hf b hb
    rcases f3 with z | z
    · exact I.ok.noex b o e z
    · exact absurd (Nat.lt_of_lt_of_le (Heap.lt_size (I.ok.bs b o e).1) z) (Nat.lt_irrefl _)
  · obtain ⟨f0, f1, f2, f3, f4, f5⟩ := hf b hb
    rcases List.mem_cons.mp (I.stkSub b hz) with e | e
    · exact f1 e
    · exact f2 e
  · cases i with
    | zero => simp at h2
    | succ i =>
      have h1' : (cp.map (·.2))[i]? = some y := by
        have z : (x :: cp.map (·.2))[i + 1]? = some y := h1
        rw [List.getElem?_cons_succ] at z
        exact z
      have h2' : (capσ cp σ)[i]? = some (some v) := by simpa using h2
      unfold capσ at h2'
      rw [List.getElem?_map] at h1' h2'
      cases e : cp[i]? with
      | none => rw [e] at h1'; cases h1'
      | some p =>
        rw [e] at h1' h2'
        simp only [Option.map_some, Option.some.injEq] at h1' h2'
        obtain ⟨k1, k2, k3⟩ := c.at' p (List.mem_of_getElem? e)
        subst h1'
        have h2'' : σ[p.1]? = some (some v) := by
          cases q : σ[p.1]? with
          | none => rw [q] at h2'; cases h2'
          | some z => rw [q] at h2'; simpa using h2'
        obtain ⟨m0, hn0, hl0⟩ := I.loc
        obtain ⟨u, r, l⟩ := hl0 p.1 p.2 v k1 h2'' (k2.elim (fun z => .inr (.inl z)) fun z => .inr (.inr z))
        refine ⟨u, r, .inr ⟨k3, ?_⟩⟩
        rcases l with ⟨z, _⟩ | ⟨_, cc, e1, e2⟩
        · have z' : X.env.scope.names.lookup p.2 = some .local := z
          rcases k2 with k | k <;> (rw [z'] at k; cases k)
        · obtain ⟨cc', e3⟩ := c.has p.2 k3
          have e4 := c.sub _ _ e3
          rw [e1] at e4
          cases e4
          obtain ⟨o, ho, hd⟩ := e2
          exact ⟨cc, e3, o, old _ _ ho, hd⟩
  · obtain ⟨v, o, ho, hd⟩ := I.cell y k (c.sub y k e)
    exact ⟨v, o, old _ _ ho, hd⟩
  · have hp' : p ∈ X.pn ++ pins := by
      rcases List.mem_append.mp hp with z | z
      · exact z
      · cases z
    obtain ⟨e, n, ne, nf, d⟩ := I.pin p hp'
    refine ⟨old _ _ e, n, Nat.ne_of_lt (Heap.lt_size e), fun hz => ?_, d⟩
    rcases List.mem_cons.mp (I.stkSub p.1 hz) with q | q
    · exact ne q
    · exact nf q
  · show (none :: capσ cp σ).length = (x :: cp.map (·.2)).length
    simp [capσ]
/-- behind the block -/
theorem Inv.uncomp {C : Addr} {N' : List Str} {σ' : St} {H' : Hp} {s' : Shared} {h'' : Heap} (I : Inv X pins σ H s) (hC : C = s.heap.objs.size) (hf : ∀ b ∈ fp, FpOk X pins H b) (J : Inv (cxComp X scope cl C N' fp pins s H) [] σ' H' s') (sb : Heap.SameBut C s'.heap h'') :
    Inv X pins σ H' { s' with heap := h'' } := by
  have ne : ∀ b o, s.heap.get? b = some o → b ≠ C := fun b o e => by rw [hC]; exact Nat.ne_of_lt (Heap.lt_size e)
  have B : Un (frs X.stack) fp H H' s.heap s'.heap := J.base
  refine I.call' (s' := { s' with heap := h'' }) (ch := fp) (show s'.os = s.os from J.os) ⟨fun b o e n hb hx => ?_, fun b o e n hb hx => ?_, B.free, fun b o e hx => ?_, B.tups, B.frzs, B.tbls⟩ (fun b ob e => ?_) J.bare fun b hb => ?_
  · exact (sb.2 b (ne b o e)).trans (B.keep b o e n hb hx)
  · obtain ⟨sl, q⟩ := B.slot b o e n hb hx
    exact ⟨sl, (sb.2 b (ne b o e)).trans q⟩
  · obtain ⟨o', q⟩ := B.there b o e hx
    exact ⟨o', (sb.2 b (ne b o e)).trans q⟩
  · have hfree : H' C = none := J.free
    refine (J.hok b ob e).stay (fun k w' hk q => (sb.2 k ?_).trans q) (fun _ q => q) fun _ _ q => q
    rintro rfl
    rcases hk with rfl | hk
    · rw [hfree] at e; cases e
    · rw [hfree] at hk; cases hk
  · obtain ⟨f0, f1, f2, f3, f4, f5⟩ := hf b hb
    exact ⟨f3, f1, f4, f5⟩
end

/-- the tests behind the for -/
def PTs (X : Cx) (ifs : List Expr) (t : TT) : Prop :=
  ∀ (pins : List (Addr × Obj)) (s : Shared) (σ : St) (H : Hp) (Q : Bool → Hp → Prop), Inv X pins σ H s → t σ H Q →
    wpAny (model X.prog X.w) X.A (forIn ifs true fun c r => if r = true then do let ok ← isTrue c X.env (eval c X.env); pure (ForInStep.yield ok) else pure (ForInStep.yield r)) (TP X pins σ Q) X.xe s
def tYes : TT := fun _ H Q => Q true H
theorem pts_nil {X : Cx} : PTs X [] tYes := fun _ _ _ H _ I h => wpAny_tests_nil ⟨H, I, h⟩
/-- the loop of a comprehension: W by the turn and a measure; the list grows at D -/
def tLoop (cp : List (Nat × Str)) (tt : TT) (te : TE) (σ : St) (J : It) (D : Addr) (Q : VK) (H1 : Hp) : Prop :=
  ∃ W : Nat → Nat → Hp → Prop, (∃ m, W 0 m (upd H1 D (.lst []))) ∧ ∀ i m H2, W i m H2 → (J.stop i H2 ∧ Q (.ref D) H2) ∨
    (J.go i H2 ∧ ∃ (N : VK) (N' : Hp → Prop), (∀ y H5, N y H5 → ∃ ys m', H5 D = some (.lst ys) ∧ ys.length < sizeLine ∧ m' < m ∧ W (i + 1) m' (upd H5 D (.lst (ys ++ [y])))) ∧ (∀ H4, N' H4 → ∃ m', m' < m ∧ W (i + 1) m' H4) ∧
      ∀ v H3, J.yld i H2 v H3 → tt (some v :: capσ cp σ) H3 fun b H4 => if b = true then te (some v :: capσ cp σ) H4 N else N' H4)
def tComp (cp : List (Nat × Str)) (wi : TI) (tt : TT) (te : TE) : TE := fun σ H Q => wi σ H fun J H1 => ∀ D, H1 D = none → tLoop cp tt te σ J D Q H1
section
variable {X : Cx} {scope : Scope} {cl : List (Str × Addr)} {cp : List (Nat × Str)} {x : Str} {px pos : Pos} {elt iter : Expr} {ifs : List Expr} {wi : TI} {tt : TT} {te : TE}
theorem comp_core {pins : List (Addr × Obj)} {σ : St} {H2 : Hp} {s2 : Shared} {it : Addr} {fp : List Addr} {tn : Nat → Heap → Prop} {J : It} {Q : VK} {R : Addr → Result → Shared → Prop} {E : Value → Shared → Prop} (c : Caps X scope cl cp) (hcalm : X.calm = true) (hx : scope.names.lookup x = some .local) (hnd : (x :: cp.map (·.2)).Nodup)
    (ht : ∀ C fp pins s H, PTs (cxComp X scope cl C (x :: cp.map (·.2)) fp pins s H) ifs tt) (he : ∀ C fp pins s H, PE (cxComp X scope cl C (x :: cp.map (·.2)) fp pins s H) elt te)
    (I2 : Inv X pins σ H2 s2) (T : Turn X.prog X.w X.K (.Name x px) J fp it tn) (st2 : tn 0 s2.heap) (f2 : ∀ b ∈ fp, FpOk X pins H2 b) (q : tLoop cp tt te σ J s2.heap.objs.size Q H2)
    (hR : ∀ (C : Addr) (H' : Hp) (s' : Shared), (∃ m, s'.heap.Ns C m) → X.s₀.heap.objs.size ≤ C → H' C = none → C ≠ X.env.locals → (∀ x c, X.env.cells.lookup x = some c → c ≠ C) → (∀ p ∈ X.pn ++ pins, p.1 ≠ C) → (∀ h'', Heap.SameBut C s'.heap h'' → Inv X pins σ H' { s' with heap := h'' }) → Q (.ref s2.heap.objs.size) H' → R C (.ok .next) s') :
    wpAny (model X.prog X.w) X.A (newList []) (fun acc s₃ => wpAny (model X.prog X.w) X.A (newFunctionEnv scope X.env.globals cl [] X.env.qual none .none (some X.env)) (fun cenv s₄ =>
      acc = .ref s2.heap.objs.size ∧ codeAny (model X.prog X.w) X.A (.compStart (.ListComp elt [⟨.Name x px, iter, ifs, 0⟩] scope pos) 0 (.ref it) acc { cenv with scope := relabel scope X.env }) (R cenv.locals) s₄) E s₃) E s2 := by
  obtain ⟨W, ⟨m0, w0⟩, turn⟩ := q
  refine wpAny_newObj_type ?_
  have I3 : Inv X pins σ (upd H2 s2.heap.objs.size (.lst [])) { s2 with heap := s2.heap.push { cls := .type "list", dict := none, data := .seq ([] : List Value).toArray } } :=
    I2.lnew (t' := s2.toks) (ys := []) (its := []) .nil (Nat.zero_le _)
  have fpo : ∀ b ∈ fp, b < s2.heap.objs.size := fun b hb => by
    obtain ⟨o, e, _⟩ := T.obj _ _ st2 b hb
    exact Heap.lt_size e
  have f3 : ∀ b ∈ fp, FpOk X pins (upd H2 s2.heap.objs.size (.lst [])) b := fun b hb => ⟨by rw [upd_ne (Nat.ne_of_lt (fpo b hb))]; exact (f2 b hb).1, (f2 b hb).2⟩
  generalize hs3 : ({ s2 with heap := s2.heap.push { cls := .type "list", dict := none, data := .seq ([] : List Value).toArray } } : Shared) = s3 at I3
  have e3 : s3.heap = s2.heap.push { cls := .type "list", dict := none, data := .seq ([] : List Value).toArray } := by rw [← hs3]
  have sz3 : s2.heap.objs.size < s3.heap.objs.size := by rw [e3, Heap.size_push]; exact Nat.lt_succ_self _
  refine wpAny_newFunctionEnv c.nocell (by intro y hy; cases hy) (fun h₁ hns sb => ?_) c.kind
  have J3 := inv_comp (x := x) (tk := s3.toks + ([] : List (Str × Value)).length) I3 c f3 (fun b hb => Nat.lt_trans (fpo b hb) sz3) hns sb
  refine ⟨rfl, ?_⟩
  have st3 : tn 0 h₁ := T.keep _ _ _ st2 fun b hb o e => (sb.2 b (Nat.ne_of_lt (Nat.lt_trans (fpo b hb) sz3))).trans (Heap.get?_push_of_some _ (by rw [e3]; exact Heap.get?_push_of_some _ e))
  generalize hX : cxComp X scope cl s3.heap.objs.size (x :: cp.map (·.2)) fp pins s3 (upd H2 s2.heap.objs.size (.lst [])) = X' at J3
  have eA : X'.A = X.A := by rw [← hX]; rfl
  have eP : X'.prog = X.prog := by rw [← hX]; rfl
  have ew : X'.w = X.w := by rw [← hX]; rfl
  have eK : X'.K = X.K := by rw [← hX]; rfl
  have ec : X'.calm = true := by rw [← hX]; exact hcalm
  have ee : X'.env = compEnvC scope cl s3.heap.objs.size X.env := by rw [← hX]; rfl
  have ex : X'.xe = fun _ _ => False := by rw [← hX]; rfl
  have fpX : ∀ {H' : Hp}, (∀ b ∈ fp, H' b = none) → ∀ b ∈ fp, FpOk X' [] H' b := fun hn b hb => by
    obtain ⟨f0, f1, f2', f3', f4, f5⟩ := f3 b hb
    subst hX
    refine ⟨hn b hb, Nat.ne_of_lt (Nat.lt_trans (fpo b hb) sz3), fun hz => ?_, .inl hb, fun y k e => f4 y k (c.sub y k e), fun p hp => ?_⟩
    · rcases List.mem_cons.mp (I3.stkSub b hz) with e | e
      · exact f1 e
      · exact f2' e
    · rcases List.mem_append.mp hp with z | z
      · exact f5 p z
      · cases z
  have pT := ht s3.heap.objs.size fp pins s3 (upd H2 s2.heap.objs.size (.lst []))
  have pE := he s3.heap.objs.size fp pins s3 (upd H2 s2.heap.objs.size (.lst []))
  have pG : PG X' (.Name x px) (gName 0) := by
    subst hX
    exact pg_name hnd rfl (.inl (lookup_relabel_local hx)) (.inr (lookup_relabel_local hx))
  rw [hX] at pT pE
  have loop : codeAny (model X.prog X.w) X.A (.compLoop (.ListComp elt [⟨.Name x px, iter, ifs, 0⟩] scope pos) 0 (.ref it) (.ref s2.heap.objs.size) (compEnvC scope cl s3.heap.objs.size X.env)) (R s3.heap.objs.size) { s3 with heap := h₁, toks := s3.toks + ([] : List (Str × Value)).length } := by
    refine compLoop_own (fun n s' => ∃ i o H', Inv X' [] (o :: capσ cp σ) H' s' ∧ tn i s'.heap ∧ (∀ b ∈ fp, H' b = none) ∧ W i n H') ?_ m0 ⟨0, none, _, J3, st3, fun b hb => (f3 b hb).1, w0⟩
    rintro n s5 ⟨i, o, H5, J5, st5, fr5, w5⟩
    rcases turn i n H5 w5 with ⟨stop, qn⟩ | ⟨go, N, N', hN, hN', step⟩
    · have z := T.done X' eP ew eK ec i [] s5 _ H5 (fun _ _ => False) J5 (fpX fr5) st5 stop
      rw [eA] at z
      refine thn z fun r s6 ⟨hr, J6⟩ => ?_
      subst hr
      subst hX
      obtain ⟨m6, hn6, _⟩ := J6.loc
      refine hR s3.heap.objs.size H5 s6 ⟨m6, hn6⟩ I3.sz J6.free (Nat.ne_of_gt I3.lt) (fun y k e z => ?_) (fun p hp z => ?_) (fun h'' sb' => I3.uncomp rfl f3 J6 sb') qn
      · obtain ⟨v, w'⟩ := I3.cell y k e
        exact absurd w'.lt (by rw [z]; exact Nat.lt_irrefl _)
      · exact absurd (Heap.lt_size (I3.pin p hp).1) (by rw [z]; exact Nat.lt_irrefl _)
    · have z := T.item X' eP ew eK ec i [] s5 _ H5 (fun _ _ => False) J5 (fpX fr5) st5 go
      rw [eA] at z
      refine thn z fun r s6 ⟨u, hr, h6⟩ => ?_
      subst hr
      refine thn h6 fun _ s7 ⟨v, H7, J7, r7, y7, st7, fr7⟩ => ?_
      have J7' := J7.pinned (fpX fr7) (T.obj _ _ st7)
      have z8 := pG _ s7 _ H7 v u (fun σ' H' => σ' = some v :: capσ cp σ ∧ H' = H7) J7' r7 ⟨rfl, rfl⟩
      rw [eA, eP, ew, ee, ex] at z8
      refine thn z8 fun _ s8 ⟨σ8, H8, J8, e8, e8'⟩ => ?_
      subst e8 e8'
      have z9 := pT _ s8 _ H8 _ J8 (step v H8 y7)
      rw [eA, eP, ew, ee, ex] at z9
      refine thn z9 fun ok s9 ⟨H9, J9, q9⟩ => ?_
      have fin : ∀ {H' : Hp} {s' : Shared}, Inv X' ([] ++ pinsAt fp s7.heap) (some v :: capσ cp σ) H' s' → (∃ m', m' < n ∧ W (i + 1) m' H') → ∃ m, m < n ∧ ∃ i o H', Inv X' [] (o :: capσ cp σ) H' s' ∧ tn i s'.heap ∧ (∀ b ∈ fp, H' b = none) ∧ W i m H' := fun {H' s'} K' ⟨m', hm, w'⟩ => by
        refine ⟨m', hm, i + 1, some v, H', K'.unpinned, T.keep _ _ _ st7 fun b hb ob e => (K'.pin (b, ob) (List.mem_append_right _ (List.mem_append_right _ (mem_pinsAt hb e)))).1, fun b hb => ?_, w'⟩
        obtain ⟨ob, e, d⟩ := T.obj _ _ st7 b hb
        exact (K'.pin (b, ob) (List.mem_append_right _ (List.mem_append_right _ (mem_pinsAt hb e)))).2.1
      cases ok with
      | false =>
        rw [if_neg Bool.false_ne_true] at q9 ⊢
        exact fin J9 (hN' _ q9)
      | true =>
        rw [if_pos rfl] at q9 ⊢
        have z10 := pE _ s9 _ H9 _ J9 q9
        rw [eA, eP, ew, ee, ex] at z10
        refine thn z10 fun u10 s10 ⟨y, H10, J10, r10, n10⟩ => ?_
        obtain ⟨ys, m', hD, hz, hm, w'⟩ := hN y H10 n10
        have z11 := mt_append (X := X') _ s10 _ H10 (.ref s2.heap.objs.size) [y] (.ref s2.heap.objs.size) [u10] (fun _ H' => H' = upd H10 s2.heap.objs.size (.lst (ys ++ [y]))) J10 rfl (.cons r10 .nil) ⟨_, ys, y, rfl, rfl, hD, hz, rfl⟩
        rw [eA, eP, ew, ex] at z11
        refine thn z11 fun u11 s11 ⟨y', H11, J11, r11, e11⟩ => ?_
        subst e11
        exact fin J11 ⟨m', hm, w'⟩
  exact codeAny_compStart_list loop (T.self _ 0 _ _ _ st3 loop)
theorem pe_comp (c : Caps X scope cl cp) (hcalm : X.calm = true) (hx : scope.names.lookup x = some .local) (hnd : (x :: cp.map (·.2)).Nodup) (hi : PI X (.Name x px) iter wi)
    (ht : ∀ C fp pins s H, PTs (cxComp X scope cl C (x :: cp.map (·.2)) fp pins s H) ifs tt) (he : ∀ C fp pins s H, PE (cxComp X scope cl C (x :: cp.map (·.2)) fp pins s H) elt te)
    (hs : ∀ v, foldedSetIterable iter X.env v = pure v := by intro _; rfl) : PE X (.ListComp elt [⟨.Name x px, iter, ifs, 0⟩] scope pos) (tComp cp wi tt te) := by
  intro pins s σ H Q I h
  rw [eval_ListComp]
  refine wpAny_comprehension_free (use := none) (g := ⟨.Name x px, iter, ifs, 0⟩) (gs := []) (cl := cl) rfl hs c.clos c.kind c.names ?_
  refine thn (hi pins s σ H _ I h) fun v s1 h1 => thn h1 fun itv s2 h2 => ?_
  obtain ⟨it, fp, tn, J, H2, e, I2, T, st2, f2, q⟩ := h2
  subst e
  refine thn (comp_core (iter := iter) (pos := pos) (R := fun C => compPost (model X.prog X.w) X.A X.xe none (EP X pins σ Q) (.ref s2.heap.objs.size) C) c hcalm hx hnd ht he I2 T st2 f2 (q _ (I2.hok.fresh (Nat.le_refl _))) ?_) fun acc s3 h3 => thn h3 fun cenv s4 h4 => ?_
  · rintro C H' s' ⟨m, hn⟩ _ _ _ _ _ hI hq
    exact ⟨m, hn, fun h'' sb => ⟨.ref s2.heap.objs.size, H', hI h'' sb, rfl, hq⟩⟩
  · obtain ⟨e, h4⟩ := h4
    subst e
    exact h4
end
end L2

namespace L2
open PySem PySem.Spec PyProof.Rows

section
variable {X : Cx} {scope : Scope} {cl : List (Str × Addr)} {cp : List (Nat × Str)} {x : Str} {px pos : Pos} {elt iter : Expr} {ifs : List Expr} {wi : TI} {tt : TT} {te : TE}
end

/-! ### all, join -/
theorem bools_of : ∀ {bs : List Bool} {us : List Value}, Vals (bs.map V.bl) us → ∀ (i : Nat) (v : Value), us[i]? = some v → ∃ b : Bool, bs[i]? = some b ∧ v = Value.bool b
  | [], _, .nil, i, v, h => by simp at h
  | b :: bs, u :: us, .cons r t, 0, v, h => by
    simp at h
    subst h
    cases r
    exact ⟨b, rfl, rfl⟩
  | b :: bs, u :: us, .cons r t, i + 1, v, h => by
    obtain ⟨b', e1, e2⟩ := bools_of t i v (by simpa using h)
    exact ⟨b', by simpa using e1, e2⟩
section
variable {X : Cx}
theorem call_all (hc : X.calm = true) : CallR X (.builtin "all") (fun xs H Q => ∃ (a : Addr) (bs : List Bool), xs = [.ref a] ∧ SqL X.K H a (bs.map V.bl) ∧ Q (.bl (bs.all id)) H) := by
  intro pins s σ H xs us Q I r h
  obtain ⟨a, bs, rfl, hq, q⟩ := h
  obtain ⟨u, rfl, ru⟩ := r.one
  cases ru
  obtain ⟨its, rv, pl, hz⟩ := I.list hq
  have hl : s.heap.IsList a its.toArray := pl.isList
  have hlt : a < s.heap.objs.size := by obtain ⟨_, e, _⟩ := hl; exact Heap.lt_size e
  refine call_all_walk (wpAny_pyIter_list hl ?_)
  refine ⟨s.heap.objs.size, [s.heap.objs.size, a], [s.heap.objs.size], its.toArray.size, _, _, fun i => (bs[i]?).getD true, rfl, Walks.list (A := X.A.in1) (I.ok.hd hc) _ a (Nat.ne_of_lt hlt) its.toArray,
    ⟨⟨_, Heap.get?_push_size _ rfl, rfl, rfl⟩, hl.push _⟩, fun i v s' Q' E' hP hQ => ?_, fun h' tk hk => ?_⟩
  · obtain ⟨b, e, rfl⟩ := bools_of rv i v (by simpa using hP)
    simp only [e, Option.getD_some] at hQ
    exact wpAny_truthy_bool hQ
  · have e : ((List.range its.toArray.size).all fun i => (bs[i]?).getD true) = bs.all id := by
      have := rv.length
      rw [List.length_map] at this
      rw [List.size_toArray, ← this]
      exact PyProof.Rows.LSm.range_all bs
    rw [e]
    refine ⟨.bl _, H, I.kept (t' := tk) fun b o e' => hk b o (fun hm => ?_) (Heap.get?_push_of_some _ e'), rfl, q⟩
    rw [List.mem_singleton.mp hm] at e'
    exact Nat.lt_irrefl _ (Heap.lt_size e')
end

/-! ### a def that is known: its promise and how it is called -/
structure Known (P : Program) (w : World) (K : PySem.W.Frag) (mg : Str → Option Value) (base : Heap) (CX : CXT) (k : Nat) (x : Str) (ps : List Str) (sp : Sp) : Prop where
  ex : ∃ f fd, FnOk P w K mg base CX k f fd ps sp ∧ mg x = some (.ref f) ∧ PySem.W.keepIn K (.ref f) = true ∧ Binds K fd ps []
section
variable {X : Cx} {CX : CXT} {k : Nat} {ps : List Str} {sp : Sp} {E : XK} {x : Str} {p pos : Pos} {e : Expr} {es : List Expr} {t : TA}
theorem pe_callN (G : Known X.prog X.w X.K X.mg X.base CX k x ps sp) (hr : Room k X.A) (hx : Passes CX X E) (ha : PA X (e :: es) t) (hg : Gl X x := by rfl) (hdb : (x == ("__debug__" : Str)) = false := by decide)
    (he : starEach (e :: es) X.env = (false, eval e X.env) :: starEach es X.env := by rfl) (hpl : (backTo pos (starEach es X.env)).any (·.1) = false := by rfl) : PE X (.Call (.Name x p) (e :: es) [] pos) (tCall sp [] E t) := by
  obtain ⟨f, fd, F, hm, hk, hb⟩ := G.ex
  exact pe_call F hr hg hm hk hb .nil hx ha hdb he hpl
end
/-! ### the forms of a comprehension that one uses: Pv by the turn, the list so far, the heap (in which it stands at D) -/
def Nxt (D : Addr) (Pv : Nat → List V → Hp → Prop) (i : Nat) (ys : List V) : VK := fun y H5 => H5 D = some (.lst ys) ∧ ys.length < sizeLine ∧ Pv (i + 1) (ys ++ [y]) (upd H5 D (.lst (ys ++ [y])))
theorem comp_it {cp : List (Nat × Str)} {te : TE} {σ : St} {J : It} {n : Nat} {D : Addr} {Q : VK} {H1 : Hp} (Pv : Nat → List V → Hp → Prop) (h0 : Pv 0 [] (upd H1 D (.lst []))) 
    (hg : ∀ i ys H, H D = some (.lst ys) → Pv i ys H → (i < n → J.go i H) ∧ (i = n → J.stop i H))
    (hs : ∀ i ys H v H', i < n → H D = some (.lst ys) → Pv i ys H → J.yld i H v H' → te (some v :: capσ cp σ) H' (Nxt D Pv i ys))
    (hd : ∀ ys H, H D = some (.lst ys) → Pv n ys H → Q (.ref D) H) : tLoop cp tYes te σ J D Q H1 := by
  refine ⟨fun i m H => m = n - i ∧ i ≤ n ∧ ∃ ys, H D = some (.lst ys) ∧ Pv i ys H, ⟨n, by simp, Nat.zero_le _, [], upd_same, h0⟩, ?_⟩
  rintro i m H ⟨rfl, hi, ys, hD, p⟩
  by_cases hlt : i < n
  · refine .inr ⟨(hg i ys H hD p).1 hlt, Nxt D Pv i ys, fun _ => False, fun y H5 ⟨h1, h2, h3⟩ => ⟨ys, n - (i + 1), h1, h2, by omega, rfl, hlt, _, upd_same, h3⟩, fun _ z => z.elim, fun v H' y => ?_⟩
    exact hs i ys H v H' hlt hD p y
  · have e : i = n := by omega
    subst e
    exact .inl ⟨(hg i ys H hD p).2 rfl, hd ys H hD p⟩
theorem comp_str {cp : List (Nat × Str)} {te : TE} {σ : St} {x : Str} {D : Addr} {Q : VK} {H1 : Hp} (Pv : Nat → List V → Hp → Prop) (h0 : Pv 0 [] (upd H1 D (.lst [])))
    (hs : ∀ i c ys H, x.cps[i]? = some c → H D = some (.lst ys) → Pv i ys H → te (some (.str ⟨#[c]⟩) :: capσ cp σ) H (Nxt D Pv i ys))
    (hd : ∀ ys H, H D = some (.lst ys) → Pv x.cps.size ys H → Q (.ref D) H) : tLoop cp tYes te σ (Its x) D Q H1 :=
  comp_it (n := x.cps.size) Pv h0 (fun i ys H _ _ => ⟨fun h => h, fun h => by subst h; exact Nat.le_refl _⟩) (fun i ys H v H' hi hD p y => by
    obtain ⟨e, c, hc, rfl⟩ := y
    subst e
    exact hs i c ys _ hc hD p) hd
end L2

namespace L2
open PySem PySem.Spec PyProof.Rows

/-! ### the kinds of plain things, isinstance of them -/
inductive Kd where
  | non | bl | int | str | lst | tup | dct
  deriving DecidableEq
def Kd.nm : Kd → String
  | .non => "NoneType" | .bl => "bool" | .int => "int" | .str => "str" | .lst => "list" | .tup => "tuple" | .dct => "dict"
theorem kit_int (K : PySem.W.Frag) (a : Kd) : PySem.W.kitOne K (.type a.nm) (.type "int") = some (decide (a = .int ∨ a = .bl)) := by cases a <;> kernel_rfl
theorem kit_bool (K : PySem.W.Frag) (a : Kd) : PySem.W.kitOne K (.type a.nm) (.type "bool") = some (decide (a = .bl)) := by cases a <;> kernel_rfl
theorem kit_str (K : PySem.W.Frag) (a : Kd) : PySem.W.kitOne K (.type a.nm) (.type "str") = some (decide (a = .str)) := by cases a <;> kernel_rfl
theorem kit_list (K : PySem.W.Frag) (a : Kd) : PySem.W.kitOne K (.type a.nm) (.type "list") = some (decide (a = .lst)) := by cases a <;> kernel_rfl
theorem kit_tuple (K : PySem.W.Frag) (a : Kd) : PySem.W.kitOne K (.type a.nm) (.type "tuple") = some (decide (a = .tup)) := by cases a <;> kernel_rfl
def kdD : PyData → Kd
  | .none => .non | .bool _ => .bl | .int _ => .int | .str _ => .str | .list _ => .lst | .tuple _ => .tup | .dict _ => .dct
/-- isinstance(x, T), T a built-in type -/
theorem call_isT {X : Cx} : CallR X (.builtin "isinstance") (fun xs H Q => ∃ x T d k, xs = [x, .ty T] ∧ Dt X.K H x d ∧ PySem.W.kitOne X.K (.type (kdD d).nm) (.type T) = some k ∧ Q (.bl k) H) := by
  intro pins s σ H xs us Q I r h
  obtain ⟨x, T, d, k, rfl, hd, e, q⟩ := h
  obtain ⟨u, c, rfl, r1, r2⟩ := r.two
  cases r2
  have fin : ∀ tk, EP X pins σ Q (.bool k) { s with toks := tk } := fun tk => ⟨.bl k, H, I.tok tk, rfl, q⟩
  cases hd with
  | non => cases r1; exact PySem.W.kia_one PySem.W.kitx_none I.kIn True.intro e (fun z => nomatch z) fin
  | bl b => cases r1; exact PySem.W.kia_one PySem.W.kitx_bool I.kIn True.intro e (fun z => nomatch z) fin
  | int i => obtain ⟨t, rfl⟩ := r1; exact PySem.W.kia_one PySem.W.kitx_int I.kIn True.intro e (fun z => nomatch z) fin
  | str z => obtain ⟨t, rfl⟩ := r1; exact PySem.W.kia_one PySem.W.kitx_str I.kIn True.intro e (fun z => nomatch z) fin
  | lst hq _ =>
    cases r1
    obtain ⟨its, _, ⟨o, n, eo, hc, _, _⟩, _⟩ := I.list hq
    exact PySem.W.kia_one PySem.W.kitx_list I.kIn ⟨o, eo, hc⟩ e (fun z => nomatch z) fin
  | tup hq _ =>
    cases r1
    obtain ⟨its, _, ⟨o, eo, hc, _⟩, _⟩ := I.tuple hq
    exact PySem.W.kia_one PySem.W.kitx_tuple I.kIn ⟨o, eo, hc⟩ e (fun z => nomatch z) fin
  | dK ea =>
    cases r1
    obtain ⟨_, _, vs, _, o, es, ep, h1, h2, _⟩ := I.hok _ _ ea
    exact PySem.W.kia_one PySem.W.kitx_dict I.kIn ⟨o, h1, h2.1⟩ e (fun z => nomatch z) fin
  | dT ea =>
    cases r1
    obtain ⟨_, _, zs, _, o, es, ep, h1, h2, _⟩ := I.hok _ _ ea
    exact PySem.W.kia_one PySem.W.kitx_dict I.kIn ⟨o, h1, h2.1⟩ e (fun z => nomatch z) fin

/-! ### no cell is caught -/
theorem caps0 {X : Cx} {scope : Scope} (kind : scope.kind = .function := by rfl) (plain : ∀ y ∈ scope.names, y.2 = .local ∨ y.2 = .globalImplicit := by decide) (names : ∀ y ∈ scope.names, y.2 = .local → scope.names.lookup y.1 = some .local := by decide +kernel) : Caps X scope [] [] where
  kind := kind
  nocell := fun y hy z => by rcases plain y hy with h | h <;> rw [h] at z <;> cases z
  names := names
  clos := closureFor_none fun y hy z => by rcases plain y hy with h | h <;> rw [h] at z <;> cases z
  sub := fun x c e => by cases e
  has := fun x h => by
    have hm : ∀ (k : NameKind), (relabel scope X.env).names.lookup x = some k → k = .local ∨ k = .globalImplicit := fun k e => by
      have m := PySem.mem_of_lookup e
      unfold relabel at m
      obtain ⟨⟨n, k'⟩, hy, e'⟩ := List.mem_map.mp m
      have q := plain _ hy
      have nf : (k' == NameKind.free) = false := by rcases q with h | h <;> (have h' : k' = _ := h; subst h'; rfl)
      simp only [nf, Bool.false_and, Bool.false_eq_true, if_false] at e'
      have : k' = k := congrArg (·.2) e'
      rw [← this]
      exact q
    rcases h with h | h
    · rcases hm _ h with z | z <;> cases z
    · rcases hm _ h with z | z <;> cases z
  at' := fun p hp => by cases hp

/-! ### a def of the text -/
structure Def (K : PySem.W.Frag) (mg : Str → Option Value) (x : Str) (st : Stmt) : Prop where
  ex : ∃ f fd, Fun K x x st f fd ∧ mg x = some (.ref f)
section
variable {P : Program} {w : World} {K : PySem.W.Frag} {mg : Str → Option Value} {base : Heap}
theorem top_def {h : Heap} {x : Str} {st : Stmt} {f : Addr} {oc : Value} {od an : Option Addr} {osl : Array (Option Value)} {kV doc pm cdv ct : Value} (X : K.In h) (G : h.Ns mainGlobals mg) (a : PySem.W.nsIn K mainGlobals x = some (some (.ref f)))
    (l : K.lookup f = some ⟨oc, od, .func (PySem.W.fnOf x x (defArgs st) (defBody st) (defScope st) .none kV doc pm an cdv ct), osl⟩) (c : PySem.W.codeIn K cdv x = true) (k : PySem.W.keepIn K (.ref f) = true) : Def K mg x st :=
  ⟨f, _, fun_mk l c k, PySem.W.mg_of X G a⟩
theorem Def.known {x : Str} {st : Stmt} {N ps : List Str} {k : Nat} {sp : Sp} (D : Def K mg x st) (S : FnScope N ps (defScope st))
    (hb : ∀ (kV doc pm : Value) (an : Option Addr) (cdv ct : Value) (us : List Value), us.length = ps.length → bindArgs (PySem.W.fnOf x x (defArgs st) (defBody st) (defScope st) .none kV doc pm an cdv ct) ⟨us, []⟩ = pure (ps.zip us))
    (len : ∀ vs H Q E, sp vs H Q E → vs.length = ps.length)
    (hbody : ∀ (f : Addr) (cdv : Value) (A : Around) (outer : List Env) (s : Shared) (H : Hp) (vs : List V) (Q : VK) (E : XK), Room k (A.deeper (envOfC x (defScope st) s.heap.objs.size f cdv)) → sp vs H Q E →
      ∃ t, PSs (cxOf CX0 P w K mg base N x (defScope st) f cdv A outer s H E).nox (defBody st) t ∧ t { nx := fun _ H' => Q .non H', rt := Q } (start N vs) H) : Known P w K mg base CX0 (k + 1) x ps sp := by
  obtain ⟨f, fd, F, hm⟩ := D.ex
  exact ⟨f, fd, F.ok S len fun cdv A outer s H vs Q E hr h => hbody f cdv A outer s H vs Q E hr h, hm, F.kp, F.binds hb⟩
end

/-! ### heaps that grow -/
theorem Same.new {H : Hp} {D : Addr} {o : HO} (h : H D = none) : Same H (upd H D o) := fun b u e => by rw [upd_ne (ne_of_none e h)]; exact e
/-- a new thing is turned -/
theorem Same.on {H H2 : Hp} {D : Addr} {o : HO} (e : Same H H2) (h : H D = none) : Same H (upd H2 D o) := fun b u z => by rw [upd_ne (ne_of_none z h)]; exact e b u z

/-! ### a new list, a new tuple of data -/
/-! ### texts -/
abbrev one (c : Nat) : Str := ⟨#[c]⟩
theorem at_some {α : Type} (xs : List α) (i : Int) (h0 : 0 ≤ i) (h : i < xs.length) : ∃ v, atI xs i = some v ∧ xs[i.toNat]? = some v := by
  have e : i = (i.toNat : Int) := by omega
  have hl : i.toNat < xs.length := by omega
  generalize i.toNat = j at e hl
  subst e
  exact ⟨_, atI_nat (List.getElem?_eq_getElem hl), List.getElem?_eq_getElem hl⟩
theorem at_map (ns : List Int) (i : Int) (h0 : 0 ≤ i) (h : i < ns.length) : atI (ns.map V.int) i = some (V.int (ns.getD i.toNat 0)) := by
  have e : i = (i.toNat : Int) := by omega
  have hl : i.toNat < ns.length := by omega
  generalize i.toNat = j at e hl
  subst e
  refine atI_nat ?_
  rw [List.getElem?_map, List.getElem?_eq_getElem hl]
  simp [List.getD, hl]

/-! ### data of texts and ints -/
theorem dt_strs {K : PySem.W.Frag} {H : Hp} : ∀ zs : List Str, DtAll K H (zs.map V.str) (zs.map PyData.str)
  | [] => .nil
  | z :: r => .cons (.str z) (dt_strs r)
theorem dt_ints {K : PySem.W.Frag} {H : Hp} : ∀ zs : List Int, DtAll K H (zs.map V.int) (zs.map PyData.int)
  | [] => .nil
  | z :: r => .cons (.int z) (dt_ints r)
theorem lay_ints : ∀ zs : List Int, PyData.canLayAll0 (zs.map PyData.int) = true ∧ PyData.depthAll (zs.map PyData.int) = 0
  | [] => ⟨rfl, rfl⟩
  | z :: r => by
    obtain ⟨h1, h2⟩ := lay_ints r
    constructor
    · rw [List.map_cons, PyData.canLayAll0, h1]; rfl
    · rw [List.map_cons, PyData.depthAll, h2]; rfl
theorem sl {n : Nat} (h : n ≤ 1000 := by simp) : n ≤ sizeLine := Nat.le_of_lt (small1000 h)

/-! ### names of Python's own -/
theorem b_all : bootBuiltins "all" = some (.builtin "all") := by kernel_rfl
theorem b_isinstance : bootBuiltins "isinstance" = some (.builtin "isinstance") := by kernel_rfl
theorem b_abs : bootBuiltins "abs" = some (.builtin "abs") := by kernel_rfl
theorem b_len : bootBuiltins "len" = some (.builtin "len") := by kernel_rfl
theorem b_int : bootBuiltins "int" = some (.type "int") := by kernel_rfl
theorem b_bool : bootBuiltins "bool" = some (.type "bool") := by kernel_rfl
theorem b_str : bootBuiltins "str" = some (.type "str") := by kernel_rfl
theorem b_list : bootBuiltins "list" = some (.type "list") := by kernel_rfl
theorem b_tuple : bootBuiltins "tuple" = some (.type "tuple") := by kernel_rfl
end L2

namespace L2
open PySem PySem.Spec PyProof.Rows

/-! ### exceptions -/
/-- what passing through the frames fs changes: the exception's own objects, the frames' slots -/
structure Flew (fs own : List Addr) (h h' : Heap) : Prop where
  keep : ∀ b o, b ∉ own → b ∉ fs → h.get? b = some o → h'.get? b = some o
  slot : ∀ b o, b ∉ own → h.get? b = some o → ∃ sl, h'.get? b = some { o with slots := sl }
section
variable {M : Model} {A : Around} {E : Value → Shared → Prop} {s : Shared} {base : Heap} {env : Env} {outer : List Env} {L ea T : Addr} {C : Value}
end
end L2

namespace L2
open PySem PySem.Spec PyProof.Rows

section
variable {P : Program} {w : World} {K : PySem.W.Frag} {mg : Str → Option Value} {base : Heap} {N : List Str} {qual : Str} {scope : Scope} {f : Addr} {cd : Value} {A : Around} {outer : List Env} {s : Shared} {H : Hp} {E : XK}
end

/-! ### raise C(..), C an own class below ValueError -/
section
variable {P : Program} {w : World} {K : PySem.W.Frag} {mg : Str → Option Value} {base : Heap} {N : List Str} {qual : Str} {scope : Scope} {f : Addr} {cd : Value} {A : Around} {outer : List Env} {s : Shared} {H : Hp} {E : XK}
end
end L2

namespace L2
open PySem PySem.Spec PyProof.Rows

/-! ### try .. except C as n -/
section
variable {X : Cx} {pins : List (Addr × Obj)} {σ : St} {H : Hp} {s : Shared}
end
section
variable {X : Cx} {pins : List (Addr × Obj)} {σ : St} {H : Hp} {s : Shared}
end
/-! ### isinstance of a caught exception -/
structure ExcK (K : PySem.W.Frag) (C : Addr) : Prop where
  hga : PySem.W.findIn K (.ref C) "__getattribute__" = some (some (.builtin "BaseException.__getattribute__"))
  hk : PySem.W.findIn K (.ref C) "__getattr__" = some none
  hc : ∃ cd, PySem.W.clsIn K C = some cd
  ha : PySem.W.findIn K (.ref C) "__class__" = some (some (.builtin "object.__class__"))
  hn : PySem.W.specialIn K (.builtin "object.__class__") "__get__" = some (some (.builtin "getset_descriptor.__get__"))
  ht : PySem.W.takesIn K (.builtin "object.__class__") = some true
  hm : PySem.W.mroIn K C (.type "object") = some true
  hb : PySem.W.mroIn K C (.type "BaseException") = some true
end L2

namespace L2
open PySem PySem.Spec PyProof.Rows
/-! ### a slice of a text -/
end L2

namespace L2
open PySem PySem.Spec PyProof.Rows
/-! ### list(range(n)), list(d) -/
section
variable {X : Cx}
end
/-- the j-th statement of a class's body -/
def inCls (s : Stmt) (j : Nat) : Stmt := match s with
  | .ClassDef _ _ _ body _ _ _ _ _ _ _ => body.getD j (.Pass ⟨0, 0, 0, 0⟩)
  | _ => .Pass ⟨0, 0, 0, 0⟩
/-! ### methods and classes, by what they promise -/
structure KnownM (P : Program) (w : World) (K : PySem.W.Frag) (mg : Str → Option Value) (base : Heap) (CX : CXT) (k : Nat) (C : Addr) (m : Str) (ps : List Str) (sp : Sp) : Prop where
  ex : ∃ f fd, FnOk P w K mg base CX k f fd ps sp ∧ Meth K C m f ∧ Binds K fd ps []
structure KnownI (P : Program) (w : World) (K : PySem.W.Frag) (mg : Str → Option Value) (base : Heap) (CX : CXT) (k : Nat) (C : Addr) (ps : List Str) (sp : Sp) : Prop where
  ex : ∃ f fd, FnOk P w K mg base CX k f fd ps sp ∧ Mk K C f ∧ Binds K fd ps []
structure Mth (K : PySem.W.Frag) (C : Addr) (m qual : Str) (st : Stmt) : Prop where
  ex : ∃ f fd, Fun K m qual st f fd ∧ PySem.W.findIn K (.ref C) m = some (some (.ref f)) ∧ PySem.W.isFn K (.ref f) = true
section
variable {P : Program} {w : World} {K : PySem.W.Frag} {mg : Str → Option Value} {base : Heap} {C : Addr}
theorem mth_mk {m qual : Str} {st : Stmt} {f : Addr} {oc : Value} {od an : Option Addr} {osl : Array (Option Value)} {kV doc pm cdv ct : Value} (a : PySem.W.findIn K (.ref C) m = some (some (.ref f))) (i : PySem.W.isFn K (.ref f) = true)
    (l : K.lookup f = some ⟨oc, od, .func (PySem.W.fnOf m qual (defArgs st) (defBody st) (defScope st) .none kV doc pm an cdv ct), osl⟩) (c : PySem.W.codeIn K cdv qual = true) (k : PySem.W.keepIn K (.ref f) = true) : Mth K C m qual st :=
  ⟨f, _, fun_mk l c k, a, i⟩
theorem Mth.known {m qual : Str} {st : Stmt} {N ps : List Str} {k : Nat} {sp : Sp} (D : Mth K C m qual st) (S : FnScope N ps (defScope st))
    (hb : ∀ (kV doc pm : Value) (an : Option Addr) (cdv ct : Value) (us : List Value), us.length = ps.length → bindArgs (PySem.W.fnOf m qual (defArgs st) (defBody st) (defScope st) .none kV doc pm an cdv ct) ⟨us, []⟩ = pure (ps.zip us))
    (len : ∀ vs H Q E, sp vs H Q E → vs.length = ps.length)
    (hbody : ∀ (f : Addr) (cdv : Value) (A : Around) (outer : List Env) (s : Shared) (H : Hp) (vs : List V) (Q : VK) (E : XK), Room k (A.deeper (envOfC qual (defScope st) s.heap.objs.size f cdv)) → sp vs H Q E →
      ∃ t, PSs (cxOf CX0 P w K mg base N qual (defScope st) f cdv A outer s H E).nox (defBody st) t ∧ t { nx := fun _ H' => Q .non H', rt := Q } (start N vs) H) : KnownM P w K mg base CX0 (k + 1) C m ps sp := by
  obtain ⟨f, fd, F, ha, hi⟩ := D.ex
  exact ⟨f, fd, F.ok S len fun cdv A outer s H vs Q E hr h => hbody f cdv A outer s H vs Q E hr h, ⟨ha, hi, F.kp⟩, F.binds hb⟩
theorem KnownM.init {CX : CXT} {k : Nat} {ps : List Str} {sp : Sp} (G : KnownM P w K mg base CX k C "__init__" ps sp) (mk : PySem.W.makesIn K C = true) (kc : PySem.W.keepIn K (.ref C) = true) : KnownI P w K mg base CX k C ps sp := by
  obtain ⟨f, fd, F, hm, hb⟩ := G.ex
  exact ⟨f, fd, F, ⟨mk, hm.at_, hm.fn, kc⟩, hb⟩
end
section
variable {X : Cx} {CX : CXT} {k : Nat} {C : Addr} {ps : List Str} {sp : Sp} {E : XK} {x m : Str} {p pos apos : Pos} {e o : Expr} {es : List Expr} {t : TA} {ta : TE}
theorem pe_makeN (G : KnownI X.prog X.w X.K X.mg X.base CX k C ps sp) (hr : Room (k + 1) X.A) (hm : X.mg x = some (.ref C)) (hx : Passes CX X E)
    (ha : PA X (e :: es) t) (hg : Gl X x := by rfl) (hdb : (x == ("__debug__" : Str)) = false := by decide) (he : starEach (e :: es) X.env = (false, eval e X.env) :: starEach es X.env := by rfl) (hpl : (backTo pos (starEach es X.env)).any (·.1) = false := by rfl) :
    PE X (.Call (.Name x p) (e :: es) [] pos) (tMake C sp [] E t) := by
  obtain ⟨f, fd, F, M, hb⟩ := G.ex
  exact pe_make M F hr hg hm hb .nil hx ha hdb he hpl
end
end L2

namespace L2
open PySem PySem.Spec PyProof.Rows
/-! ### what a comprehension catches -/
def clFold (cells : List (Str × Addr)) : List (Str × NameKind) → List (Str × Addr) → List (Str × Addr)
  | [], acc => acc
  | (n, k) :: r, acc => clFold cells r (if k == .free then (n, (cells.lookup n).getD 0) :: acc else acc)
theorem closureFor_fold {env : Env} : ∀ {names : List (Str × NameKind)} {acc : List (Str × Addr)}, (∀ y ∈ names, y.2 = .free → ∃ c, env.cells.lookup y.1 = some c) →
    (forIn names acc fun (x : Str × NameKind) (cs : List (Str × Addr)) => (do
      let (name, kind) := x
      if kind == NameKind.free then (do let a ← cellOf env name; pure (ForInStep.yield ((name, a) :: cs))) else pure (ForInStep.yield cs) : Sem (ForInStep (List (Str × Addr))))) = pure (clFold env.cells names acc)
  | [], acc, _ => rfl
  | (n, k) :: r, acc, h => by
    rw [List.forIn_cons]
    by_cases hk : (k == NameKind.free) = true
    · obtain ⟨c, hc⟩ := h (n, k) List.mem_cons_self (by simpa using hk)
      have e : cellOf env n = pure c := by unfold cellOf; rw [show env.cells.lookup n = some c from hc]
      have ih := closureFor_fold (env := env) (names := r) (acc := (n, c) :: acc) fun y hy => h y (List.mem_cons_of_mem _ hy)
      show (do let r ← (if k == NameKind.free then (do let a ← cellOf env n; pure (ForInStep.yield ((n, a) :: acc))) else pure (ForInStep.yield acc) : Sem (ForInStep (List (Str × Addr)))); _) = _
      rw [if_pos hk, e, pure_bind, pure_bind]
      refine Eq.trans ih ?_
      show _ = pure (clFold env.cells r (if (k == NameKind.free) = true then (n, (env.cells.lookup n).getD 0) :: acc else acc))
      rw [if_pos hk, show env.cells.lookup n = some c from hc]
      rfl
    · have ih := closureFor_fold (env := env) (names := r) (acc := acc) fun y hy => h y (List.mem_cons_of_mem _ hy)
      show (do let r ← (if k == NameKind.free then (do let a ← cellOf env n; pure (ForInStep.yield ((n, a) :: acc))) else pure (ForInStep.yield acc) : Sem (ForInStep (List (Str × Addr)))); _) = _
      rw [if_neg hk, pure_bind]
      refine Eq.trans ih ?_
      show _ = pure (clFold env.cells r (if (k == NameKind.free) = true then (n, (env.cells.lookup n).getD 0) :: acc else acc))
      rw [if_neg hk]
theorem clFold_sub {cells : List (Str × Addr)} : ∀ {names : List (Str × NameKind)} {acc : List (Str × Addr)}, (∀ y ∈ names, y.2 = .free → ∃ c, cells.lookup y.1 = some c) → (∀ x c, acc.lookup x = some c → cells.lookup x = some c) →
    ∀ x c, (clFold cells names acc).lookup x = some c → cells.lookup x = some c
  | [], _, _, h => h
  | (n, k) :: r, acc, hf, h => by
    refine clFold_sub (names := r) (fun y hy => hf y (List.mem_cons_of_mem _ hy)) ?_
    intro x c e
    by_cases hk : (k == NameKind.free) = true
    · obtain ⟨c', hc⟩ := hf (n, k) List.mem_cons_self (by simpa using hk)
      have hc' : cells.lookup n = some c' := hc
      rw [if_pos hk, hc', List.lookup_cons] at e
      by_cases hx : (x == n) = true
      · rw [hx] at e
        cases e
        have : x = n := by simpa using hx
        rw [this]
        exact hc'
      · rw [show (x == n) = false by simpa using hx] at e
        exact h x c e
    · rw [if_neg hk] at e
      exact h x c e
theorem clFold_keep {cells : List (Str × Addr)} : ∀ {names : List (Str × NameKind)} {acc : List (Str × Addr)} {x : Str}, (∃ c, acc.lookup x = some c) → ∃ c, (clFold cells names acc).lookup x = some c
  | [], _, _, h => h
  | (n, k) :: r, acc, x, ⟨c, h⟩ => by
    refine clFold_keep (names := r) ?_
    by_cases hk : (k == NameKind.free) = true
    · rw [if_pos hk, List.lookup_cons]
      cases hx : x == n with
      | true => exact ⟨_, rfl⟩
      | false => exact ⟨c, h⟩
    · rw [if_neg hk]
      exact ⟨c, h⟩
theorem clFold_has {cells : List (Str × Addr)} : ∀ {names : List (Str × NameKind)} {acc : List (Str × Addr)} {x : Str}, (x, NameKind.free) ∈ names → ∃ c, (clFold cells names acc).lookup x = some c
  | (n, k) :: r, acc, x, h => by
    rcases List.mem_cons.mp h with e | h
    · cases e
      refine clFold_keep (names := r) ⟨(cells.lookup n).getD 0, ?_⟩
      rw [if_pos (by rfl), List.lookup_cons, beq_self_eq_true]
    · exact clFold_has (names := r) h
theorem relabel_kind {env : Env} : ∀ {names : List (Str × NameKind)} {x : Str}, names.lookup x = some .free →
    (names.map fun (n, k) => if (k == NameKind.free && env.scope.kind == .function && env.kindOf n == some .cell) then (n, NameKind.cell) else (n, k)).lookup x = some .cell ∨
    (names.map fun (n, k) => if (k == NameKind.free && env.scope.kind == .function && env.kindOf n == some .cell) then (n, NameKind.cell) else (n, k)).lookup x = some .free
  | [], _, h => by simp at h
  | (n, k) :: r, x, h => by
    have ih := @relabel_kind env r x
    rw [List.lookup_cons] at h
    rw [List.map_cons]
    cases hx : x == n with
    | true =>
      rw [hx] at h
      cases h
      by_cases hc : (NameKind.free == NameKind.free && env.scope.kind == .function && env.kindOf n == some .cell) = true
      · simp only [hc, if_true, List.lookup_cons, hx]
        exact .inl trivial
      · simp only [hc, if_false, List.lookup_cons, hx, Bool.false_eq_true]
        exact .inr trivial
    | false =>
      rw [hx] at h
      by_cases hc : (k == NameKind.free && env.scope.kind == .function && env.kindOf n == some .cell) = true
      · simp only [hc, if_true, List.lookup_cons, hx]
        exact ih h
      · simp only [hc, if_false, List.lookup_cons, hx, Bool.false_eq_true]
        exact ih h
theorem caps_of {X : Cx} {scope : Scope} {cp : List (Nat × Str)} {sc : Scope} {N : List Str} (hcell : ∀ x, X.env.scope.names.lookup x = some .cell → ∃ c, X.env.cells.lookup x = some c) (hs : X.env.scope = sc := by rfl) (hN : X.N = N := by rfl)
    (kind : scope.kind = .function := by rfl) (plain : ∀ y ∈ scope.names, y.2 ≠ .cell := by decide) (names : ∀ y ∈ scope.names, y.2 = .local → scope.names.lookup y.1 = some .local := by decide +kernel)
    (free : ∀ y ∈ scope.names, y.2 = .free → sc.names.lookup y.1 = some .cell := by decide +kernel) (at' : ∀ p ∈ cp, N[p.1]? = some p.2 ∧ sc.names.lookup p.2 = some .cell ∧ scope.names.lookup p.2 = some .free := by decide +kernel) :
    Caps X scope (clFold X.env.cells scope.names []) cp := by
  subst hs hN
  have hf : ∀ y ∈ scope.names, y.2 = .free → ∃ c, X.env.cells.lookup y.1 = some c := fun y hy e => hcell _ (free y hy e)
  refine ⟨kind, plain, names, ?_, clFold_sub hf (fun x c e => by cases e), fun x h => ?_, fun p hp => ?_⟩
  · show closureFor scope X.env = _
    simp only [closureFor]
    have := closureFor_fold (env := X.env) (acc := []) hf
    exact (congrArg (fun z => z >>= fun r => pure r) this).trans (pure_bind _ _)
  · have hm : ∀ k, (relabel scope X.env).names.lookup x = some k → (k = .cell ∨ k = .free) → (x, NameKind.free) ∈ scope.names := fun k e hk => by
      have m := PySem.mem_of_lookup e
      unfold relabel at m
      obtain ⟨⟨n, k'⟩, hy, e'⟩ := List.mem_map.mp m
      have nc := plain _ hy
      by_cases hc : (k' == NameKind.free && X.env.scope.kind == .function && X.env.kindOf n == some .cell) = true
      · simp only [hc, if_true] at e'
        have e1 : n = x := congrArg (·.1) e'
        have : k' = .free := by simp only [Bool.and_eq_true, beq_iff_eq] at hc; exact hc.1.1
        subst e1 this
        exact hy
      · simp only [hc, if_false, Bool.false_eq_true] at e'
        have e1 : n = x := congrArg (·.1) e'
        have e2 : k' = k := congrArg (·.2) e'
        subst e1 e2
        rcases hk with z | z
        · exact absurd z nc
        · subst z; exact hy
    rcases h with h | h
    · exact clFold_has (hm _ h (.inl rfl))
    · exact clFold_has (hm _ h (.inr rfl))
  · obtain ⟨h1, h2, h3⟩ := at' p hp
    exact ⟨h1, .inl h2, relabel_kind h3⟩
end L2

namespace L2
open PySem PySem.Spec PyProof.Rows PySem.Builtin PySem.Builtin.Str
/-! ### what a slice of a text is -/
end L2

namespace L2
open PySem PySem.Spec PyProof.Rows
/-! ### for over a dict: it stands still while it is walked -/
section
variable {X : Cx} {pins : List (Addr × Obj)} {σ : St} {H : Hp} {s : Shared} {d : Addr}
end
section
variable {X : Cx} {tg : Expr}
end
end L2

namespace L2
open PySem PySem.Spec PyProof.Rows
/-! ### list.insert -/
section
variable {X : Cx}
/-! ### dict(d) -/
/-! ### d != e, where both hold the same things -/
end
/-! ### for k, v in d.items() -/
section
variable {X : Cx} {elts : List Expr} {x1 : Nat} {tpos apos pos : Pos}
end
/-! ### xs != [], xs[::-1], what is never come to -/
section
variable {X : Cx} {e st : Expr} {te : TE} {ts : TO} {p2 pos : Pos}
theorem ps_dead {st : Stmt} : PS X st (fun _ _ _ => False) := fun _ _ _ _ _ _ h => h.elim
end
end L2

namespace L2
open PySem PySem.Spec PyProof.Rows
/-! ### lambdas: the table of the code that makes them is tracked by what is true of it -/
/-- what the base tells of the code that makes lambdas -/
structure Maker (mg : Str → Option Value) (base : Heap) (c P : Addr) : Prop where
  hd : PySem.W.CodeHd base c P
  bt : base.BuiltinsAt mg P
section
variable {X : Cx}
theorem triples_app : ∀ {xs : List Value} {l c : Nat} {a : Addr}, TriplesOk xs → TriplesOk (xs ++ [rawInt l, rawInt c, .ref a])
  | [], _, _, _, _ => trivial
  | .int _ _ :: .int _ _ :: _ :: rest, _, _, _, t => triples_app (xs := rest) t
theorem triples_more {ps : Array Value} {l c : Nat} {a : Addr} (t : TriplesOk ps.toList) : TriplesOk (ps ++ #[rawInt l, rawInt c, .ref a]).toList := by
  rw [Array.toList_append]
  exact triples_app t
end
/-! ### the head, with tables -/
/-- a def whose code's table stands in the written part -/
structure TabOf (q : Program) (K : PySem.W.Frag) (z : Addr × Addr) : Prop where
  ex : ∃ x : Str, ((recsOf q).find? (fun e => e.name == x)).isSome = true ∧ PySem.W.tabIn K x = some z
theorem noTab {K : PySem.W.Frag} {h : Heap} {a : Addr} {ps : Array Value} (hK : PySem.W.noTabs K = true) (X : K.In h) (e : h.get? a = some (PySem.W.tabObj ps)) : K.lookup a = none := by
  cases q : K.lookup a with
  | none => rfl
  | some o =>
    have e2 := X a o q
    rw [e] at e2
    cases e2
    have h2 := List.all_eq_true.mp hK (a, _) (PySem.W.mem_of_lookupK q)
    exact absurd (show false = true from h2) Bool.false_ne_true
end L2

namespace L2
open PySem PySem.Spec PyProof.Rows
/-! ### C.m(x, ..): a method called through its class -/
/-- what the written part tells of a class whose method m is read from it -/
structure ClsM (K : PySem.W.Frag) (C : Addr) (m : Str) : Prop where
  ga : PySem.W.specialIn K (.ref C) "__getattribute__" = some (some (.builtin "type.__getattribute__"))
  ex : ∃ (mc : Value) (f : Addr), PySem.W.readsIn K C mc = true ∧ PySem.W.findCls K (.ref C) mc m = some (.val (.ref f)) ∧ PySem.W.findIn K (.ref C) m = some (some (.ref f))
section
variable {X : Cx} {CX : CXT} {k : Nat} {C : Addr} {ps : List Str} {sp : Sp} {E : XK} {x m : Str} {p pos apos : Pos} {e o : Expr} {es : List Expr} {t : TA} {ta : TE}
theorem pe_clsN {pl : Sem Bool} (he : PE X o (tC (.ref C))) (c : ClsM X.K C m) (G : KnownM X.prog X.w X.K X.mg X.base CX k C m ps sp) (hr : Room k X.A) (hx : Passes CX X E) (ha : PA X (e :: es) t)
    (hst : starEach (e :: es) X.env = (false, eval e X.env) :: starEach es X.env := by rfl) (hpl : (backTo pos (starEach es X.env)).any (·.1) = false := by rfl)
    (ht : eval (.Call (.Attribute o m apos) (e :: es) [] pos) X.env = (do
      let ov ← eval o X.env
      standAt apos.atName
      let (f, first) ← holding [ov] (getMethod ov m pl)
      callWith pos f first (backTo pos (starEach (e :: es) X.env)) (backToKw pos (keywordEach [] X.env))) := by rfl) :
    PE X (.Call (.Attribute o m apos) (e :: es) [] pos) (tCall sp [] E t) := by
  obtain ⟨f, fd, F, hm, hb⟩ := G.ex
  intro pins s σ H Q I h
  refine PySem.W.methodCall_KW (pl := pl) (thn (he pins s σ H (fun v H1 => v = .ref C ∧ H1 = H) I ⟨rfl, rfl⟩) fun u s1 ⟨x, H1, I1, rx, q⟩ => ?_) ht
  obtain ⟨rfl, rfl⟩ := q
  obtain rfl : u = Value.ref C := rx
  obtain ⟨mc, f', h1, h2, h3⟩ := c.ex
  have e1 := hm.at_
  rw [h3] at e1
  cases e1
  refine PySem.W.method_cls I1.kIn c.ga (PySem.W.cls_value I1.kIn h1 h2 rfl ?_)
  refine PySem.W.callWith_K (first := []) (h₀ := X.base) I.ok.mod.kin hm.kp (thn (ha pos pins _ σ _ _ (I1.tok _) h) fun us s2 ⟨vs, H2, I2, r, q2⟩ => ⟨I2.kIn, ?_⟩) hst hpl
  exact run_fn (us := us) (vs := vs) F hr hb .nil hx I2 r q2
end
end L2
namespace L2
open PySem PySem.Spec PyProof.Rows
/-! ### a def that makes lambdas: its code's table -/
structure DefT (K : PySem.W.Frag) (mg : Str → Option Value) (x : Str) (st : Stmt) (z : Addr × Addr) : Prop where
  ex : ∃ f fd, Fun K x x st f fd ∧ mg x = some (.ref f) ∧ fd.code = .ref z.1
  tab : PySem.W.tabIn K x = some z
section
variable {P : Program} {w : World} {K : PySem.W.Frag} {mg : Str → Option Value} {base : Heap}
theorem tab_mk {x : Str} {f c p : Addr} {oc wo : Value} {od wd : Option Addr} {fd : FuncData} {osl ws : Array (Option Value)} {vs : Array Value} (a : PySem.W.nsIn K mainGlobals x = some (some (.ref f)))
    (l : K.lookup f = some ⟨oc, od, .func fd, osl⟩) (hc : fd.code = .ref c) (w : K.lookup c = some ⟨wo, wd, .fields vs, ws⟩) (h : vs[11]? = some (.ref p)) : PySem.W.tabIn K x = some (c, p) := by
  unfold PySem.W.tabIn
  rw [a]
  dsimp only
  rw [l]
  dsimp only
  rw [hc]
  dsimp only
  rw [w]
  dsimp only
  rw [h]
theorem top_defT {h : Heap} {x : Str} {st : Stmt} {f c p : Addr} {oc wo : Value} {od an wd : Option Addr} {osl ws : Array (Option Value)} {kV doc pm ct : Value} {vs : Array Value} (X : K.In h) (G : h.Ns mainGlobals mg) (a : PySem.W.nsIn K mainGlobals x = some (some (.ref f)))
    (l : K.lookup f = some ⟨oc, od, .func (PySem.W.fnOf x x (defArgs st) (defBody st) (defScope st) .none kV doc pm an (.ref c) ct), osl⟩) (hc : PySem.W.codeIn K (.ref c) x = true) (k : PySem.W.keepIn K (.ref f) = true)
    (w : K.lookup c = some ⟨wo, wd, .fields vs, ws⟩) (t : vs[11]? = some (.ref p)) : DefT K mg x st (c, p) :=
  ⟨⟨f, _, fun_mk l hc k, PySem.W.mg_of X G a, rfl⟩, tab_mk a l rfl w t⟩
end
end L2

namespace L2
open PySem PySem.Spec PyProof.Rows
/-! ### text.index(text) -/
end L2

namespace L2
open PySem PySem.Spec PyProof.Rows
/-! ### x in a list, by the data -/
section
variable {X : Cx}
theorem op_inD (hu : X.A.units + 64 < cLine) : OpR X (compareOp .In) (fun x y H Q => ∃ d ds, Dt X.K H x d ∧ Dt X.K H y (.list ds) ∧ d.canLay0 = true ∧ (PyData.list ds).canLay0 = true ∧ d.depth ≤ 62 ∧ Q (.bl (ds.any fun z => PyData.eqv z d)) H) := by
  intro pins s σ H x y v u Q I rx ry h
  obtain ⟨d, ds, hx, hy, lx, ly, hd, q⟩ := h
  obtain ⟨as, ra⟩ := Dt.reads I hx rx lx
  obtain ⟨bs, rb⟩ := Dt.reads I hy ry ly
  exact SeqAt.in_list_reads rb ra ly lx (by have := Nat.min_le_right (PyData.depthAll ds) d.depth; omega) ⟨.bl _, H, I, rfl, q⟩
end
/-! ### spots: pairs of texts -/
end L2

namespace L2
open PySem PySem.Spec PyProof.Rows
/-! ### lambdas that are called -/
/-- a thing that is known to the object, and nothing more -/
def Fz (o : Obj) : HO := .frz o (.ext fun _ => True)
theorem fz_ok {P : Program} {w : World} {H : Hp} {h : Heap} {a : Addr} {o : Obj} (e : h.get? a = some o) : ObjOk P w H h a (Fz o) := ⟨e, trivial, ⟨o, e⟩, fun _ _ _ _ => trivial⟩
theorem fz_get {P : Program} {w : World} {H : Hp} {h : Heap} {a : Addr} {o : Obj} (x : HOk P w H h) (e : H a = some (Fz o)) : h.get? a = some o := (x a _ e).1
def CodeO (q : Str) (o : Obj) : Prop := ∃ vs t, o.data = .fields vs ∧ vs[1]? = some (.str q t)
/-- a code object's table: the code in it stands at S -/
def TabC (P : Addr) (S : List Addr) : HO := .ext fun h => ∃ ps : Array Value, h.get? P = some (PySem.W.tabObj ps) ∧ TriplesOk ps.toList ∧ ∀ pos cv, codeAmong pos ps.toList = some cv → ∃ c ∈ S, cv = .ref c
def TabIn (q : Str) (H : Hp) (P : Addr) : Prop := ∃ S, H P = some (TabC P S) ∧ ∀ c ∈ S, ∃ o, H c = some (Fz o) ∧ CodeO q o
def LamAt (q : Str) (params : Arguments) (body : Expr) (scope : Scope) (clos : List (Str × Addr)) (H : Hp) (fa : Addr) : Prop :=
  ∃ pm c ctv o, H fa = some (Fz (PySem.W.kla_obj "<lambda>" q params body scope clos pm c ctv)) ∧ H c = some (Fz o) ∧ CodeO q o
theorem tabC_ok {P : Program} {w : World} {H : Hp} {h : Heap} {a : Addr} {ps : Array Value} {S : List Addr} (e : h.get? a = some (PySem.W.tabObj ps)) (t : TriplesOk ps.toList) (c : ∀ pos cv, codeAmong pos ps.toList = some cv → ∃ c ∈ S, cv = .ref c) : ObjOk P w H h a (TabC a S) :=
  ⟨⟨ps, e, t, c⟩, ⟨_, e⟩, fun h1 h2 ⟨qs, e1, t1⟩ k => ⟨qs, k _ e1, t1⟩⟩
theorem among_app {pos : Pos} {l c : Nat} {a : Addr} {cv : Value} : ∀ {xs : List Value}, TriplesOk xs → codeAmong pos (xs ++ [rawInt l, rawInt c, .ref a]) = some cv → codeAmong pos xs = some cv ∨ cv = .ref a
  | [], _, h => by
    right
    simp only [List.nil_append, rawInt, codeAmong] at h
    split at h
    · exact (Option.some.inj h).symm
    · cases h
  | .int x _ :: .int y _ :: z :: rest, t, h => by
    simp only [List.cons_append, codeAmong] at h ⊢
    split at h
    · rename_i e
      rw [if_pos e]
      exact .inl h
    · rename_i e
      rw [if_neg e]
      exact among_app (xs := rest) t h
theorem hok_fz {P : Program} {w : World} {H : Hp} {h : Heap} {c : Addr} {o : Obj} (x : HOk P w H h) (hn : H c = none) (e : h.get? c = some o) : HOk P w (upd H c (Fz o)) h := fun b u q => by
  by_cases hb : b = c
  · subst hb; rw [upd_same] at q; cases q; exact fz_ok e
  · rw [upd_ne hb] at q
    exact (x b u q).stay (fun _ _ _ z => z) (fun d z => by rw [upd_ne (ne_of_none z hn)]; exact z) fun d xs z => by rw [upd_ne (ne_of_none z hn)]; exact z
/-- all but what stands at P is as it was -/
def SameX (P : Addr) (H H' : Hp) : Prop := ∀ b o, b ≠ P → H b = some o → H' b = some o
def tLamF (P : Addr) (q : Str) (params : Arguments) (body : Expr) (scope : Scope) (clos : List (Str × Addr)) : TE := fun _ H Q => TabIn q H P ∧ ∀ a H', H a = none → SameX P H H' → TabIn q H' P → LamAt q params body scope clos H' a → Q (.ref a) H'
section
variable {X : Cx}
theorem pe_lamF {params : Arguments} {body : Expr} {scope : Scope} {pos : Pos} {c P : Addr} {clos : List (Str × Addr)} (M : Maker X.mg X.base c P) (hc : X.env.code = .ref c) (hcl : closureFor scope X.env = pure clos) (hdef : defaultsOf params X.env = ([], [])) :
    PE X (.Lambda params body scope pos) (tLamF P (X.env.qual ++ "<lambda>") params body scope clos) := by
  intro pins s σ H Q I h
  obtain ⟨⟨S, hP, hS⟩, q⟩ := h
  obtain ⟨⟨ps, e, t, tc⟩, _, _⟩ := I.hok P _ hP
  have hg : s.heap.Ns mainGlobals X.mg := I.mod.glob.keeps I.bk
  have C := M.hd.keeps I.bk
  have hb : s.heap.BuiltinsAt X.mg P := let ⟨bm, o, b1, b2, b3, b4, b5, r⟩ := M.bt; ⟨bm, o, b1, b2, b3, b4, I.bk _ _ b5, r⟩
  have hgP : mainGlobals ≠ P := fun z => by
    obtain ⟨o, es, ep, e1, hd, _⟩ := hg
    rw [z, e] at e1; cases e1; cases hd
  refine PySem.W.kla_eval hdef ?_
  cases hf : codeAmong pos ps.toList with
  | none =>
    refine PySem.W.kla_makeFunction (mg := X.mg) hcl I.ok.glob hg hc C e t hf hgP hb fun c' ctv h' tk hx hge hlt hrec htb => ?_
    obtain ⟨c1, oc, vs, tq, ec, goc, doc, dq⟩ := hrec
    obtain rfl : c' = c1 := by cases ec; rfl
    have nP : ∀ b, H b = none → b ≠ P := fun b n z => by rw [z, hP] at n; cases n
    have hPlt : P < s.heap.objs.size := Heap.lt_size e
    have goc' : (h'.push (PySem.W.kla_obj "<lambda>" (X.env.qual ++ "<lambda>") params body scope clos ((X.mg "__name__").getD .none) c' ctv)).get? c' = some oc := Heap.get?_push_of_some _ goc
    have cP : c' ≠ P := Nat.ne_of_gt (Nat.lt_of_lt_of_le hPlt hge)
    have aP : h'.objs.size ≠ P := Nat.ne_of_gt (Nat.lt_of_lt_of_le hPlt (Nat.le_of_lt (Nat.lt_of_le_of_lt hge hlt)))
    have ac : h'.objs.size ≠ c' := Nat.ne_of_gt hlt
    have fr : ∀ b, s.heap.objs.size ≤ b → H b = none := fun b z => I.hok.fresh z
    have hk : ∀ b u, b ≠ P → s.heap.get? b = some u → (h'.push (PySem.W.kla_obj "<lambda>" (X.env.qual ++ "<lambda>") params body scope clos ((X.mg "__name__").getD .none) c' ctv)).get? b = some u := fun b u nb eb => Heap.get?_push_of_some _ (hx b u nb eb)
    have hok1 : HOk X.prog X.w (upd H P (TabC P (c' :: S))) (h'.push (PySem.W.kla_obj "<lambda>" (X.env.qual ++ "<lambda>") params body scope clos ((X.mg "__name__").getD .none) c' ctv)) :=
      I.hok.write (x := P) (e := P) (by rw [hP]; trivial) (.inl rfl) hk ⟨_, Heap.get?_push_of_some _ htb⟩ (tabC_ok (Heap.get?_push_of_some _ htb) (triples_more t) fun pos cv z => by
        rw [Array.toList_append] at z
        rcases among_app t z with z | z
        · obtain ⟨d, hd, r⟩ := tc pos cv z
          exact ⟨d, List.mem_cons_of_mem _ hd, r⟩
        · exact ⟨c', List.mem_cons_self, z⟩)
    have n1 : upd H P (TabC P (c' :: S)) c' = none := by rw [upd_ne cP]; exact fr _ hge
    have hok2 := hok_fz hok1 n1 goc'
    have n2 : upd (upd H P (TabC P (c' :: S))) c' (Fz oc) h'.objs.size = none := by rw [upd_ne ac, upd_ne aP]; exact fr _ (Nat.le_of_lt (Nat.lt_of_le_of_lt hge hlt))
    have hok3 := hok_fz hok2 n2 (Heap.get?_push_size _ rfl)
    have sm : ∀ b, b ≠ P → H b ≠ none → upd (upd (upd H P (TabC P (c' :: S))) c' (Fz oc)) h'.objs.size (Fz (PySem.W.kla_obj "<lambda>" (X.env.qual ++ "<lambda>") params body scope clos ((X.mg "__name__").getD .none) c' ctv)) b = H b := fun b z1 z2 => by
      have y1 : b ≠ h'.objs.size := fun z => z2 (by rw [z]; exact fr _ (Nat.le_of_lt (Nat.lt_of_le_of_lt hge hlt)))
      have y2 : b ≠ c' := fun z => z2 (by rw [z]; exact fr _ hge)
      rw [upd_ne y1, upd_ne y2, upd_ne z1]
    have sv : ∀ b o, b ≠ P → H b = some o → upd (upd (upd H P (TabC P (c' :: S))) c' (Fz oc)) h'.objs.size (Fz (PySem.W.kla_obj "<lambda>" (X.env.qual ++ "<lambda>") params body scope clos ((X.mg "__name__").getD .none) c' ctv)) b = some o := fun b o z1 z2 => by
      rw [sm b z1 (by rw [z2]; intro z; cases z)]; exact z2
    have J := I.step (h' := h'.push (PySem.W.kla_obj "<lambda>" (X.env.qual ++ "<lambda>") params body scope clos ((X.mg "__name__").getD .none) c' ctv)) (g' := s.gens) (t' := tk) (d' := s.drawn) (ch := []) (fun _ z => nomatch z)
      (fun b o _ _ _ eb n => hk b o (nP b n) eb) (fun b o _ _ _ eb n => ⟨o.slots, hk b o (nP b n) eb⟩)
      (fun b o _ eb n => by rw [upd_ne (Nat.ne_of_lt (Nat.lt_of_lt_of_le (Heap.lt_size eb) (Nat.le_of_lt (Nat.lt_of_le_of_lt hge hlt)))), upd_ne (Nat.ne_of_lt (Nat.lt_of_lt_of_le (Heap.lt_size eb) hge)), upd_ne (nP b n)]; exact n)
      (fun b o _ eb => by
        by_cases z : b = P
        · subst z; exact ⟨_, Heap.get?_push_of_some _ htb⟩
        · exact ⟨o, hk b o z eb⟩)
      (fun b xs z => sv b _ (fun y => by rw [y, hP] at z; cases z) z) (fun b o u z => sv b _ (fun y => by rw [y, hP] at z; cases z) z) (fun b ps z => ⟨#[], by rw [sv b _ (fun y => by rw [y, hP] at z; cases z) z]; simp⟩)
      (fun m ⟨o, es, ep, ho, r⟩ => ⟨o, es, ep, hk _ o (nP _ I.free) ho, r⟩) hok3 I.bare
    refine ⟨.ref h'.objs.size, _, J, rfl, q _ _ (fr _ (Nat.le_of_lt (Nat.lt_of_le_of_lt hge hlt))) (fun b o z1 z2 => sv b o z1 z2) ⟨c' :: S, ?_, fun d hd => ?_⟩ ⟨_, c', ctv, oc, upd_same, ?_, vs, tq, doc, dq⟩⟩
    · rw [upd_ne (Ne.symm aP), upd_ne (Ne.symm cP), upd_same]
    · rcases List.mem_cons.mp hd with rfl | hd
      · exact ⟨oc, by rw [upd_ne (Ne.symm ac), upd_same], vs, tq, doc, dq⟩
      · obtain ⟨o, e1, e2⟩ := hS d hd
        exact ⟨o, sv d _ (fun y => by rw [y, hP] at e1; cases e1) e1, e2⟩
    · rw [upd_ne (Ne.symm ac), upd_same]
  | some cv =>
    obtain ⟨d, hd, rfl⟩ := tc _ _ hf
    obtain ⟨od, e1, e2⟩ := hS d hd
    refine PySem.W.kla_makeFunctionHit (mg := X.mg) hcl I.ok.glob hg hc C e t hf hb fun ctv h' tk hk hsz => ?_
    have fr : H h'.objs.size = none := I.hok.fresh hsz
    have sv : ∀ b o, H b = some o → upd H h'.objs.size (Fz (PySem.W.kla_obj "<lambda>" (X.env.qual ++ "<lambda>") params body scope clos ((X.mg "__name__").getD .none) d ctv)) b = some o := fun b o z => by
      rw [upd_ne (ne_of_none z fr)]; exact z
    refine ⟨.ref h'.objs.size, _, I.laid (a := h'.objs.size) (o := Fz (PySem.W.kla_obj "<lambda>" (X.env.qual ++ "<lambda>") params body scope clos ((X.mg "__name__").getD .none) d ctv)) (fun b o eb => Heap.get?_push_of_some _ (hk b o eb)) hsz (fz_ok (Heap.get?_push_size _ rfl)), rfl,
      q _ _ fr (fun b o _ z => sv b o z) ⟨S, sv _ _ hP, fun d' hd' => ?_⟩ ⟨_, d, ctv, od, upd_same, sv _ _ e1, e2⟩⟩
    obtain ⟨o, e3, e4⟩ := hS d' hd'
    exact ⟨o, sv _ _ e3, e4⟩
end
end L2

namespace L2
open PySem PySem.Spec PyProof.Rows
/-! ### the maker's cells, lent to those that it calls -/
abbrev Lend := Addr → Option Obj
def lend (f : Lend) (H : Hp) : Hp := fun b => match f b with
  | some o => some (Fz o)
  | none => H b
def unl (f : Lend) (H : Hp) : Hp := fun b => match f b with
  | some _ => none
  | none => H b
theorem lend_at {f : Lend} {H : Hp} {b : Addr} {o : Obj} (e : f b = some o) : lend f H b = some (Fz o) := by unfold lend; rw [e]
theorem lend_no {f : Lend} {H : Hp} {b : Addr} (e : f b = none) : lend f H b = H b := by unfold lend; rw [e]
theorem unl_at {f : Lend} {H : Hp} {b : Addr} {o : Obj} (e : f b = some o) : unl f H b = none := by unfold unl; rw [e]
theorem unl_no {f : Lend} {H : Hp} {b : Addr} (e : f b = none) : unl f H b = H b := by unfold unl; rw [e]
section
variable {P : Program} {w : World} {H H' : Hp} {h h' : Heap} {f : Lend} {fs : List Addr}
theorem hok_lend (x : HOk P w H h) (hf : ∀ b o, f b = some o → H b = none ∧ h.get? b = some o) : HOk P w (lend f H) h := fun b u q => by
  have keep : ∀ c v, H c = some v → lend f H c = some v := fun c v z => by
    cases e : f c with
    | none => rw [lend_no e]; exact z
    | some o => rw [(hf c o e).1] at z; cases z
  cases e : f b with
  | none =>
    rw [lend_no e] at q
    exact (x b u q).stay (fun _ _ _ z => z) (fun c z => keep c _ z) fun c xs z => keep c _ z
  | some o =>
    rw [lend_at e] at q
    cases q
    exact fz_ok (hf b o e).2
theorem hok_unl (x : HOk P w H h) (hf : ∀ b o, f b = some o → H b = some (Fz o)) : HOk P w (unl f H) h := fun b u q => by
  cases e : f b with
  | some o => rw [unl_at e] at q; cases q
  | none =>
    rw [unl_no e] at q
    refine (x b u q).stay (fun _ _ _ z => z) (fun c z => ?_) fun c xs z => ?_
    · cases e2 : f c with
      | none => rw [unl_no e2]; exact z
      | some o => rw [hf c o e2] at z; cases z
    · cases e2 : f c with
      | none => rw [unl_no e2]; exact z
      | some o => rw [hf c o e2] at z; cases z
/-- what a lambda's body does to the heap without the cells, of the whole -/
theorem un_back (hf : ∀ b o, f b = some o → H b = some (Fz o)) (hok0 : HOk P w H h) (hfs : ∀ b ∈ fs, H b = none) (u : Un fs [] (unl f H) H' h h') (hok : HOk P w H' h') : Un fs [] H (lend f H') h h' ∧ HOk P w (lend f H') h' := by
  have fr : ∀ b o, f b = some o → H' b = none ∧ h'.get? b = some o := fun b o e => by
    have g := fz_get hok0 (hf b o e)
    exact ⟨u.free b o g (unl_at e) (by simp), u.keep b o g (unl_at e) (fun z => by have := hfs b z; rw [hf b o e] at this; cases this) (by simp)⟩
  have nf : ∀ b, H b = none → f b = none := fun b z => by
    cases e : f b with
    | none => rfl
    | some o => rw [hf b o e] at z; cases z
  have nz : ∀ b v, H b = some v → (∀ o, v ≠ Fz o) → f b = none := fun b v z ne => by
    cases e : f b with
    | none => rfl
    | some o => rw [hf b o e] at z; exact absurd (Option.some.inj z).symm (ne o)
  refine ⟨⟨fun b o e n hb hx => u.keep b o e (by rw [unl_no (nf b n)]; exact n) hb hx, fun b o e n hb hx => u.slot b o e (by rw [unl_no (nf b n)]; exact n) hb hx, fun b o e n hx => ?_, fun b o e hx => u.there b o e hx, fun b xs z => ?_, fun b o v z => ?_, fun b ps z => ?_⟩, hok_lend hok fr⟩
  · rw [lend_no (nf b n)]; exact u.free b o e (by rw [unl_no (nf b n)]; exact n) hx
  · have e := nz b _ z (fun o q => by cases q)
    rw [lend_no e]; exact u.tups b xs (by rw [unl_no e]; exact z)
  · cases e : f b with
    | none => rw [lend_no e]; exact u.frzs b o v (by rw [unl_no e]; exact z)
    | some o2 => rw [lend_at e, ← hf b o2 e]; exact z
  · have e := nz b _ z (fun o q => by cases q)
    rw [lend_no e]; exact u.tbls b ps (by rw [unl_no e]; exact z)
end
structure Lent (X : Cx) (σ : St) (H : Hp) (f : Lend) : Prop where
  free : ∀ b o, f b = some o → H b = none
  cell : ∀ x c, X.env.cells.lookup x = some c → ∃ o v, f c = some o ∧ o.data = .cell v
  val : ∀ (i : Nat) x v, X.N[i]? = some x → σ[i]? = some (some v) → X.env.scope.names.lookup x = some .cell → ∃ c o u, X.env.cells.lookup x = some c ∧ f c = some o ∧ o.data = .cell (some u) ∧ RelV v u
  inj : ∀ x y c, X.env.cells.lookup x = some c → X.env.cells.lookup y = some c → x = y
section
variable {X : Cx} {k : Nat} {C : Addr} {ps : List Str} {sp : Sp} {x m : Str} {p pos apos : Pos} {e o : Expr} {es : List Expr} {t : TA} {ta : TE}
end
/-! ### a lambda runs -/
structure LamFn (P : Program) (w : World) (K : PySem.W.Frag) (mg : Str → Option Value) (base : Heap) (k : Nat) (fa : Addr) (sp : Sp) : Prop where
  fn : ∀ vs H Q E, sp vs H Q E → ∃ c d fd sl, H fa = some (Fz ⟨c, d, .func fd, sl⟩)
  run : ∀ (A : Around) (outer : List Env) (s : Shared) (H : Hp) (us : List Value) (vs : List V) (Q : VK) (E : XK), Room k A → Env0 P w K mg base A outer s H → Vals vs us → sp vs H Q E →
    codeAny (model P w) A (.call (.ref fa) ⟨us, []⟩) (CR CX0 outer P w H s Q E) s
theorem LamFn.mono {P : Program} {w : World} {K : PySem.W.Frag} {mg : Str → Option Value} {base : Heap} {j k : Nat} {fa : Addr} {sp : Sp} (F : LamFn P w K mg base j fa sp) (h : j ≤ k) : LamFn P w K mg base k fa sp :=
  ⟨F.fn, fun A outer s H us vs Q E hr => F.run A outer s H us vs Q E (hr.mono h)⟩
theorem LamFn.imp {P : Program} {w : World} {K : PySem.W.Frag} {mg : Str → Option Value} {base : Heap} {k : Nat} {fa : Addr} {sp sp' : Sp} (F : LamFn P w K mg base k fa sp) (h : ∀ vs H Q E, sp' vs H Q E → sp vs H Q E) : LamFn P w K mg base k fa sp' :=
  ⟨fun vs H Q E z => F.fn vs H Q E (h _ _ _ _ z), fun A outer s H us vs Q E hr e0 r z => F.run A outer s H us vs Q E hr e0 r (h _ _ _ _ z)⟩
section
variable {X : Cx} {k : Nat} {x : Str} {p pos : Pos} {e : Expr} {es : List Expr} {t : TA}
end
end L2

namespace L2
open PySem PySem.Spec PyProof.Rows
/-! ### what a lambda promises -/
theorem lookup_mem {α : Type} {x : Str} {u : α} : ∀ {l : List (Str × α)}, (l.map (·.1)).Nodup → (x, u) ∈ l → l.lookup x = some u
  | (y, v) :: r, nd, h => by
    rw [List.map_cons, List.nodup_cons] at nd
    rw [List.lookup_cons]
    rcases List.mem_cons.mp h with e | h2
    · cases e; rw [beq_self_eq_true]
    · have : (x == y) = false := by
        cases z : x == y with
        | false => rfl
        | true =>
          have : x = y := by simpa using z
          subst this
          exact absurd (show x ∈ r.map (·.1) from List.mem_map.mpr ⟨(x, u), h2, rfl⟩) nd.1
      rw [this]
      exact lookup_mem nd.2 h2
theorem zip_get {ps : List Str} {us : List Value} {i : Nat} {x : Str} {u : Value} (nd : ps.Nodup) (hl : us.length = ps.length) (h1 : ps[i]? = some x) (h2 : us[i]? = some u) : (ps.zip us).reverse.lookup x = some u := by
  refine lookup_mem ?_ ?_
  · rw [List.map_reverse]
    refine List.pairwise_reverse.mpr ?_
    rw [List.map_fst_zip (by omega)]
    exact nd.imp Ne.symm
  · rw [List.mem_reverse]
    have : (ps.zip us)[i]? = some (x, u) := by rw [List.getElem?_zip_eq_some]; exact ⟨h1, h2⟩
    exact List.mem_of_getElem? this
/-- the context of a lambda's body -/
def cxLam (P : Program) (w : World) (K : PySem.W.Frag) (mg : Str → Option Value) (base : Heap) (N : List Str) (q : Str) (scope : Scope) (fa : Addr) (cd : Value) (clos : List (Str × Addr)) (A : Around) (outer : List Env) (s : Shared) (H : Hp) : Cx where
  prog := P
  w := w
  K := K
  mg := mg
  base := base
  A := A.deeper (PySem.W.envX q scope s.heap.objs.size fa cd clos)
  N := N
  s₀ := s
  H₀ := H
  env := PySem.W.envX q scope s.heap.objs.size fa cd clos
  outer := outer
  stack := PySem.W.envX q scope s.heap.objs.size fa cd clos :: outer
  ex := []
  calm := true
  fn := fun _ => false
  pn := []
  xe := fun _ _ => False
def spLam (fa : Addr) (f : Lend) (q : Str) (params : Arguments) (body : Expr) (scope : Scope) (clos : List (Str × Addr)) (n : Nat) (spB : List V → Hp → VK → Prop) : Sp := fun vs H Q _ =>
  vs.length = n ∧ LamAt q params body scope clos H fa ∧ (∀ b o, f b = some o → H b = some (Fz o)) ∧ spB vs (unl f H) fun v H' => (∀ b o, f b = some o → H' b = none) → Q v (lend f H')
theorem lam_of {X : Cx} {σ : St} {H₁ : Hp} {f : Lend} {q : Str} {params : Arguments} {body : Expr} {scope : Scope} {fa : Addr} {ps : List Str} {cp : List (Nat × Str)} {cv : List V} {k : Nat} {spB : List V → Hp → VK → Prop} (L : Lent X σ H₁ f)
    (hcell : ∀ x, X.env.scope.names.lookup x = some .cell → ∃ c, X.env.cells.lookup x = some c)
    (hcv : cp.map (fun p => σ[p.1]?) = cv.map fun v => some (some v))
    (hcp : ∀ p ∈ cp, X.N[p.1]? = some p.2 ∧ X.env.scope.names.lookup p.2 = some .cell ∧ scope.names.lookup p.2 = some .free)
    (free : ∀ y ∈ scope.names, y.2 = .free → X.env.scope.names.lookup y.1 = some .cell)
    (kind : scope.kind = .function) (co : scope.isCoroutine = false) (gen : scope.isGenerator = false) (nocell : ∀ y ∈ scope.names, y.2 ≠ .cell) (par : ∀ x ∈ ps, scope.names.lookup x = some .local) (nd : (ps ++ cp.map (·.2)).Nodup)
    (hb : ∀ (pm ctv : Value) (c : Addr) (clos : List (Str × Addr)) (us : List Value), us.length = ps.length → bindArgs (PySem.W.kla_fn "<lambda>" q params body scope clos pm (.ref c) ctv) ⟨us, []⟩ = pure (ps.zip us))
    (hbody : ∀ (cd : Value) (A : Around) (outer : List Env) (s : Shared) (H : Hp) (vs : List V) (Q : VK), Room k (A.deeper (PySem.W.envX q scope s.heap.objs.size fa cd (clFold X.env.cells scope.names []))) → spB vs H Q →
      ∃ t, PE (cxLam X.prog X.w X.K X.mg X.base (ps ++ cp.map (·.2)) q scope fa cd (clFold X.env.cells scope.names []) A outer s H) body t ∧ t ((vs ++ cv).map some) H Q) :
    LamFn X.prog X.w X.K X.mg X.base (k + 1) fa (spLam fa f q params body scope (clFold X.env.cells scope.names []) ps.length spB) := by
  have sub := clFold_sub (cells := X.env.cells) (names := scope.names) (acc := []) (fun y hy e => hcell _ (free y hy e)) (fun x c e => by cases e)
  refine ⟨fun vs H Q E ⟨_, ⟨pm, c, ctv, o, e1, _⟩, _⟩ => ⟨_, _, _, _, e1⟩, fun A outer s H us vs Q E hr e0 r ⟨hl, ⟨pm, c, ctv, o, e1, e2, ws, tq, e3, e4⟩, hf, hsp⟩ => ?_⟩
  have hus : us.length = ps.length := by rw [← r.length]; exact hl
  have hcd : s.heap.CodeRec (.ref c) q := ⟨c, o, ws, tq, rfl, fz_get e0.hok e2, e3, e4⟩
  have lim : s.heap.NoLimit := e0.mod.nolimit.keeps fun b o e => (e0.bs b o e).1
  refine PySem.W.kla_callFunE hr.depth (fz_get e0.hok e1) rfl co gen rfl hcd ?_
  rw [hb pm ctv c _ us hus]
  refine wpAny_pure (wpAny_newFunctionEnv nocell (fun y hy => par y.1 (List.of_mem_zip hy).1) (fun h₁ hns hsb => ⟨lim.fresh _ hsb, ?_⟩) kind)
  show codeAny _ _ (.expr body (PySem.W.envX q scope s.heap.objs.size fa (.ref c) (clFold X.env.cells scope.names []))) _ _
  have hk : ∀ b o, s.heap.get? b = some o → h₁.get? b = some o := fun b o e => hsb.extBut b o (Nat.ne_of_lt (Heap.lt_size e)) (Heap.get?_push_of_some _ e)
  obtain ⟨t, ht, hq⟩ := hbody (.ref c) A outer s (unl f H) vs _ (hr.deeper _) hsp
  have hok' : HOk X.prog X.w (unl f H) s.heap := hok_unl e0.hok hf
  have hl2 : (vs ++ cv).length = (ps ++ cp.map (·.2)).length := by
    rw [List.length_append, List.length_append, List.length_map, hl]
    have := congrArg List.length hcv
    rw [List.length_map, List.length_map] at this
    omega
  have cl : ∀ x c, (clFold X.env.cells scope.names []).lookup x = some c → ∃ o v, f c = some o ∧ o.data = .cell v ∧ h₁.get? c = some o := fun x c e => by
    obtain ⟨o, v, h1, h2⟩ := L.cell x c (sub x c e)
    exact ⟨o, v, h1, h2, hk _ _ (fz_get e0.hok (hf c o h1))⟩
  have unN : ∀ b, H b = none → unl f H b = none := fun b z => by
    cases e : f b with
    | none => rw [unl_no e]; exact z
    | some o => exact unl_at e
  have I : Inv (cxLam X.prog X.w X.K X.mg X.base (ps ++ cp.map (·.2)) q scope fa (.ref c) (clFold X.env.cells scope.names []) A outer s (unl f H)) [] ((vs ++ cv).map some) (unl f H) { s with heap := h₁, toks := s.toks + (ps.zip us).length } := by
    have noA : ∀ b : Addr, b ∉ (cxLam X.prog X.w X.K X.mg X.base (ps ++ cp.map (·.2)) q scope fa (.ref c) (clFold X.env.cells scope.names []) A outer s (unl f H)).ex := fun b z => absurd (show b ∈ ([] : List Addr) from z) (by simp)
    refine ⟨⟨e0.mod, kind, rfl, rfl, Nat.le_refl _, fun y z c h1 h2 => L.inj y z c (sub _ _ h1) (sub _ _ h2), fun y hy => ?_, (fun y c z _ => by cases z), fun _ => hr.hd, Around.frames_deeper e0.frames, .inr ⟨rfl, rfl⟩, fun b z => absurd z (noA b), fun b o z => ⟨(e0.bs b o z).1, unN b (e0.bs b o z).2⟩, e0.bsz, fun b _ _ => noA b, fun b z => absurd z (noA b), e0.funs, fun b z => unN b (e0.frf b z)⟩,
      rfl, e0.bare, Un.kept hk, ⟨_, hns, fun i y v h1 h2 h3 => ?_⟩, fun y c h => ?_, hok'.fresh (Nat.le_refl _), fun y c h => ?_, fun p hp => absurd (show p ∈ ([] : List (Addr × Obj)) from hp) (by simp), hok'.kept hk, by rw [List.length_map]; exact hl2⟩
    · have hy' : scope.names.lookup y = some .cell ∨ scope.names.lookup y = some .free := hy
      rcases hy' with hy' | hy'
      · exact absurd rfl (nocell _ (PySem.mem_of_lookup hy'))
      · exact clFold_has (PySem.mem_of_lookup hy')
    · rw [List.getElem?_map] at h2
      have h2' : (vs ++ cv)[i]? = some v := by
        cases z : (vs ++ cv)[i]? with
        | none => rw [z] at h2; cases h2
        | some v' => rw [z] at h2; cases h2; rfl
      by_cases hi : i < ps.length
      · have h1' : ps[i]? = some y := by
          have : (ps ++ cp.map (·.2))[i]? = some y := h1
          rw [List.getElem?_append_left hi] at this
          exact this
        rw [List.getElem?_append_left (by omega)] at h2'
        obtain ⟨u, hu, ru⟩ := r.get h2'
        exact ⟨u, ru, .inl ⟨par y (List.mem_of_getElem? h1'), zip_get (List.nodup_append.mp nd).1 hus h1' hu⟩⟩
      · have h1' : (cp.map (·.2))[i - ps.length]? = some y := by
          have : (ps ++ cp.map (·.2))[i]? = some y := h1
          rw [List.getElem?_append_right (by omega)] at this
          exact this
        rw [List.getElem?_append_right (by omega), hl] at h2'
        rw [List.getElem?_map] at h1'
        cases hp : cp[i - ps.length]? with
        | none => rw [hp] at h1'; cases h1'
        | some p =>
          rw [hp] at h1'
          cases h1'
          have h4 : σ[p.1]? = some (some v) := by
            have := congrArg (fun l => l[i - ps.length]?) hcv
            simp only [List.getElem?_map, hp, h2', Option.map_some] at this
            exact Option.some.inj this
          obtain ⟨g1, g2, g3⟩ := hcp p (List.mem_of_getElem? hp)
          obtain ⟨c', o', u, k1, k2, k3, k4⟩ := L.val p.1 p.2 v g1 h4 g2
          obtain ⟨c2, k5⟩ := clFold_has (cells := X.env.cells) (acc := []) (PySem.mem_of_lookup g3)
          have k6 := sub _ _ k5
          rw [k1] at k6
          cases k6
          exact ⟨u, k4, .inr ⟨.inr g3, c', k5, o', hk _ _ (fz_get e0.hok (hf c' o' k2)), k3⟩⟩
    · obtain ⟨o, v, _, z1, z2⟩ := cl y c h
      exact ⟨v, o, z2, z1⟩
    · obtain ⟨o, v, z, _⟩ := cl y c h
      exact unl_at z
  refine PySem.W.kla_codeExpr (wpAny_mono (ht [] _ _ _ _ I hq) (fun u s' ⟨v, H', J, rv, qv⟩ => ?_) fun e s' hs => False.elim hs)
  obtain ⟨u1, u2⟩ := un_back hf e0.hok e0.frf (show Un (frs outer) [] (unl f H) H' s.heap s'.heap from J.base) J.hok
  exact ⟨v, lend f H', J.os, J.bare, u1, u2, rv, qv fun b o e => J.base.free b o (fz_get e0.hok (hf b o e)) (unl_at e) (by simp [cxLam])⟩
/-! ### the head, with tables of code that is called -/
abbrev TabsIn0 (tabs : List (Addr × Addr)) (H : Hp) : Prop := ∀ z ∈ tabs, H z.2 = some (TabC z.2 [])
abbrev TabsOut (tabs : List (Addr × Addr)) (H : Hp) : Prop := ∀ z ∈ tabs, ∃ S, H z.2 = some (TabC z.2 S)
theorem law_callC {P : Program} {w : World} {K : PySem.W.Frag} {mg mb : Str → Option Value} {CX : CXT} {k : Nat} {fa a : Addr} {fd : FuncData} {x : Str} {sp : Sp} {s₁ : Shared} {vs : List Value} {ns : List Int} {tabs : List (Addr × Addr)}
    (KX : K.In s₁.heap) (hns : s₁.heap.Ns mainGlobals mg) (hb : s₁.heap.Ns builtinsNs mb) (hbb : ∀ x : Str, x ≠ "__name__" → mb x = bootBuiltins x) (hlim : s₁.heap.NoLimit) (hg : s₁.gens = #[])
    (ha : s₁.heap.get? a = some { cls := .type "list", data := .seq vs.toArray }) (hi : IntsAre vs ns) (hl : ns.length ≤ sizeLine) (hr : Room k callerA)
    (hT : ∀ z ∈ tabs, PySem.W.CodeHd s₁.heap z.1 z.2 ∧ s₁.heap.get? z.2 = some (PySem.W.tabObj #[]) ∧ K.lookup z.2 = none)
    (hbm : ∃ bm ob, mg "__builtins__" = some (.ref bm) ∧ bm ≠ builtinsNs ∧ s₁.heap.get? bm = some ob ∧ ob.cls = .type "module" ∧ ob.dict = some builtinsNs ∧ ob.data = .plain)
    (F : ∀ base : Heap, K.In base → base.Ns mainGlobals mg → (∀ z ∈ tabs, Maker mg base z.1 z.2) → FnOk P w K mg base CX k fa fd [x] sp) (hbind : ∀ (s : Shared) (u : Value), BindsTo s fd ⟨[u], []⟩ [(x, u)])
    (hsp : ∀ H : Hp, TabsIn0 tabs H → SqL K H a (ns.map V.int) → sp [.ref a] H (fun v H' => v = .bl true ∧ TabsOut tabs H') fun _ _ _ => False)
    (hCX : ∀ H e s', CX [] H s₁ (fun _ _ _ => False) e s' → False) :
    codeAny (model P w) callerA (.call (.ref fa) ⟨[.ref a], []⟩) (fun r s' => r = .ok (.ret (.bool true)) ∧ OldK s₁.heap s'.heap ∧ s'.os = s₁.os ∧ AllBare s'.gens) s₁ := by
  have rv := vals_ints hi
  have lenV := hi.length
  have neT : ∀ z ∈ tabs, z.2 ≠ a := fun z hz e => by
    have e1 := (hT z hz).2.1
    rw [e, ha] at e1
    cases e1
  have core : ∀ H : Hp, TabsIn0 tabs H → (∀ b, H b = none ∨ (b = a ∧ K.lookup a = none ∧ ∃ o xs, H b = some (.frz o (.lst xs))) ∨ ∃ z ∈ tabs, b = z.2) → SqL K H a (ns.map V.int) → HOk P w H s₁.heap →
      codeAny (model P w) callerA (.call (.ref fa) ⟨[.ref a], []⟩) (fun r s' => r = .ok (.ret (.bool true)) ∧ OldK s₁.heap s'.heap ∧ s'.os = s₁.os ∧ AllBare s'.gens) s₁ := by
    intro H hTb hO hS hok
    have base_of : ∀ {b : Addr} {o : Obj}, s₁.heap.get? b = some o → H b = none → (hidT s₁.heap H).get? b = some o := fun e n => hidT_get e n
    have free : ∀ {b : Addr} {o : Obj}, s₁.heap.get? b = some o → o ≠ { cls := .type "list", data := .seq vs.toArray } → o ≠ PySem.W.tabObj #[] → H b = none := fun {b o} e n1 n2 => by
      rcases hO b with z | ⟨rfl, _, _⟩ | ⟨z, hz, rfl⟩
      · exact z
      · rw [ha] at e; exact absurd (Option.some.inj e).symm n1
      · rw [(hT z hz).2.1] at e; exact absurd (Option.some.inj e).symm n2
    have noA : ∀ {b : Addr} {o : Obj} {es : Array DictEntry} {ep : Nat}, s₁.heap.get? b = some o → o.data = .dict es ep → H b = none := fun {b o es ep} e d =>
      free e (fun z => by rw [z] at d; cases d) (fun z => by rw [z] at d; cases d)
    have nsK : ∀ {b : Addr} {m : Str → Option Value}, s₁.heap.Ns b m → (hidT s₁.heap H).Ns b m := fun {b m} ⟨o, es, ep, e, d, r⟩ => ⟨o, es, ep, base_of e (noA e d), d, r⟩
    have hKb : K.In (hidT s₁.heap H) := fun b o e => base_of (KX b o e) (by
      rcases hO b with z | ⟨rfl, z, _⟩ | ⟨z, hz, rfl⟩
      · exact z
      · rw [z] at e; cases e
      · rw [(hT z hz).2.2] at e; cases e)
    have hM : Mod K mg (hidT s₁.heap H) := ⟨hKb, nsK hns, ⟨mb, nsK hb, hbb⟩, let ⟨mc, h1, h2⟩ := hlim; ⟨mc, nsK h1, h2⟩⟩
    have e0 : Env0 P w K mg (hidT s₁.heap H) callerA [] s₁ H := ⟨rfl, hM, fun b o e => of_hidT e, Nat.le_of_eq (hidT_size _ _), trivial, fun b hb => absurd (show b ∈ ([] : List Addr) from hb) (by simp), hok, .of_eq hg⟩
    have hMk : ∀ z ∈ tabs, Maker mg (hidT s₁.heap H) z.1 z.2 := fun z hz => by
      obtain ⟨⟨o, ws, file, tf, flags, tg, inF, text, tt, e1, e2, r⟩, e3, _⟩ := hT z hz
      obtain ⟨bm, ob, b1, b2, b3, b4, b5, b6⟩ := hbm
      refine ⟨⟨o, ws, file, tf, flags, tg, inF, text, tt, base_of e1 (free e1 (fun q => by rw [q] at e2; exact absurd (Value.type.inj e2) (by decide)) (fun q => by rw [q] at e2; cases e2)), e2, r⟩, bm, ob, b1, b2, fun q => ?_, fun q => ?_, base_of b3 (free b3 (fun q => by rw [q] at b4; exact absurd (Value.type.inj b4) (by decide)) (fun q => by rw [q] at b4; cases b4)), b4, b5, b6⟩
      · obtain ⟨o', es, ep, e', d', _⟩ := hns
        rw [q, e'] at b3; cases b3; rw [d'] at b6; cases b6
      · rw [q, e3] at b3; cases b3; cases b4
    refine codeAny_mono ((F _ hKb (nsK hns) hMk).run callerA [] s₁ H ⟨[.ref a], []⟩ [.ref a] [.ref a] _ _ hr e0 (hbind s₁ (.ref a)) (.cons rfl .nil) (hsp H hTb hS)) fun r s' h => ?_
    cases r with
    | error e => exact (hCX H e s' h).elim
    | ok fl =>
      cases fl with
      | next => exact False.elim h
      | brk => exact False.elim h
      | cont => exact False.elim h
      | ret u =>
        obtain ⟨v, H', os, bare, un, hok', r', q⟩ := h
        obtain ⟨q', hT'⟩ : v = .bl true ∧ TabsOut tabs H' := q
        subst q'
        obtain rfl : u = Value.bool true := r'
        refine ⟨rfl, ⟨fun b o e => ?_, fun b o e => un.there b o e (by simp)⟩, os, bare⟩
        rcases hO b with z | ⟨rfl, _, ob, xs, z⟩ | ⟨z, hz, rfl⟩
        · exact .inl (un.keep b o e z (by intro z; exact absurd (show b ∈ ([] : List Addr) from z) (by simp)) (by simp))
        · have z2 := un.frzs b ob _ z
          obtain ⟨e1, _⟩ := hok b _ z
          obtain ⟨e2, _⟩ := hok' b _ z2
          rw [e] at e1; cases e1
          exact .inl e2
        · obtain ⟨S4, z4⟩ := hT' z hz
          obtain ⟨⟨ps, e4, _⟩, _⟩ := hok' z.2 _ z4
          have e3 := (hT z hz).2.1
          rw [e3] at e
          cases e
          exact .inr (.inl ⟨((hT z hz).1.tab e3).isCodeTable, rfl, #[], ps, rfl, by rw [e4, Array.empty_append]⟩)
  have hTok : ∀ (H : Hp) (z : Addr × Addr), z ∈ tabs → ObjOk P w H s₁.heap z.2 (TabC z.2 []) := fun H z hz => tabC_ok (hT z hz).2.1 trivial fun pos cv e => by cases e
  classical
  let Ht : Hp := fun b => if b ∈ tabs.map (·.2) then some (TabC b []) else none
  have hHt : TabsIn0 tabs Ht := fun z hz => if_pos (List.mem_map_of_mem hz)
  have ofHt : ∀ b u, Ht b = some u → ∃ z ∈ tabs, b = z.2 ∧ u = TabC z.2 [] := fun b u e => by
    by_cases hb : b ∈ tabs.map (·.2)
    · have e' := (if_pos hb).symm.trans e
      obtain ⟨z, hz, rfl⟩ := List.mem_map.mp hb
      exact ⟨z, hz, rfl, (Option.some.inj e').symm⟩
    · have e' := (if_neg hb).symm.trans e
      cases e'
  cases hk : K.lookup a with
  | some o =>
    have e := KX a o hk
    rw [ha] at e
    cases e
    refine core Ht hHt (fun b => ?_) (.inr ⟨_, vs.toArray, _, hk, rfl, rfl, rfl, by rw [List.size_toArray, lenV]; exact hl, by simpa using rv⟩) (fun b u z => ?_)
    · cases q : Ht b with
      | none => exact .inl rfl
      | some u => obtain ⟨z, hz, e, _⟩ := ofHt b u q; exact .inr (.inr ⟨z, hz, e⟩)
    · obtain ⟨y, hy, rfl, rfl⟩ := ofHt b u z
      exact hTok _ y hy
  | none =>
    refine core (fun b => if b = a then some (.frz { cls := .type "list", data := .seq vs.toArray } (.lst (ns.map V.int))) else Ht b) (fun z hz => ?_) (fun b => ?_) (.inl (.inr ⟨{ cls := .type "list", data := .seq vs.toArray }, if_pos rfl⟩)) (fun b u z => ?_)
    · exact (if_neg (neT z hz)).trans (hHt z hz)
    · by_cases hb : b = a
      · exact .inr (.inl ⟨hb, hk, _, _, if_pos hb⟩)
      · cases q : Ht b with
        | none => exact .inl (if_neg hb)
        | some u => obtain ⟨z, hz, e, _⟩ := ofHt b u q; exact .inr (.inr ⟨z, hz, e⟩)
    · by_cases hb : b = a
      · have z' := (if_pos hb).symm.trans z
        cases z'
        subst hb
        exact ⟨ha, by rw [List.length_map]; exact hl, vs, _, rv, ha⟩
      · have z' := (if_neg hb).symm.trans z
        obtain ⟨y, hy, rfl, rfl⟩ := ofHt b u z'
        exact hTok _ y hy
theorem walk_ofC {l : PySem.W.OpenLaw} {n k : Nat} {q : Program} {loose : List Str} {XP : (Str → Option Value) → Heap → Prop} {YP : World → Heap → Prop} {d : DefRec} {K : Params → PySem.W.Frag} {CX : World → CXT} {sp : World → List (Addr × Addr) → Sp} {x : Str}
    (hn : l.most = some n) (hn2 : n ≤ sizeLine) (hdf : d.params.defaults = []) (hr : Room k callerA)
    (hY : ∀ (w : World) (h : Heap), YP w h → (K w.params).In h)
    (F : ∀ (w : World) (mg : Str → Option Value) (fa : Addr) (h : Heap), (K w.params).In h → h.Ns mainGlobals mg → mg d.name = some (.ref fa) →
      PySem.W.noTabs (K w.params) = true ∧ ∃ tabs : List (Addr × Addr), (∀ z ∈ tabs, TabOf q (K w.params) z) ∧ ∃ fd : FuncData, (∀ (s : Shared) (u : Value), BindsTo s fd ⟨[u], []⟩ [(x, u)]) ∧
        ∀ base : Heap, (K w.params).In base → base.Ns mainGlobals mg → (∀ z ∈ tabs, Maker mg base z.1 z.2) → FnOk l.prog w (K w.params) mg base (CX w) k fa fd [x] (sp w tabs))
    (hsp : ∀ (w : World) (tabs : List (Addr × Addr)) (H : Hp) (a : Addr) (ns : List Int), ns.length ≤ n → TabsIn0 tabs H → SqL (K w.params) H a (ns.map V.int) → sp w tabs [.ref a] H (fun v H' => v = .bl true ∧ TabsOut tabs H') fun _ _ _ => False)
    (hCX : ∀ (w : World) (H : Hp) (s : Shared) (e : Value) (s' : Shared), CX w [] H s (fun _ _ _ => False) e s' → False) :
    PySem.W.WalkO q loose XP YP l.row.toRowW d [] (fun f vs => PySem.call f vs) := by
  refine Att.attach_call hn hdf fun w s₀ s₁ mg mb fa o pm cd doc a vs ns G Y ho hd hcd hmg hobj hints hlen hg => ?_
  have KX := hY w _ Y
  obtain ⟨hnT, tabs, hTb, fd, hb, hF⟩ := F w mg fa _ KX G.T.g hmg
  refine law_callC KX G.T.g G.T.b G.T.builtins G.T.nolimit hg hobj hints (Nat.le_trans hlen hn2) hr (fun z hz => ?_) G.T.bmain hF hb (fun H hO hS => hsp w tabs H a ns hlen hO hS) fun H e s' => hCX w H s₁ e s'
  obtain ⟨y, h1, h2⟩ := (hTb z hz).ex
  obtain ⟨d', h1⟩ := Option.isSome_iff_exists.mp h1
  obtain ⟨t1, t2⟩ := PySem.W.tab_of G.T KX h1 h2
  exact ⟨t1, t2, noTab hnT KX t2⟩
end L2

namespace L2
open PySem PySem.Spec PyProof.Rows
/-! ### o.f(..), f a field of the instance: a lambda -/
def tCallF (P : Program) (w : World) (K : PySem.W.Frag) (mg : Str → Option Value) (base : Heap) (k : Nat) (m : Str) (ta : TE) (t : TA) : TE := fun σ H Q => ta σ H fun x H1 => ∃ a C dx fs fa sp, x = .ref a ∧ H1 a = some (.ins C dx fs) ∧ Cls K C ∧ NoAttr K C m ∧ fs.lookup m = some (.ref fa) ∧ LamFn P w K mg base k fa sp ∧ t σ H1 fun vs H2 => sp vs H2 Q E0
section
variable {X : Cx} {k : Nat} {m : Str} {p pos apos : Pos} {e o : Expr} {es : List Expr} {ta : TE} {t : TA}
theorem pe_callF {pl : Sem Bool} (he : PE X o ta) (hr : Room k X.A) (ha : PA X (e :: es) t)
    (hst : starEach (e :: es) X.env = (false, eval e X.env) :: starEach es X.env := by rfl) (hpl : (backTo pos (starEach es X.env)).any (·.1) = false := by rfl)
    (ht : eval (.Call (.Attribute o m apos) (e :: es) [] pos) X.env = (do
      let ov ← eval o X.env
      standAt apos.atName
      let (f, first) ← holding [ov] (getMethod ov m pl)
      callWith pos f first (backTo pos (starEach (e :: es) X.env)) (backToKw pos (keywordEach [] X.env))) := by rfl) :
    PE X (.Call (.Attribute o m apos) (e :: es) [] pos) (tCallF X.prog X.w X.K X.mg X.base k m ta t) := by
  intro pins s σ H Q I h
  refine PySem.W.methodCall_KW (pl := pl) (thn (he pins s σ H _ I h) fun u s1 ⟨x, H1, I1, rx, a, C, dx, fs, fa, sp, ex, ea, c, n, l, F, q⟩ => ?_) ht
  subst ex
  obtain rfl : u = Value.ref a := rx
  obtain ⟨mA, O, _, _, _, _⟩ := ins_get I1.hok ea
  obtain ⟨od, J, _⟩ := O.look
  refine PySem.W.method_usual (r := none) I1.kIn J (PySem.W.plainGet_of (c.get m)).1 (PySem.W.plainGet_of (c.get m)).2 n rfl ?_
  refine getattr_ok I1 ea c n l fun u2 s2 I2 ru => ?_
  obtain rfl : u2 = Value.ref fa := ru
  show wpAny _ _ (callWith pos (.ref fa) [] (backTo pos (starEach (e :: es) X.env)) []) _ _ _
  rw [hst]
  refine PySem.W.callWith_of (P := fun h => ∃ c d fd sl, h.get? fa = some ⟨c, d, .func fd, sl⟩) (by show ((false || (backTo pos (starEach es X.env)).any (·.1)) || false) = false; rw [hpl]; rfl)
    (fun h ⟨c, d, fd, sl, z⟩ => ⟨.frame, .inl rfl, (PySem.W.Looks.ld (part := none) z).andThen .now⟩) (PySem.Calls.evalArgs_plain ?_)
  have ha' := ha pos pins s2 σ H1 _ I2 q
  rw [hst] at ha'
  refine thn ha' fun us s3 ⟨vs, H2, I3, r, q2⟩ => ?_
  obtain ⟨c, d, fd, sl, z⟩ := F.fn _ _ _ _ q2
  refine ⟨⟨c, d, fd, sl, fz_get I3.hok z⟩, ?_⟩
  refine wpAny_call (codeAny_mono (F.run X.A X.stack s3 H2 us vs Q E0 hr I3.env0 r q2) fun r s' hq => ?_)
  cases r with
  | error e => exact False.elim hq
  | ok fl =>
    cases fl with
    | ret u => exact I3.after hq
    | next => exact False.elim hq
    | brk => exact False.elim hq
    | cont => exact False.elim hq
end
/-! ### a def that returns a closure: its cells stay, known to the object -/
structure EndsR where
  nx : St → Hp → Prop
  rt : V → St → Hp → Prop
abbrev TSR := EndsR → St → Hp → Prop
def SPR (X : Cx) (pins : List (Addr × Obj)) (D : EndsR) (f : Flow) (s' : Shared) : Prop :=
  match f with
  | .next => ∃ σ' H', Inv X pins σ' H' s' ∧ D.nx σ' H'
  | .ret u => ∃ v σ' H', Inv X pins σ' H' s' ∧ RelV v u ∧ D.rt v σ' H'
  | _ => False
def PSR (X : Cx) (st : Stmt) (t : TSR) : Prop :=
  ∀ (pins : List (Addr × Obj)) (s : Shared) (σ : St) (H : Hp) (D : EndsR), Inv X pins σ H s → t D σ H → wpAny (model X.prog X.w) X.A (exec st X.env) (SPR X pins D) X.xe s
def PSRs (X : Cx) (st : List Stmt) (t : TSR) : Prop :=
  ∀ (pins : List (Addr × Obj)) (s : Shared) (σ : St) (H : Hp) (D : EndsR), Inv X pins σ H s → t D σ H → wpAny (model X.prog X.w) X.A (execs st X.env) (SPR X pins D) X.xe s
section
variable {X : Cx} {st : Stmt} {rest : List Stmt} {t u : TSR} {e : Expr} {te : TE} {pos : Pos}
def rNext : TSR := fun D σ H => D.nx σ H
def rSeq (t u : TSR) : TSR := fun D σ H => t { D with nx := u D } σ H
def rOf (t : TS) : TSR := fun D σ H => t { nx := D.nx, rt := fun _ _ => False } σ H
def rRet (te : TE) : TSR := fun D σ H => te σ H fun v H1 => D.rt v σ H1
def rIf (c : TT) (t u : TSR) : TSR := fun D σ H => c σ H fun b H1 => if b = true then t D σ H1 else u D σ H1
theorem psr_nil : PSRs X [] rNext := fun _ _ σ H _ I h => wpAny_execs_nil ⟨σ, H, I, h⟩
theorem psr_cons (h1 : PSR X st t) (h2 : PSRs X rest u) : PSRs X (st :: rest) (rSeq t u) := by
  intro pins s σ H D I h
  refine wpAny_execs_cons (thn (h1 pins s σ H { D with nx := u D } I h) fun f s1 q => ?_)
  cases f with
  | next =>
    obtain ⟨σ', H', I', q⟩ := q
    exact h2 pins s1 σ' H' D I' q
  | ret v => exact q
  | brk => exact q
  | cont => exact q
theorem psr_one (h1 : PSR X st t) : PSRs X [st] t := by
  intro pins s σ H D I h
  refine wpAny_execs_cons (thn (h1 pins s σ H D I h) fun f s1 q => ?_)
  cases f with
  | next => exact wpAny_execs_nil q
  | ret v => exact q
  | brk => exact q
  | cont => exact q
theorem psr_of {t : TS} (h1 : PS X st t) : PSR X st (rOf t) := by
  intro pins s σ H D I h
  refine thn (h1 pins s σ H _ I h) fun f s1 q => ?_
  cases f with
  | next => exact q
  | ret v =>
    obtain ⟨_, _, _, _, _, z⟩ := q
    exact False.elim z
  | brk =>
    obtain ⟨_, _, _, z⟩ := q
    exact z
  | cont =>
    obtain ⟨_, _, _, z⟩ := q
    exact z
theorem psr_ret (he : PE X e te) : PSR X (.Return (some e) pos) (rRet te) := by
  intro pins s σ H D I h
  exact wpAny_Return_some (thn (he pins s σ H _ I h) fun v s1 ⟨x, H1, I1, r1, q1⟩ => ⟨x, σ, H1, I1, r1, q1⟩)
theorem psr_if {c : Expr} {a b : List Stmt} {tc : TT} (hc : PT X c tc) (ha : PSRs X a t) (hb : PSRs X b u) : PSR X (.If c a b pos) (rIf tc t u) := by
  intro pins s σ H D I h
  refine wpAny_If (thn (hc pins s σ H _ I h) fun d s1 ⟨H1, I1, q1⟩ => ?_)
  cases d with
  | true => exact ha pins s1 σ H1 D I1 q1
  | false => exact hb pins s1 σ H1 D I1 q1
end
theorem lent_dom {X : Cx} {pins : List (Addr × Obj)} {σ : St} {H : Hp} {s : Shared} (I : Inv X pins σ H s) : ∃ f : Lend, Lent X σ H f ∧ (∀ b o, f b = some o → H b = none ∧ s.heap.get? b = some o ∧ ∃ x, X.env.cells.lookup x = some b) := by
  classical
  let f : Lend := fun b => if (∃ x, X.env.cells.lookup x = some b) then s.heap.get? b else none
  have fe : ∀ {b o}, f b = some o → (∃ x, X.env.cells.lookup x = some b) ∧ s.heap.get? b = some o := fun {b o} e => by
    by_cases z : ∃ x, X.env.cells.lookup x = some b
    · exact ⟨z, by rw [show f b = s.heap.get? b from if_pos z] at e; exact e⟩
    · rw [show f b = none from if_neg z] at e; cases e
  have ff : ∀ {x c}, X.env.cells.lookup x = some c → f c = s.heap.get? c := fun {x c} e => if_pos ⟨x, e⟩
  refine ⟨f, ⟨fun b o e => ?_, fun x c e => ?_, fun i x v e1 e2 e3 => ?_, I.ok.inj⟩, fun b o e => ?_⟩
  · obtain ⟨⟨x, z⟩, _⟩ := fe e
    exact I.freeC x b z
  · obtain ⟨v, o, ho, hd⟩ := I.cell x c e
    exact ⟨o, v, by rw [ff e]; exact ho, hd⟩
  · obtain ⟨m, _, hl⟩ := I.loc
    obtain ⟨u, r, l⟩ := hl i x v e1 e2 (.inr (.inl e3))
    rcases l with ⟨k, _⟩ | ⟨_, c, ec, o, ho, hd⟩
    · have k' : X.env.scope.names.lookup x = some .local := k
      rw [e3] at k'; cases k'
    · exact ⟨c, o, u, ec, by rw [ff ec]; exact ho, hd, r⟩
  · obtain ⟨⟨x, z⟩, g⟩ := fe e
    exact ⟨I.freeC x b z, g, x, z⟩
theorem fn_ofR {P : Program} {w : World} {K : PySem.W.Frag} {mg : Str → Option Value} {base : Heap} {k : Nat} {f : Addr} {name qual : Str} {params : Arguments} {body : List Stmt} {scope : Scope} {dV kV doc pm cdv ct oc : Value} {an od : Option Addr}
    {osl : Array (Option Value)} {N ps : List Str} {sp : Sp} (lk : K.lookup f = some ⟨oc, od, .func (PySem.W.fnOf name qual params body scope dV kV doc pm an cdv ct), osl⟩) (hcd : PySem.W.codeIn K cdv qual = true) (S : FnScope N ps scope)
    (len : ∀ vs H Q E, sp vs H Q E → vs.length = ps.length)
    (hbody : ∀ (A : Around) (outer : List Env) (s : Shared) (H : Hp) (vs : List V) (Q : VK) (E : XK), Room k (A.deeper (envOfC qual scope s.heap.objs.size f cdv)) → sp vs H Q E →
      ∃ t, PSRs (cxOf CX0 P w K mg base N qual scope f cdv A outer s H E).nox body t ∧ t { nx := fun _ _ => False, rt := fun v σ H' => ∀ g, Lent (cxOf CX0 P w K mg base N qual scope f cdv A outer s H E).nox σ H' g → Q v (lend g H') } (start N vs) H) :
    FnOk P w K mg base CX0 (k + 1) f (PySem.W.fnOf name qual params body scope dV kV doc pm an cdv ct) ps sp := by
  refine ⟨len, fun A outer s H args us vs Q E hr e0 hb r hsp => ?_⟩
  have hl := len _ _ _ _ hsp
  have KX : K.In s.heap := e0.mod.kin.keeps fun b o e => (e0.bs b o e).1
  have lim : s.heap.NoLimit := e0.mod.nolimit.keeps fun b o e => (e0.bs b o e).1
  have hkind : ∀ y ∈ ps.zip us, scope.names.lookup y.1 = some .local ∨ (scope.names.lookup y.1 = some .cell ∧ ((cellsFrom (s.heap.objs.size + 1) scope.names []).lookup y.1).isSome = true) := fun ⟨n, v⟩ hy => by
    rcases S.par n (List.of_mem_zip hy).1 with q | q
    · exact .inl q
    · exact .inr ⟨q, PySem.W.cellsFrom_some _ _ _ (.inl q)⟩
  refine codeAny_call_function hr.depth (KX _ _ lk) rfl S.co S.gen rfl (PySem.W.codeRec_of KX hcd) (hb _ _ _ _ ?_)
  refine wpAny_newFunctionEnv_cells S.kind hkind fun env he s1 x => ?_
  subst he
  refine ⟨lim.keeps x.toInCall.keep, codeAny_func ?_⟩
  obtain ⟨t, ht, hq⟩ := hbody A outer s H vs Q E (hr.deeper _) hsp
  have I0 : Inv (cxOf CX0 P w K mg base N qual scope f cdv A outer s H E) [] (start N vs) H s1 := inv_start S hr.hd e0 hl r x
  have I : Inv (cxOf CX0 P w K mg base N qual scope f cdv A outer s H E).nox [] (start N vs) H s1 := ⟨⟨I0.ok.mod, I0.ok.kind, I0.ok.glob, I0.ok.blt, I0.ok.above, I0.ok.inj, I0.ok.has, I0.ok.cab, I0.ok.hd, I0.ok.frames, I0.ok.stk, I0.ok.exf, I0.ok.bs, I0.ok.bsz, I0.ok.noex, I0.ok.exfs, I0.ok.funs, I0.ok.frf⟩, I0.os, I0.bare, I0.base, I0.loc, I0.cell, I0.free, I0.freeC, I0.pin, I0.hok, I0.len⟩
  refine wpAny_mono (ht [] s1 (start N vs) H _ I hq) (fun fl s' hs => ?_) fun e s' hs => False.elim hs
  cases fl with
  | ret u =>
    obtain ⟨v, σ', H', J, rv, q⟩ := hs
    obtain ⟨g, L, hg⟩ := lent_dom J
    have hnew : ∀ b o, s.heap.get? b = some o → g b = none := fun b o e => by
      cases z : g b with
      | none => rfl
      | some ob =>
        exfalso
        obtain ⟨x', hx'⟩ : ∃ y, (cxOf CX0 P w K mg base N qual scope f cdv A outer s H E).nox.env.cells.lookup y = some b := (hg b ob z).2.2
        exact absurd (Nat.lt_of_lt_of_le (Heap.lt_size e) (J.ok.cab x' b rfl hx')) (Nat.lt_irrefl _)
    have hB : Un (frs outer) [] H H' s.heap s'.heap := J.base
    refine ⟨v, lend g H', J.os, J.bare, ⟨hB.keep, hB.slot, fun b o e n hx => ?_, hB.there, fun b xs z => ?_, fun b o xs z => ?_, fun b ps z => ?_⟩, hok_lend J.hok fun b o z => ⟨(hg b o z).1, (hg b o z).2.1⟩, rv, q g L⟩
    · rw [lend_no (hnew b o e)]
      exact hB.free b o e n hx
    · have := hB.tups b xs z
      cases y : g b with
      | none => rw [lend_no y]; exact this
      | some ob => rw [(hg b ob y).1] at this; cases this
    · have := hB.frzs b o xs z
      cases y : g b with
      | none => rw [lend_no y]; exact this
      | some ob => rw [(hg b ob y).1] at this; cases this
    · obtain ⟨more, this⟩ := hB.tbls b ps z
      refine ⟨more, ?_⟩
      cases y : g b with
      | none => rw [lend_no y]; exact this
      | some ob => rw [(hg b ob y).1] at this; cases this
  | next =>
    obtain ⟨_, _, _, q⟩ := hs
    exact False.elim q
  | brk => exact False.elim hs
  | cont => exact False.elim hs
theorem DefT.knownR {P : Program} {w : World} {K : PySem.W.Frag} {mg : Str → Option Value} {base : Heap} {x : Str} {st : Stmt} {N ps : List Str} {k : Nat} {sp : Sp} {z : Addr × Addr} (D : DefT K mg x st z) (S : FnScope N ps (defScope st))
    (hb : ∀ (kV doc pm : Value) (an : Option Addr) (cdv ct : Value) (us : List Value), us.length = ps.length → bindArgs (PySem.W.fnOf x x (defArgs st) (defBody st) (defScope st) .none kV doc pm an cdv ct) ⟨us, []⟩ = pure (ps.zip us))
    (len : ∀ vs H Q E, sp vs H Q E → vs.length = ps.length)
    (hbody : ∀ (f : Addr) (A : Around) (outer : List Env) (s : Shared) (H : Hp) (vs : List V) (Q : VK) (E : XK), Room k (A.deeper (envOfC x (defScope st) s.heap.objs.size f (.ref z.1))) → sp vs H Q E →
      ∃ t, PSRs (cxOf CX0 P w K mg base N x (defScope st) f (.ref z.1) A outer s H E).nox (defBody st) t ∧ t { nx := fun _ _ => False, rt := fun v σ H' => ∀ g, Lent (cxOf CX0 P w K mg base N x (defScope st) f (.ref z.1) A outer s H E).nox σ H' g → Q v (lend g H') } (start N vs) H) : Known P w K mg base CX0 (k + 1) x ps sp := by
  obtain ⟨f, fd, F, hm, hc⟩ := D.ex
  refine ⟨f, fd, ?_, hm, F.kp, F.binds hb⟩
  obtain ⟨oc, od, kV, doc, pm, an, cdv, ct, osl, rfl, lk, hcd⟩ := F.ex
  have e : cdv = .ref z.1 := hc
  subst e
  exact fn_ofR lk hcd S len fun A outer s H vs Q E hr hsp => hbody f A outer s H vs Q E hr hsp
end L2

namespace My
open PySem L2
def top (i : Nat) : Stmt := PySem.Challenge.pw_lazycols_k16_functions_called.main.body.getD i (.Pass ⟨0, 0, 0, 0⟩)
abbrev s_is_whole : Stmt := top 9
abbrev s_is_number : Stmt := top 10
abbrev s_is_name : Stmt := top 11
abbrev s_is_fault : Stmt := top 12
abbrev s_is_value : Stmt := top 13
abbrev s_settled : Stmt := top 14
abbrev s_check_name : Stmt := top 17
abbrev s_checked_names : Stmt := top 18
abbrev s_law_drawn : Stmt := top 26
abbrev s_law_whole : Stmt := top 27
abbrev s_law_thing : Stmt := top 28
abbrev s_law_due : Stmt := top 29
abbrev s_law_told : Stmt := top 30
abbrev s_law_rule : Stmt := top 31
abbrev s_law_alike : Stmt := top 32
abbrev s_law : Stmt := top 33
abbrev s_Rule_init : Stmt := inCls (top 19) 0
abbrev s_Rule_reckon : Stmt := inCls (top 19) 1
abbrev s_Cells_init : Stmt := inCls (top 20) 0
abbrev s_Above_init : Stmt := inCls (top 21) 0
abbrev s_Group_init : Stmt := inCls (top 22) 0
abbrev s_Lookup_init : Stmt := inCls (top 23) 0
abbrev s_Mend_init : Stmt := inCls (top 24) 0
structure TRule (K : PySem.W.Frag) (mg : Str → Option Value) (C : Addr) : Prop where
  c : mg "Rule" = some (.ref C)
  cl : Cls K C
  mks : PySem.W.makesIn K C = true
  kc : PySem.W.keepIn K (.ref C) = true
  hc : PySem.W.findIn K (.ref C) "__class__" = some (some (.builtin "object.__class__"))
  n_function : NoAttr K C "function"
  m_init : Mth K C "__init__" "Rule.__init__" s_Rule_init
  v_init : ClsM K C "__init__"
  m_reckon : Mth K C "reckon" "Rule.reckon" s_Rule_reckon
structure TCells (K : PySem.W.Frag) (mg : Str → Option Value) (C : Addr) : Prop where
  c : mg "Cells" = some (.ref C)
  cl : Cls K C
  mks : PySem.W.makesIn K C = true
  kc : PySem.W.keepIn K (.ref C) = true
  hc : PySem.W.findIn K (.ref C) "__class__" = some (some (.builtin "object.__class__"))
  n_function : NoAttr K C "function"
  n_names : NoAttr K C "names"
  m_init : Mth K C "__init__" "Cells.__init__" s_Cells_init
  m_reckon : Mth K C "reckon" "Rule.reckon" s_Rule_reckon
  up_Rule : ∃ R, mg "Rule" = some (.ref R) ∧ PySem.W.kitOne K (.ref C) (.ref R) = some true ∧ PySem.W.mroIn K C (.type "object") = some true ∧ PySem.W.specialIn K (.builtin "object.__class__") "__get__" = some (some (.builtin "getset_descriptor.__get__")) ∧ PySem.W.takesIn K (.builtin "object.__class__") = some true
structure TAbove (K : PySem.W.Frag) (mg : Str → Option Value) (C : Addr) : Prop where
  c : mg "Above" = some (.ref C)
  cl : Cls K C
  mks : PySem.W.makesIn K C = true
  kc : PySem.W.keepIn K (.ref C) = true
  hc : PySem.W.findIn K (.ref C) "__class__" = some (some (.builtin "object.__class__"))
  n_function : NoAttr K C "function"
  n_names : NoAttr K C "names"
  n_first : NoAttr K C "first"
  m_init : Mth K C "__init__" "Above.__init__" s_Above_init
  m_reckon : Mth K C "reckon" "Rule.reckon" s_Rule_reckon
  up_Rule : ∃ R, mg "Rule" = some (.ref R) ∧ PySem.W.kitOne K (.ref C) (.ref R) = some true ∧ PySem.W.mroIn K C (.type "object") = some true ∧ PySem.W.specialIn K (.builtin "object.__class__") "__get__" = some (some (.builtin "getset_descriptor.__get__")) ∧ PySem.W.takesIn K (.builtin "object.__class__") = some true
structure TGroup (K : PySem.W.Frag) (mg : Str → Option Value) (C : Addr) : Prop where
  c : mg "Group" = some (.ref C)
  cl : Cls K C
  mks : PySem.W.makesIn K C = true
  kc : PySem.W.keepIn K (.ref C) = true
  hc : PySem.W.findIn K (.ref C) "__class__" = some (some (.builtin "object.__class__"))
  n_function : NoAttr K C "function"
  n_key : NoAttr K C "key"
  n_name : NoAttr K C "name"
  m_init : Mth K C "__init__" "Group.__init__" s_Group_init
  m_reckon : Mth K C "reckon" "Rule.reckon" s_Rule_reckon
  up_Rule : ∃ R, mg "Rule" = some (.ref R) ∧ PySem.W.kitOne K (.ref C) (.ref R) = some true ∧ PySem.W.mroIn K C (.type "object") = some true ∧ PySem.W.specialIn K (.builtin "object.__class__") "__get__" = some (some (.builtin "getset_descriptor.__get__")) ∧ PySem.W.takesIn K (.builtin "object.__class__") = some true
structure TLookup (K : PySem.W.Frag) (mg : Str → Option Value) (C : Addr) : Prop where
  c : mg "Lookup" = some (.ref C)
  cl : Cls K C
  mks : PySem.W.makesIn K C = true
  kc : PySem.W.keepIn K (.ref C) = true
  hc : PySem.W.findIn K (.ref C) "__class__" = some (some (.builtin "object.__class__"))
  n_function : NoAttr K C "function"
  n_key : NoAttr K C "key"
  n_other : NoAttr K C "other"
  n_theirs : NoAttr K C "theirs"
  n_names : NoAttr K C "names"
  m_init : Mth K C "__init__" "Lookup.__init__" s_Lookup_init
  m_reckon : Mth K C "reckon" "Rule.reckon" s_Rule_reckon
  up_Rule : ∃ R, mg "Rule" = some (.ref R) ∧ PySem.W.kitOne K (.ref C) (.ref R) = some true ∧ PySem.W.mroIn K C (.type "object") = some true ∧ PySem.W.specialIn K (.builtin "object.__class__") "__get__" = some (some (.builtin "getset_descriptor.__get__")) ∧ PySem.W.takesIn K (.builtin "object.__class__") = some true
structure TMend (K : PySem.W.Frag) (mg : Str → Option Value) (C : Addr) : Prop where
  c : mg "Mend" = some (.ref C)
  cl : Cls K C
  mks : PySem.W.makesIn K C = true
  kc : PySem.W.keepIn K (.ref C) = true
  hc : PySem.W.findIn K (.ref C) "__class__" = some (some (.builtin "object.__class__"))
  n_function : NoAttr K C "function"
  n_name : NoAttr K C "name"
  m_init : Mth K C "__init__" "Mend.__init__" s_Mend_init
  m_reckon : Mth K C "reckon" "Rule.reckon" s_Rule_reckon
  up_Rule : ∃ R, mg "Rule" = some (.ref R) ∧ PySem.W.kitOne K (.ref C) (.ref R) = some true ∧ PySem.W.mroIn K C (.type "object") = some true ∧ PySem.W.specialIn K (.builtin "object.__class__") "__get__" = some (some (.builtin "getset_descriptor.__get__")) ∧ PySem.W.takesIn K (.builtin "object.__class__") = some true
structure Tops (K : PySem.W.Frag) (mg : Str → Option Value) : Prop where
  len : mg "len" = none
  isinstance : mg "isinstance" = none
  int : mg "int" = none
  bool : mg "bool" = none
  str : mg "str" = none
  all : mg "all" = none
  range : mg "range" = none
  abs : mg "abs" = none
  list : mg "list" = none
  tuple : mg "tuple" = none
  ValueError : mg "ValueError" = none
  g_LETTERS : ∃ t, mg "LETTERS" = some (.str ("abcdefghijklmnopqrstuvwxyz" : Str) t)
  g_MOST_LETTERS : ∃ t, mg "MOST_LETTERS" = some (.int 8 t)
  g_ODD : ∃ p, mg "ODD" = some (.ref p) ∧ ∀ H, SqT K H p [V.str ("fault" : Str), V.str ("odd" : Str)]
  g_MOST_NAMES : ∃ t, mg "MOST_NAMES" = some (.int 6 t)
  d_is_whole : Def K mg "is_whole" s_is_whole
  d_is_number : Def K mg "is_number" s_is_number
  d_is_name : Def K mg "is_name" s_is_name
  d_is_fault : Def K mg "is_fault" s_is_fault
  d_is_value : Def K mg "is_value" s_is_value
  d_settled : Def K mg "settled" s_settled
  d_check_name : Def K mg "check_name" s_check_name
  d_checked_names : Def K mg "checked_names" s_checked_names
  d_law_drawn : Def K mg "_law_drawn" s_law_drawn
  d_law_whole : Def K mg "_law_whole" s_law_whole
  d_law_thing : Def K mg "_law_thing" s_law_thing
  d_law_due : Def K mg "_law_due" s_law_due
  d_law_told : Def K mg "_law_told" s_law_told
  d_law_rule : Def K mg "_law_rule" s_law_rule
  d_law_alike : Def K mg "_law_alike" s_law_alike
  d_law : Def K mg "law" s_law
  bs : ∃ z_law_rule : Addr × Addr, DefT K mg "_law_rule" s_law_rule z_law_rule
  notabs : PySem.W.noTabs K = true
  t_Rule : ∃ C, TRule K mg C
  t_Cells : ∃ C, TCells K mg C
  t_Above : ∃ C, TAbove K mg C
  t_Group : ∃ C, TGroup K mg C
  t_Lookup : ∃ C, TLookup K mg C
  t_Mend : ∃ C, TMend K mg C
end My

namespace My
open PySem L2
abbrev letters : Str := "abcdefghijklmnopqrstuvwxyz"
def inL (c : Nat) : Bool := !(Builtin.Str.occurrences letters ⟨#[c]⟩ 0 letters.length 1).isEmpty
def nameS (t : Str) : Bool := decide ((1 : Int) ≤ t.length) && decide ((t.length : Int) ≤ 8) && t.cps.toList.all inL
def wholeD : PyData → Bool
  | .int _ => true
  | _ => false
def numD : PyData → Bool
  | .int i => decide ((if i < 0 then -i else i) < 10 ^ (60 : Int).toNat)
  | _ => false
def nameD : PyData → Bool
  | .str t => nameS t
  | _ => false
def faultD : PyData → Bool
  | .tuple [.str z, d] => decide (z = "fault") && nameD d
  | _ => false
def valueD (d : PyData) : Bool := numD d || faultD d
/-- a text is short; the texts in a tuple are -/
def shortS (d : PyData) : Prop := ∀ t, d = .str t → t.length ≤ 1000
def shortD (d : PyData) : Prop := ∀ ds, d = .tuple ds → ∀ e ∈ ds, shortS e
theorem shortS_str {t : Str} (h : t.length ≤ 1000) : shortS (.str t) := fun z e => by cases e; exact h
theorem shortD_not {d : PyData} (h : kdD d ≠ .tup) : shortD d := fun z e => by subst e; exact absurd rfl h
theorem shortD_tup {ds : List PyData} (h : ∀ e ∈ ds, shortS e) : shortD (.tuple ds) := fun z e => by cases e; exact h
section
variable {P : Program} {w : World} {K : PySem.W.Frag} {mg : Str → Option Value} {base : Heap}
def spWhole (K : PySem.W.Frag) : Sp := fun vs H Q _ => ∃ x d, vs = [x] ∧ Dt K H x d ∧ Q (.bl (wholeD d)) H
theorem sc_is_whole : FnScope ["thing"] ["thing"] (defScope s_is_whole) := ⟨rfl, rfl, rfl, by decide +kernel, rfl, by decide +kernel, by decide +kernel⟩
theorem k_is_whole (T : Tops K mg) : Known P w K mg base CX0 1 "is_whole" ["thing"] (spWhole K) := by
  refine T.d_is_whole.known sc_is_whole (fun _ _ _ _ _ _ us hl => match us, hl with | [_], _ => rfl) (fun vs H Q E h => ?_) (fun f cdv A outer s H vs Q E hr h => ?_)
  · obtain ⟨x, a, rfl, _⟩ := h
    rfl
  · obtain ⟨x, d, rfl, hd, q⟩ := h
    refine ⟨_, (pss_one (ps_ret (pe_and (pe_callB call_isT rfl T.isinstance b_isinstance (pa_cons (pv 0) (pa_cons (pe_ty T.int b_int) pa_nil))) (pe_one (pe_not (pe_callB call_isT rfl T.isinstance b_isinstance (pa_cons (pv 0) (pa_cons (pe_ty T.bool b_bool) pa_nil)))))))), ?_⟩
    refine ⟨_, rfl, x, "int", d, _, rfl, hd, kit_int K _, _, rfl, ?_⟩
    refine ite2 (fun h1 => ?_) (fun h1 => ?_)
    · refine ⟨_, rfl, x, "bool", d, _, rfl, hd, kit_bool K _, _, rfl, ?_⟩
      have e : (!decide (kdD d = Kd.bl)) = wholeD d := by cases d <;> simp [kdD, wholeD] at h1 ⊢
      show Q (.bl (!decide (kdD d = Kd.bl))) H
      rw [e]
      exact q
    · have e : false = wholeD d := by cases d <;> simp [kdD, wholeD] at h1 ⊢
      show Q (.bl false) H
      rw [e]
      exact q
def spName (K : PySem.W.Frag) : Sp := fun vs H Q _ => ∃ x d, vs = [x] ∧ Dt K H x d ∧ shortS d ∧ ∀ H', Same H H' → Q (.bl (nameD d)) H'
theorem sc_is_name : FnScope ["thing"] ["thing"] (defScope s_is_name) := ⟨rfl, rfl, rfl, by decide +kernel, rfl, by decide +kernel, by decide +kernel⟩
theorem k_is_name (T : Tops K mg) : Known P w K mg base CX0 1 "is_name" ["thing"] (spName K) := by
  refine T.d_is_name.known sc_is_name (fun _ _ _ _ _ _ us hl => match us, hl with | [_], _ => rfl) (fun vs H Q E h => ?_) (fun f cdv A outer s H vs Q E hr h => ?_)
  · obtain ⟨x, a, rfl, _⟩ := h
    rfl
  · obtain ⟨x, d, rfl, hd, hsh, q⟩ := h
    refine ⟨_, (pss_cons (ps_if (PW.pt (pw_or (pt_not (pt_val (pe_callB call_isT rfl T.isinstance b_isinstance (pa_cons (pv 0) (pa_cons (pe_ty T.str b_str) pa_nil))) (fun _ => rfl))) (pw_or1 (pt_not (pt_chain op_le op_le pe_int (pe_callB call_len rfl T.len b_len (pa_cons (pv 0) pa_nil)) (pe_gI T.g_MOST_LETTERS)))))) (pss_one (ps_ret pe_bl)) pss_nil)
      (pss_one (ps_ret (pe_callB (call_all rfl) rfl T.all b_all (pa_cons (pe_comp caps0 rfl rfl (by decide) (pi_str (pv 0)) (fun _ _ _ _ _ => pts_nil) (fun _ _ _ _ _ => (pe_cmpR op_in_str (pv 0) (pe_gS T.g_LETTERS) (by with_unfolding_all rfl)))) pa_nil))))), ?_⟩
    refine ⟨_, rfl, x, "str", d, _, rfl, hd, kit_str K _, _, rfl, ?_⟩
    by_cases hk : kdD d = .str
    · obtain ⟨t, rfl⟩ : ∃ t, d = .str t := by cases d <;> simp [kdD] at hk ⊢
      cases hd
      have ht : t.length ≤ 1000 := hsh t rfl
      refine iteF ?_
      refine ⟨_, rfl, _, _, rfl, ⟨sl ht, rfl⟩, _, _, rfl, rfl, _, rfl, ?_⟩
      refine ite2 (fun h1 => ?_) (fun h1 => ?_)
      · refine ⟨_, _, rfl, rfl, _, rfl, ?_⟩
        refine ite2 (fun h2 => ?_) (fun h2 => ?_)
        · have e : nameD (.str t) = false := by
            show nameS t = false
            unfold nameS
            have : decide ((t.length : Int) ≤ 8) = false := by simpa using h2
            rw [this, Bool.and_false, Bool.false_and]
          rw [← e]
          exact q H (Same.refl H)
        · have h8 : t.cps.size ≤ 8 := by
            have : (t.length : Int) ≤ 8 := by simpa using h2
            show t.length ≤ 8
            omega
          refine ⟨_, rfl, t, rfl, fun D hD => ?_⟩
          refine comp_str (x := t) (fun i ys H2 => ys = (t.cps.toList.take i).map (fun c => V.bl (inL c)) ∧ Same H H2) ⟨rfl, Same.new hD⟩ ?_ ?_
          · rintro i c ys H2 hc h2D ⟨rfl, s2⟩
            have hi : i < t.cps.size := (Array.getElem?_eq_some_iff.mp hc).1
            refine ⟨_, rfl, _, _, rfl, rfl, h2D, ?_, ?_, s2.on hD⟩
            · rw [List.length_map, List.length_take, Array.length_toList]
              exact small1000 (by omega)
            · rw [List.take_add_one, List.map_append, Array.getElem?_toList, hc]
              rfl
          · rintro ys H2 h2D ⟨rfl, s2⟩
            refine ⟨D, t.cps.toList.map inL, rfl, SqL.of ?_, ?_⟩
            · rw [h2D, List.take_of_length_le (by simp), List.map_map]
              rfl
            · have e : nameD (.str t) = (t.cps.toList.map inL).all id := by
                show nameS t = _
                unfold nameS
                have e1 : decide ((1 : Int) ≤ t.length) = true := h1
                have e2 : decide ((t.length : Int) ≤ 8) = true := by simpa using h2
                rw [e1, e2, Bool.true_and, Bool.true_and, List.all_map]
                rfl
              rw [← e]
              exact q H2 s2
      · refine ⟨_, rfl, ?_⟩
        refine iteT ?_
        have e : nameD (.str t) = false := by
          show nameS t = false
          unfold nameS
          have : decide ((1 : Int) ≤ t.length) = false := by simpa using h1
          rw [this, Bool.false_and, Bool.false_and]
        rw [← e]
        exact q H (Same.refl H)
    · rw [decide_eq_false hk]
      refine iteT (iteT ?_)
      have e : nameD d = false := by cases d <;> simp [kdD] at hk <;> rfl
      rw [← e]
      exact q H (Same.refl H)
def spNumber (K : PySem.W.Frag) : Sp := fun vs H Q _ => ∃ x d, vs = [x] ∧ Dt K H x d ∧ Q (.bl (numD d)) H
theorem sc_is_number : FnScope ["thing"] ["thing"] (defScope s_is_number) := ⟨rfl, rfl, rfl, by decide +kernel, rfl, by decide +kernel, by decide +kernel⟩
theorem k_is_number (T : Tops K mg) : Known P w K mg base CX0 2 "is_number" ["thing"] (spNumber K) := by
  have G_is_whole : Known P w K mg base CX0 1 "is_whole" ["thing"] (spWhole K) := k_is_whole T
  refine T.d_is_number.known sc_is_number (fun _ _ _ _ _ _ us hl => match us, hl with | [_], _ => rfl) (fun vs H Q E h => ?_) (fun f cdv A outer s H vs Q E hr h => ?_)
  · obtain ⟨x, a, rfl, _⟩ := h
    rfl
  · obtain ⟨x, d, rfl, hd, q⟩ := h
    refine ⟨_, (pss_one (ps_ret (pe_and (pe_callN G_is_whole (hr.mono (by decide)) pass0 (pa_cons (pv 0) pa_nil)) (pe_one (pe_cmpR op_lt (pe_callB call_abs rfl T.abs b_abs (pa_cons (pv 0) pa_nil)) (pe_op op_pow pe_int pe_int) (nomark _)))))), ?_⟩
    refine ⟨_, rfl, x, d, rfl, hd, _, rfl, ?_⟩
    refine ite2 (fun h1 => ?_) (fun h1 => ?_)
    · obtain ⟨i, rfl⟩ : ∃ i, d = .int i := by cases d <;> simp [wholeD] at h1 ⊢
      cases hd
      exact ⟨_, rfl, i, rfl, _, _, rfl, rfl, ⟨by decide, by decide, by decide⟩, _, _, rfl, rfl, q⟩
    · have e : numD d = false := by cases d <;> simp [wholeD] at h1 <;> rfl
      show Q (.bl false) H
      rw [← e]
      exact q
def spFault (K : PySem.W.Frag) : Sp := fun vs H Q _ => ∃ x d, vs = [x] ∧ Dt K H x d ∧ shortD d ∧ ∀ H', Same H H' → Q (.bl (faultD d)) H'
theorem sc_is_fault : FnScope ["thing"] ["thing"] (defScope s_is_fault) := ⟨rfl, rfl, rfl, by decide +kernel, rfl, by decide +kernel, by decide +kernel⟩
theorem faultD_len {ds : List PyData} (h : ds.length ≠ 2) : faultD (.tuple ds) = false := by
  match ds, h with
  | [], _ => rfl
  | [a], _ => cases a <;> rfl
  | [a, b], h => exact absurd rfl h
  | a :: b :: c :: r, _ => cases a <;> rfl
theorem k_is_fault (T : Tops K mg) : Known P w K mg base CX0 2 "is_fault" ["thing"] (spFault K) := by
  have G_is_name : Known P w K mg base CX0 1 "is_name" ["thing"] (spName K) := k_is_name T
  refine T.d_is_fault.known sc_is_fault (fun _ _ _ _ _ _ us hl => match us, hl with | [_], _ => rfl) (fun vs H Q E h => ?_) (fun f cdv A outer s H vs Q E hr h => ?_)
  · obtain ⟨x, a, rfl, _⟩ := h
    rfl
  · obtain ⟨x, d, rfl, hd, hsh, q⟩ := h
    refine ⟨_, (pss_cons (ps_if (PW.pt (pw_or (pt_not (pt_val (pe_callB call_isT rfl T.isinstance b_isinstance (pa_cons (pv 0) (pa_cons (pe_ty T.tuple b_tuple) pa_nil))) (fun _ => rfl))) (pw_or1 (pt_cmpR op_ne (pe_callB call_len rfl T.len b_len (pa_cons (pv 0) pa_nil)) pe_int (nomark _))))) (pss_one (ps_ret pe_bl)) pss_nil)
      (pss_one (ps_ret (pe_and (pe_callB call_isT rfl T.isinstance b_isinstance (pa_cons (pe_ix ix_tup (pv 0) pe_int (fun _ _ => rfl)) (pa_cons (pe_ty T.str b_str) pa_nil))) (pe_and (pe_cmpR op_eq (pe_ix ix_tup (pv 0) pe_int (fun _ _ => rfl)) pe_str (nomark _)) (pe_one (pe_callN G_is_name (hr.mono (by decide)) pass0 (pa_cons (pe_ix ix_tup (pv 0) pe_int (fun _ _ => rfl)) pa_nil)))))))), ?_⟩
    refine ⟨_, rfl, x, "tuple", d, _, rfl, hd, kit_tuple K _, _, rfl, ?_⟩
    by_cases hk : kdD d = .tup
    · obtain ⟨ds, rfl⟩ : ∃ ds, d = .tuple ds := by cases d <;> simp [kdD] at hk ⊢
      cases hd with
      | @tup a xs _ hq hall =>
        refine iteF ?_
        refine ⟨_, rfl, _, _, rfl, .inr ⟨_, hq, rfl⟩, rfl, _, rfl, ?_⟩
        have hl := hall.length
        refine ite2 (fun h1 => ?_) (fun h1 => ?_)
        · have h1' : xs.length ≠ 2 := by
            intro z
            rw [z] at h1
            exact absurd h1 (by decide)
          have e := faultD_len (ds := ds) (by rw [← hl]; exact h1')
          rw [← e]
          exact q H (Same.refl H)
        · have h1' : xs.length = 2 := by
            have z : ¬ (!decide (V.int (xs.length : Int) = V.int 2)) = true := h1
            have z2 : (xs.length : Int) = 2 := by simpa using z
            omega
          match xs, ds, hall, h1', hl with
          | [y, z], _, .cons (d := d1) h2 (.cons (d := d2) h3 .nil), _, _ =>
            have a0 : atI [y, z] 0 = some y := rfl
            have a1 : atI [y, z] 1 = some z := rfl
            refine ⟨_, rfl, _, _, _, _, rfl, rfl, hq, a0, y, "str", d1, _, rfl, h2, kit_str K _, _, rfl, ?_⟩
            refine ite2 (fun h4 => ?_) (fun h4 => ?_)
            · obtain ⟨t, rfl⟩ : ∃ t, d1 = .str t := by cases d1 <;> simp [kdD] at h4 ⊢
              cases h2
              refine ⟨_, rfl, _, _, _, _, rfl, rfl, hq, a0, rfl, _, rfl, ?_⟩
              refine ite2 (fun h5 => ?_) (fun h5 => ?_)
              · have h5' : t = "fault" := by
                  have z5 : V.str t = V.str "fault" := by simpa using h5
                  exact V.str.inj z5
                refine ⟨_, rfl, _, _, _, _, rfl, rfl, hq, a1, z, d2, rfl, h3, hsh _ rfl _ (List.mem_cons_of_mem _ List.mem_cons_self), fun H' s' => ?_⟩
                · have e : faultD (.tuple [.str t, d2]) = nameD d2 := by
                    show (decide (t = "fault") && nameD d2) = nameD d2
                    rw [decide_eq_true h5', Bool.true_and]
                  rw [← e]
                  exact q H' s'
              · have h5' : t ≠ "fault" := fun z5 => h5 (by rw [z5]; rfl)
                have e : faultD (.tuple [.str t, d2]) = false := by
                  show (decide (t = "fault") && nameD d2) = false
                  rw [decide_eq_false h5', Bool.false_and]
                show Q (.bl false) H
                rw [← e]
                exact q H (Same.refl H)
            · have e : faultD (.tuple [d1, d2]) = false := by cases d1 <;> simp [kdD] at h4 <;> rfl
              show Q (.bl false) H
              rw [← e]
              exact q H (Same.refl H)
    · rw [decide_eq_false hk]
      refine iteT (iteT ?_)
      have e : faultD d = false := by cases d <;> simp [kdD] at hk <;> rfl
      rw [← e]
      exact q H (Same.refl H)
def spValue (K : PySem.W.Frag) : Sp := fun vs H Q _ => ∃ x d, vs = [x] ∧ Dt K H x d ∧ shortD d ∧ ∀ H', Same H H' → Q (.bl (valueD d)) H'
theorem sc_is_value : FnScope ["thing"] ["thing"] (defScope s_is_value) := ⟨rfl, rfl, rfl, by decide +kernel, rfl, by decide +kernel, by decide +kernel⟩
theorem k_is_value (T : Tops K mg) : Known P w K mg base CX0 3 "is_value" ["thing"] (spValue K) := by
  have G_is_number : Known P w K mg base CX0 2 "is_number" ["thing"] (spNumber K) := k_is_number T
  have G_is_fault : Known P w K mg base CX0 2 "is_fault" ["thing"] (spFault K) := k_is_fault T
  refine T.d_is_value.known sc_is_value (fun _ _ _ _ _ _ us hl => match us, hl with | [_], _ => rfl) (fun vs H Q E h => ?_) (fun f cdv A outer s H vs Q E hr h => ?_)
  · obtain ⟨x, a, rfl, _⟩ := h
    rfl
  · obtain ⟨x, d, rfl, hd, hsh, q⟩ := h
    refine ⟨_, (pss_one (ps_ret (pe_or (pe_callN G_is_number (hr.mono (by decide)) pass0 (pa_cons (pv 0) pa_nil)) (pe_one (pe_callN G_is_fault (hr.mono (by decide)) pass0 (pa_cons (pv 0) pa_nil)))))), ?_⟩
    refine ⟨_, rfl, x, d, rfl, hd, _, rfl, ?_⟩
    refine ite2 (fun h1 => ?_) (fun h1 => ?_)
    · have e : valueD d = true := by unfold valueD; rw [h1, Bool.true_or]
      show Q (.bl true) H
      rw [← e]
      exact q H (Same.refl H)
    · refine ⟨_, rfl, x, d, rfl, hd, hsh, fun H' s' => ?_⟩
      have e : valueD d = faultD d := by
        unfold valueD
        have : numD d = false := by simpa using h1
        rw [this, Bool.false_or]
      rw [← e]
      exact q H' s'
end
end My

namespace My
open PySem L2
def drawZ (ns : List Int) (k sz : Int) : Int := (104729 * k * k + 48271 + (if 0 < (ns.length : Int) then ns.getD (k % ns.length).toNat 0 % 10 ^ 40 * (2 * k + 69621) else 0)) % 2147483647 / 3 % sz
theorem drawZ_nn (ns : List Int) (k : Int) {sz : Int} (h : 0 < sz) : 0 ≤ drawZ ns k sz := Int.emod_nonneg _ (Int.ne_of_gt h)
theorem drawZ_lt (ns : List Int) (k : Int) {sz : Int} (h : 0 < sz) : drawZ ns k sz < sz := Int.emod_lt_of_pos _ h
section
variable {P : Program} {w : World} {K : PySem.W.Frag} {mg : Str → Option Value} {base : Heap}
def spDrawn (K : PySem.W.Frag) : Sp := fun vs H Q _ => ∃ (a : Addr) (ns : List Int) (k sz : Int), vs = [.ref a, .int k, .int sz] ∧ SqL K H a (ns.map V.int) ∧ ns.length ≤ 63 ∧ 0 ≤ k ∧ k ≤ 1000000 ∧ 0 < sz ∧ Q (.int (drawZ ns k sz)) H
theorem sc_law_drawn : FnScope ["_law_script", "_law_k", "_law_size", "_law_number"] ["_law_script", "_law_k", "_law_size"] (defScope s_law_drawn) := ⟨rfl, rfl, rfl, by decide +kernel, rfl, by decide +kernel, by decide +kernel⟩
theorem k_law_drawn (T : Tops K mg) : Known P w K mg base CX0 1 "_law_drawn" ["_law_script", "_law_k", "_law_size"] (spDrawn K) := by
  refine T.d_law_drawn.known sc_law_drawn (fun _ _ _ _ _ _ us hl => match us, hl with | [_, _, _], _ => rfl) (fun vs H Q E h => ?_) (fun f cdv A outer s H vs Q E hr h => ?_)
  · obtain ⟨a, ns, k, sz, rfl, _⟩ := h
    rfl
  · obtain ⟨a, ns, k, sz, rfl, hS, hl, h0, h6, hz, q⟩ := h
    refine ⟨_, (pss_cons (ps_set (i := 3) sc_law_drawn.nd rfl (Or.inl rfl) (pe_op op_add (pe_op op_mul (pe_op op_mul pe_int (pv 1)) (pv 1)) pe_int))
      (pss_cons (ps_if (pt_cmpR op_gt (pe_callB call_len rfl T.len b_len (pa_cons (pv 0) pa_nil)) pe_int (nomark _)) (pss_one (ps_set (i := 3) sc_law_drawn.nd rfl (Or.inl rfl) (pe_op op_add (pv 3) (pe_op op_mul (pe_op op_mod (pe_ix ix_list (pv 0) (pe_op op_mod (pv 1) (pe_callB call_len rfl T.len b_len (pa_cons (pv 0) pa_nil))) (fun _ _ => rfl)) (pe_op op_pow pe_int pe_int)) (pe_op op_add (pe_op op_mul pe_int (pv 1)) pe_int))))) pss_nil)
      (pss_one (ps_ret (pe_op op_mod (pe_op op_fdiv (pe_op op_mod (pv 3) pe_int) pe_int) (pv 2)))))), ?_⟩
    have el : ((ns.map V.int).length : Int) = (ns.length : Int) := by rw [List.length_map]
    have fin : ∀ n : Int, drawZ ns k sz = n % 2147483647 / 3 % sz →
        tRet (tOp (rI (fun _ j => 0 < j) fun i j => .int (i % j)) (tOp (rI CDiv fun i j => .int (i / j)) (tOp (rI (fun _ j => 0 < j) fun i j => .int (i % j)) (tVar 3) (tC (.int 2147483647))) (tC (.int 3))) (tVar 2))
          { nx := fun _ H' => Q .non H', rt := Q } [some (.ref a), some (.int k), some (.int sz), some (.int n)] H := fun n e => by
      refine ⟨_, rfl, _, _, rfl, rfl, (show (0 : Int) < 2147483647 by decide), _, _, rfl, rfl, ⟨by decide, by decide⟩, _, rfl, _, _, rfl, rfl, hz, ?_⟩
      show Q (.int (n % 2147483647 / 3 % sz)) H
      rw [← e]
      exact q
    refine ⟨_, rfl, _, _, rfl, rfl, .inl ⟨by decide, by decide⟩, _, rfl, _, _, rfl, rfl, .inr ⟨by omega, by omega⟩, _, _, rfl, rfl, ?_⟩
    refine ⟨_, rfl, _, _, rfl, .inl ⟨_, hS, rfl⟩, _, _, rfl, rfl, _, rfl, ?_⟩
    rw [el]
    refine ite2 (fun h2 => ?_) (fun h2 => ?_)
    · have h2' : 0 < (ns.length : Int) := by simpa using h2
      have hm := Int.emod_nonneg k (Int.ne_of_gt h2')
      have hm' := Int.emod_lt_of_pos k h2'
      refine ⟨_, rfl, _, rfl, _, rfl, _, rfl, _, _, rfl, .inl ⟨_, hS, rfl⟩, _, _, rfl, rfl, by rw [el]; exact h2', a, _, _, _, rfl, rfl, hS, by rw [el]; exact at_map ns _ hm hm', ?_⟩
      refine ⟨_, _, rfl, rfl, ⟨by decide, by decide, by decide⟩, _, _, rfl, rfl, (show (0 : Int) < 10 ^ 40 by decide), _, rfl, _, _, rfl, rfl, .inl ⟨by decide, by decide⟩, _, _, rfl, rfl, _, _, rfl, rfl, .inr ⟨by omega, by omega⟩, _, _, rfl, rfl, ?_⟩
      refine fin _ ?_
      unfold drawZ
      rw [if_pos h2']
      rfl
    · have h2' : ¬ 0 < (ns.length : Int) := by simpa using h2
      refine fin _ ?_
      unfold drawZ
      rw [if_neg h2', Int.add_zero]
end
end My

namespace My
open PySem L2
/-- a name, by its letters -/
def Nl (t : Str) : Prop := 1 ≤ t.length ∧ t.length ≤ 8 ∧ ∀ c ∈ t.cps.toList, c ∈ letters.cps.toList
end My

namespace My
open PySem L2
theorem Nl.name {t : Str} (h : Nl t) : nameS t = true := by
  unfold nameS
  have a1 : decide ((1 : Int) ≤ t.length) = true := by rw [decide_eq_true_eq]; have := h.1; omega
  have a2 : decide ((t.length : Int) ≤ 8) = true := by rw [decide_eq_true_eq]; have := h.2.1; omega
  have a3 : t.cps.toList.all inL = true := by
    rw [List.all_eq_true]
    intro c hc
    have : ∀ c ∈ letters.cps.toList, inL c = true := by decide +kernel
    exact this c (h.2.2 c hc)
  rw [a1, a2, a3]
  rfl
section
variable {P : Program} {w : World} {K : PySem.W.Frag} {mg : Str → Option Value} {base : Heap}
def spCName : Sp := fun vs H Q _ => ∃ z : Str, vs = [.str z] ∧ Nl z ∧ ∀ H', Same H H' → Q .non H'
theorem sc_check_name : FnScope ["name"] ["name"] (defScope s_check_name) := ⟨rfl, rfl, rfl, by decide +kernel, rfl, by decide +kernel, by decide +kernel⟩
theorem k_check_name (T : Tops K mg) : Known P w K mg base CX0 2 "check_name" ["name"] spCName := by
  have G_is_name : Known P w K mg base CX0 1 "is_name" ["thing"] (spName K) := k_is_name T
  refine T.d_check_name.known sc_check_name (fun _ _ _ _ _ _ us hl => match us, hl with | [_], _ => rfl) (fun vs H Q E h => ?_) (fun f cdv A outer s H vs Q E hr h => ?_)
  · obtain ⟨z, rfl, _⟩ := h
    rfl
  · obtain ⟨z, rfl, hz, q⟩ := h
    refine ⟨_, (pss_one (ps_if (pt_not (pt_val (pe_callN G_is_name (hr.mono (by decide)) pass0 (pa_cons (pv 0) pa_nil)) (fun _ => rfl))) (pss_one ps_dead) pss_nil)), ?_⟩
    have h8 := hz.2.1
    refine ⟨_, rfl, _, _, rfl, .str z, shortS_str (by omega), fun H' s' => ⟨_, rfl, ?_⟩⟩
    rw [show nameD (.str z) = true from hz.name]
    exact iteF (q H' s')
def spCNames (K : PySem.W.Frag) : Sp := fun vs H Q _ => ∃ (a : Addr) (zs : List Str), vs = [.ref a] ∧ SqL K H a (zs.map V.str) ∧ zs.length ≤ 6 ∧ (∀ z ∈ zs, Nl z) ∧ ∀ H' l, Same H H' → H l = none → H' l = some (.lst (zs.map V.str)) → Q (.ref l) H'
theorem dt_strs {K : PySem.W.Frag} {H : Hp} : ∀ zs : List Str, DtAll K H (zs.map V.str) (zs.map PyData.str)
  | [] => .nil
  | z :: zs => .cons (.str z) (dt_strs zs)
theorem sc_checked_names : FnScope ["names", "name"] ["names"] (defScope s_checked_names) := ⟨rfl, rfl, rfl, by decide +kernel, rfl, by decide +kernel, by decide +kernel⟩
theorem k_checked_names (T : Tops K mg) : Known P w K mg base CX0 3 "checked_names" ["names"] (spCNames K) := by
  have G_check_name : Known P w K mg base CX0 2 "check_name" ["name"] spCName := k_check_name T
  refine T.d_checked_names.known sc_checked_names (fun _ _ _ _ _ _ us hl => match us, hl with | [_], _ => rfl) (fun vs H Q E h => ?_) (fun f cdv A outer s H vs Q E hr h => ?_)
  · obtain ⟨a, zs, rfl, _⟩ := h
    rfl
  · obtain ⟨a, zs, rfl, hq, h6, hz, q⟩ := h
    refine ⟨_, (pss_cons (ps_if (PW.pt (pw_or (pt_not (pt_val (pe_callB call_isT rfl T.isinstance b_isinstance (pa_cons (pv 0) (pa_cons (pe_ty T.list b_list) pa_nil))) (fun _ => rfl))) (pw_or1 (pt_cmpR op_gt (pe_callB call_len rfl T.len b_len (pa_cons (pv 0) pa_nil)) (pe_gI T.g_MOST_NAMES) (nomark _))))) (pss_one ps_dead) pss_nil)
      (pss_cons (ps_for PassesOwn.never rfl (pi_list (pv 0)) (pg_name (i := 1) sc_checked_names.nd rfl (Or.inl rfl)) (pss_one (ps_expr (pe_callN G_check_name (hr.mono (by decide)) pass0 (pa_cons (pv 1) pa_nil)))))
      (pss_one (ps_ret (pe_callTy call_list_of rfl T.list b_list (pa_cons (pv 0) pa_nil)))))), ?_⟩
    refine ⟨_, rfl, _, "list", _, _, rfl, Dt.lst hq (dt_strs zs), kit_list K _, _, rfl, iteF ?_⟩
    refine ⟨_, rfl, _, _, rfl, .inl ⟨_, hq, rfl⟩, _, _, rfl, rfl, _, rfl, ?_⟩
    rw [List.length_map, decide_eq_false (by omega)]
    refine iteF ?_
    refine ⟨_, rfl, a, rfl, ⟨_, hq⟩, ?_⟩
    refine for_list (K := K) (a := a) (xs := zs.map V.str) (fun i σ H2 => ∃ o, σ = [some (.ref a), o] ∧ Same H H2) ⟨_, rfl, Same.refl H⟩ (fun i σ H2 _ ⟨_, _, s2⟩ => s2.seq hq) ?_ ?_
    · rintro i x σ H2 hx ⟨o, rfl, s2⟩
      rw [List.getElem?_map] at hx
      cases e : zs[i]? with
      | none => rw [e] at hx; cases hx
      | some z =>
        rw [e] at hx
        cases hx
        exact ⟨_, rfl, z, rfl, hz z (List.mem_of_getElem? e), fun H3 s3 => ⟨_, rfl, s2.trans s3⟩⟩
    · rintro σ H2 ⟨o, rfl, s2⟩
      refine ⟨_, rfl, a, _, rfl, .inl (s2.seq hq), fun l hl => ?_⟩
      have hl' : H l = none := by
        cases e : H l with
        | none => rfl
        | some u => rw [s2 _ _ e] at hl; cases hl
      exact q _ l (s2.trans (Same.new hl)) hl' upd_same
end
end My

namespace My
open PySem L2
/-- all stays but the instance at p -/
def But (p : Addr) (H H' : Hp) : Prop := ∀ b o, b ≠ p → H b = some o → H' b = some o
theorem But.of {p : Addr} {H H' : Hp} (s : Same H H') : But p H H' := fun b o _ e => s b o e
theorem But.trans {p : Addr} {H H1 H2 : Hp} (a : But p H H1) (b : But p H1 H2) : But p H H2 := fun c o n e => b c o n (a c o n e)
theorem But.upd {p : Addr} {H : Hp} {o : HO} : But p H (upd H p o) := fun b u n e => by rw [upd_ne n]; exact e
section
variable {P : Program} {w : World} {K : PySem.W.Frag} {mg : Str → Option Value} {base : Heap}
def spRuleI (K : PySem.W.Frag) : Sp := fun vs H Q _ => ∃ (p C dx : Addr) (fs : List (Str × V)) (v : V), vs = [.ref p, v] ∧ H p = some (.ins C dx fs) ∧ Cls K C ∧ NoAttr K C "function" ∧ fs.length < 1000 ∧ Q .non (upd H p (.ins C dx (putF "function" v fs)))
theorem sc_Rule_init : FnScope ["self", "function"] ["self", "function"] (defScope s_Rule_init) := ⟨rfl, rfl, rfl, by decide +kernel, rfl, by decide +kernel, by decide +kernel⟩
theorem k_Rule_init (T : Tops K mg) {C : Addr} (Y : TRule K mg C) : KnownM P w K mg base CX0 1 C "__init__" ["self", "function"] (spRuleI K) := by
  refine Y.m_init.known sc_Rule_init (fun _ _ _ _ _ _ us hl => match us, hl with | [_, _], _ => rfl) (fun vs H Q E h => ?_) (fun f cdv A outer s H vs Q E hr h => ?_)
  · obtain ⟨p, C', dx, fs, v, rfl, _⟩ := h
    rfl
  · obtain ⟨p, C', dx, fs, v, rfl, hp, hC, hN, hl, q⟩ := h
    refine ⟨_, (pss_one (ps_fld (pv 0) (pv 1) rfl)), ?_⟩
    exact ⟨_, rfl, _, rfl, p, C', dx, fs, rfl, hp, hC, hN, hl, q⟩
theorem sqL_but {K : PySem.W.Frag} {H H' : Hp} {p a : Addr} {xs : List V} (b : But p H H') (hp : ∃ C dx fs, H p = some (.ins C dx fs)) (h : SqL K H a xs) : SqL K H' a xs := by
  have na : ∀ u, H a = some u → (∀ C dx fs, u ≠ .ins C dx fs) → a ≠ p := fun u e n z => by
    obtain ⟨C, dx, fs, e'⟩ := hp
    rw [← z, e] at e'
    exact n _ _ _ (Option.some.inj e')
  rcases h with (h | ⟨o, h⟩) | h
  · exact .inl (.inl (b _ _ (na _ h (fun _ _ _ z => by cases z)) h))
  · exact .inl (.inr ⟨o, b _ _ (na _ h (fun _ _ _ z => by cases z)) h⟩)
  · exact .inr h
def FnPost (C p : Addr) (v : V) (H' : Hp) : Prop := ∃ dx fs, H' p = some (.ins C dx fs) ∧ fs.lookup ("function" : Str) = some v ∧ fs.lookup ("reckon" : Str) = none
def spCellsI (K : PySem.W.Frag) (C : Addr) : Sp := fun vs H Q _ => ∃ (p dx a : Addr) (v : V) (zs : List Str), vs = [.ref p, .ref a, v] ∧ H p = some (.ins C dx []) ∧ SqL K H a (zs.map V.str) ∧ zs.length ≤ 6 ∧ (∀ z ∈ zs, Nl z) ∧ ∀ H', But p H H' → FnPost C p v H' → Q .non H'
theorem sc_Cells_init : FnScope ["self", "names", "function"] ["self", "names", "function"] (defScope s_Cells_init) := ⟨rfl, rfl, rfl, by decide +kernel, rfl, by decide +kernel, by decide +kernel⟩
theorem k_Cells_init (T : Tops K mg) {R C : Addr} (Z : TRule K mg R) (Y : TCells K mg C) : KnownI P w K mg base CX0 4 C ["self", "names", "function"] (spCellsI K C) := by
  have G_init : KnownM P w K mg base CX0 1 R "__init__" ["self", "function"] (spRuleI K) := k_Rule_init T Z
  have G_checked_names : Known P w K mg base CX0 3 "checked_names" ["names"] (spCNames K) := k_checked_names T
  refine (Y.m_init.known sc_Cells_init (fun _ _ _ _ _ _ us hl => match us, hl with | [_, _, _], _ => rfl) (fun vs H Q E h => ?_) (fun f cdv A outer s H vs Q E hr h => ?_)).init Y.mks Y.kc
  · obtain ⟨p, dx, a, v, zs, rfl, _⟩ := h
    rfl
  · obtain ⟨p, dx, a, v, zs, rfl, hp, hq, h6, hz, q⟩ := h
    refine ⟨_, (pss_cons (ps_expr (pe_clsN (pe_gR Z.c) Z.v_init G_init (hr.mono (by decide)) pass0 (pa_cons (pv 0) (pa_cons (pv 2) pa_nil))))
      (pss_one (ps_fld (pv 0) (pe_callN G_checked_names (hr.mono (by decide)) pass0 (pa_cons (pv 1) pa_nil)) rfl))), ?_⟩
    have b1 : But p H (upd H p (.ins C dx (putF "function" v []))) := But.upd
    refine ⟨_, rfl, _, rfl, p, C, dx, [], v, rfl, hp, Y.cl, Y.n_function, by decide, ?_⟩
    refine ⟨_, rfl, a, zs, rfl, sqL_but b1 ⟨_, _, _, hp⟩ hq, h6, hz, fun H2 l s2 hl h2 => ?_⟩
    have nlp : l ≠ p := fun z => by rw [z, upd_same] at hl; cases hl
    refine ⟨_, rfl, p, C, dx, _, rfl, s2 _ _ upd_same, Y.cl, Y.n_names, (by show 1 < 1000; decide), ?_⟩
    refine q _ ((b1.trans (But.of s2)).trans But.upd) ⟨dx, _, upd_same, ?_, ?_⟩
    · rw [lookup_putF, if_neg (by decide), lookup_putF, if_pos rfl]
    · rw [lookup_putF, if_neg (by decide), lookup_putF, if_neg (by decide)]
      rfl
def spAboveI (K : PySem.W.Frag) (C : Addr) : Sp := fun vs H Q _ => ∃ (p dx a : Addr) (i : Int) (v : V) (zs : List Str), vs = [.ref p, .int i, .ref a, v] ∧ numD (.int i) = true ∧ H p = some (.ins C dx []) ∧ SqL K H a (zs.map V.str) ∧ zs.length ≤ 6 ∧ (∀ z ∈ zs, Nl z) ∧ ∀ H', But p H H' → FnPost C p v H' → Q .non H'
theorem sc_Above_init : FnScope ["self", "first", "names", "function"] ["self", "first", "names", "function"] (defScope s_Above_init) := ⟨rfl, rfl, rfl, by decide +kernel, rfl, by decide +kernel, by decide +kernel⟩
theorem k_Above_init (T : Tops K mg) {R C : Addr} (Z : TRule K mg R) (Y : TAbove K mg C) : KnownI P w K mg base CX0 4 C ["self", "first", "names", "function"] (spAboveI K C) := by
  have G_init : KnownM P w K mg base CX0 1 R "__init__" ["self", "function"] (spRuleI K) := k_Rule_init T Z
  have G_checked_names : Known P w K mg base CX0 3 "checked_names" ["names"] (spCNames K) := k_checked_names T
  have G_is_number : Known P w K mg base CX0 2 "is_number" ["thing"] (spNumber K) := k_is_number T
  refine (Y.m_init.known sc_Above_init (fun _ _ _ _ _ _ us hl => match us, hl with | [_, _, _, _], _ => rfl) (fun vs H Q E h => ?_) (fun f cdv A outer s H vs Q E hr h => ?_)).init Y.mks Y.kc
  · obtain ⟨p, dx, a, i, v, zs, rfl, _⟩ := h
    rfl
  · obtain ⟨p, dx, a, i, v, zs, rfl, hi, hp, hq, h6, hz, q⟩ := h
    refine ⟨_, (pss_cons (ps_expr (pe_clsN (pe_gR Z.c) Z.v_init G_init (hr.mono (by decide)) pass0 (pa_cons (pv 0) (pa_cons (pv 3) pa_nil))))
      (pss_cons (ps_fld (pv 0) (pe_callN G_checked_names (hr.mono (by decide)) pass0 (pa_cons (pv 2) pa_nil)) rfl)
      (pss_cons (ps_if (pt_not (pt_val (pe_callN G_is_number (hr.mono (by decide)) pass0 (pa_cons (pv 1) pa_nil)) (fun _ => rfl))) (pss_one ps_dead) pss_nil)
      (pss_one (ps_fld (pv 0) (pv 1) rfl))))), ?_⟩
    have b1 : But p H (upd H p (.ins C dx (putF "function" v []))) := But.upd
    refine ⟨_, rfl, _, rfl, p, C, dx, [], v, rfl, hp, Y.cl, Y.n_function, by decide, ?_⟩
    refine ⟨_, rfl, a, zs, rfl, sqL_but b1 ⟨_, _, _, hp⟩ hq, h6, hz, fun H2 l s2 hl h2 => ?_⟩
    have nlp : l ≠ p := fun z => by rw [z, upd_same] at hl; cases hl
    refine ⟨_, rfl, p, C, dx, _, rfl, s2 _ _ upd_same, Y.cl, Y.n_names, (by show 1 < 1000; decide), ?_⟩
    refine ⟨_, rfl, _, _, rfl, .int i, _, rfl, ?_⟩
    rw [hi]
    refine iteF ?_
    refine ⟨_, rfl, _, rfl, p, C, dx, _, rfl, upd_same, Y.cl, Y.n_first, (by show 2 < 1000; decide), ?_⟩
    refine q _ (((b1.trans (But.of s2)).trans But.upd).trans But.upd) ⟨dx, _, upd_same, ?_, ?_⟩
    · rw [lookup_putF, if_neg (by decide), lookup_putF, if_neg (by decide), lookup_putF, if_pos rfl]
    · rw [lookup_putF, if_neg (by decide), lookup_putF, if_neg (by decide), lookup_putF, if_neg (by decide)]
      rfl
def spGroupI (K : PySem.W.Frag) (C : Addr) : Sp := fun vs H Q _ => ∃ (p dx : Addr) (k n : Str) (v : V), vs = [.ref p, .str k, .str n, v] ∧ H p = some (.ins C dx []) ∧ Nl k ∧ Nl n ∧ ∀ H', But p H H' → FnPost C p v H' → Q .non H'
theorem sc_Group_init : FnScope ["self", "key", "name", "function"] ["self", "key", "name", "function"] (defScope s_Group_init) := ⟨rfl, rfl, rfl, by decide +kernel, rfl, by decide +kernel, by decide +kernel⟩
theorem k_Group_init (T : Tops K mg) {R C : Addr} (Z : TRule K mg R) (Y : TGroup K mg C) : KnownI P w K mg base CX0 3 C ["self", "key", "name", "function"] (spGroupI K C) := by
  have G_init : KnownM P w K mg base CX0 1 R "__init__" ["self", "function"] (spRuleI K) := k_Rule_init T Z
  have G_check_name : Known P w K mg base CX0 2 "check_name" ["name"] spCName := k_check_name T
  refine (Y.m_init.known sc_Group_init (fun _ _ _ _ _ _ us hl => match us, hl with | [_, _, _, _], _ => rfl) (fun vs H Q E h => ?_) (fun f cdv A outer s H vs Q E hr h => ?_)).init Y.mks Y.kc
  · obtain ⟨p, dx, k, n, v, rfl, _⟩ := h
    rfl
  · obtain ⟨p, dx, k, n, v, rfl, hp, hk, hn, q⟩ := h
    refine ⟨_, (pss_cons (ps_expr (pe_clsN (pe_gR Z.c) Z.v_init G_init (hr.mono (by decide)) pass0 (pa_cons (pv 0) (pa_cons (pv 3) pa_nil))))
      (pss_cons (ps_expr (pe_callN G_check_name (hr.mono (by decide)) pass0 (pa_cons (pv 1) pa_nil)))
      (pss_cons (ps_expr (pe_callN G_check_name (hr.mono (by decide)) pass0 (pa_cons (pv 2) pa_nil)))
      (pss_cons (ps_fld (pv 0) (pv 1) rfl)
      (pss_one (ps_fld (pv 0) (pv 2) rfl)))))), ?_⟩
    have b1 : But p H (upd H p (.ins C dx (putF "function" v []))) := But.upd
    refine ⟨_, rfl, _, rfl, p, C, dx, [], v, rfl, hp, Y.cl, Y.n_function, by decide, ?_⟩
    refine ⟨_, rfl, k, rfl, hk, fun H2 s2 => ⟨_, rfl, n, rfl, hn, fun H3 s3 => ?_⟩⟩
    have s23 := s2.trans s3
    refine ⟨_, rfl, _, rfl, p, C, dx, _, rfl, s23 _ _ upd_same, Y.cl, Y.n_key, (by show 1 < 1000; decide), ?_⟩
    refine ⟨_, rfl, _, rfl, p, C, dx, _, rfl, upd_same, Y.cl, Y.n_name, (by show 2 < 1000; decide), ?_⟩
    refine q _ (((b1.trans (But.of s23)).trans But.upd).trans But.upd) ⟨dx, _, upd_same, ?_, ?_⟩
    · rw [lookup_putF, if_neg (by decide), lookup_putF, if_neg (by decide), lookup_putF, if_pos rfl]
    · rw [lookup_putF, if_neg (by decide), lookup_putF, if_neg (by decide), lookup_putF, if_neg (by decide)]
      rfl
def spLookupI (K : PySem.W.Frag) (C : Addr) : Sp := fun vs H Q _ => ∃ (p dx a : Addr) (k o th : Str) (v : V) (zs : List Str), vs = [.ref p, .str k, .str o, .str th, .ref a, v] ∧ H p = some (.ins C dx []) ∧ Nl k ∧ Nl o ∧ Nl th ∧ SqL K H a (zs.map V.str) ∧ zs.length ≤ 6 ∧ (∀ z ∈ zs, Nl z) ∧
  ∀ H', But p H H' → FnPost C p v H' → Q .non H'
theorem sc_Lookup_init : FnScope ["self", "key", "table", "theirs", "names", "function"] ["self", "key", "table", "theirs", "names", "function"] (defScope s_Lookup_init) := ⟨rfl, rfl, rfl, by decide +kernel, rfl, by decide +kernel, by decide +kernel⟩
theorem k_Lookup_init (T : Tops K mg) {R C : Addr} (Z : TRule K mg R) (Y : TLookup K mg C) : KnownI P w K mg base CX0 4 C ["self", "key", "table", "theirs", "names", "function"] (spLookupI K C) := by
  have G_init : KnownM P w K mg base CX0 1 R "__init__" ["self", "function"] (spRuleI K) := k_Rule_init T Z
  have G_check_name : Known P w K mg base CX0 2 "check_name" ["name"] spCName := k_check_name T
  have G_checked_names : Known P w K mg base CX0 3 "checked_names" ["names"] (spCNames K) := k_checked_names T
  refine (Y.m_init.known sc_Lookup_init (fun _ _ _ _ _ _ us hl => match us, hl with | [_, _, _, _, _, _], _ => rfl) (fun vs H Q E h => ?_) (fun f cdv A outer s H vs Q E hr h => ?_)).init Y.mks Y.kc
  · obtain ⟨p, dx, a, k, o, th, v, zs, rfl, _⟩ := h
    rfl
  · obtain ⟨p, dx, a, k, o, th, v, zs, rfl, hp, hk, ho, ht, hq, h6, hz, q⟩ := h
    refine ⟨_, (pss_cons (ps_expr (pe_clsN (pe_gR Z.c) Z.v_init G_init (hr.mono (by decide)) pass0 (pa_cons (pv 0) (pa_cons (pv 5) pa_nil))))
      (pss_cons (ps_expr (pe_callN G_check_name (hr.mono (by decide)) pass0 (pa_cons (pv 1) pa_nil)))
      (pss_cons (ps_expr (pe_callN G_check_name (hr.mono (by decide)) pass0 (pa_cons (pv 2) pa_nil)))
      (pss_cons (ps_expr (pe_callN G_check_name (hr.mono (by decide)) pass0 (pa_cons (pv 3) pa_nil)))
      (pss_cons (ps_fld (pv 0) (pv 1) rfl)
      (pss_cons (ps_fld (pv 0) (pv 2) rfl)
      (pss_cons (ps_fld (pv 0) (pv 3) rfl)
      (pss_one (ps_fld (pv 0) (pe_callN G_checked_names (hr.mono (by decide)) pass0 (pa_cons (pv 4) pa_nil)) rfl))))))))), ?_⟩
    have b1 : But p H (upd H p (.ins C dx (putF "function" v []))) := But.upd
    refine ⟨_, rfl, _, rfl, p, C, dx, [], v, rfl, hp, Y.cl, Y.n_function, by decide, ?_⟩
    refine ⟨_, rfl, k, rfl, hk, fun H2 s2 => ⟨_, rfl, o, rfl, ho, fun H3 s3 => ⟨_, rfl, th, rfl, ht, fun H4 s4 => ?_⟩⟩⟩
    have s24 := (s2.trans s3).trans s4
    refine ⟨_, rfl, _, rfl, p, C, dx, _, rfl, s24 _ _ upd_same, Y.cl, Y.n_key, (by show 1 < 1000; decide), ?_⟩
    refine ⟨_, rfl, _, rfl, p, C, dx, _, rfl, upd_same, Y.cl, Y.n_other, (by show 2 < 1000; decide), ?_⟩
    refine ⟨_, rfl, _, rfl, p, C, dx, _, rfl, upd_same, Y.cl, Y.n_theirs, (by show 3 < 1000; decide), ?_⟩
    have b2 := (((b1.trans (But.of s24)).trans (But.upd (o := .ins C dx (putF "key" (.str k) (putF "function" v []))))).trans (But.upd (o := .ins C dx (putF "other" (.str o) (putF "key" (.str k) (putF "function" v [])))))).trans (But.upd (o := .ins C dx (putF "theirs" (.str th) (putF "other" (.str o) (putF "key" (.str k) (putF "function" v []))))))
    refine ⟨_, rfl, a, zs, rfl, sqL_but b2 ⟨_, _, _, hp⟩ hq, h6, hz, fun H5 l s5 hl h5 => ?_⟩
    have nlp : l ≠ p := fun z => by rw [z, upd_same] at hl; cases hl
    refine ⟨_, rfl, p, C, dx, _, rfl, s5 _ _ upd_same, Y.cl, Y.n_names, (by show 4 < 1000; decide), ?_⟩
    refine q _ ((b2.trans (But.of s5)).trans But.upd) ⟨dx, _, upd_same, ?_, ?_⟩
    · rw [lookup_putF, if_neg (by decide), lookup_putF, if_neg (by decide), lookup_putF, if_neg (by decide), lookup_putF, if_neg (by decide), lookup_putF, if_pos rfl]
    · rw [lookup_putF, if_neg (by decide), lookup_putF, if_neg (by decide), lookup_putF, if_neg (by decide), lookup_putF, if_neg (by decide), lookup_putF, if_neg (by decide)]
      rfl
def spMendI (K : PySem.W.Frag) (C : Addr) : Sp := fun vs H Q _ => ∃ (p dx : Addr) (n : Str) (v : V), vs = [.ref p, .str n, v] ∧ H p = some (.ins C dx []) ∧ Nl n ∧ ∀ H', But p H H' → FnPost C p v H' → Q .non H'
theorem sc_Mend_init : FnScope ["self", "name", "function"] ["self", "name", "function"] (defScope s_Mend_init) := ⟨rfl, rfl, rfl, by decide +kernel, rfl, by decide +kernel, by decide +kernel⟩
theorem k_Mend_init (T : Tops K mg) {R C : Addr} (Z : TRule K mg R) (Y : TMend K mg C) : KnownI P w K mg base CX0 3 C ["self", "name", "function"] (spMendI K C) := by
  have G_init : KnownM P w K mg base CX0 1 R "__init__" ["self", "function"] (spRuleI K) := k_Rule_init T Z
  have G_check_name : Known P w K mg base CX0 2 "check_name" ["name"] spCName := k_check_name T
  refine (Y.m_init.known sc_Mend_init (fun _ _ _ _ _ _ us hl => match us, hl with | [_, _, _], _ => rfl) (fun vs H Q E h => ?_) (fun f cdv A outer s H vs Q E hr h => ?_)).init Y.mks Y.kc
  · obtain ⟨p, dx, n, v, rfl, _⟩ := h
    rfl
  · obtain ⟨p, dx, n, v, rfl, hp, hn, q⟩ := h
    refine ⟨_, (pss_cons (ps_expr (pe_clsN (pe_gR Z.c) Z.v_init G_init (hr.mono (by decide)) pass0 (pa_cons (pv 0) (pa_cons (pv 2) pa_nil))))
      (pss_cons (ps_expr (pe_callN G_check_name (hr.mono (by decide)) pass0 (pa_cons (pv 1) pa_nil)))
      (pss_one (ps_fld (pv 0) (pv 1) rfl)))), ?_⟩
    have b1 : But p H (upd H p (.ins C dx (putF "function" v []))) := But.upd
    refine ⟨_, rfl, _, rfl, p, C, dx, [], v, rfl, hp, Y.cl, Y.n_function, by decide, ?_⟩
    refine ⟨_, rfl, n, rfl, hn, fun H2 s2 => ?_⟩
    refine ⟨_, rfl, _, rfl, p, C, dx, _, rfl, s2 _ _ upd_same, Y.cl, Y.n_name, (by show 1 < 1000; decide), ?_⟩
    refine q _ ((b1.trans (But.of s2)).trans But.upd) ⟨dx, _, upd_same, ?_, ?_⟩
    · rw [lookup_putF, if_neg (by decide), lookup_putF, if_pos rfl]
    · rw [lookup_putF, if_neg (by decide), lookup_putF, if_neg (by decide)]
      rfl
end
end My

namespace My
open PySem L2
section
variable {P : Program} {w : World} {K : PySem.W.Frag} {mg : Str → Option Value} {base : Heap}
def spSettled (K : PySem.W.Frag) (p : Addr) : Sp := fun vs H Q _ => ∃ x d, vs = [x] ∧ Dt K H x d ∧ shortD d ∧ ∀ H', Same H H' → Q (if valueD d then x else .ref p) H'
theorem sc_settled : FnScope ["thing"] ["thing"] (defScope s_settled) := ⟨rfl, rfl, rfl, by decide +kernel, rfl, by decide +kernel, by decide +kernel⟩
theorem k_settled (T : Tops K mg) {p : Addr} (hp : mg "ODD" = some (.ref p)) : Known P w K mg base CX0 4 "settled" ["thing"] (spSettled K p) := by
  have G_is_value : Known P w K mg base CX0 3 "is_value" ["thing"] (spValue K) := k_is_value T
  refine T.d_settled.known sc_settled (fun _ _ _ _ _ _ us hl => match us, hl with | [_], _ => rfl) (fun vs H Q E h => ?_) (fun f cdv A outer s H vs Q E hr h => ?_)
  · obtain ⟨x, d, rfl, _⟩ := h
    rfl
  · obtain ⟨x, d, rfl, hd, hsh, q⟩ := h
    refine ⟨_, (pss_cons (ps_if (pt_val (pe_callN G_is_value (hr.mono (by decide)) pass0 (pa_cons (pv 0) pa_nil)) (fun _ => rfl)) (pss_one (ps_ret (pv 0))) pss_nil)
      (pss_one (ps_ret (pe_gR hp)))), ?_⟩
    refine ⟨_, rfl, x, d, rfl, hd, hsh, fun H' s' => ⟨_, rfl, ?_⟩⟩
    have q' := q H' s'
    refine ite2 (fun h1 => ?_) (fun h1 => ?_)
    · rw [if_pos h1] at q'
      exact ⟨_, rfl, q'⟩
    · rw [if_neg h1] at q'
      exact q'
abbrev F60 : Int := 10 ^ (60 : Int).toNat
def spWholeD (K : PySem.W.Frag) : Sp := fun vs H Q _ => ∃ x d, vs = [x] ∧ Dt K H x d ∧ Q (.bl (wholeD d)) H
theorem sc_law_whole : FnScope ["_law_found"] ["_law_found"] (defScope s_law_whole) := ⟨rfl, rfl, rfl, by decide +kernel, rfl, by decide +kernel, by decide +kernel⟩
theorem k_law_whole (T : Tops K mg) : Known P w K mg base CX0 1 "_law_whole" ["_law_found"] (spWholeD K) := by
  refine T.d_law_whole.known sc_law_whole (fun _ _ _ _ _ _ us hl => match us, hl with | [_], _ => rfl) (fun vs H Q E h => ?_) (fun f cdv A outer s H vs Q E hr h => ?_)
  · obtain ⟨x, d, rfl, _⟩ := h
    rfl
  · obtain ⟨x, d, rfl, hd, q⟩ := h
    refine ⟨_, (pss_one (ps_ret (pe_and (pe_callB call_isT rfl T.isinstance b_isinstance (pa_cons (pv 0) (pa_cons (pe_ty T.int b_int) pa_nil))) (pe_one (pe_not (pe_callB call_isT rfl T.isinstance b_isinstance (pa_cons (pv 0) (pa_cons (pe_ty T.bool b_bool) pa_nil)))))))), ?_⟩
    refine ⟨_, rfl, x, "int", d, _, rfl, hd, kit_int K _, _, rfl, ?_⟩
    by_cases h1 : kdD d = .int ∨ kdD d = .bl
    · rw [decide_eq_true h1]
      refine iteT ⟨_, rfl, x, "bool", d, _, rfl, hd, kit_bool K _, _, rfl, ?_⟩
      have e : wholeD d = !decide (kdD d = .bl) := by
        rcases h1 with h1 | h1
        · cases d <;> simp [kdD] at h1 <;> rfl
        · cases d <;> simp [kdD] at h1 <;> rfl
      rw [← e]
      exact q
    · rw [decide_eq_false h1]
      refine iteF ?_
      have e : wholeD d = false := by cases d <;> simp [kdD] at h1 <;> rfl
      rw [← e]
      exact q
/-! ### the things that a function tells -/
def thingsD (far : Int) : List PyData := ([.int 0, .int (-1), .int far, .int (F60 - 1 - far), .int (far - F60 + 1), .int F60, .int (-F60 - far)] ++ [.tuple [.str "fault", .str "odd"], .tuple [.str "fault", .str "abcdefgh"], .tuple [.str "fault", .str ""], .tuple [.str "fault", .str "A"], .tuple [.str "fault", .str "a", .str "b"]] ++ [.tuple [.str "fault"]]) ++
  [.tuple [.str "faults", .str "a"], .tuple [.str "fault", .str "abcdefghi"], .tuple [.int 1, .int 2], .tuple [], .bool true, .bool false, .none, .str "", .str "a", .str "fault", .list [.int 1], .list []]
def twoF : List PyData := [.tuple [.str "fault", .str "odd"], .tuple [.str "fault", .str "abcdefgh"]]
/-- what is asked of a thing's data -/
structure GoodT (d : PyData) : Prop where
  sh : shortD d
  ly : d.canLay0 = true
  dp : d.depth ≤ 60
  no : numD d = false → (twoF.any fun z => PyData.eqv z d) = valueD d
  ok : valueD d = true → PyData.eqv d d = true ∧ ((∃ i, d = .int i) ∨ ∃ ds, d = .tuple ds)
theorem good_int {n : Int} (h : numD (.int n) = true ∨ numD (.int n) = false) : GoodT (.int n) := by
  refine ⟨shortD_not (by intro z; cases z), rfl, (by show 0 ≤ 60; decide), fun e => ?_, fun _ => ⟨by simp [PyData.eqv], .inl ⟨n, rfl⟩⟩⟩
  unfold valueD
  rw [e]
  rfl
theorem short_all {ds : List PyData} (h : ∀ e ∈ ds, ∀ t, e = .str t → t.length ≤ 1000) : shortD (.tuple ds) := shortD_tup fun e he t et => h e he t et
theorem good_of {far : Int} (h0 : 0 ≤ far) (h1 : far < 999983) {d : PyData} (h : d ∈ thingsD far) : GoodT d := by
  have pos : (999983 : Int) < F60 := by decide +kernel
  unfold thingsD at h
  simp only [List.mem_append, List.mem_cons, List.not_mem_nil, or_false] at h
  rcases h with ((((rfl | rfl | rfl | rfl | rfl | rfl | rfl) | (rfl | rfl | rfl | rfl | rfl)) | rfl) | (rfl | rfl | rfl | rfl | rfl | rfl | rfl | rfl | rfl | rfl | rfl | rfl))
  case inl.inl.inl.inl => exact good_int (Bool.eq_false_or_eq_true _)
  case inl.inl.inl.inr.inl => exact good_int (Bool.eq_false_or_eq_true _)
  case inl.inl.inl.inr.inr.inl => exact good_int (Bool.eq_false_or_eq_true _)
  case inl.inl.inl.inr.inr.inr.inl => exact good_int (Bool.eq_false_or_eq_true _)
  case inl.inl.inl.inr.inr.inr.inr.inl => exact good_int (Bool.eq_false_or_eq_true _)
  case inl.inl.inl.inr.inr.inr.inr.inr.inl => exact good_int (Bool.eq_false_or_eq_true _)
  case inl.inl.inl.inr.inr.inr.inr.inr.inr => exact good_int (Bool.eq_false_or_eq_true _)
  all_goals
    refine ⟨?_, by decide +kernel, by decide +kernel, fun _ => by decide +kernel, fun e => ?_⟩
    · first
        | (refine shortD_not ?_; decide)
        | (refine short_all fun e he t et => ?_; subst et; simp only [List.mem_cons, List.not_mem_nil, or_false, PyData.str.injEq, reduceCtorEq] at he <;> first | exact he.elim | (rcases he with rfl | rfl | rfl <;> decide +kernel) | (rcases he with rfl | rfl <;> decide +kernel) | (subst he; decide +kernel))
    · first
        | (refine absurd e ?_; decide +kernel)
        | (refine ⟨?_, .inr ⟨_, rfl⟩⟩; decide +kernel)
end
end My

namespace My
open PySem L2
theorem noneB {H H' : Hp} {l : Addr} (s : Same H H') (h : H' l = none) : H l = none := by
  cases e : H l with
  | none => rfl
  | some o => rw [s l o e] at h; cases h
theorem pa_t {X : Cx} {elts es : List Expr} {x1 : _} {pos : Pos} {te : TE} {t : TA} (ha : PE X (.Tuple elts x1 pos) te) (hr : PA X es t) : PA X (.Tuple elts x1 pos :: es) (tCons te t) := pa_cons ha hr rfl
theorem pa_l {X : Cx} {elts es : List Expr} {pos : Pos} {te : TE} {t : TA} (ha : PE X (.List elts pos) te) (hr : PA X es t) : PA X (.List elts pos :: es) (tCons te t) := pa_cons ha hr rfl
theorem pa_k {X : Cx} {c : Const} {j : _} {es : List Expr} {pos : Pos} {te : TE} {t : TA} (ha : PE X (.Constant c j pos) te) (hr : PA X es t) : PA X (.Constant c j pos :: es) (tCons te t) := pa_cons ha hr rfl
/-- a thing and its data: it leans on one object at most, which is its own -/
def ThingAt (O : Addr → Prop) (K : PySem.W.Frag) (H : Hp) (v : V) (d : PyData) : Prop :=
  (∀ H', Dt K H' v d) ∨ ∃ a u, v = .ref a ∧ O a ∧ H a = some u ∧ (∀ φ, u ≠ .ext φ) ∧ ∀ H' : Hp, H' a = some u → Dt K H' v d
section
variable {O : Addr → Prop} {K : PySem.W.Frag} {H H' : Hp} {v : V} {d : PyData}
theorem ThingAt.dt (h : ThingAt O K H v d) : Dt K H v d := by
  rcases h with h | ⟨a, u, _, _, e, _, h⟩
  · exact h H
  · exact h H e
theorem ThingAt.same (s : Same H H') (h : ThingAt O K H v d) : ThingAt O K H' v d := by
  rcases h with h | ⟨a, u, e1, e2, e3, e4, h⟩
  · exact .inl h
  · exact .inr ⟨a, u, e1, e2, s _ _ e3, e4, h⟩
theorem th_tup {t : Addr} {xs : List V} {ds : List PyData} (hO : O t) (h : H t = some (.tup xs)) (hd : ∀ H', DtAll K H' xs ds) : ThingAt O K H (.ref t) (.tuple ds) :=
  .inr ⟨t, _, rfl, hO, h, (fun φ z => by cases z), fun H' e => .tup (SqT.of e) (hd H')⟩
theorem th_lst {t : Addr} {xs : List V} {ds : List PyData} (hO : O t) (h : H t = some (.lst xs)) (hd : ∀ H', DtAll K H' xs ds) : ThingAt O K H (.ref t) (.list ds) :=
  .inr ⟨t, _, rfl, hO, h, (fun φ z => by cases z), fun H' e => .lst (SqL.of e) (hd H')⟩
abbrev ThAll (O : Addr → Prop) (K : PySem.W.Frag) (H : Hp) : List V → List PyData → Prop := Paired (ThingAt O K H)
theorem thall_same (s : Same H H') : ∀ {vs : List V} {ds : List PyData}, ThAll O K H vs ds → ThAll O K H' vs ds
  | _, _, .nil => .nil
  | _, _, .cons r t => .cons (r.same s) (thall_same s t)
theorem thall_app : ∀ {vs us : List V} {ds es : List PyData}, ThAll O K H vs ds → ThAll O K H us es → ThAll O K H (vs ++ us) (ds ++ es)
  | _, _, _, _, .nil, h => h
  | _, _, _, _, .cons r t, h => .cons r (thall_app t h)
theorem thall_at : ∀ {vs : List V} {ds : List PyData} {i : Nat} {v : V}, ThAll O K H vs ds → vs[i]? = some v → ∃ d, ds[i]? = some d ∧ ThingAt O K H v d
  | _, _, _, _, .nil, e => by simp at e
  | _, _, 0, _, .cons r _, e => by simp at e; subst e; exact ⟨_, rfl, r⟩
  | _, _, i + 1, v, .cons _ t, e => by
    obtain ⟨d, h1, h2⟩ := thall_at (i := i) (v := v) t (by simpa using e)
    exact ⟨d, by simpa using h1, h2⟩
end
/-- the same, laid in a box: what is in it stays closed while the parts are fitted -/
structure PEw (X : Cx) (e : Expr) (t : TE) : Prop where
  run : PE X e t
structure PAw (X : Cx) (es : List Expr) (t : TA) : Prop where
  run : PA X es t
section
variable {X : Cx} {es elts : List Expr} {te : TE} {t u : TA} {pos : Pos}
theorem paw_nil : PAw X [] tNil := ⟨pa_nil⟩
theorem paw_t {x1 : _} (ha : PEw X (.Tuple elts x1 pos) te) (hr : PAw X es t) : PAw X (.Tuple elts x1 pos :: es) (tCons te t) := ⟨pa_t ha.run hr.run⟩
theorem paw_l (ha : PEw X (.List elts pos) te) (hr : PAw X es t) : PAw X (.List elts pos :: es) (tCons te t) := ⟨pa_l ha.run hr.run⟩
theorem paw_k {c : Const} {j : _} (ha : PEw X (.Constant c j pos) te) (hr : PAw X es t) : PAw X (.Constant c j pos :: es) (tCons te t) := ⟨pa_k ha.run hr.run⟩
theorem pew_tup {x1 : _} (h : PAw X es t) : PEw X (.Tuple es x1 pos) (tTup t) := ⟨pe_tup h.run⟩
theorem pew_lst (h : PAw X es t) : PEw X (.List es pos) (tLst t) := ⟨pe_lst h.run⟩
theorem pew_str {x j} : PEw X (.Constant (.str x) j pos) (tC (.str x)) := ⟨pe_str⟩
theorem pew_int {i j} : PEw X (.Constant (.int i) j pos) (tC (.int i)) := ⟨pe_int⟩
theorem pew_bl {b j} : PEw X (.Constant (.bool b) j pos) (tC (.bl b)) := ⟨pe_bl⟩
theorem pew_non {j} : PEw X (.Constant .none j pos) (tC .non) := ⟨pe_non⟩
theorem pew_op {op : Operator} {r : R2} {a b : Expr} {ta tb : TE} (ho : OpR X (binaryOp op) r) (ha : PEw X a ta) (hb : PEw X b tb) : PEw X (.BinOp a op b pos) (tOp r ta tb) := ⟨pe_op ho ha.run hb.run⟩
end
structure PSw (X : Cx) (st : Stmt) (t : TS) : Prop where
  run : PS X st t
structure PSsw (X : Cx) (st : List Stmt) (t : TS) : Prop where
  run : PSs X st t
section
variable {X : Cx} {st : Stmt} {rest : List Stmt} {t u : TS} {pos : Pos}
theorem psw_set {i : Nat} {x : Str} {e : Expr} {te : TE} {pos' : Pos} (hN : X.N.Nodup) (hi : X.N[i]? = some x) (hx : Loc X.env.scope x) (he : PEw X e te) (hs : swapsWith e (some (.Name x pos')) pos.line X.env = pure false := by rfl) (hf : X.fn x = true ∨ X.env.scope.names.lookup x = some .local := by first | exact .inl rfl | exact .inr rfl | assumption) :
    PSw X (.Assign [.Name x pos'] e pos) (tAsg te (gName i)) := ⟨ps_set hN hi hx he.run hs hf⟩
theorem pssw_cons (h1 : PSw X st t) (h2 : PSsw X rest u) : PSsw X (st :: rest) (tSeq t u) := ⟨pss_cons h1.run h2.run⟩
theorem pssw_one (h1 : PSw X st t) : PSsw X [st] t := ⟨pss_one h1.run⟩
end
section
variable {P : Program} {w : World} {K : PySem.W.Frag} {mg : Str → Option Value} {base : Heap}
def spThing (K : PySem.W.Frag) : Sp := fun vs H Q _ => ∃ (a : Addr) (ns : List Int) (k : Int), vs = [.ref a, .int k] ∧ SqL K H a (ns.map V.int) ∧ ns.length ≤ 63 ∧ 0 ≤ k ∧ k ≤ 1000 ∧ ∀ H' v d, Same H H' → GoodT d → ThingAt (fun b => H b = none) K H' v d → Q v H'
theorem sc_law_thing : FnScope ["_law_script", "_law_k", "_law_far", "_law_some"] ["_law_script", "_law_k"] (defScope s_law_thing) := ⟨rfl, rfl, rfl, by decide +kernel, rfl, by decide +kernel, by decide +kernel⟩
theorem k_law_thing (T : Tops K mg) : Known P w K mg base CX0 2 "_law_thing" ["_law_script", "_law_k"] (spThing K) := by
  have G_law_drawn : Known P w K mg base CX0 1 "_law_drawn" ["_law_script", "_law_k", "_law_size"] (spDrawn K) := k_law_drawn T
  refine T.d_law_thing.known sc_law_thing (fun _ _ _ _ _ _ us hl => match us, hl with | [_, _], _ => rfl) (fun vs H Q E h => ?_) (fun f cdv A outer s H vs Q E hr h => ?_)
  · obtain ⟨a, ns, k, rfl, _⟩ := h
    rfl
  · obtain ⟨a, ns, k, rfl, hS, hl, h0, h1, q⟩ := h
    refine ⟨_, PSsw.run (pssw_cons (PSw.mk (ps_set (i := 2) sc_law_thing.nd rfl (Or.inl rfl) (pe_callN G_law_drawn (hr.mono (by decide)) pass0 (pa_cons (pv 0) (pa_cons (pe_op op_add (pv 1) pe_int) (pa_cons pe_int pa_nil))))))
      (pssw_cons (PSw.mk (ps_set (i := 3) sc_law_thing.nd rfl (Or.inl rfl) (pe_lst (pa_cons pe_int (pa_cons (pe_un un_neg pe_int) (pa_cons (pv 2) (pa_cons (pe_op op_sub (pe_op op_sub (pe_op op_pow pe_int pe_int) pe_int) (pv 2)) (pa_cons (pe_op op_add (pe_op op_sub (pv 2) (pe_op op_pow pe_int pe_int)) pe_int) (pa_cons (pe_op op_pow pe_int pe_int) (pa_cons (pe_op op_sub (pe_un un_neg (pe_op op_pow pe_int pe_int)) (pv 2)) pa_nil))))))))))
      (pssw_cons (psw_set (i := 3) sc_law_thing.nd rfl (Or.inl rfl) (pew_op op_cat (PEw.mk (pv 3)) (pew_lst (paw_t (pew_tup (paw_k pew_str (paw_k pew_str paw_nil))) (paw_t (pew_tup (paw_k pew_str (paw_k pew_str paw_nil))) (paw_t (pew_tup (paw_k pew_str (paw_k pew_str paw_nil))) (paw_t (pew_tup (paw_k pew_str (paw_k pew_str paw_nil))) (paw_t (pew_tup (paw_k pew_str (paw_k pew_str (paw_k pew_str paw_nil)))) paw_nil))))))))
      (pssw_cons (PSw.mk (ps_expr (pe_bm PySem.F.plainAttrs_list PySem.F.slot_list_append PySem.F.type_list_append mt_append (pv 3) (PAw.run (paw_t (pew_tup (paw_k pew_str paw_nil)) paw_nil)))))
      (pssw_cons (psw_set (i := 3) sc_law_thing.nd rfl (Or.inl rfl) (pew_op op_cat (PEw.mk (pv 3)) (pew_lst (paw_t (pew_tup (paw_k pew_str (paw_k pew_str paw_nil))) (paw_t (pew_tup (paw_k pew_str (paw_k pew_str paw_nil))) (paw_t (pew_tup (paw_k pew_int (paw_k pew_int paw_nil))) (paw_t (pew_tup paw_nil) (paw_k pew_bl (paw_k pew_bl (paw_k pew_non (paw_k pew_str (paw_k pew_str (paw_k pew_str (paw_l (pew_lst (paw_k pew_int paw_nil)) (paw_l (pew_lst paw_nil) paw_nil)))))))))))))))
      (pssw_one (PSw.mk (ps_ret (pe_ix ix_list (pv 3) (pe_callN G_law_drawn (hr.mono (by decide)) pass0 (pa_cons (pv 0) (pa_cons (pv 1) (pa_cons pe_int pa_nil)))) (fun _ _ => rfl)))))))))), ?_⟩
    have b0 := drawZ_nn ns (k + 1) (show (0 : Int) < 999983 by decide)
    have b1 := drawZ_lt ns (k + 1) (show (0 : Int) < 999983 by decide)
    have c0 := drawZ_nn ns k (show (0 : Int) < 25 by decide)
    have c1 := drawZ_lt ns k (show (0 : Int) < 25 by decide)
    refine ⟨_, rfl, _, rfl, _, _, rfl, rfl, a, ns, _, 999983, rfl, hS, hl, by omega, by omega, by decide, ?_⟩
    refine ⟨_, rfl, _, rfl, _, _, rfl, rfl, ⟨by decide, by decide, by decide⟩, _, _, rfl, rfl, _, rfl, _, _, rfl, rfl, _, rfl, _, _, rfl, rfl, ⟨by decide, by decide, by decide⟩, _, _, rfl, rfl, _, _, rfl, rfl, _, _, rfl, rfl, ⟨by decide, by decide, by decide⟩, _, _, rfl, rfl, ⟨by decide, by decide, by decide⟩, _, rfl, _, rfl, _, _, rfl, rfl, sl, fun l1 hl1 => ?_⟩
    generalize hfar : drawZ ns (k + 1) 999983 = far at b0 b1 ⊢
    have s1 := Same.new (o := .lst [.int 0, .int (-1), .int far, .int (F60 - 1 - far), .int (far - F60 + 1), .int F60, .int (-F60 - far)]) hl1
    have g1 := upd_same (H := H) (a := l1) (o := .lst [.int 0, .int (-1), .int far, .int (F60 - 1 - far), .int (far - F60 + 1), .int F60, .int (-F60 - far)])
    generalize upd H l1 (.lst [.int 0, .int (-1), .int far, .int (F60 - 1 - far), .int (far - F60 + 1), .int F60, .int (-F60 - far)]) = H1 at s1 g1 ⊢
    refine ⟨_, rfl, sl, fun p1 h1' => ⟨sl, fun p2 h2' => ⟨sl, fun p3 h3' => ⟨sl, fun p4 h4' => ⟨sl, fun p5 h5' => ⟨sl, fun l2 hl2 => ?_⟩⟩⟩⟩⟩⟩
    have u1 := Same.new (o := .tup [.str ("fault" : Str), .str ("odd" : Str)]) h1'
    have u2 := Same.new (o := .tup [.str ("fault" : Str), .str ("abcdefgh" : Str)]) h2'
    have u3 := Same.new (o := .tup [.str ("fault" : Str), .str ("" : Str)]) h3'
    have u4 := Same.new (o := .tup [.str ("fault" : Str), .str ("A" : Str)]) h4'
    have u5 := Same.new (o := .tup [.str ("fault" : Str), .str ("a" : Str), .str ("b" : Str)]) h5'
    have u6 := Same.new (o := .lst [.ref p1, .ref p2, .ref p3, .ref p4, .ref p5]) hl2
    have o1 : H p1 = none := noneB s1 h1'
    have o2 : H p2 = none := noneB (s1.trans u1) h2'
    have o3 : H p3 = none := noneB ((s1.trans u1).trans u2) h3'
    have o4 : H p4 = none := noneB (((s1.trans u1).trans u2).trans u3) h4'
    have o5 : H p5 = none := noneB ((((s1.trans u1).trans u2).trans u3).trans u4) h5'
    have v1 := ((((u2.trans u3).trans u4).trans u5).trans u6) _ _ (upd_same (H := H1) (a := p1) (o := .tup [.str ("fault" : Str), .str ("odd" : Str)]))
    have v2 := (((u3.trans u4).trans u5).trans u6) _ _ (upd_same (a := p2) (o := .tup [.str ("fault" : Str), .str ("abcdefgh" : Str)]))
    have v3 := ((u4.trans u5).trans u6) _ _ (upd_same (a := p3) (o := .tup [.str ("fault" : Str), .str ("" : Str)]))
    have v4 := (u5.trans u6) _ _ (upd_same (a := p4) (o := .tup [.str ("fault" : Str), .str ("A" : Str)]))
    have v5 := u6 _ _ (upd_same (a := p5) (o := .tup [.str ("fault" : Str), .str ("a" : Str), .str ("b" : Str)]))
    have gl2 := upd_same (H := upd (upd (upd (upd (upd H1 p1 (.tup [.str ("fault" : Str), .str ("odd" : Str)])) p2 (.tup [.str ("fault" : Str), .str ("abcdefgh" : Str)])) p3 (.tup [.str ("fault" : Str), .str ("" : Str)])) p4 (.tup [.str ("fault" : Str), .str ("A" : Str)])) p5 (.tup [.str ("fault" : Str), .str ("a" : Str), .str ("b" : Str)])) (a := l2) (o := .lst [.ref p1, .ref p2, .ref p3, .ref p4, .ref p5])
    have uA := ((((u1.trans u2).trans u3).trans u4).trans u5).trans u6
    generalize upd (upd (upd (upd (upd (upd H1 p1 (.tup [.str ("fault" : Str), .str ("odd" : Str)])) p2 (.tup [.str ("fault" : Str), .str ("abcdefgh" : Str)])) p3 (.tup [.str ("fault" : Str), .str ("" : Str)])) p4 (.tup [.str ("fault" : Str), .str ("A" : Str)])) p5 (.tup [.str ("fault" : Str), .str ("a" : Str), .str ("b" : Str)])) l2 (.lst [.ref p1, .ref p2, .ref p3, .ref p4, .ref p5]) = HA at v1 v2 v3 v4 v5 gl2 uA ⊢
    have TA : ThAll (fun b => H b = none) K HA ([.int 0, .int (-1), .int far, .int (F60 - 1 - far), .int (far - F60 + 1), .int F60, .int (-F60 - far)] ++ [.ref p1, .ref p2, .ref p3, .ref p4, .ref p5])
        ([.int 0, .int (-1), .int far, .int (F60 - 1 - far), .int (far - F60 + 1), .int F60, .int (-F60 - far)] ++ [.tuple [.str "fault", .str "odd"], .tuple [.str "fault", .str "abcdefgh"], .tuple [.str "fault", .str ""], .tuple [.str "fault", .str "A"], .tuple [.str "fault", .str "a", .str "b"]]) :=
      thall_app (.cons (.inl fun _ => .int _) (.cons (.inl fun _ => .int _) (.cons (.inl fun _ => .int _) (.cons (.inl fun _ => .int _) (.cons (.inl fun _ => .int _) (.cons (.inl fun _ => .int _) (.cons (.inl fun _ => .int _) .nil)))))))
        (.cons (th_tup o1 v1 fun _ => .cons (.str _) (.cons (.str _) .nil)) (.cons (th_tup o2 v2 fun _ => .cons (.str _) (.cons (.str _) .nil)) (.cons (th_tup o3 v3 fun _ => .cons (.str _) (.cons (.str _) .nil)) (.cons (th_tup o4 v4 fun _ => .cons (.str _) (.cons (.str _) .nil)) (.cons (th_tup o5 v5 fun _ => .cons (.str _) (.cons (.str _) (.cons (.str _) .nil))) .nil)))))
    have sA := s1.trans uA
    refine ⟨l1, l2, _, _, rfl, rfl, uA _ _ g1, gl2, sl, fun l3 hl3 => ?_⟩
    have u7 := Same.new (o := .lst ([.int 0, .int (-1), .int far, .int (F60 - 1 - far), .int (far - F60 + 1), .int F60, .int (-F60 - far)] ++ [.ref p1, .ref p2, .ref p3, .ref p4, .ref p5])) hl3
    have g3 := upd_same (H := HA) (a := l3) (o := .lst ([.int 0, .int (-1), .int far, .int (F60 - 1 - far), .int (far - F60 + 1), .int F60, .int (-F60 - far)] ++ [.ref p1, .ref p2, .ref p3, .ref p4, .ref p5]))
    generalize upd HA l3 (.lst ([.int 0, .int (-1), .int far, .int (F60 - 1 - far), .int (far - F60 + 1), .int F60, .int (-F60 - far)] ++ [.ref p1, .ref p2, .ref p3, .ref p4, .ref p5])) = HB at u7 g3 ⊢
    refine ⟨_, rfl, .inl ⟨rfl, _, SqL.of g3⟩, sl, fun p6 hp6 => ?_⟩
    have u8 := Same.new (o := .tup [.str ("fault" : Str)]) hp6
    have n63 : p6 ≠ l3 := Ne.symm (ne_of_none g3 hp6)
    refine ⟨l3, _, _, rfl, rfl, u8 _ _ g3, small1000 (by show 12 ≤ 1000; decide), ?_⟩
    have sN : Same HA (upd (upd HB p6 (.tup [.str ("fault" : Str)])) l3 (.lst (([.int 0, .int (-1), .int far, .int (F60 - 1 - far), .int (far - F60 + 1), .int F60, .int (-F60 - far)] ++ [.ref p1, .ref p2, .ref p3, .ref p4, .ref p5]) ++ [.ref p6]))) := (u7.trans u8).on hl3
    have g6 : upd (upd HB p6 (.tup [.str ("fault" : Str)])) l3 (.lst (([.int 0, .int (-1), .int far, .int (F60 - 1 - far), .int (far - F60 + 1), .int F60, .int (-F60 - far)] ++ [.ref p1, .ref p2, .ref p3, .ref p4, .ref p5]) ++ [.ref p6])) p6 = some (.tup [.str ("fault" : Str)]) := by rw [upd_ne n63, upd_same]
    have g3' := upd_same (H := upd HB p6 (.tup [.str ("fault" : Str)])) (a := l3) (o := .lst (([.int 0, .int (-1), .int far, .int (F60 - 1 - far), .int (far - F60 + 1), .int F60, .int (-F60 - far)] ++ [.ref p1, .ref p2, .ref p3, .ref p4, .ref p5]) ++ [.ref p6]))
    have o6 : H p6 = none := noneB (sA.trans u7) hp6
    generalize upd (upd HB p6 (.tup [.str ("fault" : Str)])) l3 (.lst (([.int 0, .int (-1), .int far, .int (F60 - 1 - far), .int (far - F60 + 1), .int F60, .int (-F60 - far)] ++ [.ref p1, .ref p2, .ref p3, .ref p4, .ref p5]) ++ [.ref p6])) = HC at sN g6 g3' ⊢
    have TC := thall_app (thall_same sN TA) (Paired.cons (th_tup (K := K) (ds := [.str "fault"]) o6 g6 fun _ => .cons (.str _) .nil) .nil)
    have sC := sA.trans sN
    refine ⟨_, rfl, sl, fun q1 e1 => ⟨sl, fun q2 e2 => ⟨sl, fun q3 e3 => ⟨sl, fun q4 e4 => ⟨sl, fun q5 e5 => ⟨sl, fun q6 e6 => ⟨sl, fun l4 hl4 => ?_⟩⟩⟩⟩⟩⟩⟩
    have w1 := Same.new (o := .tup [.str ("faults" : Str), .str ("a" : Str)]) e1
    have w2 := Same.new (o := .tup [.str ("fault" : Str), .str ("abcdefghi" : Str)]) e2
    have w3 := Same.new (o := .tup [.int 1, .int 2]) e3
    have w4 := Same.new (o := .tup []) e4
    have w5 := Same.new (o := .lst [.int 1]) e5
    have w6 := Same.new (o := .lst []) e6
    have w7 := Same.new (o := .lst [.ref q1, .ref q2, .ref q3, .ref q4, .bl true, .bl false, .non, .str ("" : Str), .str ("a" : Str), .str ("fault" : Str), .ref q5, .ref q6]) hl4
    have r1 : H q1 = none := noneB sC e1
    have r2 : H q2 = none := noneB (sC.trans w1) e2
    have r3 : H q3 = none := noneB ((sC.trans w1).trans w2) e3
    have r4 : H q4 = none := noneB (((sC.trans w1).trans w2).trans w3) e4
    have r5 : H q5 = none := noneB ((((sC.trans w1).trans w2).trans w3).trans w4) e5
    have r6 : H q6 = none := noneB (((((sC.trans w1).trans w2).trans w3).trans w4).trans w5) e6
    have x1 := (((((w2.trans w3).trans w4).trans w5).trans w6).trans w7) _ _ (upd_same (a := q1) (o := .tup [.str ("faults" : Str), .str ("a" : Str)]))
    have x2 := ((((w3.trans w4).trans w5).trans w6).trans w7) _ _ (upd_same (a := q2) (o := .tup [.str ("fault" : Str), .str ("abcdefghi" : Str)]))
    have x3 := (((w4.trans w5).trans w6).trans w7) _ _ (upd_same (a := q3) (o := .tup [.int 1, .int 2]))
    have x4 := ((w5.trans w6).trans w7) _ _ (upd_same (a := q4) (o := .tup []))
    have x5 := (w6.trans w7) _ _ (upd_same (a := q5) (o := .lst [.int 1]))
    have x6 := w7 _ _ (upd_same (a := q6) (o := .lst []))
    have wA := (((((w1.trans w2).trans w3).trans w4).trans w5).trans w6).trans w7
    refine ⟨l3, l4, _, _, rfl, rfl, wA _ _ g3', upd_same, sl, fun l5 hl5 => ?_⟩
    have TD := thall_app (thall_same wA TC) (Paired.cons (th_tup (K := K) (ds := [.str "faults", .str "a"]) r1 x1 fun _ => .cons (.str _) (.cons (.str _) .nil)) (Paired.cons (th_tup (ds := [.str "fault", .str "abcdefghi"]) r2 x2 fun _ => .cons (.str _) (.cons (.str _) .nil)) (Paired.cons (th_tup (ds := [.int 1, .int 2]) r3 x3 fun _ => .cons (.int _) (.cons (.int _) .nil)) (Paired.cons (th_tup (ds := []) r4 x4 fun _ => .nil)
      (Paired.cons (.inl fun _ => .bl true) (Paired.cons (.inl fun _ => .bl false) (Paired.cons (.inl fun _ => .non) (Paired.cons (.inl fun _ => .str ("" : Str)) (Paired.cons (.inl fun _ => .str ("a" : Str)) (Paired.cons (.inl fun _ => .str ("fault" : Str)) (Paired.cons (th_lst (ds := [.int 1]) r5 x5 fun _ => .cons (.int _) .nil) (Paired.cons (th_lst (ds := []) r6 x6 fun _ => .nil) .nil))))))))))))
    have w8 := Same.new (o := .lst ((([.int 0, .int (-1), .int far, .int (F60 - 1 - far), .int (far - F60 + 1), .int F60, .int (-F60 - far)] ++ [.ref p1, .ref p2, .ref p3, .ref p4, .ref p5]) ++ [.ref p6]) ++ [.ref q1, .ref q2, .ref q3, .ref q4, .bl true, .bl false, .non, .str ("" : Str), .str ("a" : Str), .str ("fault" : Str), .ref q5, .ref q6])) hl5
    have TE' := thall_same w8 TD
    obtain ⟨v, hat, hiv⟩ := at_some ((([V.int 0, .int (-1), .int far, .int (F60 - 1 - far), .int (far - F60 + 1), .int F60, .int (-F60 - far)] ++ [.ref p1, .ref p2, .ref p3, .ref p4, .ref p5]) ++ [.ref p6]) ++ [.ref q1, .ref q2, .ref q3, .ref q4, .bl true, .bl false, .non, .str ("" : Str), .str ("a" : Str), .str ("fault" : Str), .ref q5, .ref q6]) (drawZ ns k 25) c0 (by simpa using c1)
    obtain ⟨d, hdm, hd⟩ := thall_at TE' hiv
    have sE := (sC.trans wA).trans w8
    refine ⟨_, rfl, _, rfl, _, rfl, a, ns, k, 25, rfl, sE.seq hS, hl, h0, by omega, by decide, l5, _, _, v, rfl, rfl, SqL.of upd_same, hat, ?_⟩
    exact q _ v d sE (good_of b0 b1 (List.mem_of_getElem? hdm)) hd
end
end My

namespace My
open PySem L2
def oddD : PyData := .tuple [.str "fault", .str "odd"]
def dueD (d : PyData) : PyData := if valueD d then d else oddD
/-- what is told in the end: a whole number or a fault -/
structure GoodE (e : PyData) : Prop where
  ly : e.canLay0 = true
  dp : e.depth ≤ 60
  sm : PyData.eqv e e = true
  kd : (∃ i, e = .int i) ∨ ∃ ds, e = .tuple ds
theorem GoodT.due {d : PyData} (h : GoodT d) : GoodE (dueD d) := by
  unfold dueD
  by_cases c : valueD d = true
  · rw [if_pos c]
    exact ⟨h.ly, h.dp, (h.ok c).1, (h.ok c).2⟩
  · rw [if_neg c]
    exact ⟨by decide +kernel, by decide +kernel, by decide +kernel, .inr ⟨_, rfl⟩⟩
section
variable {P : Program} {w : World} {K : PySem.W.Frag} {mg : Str → Option Value} {base : Heap}
def spDue (K : PySem.W.Frag) : Sp := fun vs H Q _ => ∃ x d, vs = [x] ∧ Dt K H x d ∧ GoodT d ∧ ∀ H' v, Same H H' → Dt K H' v (dueD d) → Q v H'
theorem sc_law_due : FnScope ["_law_thing_here"] ["_law_thing_here"] (defScope s_law_due) := ⟨rfl, rfl, rfl, by decide +kernel, rfl, by decide +kernel, by decide +kernel⟩
theorem k_law_due (T : Tops K mg) : Known P w K mg base CX0 2 "_law_due" ["_law_thing_here"] (spDue K) := by
  have G_law_whole : Known P w K mg base CX0 1 "_law_whole" ["_law_found"] (spWholeD K) := k_law_whole T
  refine T.d_law_due.known sc_law_due (fun _ _ _ _ _ _ us hl => match us, hl with | [_], _ => rfl) (fun vs H Q E h => ?_) (fun f cdv A outer s H vs Q E hr h => ?_)
  · obtain ⟨x, d, rfl, _⟩ := h
    rfl
  · obtain ⟨x, d, rfl, hd, hg, q⟩ := h
    have rest : ∃ t, PSs (cxOf CX0 P w K mg base ["_law_thing_here"] "_law_due" (defScope s_law_due) f cdv A outer s H E).nox ((defBody s_law_due).drop 1) t ∧ (numD d = false → t { nx := fun _ H' => Q .non H', rt := Q } [some x] H) := by
      refine ⟨_, (pss_cons (ps_if (pt_cmpR (op_inD hr.units) (pv 0) (pe_lst (pa_t (pe_tup (pa_k pe_str (pa_k pe_str pa_nil))) (pa_t (pe_tup (pa_k pe_str (pa_k pe_str pa_nil))) pa_nil))) (by with_unfolding_all rfl)) (pss_one (ps_ret (pv 0))) pss_nil)
        (pss_one (ps_ret (pe_tup (pa_k pe_str (pa_k pe_str pa_nil)))))), fun hn => ?_⟩
      refine ⟨_, rfl, sl, fun p1 h1 => ⟨sl, fun p2 h2 => ⟨sl, fun l hl => ?_⟩⟩⟩
      have s1 := Same.new (o := .tup [.str ("fault" : Str), .str ("odd" : Str)]) h1
      have s2 := Same.new (o := .tup [.str ("fault" : Str), .str ("abcdefgh" : Str)]) h2
      have s3 := Same.new (o := .lst [.ref p1, .ref p2]) hl
      have s13 := (s1.trans s2).trans s3
      have g1 := (s2.trans s3) _ _ (upd_same (H := H) (a := p1) (o := .tup [.str ("fault" : Str), .str ("odd" : Str)]))
      have g2 := s3 _ _ (upd_same (a := p2) (o := .tup [.str ("fault" : Str), .str ("abcdefgh" : Str)]))
      refine ⟨d, twoF, Dt.same s13 hd, .lst (SqL.of upd_same) (.cons (.tup (SqT.of g1) (.cons (.str _) (.cons (.str _) .nil))) (.cons (.tup (SqT.of g2) (.cons (.str _) (.cons (.str _) .nil))) .nil)), hg.ly, by decide +kernel, Nat.le_trans hg.dp (by decide), _, rfl, ?_⟩
      rw [hg.no hn]
      refine ite2 (fun c => ?_) (fun c => ?_)
      · refine ⟨_, rfl, q _ _ s13 ?_⟩
        unfold dueD
        rw [if_pos c]
        exact Dt.same s13 hd
      · refine ⟨sl, fun p3 h3 => ?_⟩
        have s4 := Same.new (o := .tup [.str ("fault" : Str), .str ("odd" : Str)]) h3
        refine q _ _ (s13.trans s4) ?_
        unfold dueD
        rw [if_neg c]
        exact .tup (SqT.of upd_same) (.cons (.str _) (.cons (.str _) .nil))
    obtain ⟨tR, hR, qR⟩ := rest
    refine ⟨_, (pss_cons (ps_if (PW.pt (pw_and (pt_val (pe_callN G_law_whole (hr.mono (by decide)) pass0 (pa_cons (pv 0) pa_nil)) (fun _ => rfl)) (pw_and1 (pt_cmpR op_lt (pe_callB call_abs rfl T.abs b_abs (pa_cons (pv 0) pa_nil)) (pe_op op_pow pe_int pe_int) (nomark _))))) (pss_one (ps_ret (pv 0))) pss_nil) hR), ?_⟩
    refine ⟨_, rfl, x, d, rfl, hd, _, rfl, ?_⟩
    refine ite2 (fun h1 => ?_) (fun h1 => ?_)
    · obtain ⟨i, rfl⟩ : ∃ i, d = .int i := by cases d <;> simp [wholeD] at h1 ⊢
      cases hd
      refine ⟨_, rfl, i, rfl, _, _, rfl, rfl, ⟨by decide, by decide, by decide⟩, _, _, rfl, rfl, _, rfl, ?_⟩
      show if numD (.int i) = true then _ else _
      refine ite2 (fun h2 => ?_) (fun h2 => ?_)
      · refine ⟨_, rfl, q _ _ (Same.refl H) ?_⟩
        have : valueD (.int i) = true := by unfold valueD; rw [h2]; rfl
        unfold dueD
        rw [if_pos this]
        exact .int i
      · exact qR (by simpa using h2)
    · exact qR (by cases d <;> simp [wholeD] at h1 <;> rfl)
def spAlikeD (K : PySem.W.Frag) : Sp := fun vs H Q _ => ∃ x y e, vs = [x, y] ∧ Dt K H x e ∧ Dt K H y e ∧ GoodE e ∧ Q (.bl true) H
theorem sc_law_alike : FnScope ["_law_found", "_law_due_here"] ["_law_found", "_law_due_here"] (defScope s_law_alike) := ⟨rfl, rfl, rfl, by decide +kernel, rfl, by decide +kernel, by decide +kernel⟩
theorem k_law_alike (T : Tops K mg) : Known P w K mg base CX0 2 "_law_alike" ["_law_found", "_law_due_here"] (spAlikeD K) := by
  have G_law_whole : Known P w K mg base CX0 1 "_law_whole" ["_law_found"] (spWholeD K) := k_law_whole T
  refine T.d_law_alike.known sc_law_alike (fun _ _ _ _ _ _ us hl => match us, hl with | [_, _], _ => rfl) (fun vs H Q E h => ?_) (fun f cdv A outer s H vs Q E hr h => ?_)
  · obtain ⟨x, y, e, rfl, _⟩ := h
    rfl
  · obtain ⟨x, y, e, rfl, hx, hy, hg, q⟩ := h
    refine ⟨_, (pss_cons (ps_if (pt_val (pe_callB call_isT rfl T.isinstance b_isinstance (pa_cons (pv 1) (pa_cons (pe_ty T.tuple b_tuple) pa_nil))) (fun _ => rfl)) (pss_one (ps_ret (pe_and (pe_callB call_isT rfl T.isinstance b_isinstance (pa_cons (pv 0) (pa_cons (pe_ty T.tuple b_tuple) pa_nil))) (pe_one (pe_cmpR (op_eqD hr.units) (pv 0) (pv 1) (nomark _)))))) pss_nil)
      (pss_one (ps_ret (pe_and (pe_callN G_law_whole (hr.mono (by decide)) pass0 (pa_cons (pv 0) pa_nil)) (pe_one (pe_cmpR (op_eqD hr.units) (pv 0) (pv 1) (nomark _))))))), ?_⟩
    have dp : e.depth ≤ 64 := Nat.le_trans hg.dp (by decide)
    refine ⟨_, rfl, y, "tuple", e, _, rfl, hy, kit_tuple K _, _, rfl, ?_⟩
    rcases hg.kd with ⟨i, rfl⟩ | ⟨ds, rfl⟩
    · refine iteF ?_
      refine ⟨_, rfl, x, _, rfl, hx, _, rfl, iteT ?_⟩
      refine ⟨_, rfl, _, rfl, _, _, hx, hy, hg.ly, hg.ly, dp, ?_⟩
      rw [hg.sm]
      exact q
    · refine iteT ?_
      refine ⟨_, rfl, x, "tuple", _, _, rfl, hx, kit_tuple K _, _, rfl, iteT ?_⟩
      refine ⟨_, rfl, _, rfl, _, _, hx, hy, hg.ly, hg.ly, dp, ?_⟩
      rw [hg.sm]
      exact q
/-! ### what the function does -/
/-- all stays but what stands at two places -/
def But2 (p q : Addr) (H H' : Hp) : Prop := ∀ b o, b ≠ p → b ≠ q → H b = some o → H' b = some o
def spTold : Sp := fun vs H Q _ => ∃ (nl xl : Addr) (v : V) (as xs : List V), vs = [.ref nl, .ref xl, v] ∧ H nl = some (.lst as) ∧ H xl = some (.lst xs) ∧ xl ≠ nl ∧ as.length ≤ 100 ∧ xs.length ≤ 100 ∧
  ∀ H' l, But2 nl xl H H' → H l = none → H' l = some (.lst xs) → H' nl = some (.lst (as ++ [.ref l])) → H' xl = some (.lst (xs ++ [.int 5])) → Q v H'
theorem sc_law_told : FnScope ["_law_notes", "_law_xs", "_law_thing_here"] ["_law_notes", "_law_xs", "_law_thing_here"] (defScope s_law_told) := ⟨rfl, rfl, rfl, by decide +kernel, rfl, by decide +kernel, by decide +kernel⟩
theorem k_law_told (T : Tops K mg) : Known P w K mg base CX0 1 "_law_told" ["_law_notes", "_law_xs", "_law_thing_here"] spTold := by
  refine T.d_law_told.known sc_law_told (fun _ _ _ _ _ _ us hl => match us, hl with | [_, _, _], _ => rfl) (fun vs H Q E h => ?_) (fun f cdv A outer s H vs Q E hr h => ?_)
  · obtain ⟨nl, xl, v, as, xs, rfl, _⟩ := h
    rfl
  · obtain ⟨nl, xl, v, as, xs, rfl, hn, hx, ne, la, lx, q⟩ := h
    refine ⟨_, (pss_cons (ps_expr (pe_bm PySem.F.plainAttrs_list PySem.F.slot_list_append PySem.F.type_list_append mt_append (pv 0) (pa_cons (pe_callTy call_list_of rfl T.list b_list (pa_cons (pv 1) pa_nil)) pa_nil)))
      (pss_cons (ps_expr (pe_bm PySem.F.plainAttrs_list PySem.F.slot_list_append PySem.F.type_list_append mt_append (pv 1) (pa_cons pe_int pa_nil)))
      (pss_one (ps_ret (pv 2))))), ?_⟩
    refine ⟨_, rfl, .inl ⟨rfl, _, SqL.of hn⟩, _, rfl, xl, xs, rfl, .inl (SqL.of hx), fun l hl => ?_⟩
    have s1 := Same.new (o := .lst xs) hl
    have nln : l ≠ nl := (ne_of_none hn hl).symm
    have nlx : l ≠ xl := (ne_of_none hx hl).symm
    refine ⟨nl, _, _, rfl, rfl, s1 _ _ hn, small1000 (by omega), ?_⟩
    have gx : upd (upd H l (.lst xs)) nl (.lst (as ++ [.ref l])) xl = some (.lst xs) := by rw [upd_ne ne]; exact s1 _ _ hx
    refine ⟨_, rfl, .inl ⟨rfl, _, SqL.of gx⟩, xl, _, _, rfl, rfl, gx, small1000 (by omega), ?_⟩
    refine ⟨_, rfl, q _ l (fun b o n1 n2 e => ?_) hl ?_ ?_ upd_same⟩
    · rw [upd_ne n2, upd_ne n1]; exact s1 _ _ e
    · rw [upd_ne nlx, upd_ne nln, upd_same]
    · rw [upd_ne (Ne.symm ne), upd_same]
end
end My

namespace L2
open PySem PySem.Spec PyProof.Rows
/-- o.m(..) of an instance of one of several classes -/
def tMethD (R : Addr → Sp → Prop) (m : Str) (E : XK) (ta : TE) (t : TA) : TE := fun σ H Q => ta σ H fun x H1 => ∃ C sp a dx fs, R C sp ∧ x = .ref a ∧ H1 a = some (.ins C dx fs) ∧ fs.lookup m = none ∧ t σ H1 fun vs H2 => sp (x :: vs) H2 Q E
section
variable {X : Cx} {CX : CXT} {k : Nat} {ps : List Str} {R : Addr → Sp → Prop} {E : XK} {x m : Str} {p pos apos : Pos} {e o : Expr} {es : List Expr} {t : TA} {ta : TE}
theorem pe_methD {pl : Sem Bool} (he : PE X o ta) (hR : ∀ C sp, R C sp → Cls X.K C ∧ KnownM X.prog X.w X.K X.mg X.base CX k C m ps sp) (hr : Room k X.A) (hx : Passes CX X E) (ha : PA X (e :: es) t)
    (hst : starEach (e :: es) X.env = (false, eval e X.env) :: starEach es X.env := by rfl) (hpl : (backTo pos (starEach es X.env)).any (·.1) = false := by rfl)
    (ht : eval (.Call (.Attribute o m apos) (e :: es) [] pos) X.env = (do
      let ov ← eval o X.env
      standAt apos.atName
      let (f, first) ← holding [ov] (getMethod ov m pl)
      callWith pos f first (backTo pos (starEach (e :: es) X.env)) (backToKw pos (keywordEach [] X.env))) := by rfl) :
    PE X (.Call (.Attribute o m apos) (e :: es) [] pos) (tMethD R m E ta t) := by
  intro pins s σ H Q I h
  refine PySem.W.methodCall_KW (pl := pl) (thn (he pins s σ H _ I h) fun u s1 ⟨x, H1, I1, rx, C, sp, a, dx, fs, hC, ex, ea, l, q⟩ => ?_) ht
  obtain ⟨c, G⟩ := hR C sp hC
  obtain ⟨f, fd, F, hm, hb⟩ := G.ex
  subst ex
  obtain rfl : u = Value.ref a := rx
  refine getmeth_ok I1 ea c hm l ?_
  refine PySem.W.callWith_K (first := [.ref a]) (h₀ := X.base) I.ok.mod.kin hm.kp (thn (ha pos pins s1 σ H1 _ I1 q) fun us s2 ⟨vs, H2, I2, r, q2⟩ => ⟨I2.kIn, ?_⟩) hst hpl
  exact run_fn (us := .ref a :: us) (vs := .ref a :: vs) F hr hb .nil hx I2 (.cons rfl r) (by rw [List.append_nil]; exact q2)
end
end L2
namespace My
open PySem L2
/-- all but lists and what is told by a word of its own stays -/
def KeepF (H H' : Hp) : Prop := ∀ b o, (∀ xs, o ≠ .lst xs) → (∀ φ, o ≠ .ext φ) → H b = some o → H' b = some o
theorem KeepF.of {H H' : Hp} (s : Same H H') : KeepF H H' := fun b o _ _ e => s b o e
theorem KeepF.trans {H H1 H2 : Hp} (a : KeepF H H1) (b : KeepF H1 H2) : KeepF H H2 := fun c o n m e => b c o n m (a c o n m e)
theorem KeepF.but {H H' : Hp} {l : Addr} {xs : List V} (s : But l H H') (h : H l = some (.lst xs)) : KeepF H H' := fun b o n _ e => s b o (ne_of e h (n xs)) e
def StabF (LP : Hp → Prop) : Prop := ∀ H H', KeepF H H' → LP H → LP H'
theorem lam_by {X : Cx} {σ : St} {H₁ : Hp} {f : Lend} {q : Str} {params : Arguments} {body : Expr} {scope : Scope} {fa : Addr} {ps : List Str} {cp : List (Nat × Str)} {cv : List V} {k : Nat} {spB : List V → Hp → VK → Prop} {sc : Scope} {N : List Str} (la : LamAt q params body scope (clFold X.env.cells scope.names []) H₁ fa) (L : Lent X σ H₁ f)
    (hcell : ∀ x, X.env.scope.names.lookup x = some .cell → ∃ c, X.env.cells.lookup x = some c)
    (hcv : cp.map (fun p => σ[p.1]?) = cv.map fun v => some (some v))
    (hb : ∀ (pm ctv : Value) (c : Addr) (clos : List (Str × Addr)) (us : List Value), us.length = ps.length → bindArgs (PySem.W.kla_fn "<lambda>" q params body scope clos pm (.ref c) ctv) ⟨us, []⟩ = pure (ps.zip us))
    (hbody : ∀ (cd : Value) (A : Around) (outer : List Env) (s : Shared) (H : Hp) (vs : List V) (Q : VK), Room k (A.deeper (PySem.W.envX q scope s.heap.objs.size fa cd (clFold X.env.cells scope.names []))) → spB vs H Q →
      ∃ t, PE (cxLam X.prog X.w X.K X.mg X.base (ps ++ cp.map (·.2)) q scope fa cd (clFold X.env.cells scope.names []) A outer s H) body t ∧ t ((vs ++ cv).map some) H Q)
    (hs : X.env.scope = sc := by rfl) (hN : X.N = N := by rfl)
    (hcp : ∀ p ∈ cp, N[p.1]? = some p.2 ∧ sc.names.lookup p.2 = some .cell ∧ scope.names.lookup p.2 = some .free := by decide +kernel)
    (free : ∀ y ∈ scope.names, y.2 = .free → sc.names.lookup y.1 = some .cell := by decide +kernel)
    (kind : scope.kind = .function := by rfl) (co : scope.isCoroutine = false := by rfl) (gen : scope.isGenerator = false := by rfl) (nocell : ∀ y ∈ scope.names, y.2 ≠ .cell := by decide +kernel) (par : ∀ x ∈ ps, scope.names.lookup x = some .local := by decide +kernel) (nd : (ps ++ cp.map (·.2)).Nodup := by decide +kernel) :
    LamFn X.prog X.w X.K X.mg X.base (k + 1) fa (spLam fa f q params body scope (clFold X.env.cells scope.names []) ps.length spB) := by
  subst hs hN
  exact lam_of L hcell hcv hcp free kind co gen nocell par nd hb hbody
def LPof (q : Str) (params : Arguments) (body : Expr) (scope : Scope) (clos : List (Str × Addr)) (fa : Addr) (f : Lend) : Hp → Prop := fun H => LamAt q params body scope clos H fa ∧ ∀ b o, f b = some o → H b = some (Fz o)
theorem stab_LPof {q : Str} {params : Arguments} {body : Expr} {scope : Scope} {clos : List (Str × Addr)} {fa : Addr} {f : Lend} : StabF (LPof q params body scope clos fa f) := fun H H' s ⟨⟨pm, c, ctv, o, e1, e2, e3⟩, h⟩ =>
  ⟨⟨pm, c, ctv, o, s _ _ (fun xs z => by cases z) (fun xs z => by cases z) e1, s _ _ (fun xs z => by cases z) (fun xs z => by cases z) e2, e3⟩, fun b o e => s _ _ (fun xs z => by cases z) (fun xs z => by cases z) (h b o e)⟩
theorem tabIn_same {q : Str} {H H' : Hp} {P : Addr} (s : Same H H') (h : TabIn q H P) : TabIn q H' P := by
  obtain ⟨S, e, r⟩ := h
  exact ⟨S, s _ _ e, fun c hc => let ⟨o, e1, e2⟩ := r c hc; ⟨o, s _ _ e1, e2⟩⟩
theorem tabIn_but {q : Str} {H H' : Hp} {P l : Addr} {xs : List V} (s : But l H H') (hl : H l = some (.lst xs)) (h : TabIn q H P) : TabIn q H' P := by
  obtain ⟨S, e, r⟩ := h
  exact ⟨S, s _ _ (ne_of e hl (fun z => by cases z)) e, fun c hc => let ⟨o, e1, e2⟩ := r c hc; ⟨o, s _ _ (ne_of e1 hl (fun z => by cases z)) e1, e2⟩⟩
theorem lamAt_same {q : Str} {params : Arguments} {body : Expr} {scope : Scope} {clos : List (Str × Addr)} {H H' : Hp} {fa : Addr} (s : Same H H') (h : LamAt q params body scope clos H fa) : LamAt q params body scope clos H' fa := by
  obtain ⟨pm, c, ctv, o, e1, e2, e3⟩ := h
  exact ⟨pm, c, ctv, o, s _ _ e1, s _ _ e2, e3⟩
/-- the function that a rule of the law holds -/
def spFn (LP : Hp → Prop) (nl : Addr) (v : V) : Sp := fun vs H Q _ => ∃ (xl : Addr) (as xs : List V), vs = [.ref xl] ∧ LP H ∧ H nl = some (.lst as) ∧ H xl = some (.lst xs) ∧ xl ≠ nl ∧ as.length ≤ 100 ∧ xs.length ≤ 100 ∧
  ∀ H' l, But2 nl xl H H' → H l = none → H' l = some (.lst xs) → H' nl = some (.lst (as ++ [.ref l])) → H' xl = some (.lst (xs ++ [.int 5])) → Q v H'
def spBT (nl : Addr) (v : V) : List V → Hp → VK → Prop := fun vs H Q => ∃ (xl : Addr) (as xs : List V), vs = [.ref xl] ∧ H nl = some (.lst as) ∧ H xl = some (.lst xs) ∧ xl ≠ nl ∧ as.length ≤ 100 ∧ xs.length ≤ 100 ∧
  ∀ H' l, But2 nl xl H H' → H l = none → H' l = some (.lst xs) → H' nl = some (.lst (as ++ [.ref l])) → H' xl = some (.lst (xs ++ [.int 5])) → Q v H'
theorem told_fn {P : Program} {w : World} {K : PySem.W.Frag} {mg : Str → Option Value} {base : Heap} {k : Nat} {q : Str} {params : Arguments} {body : Expr} {scope : Scope} {clos : List (Str × Addr)} {fa : Addr} {f : Lend} {nl : Addr} {v : V}
    (F : LamFn P w K mg base k fa (spLam fa f q params body scope clos 1 (spBT nl v))) : LamFn P w K mg base k fa (spFn (LPof q params body scope clos fa f) nl v) := by
  refine F.imp fun vs H Q E h => ?_
  obtain ⟨xl, as, xs, rfl, ⟨la, lf⟩, hn, hx, ne, la', lx, qq⟩ := h
  have fn : ∀ b u, H b = some u → (∀ o, u ≠ Fz o) → f b = none := fun b u e z => by
    cases e2 : f b with
    | none => rfl
    | some o => rw [lf b o e2] at e; exact absurd (Option.some.inj e).symm (z o)
  have fnl := fn nl _ hn (fun o z => by cases z)
  have fxl := fn xl _ hx (fun o z => by cases z)
  refine ⟨rfl, la, lf, xl, as, xs, rfl, by rw [unl_no fnl]; exact hn, by rw [unl_no fxl]; exact hx, ne, la', lx, fun H' l b2 hl e1 e2 e3 fr => ?_⟩
  have fl : f l = none := by
    cases e : f l with
    | none => rfl
    | some ob => rw [fr l ob e] at e1; cases e1
  refine qq _ l (fun b o n1 n2 e => ?_) (by rw [unl_no fl] at hl; exact hl) (by rw [lend_no fl]; exact e1) (by rw [lend_no fnl]; exact e2) (by rw [lend_no fxl]; exact e3)
  cases e3 : f b with
  | none => rw [lend_no e3]; exact b2 b o n1 n2 (by rw [unl_no e3]; exact e)
  | some ob =>
    rw [lf b ob e3] at e
    rw [lend_at e3]; exact e
/-- what all five kinds of rules have -/
structure RC (K : PySem.W.Frag) (mg : Str → Option Value) (C : Addr) : Prop where
  cl : Cls K C
  hc : PySem.W.findIn K (.ref C) "__class__" = some (some (.builtin "object.__class__"))
  n_function : NoAttr K C "function"
  m_reckon : Mth K C "reckon" "Rule.reckon" s_Rule_reckon
  up_Rule : ∃ R, mg "Rule" = some (.ref R) ∧ PySem.W.kitOne K (.ref C) (.ref R) = some true ∧ PySem.W.mroIn K C (.type "object") = some true ∧ PySem.W.specialIn K (.builtin "object.__class__") "__get__" = some (some (.builtin "getset_descriptor.__get__")) ∧ PySem.W.takesIn K (.builtin "object.__class__") = some true
def RuleAt (P : Program) (w : World) (K : PySem.W.Frag) (mg : Str → Option Value) (base : Heap) (H : Hp) (p nl : Addr) (v : V) : Prop :=
  ∃ (C dx : Addr) (fs : List (Str × V)) (fa : Addr) (LP : Hp → Prop), H p = some (.ins C dx fs) ∧ RC K mg C ∧ fs.lookup ("function" : Str) = some (.ref fa) ∧ fs.lookup ("reckon" : Str) = none ∧ LamFn P w K mg base 2 fa (spFn LP nl v) ∧ LP H ∧ StabF LP
theorem RuleAt.keep {P : Program} {w : World} {K : PySem.W.Frag} {mg : Str → Option Value} {base : Heap} {H H' : Hp} {p nl : Addr} {v : V} (s : KeepF H H') (h : RuleAt P w K mg base H p nl v) : RuleAt P w K mg base H' p nl v := by
  obtain ⟨C, dx, fs, fa, LP, h1, h2, h3, h4, h5, h6, h7⟩ := h
  exact ⟨C, dx, fs, fa, LP, s _ _ (fun xs z => by cases z) (fun xs z => by cases z) h1, h2, h3, h4, h5, h7 _ _ s h6, h7⟩
theorem ThingAt.but {O : Addr → Prop} {K : PySem.W.Frag} {H H' : Hp} {v : V} {d : PyData} {l : Addr} (hl : ∀ b, O b → b ≠ l) (s : But l H H') (h : ThingAt O K H v d) : ThingAt O K H' v d := by
  rcases h with h | ⟨a, u, e1, e2, e3, e4, h⟩
  · exact .inl h
  · exact .inr ⟨a, u, e1, e2, s _ _ (hl _ e2) e3, e4, h⟩
theorem ThingAt.mono {O O' : Addr → Prop} {K : PySem.W.Frag} {H : Hp} {v : V} {d : PyData} (hO : ∀ b u, O b → H b = some u → O' b) (h : ThingAt O K H v d) : ThingAt O' K H v d := by
  rcases h with h | ⟨a, u, e1, e2, e3, e4, h⟩
  · exact .inl h
  · exact .inr ⟨a, u, e1, hO _ _ e2 e3, e3, e4, h⟩
section
variable {P : Program} {w : World} {K : PySem.W.Frag} {mg : Str → Option Value} {base : Heap}
def spReckon (P : Program) (w : World) (K : PySem.W.Frag) (mg : Str → Option Value) (base : Heap) : Sp := fun vs H Q _ => ∃ (p a nl : Addr) (v : V) (d : PyData) (as xs : List V), vs = [.ref p, .ref a] ∧ RuleAt P w K mg base H p nl v ∧ SqL K H a xs ∧ xs.length ≤ 100 ∧ H nl = some (.lst as) ∧ as.length ≤ 100 ∧ GoodT d ∧ ThingAt (fun b => b ≠ nl) K H v d ∧
  ∀ H' l r, But nl H H' → H l = none → H' l = some (.lst xs) → H' nl = some (.lst (as ++ [.ref l])) → Dt K H' r (dueD d) → Q r H'
theorem sc_Rule_reckon : FnScope ["self", "some"] ["self", "some"] (defScope s_Rule_reckon) := ⟨rfl, rfl, rfl, by decide +kernel, rfl, by decide +kernel, by decide +kernel⟩
theorem k_reckon (T : Tops K mg) {C : Addr} (Y : RC K mg C) : KnownM P w K mg base CX0 5 C "reckon" ["self", "some"] (spReckon P w K mg base) := by
  obtain ⟨pO, hpO, hO⟩ := T.g_ODD
  have G_settled : Known P w K mg base CX0 4 "settled" ["thing"] (spSettled K pO) := k_settled T hpO
  refine Y.m_reckon.known sc_Rule_reckon (fun _ _ _ _ _ _ us hl => match us, hl with | [_, _], _ => rfl) (fun vs H Q E h => ?_) (fun f cdv A outer s H vs Q E hr h => ?_)
  · obtain ⟨p, a, nl, v, d, as, xs, rfl, _⟩ := h
    rfl
  · obtain ⟨p, a, nl, v, d, as, xs, rfl, ⟨C', dx, fs, fa, LP, h1, h2, h3, h4, h5, h6, h7⟩, hq, lx, hn, la, hg, ht, q⟩ := h
    have h5' : LamFn P w K mg base 4 fa (spFn LP nl v) := h5.mono (by decide)
    refine ⟨_, (pss_one (ps_ret (pe_callN G_settled (hr.mono (by decide)) pass0 (pa_cons (pe_callF (k := 4) (pv 0) (hr.mono (by decide)) (pa_cons (pe_callTy call_list_of rfl T.list b_list (pa_cons (pv 1) pa_nil)) pa_nil)) pa_nil)))), ?_⟩
    refine ⟨_, rfl, p, C', dx, fs, fa, _, rfl, h1, h2.cl, h2.n_function, h3, h5', _, rfl, a, xs, rfl, .inl hq, fun xl hxl => ?_⟩
    have s1 := Same.new (o := .lst xs) hxl
    have ne : xl ≠ nl := (ne_of_none hn hxl).symm
    refine ⟨xl, as, xs, rfl, h7 _ _ (KeepF.of s1) h6, s1 _ _ hn, upd_same, ne, la, lx, fun H3 l b2 hl e1 e2 e3 => ?_⟩
    have bt : But nl H H3 := fun b o n e => b2 b o n (ne_of_none e hxl) (s1 _ _ e)
    have ht3 := ht.but (fun _ z => z) bt
    refine ⟨v, d, rfl, ht3.dt, hg.sh, fun H4 s4 => ?_⟩
    refine q H4 l _ (fun b o n e => s4 _ _ (bt b o n e)) (noneB s1 hl) (s4 _ _ e1) (s4 _ _ e2) ?_
    unfold dueD
    by_cases c : valueD d = true
    · rw [if_pos c, if_pos c]
      exact (ht3.same s4).dt
    · rw [if_neg c, if_neg c]
      exact .tup (hO H4) (.cons (.str _) (.cons (.str _) .nil))
abbrev qRule : Str := ("_law_rule" : Str) ++ ".<locals>." ++ "<lambda>"
abbrev Nrule : List Str := ["_law_kind", "_law_notes", "_law_thing_here", "_law_function"]
def spRule (P : Program) (w : World) (K : PySem.W.Frag) (mg : Str → Option Value) (base : Heap) (zt : Addr) : Sp := fun vs H Q _ => ∃ (k : Int) (nl : Addr) (v : V), vs = [.int k, .ref nl, v] ∧ TabIn qRule H zt ∧
  ∀ H' p, SameX zt H H' → TabIn qRule H' zt → H p = none → RuleAt P w K mg base H' p nl v → Q (.ref p) H'
theorem sc_law_rule : FnScope Nrule ["_law_kind", "_law_notes", "_law_thing_here"] (defScope s_law_rule) := ⟨rfl, rfl, rfl, by decide +kernel, rfl, by decide +kernel, by decide +kernel⟩
theorem same_of_init {H H' : Hp} {x dx C : Addr} (hx : H x = none) (hdx : H dx = none) (bt : But x (upd (upd H dx (.own x)) x (.ins C dx [])) H') : Same H H' := fun b o e => by
  refine bt b o (ne_of_none e hx) ?_
  rw [upd_ne (ne_of_none e hx), upd_ne (ne_of_none e hdx)]
  exact e
theorem nl_small : Nl ("a" : Str) ∧ Nl ("b" : Str) ∧ Nl ("c" : Str) ∧ Nl ("t" : Str) := by
  refine ⟨⟨by decide, by decide, by decide +kernel⟩, ⟨by decide, by decide, by decide +kernel⟩, ⟨by decide, by decide, by decide +kernel⟩, ⟨by decide, by decide, by decide +kernel⟩⟩
theorem k_law_rule (T : Tops K mg) {z : Addr × Addr} (B : DefT K mg "_law_rule" s_law_rule z) (M : Maker mg base z.1 z.2) : Known P w K mg base CX0 6 "_law_rule" ["_law_kind", "_law_notes", "_law_thing_here"] (spRule P w K mg base z.2) := by
  obtain ⟨CR, Z⟩ := T.t_Rule
  obtain ⟨C0, Y0⟩ := T.t_Cells
  obtain ⟨C1, Y1⟩ := T.t_Above
  obtain ⟨C2, Y2⟩ := T.t_Group
  obtain ⟨C3, Y3⟩ := T.t_Lookup
  obtain ⟨C4, Y4⟩ := T.t_Mend
  have G_law_told : Known P w K mg base CX0 1 "_law_told" ["_law_notes", "_law_xs", "_law_thing_here"] spTold := k_law_told T
  have G0 : KnownI P w K mg base CX0 4 C0 ["self", "names", "function"] (spCellsI K C0) := k_Cells_init T Z Y0
  have G1 : KnownI P w K mg base CX0 4 C1 ["self", "first", "names", "function"] (spAboveI K C1) := k_Above_init T Z Y1
  have G2 := k_Group_init (P := P) (w := w) (base := base) T Z Y2
  have G3 : KnownI P w K mg base CX0 4 C3 ["self", "key", "table", "theirs", "names", "function"] (spLookupI K C3) := k_Lookup_init T Z Y3
  have G4 : KnownI P w K mg base CX0 3 C4 ["self", "name", "function"] (spMendI K C4) := k_Mend_init T Z Y4
  refine B.knownR sc_law_rule (fun _ _ _ _ _ _ us hl => match us, hl with | [_, _, _], _ => rfl) (fun vs H Q E h => ?_) (fun f A outer s H vs Q E hr h => ?_)
  · obtain ⟨k, nl, v, rfl, _⟩ := h
    rfl
  · obtain ⟨k, nl, v, rfl, hT, q⟩ := h
    have hcl : ∀ x, (cxOf CX0 P w K mg base Nrule "_law_rule" (defScope s_law_rule) f (.ref z.1) A outer s H E).nox.env.scope.names.lookup x = some .cell → ∃ c, (cxOf CX0 P w K mg base Nrule "_law_rule" (defScope s_law_rule) f (.ref z.1) A outer s H E).nox.env.cells.lookup x = some c := fun x hx => Option.isSome_iff_exists.mp (PySem.W.cellsFrom_some _ _ _ (.inl hx))
    refine ⟨_, (psr_cons (psr_of (ps_set (i := 3) sc_law_rule.nd rfl (by first | exact Or.inl rfl | exact Or.inr rfl) (pe_lamF M rfl (caps_of (sc := defScope s_law_rule) (N := Nrule) (cp := [(1, "_law_notes"), (2, "_law_thing_here")]) hcl).clos rfl)))
      (psr_cons (psr_if (pt_cmpR op_eq (pv 0) pe_int (nomark _)) (psr_one (psr_ret (pe_makeN G0 (hr.mono (by decide)) Y0.c pass0 (pa_l (pe_lst (pa_k pe_str (pa_k pe_str pa_nil))) (pa_cons (pv 3) pa_nil))))) psr_nil)
      (psr_cons (psr_if (pt_cmpR op_eq (pv 0) pe_int (nomark _)) (psr_one (psr_ret (pe_makeN G1 (hr.mono (by decide)) Y1.c pass0 (pa_k pe_int (pa_l (pe_lst (pa_k pe_str pa_nil)) (pa_cons (pv 3) pa_nil)))))) psr_nil)
      (psr_cons (psr_if (pt_cmpR op_eq (pv 0) pe_int (nomark _)) (psr_one (psr_ret (pe_makeN G2 (hr.mono (by decide)) Y2.c pass0 (pa_k pe_str (pa_k pe_str (pa_cons (pv 3) pa_nil)))))) psr_nil)
      (psr_cons (psr_if (pt_cmpR op_eq (pv 0) pe_int (nomark _)) (psr_one (psr_ret (pe_makeN G3 (hr.mono (by decide)) Y3.c pass0 (pa_k pe_str (pa_k pe_str (pa_k pe_str (pa_l (pe_lst (pa_k pe_str pa_nil)) (pa_cons (pv 3) pa_nil)))))))) psr_nil)
      (psr_one (psr_ret (pe_makeN G4 (hr.mono (by decide)) Y4.c pass0 (pa_k pe_str (pa_cons (pv 3) pa_nil)))))))))), ?_⟩
    refine ⟨hT, fun fa H1 hfa s1 t1 la => ?_⟩
    have fin : ∀ (C x : Addr) (H3 : Hp), RC K mg C → H1 x = none → Same H1 H3 → FnPost C x (.ref fa) H3 → ∀ g, Lent (cxOf CX0 P w K mg base Nrule "_law_rule" (defScope s_law_rule) f (.ref z.1) A outer s H E).nox [some (.int k), some (.ref nl), some v, some (.ref fa)] H3 g → Q (.ref x) (lend g H3) := by
      intro C x H3 Y hx s3 ⟨dx, fs, p1, p2, p3⟩ g L
      have F1 := told_fn (nl := nl) (v := v) (lam_by (sc := defScope s_law_rule) (N := Nrule) (ps := ["_law_xs"]) (cp := [(1, "_law_notes"), (2, "_law_thing_here")]) (cv := [.ref nl, v]) (k := 1) (spB := spBT nl v) (lamAt_same s3 la) L hcl rfl (fun _ _ _ _ us hl => match us, hl with | [_], _ => rfl) (fun cd A' outer' s' H' vs Q' hr' h' => by
        obtain ⟨xl, as, xs, rfl, g1, g2, g3, g4, g5, g6⟩ := h'
        exact ⟨_, pe_callN G_law_told hr' pass0 (pa_cons (pv 1) (pa_cons (pv 0) (pa_cons (pv 2) pa_nil))), _, rfl, _, rfl, _, rfl, nl, xl, v, as, xs, rfl, g1, g2, g3, g4, g5, g6⟩))
      have sL : Same H3 (lend g H3) := fun b o e => by
        cases e2 : g b with
        | none => rw [lend_no e2]; exact e
        | some ob => rw [L.free b ob e2] at e; cases e
      have s4 := s3.trans sL
      have hx0 : H x = none := by
        cases e : H x with
        | none => rfl
        | some u =>
          exfalso
          by_cases y : x = z.2
          · obtain ⟨S, e3, _⟩ := t1
            rw [y, e3] at hx; cases hx
          · rw [s1 x u y e] at hx; cases hx
      exact q _ x (fun b o nz e => s4 _ _ (s1 b o nz e)) (tabIn_same s4 t1) hx0 ⟨C, dx, fs, fa, _, sL _ _ p1, Y, p2, p3, F1, ⟨lamAt_same s4 la, fun b o e => lend_at e⟩, stab_LPof⟩
    have old : ∀ {G : Hp} {x dx C' : Addr} {b' : Addr} {o : HO}, G x = none → G dx = none → G b' = some o → upd (upd G dx (.own x)) x (.ins C' dx []) b' = some o := fun {G x dx C' b' o} hx hdx e => by
      rw [upd_ne (ne_of_none e hx), upd_ne (ne_of_none e hdx)]
      exact e
    obtain ⟨na, nb, nc, nt⟩ := nl_small
    refine ⟨_, rfl, rfl, _, rfl, ?_⟩
    refine ite2 (fun _ => ?_) (fun _ => ?_)
    · refine ⟨sl, fun l hl => ⟨_, rfl, fun x dx hx hdx ne => ?_⟩⟩
      have sl1 := Same.new (o := .lst [.str ("a" : Str), .str ("b" : Str)]) hl
      refine ⟨x, dx, l, _, ["a", "b"], rfl, upd_same, SqL.of (old hx hdx upd_same), by decide, (fun y hy => by simp only [List.mem_cons, List.not_mem_nil, or_false] at hy; rcases hy with rfl | rfl <;> assumption), fun H' bt fp => ⟨rfl, ?_⟩⟩
      exact fin C0 x H' ⟨Y0.cl, Y0.hc, Y0.n_function, Y0.m_reckon, Y0.up_Rule⟩ (noneB sl1 hx) (sl1.trans (same_of_init hx hdx bt)) fp
    · refine ⟨_, rfl, rfl, _, rfl, ?_⟩
      refine ite2 (fun _ => ?_) (fun _ => ?_)
      · refine ⟨sl, fun l hl => ⟨_, rfl, fun x dx hx hdx ne => ?_⟩⟩
        have sl1 := Same.new (o := .lst [.str ("a" : Str)]) hl
        refine ⟨x, dx, l, 3, _, ["a"], rfl, by decide +kernel, upd_same, SqL.of (old hx hdx upd_same), by decide, (fun y hy => by simp only [List.mem_cons, List.not_mem_nil, or_false] at hy; rcases hy with rfl; assumption), fun H' bt fp => ⟨rfl, ?_⟩⟩
        exact fin C1 x H' ⟨Y1.cl, Y1.hc, Y1.n_function, Y1.m_reckon, Y1.up_Rule⟩ (noneB sl1 hx) (sl1.trans (same_of_init hx hdx bt)) fp
      · refine ⟨_, rfl, rfl, _, rfl, ?_⟩
        refine ite2 (fun _ => ?_) (fun _ => ?_)
        · refine ⟨_, rfl, fun x dx hx hdx ne => ?_⟩
          refine ⟨x, dx, "a", "b", _, rfl, upd_same, na, nb, fun H' bt fp => ⟨rfl, ?_⟩⟩
          exact fin C2 x H' ⟨Y2.cl, Y2.hc, Y2.n_function, Y2.m_reckon, Y2.up_Rule⟩ hx (same_of_init hx hdx bt) fp
        · refine ⟨_, rfl, rfl, _, rfl, ?_⟩
          refine ite2 (fun _ => ?_) (fun _ => ?_)
          · refine ⟨sl, fun l hl => ⟨_, rfl, fun x dx hx hdx ne => ?_⟩⟩
            have sl1 := Same.new (o := .lst [.str ("c" : Str)]) hl
            refine ⟨x, dx, l, "a", "t", "b", _, ["c"], rfl, upd_same, na, nt, nb, SqL.of (old hx hdx upd_same), by decide, (fun y hy => by simp only [List.mem_cons, List.not_mem_nil, or_false] at hy; rcases hy with rfl; assumption), fun H' bt fp => ⟨rfl, ?_⟩⟩
            exact fin C3 x H' ⟨Y3.cl, Y3.hc, Y3.n_function, Y3.m_reckon, Y3.up_Rule⟩ (noneB sl1 hx) (sl1.trans (same_of_init hx hdx bt)) fp
          · refine ⟨_, rfl, fun x dx hx hdx ne => ?_⟩
            refine ⟨x, dx, "a", _, rfl, upd_same, na, fun H' bt fp => ⟨rfl, ?_⟩⟩
            exact fin C4 x H' ⟨Y4.cl, Y4.hc, Y4.n_function, Y4.m_reckon, Y4.up_Rule⟩ hx (same_of_init hx hdx bt) fp
end
end My

namespace My
open PySem L2
section
variable {q : Str} {K : PySem.W.Frag} {H H1 H' : Hp} {Z l a : Addr} {xs : List V}
theorem sx_of (s : Same H H') : SameX Z H H' := fun b o _ e => s b o e
theorem sqL_x (t : TabIn q H Z) (s : SameX Z H H') (h : SqL K H a xs) : SqL K H' a xs := by
  obtain ⟨S, e, _⟩ := t
  rcases h with (h | ⟨o, h⟩) | h
  · exact .inl (.inl (s _ _ (ne_of h e (fun z => by cases z)) h))
  · exact .inl (.inr ⟨o, s _ _ (ne_of h e (fun z => by cases z)) h⟩)
  · exact .inr h
theorem noneX (t : TabIn q H' Z) (s : SameX Z H H') (h : H' l = none) : H l = none := by
  cases e : H l with
  | none => rfl
  | some u =>
    exfalso
    by_cases y : l = Z
    · obtain ⟨S, e3, _⟩ := t
      rw [y, e3] at h; cases h
    · rw [s l u y e] at h; cases h
theorem keepF_x (t : TabIn q H Z) (s : SameX Z H H') : KeepF H H' := fun b o _ n e => by
  obtain ⟨S, e3, _⟩ := t
  exact s b o (fun z => by rw [z, e3] at e; exact n _ (Option.some.inj e).symm) e
def isD (is : List Int) : PyData := .list (is.map PyData.int)
theorem dtI : ∀ is : List Int, DtAll K H (is.map V.int) (is.map PyData.int)
  | [] => .nil
  | i :: r => .cons (.int i) (dtI r)
theorem dtL {is : List Int} (h : H l = some (.lst (is.map V.int))) : Dt K H (.ref l) (isD is) := .lst (SqL.of h) (dtI is)
theorem eqvI : ∀ is : List Int, PyData.eqvAll (is.map PyData.int) (is.map PyData.int) = true
  | [] => rfl
  | i :: r => by
    rw [List.map_cons]
    show (PyData.eqv (.int i) (.int i) && PyData.eqvAll (r.map PyData.int) (r.map PyData.int)) = true
    rw [eqvI r, Bool.and_true]
    simp [PyData.eqv]
theorem isD_lay (is : List Int) : (isD is).canLay0 = true := (lay_ints is).1
theorem isD_dep (is : List Int) : (isD is).depth ≤ 1 := by
  have := (lay_ints is).2
  simp only [isD, PyData.depth, this]
  exact Nat.le_refl _
theorem isD_eqv (is : List Int) : PyData.eqv (isD is) (isD is) = true := eqvI is
theorem nst_lay : ∀ ms : List (List Int), PyData.canLayAll0 (ms.map isD) = true
  | [] => rfl
  | m :: r => by
    show (PyData.canLay0 (isD m) && PyData.canLayAll0 (r.map isD)) = true
    rw [isD_lay, nst_lay r]
    rfl
theorem nst_dep : ∀ ms : List (List Int), PyData.depthAll (ms.map isD) ≤ 1
  | [] => Nat.zero_le _
  | m :: r => by
    have h1 := isD_dep m
    have h2 := nst_dep r
    simp only [List.map_cons, PyData.depthAll]
    omega
theorem nst_eqv : ∀ ms : List (List Int), PyData.eqvAll (ms.map isD) (ms.map isD) = true
  | [] => rfl
  | m :: r => by
    rw [List.map_cons]
    show (PyData.eqv (isD m) (isD m) && PyData.eqvAll (r.map isD) (r.map isD)) = true
    rw [isD_eqv, nst_eqv r]
    rfl
theorem nst_depL (ms : List (List Int)) : (PyData.list (ms.map isD)).depth ≤ 64 := by
  have := nst_dep ms
  simp only [PyData.depth]
  omega
end
/-- what stands in a turn -/
structure Trn (P : Program) (w : World) (K : PySem.W.Frag) (mg : Str → Option Value) (base : Heap) (H0 H : Hp) (zt nl so p : Addr) (v : V) (d : PyData) (as : List V) (is : List Int) : Prop where
  sx : SameX zt H0 H
  tb : TabIn qRule H zt
  ru : RuleAt P w K mg base H p nl v
  gd : GoodT d
  th : ThingAt (fun b => b ≠ nl ∧ H0 b = none) K H v d
  hn : H nl = some (.lst as)
  hs : H so = some (.lst (is.map V.int))
  ne : so ≠ nl
  n0 : H0 nl = none
  s0 : H0 so = none
  li : is.length ≤ 8
section
variable {P : Program} {w : World} {K : PySem.W.Frag} {mg : Str → Option Value} {base : Heap} {H0 H H' : Hp} {zt nl so p : Addr} {v : V} {d : PyData} {as as' : List V} {is : List Int}
theorem Trn.same (s : Same H H') (t : Trn P w K mg base H0 H zt nl so p v d as is) : Trn P w K mg base H0 H' zt nl so p v d as is :=
  ⟨fun b o n e => s _ _ (t.sx b o n e), tabIn_same s t.tb, t.ru.keep (KeepF.of s), t.gd, t.th.same s, s _ _ t.hn, s _ _ t.hs, t.ne, t.n0, t.s0, t.li⟩
theorem Trn.but (b : But nl H H') (h' : H' nl = some (.lst as')) (t : Trn P w K mg base H0 H zt nl so p v d as is) : Trn P w K mg base H0 H' zt nl so p v d as' is :=
  ⟨fun b' o n e => b _ _ (ne_of_none e t.n0) (t.sx b' o n e), tabIn_but b t.hn t.tb, t.ru.keep (KeepF.but b t.hn), t.gd, t.th.but (fun _ z => z.1) b, h', b _ _ t.ne t.hs, t.ne, t.n0, t.s0, t.li⟩
theorem ask {a : Addr} {xs : List V} {Q : VK} {E : XK} (t : Trn P w K mg base H0 H zt nl so p v d as is) (ha : SqL K H a xs) (lx : xs.length ≤ 100) (la : as.length ≤ 50)
    (k : ∀ H' l r, Trn P w K mg base H0 H' zt nl so p v d (as ++ [.ref l]) is → H0 l = none → l ≠ nl → H' l = some (.lst xs) → But nl H H' → Dt K H' r (dueD d) → Q r H') :
    spReckon P w K mg base [.ref p, .ref a] H Q E := by
  refine ⟨p, a, nl, v, d, as, xs, rfl, t.ru, ha, lx, t.hn, by omega, t.gd, t.th.mono (fun b u z _ => z.1), fun H2 l r bt hl e1 e2 hr => ?_⟩
  exact k H2 l r (t.but bt e2) (noneX t.tb t.sx hl) (ne_of_none t.hn hl).symm e1 bt hr
theorem Trn.rule (t : Trn P w K mg base H0 H zt nl so p v d as is) : ∃ C dx fs, H p = some (.ins C dx fs) ∧ RC K mg C ∧ fs.lookup ("reckon" : Str) = none := by
  obtain ⟨C, dx, fs, fa, LP, h1, h2, h3, h4, _⟩ := t.ru
  exact ⟨C, dx, fs, h1, h2, h4⟩
theorem ThingAt.x {O : Addr → Prop} {q : Str} {Z : Addr} (t : TabIn q H Z) (s : SameX Z H H') (h : ThingAt O K H v d) : ThingAt O K H' v d := by
  obtain ⟨S, e, _⟩ := t
  rcases h with h | ⟨a, u, e1, e2, e3, e4, h⟩
  · exact .inl h
  · exact .inr ⟨a, u, e1, e2, s _ _ (fun z => by rw [z, e] at e3; exact e4 _ (Option.some.inj e3).symm) e3, e4, h⟩
/-- a turn that was held -/
def Rec (P : Program) (w : World) (K : PySem.W.Frag) (mg : Str → Option Value) (base : Heap) (O : Addr → Prop) (n : Addr) (H : Hp) (x : V) : Prop :=
  ∃ (t p so l1 l2 : Addr) (v : V) (d : PyData) (is : List Int), x = .ref t ∧ H t = some (.tup [.ref p, .ref n, v, .ref so]) ∧ RuleAt P w K mg base H p n v ∧ GoodT d ∧ ThingAt (fun b => b ≠ n ∧ O b) K H v d ∧ H n = some (.lst [.ref l1, .ref l2]) ∧ O n ∧
    (∀ a ∈ [l1, l2, so], H a = some (.lst (is.map V.int)) ∧ a ≠ n ∧ O a) ∧ is.length ≤ 8
theorem Rec.keep {O : Addr → Prop} {n : Addr} {x : V} (kf : KeepF H H') (h : ∀ b o, O b → (∀ φ, o ≠ .ext φ) → H b = some o → H' b = some o) (r : Rec P w K mg base O n H x) : Rec P w K mg base O n H' x := by
  obtain ⟨t, p, so, l1, l2, v, d, is, e1, e2, e3, e4, e5, e6, e7, e8, e9⟩ := r
  refine ⟨t, p, so, l1, l2, v, d, is, e1, kf _ _ (fun xs z => by cases z) (fun xs z => by cases z) e2, e3.keep kf, e4, ?_, h _ _ e7 (fun xs z => by cases z) e6, e7, fun a ha => ?_, e9⟩
  · rcases e5 with g | ⟨a, u, g1, g2, g3, g4, g5⟩
    · exact .inl g
    · exact .inr ⟨a, u, g1, g2, h _ _ g2.2 g4 g3, g4, g5⟩
  · obtain ⟨g1, g2, g3⟩ := e8 a ha
    exact ⟨h _ _ g3 (fun xs z => by cases z) g1, g2, g3⟩
def Oj (hl : Addr) (nls : List Addr) (j : Nat) : Addr → Prop := fun b => b ≠ hl ∧ b ∉ nls.take j
end
abbrev Nlaw : List Str := ["_law_script", "_law_held", "_law_turn", "_law_notes", "_law_thing_here", "_law_rule_here", "_law_some", "_law_k", "_law_by", "_law_handed"]
theorem sc_law : FnScope Nlaw ["_law_script"] (defScope s_law) := ⟨rfl, rfl, rfl, by decide +kernel, rfl, by decide +kernel, by decide +kernel⟩
def spLaw (K : PySem.W.Frag) (tabs : List (Addr × Addr)) : Sp := fun vs H Q _ => ∃ (a : Addr) (ns : List Int), vs = [.ref a] ∧ SqL K H a (ns.map V.int) ∧ ns.length ≤ 63 ∧ TabsIn0 tabs H ∧ ∀ H', TabsOut tabs H' → Q (.bl true) H'
def ReckonR (P : Program) (w : World) (K : PySem.W.Frag) (mg : Str → Option Value) (base : Heap) (C : Addr) (sp : Sp) : Prop := RC K mg C ∧ sp = spReckon P w K mg base
section
variable {P : Program} {w : World} {K : PySem.W.Frag} {mg : Str → Option Value} {base : Heap}
theorem ok_law (T : Tops K mg) {z : Addr × Addr} (B : DefT K mg "_law_rule" s_law_rule z) (M : Maker mg base z.1 z.2) {f : Addr} {fd : FuncData} (F : Fun K "law" "law" s_law f fd) : FnOk P w K mg base CX0 10 f fd ["_law_script"] (spLaw K [z]) := by
  have G_law_drawn : Known P w K mg base CX0 1 "_law_drawn" ["_law_script", "_law_k", "_law_size"] (spDrawn K) := k_law_drawn T
  have G_law_thing : Known P w K mg base CX0 2 "_law_thing" ["_law_script", "_law_k"] (spThing K) := k_law_thing T
  have G_law_rule : Known P w K mg base CX0 6 "_law_rule" ["_law_kind", "_law_notes", "_law_thing_here"] (spRule P w K mg base z.2) := k_law_rule T B M
  have G_law_alike : Known P w K mg base CX0 2 "_law_alike" ["_law_found", "_law_due_here"] (spAlikeD K) := k_law_alike T
  have G_law_due : Known P w K mg base CX0 2 "_law_due" ["_law_thing_here"] (spDue K) := k_law_due T
  have hR : ∀ C sp, ReckonR P w K mg base C sp → Cls K C ∧ KnownM P w K mg base CX0 5 C "reckon" ["self", "some"] sp := fun C sp ⟨Y, e⟩ => by
    subst e
    exact ⟨Y.cl, k_reckon T Y⟩
  obtain ⟨CR, ZR⟩ := T.t_Rule
  refine F.ok sc_law (fun vs H Q E h => ?_) (fun cdv A outer s H vs Q E hr h => ?_)
  · obtain ⟨a, ns, rfl, _⟩ := h
    rfl
  · obtain ⟨a, ns, rfl, hS, hl, hT, q⟩ := h
    refine ⟨_, (pss_cons (ps_set (i := 1) sc_law.nd rfl (Or.inl rfl) (pe_lst pa_nil))
      (pss_cons (ps_for PassesOwn.never rfl (pi_range1 rfl T.range (pa_cons pe_int pa_nil)) (pg_name (i := 2) sc_law.nd rfl (Or.inl rfl)) (pss_cons (ps_set (i := 3) sc_law.nd rfl (Or.inl rfl) (pe_lst pa_nil))
      (pss_cons (ps_set (i := 4) sc_law.nd rfl (Or.inl rfl) (pe_callN G_law_thing (hr.mono (by decide)) pass0 (pa_cons (pv 0) (pa_cons (pe_op op_add pe_int (pe_op op_mul pe_int (pv 2))) pa_nil))))
      (pss_cons (ps_set (i := 5) sc_law.nd rfl (Or.inl rfl) (pe_callN G_law_rule (hr.mono (by decide)) pass0 (pa_cons (pe_callN G_law_drawn (hr.mono (by decide)) pass0 (pa_cons (pv 0) (pa_cons (pe_op op_add pe_int (pv 2)) (pa_cons pe_int pa_nil)))) (pa_cons (pv 3) (pa_cons (pv 4) pa_nil)))))
      (pss_cons (ps_set (i := 6) sc_law.nd rfl (Or.inl rfl) (pe_lst pa_nil))
      (pss_cons (ps_for PassesOwn.never rfl (pi_range1 rfl T.range (pa_cons (pe_callN G_law_drawn (hr.mono (by decide)) pass0 (pa_cons (pv 0) (pa_cons (pe_op op_add pe_int (pv 2)) (pa_cons pe_int pa_nil)))) pa_nil)) (pg_name (i := 7) sc_law.nd rfl (Or.inl rfl)) (pss_cons (ps_set (i := 8) sc_law.nd rfl (Or.inl rfl) (pe_ix ix_list (pe_lst (pa_k pe_int (pa_k pe_int (pa_cons (pe_op op_pow pe_int pe_int) (pa_cons (pe_op op_pow pe_int pe_int) pa_nil))))) (pe_callN G_law_drawn (hr.mono (by decide)) pass0 (pa_cons (pv 0) (pa_cons (pe_op op_add pe_int (pv 7)) (pa_cons pe_int pa_nil)))) (fun _ _ => rfl)))
      (pss_one (ps_expr (pe_bm PySem.F.plainAttrs_list PySem.F.slot_list_append PySem.F.type_list_append mt_append (pv 6) (pa_cons (pe_op op_mul (pe_op op_sub (pe_callN G_law_drawn (hr.mono (by decide)) pass0 (pa_cons (pv 0) (pa_cons (pe_op op_add (pe_op op_add pe_int (pe_op op_mul pe_int (pv 2))) (pv 7)) (pa_cons pe_int pa_nil)))) pe_int) (pv 8)) pa_nil))))))
      (pss_cons (ps_set (i := 9) sc_law.nd rfl (Or.inl rfl) (pe_callTy call_list_of rfl T.list b_list (pa_cons (pv 6) pa_nil)))
      (pss_cons (ps_if (PW.pt (pw_or (pt_not (pt_val (pe_callB call_isC rfl T.isinstance b_isinstance (pa_cons (pv 5) (pa_cons (pe_gR ZR.c) pa_nil))) (fun _ => rfl))) (pw_or1 (pt_not (pt_val (pe_callN G_law_alike (hr.mono (by decide)) pass0 (pa_cons (pe_methD (pv 5) hR (hr.mono (by decide)) pass0 (pa_cons (pv 9) pa_nil)) (pa_cons (pe_callN G_law_due (hr.mono (by decide)) pass0 (pa_cons (pv 4) pa_nil)) pa_nil))) (fun _ => rfl)))))) (pss_one (ps_ret pe_bl)) pss_nil)
      (pss_cons (ps_if (PW.pt (pw_or (pt_cmpR (op_neD hr.units) (pv 3) (pe_lst (pa_cons (pv 6) pa_nil)) (nomark _)) (pw_or (pt_cmpR (op_neD hr.units) (pv 9) (pv 6) (nomark _)) (pw_or1 (pt_not (pt_val (pe_callN G_law_alike (hr.mono (by decide)) pass0 (pa_cons (pe_methD (pv 5) hR (hr.mono (by decide)) pass0 (pa_cons (pe_callTy call_list_of rfl T.list b_list (pa_cons (pv 6) pa_nil)) pa_nil)) (pa_cons (pe_callN G_law_due (hr.mono (by decide)) pass0 (pa_cons (pv 4) pa_nil)) pa_nil))) (fun _ => rfl))))))) (pss_one (ps_ret pe_bl)) pss_nil)
      (pss_one (ps_expr (pe_bm PySem.F.plainAttrs_list PySem.F.slot_list_append PySem.F.type_list_append mt_append (pv 1) (pa_cons (pe_tup (pa_cons (pv 5) (pa_cons (pv 3) (pa_cons (pv 4) (pa_cons (pv 6) pa_nil))))) pa_nil)))))))))))))
      (pss_cons (ps_for PassesOwn.never rfl (pi_list (pv 1)) (pg_tup rfl (pgs_cons (pg_name (i := 5) sc_law.nd rfl (Or.inl rfl)) (pgs_cons (pg_name (i := 3) sc_law.nd rfl (Or.inl rfl)) (pgs_cons (pg_name (i := 4) sc_law.nd rfl (Or.inl rfl)) (pgs_cons (pg_name (i := 6) sc_law.nd rfl (Or.inl rfl)) pgs_nil))))) (pss_cons (ps_if (PW.pt (pw_or (pt_cmpR (op_neD hr.units) (pv 3) (pe_lst (pa_cons (pv 6) (pa_cons (pv 6) pa_nil))) (nomark _)) (pw_or1 (pt_not (pt_val (pe_callN G_law_alike (hr.mono (by decide)) pass0 (pa_cons (pe_methD (pv 5) hR (hr.mono (by decide)) pass0 (pa_l (pe_lst (pa_k pe_int pa_nil)) pa_nil)) (pa_cons (pe_callN G_law_due (hr.mono (by decide)) pass0 (pa_cons (pv 4) pa_nil)) pa_nil))) (fun _ => rfl)))))) (pss_one (ps_ret pe_bl)) pss_nil)
      (pss_one (ps_if (pt_cmpR (op_neD hr.units) (pv 3) (pe_lst (pa_cons (pv 6) (pa_cons (pv 6) (pa_l (pe_lst (pa_k pe_int pa_nil)) pa_nil)))) (nomark _)) (pss_one (ps_ret pe_bl)) pss_nil))))
      (pss_one (ps_ret pe_bl))))), ?_⟩
    have hT0 : TabIn qRule H z.2 := ⟨[], hT z (by simp), fun c hc => nomatch hc⟩
    refine ⟨sl, fun hd hhd => ?_⟩
    have s0 := Same.new (o := .lst []) hhd
    refine ⟨6, rfl, by decide, by decide, ?_⟩
    refine for_range (lo := 0) (n := 6) (fun i σ Hi => ∃ (o2 o3 o4 o5 o6 o7 o8 o9 : Option V) (xs : List V) (nls : List Addr), σ = [some (.ref a), some (.ref hd), o2, o3, o4, o5, o6, o7, o8, o9] ∧ SameX z.2 H Hi ∧ TabIn qRule Hi z.2 ∧ Hi hd = some (.lst xs) ∧ xs.length = i ∧ nls.length = i ∧ (∀ n ∈ nls, ∃ ys, Hi n = some (.lst ys)) ∧ ∀ j x, xs[j]? = some x → ∃ n, nls[j]? = some n ∧ Rec P w K mg base (Oj hd nls j) n Hi x)
      ⟨_, _, _, _, _, _, _, _, [], [], rfl, sx_of s0, tabIn_same s0 hT0, upd_same, rfl, rfl, (fun n h => nomatch h), fun j x e => by simp at e⟩ ?_ ?_
    · rintro i σ Hi hi ⟨o2, o3, o4, o5, o6, o7, o8, o9, xs, nls, rfl, sx, tb, hh, hx, hnn, hN, hRec⟩
      refine ⟨sl, fun nl hnl => ?_⟩
      have s1 := Same.new (o := .lst []) hnl
      have g1 := upd_same (H := Hi) (a := nl) (o := .lst [])
      generalize upd Hi nl (.lst []) = H1 at s1 g1 ⊢
      have tb1 := tabIn_same s1 tb
      have hS1 := sqL_x tb (sx_of s1) (sqL_x hT0 sx hS)
      refine ⟨_, rfl, _, rfl, _, _, rfl, rfl, .inl ⟨by decide, by decide⟩, _, _, rfl, rfl, a, ns, _, rfl, hS1, hl, by omega, by omega, fun H2 v d s2 gd th => ?_⟩
      have tb2 := tabIn_same s2 tb1
      have hS2 := s2.seq hS1
      refine ⟨_, rfl, _, rfl, _, _, rfl, rfl, a, ns, _, 5, rfl, hS2, hl, by omega, by omega, by decide, _, rfl, _, rfl, _, nl, v, rfl, tb2, fun H3 p sx3 tb3 hp ru => ?_⟩
      have hS3 := sqL_x tb2 sx3 hS2
      have th3 := th.x tb2 sx3
      refine ⟨sl, fun so hso => ?_⟩
      have s4 := Same.new (o := .lst []) hso
      have g4 := upd_same (H := H3) (a := so) (o := .lst [])
      generalize upd H3 so (.lst []) = H4 at s4 g4 ⊢
      have sxi3 : SameX z.2 Hi H3 := fun b o n e => sx3 b o n (s2 _ _ (s1 _ _ e))
      have nlz : nl ≠ z.2 := by
        obtain ⟨S, e, _⟩ := tb
        exact (ne_of_none e hnl).symm
      have hn3 : H3 nl = some (.lst []) := sx3 _ _ nlz (s2 _ _ g1)
      have tb4 := tabIn_same s4 tb3
      have son : so ≠ nl := (ne_of_none hn3 hso).symm
      have soi : Hi so = none := noneX tb3 sxi3 hso
      have th4 : ThingAt (fun b => (b ≠ nl ∧ Hi b = none) ∧ b ≠ so) K H4 v d := (th3.mono (fun b u z1 z2 => ⟨⟨(ne_of_none g1 z1).symm, noneB s1 z1⟩, ne_of_none z2 hso⟩)).same s4
      have hS4 := s4.seq hS3
      have c0 := drawZ_nn ns (30 + (0 + (i : Int))) (show (0 : Int) < 9 by decide)
      have c1 := drawZ_lt ns (30 + (0 + (i : Int))) (show (0 : Int) < 9 by decide)
      refine ⟨_, rfl, _, rfl, _, _, rfl, rfl, a, ns, _, 9, rfl, hS4, hl, by omega, by omega, by decide, _, rfl, by omega, by omega, ?_⟩
      refine for_range (lo := 0) (n := (drawZ ns (30 + (0 + (i : Int))) 9).toNat) (fun k σ H5 => ∃ (o7 o8 : Option V) (is : List Int), σ = [some (.ref a), some (.ref hd), some (.int (0 + (i : Int))), some (.ref nl), some v, some (.ref p), some (.ref so), o7, o8, o9] ∧ But so H4 H5 ∧ H5 so = some (.lst (is.map V.int)) ∧ is.length = k)
        ⟨_, _, [], rfl, But.of (Same.refl _), g4, rfl⟩ ?_ ?_
      · rintro k σ H5 hk ⟨o7, o8, is, rfl, b5, h5, li⟩
        have sx5 : SameX z.2 H3 H5 := fun b o n e => b5 b o (ne_of_none e hso) (s4 _ _ e)
        have hS5 := sqL_x tb3 sx5 hS3
        have d0 := drawZ_nn ns (100 + (0 + (k : Int))) (show (0 : Int) < 4 by decide)
        have d1 := drawZ_lt ns (100 + (0 + (k : Int))) (show (0 : Int) < 4 by decide)
        have e0 := drawZ_nn ns (40 + 9 * (0 + (i : Int)) + (0 + (k : Int))) (show (0 : Int) < 999983 by decide)
        have e1 := drawZ_lt ns (40 + 9 * (0 + (i : Int)) + (0 + (k : Int))) (show (0 : Int) < 999983 by decide)
        refine ⟨_, _, rfl, rfl, ⟨by decide, by decide, by decide⟩, _, _, rfl, rfl, ⟨by decide, by decide, by decide⟩, sl, fun c hc => ?_⟩
        have s6 := Same.new (o := .lst [.int 1, .int 1, .int (10 ^ (20 : Int).toNat), .int (10 ^ (53 : Int).toNat)]) hc
        have cso : c ≠ so := (ne_of_none h5 hc).symm
        refine ⟨_, rfl, _, rfl, _, _, rfl, rfl, a, ns, _, 4, rfl, s6.seq hS5, hl, by omega, by omega, by decide, c, _, _, _, rfl, rfl, SqL.of upd_same, at_map [1, 1, 10 ^ (20 : Int).toNat, 10 ^ (53 : Int).toNat] _ d0 (by simpa using d1), ?_⟩
        have h6 := s6 _ _ h5
        refine ⟨_, rfl, .inl ⟨rfl, _, SqL.of h6⟩, _, rfl, _, rfl, _, _, rfl, rfl, .inl ⟨by decide, by decide⟩, _, _, rfl, rfl, _, rfl, _, _, rfl, rfl, a, ns, _, 999983, rfl, s6.seq hS5, hl, by omega, by omega, by decide, _, _, rfl, rfl, _, rfl, _, _, rfl, rfl, .inl ⟨by omega, by omega⟩, ?_⟩
        refine ⟨so, _, _, rfl, rfl, h6, small1000 (by rw [List.length_map]; omega), ?_⟩
        refine ⟨_, _, is ++ [_], rfl, (b5.trans (But.of s6)).trans But.upd, by rw [List.map_append]; exact upd_same, by rw [List.length_append, li]; rfl⟩
      · rintro σ H5 ⟨o7', o8', is, rfl, b5, h5, li⟩
        have sx5 : SameX z.2 Hi H5 := fun b o n e => b5 b o (ne_of_none (sxi3 b o n e) hso) (s4 _ _ (sxi3 b o n e))
        have t5 : Trn P w K mg base Hi H5 z.2 nl so p v d [] is := ⟨sx5, tabIn_but b5 g4 tb4, (ru.keep (KeepF.of s4)).keep (KeepF.but b5 g4), gd, (th4.but (fun _ z => z.2) b5).mono (fun b u z _ => z.1), b5 _ _ (Ne.symm son) (s4 _ _ hn3), h5, son, hnl, soi, by omega⟩
        refine ⟨_, rfl, so, _, rfl, .inl (SqL.of h5), fun h2 hh2 => ?_⟩
        have s6 := Same.new (o := .lst (is.map V.int)) hh2
        have g6 := upd_same (H := H5) (a := h2) (o := .lst (is.map V.int))
        have t6 := t5.same s6
        have h2n : h2 ≠ nl := (ne_of_none t5.hn hh2).symm
        generalize upd H5 h2 (.lst (is.map V.int)) = H6 at s6 g6 t6 ⊢
        obtain ⟨C, dx, fs, r1, Y, r2⟩ := t6.rule
        obtain ⟨R, u1, u2, u3, u4, u5⟩ := Y.up_Rule
        have eR : R = CR := by
          have := u1.symm.trans ZR.c
          cases this
          rfl
        subst eR
        refine ⟨_, rfl, _, R, _, true, rfl, .ins r1 Y.cl Y.hc u4 u5 u3, u2, _, rfl, iteF ?_⟩
        refine ⟨_, rfl, C, _, p, dx, fs, ⟨Y, rfl⟩, rfl, r1, r2, _, rfl, ?_⟩
        refine ask (E := E0) t6 (SqL.of g6) (by rw [List.length_map]; omega) (by simp) (fun H7 l1 r t7 l10 l1n hl1 bt7 hr => ?_)
        refine ⟨_, rfl, v, d, rfl, t7.th.dt, gd, fun H8 y s8 hy => ?_⟩
        refine ⟨r, y, dueD d, rfl, Dt.same s8 hr, hy, gd.due, _, rfl, iteF ?_⟩
        have t8 := t7.same s8
        have hl18 := s8 _ _ hl1
        have g8 := s8 _ _ (bt7 _ _ h2n g6)
        refine ⟨_, rfl, _, rfl, sl, fun q1 hq1 => ?_⟩
        have s9 := Same.new (o := .lst [.ref so]) hq1
        have t9 := t8.same s9
        refine ⟨.list ([is].map isD), .list ([is].map isD), .lst (SqL.of t9.hn) (.cons (dtL (s9 _ _ hl18)) .nil), .lst (SqL.of upd_same) (.cons (dtL t9.hs) .nil), nst_lay [is], nst_lay [is], nst_depL [is], _, rfl, ?_⟩
        rw [show PyData.eqv (.list ([is].map isD)) (.list ([is].map isD)) = true from nst_eqv [is]]
        refine iteF ?_
        refine ⟨_, rfl, _, rfl, isD is, isD is, dtL (s9 _ _ g8), dtL t9.hs, isD_lay is, isD_lay is, Nat.le_trans (isD_dep is) (by decide), _, rfl, ?_⟩
        rw [isD_eqv]
        refine iteF ?_
        obtain ⟨C', dx', fs', r1', Y', r2'⟩ := t9.rule
        refine ⟨_, rfl, C', _, p, dx', fs', ⟨Y', rfl⟩, rfl, r1', r2', _, rfl, so, _, rfl, .inl (SqL.of t9.hs), fun c hc => ?_⟩
        have s10 := Same.new (o := .lst (is.map V.int)) hc
        have t10 := t9.same s10
        refine ask (E := E0) t10 (SqL.of upd_same) (by rw [List.length_map]; omega) (by simp) (fun H11 l2 r' t11 l20 l2n hl2 bt11 hr' => ?_)
        refine ⟨_, rfl, v, d, rfl, t11.th.dt, gd, fun H12 y' s12 hy' => ?_⟩
        refine ⟨r', y', dueD d, rfl, Dt.same s12 hr', hy', gd.due, _, rfl, iteF ?_⟩
        have t12 := t11.same s12
        have hl112 := s12 _ _ (bt11 _ _ l1n (s10 _ _ (s9 _ _ hl18)))
        have hl212 := s12 _ _ hl2
        have hdz : hd ≠ z.2 := by
          obtain ⟨S, e, _⟩ := tb
          exact ne_of hh e (fun z => by cases z)
        have hh12 := t12.sx _ _ hdz hh
        refine ⟨_, rfl, .inl ⟨rfl, _, SqL.of hh12⟩, _, rfl, _, rfl, _, rfl, _, rfl, sl, fun t ht => ?_⟩
        have s13 := Same.new (o := .tup [.ref p, .ref nl, v, .ref so]) ht
        have gt := upd_same (H := H12) (a := t) (o := .tup [.ref p, .ref nl, v, .ref so])
        have t13 := t12.same s13
        generalize upd H12 t (.tup [.ref p, .ref nl, v, .ref so]) = H13 at s13 gt t13 ⊢
        have hh13 := s13 _ _ hh12
        refine ⟨hd, _, _, rfl, rfl, hh13, small1000 (by omega), ?_⟩
        have b14 : But hd H13 (upd H13 hd (.lst (xs ++ [.ref t]))) := But.upd
        have g14 := upd_same (H := H13) (a := hd) (o := .lst (xs ++ [.ref t]))
        generalize upd H13 hd (.lst (xs ++ [.ref t])) = H14 at b14 g14 ⊢
        have old : ∀ {b : Addr}, Hi b = none → b ≠ hd := fun e => (ne_of_none hh e).symm
        have kfi : KeepF Hi H14 := (keepF_x tb t13.sx).trans (KeepF.but b14 hh13)
        refine ⟨_, _, _, _, _, _, _, _, xs ++ [.ref t], nls ++ [nl], rfl, fun b o n e => b14 b o (ne_of_none e hhd) (t13.sx b o n (sx b o n e)), tabIn_but b14 hh13 t13.tb, g14, by rw [List.length_append, hx]; rfl, by rw [List.length_append, hnn]; rfl, fun n hn => ?_, fun j x hj => ?_⟩
        · rcases List.mem_append.mp hn with hn | hn
          · obtain ⟨ys, e⟩ := hN n hn
            by_cases y : n = hd
            · exact ⟨_, by rw [y]; exact g14⟩
            · refine ⟨ys, b14 _ _ y (t13.sx _ _ ?_ e)⟩
              obtain ⟨S, e', _⟩ := tb
              exact ne_of e e' (fun z => by cases z)
          · obtain rfl : n = nl := by simpa using hn
            exact ⟨_, b14 _ _ (old hnl) t13.hn⟩
        · have hNu : ∀ n ∈ nls ++ [nl], n ∈ nls ∨ n = nl := fun n h => by simpa using h
          by_cases y : j < xs.length
          · rw [List.getElem?_append_left y] at hj
            obtain ⟨n, e1, e2⟩ := hRec j x hj
            have eO : Oj hd (nls ++ [nl]) j = Oj hd nls j := by
              unfold Oj
              rw [List.take_append_of_le_length (by omega)]
            refine ⟨n, by rw [List.getElem?_append_left (by omega)]; exact e1, ?_⟩
            rw [eO]
            refine e2.keep kfi fun b o hO hne e => ?_
            refine b14 _ _ hO.1 (t13.sx _ _ ?_ e)
            obtain ⟨S, e', _⟩ := tb
            intro z'
            rw [z', e'] at e
            exact hne _ (Option.some.inj e).symm
          · have ej : j = xs.length := by
              have := (List.getElem?_eq_some_iff.mp hj).1
              rw [List.length_append] at this
              simp at this
              omega
            subst ej
            rw [List.getElem?_append_right (Nat.le_refl _)] at hj
            simp at hj
            subst hj
            have eO : ∀ {b : Addr}, Hi b = none → Oj hd (nls ++ [nl]) xs.length b := fun {b} e => ⟨old e, fun z' => by
              rw [List.take_append_of_le_length (by omega)] at z'
              obtain ⟨ys, e'⟩ := hN b (List.mem_of_mem_take z')
              rw [e] at e'; cases e'⟩
            refine ⟨nl, by rw [List.getElem?_append_right (by omega)]; simp [hnn, hx], t, p, so, l1, l2, v, d, is, rfl, b14 _ _ (fun z' => ?_) gt, t13.ru.keep (KeepF.but b14 hh13), gd, (t13.th.but (fun b z' => old z'.2) b14).mono (fun b u z' _ => ⟨z'.1, eO z'.2⟩), b14 _ _ (old hnl) t13.hn, eO hnl, fun b hb => ?_, t13.li⟩
            · rw [z', hh13] at gt; cases gt
            · simp only [List.mem_cons, List.not_mem_nil, or_false] at hb
              rcases hb with rfl | rfl | rfl
              · exact ⟨b14 _ _ (old l10) (s13 _ _ hl112), l1n, eO l10⟩
              · exact ⟨b14 _ _ (old l20) (s13 _ _ hl212), l2n, eO l20⟩
              · exact ⟨b14 _ _ (old soi) t13.hs, son, eO soi⟩
    · rintro σ H2 ⟨o2, o3, o4, o5, o6, o7, o8, o9, xs, nls, rfl, sx, tb, hh, hx, hnn, hN, hRec⟩
      refine ⟨_, rfl, hd, rfl, ⟨_, SqL.of hh⟩, ?_⟩
      refine for_list (K := K) (a := hd) (xs := xs) (fun i σ H3 => ∃ (o2 o3 o4 o5 o6 o7 o8 o9 : Option V), σ = [some (.ref a), some (.ref hd), o2, o3, o4, o5, o6, o7, o8, o9] ∧ TabIn qRule H3 z.2 ∧ H3 hd = some (.lst xs) ∧ ∀ j x, i ≤ j → xs[j]? = some x → ∃ n, nls[j]? = some n ∧ Rec P w K mg base (Oj hd nls j) n H3 x)
        ⟨_, _, _, _, _, _, _, _, rfl, tb, hh, fun j x _ => hRec j x⟩ (fun i σ H3 _ ⟨_, _, _, _, _, _, _, _, _, _, h, _⟩ => SqL.of h) ?_ ?_
      · rintro i x σ H3 hxi ⟨o2, o3, o4, o5, o6, o7, o8, o9, rfl, tb3, hh3, hR3⟩
        obtain ⟨n, hni, t, p, so, l1, l2, v, d, is, rfl, e2, e3, e4, e5, e6, e7, e8, e9⟩ := hR3 i x (Nat.le_refl _) hxi
        have t3 : Trn P w K mg base (fun _ => none) H3 z.2 n so p v d [.ref l1, .ref l2] is := ⟨fun b o _ e => (by cases e), tb3, e3, e4, e5.mono (fun b u z _ => ⟨z.1, rfl⟩), e6, (e8 so (by simp)).1, (e8 so (by simp)).2.1, rfl, rfl, e9⟩
        refine ⟨t, _, rfl, SqT.of e2, rfl, _, _, rfl, _, _, rfl, _, _, rfl, _, _, rfl, rfl, ?_⟩
        refine ⟨_, rfl, _, rfl, _, rfl, sl, fun q1 hq1 => ?_⟩
        have s4 := Same.new (o := .lst [.ref so, .ref so]) hq1
        have t4 := t3.same s4
        have k1 := s4 _ _ (e8 l1 (by simp)).1
        have k2 := s4 _ _ (e8 l2 (by simp)).1
        refine ⟨.list ([is, is].map isD), .list ([is, is].map isD), .lst (SqL.of t4.hn) (.cons (dtL k1) (.cons (dtL k2) .nil)), .lst (SqL.of upd_same) (.cons (dtL t4.hs) (.cons (dtL t4.hs) .nil)), nst_lay [is, is], nst_lay [is, is], nst_depL [is, is], _, rfl, ?_⟩
        rw [show PyData.eqv (.list ([is, is].map isD)) (.list ([is, is].map isD)) = true from nst_eqv [is, is]]
        refine iteF ?_
        obtain ⟨C, dx, fs, r1, Y, r2⟩ := t4.rule
        refine ⟨_, rfl, C, _, p, dx, fs, ⟨Y, rfl⟩, rfl, r1, r2, sl, fun c hc => ?_⟩
        have s5 := Same.new (o := .lst [.int 1]) hc
        have t5 := t4.same s5
        refine ask (E := E0) t5 (SqL.of upd_same) (by simp) (by simp) (fun H6 l r t6 l0 ln hl6 bt6 hr6 => ?_)
        refine ⟨_, rfl, v, d, rfl, t6.th.dt, e4, fun H7 y s7 hy => ?_⟩
        refine ⟨r, y, dueD d, rfl, Dt.same s7 hr6, hy, e4.due, _, rfl, iteF ?_⟩
        have t7 := t6.same s7
        have m1 := s7 _ _ (bt6 _ _ (e8 l1 (by simp)).2.1 (s5 _ _ k1))
        have m2 := s7 _ _ (bt6 _ _ (e8 l2 (by simp)).2.1 (s5 _ _ k2))
        have m3 := s7 _ _ hl6
        refine ⟨_, rfl, _, rfl, _, rfl, sl, fun c8 hc8 => ⟨sl, fun q9 hq9 => ?_⟩⟩
        have s8 := Same.new (o := .lst [.int 1]) hc8
        have s9 := Same.new (o := .lst [.ref so, .ref so, .ref c8]) hq9
        have s89 := s8.trans s9
        have t9 := t7.same s89
        have gc : upd (upd H7 c8 (.lst [.int 1])) q9 (.lst [.ref so, .ref so, .ref c8]) c8 = some (.lst (([1] : List Int).map V.int)) := s9 _ _ upd_same
        refine ⟨.list ([is, is, [1]].map isD), .list ([is, is, [1]].map isD), .lst (SqL.of t9.hn) (.cons (dtL (s89 _ _ m1)) (.cons (dtL (s89 _ _ m2)) (.cons (dtL (is := [1]) (s89 _ _ m3)) .nil))), .lst (SqL.of upd_same) (.cons (dtL t9.hs) (.cons (dtL t9.hs) (.cons (dtL gc) .nil))), nst_lay [is, is, [1]], nst_lay [is, is, [1]], nst_depL [is, is, [1]], _, rfl, ?_⟩
        rw [show PyData.eqv (.list ([is, is, [1]].map isD)) (.list ([is, is, [1]].map isD)) = true from nst_eqv [is, is, [1]]]
        refine iteF ?_
        have bt : But n H3 (upd (upd H7 c8 (.lst [.int 1])) q9 (.lst [.ref so, .ref so, .ref c8])) := fun b o nb e => s89 _ _ (s7 _ _ (bt6 b o nb (s5 _ _ (s4 _ _ e))))
        generalize upd (upd H7 c8 (.lst [.int 1])) q9 (.lst [.ref so, .ref so, .ref c8]) = H9 at bt ⊢
        refine ⟨_, _, _, _, _, _, _, _, rfl, tabIn_but bt e6 tb3, bt _ _ (Ne.symm e7.1) hh3, fun j x hj hxj => ?_⟩
        obtain ⟨n', f1, f2⟩ := hR3 j x (by omega) hxj
        refine ⟨n', f1, f2.keep (KeepF.but bt e6) fun b o hO _ e => bt b o (fun z' => hO.2 ?_) e⟩
        rw [z']
        refine List.mem_of_getElem? (i := i) ?_
        rw [List.getElem?_take_of_lt (by omega)]
        exact hni
      · rintro σ H9 ⟨o2, o3, o4, o5, o6, o7, o8, o9, rfl, tb9, _⟩
        refine q H9 fun z' hz' => ?_
        obtain rfl : z' = z := by simpa using hz'
        obtain ⟨S, e, _⟩ := tb9
        exact ⟨S, e⟩
end
end My

namespace My
open PySem L2
theorem tops_mk {K : PySem.W.Frag} {h : Heap} {mg : Str → Option Value} (X : K.In h) (G : h.Ns mainGlobals mg)
    (n_len : PySem.W.nsIn K mainGlobals "len" = some none)
    (n_isinstance : PySem.W.nsIn K mainGlobals "isinstance" = some none)
    (n_int : PySem.W.nsIn K mainGlobals "int" = some none)
    (n_bool : PySem.W.nsIn K mainGlobals "bool" = some none)
    (n_str : PySem.W.nsIn K mainGlobals "str" = some none)
    (n_all : PySem.W.nsIn K mainGlobals "all" = some none)
    (n_range : PySem.W.nsIn K mainGlobals "range" = some none)
    (n_abs : PySem.W.nsIn K mainGlobals "abs" = some none)
    (n_list : PySem.W.nsIn K mainGlobals "list" = some none)
    (n_tuple : PySem.W.nsIn K mainGlobals "tuple" = some none)
    (n_ValueError : PySem.W.nsIn K mainGlobals "ValueError" = some none)
    {t_LETTERS : Tok} (i_LETTERS : PySem.W.nsIn K mainGlobals "LETTERS" = some (some (.str ("abcdefghijklmnopqrstuvwxyz" : Str) t_LETTERS)))
    {t_MOST_LETTERS : Tok} (i_MOST_LETTERS : PySem.W.nsIn K mainGlobals "MOST_LETTERS" = some (some (.int 8 t_MOST_LETTERS)))
    {p_ODD : Addr} {t0_ODD t1_ODD : Tok} {od_ODD : Option Addr} {m_ODD : Nat} {sl_ODD : Array (Option Value)} (i_ODD : PySem.W.nsIn K mainGlobals "ODD" = some (some (.ref p_ODD))) (j_ODD : K.lookup p_ODD = some ⟨.type "tuple", od_ODD, .seq #[Value.str ("fault" : Str) t0_ODD, Value.str ("odd" : Str) t1_ODD] m_ODD, sl_ODD⟩)
    {t_MOST_NAMES : Tok} (i_MOST_NAMES : PySem.W.nsIn K mainGlobals "MOST_NAMES" = some (some (.int 6 t_MOST_NAMES)))
    {f_is_whole : Addr} {oc_is_whole kV_is_whole doc_is_whole pm_is_whole ct_is_whole : Value} {cd_is_whole : Value} {od_is_whole an_is_whole : Option Addr} {sl_is_whole : Array (Option Value)} (a_is_whole : PySem.W.nsIn K mainGlobals "is_whole" = some (some (.ref f_is_whole)))
    (l_is_whole : K.lookup f_is_whole = some ⟨oc_is_whole, od_is_whole, .func (PySem.W.fnOf "is_whole" "is_whole" (defArgs s_is_whole) (defBody s_is_whole) (defScope s_is_whole) .none kV_is_whole doc_is_whole pm_is_whole an_is_whole cd_is_whole ct_is_whole), sl_is_whole⟩)
    (c_is_whole : PySem.W.codeIn K cd_is_whole "is_whole" = true) (k_is_whole : PySem.W.keepIn K (.ref f_is_whole) = true)
    {f_is_number : Addr} {oc_is_number kV_is_number doc_is_number pm_is_number ct_is_number : Value} {cd_is_number : Value} {od_is_number an_is_number : Option Addr} {sl_is_number : Array (Option Value)} (a_is_number : PySem.W.nsIn K mainGlobals "is_number" = some (some (.ref f_is_number)))
    (l_is_number : K.lookup f_is_number = some ⟨oc_is_number, od_is_number, .func (PySem.W.fnOf "is_number" "is_number" (defArgs s_is_number) (defBody s_is_number) (defScope s_is_number) .none kV_is_number doc_is_number pm_is_number an_is_number cd_is_number ct_is_number), sl_is_number⟩)
    (c_is_number : PySem.W.codeIn K cd_is_number "is_number" = true) (k_is_number : PySem.W.keepIn K (.ref f_is_number) = true)
    {f_is_name : Addr} {oc_is_name kV_is_name doc_is_name pm_is_name ct_is_name : Value} {cd_is_name : Value} {od_is_name an_is_name : Option Addr} {sl_is_name : Array (Option Value)} (a_is_name : PySem.W.nsIn K mainGlobals "is_name" = some (some (.ref f_is_name)))
    (l_is_name : K.lookup f_is_name = some ⟨oc_is_name, od_is_name, .func (PySem.W.fnOf "is_name" "is_name" (defArgs s_is_name) (defBody s_is_name) (defScope s_is_name) .none kV_is_name doc_is_name pm_is_name an_is_name cd_is_name ct_is_name), sl_is_name⟩)
    (c_is_name : PySem.W.codeIn K cd_is_name "is_name" = true) (k_is_name : PySem.W.keepIn K (.ref f_is_name) = true)
    {f_is_fault : Addr} {oc_is_fault kV_is_fault doc_is_fault pm_is_fault ct_is_fault : Value} {cd_is_fault : Value} {od_is_fault an_is_fault : Option Addr} {sl_is_fault : Array (Option Value)} (a_is_fault : PySem.W.nsIn K mainGlobals "is_fault" = some (some (.ref f_is_fault)))
    (l_is_fault : K.lookup f_is_fault = some ⟨oc_is_fault, od_is_fault, .func (PySem.W.fnOf "is_fault" "is_fault" (defArgs s_is_fault) (defBody s_is_fault) (defScope s_is_fault) .none kV_is_fault doc_is_fault pm_is_fault an_is_fault cd_is_fault ct_is_fault), sl_is_fault⟩)
    (c_is_fault : PySem.W.codeIn K cd_is_fault "is_fault" = true) (k_is_fault : PySem.W.keepIn K (.ref f_is_fault) = true)
    {f_is_value : Addr} {oc_is_value kV_is_value doc_is_value pm_is_value ct_is_value : Value} {cd_is_value : Value} {od_is_value an_is_value : Option Addr} {sl_is_value : Array (Option Value)} (a_is_value : PySem.W.nsIn K mainGlobals "is_value" = some (some (.ref f_is_value)))
    (l_is_value : K.lookup f_is_value = some ⟨oc_is_value, od_is_value, .func (PySem.W.fnOf "is_value" "is_value" (defArgs s_is_value) (defBody s_is_value) (defScope s_is_value) .none kV_is_value doc_is_value pm_is_value an_is_value cd_is_value ct_is_value), sl_is_value⟩)
    (c_is_value : PySem.W.codeIn K cd_is_value "is_value" = true) (k_is_value : PySem.W.keepIn K (.ref f_is_value) = true)
    {f_settled : Addr} {oc_settled kV_settled doc_settled pm_settled ct_settled : Value} {cd_settled : Value} {od_settled an_settled : Option Addr} {sl_settled : Array (Option Value)} (a_settled : PySem.W.nsIn K mainGlobals "settled" = some (some (.ref f_settled)))
    (l_settled : K.lookup f_settled = some ⟨oc_settled, od_settled, .func (PySem.W.fnOf "settled" "settled" (defArgs s_settled) (defBody s_settled) (defScope s_settled) .none kV_settled doc_settled pm_settled an_settled cd_settled ct_settled), sl_settled⟩)
    (c_settled : PySem.W.codeIn K cd_settled "settled" = true) (k_settled : PySem.W.keepIn K (.ref f_settled) = true)
    {f_check_name : Addr} {oc_check_name kV_check_name doc_check_name pm_check_name ct_check_name : Value} {cd_check_name : Value} {od_check_name an_check_name : Option Addr} {sl_check_name : Array (Option Value)} (a_check_name : PySem.W.nsIn K mainGlobals "check_name" = some (some (.ref f_check_name)))
    (l_check_name : K.lookup f_check_name = some ⟨oc_check_name, od_check_name, .func (PySem.W.fnOf "check_name" "check_name" (defArgs s_check_name) (defBody s_check_name) (defScope s_check_name) .none kV_check_name doc_check_name pm_check_name an_check_name cd_check_name ct_check_name), sl_check_name⟩)
    (c_check_name : PySem.W.codeIn K cd_check_name "check_name" = true) (k_check_name : PySem.W.keepIn K (.ref f_check_name) = true)
    {f_checked_names : Addr} {oc_checked_names kV_checked_names doc_checked_names pm_checked_names ct_checked_names : Value} {cd_checked_names : Value} {od_checked_names an_checked_names : Option Addr} {sl_checked_names : Array (Option Value)} (a_checked_names : PySem.W.nsIn K mainGlobals "checked_names" = some (some (.ref f_checked_names)))
    (l_checked_names : K.lookup f_checked_names = some ⟨oc_checked_names, od_checked_names, .func (PySem.W.fnOf "checked_names" "checked_names" (defArgs s_checked_names) (defBody s_checked_names) (defScope s_checked_names) .none kV_checked_names doc_checked_names pm_checked_names an_checked_names cd_checked_names ct_checked_names), sl_checked_names⟩)
    (c_checked_names : PySem.W.codeIn K cd_checked_names "checked_names" = true) (k_checked_names : PySem.W.keepIn K (.ref f_checked_names) = true)
    {f_law_drawn : Addr} {oc_law_drawn kV_law_drawn doc_law_drawn pm_law_drawn ct_law_drawn : Value} {cd_law_drawn : Value} {od_law_drawn an_law_drawn : Option Addr} {sl_law_drawn : Array (Option Value)} (a_law_drawn : PySem.W.nsIn K mainGlobals "_law_drawn" = some (some (.ref f_law_drawn)))
    (l_law_drawn : K.lookup f_law_drawn = some ⟨oc_law_drawn, od_law_drawn, .func (PySem.W.fnOf "_law_drawn" "_law_drawn" (defArgs s_law_drawn) (defBody s_law_drawn) (defScope s_law_drawn) .none kV_law_drawn doc_law_drawn pm_law_drawn an_law_drawn cd_law_drawn ct_law_drawn), sl_law_drawn⟩)
    (c_law_drawn : PySem.W.codeIn K cd_law_drawn "_law_drawn" = true) (k_law_drawn : PySem.W.keepIn K (.ref f_law_drawn) = true)
    {f_law_whole : Addr} {oc_law_whole kV_law_whole doc_law_whole pm_law_whole ct_law_whole : Value} {cd_law_whole : Value} {od_law_whole an_law_whole : Option Addr} {sl_law_whole : Array (Option Value)} (a_law_whole : PySem.W.nsIn K mainGlobals "_law_whole" = some (some (.ref f_law_whole)))
    (l_law_whole : K.lookup f_law_whole = some ⟨oc_law_whole, od_law_whole, .func (PySem.W.fnOf "_law_whole" "_law_whole" (defArgs s_law_whole) (defBody s_law_whole) (defScope s_law_whole) .none kV_law_whole doc_law_whole pm_law_whole an_law_whole cd_law_whole ct_law_whole), sl_law_whole⟩)
    (c_law_whole : PySem.W.codeIn K cd_law_whole "_law_whole" = true) (k_law_whole : PySem.W.keepIn K (.ref f_law_whole) = true)
    {f_law_thing : Addr} {oc_law_thing kV_law_thing doc_law_thing pm_law_thing ct_law_thing : Value} {cd_law_thing : Value} {od_law_thing an_law_thing : Option Addr} {sl_law_thing : Array (Option Value)} (a_law_thing : PySem.W.nsIn K mainGlobals "_law_thing" = some (some (.ref f_law_thing)))
    (l_law_thing : K.lookup f_law_thing = some ⟨oc_law_thing, od_law_thing, .func (PySem.W.fnOf "_law_thing" "_law_thing" (defArgs s_law_thing) (defBody s_law_thing) (defScope s_law_thing) .none kV_law_thing doc_law_thing pm_law_thing an_law_thing cd_law_thing ct_law_thing), sl_law_thing⟩)
    (c_law_thing : PySem.W.codeIn K cd_law_thing "_law_thing" = true) (k_law_thing : PySem.W.keepIn K (.ref f_law_thing) = true)
    {f_law_due : Addr} {oc_law_due kV_law_due doc_law_due pm_law_due ct_law_due : Value} {cd_law_due : Value} {od_law_due an_law_due : Option Addr} {sl_law_due : Array (Option Value)} (a_law_due : PySem.W.nsIn K mainGlobals "_law_due" = some (some (.ref f_law_due)))
    (l_law_due : K.lookup f_law_due = some ⟨oc_law_due, od_law_due, .func (PySem.W.fnOf "_law_due" "_law_due" (defArgs s_law_due) (defBody s_law_due) (defScope s_law_due) .none kV_law_due doc_law_due pm_law_due an_law_due cd_law_due ct_law_due), sl_law_due⟩)
    (c_law_due : PySem.W.codeIn K cd_law_due "_law_due" = true) (k_law_due : PySem.W.keepIn K (.ref f_law_due) = true)
    {f_law_told : Addr} {oc_law_told kV_law_told doc_law_told pm_law_told ct_law_told : Value} {cd_law_told : Value} {od_law_told an_law_told : Option Addr} {sl_law_told : Array (Option Value)} (a_law_told : PySem.W.nsIn K mainGlobals "_law_told" = some (some (.ref f_law_told)))
    (l_law_told : K.lookup f_law_told = some ⟨oc_law_told, od_law_told, .func (PySem.W.fnOf "_law_told" "_law_told" (defArgs s_law_told) (defBody s_law_told) (defScope s_law_told) .none kV_law_told doc_law_told pm_law_told an_law_told cd_law_told ct_law_told), sl_law_told⟩)
    (c_law_told : PySem.W.codeIn K cd_law_told "_law_told" = true) (k_law_told : PySem.W.keepIn K (.ref f_law_told) = true)
    {f_law_rule : Addr} {oc_law_rule kV_law_rule doc_law_rule pm_law_rule ct_law_rule : Value} {cc_law_rule : Addr} {od_law_rule an_law_rule : Option Addr} {sl_law_rule : Array (Option Value)} (a_law_rule : PySem.W.nsIn K mainGlobals "_law_rule" = some (some (.ref f_law_rule)))
    (l_law_rule : K.lookup f_law_rule = some ⟨oc_law_rule, od_law_rule, .func (PySem.W.fnOf "_law_rule" "_law_rule" (defArgs s_law_rule) (defBody s_law_rule) (defScope s_law_rule) .none kV_law_rule doc_law_rule pm_law_rule an_law_rule (.ref cc_law_rule) ct_law_rule), sl_law_rule⟩)
    (c_law_rule : PySem.W.codeIn K (.ref cc_law_rule) "_law_rule" = true) (k_law_rule : PySem.W.keepIn K (.ref f_law_rule) = true)
    {wo_law_rule : Value} {wd_law_rule : Option Addr} {wv_law_rule : Array Value} {ws_law_rule : Array (Option Value)} {p_law_rule : Addr} (w_law_rule : K.lookup cc_law_rule = some ⟨wo_law_rule, wd_law_rule, .fields wv_law_rule, ws_law_rule⟩) (t_law_rule : wv_law_rule[11]? = some (.ref p_law_rule))
    {f_law_alike : Addr} {oc_law_alike kV_law_alike doc_law_alike pm_law_alike ct_law_alike : Value} {cd_law_alike : Value} {od_law_alike an_law_alike : Option Addr} {sl_law_alike : Array (Option Value)} (a_law_alike : PySem.W.nsIn K mainGlobals "_law_alike" = some (some (.ref f_law_alike)))
    (l_law_alike : K.lookup f_law_alike = some ⟨oc_law_alike, od_law_alike, .func (PySem.W.fnOf "_law_alike" "_law_alike" (defArgs s_law_alike) (defBody s_law_alike) (defScope s_law_alike) .none kV_law_alike doc_law_alike pm_law_alike an_law_alike cd_law_alike ct_law_alike), sl_law_alike⟩)
    (c_law_alike : PySem.W.codeIn K cd_law_alike "_law_alike" = true) (k_law_alike : PySem.W.keepIn K (.ref f_law_alike) = true)
    {f_law : Addr} {oc_law kV_law doc_law pm_law ct_law : Value} {cd_law : Value} {od_law an_law : Option Addr} {sl_law : Array (Option Value)} (a_law : PySem.W.nsIn K mainGlobals "law" = some (some (.ref f_law)))
    (l_law : K.lookup f_law = some ⟨oc_law, od_law, .func (PySem.W.fnOf "law" "law" (defArgs s_law) (defBody s_law) (defScope s_law) .none kV_law doc_law pm_law an_law cd_law ct_law), sl_law⟩)
    (c_law : PySem.W.codeIn K cd_law "law" = true) (k_law : PySem.W.keepIn K (.ref f_law) = true)
    (notabs : PySem.W.noTabs K = true)
    {C_Rule : Addr} (a_Rule : PySem.W.nsIn K mainGlobals "Rule" = some (some (.ref C_Rule)))
    (pg_Rule : PySem.W.plainGet K C_Rule Str.empty = true) (hd_Rule : PySem.W.hasDictIn K C_Rule = true) (po_Rule : PySem.W.plainOver K C_Rule = true) (sa_Rule : PySem.W.findIn K (.ref C_Rule) "__setattr__" = some (some (.builtin "object.__setattr__"))) (mk_Rule : PySem.W.makesIn K C_Rule = true) (kc_Rule : PySem.W.keepIn K (.ref C_Rule) = true) (hc_Rule : PySem.W.findIn K (.ref C_Rule) "__class__" = some (some (.builtin "object.__class__")))
    (na_Rule_function : PySem.W.findIn K (.ref C_Rule) "function" = some none)
    {f_Rule_init : Addr} {oc_Rule_init kV_Rule_init doc_Rule_init pm_Rule_init cd_Rule_init ct_Rule_init : Value} {od_Rule_init an_Rule_init : Option Addr} {sl_Rule_init : Array (Option Value)} (a_Rule_init : PySem.W.findIn K (.ref C_Rule) "__init__" = some (some (.ref f_Rule_init))) (j_Rule_init : PySem.W.isFn K (.ref f_Rule_init) = true)
    (l_Rule_init : K.lookup f_Rule_init = some ⟨oc_Rule_init, od_Rule_init, .func (PySem.W.fnOf "__init__" "Rule.__init__" (defArgs s_Rule_init) (defBody s_Rule_init) (defScope s_Rule_init) .none kV_Rule_init doc_Rule_init pm_Rule_init an_Rule_init cd_Rule_init ct_Rule_init), sl_Rule_init⟩)
    (c_Rule_init : PySem.W.codeIn K cd_Rule_init "Rule.__init__" = true) (k_Rule_init : PySem.W.keepIn K (.ref f_Rule_init) = true)
    (vg_Rule_init : PySem.W.specialIn K (.ref C_Rule) "__getattribute__" = some (some (.builtin "type.__getattribute__"))) (vr_Rule_init : PySem.W.readsIn K C_Rule (.type "type") = true) (vf_Rule_init : PySem.W.findCls K (.ref C_Rule) (.type "type") "__init__" = some (.val (.ref f_Rule_init)))
    {f_Rule_reckon : Addr} {oc_Rule_reckon kV_Rule_reckon doc_Rule_reckon pm_Rule_reckon cd_Rule_reckon ct_Rule_reckon : Value} {od_Rule_reckon an_Rule_reckon : Option Addr} {sl_Rule_reckon : Array (Option Value)} (a_Rule_reckon : PySem.W.findIn K (.ref C_Rule) "reckon" = some (some (.ref f_Rule_reckon))) (j_Rule_reckon : PySem.W.isFn K (.ref f_Rule_reckon) = true)
    (l_Rule_reckon : K.lookup f_Rule_reckon = some ⟨oc_Rule_reckon, od_Rule_reckon, .func (PySem.W.fnOf "reckon" "Rule.reckon" (defArgs s_Rule_reckon) (defBody s_Rule_reckon) (defScope s_Rule_reckon) .none kV_Rule_reckon doc_Rule_reckon pm_Rule_reckon an_Rule_reckon cd_Rule_reckon ct_Rule_reckon), sl_Rule_reckon⟩)
    (c_Rule_reckon : PySem.W.codeIn K cd_Rule_reckon "Rule.reckon" = true) (k_Rule_reckon : PySem.W.keepIn K (.ref f_Rule_reckon) = true)
    {C_Cells : Addr} (a_Cells : PySem.W.nsIn K mainGlobals "Cells" = some (some (.ref C_Cells)))
    (pg_Cells : PySem.W.plainGet K C_Cells Str.empty = true) (hd_Cells : PySem.W.hasDictIn K C_Cells = true) (po_Cells : PySem.W.plainOver K C_Cells = true) (sa_Cells : PySem.W.findIn K (.ref C_Cells) "__setattr__" = some (some (.builtin "object.__setattr__"))) (mk_Cells : PySem.W.makesIn K C_Cells = true) (kc_Cells : PySem.W.keepIn K (.ref C_Cells) = true) (hc_Cells : PySem.W.findIn K (.ref C_Cells) "__class__" = some (some (.builtin "object.__class__")))
    (na_Cells_function : PySem.W.findIn K (.ref C_Cells) "function" = some none)
    (na_Cells_names : PySem.W.findIn K (.ref C_Cells) "names" = some none)
    {f_Cells_init : Addr} {oc_Cells_init kV_Cells_init doc_Cells_init pm_Cells_init cd_Cells_init ct_Cells_init : Value} {od_Cells_init an_Cells_init : Option Addr} {sl_Cells_init : Array (Option Value)} (a_Cells_init : PySem.W.findIn K (.ref C_Cells) "__init__" = some (some (.ref f_Cells_init))) (j_Cells_init : PySem.W.isFn K (.ref f_Cells_init) = true)
    (l_Cells_init : K.lookup f_Cells_init = some ⟨oc_Cells_init, od_Cells_init, .func (PySem.W.fnOf "__init__" "Cells.__init__" (defArgs s_Cells_init) (defBody s_Cells_init) (defScope s_Cells_init) .none kV_Cells_init doc_Cells_init pm_Cells_init an_Cells_init cd_Cells_init ct_Cells_init), sl_Cells_init⟩)
    (c_Cells_init : PySem.W.codeIn K cd_Cells_init "Cells.__init__" = true) (k_Cells_init : PySem.W.keepIn K (.ref f_Cells_init) = true)
    (ai_Cells_Rule_reckon : PySem.W.findIn K (.ref C_Cells) "reckon" = some (some (.ref f_Rule_reckon)))
    (ow4 : PySem.W.specialIn K (.builtin "object.__class__") "__get__" = some (some (.builtin "getset_descriptor.__get__"))) (ow5 : PySem.W.takesIn K (.builtin "object.__class__") = some true)
    (mo_Cells : PySem.W.mroIn K C_Cells (.type "object") = some true)
    (vu_Cells_Rule : PySem.W.kitOne K (.ref C_Cells) (.ref C_Rule) = some true)
    {C_Above : Addr} (a_Above : PySem.W.nsIn K mainGlobals "Above" = some (some (.ref C_Above)))
    (pg_Above : PySem.W.plainGet K C_Above Str.empty = true) (hd_Above : PySem.W.hasDictIn K C_Above = true) (po_Above : PySem.W.plainOver K C_Above = true) (sa_Above : PySem.W.findIn K (.ref C_Above) "__setattr__" = some (some (.builtin "object.__setattr__"))) (mk_Above : PySem.W.makesIn K C_Above = true) (kc_Above : PySem.W.keepIn K (.ref C_Above) = true) (hc_Above : PySem.W.findIn K (.ref C_Above) "__class__" = some (some (.builtin "object.__class__")))
    (na_Above_function : PySem.W.findIn K (.ref C_Above) "function" = some none)
    (na_Above_names : PySem.W.findIn K (.ref C_Above) "names" = some none)
    (na_Above_first : PySem.W.findIn K (.ref C_Above) "first" = some none)
    {f_Above_init : Addr} {oc_Above_init kV_Above_init doc_Above_init pm_Above_init cd_Above_init ct_Above_init : Value} {od_Above_init an_Above_init : Option Addr} {sl_Above_init : Array (Option Value)} (a_Above_init : PySem.W.findIn K (.ref C_Above) "__init__" = some (some (.ref f_Above_init))) (j_Above_init : PySem.W.isFn K (.ref f_Above_init) = true)
    (l_Above_init : K.lookup f_Above_init = some ⟨oc_Above_init, od_Above_init, .func (PySem.W.fnOf "__init__" "Above.__init__" (defArgs s_Above_init) (defBody s_Above_init) (defScope s_Above_init) .none kV_Above_init doc_Above_init pm_Above_init an_Above_init cd_Above_init ct_Above_init), sl_Above_init⟩)
    (c_Above_init : PySem.W.codeIn K cd_Above_init "Above.__init__" = true) (k_Above_init : PySem.W.keepIn K (.ref f_Above_init) = true)
    (ai_Above_Rule_reckon : PySem.W.findIn K (.ref C_Above) "reckon" = some (some (.ref f_Rule_reckon)))
    (mo_Above : PySem.W.mroIn K C_Above (.type "object") = some true)
    (vu_Above_Rule : PySem.W.kitOne K (.ref C_Above) (.ref C_Rule) = some true)
    {C_Group : Addr} (a_Group : PySem.W.nsIn K mainGlobals "Group" = some (some (.ref C_Group)))
    (pg_Group : PySem.W.plainGet K C_Group Str.empty = true) (hd_Group : PySem.W.hasDictIn K C_Group = true) (po_Group : PySem.W.plainOver K C_Group = true) (sa_Group : PySem.W.findIn K (.ref C_Group) "__setattr__" = some (some (.builtin "object.__setattr__"))) (mk_Group : PySem.W.makesIn K C_Group = true) (kc_Group : PySem.W.keepIn K (.ref C_Group) = true) (hc_Group : PySem.W.findIn K (.ref C_Group) "__class__" = some (some (.builtin "object.__class__")))
    (na_Group_function : PySem.W.findIn K (.ref C_Group) "function" = some none)
    (na_Group_key : PySem.W.findIn K (.ref C_Group) "key" = some none)
    (na_Group_name : PySem.W.findIn K (.ref C_Group) "name" = some none)
    {f_Group_init : Addr} {oc_Group_init kV_Group_init doc_Group_init pm_Group_init cd_Group_init ct_Group_init : Value} {od_Group_init an_Group_init : Option Addr} {sl_Group_init : Array (Option Value)} (a_Group_init : PySem.W.findIn K (.ref C_Group) "__init__" = some (some (.ref f_Group_init))) (j_Group_init : PySem.W.isFn K (.ref f_Group_init) = true)
    (l_Group_init : K.lookup f_Group_init = some ⟨oc_Group_init, od_Group_init, .func (PySem.W.fnOf "__init__" "Group.__init__" (defArgs s_Group_init) (defBody s_Group_init) (defScope s_Group_init) .none kV_Group_init doc_Group_init pm_Group_init an_Group_init cd_Group_init ct_Group_init), sl_Group_init⟩)
    (c_Group_init : PySem.W.codeIn K cd_Group_init "Group.__init__" = true) (k_Group_init : PySem.W.keepIn K (.ref f_Group_init) = true)
    (ai_Group_Rule_reckon : PySem.W.findIn K (.ref C_Group) "reckon" = some (some (.ref f_Rule_reckon)))
    (mo_Group : PySem.W.mroIn K C_Group (.type "object") = some true)
    (vu_Group_Rule : PySem.W.kitOne K (.ref C_Group) (.ref C_Rule) = some true)
    {C_Lookup : Addr} (a_Lookup : PySem.W.nsIn K mainGlobals "Lookup" = some (some (.ref C_Lookup)))
    (pg_Lookup : PySem.W.plainGet K C_Lookup Str.empty = true) (hd_Lookup : PySem.W.hasDictIn K C_Lookup = true) (po_Lookup : PySem.W.plainOver K C_Lookup = true) (sa_Lookup : PySem.W.findIn K (.ref C_Lookup) "__setattr__" = some (some (.builtin "object.__setattr__"))) (mk_Lookup : PySem.W.makesIn K C_Lookup = true) (kc_Lookup : PySem.W.keepIn K (.ref C_Lookup) = true) (hc_Lookup : PySem.W.findIn K (.ref C_Lookup) "__class__" = some (some (.builtin "object.__class__")))
    (na_Lookup_function : PySem.W.findIn K (.ref C_Lookup) "function" = some none)
    (na_Lookup_key : PySem.W.findIn K (.ref C_Lookup) "key" = some none)
    (na_Lookup_other : PySem.W.findIn K (.ref C_Lookup) "other" = some none)
    (na_Lookup_theirs : PySem.W.findIn K (.ref C_Lookup) "theirs" = some none)
    (na_Lookup_names : PySem.W.findIn K (.ref C_Lookup) "names" = some none)
    {f_Lookup_init : Addr} {oc_Lookup_init kV_Lookup_init doc_Lookup_init pm_Lookup_init cd_Lookup_init ct_Lookup_init : Value} {od_Lookup_init an_Lookup_init : Option Addr} {sl_Lookup_init : Array (Option Value)} (a_Lookup_init : PySem.W.findIn K (.ref C_Lookup) "__init__" = some (some (.ref f_Lookup_init))) (j_Lookup_init : PySem.W.isFn K (.ref f_Lookup_init) = true)
    (l_Lookup_init : K.lookup f_Lookup_init = some ⟨oc_Lookup_init, od_Lookup_init, .func (PySem.W.fnOf "__init__" "Lookup.__init__" (defArgs s_Lookup_init) (defBody s_Lookup_init) (defScope s_Lookup_init) .none kV_Lookup_init doc_Lookup_init pm_Lookup_init an_Lookup_init cd_Lookup_init ct_Lookup_init), sl_Lookup_init⟩)
    (c_Lookup_init : PySem.W.codeIn K cd_Lookup_init "Lookup.__init__" = true) (k_Lookup_init : PySem.W.keepIn K (.ref f_Lookup_init) = true)
    (ai_Lookup_Rule_reckon : PySem.W.findIn K (.ref C_Lookup) "reckon" = some (some (.ref f_Rule_reckon)))
    (mo_Lookup : PySem.W.mroIn K C_Lookup (.type "object") = some true)
    (vu_Lookup_Rule : PySem.W.kitOne K (.ref C_Lookup) (.ref C_Rule) = some true)
    {C_Mend : Addr} (a_Mend : PySem.W.nsIn K mainGlobals "Mend" = some (some (.ref C_Mend)))
    (pg_Mend : PySem.W.plainGet K C_Mend Str.empty = true) (hd_Mend : PySem.W.hasDictIn K C_Mend = true) (po_Mend : PySem.W.plainOver K C_Mend = true) (sa_Mend : PySem.W.findIn K (.ref C_Mend) "__setattr__" = some (some (.builtin "object.__setattr__"))) (mk_Mend : PySem.W.makesIn K C_Mend = true) (kc_Mend : PySem.W.keepIn K (.ref C_Mend) = true) (hc_Mend : PySem.W.findIn K (.ref C_Mend) "__class__" = some (some (.builtin "object.__class__")))
    (na_Mend_function : PySem.W.findIn K (.ref C_Mend) "function" = some none)
    (na_Mend_name : PySem.W.findIn K (.ref C_Mend) "name" = some none)
    {f_Mend_init : Addr} {oc_Mend_init kV_Mend_init doc_Mend_init pm_Mend_init cd_Mend_init ct_Mend_init : Value} {od_Mend_init an_Mend_init : Option Addr} {sl_Mend_init : Array (Option Value)} (a_Mend_init : PySem.W.findIn K (.ref C_Mend) "__init__" = some (some (.ref f_Mend_init))) (j_Mend_init : PySem.W.isFn K (.ref f_Mend_init) = true)
    (l_Mend_init : K.lookup f_Mend_init = some ⟨oc_Mend_init, od_Mend_init, .func (PySem.W.fnOf "__init__" "Mend.__init__" (defArgs s_Mend_init) (defBody s_Mend_init) (defScope s_Mend_init) .none kV_Mend_init doc_Mend_init pm_Mend_init an_Mend_init cd_Mend_init ct_Mend_init), sl_Mend_init⟩)
    (c_Mend_init : PySem.W.codeIn K cd_Mend_init "Mend.__init__" = true) (k_Mend_init : PySem.W.keepIn K (.ref f_Mend_init) = true)
    (ai_Mend_Rule_reckon : PySem.W.findIn K (.ref C_Mend) "reckon" = some (some (.ref f_Rule_reckon)))
    (mo_Mend : PySem.W.mroIn K C_Mend (.type "object") = some true)
    (vu_Mend_Rule : PySem.W.kitOne K (.ref C_Mend) (.ref C_Rule) = some true) : Tops K mg where
  len := PySem.W.mg_none_of X G n_len
  isinstance := PySem.W.mg_none_of X G n_isinstance
  int := PySem.W.mg_none_of X G n_int
  bool := PySem.W.mg_none_of X G n_bool
  str := PySem.W.mg_none_of X G n_str
  all := PySem.W.mg_none_of X G n_all
  range := PySem.W.mg_none_of X G n_range
  abs := PySem.W.mg_none_of X G n_abs
  list := PySem.W.mg_none_of X G n_list
  tuple := PySem.W.mg_none_of X G n_tuple
  ValueError := PySem.W.mg_none_of X G n_ValueError
  g_LETTERS := ⟨_, PySem.W.mg_of X G i_LETTERS⟩
  g_MOST_LETTERS := ⟨_, PySem.W.mg_of X G i_MOST_LETTERS⟩
  g_ODD := ⟨p_ODD, PySem.W.mg_of X G i_ODD, fun H => .inr ⟨_, _, _, j_ODD, rfl, rfl, sl (by simp), .cons ⟨_, rfl⟩ (.cons ⟨_, rfl⟩ (.nil))⟩⟩
  g_MOST_NAMES := ⟨_, PySem.W.mg_of X G i_MOST_NAMES⟩
  d_is_whole := top_def X G a_is_whole l_is_whole c_is_whole k_is_whole
  d_is_number := top_def X G a_is_number l_is_number c_is_number k_is_number
  d_is_name := top_def X G a_is_name l_is_name c_is_name k_is_name
  d_is_fault := top_def X G a_is_fault l_is_fault c_is_fault k_is_fault
  d_is_value := top_def X G a_is_value l_is_value c_is_value k_is_value
  d_settled := top_def X G a_settled l_settled c_settled k_settled
  d_check_name := top_def X G a_check_name l_check_name c_check_name k_check_name
  d_checked_names := top_def X G a_checked_names l_checked_names c_checked_names k_checked_names
  d_law_drawn := top_def X G a_law_drawn l_law_drawn c_law_drawn k_law_drawn
  d_law_whole := top_def X G a_law_whole l_law_whole c_law_whole k_law_whole
  d_law_thing := top_def X G a_law_thing l_law_thing c_law_thing k_law_thing
  d_law_due := top_def X G a_law_due l_law_due c_law_due k_law_due
  d_law_told := top_def X G a_law_told l_law_told c_law_told k_law_told
  d_law_rule := top_def X G a_law_rule l_law_rule c_law_rule k_law_rule
  d_law_alike := top_def X G a_law_alike l_law_alike c_law_alike k_law_alike
  d_law := top_def X G a_law l_law c_law k_law
  bs := ⟨_, top_defT X G a_law_rule l_law_rule c_law_rule k_law_rule w_law_rule t_law_rule⟩
  notabs := notabs
  t_Rule := ⟨C_Rule, { c := PySem.W.mg_of X G a_Rule, cl := ⟨pg_Rule, hd_Rule, po_Rule, sa_Rule⟩, mks := mk_Rule, kc := kc_Rule, hc := hc_Rule, n_function := na_Rule_function, m_init := mth_mk a_Rule_init j_Rule_init l_Rule_init c_Rule_init k_Rule_init, v_init := ⟨vg_Rule_init, _, _, vr_Rule_init, vf_Rule_init, a_Rule_init⟩, m_reckon := mth_mk a_Rule_reckon j_Rule_reckon l_Rule_reckon c_Rule_reckon k_Rule_reckon }⟩
  t_Cells := ⟨C_Cells, { c := PySem.W.mg_of X G a_Cells, cl := ⟨pg_Cells, hd_Cells, po_Cells, sa_Cells⟩, mks := mk_Cells, kc := kc_Cells, hc := hc_Cells, n_function := na_Cells_function, n_names := na_Cells_names, m_init := mth_mk a_Cells_init j_Cells_init l_Cells_init c_Cells_init k_Cells_init, m_reckon := mth_mk ai_Cells_Rule_reckon j_Rule_reckon l_Rule_reckon c_Rule_reckon k_Rule_reckon, up_Rule := ⟨_, PySem.W.mg_of X G a_Rule, vu_Cells_Rule, mo_Cells, ow4, ow5⟩ }⟩
  t_Above := ⟨C_Above, { c := PySem.W.mg_of X G a_Above, cl := ⟨pg_Above, hd_Above, po_Above, sa_Above⟩, mks := mk_Above, kc := kc_Above, hc := hc_Above, n_function := na_Above_function, n_names := na_Above_names, n_first := na_Above_first, m_init := mth_mk a_Above_init j_Above_init l_Above_init c_Above_init k_Above_init, m_reckon := mth_mk ai_Above_Rule_reckon j_Rule_reckon l_Rule_reckon c_Rule_reckon k_Rule_reckon, up_Rule := ⟨_, PySem.W.mg_of X G a_Rule, vu_Above_Rule, mo_Above, ow4, ow5⟩ }⟩
  t_Group := ⟨C_Group, { c := PySem.W.mg_of X G a_Group, cl := ⟨pg_Group, hd_Group, po_Group, sa_Group⟩, mks := mk_Group, kc := kc_Group, hc := hc_Group, n_function := na_Group_function, n_key := na_Group_key, n_name := na_Group_name, m_init := mth_mk a_Group_init j_Group_init l_Group_init c_Group_init k_Group_init, m_reckon := mth_mk ai_Group_Rule_reckon j_Rule_reckon l_Rule_reckon c_Rule_reckon k_Rule_reckon, up_Rule := ⟨_, PySem.W.mg_of X G a_Rule, vu_Group_Rule, mo_Group, ow4, ow5⟩ }⟩
  t_Lookup := ⟨C_Lookup, { c := PySem.W.mg_of X G a_Lookup, cl := ⟨pg_Lookup, hd_Lookup, po_Lookup, sa_Lookup⟩, mks := mk_Lookup, kc := kc_Lookup, hc := hc_Lookup, n_function := na_Lookup_function, n_key := na_Lookup_key, n_other := na_Lookup_other, n_theirs := na_Lookup_theirs, n_names := na_Lookup_names, m_init := mth_mk a_Lookup_init j_Lookup_init l_Lookup_init c_Lookup_init k_Lookup_init, m_reckon := mth_mk ai_Lookup_Rule_reckon j_Rule_reckon l_Rule_reckon c_Rule_reckon k_Rule_reckon, up_Rule := ⟨_, PySem.W.mg_of X G a_Rule, vu_Lookup_Rule, mo_Lookup, ow4, ow5⟩ }⟩
  t_Mend := ⟨C_Mend, { c := PySem.W.mg_of X G a_Mend, cl := ⟨pg_Mend, hd_Mend, po_Mend, sa_Mend⟩, mks := mk_Mend, kc := kc_Mend, hc := hc_Mend, n_function := na_Mend_function, n_name := na_Mend_name, m_init := mth_mk a_Mend_init j_Mend_init l_Mend_init c_Mend_init k_Mend_init, m_reckon := mth_mk ai_Mend_Rule_reckon j_Rule_reckon l_Rule_reckon c_Rule_reckon k_Rule_reckon, up_Rule := ⟨_, PySem.W.mg_of X G a_Rule, vu_Mend_Rule, mo_Mend, ow4, ow5⟩ }⟩
theorem walk {l : PySem.W.OpenLaw} {q : Program} {loose : List Str} {XP : (Str → Option Value) → Heap → Prop} {YP : World → Heap → Prop} {d : DefRec} {K : Params → PySem.W.Frag} (hn : l.most = some 63) (hdf : d.params.defaults = []) (hdn : d.name = "law")
    (hY : ∀ (w : World) (h : Heap), YP w h → (K w.params).In h)
    (recs : ((PyProof.Rows.recsOf q).find? (fun e => e.name == ("_law_rule" : Str))).isSome = true)
    (F : ∀ (w : World) (mg : Str → Option Value) (h : Heap), (K w.params).In h → h.Ns mainGlobals mg → Tops (K w.params) mg) :
    PySem.W.WalkO q loose XP YP l.row.toRowW d [] (fun f vs => PySem.call f vs) :=
  L2.walk_ofC (n := 63) (k := 10) (x := "_law_script") (CX := fun _ => CX0) (sp := fun w tabs => spLaw (K w.params) tabs) hn (by decide) hdf ⟨rfl, by decide, by decide⟩ hY
    (fun w mg fa h KX G hmg => by
      have T := F w mg h KX G
      obtain ⟨f, fd, F4, hm⟩ := T.d_law.ex
      rw [hdn] at hmg
      have e := hmg.symm.trans hm
      cases e
      obtain ⟨z_law_rule, B_law_rule⟩ := T.bs
      have r_law_rule := recs
      refine ⟨T.notabs, [z_law_rule], fun z hz => ?_, fd, fun s u => ?_, fun base kb nb mk => ?_⟩
      · simp only [List.mem_cons, List.not_mem_nil, or_false] at hz
        rcases hz with rfl
        · exact ⟨⟨_, r_law_rule, B_law_rule.tab⟩⟩
      · obtain ⟨oc, od, kV, doc, pm, an, cdv, ct, osl, rfl, _⟩ := F4.ex
        exact .of_eq rfl
      · exact ok_law T B_law_rule (mk _ (by simp)) F4)
    (fun _ _ _ a ns hl hT hS => ⟨a, ns, rfl, hS, hl, hT, fun _ hT' => ⟨rfl, hT'⟩⟩) fun _ _ _ _ _ z => z
end My
def PySem.W.Fast.tw16550750787293932205 : Unit := ()
def PySem.W.Fast.tw2511346002834315962 : Unit := ()
def PySem.W.Fast.tw15226890588973236048 : Unit := ()
def PySem.W.Fast.tw6826697023762346729 : Unit := ()
def PySem.W.Fast.tw12339400436141438468 : Unit := ()
def PySem.W.Fast.tw14627508903703911872 : Unit := ()
def PySem.W.Fast.tw11178179739072323043 : Unit := ()
def PySem.W.Fast.tw1243075641454769329 : Unit := ()
def PySem.W.Fast.tw18407786314163425805 : Unit := ()
def PySem.W.Fast.tw292038544900437839 : Unit := ()
def PySem.W.Fast.tw1166680842927476787 : Unit := ()
def PySem.W.Fast.tw2838287520305566673 : Unit := ()
def PySem.W.Fast.tw2826487953536659186 : Unit := ()
def PySem.W.Fast.tw6136342275809826132 : Unit := ()
def PySem.W.Fast.tw12575635137586780477 : Unit := ()
def PySem.W.Fast.tw4358399224573767408 : Unit := ()
def PySem.W.Fast.tw11761458659065458870 : Unit := ()
def PySem.W.Fast.tw14597161962582531236 : Unit := ()
def PySem.W.Fast.tw4101195992533714950 : Unit := ()
def PySem.W.Fast.tw6475940584588099007 : Unit := ()
def PySem.W.Fast.tw1727984594315828920 : Unit := ()
def PySem.W.Fast.tw15606731132730419957 : Unit := ()
def PySem.W.Fast.tw11061522057949243942 : Unit := ()
def PySem.W.Fast.tw14023317266801485380 : Unit := ()
def PySem.W.Fast.tw1683277931276638766 : Unit := ()
def PySem.W.Fast.tw15487651353106821696 : Unit := ()
def PySem.W.Fast.tw2395515079724280995 : Unit := ()
def PySem.W.Fast.tw18155403715063044302 : Unit := ()
def PySem.W.Fast.tw14182840028782813699 : Unit := ()
def PySem.W.Fast.tw6341428128634151215 : Unit := ()
def PySem.W.Fast.tw3818683792597927797 : Unit := ()
def PySem.W.Fast.tw5409602895468313195 : Unit := ()
def PySem.W.Fast.tw2197768826180865336 : Unit := ()
def PySem.W.Fast.tw1718787098215376215 : Unit := ()
def PySem.W.Fast.tw11792610266442994338 : Unit := ()
def PySem.W.Fast.tw12272486504798489283 : Unit := ()
def PySem.W.Fast.tw18099006619205799892 : Unit := ()
def PySem.W.Fast.tw2232489705446976688 : Unit := ()
def PySem.W.Fast.tw16617607297250773850 : Unit := ()
def PySem.W.Fast.tw10030419953426221434 : Unit := ()
def PySem.W.Fast.tw10545094076719680512 : Unit := ()
def PySem.W.Fast.tw2441855196727667912 : Unit := ()
def PySem.W.Fast.tw9421163838615337733 : Unit := ()
def PySem.W.Fast.tw5171085641144478889 : Unit := ()
def PySem.W.Fast.tw5488583382901786122 : Unit := ()
def PySem.W.Fast.tw4930707224553815993 : Unit := ()
def PySem.W.Fast.tw11002333632974079300 : Unit := ()
def PySem.W.Fast.tw7274158402225105029 : Unit := ()
def PySem.W.Fast.tw18002796029344374417 : Unit := ()
def PySem.W.Fast.tw5663848376343294155 : Unit := ()
def PySem.W.Fast.tw3652782052841341994 : Unit := ()
def PySem.W.Fast.tw17975494064192571199 : Unit := ()
def PySem.W.Fast.tw11976746536674651553 : Unit := ()
def PySem.W.Fast.tw10502364235151293524 : Unit := ()
def PySem.W.Fast.tw8239650153112256892 : Unit := ()
def PySem.W.Fast.tw14985003478804323680 : Unit := ()
def PySem.W.Fast.tw6904322415688435878 : Unit := ()
def PySem.W.Fast.tw10934618436055751169 : Unit := ()
def PySem.W.Fast.tw8410484578305380633 : Unit := ()
def PySem.W.Fast.tw9647119617106390458 : Unit := ()
def PySem.W.Fast.tw8823886857425614145 : Unit := ()
def PySem.W.Fast.tw874715323000643439 : Unit := ()
def PySem.W.Fast.tw9861367301575208104 : Unit := ()
def PySem.W.Fast.tw2634332977860226356 : Unit := ()
def PySem.W.Fast.tw17046239138489609575 : Unit := ()
def PySem.W.Fast.tw1125426527100259500 : Unit := ()
def PySem.W.Fast.tw1488821323455979115 : Unit := ()
def PySem.W.Fast.tw5033029852332475661 : Unit := ()
def PySem.W.Fast.tw992275416687419240 : Unit := ()
def PySem.W.Fast.tw1242252709041703028 : Unit := ()
def PySem.W.Fast.tw12467880576178592212 : Unit := ()
def PySem.W.Fast.tw9959835255161952578 : Unit := ()
def PySem.W.Fast.tw13481603373792554044 : Unit := ()
def PySem.W.Fast.tw9319923973420326567 : Unit := ()
def PySem.W.Fast.tw1606183319500506936 : Unit := ()
def PySem.W.Fast.tw11658727414836135677 : Unit := ()
def PySem.W.Fast.tw3649652285921027323 : Unit := ()
def PySem.W.Fast.tw4729017525207817065 : Unit := ()
def PySem.W.Fast.tw7373560223669235658 : Unit := ()
def PySem.W.Fast.tw8064487385178856993 : Unit := ()
def PySem.W.Fast.tw9187586240243303232 : Unit := ()
def PySem.W.Fast.tw2436373924752529198 : Unit := ()
def PySem.W.Fast.tw13138010471252637445 : Unit := ()
def PySem.W.Fast.tw4996241322669148572 : Unit := ()
def PySem.W.Fast.tw10070297526307803124 : Unit := ()
def PySem.W.Fast.tw14936220772217059635 : Unit := ()
def PySem.W.Fast.tw16894272348059257791 : Unit := ()
def PySem.W.Fast.tw18112724188311881507 : Unit := ()
def PySem.W.Fast.tw2441424348604323980 : Unit := ()
def PySem.W.Fast.tw9135741857070612317 : Unit := ()
def PySem.W.Fast.tw8429997343851157108 : Unit := ()
def PySem.W.Fast.tw7013906866978411589 : Unit := ()
def PySem.W.Fast.tw13998573199701247833 : Unit := ()
def PySem.W.Fast.tw17620576596683794303 : Unit := ()
def PySem.W.Fast.tw8944837076187626537 : Unit := ()
def PySem.W.Fast.tw17905844886034073362 : Unit := ()
def PySem.W.Fast.tw815784830866320526 : Unit := ()
def PySem.W.Fast.tw7029615978763149088 : Unit := ()
def PySem.W.Fast.tw9163429383501441381 : Unit := ()
def PySem.W.Fast.tw8964873572519622986 : Unit := ()
def PySem.W.Fast.tw14638784556202535535 : Unit := ()
def PySem.W.Fast.tw11890520669227209524 : Unit := ()
def PySem.W.Fast.tw2875023157980943921 : Unit := ()
def PySem.W.Fast.tw5435741714388212717 : Unit := ()
def PySem.W.Fast.tw4977801105084012137 : Unit := ()
def PySem.W.Fast.tw7899640814301630929 : Unit := ()
def PySem.W.Fast.tw12248692240924881429 : Unit := ()
def PySem.W.Fast.tw13873855014276190740 : Unit := ()
def PySem.W.Fast.tw8224121167516217073 : Unit := ()
def PySem.W.Fast.tw10588574401413628978 : Unit := ()
def PySem.W.Fast.tw9413149094048269470 : Unit := ()
def PySem.W.Fast.tw17747819132252205577 : Unit := ()
def PySem.W.Fast.tw15493420977115042755 : Unit := ()
def PySem.W.Fast.tw16255417392156731980 : Unit := ()
def PySem.W.Fast.tw13732944076064836353 : Unit := ()
def PySem.W.Fast.tw14582164149144188586 : Unit := ()
def PySem.W.Fast.tw687570185309968535 : Unit := ()
def PySem.W.Fast.tw8107691294282335342 : Unit := ()
def PySem.W.Fast.tw9464322065884265305 : Unit := ()
def PySem.W.Fast.tw6974646624525774631 : Unit := ()
def PySem.W.Fast.tw10722622656290516474 : Unit := ()
def PySem.W.Fast.tw17482338659471386901 : Unit := ()
def PySem.W.Fast.tw4671927832651236097 : Unit := ()
def PySem.W.Fast.tw11150694460196329046 : Unit := ()
def PySem.W.Fast.tw13057058366968314053 : Unit := ()
def PySem.W.Fast.tw11402281928606163445 : Unit := ()
def PySem.W.Fast.tw8722959330439269115 : Unit := ()
def PySem.W.Fast.tw5498017708192009526 : Unit := ()
def PySem.W.Fast.tw11296677375369524025 : Unit := ()
def PySem.W.Fast.tw1537553113943216602 : Unit := ()
def PySem.W.Fast.tw13149059819247065149 : Unit := ()
def PySem.W.Fast.tw6475705653751777329 : Unit := ()
def PySem.W.Fast.tw11822509205974530838 : Unit := ()
def PySem.W.Fast.tw6049179739874410932 : Unit := ()
def PySem.W.Fast.tw9378717007468799802 : Unit := ()
def PySem.W.Fast.tw11708195519048126765 : Unit := ()
def PySem.W.Fast.tw2686800272744568435 : Unit := ()
def PySem.W.Fast.tw13581720535171142991 : Unit := ()
def PySem.W.Fast.tw1793820708047008554 : Unit := ()
def PySem.W.Fast.tw17913494384501105110 : Unit := ()
def PySem.W.Fast.tw8607692272957738622 : Unit := ()
def PySem.W.Fast.tw3968287290577961975 : Unit := ()
def PySem.W.Fast.tw5156119980862010606 : Unit := ()
def PySem.W.Fast.tw17572048291397194207 : Unit := ()
def PySem.W.Fast.tw2337818633098592704 : Unit := ()
def PySem.W.Fast.tw15296899792708916477 : Unit := ()
def PySem.W.Fast.tw4212636108185470302 : Unit := ()
def PySem.W.Fast.tw11370240962486114218 : Unit := ()
def PySem.W.Fast.tw8052203369568384781 : Unit := ()
def PySem.W.Fast.tw15296964914505138801 : Unit := ()
def PySem.W.Fast.tw14496890961785792580 : Unit := ()
def PySem.W.Fast.tw4306390371422836057 : Unit := ()
def PySem.W.Fast.tw17498708563326778015 : Unit := ()
def PySem.W.Fast.tw1914314050641662112 : Unit := ()
def PySem.W.Fast.tw1208040744761701782 : Unit := ()
def PySem.W.Fast.tw6538692577993372404 : Unit := ()
def PySem.W.Fast.tw10133056044726724704 : Unit := ()
def PySem.W.Fast.tw17556588618628095013 : Unit := ()
def PySem.W.Fast.tw11622899046721990431 : Unit := ()
def PySem.W.Fast.tw17615476393479310079 : Unit := ()
def PySem.W.Fast.tw15901094391074432871 : Unit := ()
def PySem.W.Fast.tw3659861120383849939 : Unit := ()
def PySem.W.Fast.tw7764969686247150693 : Unit := ()
def PySem.W.Fast.tw11325703638434781676 : Unit := ()
def PySem.W.Fast.tw11067631436770335866 : Unit := ()
def PySem.W.Fast.tw12232578589003994951 : Unit := ()
def PySem.W.Fast.tw15228415986945566598 : Unit := ()
def PySem.W.Fast.tw17970798236611649195 : Unit := ()
def PySem.W.Fast.tw2309171568305961205 : Unit := ()
def PySem.W.Fast.tw8157679559805247186 : Unit := ()
def PySem.W.Fast.tw16188216912344517738 : Unit := ()
def PySem.W.Fast.tw7893495321936177049 : Unit := ()
def PySem.W.Fast.tw3118696194934717995 : Unit := ()
def PySem.W.Fast.tw9747778946728343775 : Unit := ()
def PySem.W.Fast.tw2230563494660446947 : Unit := ()
def PySem.W.Fast.tw7351267717487931380 : Unit := ()
def PySem.W.Fast.tw15432984184672774623 : Unit := ()
def PySem.W.Fast.tw14773439963541735269 : Unit := ()
def PySem.W.Fast.tw7487571002960534132 : Unit := ()
def PySem.W.Fast.tw523006305356597477 : Unit := ()
def PySem.W.Fast.tw14071400062271862197 : Unit := ()
def PySem.W.Fast.tw9058075903851658593 : Unit := ()
def PySem.W.Fast.tw7858319922948207180 : Unit := ()
def PySem.W.Fast.tw12241845979191101695 : Unit := ()
def PySem.W.Fast.tw10486431046831415589 : Unit := ()
def PySem.W.Fast.tw10845011632854221788 : Unit := ()
def PySem.W.Fast.tw9323793792401905866 : Unit := ()
def PySem.W.Fast.tw3091176767401340053 : Unit := ()
def PySem.W.Fast.tw10151267191593531895 : Unit := ()
def PySem.W.Fast.tw4498021919178179522 : Unit := ()
def PySem.W.Fast.tw7293167729567502044 : Unit := ()
def PySem.W.Fast.tw12661863445571620600 : Unit := ()
def PySem.W.Fast.tw16856722438031319943 : Unit := ()
def PySem.W.Fast.tw12417594994533191720 : Unit := ()
def PySem.W.Fast.tw3367759951601715418 : Unit := ()
def PySem.W.Fast.tw18090380752556949690 : Unit := ()
def PySem.W.Fast.tw6181733547167373862 : Unit := ()
def PySem.W.Fast.tw1118654570268247001 : Unit := ()
def PySem.W.Fast.tw3835538034521493557 : Unit := ()
def PySem.W.Fast.tw6320087319728395693 : Unit := ()
def PySem.W.Fast.tw2528750520321980097 : Unit := ()
def PySem.W.Fast.tw12147466680194757912 : Unit := ()
def PySem.W.Fast.tw2537060153014186997 : Unit := ()
def PySem.W.Fast.tw17174611401855476320 : Unit := ()
def PySem.W.Fast.tw17753756066694463650 : Unit := ()
def PySem.W.Fast.tw12792648104618680271 : Unit := ()
def PySem.W.Fast.tw16638059714216297115 : Unit := ()
def PySem.W.Fast.tw5546757677309051521 : Unit := ()
def PySem.W.Fast.tw11413771635971828543 : Unit := ()
def PySem.W.Fast.tw12337481193137265431 : Unit := ()
def PySem.W.Fast.tw14154402009985564980 : Unit := ()
def PySem.W.Fast.tw4790470972786693452 : Unit := ()
def PySem.W.Fast.tw6757847109356740103 : Unit := ()
def PySem.W.Fast.tw2345256014944470396 : Unit := ()
def PySem.W.Fast.tw4874206517569647424 : Unit := ()
def PySem.W.Fast.tw3169607393930291194 : Unit := ()
def PySem.W.Fast.tw12534684483535275076 : Unit := ()
def PySem.W.Fast.tw4021834150869417309 : Unit := ()
def PySem.W.Fast.tw4834731988644539787 : Unit := ()
def PySem.W.Fast.tw17497001025864293908 : Unit := ()
def PySem.W.Fast.tw2773852109121771721 : Unit := ()
def PySem.W.Fast.tw13585503283538172117 : Unit := ()
def PySem.W.Fast.tw1808409066996863899 : Unit := ()
def PySem.W.Fast.tw17813011073188444923 : Unit := ()
def PySem.W.Fast.tw8899433314639598509 : Unit := ()
def PySem.W.Fast.tw2086937860206322319 : Unit := ()
def PySem.W.Fast.tw1663984045118728576 : Unit := ()
def PySem.W.Fast.tw14069543797683285348 : Unit := ()
def PySem.W.Fast.tw4136745550744977759 : Unit := ()
def PySem.W.Fast.tw15013914243877258065 : Unit := ()
def PySem.W.Fast.tw4800223162105809162 : Unit := ()
def PySem.W.Fast.tw4440616399441824927 : Unit := ()
def PySem.W.Fast.tw6825301144850990752 : Unit := ()
def PySem.W.Fast.tw34300721909686114 : Unit := ()
def PySem.W.Fast.tw3561711340533250840 : Unit := ()
def PySem.W.Fast.tw12114241448685452227 : Unit := ()
def PySem.W.Fast.tw9493918793477895848 : Unit := ()
def PySem.W.Fast.tw847698985291794808 : Unit := ()
def PySem.W.Fast.tw16107079022862424395 : Unit := ()
def PySem.W.Fast.tw4713040197274024532 : Unit := ()
def PySem.W.Fast.tw4845591650061223545 : Unit := ()
def PySem.W.Fast.tw14005523310742952685 : Unit := ()
def PySem.W.Fast.tw3791728612560155226 : Unit := ()
def PySem.W.Fast.tw8132565000943152598 : Unit := ()
def PySem.W.Fast.tw6741491637851460344 : Unit := ()
def PySem.W.Fast.tw13497319838086328890 : Unit := ()
def PySem.W.Fast.tw1032454239485261968 : Unit := ()
def PySem.W.Fast.tw1206271481985205901 : Unit := ()
def PySem.W.Fast.tw4547479118704189311 : Unit := ()
def PySem.W.Fast.tw11061582578594137180 : Unit := ()
def PySem.W.Fast.tw1166486492015255775 : Unit := ()
def PySem.W.Fast.tw15345677324127555770 : Unit := ()
def PySem.W.Fast.tw3246297837056012476 : Unit := ()
def PySem.W.Fast.tw5231446481915070446 : Unit := ()
def PySem.W.Fast.tw2232096069841659901 : Unit := ()
def PySem.W.Fast.tw8703482220034225663 : Unit := ()
def PySem.W.Fast.tw8020001058884178457 : Unit := ()
def PySem.W.Fast.tw13056778028216682898 : Unit := ()
def PySem.W.Fast.tw15056462997932135798 : Unit := ()
def PySem.W.Fast.tw11063718181047589969 : Unit := ()
def PySem.W.Fast.tw8925240767248489552 : Unit := ()
def PySem.W.Fast.tw17691790987651151271 : Unit := ()
def PySem.W.Fast.tw12041862207237407404 : Unit := ()
def PySem.W.Fast.tw10420448710855641811 : Unit := ()
def PySem.W.Fast.tw1548939281334017161 : Unit := ()
def PySem.W.Fast.tw700469932956942029 : Unit := ()
def PySem.W.Fast.tw7307039096173544448 : Unit := ()
def PySem.W.Fast.tw1951982307748121525 : Unit := ()
def PySem.W.Fast.tw2192928385084149718 : Unit := ()
def PySem.W.Fast.tw6876136335058460765 : Unit := ()
def PySem.W.Fast.tw2465089403596495699 : Unit := ()
def PySem.W.Fast.tw11117052247320540204 : Unit := ()
def PySem.W.Fast.tw17200824868610792361 : Unit := ()
def PySem.W.Fast.tw8789846857632450469 : Unit := ()
def PySem.W.Fast.tw17403138267068862249 : Unit := ()
def PySem.W.Fast.tw4445178251845658848 : Unit := ()
def PySem.W.Fast.tw5660733270234744462 : Unit := ()
def PySem.W.Fast.tw8232970016568882726 : Unit := ()
def PySem.W.Fast.tw9631461964362429595 : Unit := ()
def PySem.W.Fast.tw17839884260110062842 : Unit := ()
def PySem.W.Fast.tw12523496487834929492 : Unit := ()
def PySem.W.Fast.tw7573530628335088482 : Unit := ()
def PySem.W.Fast.tw16006910154636986774 : Unit := ()
def PySem.W.Fast.tw8821176423728200762 : Unit := ()
def PySem.W.Fast.tw33177830619049538 : Unit := ()
def PySem.W.Fast.tw5875099385814774028 : Unit := ()
def PySem.W.Fast.tw13481745442776745046 : Unit := ()
def PySem.W.Fast.tw5617120919983399925 : Unit := ()
def PySem.W.Fast.tw10381727381466029237 : Unit := ()
def PySem.W.Fast.tw9898470055826406217 : Unit := ()
def PySem.W.Fast.tw9194081620223819631 : Unit := ()
def PySem.W.Fast.tw12418272245744406955 : Unit := ()
def PySem.W.Fast.tw12582587192159946155 : Unit := ()
def PySem.W.Fast.tw7558877075111191965 : Unit := ()
def PySem.W.Fast.tw11748768529353459043 : Unit := ()
def PySem.W.Fast.tw13885928784950986148 : Unit := ()
def PySem.W.Fast.tw13238332714405952745 : Unit := ()
def PySem.W.Fast.tw2189614204568501559 : Unit := ()
def PySem.W.Fast.tw1229145644511073465 : Unit := ()
def PySem.W.Fast.tw5550447402019630943 : Unit := ()
def PySem.W.Fast.tw15872957898193437244 : Unit := ()
def PySem.W.Fast.tw12293258926895340466 : Unit := ()
def PySem.W.Fast.tw9259864633067707623 : Unit := ()
def PySem.W.Fast.tw14539784552834125008 : Unit := ()
def PySem.W.Fast.tw12699901194439854163 : Unit := ()
def PySem.W.Fast.tw9570846795423489923 : Unit := ()
def PySem.W.Fast.tw9464678865252276060 : Unit := ()
def PySem.W.Fast.tw13113769821677881853 : Unit := ()
def PySem.W.Fast.tw17336288378169032886 : Unit := ()
def PySem.W.Fast.tw6797871771659499447 : Unit := ()
def PySem.W.Fast.tw6634702174750660285 : Unit := ()
def PySem.W.Fast.tw17322494855247759032 : Unit := ()
def PySem.W.Fast.tw16431785045016559903 : Unit := ()
def PySem.W.Fast.tw1650447433117637452 : Unit := ()
def PySem.W.Fast.tw17481981822571166004 : Unit := ()
def PySem.W.Fast.tw11460483059087818940 : Unit := ()
def PySem.W.Fast.tw12630858205492793219 : Unit := ()
def PySem.W.Fast.tw11380866325757239032 : Unit := ()
def PySem.W.Fast.tw1936340429456884896 : Unit := ()
def PySem.W.Fast.tw11239104169894639426 : Unit := ()
def PySem.W.Fast.tw1674602867050712682 : Unit := ()
def PySem.W.Fast.tw2712682644199701908 : Unit := ()
def PySem.W.Fast.tw13175894916278529917 : Unit := ()
def PySem.W.Fast.tw16236140967395348135 : Unit := ()
def PySem.W.Fast.tw1727526474774835648 : Unit := ()
def PySem.W.Fast.tw3177740660146453765 : Unit := ()
def PySem.W.Fast.tw4778242152230710940 : Unit := ()
def PySem.W.Fast.tw653771868211048877 : Unit := ()
def PySem.W.Fast.tw8653152770615954349 : Unit := ()
def PySem.W.Fast.tw13724357952290561109 : Unit := ()
def PySem.W.Fast.tw13915609333095932908 : Unit := ()
def PySem.W.Fast.tw1443377764243993925 : Unit := ()
def PySem.W.Fast.tw12079793782359602422 : Unit := ()
def PySem.W.Fast.tw9825618952382487189 : Unit := ()
def PySem.W.Fast.tw18073923686862532748 : Unit := ()
def PySem.W.Fast.tw8912490732725062813 : Unit := ()
def PySem.W.Fast.tw13422692700058601822 : Unit := ()
def PySem.W.Fast.tw12338572971595516861 : Unit := ()
def PySem.W.Fast.tw18166434367742539313 : Unit := ()
def PySem.W.Fast.tw5234944113424655489 : Unit := ()
def PySem.W.Fast.tw15646218228701069366 : Unit := ()
def PySem.W.Fast.tw11414707433145865296 : Unit := ()
def PySem.W.Fast.tw12209580335593602951 : Unit := ()
def PySem.W.Fast.tw2447898459510989004 : Unit := ()
def PySem.W.Fast.tw3881259845233890830 : Unit := ()
def PySem.W.Fast.tw12644446575167489026 : Unit := ()
def PySem.W.Fast.tw17064453727073675227 : Unit := ()
def PySem.W.Fast.tw9573805206796296738 : Unit := ()
def PySem.W.Fast.tw4733543447077377734 : Unit := ()
def PySem.W.Fast.tw9125065999594211429 : Unit := ()
def PySem.W.Fast.tw17407125364271942976 : Unit := ()
def PySem.W.Fast.tw16170695856525331421 : Unit := ()
def PySem.W.Fast.tw16815792128141955668 : Unit := ()
open PySem PySem.W PyProof.Rows
set_option maxRecDepth 100000 in
set_option maxHeartbeats 0 in
theorem PySem.Challenge.cw_lazycols_k16_functions_called_holds : PySem.Challenge.rw_lazycols_k16_functions_called.Holds := by
  w_on; o_law; k_head; (case hw => w_witness2)
  k_fill
  refine My.walk (l := PySem.Challenge.rw_lazycols_k16_functions_called) rfl rfl rfl (fun w h Y => PySem.W.km_in_of Y) ?R ?F
  case R => first | exact rfl | decide +kernel
  case F =>
    intro w mg h KX G
    refine' My.tops_mk KX G ?n_len ?n_isinstance ?n_int ?n_bool ?n_str ?n_all ?n_range ?n_abs ?n_list ?n_tuple ?n_ValueError ?i_LETTERS ?i_MOST_LETTERS ?i_ODD ?j_ODD ?i_MOST_NAMES ?a_is_whole ?l_is_whole ?c_is_whole ?k_is_whole ?a_is_number ?l_is_number ?c_is_number ?k_is_number ?a_is_name ?l_is_name ?c_is_name ?k_is_name ?a_is_fault ?l_is_fault ?c_is_fault ?k_is_fault ?a_is_value ?l_is_value ?c_is_value ?k_is_value ?a_settled ?l_settled ?c_settled ?k_settled ?a_check_name ?l_check_name ?c_check_name ?k_check_name ?a_checked_names ?l_checked_names ?c_checked_names ?k_checked_names ?a_law_drawn ?l_law_drawn ?c_law_drawn ?k_law_drawn ?a_law_whole ?l_law_whole ?c_law_whole ?k_law_whole ?a_law_thing ?l_law_thing ?c_law_thing ?k_law_thing ?a_law_due ?l_law_due ?c_law_due ?k_law_due ?a_law_told ?l_law_told ?c_law_told ?k_law_told ?a_law_rule ?l_law_rule ?c_law_rule ?k_law_rule ?w_law_rule ?t_law_rule ?a_law_alike ?l_law_alike ?c_law_alike ?k_law_alike ?a_law ?l_law ?c_law ?k_law ?notabs ?a_Rule ?pg_Rule ?hd_Rule ?po_Rule ?sa_Rule ?mk_Rule ?kc_Rule ?hc_Rule ?na_Rule_function ?a_Rule_init ?j_Rule_init ?l_Rule_init ?c_Rule_init ?k_Rule_init ?vg_Rule_init ?vr_Rule_init ?vf_Rule_init ?a_Rule_reckon ?j_Rule_reckon ?l_Rule_reckon ?c_Rule_reckon ?k_Rule_reckon ?a_Cells ?pg_Cells ?hd_Cells ?po_Cells ?sa_Cells ?mk_Cells ?kc_Cells ?hc_Cells ?na_Cells_function ?na_Cells_names ?a_Cells_init ?j_Cells_init ?l_Cells_init ?c_Cells_init ?k_Cells_init ?ai_Cells_Rule_reckon ?ow4 ?ow5 ?mo_Cells ?vu_Cells_Rule ?a_Above ?pg_Above ?hd_Above ?po_Above ?sa_Above ?mk_Above ?kc_Above ?hc_Above ?na_Above_function ?na_Above_names ?na_Above_first ?a_Above_init ?j_Above_init ?l_Above_init ?c_Above_init ?k_Above_init ?ai_Above_Rule_reckon ?mo_Above ?vu_Above_Rule ?a_Group ?pg_Group ?hd_Group ?po_Group ?sa_Group ?mk_Group ?kc_Group ?hc_Group ?na_Group_function ?na_Group_key ?na_Group_name ?a_Group_init ?j_Group_init ?l_Group_init ?c_Group_init ?k_Group_init ?ai_Group_Rule_reckon ?mo_Group ?vu_Group_Rule ?a_Lookup ?pg_Lookup ?hd_Lookup ?po_Lookup ?sa_Lookup ?mk_Lookup ?kc_Lookup ?hc_Lookup ?na_Lookup_function ?na_Lookup_key ?na_Lookup_other ?na_Lookup_theirs ?na_Lookup_names ?a_Lookup_init ?j_Lookup_init ?l_Lookup_init ?c_Lookup_init ?k_Lookup_init ?ai_Lookup_Rule_reckon ?mo_Lookup ?vu_Lookup_Rule ?a_Mend ?pg_Mend ?hd_Mend ?po_Mend ?sa_Mend ?mk_Mend ?kc_Mend ?hc_Mend ?na_Mend_function ?na_Mend_name ?a_Mend_init ?j_Mend_init ?l_Mend_init ?c_Mend_init ?k_Mend_init ?ai_Mend_Rule_reckon ?mo_Mend ?vu_Mend_Rule
    (case n_len => k_is)
    (case n_isinstance => k_is)
    (case n_int => k_is)
    (case n_bool => k_is)
    (case n_str => k_is)
    (case n_all => k_is)
    (case n_range => k_is)
    (case n_abs => k_is)
    (case n_list => k_is)
    (case n_tuple => k_is)
    (case n_ValueError => k_is)
    (case i_LETTERS => k_is)
    (case i_MOST_LETTERS => k_is)
    (case i_ODD => k_is)
    (case j_ODD => k_is)
    (case i_MOST_NAMES => k_is)
    (case a_is_whole => k_is)
    (case l_is_whole => k_is)
    (case c_is_whole => k_is)
    (case k_is_whole => k_is)
    (case a_is_number => k_is)
    (case l_is_number => k_is)
    (case c_is_number => k_is)
    (case k_is_number => k_is)
    (case a_is_name => k_is)
    (case l_is_name => k_is)
    (case c_is_name => k_is)
    (case k_is_name => k_is)
    (case a_is_fault => k_is)
    (case l_is_fault => k_is)
    (case c_is_fault => k_is)
    (case k_is_fault => k_is)
    (case a_is_value => k_is)
    (case l_is_value => k_is)
    (case c_is_value => k_is)
    (case k_is_value => k_is)
    (case a_settled => k_is)
    (case l_settled => k_is)
    (case c_settled => k_is)
    (case k_settled => k_is)
    (case a_check_name => k_is)
    (case l_check_name => k_is)
    (case c_check_name => k_is)
    (case k_check_name => k_is)
    (case a_checked_names => k_is)
    (case l_checked_names => k_is)
    (case c_checked_names => k_is)
    (case k_checked_names => k_is)
    (case a_law_drawn => k_is)
    (case l_law_drawn => k_is)
    (case c_law_drawn => k_is)
    (case k_law_drawn => k_is)
    (case a_law_whole => k_is)
    (case l_law_whole => k_is)
    (case c_law_whole => k_is)
    (case k_law_whole => k_is)
    (case a_law_thing => k_is)
    (case l_law_thing => k_is)
    (case c_law_thing => k_is)
    (case k_law_thing => k_is)
    (case a_law_due => k_is)
    (case l_law_due => k_is)
    (case c_law_due => k_is)
    (case k_law_due => k_is)
    (case a_law_told => k_is)
    (case l_law_told => k_is)
    (case c_law_told => k_is)
    (case k_law_told => k_is)
    (case a_law_rule => k_is)
    (case l_law_rule => k_is)
    (case c_law_rule => k_is)
    (case k_law_rule => k_is)
    (case w_law_rule => k_is)
    (case t_law_rule => exact rfl)
    (case a_law_alike => k_is)
    (case l_law_alike => k_is)
    (case c_law_alike => k_is)
    (case k_law_alike => k_is)
    (case a_law => k_is)
    (case l_law => k_is)
    (case c_law => k_is)
    (case k_law => k_is)
    (case notabs => kernel_rfl)
    (case a_Rule => k_is)
    (case pg_Rule => k_is)
    (case hd_Rule => k_is)
    (case po_Rule => k_is)
    (case sa_Rule => k_is)
    (case mk_Rule => k_is)
    (case kc_Rule => k_is)
    (case hc_Rule => k_is)
    (case na_Rule_function => k_is)
    (case a_Rule_init => k_is)
    (case j_Rule_init => k_is)
    (case l_Rule_init => k_is)
    (case c_Rule_init => k_is)
    (case k_Rule_init => k_is)
    (case vg_Rule_init => k_is)
    (case vr_Rule_init => k_is)
    (case vf_Rule_init => k_is)
    (case a_Rule_reckon => k_is)
    (case j_Rule_reckon => k_is)
    (case l_Rule_reckon => k_is)
    (case c_Rule_reckon => k_is)
    (case k_Rule_reckon => k_is)
    (case a_Cells => k_is)
    (case pg_Cells => k_is)
    (case hd_Cells => k_is)
    (case po_Cells => k_is)
    (case sa_Cells => k_is)
    (case mk_Cells => k_is)
    (case kc_Cells => k_is)
    (case hc_Cells => k_is)
    (case na_Cells_function => k_is)
    (case na_Cells_names => k_is)
    (case a_Cells_init => k_is)
    (case j_Cells_init => k_is)
    (case l_Cells_init => k_is)
    (case c_Cells_init => k_is)
    (case k_Cells_init => k_is)
    (case ai_Cells_Rule_reckon => k_is)
    (case ow4 => k_is)
    (case ow5 => k_is)
    (case mo_Cells => k_is)
    (case vu_Cells_Rule => kit_is)
    (case a_Above => k_is)
    (case pg_Above => k_is)
    (case hd_Above => k_is)
    (case po_Above => k_is)
    (case sa_Above => k_is)
    (case mk_Above => k_is)
    (case kc_Above => k_is)
    (case hc_Above => k_is)
    (case na_Above_function => k_is)
    (case na_Above_names => k_is)
    (case na_Above_first => k_is)
    (case a_Above_init => k_is)
    (case j_Above_init => k_is)
    (case l_Above_init => k_is)
    (case c_Above_init => k_is)
    (case k_Above_init => k_is)
    (case ai_Above_Rule_reckon => k_is)
    (case mo_Above => k_is)
    (case vu_Above_Rule => kit_is)
    (case a_Group => k_is)
    (case pg_Group => k_is)
    (case hd_Group => k_is)
    (case po_Group => k_is)
    (case sa_Group => k_is)
    (case mk_Group => k_is)
    (case kc_Group => k_is)
    (case hc_Group => k_is)
    (case na_Group_function => k_is)
    (case na_Group_key => k_is)
    (case na_Group_name => k_is)
    (case a_Group_init => k_is)
    (case j_Group_init => k_is)
    (case l_Group_init => k_is)
    (case c_Group_init => k_is)
    (case k_Group_init => k_is)
    (case ai_Group_Rule_reckon => k_is)
    (case mo_Group => k_is)
    (case vu_Group_Rule => kit_is)
    (case a_Lookup => k_is)
    (case pg_Lookup => k_is)
    (case hd_Lookup => k_is)
    (case po_Lookup => k_is)
    (case sa_Lookup => k_is)
    (case mk_Lookup => k_is)
    (case kc_Lookup => k_is)
    (case hc_Lookup => k_is)
    (case na_Lookup_function => k_is)
    (case na_Lookup_key => k_is)
    (case na_Lookup_other => k_is)
    (case na_Lookup_theirs => k_is)
    (case na_Lookup_names => k_is)
    (case a_Lookup_init => k_is)
    (case j_Lookup_init => k_is)
    (case l_Lookup_init => k_is)
    (case c_Lookup_init => k_is)
    (case k_Lookup_init => k_is)
    (case ai_Lookup_Rule_reckon => k_is)
    (case mo_Lookup => k_is)
    (case vu_Lookup_Rule => kit_is)
    (case a_Mend => k_is)
    (case pg_Mend => k_is)
    (case hd_Mend => k_is)
    (case po_Mend => k_is)
    (case sa_Mend => k_is)
    (case mk_Mend => k_is)
    (case kc_Mend => k_is)
    (case hc_Mend => k_is)
    (case na_Mend_function => k_is)
    (case na_Mend_name => k_is)
    (case a_Mend_init => k_is)
    (case j_Mend_init => k_is)
    (case l_Mend_init => k_is)
    (case c_Mend_init => k_is)
    (case k_Mend_init => k_is)
    (case ai_Mend_Rule_reckon => k_is)
    (case mo_Mend => k_is)
    (case vu_Mend_Rule => kit_is)
