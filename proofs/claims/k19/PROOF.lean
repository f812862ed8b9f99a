import PyProof.Rows.All
import Wide.All
import OpenK.AllK
import Wide.FinOn
import PyProof.EqAt
import PyProof.EqKinds
import PyProof.TupleCall
import Lean
import PySem.Challenge.RW_lazycols_k19_whole_looks_where_it_leans
set_option Elab.async false
set_option linter.all false
set_option maxRecDepth 100000
set_option maxHeartbeats 4000000
set_option genSizeOfSpec false
/-! THE HAND LAYER, for ints, bools, texts, own classes, LISTS and tuples (index, slices, in, append, pop ..), calls, loops. Paste it whole ahead of your own text; what your proof does not reach may be deleted. -/
namespace L2
open PySem PySem.Spec PyProof.Rows

/-- a key: an int or a str -/
abbrev Key := Sum Int Str
def keyIs : Key → Value → Bool
  | .inl k, v => Value.isInt k v
  | .inr x, v => Value.isStrOf x v
def keyH (w : World) : Key → Int
  | .inl k => hashInt k
  | .inr x => hashStr w x
theorem keyIs_shape : ∀ {k : Key} {v : Value}, keyIs k v = true → (∃ i t, k = Sum.inl i ∧ v = Value.int i t) ∨ (∃ x t, k = Sum.inr x ∧ v = Value.str x t)
  | .inl i, v, h => by
    obtain ⟨t, e⟩ := Value.isInt_shape (k := i) (v := v) h
    exact .inl ⟨i, t, rfl, e⟩
  | .inr x, v, h => by
    obtain ⟨t, e⟩ := Value.isStrOf_shape (x := x) (v := v) h
    exact .inr ⟨x, t, rfl, e⟩
theorem keyIs_int (i : Int) (t : Tok) : keyIs (.inl i) (.int i t) = true := by simp [keyIs, Value.isInt]
theorem keyIs_str (x : Str) (t : Tok) : keyIs (.inr x) (.str x t) = true := by simp [keyIs, Value.isStrOf]
theorem key_ll (a b : Int) : decide ((Sum.inl a : Key) = Sum.inl b) = (a == b) := by
  by_cases e : a = b
  · subst e; simp
  · have h : ¬ (Sum.inl a : Key) = Sum.inl b := fun q => e (Sum.inl.inj q)
    rw [decide_eq_false h]
    exact (beq_eq_false_iff_ne.mpr e).symm
theorem key_rr (a b : Str) : decide ((Sum.inr a : Key) = Sum.inr b) = decide (a = b) := by
  by_cases e : a = b
  · subst e; simp
  · have h : ¬ (Sum.inr a : Key) = Sum.inr b := fun q => e (Sum.inr.inj q)
    rw [decide_eq_false h, decide_eq_false e]
theorem key_lr (a : Int) (b : Str) : decide ((Sum.inl a : Key) = Sum.inr b) = false := decide_eq_false (fun q => nomatch q)
theorem key_rl (a : Str) (b : Int) : decide ((Sum.inr a : Key) = Sum.inl b) = false := decide_eq_false (fun q => nomatch q)

def mixKind (prog : Program) (w : World) : PySem.KeyKind prog w Key where
  is := keyIs
  hash := keyH w
  inj := fun v a b ha hb => by
    rcases keyIs_shape ha with ⟨i, t, rfl, rfl⟩ | ⟨x, t, rfl, rfl⟩
    · rcases keyIs_shape hb with ⟨j, u, rfl, e⟩ | ⟨y, u, rfl, e⟩
      · injection e with e1 _; rw [e1]
      · exact nomatch e
    · rcases keyIs_shape hb with ⟨j, u, rfl, e⟩ | ⟨y, u, rfl, e⟩
      · exact nomatch e
      · injection e with e1 _; rw [e1]
  byValue := fun k v h => by
    rcases keyIs_shape h with ⟨i, t, rfl, rfl⟩ | ⟨x, t, rfl, rfl⟩ <;> rfl
  pyHash := fun hv h => by
    rcases keyIs_shape hv with ⟨i, t, rfl, rfl⟩ | ⟨x, t, rfl, rfl⟩
    · exact wpAny_pyHash_int h
    · exact wpAny_pyHash_str h
  eqBool := fun hu hv h => by
    rcases keyIs_shape hu with ⟨i, t, rfl, rfl⟩ | ⟨x, t, rfl, rfl⟩
    · rcases keyIs_shape hv with ⟨j, u, rfl, rfl⟩ | ⟨y, u, rfl, rfl⟩
      · rw [key_ll] at h; exact wpAny_eqBool_int h
      · rw [key_lr] at h; exact SeqAt.EqAt.int_str i t y u _ _ _ _ h
    · rcases keyIs_shape hv with ⟨j, u, rfl, rfl⟩ | ⟨y, u, rfl, rfl⟩
      · rw [key_rl] at h; exact SeqAt.EqAt.str_int x t j u _ _ _ _ h
      · rw [key_rr] at h; exact wpAny_eqBool_str h
  «strs» := fun k x t v h => by
    rcases keyIs_shape h with ⟨i, u, rfl, e⟩ | ⟨y, u, rfl, e⟩
    · exact nomatch e
    · injection e with e1 _
      subst e1
      cases v <;> rfl

theorem mixKind_int (prog : Program) (w : World) (i : Int) (t : Tok) : (mixKind prog w).is (.inl i) (.int i t) = true := keyIs_int i t
theorem mixKind_str (prog : Program) (w : World) (x : Str) (t : Tok) : (mixKind prog w).is (.inr x) (.str x t) = true := keyIs_str x t
end L2

namespace L2
open PySem PySem.Spec PyProof.Rows

/-- a value, without the heap -/
inductive V where
  | non | bl (b : Bool) | int (i : Int) | str (x : Str) | byt (b : Array UInt8) | flt (b : UInt64) | ref (a : Addr) | ty (n : String)
  deriving DecidableEq

def RelV : V → Value → Prop
  | .non, u => u = Value.none
  | .bl b, u => u = Value.bool b
  | .int i, u => ∃ t, u = Value.int i t
  | .str x, u => ∃ t, u = Value.str x t
  | .byt b, u => ∃ t, u = Value.bytes b t
  | .flt b, u => ∃ t, u = Value.float b t
  | .ref a, u => u = Value.ref a
  | .ty n, u => u = Value.type n

abbrev Vals : List V → List Value → Prop := Paired RelV
theorem Vals.length {xs : List V} {us : List Value} (r : Vals xs us) : xs.length = us.length := Paired.length r
theorem Vals.get : ∀ {xs : List V} {us : List Value} {i : Nat} {x : V}, Vals xs us → xs[i]? = some x → ∃ u, us[i]? = some u ∧ RelV x u
  | _, _, _, _, .nil, e => by simp at e
  | _, _, 0, _, .cons r _, e => by simp at e; subst e; exact ⟨_, rfl, r⟩
  | _, _, i + 1, x, .cons _ t, e => by
    obtain ⟨u, h1, h2⟩ := Vals.get (i := i) (x := x) t (by simpa using e)
    exact ⟨u, by simpa using h1, h2⟩
theorem Vals.append : ∀ {xs ys : List V} {us ws : List Value}, Vals xs us → Vals ys ws → Vals (xs ++ ys) (us ++ ws)
  | _, _, _, _, .nil, s => s
  | _, _, _, _, .cons r t, s => .cons r (Vals.append t s)
theorem Vals.take : ∀ {xs : List V} {us : List Value} (n : Nat), Vals xs us → Vals (xs.take n) (us.take n)
  | _, _, 0, _ => .nil
  | _, _, _ + 1, .nil => .nil
  | _, _, n + 1, .cons r t => .cons r (Vals.take n t)
theorem Vals.drop : ∀ {xs : List V} {us : List Value} (n : Nat), Vals xs us → Vals (xs.drop n) (us.drop n)
  | _, _, 0, r => r
  | _, _, _ + 1, .nil => .nil
  | _, _, n + 1, .cons _ t => Vals.drop n t
def RelO : Option V → Option Value → Prop
  | some v, some u => RelV v u
  | none, none => True
  | _, _ => False
def KV {κ : Type} : List (κ × V) → List (κ × Value) → Prop := Paired fun (p : κ × V) (q : κ × Value) => p.1 = q.1 ∧ RelV p.2 q.2

/-- a key of a dict (00_mix): an int or a text -/
def kV : Key → V
  | .inl i => .int i
  | .inr x => .str x

/-- what stands at a tracked address -/
inductive HO where
  /-- a list -/
  | lst (xs : List V)
  /-- a tuple (never changes) -/
  | tup (xs : List V)
  /-- a dict whose keys are ints and texts; one whose keys are tuples of ints and texts (the empty one is both) -/
  | dK (kvs : List (Key × V)) | dT (kvs : List (List Key × V))
  /-- a set of ints: its members, its size -/
  | set (S : Int → Bool) (n : Nat)
  /-- an instance of the class at C, its dict at dx, its attributes -/
  | ins (C dx : Addr) (fs : List (Str × V))
  /-- the dict of the instance at x -/
  | own (x : Addr)
  /-- the dict of an exception -/
  | xd (fs : List (Str × V))
  /-- a bound method, f of x -/
  | met (f x : Addr)
  /-- a range object lo, lo + 1, .. below hi -/
  | rng (lo hi : Int)
  /-- a thing that is known to the object (the script; a dict while a loop walks it): read, never written while it is so -/
  | frz (o : Obj) (u : HO)
  /-- a code object's table -/
  | tbl (ps : Array Value)
  /-- any other thing, by what is true of its one object (a def of one's own: SetO a S n := HO.ext fun h => ..) -/
  | ext (φ : Heap → Prop)

abbrev Hp := Addr → Option HO
def upd (H : Hp) (a : Addr) (o : HO) : Hp := fun b => if b = a then some o else H b
theorem upd_same {H : Hp} {a : Addr} {o : HO} : upd H a o a = some o := by unfold upd; rw [if_pos rfl]
theorem upd_ne {H : Hp} {a b : Addr} {o : HO} (h : b ≠ a) : upd H a o b = H b := by unfold upd; rw [if_neg h]
/-- two objects of different content stand apart -/
theorem ne_of {H : Hp} {a b : Addr} {o u : HO} (h : H a = some o) (h' : H b = some u) (d : o ≠ u) : a ≠ b := by
  intro e; subst e; rw [h] at h'; exact d (Option.some.inj h')
theorem ne_of_none {H : Hp} {a b : Addr} {o : HO} (h : H a = some o) (h' : H b = none) : a ≠ b := by
  intro e; subst e; rw [h] at h'; cases h'

section
variable (P : Program) (w : World)
def ObjOk (H : Hp) (h : Heap) (a : Addr) : HO → Prop
  | .lst xs => xs.length ≤ sizeLine ∧ ∃ (its : List Value) (n : Nat), Vals xs its ∧ h.get? a = some { cls := .type "list", data := .seq its.toArray n }
  | .tup xs => xs.length ≤ sizeLine ∧ ∃ its : List Value, Vals xs its ∧ IsTup h a its.toArray
  | .dK kvs => kvs.length ≤ sizeLine ∧ (a == sysModules) = false ∧ ∃ vs, KV kvs vs ∧ h.DictOf (mixKind P w) a vs
  | .dT kvs => kvs.length ≤ sizeLine ∧ (a == sysModules) = false ∧ ∃ xs : List (List Key × Addr × Value),
      Paired (fun (p : List Key × V) (q : List Key × Addr × Value) => p.1 = q.1 ∧ H q.2.1 = some (.tup (p.1.map kV)) ∧ RelV p.2 q.2.2) kvs xs ∧
      ∃ o es ep, h.get? a = some o ∧ o.ExactDict ∧ o.data = .dict es ep ∧ es.toList = xs.map (entryOfKey (tupleKind (mixKind P w))) ∧ (xs.map (·.1)).Nodup
  | .set S n => h.SetOf (intKind P w) a S n
  | .ins C dx fs => H dx = some (.own a) ∧ fs.length ≤ 1000 ∧ dx ≠ a ∧ h.get? a = some (PySem.W.instObj C dx) ∧
      ∃ mA, h.Ns1 dx mA ∧ (∀ f, RelO (fs.lookup f) (mA f)) ∧ PySem.Within mA (fs.map (·.1))
  | .own _ => ∃ o, h.get? a = some o
  | .xd fs => ∃ mA, h.Ns1 a mA ∧ ∀ f, RelO (fs.lookup f) (mA f)
  | .rng lo hi => ∃ t u v, h.get? a = some { cls := .type "range", data := .fields #[.int lo t, .int hi u, .int 1 v] }
  | .frz o u => h.get? a = some o ∧ ObjOk H h a u
  | .tbl ps => h.get? a = some { cls := .none, data := .fields ps }
  | .met f x => h.get? a = some (PySem.W.methodObj (.ref f) (.ref x))
  | .ext φ => φ h ∧ (∃ o, h.get? a = some o) ∧ ∀ h1 h2 : Heap, φ h1 → (∀ o, h1.get? a = some o → h2.get? a = some o) → φ h2
/-- the abstract heap is held -/
def HOk (H : Hp) (h : Heap) : Prop := ∀ a o, H a = some o → ObjOk P w H h a o
end

section
variable {P : Program} {w : World} {H H' : Hp} {h h' : Heap} {a : Addr} {o : HO}
theorem ObjOk.lt (x : ObjOk P w H h a o) : a < h.objs.size := by
  cases o with
  | lst xs => obtain ⟨_, _, _, _, e⟩ := x; exact Heap.lt_size e
  | tup xs => obtain ⟨_, _, _, p⟩ := x; exact p.lt
  | dK kvs => obtain ⟨_, _, _, _, o, _, _, e, _⟩ := x; exact Heap.lt_size e
  | dT kvs => obtain ⟨_, _, _, _, o, _, _, e, _⟩ := x; exact Heap.lt_size e
  | set S n => obtain ⟨o, _, _, _, e, _⟩ := x; exact Heap.lt_size e
  | ins C dx fs => obtain ⟨_, _, _, e, _⟩ := x; exact Heap.lt_size e
  | own y => obtain ⟨_, e⟩ := x; exact Heap.lt_size e
  | xd fs => obtain ⟨_, ⟨_, _, _, e, _⟩, _⟩ := x; exact Heap.lt_size e
  | rng lo hi => obtain ⟨_, _, _, e⟩ := x; exact Heap.lt_size e
  | frz ob u => obtain ⟨e, _⟩ := x; exact Heap.lt_size e
  | tbl ps => exact Heap.lt_size (show h.get? a = some _ from x)
  | met f y => exact Heap.lt_size (show h.get? a = some _ from x)
  | ext φ => obtain ⟨_, ⟨_, e⟩, _⟩ := x; exact Heap.lt_size e
theorem Paired.mapP {α β : Type} {F G : α → β → Prop} : ∀ {l₁ : List α} {l₂ : List β}, Paired F l₁ l₂ → (∀ a b, F a b → G a b) → Paired G l₁ l₂
  | _, _, .nil, _ => .nil
  | _, _, .cons r t, f => .cons (f _ _ r) (Paired.mapP t f)
/-- what an object's description leans on: its own object, its own dict, the tuples -/
theorem ObjOk.stay (x : ObjOk P w H h a o) (k : ∀ b u, (b = a ∨ H b = some (.own a)) → h.get? b = some u → h'.get? b = some u)
    (ho : ∀ b, H b = some (.own a) → H' b = some (.own a)) (ht : ∀ b xs, H b = some (.tup xs) → H' b = some (.tup xs)) : ObjOk P w H' h' a o := by
  induction o with
  | lst xs => obtain ⟨z, its, n, r, e⟩ := x; exact ⟨z, its, n, r, k _ _ (.inl rfl) e⟩
  | tup xs => obtain ⟨z, its, r, ob, e, c⟩ := x; exact ⟨z, its, r, ob, k _ _ (.inl rfl) e, c⟩
  | dK kvs => obtain ⟨z, y, vs, r, ob, es, ep, e, c⟩ := x; exact ⟨z, y, vs, r, ob, es, ep, k _ _ (.inl rfl) e, c⟩
  | dT kvs =>
    obtain ⟨z, y, xs, r, ob, es, ep, e, c⟩ := x
    exact ⟨z, y, xs, Paired.mapP r fun p q z => ⟨z.1, ht _ _ z.2.1, z.2.2⟩, ob, es, ep, k _ _ (.inl rfl) e, c⟩
  | set S n => obtain ⟨ob, es, ep, t, e, c⟩ := x; exact ⟨ob, es, ep, t, k _ _ (.inl rfl) e, c⟩
  | ins C dx fs =>
    obtain ⟨d, z, ne, e, mA, ⟨od, es, ep, e2, c⟩, r⟩ := x
    exact ⟨ho _ d, z, ne, k _ _ (.inl rfl) e, mA, ⟨od, es, ep, k _ _ (.inr d) e2, c⟩, r⟩
  | own y => obtain ⟨ob, e⟩ := x; exact ⟨ob, k _ _ (.inl rfl) e⟩
  | xd fs => obtain ⟨mA, ⟨od, es, ep, e, c⟩, r⟩ := x; exact ⟨mA, ⟨od, es, ep, k _ _ (.inl rfl) e, c⟩, r⟩
  | rng lo hi => obtain ⟨t, u, v, e⟩ := x; exact ⟨t, u, v, k _ _ (.inl rfl) e⟩
  | frz ob u ih => obtain ⟨e, q⟩ := x; exact ⟨k _ _ (.inl rfl) e, ih q⟩
  | tbl ps =>
    have e : h.get? a = some { cls := .none, data := .fields ps } := x
    show h'.get? a = some { cls := .none, data := .fields ps }
    exact k a _ (.inl rfl) e
  | met f y =>
    have e : h.get? a = some (PySem.W.methodObj (.ref f) (.ref y)) := x
    show h'.get? a = some (PySem.W.methodObj (.ref f) (.ref y))
    exact k a _ (.inl rfl) e
  | ext φ => obtain ⟨p, ⟨o, e⟩, st⟩ := x; exact ⟨st _ _ p fun o q => k _ _ (.inl rfl) q, ⟨o, k _ _ (.inl rfl) e⟩, st⟩
theorem HOk.lt (x : HOk P w H h) (e : H a = some o) : a < h.objs.size := (x a o e).lt
theorem HOk.fresh (x : HOk P w H h) (e : h.objs.size ≤ a) : H a = none := by
  cases q : H a with
  | none => rfl
  | some u => exact absurd (Nat.lt_of_lt_of_le (x.lt q) e) (Nat.lt_irrefl _)
/-- every object of the heap is kept -/
theorem HOk.kept (x : HOk P w H h) (k : ∀ b u, h.get? b = some u → h'.get? b = some u) : HOk P w H h' := fun a o e =>
  (x a o e).stay (fun b u _ q => k b u q) (fun _ q => q) fun _ _ q => q
/-- a new object is laid and tracked -/
theorem HOk.laid (x : HOk P w H h) (k : ∀ b u, h.get? b = some u → h'.get? b = some u) (hp : h.objs.size ≤ a) (new : ObjOk P w (upd H a o) h' a o) : HOk P w (upd H a o) h' := fun b u e => by
  have hn := x.fresh hp
  by_cases hb : b = a
  · subst hb; rw [upd_same] at e; cases e; exact new
  · rw [upd_ne hb] at e
    exact (x b u e).stay (fun c v _ q => k c v q) (fun c q => by rw [upd_ne (ne_of_none q hn)]; exact q) fun c xs q => by rw [upd_ne (ne_of_none q hn)]; exact q
end

/-- what may be read as u: it is u, or a known u -/
def Rd (H : Hp) (a : Addr) (u : HO) : Prop := H a = some u ∨ ∃ o, H a = some (.frz o u)
theorem Rd.ok {P : Program} {w : World} {H : Hp} {h : Heap} {a : Addr} {u : HO} (r : Rd H a u) (x : HOk P w H h) : ObjOk P w H h a u := by
  rcases r with r | ⟨o, r⟩
  · exact x a u r
  · obtain ⟨_, q⟩ := x a _ r
    exact q
/-- what may be written -/
def Mut : Option HO → Prop
  | some (.lst _) => True
  | some (.dK _) => True
  | some (.dT _) => True
  | some (.set _ _) => True
  | some (.ins _ _ _) => True
  | some (.ext _) => True
  | _ => False
section
variable {P : Program} {w : World} {H : Hp} {h h' : Heap} {x e : Addr} {o' : HO}
/-- the object at e is changed: x itself, or the dict of the instance x -/
theorem HOk.write (ok : HOk P w H h) (mu : Mut (H x)) (he : e = x ∨ H e = some (.own x)) (k : ∀ b u, b ≠ e → h.get? b = some u → h'.get? b = some u) (heo : ∃ u, h'.get? e = some u)
    (new : ObjOk P w (upd H x o') h' x o') : HOk P w (upd H x o') h' := fun b u q => by
  have nown : ∀ c y, H c = some (.own y) → c ≠ x := fun c y r z => by subst z; rw [r] at mu; exact mu
  have ntup : ∀ c xs, H c = some (.tup xs) → c ≠ x := fun c xs r z => by subst z; rw [r] at mu; exact mu
  by_cases hb : b = x
  · subst hb; rw [upd_same] at q; cases q; exact new
  · rw [upd_ne hb] at q
    by_cases hbe : b = e
    · have q' : H b = some (.own x) := by
        rcases he with z | z
        · exact absurd (hbe.trans z) hb
        · rw [hbe]; exact z
      rw [q] at q'; cases q'
      obtain ⟨v, hv⟩ := heo
      exact ⟨v, by rw [hbe]; exact hv⟩
    · refine (ok b u q).stay (fun c v hc r => k c v ?_ r) (fun c r => by rw [upd_ne (nown c b r)]; exact r) fun c xs r => by rw [upd_ne (ntup c xs r)]; exact r
      rcases hc with rfl | hc
      · exact hbe
      · rintro rfl
        rcases he with z | z
        · exact nown c b hc z
        · rw [hc] at z; cases z; exact hb rfl
end

/-! ### kept unless tracked; of the frames at fs (the callers') the slots may change (an exception that passes writes there); of the records at ex (iterators) nothing is said -/
structure Un (fs ex : List Addr) (H H' : Hp) (h h' : Heap) : Prop where
  keep : ∀ b o, h.get? b = some o → H b = none → b ∉ fs → b ∉ ex → h'.get? b = some o
  slot : ∀ b o, h.get? b = some o → H b = none → b ∈ fs → b ∉ ex → ∃ sl, h'.get? b = some { o with slots := sl }
  free : ∀ b o, h.get? b = some o → H b = none → b ∉ ex → H' b = none
  there : ∀ b o, h.get? b = some o → b ∉ ex → ∃ o', h'.get? b = some o'
  tups : ∀ b xs, H b = some (.tup xs) → H' b = some (.tup xs)
  frzs : ∀ b o u, H b = some (.frz o u) → H' b = some (.frz o u)
  tbls : ∀ b ps, H b = some (.tbl ps) → ∃ more, H' b = some (.tbl (ps ++ more))
section
variable {fs fs' ex ex' : List Addr} {H H1 H2 : Hp} {h h1 h2 h' : Heap} {a x e : Addr} {o : HO}
theorem Un.any (u : Un fs ex H H1 h h1) {b : Addr} {ob : Obj} (q : h.get? b = some ob) (n : H b = none) (hx : b ∉ ex) : ∃ sl, h1.get? b = some { ob with slots := sl } := by
  by_cases hb : b ∈ fs
  · exact u.slot b ob q n hb hx
  · exact ⟨ob.slots, u.keep b ob q n hb hx⟩
theorem Un.kept (k : ∀ b u, h.get? b = some u → h'.get? b = some u) : Un fs ex H H h h' :=
  ⟨fun b ob q _ _ _ => k b ob q, fun b ob q _ _ _ => ⟨ob.slots, k b ob q⟩, fun _ _ _ n _ => n, fun b ob q _ => ⟨ob, k b ob q⟩, fun _ _ q => q, fun _ _ _ q => q, fun _ ps q => ⟨#[], by rw [q]; simp⟩⟩
theorem Un.refl : Un fs ex H H h h := Un.kept fun _ _ q => q
theorem Un.laid (k : ∀ b u, h.get? b = some u → h'.get? b = some u) (hp : h.objs.size ≤ a) (hn : H a = none) : Un fs ex H (upd H a o) h h' where
  keep := fun b u q _ _ _ => k b u q
  slot := fun b u q _ _ _ => ⟨u.slots, k b u q⟩
  free := fun b u q n _ => by rw [upd_ne (Nat.ne_of_lt (Nat.lt_of_lt_of_le (Heap.lt_size q) hp))]; exact n
  there := fun b u q _ => ⟨u, k b u q⟩
  tups := fun b xs q => by rw [upd_ne (ne_of_none q hn)]; exact q
  frzs := fun b u xs q => by rw [upd_ne (ne_of_none q hn)]; exact q
  tbls := fun b ps q => ⟨#[], by rw [upd_ne (ne_of_none q hn), q]; simp⟩
theorem Un.write (mu : Mut (H x)) (he : e = x ∨ H e = some (.own x)) (k : ∀ b u, b ≠ e → h.get? b = some u → h'.get? b = some u) (heo : ∃ u, h'.get? e = some u) : Un fs ex H (upd H x o) h h' := by
  have hx : ∀ b, H b = none → b ≠ x := fun b n z => by subst z; rw [n] at mu; exact mu
  have hb : ∀ b, H b = none → b ≠ e := fun b n z => by
    subst z
    rcases he with r | r
    · exact hx b n r
    · rw [n] at r; cases r
  have hm : ∀ b u, H b = some u → ¬ Mut (some u) → b ≠ x := fun b u q nm z => by subst z; rw [q] at mu; exact nm mu
  refine ⟨fun b u q n _ _ => k b u (hb b n) q, fun b u q n _ _ => ⟨u.slots, k b u (hb b n) q⟩, fun b u q n _ => by rw [upd_ne (hx b n)]; exact n, fun b u q _ => ?_,
    fun b xs q => by rw [upd_ne (hm b _ q fun z => z)]; exact q, fun b u xs q => by rw [upd_ne (hm b _ q fun z => z)]; exact q, fun b ps q => ⟨#[], by rw [upd_ne (hm b _ q fun z => z), q]; simp⟩⟩
  by_cases hbe : b = e
  · subst hbe; exact heo
  · exact ⟨u, k b u hbe q⟩
end

/-! ### the heap without what is tracked -/
def trk (h : Heap) (H : Hp) : List Addr := (List.range h.objs.size).filter fun a => (H a).isSome
def hidT (h : Heap) (H : Hp) : Heap := PySem.W.hideAll h (trk h H)
theorem hidT_size (h : Heap) (H : Hp) : (hidT h H).objs.size = h.objs.size := PySem.W.hideAll_size _ _
theorem hidT_get {h : Heap} {H : Hp} {b : Addr} {o : Obj} (e : h.get? b = some o) (n : H b = none) : (hidT h H).get? b = some o :=
  PySem.W.hideAll_get _ e fun hm => by
    have q : (H b).isSome = true := (List.mem_filter.mp hm).2
    rw [n] at q; simp at q
theorem of_hidT {h : Heap} {H : Hp} {b : Addr} {o : Obj} (e : (hidT h H).get? b = some o) : h.get? b = some o ∧ H b = none := by
  have e' : h.get? b = some o := PySem.W.of_hideAll (trk h H) e
  refine ⟨e', ?_⟩
  cases q : H b with
  | none => rfl
  | some x =>
    have hm : b ∈ trk h H := List.mem_filter.mpr ⟨List.mem_range.mpr (Heap.lt_size e'), by simp [q]⟩
    have z : (hidT h H).get? b = none := PySem.W.hideAll_none (trk h H) hm
    rw [z] at e; cases e

/-! ### OpenK's ledger, filled with every new object but one -/
def allNews (g h : Heap) (L : Addr) : List (Addr × Obj) := (List.range h.objs.size).filterMap fun a => if a = L ∨ (g.get? a).isSome = true then none else (h.get? a).map fun o => (a, o)
def rest (g h : Heap) (L d : Addr) : List (Addr × Obj) := (allNews g h L).filter fun p => decide (p.1 ≠ d)
end L2

namespace L2
open PySem PySem.Spec PyProof.Rows

/-- the module's facts, over the base: the heap at the law's entry without what is tracked there -/
structure Mod (K : PySem.W.Frag) (mg : Str → Option Value) (base : Heap) : Prop where
  kin : K.In base
  glob : base.Ns mainGlobals mg
  blt : ∃ mb, base.Ns builtinsNs mb ∧ ∀ x : Str, x ≠ "__name__" → mb x = bootBuiltins x
  nolimit : base.NoLimit

/-- the context: a def's body (or a comprehension's block) running. base: fixed through the whole law; s₀, H₀: the entry; outer: the frames whose slots others may change (a def's callers); stack: all frames that run;
   ex: iterators that were made ahead of the entry and are walked here (a comprehension's); fn: the names whose cells were made at the entry (a def: all; a comprehension's block: its own); calm: not within an except suite; pn: pins that every state bears; xe: what is wanted of an exception that leaves the code -/
structure Cx where
  prog : Program
  w : World
  K : PySem.W.Frag
  mg : Str → Option Value
  base : Heap
  A : Around
  N : List Str
  s₀ : Shared
  H₀ : Hp
  env : Env
  outer : List Env
  stack : List Env
  ex : List Addr
  fn : Str → Bool
  calm : Bool
  pn : List (Addr × Obj)
  xe : Value → Shared → Prop
/-- the callers' frames -/
def frs (l : List Env) : List Addr := l.filterMap (·.frame)
abbrev Cx.fs (X : Cx) : List Addr := frs X.outer

def Vis (sc : Scope) (x : Str) : Prop := sc.names.lookup x = some .local ∨ sc.names.lookup x = some .cell ∨ sc.names.lookup x = some .free
def Loc (sc : Scope) (x : Str) : Prop := sc.names.lookup x = some .local ∨ sc.names.lookup x = some .cell
def Look (env : Env) (h : Heap) (m : Str → Option Value) (x : Str) (u : Value) : Prop :=
  (env.kindOf x = some .local ∧ m x = some u) ∨ ((env.kindOf x = some .cell ∨ env.kindOf x = some .free) ∧ ∃ c, env.cells.lookup x = some c ∧ h.IsCell c (some u))

structure Cx.Ok (X : Cx) : Prop where
  mod : Mod X.K X.mg X.base
  kind : X.env.scope.kind = .function
  glob : X.env.globals = mainGlobals
  blt : X.env.builtins = builtinsNs
  above : X.s₀.heap.objs.size ≤ X.env.locals
  inj : ∀ x y c, X.env.cells.lookup x = some c → X.env.cells.lookup y = some c → x = y
  has : ∀ x, (X.env.kindOf x = some .cell ∨ X.env.kindOf x = some .free) → ∃ c, X.env.cells.lookup x = some c
  cab : ∀ x c, X.fn x = true → X.env.cells.lookup x = some c → X.s₀.heap.objs.size ≤ c
  hd : X.calm = true → X.A.handled = none
  frames : X.A.frames = some X.stack
  stk : X.stack = X.outer ∨ (X.stack = X.env :: X.outer ∧ X.env.frame = some X.env.locals)
  exf : ∀ b ∈ X.ex, b ≠ X.env.locals ∧ ∀ x c, X.env.cells.lookup x = some c → c ≠ b
  bs : ∀ b o, X.base.get? b = some o → X.s₀.heap.get? b = some o ∧ X.H₀ b = none
  bsz : X.base.objs.size ≤ X.s₀.heap.objs.size
  noex : ∀ b o, X.base.get? b = some o → b ∉ X.ex
  exfs : ∀ b ∈ X.ex, b ∉ X.fs
  funs : X.s₀.heap.FunFrames X.base X.outer
  frf : ∀ b ∈ X.fs, X.H₀ b = none

structure Inv (X : Cx) (pins : List (Addr × Obj)) (σ : List (Option V)) (H : Hp) (s : Shared) : Prop where
  ok : X.Ok
  os : s.os = X.s₀.os
  bare : AllBare s.gens
  base : Un X.fs X.ex X.H₀ H X.s₀.heap s.heap
  loc : ∃ m, s.heap.Ns X.env.locals m ∧ ∀ (i : Nat) (x : Str) (v : V), X.N[i]? = some x → σ[i]? = some (some v) → Vis X.env.scope x → ∃ u, RelV v u ∧ Look X.env s.heap m x u
  cell : ∀ x c, X.env.cells.lookup x = some c → ∃ v, s.heap.IsCell c v
  free : H X.env.locals = none
  freeC : ∀ x c, X.env.cells.lookup x = some c → H c = none
  pin : ∀ p ∈ X.pn ++ pins, s.heap.get? p.1 = some p.2 ∧ H p.1 = none ∧ p.1 ≠ X.env.locals ∧ p.1 ∉ X.fs ∧ ∀ v, p.2.data ≠ .cell v
  hok : HOk X.prog X.w H s.heap
  len : σ.length = X.N.length

section
variable {X : Cx} {pins : List (Addr × Obj)} {σ : List (Option V)} {H H' : Hp} {s : Shared} {h' : Heap}

theorem Cx.Ok.nofr (ok : X.Ok) {b : Addr} {o : Obj} (e : X.base.get? b = some o) : b ∉ X.fs := fun hb => by
  have := (ok.funs.mem hb).1
  rw [e] at this; cases this
theorem Inv.bs (I : Inv X pins σ H s) : ∀ b o, X.base.get? b = some o → s.heap.get? b = some o ∧ H b = none := fun b o e =>
  ⟨I.base.keep b o (I.ok.bs b o e).1 (I.ok.bs b o e).2 (I.ok.nofr e) (I.ok.noex b o e), I.base.free b o (I.ok.bs b o e).1 (I.ok.bs b o e).2 (I.ok.noex b o e)⟩
theorem Inv.bk (I : Inv X pins σ H s) : ∀ b o, X.base.get? b = some o → s.heap.get? b = some o := fun b o e => (I.bs b o e).1
theorem Inv.mod (I : Inv X pins σ H s) : Mod X.K X.mg X.base := I.ok.mod
theorem Inv.kIn (I : Inv X pins σ H s) : X.K.In s.heap := I.ok.mod.kin.keeps I.bk
theorem Inv.lt (I : Inv X pins σ H s) : X.env.locals < s.heap.objs.size := let ⟨_, hn, _⟩ := I.loc; hn.lt
theorem Inv.sz (I : Inv X pins σ H s) : X.s₀.heap.objs.size ≤ s.heap.objs.size := Nat.le_trans I.ok.above (Nat.le_of_lt I.lt)
theorem Inv.nofs (I : Inv X pins σ H s) {a : Addr} (h : s.heap.objs.size ≤ a) : a ∉ X.fs := fun hb => by
  obtain ⟨_, o, ho, _⟩ := I.ok.funs.mem hb
  exact absurd (Nat.lt_of_lt_of_le (Heap.lt_size ho) (Nat.le_trans I.sz h)) (Nat.lt_irrefl _)
theorem Inv.cne (I : Inv X pins σ H s) : ∀ x c, X.env.cells.lookup x = some c → c ≠ X.env.locals := fun x c e z => by
  obtain ⟨v, o, ho, hd⟩ := I.cell x c e
  obtain ⟨m, ⟨o', es, ep, ho', hd', _⟩, _⟩ := I.loc
  rw [z, ho'] at ho; cases ho; rw [hd'] at hd; cases hd
theorem Inv.funs (I : Inv X pins σ H s) : s.heap.FunFrames X.base X.outer := by
  have all : ∀ (l : List Env), (∀ b ∈ frs l, b ∈ X.fs) → X.s₀.heap.FunFrames X.base l → s.heap.FunFrames X.base l := by
    intro l
    induction l with
    | nil => intro _ _; trivial
    | cons env r ih =>
      intro hs hl
      obtain ⟨hk, ⟨L, o, hf, hn, ho, hd⟩, hr⟩ := hl
      have hL : L ∈ X.fs := hs L (by unfold frs; rw [List.filterMap_cons, hf]; exact List.mem_cons_self)
      obtain ⟨sl, e⟩ := I.base.slot L o ho (I.ok.frf L hL) hL fun z => I.ok.exfs L z hL
      exact ⟨hk, ⟨L, _, hf, hn, e, hd⟩, ih (fun b hb => hs b (by unfold frs; rw [List.filterMap_cons, hf]; exact List.mem_cons_of_mem _ hb)) hr⟩
  exact all X.outer (fun _ hb => hb) I.ok.funs

/-- the frames that run, for a call -/
theorem Inv.stack (I : Inv X pins σ H s) : s.heap.FunFrames X.base X.stack := by
  rcases I.ok.stk with e | ⟨e, hf⟩
  · rw [e]; exact I.funs
  · rw [e]
    obtain ⟨m, hn, _⟩ := I.loc
    refine .cons (by rw [I.ok.kind]; decide) hf hn ?_ I.funs
    exact Heap.get?_none_of_le (Nat.le_trans I.ok.bsz I.ok.above)
theorem Inv.stkSub (I : Inv X pins σ H s) : ∀ b ∈ frs X.stack, b ∈ X.env.locals :: X.fs := fun b hb => by
  rcases I.ok.stk with e | ⟨e, hf⟩
  · rw [e] at hb; exact List.mem_cons_of_mem _ hb
  · rw [e] at hb
    unfold frs at hb
    rw [List.filterMap_cons, hf] at hb
    exact hb
theorem Inv.stkFree (I : Inv X pins σ H s) : ∀ b ∈ frs X.stack, H b = none := fun b hb => by
  rcases List.mem_cons.mp (I.stkSub b hb) with e | hb
  · rw [e]; exact I.free
  · obtain ⟨_, o, ho, _⟩ := I.ok.funs.mem hb
    exact I.base.free b o ho (I.ok.frf b hb) fun z => I.ok.exfs b z hb

/-- THE STEP: the untracked objects but the frame and the records at ch are kept (the callers' frames up to slots), the frame's map is kept, the new abstract heap is held -/
theorem Inv.step {g' : Array GenState} {t' : Nat} {d' : Drawn} {ch : List Addr} (I : Inv X pins σ H s)
    (hch : ∀ b ∈ ch, (b ∈ X.ex ∨ X.s₀.heap.objs.size ≤ b) ∧ b ≠ X.env.locals ∧ (∀ x c, X.env.cells.lookup x = some c → c ≠ b) ∧ ∀ p ∈ X.pn ++ pins, p.1 ≠ b)
    (keep : ∀ b o, b ≠ X.env.locals → b ∉ X.fs → b ∉ ch → s.heap.get? b = some o → H b = none → h'.get? b = some o)
    (slot : ∀ b o, b ≠ X.env.locals → b ∈ X.fs → b ∉ ch → s.heap.get? b = some o → H b = none → ∃ sl, h'.get? b = some { o with slots := sl }) (free : ∀ b o, b ∉ ch → s.heap.get? b = some o → H b = none → H' b = none)
    (there : ∀ b o, b ∉ ch → s.heap.get? b = some o → ∃ o', h'.get? b = some o')
    (tups : ∀ b xs, H b = some (.tup xs) → H' b = some (.tup xs)) (frzs : ∀ b o u, H b = some (.frz o u) → H' b = some (.frz o u)) (tbls : ∀ b ps, H b = some (.tbl ps) → ∃ more, H' b = some (.tbl (ps ++ more)))
    (ns : ∀ m, s.heap.Ns X.env.locals m → h'.Ns X.env.locals m) (hok : HOk X.prog X.w H' h') (hg : AllBare g') :
    Inv X pins σ H' { s with heap := h', gens := g', drawn := d', toks := t' } := by
  have neL : ∀ b o, X.s₀.heap.get? b = some o → b ≠ X.env.locals := fun b o e => Nat.ne_of_lt (Nat.lt_of_lt_of_le (Heap.lt_size e) I.ok.above)
  have neC : ∀ b o, X.s₀.heap.get? b = some o → b ∉ X.ex → b ∉ ch := fun b o e hx hb => by
    rcases (hch b hb).1 with z | z
    · exact hx z
    · exact absurd (Nat.lt_of_lt_of_le (Heap.lt_size e) z) (Nat.lt_irrefl _)
  have cellK : ∀ x c, X.env.cells.lookup x = some c → ∀ v, s.heap.IsCell c v → h'.IsCell c v := fun x c e v ⟨o, ho, hd⟩ => by
    have nch : c ∉ ch := fun z => (hch c z).2.2.1 x c e rfl
    by_cases hc : c ∈ X.fs
    · obtain ⟨sl, q⟩ := slot c o (I.cne x c e) hc nch ho (I.freeC x c e)
      exact ⟨_, q, hd⟩
    · exact ⟨o, keep c o (I.cne x c e) hc nch ho (I.freeC x c e), hd⟩
  refine ⟨I.ok, I.os, hg, ⟨fun b o e n hb hx => ?_, fun b o e n hb hx => ?_, fun b o e n hx => ?_, fun b o e hx => ?_, fun b xs e => tups b xs (I.base.tups b xs e), fun b o xs e => frzs b o xs (I.base.frzs b o xs e), fun b ps e => ?_⟩, ?_, fun x c e => ?_, ?_, fun x c e => ?_, fun p hp => ?_, hok, I.len⟩
  · exact keep b o (neL b o e) hb (neC b o e hx) (I.base.keep b o e n hb hx) (I.base.free b o e n hx)
  · obtain ⟨sl, e1⟩ := I.base.slot b o e n hb hx
    obtain ⟨sl', e2⟩ := slot b _ (neL b o e) hb (neC b o e hx) e1 (I.base.free b o e n hx)
    exact ⟨sl', e2⟩
  · obtain ⟨o', e1⟩ := I.base.there b o e hx
    exact free b o' (neC b o e hx) e1 (I.base.free b o e n hx)
  · obtain ⟨o', e1⟩ := I.base.there b o e hx
    exact there b o' (neC b o e hx) e1
  · obtain ⟨m1, e1⟩ := I.base.tbls b ps e
    obtain ⟨m2, e2⟩ := tbls b _ e1
    exact ⟨m1 ++ m2, by rw [e2, Array.append_assoc]⟩
  · obtain ⟨m, hn, hl⟩ := I.loc
    refine ⟨m, ns m hn, fun i x v e1 e2 e3 => ?_⟩
    obtain ⟨u, r, l⟩ := hl i x v e1 e2 e3
    refine ⟨u, r, ?_⟩
    rcases l with l | ⟨k, c, e, z⟩
    · exact .inl l
    · exact .inr ⟨k, c, e, cellK x c e _ z⟩
  · obtain ⟨v, z⟩ := I.cell x c e
    exact ⟨v, cellK x c e v z⟩
  · obtain ⟨m, ⟨o, _, _, ho, _⟩, _⟩ := I.loc
    exact free _ o (fun z => (hch _ z).2.1 rfl) ho I.free
  · obtain ⟨v, o, ho, hd⟩ := I.cell x c e
    exact free c o (fun z => (hch c z).2.2.1 x c e rfl) ho (I.freeC x c e)
  · obtain ⟨e, n, ne, nf, d⟩ := I.pin p hp
    have nch : p.1 ∉ ch := fun z => (hch p.1 z).2.2.2 p hp rfl
    exact ⟨keep p.1 p.2 ne nf nch e n, free p.1 p.2 nch e n, ne, nf, d⟩
/-- .. where the frame's own object is kept too -/
theorem Inv.un {t' : Nat} (I : Inv X pins σ H s) (u : Un X.fs [] H H' s.heap h') (hok : HOk X.prog X.w H' h') : Inv X pins σ H' { s with heap := h', toks := t' } := by
  obtain ⟨m, ⟨o, es, ep, ho, r⟩, _⟩ := id I.loc
  obtain ⟨sl, hL⟩ := u.any ho I.free (by simp)
  exact I.step (g' := s.gens) (d' := s.drawn) (ch := []) (fun _ z => nomatch z) (fun b o _ hb _ e n => u.keep b o e n hb (by simp)) (fun b o _ hb _ e n => u.slot b o e n hb (by simp)) (fun b o _ e n => u.free b o e n (by simp)) (fun b o _ e => u.there b o e (by simp)) u.tups u.frzs u.tbls (fun m' hm => by
    obtain ⟨o', es', ep', ho', r'⟩ := hm
    rw [ho] at ho'; cases ho'
    exact ⟨_, es', ep', hL, r'⟩) hok I.bare
/-- behind a call (or a comprehension's block): the slots of this frame may have changed too, the records at ch may have turned -/
theorem Inv.call {g' : Array GenState} {t' : Nat} {d' : Drawn} {ch : List Addr} (I : Inv X pins σ H s) (u : Un (frs X.stack) ch H H' s.heap h') (hok : HOk X.prog X.w H' h') (hg : AllBare g')
    (hch : ∀ b ∈ ch, (b ∈ X.ex ∨ X.s₀.heap.objs.size ≤ b) ∧ b ≠ X.env.locals ∧ (∀ x c, X.env.cells.lookup x = some c → c ≠ b) ∧ ∀ p ∈ X.pn ++ pins, p.1 ≠ b) :
    Inv X pins σ H' { s with heap := h', gens := g', drawn := d', toks := t' } := by
  obtain ⟨m, ⟨o, es, ep, ho, r⟩, _⟩ := id I.loc
  obtain ⟨sl, hL⟩ := u.any ho I.free fun z => (hch _ z).2.1 rfl
  exact I.step (ch := ch) hch (fun b o hL hb hc e n => u.keep b o e n (fun z => (List.mem_cons.mp (I.stkSub b z)).elim hL hb) hc) (fun b o _ _ hc e n => u.any e n hc) (fun b o hc e n => u.free b o e n hc) (fun b o hc e => u.there b o e hc) u.tups u.frzs u.tbls (fun m' hm => by
    obtain ⟨o', es', ep', ho', r'⟩ := hm
    rw [ho] at ho'; cases ho'
    exact ⟨_, es', ep', hL, r'⟩) hok hg
/-- an untracked record of ours (an iterator) has turned -/
theorem Inv.turned {t' : Nat} {it : Addr} (I : Inv X pins σ H s) (k : ∀ b o, b ≠ it → s.heap.get? b = some o → h'.get? b = some o) (hn : H it = none) (hL : it ≠ X.env.locals)
    (h1 : it ∈ X.ex ∨ X.s₀.heap.objs.size ≤ it) (h2 : ∀ x c, X.env.cells.lookup x = some c → c ≠ it) (h3 : ∀ p ∈ X.pn ++ pins, p.1 ≠ it) : Inv X pins σ H { s with heap := h', toks := t' } := by
  have nit : ∀ b u, H b = some u → b ≠ it := fun b u e z => by rw [z, hn] at e; cases e
  refine I.step (g' := s.gens) (d' := s.drawn) (ch := [it]) (fun b hb => ?_) (fun b o _ _ hc e _ => k b o (fun z => hc (by simp [z])) e) (fun b o _ _ hc e _ => ⟨o.slots, k b o (fun z => hc (by simp [z])) e⟩) (fun _ _ _ _ n => n)
    (fun b o hc e => ⟨o, k b o (fun z => hc (by simp [z])) e⟩) (fun _ _ e => e) (fun _ _ _ e => e) (fun b ps e => ⟨#[], by rw [e]; simp⟩) (fun m hm => ?_) (fun b u e => ?_) I.bare
  · have e : b = it := by simpa using hb
    subst e
    exact ⟨h1, hL, h2, h3⟩
  · obtain ⟨o, es, ep, ho, r⟩ := hm
    exact ⟨o, es, ep, k _ o (Ne.symm hL) ho, r⟩
  · refine (I.hok b u e).stay (fun c v hc q => k c v ?_ q) (fun _ q => q) fun _ _ q => q
    rcases hc with z | z
    · rw [z]; exact nit b u e
    · exact nit c _ z
theorem Inv.tok (I : Inv X pins σ H s) (t : Nat) : Inv X pins σ H { s with toks := t } := I.un (h' := s.heap) (t' := t) Un.refl I.hok
/-- all objects kept -/
theorem Inv.kept {t' : Nat} (I : Inv X pins σ H s) (k : ∀ b u, s.heap.get? b = some u → h'.get? b = some u) : Inv X pins σ H { s with heap := h', toks := t' } := I.un (Un.kept k) (I.hok.kept k)
/-- a new object laid and tracked -/
theorem Inv.laid {a : Addr} {o : HO} {t' : Nat} (I : Inv X pins σ H s) (k : ∀ b u, s.heap.get? b = some u → h'.get? b = some u) (hp : s.heap.objs.size ≤ a) (new : ObjOk X.prog X.w (upd H a o) h' a o) :
    Inv X pins σ (upd H a o) { s with heap := h', toks := t' } := I.un (Un.laid k hp (I.hok.fresh hp)) (I.hok.laid k hp new)
/-- an object written -/
theorem Inv.write {x e : Addr} {o : HO} {t' : Nat} (I : Inv X pins σ H s) (mu : Mut (H x)) (he : e = x ∨ H e = some (.own x)) (k : ∀ b u, b ≠ e → s.heap.get? b = some u → h'.get? b = some u) (heo : ∃ u, h'.get? e = some u)
    (new : ObjOk X.prog X.w (upd H x o) h' x o) : Inv X pins σ (upd H x o) { s with heap := h', toks := t' } := I.un (Un.write mu he k heo) (I.hok.write mu he k heo new)
theorem Inv.pins_of {pins' : List (Addr × Obj)} (I : Inv X pins σ H s) (h : ∀ p ∈ pins', s.heap.get? p.1 = some p.2 ∧ H p.1 = none ∧ p.1 ≠ X.env.locals ∧ p.1 ∉ X.fs ∧ ∀ v, p.2.data ≠ .cell v) : Inv X pins' σ H s :=
  ⟨I.ok, I.os, I.bare, I.base, I.loc, I.cell, I.free, I.freeC, fun p hp => (List.mem_append.mp hp).elim (fun z => I.pin p (List.mem_append_left _ z)) (h p), I.hok, I.len⟩

theorem nodup_ix {N : List Str} (hN : N.Nodup) {i j : Nat} {x : Str} (a : N[i]? = some x) (b : N[j]? = some x) : i = j := by
  obtain ⟨h1, e1⟩ := List.getElem?_eq_some_iff.mp a
  obtain ⟨h2, e2⟩ := List.getElem?_eq_some_iff.mp b
  exact (List.getElem_inj hN).mp (e1.trans e2.symm)

/-- a name is stored; what changed -/
theorem store_ok2 {M : Model} {A : Around} {E : Value → Shared → Prop} {i : Nat} {x : Str} {v : V} {u : Value} {Q : Unit → Shared → Prop} (I : Inv X pins σ H s) (hN : X.N.Nodup) (hi : X.N[i]? = some x) (hx : Loc X.env.scope x) (r : RelV v u)
    (h : ∀ s', Inv X pins (σ.set i (some v)) H s' → (∃ a, Heap.SameBut a s.heap s'.heap ∧ (a = X.env.locals ∨ X.env.cells.lookup x = some a)) → Q () s') (hf : X.fn x = true ∨ X.env.scope.names.lookup x = some .local := by first | exact .inl rfl | exact .inr rfl | assumption) : wpAny M A (storeName X.env x u) Q E s := by
  obtain ⟨m, hn, hl⟩ := id I.loc
  have hcls : (X.env.scope.kind == .class || (X.env.scope.kind == .module && X.env.locals != X.env.globals)) = false := by rw [I.ok.kind]; rfl
  have hiσ : i < σ.length := by rw [I.len]; exact (List.getElem?_eq_some_iff.mp hi).1
  have cne := I.cne
  have tracked : ∀ {a : Addr} {h' : Heap}, (∃ o, s.heap.get? a = some o ∧ H a = none) → Heap.SameBut a s.heap h' → HOk X.prog X.w H h' := fun {a h'} ha hs b ob e => by
    obtain ⟨_, _, hfree⟩ := ha
    refine (I.hok b ob e).stay (fun c w' hc q => (hs.2 c ?_).trans q) (fun _ q => q) fun _ _ q => q
    rintro rfl
    rcases hc with rfl | hc
    · rw [hfree] at e; cases e
    · rw [hfree] at hc; cases hc
  rcases hx with hk | hk
  · refine wpAny_storeName_local hk hn (fun h' hn' hs => ?_) hcls
    obtain ⟨oL, _, _, hoL, _⟩ := id hn
    refine h _ ⟨I.ok, I.os, I.bare, ⟨fun b o e n hb hx => ?_, fun b o e n hb hx => ?_, I.base.free, fun b o e hx => ?_, I.base.tups, I.base.frzs, I.base.tbls⟩, ⟨_, hn', fun j y v' e1 e2 e3 => ?_⟩, fun y c e => ?_, I.free, I.freeC, fun p hp => ?_, tracked ⟨oL, hoL, I.free⟩ hs, by simpa using I.len⟩ ⟨_, hs, .inl rfl⟩
    · exact (hs.2 b (Nat.ne_of_lt (Nat.lt_of_lt_of_le (Heap.lt_size e) I.ok.above))).trans (I.base.keep b o e n hb hx)
    · obtain ⟨sl, e1⟩ := I.base.slot b o e n hb hx
      exact ⟨sl, (hs.2 b (Nat.ne_of_lt (Nat.lt_of_lt_of_le (Heap.lt_size e) I.ok.above))).trans e1⟩
    · obtain ⟨o', e1⟩ := I.base.there b o e hx
      exact ⟨o', (hs.2 b (Nat.ne_of_lt (Nat.lt_of_lt_of_le (Heap.lt_size e) I.ok.above))).trans e1⟩
    · by_cases hj : j = i
      · subst hj
        rw [hi] at e1; cases e1
        rw [List.getElem?_set_self hiσ] at e2
        cases e2
        exact ⟨u, r, .inl ⟨hk, by simp⟩⟩
      · rw [List.getElem?_set_ne (Ne.symm hj)] at e2
        obtain ⟨u', r', q⟩ := hl j y v' e1 e2 e3
        refine ⟨u', r', ?_⟩
        rcases q with ⟨k, e⟩ | ⟨k, c, e, z⟩
        · refine .inl ⟨k, ?_⟩
          have : y ≠ x := fun e => hj (nodup_ix hN e1 (e ▸ hi))
          simp [this, e]
        · exact .inr ⟨k, c, e, z.sameBut hs (cne y c e)⟩
    · obtain ⟨w', z⟩ := I.cell y c e
      exact ⟨w', z.sameBut hs (cne y c e)⟩
    · obtain ⟨e, n, ne, nf, d⟩ := I.pin p hp
      exact ⟨(hs.2 p.1 ne).trans e, n, ne, nf, d⟩
  · have hfn : X.fn x = true := by
      rcases hf with z | z
      · exact z
      · rw [z] at hk; cases hk
    obtain ⟨c, hc⟩ := I.ok.has x (.inl hk)
    obtain ⟨w', z⟩ := I.cell x c hc
    refine wpAny_storeName_cell I.ok.kind hk hc z (fun h' hc' hs => ?_)
    obtain ⟨oc, hoc, hocd⟩ := id z
    refine h { s with heap := h' } ⟨I.ok, I.os, I.bare, ⟨fun b o e n hb hx => ?_, fun b o e n hb hx => ?_, I.base.free, fun b o e hx => ?_, I.base.tups, I.base.frzs, I.base.tbls⟩, ⟨m, hn.sameBut hs (Ne.symm (cne x c hc)), fun j y v' e1 e2 e3 => ?_⟩, fun y c' e => ?_, I.free, I.freeC, fun p hp => ?_, tracked ⟨oc, hoc, I.freeC x c hc⟩ hs, by simpa using I.len⟩ ⟨c, hs, .inr hc⟩
    · exact (hs.2 b (Nat.ne_of_lt (Nat.lt_of_lt_of_le (Heap.lt_size e) (I.ok.cab x c hfn hc)))).trans (I.base.keep b o e n hb hx)
    · obtain ⟨sl, e1⟩ := I.base.slot b o e n hb hx
      exact ⟨sl, (hs.2 b (Nat.ne_of_lt (Nat.lt_of_lt_of_le (Heap.lt_size e) (I.ok.cab x c hfn hc)))).trans e1⟩
    · obtain ⟨o', e1⟩ := I.base.there b o e hx
      exact ⟨o', (hs.2 b (Nat.ne_of_lt (Nat.lt_of_lt_of_le (Heap.lt_size e) (I.ok.cab x c hfn hc)))).trans e1⟩
    · by_cases hj : j = i
      · subst hj
        rw [hi] at e1; cases e1
        rw [List.getElem?_set_self hiσ] at e2
        cases e2
        exact ⟨u, r, .inr ⟨.inl hk, c, hc, hc'⟩⟩
      · rw [List.getElem?_set_ne (Ne.symm hj)] at e2
        obtain ⟨u', r', q⟩ := hl j y v' e1 e2 e3
        refine ⟨u', r', ?_⟩
        rcases q with q | ⟨k, c', e, z'⟩
        · exact .inl q
        · refine .inr ⟨k, c', e, z'.sameBut hs ?_⟩
          rintro rfl
          exact hj (nodup_ix hN e1 (I.ok.inj _ _ _ e hc ▸ hi))
    · by_cases hcc : c' = c
      · subst hcc; exact ⟨_, hc'⟩
      · obtain ⟨w2, z2⟩ := I.cell y c' e
        exact ⟨w2, z2.sameBut hs hcc⟩
    · obtain ⟨e, n, ne, nf, d⟩ := I.pin p hp
      refine ⟨(hs.2 p.1 ?_).trans e, n, ne, nf, d⟩
      intro q
      rw [q, hoc] at e
      have q' : oc = p.2 := Option.some.inj e
      exact d w' (by rw [← q']; exact hocd)
theorem store_ok {M : Model} {A : Around} {E : Value → Shared → Prop} {i : Nat} {x : Str} {v : V} {u : Value} {Q : Unit → Shared → Prop} (I : Inv X pins σ H s) (hN : X.N.Nodup) (hi : X.N[i]? = some x) (hx : Loc X.env.scope x) (r : RelV v u)
    (h : ∀ s', Inv X pins (σ.set i (some v)) H s' → Q () s') (hf : X.fn x = true ∨ X.env.scope.names.lookup x = some .local := by first | exact .inl rfl | exact .inr rfl | assumption) : wpAny M A (storeName X.env x u) Q E s :=
  store_ok2 I hN hi hx r (fun s' I' _ => h s' I') hf
/-- behind a call or a block, the state as it is -/
theorem Inv.call' {s' : Shared} {ch : List Addr} (I : Inv X pins σ H s) (ho : s'.os = s.os) (u : Un (frs X.stack) ch H H' s.heap s'.heap) (hok : HOk X.prog X.w H' s'.heap) (hg : AllBare s'.gens)
    (hch : ∀ b ∈ ch, (b ∈ X.ex ∨ X.s₀.heap.objs.size ≤ b) ∧ b ≠ X.env.locals ∧ (∀ x c, X.env.cells.lookup x = some c → c ≠ b) ∧ ∀ p ∈ X.pn ++ pins, p.1 ≠ b) : Inv X pins σ H' s' := by
  obtain ⟨h', g', d', t', o'⟩ := s'
  have e : o' = s.os := ho
  subst e
  exact I.call (g' := g') (t' := t') (d' := d') u hok hg hch
end

/-! ### the judgements -/
/-- an exception: its class, its own dict's address (where it has one), the abstract heap behind it -/
abbrev XK := Value → Option Addr → Hp → Prop
abbrev St := List (Option V)
abbrev VK := V → Hp → Prop
/-- an expression's reading; a test's; an argument list's -/
abbrev TE := St → Hp → VK → Prop
abbrev TT := St → Hp → (Bool → Hp → Prop) → Prop
abbrev TA := St → Hp → (List V → Hp → Prop) → Prop
/-- what is wanted behind a statement -/
structure Ends where
  nx : St → Hp → Prop
  rt : VK
  bk : St → Hp → Prop := fun _ _ => False
  ct : St → Hp → Prop := fun _ _ => False
abbrev TS := Ends → St → Hp → Prop

def EP (X : Cx) (pins : List (Addr × Obj)) (σ : St) (Q : VK) (u : Value) (s' : Shared) : Prop := ∃ v H', Inv X pins σ H' s' ∧ RelV v u ∧ Q v H'
def TP (X : Cx) (pins : List (Addr × Obj)) (σ : St) (Q : Bool → Hp → Prop) (b : Bool) (s' : Shared) : Prop := ∃ H', Inv X pins σ H' s' ∧ Q b H'
def AP (X : Cx) (pins : List (Addr × Obj)) (σ : St) (Q : List V → Hp → Prop) (us : List Value) (s' : Shared) : Prop := ∃ vs H', Inv X pins σ H' s' ∧ Vals vs us ∧ Q vs H'
def SP (X : Cx) (pins : List (Addr × Obj)) (D : Ends) (f : Flow) (s' : Shared) : Prop :=
  match f with
  | .next => ∃ σ' H', Inv X pins σ' H' s' ∧ D.nx σ' H'
  | .brk => ∃ σ' H', Inv X pins σ' H' s' ∧ D.bk σ' H'
  | .cont => ∃ σ' H', Inv X pins σ' H' s' ∧ D.ct σ' H'
  | .ret u => ∃ v σ' H', Inv X pins σ' H' s' ∧ RelV v u ∧ D.rt v H'

def PE (X : Cx) (e : Expr) (t : TE) : Prop :=
  ∀ (pins : List (Addr × Obj)) (s : Shared) (σ : St) (H : Hp) (Q : VK), Inv X pins σ H s → t σ H Q → wpAny (model X.prog X.w) X.A (eval e X.env) (EP X pins σ Q) X.xe s
def PT (X : Cx) (e : Expr) (t : TT) : Prop :=
  ∀ (pins : List (Addr × Obj)) (s : Shared) (σ : St) (H : Hp) (Q : Bool → Hp → Prop), Inv X pins σ H s → t σ H Q → wpAny (model X.prog X.w) X.A (isTrue e X.env (eval e X.env)) (TP X pins σ Q) X.xe s
/-- a test whatever its 'whole' is (and, or) -/
def PW (X : Cx) (e : Expr) (t : TT) : Prop :=
  ∀ (whole : Sem Value) (pins : List (Addr × Obj)) (s : Shared) (σ : St) (H : Hp) (Q : Bool → Hp → Prop), Inv X pins σ H s → t σ H Q → wpAny (model X.prog X.w) X.A (isTrue e X.env whole) (TP X pins σ Q) X.xe s
theorem PW.pt {X : Cx} {e : Expr} {t : TT} (h : PW X e t) : PT X e t := h _
/-- an argument list (no star), from the left -/
def PA (X : Cx) (es : List Expr) (t : TA) : Prop :=
  ∀ (pos : Pos) (pins : List (Addr × Obj)) (s : Shared) (σ : St) (H : Hp) (Q : List V → Hp → Prop), Inv X pins σ H s → t σ H Q → wpAny (model X.prog X.w) X.A (spliced (backTo pos (starEach es X.env))) (AP X pins σ Q) X.xe s
def PS (X : Cx) (st : Stmt) (t : TS) : Prop :=
  ∀ (pins : List (Addr × Obj)) (s : Shared) (σ : St) (H : Hp) (D : Ends), Inv X pins σ H s → t D σ H → wpAny (model X.prog X.w) X.A (exec st X.env) (SP X pins D) X.xe s
def PSs (X : Cx) (st : List Stmt) (t : TS) : Prop :=
  ∀ (pins : List (Addr × Obj)) (s : Shared) (σ : St) (H : Hp) (D : Ends), Inv X pins σ H s → t D σ H → wpAny (model X.prog X.w) X.A (execs st X.env) (SP X pins D) X.xe s
/-- weaken the end -/
theorem thn {α : Type} {t : Sem α} {Q Q' : α → Shared → Prop} {M : Model} {A : Around} {E : Value → Shared → Prop} {s : Shared} (h : wpAny M A t Q E s) (hQ : ∀ a s, Q a s → Q' a s) : wpAny M A t Q' E s := wpAny_mono h hQ fun _ _ x => x
end L2

namespace L2
open PySem PySem.Spec PyProof.Rows
section
variable {X : Cx}

/-- two expressions in a row -/
theorem bin {a b : Expr} {ta tb : TE} (ha : PE X a ta) (hb : PE X b tb) {pins : List (Addr × Obj)} {s : Shared} {σ : St} {H : Hp} {R : V → V → Hp → Prop} (I : Inv X pins σ H s) (h : ta σ H fun x H1 => tb σ H1 fun y H2 => R x y H2)
    {α : Type} {Q : α → Shared → Prop} {f : Value → Value → Sem α}
    (hf : ∀ v u s2 x y H2, Inv X pins σ H2 s2 → RelV x v → RelV y u → R x y H2 → wpAny (model X.prog X.w) X.A (f v u) Q X.xe s2) :
    wpAny (model X.prog X.w) X.A (eval a X.env) (fun v s₁ => wpAny (model X.prog X.w) X.A (eval b X.env) (fun u s₂ => wpAny (model X.prog X.w) X.A (f v u) Q X.xe s₂) X.xe s₁) X.xe s := by
  refine thn (ha pins s σ H _ I h) fun v s1 ⟨x, H1, I1, r1, q1⟩ => ?_
  refine thn (hb pins s1 σ H1 _ I1 q1) fun u s2 ⟨y, H2, I2, r2, q2⟩ => ?_
  exact hf v u s2 x y H2 I2 r1 r2 q2

/-! ### names and constants -/
def tVar (i : Nat) : TE := fun σ H Q => ∃ v, σ[i]? = some (some v) ∧ Q v H
def tC (v : V) : TE := fun _ H Q => Q v H
theorem pe_var {i : Nat} {x : Str} {pos : Pos} (hN : X.N[i]? = some x) (hv : Vis X.env.scope x) (hd : (x == ("__debug__" : Str)) = false := by decide) (hcd : (x == ("__classdict__" : Str)) = false := by decide) : PE X (.Name x pos) (tVar i) := by
  intro pins s σ H Q I h
  obtain ⟨v, e, h⟩ := h
  obtain ⟨m, hn, hl⟩ := I.loc
  obtain ⟨u, r, l⟩ := hl i x v hN e hv
  have fin : EP X pins σ Q u s := ⟨v, H, I, r, h⟩
  rcases l with ⟨hk, hm⟩ | ⟨hk, c, hc, hcell⟩
  · exact wpAny_Name (wpAny_loadName_local I.ok.kind hk hn hm fin) hd
  · rcases hk with hk | hk
    · exact wpAny_Name (wpAny_loadName_cell I.ok.kind hk hc hcell fin) hd
    · exact wpAny_Name (wpAny_loadName_free I.ok.kind hk hc hcell fin hcd) hd
theorem pe_int {i j pos} : PE X (.Constant (.int i) j pos) (tC (.int i)) := fun _ _ _ H _ I h => wpAny_Constant_int ⟨.int i, H, I.tok _, ⟨_, rfl⟩, h⟩
theorem pe_bl {b j pos} : PE X (.Constant (.bool b) j pos) (tC (.bl b)) := fun _ _ _ H _ I h => Constant_bool ⟨.bl b, H, I, rfl, h⟩
theorem pe_str {x j pos} : PE X (.Constant (.str x) j pos) (tC (.str x)) := fun _ _ _ H _ I h => Calls.Constant_str ⟨.str x, H, I.tok _, ⟨_, rfl⟩, h⟩

/-- a global name of the def -/
def Gl (X : Cx) (x : Str) : Prop := X.env.kindOf x = some .globalImplicit
theorem ld_glob {E : Value → Shared → Prop} {pins : List (Addr × Obj)} {s : Shared} {σ : St} {H : Hp} {x : Str} {u : Value} {pos : Pos} {Q : Value → Shared → Prop} (I : Inv X pins σ H s) (hg : Gl X x) (hm : X.mg x = some u) (h : Q u s)
    (hd : (x == ("__debug__" : Str)) = false := by decide) : wpAny (model X.prog X.w) X.A (eval (.Name x pos) X.env) Q E s :=
  Calls.Name_function_global I.ok.kind hg (Calls.loadGlobal_global (by rw [I.ok.glob]; exact I.mod.glob.keeps I.bk) hm h) hd
theorem ld_blt {E : Value → Shared → Prop} {pins : List (Addr × Obj)} {s : Shared} {σ : St} {H : Hp} {x : Str} {u : Value} {pos : Pos} {Q : Value → Shared → Prop} (I : Inv X pins σ H s) (hg : Gl X x) (hm : X.mg x = none) (hv : bootBuiltins x = some u) (h : Q u s)
    (hn : x ≠ "__name__" := by decide) (hd : (x == ("__debug__" : Str)) = false := by decide) : wpAny (model X.prog X.w) X.A (eval (.Name x pos) X.env) Q E s := by
  obtain ⟨mb, h1, h2⟩ := I.mod.blt
  exact Calls.Name_function_global I.ok.kind hg (Calls.loadGlobal_builtin (by rw [I.ok.glob]; exact I.mod.glob.keeps I.bk) hm (by rw [I.ok.blt]; exact h1.keeps I.bk) ((h2 x hn).trans hv) h) hd
/-- a module's constant, a class, a function, as a value -/
theorem pe_glob {x : Str} {v : V} {u : Value} {pos : Pos} (hg : Gl X x) (hm : X.mg x = some u) (r : RelV v u) (hd : (x == ("__debug__" : Str)) = false := by decide) : PE X (.Name x pos) (tC v) :=
  fun _ _ _ H _ I h => ld_glob I hg hm ⟨v, H, I, r, h⟩ hd
theorem pe_bltn {x : Str} {v : V} {u : Value} {pos : Pos} (hg : Gl X x) (hm : X.mg x = none) (hv : bootBuiltins x = some u) (r : RelV v u) (hn : x ≠ "__name__" := by decide) (hd : (x == ("__debug__" : Str)) = false := by decide) : PE X (.Name x pos) (tC v) :=
  fun _ _ _ H _ I h => ld_blt I hg hm hv ⟨v, H, I, r, h⟩ hn hd

/-! ### arithmetic -/
variable {a b : Expr} {ta tb : TE} {pos : Pos}
/-! ### comparisons -/
def PC (X : Cx) (op : CmpOp) (a b : Expr) (t : TE) : Prop :=
  ∀ (pins : List (Addr × Obj)) (s : Shared) (σ : St) (H : Hp) (Q : VK), Inv X pins σ H s → t σ H Q →
    wpAny (model X.prog X.w) X.A (eval a X.env) (fun v s₁ => wpAny (model X.prog X.w) X.A (eval b X.env) (fun u s₂ => wpAny (model X.prog X.w) X.A (compareOp op v u) (EP X pins σ Q) X.xe s₂) X.xe s₁) X.xe s
theorem nobehind (b : Expr) {op : CmpOp} (h : op ≠ .In) (h2 : op ≠ .NotIn) : behindInMarks op b = false := by
  have e1 : (op == CmpOp.In) = false := by cases op <;> first | rfl | exact absurd rfl h
  have e2 : (op == CmpOp.NotIn) = false := by cases op <;> first | rfl | exact absurd rfl h2
  cases b <;> simp [behindInMarks, e1, e2]
/-- a comparison as a value, as a test -/
def tB (t : TE) : TT := fun σ H Q => t σ H fun x H1 => ∃ c, x = .bl c ∧ Q c H1
theorem pt_cmp {op : CmpOp} {t : TE} (h : PC X op a b t) (h1 : behindInMarks op b = false := by first | exact nobehind _ (by decide) (by decide) | rfl) : PT X (.Compare a [op] [b] pos) (tB t) := by
  intro pins s σ H Q I hw
  refine wpAny_isTrue_Compare1 (thn (h pins s σ H _ I hw) fun v s1 h1 => thn h1 fun u s2 h2 => thn h2 fun c s3 ⟨x, H1, I1, r1, q1⟩ => ?_) h1
  obtain ⟨d, rfl, q⟩ := q1
  cases r1
  exact wpAny_truthy_bool ⟨H1, I1, q⟩
/-- an expression whose value is a bool, as a test -/
theorem pt_val {e : Expr} {t : TE} (h : PE X e t) (he : ∀ whole, isTrue e X.env whole = (do let v ← whole; standAt e.pos; holding [v] (truthy v)) := by intro _; rfl) : PT X e (tB t) := by
  intro pins s σ H Q I hw
  refine isTrue_plain (thn (h pins s σ H _ I hw) fun v s1 ⟨x, H1, I1, r1, q1⟩ => ?_) (he _)
  obtain ⟨d, rfl, q⟩ := q1
  cases r1
  exact wpAny_truthy_bool ⟨H1, I1, q⟩

/-! ### and, or, not -/
variable {tA tB' : TT} {rest : List Expr}
def tAnd (t u : TT) : TT := fun σ H Q => t σ H fun c H1 => if c = true then u σ H1 Q else Q false H1
def tOr (t u : TT) : TT := fun σ H Q => t σ H fun c H1 => if c = true then Q true H1 else u σ H1 Q
def tNot (t : TT) : TT := fun σ H Q => t σ H fun c H1 => Q (!c) H1
theorem pw_and1 (ha : PT X a tA) : PW X (.BoolOp .And [a] pos) tA := by
  intro wh pins s σ H Q I h
  refine isTrue_and (thn (ha pins s σ H Q I h) fun c s1 e => ?_)
  cases c with
  | true => exact isTrue_and_nil e
  | false => exact e
theorem pw_or1 (ha : PT X a tA) : PW X (.BoolOp .Or [a] pos) tA := by
  intro wh pins s σ H Q I h
  refine isTrue_or (thn (ha pins s σ H Q I h) fun c s1 e => ?_)
  cases c with
  | false => exact isTrue_or_nil e
  | true => exact e
theorem pw_and (ha : PT X a tA) (hb : PW X (.BoolOp .And (b :: rest) pos) tB') : PW X (.BoolOp .And (a :: b :: rest) pos) (tAnd tA tB') := by
  intro wh pins s σ H Q I h
  refine isTrue_and (thn (ha pins s σ H _ I h) fun c s1 ⟨H1, I1, q1⟩ => ?_)
  cases c with
  | true => exact hb wh pins s1 σ H1 Q I1 q1
  | false => exact ⟨H1, I1, q1⟩
theorem pw_or (ha : PT X a tA) (hb : PW X (.BoolOp .Or (b :: rest) pos) tB') : PW X (.BoolOp .Or (a :: b :: rest) pos) (tOr tA tB') := by
  intro wh pins s σ H Q I h
  refine isTrue_or (thn (ha pins s σ H _ I h) fun c s1 ⟨H1, I1, q1⟩ => ?_)
  cases c with
  | true => exact ⟨H1, I1, q1⟩
  | false => exact hb wh pins s1 σ H1 Q I1 q1
theorem pt_not (ha : PT X a tA) : PT X (.UnaryOp .Not a pos) (tNot tA) := by
  intro pins s σ H Q I h
  exact isTrue_not (ha pins s σ H (fun c H1 => Q (!c) H1) I h)
/-- .. as values (bools) -/
def tAndV (ta tb : TE) : TE := fun σ H Q => ta σ H fun x H1 => ∃ c, x = .bl c ∧ if c = true then tb σ H1 Q else Q (.bl false) H1
def tOrV (ta tb : TE) : TE := fun σ H Q => ta σ H fun x H1 => ∃ c, x = .bl c ∧ if c = true then Q (.bl true) H1 else tb σ H1 Q
def tNotV (ta : TE) : TE := fun σ H Q => ta σ H fun x H1 => ∃ c, x = .bl c ∧ Q (.bl (!c)) H1
theorem pe_one {op} {t : TE} (h : PE X a t) : PE X (.BoolOp op [a] pos) t := fun pins s σ H Q I hw => BoolOp_one (h pins s σ H Q I hw)
theorem pe_and (ha : PE X a ta) (hb : PE X (.BoolOp .And (b :: rest) pos) tb) : PE X (.BoolOp .And (a :: b :: rest) pos) (tAndV ta tb) := by
  intro pins s σ H Q I h
  refine BoolOp_and (thn (ha pins s σ H _ I h) fun v s1 ⟨x, H1, I1, r1, q1⟩ => ?_)
  obtain ⟨c, rfl, q1⟩ := q1
  cases r1
  refine wpAny_truthy_bool ?_
  cases c with
  | true => exact hb pins s1 σ H1 Q I1 q1
  | false => exact ⟨.bl false, H1, I1, rfl, q1⟩
theorem pe_or (ha : PE X a ta) (hb : PE X (.BoolOp .Or (b :: rest) pos) tb) : PE X (.BoolOp .Or (a :: b :: rest) pos) (tOrV ta tb) := by
  intro pins s σ H Q I h
  refine BoolOp_or (thn (ha pins s σ H _ I h) fun v s1 ⟨x, H1, I1, r1, q1⟩ => ?_)
  obtain ⟨c, rfl, q1⟩ := q1
  cases r1
  refine wpAny_truthy_bool ?_
  cases c with
  | false => exact hb pins s1 σ H1 Q I1 q1
  | true => exact ⟨.bl true, H1, I1, rfl, q1⟩
theorem pe_not (ha : PE X a ta) : PE X (.UnaryOp .Not a pos) (tNotV ta) := by
  intro pins s σ H Q I h
  refine UnaryOp_ (thn (ha pins s σ H _ I h) fun v s1 ⟨x, H1, I1, r1, q1⟩ => ?_)
  obtain ⟨c, rfl, q1⟩ := q1
  cases r1
  exact not_of (wpAny_truthy_bool ⟨.bl (!c), H1, I1, rfl, q1⟩)
end
end L2

namespace L2
open PySem PySem.Spec PyProof.Rows

/-! ### a list, a tuple that is read: tracked, frozen, or an object of the module -/
def SqL (K : PySem.W.Frag) (H : Hp) (a : Addr) (xs : List V) : Prop :=
  Rd H a (.lst xs) ∨
    ∃ (o : Obj) (its : Array Value) (n : Nat), K.lookup a = some o ∧ o.cls = .type "list" ∧ o.dict = none ∧ o.data = .seq its n ∧ its.size ≤ sizeLine ∧ Vals xs its.toList
def SqT (K : PySem.W.Frag) (H : Hp) (a : Addr) (xs : List V) : Prop :=
  Rd H a (.tup xs) ∨
    ∃ (o : Obj) (its : Array Value) (n : Nat), K.lookup a = some o ∧ o.cls = .type "tuple" ∧ o.data = .seq its n ∧ its.size ≤ sizeLine ∧ Vals xs its.toList
def absV : Value → Option V
  | .none => some .non
  | .bool b => some (.bl b)
  | .int i _ => some (.int i)
  | .str x _ => some (.str x)
  | .bytes b _ => some (.byt b)
  | .float b _ => some (.flt b)
  | .ref a => some (.ref a)
  | .type n => some (.ty n)
  | _ => none
theorem RelV.abs {x : V} {u : Value} (r : RelV x u) : absV u = some x := by
  cases x with
  | non => cases r; rfl
  | bl _ => cases r; rfl
  | int _ => obtain ⟨t, rfl⟩ := r; rfl
  | str _ => obtain ⟨t, rfl⟩ := r; rfl
  | byt _ => obtain ⟨t, rfl⟩ := r; rfl
  | flt _ => obtain ⟨t, rfl⟩ := r; rfl
  | ref _ => cases r; rfl
  | ty _ => cases r; rfl
theorem RelV.inj {x y : V} {u : Value} (r : RelV x u) (q : RelV y u) : x = y := Option.some.inj (r.abs.symm.trans q.abs)
theorem Vals.inj : ∀ {xs ys : List V} {us : List Value}, Vals xs us → Vals ys us → xs = ys
  | _, _, _, .nil, .nil => rfl
  | _, _, _, .cons r t, .cons r' t' => by rw [r.inj r', Vals.inj t t']
section
variable {X : Cx} {pins : List (Addr × Obj)} {σ : St} {H : Hp} {s : Shared} {a : Addr} {xs ys : List V}
theorem SqL.of {K : PySem.W.Frag} (h : H a = some (.lst xs)) : SqL K H a xs := .inl (.inl h)
theorem SqT.of {K : PySem.W.Frag} (h : H a = some (.tup xs)) : SqT K H a xs := .inl (.inl h)
theorem Inv.list (I : Inv X pins σ H s) (h : SqL X.K H a xs) : ∃ its : List Value, Vals xs its ∧ PlainL s.heap a its.toArray ∧ xs.length ≤ sizeLine := by
  rcases h with h | ⟨o, its, n, hk, hc, hd, hs, hz, r⟩
  · obtain ⟨z, its, n, r, e⟩ := h.ok I.hok
    exact ⟨its, r, ⟨_, n, e, rfl, rfl, rfl⟩, z⟩
  · refine ⟨its.toList, r, ⟨o, n, I.kIn a o hk, hc, hd, by simpa using hs⟩, ?_⟩
    have e := r.length
    simp only [Array.length_toList] at e
    omega
theorem Inv.tuple (I : Inv X pins σ H s) (h : SqT X.K H a xs) : ∃ its : List Value, Vals xs its ∧ IsTup s.heap a its.toArray ∧ xs.length ≤ sizeLine := by
  rcases h with h | ⟨o, its, n, hk, hc, hs, hz, r⟩
  · obtain ⟨z, its, r, p⟩ := h.ok I.hok
    exact ⟨its, r, p, z⟩
  · refine ⟨its.toList, r, ⟨o, I.kIn a o hk, hc, n, by simpa using hs⟩, ?_⟩
    have e := r.length
    simp only [Array.length_toList] at e
    omega
theorem Inv.list_inj (I : Inv X pins σ H s) (h : SqL X.K H a xs) (h' : SqL X.K H a ys) : xs = ys := by
  obtain ⟨its, r, ⟨o, n, e, _, _, d⟩, _⟩ := I.list h
  obtain ⟨its', r', ⟨o', n', e', _, _, d'⟩, _⟩ := I.list h'
  rw [e] at e'; cases e'
  rw [d] at d'
  injection d' with d1 _
  have : its = its' := by simpa using congrArg Array.toList d1
  subst this
  exact r.inj r'
end

/-! ### another wish about exceptions -/
abbrev Cx.wish (X : Cx) (E : Value → Shared → Prop) : Cx := { X with xe := E }
/-- no exception leaves -/
abbrev Cx.nox (X : Cx) : Cx := X.wish fun _ _ => False
theorem Cx.Ok.wish {X : Cx} (ok : X.Ok) (E : Value → Shared → Prop) : (X.wish E).Ok :=
  ⟨ok.mod, ok.kind, ok.glob, ok.blt, ok.above, ok.inj, ok.has, ok.cab, ok.hd, ok.frames, ok.stk, ok.exf, ok.bs, ok.bsz, ok.noex, ok.exfs, ok.funs, ok.frf⟩
theorem Cx.Ok.unwish {X : Cx} {E : Value → Shared → Prop} (ok : (X.wish E).Ok) : X.Ok :=
  ⟨ok.mod, ok.kind, ok.glob, ok.blt, ok.above, ok.inj, ok.has, ok.cab, ok.hd, ok.frames, ok.stk, ok.exf, ok.bs, ok.bsz, ok.noex, ok.exfs, ok.funs, ok.frf⟩
section
variable {X : Cx} {pins : List (Addr × Obj)} {σ : St} {H : Hp} {s : Shared} {E : Value → Shared → Prop}
theorem Inv.wish (I : Inv X pins σ H s) (E : Value → Shared → Prop) : Inv (X.wish E) pins σ H s := ⟨I.ok.wish E, I.os, I.bare, I.base, I.loc, I.cell, I.free, I.freeC, I.pin, I.hok, I.len⟩
theorem Inv.unwish (I : Inv (X.wish E) pins σ H s) : Inv X pins σ H s := ⟨I.ok.unwish, I.os, I.bare, I.base, I.loc, I.cell, I.free, I.freeC, I.pin, I.hok, I.len⟩
theorem SP.unwish {D : Ends} {f : Flow} {s' : Shared} (h : SP (X.wish E) pins D f s') : SP X pins D f s' := by
  cases f with
  | next => obtain ⟨σ', H', I, q⟩ := h; exact ⟨σ', H', I.unwish, q⟩
  | brk => obtain ⟨σ', H', I, q⟩ := h; exact ⟨σ', H', I.unwish, q⟩
  | cont => obtain ⟨σ', H', I, q⟩ := h; exact ⟨σ', H', I.unwish, q⟩
  | ret u => obtain ⟨v, σ', H', I, r, q⟩ := h; exact ⟨v, σ', H', I.unwish, r, q⟩
theorem PSs.nox {st : List Stmt} {t : TS} (h : PSs X.nox st t) : PSs X st t := fun pins s σ H D I hw =>
  wpAny_mono (h pins s σ H D (I.wish _) hw) (fun _ _ q => q.unwish) fun _ _ z => False.elim z
end

/-! ### blocks and small statements -/
section
variable {X : Cx} {st : Stmt} {rest : List Stmt} {t u : TS} {e : Expr} {te : TE} {pos : Pos}
def tNext : TS := fun D σ H => D.nx σ H
def tSeq (t u : TS) : TS := fun D σ H => t { D with nx := u D } σ H
theorem pss_nil : PSs X [] tNext := fun _ _ σ H _ I h => wpAny_execs_nil ⟨σ, H, I, h⟩
theorem pss_cons (h1 : PS X st t) (h2 : PSs X rest u) : PSs X (st :: rest) (tSeq t u) := by
  intro pins s σ H D I h
  refine wpAny_execs_cons (thn (h1 pins s σ H { D with nx := u D } I h) fun f s1 q => ?_)
  cases f with
  | next =>
    obtain ⟨σ', H', I', q⟩ := q
    exact h2 pins s1 σ' H' D I' q
  | ret v => exact q
  | brk => exact q
  | cont => exact q
theorem pss_one (h1 : PS X st t) : PSs X [st] t := by
  intro pins s σ H D I h
  refine wpAny_execs_cons (thn (h1 pins s σ H D I h) fun f s1 q => ?_)
  cases f with
  | next => exact wpAny_execs_nil q
  | ret v => exact q
  | brk => exact q
  | cont => exact q
/-- in a def's body nothing is shown -/
theorem Inv.quiet {pins : List (Addr × Obj)} {σ : St} {H : Hp} {s : Shared} (I : Inv X pins σ H s) : interactive X.env = false := by simp [interactive, I.ok.kind]
/-- an expression whose value is dropped -/
def tDrop (te : TE) : TS := fun D σ H => te σ H fun _ H1 => D.nx σ H1
theorem ps_expr (he : PE X e te) (hs : swapsWith e none pos.line X.env = pure false := by rfl) : PS X (.Expr e pos) (tDrop te) := by
  intro pins s σ H D I h
  exact wpAny_Expr_any (thn (he pins s σ H _ I h) fun v s1 ⟨x, H1, I1, r1, q1⟩ => ⟨σ, H1, I1, q1⟩) I.quiet hs
def tRet (te : TE) : TS := fun D σ H => te σ H D.rt
theorem ps_ret (he : PE X e te) : PS X (.Return (some e) pos) (tRet te) := by
  intro pins s σ H D I h
  exact wpAny_Return_some (thn (he pins s σ H _ I h) fun v s1 ⟨x, H1, I1, r1, q1⟩ => ⟨x, σ, H1, I1, r1, q1⟩)
def tIfS (c : TT) (t u : TS) : TS := fun D σ H => c σ H fun b H1 => if b = true then t D σ H1 else u D σ H1
theorem ps_if {c : Expr} {a b : List Stmt} {tc : TT} (hc : PT X c tc) (ha : PSs X a t) (hb : PSs X b u) : PS X (.If c a b pos) (tIfS tc t u) := by
  intro pins s σ H D I h
  refine wpAny_If (thn (hc pins s σ H _ I h) fun d s1 ⟨H1, I1, q1⟩ => ?_)
  cases d with
  | true => exact ha pins s1 σ H1 D I1 q1
  | false => exact hb pins s1 σ H1 D I1 q1
end

/-! ### targets -/
abbrev TG := V → St → Hp → (St → Hp → Prop) → Prop
abbrev TGs := List V → St → Hp → (St → Hp → Prop) → Prop
def PG (X : Cx) (target : Expr) (t : TG) : Prop :=
  ∀ (pins : List (Addr × Obj)) (s : Shared) (σ : St) (H : Hp) (v : V) (u : Value) (Q : St → Hp → Prop), Inv X pins σ H s → RelV v u → t v σ H Q →
    wpAny (model X.prog X.w) X.A (assign target X.env u) (fun _ s' => ∃ σ' H', Inv X pins σ' H' s' ∧ Q σ' H') X.xe s
/-- several targets, one after another -/
def PGs (X : Cx) (ts : List Expr) (t : TGs) : Prop :=
  ∀ (pins : List (Addr × Obj)) (s : Shared) (σ : St) (H : Hp) (vs : List V) (us : List Value) (Q : St → Hp → Prop), Inv X pins σ H s → Vals vs us → t vs σ H Q →
    wpAny (model X.prog X.w) X.A (assignInOrder ((assignEach ts X.env).map (·.2)) us) (fun _ s' => ∃ σ' H', Inv X pins σ' H' s' ∧ Q σ' H') X.xe s
section
variable {X : Cx} {pos : Pos}
def gName (i : Nat) : TG := fun v σ H Q => Q (σ.set i (some v)) H
theorem pg_name {i : Nat} {x : Str} (hN : X.N.Nodup) (hi : X.N[i]? = some x) (hx : Loc X.env.scope x) (hf : X.fn x = true ∨ X.env.scope.names.lookup x = some .local := by first | exact .inl rfl | exact .inr rfl | assumption) : PG X (.Name x pos) (gName i) := by
  intro pins s σ H v u Q I r h
  exact wpAny_assign_Name (store_ok I hN hi hx r (fun s' I' => ⟨_, H, I', h⟩) hf)
def gNil : TGs := fun vs σ H Q => vs = [] ∧ Q σ H
def gCons (t : TG) (u : TGs) : TGs := fun vs σ H Q => ∃ v r, vs = v :: r ∧ t v σ H fun σ' H' => u r σ' H' Q
theorem pgs_nil : PGs X [] gNil := by
  intro pins s σ H vs us Q I r h
  obtain ⟨e, h⟩ := h
  subst e
  cases r
  exact assignInOrder_nil ⟨σ, H, I, h⟩
theorem pgs_cons {e : Expr} {es : List Expr} {t : TG} {u : TGs} (h1 : PG X e t) (h2 : PGs X es u)
    (hs : (assignEach (e :: es) X.env).map (·.2) = assign e X.env :: (assignEach es X.env).map (·.2) := by rfl) : PGs X (e :: es) (gCons t u) := by
  intro pins s σ H vs us Q I r h
  obtain ⟨v, vr, e1, h⟩ := h
  subst e1
  cases r with
  | cons r rr =>
    rw [hs]
    refine assignInOrder_cons (thn (h1 pins s σ H _ _ _ I r h) fun _ s1 ⟨σ1, H1, I1, q1⟩ => ?_)
    exact h2 pins s1 σ1 H1 _ _ Q I1 rr q1
/-- (a, b, ..) = a tuple of that length -/
def gTup (K : PySem.W.Frag) (n : Nat) (t : TGs) : TG := fun v σ H Q => ∃ a xs, v = .ref a ∧ SqT K H a xs ∧ xs.length = n ∧ t xs σ H Q
theorem pg_tup {es : List Expr} {k : Nat} {t : TGs} {n : Nat} (hc : X.calm = true) (h : PGs X es t)
    (hn : (assignEach es X.env).length = n := by rfl) (hst : (assignEach es X.env).findIdx? (·.1) = none := by rfl) : PG X (.Tuple es k pos) (gTup X.K n t) := by
  intro pins s σ H v u Q I r hw
  obtain ⟨a, xs, e1, hq, hl, hw⟩ := hw
  subst e1
  cases r
  obtain ⟨its, rv, ht, hz⟩ := I.tuple hq
  refine assign_Tuple_tuple (I.ok.hd hc) ht (by simp [hn, ← hl, rv.length]) hst fun h' hx => ?_
  have I1 : Inv X pins σ H { s with heap := h' } := I.kept (t' := s.toks) fun b o e => hx b o (Nat.ne_of_lt (Heap.lt_size e)) e
  exact h pins _ σ H xs _ Q I1 (by simpa using rv) hw
/-- target = value -/
def tAsg (te : TE) (g : TG) : TS := fun D σ H => te σ H fun x H1 => g x σ H1 D.nx
theorem ps_asg {tg e : Expr} {te : TE} {g : TG} (he : PE X e te) (hg : PG X tg g) (hs : swapsWithSole [tg] e pos.line X.env = pure false := by rfl) (hw : swappedStores [tg] e X.env = pure none := by rfl)
    (h1 : (assignEach [tg] X.env).map (·.2) = [assign tg X.env] := by rfl) : PS X (.Assign [tg] e pos) (tAsg te g) := by
  intro pins s σ H D I h
  refine wpAny_Assign_stores (thn (he pins s σ H _ I h) fun v s1 ⟨x, H1, I1, r1, q1⟩ => ?_) hs hw
  rw [h1]
  exact thn (hg pins s1 σ H1 x v _ I1 r1 q1) fun _ s2 q => q
/-- name = value -/
theorem ps_set {i : Nat} {x : Str} {e : Expr} {te : TE} {pos' : Pos} (hN : X.N.Nodup) (hi : X.N[i]? = some x) (hx : Loc X.env.scope x) (he : PE X e te) (hs : swapsWith e (some (.Name x pos')) pos.line X.env = pure false := by rfl) (hf : X.fn x = true ∨ X.env.scope.names.lookup x = some .local := by first | exact .inl rfl | exact .inr rfl | assumption) :
    PS X (.Assign [.Name x pos'] e pos) (tAsg te (gName i)) := by
  intro pins s σ H D I h
  refine wpAny_Assign_Name (thn (he pins s σ H _ I h) fun v s1 ⟨y, H1, I1, r1, q1⟩ => ?_) hs
  exact store_ok I1 hN hi hx r1 (fun s2 I2 => ⟨_, H1, I2, q1⟩) hf
end

/-! ### while -/
section
variable {X : Cx} {pos : Pos}
end

/-! ### what a loop or a comprehension walks -/
/-- at turn i: it yields x (the heap may grow), or it stops -/
structure It where
  go : Nat → Hp → Prop
  yld : Nat → Hp → V → Hp → Prop
  stop : Nat → Hp → Prop
/-- the iterator's own objects may turn: they are not the frame's, not pinned, younger than the entry (or a comprehension's own) -/
def FpOk (X : Cx) (pins : List (Addr × Obj)) (H : Hp) (b : Addr) : Prop :=
  H b = none ∧ b ≠ X.env.locals ∧ b ∉ X.fs ∧ (b ∈ X.ex ∨ X.s₀.heap.objs.size ≤ b) ∧ (∀ x c, X.env.cells.lookup x = some c → c ≠ b) ∧ ∀ p ∈ X.pn ++ pins, p.1 ≠ b
theorem Inv.fpOk {X : Cx} {pins : List (Addr × Obj)} {σ : St} {H H' : Hp} {s : Shared} {b : Addr} (I : Inv X pins σ H s) (hb : s.heap.objs.size ≤ b) (hn : H' b = none) : FpOk X pins H' b := by
  refine ⟨hn, Nat.ne_of_gt (Nat.lt_of_lt_of_le I.lt hb), I.nofs hb, .inr (Nat.le_trans I.sz hb), fun x c e z => ?_, fun p hp z => ?_⟩
  · obtain ⟨v, q⟩ := I.cell x c e
    exact absurd (Nat.lt_of_lt_of_le q.lt (by rw [z]; exact hb)) (Nat.lt_irrefl _)
  · exact absurd (Nat.lt_of_lt_of_le (Heap.lt_size (I.pin p hp).1) (by rw [z]; exact hb)) (Nat.lt_irrefl _)
structure Turn (P : Program) (w : World) (K : PySem.W.Frag) (tg : Expr) (J : It) (fp : List Addr) (it : Addr) (tn : Nat → Heap → Prop) : Prop where
  mem : it ∈ fp
  obj : ∀ i h, tn i h → ∀ b ∈ fp, ∃ o, h.get? b = some o ∧ ∀ v, o.data ≠ .cell v
  keep : ∀ i h h', tn i h → (∀ b ∈ fp, ∀ o, h.get? b = some o → h'.get? b = some o) → tn i h'
  item : ∀ (X : Cx), X.prog = P → X.w = w → X.K = K → X.calm = true → ∀ (i : Nat) (pins : List (Addr × Obj)) (s : Shared) (σ : St) (H : Hp) (E : Value → Shared → Prop), Inv X pins σ H s → (∀ b ∈ fp, FpOk X pins H b) → tn i s.heap → J.go i H →
    wpAny (model P w) X.A (pyNext (.ref it)) (fun r s1 => ∃ u, r = some u ∧
      wpAny (model P w) X.A (letOwnedTupleGo tg (.ref it) u) (fun _ s2 => ∃ x H', Inv X pins σ H' s2 ∧ RelV x u ∧ J.yld i H x H' ∧ tn (i + 1) s2.heap ∧ ∀ b ∈ fp, H' b = none) E s1) E s
  done : ∀ (X : Cx), X.prog = P → X.w = w → X.K = K → X.calm = true → ∀ (i : Nat) (pins : List (Addr × Obj)) (s : Shared) (σ : St) (H : Hp) (E : Value → Shared → Prop), Inv X pins σ H s → (∀ b ∈ fp, FpOk X pins H b) → tn i s.heap → J.stop i H →
    wpAny (model P w) X.A (pyNext (.ref it)) (fun r s1 => r = none ∧ Inv X pins σ H s1) E s
  self : ∀ (A : Around) (i : Nat) (s : Shared) (Q : Value → Shared → Prop) (E : Value → Shared → Prop), tn i s.heap → Q (.ref it) s → wpAny (model P w) A (pyIter (.ref it)) Q E s
abbrev TI := St → Hp → (It → Hp → Prop) → Prop
/-- an iterator has come -/
def PIE (X : Cx) (pins : List (Addr × Obj)) (σ : St) (tg : Expr) (R : It → Hp → Prop) (itv : Value) (s2 : Shared) : Prop :=
  ∃ (it : Addr) (fp : List Addr) (tn : Nat → Heap → Prop) (J : It) (H' : Hp), itv = .ref it ∧ Inv X pins σ H' s2 ∧ Turn X.prog X.w X.K tg J fp it tn ∧ tn 0 s2.heap ∧ (∀ b ∈ fp, FpOk X pins H' b) ∧ R J H'
def PI (X : Cx) (tg iter : Expr) (wi : TI) : Prop :=
  ∀ (pins : List (Addr × Obj)) (s : Shared) (σ : St) (H : Hp) (R : It → Hp → Prop), Inv X pins σ H s → wi σ H R →
    wpAny (model X.prog X.w) X.A (eval iter X.env) (fun v s1 => wpAny (model X.prog X.w) X.A (pyIter v) (PIE X pins σ tg R) X.xe s1) X.xe s

/-- the step ahead of the store is nothing for an iterator that keeps no tuple -/
theorem go_of {M : Model} {A : Around} {E : Value → Shared → Prop} {s : Shared} {tg : Expr} {it : Addr} {u : Value} {o : Obj} {n : String} {vs : Array Value} {Q : Unit → Shared → Prop} (ho : s.heap.get? it = some o) (hc : o.cls = .type n) (hd : o.data = .fields vs)
    (hn : ["enumerate", "zip", "dict_itemiterator", "dict_reverseitemiterator", "odict_iterator", "itertools.zip_longest", "itertools.pairwise"].contains n = false) (hQ : Q () s) : wpAny M A (letOwnedTupleGo tg (.ref it) u) Q E s := by
  unfold letOwnedTupleGo
  cases tg <;> first
    | exact wpAny_pure hQ
    | (cases u <;> first
        | exact wpAny_pure hQ
        | (refine wpAny_bind (wpAny_load ho ?_)
           rw [hc, hd]
           show wpAny M A (if (["enumerate", "zip", "dict_itemiterator", "dict_reverseitemiterator", "odict_iterator", "itertools.zip_longest", "itertools.pairwise"].contains n && vs[0]? == some (rawInt _)) = true then _ else _) Q E s
           rw [if_neg (by intro h; rw [hn, Bool.false_and] at h; cases h)]
           exact wpAny_pure hQ))

/-- the list at a, as it stands at each turn (a loop may append to it) -/
def Itl (K : PySem.W.Frag) (a : Addr) : It :=
  ⟨fun i H => ∃ xs x, SqL K H a xs ∧ xs[i]? = some x, fun i H x H' => H' = H ∧ ∀ xs, SqL K H a xs → xs[i]? = some x, fun i H => ∃ xs, SqL K H a xs ∧ xs.length ≤ i⟩
/-- lo, lo + 1, .. (n of them) -/
def Itr (lo : Int) (n : Nat) : It := ⟨fun i _ => i < n, fun i H x H' => H' = H ∧ x = .int (lo + i), fun i _ => n ≤ i⟩
theorem turn_list {P : Program} {w : World} {K : PySem.W.Frag} {tg : Expr} (a it : Addr) : Turn P w K tg (Itl K a) [it] it (fun i h => h.IsListIter it a i) where
  mem := by simp
  obj := fun i h st b hb => by
    have e : b = it := by simpa using hb
    subst e
    obtain ⟨o, e, c, d⟩ := st
    exact ⟨o, e, fun v z => by rw [d] at z; cases z⟩
  keep := fun i h h' st k => st.at fun o e => k it (by simp) o e
  item := by
    intro X hP hw hK hc i pins s σ H E I hf st hg
    subst hP hw hK
    obtain ⟨xs, x, hq, hx⟩ := hg
    obtain ⟨its, rv, p, hz⟩ := I.list hq
    obtain ⟨u, hu, ru⟩ := rv.get hx
    obtain ⟨f0, f1, f2, f3, f4, f5⟩ := hf it (by simp)
    refine wpAny_pyNext_list_item st p.isList (x := u) (by simpa using hu) fun h' st' sb => ?_
    have I1 : Inv X pins σ H { s with heap := h' } := I.turned (t' := s.toks) (fun b o hb e => (sb.2 b hb).trans e) f0 f1 f3 f4 f5
    obtain ⟨o, e, c, d⟩ := id st'
    exact ⟨u, rfl, go_of (s := { s with heap := h' }) e c d (by decide) ⟨x, H, I1, ru, ⟨rfl, fun ys hy => by rw [I.list_inj hy hq]; exact hx⟩, st', fun b hb => (hf b hb).1⟩⟩
  done := by
    intro X hP hw hK hc i pins s σ H E I hf st hg
    subst hP hw hK
    obtain ⟨xs, hq, hx⟩ := hg
    obtain ⟨its, rv, p, hz⟩ := I.list hq
    obtain ⟨f0, f1, f2, f3, f4, f5⟩ := hf it (by simp)
    have hl := rv.length
    exact wpAny_pyNext_list_end (I.ok.hd hc) st p.isList (by simp; omega) fun h' eb => ⟨rfl, I.turned (t' := s.toks) (fun b o hb e => eb b o hb e) f0 f1 f3 f4 f5⟩
  self := fun _ _ _ _ _ st h => wpAny_pyIter_listiter st h
theorem turn_range {P : Program} {w : World} {K : PySem.W.Frag} {tg : Expr} (it : Addr) (lo : Int) (n : Nat) : Turn P w K tg (Itr lo n) [it] it (fun i h => IsRangeIter h it (lo + (i : Nat) * 1) ((n : Int) - (i : Nat)) 1) where
  mem := by simp
  obj := fun i h st b hb => by
    have e : b = it := by simpa using hb
    subst e
    exact ⟨_, st, fun v z => by
      have z' : Data.fields _ = Data.cell v := z
      cases z'⟩
  keep := fun i h h' st k => k it (by simp) _ st
  item := by
    intro X hP hw hK hc i pins s σ H E I hf st hg
    subst hP hw hK
    obtain ⟨f0, f1, f2, f3, f4, f5⟩ := hf it (by simp)
    have W := Walks.range (prog := X.prog) (w := X.w) (I.ok.hd hc) it lo 1 n
    refine W.item i s _ _ hg st fun v h' tk hv st' kk => ?_
    obtain ⟨t, rfl⟩ := hv
    have I1 : Inv X pins σ H { s with heap := h', toks := tk } := I.turned (fun b o hb e => kk b o (by simpa using hb) e) f0 f1 f3 f4 f5
    refine ⟨_, rfl, go_of (s := { s with heap := h', toks := tk }) (n := "range_iterator") st' rfl rfl (by decide) ⟨.int (lo + i), H, I1, ⟨t, ?_⟩, ⟨rfl, rfl⟩, st', fun b hb => (hf b hb).1⟩⟩
    rw [Int.mul_one]
  done := by
    intro X hP hw hK hc i pins s σ H E I hf st hg
    subst hP hw hK
    obtain ⟨f0, f1, f2, f3, f4, f5⟩ := hf it (by simp)
    exact wpAny_pyNext_range_end (I.ok.hd hc) st (by have : n ≤ i := hg; omega) fun h' eb => ⟨rfl, I.turned (t' := s.toks) (fun b o hb e => eb b o hb e) f0 f1 f3 f4 f5⟩
  self := fun _ _ _ _ _ st h => wpAny_pyIter_rangeiter st h
end L2

namespace L2
open PySem PySem.Spec PyProof.Rows
section
variable {X : Cx} {tg : Expr}
def iList (K : PySem.W.Frag) (tl : TE) : TI := fun σ H R => tl σ H fun x H1 => ∃ a, x = .ref a ∧ (∃ xs, SqL K H1 a xs) ∧ R (Itl K a) H1
theorem pi_list {l : Expr} {tl : TE} (hl : PE X l tl) : PI X tg l (iList X.K tl) := by
  intro pins s σ H R I h
  refine thn (hl pins s σ H _ I h) fun v s1 ⟨x, H1, I1, r1, q1⟩ => ?_
  obtain ⟨a, e, ⟨xs, hq⟩, q⟩ := q1
  subst e
  cases r1
  obtain ⟨its, rv, p, hz⟩ := I1.list hq
  refine wpAny_pyIter_list p.isList ?_
  refine ⟨s1.heap.objs.size, [s1.heap.objs.size], _, _, H1, rfl, I1.kept (t' := s1.toks) fun b o e => Heap.get?_push_of_some _ e, turn_list a _, ⟨_, Heap.get?_push_size _ rfl, rfl, rfl⟩, fun b hb => ?_, q⟩
  have e : b = s1.heap.objs.size := by simpa using hb
  subst e
  exact I1.fpOk (Nat.le_refl _) (I1.hok.fresh (Nat.le_refl _))
/-- a range object just made, walked -/
theorem range_it {pins : List (Addr × Obj)} {σ : St} {H : Hp} {s : Shared} {R : It → Hp → Prop} {E : Value → Shared → Prop} {lo hi : Int} {t u v : Tok} {tk : Nat} (I : Inv X pins σ H s) (h1 : -(2 ^ 62) ≤ lo) (h2 : lo < 2 ^ 62) (h3 : -(2 ^ 62) ≤ hi) (h4 : hi < 2 ^ 62)
    (q : R (Itr lo (hi - lo).toNat) H) : wpAny (model X.prog X.w) X.A (pyIter (.ref s.heap.objs.size)) (PIE X pins σ tg R) E { s with heap := s.heap.push { cls := .type "range", data := .fields #[.int lo t, .int hi u, .int 1 v] }, toks := tk } := by
  refine wpAny_pyIter_range (IsRange.new ..) (small_one h1 h2 h3 h4) ?_
  have I1 : Inv X pins σ H { s with heap := s.heap.push { cls := .type "range", data := .fields #[.int lo t, .int hi u, .int 1 v] }, toks := tk } := I.kept fun b o e => Heap.get?_push_of_some _ e
  refine ⟨(s.heap.push { cls := .type "range", data := .fields #[.int lo t, .int hi u, .int 1 v] }).objs.size, [(s.heap.push { cls := .type "range", data := .fields #[.int lo t, .int hi u, .int 1 v] }).objs.size], _, _, H, rfl,
    I1.kept (t' := tk) fun b o e => Heap.get?_push_of_some _ e, turn_range _ lo (hi - lo).toNat, ?_, fun b hb => ?_, q⟩
  · have e1 : lo + ((0 : Nat) : Int) * 1 = lo := by simp
    have e2 : (((hi - lo).toNat : Nat) : Int) - ((0 : Nat) : Int) = Builtin.Range.rangeSize lo hi 1 := by rw [rangeSize_one]; split <;> omega
    show IsRangeIter _ _ (lo + ((0 : Nat) : Int) * 1) ((((hi - lo).toNat : Nat) : Int) - ((0 : Nat) : Int)) 1
    rw [e1, e2]
    exact Heap.get?_push_size _ rfl
  · have e : b = (s.heap.push { cls := .type "range", data := .fields #[.int lo t, .int hi u, .int 1 v] }).objs.size := by simpa using hb
    subst e
    exact I1.fpOk (Nat.le_refl _) (I1.hok.fresh (Nat.le_refl _))
def iRng1 (ta : TA) : TI := fun σ H R => ta σ H fun vs H1 => ∃ j : Int, vs = [.int j] ∧ -(2 ^ 62) ≤ j ∧ j < 2 ^ 62 ∧ R (Itr 0 j.toNat) H1
theorem pi_range1 {a : Expr} {ta : TA} {p pos : Pos} (hg : Gl X "range") (hm : X.mg "range" = none) (ha : PA X [a] ta) (hs : starEach [a] X.env = [(false, eval a X.env)] := by rfl) : PI X tg (.Call (.Name "range" p) [a] [] pos) (iRng1 ta) := by
  intro pins s σ H R I h
  refine Call_ (ld_blt I hg hm boot_range (PyProof.Rows.callWith_type1 (thn (ha pos pins s σ H _ I h) fun us s1 ⟨vs, H1, I1, r1, q1⟩ => ?_) hs rfl))
  obtain ⟨j, e, q1, q2, q⟩ := q1
  subst e
  cases r1 with
  | cons r rr =>
    cases rr
    obtain ⟨t, rfl⟩ := r
    exact call_range_1 (range_it I1 (by omega) (by omega) q1 q2 (by simpa using q))
/-! ### for -/
/-- W: the invariant by the turn and a measure; N: what the body is to reach -/
def tFor (wi : TI) (g : TG) (tb : TS) : TS := fun D σ H => wi σ H fun J H1 => ∃ W : Nat → Nat → St → Hp → Prop, (∃ m, W 0 m σ H1) ∧ ∀ i m σ H, W i m σ H →
  (J.stop i H ∧ D.nx σ H) ∨ (J.go i H ∧ ∃ N : St → Hp → Prop, (∀ σ' H', N σ' H' → ∃ m', m' < m ∧ W (i + 1) m' σ' H') ∧ ∀ x H', J.yld i H x H' → g x σ H' fun σ2 H2 => tb { D with nx := N, ct := N, bk := D.nx } σ2 H2)
/-- the records at fp as they stand -/
def pinsAt (fp : List Addr) (h : Heap) : List (Addr × Obj) := fp.filterMap fun b => (h.get? b).map fun o => (b, o)
theorem mem_pinsAt {fp : List Addr} {h : Heap} {b : Addr} {o : Obj} (hb : b ∈ fp) (e : h.get? b = some o) : (b, o) ∈ pinsAt fp h := List.mem_filterMap.mpr ⟨b, hb, by rw [e]; rfl⟩
theorem of_pinsAt {fp : List Addr} {h : Heap} {p : Addr × Obj} (hp : p ∈ pinsAt fp h) : p.1 ∈ fp ∧ h.get? p.1 = some p.2 := by
  obtain ⟨b, hb, e⟩ := List.mem_filterMap.mp hp
  cases q : h.get? b with
  | none => rw [q] at e; cases e
  | some o =>
    rw [q] at e
    have e' : (b, o) = p := Option.some.inj e
    subst e'
    exact ⟨hb, q⟩
theorem Inv.pinned {pins : List (Addr × Obj)} {σ : St} {H : Hp} {s : Shared} {fp : List Addr} (I : Inv X pins σ H s) (hf : ∀ b ∈ fp, FpOk X pins H b) (ho : ∀ b ∈ fp, ∃ o, s.heap.get? b = some o ∧ ∀ v, o.data ≠ .cell v) : Inv X (pins ++ pinsAt fp s.heap) σ H s :=
  I.pins_of fun p hp => (List.mem_append.mp hp).elim (fun z => I.pin p (List.mem_append_right _ z)) fun z => by
    obtain ⟨hb, e⟩ := of_pinsAt z
    obtain ⟨f0, f1, f2, _⟩ := hf p.1 hb
    obtain ⟨o, e', d⟩ := ho p.1 hb
    rw [e] at e'; cases e'
    exact ⟨e, f0, f1, f2, d⟩
theorem Inv.unpinned {pins pl : List (Addr × Obj)} {σ : St} {H : Hp} {s : Shared} (I : Inv X (pins ++ pl) σ H s) : Inv X pins σ H s := I.pins_of fun p hp => I.pin p (List.mem_append_right _ (List.mem_append_left _ hp))
theorem ps_for {iter : Expr} {body : List Stmt} {wi : TI} {g : TG} {tb : TS} {pos : Pos} (hp : PassesOwn (model X.prog X.w) X.A X.env X.xe) (hc : X.calm = true) (hi : PI X tg iter wi) (hg : PG X tg g) (hb : PSs X body tb)
    (hs : ∀ x, foldedSetIterable iter X.env x = pure x := by intro _; rfl) : PS X (.For tg iter body [] pos) (tFor wi g tb) := by
  intro pins s σ H D I h
  refine wpAny_For (thn (hi pins s σ H _ I h) fun v s1 h1 => thn h1 fun itv s2 h2 => ?_) hs
  obtain ⟨it, fp, tn, J, H2, e, I2, T, st2, f2, W, ⟨m0, w0⟩, turn⟩ := h2
  subst e
  -- what stays true of the iterator's objects through the loop
  have stat : ∀ {H' : Hp}, (∀ b ∈ fp, H' b = none) → ∀ b ∈ fp, FpOk X pins H' b := fun hn b hb => ⟨hn b hb, (f2 b hb).2⟩
  refine codeAny_forLoop_any (fun n s' => ∃ i σ' H', Inv X pins σ' H' s' ∧ tn i s'.heap ∧ (∀ b ∈ fp, H' b = none) ∧ W i n σ' H') ?_ m0 ⟨0, σ, H2, I2, st2, fun b hb => (f2 b hb).1, w0⟩
  rintro n s3 ⟨i, σ3, H3, I3, st3, fr3, w3⟩
  rcases turn i n σ3 H3 w3 with ⟨stop, qn⟩ | ⟨go, N, hN, step⟩
  · refine wpAny_passesOwn hp (thn (T.done X rfl rfl rfl hc i pins s3 σ3 H3 X.xe I3 (stat fr3) st3 stop) fun r s4 ⟨hr, I4⟩ => ?_)
    subst hr
    exact wpAny_execs_nil ⟨σ3, H3, I4, qn⟩
  · refine wpAny_passesOwn hp (thn (T.item X rfl rfl rfl hc i pins s3 σ3 H3 X.xe I3 (stat fr3) st3 go) fun r s4 ⟨u, hr, h4⟩ => ?_)
    subst hr
    refine wpAny_passesOwn hp (thn h4 fun _ s5 ⟨x, H5, I5, r5, y5, st5, fr5⟩ => ?_)
    have I5' := I5.pinned (stat fr5) (T.obj _ _ st5)
    refine wpAny_passesOwn hp (thn (hg _ s5 σ3 H5 x u _ I5' r5 (step x H5 y5)) fun _ s6 ⟨σ6, H6, I6, q6⟩ => ?_)
    refine wpAny_passesOwn hp (thn (hb _ s6 σ6 H6 _ I6 q6) fun f s7 q7 => ?_)
    have again : ∀ {σ7 : St} {H7 : Hp}, Inv X (pins ++ pinsAt fp s5.heap) σ7 H7 s7 → N σ7 H7 → ∃ m, m < n ∧ ∃ i σ' H', Inv X pins σ' H' s7 ∧ tn i s7.heap ∧ (∀ b ∈ fp, H' b = none) ∧ W i m σ' H' := fun {σ7 H7} I7 n7 => by
      obtain ⟨m', hm, w7⟩ := hN σ7 H7 n7
      refine ⟨m', hm, i + 1, σ7, H7, I7.unpinned, T.keep _ _ _ st5 fun b hb o e => (I7.pin (b, o) (List.mem_append_right _ (List.mem_append_right _ (mem_pinsAt hb e)))).1, fun b hb => ?_, w7⟩
      obtain ⟨o, e, d⟩ := T.obj _ _ st5 b hb
      exact (I7.pin (b, o) (List.mem_append_right _ (List.mem_append_right _ (mem_pinsAt hb e)))).2.1
    cases f with
    | next => obtain ⟨σ7, H7, I7, n7⟩ := q7; exact again I7 n7
    | cont => obtain ⟨σ7, H7, I7, n7⟩ := q7; exact again I7 n7
    | brk => obtain ⟨σ7, H7, I7, q7⟩ := q7; exact ⟨σ7, H7, I7.unpinned, q7⟩
    | ret v => obtain ⟨x7, σ7, H7, I7, r7, q7⟩ := q7; exact ⟨x7, σ7, H7, I7.unpinned, r7, q7⟩
end

/-! ### the forms one uses -/
/-- over a list that the body leaves as it is -/
theorem for_list {K : PySem.W.Frag} {a : Addr} {xs : List V} {g : TG} {tb : TS} {D : Ends} {σ : St} {H : Hp} (Pv : Nat → St → Hp → Prop) (h0 : Pv 0 σ H) (hl : ∀ i σ H, i ≤ xs.length → Pv i σ H → SqL K H a xs)
    (hs : ∀ i x σ H, xs[i]? = some x → Pv i σ H → g x σ H fun σ2 H2 => tb { D with nx := Pv (i + 1), ct := Pv (i + 1), bk := D.nx } σ2 H2) (hd : ∀ σ H, Pv xs.length σ H → D.nx σ H) :
    ∃ W : Nat → Nat → St → Hp → Prop, (∃ m, W 0 m σ H) ∧ ∀ i m σ H, W i m σ H →
      ((Itl K a).stop i H ∧ D.nx σ H) ∨ ((Itl K a).go i H ∧ ∃ N : St → Hp → Prop, (∀ σ' H', N σ' H' → ∃ m', m' < m ∧ W (i + 1) m' σ' H') ∧ ∀ x H', (Itl K a).yld i H x H' → g x σ H' fun σ2 H2 => tb { D with nx := N, ct := N, bk := D.nx } σ2 H2) := by
  refine ⟨fun i m σ H => m = xs.length - i ∧ i ≤ xs.length ∧ Pv i σ H, ⟨xs.length, by simp, Nat.zero_le _, h0⟩, ?_⟩
  rintro i m σ H ⟨rfl, hi, p⟩
  have q := hl i σ H hi p
  by_cases hlt : i < xs.length
  · refine .inr ⟨⟨xs, xs[i], q, by simp [hlt]⟩, Pv (i + 1), fun σ' H' p' => ⟨xs.length - (i + 1), by omega, rfl, hlt, p'⟩, fun x H' y => ?_⟩
    obtain ⟨e, y⟩ := y
    subst e
    exact hs i x σ _ (y xs q) p
  · have e : i = xs.length := by omega
    subst e
    exact .inl ⟨⟨xs, q, Nat.le_refl _⟩, hd σ H p⟩
theorem for_range {lo : Int} {n : Nat} {g : TG} {tb : TS} {D : Ends} {σ : St} {H : Hp} (Pv : Nat → St → Hp → Prop) (h0 : Pv 0 σ H)
    (hs : ∀ i σ H, i < n → Pv i σ H → g (.int (lo + i)) σ H fun σ2 H2 => tb { D with nx := Pv (i + 1), ct := Pv (i + 1), bk := D.nx } σ2 H2) (hd : ∀ σ H, Pv n σ H → D.nx σ H) :
    ∃ W : Nat → Nat → St → Hp → Prop, (∃ m, W 0 m σ H) ∧ ∀ i m σ H, W i m σ H →
      ((Itr lo n).stop i H ∧ D.nx σ H) ∨ ((Itr lo n).go i H ∧ ∃ N : St → Hp → Prop, (∀ σ' H', N σ' H' → ∃ m', m' < m ∧ W (i + 1) m' σ' H') ∧ ∀ x H', (Itr lo n).yld i H x H' → g x σ H' fun σ2 H2 => tb { D with nx := N, ct := N, bk := D.nx } σ2 H2) := by
  refine ⟨fun i m σ H => m = n - i ∧ i ≤ n ∧ Pv i σ H, ⟨n, by simp, Nat.zero_le _, h0⟩, ?_⟩
  rintro i m σ H ⟨rfl, hi, p⟩
  by_cases hlt : i < n
  · refine .inr ⟨hlt, Pv (i + 1), fun σ' H' p' => ⟨n - (i + 1), by omega, rfl, hlt, p'⟩, fun x H' y => ?_⟩
    obtain ⟨e, y⟩ := y
    subst e y
    exact hs i σ _ hlt p
  · have e : i = n := by omega
    subst e
    exact .inl ⟨Nat.le_refl _, hd σ H p⟩
end L2

namespace L2
open PySem PySem.Spec PyProof.Rows

abbrev R2 := V → V → Hp → VK → Prop
/-- a two-place operation on values: f is binaryOp op, inplaceOp op or compareOp op -/
def OpR (X : Cx) (f : Value → Value → Sem Value) (r : R2) : Prop :=
  ∀ (pins : List (Addr × Obj)) (s : Shared) (σ : St) (H : Hp) (x y : V) (v u : Value) (Q : VK), Inv X pins σ H s → RelV x v → RelV y u → r x y H Q →
    wpAny (model X.prog X.w) X.A (f v u) (EP X pins σ Q) X.xe s
/-- a one-place operation -/
def UnR (X : Cx) (f : Value → Sem Value) (r : V → Hp → VK → Prop) : Prop :=
  ∀ (pins : List (Addr × Obj)) (s : Shared) (σ : St) (H : Hp) (x : V) (v : Value) (Q : VK), Inv X pins σ H s → RelV x v → r x H Q →
    wpAny (model X.prog X.w) X.A (f v) (EP X pins σ Q) X.xe s
/-- a call of a value that is known (a builtin, a type) with values -/
def CallR (X : Cx) (f : Value) (r : List V → Hp → VK → Prop) : Prop :=
  ∀ (pins : List (Addr × Obj)) (s : Shared) (σ : St) (H : Hp) (xs : List V) (us : List Value) (Q : VK), Inv X pins σ H s → Vals xs us → r xs H Q →
    wpAny (model X.prog X.w) X.A (call f us) (EP X pins σ Q) X.xe s
/-- a value's truth -/
def TruR (X : Cx) (r : V → Hp → (Bool → Hp → Prop) → Prop) : Prop :=
  ∀ (pins : List (Addr × Obj)) (s : Shared) (σ : St) (H : Hp) (x : V) (v : Value) (Q : Bool → Hp → Prop), Inv X pins σ H s → RelV x v → r x H Q →
    wpAny (model X.prog X.w) X.A (truthy v) (TP X pins σ Q) X.xe s

def tOp (r : R2) (ta tb : TE) : TE := fun σ H Q => ta σ H fun x H1 => tb σ H1 fun y H2 => r x y H2 Q
def tUn (r : V → Hp → VK → Prop) (ta : TE) : TE := fun σ H Q => ta σ H fun x H1 => r x H1 Q
/-- ints in, under C, and a value out -/
def rI (C : Int → Int → Prop) (g : Int → Int → V) : R2 := fun x y H Q => ∃ i j, x = .int i ∧ y = .int j ∧ C i j ∧ Q (g i j) H
def rI0 (g : Int → Int → V) : R2 := fun x y H Q => ∃ i j, x = .int i ∧ y = .int j ∧ Q (g i j) H
def rU (g : Int → V) : V → Hp → VK → Prop := fun x H Q => ∃ i, x = .int i ∧ Q (g i) H

section
variable {X : Cx} {a b c : Expr} {ta tb tc : TE} {pos : Pos}

theorem binT (ha : PE X a ta) (hb : PE X b tb) {pins : List (Addr × Obj)} {s : Shared} {σ : St} {H : Hp} {R : V → V → Hp → Prop} (I : Inv X pins σ H s)
    (h : ta σ H fun x H1 => tb σ H1 fun y H2 => R x y H2) {Q : Value → Shared → Prop} {f : Value → Value → Sem Value}
    (hf : ∀ v u s2 x y H2, Inv X pins σ H2 s2 → RelV x v → RelV y u → R x y H2 → wpAny (model X.prog X.w) X.A (f v u) Q X.xe s2) :
    wpAny (model X.prog X.w) X.A (eval a X.env) (fun v s₁ => wpAny (model X.prog X.w) X.A (eval b X.env) (fun u s₂ => wpAny (model X.prog X.w) X.A (f v u) Q X.xe s₂) X.xe s₁) X.xe s := by
  refine thn (ha pins s σ H _ I h) fun v s1 ⟨x, H1, I1, r1, q1⟩ => ?_
  refine thn (hb pins s1 σ H1 _ I1 q1) fun u s2 ⟨y, H2, I2, r2, q2⟩ => ?_
  exact hf v u s2 x y H2 I2 r1 r2 q2

theorem pe_op {op : Operator} {r : R2} (ho : OpR X (binaryOp op) r) (ha : PE X a ta) (hb : PE X b tb) : PE X (.BinOp a op b pos) (tOp r ta tb) := by
  intro pins s σ H Q I h
  exact wpAny_BinOp (binT ha hb I h fun v u s2 x y H2 I2 rx ry q => ho pins s2 σ H2 x y v u Q I2 rx ry q)
theorem pe_un {op : UnaryOp} {r : V → Hp → VK → Prop} (ho : UnR X (unaryOp op) r) (ha : PE X a ta) : PE X (.UnaryOp op a pos) (tUn r ta) := by
  intro pins s σ H Q I h
  exact UnaryOp_ (thn (ha pins s σ H _ I h) fun v s1 ⟨x, H1, I1, r1, q1⟩ => ho pins s1 σ H1 x v Q I1 r1 q1)
/-! ### ints -/
theorem opI {f : Value → Value → Sem Value} {C : Int → Int → Prop} {g : Int → Int → Int}
    (rule : ∀ (i j : Int) (t u : Tok) (s : Shared) (Q : Value → Shared → Prop) (E : Value → Shared → Prop), C i j → Q (.int (g i j) s.toks) { s with toks := s.toks + 1 } → wpAny (model X.prog X.w) X.A (f (.int i t) (.int j u)) Q E s) :
    OpR X f (rI C fun i j => .int (g i j)) := by
  intro pins s σ H x y v u Q I rx ry h
  obtain ⟨i, j, rfl, rfl, hc, q⟩ := h
  obtain ⟨t, rfl⟩ := rx
  obtain ⟨t', rfl⟩ := ry
  exact rule i j t t' s _ _ hc ⟨.int (g i j), H, I.tok _, ⟨_, rfl⟩, q⟩
theorem opI0 {f : Value → Value → Sem Value} {g : Int → Int → Int}
    (rule : ∀ (i j : Int) (t u : Tok) (s : Shared) (Q : Value → Shared → Prop) (E : Value → Shared → Prop), Q (.int (g i j) s.toks) { s with toks := s.toks + 1 } → wpAny (model X.prog X.w) X.A (f (.int i t) (.int j u)) Q E s) :
    OpR X f (rI0 fun i j => .int (g i j)) := by
  intro pins s σ H x y v u Q I rx ry h
  obtain ⟨i, j, rfl, rfl, q⟩ := h
  obtain ⟨t, rfl⟩ := rx
  obtain ⟨t', rfl⟩ := ry
  exact rule i j t t' s _ _ ⟨.int (g i j), H, I.tok _, ⟨_, rfl⟩, q⟩
theorem opB0 {f : Value → Value → Sem Value} {g : Int → Int → Bool}
    (rule : ∀ (i j : Int) (t u : Tok) (s : Shared) (Q : Value → Shared → Prop) (E : Value → Shared → Prop), Q (.bool (g i j)) s → wpAny (model X.prog X.w) X.A (f (.int i t) (.int j u)) Q E s) :
    OpR X f (rI0 fun i j => .bl (g i j)) := by
  intro pins s σ H x y v u Q I rx ry h
  obtain ⟨i, j, rfl, rfl, q⟩ := h
  obtain ⟨t, rfl⟩ := rx
  obtain ⟨t', rfl⟩ := ry
  exact rule i j t t' s _ _ ⟨.bl (g i j), H, I, rfl, q⟩

def CDiv (i j : Int) : Prop := 0 < j ∧ j < 1073741824
def CPow (i j : Int) : Prop := 0 ≤ j ∧ j ≤ 1000000 ∧ i.natAbs < 2 ^ 64
def CMul (i j : Int) : Prop := (-(2 ^ 64) < i ∧ i < 2 ^ 64) ∨ (-(2 ^ 64) < j ∧ j < 2 ^ 64)
theorem CMul.ok {i j : Int} (h : CMul i j) : IntMulOk i j := by
  rcases h with ⟨h1, h2⟩ | ⟨h1, h2⟩
  · exact .of_left (intBits_le_64 h1 h2)
  · exact .of_right (intBits_le_64 h1 h2)
theorem op_add : OpR X (binaryOp .Add) (rI0 fun i j => .int (i + j)) := opI0 fun _ _ _ _ _ _ _ q => add_int q
theorem op_sub : OpR X (binaryOp .Sub) (rI0 fun i j => .int (i - j)) := opI0 fun _ _ _ _ _ _ _ q => sub_int q
theorem op_mul : OpR X (binaryOp .Mult) (rI CMul fun i j => .int (i * j)) := opI fun _ _ _ _ _ _ _ hc q => mul_int q hc.ok
/-- // by a positive divisor -/
theorem op_fdiv : OpR X (binaryOp .FloorDiv) (rI CDiv fun i j => .int (i / j)) := opI fun i j _ _ _ _ _ hc q => by
  have h1 : (0 : Int) < j := hc.1
  have h2 : j < 1073741824 := hc.2
  exact floordiv_int (by omega) (by rw [Int.fdiv_eq_ediv_of_nonneg i (by omega)]; exact q) (.inl (PyProof.noPylong_small (by omega)))
/-- % by a positive divisor of any size -/
theorem op_mod : OpR X (binaryOp .Mod) (rI (fun _ j => 0 < j) fun i j => .int (i % j)) := opI fun i j _ _ _ _ _ hc q => by
  have h1 : (0 : Int) < j := hc
  exact mod_int' (by omega) (by rw [Int.fmod_eq_emod_of_nonneg i (by omega)]; exact q)
theorem op_pow : OpR X (binaryOp .Pow) (rI CPow fun i j => .int (i ^ j.toNat)) := opI fun _ _ _ _ _ _ _ hc q => pow_int_small hc.1 hc.2.1 hc.2.2 q
theorem unI {f : Value → Sem Value} {g : Int → Int}
    (rule : ∀ (i : Int) (t : Tok) (s : Shared) (Q : Value → Shared → Prop) (E : Value → Shared → Prop), Q (.int (g i) s.toks) { s with toks := s.toks + 1 } → wpAny (model X.prog X.w) X.A (f (.int i t)) Q E s) :
    UnR X f (rU fun i => .int (g i)) := by
  intro pins s σ H x v Q I rx h
  obtain ⟨i, rfl, q⟩ := h
  obtain ⟨t, rfl⟩ := rx
  exact rule i t s _ _ ⟨.int (g i), H, I.tok _, ⟨_, rfl⟩, q⟩
theorem un_neg : UnR X (unaryOp .USub) (rU fun i => .int (-i)) := unI fun _ _ _ _ _ q => neg_int q
/-! ### bools among ints: n += (a < b) -/
end

/-! ### comparisons -/
/-- the scalars that == tells apart as data does -/
def scal : V → V → Bool
  | .non, .non => true | .non, .int _ => true | .int _, .non => true | .non, .bl _ => true | .bl _, .non => true | .non, .str _ => true | .str _, .non => true
  | .int _, .int _ => true | .bl _, .bl _ => true | .str _, .str _ => true | .byt _, .byt _ => true
  | .int _, .str _ => true | .str _, .int _ => true | .bl _, .str _ => true | .str _, .bl _ => true
  | _, _ => false
def rEq : R2 := fun x y H Q => scal x y = true ∧ Q (.bl (decide (x = y))) H
def rNe : R2 := fun x y H Q => scal x y = true ∧ Q (.bl (!decide (x = y))) H

theorem dec_int {i j : Int} : decide (V.int i = V.int j) = (i == j) := by
  rw [Bool.eq_iff_iff]
  simp
theorem dec_bl {i j : Bool} : decide (V.bl i = V.bl j) = (i == j) := by
  rw [Bool.eq_iff_iff]
  simp
theorem dec_str {i j : Str} : decide (V.str i = V.str j) = (i == j) := by
  rw [Bool.eq_iff_iff]
  simp
theorem dec_byt {i j : Array UInt8} : decide (V.byt i = V.byt j) = (i.toList == j.toList) := by
  rw [Bool.eq_iff_iff]
  cases i
  cases j
  simp

section
variable {X : Cx} {a b c : Expr} {ta tb tc : TE} {pos : Pos}
theorem fin_bl {pins : List (Addr × Obj)} {σ : St} {H : Hp} {s : Shared} {Q : VK} {k k' : Bool} (I : Inv X pins σ H s) (q : Q (.bl k) H) (e : k = k') : EP X pins σ Q (.bool k') s := by
  subst e
  exact ⟨.bl k, H, I, rfl, q⟩
theorem op_eq : OpR X (compareOp .Eq) rEq := by
  intro pins s σ H x y v u Q I rx ry h
  obtain ⟨hs, q⟩ := h
  cases x with
  | non =>
    cases rx
    cases y with
    | non => cases ry; exact PySem.EqNone.eq_none_none (fin_bl I q (by simp))
    | bl j => cases ry; exact PySem.EqNone.eq_none_bool (fin_bl I q (by simp))
    | int j => obtain ⟨t', rfl⟩ := ry; exact PySem.EqNone.eq_none_int (fin_bl I q (by simp))
    | str j => obtain ⟨t', rfl⟩ := ry; exact PySem.EqNone.eq_none_str (fin_bl I q (by simp))
    | _ => exact absurd (show false = true from hs) Bool.false_ne_true
  | bl i =>
    cases rx
    cases y with
    | non => cases ry; exact PySem.EqNone.eq_bool_none (fin_bl I q (by simp))
    | bl j => cases ry; exact eq_bool (fin_bl I q dec_bl)
    | str j => obtain ⟨t', rfl⟩ := ry; exact PySem.EqMixed.eq_bool_str (fin_bl I q (by simp))
    | _ => exact absurd (show false = true from hs) Bool.false_ne_true
  | int i =>
    obtain ⟨t, rfl⟩ := rx
    cases y with
    | non => cases ry; exact PySem.EqNone.eq_int_none (fin_bl I q (by simp))
    | int j => obtain ⟨t', rfl⟩ := ry; exact eq_int (fin_bl I q dec_int)
    | str j => obtain ⟨t', rfl⟩ := ry; exact PySem.EqMixed.eq_int_str (fin_bl I q (by simp))
    | _ => exact absurd (show false = true from hs) Bool.false_ne_true
  | str i =>
    obtain ⟨t, rfl⟩ := rx
    cases y with
    | non => cases ry; exact PySem.EqNone.eq_str_none (fin_bl I q (by simp))
    | bl j => cases ry; exact PySem.EqMixed.eq_str_bool (fin_bl I q (by simp))
    | int j => obtain ⟨t', rfl⟩ := ry; exact PySem.EqMixed.eq_str_int (fin_bl I q (by simp))
    | str j => obtain ⟨t', rfl⟩ := ry; exact eq_str (fin_bl I q dec_str)
    | _ => exact absurd (show false = true from hs) Bool.false_ne_true
  | byt i =>
    obtain ⟨t, rfl⟩ := rx
    cases y with
    | byt j => obtain ⟨t', rfl⟩ := ry; exact PySem.W.eq_bytes (fin_bl I q dec_byt)
    | _ => exact absurd (show false = true from hs) Bool.false_ne_true
  | _ => cases y <;> exact absurd (show false = true from hs) Bool.false_ne_true
theorem op_ne : OpR X (compareOp .NotEq) rNe := by
  intro pins s σ H x y v u Q I rx ry h
  obtain ⟨hs, q⟩ := h
  cases x with
  | non =>
    cases rx
    cases y with
    | non => cases ry; exact PySem.EqNone.ne_none_none (fin_bl I q (by simp))
    | bl j => cases ry; exact PySem.EqNone.ne_none_bool (fin_bl I q (by simp))
    | int j => obtain ⟨t', rfl⟩ := ry; exact PySem.EqNone.ne_none_int (fin_bl I q (by simp))
    | str j => obtain ⟨t', rfl⟩ := ry; exact PySem.EqNone.ne_none_str (fin_bl I q (by simp))
    | _ => exact absurd (show false = true from hs) Bool.false_ne_true
  | bl i =>
    cases rx
    cases y with
    | non => cases ry; exact PySem.EqNone.ne_bool_none (fin_bl I q (by simp))
    | bl j => cases ry; exact ne_bool (fin_bl I q (congrArg not dec_bl))
    | str j => obtain ⟨t', rfl⟩ := ry; exact PySem.EqMixed.ne_bool_str (fin_bl I q (by simp))
    | _ => exact absurd (show false = true from hs) Bool.false_ne_true
  | int i =>
    obtain ⟨t, rfl⟩ := rx
    cases y with
    | non => cases ry; exact PySem.EqNone.ne_int_none (fin_bl I q (by simp))
    | int j => obtain ⟨t', rfl⟩ := ry; exact ne_int (fin_bl I q (congrArg not dec_int))
    | str j => obtain ⟨t', rfl⟩ := ry; exact PySem.EqMixed.ne_int_str (fin_bl I q (by simp))
    | _ => exact absurd (show false = true from hs) Bool.false_ne_true
  | str i =>
    obtain ⟨t, rfl⟩ := rx
    cases y with
    | non => cases ry; exact PySem.EqNone.ne_str_none (fin_bl I q (by simp))
    | bl j => cases ry; exact PySem.EqMixed.ne_str_bool (fin_bl I q (by simp))
    | int j => obtain ⟨t', rfl⟩ := ry; exact PySem.EqMixed.ne_str_int (fin_bl I q (by simp))
    | str j => obtain ⟨t', rfl⟩ := ry; exact ne_str (fin_bl I q (congrArg not dec_str))
    | _ => exact absurd (show false = true from hs) Bool.false_ne_true
  | byt i =>
    obtain ⟨t, rfl⟩ := rx
    cases y with
    | byt j => obtain ⟨t', rfl⟩ := ry; exact PySem.W.ne_bytes (fin_bl I q (congrArg not dec_byt))
    | _ => exact absurd (show false = true from hs) Bool.false_ne_true
  | _ => cases y <;> exact absurd (show false = true from hs) Bool.false_ne_true

theorem op_lt : OpR X (compareOp .Lt) (rI0 fun i j => .bl (decide (i < j))) := opB0 fun _ _ _ _ _ _ _ q => lt_int q
theorem op_le : OpR X (compareOp .LtE) (rI0 fun i j => .bl (decide (i ≤ j))) := opB0 fun _ _ _ _ _ _ _ q => le_int q
theorem op_gt : OpR X (compareOp .Gt) (rI0 fun i j => .bl (decide (j < i))) := opB0 fun _ _ _ _ _ _ _ q => gt_int q
/-- the one string within the other -/
theorem op_in_str : OpR X (compareOp .In) (fun x y H Q => ∃ i j, x = .str i ∧ y = .str j ∧ Q (.bl (!(Builtin.Str.occurrences j i 0 j.length 1).isEmpty)) H) := by
  intro pins s σ H x y v u Q I rx ry h
  obtain ⟨i, j, rfl, rfl, q⟩ := h
  obtain ⟨t, rfl⟩ := rx
  obtain ⟨t', rfl⟩ := ry
  exact in_str (fin_bl I q rfl)

theorem nomark (b : Expr) {op : CmpOp} (h : op ≠ .In := by decide) (h2 : op ≠ .NotIn := by decide) : behindInMarks op b = false := by
  have e1 : (op == CmpOp.In) = false := by cases op <;> first | rfl | exact absurd rfl h
  have e2 : (op == CmpOp.NotIn) = false := by cases op <;> first | rfl | exact absurd rfl h2
  cases b <;> simp [behindInMarks, e1, e2]
/-- a comparison as a value; hm: nomark b, or (for in, not in) by with_unfolding_all rfl -/
theorem pe_cmpR {op : CmpOp} {r : R2} (ho : OpR X (compareOp op) r) (ha : PE X a ta) (hb : PE X b tb) (hm : behindInMarks op b = false) : PE X (.Compare a [op] [b] pos) (tOp r ta tb) := by
  intro pins s σ H Q I h
  exact wpAny_Compare1 (binT ha hb I h fun v u s2 x y H2 I2 rx ry q => ho pins s2 σ H2 x y v u Q I2 rx ry q) hm
/-- a reading of a value as a test -/
def tTest (t : TE) : TT := fun σ H Q => t σ H fun x H' => ∃ k, x = .bl k ∧ Q k H'
theorem pt_cmpR {op : CmpOp} {r : R2} (ho : OpR X (compareOp op) r) (ha : PE X a ta) (hb : PE X b tb) (hm : behindInMarks op b = false) : PT X (.Compare a [op] [b] pos) (tTest (tOp r ta tb)) := by
  intro pins s σ H Q I h
  refine wpAny_isTrue_Compare1 (thn (ha pins s σ H _ I h) fun v s1 ⟨x, H1, I1, r1, q1⟩ => thn (hb pins s1 σ H1 _ I1 q1) fun u s2 ⟨y, H2, I2, r2, q2⟩ =>
    thn (ho pins s2 σ H2 x y v u _ I2 r1 r2 q2) fun c s3 ⟨z, H3, I3, r3, k, e, q3⟩ => ?_) hm
  subst e
  cases r3
  exact wpAny_truthy_bool ⟨H3, I3, q3⟩
/-- a op1 b op2 c -/
def tChain (r r' : R2) (ta tb tc : TE) : TE := fun σ H Q => ta σ H fun x H1 => tb σ H1 fun y H2 => r x y H2 fun z H3 => ∃ k, z = .bl k ∧
  (if k = true then tc σ H3 fun w' H4 => r' y w' H4 Q else Q (.bl false) H3)
theorem pt_chain {op op' : CmpOp} {r r' : R2} (ho : OpR X (compareOp op) r) (ho' : OpR X (compareOp op') r') (ha : PE X a ta) (hb : PE X b tb) (hc : PE X c tc)
    (hm : lastMarks [op, op'] [b, c] = false := by with_unfolding_all rfl) : PT X (.Compare a [op, op'] [b, c] pos) (tTest (tChain r r' ta tb tc)) := by
  intro pins s σ H Q I h
  refine isTrue_chain (thn (ha pins s σ H _ I h) fun v s1 ⟨x, H1, I1, r1, q1⟩ => test_link (thn (hb pins s1 σ H1 _ I1 q1) fun u s2 ⟨y, H2, I2, r2, q2⟩ =>
    thn (ho pins s2 σ H2 x y v u _ I2 r1 r2 q2) fun d s3 ⟨z, H3, I3, r3, k, e, q3⟩ => ?_)) hm
  subst e
  cases r3
  refine wpAny_truthy_bool ?_
  cases k with
  | false =>
    obtain ⟨k', e', q'⟩ := q3
    cases e'
    exact ite_ff ⟨H3, I3, q'⟩
  | true =>
    refine ite_tt (test_last (thn (hc pins s3 σ H3 _ I3 q3) fun w' s4 ⟨z', H4, I4, r4, q4⟩ => thn (ho' pins s4 σ H4 y z' u w' _ I4 r2 r4 q4) fun d' s5 ⟨z2, H5, I5, r5, k2, e2, q5⟩ => ?_))
    subst e2
    cases r5
    exact wpAny_truthy_bool ⟨H5, I5, q5⟩

/-! ### truth -/
/-- a value's truth by the abstract heap -/
def TruV (K : PySem.W.Frag) (x : V) (H : Hp) (k : Bool) : Prop :=
  match x with
  | .non => k = false
  | .bl b => k = b
  | .int i => k = (i != 0)
  | .str y => y.length ≤ sizeLine ∧ k = ((y.length : Int) != 0)
  | .byt y => y.size ≤ sizeLine ∧ k = ((y.size : Int) != 0)
  | .ref p => (∃ xs, SqL K H p xs ∧ k = !xs.isEmpty) ∨ (∃ xs, SqT K H p xs ∧ k = !xs.isEmpty) ∨ ∃ kvs, H p = some (.dK kvs) ∧ k = !kvs.isEmpty
  | _ => False
theorem isEmpty_kv {κ : Type} {kvs : List (κ × V)} {vs : List (κ × Value)} (r : KV kvs vs) : (!vs.isEmpty) = !kvs.isEmpty := by
  cases r <;> rfl
theorem isEmpty_of {xs : List V} {its : List Value} (r : Vals xs its) : (!its.toArray.isEmpty) = !xs.isEmpty := by
  cases r <;> simp
theorem line63 : (sizeLine : Nat) < 2 ^ 63 := by rw [sizeLine_eq]; decide
theorem tru_ok : TruR X (fun x H Q => ∃ k, TruV X.K x H k ∧ Q k H) := by
  intro pins s σ H x v Q I rx h
  obtain ⟨k, e, q⟩ := h
  have hl := line63
  have hs : sizeLine = 16777216 := sizeLine_eq
  cases x with
  | non =>
    cases rx
    have e' : k = false := e
    subst e'
    exact truthy_none ⟨H, I, q⟩
  | bl b =>
    cases rx
    have e' : k = b := e
    subst e'
    exact wpAny_truthy_bool ⟨H, I, q⟩
  | int i =>
    obtain ⟨t, rfl⟩ := rx
    have e' : k = (i != 0) := e
    subst e'
    exact PySem.P.truthy_int ⟨H, I, q⟩
  | str y =>
    obtain ⟨t, rfl⟩ := rx
    obtain ⟨hy, e'⟩ : y.length ≤ sizeLine ∧ k = ((y.length : Int) != 0) := e
    subst e'
    exact PySem.P.truthy_str (by omega) ⟨H, I.tok _, q⟩
  | byt y =>
    obtain ⟨t, rfl⟩ := rx
    obtain ⟨hy, e'⟩ : y.size ≤ sizeLine ∧ k = ((y.size : Int) != 0) := e
    subst e'
    exact PySem.W.truthy_bytes (by omega) ⟨H, I.tok _, q⟩
  | ref p =>
    cases rx
    have e' : (∃ xs, SqL X.K H p xs ∧ k = !xs.isEmpty) ∨ (∃ xs, SqT X.K H p xs ∧ k = !xs.isEmpty) ∨ ∃ kvs, H p = some (.dK kvs) ∧ k = !kvs.isEmpty := e
    rcases e' with ⟨xs, hx, e'⟩ | ⟨xs, hx, e'⟩ | ⟨kvs, hx, e'⟩
    · subst e'
      obtain ⟨its, r, pl, hz⟩ := I.list hx
      have hlen := r.length
      exact wpAny_truthy_list pl.isList (by simp only [List.size_toArray]; omega) ⟨H, I.tok _, by rw [isEmpty_of r]; exact q⟩
    · subst e'
      obtain ⟨its, r, pl, hz⟩ := I.tuple hx
      have hlen := r.length
      exact truthy_tuple pl (by simp only [List.size_toArray]; omega) ⟨H, I.tok _, by rw [isEmpty_of r]; exact q⟩
    · subst e'
      obtain ⟨hz, hS, vs, r, m⟩ : kvs.length ≤ sizeLine ∧ (p == sysModules) = false ∧ ∃ vs, KV kvs vs ∧ s.heap.DictOf (mixKind X.prog X.w) p vs := I.hok p _ hx
      have hlen : kvs.length = vs.length := Paired.length r
      exact wpAny_truthy_dict hS m (by omega) ⟨H, I.tok _, by rw [isEmpty_kv r]; exact q⟩
  | _ => exact (show False from e).elim
/-! ### strs and bytes -/
theorem op_add_str : OpR X (binaryOp .Add) (fun x y H Q => ∃ i j, x = .str i ∧ y = .str j ∧ i.length + j.length ≤ sizeLine ∧ Q (.str (i ++ j)) H) := by
  intro pins s σ H x y v u Q I rx ry h
  obtain ⟨i, j, rfl, rfl, hz, q⟩ := h
  obtain ⟨t, rfl⟩ := rx
  obtain ⟨t', rfl⟩ := ry
  exact add_str (fun t' tk => ⟨.str (i ++ j), H, I.tok _, ⟨_, rfl⟩, q⟩) hz
/-! ### scalar builtins, by CallR -/
theorem vals1 {x : V} {us : List Value} (r : Vals [x] us) : ∃ u, us = [u] ∧ RelV x u := by
  cases r with
  | cons r1 r2 => cases r2; exact ⟨_, rfl, r1⟩
theorem vals2 {x y : V} {us : List Value} (r : Vals [x, y] us) : ∃ u w', us = [u, w'] ∧ RelV x u ∧ RelV y w' := by
  cases r with
  | cons r1 r2 =>
    cases r2 with
    | cons r3 r4 => cases r4; exact ⟨_, _, rfl, r1, r3⟩
theorem call_abs : CallR X (.builtin "abs") (fun xs H Q => ∃ i, xs = [.int i] ∧ Q (.int (if i < 0 then -i else i)) H) := by
  intro pins s σ H xs us Q I r h
  obtain ⟨i, rfl, q⟩ := h
  obtain ⟨u, rfl, t, rfl⟩ := vals1 r
  exact call_abs_int fun u tk => ⟨.int (if i < 0 then -i else i), H, I.tok _, ⟨_, rfl⟩, q⟩
theorem call_max2 (hc : X.calm = true) : CallR X (.builtin "max") (fun xs H Q => ∃ i j, xs = [.int i, .int j] ∧ Q (.int (if j > i then j else i)) H) := by
  intro pins s σ H xs us Q I r h
  obtain ⟨i, j, rfl, q⟩ := h
  obtain ⟨u, w', rfl, ⟨t, rfl⟩, ⟨t', rfl⟩⟩ := vals2 r
  refine max_two_ints (I.ok.hd hc) fun h' tk k => ⟨_, H, I.kept k, ?_, q⟩
  by_cases hj : j > i
  · rw [if_pos hj, if_pos hj]; exact ⟨_, rfl⟩
  · rw [if_neg hj, if_neg hj]; exact ⟨_, rfl⟩
/-- len of a str, a bytes, a list, a tuple -/
def LenV (K : PySem.W.Frag) (x : V) (H : Hp) (n : Nat) : Prop :=
  match x with
  | .str y => y.length ≤ sizeLine ∧ n = y.length
  | .byt y => y.size ≤ sizeLine ∧ n = y.size
  | .ref p => (∃ xs, SqL K H p xs ∧ n = xs.length) ∨ ∃ xs, SqT K H p xs ∧ n = xs.length
  | _ => False
theorem call_len : CallR X (.builtin "len") (fun xs H Q => ∃ x n, xs = [x] ∧ LenV X.K x H n ∧ Q (.int n) H) := by
  intro pins s σ H xs us Q I r h
  obtain ⟨x, n, rfl, e, q⟩ := h
  obtain ⟨u, rfl, rx⟩ := vals1 r
  have hl := line63
  have hs : sizeLine = 16777216 := sizeLine_eq
  cases x with
  | str y =>
    obtain ⟨t, rfl⟩ := rx
    obtain ⟨hy, e'⟩ : y.length ≤ sizeLine ∧ n = y.length := e
    subst e'
    exact len_str (by omega) ⟨.int _, H, I.tok _, ⟨_, rfl⟩, q⟩
  | byt y =>
    obtain ⟨t, rfl⟩ := rx
    obtain ⟨hy, e'⟩ : y.size ≤ sizeLine ∧ n = y.size := e
    subst e'
    exact PySem.W.len_bytes (by omega) ⟨.int _, H, I.tok _, ⟨_, rfl⟩, q⟩
  | ref p =>
    cases rx
    have e' : (∃ xs, SqL X.K H p xs ∧ n = xs.length) ∨ ∃ xs, SqT X.K H p xs ∧ n = xs.length := e
    rcases e' with ⟨xs, hx, e'⟩ | ⟨xs, hx, e'⟩
    · subst e'
      obtain ⟨its, r', pl, hz⟩ := I.list hx
      have hlen := r'.length
      exact Calls.call_len_list pl.isList (by simp only [List.size_toArray]; omega) ⟨.int xs.length, H, I.tok _, ⟨_, by simp only [List.size_toArray]; rw [hlen]⟩, q⟩
    · subst e'
      obtain ⟨its, r', pl, hz⟩ := I.tuple hx
      have hlen := r'.length
      exact len_tuple pl (by simp only [List.size_toArray]; omega) ⟨.int xs.length, H, I.tok _, ⟨_, by simp only [List.size_toArray]; rw [hlen]⟩, q⟩
  | _ => exact (show False from e).elim
end
end L2

namespace L2
open PySem PySem.Spec PyProof.Rows

/-! ### an instance, its attributes a map -/
structure ObjM (h : Heap) (x dx C : Addr) (mA : Str → Option Value) : Prop where
  obj : h.get? x = some (PySem.W.instObj C dx)
  ns : h.Ns1 dx mA
  ne : dx ≠ x

theorem lookIn_ns {h : Heap} {dx : Addr} {mA : Str → Option Value} (n : h.Ns1 dx mA) : ∃ od, h.get? dx = some od ∧ ∀ name, PySem.W.lookIn name od = some (mA name) := by
  obtain ⟨o, es, ep, ho, hd, hk, _, hm⟩ := n
  refine ⟨o, ho, fun name => ?_⟩
  have e := hm name
  unfold nsFind findBy at e
  rw [← Array.find?_toList] at e
  unfold PySem.W.lookIn
  rw [hd]
  dsimp only
  split
  · rename_i y q
    rw [q] at e
    exact congrArg some e
  · rename_i q
    rw [q] at e
    have a : es.toList.any (·.refKey) = false := by
      rw [List.any_eq_false]
      intro y hy
      obtain ⟨z, t, hkey⟩ := hk y (Array.mem_toList_iff.mp hy)
      simp [DictEntry.refKey, hkey]
    have a' : ¬ es.toList.any (·.refKey) = true := by rw [a]; exact Bool.false_ne_true
    rw [if_neg a']
    exact congrArg some e

theorem ObjM.look {h : Heap} {x dx C : Addr} {mA : Str → Option Value} (I : ObjM h x dx C mA) : ∃ od, PySem.W.InstAt h x (PySem.W.instObj C dx) C (some od) ∧ ∀ name, PySem.W.lookIn name od = some (mA name) :=
  let ⟨od, ho, hl⟩ := lookIn_ns I.ns
  ⟨od, ⟨I.obj, rfl, rfl, ho⟩, hl⟩

section
variable {prog : Program} {w : World} {A : Around} {E : Value → Shared → Prop} {s : Shared} {K : PySem.W.Frag} {x dx C f : Addr} {mA : Str → Option Value} {name : Str} {v : Value}

theorem get_map {expr : Bool} {Q : Value → Shared → Prop} (X : K.In s.heap) (I : ObjM s.heap x dx C mA) (hg : PySem.W.plainGet K C name = true) (hh : PySem.W.hasDictIn K C = true)
    (ha : PySem.W.findIn K (.ref C) name = some none) (hv : mA name = some v) (hv' : PySem.W.handedIn v = true) (h : Q v { s with toks := s.toks + 1 }) :
    wpAny (model prog w) A (getAttr (.ref x) name expr) Q E s := by
  obtain ⟨od, J, hl⟩ := I.look
  exact PySem.W.get_value X J (PySem.W.plainGet_of hg).1 (PySem.W.findObj_own hh ha rfl (by rw [hl, hv])) hv' h

theorem get_meth {pl : Sem Bool} {Q : Value × List Value → Shared → Prop} (X : K.In s.heap) (I : ObjM s.heap x dx C mA) (hg : PySem.W.plainGet K C name = true)
    (hf : PySem.W.findIn K (.ref C) name = some (some (.ref f))) (ht : PySem.W.isFn K (.ref f) = true) (hv : mA name = none) (h : Q (.ref f, [.ref x]) s) :
    wpAny (model prog w) A (getMethod (.ref x) name pl) Q E s := by
  obtain ⟨od, J, hl⟩ := I.look
  exact PySem.W.method_fn X J (PySem.W.plainGet_of hg).1 (PySem.W.plainGet_of hg).2 hf (beq_iff_eq.mp ht) (by show (PySem.W.lookIn name od).map (·.isSome) = some false; rw [hl, hv]; rfl) h

theorem set_map {ns : List Str} {Q : Unit → Shared → Prop} (X : K.In s.heap) (I : ObjM s.heap x dx C mA)
    (hs : PySem.W.findIn K (.ref C) "__setattr__" = some (some (.builtin "object.__setattr__"))) (hp : PySem.W.plainOver K C = true) (ht : PySem.W.takerIn K C name = some none) (hh : PySem.W.hasDictIn K C = true)
    (hw : PySem.Within mA ns) (hsz : ns.length ≤ sizeLine)
    (h : ∀ h', ObjM h' x dx C (fun y => if y = name then some v else mA y) → Heap.SameBut dx s.heap h' → Q () { s with heap := h', toks := s.toks + 2 }) :
    wpAny (model prog w) A (setAttr (.ref x) name v) Q E s := by
  obtain ⟨od, J, hl⟩ := I.look
  refine PySem.W.set_plain X J hs (PySem.W.osa_open (s := { s with toks := s.toks + 1 }) (r := none) X J hp ht fun b => ?_)
  obtain ⟨cd, hc, hd'⟩ := PySem.W.any_some hh
  have hx : s.heap.get? x = some ⟨.ref C, some dx, .plain, #[]⟩ := I.obj
  refine wpAny_bind (wpAny_pure (wpAny_bind (wpAny_bind (wpAny_loadPart hx (wpAny_bind (PySem.W.Looks.here (s := { s with toks := s.toks + 1 }) (PySem.W.looks_clsIn X hc) ?_))))))
  rw [hd']
  refine wpAny_pure (a := some dx) (wpAny_bind (wpAny_pure (wpAny_bind ?_)))
  refine wpAny_nsSet1 (s := { s with toks := s.toks + 1 }) I.ns fun h' hn2 hs2 => ?_
  obtain ⟨oD, esD, epD, hoD, hdD, hcD⟩ := hn2.count (PySem.Within.cons name v hw)
  refine wpAny_bind (wpAny_lookBehind hoD (by rw [hdD]; exact pastItsLine_dict (Nat.le_trans hcD (by rw [List.length_cons]; omega))) ?_)
  exact wpAny_pure (h _ ⟨(hs2.2 _ (Ne.symm I.ne)).trans I.obj, hn2, I.ne⟩ hs2)

/-- C(..): the dict at the heap's end, the instance behind it; then its __init__ -/
theorem make_map {R : Result → Shared → Prop} {vs : List Value} {kw : List (Str × Value)} (X : K.In s.heap) (hm : PySem.W.makesIn K C = true)
    (hi : PySem.W.findIn K (.ref C) "__init__" = some (some (.ref f))) (hf : PySem.W.typeIn K (.ref f) = some (.type "function"))
    (h : codeAny (model prog w) (A.under (.builtin "type.__call__" ⟨.ref C :: vs, kw⟩)) (.call (.ref f) ⟨.ref (s.heap.objs.size + 1) :: vs, kw⟩) (PySem.W.InitBack (s.heap.objs.size + 1) R)
      { s with heap := (s.heap.push PySem.W.emptyDict).push (PySem.W.instObj C s.heap.objs.size) }) :
    codeAny (model prog w) A (.call (.ref C) ⟨vs, kw⟩) R s := by
  obtain ⟨hh, g, d, t, os⟩ := s
  exact PySem.W.make_core (PySem.W.makes_of X hm) (PySem.W.looks_findIn X hi) (fun self => PySem.W.bind_fn X self hf) (.inl rfl) h
end

/-! ### the attributes as a list of pairs -/
def putF (f : Str) (v : V) : List (Str × V) → List (Str × V)
  | [] => [(f, v)]
  | (g, x) :: r => if g = f then (g, v) :: r else (g, x) :: putF f v r
theorem lookup_putF (f g : Str) (v : V) : ∀ fs : List (Str × V), (putF f v fs).lookup g = if g = f then some v else fs.lookup g
  | [] => by
    show List.lookup g [(f, v)] = _
    by_cases h : g = f
    · have hb : (g == f) = true := beq_iff_eq.mpr h
      simp only [List.lookup, hb, if_pos h]
    · have hb : (g == f) = false := beq_eq_false_iff_ne.mpr h
      simp only [List.lookup, hb, if_neg h]
  | (k, x) :: r => by
    have ih := lookup_putF f g v r
    rw [show putF f v ((k, x) :: r) = (if k = f then (k, v) :: r else (k, x) :: putF f v r) from rfl]
    by_cases hk : k = f
    · rw [if_pos hk]
      by_cases h : g = k
      · have hb : (g == k) = true := beq_iff_eq.mpr h
        simp only [List.lookup, hb, if_pos (h.trans hk)]
      · have hb : (g == k) = false := beq_eq_false_iff_ne.mpr h
        simp only [List.lookup, hb, if_neg (fun e : g = f => h (e.trans hk.symm))]
    · rw [if_neg hk]
      by_cases h : g = k
      · have hb : (g == k) = true := beq_iff_eq.mpr h
        simp only [List.lookup, hb, if_neg (fun e : g = f => hk (h.symm.trans e))]
      · have hb : (g == k) = false := beq_eq_false_iff_ne.mpr h
        simp only [List.lookup, hb]
        exact ih
theorem keys_putF (f : Str) (v : V) : ∀ fs : List (Str × V), f ∈ (putF f v fs).map (·.1) ∧ ∀ g, g ∈ fs.map (·.1) → g ∈ (putF f v fs).map (·.1)
  | [] => ⟨by simp [putF], fun g h => by simp at h⟩
  | (k, x) :: r => by
    obtain ⟨i1, i2⟩ := keys_putF f v r
    rw [show putF f v ((k, x) :: r) = (if k = f then (k, v) :: r else (k, x) :: putF f v r) from rfl]
    by_cases hk : k = f
    · rw [if_pos hk]
      subst hk
      exact ⟨by simp, fun g h => by simpa using h⟩
    · rw [if_neg hk]
      refine ⟨?_, fun g h => ?_⟩
      · rw [List.map_cons]
        exact List.mem_cons_of_mem _ i1
      · rw [List.map_cons] at h ⊢
        rcases List.mem_cons.mp h with e | e
        · exact List.mem_cons.mpr (.inl e)
        · exact List.mem_cons_of_mem _ (i2 g e)
theorem length_putF (f : Str) (v : V) : ∀ fs : List (Str × V), (putF f v fs).length ≤ fs.length + 1
  | [] => by simp [putF]
  | (k, x) :: r => by
    have ih := length_putF f v r
    rw [show putF f v ((k, x) :: r) = (if k = f then (k, v) :: r else (k, x) :: putF f v r) from rfl]
    by_cases hk : k = f
    · rw [if_pos hk, List.length_cons, List.length_cons]; omega
    · rw [if_neg hk, List.length_cons, List.length_cons]; omega

theorem RelO.some_of {v : V} {o : Option Value} (r : RelO (some v) o) : ∃ u, o = some u ∧ RelV v u := by
  cases o with
  | none => exact (show False from r).elim
  | some u => exact ⟨u, rfl, r⟩
theorem RelO.none_of {o : Option Value} (r : RelO none o) : o = none := by
  cases o with
  | none => rfl
  | some u => exact (show False from r).elim
theorem handed_of {v : V} {u : Value} (r : RelV v u) : PySem.W.handedIn u = true := by
  cases v with
  | non => cases (show u = Value.none from r); rfl
  | bl b => cases (show u = Value.bool b from r); rfl
  | int i => obtain ⟨t, e⟩ := (show ∃ t, u = Value.int i t from r); cases e; rfl
  | str x => obtain ⟨t, e⟩ := (show ∃ t, u = Value.str x t from r); cases e; rfl
  | byt b => obtain ⟨t, e⟩ := (show ∃ t, u = Value.bytes b t from r); cases e; rfl
  | flt b => obtain ⟨t, e⟩ := (show ∃ t, u = Value.float b t from r); cases e; rfl
  | ref a => cases (show u = Value.ref a from r); rfl
  | ty n => cases (show u = Value.type n from r); rfl

section
variable {P : Program} {w : World} {H H' : Hp} {h h' : Heap} {a C dx : Addr} {fs fs' : List (Str × V)}
theorem ins_get (hok : HOk P w H h) (e : H a = some (.ins C dx fs)) : ∃ mA, ObjM h a dx C mA ∧ (∀ f, RelO (fs.lookup f) (mA f)) ∧ PySem.Within mA (fs.map (·.1)) ∧ fs.length ≤ 1000 ∧ H dx = some (.own a) := by
  obtain ⟨d, z, ne, ob, mA, n, r, q⟩ := (show ObjOk P w H h a (.ins C dx fs) from hok a _ e)
  exact ⟨mA, ⟨ob, n, ne⟩, r, q, z, d⟩
end

/-! ### what of the text a class must have -/
structure Cls (K : PySem.W.Frag) (C : Addr) : Prop where
  pg : PySem.W.plainGet K C Str.empty = true
  hd : PySem.W.hasDictIn K C = true
  po : PySem.W.plainOver K C = true
  sa : PySem.W.findIn K (.ref C) "__setattr__" = some (some (.builtin "object.__setattr__"))
theorem Cls.get {K : PySem.W.Frag} {C : Addr} (c : Cls K C) (f : Str) : PySem.W.plainGet K C f = true := c.pg
/-- no class of it has the name -/
def NoAttr (K : PySem.W.Frag) (C : Addr) (f : Str) : Prop := PySem.W.findIn K (.ref C) f = some none
theorem NoAttr.taker {K : PySem.W.Frag} {C : Addr} {f : Str} (n : NoAttr K C f) : PySem.W.takerIn K C f = some none := by
  unfold PySem.W.takerIn
  rw [show PySem.W.findIn K (.ref C) f = some none from n]
  rfl
/-- a constant of the class -/
structure Con (K : PySem.W.Frag) (C : Addr) (f : Str) (v : V) (u : Value) : Prop where
  at_ : PySem.W.findIn K (.ref C) f = some (some u)
  rel : RelV v u
  get : PySem.W.specialIn K u "__get__" = some none
  cp : PySem.W.copiedNames.contains f = false
/-- a method: a plain def of the class or of one above it -/
structure Meth (K : PySem.W.Frag) (C : Addr) (m : Str) (f : Addr) : Prop where
  at_ : PySem.W.findIn K (.ref C) m = some (some (.ref f))
  fn : PySem.W.isFn K (.ref f) = true
  kp : PySem.W.keepIn K (.ref f) = true

section
variable {X : Cx} {pins : List (Addr × Obj)} {σ : St} {H : Hp} {s : Shared} {a C dx : Addr} {fs : List (Str × V)} {f : Str} {v : V} {A : Around} {E : Value → Shared → Prop}

theorem getattr_ok {b : Bool} {Q : Value → Shared → Prop} (I : Inv X pins σ H s) (e : H a = some (.ins C dx fs)) (c : Cls X.K C) (n : NoAttr X.K C f) (l : fs.lookup f = some v)
    (h : ∀ u s', Inv X pins σ H s' → RelV v u → Q u s') : wpAny (model X.prog X.w) A (getAttr (.ref a) f b) Q E s := by
  obtain ⟨mA, O, r, _, _, _⟩ := ins_get I.hok e
  obtain ⟨u, hu, ru⟩ := RelO.some_of (v := v) (o := mA f) (by rw [← l]; exact r f)
  exact get_map I.kIn O (c.get f) c.hd n hu (handed_of ru) (h u _ (I.tok _) ru)

theorem getmeth_ok {m : Str} {g : Addr} {pl : Sem Bool} {Q : Value × List Value → Shared → Prop} (I : Inv X pins σ H s) (e : H a = some (.ins C dx fs)) (c : Cls X.K C) (k : Meth X.K C m g) (l : fs.lookup m = none)
    (h : Q (.ref g, [.ref a]) s) : wpAny (model X.prog X.w) A (getMethod (.ref a) m pl) Q E s := by
  obtain ⟨mA, O, r, _, _, _⟩ := ins_get I.hok e
  have hn : mA m = none := RelO.none_of (by rw [← l]; exact r m)
  exact get_meth I.kIn O (c.get m) k.at_ k.fn hn h

theorem setattr_ok {y : V} {u : Value} {Q : Unit → Shared → Prop} (I : Inv X pins σ H s) (e : H a = some (.ins C dx fs)) (c : Cls X.K C) (n : NoAttr X.K C f) (hl : fs.length < 1000) (ry : RelV y u)
    (h : ∀ s', Inv X pins σ (upd H a (.ins C dx (putF f y fs))) s' → Q () s') : wpAny (model X.prog X.w) A (setAttr (.ref a) f u) Q E s := by
  obtain ⟨mA, O, r, wi, _, ho⟩ := ins_get I.hok e
  have hz : (fs.map (·.1)).length ≤ sizeLine := by rw [List.length_map, sizeLine_eq]; omega
  refine set_map I.kIn O c.sa c.po n.taker c.hd wi hz fun h' O' sb => h _ ?_
  have hd : ∃ o, h'.get? dx = some o := let ⟨o, _, _, e', _⟩ := O'.ns; ⟨o, e'⟩
  refine I.write (x := a) (e := dx) (by rw [e]; exact True.intro) (.inr ho) (fun b q hb z => (sb.2 b hb).trans z) hd ?_
  refine ⟨by rw [upd_ne O.ne]; exact ho, ?_, O.ne, O'.obj, _, O'.ns, fun g => ?_, fun g hg => ?_⟩
  · have := length_putF f y fs; omega
  · show RelO ((putF f y fs).lookup g) (if g = f then some u else mA g)
    rw [lookup_putF]
    by_cases q : g = f
    · rw [if_pos q, if_pos q]; exact ry
    · rw [if_neg q, if_neg q]; exact r g
  · by_cases q : g = f
    · rw [q]; exact (keys_putF f y fs).1
    · refine (keys_putF f y fs).2 g (wi g fun z => hg ?_)
      show (if g = f then some u else mA g) = none
      rw [if_neg q]; exact z

/-- a new instance, tracked, without attributes -/
theorem Inv.made (I : Inv X pins σ H s) : Inv X pins σ (upd (upd H s.heap.objs.size (.own (s.heap.objs.size + 1))) (s.heap.objs.size + 1) (.ins C s.heap.objs.size []))
    { s with heap := (s.heap.push PySem.W.emptyDict).push (PySem.W.instObj C s.heap.objs.size) } := by
  have e1 : (s.heap.push PySem.W.emptyDict).get? s.heap.objs.size = some PySem.W.emptyDict := Heap.get?_push_size s.heap rfl
  have e2 : ((s.heap.push PySem.W.emptyDict).push (PySem.W.instObj C s.heap.objs.size)).get? (s.heap.objs.size + 1) = some (PySem.W.instObj C s.heap.objs.size) := by
    have := Heap.get?_push_size (s.heap.push PySem.W.emptyDict) (o := PySem.W.instObj C s.heap.objs.size) rfl
    rwa [Heap.size_push] at this
  have e3 : (s.heap.push PySem.W.emptyDict).Ns s.heap.objs.size (fun _ => none) := ⟨PySem.W.emptyDict, #[], _, e1, rfl, (fun e he => absurd he (by simp)), fun _ => rfl⟩
  have I1 := I.laid (a := s.heap.objs.size) (o := .own (s.heap.objs.size + 1)) (h' := s.heap.push PySem.W.emptyDict) (t' := s.toks) (fun b u q => Heap.get?_push_of_some _ q) (Nat.le_refl _) ⟨_, e1⟩
  refine I1.laid (a := s.heap.objs.size + 1) (o := .ins C s.heap.objs.size []) (t' := s.toks) (fun b u q => Heap.get?_push_of_some _ q) (Nat.le_of_eq (Heap.size_push _ _)) ?_
  have ne : s.heap.objs.size ≠ s.heap.objs.size + 1 := Nat.ne_of_lt (Nat.lt_succ_self _)
  refine ⟨by rw [upd_ne ne, upd_same], Nat.zero_le _, ne, e2, fun _ => none, (Heap.Ns1.of_empty e3).at fun o q => Heap.get?_push_of_some _ q, fun _ => True.intro, fun y hy => absurd rfl hy⟩

/-- e.f where nothing but the object is asked: through attributeBase (super) and the last hold -/
theorem attr_of {prog : Program} {w : World} {env : Env} {e : Expr} {f : Str} {pos : Pos} {s : Shared} {Q : Value → Shared → Prop} (hb : attributeBase e f env (eval e env) = eval e env)
    (h : wpAny (model prog w) A (eval e env) (fun o s₁ => wpAny (model prog w) A (getAttr o f true) Q E s₁) E s) : wpAny (model prog w) A (eval (.Attribute e f pos) env) Q E s :=
  Attribute_any_ h (by rw [arm_eval_Attribute, hb])
end

/-! ### readings and rules -/
/-- e.f, an attribute of the instance -/
def tFld (K : PySem.W.Frag) (ta : TE) (f : Str) : TE := fun σ H Q => ta σ H fun x H1 => ∃ a C dx fs v, x = .ref a ∧ H1 a = some (.ins C dx fs) ∧ Cls K C ∧ NoAttr K C f ∧ fs.lookup f = some v ∧ Q v H1
/-- e.f = value -/
def sFld (K : PySem.W.Frag) (ta tv : TE) (f : Str) : TS := fun D σ H => tv σ H fun y H1 => ta σ H1 fun x H2 => ∃ a C dx fs, x = .ref a ∧ H2 a = some (.ins C dx fs) ∧ Cls K C ∧ NoAttr K C f ∧ fs.length < 1000 ∧
  D.nx σ (upd H2 a (.ins C dx (putF f y fs)))
section
variable {X : Cx} {o e value : Expr} {f : Str} {pos pos' tpos : Pos} {ta tv : TE}
theorem pe_fld (he : PE X e ta) (hb : attributeBase e f X.env (eval e X.env) = eval e X.env) : PE X (.Attribute e f pos) (tFld X.K ta f) := by
  intro pins s σ H Q I h
  refine attr_of hb (thn (he pins s σ H _ I h) fun u s1 ⟨x, H1, I1, rx, a, C, dx, fs, v, ex, ea, c, n, l, q⟩ => ?_)
  subst ex
  obtain rfl : u = Value.ref a := rx
  exact getattr_ok I1 ea c n l fun u' s2 I2 ru => ⟨v, H1, I2, ru, q⟩
theorem ps_fld (ha : PE X o ta) (hv : PE X value tv) (hs : swapsWith value (some (.Attribute o f pos')) pos.line X.env = pure false) : PS X (.Assign [.Attribute o f pos'] value pos) (sFld X.K ta tv f) := by
  intro pins s σ H D I h
  refine plainObj_wpAny_Assign_Attribute (thn (hv pins s σ H _ I h) fun u s1 ⟨y, H1, I1, ry, q⟩ => thn (ha pins s1 σ H1 _ I1 q) fun ov s2 ⟨x, H2, I2, rx, a, C, dx, fs, ex, ea, c, n, l, q2⟩ => ?_) hs
  subst ex
  obtain rfl : ov = Value.ref a := rx
  exact setattr_ok I2 ea c n l ry fun s3 I3 => ⟨σ, _, I3, q2⟩
end

/-! ### isinstance -/
section
variable {X : Cx} {pins : List (Addr × Obj)} {σ : St} {H : Hp} {s : Shared} {A : Around} {E : Value → Shared → Prop} {Q : Value → Shared → Prop} {c : Value} {b : Bool}
/-- the type of a value, as the fragment's deciders take it; for an instance its class -/
inductive TyOf (K : PySem.W.Frag) (H : Hp) : V → Value → Prop where
  | non : TyOf K H .non (.type "NoneType")
  | bl (x : Bool) : TyOf K H (.bl x) (.type "bool")
  | int (i : Int) : TyOf K H (.int i) (.type "int")
  | str (x : Str) : TyOf K H (.str x) (.type "str")
  | flt (x : UInt64) : TyOf K H (.flt x) (.type "float")
  | lst {a : Addr} {xs : List V} (e : H a = some (.lst xs)) : TyOf K H (.ref a) (.type "list")
  | frz {a : Addr} {o : Obj} {xs : List V} (e : H a = some (.frz o (.lst xs))) : TyOf K H (.ref a) (.type "list")
  | tup {a : Addr} {xs : List V} (e : H a = some (.tup xs)) : TyOf K H (.ref a) (.type "tuple")
  | dK {a : Addr} {kvs : List (Key × V)} (e : H a = some (.dK kvs)) : TyOf K H (.ref a) (.type "dict")
  | dT {a : Addr} {kvs : List (List Key × V)} (e : H a = some (.dT kvs)) : TyOf K H (.ref a) (.type "dict")
  | ins {a C dx : Addr} {fs : List (Str × V)} (e : H a = some (.ins C dx fs)) (cl : Cls K C) (ha : PySem.W.findIn K (.ref C) "__class__" = some (some (.builtin "object.__class__")))
      (hn : PySem.W.specialIn K (.builtin "object.__class__") "__get__" = some (some (.builtin "getset_descriptor.__get__"))) (htk : PySem.W.takesIn K (.builtin "object.__class__") = some true)
      (hm : PySem.W.mroIn K C (.type "object") = some true) : TyOf K H (.ref a) (.ref C)
/-- isinstance(x, c) for one class c, a built-in or an own one: kitOne's answer -/
theorem isinst_ok {x : V} {u t : Value} (I : Inv X pins σ H s) (rx : RelV x u) (ty : TyOf X.K H x t) (e : PySem.W.kitOne X.K t c = some b) (h : ∀ tk, Q (.bool b) { s with toks := tk }) :
    wpAny (model X.prog X.w) A (call (.builtin "isinstance") [u, c]) Q E s := by
  cases ty with
  | non => cases (show u = Value.none from rx); exact PySem.W.kia_one PySem.W.kitx_none I.kIn True.intro e (fun z => nomatch z) h
  | bl y => cases (show u = Value.bool y from rx); exact PySem.W.kia_one PySem.W.kitx_bool I.kIn True.intro e (fun z => nomatch z) h
  | int i => obtain ⟨t, q⟩ := (show ∃ t, u = Value.int i t from rx); cases q; exact PySem.W.kia_one PySem.W.kitx_int I.kIn True.intro e (fun z => nomatch z) h
  | str y => obtain ⟨t, q⟩ := (show ∃ t, u = Value.str y t from rx); cases q; exact PySem.W.kia_one PySem.W.kitx_str I.kIn True.intro e (fun z => nomatch z) h
  | flt y => obtain ⟨t, q⟩ := (show ∃ t, u = Value.float y t from rx); cases q; exact PySem.W.kia_one PySem.W.kitx_float I.kIn True.intro e (fun z => nomatch z) h
  | @lst a xs ea =>
    cases (show u = Value.ref a from rx)
    obtain ⟨_, _, n, _, h1⟩ := (show ObjOk X.prog X.w H s.heap a (.lst xs) from I.hok a _ ea)
    exact PySem.W.kia_one PySem.W.kitx_list I.kIn ⟨_, h1, rfl⟩ e (fun z => nomatch z) h
  | @frz a ob xs ea =>
    cases (show u = Value.ref a from rx)
    obtain ⟨_, _, _, n, _, h1⟩ := (show ObjOk X.prog X.w H s.heap a (.frz ob (.lst xs)) from I.hok a _ ea)
    exact PySem.W.kia_one PySem.W.kitx_list I.kIn ⟨_, h1, rfl⟩ e (fun z => nomatch z) h
  | @tup a xs ea =>
    cases (show u = Value.ref a from rx)
    obtain ⟨_, _, _, p⟩ := (show ObjOk X.prog X.w H s.heap a (.tup xs) from I.hok a _ ea)
    obtain ⟨o, h1, h2, _⟩ := p
    exact PySem.W.kia_one PySem.W.kitx_tuple I.kIn ⟨o, h1, h2⟩ e (fun z => nomatch z) h
  | @dK a kvs ea =>
    cases (show u = Value.ref a from rx)
    obtain ⟨_, _, vs, _, p⟩ := (show ObjOk X.prog X.w H s.heap a (.dK kvs) from I.hok a _ ea)
    obtain ⟨o, es, ep, h1, h2, _⟩ := p
    exact PySem.W.kia_one PySem.W.kitx_dict I.kIn ⟨o, h1, h2.1⟩ e (fun z => nomatch z) h
  | @dT a kvs ea =>
    cases (show u = Value.ref a from rx)
    obtain ⟨_, _, xs, _, o, es, ep, h1, h2, _⟩ := (show ObjOk X.prog X.w H s.heap a (.dT kvs) from I.hok a _ ea)
    exact PySem.W.kia_one PySem.W.kitx_dict I.kIn ⟨o, h1, h2.1⟩ e (fun z => nomatch z) h
  | @ins a C dx fs ea cl ha hn htk hm =>
    cases (show u = Value.ref a from rx)
    obtain ⟨mA, O, _⟩ := ins_get I.hok ea
    obtain ⟨od, J, _⟩ := O.look
    exact PySem.W.kia_one (PySem.W.kitx_own (cl.get _) cl.hd ha hn htk hm) I.kIn J e (fun z => nomatch z) h
end
end L2

namespace L2
open PySem PySem.Spec PyProof.Rows

/-! ### room -/
structure Room (k : Nat) (A : Around) : Prop where
  hd : A.handled = none
  dp : A.depth + 3 * k + 5 < recursionLimit
  un : A.units + 16 * k + 200 < cLine
theorem Room.mono {j k : Nat} {A : Around} (r : Room k A) (h : j ≤ k) : Room j A := ⟨r.hd, by have := r.dp; omega, by have := r.un; omega⟩
theorem Room.deeper {k : Nat} {A : Around} (r : Room (k + 1) A) (env : Env) : Room k (A.deeper env) :=
  ⟨r.hd, by have := r.dp; show A.depth + 1 + 3 * k + 5 < _; omega, by have := r.un; show A.units + 3 + 16 * k + 200 < _; omega⟩
theorem make_depth {A : Around} {C : Addr} {us : List Value} {kw : List (Str × Value)} : (A.under (.builtin "type.__call__" ⟨.ref C :: us, kw⟩)).depth = A.depth + 1 := by
  first | rfl | simp [Around.under, Code.weight, Code.isCreation, Code.isGuard, Code.isCaller, Code.frames, Code.isFrame, guardIds]
theorem make_units {A : Around} {C : Addr} {us : List Value} {kw : List (Str × Value)} : (A.under (.builtin "type.__call__" ⟨.ref C :: us, kw⟩)).units = A.units + 1 := by
  first | rfl | simp [Around.under, Code.cUnits, Code.frames, Code.isFrame]
theorem Room.make {k : Nat} {A : Around} (r : Room (k + 1) A) (C : Addr) (us : List Value) (kw : List (Str × Value)) : Room k (A.under (.builtin "type.__call__" ⟨.ref C :: us, kw⟩)) :=
  ⟨r.hd, by have := r.dp; rw [make_depth]; omega, by have := r.un; rw [make_units]; omega⟩
theorem Room.depth {k : Nat} {A : Around} (r : Room k A) : A.depth < recursionLimit := by have := r.dp; omega
theorem Room.units {k : Nat} {A : Around} (r : Room k A) : A.units + 64 < cLine := by have := r.un; omega
/-! ### argument lists and displays -/
def tNil : TA := fun _ H Q => Q [] H
def tCons (ta : TE) (tr : TA) : TA := fun σ H Q => ta σ H fun x H1 => tr σ H1 fun xs H2 => Q (x :: xs) H2
section
variable {X : Cx} {e : Expr} {es : List Expr} {te : TE} {t : TA} {pos : Pos}
theorem pa_nil : PA X [] tNil := fun _ _ _ _ H Q I h => Calls.spliced_nil ⟨[], H, I, .nil, h⟩
theorem pa_cons (ha : PE X e te) (hr : PA X es t) (hs : starEach (e :: es) X.env = (false, eval e X.env) :: starEach es X.env := by rfl) : PA X (e :: es) (tCons te t) := by
  intro pos pins s σ H Q I h
  rw [hs]
  show wpAny _ _ (spliced ((false, eval e X.env) :: backTo pos (starEach es X.env))) _ _ s
  refine Calls.spliced_cons (thn (ha pins s σ H _ I h) fun u s1 ⟨x, H1, I1, r1, q1⟩ => ?_)
  exact thn (hr pos pins s1 σ H1 _ I1 q1) fun us s2 ⟨xs, H2, I2, r2, q2⟩ => ⟨x :: xs, H2, I2, .cons r1 r2, q2⟩

/-- a tuple, a list of written items -/
def tTup (t : TA) : TE := fun σ H Q => t σ H fun xs H1 => xs.length ≤ sizeLine ∧ ∀ p, H1 p = none → Q (.ref p) (upd H1 p (.tup xs))
def tLst (t : TA) : TE := fun σ H Q => t σ H fun xs H1 => xs.length ≤ sizeLine ∧ ∀ p, H1 p = none → Q (.ref p) (upd H1 p (.lst xs))
theorem pe_tup {x1} (h : PA X es t) : PE X (.Tuple es x1 pos) (tTup t) := by
  intro pins s σ H Q I hq
  refine wpAny_Tuple_spliced (thn (h pos pins s σ H _ I hq) fun us s1 ⟨xs, H1, I1, r, z, q⟩ => ⟨by rw [← r.length]; exact z, ?_⟩)
  have hf : H1 s1.heap.objs.size = none := I1.hok.fresh (Nat.le_refl _)
  refine ⟨.ref s1.heap.objs.size, upd H1 s1.heap.objs.size (.tup xs), I1.laid (t' := s1.toks) (fun b u e => Heap.get?_push_of_some _ e) (Nat.le_refl _) ?_, rfl, q _ hf⟩
  exact ⟨z, us, r, ⟨_, Heap.get?_push_size _ rfl, rfl, _, rfl⟩⟩
theorem pe_lst (h : PA X es t) : PE X (.List es pos) (tLst t) := by
  intro pins s σ H Q I hq
  refine wpAny_List_spliced (thn (h pos pins s σ H _ I hq) fun us s1 ⟨xs, H1, I1, r, z, q⟩ => ⟨by rw [← r.length]; exact z, ?_⟩)
  have hf : H1 s1.heap.objs.size = none := I1.hok.fresh (Nat.le_refl _)
  refine ⟨.ref s1.heap.objs.size, upd H1 s1.heap.objs.size (.lst xs), I1.laid (t' := s1.toks) (fun b u e => Heap.get?_push_of_some _ e) (Nat.le_refl _) ?_, rfl, q _ hf⟩
  exact ⟨z, us, 0, r, Heap.get?_push_size _ rfl⟩
end

/-! ### what a def promises -/
/-- a def's promise: the bound arguments in the parameters' order, the heap, the wanted end, the wanted exception -/
abbrev Sp := List V → Hp → VK → XK → Prop
/-- how an exception lies behind a call (file 08 gives it): the callers' frames, abstract heap and state ahead of the call, the wish, the exception, the state -/
abbrev CXT := List Env → Hp → Shared → XK → Value → Shared → Prop

/-- the state at a call -/
structure Env0 (P : Program) (w : World) (K : PySem.W.Frag) (mg : Str → Option Value) (base : Heap) (A : Around) (outer : List Env) (s : Shared) (H : Hp) : Prop where
  frames : A.frames = some outer
  mod : Mod K mg base
  bs : ∀ b o, base.get? b = some o → s.heap.get? b = some o ∧ H b = none
  bsz : base.objs.size ≤ s.heap.objs.size
  funs : s.heap.FunFrames base outer
  frf : ∀ b ∈ frs outer, H b = none
  hok : HOk P w H s.heap
  bare : AllBare s.gens
/-- a call's end -/
def CE (outer : List Env) (P : Program) (w : World) (H : Hp) (s : Shared) (Q : VK) (u : Value) (s' : Shared) : Prop :=
  ∃ v H', s'.os = s.os ∧ AllBare s'.gens ∧ Un (frs outer) [] H H' s.heap s'.heap ∧ HOk P w H' s'.heap ∧ RelV v u ∧ Q v H'
def CR (CX : CXT) (outer : List Env) (P : Program) (w : World) (H : Hp) (s : Shared) (Q : VK) (E : XK) (r : Result) (s' : Shared) : Prop :=
  match r with
  | .ok (.ret u) => CE outer P w H s Q u s'
  | .ok _ => False
  | .error e => CX outer H s E e s'
structure FnOk (P : Program) (w : World) (K : PySem.W.Frag) (mg : Str → Option Value) (base : Heap) (CX : CXT) (k : Nat) (f : Addr) (fd : FuncData) (ps : List Str) (sp : Sp) : Prop where
  len : ∀ vs H Q E, sp vs H Q E → vs.length = ps.length
  run : ∀ (A : Around) (outer : List Env) (s : Shared) (H : Hp) (args : Args) (us : List Value) (vs : List V) (Q : VK) (E : XK), Room k A → Env0 P w K mg base A outer s H → BindsTo s fd args (ps.zip us) → Vals vs us → sp vs H Q E →
    codeAny (model P w) A (.call (.ref f) args) (CR CX outer P w H s Q E) s
theorem FnOk.mono {P : Program} {w : World} {K : PySem.W.Frag} {mg : Str → Option Value} {base : Heap} {CX : CXT} {j k : Nat} {f : Addr} {fd : FuncData} {ps : List Str} {sp : Sp} (F : FnOk P w K mg base CX j f fd ps sp) (h : j ≤ k) :
    FnOk P w K mg base CX k f fd ps sp := ⟨F.len, fun A outer s H args us vs Q E hr => F.run A outer s H args us vs Q E (hr.mono h)⟩
theorem Env0.make {P : Program} {w : World} {K : PySem.W.Frag} {mg : Str → Option Value} {base : Heap} {A : Around} {outer : List Env} {s : Shared} {H : Hp} (e : Env0 P w K mg base A outer s H) (C : Addr) (us : List Value) (kw : List (Str × Value)) :
    Env0 P w K mg base (A.under (.builtin "type.__call__" ⟨.ref C :: us, kw⟩)) outer s H := ⟨by first | exact e.frames | (simpa [Around.under, Code.envs, Code.isFrame, pushEnvs] using e.frames), e.mod, e.bs, e.bsz, e.funs, e.frf, e.hok, e.bare⟩
section
variable {X : Cx} {pins : List (Addr × Obj)} {σ : St} {H : Hp} {s s' : Shared}
/-- from a body: what a callee wants -/
theorem Inv.env0 (I : Inv X pins σ H s) : Env0 X.prog X.w X.K X.mg X.base X.A X.stack s H :=
  ⟨I.ok.frames, I.ok.mod, I.bs, Nat.le_trans I.ok.bsz I.sz, I.stack, I.stkFree, I.hok, I.bare⟩
/-- behind a call -/
theorem Inv.after {Q : VK} {u : Value} (I : Inv X pins σ H s) (h : CE X.stack X.prog X.w H s Q u s') : EP X pins σ Q u s' := by
  obtain ⟨v, H', os, bare, un, hok, r, q⟩ := h
  obtain ⟨hh, g, d, t, os'⟩ := s'
  obtain rfl : os' = s.os := os
  exact ⟨v, H', I.call (h' := hh) (g' := g) (d' := d) (t' := t) (ch := []) un hok bare (fun b z => absurd z (by simp)), r, q⟩
end

/-! ### calls -/
/-- f(..): the written arguments, then the defaults dvs; E: what is wanted of an exception -/
def tCall (sp : Sp) (dvs : List V) (E : XK) (t : TA) : TE := fun σ H Q => t σ H fun vs H1 => sp (vs ++ dvs) H1 Q E
/-- C(..): a new instance and its dict, then __init__ -/
def tMake (C : Addr) (sp : Sp) (dvs : List V) (E : XK) (t : TA) : TE := fun σ H Q => t σ H fun vs H1 => ∀ x dx, H1 x = none → H1 dx = none → dx ≠ x →
  sp (.ref x :: (vs ++ dvs)) (upd (upd H1 dx (.own x)) x (.ins C dx [])) (fun v H2 => v = .non ∧ Q (.ref x) H2) E

/-- how the parameters are bound: us the positional arguments, kw the keywords' values by name, ds the defaults that fill up -/
def Binds (K : PySem.W.Frag) (fd : FuncData) (ps : List Str) (ds : List Value) : Prop :=
  ∀ (s : Shared) (us : List Value), K.In s.heap → (us ++ ds).length = ps.length → BindsTo s fd ⟨us, []⟩ (ps.zip (us ++ ds))
/-- every parameter is given -/
theorem Binds.all {K : PySem.W.Frag} {fd : FuncData} {ps : List Str} (h : ∀ us : List Value, us.length = ps.length → bindArgs fd ⟨us, []⟩ = pure (ps.zip us)) : Binds K fd ps [] := fun s us _ hl => by
  rw [List.append_nil] at hl ⊢
  exact .of_eq (h us hl)

/-- an exception of a callee reaches what this body wants of exceptions -/
def Passes (CX : CXT) (X : Cx) (E : XK) : Prop := ∀ (pins : List (Addr × Obj)) (σ : St) (H : Hp) (s : Shared) (e : Value) (s' : Shared), Inv X pins σ H s → CX X.stack H s E e s' → X.xe e s'

section
variable {X : Cx} {CX : CXT} {k : Nat} {f C : Addr} {fd : FuncData} {ps : List Str} {sp : Sp} {dvs : List V} {ds : List Value} {E : XK} {x m : Str} {p pos apos : Pos} {e o : Expr} {es : List Expr} {ta : TE} {t : TA}

/-- the callee runs -/
theorem run_fn {pins : List (Addr × Obj)} {σ : St} {H : Hp} {s : Shared} {Q : VK} {us : List Value} {vs : List V} (F : FnOk X.prog X.w X.K X.mg X.base CX k f fd ps sp) (hr : Room k X.A) (hb : Binds X.K fd ps ds) (hd : Vals dvs ds) (hx : Passes CX X E)
    (I : Inv X pins σ H s) (r : Vals vs us) (h : sp (vs ++ dvs) H Q E) : wpAny (model X.prog X.w) X.A (call (.ref f) us) (EP X pins σ Q) X.xe s := by
  have r2 : Vals (vs ++ dvs) (us ++ ds) := r.append hd
  have hl : (us ++ ds).length = ps.length := by rw [← r2.length]; exact F.len _ _ _ _ h
  refine wpAny_call (codeAny_mono (F.run X.A X.stack s H ⟨us, []⟩ (us ++ ds) (vs ++ dvs) Q E hr I.env0 (hb s us I.kIn hl) r2 h) fun r s' hq => ?_)
  cases r with
  | error e => exact hx pins σ H s e s' I hq
  | ok fl =>
    cases fl with
    | ret u => exact I.after hq
    | next => exact False.elim hq
    | brk => exact False.elim hq
    | cont => exact False.elim hq

theorem pe_call (F : FnOk X.prog X.w X.K X.mg X.base CX k f fd ps sp) (hr : Room k X.A) (hg : Gl X x) (hm : X.mg x = some (.ref f)) (hk : PySem.W.keepIn X.K (.ref f) = true) (hb : Binds X.K fd ps ds) (hd : Vals dvs ds) (hx : Passes CX X E)
    (ha : PA X (e :: es) t) (hdb : (x == ("__debug__" : Str)) = false := by decide) (he : starEach (e :: es) X.env = (false, eval e X.env) :: starEach es X.env := by rfl) (hpl : (backTo pos (starEach es X.env)).any (·.1) = false := by rfl) :
    PE X (.Call (.Name x p) (e :: es) [] pos) (tCall sp dvs E t) := by
  intro pins s σ H Q I h
  refine wpAny_Call_Name_kw (ld_glob I hg hm ?_ hdb)
  refine PySem.W.callWith_K (h₀ := X.base) I.ok.mod.kin hk (thn (ha pos pins s σ H _ I h) fun us s1 ⟨vs, H1, I1, r, q⟩ => ⟨I1.kIn, ?_⟩) he hpl
  exact run_fn F hr hb hd hx I1 r q
/-- what a class must have to be made -/
structure Mk (K : PySem.W.Frag) (C f : Addr) : Prop where
  makes : PySem.W.makesIn K C = true
  init : PySem.W.findIn K (.ref C) "__init__" = some (some (.ref f))
  fn : PySem.W.isFn K (.ref f) = true
  kp : PySem.W.keepIn K (.ref C) = true

theorem run_make {pins : List (Addr × Obj)} {σ : St} {H : Hp} {s : Shared} {Q : VK} {us : List Value} {vs : List V} (M : Mk X.K C f) (F : FnOk X.prog X.w X.K X.mg X.base CX k f fd ps sp) (hr : Room (k + 1) X.A) (hb : Binds X.K fd ps ds) (hd : Vals dvs ds)
    (hx : Passes CX X E) (I : Inv X pins σ H s) (r : Vals vs us)
    (h : ∀ x dx, H x = none → H dx = none → dx ≠ x → sp (.ref x :: (vs ++ dvs)) (upd (upd H dx (.own x)) x (.ins C dx [])) (fun v H2 => v = .non ∧ Q (.ref x) H2) E) :
    wpAny (model X.prog X.w) X.A (call (.ref C) us) (EP X pins σ Q) X.xe s := by
  have hq := h (s.heap.objs.size + 1) s.heap.objs.size (I.hok.fresh (Nat.le_succ _)) (I.hok.fresh (Nat.le_refl _)) (Nat.ne_of_lt (Nat.lt_succ_self _))
  have I2 := Inv.made (C := C) I
  have r2 : Vals (V.ref (s.heap.objs.size + 1) :: (vs ++ dvs)) (Value.ref (s.heap.objs.size + 1) :: (us ++ ds)) := .cons rfl (r.append hd)
  have hl : (Value.ref (s.heap.objs.size + 1) :: us ++ ds).length = ps.length := by
    have e := r2.length
    rw [F.len _ _ _ _ hq] at e
    exact e.symm
  refine wpAny_call (make_map (f := f) I.kIn M.makes M.init (beq_iff_eq.mp M.fn) (codeAny_mono (F.run _ X.stack _ _ ⟨Value.ref (s.heap.objs.size + 1) :: us, []⟩ (Value.ref (s.heap.objs.size + 1) :: (us ++ ds)) _ _ E (hr.make C us [])
    (I2.env0.make C us []) (hb _ (Value.ref (s.heap.objs.size + 1) :: us) I2.kIn hl) r2 hq) fun r s' hq' => ?_))
  cases r with
  | error e => exact hx pins σ _ _ e s' I2 hq'
  | ok fl =>
    cases fl with
    | ret u =>
      obtain ⟨v, H', I3, rv, ev, q3⟩ := I2.after hq'
      subst ev
      exact ⟨rv, ⟨V.ref (s.heap.objs.size + 1), H', I3, rfl, q3⟩⟩
    | next => exact False.elim hq'
    | brk => exact False.elim hq'
    | cont => exact False.elim hq'
theorem pe_make (M : Mk X.K C f) (F : FnOk X.prog X.w X.K X.mg X.base CX k f fd ps sp) (hr : Room (k + 1) X.A) (hg : Gl X x) (hm : X.mg x = some (.ref C)) (hb : Binds X.K fd ps ds) (hd : Vals dvs ds) (hx : Passes CX X E)
    (ha : PA X (e :: es) t) (hdb : (x == ("__debug__" : Str)) = false := by decide) (he : starEach (e :: es) X.env = (false, eval e X.env) :: starEach es X.env := by rfl) (hpl : (backTo pos (starEach es X.env)).any (·.1) = false := by rfl) :
    PE X (.Call (.Name x p) (e :: es) [] pos) (tMake C sp dvs E t) := by
  intro pins s σ H Q I h
  refine wpAny_Call_Name_kw (ld_glob I hg hm ?_ hdb)
  refine PySem.W.callWith_K (h₀ := X.base) I.ok.mod.kin M.kp (thn (ha pos pins s σ H _ I h) fun us s1 ⟨vs, H1, I1, r, q⟩ => ⟨I1.kIn, ?_⟩) he hpl
  exact run_make M F hr hb hd hx I1 r q
end

/-! ### keywords -/
section
variable {X : Cx} {CX : CXT} {k : Nat} {f C : Addr} {fd : FuncData} {ps ks : List Str} {sp : Sp} {E : XK} {x m : Str} {p pos apos kpos : Pos} {e o : Expr} {es : List Expr} {kws : List Keyword} {te ta : TE} {t tk : TA} {nm : Option Str}
/-- how a call with keywords binds: g puts the positional values us and the keywords' values ws (names ks) in the parameters' order, defaults among them -/
structure KBinds (K : PySem.W.Frag) (fd : FuncData) (ps ks : List Str) (g : List Value → List Value → List Value) (gV : List V → List V → List V) : Prop where
  to : ∀ (s : Shared) (us ws : List Value), K.In s.heap → (g us ws).length = ps.length → BindsTo s fd ⟨us, ks.zip ws⟩ (ps.zip (g us ws))
  rel : ∀ {vs : List V} {us : List Value} {zs : List V} {ws : List Value}, Vals vs us → Vals zs ws → Vals (gV vs zs) (g us ws)
variable {g : List Value → List Value → List Value} {gV : List V → List V → List V}
end

/-! ### a def's body keeps its promise -/
/-- names: the parameters first -/
structure FnScope (N P : List Str) (sc : Scope) : Prop where
  kind : sc.kind = .function
  co : sc.isCoroutine = false
  gen : sc.isGenerator = false
  nd : N.Nodup
  pre : N.take P.length = P
  par : ∀ x ∈ P, sc.names.lookup x = some .local ∨ sc.names.lookup x = some .cell
  nofree : ∀ y ∈ sc.names, y.2 ≠ .free

theorem bindL_out {kindOf : Str → Option NameKind} {x : Str} : ∀ {binds : List (Str × Value)} {m : Str → Option Value}, (∀ v, (x, v) ∉ binds) → bindL kindOf binds m x = m x
  | [], _, _ => rfl
  | (n, v) :: r, m, h => by
    unfold bindL
    rw [bindL_out fun w hw => h w (List.mem_cons_of_mem _ hw)]
    split
    · have : x ≠ n := by rintro rfl; exact h v List.mem_cons_self
      simp [this]
    · rfl
theorem bindC_out {kindOf : Str → Option NameKind} {x : Str} : ∀ {binds : List (Str × Value)} {m : Str → Option Value}, (∀ v, (x, v) ∉ binds) → bindC kindOf binds m x = m x
  | [], _, _ => rfl
  | (n, v) :: r, m, h => by
    unfold bindC
    rw [bindC_out fun w hw => h w (List.mem_cons_of_mem _ hw)]
    split
    · rfl
    · have : x ≠ n := by rintro rfl; exact h v List.mem_cons_self
      simp [this]
theorem bindL_get {kindOf : Str → Option NameKind} {x : Str} {v : Value} : ∀ {P : List Str} {vs : List Value} {i : Nat} {m : Str → Option Value}, P.Nodup → P[i]? = some x → vs[i]? = some v → kindOf x = some .local →
    bindL kindOf (P.zip vs) m x = some v
  | [], _, _, _, _, h, _, _ => by simp at h
  | _ :: _, [], _, _, _, _, h, _ => by simp at h
  | p :: P, w :: vs, 0, m, nd, h1, h2, hk => by
    simp at h1 h2; subst h1; subst h2
    show bindL kindOf ((p, w) :: P.zip vs) m p = _
    unfold bindL
    rw [bindL_out fun v hv => (List.nodup_cons.mp nd).1 (List.of_mem_zip hv).1, if_pos hk]
    simp
  | p :: P, w :: vs, i + 1, m, nd, h1, h2, hk => by
    show bindL kindOf ((p, w) :: P.zip vs) m x = _
    unfold bindL
    exact bindL_get (i := i) (List.nodup_cons.mp nd).2 (by simpa using h1) (by simpa using h2) hk
theorem bindC_get {kindOf : Str → Option NameKind} {x : Str} {v : Value} : ∀ {P : List Str} {vs : List Value} {i : Nat} {m : Str → Option Value}, P.Nodup → P[i]? = some x → vs[i]? = some v → kindOf x ≠ some .local →
    bindC kindOf (P.zip vs) m x = some v
  | [], _, _, _, _, h, _, _ => by simp at h
  | _ :: _, [], _, _, _, _, h, _ => by simp at h
  | p :: P, w :: vs, 0, m, nd, h1, h2, hk => by
    simp at h1 h2; subst h1; subst h2
    show bindC kindOf ((p, w) :: P.zip vs) m p = _
    unfold bindC
    rw [bindC_out fun v hv => (List.nodup_cons.mp nd).1 (List.of_mem_zip hv).1, if_neg hk]
    simp
  | p :: P, w :: vs, i + 1, m, nd, h1, h2, hk => by
    show bindC kindOf ((p, w) :: P.zip vs) m x = _
    unfold bindC
    exact bindC_get (i := i) (List.nodup_cons.mp nd).2 (by simpa using h1) (by simpa using h2) hk

/-- the names' values at the entry -/
def start (N : List Str) (vs : List V) : St := vs.map some ++ List.replicate (N.length - vs.length) none

/-- the context of a def's body, at its entry; an exception leaves the frame, then lies as CX says -/
def cxOf (CX : CXT) (P : Program) (w : World) (K : PySem.W.Frag) (mg : Str → Option Value) (base : Heap) (N : List Str) (qual : Str) (scope : Scope) (f : Addr) (cd : Value) (A : Around) (outer : List Env) (s : Shared) (H : Hp) (E : XK) : Cx where
  prog := P
  w := w
  K := K
  mg := mg
  base := base
  A := A.deeper (envOfC qual scope s.heap.objs.size f cd)
  N := N
  s₀ := s
  H₀ := H
  env := envOfC qual scope s.heap.objs.size f cd
  outer := outer
  stack := envOfC qual scope s.heap.objs.size f cd :: outer
  ex := []
  calm := true
  fn := fun _ => true
  pn := []
  xe := fun e s' => wpAny (model P w) (A.deeper (envOfC qual scope s.heap.objs.size f cd)) (leaving (envOfC qual scope s.heap.objs.size f cd) e) (fun _ s'' => CX outer H s E e s'') (fun e' s'' => CX outer H s E e' s'') s'

theorem cell_has {sc : Scope} {n : Nat} {x : Str} (h : sc.names.lookup x = some .cell) : ∃ c, (cellsFrom n sc.names []).lookup x = some c := by
  have q := PySem.W.cellsFrom_some sc.names n [] (.inl h)
  exact Option.isSome_iff_exists.mp q

theorem inv_start {CX : CXT} {P : Program} {w : World} {K : PySem.W.Frag} {mg : Str → Option Value} {base : Heap} {N ps : List Str} {qual : Str} {scope : Scope} {f : Addr} {cd : Value} {A : Around} {outer : List Env} {s s1 : Shared} {H : Hp} {E : XK} {us : List Value} {vs : List V}
    (S : FnScope N ps scope) (hd : A.handled = none) (e0 : Env0 P w K mg base A outer s H) (hl : vs.length = ps.length) (r : Vals vs us)
    (x : InCallC s s.heap.objs.size (bindL (envOfC qual scope s.heap.objs.size f cd).kindOf (ps.zip us) fun _ => none) (cellsFrom (s.heap.objs.size + 1) scope.names []) (bindC (envOfC qual scope s.heap.objs.size f cd).kindOf (ps.zip us) fun _ => none) s1) :
    Inv (cxOf CX P w K mg base N qual scope f cd A outer s H E) [] (start N vs) H s1 := by
  have hpl : ps.length ≤ N.length := by have := congrArg List.length S.pre; rw [List.length_take] at this; omega
  obtain ⟨h1, tk, rfl, hk⟩ := x.done
  have noA : ∀ b : Addr, b ∉ (cxOf CX P w K mg base N qual scope f cd A outer s H E).ex := fun b z => absurd (show b ∈ ([] : List Addr) from z) (by simp)
  refine ⟨⟨e0.mod, S.kind, rfl, rfl, Nat.le_refl _, fun y z c h1 h2 => ?_, fun y hy => ?_, fun y c _ h => ?_, fun _ => hd, Around.frames_deeper e0.frames, .inr ⟨rfl, rfl⟩, fun b z => absurd z (noA b), e0.bs, e0.bsz, fun b _ _ => noA b, fun b z => absurd z (noA b), e0.funs, e0.frf⟩,
    rfl, e0.bare, Un.kept hk, ⟨_, x.toInCall.ns, fun i y v h1 h2 h3 => ?_⟩, fun y c h => ⟨_, x.cell y c h⟩, e0.hok.fresh (Nat.le_refl _), fun y c h => ?_, fun p hp => absurd (show p ∈ ([] : List (Addr × Obj)) from hp) (by simp), e0.hok.kept hk, ?_⟩
  · exact name_of_addr x.apart (PySem.mem_of_lookup h1) (PySem.mem_of_lookup h2)
  · have hy : scope.names.lookup y = some .cell ∨ scope.names.lookup y = some .free := hy
    rcases hy with hy | hy
    · exact cell_has hy
    · exact absurd rfl (S.nofree _ (PySem.mem_of_lookup hy))
  · exact Nat.le_of_lt (x.above y c (PySem.mem_of_lookup h))
  · have hi : i < vs.length := by
      unfold start at h2
      by_cases hi : i < vs.length
      · exact hi
      · rw [List.getElem?_append_right (by simpa using hi)] at h2
        rw [List.getElem?_replicate] at h2
        split at h2 <;> cases h2
    have ha : vs[i]? = some v := by
      unfold start at h2
      rw [List.getElem?_append_left (by simpa using hi), List.getElem?_map] at h2
      cases e : vs[i]? with
      | none => rw [e] at h2; cases h2
      | some a => rw [e] at h2; cases h2; rfl
    obtain ⟨u, hu, rv⟩ := r.get ha
    have hp : ps[i]? = some y := by
      rw [← S.pre, List.getElem?_take_of_lt (by omega)]; exact h1
    have ndP : ps.Nodup := by rw [← S.pre]; exact S.nd.sublist (List.take_sublist _ _)
    refine ⟨u, rv, ?_⟩
    rcases S.par y (List.mem_of_getElem? hp) with k | k
    · exact .inl ⟨k, bindL_get ndP hp hu k⟩
    · obtain ⟨c, e⟩ := cell_has (n := s.heap.objs.size + 1) k
      refine .inr ⟨.inl k, c, e, ?_⟩
      have q := x.cell y c e
      rw [bindC_get ndP hp hu (by show scope.names.lookup y ≠ _; rw [k]; decide)] at q
      exact q
  · exact e0.hok.fresh (Nat.le_of_lt (x.above y c (PySem.mem_of_lookup h)))
  · unfold start
    show _ = N.length
    rw [List.length_append, List.length_map, List.length_replicate]
    omega

/-- THE RULE: a def (or a method) of the text, by its body. The body's reading t is chosen for each entry; it is run at the parameters' values -/
theorem fn_of {CX : CXT} {P : Program} {w : World} {K : PySem.W.Frag} {mg : Str → Option Value} {base : Heap} {k : Nat} {f : Addr} {name qual : Str} {params : Arguments} {body : List Stmt} {scope : Scope} {dV kV doc pm cdv ct oc : Value} {an od : Option Addr}
    {osl : Array (Option Value)} {N ps : List Str} {sp : Sp} (lk : K.lookup f = some ⟨oc, od, .func (PySem.W.fnOf name qual params body scope dV kV doc pm an cdv ct), osl⟩) (hcd : PySem.W.codeIn K cdv qual = true) (S : FnScope N ps scope)
    (len : ∀ vs H Q E, sp vs H Q E → vs.length = ps.length)
    (hbody : ∀ (A : Around) (outer : List Env) (s : Shared) (H : Hp) (vs : List V) (Q : VK) (E : XK), Room k (A.deeper (envOfC qual scope s.heap.objs.size f cdv)) → sp vs H Q E →
      ∃ t, PSs (cxOf CX P w K mg base N qual scope f cdv A outer s H E) body t ∧ t { nx := fun _ H' => Q .non H', rt := Q } (start N vs) H) :
    FnOk P w K mg base CX (k + 1) f (PySem.W.fnOf name qual params body scope dV kV doc pm an cdv ct) ps sp := by
  refine ⟨len, fun A outer s H args us vs Q E hr e0 hb r hsp => ?_⟩
  have hl := len _ _ _ _ hsp
  have KX : K.In s.heap := e0.mod.kin.keeps fun b o e => (e0.bs b o e).1
  have lim : s.heap.NoLimit := e0.mod.nolimit.keeps fun b o e => (e0.bs b o e).1
  have hkind : ∀ y ∈ ps.zip us, scope.names.lookup y.1 = some .local ∨ (scope.names.lookup y.1 = some .cell ∧ ((cellsFrom (s.heap.objs.size + 1) scope.names []).lookup y.1).isSome = true) := fun ⟨n, v⟩ hy => by
    rcases S.par n (List.of_mem_zip hy).1 with q | q
    · exact .inl q
    · exact .inr ⟨q, PySem.W.cellsFrom_some _ _ _ (.inl q)⟩
  refine codeAny_call_function hr.depth (KX _ _ lk) rfl S.co S.gen rfl (PySem.W.codeRec_of KX hcd) (hb _ _ _ _ ?_)
  refine wpAny_newFunctionEnv_cells S.kind hkind fun env he s1 x => ?_
  subst he
  refine ⟨lim.keeps x.toInCall.keep, codeAny_func ?_⟩
  obtain ⟨t, ht, hq⟩ := hbody A outer s H vs Q E (hr.deeper _) hsp
  have I : Inv (cxOf CX P w K mg base N qual scope f cdv A outer s H E) [] (start N vs) H s1 := inv_start S hr.hd e0 hl r x
  refine wpAny_mono (ht [] s1 (start N vs) H _ I hq) (fun fl s' hs => ?_) fun e s' hs => hs
  have fin : ∀ {σ' : St} {H' : Hp} {v : V} {u : Value}, Inv (cxOf CX P w K mg base N qual scope f cdv A outer s H E) [] σ' H' s' → RelV v u → Q v H' → CE outer P w H s Q u s' :=
    fun {σ' H' v u} J rv q => ⟨v, H', J.os, J.bare, J.base, J.hok, rv, q⟩
  cases fl with
  | ret u =>
    obtain ⟨v, σ', H', J, rv, q⟩ := hs
    exact fin J rv q
  | next =>
    obtain ⟨σ', H', J, q⟩ := hs
    exact fin (v := V.non) (u := Value.none) J rfl q
  | brk =>
    obtain ⟨_, _, _, q⟩ := hs
    exact False.elim q
  | cont =>
    obtain ⟨_, _, _, q⟩ := hs
    exact False.elim q
end L2

namespace L2
open PySem PySem.Spec PyProof.Rows
section
variable {X : Cx} {x : Str} {p pos : Pos} {e : Expr} {es : List Expr} {t : TA} {id T : String} {r : List V → Hp → VK → Prop}

def tCB (r : List V → Hp → VK → Prop) (t : TA) : TE := fun σ H Q => t σ H fun vs H1 => r vs H1 Q
/-- f(e, ..), f a built-in function -/
theorem pe_callB (hc : CallR X (.builtin id) r) (hg : Gl X x) (hm : X.mg x = none) (hv : bootBuiltins x = some (.builtin id)) (ha : PA X (e :: es) t) (hn : x ≠ "__name__" := by decide) (hdb : (x == ("__debug__" : Str)) = false := by decide)
    (he : starEach (e :: es) X.env = (false, eval e X.env) :: starEach es X.env := by rfl) (hpl : (backTo pos (starEach es X.env)).any (·.1) = false := by rfl) : PE X (.Call (.Name x p) (e :: es) [] pos) (tCB r t) := by
  intro pins s σ H Q I h
  refine wpAny_Call_Name_kw (ld_blt I hg hm hv ?_ hn hdb)
  exact PyProof.Rows.callWith_builtin1 (thn (ha pos pins s σ H _ I h) fun us s1 ⟨vs, H1, I1, r1, q1⟩ => hc pins s1 σ H1 vs us Q I1 r1 q1) he hpl
/-- T(e, ..), T a built-in type -/
theorem pe_callTy (hc : CallR X (.type T) r) (hg : Gl X x) (hm : X.mg x = none) (hv : bootBuiltins x = some (.type T)) (ha : PA X (e :: es) t) (hn : x ≠ "__name__" := by decide) (hdb : (x == ("__debug__" : Str)) = false := by decide)
    (he : starEach (e :: es) X.env = (false, eval e X.env) :: starEach es X.env := by rfl) (hpl : (backTo pos (starEach es X.env)).any (·.1) = false := by rfl) : PE X (.Call (.Name x p) (e :: es) [] pos) (tCB r t) := by
  intro pins s σ H Q I h
  refine wpAny_Call_Name_kw (ld_blt I hg hm hv ?_ hn hdb)
  exact PyProof.Rows.callWith_type1 (thn (ha pos pins s σ H _ I h) fun us s1 ⟨vs, H1, I1, r1, q1⟩ => hc pins s1 σ H1 vs us Q I1 r1 q1) he hpl
end
end L2

namespace HT
open PySem PyProof.Rows

section
open PySem.SeqAt
open PySem.AutoSeq1 (wpAny_loadPart')
open PySem.MeetsSeq PySem.MeetsSeq2 PySem.MeetsSeq3

end

section
variable {prog : Program} {w : World} {A : Around} {E : Value → Shared → Prop} {s : Shared}

/-! ### t[a:b], not the whole -/
/-- a slice's bound as a place among n (d where it is left out) -/
def sIx (n d : Nat) : Option Int → Nat
  | none => d
  | some v => if v < 0 then (v + (n : Int)).toNat else min v.toNat n
theorem sIx_none (n d : Nat) : sIx n d none = d := rfl
theorem sIx_nat (n d k : Nat) : sIx n d (some (k : Int)) = min k n := by
  show (if (k : Int) < 0 then ((k : Int) + (n : Int)).toNat else min (k : Int).toNat n) = min k n
  rw [if_neg (by omega), Int.toNat_natCast]
end
end HT

namespace L2
open PySem PySem.Spec PyProof.Rows

/-! ### the parts of a slice -/
abbrev TO := St → Hp → (Option Int → Hp → Prop) → Prop
/-- a slice's part (left out, or an int) -/
def PO (X : Cx) (e : Option Expr) (t : TO) : Prop :=
  ∀ (pins : List (Addr × Obj)) (s : Shared) (σ : St) (H : Hp) (Q : Option Int → Hp → Prop), Inv X pins σ H s → t σ H Q →
    wpAny (model X.prog X.w) X.A (evalPart e X.env) (fun u s' => ∃ o H', Inv X pins σ H' s' ∧ IsPart u o ∧ Q o H') X.xe s
def tNoPart : TO := fun _ H Q => Q none H
def tPart (t : TE) : TO := fun σ H Q => t σ H fun x H1 => ∃ i, x = .int i ∧ Q (some i) H1

section
variable {X : Cx} {e : Expr} {te : TE} {lo hi : Option Expr} {tl th : TO} {pos p2 : Pos}

theorem po_none : PO X none tNoPart := by
  intro pins s σ H Q I h
  rw [evalPart_none]
  exact wpAny_pure ⟨none, H, I, .none, h⟩
theorem po_some (h : PE X e te) : PO X (some e) (tPart te) := by
  intro pins s σ H Q I hw
  rw [evalPart_some]
  refine thn (h pins s σ H _ I hw) fun u s1 ⟨x, H1, I1, r1, q1⟩ => ?_
  obtain ⟨i, rfl, q⟩ := q1
  obtain ⟨t, rfl⟩ := r1
  exact ⟨some i, H1, I1, .int i t, q⟩

/-- what a slice of a value is, by values: the slice object stands at sl -/
def SlR (X : Cx) (r : V → Option Int → Option Int → Hp → VK → Prop) : Prop :=
  ∀ (pins : List (Addr × Obj)) (s : Shared) (σ : St) (H : Hp) (x : V) (v vl vu : Value) (lo hi : Option Int) (sl : Addr) (Q : VK), Inv X pins σ H s → RelV x v → s.heap.IsSliceOf sl vl vu .none → IsPart vl lo → IsPart vu hi → r x lo hi H Q →
    ∃ T id, typeLookup (.type T) "__getitem__" = pure (some (.builtin id)) ∧ s.TypeIs v T ∧ wpAny (model X.prog X.w) X.A (getItem v (.ref sl)) (EP X pins σ Q) X.xe s
def tSl (r : V → Option Int → Option Int → Hp → VK → Prop) (te : TE) (tl th : TO) : TE := fun σ H Q => te σ H fun x H1 => tl σ H1 fun l H2 => th σ H2 fun u H3 => r x l u H3 Q
/-- a[lo:hi], any a -/
theorem pe_slice {r : V → Option Int → Option Int → Hp → VK → Prop} (hr : SlR X r) (he : PE X e te) (hl : PO X lo tl) (hu : PO X hi th) : PE X (.Subscript e (.Slice lo hi none p2) pos) (tSl r te tl th) := by
  intro pins s σ H Q I h
  refine Subscript_ (thn (he pins s σ H _ I h) fun v s1 ⟨x, H1, I1, r1, q1⟩ => ?_)
  refine wpAny_Slice (thn (hl pins s1 σ H1 _ I1 q1) fun vl s2 ⟨l, H2, I2, pl, q2⟩ => thn (hu pins s2 σ H2 _ I2 q2) fun vu s3 ⟨u, H3, I3, pu, q3⟩ => ?_)
  rw [evalPart_none]
  refine wpAny_pure ?_
  have I4 : Inv X pins σ H3 { s3 with heap := s3.heap.push { cls := .type "slice", data := .fields #[vl, vu, .none] } } := I3.kept (t' := s3.toks) fun b ob q => Heap.get?_push_of_some _ q
  obtain ⟨T, id, hT, ht, hg⟩ := hr pins { s3 with heap := s3.heap.push { cls := .type "slice", data := .fields #[vl, vu, .none] } } σ H3 x v vl vu l u s3.heap.objs.size Q I4 r1 (Heap.IsSliceOf.new ..) pl pu q3
  show wpAny (model X.prog X.w) X.A (subscriptTail e (.Slice lo hi none p2) v (.ref s3.heap.objs.size)) (EP X pins σ Q) X.xe { s3 with heap := s3.heap.push { cls := .type "slice", data := .fields #[vl, vu, .none] } }
  exact tail_any (ops := [.ref s3.heap.objs.size, v]) ht hT hg (by with_unfolding_all rfl)

/-- the items of xs[lo:hi] -/
def cutV (xs : List V) (lo hi : Option Int) : List V := (xs.drop (HT.sIx xs.length 0 lo)).take (HT.sIx xs.length xs.length hi - HT.sIx xs.length 0 lo)
theorem cutV_length (xs : List V) (lo hi : Option Int) : (cutV xs lo hi).length ≤ xs.length := by
  unfold cutV
  rw [List.length_take, List.length_drop]
  omega
/-! ### t < u, t + u -/
end
end L2

namespace L2
open PySem PySem.Spec PyProof.Rows

/-! ### places -/
/-- the place that an index of any sign means -/
def ixN (n : Nat) (i : Int) : Option Nat := if 0 ≤ i then (if i < n then some i.toNat else none) else if -(n : Int) ≤ i then some (i + n).toNat else none
def atI {α : Type} (xs : List α) (i : Int) : Option α := (ixN xs.length i).bind fun j => xs[j]?
theorem ixN_seq {n : Nat} {i : Int} {j : Nat} (h : ixN n i = some j) : seqIndex? i n = some j ∧ j < n ∧ -(n : Int) ≤ i ∧ i < n := by
  unfold ixN at h
  by_cases h0 : 0 ≤ i
  · rw [if_pos h0] at h
    by_cases h1 : i < n
    · rw [if_pos h1] at h
      have e : i.toNat = j := Option.some.inj h
      exact ⟨by rw [seqIndex_of h0 h1, e], by omega, by omega, h1⟩
    · rw [if_neg h1] at h; cases h
  · rw [if_neg h0] at h
    by_cases h1 : -(n : Int) ≤ i
    · rw [if_pos h1] at h
      have e : (i + n).toNat = j := Option.some.inj h
      exact ⟨by rw [seqIndex_neg (by omega) h1, e], by omega, h1, by omega⟩
    · rw [if_neg h1] at h; cases h
theorem atI_get {α : Type} {xs : List α} {i : Int} {v : α} (h : atI xs i = some v) : ∃ j, seqIndex? i xs.length = some j ∧ xs[j]? = some v ∧ j < xs.length ∧ -(xs.length : Int) ≤ i ∧ i < xs.length := by
  unfold atI at h
  cases e : ixN xs.length i with
  | none => rw [e] at h; cases h
  | some j =>
    rw [e] at h
    obtain ⟨h1, h2, h3, h4⟩ := ixN_seq e
    exact ⟨j, h1, h, h2, h3, h4⟩
theorem atI_nat {α : Type} {xs : List α} {j : Nat} {v : α} (h : xs[j]? = some v) : atI xs (j : Int) = some v := by
  have hj : j < xs.length := (List.getElem?_eq_some_iff.mp h).1
  have e : ixN xs.length (j : Int) = some j := by
    unfold ixN
    rw [if_pos (by omega), if_pos (by omega)]; simp
  unfold atI; rw [e]; exact h
theorem atI_last {α : Type} (xs : List α) (v : α) : atI (xs ++ [v]) (-1) = some v := by
  have hl : (xs ++ [v]).length = xs.length + 1 := by simp
  have e : ixN (xs ++ [v]).length (-1) = some xs.length := by
    unfold ixN
    rw [hl, if_neg (by decide), if_pos (by omega)]
    congr 1
    omega
  unfold atI
  rw [e]
  show (xs ++ [v])[xs.length]? = some v
  simp

/-! ### what may be subscripted -/
/-- what stands as an index of a plain subscript -/
def PlainIx (b : Expr) : Prop := ∀ o i, subscripted b false o i = operate [o, i] (getItem o i)
/-- a subscript by values -/
def IxR (X : Cx) (r : R2) : Prop :=
  ∀ (value slice : Expr) (pins : List (Addr × Obj)) (s : Shared) (σ : St) (H : Hp) (x y : V) (v u : Value) (Q : VK), Inv X pins σ H s → RelV x v → RelV y u → r x y H Q →
    subscripted slice false v u = operate [v, u] (getItem v u) → wpAny (model X.prog X.w) X.A (subscriptTail value slice v u) (EP X pins σ Q) X.xe s
/-- a call of a builtin's method by values: the receiver, the arguments -/
def MtR (X : Cx) (id : String) (r : V → List V → Hp → VK → Prop) : Prop :=
  ∀ (pins : List (Addr × Obj)) (s : Shared) (σ : St) (H : Hp) (x : V) (xs : List V) (v : Value) (us : List Value) (Q : VK), Inv X pins σ H s → RelV x v → Vals xs us → r x xs H Q →
    wpAny (model X.prog X.w) X.A (call (.builtin id) (v :: us)) (EP X pins σ Q) X.xe s
section
variable {X : Cx} {a b : Expr} {ta tb : TE} {pos : Pos}
/-- a[b] -/
theorem pe_ix {r : R2} (hr : IxR X r) (ha : PE X a ta) (hb : PE X b tb) (hs : PlainIx b) : PE X (.Subscript a b pos) (tOp r ta tb) := by
  intro pins s σ H Q I h
  exact Subscript_ (binT ha hb I h fun v u s2 x y H2 I2 rx ry q => hr a b pins s2 σ H2 x y v u Q I2 rx ry q (hs _ _))

def rIxL (K : PySem.W.Frag) : R2 := fun x y H Q => ∃ p xs i v, x = .ref p ∧ y = .int i ∧ SqL K H p xs ∧ atI xs i = some v ∧ Q v H
def rIxT (K : PySem.W.Frag) : R2 := fun x y H Q => ∃ p xs i v, x = .ref p ∧ y = .int i ∧ SqT K H p xs ∧ atI xs i = some v ∧ Q v H
def rIxS : R2 := fun x y H Q => ∃ z i c, x = .str z ∧ y = .int i ∧ z.length ≤ sizeLine ∧ atI z.cps.toList i = some c ∧ Q (.str ⟨#[c]⟩) H
theorem ix_list : IxR X (rIxL X.K) := by
  intro value slice pins s σ H x y v u Q I rx ry h hs
  obtain ⟨p, xs, i, z, rfl, rfl, hq, he, q⟩ := h
  cases rx
  obtain ⟨t, rfl⟩ := ry
  obtain ⟨its, r, pl, hz⟩ := I.list hq
  obtain ⟨j, h1, h2, h3, h4, h5⟩ := atI_get he
  obtain ⟨w, ew, rw'⟩ := r.get h2
  have hl := r.length
  have hn := line63
  have fin : EP X pins σ Q w s := ⟨z, H, I, rw', q⟩
  by_cases h0 : 0 ≤ i
  · have hj : i.toNat = j := by
      rw [seqIndex_of h0 h5] at h1
      exact Option.some.inj h1
    exact item_listR pl.isList h0 (by omega) (by rw [hj]; simpa using ew) fin hs
  · have hj : (i + (its.toArray.size : Int)).toNat = j := by
      rw [seqIndex_neg (by omega) h4] at h1
      rw [List.size_toArray, ← hl]
      exact Option.some.inj h1
    exact subscriptTail_builtinR (x := w) pl.isList.typeIs slot_list_getitem.lookup
      (wpAny_getItem_list_neg (Q := fun r s' => r = w ∧ EP X pins σ Q r s') pl.isList (by omega) (by rw [List.size_toArray] <;> omega) (by omega) (by rw [hj]; simpa using ew) ⟨rfl, fin⟩) hs
theorem ix_tup : IxR X (rIxT X.K) := by
  intro value slice pins s σ H x y v u Q I rx ry h hs
  obtain ⟨p, xs, i, z, rfl, rfl, hq, he, q⟩ := h
  cases rx
  obtain ⟨t, rfl⟩ := ry
  obtain ⟨its, r, pl, hz⟩ := I.tuple hq
  obtain ⟨j, h1, h2, h3, h4, h5⟩ := atI_get he
  obtain ⟨w, ew, rw'⟩ := r.get h2
  have hl := r.length
  have hn := line63
  have fin : EP X pins σ Q w s := ⟨z, H, I, rw', q⟩
  exact subscriptTail_builtinR (x := w) pl.typeIs slot_tuple_getitem.lookup
    (getItem_tuple (j := j) (Q := fun r s' => r = w ∧ EP X pins σ Q r s') pl (by omega) (by omega) (by rw [List.size_toArray, ← hl]; exact h1) (by simpa using ew) ⟨rfl, fin⟩) hs
theorem ix_str : IxR X rIxS := by
  intro value slice pins s σ H x y v u Q I rx ry h hs
  obtain ⟨z, i, c, rfl, rfl, hz, he, q⟩ := h
  obtain ⟨t, rfl⟩ := rx
  obtain ⟨t', rfl⟩ := ry
  obtain ⟨j, h1, h2, h3, h4, h5⟩ := atI_get he
  have hl : z.cps.toList.length = z.length := by simp [Str.length]
  rw [hl] at h1 h4 h5
  have hn := line63
  exact tail_any (typeIs_str s z t) slot_str_getitem.lookup (getItem_str (c := c) (by
    have e1 : decide (i < -(2 ^ 63 : Int)) = false := decide_eq_false (by omega)
    have e2 : decide (i ≥ 2 ^ 63) = false := decide_eq_false (by omega)
    rw [e1, e2, Bool.or_false]) (by rw [h1]; simpa using h2) ⟨.str ⟨#[c]⟩, H, I.tok _, ⟨_, rfl⟩, q⟩) hs
/-! ### xs[i] = v, any sign -/
/-! ### slices -/
theorem slice_bounds (lo hi : Option Int) (n : Nat) : (sliceBounds lo hi none n).1 = ((HT.sIx n 0 lo : Nat) : Int) ∧ (sliceBounds lo hi none n).2.1 = ((HT.sIx n n hi : Nat) : Int) ∧ (sliceBounds lo hi none n).2.2 = 1 := by
  refine ⟨?_, ?_, rfl⟩
  · cases lo with
    | none => simp [sliceBounds, HT.sIx]
    | some i =>
      simp only [sliceBounds, HT.sIx, Option.getD_none, show (1 : Int) > 0 by decide, if_true]
      by_cases h : i < 0
      · simp only [h, if_true] <;> omega
      · simp only [h, if_false] <;> omega
  · cases hi with
    | none => simp [sliceBounds, HT.sIx]
    | some i =>
      simp only [sliceBounds, HT.sIx, Option.getD_none, show (1 : Int) > 0 by decide, if_true]
      by_cases h : i < 0
      · simp only [h, if_true] <;> omega
      · simp only [h, if_false] <;> omega
theorem slicePick_cut (its : List Value) (lo hi : Option Int) : slicePick its.toArray lo hi none = ((its.drop (HT.sIx its.length 0 lo)).take (HT.sIx its.length its.length hi - HT.sIx its.length 0 lo)).toArray := by
  obtain ⟨h1, h2, h3⟩ := slice_bounds lo hi its.toArray.size
  unfold slicePick
  rw [h1, h2, h3]
  simp only [sliceRange_one, pick_run, List.size_toArray] <;> rfl
/-- xs[lo:hi] of a list: a new list -/
def rSlL (K : PySem.W.Frag) : V → Option Int → Option Int → Hp → VK → Prop := fun x lo hi H Q => ∃ a xs, x = .ref a ∧ SqL K H a xs ∧ ∀ p, H p = none → Q (.ref p) (upd H p (.lst (cutV xs lo hi)))
theorem sl_list : SlR X (rSlL X.K) := by
  intro pins s σ H x v vl vu lo hi sl Q I rx hs pl pu h
  obtain ⟨a, xs, rfl, hx, q⟩ := h
  cases rx
  obtain ⟨its, r, ht, hz⟩ := I.list hx
  have hlen := r.length
  refine ⟨"list", _, slot_list_getitem.lookup, ht.isList.typeIs, ?_⟩
  refine wpAny_getItem_list_slice ht.isList hs pl pu .none (by simp) ?_ (by rw [List.size_toArray] <;> omega)
  rw [slicePick_cut, ← hlen]
  refine ⟨.ref s.heap.objs.size, _, I.laid (t' := s.toks) (o := .lst (cutV xs lo hi)) (fun b ob q => Heap.get?_push_of_some _ q) (Nat.le_refl _) ?_, rfl, q _ (I.hok.fresh (Nat.le_refl _))⟩
  exact ⟨Nat.le_trans (cutV_length xs lo hi) hz, _, 0, (r.drop (HT.sIx xs.length 0 lo)).take (HT.sIx xs.length xs.length hi - HT.sIx xs.length 0 lo), Heap.get?_push_size _ rfl⟩

/-! ### in, not in: flat items -/
def flatV : V → Bool
  | .non => true
  | .bl _ => true
  | .int _ => true
  | .str _ => true
  | _ => false
/-- == of flat values -/
def eqV : V → V → Bool
  | .non, .non => true
  | .bl a, .bl b => a == b
  | .bl a, .int b => (if a then 1 else 0) == b
  | .int a, .bl b => a == (if b then 1 else 0)
  | .int a, .int b => a == b
  | .str a, .str b => a == b
  | _, _ => false
def inV (x : V) (xs : List V) : Bool := xs.any fun y => eqV y x
/-! ### len, list(x), tuple(x) of any list or tuple that is read -/
theorem call_len_str : CallR X (.builtin "len") (fun xs H Q => ∃ z, xs = [.str z] ∧ z.length ≤ sizeLine ∧ Q (.int z.length) H) := by
  intro pins s σ H xs us Q I r h
  obtain ⟨z, rfl, hz, q⟩ := h
  obtain ⟨u, rfl, t, rfl⟩ := vals1 r
  have hn := line63
  exact len_str (by omega) ⟨.int z.length, H, I.tok _, ⟨_, rfl⟩, q⟩
theorem call_list_of : CallR X (.type "list") (fun xs H Q => ∃ p ys, xs = [.ref p] ∧ (SqL X.K H p ys ∨ SqT X.K H p ys) ∧ ∀ l, H l = none → Q (.ref l) (upd H l (.lst ys))) := by
  intro pins s σ H xs us Q I r h
  obtain ⟨p, ys, rfl, hq, q⟩ := h
  obtain ⟨u, rfl, rx⟩ := vals1 r
  cases rx
  have fin : ∀ (its : List Value), Vals ys its → ys.length ≤ sizeLine → ∀ (h' : Heap) (c' : Nat), (∀ b o', s.heap.get? b = some o' → h'.get? b = some o') →
      h'.get? s.heap.objs.size = some { cls := .type "list", dict := none, data := .seq its.toArray c', slots := #[] } → EP X pins σ Q (.ref s.heap.objs.size) { s with heap := h' } := fun its r' hz h' c' kp e =>
    ⟨.ref s.heap.objs.size, _, I.laid (t' := s.toks) kp (Nat.le_refl _) (show ObjOk X.prog X.w _ h' _ (.lst ys) from ⟨hz, its, c', r', e⟩), rfl, q _ (I.hok.fresh (Nat.le_refl _))⟩
  rcases hq with hq | hq
  · obtain ⟨its, r', pl, hz⟩ := I.list hq
    have hlen := r'.length
    obtain ⟨o, ho, hc, n, hd⟩ := pl.isList
    exact call_list_seq p (.inl rfl) ho hc hd (fun h' c' kp e => fin its r' hz h' c' kp e) (by simp only [List.size_toArray] <;> omega)
  · obtain ⟨its, r', pl, hz⟩ := I.tuple hq
    have hlen := r'.length
    obtain ⟨o, ho, hc, n, hd⟩ := pl
    exact call_list_seq p (.inr rfl) ho hc hd (fun h' c' kp e => fin its r' hz h' c' kp e) (by simp only [List.size_toArray] <;> omega)
/-! ### the call of a builtin's method: o.m(..) -/
/-- the value is of that builtin type -/
def tyV (K : PySem.W.Frag) (T : String) (x : V) (H : Hp) : Prop := match x with
  | .str _ => T = "str"
  | .int _ => T = "int"
  | .ref p => (T = "list" ∧ ∃ xs, SqL K H p xs) ∨ (T = "tuple" ∧ ∃ o, K.lookup p = some o ∧ o.cls = .type "tuple" ∧ o.dict = none) ∨
      (T = "dict" ∧ ((∃ kvs, H p = some (.dK kvs)) ∨ ∃ kvs, H p = some (.dT kvs))) ∨ (T = "set" ∧ ∃ S n, H p = some (.set S n))
  | _ => False
theorem tyV_is {pins : List (Addr × Obj)} {σ : St} {H : Hp} {s : Shared} {T : String} {x : V} {v : Value} (I : Inv X pins σ H s) (r : RelV x v) (ty : tyV X.K T x H) :
    s.TypeIs v T ∧ ∀ a, v = .ref a → ∃ ob, s.heap.get? a = some ob ∧ ob.dict = none := by
  cases x with
  | str z =>
    obtain ⟨t, rfl⟩ := r
    cases (show T = "str" from ty)
    exact ⟨typeIs_str s z t, fun _ e => nomatch e⟩
  | int i =>
    obtain ⟨t, rfl⟩ := r
    cases (show T = "int" from ty)
    exact ⟨typeIs_int s i t, fun _ e => nomatch e⟩
  | ref p =>
    cases r
    rcases ty with ⟨rfl, xs, hq⟩ | ⟨rfl, o, hk, hc, hd⟩ | ⟨rfl, hk⟩ | ⟨rfl, S, n, hk⟩
    · obtain ⟨its, _, pl, _⟩ := I.list hq
      refine ⟨pl.isList.typeIs, fun a e => ?_⟩
      cases e
      obtain ⟨o, n, e, c, hd, _⟩ := pl
      exact ⟨o, e, hd⟩
    · refine ⟨⟨o, I.kIn p o hk, hc⟩, fun a e => ?_⟩
      cases e
      exact ⟨o, I.kIn _ o hk, hd⟩
    · have z : ∃ o, s.heap.get? p = some o ∧ o.ExactDict := by
        rcases hk with ⟨kvs, hk⟩ | ⟨kvs, hk⟩
        · obtain ⟨_, _, _, _, o, _, _, e, ex, _⟩ := I.hok p _ hk
          exact ⟨o, e, ex⟩
        · obtain ⟨_, _, _, _, o, _, _, e, ex, _⟩ := I.hok p _ hk
          exact ⟨o, e, ex⟩
      obtain ⟨o, e, ex⟩ := z
      refine ⟨⟨o, e, ex.1⟩, fun a e2 => ?_⟩
      cases e2
      exact ⟨o, e, ex.2.1⟩
    · obtain ⟨o, _, _, _, e, ex, _⟩ := I.hok p _ hk
      refine ⟨⟨o, e, ex.1⟩, fun a e2 => ?_⟩
      cases e2
      exact ⟨o, e, ex.2.1⟩
  | _ => exact False.elim ty
def tBM (K : PySem.W.Frag) (T : String) (r : V → List V → Hp → VK → Prop) (to : TE) (t : TA) : TE := fun σ H Q => to σ H fun x H1 => tyV K T x H1 ∧ t σ H1 fun xs H2 => r x xs H2 Q
variable {o e : Expr} {es : List Expr} {to : TE} {t : TA} {name : Str} {apos cpos : Pos} {T id : String} {r : V → List V → Hp → VK → Prop}
theorem pe_bm (pa : PlainAttrs T) (slot : Slot T name id) (hty : typeOf (.builtin id) = pure (.type "method_descriptor")) (hm : MtR X id r) (ho : PE X o to) (ha : PA X (e :: es) t)
    (hbase : attributeBase o name X.env (eval o X.env) = eval o X.env := by rfl)
    (hfew : ((backTo cpos (starEach (e :: es) X.env)).all (fun x => !x.1) && (backToKw cpos (keywordEach [] X.env)).all (fun x => x.1.isSome)
      && decide ((e :: es).length + ([] : List Keyword).length + (if ([] : List Keyword).isEmpty then 0 else 1) < 30)) = true := by rfl)
    (hline : (apos.endLine == cpos.line) = true := by rfl) (hs : starEach (e :: es) X.env = (false, eval e X.env) :: starEach es X.env := by rfl) (hplain : (backTo cpos (starEach es X.env)).any (·.1) = false := by rfl) :
    PE X (.Call (.Attribute o name apos) (e :: es) [] cpos) (tBM X.K T r to t) := by
  intro pins s σ H Q I h
  refine wpAny_Call_method_late hbase hfew hline rfl (thn (ho pins s σ H _ I h) fun v s1 ⟨x, H1, I1, r1, ty, q1⟩ => ?_)
  obtain ⟨h1, h2⟩ := tyV_is I1 r1 ty
  refine ⟨T, id, pa, slot, hty, h1, h2, ?_⟩
  have hA := ha cpos pins s1 σ H1 _ I1 q1
  rw [hs] at hA ⊢
  refine Calls.callWith_builtin (by show (false || (backTo cpos (starEach es X.env)).any (·.1)) = false; rw [hplain] <;> rfl) (Calls.evalArgs_plain ?_)
  exact thn hA fun us s2 ⟨vs, H2, I2, r2, q2⟩ => hm pins s2 σ H2 x vs v us Q I2 r1 r2 q2
/- xs.append(e), list.index on a module's tuple .. are MtR facts of 06m -/
end
end L2

namespace L2
open PySem PySem.Spec PyProof.Rows

def MtM (X : Cx) (id : String) (r : V → List V → Hp → VK → Prop) : Prop :=
  ∀ (pins : List (Addr × Obj)) (s : Shared) (σ : St) (H : Hp) (x : V) (xs : List V) (v : Value) (us : List Value) (Q : VK), Inv X pins σ H s → RelV x v → Vals xs us → r x xs H Q →
    wpAny (model X.prog X.w) X.A (call (.builtin id) (v :: us)) (EP X pins σ Q) X.xe s

/-! ### lists of values -/
theorem Vals.one : ∀ {x : V} {us : List Value}, Vals [x] us → ∃ u, us = [u] ∧ RelV x u
  | _, _, .cons r .nil => ⟨_, rfl, r⟩
theorem Vals.two : ∀ {x y : V} {us : List Value}, Vals [x, y] us → ∃ u v, us = [u, v] ∧ RelV x u ∧ RelV y v
  | _, _, _, .cons r (.cons q .nil) => ⟨_, _, rfl, r, q⟩
section
variable {X : Cx} {pins : List (Addr × Obj)} {σ : St} {H : Hp} {s : Shared} {l b : Addr} {xs ys zs : List V}

/-! ### the two steps: a tracked list is rewritten, a new list is laid -/
theorem Inv.lset {its its' : List Value} {n : Nat} {f : Array Value → Array Value} {t' : Nat} (I : Inv X pins σ H s) (hH : H l = some (.lst xs))
    (e : s.heap.get? l = some { cls := .type "list", data := .seq its.toArray n }) (hf : f its.toArray = its'.toArray) (hv : Vals ys its') (hz : ys.length ≤ sizeLine) :
    Inv X pins σ (upd H l (.lst ys)) { s with heap := s.heap.update l (Obj.mapSeq f), toks := t' } := by
  have q := PySem.IsL.update e f
  rw [hf] at q
  refine I.write (x := l) (e := l) (by rw [hH]; exact trivial) (.inl rfl) (fun b' u hb hu => (Heap.get?_update_other s.heap (Obj.mapSeq f) (Ne.symm hb)).trans hu) ⟨_, q⟩ ?_
  exact ⟨hz, its', _, hv, q⟩
theorem Inv.lnew {its : List Value} {t' : Nat} (I : Inv X pins σ H s) (hv : Vals ys its) (hz : ys.length ≤ sizeLine) :
    Inv X pins σ (upd H s.heap.objs.size (.lst ys)) { s with heap := s.heap.push { cls := .type "list", data := .seq its.toArray }, toks := t' } :=
  I.laid (fun _ _ q => Heap.get?_push_of_some _ q) (Nat.le_refl _) ⟨hz, its, 0, hv, Heap.get?_push_size _ rfl⟩
theorem Inv.fresh (I : Inv X pins σ H s) : H s.heap.objs.size = none := I.hok.fresh (Nat.le_refl _)
theorem Inv.lstM (I : Inv X pins σ H s) (hH : H l = some (.lst xs)) : xs.length ≤ sizeLine ∧ ∃ (its : List Value) (n : Nat), Vals xs its ∧ xs.length = its.length ∧ s.heap.get? l = some { cls := .type "list", data := .seq its.toArray n } := by
  obtain ⟨z, its, n, r, e⟩ := I.hok l _ hH
  exact ⟨z, its, n, r, r.length, e⟩

theorem notLongL {n : Nat} (h : n ≤ sizeLine) : Builtin.List.listTooLong n = false := by
  unfold Builtin.List.listTooLong
  exact decide_eq_false (by omega)
end

section
variable {X : Cx}

/-! ### methods -/
def rAppend : V → List V → Hp → VK → Prop := fun x vs H Q => ∃ l xs y, x = .ref l ∧ vs = [y] ∧ H l = some (.lst xs) ∧ xs.length < sizeLine ∧ Q .non (upd H l (.lst (xs ++ [y])))
theorem mt_append : MtM X "list.append" rAppend := by
  intro pins s σ H x vs v us Q I rx rv h
  obtain ⟨l, xs, y, rfl, rfl, hH, hz, q⟩ := h
  cases rx
  obtain ⟨u, rfl, ru⟩ := rv.one
  obtain ⟨z, its, n, r, hl, e⟩ := I.lstM hH
  refine call_meets F.slot_list_append ⟨_, e, rfl⟩ F.entry_list_append (F.args_list_append_2 _ _) (PySem.list_append l its.toArray n u (by rw [List.size_toArray]; omega)) ⟨e, ?_⟩
  refine ⟨.non, _, I.lset (its' := its ++ [u]) hH e (by simp) (r.append (.cons ru .nil)) ?_, rfl, q⟩
  rw [List.length_append, List.length_singleton]
  omega

def rExtend : V → List V → Hp → VK → Prop := fun x vs H Q => ∃ l b xs zs, x = .ref l ∧ vs = [.ref b] ∧ H l = some (.lst xs) ∧ H b = some (.lst zs) ∧ xs.length + zs.length ≤ sizeLine ∧ Q .non (upd H l (.lst (xs ++ zs)))
theorem mt_extend : MtM X "list.extend" rExtend := by
  intro pins s σ H x vs v us Q I rx rv h
  obtain ⟨l, b, xs, zs, rfl, rfl, hH, hB, hz, q⟩ := h
  cases rx
  obtain ⟨u, rfl, ru⟩ := rv.one
  cases ru
  obtain ⟨z, its, n, r, hl, e⟩ := I.lstM hH
  obtain ⟨z2, its2, n2, r2, hl2, e2⟩ := I.lstM hB
  have hsz : its.toArray.size + its2.toArray.size ≤ sizeLine := by rw [List.size_toArray, List.size_toArray]; omega
  have hlong : ¬ (!its.toArray.isEmpty && Builtin.List.listTooLong (its.toArray.size + its2.toArray.size)) = true := by
    rw [notLongL hsz, Bool.and_false]
    exact Bool.false_ne_true
  refine call_meets F.slot_list_extend ⟨_, e, rfl⟩ F.entry_list_extend (F.args_list_extend_2 _ _)
    (AutoSeq1.list_extend_list_list_0 l its.toArray n b its2.toArray n2 hlong (by rw [List.size_toArray]; omega) (by omega)) ⟨e, e2, ?_⟩
  refine ⟨.non, _, I.lset (its' := its ++ its2) hH e (by simp) (r.append r2) ?_, rfl, q⟩
  rw [List.length_append]
  omega

/-! ### list + list, list += list, list * int -/
def rCat : R2 := fun x y H Q => ∃ l b xs zs, x = .ref l ∧ y = .ref b ∧ H l = some (.lst xs) ∧ H b = some (.lst zs) ∧ xs.length + zs.length ≤ sizeLine ∧ ∀ p, H p = none → Q (.ref p) (upd H p (.lst (xs ++ zs)))
theorem op_cat : OpR X (binaryOp .Add) rCat := by
  intro pins s σ H x y v u Q I rx ry h
  obtain ⟨l, b, xs, zs, rfl, rfl, hH, hB, hz, q⟩ := h
  cases rx
  cases ry
  obtain ⟨z, its, n, r, hl, e⟩ := I.lstM hH
  obtain ⟨z2, its2, n2, r2, hl2, e2⟩ := I.lstM hB
  refine PySem.P.add_list e e2 ?_ (by rw [List.size_toArray, List.size_toArray]; omega)
  have ea : its.toArray ++ its2.toArray = (its ++ its2).toArray := by simp
  rw [ea]
  exact ⟨.ref _, _, I.lnew (t' := s.toks) (r.append r2) (by rw [List.length_append]; omega), rfl, q _ I.fresh⟩
/-! ### del xs[i] -/
end

/-! ### xs[a:b] = ys -/
section
variable {prog : Program} {w : World} {A : Around} {E : Value → Shared → Prop} {s : Shared}
set_option maxRecDepth 100000 in
end

section
variable {X : Cx}
end
end L2

namespace L2
open PySem PySem.Spec PyProof.Rows

/-! ### lists of pairs as tables -/
section
variable {κ : Type} [DecidableEq κ]
def valV (kvs : List (κ × V)) (k : κ) : Option V := (kvs.find? fun kv => decide (kv.1 = k)).map (·.2)
/-- in its place, or at the end -/
def putK (kvs : List (κ × V)) (k : κ) (v : V) : List (κ × V) :=
  if (kvs.any fun kv => decide (kv.1 = k)) = true then kvs.map (fun kv => if kv.1 = k then (kv.1, v) else kv) else kvs ++ [(k, v)]
theorem valV_pos {p : κ × V} {r : List (κ × V)} {k : κ} (e : p.1 = k) : valV (p :: r) k = some p.2 := by simp [valV, List.find?_cons, e]
theorem valV_neg {p : κ × V} {r : List (κ × V)} {k : κ} (e : ¬ p.1 = k) : valV (p :: r) k = valV r k := by simp [valV, List.find?_cons, e]
theorem valV_any (k : κ) : ∀ kvs : List (κ × V), (kvs.any fun kv => decide (kv.1 = k)) = (valV kvs k).isSome
  | [] => rfl
  | p :: r => by
    rw [List.any_cons]
    by_cases e : p.1 = k
    · simp only [valV_pos e, decide_eq_true e, Bool.true_or, Option.isSome_some]
    · rw [valV_neg e, decide_eq_false e, Bool.false_or]; exact valV_any k r
theorem valV_map (k j : κ) (y : V) : ∀ kvs : List (κ × V), valV (kvs.map fun kv => if kv.1 = k then (kv.1, y) else kv) j = (valV kvs j).map fun x => if j = k then y else x
  | [] => rfl
  | p :: r => by
    have ih := valV_map k j y r
    rw [List.map_cons]
    by_cases h : p.1 = k
    · rw [if_pos h]
      by_cases e : p.1 = j
      · rw [valV_pos (p := (p.1, y)) e, valV_pos e, Option.map_some, if_pos (e.symm.trans h)]
      · rw [valV_neg (p := (p.1, y)) e, valV_neg e, ih]
    · rw [if_neg h]
      by_cases e : p.1 = j
      · rw [valV_pos (p := p) e, valV_pos e, Option.map_some, if_neg (fun z => h (e.trans z))]
      · rw [valV_neg (p := p) e, valV_neg e, ih]
theorem valV_snoc (k j : κ) (y : V) : ∀ kvs : List (κ × V), valV kvs k = none → valV (kvs ++ [(k, y)]) j = if j = k then some y else valV kvs j
  | [], _ => by
    by_cases e : k = j
    · rw [if_pos e.symm]; exact valV_pos (p := (k, y)) e
    · rw [if_neg (fun z => e z.symm)]; exact valV_neg (p := (k, y)) e
  | p :: r, hn => by
    rw [List.cons_append]
    have hk : ¬ p.1 = k := fun z => by rw [valV_pos z] at hn; cases hn
    rw [valV_neg hk] at hn
    have ih := valV_snoc k j y r hn
    by_cases e : p.1 = j
    · rw [valV_pos e, valV_pos e, if_neg (fun z => hk (e.trans z))]
    · rw [valV_neg e, valV_neg e, ih]
theorem valV_put (kvs : List (κ × V)) (k j : κ) (y : V) : valV (putK kvs k y) j = if j = k then some y else valV kvs j := by
  unfold putK
  by_cases a : (kvs.any fun kv => decide (kv.1 = k)) = true
  · rw [if_pos a, valV_map]
    rw [valV_any] at a
    by_cases e : j = k
    · obtain ⟨x, hx⟩ := Option.isSome_iff_exists.mp a
      rw [if_pos e, e, hx, Option.map_some, if_pos rfl]
    · rw [if_neg e]
      cases valV kvs j with
      | none => rfl
      | some x => rw [Option.map_some, if_neg e]
  · rw [if_neg a]
    refine valV_snoc k j y kvs ?_
    rw [valV_any] at a
    cases q : valV kvs k with
    | none => rfl
    | some x => rw [q] at a; exact (a rfl).elim
theorem length_putK (kvs : List (κ × V)) (k : κ) (v : V) : (putK kvs k v).length ≤ kvs.length + 1 := by
  unfold putK
  split
  · rw [List.length_map]; omega
  · rw [List.length_append, List.length_cons, List.length_nil]; omega
theorem RelO.isSome_eq {o : Option V} {u : Option Value} (r : RelO o u) : o.isSome = u.isSome := by
  cases o with
  | none => cases u with
    | none => rfl
    | some _ => exact (show False from r).elim
  | some _ => cases u with
    | none => exact (show False from r).elim
    | some _ => rfl
/-- raw tables of the same keys -/
theorem KV.val {kvs : List (κ × V)} {vs : List (κ × Value)} (r : KV kvs vs) (k : κ) : RelO (valV kvs k) (valueAt vs k) := by
  unfold KV at r
  induction r with
  | nil => exact True.intro
  | @cons p q ps qs h t ih =>
    obtain ⟨h1, h2⟩ := h
    by_cases e : p.1 = k
    · have e' : q.1 = k := h1.symm.trans e
      have b : valueAt (q :: qs) k = some q.2 := by simp [valueAt, List.find?_cons, e']
      rw [valV_pos e, b]; exact h2
    · have e' : ¬ q.1 = k := fun z => e (h1.trans z)
      have b : valueAt (q :: qs) k = valueAt qs k := by simp [valueAt, List.find?_cons, e']
      rw [valV_neg e, b]; exact ih
theorem KV.any {kvs : List (κ × V)} {vs : List (κ × Value)} (r : KV kvs vs) (k : κ) : (kvs.any fun kv => decide (kv.1 = k)) = vs.any fun kv => decide (kv.1 = k) := by
  unfold KV at r
  induction r with
  | nil => rfl
  | cons h t ih => rw [List.any_cons, List.any_cons, ih, h.1]
theorem KV.repl {kvs : List (κ × V)} {vs : List (κ × Value)} (r : KV kvs vs) (k : κ) {y : V} {u : Value} (ry : RelV y u) :
    KV (kvs.map fun kv => if kv.1 = k then (kv.1, y) else kv) (vs.map fun kv => if kv.1 = k then (kv.1, u) else kv) := by
  unfold KV at r ⊢
  induction r with
  | nil => exact .nil
  | @cons p q ps qs h t ih =>
    rw [List.map_cons, List.map_cons]
    refine .cons ?_ ih
    obtain ⟨h1, h2⟩ := h
    by_cases e : p.1 = k
    · rw [if_pos e, if_pos (h1.symm.trans e)]; exact ⟨h1, ry⟩
    · rw [if_neg e, if_neg (fun z => e (h1.trans z))]; exact ⟨h1, h2⟩
theorem KV.put {kvs : List (κ × V)} {vs : List (κ × Value)} (r : KV kvs vs) (k : κ) {y : V} {u : Value} (ry : RelV y u) : KV (putK kvs k y) (stored vs k u) := by
  unfold putK stored
  rw [r.any k]
  by_cases e : (vs.any fun kv => decide (kv.1 = k)) = true
  · rw [if_pos e, if_pos e]; exact r.repl k ry
  · rw [if_neg e, if_neg e]; exact Paired.snoc r ⟨rfl, ry⟩
theorem KV.length {kvs : List (κ × V)} {vs : List (κ × Value)} (r : KV kvs vs) : kvs.length = vs.length := Paired.length r
end

/-! ### a tracked dict, its keys ints and texts or tuples of these -/
theorem kV_is {P : Program} {w : World} {k : Key} {u : Value} (r : RelV (kV k) u) : (mixKind P w).is k u = true := by
  cases k with
  | inl i => obtain ⟨t, e⟩ := (show ∃ t, u = Value.int i t from r); subst e; exact mixKind_int P w i t
  | inr x => obtain ⟨t, e⟩ := (show ∃ t, u = Value.str x t from r); subst e; exact mixKind_str P w x t
theorem items_are {P : Program} {w : World} : ∀ {ks : List Key} {us : List Value}, Vals (ks.map kV) us → ItemsAre (mixKind P w) ks us
  | [], _, r => by rw [List.map_nil] at r; cases r; exact .nil
  | k :: ks, _, r => by
    rw [List.map_cons] at r
    cases r with
    | cons h t => exact .cons (kV_is h) (items_are t)

/-- raw entries of a dict with tuple keys -/
abbrev KT (H : Hp) : List (List Key × V) → List (List Key × Addr × Value) → Prop := Paired fun p q => p.1 = q.1 ∧ H q.2.1 = some (.tup (p.1.map kV)) ∧ RelV p.2 q.2.2
theorem KT.val {H : Hp} {kvs : List (List Key × V)} {xs : List (List Key × Addr × Value)} (r : KT H kvs xs) (k : List Key) : RelO (valV kvs k) ((atKey xs k).map (·.2)) := by
  induction r with
  | nil => exact True.intro
  | @cons p q ps qs h t ih =>
    obtain ⟨h1, _, h2⟩ := h
    by_cases e : p.1 = k
    · have e' : q.1 = k := h1.symm.trans e
      have b : atKey (q :: qs) k = some q.2 := by simp [atKey, List.find?_cons, e']
      rw [valV_pos e, b]; exact h2
    · have e' : ¬ q.1 = k := fun z => e (h1.trans z)
      have b : atKey (q :: qs) k = atKey qs k := by simp [atKey, List.find?_cons, e']
      rw [valV_neg e, b]; exact ih
theorem KT.repl {H : Hp} {kvs : List (List Key × V)} {xs : List (List Key × Addr × Value)} (r : KT H kvs xs) (k : List Key) {y : V} {u : Value} (ry : RelV y u) :
    KT H (kvs.map fun kv => if kv.1 = k then (kv.1, y) else kv) (xs.map (putAt k u)) := by
  induction r with
  | nil => exact .nil
  | @cons p q ps qs h t ih =>
    rw [List.map_cons, List.map_cons]
    refine .cons ?_ ih
    obtain ⟨h1, h2, h3⟩ := h
    unfold putAt
    by_cases e : p.1 = k
    · rw [if_pos e, if_pos (h1.symm.trans e)]; exact ⟨h1, h2, ry⟩
    · rw [if_neg e, if_neg (fun z => e (h1.trans z))]; exact ⟨h1, h2, h3⟩
theorem KT.put {H : Hp} {kvs : List (List Key × V)} {xs : List (List Key × Addr × Value)} (r : KT H kvs xs) (k : List Key) {b : Addr} {y : V} {u : Value} (hb : H b = some (.tup (k.map kV))) (ry : RelV y u) :
    KT H (putK kvs k y) (storedH xs k b u) := by
  have e : (kvs.any fun kv => decide (kv.1 = k)) = (atKey xs k).isSome := by
    rw [valV_any, (r.val k).isSome_eq, Option.isSome_map]
  unfold putK storedH
  rw [e]
  by_cases q : (atKey xs k).isSome = true
  · rw [if_pos q, if_pos q]; exact r.repl k ry
  · rw [if_neg q, if_neg q]; exact Paired.snoc r ⟨rfl, hb, ry⟩
theorem KT.keeps {H H' : Hp} {kvs : List (List Key × V)} {xs : List (List Key × Addr × Value)} (r : KT H kvs xs) (ht : ∀ b ys, H b = some (.tup ys) → H' b = some (.tup ys)) : KT H' kvs xs :=
  Paired.mapP r fun _ _ z => ⟨z.1, ht _ _ z.2.1, z.2.2⟩

section
variable {P : Program} {w : World} {H : Hp} {h : Heap} {a : Addr}
theorem rd_of {u : HO} (ok : HOk P w H h) (e : Rd H a u) : ObjOk P w H h a u := e.ok ok
theorem dk_rd {kvs : List (Key × V)} (ok : HOk P w H h) (e : Rd H a (.dK kvs)) : kvs.length ≤ sizeLine ∧ (a == sysModules) = false ∧ ∃ vs, KV kvs vs ∧ h.DictOf (mixKind P w) a vs :=
  show ObjOk P w H h a (.dK kvs) from rd_of ok e
theorem dk_of {kvs : List (Key × V)} (ok : HOk P w H h) (e : H a = some (.dK kvs)) : kvs.length ≤ sizeLine ∧ (a == sysModules) = false ∧ ∃ vs, KV kvs vs ∧ h.DictOf (mixKind P w) a vs := dk_rd ok (.inl e)
/-- a tracked tuple of ints and texts is a key -/
theorem key_of {ks : List Key} (ok : HOk P w H h) (e : H a = some (.tup (ks.map kV))) : (tupleKind (mixKind P w)).is h ks a := by
  obtain ⟨_, its, r, o, h1, h2, n, h3⟩ := (show ObjOk P w H h a (.tup (ks.map kV)) from ok a _ e)
  exact ⟨o, its.toArray, n, h1, h2, h3, by simpa using items_are r⟩
theorem dt_rd {kvs : List (List Key × V)} (ok : HOk P w H h) (e : Rd H a (.dT kvs)) : kvs.length ≤ sizeLine ∧ (a == sysModules) = false ∧
    ∃ xs, KT H kvs xs ∧ h.DictOfH (tupleKind (mixKind P w)) a xs := by
  obtain ⟨z, y, xs, r, o, es, ep, h1, h2, h3, h4, h5⟩ := (show ObjOk P w H h a (.dT kvs) from rd_of ok e)
  refine ⟨z, y, xs, r, o, es, ep, h1, h2, h3, h4, fun x hx => ?_, h5⟩
  have all : ∀ {l : List (List Key × V)} {m : List (List Key × Addr × Value)}, KT H l m → ∀ x ∈ m, (tupleKind (mixKind P w)).is h x.1 x.2.1 := by
    intro l m q
    induction q with
    | nil => intro x hx; exact nomatch hx
    | @cons p q ps qs hq t ih =>
      intro x hx
      rcases List.mem_cons.mp hx with e | hx
      · subst e
        exact key_of ok (by rw [← hq.1]; exact hq.2.1)
      · exact ih x hx
  exact all r x hx
theorem dt_of {kvs : List (List Key × V)} (ok : HOk P w H h) (e : H a = some (.dT kvs)) : kvs.length ≤ sizeLine ∧ (a == sysModules) = false ∧
    ∃ xs, KT H kvs xs ∧ h.DictOfH (tupleKind (mixKind P w)) a xs := dt_rd ok (.inl e)
end

/-- what the dict at a holds at the key y -/
def DGet (H : Hp) (a : Addr) (y : V) (r : Option V) : Prop :=
  (∃ kvs k, Rd H a (.dK kvs) ∧ y = kV k ∧ r = valV kvs k) ∨ ∃ kvs k b, Rd H a (.dT kvs) ∧ y = .ref b ∧ H b = some (.tup (k.map kV)) ∧ r = valV kvs k
/-- the heap behind a[y] = v -/
def DPut (H : Hp) (a : Addr) (y v : V) (H' : Hp) : Prop :=
  (∃ kvs k, H a = some (.dK kvs) ∧ y = kV k ∧ kvs.length < sizeLine ∧ H' = upd H a (.dK (putK kvs k v))) ∨
  ∃ kvs k b, H a = some (.dT kvs) ∧ y = .ref b ∧ H b = some (.tup (k.map kV)) ∧ kvs.length < sizeLine ∧ H' = upd H a (.dT (putK kvs k v))
theorem DGet.k {H : Hp} {a : Addr} {kvs : List (Key × V)} {k : Key} (e : H a = some (.dK kvs)) : DGet H a (kV k) (valV kvs k) := .inl ⟨kvs, k, .inl e, rfl, rfl⟩
theorem DGet.t {H : Hp} {a b : Addr} {kvs : List (List Key × V)} {k : List Key} (e : H a = some (.dT kvs)) (eb : H b = some (.tup (k.map kV))) : DGet H a (.ref b) (valV kvs k) := .inr ⟨kvs, k, b, .inl e, rfl, eb, rfl⟩
theorem DPut.k {H : Hp} {a : Addr} {kvs : List (Key × V)} {k : Key} {v : V} (e : H a = some (.dK kvs)) (hl : kvs.length < sizeLine) : DPut H a (kV k) v (upd H a (.dK (putK kvs k v))) := .inl ⟨kvs, k, e, rfl, hl, rfl⟩
theorem DPut.t {H : Hp} {a b : Addr} {kvs : List (List Key × V)} {k : List Key} {v : V} (e : H a = some (.dT kvs)) (eb : H b = some (.tup (k.map kV))) (hl : kvs.length < sizeLine) :
    DPut H a (.ref b) v (upd H a (.dT (putK kvs k v))) := .inr ⟨kvs, k, b, e, rfl, eb, hl, rfl⟩

section
variable {X : Cx} {pins : List (Addr × Obj)} {σ : St} {H : Hp} {s : Shared} {a : Addr} {y v : V} {u r : Value} {o : Option V} {A : Around} {E : Value → Shared → Prop}

theorem Inv.big (I : Inv X pins σ H s) : sysModules < s.heap.objs.size := by
  have h : mainGlobals < s.heap.objs.size := (I.mod.glob.keeps I.bk).lt
  exact Nat.lt_trans (by decide) h

/-- d[y], there -/
theorem d_getItem {Q : Value → Shared → Prop} (hu : A.units + 1 < cLine) (I : Inv X pins σ H s) (g : DGet H a y (some v)) (ry : RelV y u) (h : ∀ w' s', Inv X pins σ H s' → RelV v w' → Q w' s') :
    wpAny (model X.prog X.w) A (getItem (.ref a) u) Q E s := by
  rcases g with ⟨kvs, k, e, ey, l⟩ | ⟨kvs, k, b, e, ey, eb, l⟩
  · subst ey
    obtain ⟨z, hd, vs, rel, dd⟩ := dk_rd I.hok e
    obtain ⟨w', hw, rw'⟩ := RelO.some_of (v := v) (o := valueAt vs k) (by rw [l]; exact rel.val k)
    exact wpAny_getItem_of (kV_is ry) dd.mapOf hw (h w' _ (I.tok _) rw')
  · subst ey
    cases (show u = Value.ref b from ry)
    obtain ⟨z, hd, xs, rel, dd⟩ := dt_rd I.hok e
    obtain ⟨w', hw, rw'⟩ := RelO.some_of (v := v) (o := (atKey xs k).map (·.2)) (by rw [l]; exact rel.val k)
    obtain ⟨p, hp, hp2⟩ := Option.map_eq_some_iff.mp hw
    refine wpAny_getItem_heap (tupleKind_room_in1 hu) (key_of I.hok eb) dd hp ?_
    rw [hp2]
    exact h w' _ (I.tok _) rw'
/-- a dict's object is replaced -/
theorem d_write {h' : Heap} {t' : Nat} {ob : HO} (I : Inv X pins σ H s) (mu : Mut (H a)) (hs : Heap.SameBut a s.heap h') (he : ∃ q, h'.get? a = some q) (new : ObjOk X.prog X.w (upd H a ob) h' a ob) :
    Inv X pins σ (upd H a ob) { s with heap := h', toks := t' } :=
  I.write (x := a) (e := a) mu (.inl rfl) (fun b q hb z => (hs.2 b hb).trans z) he new
theorem dk_new {P : Program} {w : World} {H' : Hp} {h' : Heap} {kvs : List (Key × V)} {vs : List (Key × Value)} (z : kvs.length ≤ sizeLine) (hd : (a == sysModules) = false) (rel : KV kvs vs) (dd : h'.DictOf (mixKind P w) a vs) :
    ObjOk P w H' h' a (.dK kvs) := ⟨z, hd, vs, rel, dd⟩
/-- d[y] = v -/
theorem d_setItem {H' : Hp} {Q : Unit → Shared → Prop} (hu : A.units + 1 < cLine) (I : Inv X pins σ H s) (g : DPut H a y v H') (ry : RelV y u) (rv : RelV v r) (h : ∀ s', Inv X pins σ H' s' → Q () s') :
    wpAny (model X.prog X.w) A (setItem (.ref a) u r) Q E s := by
  rcases g with ⟨kvs, k, e, ey, l, eH⟩ | ⟨kvs, k, b, e, ey, eb, l, eH⟩
  · subst ey eH
    obtain ⟨z, hd, vs, rel, dd⟩ := dk_of I.hok e
    have hz : vs.length ≤ sizeLine := by rw [← rel.length]; exact z
    have hl : (putK kvs k v).length ≤ sizeLine := by have := length_putK kvs k v; omega
    refine wpAny_setItem_pairs (hsz := hz) (kV_is ry) dd fun h' dd' hs => h _ ?_
    have he : ∃ q, h'.get? a = some q := let ⟨q, _, _, hq, _⟩ := dd'; ⟨q, hq⟩
    exact d_write I (by rw [e]; exact True.intro) hs he (dk_new hl hd (rel.put k rv) dd')
  · subst ey eH
    cases (show u = Value.ref b from ry)
    obtain ⟨z, hd, xs, rel, dd⟩ := dt_of I.hok e
    have hz : xs.length ≤ sizeLine := by rw [← Paired.length rel]; exact z
    have hl : (putK kvs k v).length ≤ sizeLine := by have := length_putK kvs k v; omega
    refine wpAny_setItem_heap (hsz := hz) (tupleKind_room_in1 hu) (key_of I.hok eb) dd fun h' dd' hs => h _ ?_
    obtain ⟨q, es, ep, hq, h2, h3, h4, _, h5⟩ := dd'
    refine d_write I (by rw [e]; exact True.intro) hs ⟨q, hq⟩ ⟨hl, hd, _, (rel.put k eb rv).keeps fun c ys ec => ?_, q, es, ep, hq, h2, h3, h4, h5⟩
    rw [upd_ne (ne_of ec e (fun z => nomatch z))]
    exact ec
end

section
variable {X : Cx} {pins : List (Addr × Obj)} {σ : St} {H : Hp} {s : Shared} {a : Addr} {kvs : List (Key × V)} {k : Key} {u : Value} {A : Around} {E : Value → Shared → Prop}
end

/-! ### readings and rules -/
/-- the element of a subscription, not a slice -/
def NoSl (i : Expr) : Prop := ∀ ov iv, subscripted i false ov iv = operate [ov, iv] (getItem ov iv)
theorem subD_of {prog : Program} {w : World} {A : Around} {E : Value → Shared → Prop} {s : Shared} {env : Env} {value slice : Expr} {pos : Pos} {T id : String} {Q : Value → Shared → Prop}
    (hl : typeLookup (.type T) "__getitem__" = pure (some (.builtin id))) (hs : NoSl slice)
    (h : wpAny (model prog w) A (eval value env) (fun o s₁ => wpAny (model prog w) A (eval slice env) (fun i s₂ => s₂.TypeIs o T ∧ wpAny (model prog w) A (getItem o i) Q E s₂) E s₁) E s) :
    wpAny (model prog w) A (eval (.Subscript value slice pos) env) Q E s := by
  refine Subscript_ (wpAny_mono h (fun o s₁ h₁ => wpAny_mono h₁ (fun i s₂ h₂ => ?_) fun _ _ x => x) fun _ _ x => x)
  obtain ⟨hT, h₂⟩ := h₂
  unfold subscriptTail
  refine wpAny_bind ?_
  rw [getitemInPython_of_ne hT.not_modules]
  refine wpAny_bind (wpAny_specialOf hT hl ?_)
  have fin : wpAny (model prog w) A (subscripted slice false o i) (fun r s₃ => wpAny (model prog w) A (letTemporaryGo value o r >>= fun _ => pure r) Q E s₃) E s₂ := by
    rw [hs o i]
    exact wpAny_operating (wpAny_mono h₂ (fun r s₃ h₃ => wpAny_bind (wpAny_letTemporaryGo (wpAny_pure h₃))) fun _ _ x => x)
  first
    | exact wpAny_pure (wpAny_bind fin)
    | exact wpAny_bind (wpAny_pure (wpAny_bind fin))
    | exact wpAny_bind fin

theorem dict_typeIs {X : Cx} {pins : List (Addr × Obj)} {σ : St} {H : Hp} {s : Shared} {a : Addr} {y : V} {o : Option V} (I : Inv X pins σ H s) (g : DGet H a y o) : s.TypeIs (.ref a) "dict" := by
  rcases g with ⟨kvs, k, e, _, _⟩ | ⟨kvs, k, b, e, _, _, _⟩
  · obtain ⟨_, _, vs, _, dd⟩ := dk_rd I.hok e
    exact dd.typeIs
  · obtain ⟨_, _, xs, _, dd⟩ := dt_rd I.hok e
    exact dd.typeIs
/-- d[y] -/
def tDGet (td ty : TE) : TE := fun σ H Q => td σ H fun x H1 => ty σ H1 fun y H2 => ∃ a v, x = .ref a ∧ DGet H2 a y (some v) ∧ Q v H2
/-- d[y] = v -/
def sDPut (td ty tv : TE) : TS := fun D σ H => tv σ H fun v H1 => td σ H1 fun x H2 => ty σ H2 fun y H3 => ∃ a H4, x = .ref a ∧ DPut H3 a y v H4 ∧ D.nx σ H4
section
variable {X : Cx} {o i e value : Expr} {pos pos' tpos : Pos} {td ty tv : TE}
theorem pe_dget (hu : X.A.units + 1 < cLine) (ho : PE X o td) (hi : PE X i ty) (hs : NoSl i) : PE X (.Subscript o i pos) (tDGet td ty) := by
  intro pins s σ H Q I h
  refine subD_of PySem.F.slot_dict_getitem.lookup hs (thn (ho pins s σ H _ I h) fun u s1 ⟨x, H1, I1, rx, q1⟩ => thn (hi pins s1 σ H1 _ I1 q1) fun iv s2 ⟨y, H2, I2, ry, a, v, ex, g, q2⟩ => ?_)
  subst ex
  obtain rfl : u = Value.ref a := rx
  exact ⟨dict_typeIs I2 g, d_getItem hu I2 g ry fun w' s3 I3 rw' => ⟨v, H2, I3, rw', q2⟩⟩
theorem ps_dput (hu : X.A.units + 1 < cLine) (ho : PE X o td) (hi : PE X i ty) (hv : PE X value tv) (hs : swapsWith value (some (.Subscript o i pos')) pos.line X.env = pure false) :
    PS X (.Assign [.Subscript o i pos'] value pos) (sDPut td ty tv) := by
  intro pins s σ H D I h
  refine wpAny_Assign_Subscript (thn (hv pins s σ H _ I h) fun r s1 ⟨v, H1, I1, rv, q1⟩ => thn (ho pins s1 σ H1 _ I1 q1) fun u s2 ⟨x, H2, I2, rx, q2⟩ => thn (hi pins s2 σ H2 _ I2 q2) fun iv s3 ⟨y, H3, I3, ry, a, H4, ex, g, q3⟩ => ?_) hs
  subst ex
  obtain rfl : u = Value.ref a := rx
  exact d_setItem hu I3 g ry rv fun s4 I4 => ⟨σ, H4, I4, q3⟩
end

/-! ### displays -/
theorem dk_empty {P : Program} {w : World} {H : Hp} (h : Heap) (hb : sysModules < h.objs.size) : ObjOk P w H (h.push { cls := .type "dict", data := .dict #[] }) h.objs.size (.dK []) :=
  ⟨Nat.zero_le _, beq_eq_false_iff_ne.mpr (Ne.symm (Nat.ne_of_lt hb)), [], .nil, Heap.DictOf.new h⟩
theorem dt_empty {P : Program} {w : World} {H : Hp} (h : Heap) (hb : sysModules < h.objs.size) : ObjOk P w H (h.push { cls := .type "dict", data := .dict #[] }) h.objs.size (.dT []) :=
  ⟨Nat.zero_le _, beq_eq_false_iff_ne.mpr (Ne.symm (Nat.ne_of_lt hb)), [], .nil, _, #[], 0, Heap.get?_push_size _ rfl, ⟨rfl, rfl, rfl⟩, rfl, rfl, List.nodup_nil⟩
/-- {}, to be a dict of the kind that is wanted -/
def tDNewK : TE := fun _ H Q => ∀ p, H p = none → Q (.ref p) (upd H p (.dK []))
def tDNewT : TE := fun _ H Q => ∀ p, H p = none → Q (.ref p) (upd H p (.dT []))
section
variable {X : Cx} {pos : Pos}
theorem pe_dnewK : PE X (.Dict [] [] pos) tDNewK := fun pins s σ H Q I h =>
  wpAny_Dict_empty ⟨.ref s.heap.objs.size, _, I.laid (a := s.heap.objs.size) (o := .dK []) (t' := s.toks) (fun _ _ q => Heap.get?_push_of_some _ q) (Nat.le_refl _) (dk_empty s.heap I.big), rfl, h _ (I.hok.fresh (Nat.le_refl _))⟩
theorem pe_dnewT : PE X (.Dict [] [] pos) tDNewT := fun pins s σ H Q I h =>
  wpAny_Dict_empty ⟨.ref s.heap.objs.size, _, I.laid (a := s.heap.objs.size) (o := .dT []) (t' := s.toks) (fun _ _ q => Heap.get?_push_of_some _ q) (Nat.le_refl _) (dt_empty s.heap I.big), rfl, h _ (I.hok.fresh (Nat.le_refl _))⟩
end

/-! ### methods -/
/-- a method call o.m(e) of a built-in, with one argument: what must be seen of the text -/
structure M1 (X : Cx) (o : Expr) (m : Str) (apos : Pos) (e : Expr) (cpos : Pos) : Prop where
  base : attributeBase o m X.env (eval o X.env) = eval o X.env
  few : ((backTo cpos (starEach [e] X.env)).all (fun x => !x.1) && (backToKw cpos (keywordEach [] X.env)).all (fun x => x.1.isSome)
    && decide (([e] : List Expr).length + ([] : List Keyword).length + (if ([] : List Keyword).isEmpty then 0 else 1) < 30)) = true
  line : (apos.endLine == cpos.line) = true
  trees : backTo cpos (starEach [e] X.env) = [(false, eval e X.env)]
structure M2 (X : Cx) (o : Expr) (m : Str) (apos : Pos) (e f : Expr) (cpos : Pos) : Prop where
  base : attributeBase o m X.env (eval o X.env) = eval o X.env
  few : ((backTo cpos (starEach [e, f] X.env)).all (fun x => !x.1) && (backToKw cpos (keywordEach [] X.env)).all (fun x => x.1.isSome)
    && decide (([e, f] : List Expr).length + ([] : List Keyword).length + (if ([] : List Keyword).isEmpty then 0 else 1) < 30)) = true
  line : (apos.endLine == cpos.line) = true
  trees : backTo cpos (starEach [e, f] X.env) = [(false, eval e X.env), (false, eval f X.env)]

section
variable {X : Cx} {pins : List (Addr × Obj)} {σ : St} {H : Hp} {s : Shared} {a : Addr} {y d : V} {u r : Value} {o : Option V} {A : Around} {E : Value → Shared → Prop}
end

section
variable {X : Cx} {o e f : Expr} {apos cpos : Pos} {td ty tx : TE}
end

/-! ### dict(d): a copy -/
section
variable {X : Cx} {pins : List (Addr × Obj)} {σ : St} {H : Hp} {s : Shared} {a : Addr} {kvs : List (Key × V)} {A : Around} {E : Value → Shared → Prop}
end

section
variable {X : Cx} {pins : List (Addr × Obj)} {σ : St} {H : Hp} {s : Shared} {a : Addr} {y : V} {u : Value} {A : Around} {E : Value → Shared → Prop}
end
end L2

namespace Att
open PySem PySem.W PySem.Calls PyProof.Rows

/-! ### the script -/
theorem ints_of_wellAll {P : Params} {h : Heap} : ∀ (ns : List Int) (vs : List Value), WellAll P h vs (ns.map WData.int) → IntsAre vs ns := by
  intro ns
  induction ns with
  | nil =>
    intro vs w
    rw [List.map_nil] at w
    cases w
    exact .nil
  | cons n ns ih =>
    intro vs w
    rw [List.map_cons] at w
    cases w with
    | cons a b =>
      cases a
      exact .cons _ _ (ih _ b)

theorem script_of {l : OpenLaw} {n : Nat} (hn : l.most = some n) {P : Params} {h : Heap} {args : List WData} {vals : List Value}
    (hpre : l.row.toRowW.claim.pre args = true) (hwl : WellAll P h vals args) :
    ∃ a vs ns, vals = [Value.ref a] ∧ args = [WData.list (ns.map WData.int)] ∧ h.get? a = some { cls := .type "list", data := .seq vs.toArray } ∧ IntsAre vs ns ∧ ns.length ≤ n := by
  have hsh : WShape.hasAll [] args [.list .int] = true := (pre_splitW hpre).1
  have hc : l.pre.holds [] { args := args } = true := (pre_splitW hpre).2
  obtain ⟨d, r, rfl, h1, h2⟩ := hasAllW_cons hsh
  obtain rfl := hasAllW_nil h2
  obtain ⟨xs, rfl, h3⟩ := hasW_list h1
  obtain ⟨ns, rfl⟩ := items_int h3
  have hlen : ns.length ≤ n := by
    unfold OpenLaw.pre at hc
    have h4 : (WTm.not (.lt (.lit (.int (n : Int))) (.len (.arg 0)))).holds [] { args := [.list (ns.map .int)] } = true := by
      have h4 := (holds_andW hc).1
      rw [hn] at h4
      exact h4
    have h5 := condW_of h4 (w_not (w_lt w_lit (w_len_list (w_arg rfl))))
    rw [List.length_map] at h5
    refine Nat.le_of_not_lt fun q => ?_
    have q' : (n : Int) < ((ns.length : Nat) : Int) := by omega
    first
      | (rw [decide_eq_true q'] at h5; exact absurd h5 (by decide))
      | (simp at h5; omega)
  cases hwl with
  | cons w1 w2 =>
    cases w2
    cases w1 with
    | list ho hall => exact ⟨_, _, ns, rfl, rfl, ho, ints_of_wellAll ns _ hall, hlen⟩

theorem post_true (l : OpenLaw) (args : List WData) : l.row.toRowW.claim.post args (.bool true) args = true :=
  postW_of (r := l.row.toRowW) (X := (true == true))
    (show WShape.has [] (.bool true) .bool = true by first | rfl | decide | simp [WShape.has, WShape.arms, WShape.armsAll])
    (show (WTm.eq .res (.lit (.bool true))).value [] { args := args, res := some (.bool true), after := args } = some (.bool (true == true)) from w_eq_bool (w_res rfl) w_lit) rfl

/-! ### the attachment: holds_open's last premise (the goal 'hc' behind k_head) from a wpAny of the law's body -/
/-- the same from a codeAny of the CALL (for a layer whose function contracts speak of calls) -/
theorem attach_call {l : OpenLaw} {n : Nat} {q : Program} {loose : List Str} {XP : (Str → Option Value) → Heap → Prop} {YP : World → Heap → Prop} {d : DefRec}
    (hn : l.most = some n) (hdf : d.params.defaults = [])
    (call : ∀ (w : World) (s₀ s₁ : Shared) (mg mb : Str → Option Value) (fa : Addr) (o : Obj) (pm cd doc : Value) (a : Addr) (vs : List Value) (ns : List Int),
      Ground q loose [] XP w s₀ mg mb s₁.heap → YP w s₁.heap →
      s₁.heap.get? fa = some o → o.data = .func (docDef d.name d.params d.body d.scope pm cd doc) → s₁.heap.CodeRec cd d.name → mg d.name = some (.ref fa) →
      s₁.heap.get? a = some { cls := .type "list", data := .seq vs.toArray } → IntsAre vs ns → ns.length ≤ n → s₁.gens = #[] →
      codeAny (model l.prog w) callerA (.call (.ref fa) ⟨[.ref a], []⟩) (fun r s' => r = .ok (.ret (.bool true)) ∧ OldK s₁.heap s'.heap ∧ s'.os = s₁.os ∧ AllBare s'.gens) s₁) :
    WalkO q loose XP YP l.row.toRowW d [] (fun f vs => PySem.call f vs) := by
  intro w s₀ s₁ mg mb G Y fa o pm cd doc dV kV ho hd hcd hD hmg hg args vals as hpre hlay hrd hwl hlo
  obtain rfl : dV = .none := Dflts.none hD hdf
  obtain rfl : kV = .none := Dflts.noKw hD
  obtain ⟨a, vs, ns, rfl, rfl, hobj, hints, hlen⟩ := script_of hn hpre hwl
  refine enter_call (codeAny_mono (call w s₀ s₁ mg mb fa o pm cd doc a vs ns G Y ho (fd_plain hd) hcd hmg hobj hints hlen hg) fun r s' hq => ?_)
  obtain ⟨rfl, h2, h3, h4⟩ := hq
  exact ⟨.inl ⟨.bool true, .bool true, [], rfl, fun _ => rfl, .bool true, post_true l _, fun _ => ⟨List.Pairwise.nil, fun _ hm => (nomatch hm)⟩⟩, h2, h3, h4⟩

/-! ### rules over ANY heap (no ledger) from facts about the written part K: the library's own take a ledger (News) for what they write -/
section
variable {prog : Program} {w : World} {A : Around} {E : Value → Shared → Prop} {s : Shared} {K : Frag}

/-! the whole heap as the ledger: makes every rule that writes through a ledger a rule over any heap -/
def ledger (h : Heap) (L d : Addr) : List (Addr × Obj) := (List.range h.objs.size).filterMap fun a => if a = L ∨ a = d then none else (h.get? a).map fun o => (a, o)
end
end Att

namespace L2
open PySem PySem.Spec PyProof.Rows

theorem vals_ints : ∀ {vs : List Value} {ns : List Int}, IntsAre vs ns → Vals (ns.map V.int) vs
  | _, _, .nil => .nil
  | _, _, .cons n t h => .cons ⟨t, rfl⟩ (vals_ints h)

end L2

namespace L2
open PySem PySem.Spec PyProof.Rows

end L2

/-! SHORT WORDS over the layer: a def of the text, its body, what a loop and a test want. -/
namespace L2
open PySem PySem.Spec PyProof.Rows

/-! ### the text by places -/
def defArgs (s : Stmt) : Arguments := match s with
  | .FunctionDef _ a _ _ _ _ _ _ _ _ => a
  | _ => { posonlyargs := [], args := [], vararg := none, kwonlyargs := [], kw_defaults := [], kwarg := none, defaults := [] }
def defBody (s : Stmt) : List Stmt := match s with
  | .FunctionDef _ _ b _ _ _ _ _ _ _ => b
  | _ => []
def defScope (s : Stmt) : Scope := match s with
  | .FunctionDef _ _ _ _ _ _ sc _ _ _ => sc
  | _ => { kind := .function, names := [], isGenerator := false, isCoroutine := false }

/-! ### no exception leaves a def -/
abbrev CX0 : CXT := fun _ _ _ _ _ _ => False
abbrev E0 : XK := fun _ _ _ => False
theorem pass0 {X : Cx} : Passes CX0 X E0 := fun _ _ _ _ _ _ _ h => h.elim

/-! ### a def (or method) of the text as it stands behind the top -/
structure Fun (K : PySem.W.Frag) (x qual : Str) (st : Stmt) (f : Addr) (fd : FuncData) : Prop where
  ex : ∃ (oc : Value) (od : Option Addr) (kV doc pm : Value) (an : Option Addr) (cdv ct : Value) (osl : Array (Option Value)),
    fd = PySem.W.fnOf x qual (defArgs st) (defBody st) (defScope st) .none kV doc pm an cdv ct ∧ K.lookup f = some ⟨oc, od, .func fd, osl⟩ ∧ PySem.W.codeIn K cdv qual = true
  kp : PySem.W.keepIn K (.ref f) = true
section
variable {P : Program} {w : World} {K : PySem.W.Frag} {mg : Str → Option Value} {base : Heap}
/-- THE RULE for a def: its body as a term of rules, and the reading of that term -/
theorem Fun.ok {x qual : Str} {st : Stmt} {f : Addr} {fd : FuncData} {N ps : List Str} {k : Nat} {sp : Sp} (F : Fun K x qual st f fd) (S : FnScope N ps (defScope st)) (len : ∀ vs H Q E, sp vs H Q E → vs.length = ps.length)
    (hbody : ∀ (cdv : Value) (A : Around) (outer : List Env) (s : Shared) (H : Hp) (vs : List V) (Q : VK) (E : XK), Room k (A.deeper (envOfC qual (defScope st) s.heap.objs.size f cdv)) → sp vs H Q E →
      ∃ t, PSs (cxOf CX0 P w K mg base N qual (defScope st) f cdv A outer s H E).nox (defBody st) t ∧ t { nx := fun _ H' => Q .non H', rt := Q } (start N vs) H) : FnOk P w K mg base CX0 (k + 1) f fd ps sp := by
  obtain ⟨oc, od, kV, doc, pm, an, cdv, ct, osl, rfl, lk, hcd⟩ := F.ex
  refine fn_of lk hcd S len fun A outer s H vs Q E hr hsp => ?_
  obtain ⟨t, h, q⟩ := hbody cdv A outer s H vs Q E hr hsp
  exact ⟨t, h.nox, q⟩
/-- how its arguments bind (no defaults): h is «fun _ _ _ _ _ _ us hl => match us, hl with | [_, _], _ => rfl», one _ a parameter -/
theorem Fun.binds {x qual : Str} {st : Stmt} {f : Addr} {fd : FuncData} {ps : List Str} (F : Fun K x qual st f fd)
    (h : ∀ (kV doc pm : Value) (an : Option Addr) (cdv ct : Value) (us : List Value), us.length = ps.length → bindArgs (PySem.W.fnOf x qual (defArgs st) (defBody st) (defScope st) .none kV doc pm an cdv ct) ⟨us, []⟩ = pure (ps.zip us)) : Binds K fd ps [] := by
  obtain ⟨oc, od, kV, doc, pm, an, cdv, ct, osl, rfl, lk, hcd⟩ := F.ex
  exact .all (h kV doc pm an cdv ct)
theorem fun_mk {x qual : Str} {st : Stmt} {f : Addr} {oc : Value} {od an : Option Addr} {osl : Array (Option Value)} {kV doc pm cdv ct : Value} (l : K.lookup f = some ⟨oc, od, .func (PySem.W.fnOf x qual (defArgs st) (defBody st) (defScope st) .none kV doc pm an cdv ct), osl⟩)
    (c : PySem.W.codeIn K cdv qual = true) (k : PySem.W.keepIn K (.ref f) = true) : Fun K x qual st f (PySem.W.fnOf x qual (defArgs st) (defBody st) (defScope st) .none kV doc pm an cdv ct) := ⟨⟨oc, od, kV, doc, pm, an, cdv, ct, osl, rfl, l, c⟩, k⟩
end
theorem hu_of {A : Around} {k : Nat} (hr : Room k A) : A.units + 1 < cLine := Nat.lt_of_le_of_lt (Nat.add_le_add_left (by decide : 1 ≤ 64) _) hr.units
theorem small1000 {n : Nat} (h : n ≤ 1000) : n < sizeLine := Nat.lt_of_le_of_lt h (by decide)

/-! ### expressions in short: the name that stands in the i-th slot -/
section
variable {X : Cx}
theorem pv (i : Nat) {x : Str} {pos : Pos} (hN : X.N[i]? = some x := by rfl) (hv : Vis X.env.scope x := by first | exact Or.inl rfl | exact Or.inr (Or.inl rfl) | exact Or.inr (Or.inr rfl)) (hd : (x == ("__debug__" : Str)) = false := by decide)
    (hcd : (x == ("__classdict__" : Str)) = false := by decide) : PE X (.Name x pos) (tVar i) := pe_var hN hv hd hcd
end

/-! ### tests -/
theorem iteF {A B : Prop} (h : B) : if false = true then A else B := by
  rw [if_neg Bool.false_ne_true]
  exact h
theorem iteT {A B : Prop} (h : A) : if true = true then A else B := by
  rw [if_pos rfl]
  exact h
theorem ite2 {c A B : Prop} [Decidable c] (h1 : c → A) (h2 : ¬ c → B) : if c then A else B := by
  by_cases h : c
  · rw [if_pos h]
    exact h1 h
  · rw [if_neg h]
    exact h2 h
theorem iteNS {c A B : Prop} [Decidable c] (hc : c) (h : B) : if (!decide c) = true then A else B := by
  rw [decide_eq_true hc]
  exact iteF h

/-! ### heaps -/
/-- all that was tracked is as it was -/
def Same (H H' : Hp) : Prop := ∀ b o, H b = some o → H' b = some o
theorem Same.refl (H : Hp) : Same H H := fun _ _ h => h
theorem Same.trans {H H1 H2 : Hp} (a : Same H H1) (b : Same H1 H2) : Same H H2 := fun c o h => b c o (a c o h)
theorem Same.seq {K : PySem.W.Frag} {H H' : Hp} {a : Addr} {xs : List V} (e : Same H H') (h : SqL K H a xs) : SqL K H' a xs := by
  rcases h with (h | ⟨o, h⟩) | h
  · exact .inl (.inl (e _ _ h))
  · exact .inl (.inr ⟨o, e _ _ h⟩)
  · exact .inr h

/-! ### a dict's pairs: keys that differ -/
section
variable {κ : Type} [DecidableEq κ]
end
end L2

namespace L2
open PySem PySem.Spec PyProof.Rows

/-! ### small rules -/
section
variable {X : Cx} {a b c : Expr} {ta tb tc : TE} {pos : Pos}
/-- a name of the top that holds an int, a text, an object -/
theorem pe_gI {x : Str} {i : Int} (h : ∃ t, X.mg x = some (.int i t)) (hg : Gl X x := by rfl) (hd : (x == ("__debug__" : Str)) = false := by decide) : PE X (.Name x pos) (tC (.int i)) := by
  obtain ⟨t, h⟩ := h
  exact pe_glob hg h ⟨t, rfl⟩ hd
theorem pe_gS {x z : Str} (h : ∃ t, X.mg x = some (.str z t)) (hg : Gl X x := by rfl) (hd : (x == ("__debug__" : Str)) = false := by decide) : PE X (.Name x pos) (tC (.str z)) := by
  obtain ⟨t, h⟩ := h
  exact pe_glob hg h ⟨t, rfl⟩ hd
theorem pe_gR {x : Str} {f : Addr} (h : X.mg x = some (.ref f)) (hg : Gl X x := by rfl) (hd : (x == ("__debug__" : Str)) = false := by decide) : PE X (.Name x pos) (tC (.ref f)) := pe_glob hg h rfl hd
/-- a built-in type as a value -/
theorem pe_ty {x : Str} {T : String} (hm : X.mg x = none) (hv : bootBuiltins x = some (.type T)) (hg : Gl X x := by rfl) (hn : x ≠ "__name__" := by decide) (hd : (x == ("__debug__" : Str)) = false := by decide) : PE X (.Name x pos) (tC (.ty T)) := pe_bltn hg hm hv rfl hn hd
/-- isinstance(x, C), C an own class -/
theorem call_isC : CallR X (.builtin "isinstance") (fun xs H Q => ∃ x C t k, xs = [x, .ref C] ∧ TyOf X.K H x t ∧ PySem.W.kitOne X.K t (.ref C) = some k ∧ Q (.bl k) H) := by
  intro pins s σ H xs us Q I r h
  obtain ⟨x, C, t, k, rfl, ty, e, q⟩ := h
  cases r with
  | cons r1 rr =>
    cases rr with
    | cons r2 rr =>
      cases rr
      cases r2
      exact isinst_ok I r1 ty e fun tk => ⟨.bl k, H, I.tok tk, rfl, q⟩
end

/-! ### data -/
mutual
inductive Dt (K : PySem.W.Frag) (H : Hp) : V → PyData → Prop where
  | non : Dt K H .non .none
  | bl (b : Bool) : Dt K H (.bl b) (.bool b)
  | int (i : Int) : Dt K H (.int i) (.int i)
  | str (x : Str) : Dt K H (.str x) (.str x)
  | lst {a : Addr} {xs : List V} {ds : List PyData} : SqL K H a xs → DtAll K H xs ds → Dt K H (.ref a) (.list ds)
  | tup {a : Addr} {xs : List V} {ds : List PyData} : SqT K H a xs → DtAll K H xs ds → Dt K H (.ref a) (.tuple ds)
  | dK {a : Addr} {kvs : List (Key × V)} : H a = some (.dK kvs) → Dt K H (.ref a) (.dict [])
  | dT {a : Addr} {kvs : List (List Key × V)} : H a = some (.dT kvs) → Dt K H (.ref a) (.dict [])
inductive DtAll (K : PySem.W.Frag) (H : Hp) : List V → List PyData → Prop where
  | nil : DtAll K H [] []
  | cons {v : V} {d : PyData} {vs : List V} {ds : List PyData} : Dt K H v d → DtAll K H vs ds → DtAll K H (v :: vs) (d :: ds)
end
section
variable {X : Cx} {pins : List (Addr × Obj)} {σ : St} {H H' : Hp} {s : Shared}
mutual
theorem Dt.reads (I : Inv X pins σ H s) : ∀ {v : V} {d : PyData} {u : Value}, Dt X.K H v d → RelV v u → d.canLay0 = true → ∃ as, Reads s.heap u d as
  | _, _, _, .non, r, _ => by cases r; exact ⟨_, .none⟩
  | _, _, _, .bl b, r, _ => by cases r; exact ⟨_, .bool b⟩
  | _, _, _, .int i, r, _ => by obtain ⟨t, rfl⟩ := r; exact ⟨_, .int i t⟩
  | _, _, _, .str x, r, _ => by obtain ⟨t, rfl⟩ := r; exact ⟨_, .str x t⟩
  | _, _, _, .lst h hd, r, l => by
    cases r
    obtain ⟨its, rv, ⟨o, n, e, hc, _, hs⟩, _⟩ := I.list h
    obtain ⟨as, ra⟩ := DtAll.reads I hd rv (by rw [PyData.canLay0] at l; exact l)
    exact ⟨_, .list e hc hs (by simpa using ra)⟩
  | _, _, _, .tup h hd, r, l => by
    cases r
    obtain ⟨its, rv, ⟨o, e, hc, n, hs⟩, _⟩ := I.tuple h
    obtain ⟨as, ra⟩ := DtAll.reads I hd rv (by rw [PyData.canLay0] at l; exact l)
    exact ⟨_, .tuple e hc hs (by simpa using ra)⟩
  | _, _, _, .dK _, _, l => by rw [PyData.canLay0] at l; cases l
  | _, _, _, .dT _, _, l => by rw [PyData.canLay0] at l; cases l
theorem DtAll.reads (I : Inv X pins σ H s) : ∀ {vs : List V} {ds : List PyData} {us : List Value}, DtAll X.K H vs ds → Vals vs us → PyData.canLayAll0 ds = true → ∃ as, ReadsAll s.heap us ds as
  | _, _, _, .nil, r, _ => by cases r; exact ⟨_, .nil⟩
  | _, _, _, .cons h hd, r, l => by
    rw [PyData.canLayAll0, Bool.and_eq_true] at l
    cases r with
    | cons r1 rr =>
      obtain ⟨as, ra⟩ := Dt.reads I h r1 l.1
      obtain ⟨bs, rb⟩ := DtAll.reads I hd rr l.2
      exact ⟨_, .cons ra rb⟩
end
theorem Same.seqT {K : PySem.W.Frag} {a : Addr} {xs : List V} (e : Same H H') (h : SqT K H a xs) : SqT K H' a xs := by
  rcases h with (h | ⟨o, h⟩) | h
  · exact .inl (.inl (e _ _ h))
  · exact .inl (.inr ⟨o, e _ _ h⟩)
  · exact .inr h
mutual
theorem Dt.same {K : PySem.W.Frag} (e : Same H H') : ∀ {v : V} {d : PyData}, Dt K H v d → Dt K H' v d
  | _, _, .non => .non
  | _, _, .bl b => .bl b
  | _, _, .int i => .int i
  | _, _, .str x => .str x
  | _, _, .lst h hd => .lst (e.seq h) (DtAll.same e hd)
  | _, _, .tup h hd => .tup (Same.seqT e h) (DtAll.same e hd)
  | _, _, .dK h => .dK (e _ _ h)
  | _, _, .dT h => .dT (e _ _ h)
theorem DtAll.same {K : PySem.W.Frag} (e : Same H H') : ∀ {vs : List V} {ds : List PyData}, DtAll K H vs ds → DtAll K H' vs ds
  | _, _, .nil => .nil
  | _, _, .cons h hd => .cons (Dt.same e h) (DtAll.same e hd)
end
theorem DtAll.get {K : PySem.W.Frag} : ∀ {vs : List V} {ds : List PyData} {i : Nat} {v : V}, DtAll K H vs ds → vs[i]? = some v → ∃ d, ds[i]? = some d ∧ Dt K H v d
  | _, _, _, _, .nil, e => by simp at e
  | _, _, 0, _, .cons h _, e => by simp at e; subst e; exact ⟨_, rfl, h⟩
  | _, _, i + 1, v, .cons _ t, e => by
    obtain ⟨d, h1, h2⟩ := DtAll.get (i := i) (v := v) t (by simpa using e)
    exact ⟨d, by simpa using h1, h2⟩
theorem DtAll.length {K : PySem.W.Frag} : ∀ {vs : List V} {ds : List PyData}, DtAll K H vs ds → vs.length = ds.length
  | _, _, .nil => rfl
  | _, _, .cons _ t => by rw [List.length_cons, List.length_cons, DtAll.length t]
/-- == of data -/
theorem op_eqD (hu : X.A.units + 64 < cLine) : OpR X (compareOp .Eq) (fun x y H Q => ∃ dx dy, Dt X.K H x dx ∧ Dt X.K H y dy ∧ dx.canLay0 = true ∧ dy.canLay0 = true ∧ dx.depth ≤ 64 ∧ Q (.bl (PyData.eqv dx dy)) H) := by
  intro pins s σ H x y v u Q I rx ry h
  obtain ⟨dx, dy, hx, hy, lx, ly, hd, q⟩ := h
  obtain ⟨as, ra⟩ := Dt.reads I hx rx lx
  obtain ⟨bs, rb⟩ := Dt.reads I hy ry ly
  exact SeqAt.compareEq_reads ra rb lx ly (by have := Nat.min_le_left dx.depth dy.depth; omega) ⟨.bl _, H, I, rfl, q⟩
theorem op_neD (hu : X.A.units + 64 < cLine) : OpR X (compareOp .NotEq) (fun x y H Q => ∃ dx dy, Dt X.K H x dx ∧ Dt X.K H y dy ∧ dx.canLay0 = true ∧ dy.canLay0 = true ∧ dx.depth ≤ 64 ∧ Q (.bl (!PyData.eqv dx dy)) H) := by
  intro pins s σ H x y v u Q I rx ry h
  obtain ⟨dx, dy, hx, hy, lx, ly, hd, q⟩ := h
  obtain ⟨as, ra⟩ := Dt.reads I hx rx lx
  obtain ⟨bs, rb⟩ := Dt.reads I hy ry ly
  exact SeqAt.compareNe_reads ra rb lx ly (by have := Nat.min_le_left dx.depth dy.depth; omega) ⟨.bl _, H, I, rfl, q⟩
end

/-! ### the signs of a text, walked -/
def Its (x : Str) : It := ⟨fun i _ => i < x.cps.size, fun i H v H' => H' = H ∧ ∃ c, x.cps[i]? = some c ∧ v = .str ⟨#[c]⟩, fun i _ => x.cps.size ≤ i⟩
theorem turn_str {P : Program} {w : World} {K : PySem.W.Frag} {tg : Expr} (it : Addr) (x : Str) (t : Tok) : ∀ ty : String, (ty = "str_ascii_iterator" ∨ ty = "str_iterator") → Turn P w K tg (Its x) [it] it (fun i h => h.IsStrIter it ty x t i) := by
  intro ty hty
  refine ⟨by simp, ?_, ?_, ?_, ?_, ?_⟩
  · intro i h st b hb
    have e : b = it := by simpa using hb
    subst e
    obtain ⟨o, e, c, d⟩ := st
    exact ⟨o, e, fun v z => by rw [d] at z; cases z⟩
  · intro i h h' st k
    obtain ⟨o, e, c, d⟩ := st
    exact ⟨o, k it (by simp) o e, c, d⟩
  · intro X hP hw hK hc i pins s σ H E I hf st hg
    subst hP hw hK
    obtain ⟨f0, f1, f2, f3, f4, f5⟩ := hf it (by simp)
    have hi : i < x.cps.size := hg
    have hx : x.cps[i]? = some x.cps[i] := by simp [hi]
    have fin : ∀ h', h'.IsStrIter it ty x t (i + 1) → Heap.SameBut it s.heap h' → ∃ u, some (Value.str ⟨#[x.cps[i]]⟩ s.toks) = some u ∧
        wpAny (model X.prog X.w) X.A (letOwnedTupleGo tg (.ref it) u) (fun _ s2 => ∃ y H', Inv X pins σ H' s2 ∧ RelV y u ∧ (Its x).yld i H y H' ∧ s2.heap.IsStrIter it ty x t (i + 1) ∧ ∀ b ∈ [it], H' b = none) E { s with heap := h', toks := s.toks + 1 } := by
      intro h' st' sb
      have I1 : Inv X pins σ H { s with heap := h', toks := s.toks + 1 } := I.turned (fun b o hb e => (sb.2 b hb).trans e) f0 f1 f3 f4 f5
      obtain ⟨o, e, c, d⟩ := id st'
      refine ⟨_, rfl, go_of (s := { s with heap := h', toks := s.toks + 1 }) e c d ?_ ⟨.str ⟨#[x.cps[i]]⟩, H, I1, ⟨_, rfl⟩, ⟨rfl, _, hx, rfl⟩, st', fun b hb => (hf b hb).1⟩⟩
      rcases hty with rfl | rfl <;> decide
    rcases hty with rfl | rfl
    · exact wpAny_pyNext_ascii_item st hx fin
    · exact wpAny_pyNext_wide_item st hx fin
  · intro X hP hw hK hc i pins s σ H E I hf st hg
    subst hP hw hK
    obtain ⟨f0, f1, f2, f3, f4, f5⟩ := hf it (by simp)
    have hi : x.cps.size ≤ i := hg
    have hx : x.cps[i]? = none := by simp [hi]
    have fin : ∀ h', Heap.ExtBut it s.heap h' → (none : Option Value) = none ∧ Inv X pins σ H { s with heap := h' } := fun h' eb => ⟨rfl, I.turned (t' := s.toks) (fun b o hb e => eb b o hb e) f0 f1 f3 f4 f5⟩
    rcases hty with rfl | rfl
    · exact wpAny_pyNext_ascii_end (I.ok.hd hc) st hx fin
    · exact wpAny_pyNext_wide_end (I.ok.hd hc) st hx fin
  · intro A i s Q E st h
    rcases hty with rfl | rfl
    · exact wpAny_pyIter_striter_ascii st h
    · exact wpAny_pyIter_striter_wide st h
section
variable {X : Cx} {tg : Expr}
def iStr (tl : TE) : TI := fun σ H R => tl σ H fun v H1 => ∃ x, v = .str x ∧ R (Its x) H1
theorem pi_str {l : Expr} {tl : TE} (hl : PE X l tl) : PI X tg l (iStr tl) := by
  intro pins s σ H R I h
  refine thn (hl pins s σ H _ I h) fun v s1 ⟨y, H1, I1, r1, q1⟩ => ?_
  obtain ⟨x, e, q⟩ := q1
  subst e
  obtain ⟨t, rfl⟩ := r1
  have fin : ∀ ty : String, (ty = "str_ascii_iterator" ∨ ty = "str_iterator") → PIE X pins σ tg R (.ref s1.heap.objs.size) { s1 with heap := s1.heap.push { cls := .type ty, data := .fields #[.str x t, .int 0 0] } } := fun ty hty => by
    refine ⟨s1.heap.objs.size, [s1.heap.objs.size], _, _, H1, rfl, I1.kept (t' := s1.toks) fun b o e => Heap.get?_push_of_some _ e, turn_str _ x t ty hty, ⟨_, Heap.get?_push_size _ rfl, rfl, rfl⟩, fun b hb => ?_, q⟩
    have e : b = s1.heap.objs.size := by simpa using hb
    subst e
    exact I1.fpOk (Nat.le_refl _) (I1.hok.fresh (Nat.le_refl _))
  cases ha : x.cps.all (· < 128)
  · exact wpAny_pyIter_wide ha (fin _ (.inr rfl))
  · exact wpAny_pyIter_ascii ha (fin _ (.inl rfl))
end
end L2

namespace L2
open PySem PySem.Spec PyProof.Rows

/-! ### a list's comprehension -/
section
variable {prog : Program} {w : World} {A : Around} {R : Result → Shared → Prop} {s : Shared}
theorem compLoop_own {elt target iter : Expr} {ifs : List Expr} {scope : Scope} {pos : Pos} {it acc : Value} {env : Env} (I : Nat → Shared → Prop)
    (turn : ∀ n s, I n s → wpAny (model prog w) A (pyNext it) (fun r s₁ => match r with
      | none => R (.ok .next) s₁
      | some v => wpAny (model prog w) A (letOwnedTupleGo target it v) (fun _ s₁' => wpAny (model prog w) A (assign target env v) (fun _ s₂ =>
          wpAny (model prog w) A (forIn ifs true fun c r => if r = true then do let ok ← isTrue c env (eval c env); pure (ForInStep.yield ok) else pure (ForInStep.yield r)) (fun ok s₃ =>
            if ok = true then wpAny (model prog w) A (eval elt env) (fun x s₄ =>
              wpAny (model prog w) A (call (.builtin "list.append") [acc, x]) (fun _ s₅ => ∃ m, m < n ∧ I m s₅) (fun _ _ => False) s₄) (fun _ _ => False) s₃
            else ∃ m, m < n ∧ I m s₃) (fun _ _ => False) s₂) (fun _ _ => False) s₁') (fun _ _ => False) s₁) (fun _ _ => False) s)
    (n : Nat) (h : I n s) :
    codeAny (model prog w) A (.compLoop (.ListComp elt [⟨target, iter, ifs, 0⟩] scope pos) 0 it acc env) R s := by
  refine codeAny_loop rfl I (fun n s hI => ?_) n h
  show wpAny _ A ((compTurn (.ListComp elt [⟨target, iter, ifs, 0⟩] scope pos) 0 it acc env).onRaise (fun x => do noteFrame x env; theTreesLotGoes x)) _ _ s
  refine wpAny_noted ?_
  rw [compTurn_list]
  refine wpAny_bind (wpAny_standAt (wpAny_bind (wpAny_mono (turn n s hI) (fun r s₁ h₁ => ?_) fun _ _ h' => h'.elim)))
  cases r with
  | none => exact wpAny_pure h₁
  | some v =>
    refine wpAny_bind (wpAny_mono h₁ (fun _ s₁' h₁' => ?_) fun _ _ h' => h'.elim)
    refine wpAny_bind (wpAny_mono h₁' (fun _ s₂ h₂ => wpAny_bind (wpAny_mono h₂ (fun ok s₃ h₃ => ?_) fun _ _ h' => h'.elim)) fun _ _ h' => h'.elim)
    cases ok with
    | false => exact wpAny_pure ⟨rfl, h₃⟩
    | true =>
      exact wpAny_bind (wpAny_bind (wpAny_mono h₃ (fun x s₄ h₄ => wpAny_bind (wpAny_mono h₄ (fun _ s₅ h₅ => wpAny_pure (wpAny_pure ⟨rfl, h₅⟩)) fun _ _ h' => h'.elim)) fun _ _ h' => h'.elim))
end

/-- the context of a comprehension's block -/
def cxComp (X : Cx) (scope : Scope) (cl : List (Str × Addr)) (C : Addr) (N' : List Str) (fp : List Addr) (pins : List (Addr × Obj)) (s : Shared) (H : Hp) : Cx where
  prog := X.prog
  w := X.w
  K := X.K
  mg := X.mg
  base := X.base
  A := X.A
  N := N'
  s₀ := s
  H₀ := H
  env := compEnvC scope cl C X.env
  outer := X.stack
  stack := X.stack
  ex := fp
  calm := X.calm
  fn := fun _ => false
  pn := X.pn ++ pins
  xe := fun _ _ => False
/-- the cells that the block sees -/
structure Caps (X : Cx) (scope : Scope) (cl : List (Str × Addr)) (cp : List (Nat × Str)) : Prop where
  kind : scope.kind = .function
  nocell : ∀ y ∈ scope.names, y.2 ≠ .cell
  names : ∀ y ∈ scope.names, y.2 = .local → scope.names.lookup y.1 = some .local
  clos : closureFor scope X.env = pure cl
  sub : ∀ x c, cl.lookup x = some c → X.env.cells.lookup x = some c
  has : ∀ x, ((relabel scope X.env).names.lookup x = some .cell ∨ (relabel scope X.env).names.lookup x = some .free) → ∃ c, cl.lookup x = some c
  at' : ∀ p ∈ cp, X.N[p.1]? = some p.2 ∧ (X.env.scope.names.lookup p.2 = some .cell ∨ X.env.scope.names.lookup p.2 = some .free) ∧ ((relabel scope X.env).names.lookup p.2 = some .cell ∨ (relabel scope X.env).names.lookup p.2 = some .free)
def capσ (cp : List (Nat × Str)) (σ : St) : St := cp.map fun p => (σ[p.1]?).getD none
section
variable {X : Cx} {pins : List (Addr × Obj)} {σ : St} {H : Hp} {s : Shared} {scope : Scope} {cl : List (Str × Addr)} {cp : List (Nat × Str)} {fp : List Addr} {x : Str}
theorem inv_comp (I : Inv X pins σ H s) (c : Caps X scope cl cp) (hf : ∀ b ∈ fp, FpOk X pins H b) (hfo : ∀ b ∈ fp, b < s.heap.objs.size) {h' : Heap} {ty : String} {tk : Nat} {m : Str → Option Value} (hm : h'.Ns s.heap.objs.size m)
    (sb : Heap.SameBut s.heap.objs.size (s.heap.push { cls := .type ty, data := .dict #[] }) h') :
    Inv (cxComp X scope cl s.heap.objs.size (x :: cp.map (·.2)) fp pins s H) [] (none :: capσ cp σ) H { s with heap := h', toks := tk } := by
  have old : ∀ b o, s.heap.get? b = some o → h'.get? b = some o := fun b o e => (sb.2 b (Nat.ne_of_lt (Heap.lt_size e))).trans (Heap.get?_push_of_some _ e)
  have hC : H s.heap.objs.size = none := I.hok.fresh (Nat.le_refl _)
  refine ⟨⟨I.ok.mod, c.kind, I.ok.glob, I.ok.blt, Nat.le_refl _, fun y z k h1 h2 => I.ok.inj y z k (c.sub _ _ h1) (c.sub _ _ h2), c.has, fun y k z => (Bool.noConfusion z), I.ok.hd, I.ok.frames, .inl rfl, fun b hb => ?_, fun b o e => I.bs b o e, Nat.le_trans I.ok.bsz I.sz, fun b o e hb => ?_, fun b hb hz => ?_, I.stack, I.stkFree⟩,
    rfl, I.bare, Un.kept old, ⟨m, hm, fun i y v h1 h2 h3 => ?_⟩, fun y k e => ?_, hC, fun y k e => I.freeC y k (c.sub y k e), fun p hp => ?_, I.hok.kept old, ?_⟩
  · obtain ⟨f0, f1, f2, f3, f4, f5⟩ := hf b hb
    exact ⟨Nat.ne_of_lt (hfo b hb), fun y k e => f4 y k (c.sub y k e)⟩
  · obtain ⟨f0, f1, f2, f3, f4, f5⟩ := hf b hb
    rcases f3 with z | z
    · exact I.ok.noex b o e z
    · exact absurd (Nat.lt_of_lt_of_le (Heap.lt_size (I.ok.bs b o e).1) z) (Nat.lt_irrefl _)
  · obtain ⟨f0, f1, f2, f3, f4, f5⟩ := hf b hb
    rcases List.mem_cons.mp (I.stkSub b hz) with e | e
    · exact f1 e
    · exact f2 e
  · cases i with
    | zero => simp at h2
    | succ i =>
      have h1' : (cp.map (·.2))[i]? = some y := by
        have z : (x :: cp.map (·.2))[i + 1]? = some y := h1
        rw [List.getElem?_cons_succ] at z
        exact z
      have h2' : (capσ cp σ)[i]? = some (some v) := by simpa using h2
      unfold capσ at h2'
      rw [List.getElem?_map] at h1' h2'
      cases e : cp[i]? with
      | none => rw [e] at h1'; cases h1'
      | some p =>
        rw [e] at h1' h2'
        simp only [Option.map_some, Option.some.injEq] at h1' h2'
        obtain ⟨k1, k2, k3⟩ := c.at' p (List.mem_of_getElem? e)
        subst h1'
        have h2'' : σ[p.1]? = some (some v) := by
          cases q : σ[p.1]? with
          | none => rw [q] at h2'; cases h2'
          | some z => rw [q] at h2'; simpa using h2'
        obtain ⟨m0, hn0, hl0⟩ := I.loc
        obtain ⟨u, r, l⟩ := hl0 p.1 p.2 v k1 h2'' (k2.elim (fun z => .inr (.inl z)) fun z => .inr (.inr z))
        refine ⟨u, r, .inr ⟨k3, ?_⟩⟩
        rcases l with ⟨z, _⟩ | ⟨_, cc, e1, e2⟩
        · have z' : X.env.scope.names.lookup p.2 = some .local := z
          rcases k2 with k | k <;> (rw [z'] at k; cases k)
        · obtain ⟨cc', e3⟩ := c.has p.2 k3
          have e4 := c.sub _ _ e3
          rw [e1] at e4
          cases e4
          obtain ⟨o, ho, hd⟩ := e2
          exact ⟨cc, e3, o, old _ _ ho, hd⟩
  · obtain ⟨v, o, ho, hd⟩ := I.cell y k (c.sub y k e)
    exact ⟨v, o, old _ _ ho, hd⟩
  · have hp' : p ∈ X.pn ++ pins := by
      rcases List.mem_append.mp hp with z | z
      · exact z
      · cases z
    obtain ⟨e, n, ne, nf, d⟩ := I.pin p hp'
    refine ⟨old _ _ e, n, Nat.ne_of_lt (Heap.lt_size e), fun hz => ?_, d⟩
    rcases List.mem_cons.mp (I.stkSub p.1 hz) with q | q
    · exact ne q
    · exact nf q
  · show (none :: capσ cp σ).length = (x :: cp.map (·.2)).length
    simp [capσ]
/-- behind the block -/
theorem Inv.uncomp {C : Addr} {N' : List Str} {σ' : St} {H' : Hp} {s' : Shared} {h'' : Heap} (I : Inv X pins σ H s) (hC : C = s.heap.objs.size) (hf : ∀ b ∈ fp, FpOk X pins H b) (J : Inv (cxComp X scope cl C N' fp pins s H) [] σ' H' s') (sb : Heap.SameBut C s'.heap h'') :
    Inv X pins σ H' { s' with heap := h'' } := by
  have ne : ∀ b o, s.heap.get? b = some o → b ≠ C := fun b o e => by rw [hC]; exact Nat.ne_of_lt (Heap.lt_size e)
  have B : Un (frs X.stack) fp H H' s.heap s'.heap := J.base
  refine I.call' (s' := { s' with heap := h'' }) (ch := fp) (show s'.os = s.os from J.os) ⟨fun b o e n hb hx => ?_, fun b o e n hb hx => ?_, B.free, fun b o e hx => ?_, B.tups, B.frzs, B.tbls⟩ (fun b ob e => ?_) J.bare fun b hb => ?_
  · exact (sb.2 b (ne b o e)).trans (B.keep b o e n hb hx)
  · obtain ⟨sl, q⟩ := B.slot b o e n hb hx
    exact ⟨sl, (sb.2 b (ne b o e)).trans q⟩
  · obtain ⟨o', q⟩ := B.there b o e hx
    exact ⟨o', (sb.2 b (ne b o e)).trans q⟩
  · have hfree : H' C = none := J.free
    refine (J.hok b ob e).stay (fun k w' hk q => (sb.2 k ?_).trans q) (fun _ q => q) fun _ _ q => q
    rintro rfl
    rcases hk with rfl | hk
    · rw [hfree] at e; cases e
    · rw [hfree] at hk; cases hk
  · obtain ⟨f0, f1, f2, f3, f4, f5⟩ := hf b hb
    exact ⟨f3, f1, f4, f5⟩
end

/-- the tests behind the for -/
def PTs (X : Cx) (ifs : List Expr) (t : TT) : Prop :=
  ∀ (pins : List (Addr × Obj)) (s : Shared) (σ : St) (H : Hp) (Q : Bool → Hp → Prop), Inv X pins σ H s → t σ H Q →
    wpAny (model X.prog X.w) X.A (forIn ifs true fun c r => if r = true then do let ok ← isTrue c X.env (eval c X.env); pure (ForInStep.yield ok) else pure (ForInStep.yield r)) (TP X pins σ Q) X.xe s
def tYes : TT := fun _ H Q => Q true H
theorem pts_nil {X : Cx} : PTs X [] tYes := fun _ _ _ H _ I h => wpAny_tests_nil ⟨H, I, h⟩
theorem pts_one {X : Cx} {c : Expr} {t : TT} (h : PT X c t) : PTs X [c] t := fun pins s σ H Q I q => wpAny_tests_one (h pins s σ H Q I q)
/-- the loop of a comprehension: W by the turn and a measure; the list grows at D -/
def tLoop (cp : List (Nat × Str)) (tt : TT) (te : TE) (σ : St) (J : It) (D : Addr) (Q : VK) (H1 : Hp) : Prop :=
  ∃ W : Nat → Nat → Hp → Prop, (∃ m, W 0 m (upd H1 D (.lst []))) ∧ ∀ i m H2, W i m H2 → (J.stop i H2 ∧ Q (.ref D) H2) ∨
    (J.go i H2 ∧ ∃ (N : VK) (N' : Hp → Prop), (∀ y H5, N y H5 → ∃ ys m', H5 D = some (.lst ys) ∧ ys.length < sizeLine ∧ m' < m ∧ W (i + 1) m' (upd H5 D (.lst (ys ++ [y])))) ∧ (∀ H4, N' H4 → ∃ m', m' < m ∧ W (i + 1) m' H4) ∧
      ∀ v H3, J.yld i H2 v H3 → tt (some v :: capσ cp σ) H3 fun b H4 => if b = true then te (some v :: capσ cp σ) H4 N else N' H4)
def tComp (cp : List (Nat × Str)) (wi : TI) (tt : TT) (te : TE) : TE := fun σ H Q => wi σ H fun J H1 => ∀ D, H1 D = none → tLoop cp tt te σ J D Q H1
section
variable {X : Cx} {scope : Scope} {cl : List (Str × Addr)} {cp : List (Nat × Str)} {x : Str} {px pos : Pos} {elt iter : Expr} {ifs : List Expr} {wi : TI} {tt : TT} {te : TE}
theorem comp_core {pins : List (Addr × Obj)} {σ : St} {H2 : Hp} {s2 : Shared} {it : Addr} {fp : List Addr} {tn : Nat → Heap → Prop} {J : It} {Q : VK} {R : Addr → Result → Shared → Prop} {E : Value → Shared → Prop} (c : Caps X scope cl cp) (hcalm : X.calm = true) (hx : scope.names.lookup x = some .local) (hnd : (x :: cp.map (·.2)).Nodup)
    (ht : ∀ C fp pins s H, PTs (cxComp X scope cl C (x :: cp.map (·.2)) fp pins s H) ifs tt) (he : ∀ C fp pins s H, PE (cxComp X scope cl C (x :: cp.map (·.2)) fp pins s H) elt te)
    (I2 : Inv X pins σ H2 s2) (T : Turn X.prog X.w X.K (.Name x px) J fp it tn) (st2 : tn 0 s2.heap) (f2 : ∀ b ∈ fp, FpOk X pins H2 b) (q : tLoop cp tt te σ J s2.heap.objs.size Q H2)
    (hR : ∀ (C : Addr) (H' : Hp) (s' : Shared), (∃ m, s'.heap.Ns C m) → X.s₀.heap.objs.size ≤ C → H' C = none → C ≠ X.env.locals → (∀ x c, X.env.cells.lookup x = some c → c ≠ C) → (∀ p ∈ X.pn ++ pins, p.1 ≠ C) → (∀ h'', Heap.SameBut C s'.heap h'' → Inv X pins σ H' { s' with heap := h'' }) → Q (.ref s2.heap.objs.size) H' → R C (.ok .next) s') :
    wpAny (model X.prog X.w) X.A (newList []) (fun acc s₃ => wpAny (model X.prog X.w) X.A (newFunctionEnv scope X.env.globals cl [] X.env.qual none .none (some X.env)) (fun cenv s₄ =>
      acc = .ref s2.heap.objs.size ∧ codeAny (model X.prog X.w) X.A (.compStart (.ListComp elt [⟨.Name x px, iter, ifs, 0⟩] scope pos) 0 (.ref it) acc { cenv with scope := relabel scope X.env }) (R cenv.locals) s₄) E s₃) E s2 := by
  obtain ⟨W, ⟨m0, w0⟩, turn⟩ := q
  refine wpAny_newObj_type ?_
  have I3 : Inv X pins σ (upd H2 s2.heap.objs.size (.lst [])) { s2 with heap := s2.heap.push { cls := .type "list", dict := none, data := .seq ([] : List Value).toArray } } :=
    I2.lnew (t' := s2.toks) (ys := []) (its := []) .nil (Nat.zero_le _)
  have fpo : ∀ b ∈ fp, b < s2.heap.objs.size := fun b hb => by
    obtain ⟨o, e, _⟩ := T.obj _ _ st2 b hb
    exact Heap.lt_size e
  have f3 : ∀ b ∈ fp, FpOk X pins (upd H2 s2.heap.objs.size (.lst [])) b := fun b hb => ⟨by rw [upd_ne (Nat.ne_of_lt (fpo b hb))]; exact (f2 b hb).1, (f2 b hb).2⟩
  generalize hs3 : ({ s2 with heap := s2.heap.push { cls := .type "list", dict := none, data := .seq ([] : List Value).toArray } } : Shared) = s3 at I3
  have e3 : s3.heap = s2.heap.push { cls := .type "list", dict := none, data := .seq ([] : List Value).toArray } := by rw [← hs3]
  have sz3 : s2.heap.objs.size < s3.heap.objs.size := by rw [e3, Heap.size_push]; exact Nat.lt_succ_self _
  refine wpAny_newFunctionEnv c.nocell (by intro y hy; cases hy) (fun h₁ hns sb => ?_) c.kind
  have J3 := inv_comp (x := x) (tk := s3.toks + ([] : List (Str × Value)).length) I3 c f3 (fun b hb => Nat.lt_trans (fpo b hb) sz3) hns sb
  refine ⟨rfl, ?_⟩
  have st3 : tn 0 h₁ := T.keep _ _ _ st2 fun b hb o e => (sb.2 b (Nat.ne_of_lt (Nat.lt_trans (fpo b hb) sz3))).trans (Heap.get?_push_of_some _ (by rw [e3]; exact Heap.get?_push_of_some _ e))
  generalize hX : cxComp X scope cl s3.heap.objs.size (x :: cp.map (·.2)) fp pins s3 (upd H2 s2.heap.objs.size (.lst [])) = X' at J3
  have eA : X'.A = X.A := by rw [← hX]; rfl
  have eP : X'.prog = X.prog := by rw [← hX]; rfl
  have ew : X'.w = X.w := by rw [← hX]; rfl
  have eK : X'.K = X.K := by rw [← hX]; rfl
  have ec : X'.calm = true := by rw [← hX]; exact hcalm
  have ee : X'.env = compEnvC scope cl s3.heap.objs.size X.env := by rw [← hX]; rfl
  have ex : X'.xe = fun _ _ => False := by rw [← hX]; rfl
  have fpX : ∀ {H' : Hp}, (∀ b ∈ fp, H' b = none) → ∀ b ∈ fp, FpOk X' [] H' b := fun hn b hb => by
    obtain ⟨f0, f1, f2', f3', f4, f5⟩ := f3 b hb
    subst hX
    refine ⟨hn b hb, Nat.ne_of_lt (Nat.lt_trans (fpo b hb) sz3), fun hz => ?_, .inl hb, fun y k e => f4 y k (c.sub y k e), fun p hp => ?_⟩
    · rcases List.mem_cons.mp (I3.stkSub b hz) with e | e
      · exact f1 e
      · exact f2' e
    · rcases List.mem_append.mp hp with z | z
      · exact f5 p z
      · cases z
  have pT := ht s3.heap.objs.size fp pins s3 (upd H2 s2.heap.objs.size (.lst []))
  have pE := he s3.heap.objs.size fp pins s3 (upd H2 s2.heap.objs.size (.lst []))
  have pG : PG X' (.Name x px) (gName 0) := by
    subst hX
    exact pg_name hnd rfl (.inl (lookup_relabel_local hx)) (.inr (lookup_relabel_local hx))
  rw [hX] at pT pE
  have loop : codeAny (model X.prog X.w) X.A (.compLoop (.ListComp elt [⟨.Name x px, iter, ifs, 0⟩] scope pos) 0 (.ref it) (.ref s2.heap.objs.size) (compEnvC scope cl s3.heap.objs.size X.env)) (R s3.heap.objs.size) { s3 with heap := h₁, toks := s3.toks + ([] : List (Str × Value)).length } := by
    refine compLoop_own (fun n s' => ∃ i o H', Inv X' [] (o :: capσ cp σ) H' s' ∧ tn i s'.heap ∧ (∀ b ∈ fp, H' b = none) ∧ W i n H') ?_ m0 ⟨0, none, _, J3, st3, fun b hb => (f3 b hb).1, w0⟩
    rintro n s5 ⟨i, o, H5, J5, st5, fr5, w5⟩
    rcases turn i n H5 w5 with ⟨stop, qn⟩ | ⟨go, N, N', hN, hN', step⟩
    · have z := T.done X' eP ew eK ec i [] s5 _ H5 (fun _ _ => False) J5 (fpX fr5) st5 stop
      rw [eA] at z
      refine thn z fun r s6 ⟨hr, J6⟩ => ?_
      subst hr
      subst hX
      obtain ⟨m6, hn6, _⟩ := J6.loc
      refine hR s3.heap.objs.size H5 s6 ⟨m6, hn6⟩ I3.sz J6.free (Nat.ne_of_gt I3.lt) (fun y k e z => ?_) (fun p hp z => ?_) (fun h'' sb' => I3.uncomp rfl f3 J6 sb') qn
      · obtain ⟨v, w'⟩ := I3.cell y k e
        exact absurd w'.lt (by rw [z]; exact Nat.lt_irrefl _)
      · exact absurd (Heap.lt_size (I3.pin p hp).1) (by rw [z]; exact Nat.lt_irrefl _)
    · have z := T.item X' eP ew eK ec i [] s5 _ H5 (fun _ _ => False) J5 (fpX fr5) st5 go
      rw [eA] at z
      refine thn z fun r s6 ⟨u, hr, h6⟩ => ?_
      subst hr
      refine thn h6 fun _ s7 ⟨v, H7, J7, r7, y7, st7, fr7⟩ => ?_
      have J7' := J7.pinned (fpX fr7) (T.obj _ _ st7)
      have z8 := pG _ s7 _ H7 v u (fun σ' H' => σ' = some v :: capσ cp σ ∧ H' = H7) J7' r7 ⟨rfl, rfl⟩
      rw [eA, eP, ew, ee, ex] at z8
      refine thn z8 fun _ s8 ⟨σ8, H8, J8, e8, e8'⟩ => ?_
      subst e8 e8'
      have z9 := pT _ s8 _ H8 _ J8 (step v H8 y7)
      rw [eA, eP, ew, ee, ex] at z9
      refine thn z9 fun ok s9 ⟨H9, J9, q9⟩ => ?_
      have fin : ∀ {H' : Hp} {s' : Shared}, Inv X' ([] ++ pinsAt fp s7.heap) (some v :: capσ cp σ) H' s' → (∃ m', m' < n ∧ W (i + 1) m' H') → ∃ m, m < n ∧ ∃ i o H', Inv X' [] (o :: capσ cp σ) H' s' ∧ tn i s'.heap ∧ (∀ b ∈ fp, H' b = none) ∧ W i m H' := fun {H' s'} K' ⟨m', hm, w'⟩ => by
        refine ⟨m', hm, i + 1, some v, H', K'.unpinned, T.keep _ _ _ st7 fun b hb ob e => (K'.pin (b, ob) (List.mem_append_right _ (List.mem_append_right _ (mem_pinsAt hb e)))).1, fun b hb => ?_, w'⟩
        obtain ⟨ob, e, d⟩ := T.obj _ _ st7 b hb
        exact (K'.pin (b, ob) (List.mem_append_right _ (List.mem_append_right _ (mem_pinsAt hb e)))).2.1
      cases ok with
      | false =>
        rw [if_neg Bool.false_ne_true] at q9 ⊢
        exact fin J9 (hN' _ q9)
      | true =>
        rw [if_pos rfl] at q9 ⊢
        have z10 := pE _ s9 _ H9 _ J9 q9
        rw [eA, eP, ew, ee, ex] at z10
        refine thn z10 fun u10 s10 ⟨y, H10, J10, r10, n10⟩ => ?_
        obtain ⟨ys, m', hD, hz, hm, w'⟩ := hN y H10 n10
        have z11 := mt_append (X := X') _ s10 _ H10 (.ref s2.heap.objs.size) [y] (.ref s2.heap.objs.size) [u10] (fun _ H' => H' = upd H10 s2.heap.objs.size (.lst (ys ++ [y]))) J10 rfl (.cons r10 .nil) ⟨_, ys, y, rfl, rfl, hD, hz, rfl⟩
        rw [eA, eP, ew, ex] at z11
        refine thn z11 fun u11 s11 ⟨y', H11, J11, r11, e11⟩ => ?_
        subst e11
        exact fin J11 ⟨m', hm, w'⟩
  exact codeAny_compStart_list loop (T.self _ 0 _ _ _ st3 loop)
theorem pe_comp (c : Caps X scope cl cp) (hcalm : X.calm = true) (hx : scope.names.lookup x = some .local) (hnd : (x :: cp.map (·.2)).Nodup) (hi : PI X (.Name x px) iter wi)
    (ht : ∀ C fp pins s H, PTs (cxComp X scope cl C (x :: cp.map (·.2)) fp pins s H) ifs tt) (he : ∀ C fp pins s H, PE (cxComp X scope cl C (x :: cp.map (·.2)) fp pins s H) elt te)
    (hs : ∀ v, foldedSetIterable iter X.env v = pure v := by intro _; rfl) : PE X (.ListComp elt [⟨.Name x px, iter, ifs, 0⟩] scope pos) (tComp cp wi tt te) := by
  intro pins s σ H Q I h
  rw [eval_ListComp]
  refine wpAny_comprehension_free (use := none) (g := ⟨.Name x px, iter, ifs, 0⟩) (gs := []) (cl := cl) rfl hs c.clos c.kind c.names ?_
  refine thn (hi pins s σ H _ I h) fun v s1 h1 => thn h1 fun itv s2 h2 => ?_
  obtain ⟨it, fp, tn, J, H2, e, I2, T, st2, f2, q⟩ := h2
  subst e
  refine thn (comp_core (iter := iter) (pos := pos) (R := fun C => compPost (model X.prog X.w) X.A X.xe none (EP X pins σ Q) (.ref s2.heap.objs.size) C) c hcalm hx hnd ht he I2 T st2 f2 (q _ (I2.hok.fresh (Nat.le_refl _))) ?_) fun acc s3 h3 => thn h3 fun cenv s4 h4 => ?_
  · rintro C H' s' ⟨m, hn⟩ _ _ _ _ _ hI hq
    exact ⟨m, hn, fun h'' sb => ⟨.ref s2.heap.objs.size, H', hI h'' sb, rfl, hq⟩⟩
  · obtain ⟨e, h4⟩ := h4
    subst e
    exact h4
end
end L2

namespace L2
open PySem PySem.Spec PyProof.Rows

section
variable {X : Cx} {scope : Scope} {cl : List (Str × Addr)} {cp : List (Nat × Str)} {x : Str} {px pos : Pos} {elt iter : Expr} {ifs : List Expr} {wi : TI} {tt : TT} {te : TE}
/-- y = [.. for ..]: the store comes ahead of the letting go -/
theorem ps_setComp {i : Nat} {y : Str} {py : Pos} {pos' : Pos} (hN : X.N.Nodup) (hi' : X.N[i]? = some y) (hy : X.env.scope.names.lookup y = some .local) (c : Caps X scope cl cp) (hcalm : X.calm = true) (hx : scope.names.lookup x = some .local) (hnd : (x :: cp.map (·.2)).Nodup) (hi : PI X (.Name x px) iter wi)
    (ht : ∀ C fp pins s H, PTs (cxComp X scope cl C (x :: cp.map (·.2)) fp pins s H) ifs tt) (he : ∀ C fp pins s H, PE (cxComp X scope cl C (x :: cp.map (·.2)) fp pins s H) elt te)
    (hsw : swapsWith (.ListComp elt [⟨.Name x px, iter, ifs, 0⟩] scope pos) (some (.Name y py)) pos'.line X.env = pure true)
    (hs : ∀ v, foldedSetIterable iter X.env v = pure v := by intro _; rfl) : PS X (.Assign [.Name y py] (.ListComp elt [⟨.Name x px, iter, ifs, 0⟩] scope pos) pos') (tAsg (tComp cp wi tt te) (gName i)) := by
  intro pins s σ H D I h
  rw [exec_Assign_Name_used _ _ _ _ hsw]
  refine wpAny_bind (wpAny_standAt (wpAny_bind (wpAny_bind ?_)))
  refine wpAny_comprehension_free (use := some (assign (.Name y py) X.env)) (g := ⟨.Name x px, iter, ifs, 0⟩) (gs := []) (cl := cl) rfl hs c.clos c.kind c.names ?_
  refine thn (hi pins s σ H _ I h) fun v s1 h1 => thn h1 fun itv s2 h2 => ?_
  obtain ⟨it, fp, tn, J, H2, e, I2, T, st2, f2, q⟩ := h2
  subst e
  refine thn (comp_core (iter := iter) (pos := pos) (R := fun C => compPost (model X.prog X.w) X.A X.xe (some (assign (.Name y py) X.env)) (fun _ s' => wpAny (model X.prog X.w) X.A (pure ()) (fun _ s' => wpAny (model X.prog X.w) X.A (pure Flow.next) (SP X pins D) X.xe s') X.xe s') (.ref s2.heap.objs.size) C) c hcalm hx hnd ht he I2 T st2 f2 (q _ (I2.hok.fresh (Nat.le_refl _))) ?_) fun acc s3 h3 => thn h3 fun cenv s4 h4 => ?_
  · rintro C H' s' ⟨m, hn⟩ hC0 hCn hCL hCc hCp hI hq
    have I' : Inv X pins σ H' s' := hI s'.heap (Heap.SameBut.refl ..)
    refine wpAny_assign_Name (store_ok2 (v := .ref s2.heap.objs.size) I' hN hi' (.inl hy) rfl (fun s'' I'' hb => ?_) (.inr hy))
    obtain ⟨a, sb, ha⟩ := hb
    have hne : C ≠ a := by
      rcases ha with z | z
      · rw [z]; exact hCL
      · exact fun e => hCc y a z e.symm
    refine ⟨m, hn.sameBut sb hne, fun h'' sb'' => wpAny_pure (wpAny_pure ⟨_, H', ?_, hq⟩)⟩
    exact I''.turned (t' := s''.toks) (fun b o hb e => (sb''.2 b hb).trans e) hCn hCL (.inr hC0) hCc hCp
  · obtain ⟨e, h4⟩ := h4
    subst e
    exact h4
end

/-! ### all, join -/
theorem bools_of : ∀ {bs : List Bool} {us : List Value}, Vals (bs.map V.bl) us → ∀ (i : Nat) (v : Value), us[i]? = some v → ∃ b : Bool, bs[i]? = some b ∧ v = Value.bool b
  | [], _, .nil, i, v, h => by simp at h
  | b :: bs, u :: us, .cons r t, 0, v, h => by
    simp at h
    subst h
    cases r
    exact ⟨b, rfl, rfl⟩
  | b :: bs, u :: us, .cons r t, i + 1, v, h => by
    obtain ⟨b', e1, e2⟩ := bools_of t i v (by simpa using h)
    exact ⟨b', by simpa using e1, e2⟩
section
variable {X : Cx}
theorem call_all (hc : X.calm = true) : CallR X (.builtin "all") (fun xs H Q => ∃ (a : Addr) (bs : List Bool), xs = [.ref a] ∧ SqL X.K H a (bs.map V.bl) ∧ Q (.bl (bs.all id)) H) := by
  intro pins s σ H xs us Q I r h
  obtain ⟨a, bs, rfl, hq, q⟩ := h
  obtain ⟨u, rfl, ru⟩ := r.one
  cases ru
  obtain ⟨its, rv, pl, hz⟩ := I.list hq
  have hl : s.heap.IsList a its.toArray := pl.isList
  have hlt : a < s.heap.objs.size := by obtain ⟨_, e, _⟩ := hl; exact Heap.lt_size e
  refine call_all_walk (wpAny_pyIter_list hl ?_)
  refine ⟨s.heap.objs.size, [s.heap.objs.size, a], [s.heap.objs.size], its.toArray.size, _, _, fun i => (bs[i]?).getD true, rfl, Walks.list (A := X.A.in1) (I.ok.hd hc) _ a (Nat.ne_of_lt hlt) its.toArray,
    ⟨⟨_, Heap.get?_push_size _ rfl, rfl, rfl⟩, hl.push _⟩, fun i v s' Q' E' hP hQ => ?_, fun h' tk hk => ?_⟩
  · obtain ⟨b, e, rfl⟩ := bools_of rv i v (by simpa using hP)
    simp only [e, Option.getD_some] at hQ
    exact wpAny_truthy_bool hQ
  · have e : ((List.range its.toArray.size).all fun i => (bs[i]?).getD true) = bs.all id := by
      have := rv.length
      rw [List.length_map] at this
      rw [List.size_toArray, ← this]
      exact PyProof.Rows.LSm.range_all bs
    rw [e]
    refine ⟨.bl _, H, I.kept (t' := tk) fun b o e' => hk b o (fun hm => ?_) (Heap.get?_push_of_some _ e'), rfl, q⟩
    rw [List.mem_singleton.mp hm] at e'
    exact Nat.lt_irrefl _ (Heap.lt_size e')
end

/-! ### a def that is known: its promise and how it is called -/
structure Known (P : Program) (w : World) (K : PySem.W.Frag) (mg : Str → Option Value) (base : Heap) (CX : CXT) (k : Nat) (x : Str) (ps : List Str) (sp : Sp) : Prop where
  ex : ∃ f fd, FnOk P w K mg base CX k f fd ps sp ∧ mg x = some (.ref f) ∧ PySem.W.keepIn K (.ref f) = true ∧ Binds K fd ps []
section
variable {X : Cx} {CX : CXT} {k : Nat} {ps : List Str} {sp : Sp} {E : XK} {x : Str} {p pos : Pos} {e : Expr} {es : List Expr} {t : TA}
theorem pe_callN (G : Known X.prog X.w X.K X.mg X.base CX k x ps sp) (hr : Room k X.A) (hx : Passes CX X E) (ha : PA X (e :: es) t) (hg : Gl X x := by rfl) (hdb : (x == ("__debug__" : Str)) = false := by decide)
    (he : starEach (e :: es) X.env = (false, eval e X.env) :: starEach es X.env := by rfl) (hpl : (backTo pos (starEach es X.env)).any (·.1) = false := by rfl) : PE X (.Call (.Name x p) (e :: es) [] pos) (tCall sp [] E t) := by
  obtain ⟨f, fd, F, hm, hk, hb⟩ := G.ex
  exact pe_call F hr hg hm hk hb .nil hx ha hdb he hpl
end
/-! ### the forms of a comprehension that one uses: Pv by the turn, the list so far, the heap (in which it stands at D) -/
def Nxt (D : Addr) (Pv : Nat → List V → Hp → Prop) (i : Nat) (ys : List V) : VK := fun y H5 => H5 D = some (.lst ys) ∧ ys.length < sizeLine ∧ Pv (i + 1) (ys ++ [y]) (upd H5 D (.lst (ys ++ [y])))
theorem comp_it {cp : List (Nat × Str)} {te : TE} {σ : St} {J : It} {n : Nat} {D : Addr} {Q : VK} {H1 : Hp} (Pv : Nat → List V → Hp → Prop) (h0 : Pv 0 [] (upd H1 D (.lst []))) 
    (hg : ∀ i ys H, H D = some (.lst ys) → Pv i ys H → (i < n → J.go i H) ∧ (i = n → J.stop i H))
    (hs : ∀ i ys H v H', i < n → H D = some (.lst ys) → Pv i ys H → J.yld i H v H' → te (some v :: capσ cp σ) H' (Nxt D Pv i ys))
    (hd : ∀ ys H, H D = some (.lst ys) → Pv n ys H → Q (.ref D) H) : tLoop cp tYes te σ J D Q H1 := by
  refine ⟨fun i m H => m = n - i ∧ i ≤ n ∧ ∃ ys, H D = some (.lst ys) ∧ Pv i ys H, ⟨n, by simp, Nat.zero_le _, [], upd_same, h0⟩, ?_⟩
  rintro i m H ⟨rfl, hi, ys, hD, p⟩
  by_cases hlt : i < n
  · refine .inr ⟨(hg i ys H hD p).1 hlt, Nxt D Pv i ys, fun _ => False, fun y H5 ⟨h1, h2, h3⟩ => ⟨ys, n - (i + 1), h1, h2, by omega, rfl, hlt, _, upd_same, h3⟩, fun _ z => z.elim, fun v H' y => ?_⟩
    exact hs i ys H v H' hlt hD p y
  · have e : i = n := by omega
    subst e
    exact .inl ⟨(hg i ys H hD p).2 rfl, hd ys H hD p⟩
theorem comp_range {cp : List (Nat × Str)} {te : TE} {σ : St} {lo : Int} {n : Nat} {D : Addr} {Q : VK} {H1 : Hp} (Pv : Nat → List V → Hp → Prop) (h0 : Pv 0 [] (upd H1 D (.lst [])))
    (hs : ∀ i ys H, i < n → H D = some (.lst ys) → Pv i ys H → te (some (.int (lo + i)) :: capσ cp σ) H (Nxt D Pv i ys))
    (hd : ∀ ys H, H D = some (.lst ys) → Pv n ys H → Q (.ref D) H) : tLoop cp tYes te σ (Itr lo n) D Q H1 :=
  comp_it (n := n) Pv h0 (fun i ys H _ _ => ⟨fun h => h, fun h => by subst h; exact Nat.le_refl _⟩) (fun i ys H v H' hi hD p y => by
    obtain ⟨e, rfl⟩ := y
    subst e
    exact hs i ys _ hi hD p) hd
theorem comp_str {cp : List (Nat × Str)} {te : TE} {σ : St} {x : Str} {D : Addr} {Q : VK} {H1 : Hp} (Pv : Nat → List V → Hp → Prop) (h0 : Pv 0 [] (upd H1 D (.lst [])))
    (hs : ∀ i c ys H, x.cps[i]? = some c → H D = some (.lst ys) → Pv i ys H → te (some (.str ⟨#[c]⟩) :: capσ cp σ) H (Nxt D Pv i ys))
    (hd : ∀ ys H, H D = some (.lst ys) → Pv x.cps.size ys H → Q (.ref D) H) : tLoop cp tYes te σ (Its x) D Q H1 :=
  comp_it (n := x.cps.size) Pv h0 (fun i ys H _ _ => ⟨fun h => h, fun h => by subst h; exact Nat.le_refl _⟩) (fun i ys H v H' hi hD p y => by
    obtain ⟨e, c, hc, rfl⟩ := y
    subst e
    exact hs i c ys _ hc hD p) hd
theorem comp_list {K : PySem.W.Frag} {cp : List (Nat × Str)} {te : TE} {σ : St} {a : Addr} {xs : List V} {D : Addr} {Q : VK} {H1 : Hp} (Pv : Nat → List V → Hp → Prop) (h0 : Pv 0 [] (upd H1 D (.lst [])))
    (hl : ∀ i ys H, H D = some (.lst ys) → Pv i ys H → SqL K H a xs)
    (hs : ∀ i x ys H, xs[i]? = some x → H D = some (.lst ys) → Pv i ys H → te (some x :: capσ cp σ) H (Nxt D Pv i ys))
    (hd : ∀ ys H, H D = some (.lst ys) → Pv xs.length ys H → Q (.ref D) H) : tLoop cp tYes te σ (Itl K a) D Q H1 :=
  comp_it (n := xs.length) Pv h0 (fun i ys H hD p => ⟨fun h => ⟨xs, xs[i], hl i ys H hD p, by simp [h]⟩, fun h => by subst h; exact ⟨xs, hl _ ys H hD p, Nat.le_refl _⟩⟩) (fun i ys H v H' hi hD p y => by
    obtain ⟨e, y⟩ := y
    subst e
    exact hs i v ys _ (y xs (hl i ys _ hD p)) hD p) hd
end L2

namespace L2
open PySem PySem.Spec PyProof.Rows

/-! ### the kinds of plain things, isinstance of them -/
inductive Kd where
  | non | bl | int | str | lst | tup | dct
  deriving DecidableEq
def Kd.nm : Kd → String
  | .non => "NoneType" | .bl => "bool" | .int => "int" | .str => "str" | .lst => "list" | .tup => "tuple" | .dct => "dict"
theorem kit_int (K : PySem.W.Frag) (a : Kd) : PySem.W.kitOne K (.type a.nm) (.type "int") = some (decide (a = .int ∨ a = .bl)) := by cases a <;> kernel_rfl
theorem kit_bool (K : PySem.W.Frag) (a : Kd) : PySem.W.kitOne K (.type a.nm) (.type "bool") = some (decide (a = .bl)) := by cases a <;> kernel_rfl
theorem kit_str (K : PySem.W.Frag) (a : Kd) : PySem.W.kitOne K (.type a.nm) (.type "str") = some (decide (a = .str)) := by cases a <;> kernel_rfl
theorem kit_list (K : PySem.W.Frag) (a : Kd) : PySem.W.kitOne K (.type a.nm) (.type "list") = some (decide (a = .lst)) := by cases a <;> kernel_rfl
theorem kit_tuple (K : PySem.W.Frag) (a : Kd) : PySem.W.kitOne K (.type a.nm) (.type "tuple") = some (decide (a = .tup)) := by cases a <;> kernel_rfl
def kdD : PyData → Kd
  | .none => .non | .bool _ => .bl | .int _ => .int | .str _ => .str | .list _ => .lst | .tuple _ => .tup | .dict _ => .dct
/-- isinstance(x, T), T a built-in type -/
theorem call_isT {X : Cx} : CallR X (.builtin "isinstance") (fun xs H Q => ∃ x T d k, xs = [x, .ty T] ∧ Dt X.K H x d ∧ PySem.W.kitOne X.K (.type (kdD d).nm) (.type T) = some k ∧ Q (.bl k) H) := by
  intro pins s σ H xs us Q I r h
  obtain ⟨x, T, d, k, rfl, hd, e, q⟩ := h
  obtain ⟨u, c, rfl, r1, r2⟩ := r.two
  cases r2
  have fin : ∀ tk, EP X pins σ Q (.bool k) { s with toks := tk } := fun tk => ⟨.bl k, H, I.tok tk, rfl, q⟩
  cases hd with
  | non => cases r1; exact PySem.W.kia_one PySem.W.kitx_none I.kIn True.intro e (fun z => nomatch z) fin
  | bl b => cases r1; exact PySem.W.kia_one PySem.W.kitx_bool I.kIn True.intro e (fun z => nomatch z) fin
  | int i => obtain ⟨t, rfl⟩ := r1; exact PySem.W.kia_one PySem.W.kitx_int I.kIn True.intro e (fun z => nomatch z) fin
  | str z => obtain ⟨t, rfl⟩ := r1; exact PySem.W.kia_one PySem.W.kitx_str I.kIn True.intro e (fun z => nomatch z) fin
  | lst hq _ =>
    cases r1
    obtain ⟨its, _, ⟨o, n, eo, hc, _, _⟩, _⟩ := I.list hq
    exact PySem.W.kia_one PySem.W.kitx_list I.kIn ⟨o, eo, hc⟩ e (fun z => nomatch z) fin
  | tup hq _ =>
    cases r1
    obtain ⟨its, _, ⟨o, eo, hc, _⟩, _⟩ := I.tuple hq
    exact PySem.W.kia_one PySem.W.kitx_tuple I.kIn ⟨o, eo, hc⟩ e (fun z => nomatch z) fin
  | dK ea =>
    cases r1
    obtain ⟨_, _, vs, _, o, es, ep, h1, h2, _⟩ := I.hok _ _ ea
    exact PySem.W.kia_one PySem.W.kitx_dict I.kIn ⟨o, h1, h2.1⟩ e (fun z => nomatch z) fin
  | dT ea =>
    cases r1
    obtain ⟨_, _, zs, _, o, es, ep, h1, h2, _⟩ := I.hok _ _ ea
    exact PySem.W.kia_one PySem.W.kitx_dict I.kIn ⟨o, h1, h2.1⟩ e (fun z => nomatch z) fin

/-! ### no cell is caught -/
theorem caps0 {X : Cx} {scope : Scope} (kind : scope.kind = .function := by rfl) (plain : ∀ y ∈ scope.names, y.2 = .local ∨ y.2 = .globalImplicit := by decide) (names : ∀ y ∈ scope.names, y.2 = .local → scope.names.lookup y.1 = some .local := by decide +kernel) : Caps X scope [] [] where
  kind := kind
  nocell := fun y hy z => by rcases plain y hy with h | h <;> rw [h] at z <;> cases z
  names := names
  clos := closureFor_none fun y hy z => by rcases plain y hy with h | h <;> rw [h] at z <;> cases z
  sub := fun x c e => by cases e
  has := fun x h => by
    have hm : ∀ (k : NameKind), (relabel scope X.env).names.lookup x = some k → k = .local ∨ k = .globalImplicit := fun k e => by
      have m := PySem.mem_of_lookup e
      unfold relabel at m
      obtain ⟨⟨n, k'⟩, hy, e'⟩ := List.mem_map.mp m
      have q := plain _ hy
      have nf : (k' == NameKind.free) = false := by rcases q with h | h <;> (have h' : k' = _ := h; subst h'; rfl)
      simp only [nf, Bool.false_and, Bool.false_eq_true, if_false] at e'
      have : k' = k := congrArg (·.2) e'
      rw [← this]
      exact q
    rcases h with h | h
    · rcases hm _ h with z | z <;> cases z
    · rcases hm _ h with z | z <;> cases z
  at' := fun p hp => by cases hp

/-! ### a def of the text -/
structure Def (K : PySem.W.Frag) (mg : Str → Option Value) (x : Str) (st : Stmt) : Prop where
  ex : ∃ f fd, Fun K x x st f fd ∧ mg x = some (.ref f)
section
variable {P : Program} {w : World} {K : PySem.W.Frag} {mg : Str → Option Value} {base : Heap}
theorem top_def {h : Heap} {x : Str} {st : Stmt} {f : Addr} {oc : Value} {od an : Option Addr} {osl : Array (Option Value)} {kV doc pm cdv ct : Value} (X : K.In h) (G : h.Ns mainGlobals mg) (a : PySem.W.nsIn K mainGlobals x = some (some (.ref f)))
    (l : K.lookup f = some ⟨oc, od, .func (PySem.W.fnOf x x (defArgs st) (defBody st) (defScope st) .none kV doc pm an cdv ct), osl⟩) (c : PySem.W.codeIn K cdv x = true) (k : PySem.W.keepIn K (.ref f) = true) : Def K mg x st :=
  ⟨f, _, fun_mk l c k, PySem.W.mg_of X G a⟩
theorem Def.known {x : Str} {st : Stmt} {N ps : List Str} {k : Nat} {sp : Sp} (D : Def K mg x st) (S : FnScope N ps (defScope st))
    (hb : ∀ (kV doc pm : Value) (an : Option Addr) (cdv ct : Value) (us : List Value), us.length = ps.length → bindArgs (PySem.W.fnOf x x (defArgs st) (defBody st) (defScope st) .none kV doc pm an cdv ct) ⟨us, []⟩ = pure (ps.zip us))
    (len : ∀ vs H Q E, sp vs H Q E → vs.length = ps.length)
    (hbody : ∀ (f : Addr) (cdv : Value) (A : Around) (outer : List Env) (s : Shared) (H : Hp) (vs : List V) (Q : VK) (E : XK), Room k (A.deeper (envOfC x (defScope st) s.heap.objs.size f cdv)) → sp vs H Q E →
      ∃ t, PSs (cxOf CX0 P w K mg base N x (defScope st) f cdv A outer s H E).nox (defBody st) t ∧ t { nx := fun _ H' => Q .non H', rt := Q } (start N vs) H) : Known P w K mg base CX0 (k + 1) x ps sp := by
  obtain ⟨f, fd, F, hm⟩ := D.ex
  exact ⟨f, fd, F.ok S len fun cdv A outer s H vs Q E hr h => hbody f cdv A outer s H vs Q E hr h, hm, F.kp, F.binds hb⟩
end

/-! ### heaps that grow -/
theorem Same.new {H : Hp} {D : Addr} {o : HO} (h : H D = none) : Same H (upd H D o) := fun b u e => by rw [upd_ne (ne_of_none e h)]; exact e
/-- a new thing is turned -/
theorem Same.on {H H2 : Hp} {D : Addr} {o : HO} (e : Same H H2) (h : H D = none) : Same H (upd H2 D o) := fun b u z => by rw [upd_ne (ne_of_none z h)]; exact e b u z

/-! ### a new list, a new tuple of data -/
/-! ### texts -/
abbrev one (c : Nat) : Str := ⟨#[c]⟩
theorem at_some {α : Type} (xs : List α) (i : Int) (h0 : 0 ≤ i) (h : i < xs.length) : ∃ v, atI xs i = some v ∧ xs[i.toNat]? = some v := by
  have e : i = (i.toNat : Int) := by omega
  have hl : i.toNat < xs.length := by omega
  generalize i.toNat = j at e hl
  subst e
  exact ⟨_, atI_nat (List.getElem?_eq_getElem hl), List.getElem?_eq_getElem hl⟩
theorem at_map (ns : List Int) (i : Int) (h0 : 0 ≤ i) (h : i < ns.length) : atI (ns.map V.int) i = some (V.int (ns.getD i.toNat 0)) := by
  have e : i = (i.toNat : Int) := by omega
  have hl : i.toNat < ns.length := by omega
  generalize i.toNat = j at e hl
  subst e
  refine atI_nat ?_
  rw [List.getElem?_map, List.getElem?_eq_getElem hl]
  simp [List.getD, hl]

/-! ### data of texts and ints -/
theorem dt_strs {K : PySem.W.Frag} {H : Hp} : ∀ zs : List Str, DtAll K H (zs.map V.str) (zs.map PyData.str)
  | [] => .nil
  | z :: r => .cons (.str z) (dt_strs r)
theorem dt_ints {K : PySem.W.Frag} {H : Hp} : ∀ zs : List Int, DtAll K H (zs.map V.int) (zs.map PyData.int)
  | [] => .nil
  | z :: r => .cons (.int z) (dt_ints r)
theorem lay_ints : ∀ zs : List Int, PyData.canLayAll0 (zs.map PyData.int) = true ∧ PyData.depthAll (zs.map PyData.int) = 0
  | [] => ⟨rfl, rfl⟩
  | z :: r => by
    obtain ⟨h1, h2⟩ := lay_ints r
    constructor
    · rw [List.map_cons, PyData.canLayAll0, h1]; rfl
    · rw [List.map_cons, PyData.depthAll, h2]; rfl
theorem lay_text {cs : List Nat} (h : ∀ c ∈ cs, c < 128) : PyData.canLay0 (.str ⟨cs.toArray⟩) = true := by
  have : ∀ c ∈ cs, c < 1114112 := fun c hc => by have := h c hc; omega
  simp [PyData.canLay0, PyData.strOk]
  exact this

theorem sl {n : Nat} (h : n ≤ 1000 := by simp) : n ≤ sizeLine := Nat.le_of_lt (small1000 h)

/-! ### names of Python's own -/
theorem b_all : bootBuiltins "all" = some (.builtin "all") := by kernel_rfl
theorem b_isinstance : bootBuiltins "isinstance" = some (.builtin "isinstance") := by kernel_rfl
theorem b_abs : bootBuiltins "abs" = some (.builtin "abs") := by kernel_rfl
theorem b_len : bootBuiltins "len" = some (.builtin "len") := by kernel_rfl
theorem b_int : bootBuiltins "int" = some (.type "int") := by kernel_rfl
theorem b_bool : bootBuiltins "bool" = some (.type "bool") := by kernel_rfl
theorem b_str : bootBuiltins "str" = some (.type "str") := by kernel_rfl
theorem b_list : bootBuiltins "list" = some (.type "list") := by kernel_rfl
theorem b_tuple : bootBuiltins "tuple" = some (.type "tuple") := by kernel_rfl
end L2

namespace L2
open PySem PySem.Spec PyProof.Rows

/-! ### exceptions -/
/-- what passing through the frames fs changes: the exception's own objects, the frames' slots -/
structure Flew (fs own : List Addr) (h h' : Heap) : Prop where
  keep : ∀ b o, b ∉ own → b ∉ fs → h.get? b = some o → h'.get? b = some o
  slot : ∀ b o, b ∉ own → h.get? b = some o → ∃ sl, h'.get? b = some { o with slots := sl }
section
variable {M : Model} {A : Around} {E : Value → Shared → Prop} {s : Shared} {base : Heap} {env : Env} {outer : List Env} {L ea T : Addr} {C : Value}
end
end L2

namespace L2
open PySem PySem.Spec PyProof.Rows

section
variable {P : Program} {w : World} {K : PySem.W.Frag} {mg : Str → Option Value} {base : Heap} {N : List Str} {qual : Str} {scope : Scope} {f : Addr} {cd : Value} {A : Around} {outer : List Env} {s : Shared} {H : Hp} {E : XK}
end

/-! ### raise C(..), C an own class below ValueError -/
section
variable {P : Program} {w : World} {K : PySem.W.Frag} {mg : Str → Option Value} {base : Heap} {N : List Str} {qual : Str} {scope : Scope} {f : Addr} {cd : Value} {A : Around} {outer : List Env} {s : Shared} {H : Hp} {E : XK}
end
end L2

namespace L2
open PySem PySem.Spec PyProof.Rows

/-! ### try .. except C as n -/
section
variable {X : Cx} {pins : List (Addr × Obj)} {σ : St} {H : Hp} {s : Shared}
end
section
variable {X : Cx} {pins : List (Addr × Obj)} {σ : St} {H : Hp} {s : Shared}
end
/-! ### isinstance of a caught exception -/
structure ExcK (K : PySem.W.Frag) (C : Addr) : Prop where
  hga : PySem.W.findIn K (.ref C) "__getattribute__" = some (some (.builtin "BaseException.__getattribute__"))
  hk : PySem.W.findIn K (.ref C) "__getattr__" = some none
  hc : ∃ cd, PySem.W.clsIn K C = some cd
  ha : PySem.W.findIn K (.ref C) "__class__" = some (some (.builtin "object.__class__"))
  hn : PySem.W.specialIn K (.builtin "object.__class__") "__get__" = some (some (.builtin "getset_descriptor.__get__"))
  ht : PySem.W.takesIn K (.builtin "object.__class__") = some true
  hm : PySem.W.mroIn K C (.type "object") = some true
  hb : PySem.W.mroIn K C (.type "BaseException") = some true
end L2

namespace L2
open PySem PySem.Spec PyProof.Rows
/-! ### a slice of a text -/
theorem sl_str {X : Cx} : SlR X (fun x lo hi H Q => ∃ z, x = .str z ∧ z.length ≤ sizeLine ∧ Q (.str (Txt.slice z lo hi)) H) := by
  intro pins s σ H x v vl vu lo hi sl Q I rx hs pl pu h
  obtain ⟨z, rfl, hz, q⟩ := h
  obtain ⟨t, rfl⟩ := rx
  have part : ∀ {u : Value} {o : Option Int}, IsPart u o → ∃ l : Option (Int × Tok), partValue l = u ∧ l.map (·.1) = o := fun p => by
    cases p with
    | none => exact ⟨none, rfl, rfl⟩
    | int i t => exact ⟨some (i, t), rfl, rfl⟩
  obtain ⟨l, rfl, rfl⟩ := part pl
  obtain ⟨u, rfl, rfl⟩ := part pu
  exact ⟨"str", _, F.slot_str_getitem.lookup, typeIs_str _ _ _, wpAny_getItem_str_slice (l := l) (u := u) (st := none) hs rfl
    (post_val_or_str ⟨Nat.le_trans (Txt.slice_le z _ _) hz, fun t' k => ⟨.str _, H, I.tok k, ⟨_, rfl⟩, q⟩⟩)⟩
end L2

namespace L2
open PySem PySem.Spec PyProof.Rows
/-! ### list(range(n)), list(d) -/
section
variable {X : Cx}
end
/-- the j-th statement of a class's body -/
def inCls (s : Stmt) (j : Nat) : Stmt := match s with
  | .ClassDef _ _ _ body _ _ _ _ _ _ _ => body.getD j (.Pass ⟨0, 0, 0, 0⟩)
  | _ => .Pass ⟨0, 0, 0, 0⟩
/-! ### methods and classes, by what they promise -/
structure KnownM (P : Program) (w : World) (K : PySem.W.Frag) (mg : Str → Option Value) (base : Heap) (CX : CXT) (k : Nat) (C : Addr) (m : Str) (ps : List Str) (sp : Sp) : Prop where
  ex : ∃ f fd, FnOk P w K mg base CX k f fd ps sp ∧ Meth K C m f ∧ Binds K fd ps []
structure KnownI (P : Program) (w : World) (K : PySem.W.Frag) (mg : Str → Option Value) (base : Heap) (CX : CXT) (k : Nat) (C : Addr) (ps : List Str) (sp : Sp) : Prop where
  ex : ∃ f fd, FnOk P w K mg base CX k f fd ps sp ∧ Mk K C f ∧ Binds K fd ps []
structure Mth (K : PySem.W.Frag) (C : Addr) (m qual : Str) (st : Stmt) : Prop where
  ex : ∃ f fd, Fun K m qual st f fd ∧ PySem.W.findIn K (.ref C) m = some (some (.ref f)) ∧ PySem.W.isFn K (.ref f) = true
section
variable {P : Program} {w : World} {K : PySem.W.Frag} {mg : Str → Option Value} {base : Heap} {C : Addr}
theorem mth_mk {m qual : Str} {st : Stmt} {f : Addr} {oc : Value} {od an : Option Addr} {osl : Array (Option Value)} {kV doc pm cdv ct : Value} (a : PySem.W.findIn K (.ref C) m = some (some (.ref f))) (i : PySem.W.isFn K (.ref f) = true)
    (l : K.lookup f = some ⟨oc, od, .func (PySem.W.fnOf m qual (defArgs st) (defBody st) (defScope st) .none kV doc pm an cdv ct), osl⟩) (c : PySem.W.codeIn K cdv qual = true) (k : PySem.W.keepIn K (.ref f) = true) : Mth K C m qual st :=
  ⟨f, _, fun_mk l c k, a, i⟩
theorem Mth.known {m qual : Str} {st : Stmt} {N ps : List Str} {k : Nat} {sp : Sp} (D : Mth K C m qual st) (S : FnScope N ps (defScope st))
    (hb : ∀ (kV doc pm : Value) (an : Option Addr) (cdv ct : Value) (us : List Value), us.length = ps.length → bindArgs (PySem.W.fnOf m qual (defArgs st) (defBody st) (defScope st) .none kV doc pm an cdv ct) ⟨us, []⟩ = pure (ps.zip us))
    (len : ∀ vs H Q E, sp vs H Q E → vs.length = ps.length)
    (hbody : ∀ (f : Addr) (cdv : Value) (A : Around) (outer : List Env) (s : Shared) (H : Hp) (vs : List V) (Q : VK) (E : XK), Room k (A.deeper (envOfC qual (defScope st) s.heap.objs.size f cdv)) → sp vs H Q E →
      ∃ t, PSs (cxOf CX0 P w K mg base N qual (defScope st) f cdv A outer s H E).nox (defBody st) t ∧ t { nx := fun _ H' => Q .non H', rt := Q } (start N vs) H) : KnownM P w K mg base CX0 (k + 1) C m ps sp := by
  obtain ⟨f, fd, F, ha, hi⟩ := D.ex
  exact ⟨f, fd, F.ok S len fun cdv A outer s H vs Q E hr h => hbody f cdv A outer s H vs Q E hr h, ⟨ha, hi, F.kp⟩, F.binds hb⟩
theorem KnownM.init {CX : CXT} {k : Nat} {ps : List Str} {sp : Sp} (G : KnownM P w K mg base CX k C "__init__" ps sp) (mk : PySem.W.makesIn K C = true) (kc : PySem.W.keepIn K (.ref C) = true) : KnownI P w K mg base CX k C ps sp := by
  obtain ⟨f, fd, F, hm, hb⟩ := G.ex
  exact ⟨f, fd, F, ⟨mk, hm.at_, hm.fn, kc⟩, hb⟩
end
section
variable {X : Cx} {CX : CXT} {k : Nat} {C : Addr} {ps : List Str} {sp : Sp} {E : XK} {x m : Str} {p pos apos : Pos} {e o : Expr} {es : List Expr} {t : TA} {ta : TE}
theorem pe_makeN (G : KnownI X.prog X.w X.K X.mg X.base CX k C ps sp) (hr : Room (k + 1) X.A) (hm : X.mg x = some (.ref C)) (hx : Passes CX X E)
    (ha : PA X (e :: es) t) (hg : Gl X x := by rfl) (hdb : (x == ("__debug__" : Str)) = false := by decide) (he : starEach (e :: es) X.env = (false, eval e X.env) :: starEach es X.env := by rfl) (hpl : (backTo pos (starEach es X.env)).any (·.1) = false := by rfl) :
    PE X (.Call (.Name x p) (e :: es) [] pos) (tMake C sp [] E t) := by
  obtain ⟨f, fd, F, M, hb⟩ := G.ex
  exact pe_make M F hr hg hm hb .nil hx ha hdb he hpl
end
end L2

namespace L2
open PySem PySem.Spec PyProof.Rows
/-! ### what a comprehension catches -/
def clFold (cells : List (Str × Addr)) : List (Str × NameKind) → List (Str × Addr) → List (Str × Addr)
  | [], acc => acc
  | (n, k) :: r, acc => clFold cells r (if k == .free then (n, (cells.lookup n).getD 0) :: acc else acc)
theorem closureFor_fold {env : Env} : ∀ {names : List (Str × NameKind)} {acc : List (Str × Addr)}, (∀ y ∈ names, y.2 = .free → ∃ c, env.cells.lookup y.1 = some c) →
    (forIn names acc fun (x : Str × NameKind) (cs : List (Str × Addr)) => (do
      let (name, kind) := x
      if kind == NameKind.free then (do let a ← cellOf env name; pure (ForInStep.yield ((name, a) :: cs))) else pure (ForInStep.yield cs) : Sem (ForInStep (List (Str × Addr))))) = pure (clFold env.cells names acc)
  | [], acc, _ => rfl
  | (n, k) :: r, acc, h => by
    rw [List.forIn_cons]
    by_cases hk : (k == NameKind.free) = true
    · obtain ⟨c, hc⟩ := h (n, k) List.mem_cons_self (by simpa using hk)
      have e : cellOf env n = pure c := by unfold cellOf; rw [show env.cells.lookup n = some c from hc]
      have ih := closureFor_fold (env := env) (names := r) (acc := (n, c) :: acc) fun y hy => h y (List.mem_cons_of_mem _ hy)
      show (do let r ← (if k == NameKind.free then (do let a ← cellOf env n; pure (ForInStep.yield ((n, a) :: acc))) else pure (ForInStep.yield acc) : Sem (ForInStep (List (Str × Addr)))); _) = _
      rw [if_pos hk, e, pure_bind, pure_bind]
      refine Eq.trans ih ?_
      show _ = pure (clFold env.cells r (if (k == NameKind.free) = true then (n, (env.cells.lookup n).getD 0) :: acc else acc))
      rw [if_pos hk, show env.cells.lookup n = some c from hc]
      rfl
    · have ih := closureFor_fold (env := env) (names := r) (acc := acc) fun y hy => h y (List.mem_cons_of_mem _ hy)
      show (do let r ← (if k == NameKind.free then (do let a ← cellOf env n; pure (ForInStep.yield ((n, a) :: acc))) else pure (ForInStep.yield acc) : Sem (ForInStep (List (Str × Addr)))); _) = _
      rw [if_neg hk, pure_bind]
      refine Eq.trans ih ?_
      show _ = pure (clFold env.cells r (if (k == NameKind.free) = true then (n, (env.cells.lookup n).getD 0) :: acc else acc))
      rw [if_neg hk]
theorem clFold_sub {cells : List (Str × Addr)} : ∀ {names : List (Str × NameKind)} {acc : List (Str × Addr)}, (∀ y ∈ names, y.2 = .free → ∃ c, cells.lookup y.1 = some c) → (∀ x c, acc.lookup x = some c → cells.lookup x = some c) →
    ∀ x c, (clFold cells names acc).lookup x = some c → cells.lookup x = some c
  | [], _, _, h => h
  | (n, k) :: r, acc, hf, h => by
    refine clFold_sub (names := r) (fun y hy => hf y (List.mem_cons_of_mem _ hy)) ?_
    intro x c e
    by_cases hk : (k == NameKind.free) = true
    · obtain ⟨c', hc⟩ := hf (n, k) List.mem_cons_self (by simpa using hk)
      have hc' : cells.lookup n = some c' := hc
      rw [if_pos hk, hc', List.lookup_cons] at e
      by_cases hx : (x == n) = true
      · rw [hx] at e
        cases e
        have : x = n := by simpa using hx
        rw [this]
        exact hc'
      · rw [show (x == n) = false by simpa using hx] at e
        exact h x c e
    · rw [if_neg hk] at e
      exact h x c e
theorem clFold_keep {cells : List (Str × Addr)} : ∀ {names : List (Str × NameKind)} {acc : List (Str × Addr)} {x : Str}, (∃ c, acc.lookup x = some c) → ∃ c, (clFold cells names acc).lookup x = some c
  | [], _, _, h => h
  | (n, k) :: r, acc, x, ⟨c, h⟩ => by
    refine clFold_keep (names := r) ?_
    by_cases hk : (k == NameKind.free) = true
    · rw [if_pos hk, List.lookup_cons]
      cases hx : x == n with
      | true => exact ⟨_, rfl⟩
      | false => exact ⟨c, h⟩
    · rw [if_neg hk]
      exact ⟨c, h⟩
theorem clFold_has {cells : List (Str × Addr)} : ∀ {names : List (Str × NameKind)} {acc : List (Str × Addr)} {x : Str}, (x, NameKind.free) ∈ names → ∃ c, (clFold cells names acc).lookup x = some c
  | (n, k) :: r, acc, x, h => by
    rcases List.mem_cons.mp h with e | h
    · cases e
      refine clFold_keep (names := r) ⟨(cells.lookup n).getD 0, ?_⟩
      rw [if_pos (by rfl), List.lookup_cons, beq_self_eq_true]
    · exact clFold_has (names := r) h
theorem relabel_kind {env : Env} : ∀ {names : List (Str × NameKind)} {x : Str}, names.lookup x = some .free →
    (names.map fun (n, k) => if (k == NameKind.free && env.scope.kind == .function && env.kindOf n == some .cell) then (n, NameKind.cell) else (n, k)).lookup x = some .cell ∨
    (names.map fun (n, k) => if (k == NameKind.free && env.scope.kind == .function && env.kindOf n == some .cell) then (n, NameKind.cell) else (n, k)).lookup x = some .free
  | [], _, h => by simp at h
  | (n, k) :: r, x, h => by
    have ih := @relabel_kind env r x
    rw [List.lookup_cons] at h
    rw [List.map_cons]
    cases hx : x == n with
    | true =>
      rw [hx] at h
      cases h
      by_cases hc : (NameKind.free == NameKind.free && env.scope.kind == .function && env.kindOf n == some .cell) = true
      · simp only [hc, if_true, List.lookup_cons, hx]
        exact .inl trivial
      · simp only [hc, if_false, List.lookup_cons, hx, Bool.false_eq_true]
        exact .inr trivial
    | false =>
      rw [hx] at h
      by_cases hc : (k == NameKind.free && env.scope.kind == .function && env.kindOf n == some .cell) = true
      · simp only [hc, if_true, List.lookup_cons, hx]
        exact ih h
      · simp only [hc, if_false, List.lookup_cons, hx, Bool.false_eq_true]
        exact ih h
theorem caps_of {X : Cx} {scope : Scope} {cp : List (Nat × Str)} {sc : Scope} {N : List Str} (hcell : ∀ x, X.env.scope.names.lookup x = some .cell → ∃ c, X.env.cells.lookup x = some c) (hs : X.env.scope = sc := by rfl) (hN : X.N = N := by rfl)
    (kind : scope.kind = .function := by rfl) (plain : ∀ y ∈ scope.names, y.2 ≠ .cell := by decide) (names : ∀ y ∈ scope.names, y.2 = .local → scope.names.lookup y.1 = some .local := by decide +kernel)
    (free : ∀ y ∈ scope.names, y.2 = .free → sc.names.lookup y.1 = some .cell := by decide +kernel) (at' : ∀ p ∈ cp, N[p.1]? = some p.2 ∧ sc.names.lookup p.2 = some .cell ∧ scope.names.lookup p.2 = some .free := by decide +kernel) :
    Caps X scope (clFold X.env.cells scope.names []) cp := by
  subst hs hN
  have hf : ∀ y ∈ scope.names, y.2 = .free → ∃ c, X.env.cells.lookup y.1 = some c := fun y hy e => hcell _ (free y hy e)
  refine ⟨kind, plain, names, ?_, clFold_sub hf (fun x c e => by cases e), fun x h => ?_, fun p hp => ?_⟩
  · show closureFor scope X.env = _
    simp only [closureFor]
    have := closureFor_fold (env := X.env) (acc := []) hf
    exact (congrArg (fun z => z >>= fun r => pure r) this).trans (pure_bind _ _)
  · have hm : ∀ k, (relabel scope X.env).names.lookup x = some k → (k = .cell ∨ k = .free) → (x, NameKind.free) ∈ scope.names := fun k e hk => by
      have m := PySem.mem_of_lookup e
      unfold relabel at m
      obtain ⟨⟨n, k'⟩, hy, e'⟩ := List.mem_map.mp m
      have nc := plain _ hy
      by_cases hc : (k' == NameKind.free && X.env.scope.kind == .function && X.env.kindOf n == some .cell) = true
      · simp only [hc, if_true] at e'
        have e1 : n = x := congrArg (·.1) e'
        have : k' = .free := by simp only [Bool.and_eq_true, beq_iff_eq] at hc; exact hc.1.1
        subst e1 this
        exact hy
      · simp only [hc, if_false, Bool.false_eq_true] at e'
        have e1 : n = x := congrArg (·.1) e'
        have e2 : k' = k := congrArg (·.2) e'
        subst e1 e2
        rcases hk with z | z
        · exact absurd z nc
        · subst z; exact hy
    rcases h with h | h
    · exact clFold_has (hm _ h (.inl rfl))
    · exact clFold_has (hm _ h (.inr rfl))
  · obtain ⟨h1, h2, h3⟩ := at' p hp
    exact ⟨h1, .inl h2, relabel_kind h3⟩
end L2

namespace L2
open PySem PySem.Spec PyProof.Rows PySem.Builtin PySem.Builtin.Str
/-! ### what a slice of a text is -/
theorem slice_mem {x : Str} {lo hi : Option Int} {c : Nat} (h : c ∈ (Txt.slice x lo hi).cps.toList) : c ∈ x.cps.toList := by
  unfold Txt.slice at h
  split at h
  · exact h
  · simp only [List.mem_filterMap] at h
    obtain ⟨i, _, e⟩ := h
    rw [← Array.getElem?_toList] at e
    exact List.mem_of_getElem? e
theorem slice_len {x : Str} {a b : Nat} (hab : a ≤ b) (hb : b ≤ x.length) : (Txt.slice x (some (a : Int)) (some (b : Int))).length = b - a := by
  unfold Txt.slice
  split
  · rename_i h
    rw [StrLaws.strSliceIndices_plain hab hb] at h
    simp at h
    exact h.symm
  · show (List.toArray _).size = _
    rw [List.size_toArray, StrLaws.sliced_plain x hab hb, List.length_take, List.length_drop]
    have : x.cps.toList.length = x.length := by rw [Array.length_toList]; rfl
    omega
theorem slice_0 {x : Str} {hi : Option Int} : Txt.slice x none hi = Txt.slice x (some (0 : Nat)) hi := by
  have e : strSliceIndices none hi 1 x.length = strSliceIndices (some ((0 : Nat) : Int)) hi 1 x.length := by
    have e1 : max (0 : Int) (min 0 (x.length : Int)) = 0 := by omega
    simp [strSliceIndices, e1]
  unfold Txt.slice
  rw [e]
end L2

namespace L2
open PySem PySem.Spec PyProof.Rows
/-! ### for over a dict: it stands still while it is walked -/
/-- d was no tuple, nothing known and no table at the entry -/
def NoF (X : Cx) (d : Addr) : Prop := (∀ xs, X.H₀ d ≠ some (.tup xs)) ∧ (∀ o u, X.H₀ d ≠ some (.frz o u)) ∧ ∀ ps, X.H₀ d ≠ some (.tbl ps)
section
variable {X : Cx} {pins : List (Addr × Obj)} {σ : St} {H : Hp} {s : Shared} {d : Addr}
/-- the same thing, under another word -/
theorem Inv.retag {u u' : HO} (I : Inv X pins σ H s) (e : H d = some u) (nf : NoF X d) (no : ∀ x, u ≠ .own x) (nt : ∀ xs, u ≠ .tup xs) (new : ObjOk X.prog X.w (upd H d u') s.heap d u') : Inv X pins σ (upd H d u') s := by
  have hn : ∀ b, H b = none → upd H d u' b = none := fun b n => by rw [upd_ne (ne_of_none e n).symm]; exact n
  refine ⟨I.ok, I.os, I.bare, ⟨I.base.keep, I.base.slot, fun b o q n hx => hn b (I.base.free b o q n hx), I.base.there, fun b xs q => ?_, fun b o v q => ?_, fun b ps q => ?_⟩, I.loc, I.cell, hn _ I.free, fun x c q => hn _ (I.freeC x c q), fun p hp => ?_, fun b v q => ?_, I.len⟩
  · have : b ≠ d := fun z => nf.1 xs (z ▸ q)
    rw [upd_ne this]
    exact I.base.tups b xs q
  · have : b ≠ d := fun z => nf.2.1 o v (z ▸ q)
    rw [upd_ne this]
    exact I.base.frzs b o v q
  · have : b ≠ d := fun z => nf.2.2 ps (z ▸ q)
    rw [upd_ne this]
    exact I.base.tbls b ps q
  · obtain ⟨a1, a2, a3, a4, a5⟩ := I.pin p hp
    exact ⟨a1, hn _ a2, a3, a4, a5⟩
  · by_cases hb : b = d
    · subst hb
      rw [upd_same] at q
      cases q
      exact new
    · rw [upd_ne hb] at q
      refine (I.hok b v q).stay (fun _ _ _ r => r) (fun c r => ?_) fun c xs r => ?_
      · rw [upd_ne (ne_of r e (fun z => no _ z.symm))]
        exact r
      · rw [upd_ne (ne_of r e (fun z => nt _ z.symm))]
        exact r
theorem Inv.nof {u : HO} (I : Inv X pins σ H s) (e : H d = some u) (h1 : ∀ xs, u ≠ .tup xs) (h2 : ∀ o v, u ≠ .frz o v) (h3 : ∀ ps, u ≠ .tbl ps) : NoF X d := by
  refine ⟨fun xs q => ?_, fun o v q => ?_, fun ps q => ?_⟩
  · have := (I.base.tups d xs q).symm.trans e
    exact h1 xs (Option.some.inj this).symm
  · have := (I.base.frzs d o v q).symm.trans e
    exact h2 o v (Option.some.inj this).symm
  · obtain ⟨m, q'⟩ := I.base.tbls d ps q
    have := q'.symm.trans e
    exact h3 _ (Option.some.inj this).symm
end
section
variable {X : Cx} {tg : Expr}
end
end L2

namespace L2
open PySem PySem.Spec PyProof.Rows
/-! ### list.insert -/
section
variable {X : Cx}
/-! ### dict(d) -/
/-! ### d != e, where both hold the same things -/
end
/-! ### for k, v in d.items() -/
section
variable {X : Cx} {elts : List Expr} {x1 : Nat} {tpos apos pos : Pos}
end
/-! ### xs != [], xs[::-1], what is never come to -/
section
variable {X : Cx} {e st : Expr} {te : TE} {ts : TO} {p2 pos : Pos}
theorem ps_dead {st : Stmt} : PS X st (fun _ _ _ => False) := fun _ _ _ _ _ _ h => h.elim
end
end L2

namespace L2
open PySem PySem.Spec PyProof.Rows
/-! ### lambdas: the table of the code that makes them is tracked by what is true of it -/
/-- what the base tells of the code that makes lambdas -/
structure Maker (mg : Str → Option Value) (base : Heap) (c P : Addr) : Prop where
  hd : PySem.W.CodeHd base c P
  bt : base.BuiltinsAt mg P
section
variable {X : Cx}
theorem triples_app : ∀ {xs : List Value} {l c : Nat} {a : Addr}, TriplesOk xs → TriplesOk (xs ++ [rawInt l, rawInt c, .ref a])
  | [], _, _, _, _ => trivial
  | .int _ _ :: .int _ _ :: _ :: rest, _, _, _, t => triples_app (xs := rest) t
theorem triples_more {ps : Array Value} {l c : Nat} {a : Addr} (t : TriplesOk ps.toList) : TriplesOk (ps ++ #[rawInt l, rawInt c, .ref a]).toList := by
  rw [Array.toList_append]
  exact triples_app t
end
/-! ### the head, with tables -/
/-- a def whose code's table stands in the written part -/
structure TabOf (q : Program) (K : PySem.W.Frag) (z : Addr × Addr) : Prop where
  ex : ∃ x : Str, ((recsOf q).find? (fun e => e.name == x)).isSome = true ∧ PySem.W.tabIn K x = some z
theorem noTab {K : PySem.W.Frag} {h : Heap} {a : Addr} {ps : Array Value} (hK : PySem.W.noTabs K = true) (X : K.In h) (e : h.get? a = some (PySem.W.tabObj ps)) : K.lookup a = none := by
  cases q : K.lookup a with
  | none => rfl
  | some o =>
    have e2 := X a o q
    rw [e] at e2
    cases e2
    have h2 := List.all_eq_true.mp hK (a, _) (PySem.W.mem_of_lookupK q)
    exact absurd (show false = true from h2) Bool.false_ne_true
end L2

namespace L2
open PySem PySem.Spec PyProof.Rows
/-! ### C.m(x, ..): a method called through its class -/
/-- what the written part tells of a class whose method m is read from it -/
structure ClsM (K : PySem.W.Frag) (C : Addr) (m : Str) : Prop where
  ga : PySem.W.specialIn K (.ref C) "__getattribute__" = some (some (.builtin "type.__getattribute__"))
  ex : ∃ (mc : Value) (f : Addr), PySem.W.readsIn K C mc = true ∧ PySem.W.findCls K (.ref C) mc m = some (.val (.ref f)) ∧ PySem.W.findIn K (.ref C) m = some (some (.ref f))
section
variable {X : Cx} {CX : CXT} {k : Nat} {C : Addr} {ps : List Str} {sp : Sp} {E : XK} {x m : Str} {p pos apos : Pos} {e o : Expr} {es : List Expr} {t : TA} {ta : TE}
theorem pe_clsN {pl : Sem Bool} (he : PE X o (tC (.ref C))) (c : ClsM X.K C m) (G : KnownM X.prog X.w X.K X.mg X.base CX k C m ps sp) (hr : Room k X.A) (hx : Passes CX X E) (ha : PA X (e :: es) t)
    (hst : starEach (e :: es) X.env = (false, eval e X.env) :: starEach es X.env := by rfl) (hpl : (backTo pos (starEach es X.env)).any (·.1) = false := by rfl)
    (ht : eval (.Call (.Attribute o m apos) (e :: es) [] pos) X.env = (do
      let ov ← eval o X.env
      standAt apos.atName
      let (f, first) ← holding [ov] (getMethod ov m pl)
      callWith pos f first (backTo pos (starEach (e :: es) X.env)) (backToKw pos (keywordEach [] X.env))) := by rfl) :
    PE X (.Call (.Attribute o m apos) (e :: es) [] pos) (tCall sp [] E t) := by
  obtain ⟨f, fd, F, hm, hb⟩ := G.ex
  intro pins s σ H Q I h
  refine PySem.W.methodCall_KW (pl := pl) (thn (he pins s σ H (fun v H1 => v = .ref C ∧ H1 = H) I ⟨rfl, rfl⟩) fun u s1 ⟨x, H1, I1, rx, q⟩ => ?_) ht
  obtain ⟨rfl, rfl⟩ := q
  obtain rfl : u = Value.ref C := rx
  obtain ⟨mc, f', h1, h2, h3⟩ := c.ex
  have e1 := hm.at_
  rw [h3] at e1
  cases e1
  refine PySem.W.method_cls I1.kIn c.ga (PySem.W.cls_value I1.kIn h1 h2 rfl ?_)
  refine PySem.W.callWith_K (first := []) (h₀ := X.base) I.ok.mod.kin hm.kp (thn (ha pos pins _ σ _ _ (I1.tok _) h) fun us s2 ⟨vs, H2, I2, r, q2⟩ => ⟨I2.kIn, ?_⟩) hst hpl
  exact run_fn (us := us) (vs := vs) F hr hb .nil hx I2 r q2
end
end L2
namespace L2
open PySem PySem.Spec PyProof.Rows
/-! ### a def that makes lambdas: its code's table -/
structure DefT (K : PySem.W.Frag) (mg : Str → Option Value) (x : Str) (st : Stmt) (z : Addr × Addr) : Prop where
  ex : ∃ f fd, Fun K x x st f fd ∧ mg x = some (.ref f) ∧ fd.code = .ref z.1
  tab : PySem.W.tabIn K x = some z
section
variable {P : Program} {w : World} {K : PySem.W.Frag} {mg : Str → Option Value} {base : Heap}
theorem tab_mk {x : Str} {f c p : Addr} {oc wo : Value} {od wd : Option Addr} {fd : FuncData} {osl ws : Array (Option Value)} {vs : Array Value} (a : PySem.W.nsIn K mainGlobals x = some (some (.ref f)))
    (l : K.lookup f = some ⟨oc, od, .func fd, osl⟩) (hc : fd.code = .ref c) (w : K.lookup c = some ⟨wo, wd, .fields vs, ws⟩) (h : vs[11]? = some (.ref p)) : PySem.W.tabIn K x = some (c, p) := by
  unfold PySem.W.tabIn
  rw [a]
  dsimp only
  rw [l]
  dsimp only
  rw [hc]
  dsimp only
  rw [w]
  dsimp only
  rw [h]
theorem top_defT {h : Heap} {x : Str} {st : Stmt} {f c p : Addr} {oc wo : Value} {od an wd : Option Addr} {osl ws : Array (Option Value)} {kV doc pm ct : Value} {vs : Array Value} (X : K.In h) (G : h.Ns mainGlobals mg) (a : PySem.W.nsIn K mainGlobals x = some (some (.ref f)))
    (l : K.lookup f = some ⟨oc, od, .func (PySem.W.fnOf x x (defArgs st) (defBody st) (defScope st) .none kV doc pm an (.ref c) ct), osl⟩) (hc : PySem.W.codeIn K (.ref c) x = true) (k : PySem.W.keepIn K (.ref f) = true)
    (w : K.lookup c = some ⟨wo, wd, .fields vs, ws⟩) (t : vs[11]? = some (.ref p)) : DefT K mg x st (c, p) :=
  ⟨⟨f, _, fun_mk l hc k, PySem.W.mg_of X G a, rfl⟩, tab_mk a l rfl w t⟩
theorem DefT.known {x : Str} {st : Stmt} {N ps : List Str} {k : Nat} {sp : Sp} {z : Addr × Addr} (D : DefT K mg x st z) (S : FnScope N ps (defScope st))
    (hb : ∀ (kV doc pm : Value) (an : Option Addr) (cdv ct : Value) (us : List Value), us.length = ps.length → bindArgs (PySem.W.fnOf x x (defArgs st) (defBody st) (defScope st) .none kV doc pm an cdv ct) ⟨us, []⟩ = pure (ps.zip us))
    (len : ∀ vs H Q E, sp vs H Q E → vs.length = ps.length)
    (hbody : ∀ (f : Addr) (A : Around) (outer : List Env) (s : Shared) (H : Hp) (vs : List V) (Q : VK) (E : XK), Room k (A.deeper (envOfC x (defScope st) s.heap.objs.size f (.ref z.1))) → sp vs H Q E →
      ∃ t, PSs (cxOf CX0 P w K mg base N x (defScope st) f (.ref z.1) A outer s H E).nox (defBody st) t ∧ t { nx := fun _ H' => Q .non H', rt := Q } (start N vs) H) : Known P w K mg base CX0 (k + 1) x ps sp := by
  obtain ⟨f, fd, F, hm, hc⟩ := D.ex
  refine ⟨f, fd, ?_, hm, F.kp, F.binds hb⟩
  obtain ⟨oc, od, kV, doc, pm, an, cdv, ct, osl, rfl, lk, hcd⟩ := F.ex
  have e : cdv = .ref z.1 := hc
  subst e
  refine fn_of lk hcd S len fun A outer s H vs Q E hr hsp => ?_
  obtain ⟨t, h, q⟩ := hbody f A outer s H vs Q E hr hsp
  exact ⟨t, h.nox, q⟩
end
end L2

namespace L2
open PySem PySem.Spec PyProof.Rows
/-! ### text.index(text) -/
def rIndexS : V → List V → Hp → VK → Prop := fun x xs H Q => ∃ (z y : Str) (i : Nat) (rest : List Nat), x = .str z ∧ xs = [.str y] ∧ Builtin.Str.occurrences z y 0 z.length 1 = i :: rest ∧ Q (.int i) H
theorem mt_indexS {X : Cx} : MtR X "str.index" rIndexS := by
  intro pins s σ H x vs v us Q I rx rv h
  obtain ⟨z, y, i, rest, rfl, rfl, ho, q⟩ := h
  obtain ⟨t, rfl⟩ := rx
  obtain ⟨u, rfl, ru⟩ := rv.one
  obtain ⟨t', rfl⟩ := ru
  exact call_gives F.slot_str_index (typeIs_str _ _ _) F.entry_str_index (F.args_str_index_2 _ _) (gives_str_index z y t t' i rest ho) ⟨.int i, H, I.tok _, ⟨_, rfl⟩, q⟩
end L2

namespace L2
open PySem PySem.Spec PyProof.Rows
/-! ### x in a list, by the data -/
section
variable {X : Cx}
theorem op_inD (hu : X.A.units + 64 < cLine) : OpR X (compareOp .In) (fun x y H Q => ∃ d ds, Dt X.K H x d ∧ Dt X.K H y (.list ds) ∧ d.canLay0 = true ∧ (PyData.list ds).canLay0 = true ∧ d.depth ≤ 62 ∧ Q (.bl (ds.any fun z => PyData.eqv z d)) H) := by
  intro pins s σ H x y v u Q I rx ry h
  obtain ⟨d, ds, hx, hy, lx, ly, hd, q⟩ := h
  obtain ⟨as, ra⟩ := Dt.reads I hx rx lx
  obtain ⟨bs, rb⟩ := Dt.reads I hy ry ly
  exact SeqAt.in_list_reads rb ra ly lx (by have := Nat.min_le_right (PyData.depthAll ds) d.depth; omega) ⟨.bl _, H, I, rfl, q⟩
theorem op_notinD (hu : X.A.units + 64 < cLine) : OpR X (compareOp .NotIn) (fun x y H Q => ∃ d ds, Dt X.K H x d ∧ Dt X.K H y (.list ds) ∧ d.canLay0 = true ∧ (PyData.list ds).canLay0 = true ∧ d.depth ≤ 62 ∧ Q (.bl (!ds.any fun z => PyData.eqv z d)) H) := by
  intro pins s σ H x y v u Q I rx ry h
  obtain ⟨d, ds, hx, hy, lx, ly, hd, q⟩ := h
  obtain ⟨as, ra⟩ := Dt.reads I hx rx lx
  obtain ⟨bs, rb⟩ := Dt.reads I hy ry ly
  exact SeqAt.notIn_list_reads rb ra ly lx (by have := Nat.min_le_right (PyData.depthAll ds) d.depth; omega) ⟨.bl _, H, I, rfl, q⟩
end
/-! ### spots: pairs of texts -/
abbrev spD (p : Str × Str) : PyData := .tuple [.str p.1, .str p.2]
theorem spD_eqv (p q : Str × Str) : PyData.eqv (spD p) (spD q) = decide (p = q) := by
  obtain ⟨a, b⟩ := p
  obtain ⟨c, d⟩ := q
  show (a == c && (b == d && true)) = decide ((a, b) = (c, d))
  rw [Bool.and_true]
  by_cases h1 : a = c
  · by_cases h2 : b = d
    · subst h1; subst h2
      simp
    · rw [decide_eq_false (fun e => h2 (Prod.mk.inj e).2), beq_eq_false_iff_ne.mpr h2, Bool.and_false]
  · rw [decide_eq_false (fun e => h1 (Prod.mk.inj e).1), beq_eq_false_iff_ne.mpr h1, Bool.false_and]
theorem spD_any (p : Str × Str) : ∀ ps : List (Str × Str), ((ps.map spD).any fun z => PyData.eqv z (spD p)) = decide (p ∈ ps)
  | [] => rfl
  | q :: ps => by
    rw [List.map_cons, List.any_cons, spD_any p ps, spD_eqv]
    by_cases h : p = q
    · subst h; simp
    · rw [decide_eq_false (fun e => h e.symm), Bool.false_or]
      simp [h]
/-- what is told more than once, once -/
def onceOf (ps : List (Str × Str)) : List (Str × Str) := ps.foldl (fun acc p => if p ∈ acc then acc else acc ++ [p]) []
theorem onceOf_snoc (ps : List (Str × Str)) (p : Str × Str) : onceOf (ps ++ [p]) = if p ∈ onceOf ps then onceOf ps else onceOf ps ++ [p] := by
  unfold onceOf
  rw [List.foldl_append]
  rfl
theorem onceOf_le : ∀ ps : List (Str × Str), (onceOf ps).length ≤ ps.length := by
  suffices h : ∀ (ps acc : List (Str × Str)), (ps.foldl (fun acc p => if p ∈ acc then acc else acc ++ [p]) acc).length ≤ acc.length + ps.length by
    intro ps
    have := h ps []
    simpa [onceOf] using this
  intro ps
  induction ps with
  | nil => intro acc; simp
  | cons p ps ih =>
    intro acc
    rw [List.foldl_cons]
    refine Nat.le_trans (ih _) ?_
    split
    · simp
    · simp; omega
theorem onceOf_mem : ∀ {ps : List (Str × Str)} {p : Str × Str}, p ∈ onceOf ps → p ∈ ps := by
  suffices h : ∀ (ps acc : List (Str × Str)) (p : Str × Str), p ∈ ps.foldl (fun acc p => if p ∈ acc then acc else acc ++ [p]) acc → p ∈ acc ∨ p ∈ ps by
    intro ps p hp
    rcases h ps [] p hp with h | h
    · cases h
    · exact h
  intro ps
  induction ps with
  | nil => intro acc p h; exact .inl h
  | cons q ps ih =>
    intro acc p h
    rw [List.foldl_cons] at h
    rcases ih _ p h with h | h
    · split at h
      · exact .inl h
      · rcases List.mem_append.mp h with h | h
        · exact .inl h
        · exact .inr (by rw [List.mem_singleton.mp h]; exact List.mem_cons_self)
    · exact .inr (List.mem_cons_of_mem _ h)
end L2

namespace L2
open PySem PySem.Spec PyProof.Rows
/-! ### lambdas that are called -/
/-- a thing that is known to the object, and nothing more -/
def Fz (o : Obj) : HO := .frz o (.ext fun _ => True)
theorem fz_ok {P : Program} {w : World} {H : Hp} {h : Heap} {a : Addr} {o : Obj} (e : h.get? a = some o) : ObjOk P w H h a (Fz o) := ⟨e, trivial, ⟨o, e⟩, fun _ _ _ _ => trivial⟩
theorem fz_get {P : Program} {w : World} {H : Hp} {h : Heap} {a : Addr} {o : Obj} (x : HOk P w H h) (e : H a = some (Fz o)) : h.get? a = some o := (x a _ e).1
def CodeO (q : Str) (o : Obj) : Prop := ∃ vs t, o.data = .fields vs ∧ vs[1]? = some (.str q t)
/-- a code object's table: the code in it stands at S -/
def TabC (P : Addr) (S : List Addr) : HO := .ext fun h => ∃ ps : Array Value, h.get? P = some (PySem.W.tabObj ps) ∧ TriplesOk ps.toList ∧ ∀ pos cv, codeAmong pos ps.toList = some cv → ∃ c ∈ S, cv = .ref c
def TabIn (q : Str) (H : Hp) (P : Addr) : Prop := ∃ S, H P = some (TabC P S) ∧ ∀ c ∈ S, ∃ o, H c = some (Fz o) ∧ CodeO q o
def LamAt (q : Str) (params : Arguments) (body : Expr) (scope : Scope) (clos : List (Str × Addr)) (H : Hp) (fa : Addr) : Prop :=
  ∃ pm c ctv o, H fa = some (Fz (PySem.W.kla_obj "<lambda>" q params body scope clos pm c ctv)) ∧ H c = some (Fz o) ∧ CodeO q o
theorem tabC_ok {P : Program} {w : World} {H : Hp} {h : Heap} {a : Addr} {ps : Array Value} {S : List Addr} (e : h.get? a = some (PySem.W.tabObj ps)) (t : TriplesOk ps.toList) (c : ∀ pos cv, codeAmong pos ps.toList = some cv → ∃ c ∈ S, cv = .ref c) : ObjOk P w H h a (TabC a S) :=
  ⟨⟨ps, e, t, c⟩, ⟨_, e⟩, fun h1 h2 ⟨qs, e1, t1⟩ k => ⟨qs, k _ e1, t1⟩⟩
theorem among_app {pos : Pos} {l c : Nat} {a : Addr} {cv : Value} : ∀ {xs : List Value}, TriplesOk xs → codeAmong pos (xs ++ [rawInt l, rawInt c, .ref a]) = some cv → codeAmong pos xs = some cv ∨ cv = .ref a
  | [], _, h => by
    right
    simp only [List.nil_append, rawInt, codeAmong] at h
    split at h
    · exact (Option.some.inj h).symm
    · cases h
  | .int x _ :: .int y _ :: z :: rest, t, h => by
    simp only [List.cons_append, codeAmong] at h ⊢
    split at h
    · rename_i e
      rw [if_pos e]
      exact .inl h
    · rename_i e
      rw [if_neg e]
      exact among_app (xs := rest) t h
theorem hok_fz {P : Program} {w : World} {H : Hp} {h : Heap} {c : Addr} {o : Obj} (x : HOk P w H h) (hn : H c = none) (e : h.get? c = some o) : HOk P w (upd H c (Fz o)) h := fun b u q => by
  by_cases hb : b = c
  · subst hb; rw [upd_same] at q; cases q; exact fz_ok e
  · rw [upd_ne hb] at q
    exact (x b u q).stay (fun _ _ _ z => z) (fun d z => by rw [upd_ne (ne_of_none z hn)]; exact z) fun d xs z => by rw [upd_ne (ne_of_none z hn)]; exact z
/-- all but what stands at P is as it was -/
def SameX (P : Addr) (H H' : Hp) : Prop := ∀ b o, b ≠ P → H b = some o → H' b = some o
def tLamF (P : Addr) (q : Str) (params : Arguments) (body : Expr) (scope : Scope) (clos : List (Str × Addr)) : TE := fun _ H Q => TabIn q H P ∧ ∀ a H', H a = none → SameX P H H' → TabIn q H' P → LamAt q params body scope clos H' a → Q (.ref a) H'
section
variable {X : Cx}
theorem pe_lamF {params : Arguments} {body : Expr} {scope : Scope} {pos : Pos} {c P : Addr} {clos : List (Str × Addr)} (M : Maker X.mg X.base c P) (hc : X.env.code = .ref c) (hcl : closureFor scope X.env = pure clos) (hdef : defaultsOf params X.env = ([], [])) :
    PE X (.Lambda params body scope pos) (tLamF P (X.env.qual ++ "<lambda>") params body scope clos) := by
  intro pins s σ H Q I h
  obtain ⟨⟨S, hP, hS⟩, q⟩ := h
  obtain ⟨⟨ps, e, t, tc⟩, _, _⟩ := I.hok P _ hP
  have hg : s.heap.Ns mainGlobals X.mg := I.mod.glob.keeps I.bk
  have C := M.hd.keeps I.bk
  have hb : s.heap.BuiltinsAt X.mg P := let ⟨bm, o, b1, b2, b3, b4, b5, r⟩ := M.bt; ⟨bm, o, b1, b2, b3, b4, I.bk _ _ b5, r⟩
  have hgP : mainGlobals ≠ P := fun z => by
    obtain ⟨o, es, ep, e1, hd, _⟩ := hg
    rw [z, e] at e1; cases e1; cases hd
  refine PySem.W.kla_eval hdef ?_
  cases hf : codeAmong pos ps.toList with
  | none =>
    refine PySem.W.kla_makeFunction (mg := X.mg) hcl I.ok.glob hg hc C e t hf hgP hb fun c' ctv h' tk hx hge hlt hrec htb => ?_
    obtain ⟨c1, oc, vs, tq, ec, goc, doc, dq⟩ := hrec
    obtain rfl : c' = c1 := by cases ec; rfl
    have nP : ∀ b, H b = none → b ≠ P := fun b n z => by rw [z, hP] at n; cases n
    have hPlt : P < s.heap.objs.size := Heap.lt_size e
    have goc' : (h'.push (PySem.W.kla_obj "<lambda>" (X.env.qual ++ "<lambda>") params body scope clos ((X.mg "__name__").getD .none) c' ctv)).get? c' = some oc := Heap.get?_push_of_some _ goc
    have cP : c' ≠ P := Nat.ne_of_gt (Nat.lt_of_lt_of_le hPlt hge)
    have aP : h'.objs.size ≠ P := Nat.ne_of_gt (Nat.lt_of_lt_of_le hPlt (Nat.le_of_lt (Nat.lt_of_le_of_lt hge hlt)))
    have ac : h'.objs.size ≠ c' := Nat.ne_of_gt hlt
    have fr : ∀ b, s.heap.objs.size ≤ b → H b = none := fun b z => I.hok.fresh z
    have hk : ∀ b u, b ≠ P → s.heap.get? b = some u → (h'.push (PySem.W.kla_obj "<lambda>" (X.env.qual ++ "<lambda>") params body scope clos ((X.mg "__name__").getD .none) c' ctv)).get? b = some u := fun b u nb eb => Heap.get?_push_of_some _ (hx b u nb eb)
    have hok1 : HOk X.prog X.w (upd H P (TabC P (c' :: S))) (h'.push (PySem.W.kla_obj "<lambda>" (X.env.qual ++ "<lambda>") params body scope clos ((X.mg "__name__").getD .none) c' ctv)) :=
      I.hok.write (x := P) (e := P) (by rw [hP]; trivial) (.inl rfl) hk ⟨_, Heap.get?_push_of_some _ htb⟩ (tabC_ok (Heap.get?_push_of_some _ htb) (triples_more t) fun pos cv z => by
        rw [Array.toList_append] at z
        rcases among_app t z with z | z
        · obtain ⟨d, hd, r⟩ := tc pos cv z
          exact ⟨d, List.mem_cons_of_mem _ hd, r⟩
        · exact ⟨c', List.mem_cons_self, z⟩)
    have n1 : upd H P (TabC P (c' :: S)) c' = none := by rw [upd_ne cP]; exact fr _ hge
    have hok2 := hok_fz hok1 n1 goc'
    have n2 : upd (upd H P (TabC P (c' :: S))) c' (Fz oc) h'.objs.size = none := by rw [upd_ne ac, upd_ne aP]; exact fr _ (Nat.le_of_lt (Nat.lt_of_le_of_lt hge hlt))
    have hok3 := hok_fz hok2 n2 (Heap.get?_push_size _ rfl)
    have sm : ∀ b, b ≠ P → H b ≠ none → upd (upd (upd H P (TabC P (c' :: S))) c' (Fz oc)) h'.objs.size (Fz (PySem.W.kla_obj "<lambda>" (X.env.qual ++ "<lambda>") params body scope clos ((X.mg "__name__").getD .none) c' ctv)) b = H b := fun b z1 z2 => by
      have y1 : b ≠ h'.objs.size := fun z => z2 (by rw [z]; exact fr _ (Nat.le_of_lt (Nat.lt_of_le_of_lt hge hlt)))
      have y2 : b ≠ c' := fun z => z2 (by rw [z]; exact fr _ hge)
      rw [upd_ne y1, upd_ne y2, upd_ne z1]
    have sv : ∀ b o, b ≠ P → H b = some o → upd (upd (upd H P (TabC P (c' :: S))) c' (Fz oc)) h'.objs.size (Fz (PySem.W.kla_obj "<lambda>" (X.env.qual ++ "<lambda>") params body scope clos ((X.mg "__name__").getD .none) c' ctv)) b = some o := fun b o z1 z2 => by
      rw [sm b z1 (by rw [z2]; intro z; cases z)]; exact z2
    have J := I.step (h' := h'.push (PySem.W.kla_obj "<lambda>" (X.env.qual ++ "<lambda>") params body scope clos ((X.mg "__name__").getD .none) c' ctv)) (g' := s.gens) (t' := tk) (d' := s.drawn) (ch := []) (fun _ z => nomatch z)
      (fun b o _ _ _ eb n => hk b o (nP b n) eb) (fun b o _ _ _ eb n => ⟨o.slots, hk b o (nP b n) eb⟩)
      (fun b o _ eb n => by rw [upd_ne (Nat.ne_of_lt (Nat.lt_of_lt_of_le (Heap.lt_size eb) (Nat.le_of_lt (Nat.lt_of_le_of_lt hge hlt)))), upd_ne (Nat.ne_of_lt (Nat.lt_of_lt_of_le (Heap.lt_size eb) hge)), upd_ne (nP b n)]; exact n)
      (fun b o _ eb => by
        by_cases z : b = P
        · subst z; exact ⟨_, Heap.get?_push_of_some _ htb⟩
        · exact ⟨o, hk b o z eb⟩)
      (fun b xs z => sv b _ (fun y => by rw [y, hP] at z; cases z) z) (fun b o u z => sv b _ (fun y => by rw [y, hP] at z; cases z) z) (fun b ps z => ⟨#[], by rw [sv b _ (fun y => by rw [y, hP] at z; cases z) z]; simp⟩)
      (fun m ⟨o, es, ep, ho, r⟩ => ⟨o, es, ep, hk _ o (nP _ I.free) ho, r⟩) hok3 I.bare
    refine ⟨.ref h'.objs.size, _, J, rfl, q _ _ (fr _ (Nat.le_of_lt (Nat.lt_of_le_of_lt hge hlt))) (fun b o z1 z2 => sv b o z1 z2) ⟨c' :: S, ?_, fun d hd => ?_⟩ ⟨_, c', ctv, oc, upd_same, ?_, vs, tq, doc, dq⟩⟩
    · rw [upd_ne (Ne.symm aP), upd_ne (Ne.symm cP), upd_same]
    · rcases List.mem_cons.mp hd with rfl | hd
      · exact ⟨oc, by rw [upd_ne (Ne.symm ac), upd_same], vs, tq, doc, dq⟩
      · obtain ⟨o, e1, e2⟩ := hS d hd
        exact ⟨o, sv d _ (fun y => by rw [y, hP] at e1; cases e1) e1, e2⟩
    · rw [upd_ne (Ne.symm ac), upd_same]
  | some cv =>
    obtain ⟨d, hd, rfl⟩ := tc _ _ hf
    obtain ⟨od, e1, e2⟩ := hS d hd
    refine PySem.W.kla_makeFunctionHit (mg := X.mg) hcl I.ok.glob hg hc C e t hf hb fun ctv h' tk hk hsz => ?_
    have fr : H h'.objs.size = none := I.hok.fresh hsz
    have sv : ∀ b o, H b = some o → upd H h'.objs.size (Fz (PySem.W.kla_obj "<lambda>" (X.env.qual ++ "<lambda>") params body scope clos ((X.mg "__name__").getD .none) d ctv)) b = some o := fun b o z => by
      rw [upd_ne (ne_of_none z fr)]; exact z
    refine ⟨.ref h'.objs.size, _, I.laid (a := h'.objs.size) (o := Fz (PySem.W.kla_obj "<lambda>" (X.env.qual ++ "<lambda>") params body scope clos ((X.mg "__name__").getD .none) d ctv)) (fun b o eb => Heap.get?_push_of_some _ (hk b o eb)) hsz (fz_ok (Heap.get?_push_size _ rfl)), rfl,
      q _ _ fr (fun b o _ z => sv b o z) ⟨S, sv _ _ hP, fun d' hd' => ?_⟩ ⟨_, d, ctv, od, upd_same, sv _ _ e1, e2⟩⟩
    obtain ⟨o, e3, e4⟩ := hS d' hd'
    exact ⟨o, sv _ _ e3, e4⟩
end
end L2

namespace L2
open PySem PySem.Spec PyProof.Rows
/-! ### the maker's cells, lent to those that it calls -/
abbrev Lend := Addr → Option Obj
def lend (f : Lend) (H : Hp) : Hp := fun b => match f b with
  | some o => some (Fz o)
  | none => H b
def unl (f : Lend) (H : Hp) : Hp := fun b => match f b with
  | some _ => none
  | none => H b
theorem lend_at {f : Lend} {H : Hp} {b : Addr} {o : Obj} (e : f b = some o) : lend f H b = some (Fz o) := by unfold lend; rw [e]
theorem lend_no {f : Lend} {H : Hp} {b : Addr} (e : f b = none) : lend f H b = H b := by unfold lend; rw [e]
theorem unl_at {f : Lend} {H : Hp} {b : Addr} {o : Obj} (e : f b = some o) : unl f H b = none := by unfold unl; rw [e]
theorem unl_no {f : Lend} {H : Hp} {b : Addr} (e : f b = none) : unl f H b = H b := by unfold unl; rw [e]
theorem lend_unl {f : Lend} {H : Hp} (h : ∀ b o, f b = some o → H b = some (Fz o)) : lend f (unl f H) = H := by
  funext b
  cases e : f b with
  | none => rw [lend_no e, unl_no e]
  | some o => rw [lend_at e, h b o e]
section
variable {P : Program} {w : World} {H H' : Hp} {h h' : Heap} {f : Lend} {fs : List Addr}
theorem hok_lend (x : HOk P w H h) (hf : ∀ b o, f b = some o → H b = none ∧ h.get? b = some o) : HOk P w (lend f H) h := fun b u q => by
  have keep : ∀ c v, H c = some v → lend f H c = some v := fun c v z => by
    cases e : f c with
    | none => rw [lend_no e]; exact z
    | some o => rw [(hf c o e).1] at z; cases z
  cases e : f b with
  | none =>
    rw [lend_no e] at q
    exact (x b u q).stay (fun _ _ _ z => z) (fun c z => keep c _ z) fun c xs z => keep c _ z
  | some o =>
    rw [lend_at e] at q
    cases q
    exact fz_ok (hf b o e).2
theorem hok_unl (x : HOk P w H h) (hf : ∀ b o, f b = some o → H b = some (Fz o)) : HOk P w (unl f H) h := fun b u q => by
  cases e : f b with
  | some o => rw [unl_at e] at q; cases q
  | none =>
    rw [unl_no e] at q
    refine (x b u q).stay (fun _ _ _ z => z) (fun c z => ?_) fun c xs z => ?_
    · cases e2 : f c with
      | none => rw [unl_no e2]; exact z
      | some o => rw [hf c o e2] at z; cases z
    · cases e2 : f c with
      | none => rw [unl_no e2]; exact z
      | some o => rw [hf c o e2] at z; cases z
/-- what a callee does to the lent heap, of the maker's own -/
theorem un_lent (hf : ∀ b o, f b = some o → H b = none ∧ h.get? b = some o) (u : Un fs [] (lend f H) H' h h') (hok : HOk P w H' h') : Un fs [] H (unl f H') h h' ∧ HOk P w (unl f H') h' := by
  have at' : ∀ b o, f b = some o → H' b = some (Fz o) := fun b o e => u.frzs b o _ (lend_at e)
  have nf : ∀ b v, H b = some v → f b = none := fun b v z => by
    cases e : f b with
    | none => rfl
    | some o => rw [(hf b o e).1] at z; cases z
  refine ⟨⟨fun b o e n hb hx => ?_, fun b o e n hb hx => ?_, fun b o e n hx => ?_, fun b o e hx => u.there b o e hx, fun b xs z => ?_, fun b o v z => ?_, fun b ps z => ?_⟩, hok_unl hok at'⟩
  · cases e2 : f b with
    | none => exact u.keep b o e (by rw [lend_no e2]; exact n) hb hx
    | some o2 =>
      have := (hf b o2 e2).2
      rw [e] at this
      cases this
      exact fz_get hok (at' b o e2)
  · cases e2 : f b with
    | none => exact u.slot b o e (by rw [lend_no e2]; exact n) hb hx
    | some o2 =>
      have := (hf b o2 e2).2
      rw [e] at this
      cases this
      exact ⟨o.slots, fz_get hok (at' b o e2)⟩
  · cases e2 : f b with
    | none => rw [unl_no e2]; exact u.free b o e (by rw [lend_no e2]; exact n) hx
    | some o2 => exact unl_at e2
  · rw [unl_no (nf b _ z)]; exact u.tups b xs (by rw [lend_no (nf b _ z)]; exact z)
  · rw [unl_no (nf b _ z)]; exact u.frzs b o v (by rw [lend_no (nf b _ z)]; exact z)
  · rw [unl_no (nf b _ z)]; exact u.tbls b ps (by rw [lend_no (nf b _ z)]; exact z)
/-- what a lambda's body does to the heap without the cells, of the whole -/
theorem un_back (hf : ∀ b o, f b = some o → H b = some (Fz o)) (hok0 : HOk P w H h) (hfs : ∀ b ∈ fs, H b = none) (u : Un fs [] (unl f H) H' h h') (hok : HOk P w H' h') : Un fs [] H (lend f H') h h' ∧ HOk P w (lend f H') h' := by
  have fr : ∀ b o, f b = some o → H' b = none ∧ h'.get? b = some o := fun b o e => by
    have g := fz_get hok0 (hf b o e)
    exact ⟨u.free b o g (unl_at e) (by simp), u.keep b o g (unl_at e) (fun z => by have := hfs b z; rw [hf b o e] at this; cases this) (by simp)⟩
  have nf : ∀ b, H b = none → f b = none := fun b z => by
    cases e : f b with
    | none => rfl
    | some o => rw [hf b o e] at z; cases z
  have nz : ∀ b v, H b = some v → (∀ o, v ≠ Fz o) → f b = none := fun b v z ne => by
    cases e : f b with
    | none => rfl
    | some o => rw [hf b o e] at z; exact absurd (Option.some.inj z).symm (ne o)
  refine ⟨⟨fun b o e n hb hx => u.keep b o e (by rw [unl_no (nf b n)]; exact n) hb hx, fun b o e n hb hx => u.slot b o e (by rw [unl_no (nf b n)]; exact n) hb hx, fun b o e n hx => ?_, fun b o e hx => u.there b o e hx, fun b xs z => ?_, fun b o v z => ?_, fun b ps z => ?_⟩, hok_lend hok fr⟩
  · rw [lend_no (nf b n)]; exact u.free b o e (by rw [unl_no (nf b n)]; exact n) hx
  · have e := nz b _ z (fun o q => by cases q)
    rw [lend_no e]; exact u.tups b xs (by rw [unl_no e]; exact z)
  · cases e : f b with
    | none => rw [lend_no e]; exact u.frzs b o v (by rw [unl_no e]; exact z)
    | some o2 => rw [lend_at e, ← hf b o2 e]; exact z
  · have e := nz b _ z (fun o q => by cases q)
    rw [lend_no e]; exact u.tbls b ps (by rw [unl_no e]; exact z)
end
structure Lent (X : Cx) (σ : St) (H : Hp) (f : Lend) : Prop where
  free : ∀ b o, f b = some o → H b = none
  cell : ∀ x c, X.env.cells.lookup x = some c → ∃ o v, f c = some o ∧ o.data = .cell v
  val : ∀ (i : Nat) x v, X.N[i]? = some x → σ[i]? = some (some v) → X.env.scope.names.lookup x = some .cell → ∃ c o u, X.env.cells.lookup x = some c ∧ f c = some o ∧ o.data = .cell (some u) ∧ RelV v u
  inj : ∀ x y c, X.env.cells.lookup x = some c → X.env.cells.lookup y = some c → x = y
theorem lent_of {X : Cx} {pins : List (Addr × Obj)} {σ : St} {H : Hp} {s : Shared} (I : Inv X pins σ H s) (hfn : ∀ x, X.fn x = true) : ∃ f : Lend, Lent X σ H f ∧ (∀ b o, f b = some o → H b = none ∧ s.heap.get? b = some o ∧ X.base.get? b = none ∧ b ∉ frs X.stack) := by
  classical
  let f : Lend := fun b => if (∃ x, X.env.cells.lookup x = some b) then s.heap.get? b else none
  have fe : ∀ {b o}, f b = some o → (∃ x, X.env.cells.lookup x = some b) ∧ s.heap.get? b = some o := fun {b o} e => by
    by_cases z : ∃ x, X.env.cells.lookup x = some b
    · exact ⟨z, by rw [show f b = s.heap.get? b from if_pos z] at e; exact e⟩
    · rw [show f b = none from if_neg z] at e; cases e
  have ff : ∀ {x c}, X.env.cells.lookup x = some c → f c = s.heap.get? c := fun {x c} e => if_pos ⟨x, e⟩
  refine ⟨f, ⟨fun b o e => ?_, fun x c e => ?_, fun i x v e1 e2 e3 => ?_, I.ok.inj⟩, fun b o e => ?_⟩
  · obtain ⟨⟨x, z⟩, _⟩ := fe e
    exact I.freeC x b z
  · obtain ⟨v, o, ho, hd⟩ := I.cell x c e
    exact ⟨o, v, by rw [ff e]; exact ho, hd⟩
  · obtain ⟨m, _, hl⟩ := I.loc
    obtain ⟨u, r, l⟩ := hl i x v e1 e2 (.inr (.inl e3))
    rcases l with ⟨k, _⟩ | ⟨_, c, ec, o, ho, hd⟩
    · have k' : X.env.scope.names.lookup x = some .local := k
      rw [e3] at k'; cases k'
    · exact ⟨c, o, u, ec, by rw [ff ec]; exact ho, hd, r⟩
  · obtain ⟨⟨x, z⟩, g⟩ := fe e
    refine ⟨I.freeC x b z, g, ?_, fun hb => ?_⟩
    · exact Heap.get?_none_of_le (Nat.le_trans I.ok.bsz (I.ok.cab x b (hfn x) z))
    · rcases List.mem_cons.mp (I.stkSub b hb) with e2 | hb
      · exact I.cne x b z e2
      · obtain ⟨_, ob, ho, _⟩ := I.ok.funs.mem hb
        exact absurd (Nat.lt_of_lt_of_le (Heap.lt_size ho) (I.ok.cab x b (hfn x) z)) (Nat.lt_irrefl _)
/-- a call, the cells lent -/
theorem run_lent {X : Cx} {k : Nat} {fa : Addr} {fd : FuncData} {ps : List Str} {sp : Sp} {pins : List (Addr × Obj)} {σ : St} {H : Hp} {s : Shared} {Q : VK} {us : List Value} {vs : List V} (hfn : ∀ x, X.fn x = true) (F : FnOk X.prog X.w X.K X.mg X.base CX0 k fa fd ps sp) (hr : Room k X.A) (hb : Binds X.K fd ps [])
    (I : Inv X pins σ H s) (r : Vals vs us) (h : ∀ f, Lent X σ H f → sp vs (lend f H) (fun v H' => Q v (unl f H')) E0) : wpAny (model X.prog X.w) X.A (call (.ref fa) us) (EP X pins σ Q) X.xe s := by
  obtain ⟨f, L, hf⟩ := lent_of I hfn
  have q := h f L
  have hl : (us ++ []).length = ps.length := by rw [List.append_nil, ← r.length]; exact F.len _ _ _ _ q
  have e0 : Env0 X.prog X.w X.K X.mg X.base X.A X.stack s (lend f H) := by
    have e := I.env0
    refine ⟨e.frames, e.mod, fun b o z => ⟨(e.bs b o z).1, ?_⟩, e.bsz, e.funs, fun b z => ?_, hok_lend e.hok fun b o z => ⟨(hf b o z).1, (hf b o z).2.1⟩, e.bare⟩
    · cases q2 : f b with
      | none => rw [lend_no q2]; exact (e.bs b o z).2
      | some ob => rw [(hf b ob q2).2.2.1] at z; cases z
    · cases q2 : f b with
      | none => rw [lend_no q2]; exact e.frf b z
      | some ob => exact absurd z (hf b ob q2).2.2.2
  have bd := hb s us I.kIn hl
  rw [List.append_nil] at bd
  refine wpAny_call (codeAny_mono (F.run X.A X.stack s (lend f H) ⟨us, []⟩ us vs _ E0 hr e0 bd r q) fun r s' hq => ?_)
  cases r with
  | error e => exact False.elim hq
  | ok fl =>
    cases fl with
    | ret u =>
      obtain ⟨v, H', os, bare, un, hok, rv, qv⟩ := hq
      obtain ⟨u1, u2⟩ := un_lent (fun b o z => ⟨(hf b o z).1, (hf b o z).2.1⟩) un hok
      exact I.after ⟨v, _, os, bare, u1, u2, rv, qv⟩
    | next => exact False.elim hq
    | brk => exact False.elim hq
    | cont => exact False.elim hq
section
variable {X : Cx} {k : Nat} {C : Addr} {ps : List Str} {sp : Sp} {x m : Str} {p pos apos : Pos} {e o : Expr} {es : List Expr} {t : TA} {ta : TE}
end
/-! ### a lambda runs -/
structure LamFn (P : Program) (w : World) (K : PySem.W.Frag) (mg : Str → Option Value) (base : Heap) (k : Nat) (fa : Addr) (sp : Sp) : Prop where
  fn : ∀ vs H Q E, sp vs H Q E → ∃ c d fd sl, H fa = some (Fz ⟨c, d, .func fd, sl⟩)
  run : ∀ (A : Around) (outer : List Env) (s : Shared) (H : Hp) (us : List Value) (vs : List V) (Q : VK) (E : XK), Room k A → Env0 P w K mg base A outer s H → Vals vs us → sp vs H Q E →
    codeAny (model P w) A (.call (.ref fa) ⟨us, []⟩) (CR CX0 outer P w H s Q E) s
theorem LamFn.imp {P : Program} {w : World} {K : PySem.W.Frag} {mg : Str → Option Value} {base : Heap} {k : Nat} {fa : Addr} {sp sp' : Sp} (F : LamFn P w K mg base k fa sp) (h : ∀ vs H Q E, sp' vs H Q E → sp vs H Q E) : LamFn P w K mg base k fa sp' :=
  ⟨fun vs H Q E z => F.fn vs H Q E (h _ _ _ _ z), fun A outer s H us vs Q E hr e0 r z => F.run A outer s H us vs Q E hr e0 r (h _ _ _ _ z)⟩
def tCallV (P : Program) (w : World) (K : PySem.W.Frag) (mg : Str → Option Value) (base : Heap) (k : Nat) (i : Nat) (t : TA) : TE := fun σ H Q => ∃ fa sp, σ[i]? = some (some (.ref fa)) ∧ LamFn P w K mg base k fa sp ∧ t σ H fun vs H1 => sp vs H1 Q E0
section
variable {X : Cx} {k : Nat} {x : Str} {p pos : Pos} {e : Expr} {es : List Expr} {t : TA}
theorem pe_callV (i : Nat) (hr : Room k X.A) (ha : PA X (e :: es) t) (hN : X.N[i]? = some x := by rfl) (hv : Vis X.env.scope x := by first | exact Or.inl rfl | exact Or.inr (Or.inl rfl) | exact Or.inr (Or.inr rfl)) (hd : (x == ("__debug__" : Str)) = false := by decide)
    (hcd : (x == ("__classdict__" : Str)) = false := by decide) (he : starEach (e :: es) X.env = (false, eval e X.env) :: starEach es X.env := by rfl) (hpl : (backTo pos (starEach es X.env)).any (·.1) = false := by rfl) :
    PE X (.Call (.Name x p) (e :: es) [] pos) (tCallV X.prog X.w X.K X.mg X.base k i t) := by
  intro pins s σ H Q I h
  obtain ⟨fa, sp, e1, F, h⟩ := h
  refine wpAny_Call_Name_kw (thn (pe_var hN hv hd hcd pins s σ H (fun v H1 => v = .ref fa ∧ H1 = H) I ⟨_, e1, rfl, rfl⟩) fun u s1 ⟨v, H1, I1, rv, q⟩ => ?_)
  obtain ⟨rfl, rfl⟩ := q
  obtain rfl : u = Value.ref fa := rv
  show wpAny _ _ (callWith pos (.ref fa) [] (backTo pos (starEach (e :: es) X.env)) []) _ _ _
  rw [he]
  refine PySem.W.callWith_of (P := fun h => ∃ c d fd sl, h.get? fa = some ⟨c, d, .func fd, sl⟩) (by show ((false || (backTo pos (starEach es X.env)).any (·.1)) || false) = false; rw [hpl]; rfl)
    (fun h ⟨c, d, fd, sl, z⟩ => ⟨.frame, .inl rfl, (PySem.W.Looks.ld (part := none) z).andThen .now⟩) (PySem.Calls.evalArgs_plain ?_)
  have ha' := ha pos pins s1 σ H1 _ I1 h
  rw [he] at ha'
  refine thn ha' fun us s2 ⟨vs, H2, I2, r, q2⟩ => ?_
  obtain ⟨c, d, fd, sl, z⟩ := F.fn _ _ _ _ q2
  refine ⟨⟨c, d, fd, sl, fz_get I2.hok z⟩, ?_⟩
  refine wpAny_call (codeAny_mono (F.run X.A X.stack s2 H2 us vs Q E0 hr I2.env0 r q2) fun r s' hq => ?_)
  cases r with
  | error e => exact False.elim hq
  | ok fl =>
    cases fl with
    | ret u => exact I2.after hq
    | next => exact False.elim hq
    | brk => exact False.elim hq
    | cont => exact False.elim hq
end
end L2

namespace L2
open PySem PySem.Spec PyProof.Rows
/-! ### what a lambda promises -/
theorem lookup_mem {α : Type} {x : Str} {u : α} : ∀ {l : List (Str × α)}, (l.map (·.1)).Nodup → (x, u) ∈ l → l.lookup x = some u
  | (y, v) :: r, nd, h => by
    rw [List.map_cons, List.nodup_cons] at nd
    rw [List.lookup_cons]
    rcases List.mem_cons.mp h with e | h2
    · cases e; rw [beq_self_eq_true]
    · have : (x == y) = false := by
        cases z : x == y with
        | false => rfl
        | true =>
          have : x = y := by simpa using z
          subst this
          exact absurd (show x ∈ r.map (·.1) from List.mem_map.mpr ⟨(x, u), h2, rfl⟩) nd.1
      rw [this]
      exact lookup_mem nd.2 h2
theorem zip_get {ps : List Str} {us : List Value} {i : Nat} {x : Str} {u : Value} (nd : ps.Nodup) (hl : us.length = ps.length) (h1 : ps[i]? = some x) (h2 : us[i]? = some u) : (ps.zip us).reverse.lookup x = some u := by
  refine lookup_mem ?_ ?_
  · rw [List.map_reverse]
    refine List.pairwise_reverse.mpr ?_
    rw [List.map_fst_zip (by omega)]
    exact nd.imp Ne.symm
  · rw [List.mem_reverse]
    have : (ps.zip us)[i]? = some (x, u) := by rw [List.getElem?_zip_eq_some]; exact ⟨h1, h2⟩
    exact List.mem_of_getElem? this
/-- the context of a lambda's body -/
def cxLam (P : Program) (w : World) (K : PySem.W.Frag) (mg : Str → Option Value) (base : Heap) (N : List Str) (q : Str) (scope : Scope) (fa : Addr) (cd : Value) (clos : List (Str × Addr)) (A : Around) (outer : List Env) (s : Shared) (H : Hp) : Cx where
  prog := P
  w := w
  K := K
  mg := mg
  base := base
  A := A.deeper (PySem.W.envX q scope s.heap.objs.size fa cd clos)
  N := N
  s₀ := s
  H₀ := H
  env := PySem.W.envX q scope s.heap.objs.size fa cd clos
  outer := outer
  stack := PySem.W.envX q scope s.heap.objs.size fa cd clos :: outer
  ex := []
  calm := true
  fn := fun _ => false
  pn := []
  xe := fun _ _ => False
def spLam (fa : Addr) (f : Lend) (q : Str) (params : Arguments) (body : Expr) (scope : Scope) (clos : List (Str × Addr)) (n : Nat) (spB : List V → Hp → VK → Prop) : Sp := fun vs H Q _ =>
  vs.length = n ∧ LamAt q params body scope clos H fa ∧ (∀ b o, f b = some o → H b = some (Fz o)) ∧ spB vs (unl f H) fun v H' => (∀ b o, f b = some o → H' b = none) → Q v (lend f H')
theorem lam_of {X : Cx} {σ : St} {H₁ : Hp} {f : Lend} {q : Str} {params : Arguments} {body : Expr} {scope : Scope} {fa : Addr} {ps : List Str} {cp : List (Nat × Str)} {cv : List V} {k : Nat} {spB : List V → Hp → VK → Prop} (L : Lent X σ H₁ f)
    (hcell : ∀ x, X.env.scope.names.lookup x = some .cell → ∃ c, X.env.cells.lookup x = some c)
    (hcv : cp.map (fun p => σ[p.1]?) = cv.map fun v => some (some v))
    (hcp : ∀ p ∈ cp, X.N[p.1]? = some p.2 ∧ X.env.scope.names.lookup p.2 = some .cell ∧ scope.names.lookup p.2 = some .free)
    (free : ∀ y ∈ scope.names, y.2 = .free → X.env.scope.names.lookup y.1 = some .cell)
    (kind : scope.kind = .function) (co : scope.isCoroutine = false) (gen : scope.isGenerator = false) (nocell : ∀ y ∈ scope.names, y.2 ≠ .cell) (par : ∀ x ∈ ps, scope.names.lookup x = some .local) (nd : (ps ++ cp.map (·.2)).Nodup)
    (hb : ∀ (pm ctv : Value) (c : Addr) (clos : List (Str × Addr)) (us : List Value), us.length = ps.length → bindArgs (PySem.W.kla_fn "<lambda>" q params body scope clos pm (.ref c) ctv) ⟨us, []⟩ = pure (ps.zip us))
    (hbody : ∀ (cd : Value) (A : Around) (outer : List Env) (s : Shared) (H : Hp) (vs : List V) (Q : VK), Room k (A.deeper (PySem.W.envX q scope s.heap.objs.size fa cd (clFold X.env.cells scope.names []))) → spB vs H Q →
      ∃ t, PE (cxLam X.prog X.w X.K X.mg X.base (ps ++ cp.map (·.2)) q scope fa cd (clFold X.env.cells scope.names []) A outer s H) body t ∧ t ((vs ++ cv).map some) H Q) :
    LamFn X.prog X.w X.K X.mg X.base (k + 1) fa (spLam fa f q params body scope (clFold X.env.cells scope.names []) ps.length spB) := by
  have sub := clFold_sub (cells := X.env.cells) (names := scope.names) (acc := []) (fun y hy e => hcell _ (free y hy e)) (fun x c e => by cases e)
  refine ⟨fun vs H Q E ⟨_, ⟨pm, c, ctv, o, e1, _⟩, _⟩ => ⟨_, _, _, _, e1⟩, fun A outer s H us vs Q E hr e0 r ⟨hl, ⟨pm, c, ctv, o, e1, e2, ws, tq, e3, e4⟩, hf, hsp⟩ => ?_⟩
  have hus : us.length = ps.length := by rw [← r.length]; exact hl
  have hcd : s.heap.CodeRec (.ref c) q := ⟨c, o, ws, tq, rfl, fz_get e0.hok e2, e3, e4⟩
  have lim : s.heap.NoLimit := e0.mod.nolimit.keeps fun b o e => (e0.bs b o e).1
  refine PySem.W.kla_callFunE hr.depth (fz_get e0.hok e1) rfl co gen rfl hcd ?_
  rw [hb pm ctv c _ us hus]
  refine wpAny_pure (wpAny_newFunctionEnv nocell (fun y hy => par y.1 (List.of_mem_zip hy).1) (fun h₁ hns hsb => ⟨lim.fresh _ hsb, ?_⟩) kind)
  show codeAny _ _ (.expr body (PySem.W.envX q scope s.heap.objs.size fa (.ref c) (clFold X.env.cells scope.names []))) _ _
  have hk : ∀ b o, s.heap.get? b = some o → h₁.get? b = some o := fun b o e => hsb.extBut b o (Nat.ne_of_lt (Heap.lt_size e)) (Heap.get?_push_of_some _ e)
  obtain ⟨t, ht, hq⟩ := hbody (.ref c) A outer s (unl f H) vs _ (hr.deeper _) hsp
  have hok' : HOk X.prog X.w (unl f H) s.heap := hok_unl e0.hok hf
  have hl2 : (vs ++ cv).length = (ps ++ cp.map (·.2)).length := by
    rw [List.length_append, List.length_append, List.length_map, hl]
    have := congrArg List.length hcv
    rw [List.length_map, List.length_map] at this
    omega
  have cl : ∀ x c, (clFold X.env.cells scope.names []).lookup x = some c → ∃ o v, f c = some o ∧ o.data = .cell v ∧ h₁.get? c = some o := fun x c e => by
    obtain ⟨o, v, h1, h2⟩ := L.cell x c (sub x c e)
    exact ⟨o, v, h1, h2, hk _ _ (fz_get e0.hok (hf c o h1))⟩
  have unN : ∀ b, H b = none → unl f H b = none := fun b z => by
    cases e : f b with
    | none => rw [unl_no e]; exact z
    | some o => exact unl_at e
  have I : Inv (cxLam X.prog X.w X.K X.mg X.base (ps ++ cp.map (·.2)) q scope fa (.ref c) (clFold X.env.cells scope.names []) A outer s (unl f H)) [] ((vs ++ cv).map some) (unl f H) { s with heap := h₁, toks := s.toks + (ps.zip us).length } := by
    have noA : ∀ b : Addr, b ∉ (cxLam X.prog X.w X.K X.mg X.base (ps ++ cp.map (·.2)) q scope fa (.ref c) (clFold X.env.cells scope.names []) A outer s (unl f H)).ex := fun b z => absurd (show b ∈ ([] : List Addr) from z) (by simp)
    refine ⟨⟨e0.mod, kind, rfl, rfl, Nat.le_refl _, fun y z c h1 h2 => L.inj y z c (sub _ _ h1) (sub _ _ h2), fun y hy => ?_, (fun y c z _ => by cases z), fun _ => hr.hd, Around.frames_deeper e0.frames, .inr ⟨rfl, rfl⟩, fun b z => absurd z (noA b), fun b o z => ⟨(e0.bs b o z).1, unN b (e0.bs b o z).2⟩, e0.bsz, fun b _ _ => noA b, fun b z => absurd z (noA b), e0.funs, fun b z => unN b (e0.frf b z)⟩,
      rfl, e0.bare, Un.kept hk, ⟨_, hns, fun i y v h1 h2 h3 => ?_⟩, fun y c h => ?_, hok'.fresh (Nat.le_refl _), fun y c h => ?_, fun p hp => absurd (show p ∈ ([] : List (Addr × Obj)) from hp) (by simp), hok'.kept hk, by rw [List.length_map]; exact hl2⟩
    · have hy' : scope.names.lookup y = some .cell ∨ scope.names.lookup y = some .free := hy
      rcases hy' with hy' | hy'
      · exact absurd rfl (nocell _ (PySem.mem_of_lookup hy'))
      · exact clFold_has (PySem.mem_of_lookup hy')
    · rw [List.getElem?_map] at h2
      have h2' : (vs ++ cv)[i]? = some v := by
        cases z : (vs ++ cv)[i]? with
        | none => rw [z] at h2; cases h2
        | some v' => rw [z] at h2; cases h2; rfl
      by_cases hi : i < ps.length
      · have h1' : ps[i]? = some y := by
          have : (ps ++ cp.map (·.2))[i]? = some y := h1
          rw [List.getElem?_append_left hi] at this
          exact this
        rw [List.getElem?_append_left (by omega)] at h2'
        obtain ⟨u, hu, ru⟩ := r.get h2'
        exact ⟨u, ru, .inl ⟨par y (List.mem_of_getElem? h1'), zip_get (List.nodup_append.mp nd).1 hus h1' hu⟩⟩
      · have h1' : (cp.map (·.2))[i - ps.length]? = some y := by
          have : (ps ++ cp.map (·.2))[i]? = some y := h1
          rw [List.getElem?_append_right (by omega)] at this
          exact this
        rw [List.getElem?_append_right (by omega), hl] at h2'
        rw [List.getElem?_map] at h1'
        cases hp : cp[i - ps.length]? with
        | none => rw [hp] at h1'; cases h1'
        | some p =>
          rw [hp] at h1'
          cases h1'
          have h4 : σ[p.1]? = some (some v) := by
            have := congrArg (fun l => l[i - ps.length]?) hcv
            simp only [List.getElem?_map, hp, h2', Option.map_some] at this
            exact Option.some.inj this
          obtain ⟨g1, g2, g3⟩ := hcp p (List.mem_of_getElem? hp)
          obtain ⟨c', o', u, k1, k2, k3, k4⟩ := L.val p.1 p.2 v g1 h4 g2
          obtain ⟨c2, k5⟩ := clFold_has (cells := X.env.cells) (acc := []) (PySem.mem_of_lookup g3)
          have k6 := sub _ _ k5
          rw [k1] at k6
          cases k6
          exact ⟨u, k4, .inr ⟨.inr g3, c', k5, o', hk _ _ (fz_get e0.hok (hf c' o' k2)), k3⟩⟩
    · obtain ⟨o, v, _, z1, z2⟩ := cl y c h
      exact ⟨v, o, z2, z1⟩
    · obtain ⟨o, v, z, _⟩ := cl y c h
      exact unl_at z
  refine PySem.W.kla_codeExpr (wpAny_mono (ht [] _ _ _ _ I hq) (fun u s' ⟨v, H', J, rv, qv⟩ => ?_) fun e s' hs => False.elim hs)
  obtain ⟨u1, u2⟩ := un_back hf e0.hok e0.frf (show Un (frs outer) [] (unl f H) H' s.heap s'.heap from J.base) J.hok
  exact ⟨v, lend f H', J.os, J.bare, u1, u2, rv, qv fun b o e => J.base.free b o (fz_get e0.hok (hf b o e)) (unl_at e) (by simp [cxLam])⟩
/-! ### the head, with tables of code that is called -/
abbrev TabsIn0 (tabs : List (Addr × Addr)) (H : Hp) : Prop := ∀ z ∈ tabs, H z.2 = some (TabC z.2 [])
abbrev TabsOut (tabs : List (Addr × Addr)) (H : Hp) : Prop := ∀ z ∈ tabs, ∃ S, H z.2 = some (TabC z.2 S)
theorem law_callC {P : Program} {w : World} {K : PySem.W.Frag} {mg mb : Str → Option Value} {CX : CXT} {k : Nat} {fa a : Addr} {fd : FuncData} {x : Str} {sp : Sp} {s₁ : Shared} {vs : List Value} {ns : List Int} {tabs : List (Addr × Addr)}
    (KX : K.In s₁.heap) (hns : s₁.heap.Ns mainGlobals mg) (hb : s₁.heap.Ns builtinsNs mb) (hbb : ∀ x : Str, x ≠ "__name__" → mb x = bootBuiltins x) (hlim : s₁.heap.NoLimit) (hg : s₁.gens = #[])
    (ha : s₁.heap.get? a = some { cls := .type "list", data := .seq vs.toArray }) (hi : IntsAre vs ns) (hl : ns.length ≤ sizeLine) (hr : Room k callerA)
    (hT : ∀ z ∈ tabs, PySem.W.CodeHd s₁.heap z.1 z.2 ∧ s₁.heap.get? z.2 = some (PySem.W.tabObj #[]) ∧ K.lookup z.2 = none)
    (hbm : ∃ bm ob, mg "__builtins__" = some (.ref bm) ∧ bm ≠ builtinsNs ∧ s₁.heap.get? bm = some ob ∧ ob.cls = .type "module" ∧ ob.dict = some builtinsNs ∧ ob.data = .plain)
    (F : ∀ base : Heap, K.In base → base.Ns mainGlobals mg → (∀ z ∈ tabs, Maker mg base z.1 z.2) → FnOk P w K mg base CX k fa fd [x] sp) (hbind : ∀ (s : Shared) (u : Value), BindsTo s fd ⟨[u], []⟩ [(x, u)])
    (hsp : ∀ H : Hp, TabsIn0 tabs H → SqL K H a (ns.map V.int) → sp [.ref a] H (fun v H' => v = .bl true ∧ TabsOut tabs H') fun _ _ _ => False)
    (hCX : ∀ H e s', CX [] H s₁ (fun _ _ _ => False) e s' → False) :
    codeAny (model P w) callerA (.call (.ref fa) ⟨[.ref a], []⟩) (fun r s' => r = .ok (.ret (.bool true)) ∧ OldK s₁.heap s'.heap ∧ s'.os = s₁.os ∧ AllBare s'.gens) s₁ := by
  have rv := vals_ints hi
  have lenV := hi.length
  have neT : ∀ z ∈ tabs, z.2 ≠ a := fun z hz e => by
    have e1 := (hT z hz).2.1
    rw [e, ha] at e1
    cases e1
  have core : ∀ H : Hp, TabsIn0 tabs H → (∀ b, H b = none ∨ (b = a ∧ K.lookup a = none ∧ ∃ o xs, H b = some (.frz o (.lst xs))) ∨ ∃ z ∈ tabs, b = z.2) → SqL K H a (ns.map V.int) → HOk P w H s₁.heap →
      codeAny (model P w) callerA (.call (.ref fa) ⟨[.ref a], []⟩) (fun r s' => r = .ok (.ret (.bool true)) ∧ OldK s₁.heap s'.heap ∧ s'.os = s₁.os ∧ AllBare s'.gens) s₁ := by
    intro H hTb hO hS hok
    have base_of : ∀ {b : Addr} {o : Obj}, s₁.heap.get? b = some o → H b = none → (hidT s₁.heap H).get? b = some o := fun e n => hidT_get e n
    have free : ∀ {b : Addr} {o : Obj}, s₁.heap.get? b = some o → o ≠ { cls := .type "list", data := .seq vs.toArray } → o ≠ PySem.W.tabObj #[] → H b = none := fun {b o} e n1 n2 => by
      rcases hO b with z | ⟨rfl, _, _⟩ | ⟨z, hz, rfl⟩
      · exact z
      · rw [ha] at e; exact absurd (Option.some.inj e).symm n1
      · rw [(hT z hz).2.1] at e; exact absurd (Option.some.inj e).symm n2
    have noA : ∀ {b : Addr} {o : Obj} {es : Array DictEntry} {ep : Nat}, s₁.heap.get? b = some o → o.data = .dict es ep → H b = none := fun {b o es ep} e d =>
      free e (fun z => by rw [z] at d; cases d) (fun z => by rw [z] at d; cases d)
    have nsK : ∀ {b : Addr} {m : Str → Option Value}, s₁.heap.Ns b m → (hidT s₁.heap H).Ns b m := fun {b m} ⟨o, es, ep, e, d, r⟩ => ⟨o, es, ep, base_of e (noA e d), d, r⟩
    have hKb : K.In (hidT s₁.heap H) := fun b o e => base_of (KX b o e) (by
      rcases hO b with z | ⟨rfl, z, _⟩ | ⟨z, hz, rfl⟩
      · exact z
      · rw [z] at e; cases e
      · rw [(hT z hz).2.2] at e; cases e)
    have hM : Mod K mg (hidT s₁.heap H) := ⟨hKb, nsK hns, ⟨mb, nsK hb, hbb⟩, let ⟨mc, h1, h2⟩ := hlim; ⟨mc, nsK h1, h2⟩⟩
    have e0 : Env0 P w K mg (hidT s₁.heap H) callerA [] s₁ H := ⟨rfl, hM, fun b o e => of_hidT e, Nat.le_of_eq (hidT_size _ _), trivial, fun b hb => absurd (show b ∈ ([] : List Addr) from hb) (by simp), hok, .of_eq hg⟩
    have hMk : ∀ z ∈ tabs, Maker mg (hidT s₁.heap H) z.1 z.2 := fun z hz => by
      obtain ⟨⟨o, ws, file, tf, flags, tg, inF, text, tt, e1, e2, r⟩, e3, _⟩ := hT z hz
      obtain ⟨bm, ob, b1, b2, b3, b4, b5, b6⟩ := hbm
      refine ⟨⟨o, ws, file, tf, flags, tg, inF, text, tt, base_of e1 (free e1 (fun q => by rw [q] at e2; exact absurd (Value.type.inj e2) (by decide)) (fun q => by rw [q] at e2; cases e2)), e2, r⟩, bm, ob, b1, b2, fun q => ?_, fun q => ?_, base_of b3 (free b3 (fun q => by rw [q] at b4; exact absurd (Value.type.inj b4) (by decide)) (fun q => by rw [q] at b4; cases b4)), b4, b5, b6⟩
      · obtain ⟨o', es, ep, e', d', _⟩ := hns
        rw [q, e'] at b3; cases b3; rw [d'] at b6; cases b6
      · rw [q, e3] at b3; cases b3; cases b4
    refine codeAny_mono ((F _ hKb (nsK hns) hMk).run callerA [] s₁ H ⟨[.ref a], []⟩ [.ref a] [.ref a] _ _ hr e0 (hbind s₁ (.ref a)) (.cons rfl .nil) (hsp H hTb hS)) fun r s' h => ?_
    cases r with
    | error e => exact (hCX H e s' h).elim
    | ok fl =>
      cases fl with
      | next => exact False.elim h
      | brk => exact False.elim h
      | cont => exact False.elim h
      | ret u =>
        obtain ⟨v, H', os, bare, un, hok', r', q⟩ := h
        obtain ⟨q', hT'⟩ : v = .bl true ∧ TabsOut tabs H' := q
        subst q'
        obtain rfl : u = Value.bool true := r'
        refine ⟨rfl, ⟨fun b o e => ?_, fun b o e => un.there b o e (by simp)⟩, os, bare⟩
        rcases hO b with z | ⟨rfl, _, ob, xs, z⟩ | ⟨z, hz, rfl⟩
        · exact .inl (un.keep b o e z (by intro z; exact absurd (show b ∈ ([] : List Addr) from z) (by simp)) (by simp))
        · have z2 := un.frzs b ob _ z
          obtain ⟨e1, _⟩ := hok b _ z
          obtain ⟨e2, _⟩ := hok' b _ z2
          rw [e] at e1; cases e1
          exact .inl e2
        · obtain ⟨S4, z4⟩ := hT' z hz
          obtain ⟨⟨ps, e4, _⟩, _⟩ := hok' z.2 _ z4
          have e3 := (hT z hz).2.1
          rw [e3] at e
          cases e
          exact .inr (.inl ⟨((hT z hz).1.tab e3).isCodeTable, rfl, #[], ps, rfl, by rw [e4, Array.empty_append]⟩)
  have hTok : ∀ (H : Hp) (z : Addr × Addr), z ∈ tabs → ObjOk P w H s₁.heap z.2 (TabC z.2 []) := fun H z hz => tabC_ok (hT z hz).2.1 trivial fun pos cv e => by cases e
  classical
  let Ht : Hp := fun b => if b ∈ tabs.map (·.2) then some (TabC b []) else none
  have hHt : TabsIn0 tabs Ht := fun z hz => if_pos (List.mem_map_of_mem hz)
  have ofHt : ∀ b u, Ht b = some u → ∃ z ∈ tabs, b = z.2 ∧ u = TabC z.2 [] := fun b u e => by
    by_cases hb : b ∈ tabs.map (·.2)
    · have e' := (if_pos hb).symm.trans e
      obtain ⟨z, hz, rfl⟩ := List.mem_map.mp hb
      exact ⟨z, hz, rfl, (Option.some.inj e').symm⟩
    · have e' := (if_neg hb).symm.trans e
      cases e'
  cases hk : K.lookup a with
  | some o =>
    have e := KX a o hk
    rw [ha] at e
    cases e
    refine core Ht hHt (fun b => ?_) (.inr ⟨_, vs.toArray, _, hk, rfl, rfl, rfl, by rw [List.size_toArray, lenV]; exact hl, by simpa using rv⟩) (fun b u z => ?_)
    · cases q : Ht b with
      | none => exact .inl rfl
      | some u => obtain ⟨z, hz, e, _⟩ := ofHt b u q; exact .inr (.inr ⟨z, hz, e⟩)
    · obtain ⟨y, hy, rfl, rfl⟩ := ofHt b u z
      exact hTok _ y hy
  | none =>
    refine core (fun b => if b = a then some (.frz { cls := .type "list", data := .seq vs.toArray } (.lst (ns.map V.int))) else Ht b) (fun z hz => ?_) (fun b => ?_) (.inl (.inr ⟨{ cls := .type "list", data := .seq vs.toArray }, if_pos rfl⟩)) (fun b u z => ?_)
    · exact (if_neg (neT z hz)).trans (hHt z hz)
    · by_cases hb : b = a
      · exact .inr (.inl ⟨hb, hk, _, _, if_pos hb⟩)
      · cases q : Ht b with
        | none => exact .inl (if_neg hb)
        | some u => obtain ⟨z, hz, e, _⟩ := ofHt b u q; exact .inr (.inr ⟨z, hz, e⟩)
    · by_cases hb : b = a
      · have z' := (if_pos hb).symm.trans z
        cases z'
        subst hb
        exact ⟨ha, by rw [List.length_map]; exact hl, vs, _, rv, ha⟩
      · have z' := (if_neg hb).symm.trans z
        obtain ⟨y, hy, rfl, rfl⟩ := ofHt b u z'
        exact hTok _ y hy
theorem walk_ofC {l : PySem.W.OpenLaw} {n k : Nat} {q : Program} {loose : List Str} {XP : (Str → Option Value) → Heap → Prop} {YP : World → Heap → Prop} {d : DefRec} {K : Params → PySem.W.Frag} {CX : World → CXT} {sp : World → List (Addr × Addr) → Sp} {x : Str}
    (hn : l.most = some n) (hn2 : n ≤ sizeLine) (hdf : d.params.defaults = []) (hr : Room k callerA)
    (hY : ∀ (w : World) (h : Heap), YP w h → (K w.params).In h)
    (F : ∀ (w : World) (mg : Str → Option Value) (fa : Addr) (h : Heap), (K w.params).In h → h.Ns mainGlobals mg → mg d.name = some (.ref fa) →
      PySem.W.noTabs (K w.params) = true ∧ ∃ tabs : List (Addr × Addr), (∀ z ∈ tabs, TabOf q (K w.params) z) ∧ ∃ fd : FuncData, (∀ (s : Shared) (u : Value), BindsTo s fd ⟨[u], []⟩ [(x, u)]) ∧
        ∀ base : Heap, (K w.params).In base → base.Ns mainGlobals mg → (∀ z ∈ tabs, Maker mg base z.1 z.2) → FnOk l.prog w (K w.params) mg base (CX w) k fa fd [x] (sp w tabs))
    (hsp : ∀ (w : World) (tabs : List (Addr × Addr)) (H : Hp) (a : Addr) (ns : List Int), ns.length ≤ n → TabsIn0 tabs H → SqL (K w.params) H a (ns.map V.int) → sp w tabs [.ref a] H (fun v H' => v = .bl true ∧ TabsOut tabs H') fun _ _ _ => False)
    (hCX : ∀ (w : World) (H : Hp) (s : Shared) (e : Value) (s' : Shared), CX w [] H s (fun _ _ _ => False) e s' → False) :
    PySem.W.WalkO q loose XP YP l.row.toRowW d [] (fun f vs => PySem.call f vs) := by
  refine Att.attach_call hn hdf fun w s₀ s₁ mg mb fa o pm cd doc a vs ns G Y ho hd hcd hmg hobj hints hlen hg => ?_
  have KX := hY w _ Y
  obtain ⟨hnT, tabs, hTb, fd, hb, hF⟩ := F w mg fa _ KX G.T.g hmg
  refine law_callC KX G.T.g G.T.b G.T.builtins G.T.nolimit hg hobj hints (Nat.le_trans hlen hn2) hr (fun z hz => ?_) G.T.bmain hF hb (fun H hO hS => hsp w tabs H a ns hlen hO hS) fun H e s' => hCX w H s₁ e s'
  obtain ⟨y, h1, h2⟩ := (hTb z hz).ex
  obtain ⟨d', h1⟩ := Option.isSome_iff_exists.mp h1
  obtain ⟨t1, t2⟩ := PySem.W.tab_of G.T KX h1 h2
  exact ⟨t1, t2, noTab hnT KX t2⟩
end L2

namespace L2
open PySem PySem.Spec PyProof.Rows
/-! ### o.f(..), f a field of the instance: a lambda -/
section
variable {X : Cx} {k : Nat} {m : Str} {p pos apos : Pos} {e o : Expr} {es : List Expr} {ta : TE} {t : TA}
end
/-! ### a def that returns a closure: its cells stay, known to the object -/
structure EndsR where
  nx : St → Hp → Prop
  rt : V → St → Hp → Prop
abbrev TSR := EndsR → St → Hp → Prop
section
variable {X : Cx} {st : Stmt} {rest : List Stmt} {t u : TSR} {e : Expr} {te : TE} {pos : Pos}
end
end L2

namespace L2
open PySem PySem.Spec PyProof.Rows
section
variable {P : Program} {w : World} {K : PySem.W.Frag} {mg : Str → Option Value} {base : Heap} {N : List Str} {qual : Str} {scope : Scope} {f : Addr} {cd : Value} {A : Around} {outer : List Env} {s : Shared} {H : Hp} {E : XK}
end
end L2

namespace L2
open PySem PySem.Spec PyProof.Rows
/-! ### isinstance with a tuple of own classes -/
end L2

namespace L2
open PySem PySem.Spec PyProof.Rows
/-! ### rules laid in boxes: what is in them stays closed while the parts are fitted -/
structure PEw (X : Cx) (e : Expr) (t : TE) : Prop where
  run : PE X e t
structure PAw (X : Cx) (es : List Expr) (t : TA) : Prop where
  run : PA X es t
structure PTw (X : Cx) (e : Expr) (t : TT) : Prop where
  run : PT X e t
structure PSw (X : Cx) (st : Stmt) (t : TS) : Prop where
  run : PS X st t
structure PSsw (X : Cx) (st : List Stmt) (t : TS) : Prop where
  run : PSs X st t
section
variable {X : Cx} {es : List Expr} {te : TE} {t u : TA}
end
section
variable {X : Cx} {st : Stmt} {rest : List Stmt} {t u : TS} {pos : Pos}
end
end L2

namespace L2
open PySem PySem.Spec PyProof.Rows
/-! ### text.startswith(text), text.upper(), int(text) -/
/-! ### what these texts are -/
end L2

namespace L2
open PySem PySem.Spec PyProof.Rows
/-! ### for over a dict whose keys are tuples -/
section
variable {prog : Program} {w : World} {A : Around} {E : Value → Shared → Prop} {s : Shared} {it d : Addr} {i n ep : Nat} {od : Obj} {es : Array DictEntry}
theorem iter_keys {Q : Value → Shared → Prop} (hs : (d == sysModules) = false) (hod : s.heap.get? d = some od) (hx : od.ExactDict) (hdd : od.data = .dict es ep)
    (q : Q (.ref s.heap.objs.size) { s with heap := s.heap.push { cls := .type "dict_keyiterator", data := .fields #[.ref d, .int 0 0, .int es.size 0, .int ep 0] } }) : wpAny (model prog w) A (pyIter (.ref d)) Q E s := by
  have ty : s.TypeIs (.ref d) "dict" := ⟨od, hod, hx.1⟩
  refine wpAny_pyIter_slot ty F.slot_dict_iter (wpAny_call_entry F.slot_dict_iter ty F.entry_dict_iter (?_ : wpAny _ _ (Builtin.«dict.__iter__» _) _ _ _) (F.args_dict_iter_1 _))
  unfold Builtin.«dict.__iter__» Builtin.Dict.dictSlotNone
  refine wpAny_bind (wpAny_bind (wpAny_notOrdered_dict ty (?_ : wpAny _ _ (pure (Value.ref d)) _ _ s)))
  refine wpAny_pure (?_ : wpAny _ _ (Builtin.Dict.showsAll d >>= _) _ _ s)
  unfold Builtin.Dict.showsAll
  rw [hs, if_neg Bool.false_ne_true]
  refine wpAny_bind (wpAny_pure (wpAny_bind (wpAny_dictEntries hod hdd (wpAny_bind (wpAny_dictEpoch hod hdd (wpAny_bind (wpAny_newObj_type (wpAny_pure ⟨_, rfl, "dict_keyiterator", _, ⟨_, Heap.get?_push_size _ rfl, rfl⟩, F.slot_dict_keyiterator_next.lookup, ?_⟩))))))))
  simpa [rawInt] using q
theorem next_key {Q : Option Value → Shared → Prop} (hit : s.heap.IsKeyIter it d i n ep) (hod : s.heap.get? d = some od) (hdd : od.data = .dict es ep) (hn : es.size = n) (hi : i < es.size)
    (q : ∀ h', h'.IsKeyIter it d (i + 1) n ep → Heap.SameBut it s.heap h' → Q (some es[i].key) { s with heap := h' }) : wpAny (model prog w) A (pyNext (.ref it)) Q E s := by
  obtain ⟨io, hio, hic, hif⟩ := id hit
  have ty := hit.typeIs
  have own : Builtin.Dict_items.ownsTuple "dict_keyiterator" = false := by decide
  unfold pyNext
  refine wpAny_bind (wpAny_attempt (wpAny_callSpecial?_slot (name := Str.ofString "__next__") ty F.slot_dict_keyiterator_next (wpAny_call_entry F.slot_dict_keyiterator_next ty F.entry_dict_keyiterator_next ?_ (F.args_dict_keyiterator_next_1 _))))
  refine wpAny_bind (wpAny_pure (wpAny_bind (wpAny_bind ?_)))
  refine wpAny_bind (wpAny_typeNameOfWhole_keyiter ty (wpAny_pure (wpAny_bind (wpAny_fieldsOf hio hif ?_))))
  simp only [own, Bool.false_eq_true, if_false]
  change wpAny _ _ (ite ((Value.ref d == Value.none) = true) _ _) _ _ s
  rw [if_neg (fun z : (Value.ref d == Value.none) = true => Bool.false_ne_true z)]
  refine wpAny_bind (wpAny_pure (wpAny_bind (wpAny_dictEntries hod hdd ?_)))
  rw [hn, if_neg (by simp)]
  refine wpAny_bind (wpAny_pure (wpAny_bind (wpAny_dictEpoch hod hdd ?_)))
  rw [if_neg (by simp)]
  refine wpAny_pure (?_ : wpAny _ _ _ _ _ _)
  have gi : ¬ ((i : Int) < 0) := by omega
  simp only [gi, if_false, Int.toNat_natCast, Array.getElem?_eq_getElem hi]
  refine wpAny_bind (wpAny_bind (wpAny_typeNameOfWhole_keyiter ty (wpAny_pure (wpAny_bind (wpAny_isOneOf_keyiter ty ?_)))))
  change wpAny _ _ (setField (.ref it) 1 (rawInt ((i : Int) + 1)) >>= _) _ _ s
  refine wpAny_bind (wpAny_setField hio hif (by simp) ?_)
  have up : (s.heap.update it (Obj.mapFields (·.setIfInBounds 1 (rawInt ((i : Int) + 1))))).IsKeyIter it d (i + 1) n ep :=
    ⟨_, Heap.get?_update_self _ hio (Obj.isFreed_of_fields (Obj.data_mapFields hif _)), by rw [Obj.cls_mapFields]; exact hic, by rw [Obj.data_mapFields hif]; simp [rawInt]⟩
  refine wpAny_bind (wpAny_holding (wpAny_bind (wpAny_isOneOf_keyiter (s := { s with heap := s.heap.update it (Obj.mapFields (·.setIfInBounds 1 (rawInt ((i : Int) + 1)))) }) up.typeIs ?_)))
  change wpAny _ _ (pure es[i].key) _ _ _
  exact wpAny_pure (wpAny_pure ⟨_, rfl, wpAny_pure (q _ up (Heap.SameBut.update ..))⟩)
theorem next_none {Q : Option Value → Shared → Prop} (hh : A.handled = none) (hit : s.heap.IsKeyIter it d i n ep) (hod : s.heap.get? d = some od) (hdd : od.data = .dict es ep) (hn : es.size = n) (hi : es.size ≤ i)
    (q : ∀ h', Heap.ExtBut it s.heap h' → Q none { s with heap := h' }) : wpAny (model prog w) A (pyNext (.ref it)) Q E s := by
  obtain ⟨io, hio, hic, hif⟩ := id hit
  have ty := hit.typeIs
  have own : Builtin.Dict_items.ownsTuple "dict_keyiterator" = false := by decide
  unfold pyNext
  refine wpAny_bind (wpAny_attempt (wpAny_callSpecial?_slot (name := Str.ofString "__next__") ty F.slot_dict_keyiterator_next (wpAny_call_entry F.slot_dict_keyiterator_next ty F.entry_dict_keyiterator_next ?_ (F.args_dict_keyiterator_next_1 _))))
  refine wpAny_bind (wpAny_pure (wpAny_bind (wpAny_bind ?_)))
  refine wpAny_bind (wpAny_typeNameOfWhole_keyiter ty (wpAny_pure (wpAny_bind (wpAny_fieldsOf hio hif ?_))))
  simp only [own, Bool.false_eq_true, if_false]
  change wpAny _ _ (ite ((Value.ref d == Value.none) = true) _ _) _ _ s
  rw [if_neg (fun z : (Value.ref d == Value.none) = true => Bool.false_ne_true z)]
  refine wpAny_bind (wpAny_pure (wpAny_bind (wpAny_dictEntries hod hdd ?_)))
  rw [hn, if_neg (by simp)]
  refine wpAny_bind (wpAny_pure (wpAny_bind (wpAny_dictEpoch hod hdd ?_)))
  rw [if_neg (by simp)]
  refine wpAny_pure (?_ : wpAny _ _ _ _ _ _)
  have gi : ¬ ((i : Int) < 0) := by omega
  simp only [gi, if_false, Int.toNat_natCast, Array.getElem?_eq_none hi]
  refine wpAny_bind (wpAny_bind (wpAny_typeNameOfWhole_keyiter ty (wpAny_pure ?_)))
  change wpAny _ _ (setField (.ref it) 0 .none >>= _) _ _ s
  refine wpAny_bind (wpAny_setField hio hif (by simp) ?_)
  change wpAny _ _ (newExc (.type "StopIteration") [] >>= _) _ _ _
  refine wpAny_bind ?_
  unfold newExc newTuple
  refine wpAny_bind (wpAny_newObj_type (wpAny_bind (m := firstArgMember _ _) (wpAny_of_eq (a := Value.none) (by first | rfl | (unfold firstArgMember; rfl)) (wpAny_newObj_type ?_ (by size_fits)))) (by size_fits))
  unfold raiseNew
  refine wpAny_bind (wpAny_handled ?_)
  have hh1 : A.in1.handled = none := hh
  rw [hh1]
  refine wpAny_bind (wpAny_pure (wpAny_throw (?_ : wpAny _ _ _ _ _ _)))
  refine wpAny_bind (wpAny_isInstance (T := "StopIteration") (b := true) (by exact ⟨_, Heap.get?_push_size _ rfl, rfl⟩) isSubtype_stop ?_)
  exact wpAny_pure (q _ (((Heap.SameBut.update ..).extBut.push _).push _))
end
section
variable {X : Cx} {pins : List (Addr × Obj)} {σ : St} {H : Hp} {s : Shared} {d : Addr}
theorem Inv.freezeT {kvs : List (List Key × V)} (I : Inv X pins σ H s) (e : H d = some (.dT kvs)) : NoF X d ∧ ∃ o, s.heap.get? d = some o ∧ Inv X pins σ (upd H d (.frz o (.dT kvs))) s := by
  have nf : NoF X d := I.nof e (by intro _ z; cases z) (by intro _ _ z; cases z) (by intro _ z; cases z)
  obtain ⟨z, hs, xs, rel, o, es, ep, ho, r⟩ := (show ObjOk X.prog X.w H s.heap d (.dT kvs) from I.hok d _ e)
  refine ⟨nf, o, ho, I.retag e nf (by intro _ z; cases z) (by intro _ z; cases z) ⟨ho, z, hs, xs, Paired.mapP rel fun p q z => ⟨z.1, ?_, z.2.2⟩, o, es, ep, ho, r⟩⟩
  rw [upd_ne (ne_of z.2.1 e (fun y => by cases y))]
  exact z.2.1
theorem Inv.thawT {o : Obj} {kvs : List (List Key × V)} (I : Inv X pins σ H s) (nf : NoF X d) (e : H d = some (.frz o (.dT kvs))) : Inv X pins σ (upd H d (.dT kvs)) s := by
  obtain ⟨_, z, hs, xs, rel, r⟩ := (show ObjOk X.prog X.w H s.heap d (.frz o (.dT kvs)) from I.hok d _ e)
  refine I.retag e nf (by intro _ z; cases z) (by intro _ z; cases z) ⟨z, hs, xs, Paired.mapP rel fun p q z => ⟨z.1, ?_, z.2.2⟩, r⟩
  rw [upd_ne (ne_of z.2.1 e (fun y => by cases y))]
  exact z.2.1
end
/-- the keys of the dict at a, one by one -/
def Itdt (a : Addr) (o : Obj) (kvs : List (List Key × V)) : It :=
  ⟨fun i H => H a = some (.frz o (.dT kvs)) ∧ i < kvs.length, fun i H x H' => H' = H ∧ ∃ p b, kvs[i]? = some p ∧ x = .ref b ∧ H b = some (.tup (p.1.map kV)), fun i H => H a = some (.frz o (.dT kvs)) ∧ kvs.length ≤ i⟩
theorem frzT_at {P : Program} {w : World} {H : Hp} {h : Heap} {a : Addr} {o : Obj} {kvs : List (List Key × V)} {es : Array DictEntry} {ep : Nat} (ok : HOk P w H h) (e : H a = some (.frz o (.dT kvs))) (ho : o.data = .dict es ep) :
    h.get? a = some o ∧ o.ExactDict ∧ es.size = kvs.length ∧ ∀ (i : Nat) (p : List Key × V) (hi : i < es.size), kvs[i]? = some p → ∃ b, es[i].key = .ref b ∧ H b = some (.tup (p.1.map kV)) := by
  obtain ⟨e1, z, hs, xs, rel, o', es', ep', ho', r1, r2, r3, r4⟩ := (show ObjOk P w H h a (.frz o (.dT kvs)) from ok a _ e)
  rw [e1] at ho'
  cases ho'
  have := r2.symm.trans ho
  cases this
  have l1 : kvs.length = xs.length := Paired.length rel
  have l2 : es.size = xs.length := by
    have := congrArg List.length r3
    simpa using this
  refine ⟨e1, r1, by omega, fun i p hi hp => ?_⟩
  have hx : i < xs.length := by omega
  have get : ∀ {l : List (List Key × V)} {m : List (List Key × Addr × Value)} {j : Nat} {p : List Key × V} {y : List Key × Addr × Value}, KT H l m → l[j]? = some p → m[j]? = some y → H y.2.1 = some (.tup (p.1.map kV)) := by
    intro l m j p y r
    induction r generalizing j with
    | nil => intro e; simp at e
    | cons r t ih =>
      cases j with
      | zero => intro e1 e2; simp at e1 e2; subst e1 e2; exact r.2.1
      | succ j => intro e1 e2; exact ih (by simpa using e1) (by simpa using e2)
  have hy : xs[i]? = some xs[i] := by simp [hx]
  refine ⟨xs[i].2.1, ?_, get rel hp hy⟩
  have e3 : es.toList[i]? = some (entryOfKey (tupleKind (mixKind P w)) xs[i]) := by rw [r3, List.getElem?_map, hy]; rfl
  rw [Array.getElem?_toList, Array.getElem?_eq_getElem hi] at e3
  rw [Option.some.inj e3]
  rfl
theorem turn_keys {P : Program} {w : World} {K : PySem.W.Frag} {tg : Expr} (a it : Addr) (o : Obj) (kvs : List (List Key × V)) {es : Array DictEntry} {ep : Nat} (hod : o.data = .dict es ep) : Turn P w K tg (Itdt a o kvs) [it] it (fun i h => h.IsKeyIter it a i kvs.length ep) where
  mem := by simp
  obj := fun i h st b hb => by
    have e : b = it := by simpa using hb
    subst e
    obtain ⟨o, e, c, d⟩ := st
    exact ⟨o, e, fun v z => by rw [d] at z; cases z⟩
  keep := fun i h h' st k => st.at fun o e => k it (by simp) o e
  item := by
    intro X hP hw hK hc i pins s σ H E I hf st hg
    subst hP hw hK
    obtain ⟨ha, hi⟩ := hg
    obtain ⟨e1, _, l, ks⟩ := frzT_at I.hok ha hod
    obtain ⟨p, hp⟩ : ∃ p, kvs[i]? = some p := ⟨kvs[i], by simp [hi]⟩
    obtain ⟨b, eb, hb⟩ := ks i p (by omega) hp
    obtain ⟨f0, f1, f2, f3, f4, f5⟩ := hf it (by simp)
    refine next_key st e1 hod l (by omega) fun h' st' sb => ?_
    have I1 : Inv X pins σ H { s with heap := h' } := I.turned (t' := s.toks) (fun b o hb e => sb.extBut b o hb e) f0 f1 f3 f4 f5
    obtain ⟨o1, e1, c1, d1⟩ := id st'
    rw [eb]
    exact ⟨.ref b, rfl, go_of (s := { s with heap := h' }) e1 c1 d1 (by decide) ⟨.ref b, H, I1, rfl, ⟨rfl, p, b, hp, rfl, hb⟩, st', fun b hb => (hf b hb).1⟩⟩
  done := by
    intro X hP hw hK hc i pins s σ H E I hf st hg
    subst hP hw hK
    obtain ⟨ha, hi⟩ := hg
    obtain ⟨e1, _, l, _⟩ := frzT_at I.hok ha hod
    obtain ⟨f0, f1, f2, f3, f4, f5⟩ := hf it (by simp)
    exact next_none (I.ok.hd hc) st e1 hod l (by omega) fun h' eb => ⟨rfl, I.turned (t' := s.toks) (fun b o hb e => eb b o hb e) f0 f1 f3 f4 f5⟩
  self := fun _ _ _ _ _ st h => wpAny_pyIter_keyiter st h
section
variable {X : Cx} {tg : Expr}
def iDictT (X : Cx) (tl : TE) : TI := fun σ H R => tl σ H fun x H1 => ∃ a kvs, x = .ref a ∧ H1 a = some (.dT kvs) ∧ (NoF X a → ∀ o, R (Itdt a o kvs) (upd H1 a (.frz o (.dT kvs))))
theorem pi_dictT {l : Expr} {tl : TE} (hl : PE X l tl) : PI X tg l (iDictT X tl) := by
  intro pins s σ H R I h
  refine thn (hl pins s σ H _ I h) fun v s1 ⟨x, H1, I1, r1, q1⟩ => ?_
  obtain ⟨a, kvs, e, ha, q⟩ := q1
  subst e
  cases r1
  obtain ⟨nf, o, ho, I2⟩ := I1.freezeT ha
  obtain ⟨z, hs, xs, rel, o', es, ep, ho', r1, r2, r3⟩ := (show ObjOk X.prog X.w H1 s1.heap a (.dT kvs) from I1.hok a _ ha)
  rw [ho] at ho'
  cases ho'
  obtain ⟨_, _, l, _⟩ := frzT_at I2.hok upd_same r2
  refine iter_keys hs ho r1 r2 ?_
  refine ⟨s1.heap.objs.size, [s1.heap.objs.size], _, _, _, rfl, I2.kept (t' := s1.toks) fun b o e => Heap.get?_push_of_some _ e, turn_keys a _ o kvs r2, ⟨_, Heap.get?_push_size _ rfl, rfl, by rw [l]; rfl⟩, fun b hb => ?_, q nf o⟩
  have e : b = s1.heap.objs.size := by simpa using hb
  subst e
  exact I2.fpOk (Nat.le_refl _) (I2.hok.fresh (Nat.le_refl _))
/-- behind the loop the dict is as any other -/
def thawT (X : Cx) (D : Ends) : Ends where
  nx := fun σ H => ∃ a o kvs, NoF X a ∧ H a = some (.frz o (.dT kvs)) ∧ D.nx σ (upd H a (.dT kvs))
  rt := fun v H => ∃ a o kvs, NoF X a ∧ H a = some (.frz o (.dT kvs)) ∧ D.rt v (upd H a (.dT kvs))
  bk := D.bk
  ct := D.ct
def tForT (X : Cx) (tl : TE) (g : TG) (tb : TS) : TS := fun D σ H => tFor (iDictT X tl) g tb (thawT X D) σ H
theorem ps_forT {iter : Expr} {body : List Stmt} {tl : TE} {g : TG} {tb : TS} {pos : Pos} (hp : PassesOwn (model X.prog X.w) X.A X.env X.xe) (hc : X.calm = true) (hl : PE X iter tl) (hg : PG X tg g) (hb : PSs X body tb)
    (hs : ∀ x, foldedSetIterable iter X.env x = pure x := by intro _; rfl) : PS X (.For tg iter body [] pos) (tForT X tl g tb) := by
  intro pins s σ H D I h
  refine thn (ps_for hp hc (pi_dictT hl) hg hb hs pins s σ H (thawT X D) I h) fun f s' q => ?_
  cases f with
  | next => obtain ⟨σ', H', I', a, o, kvs, nf, e, q⟩ := q; exact ⟨σ', _, I'.thawT nf e, q⟩
  | cont => exact q
  | brk => exact q
  | ret v => obtain ⟨x, σ', H', I', r, a, o, kvs, nf, e, q⟩ := q; exact ⟨x, σ', _, I'.thawT nf e, r, q⟩
end
theorem for_dictT {a : Addr} {ob : Obj} {kvs : List (List Key × V)} {g : TG} {tb : TS} {D : Ends} {σ : St} {H : Hp} (Pv : Nat → St → Hp → Prop) (h0 : Pv 0 σ H) (hl : ∀ i σ H, i ≤ kvs.length → Pv i σ H → H a = some (.frz ob (.dT kvs)))
    (hs : ∀ i p b σ H, kvs[i]? = some p → H b = some (.tup (p.1.map kV)) → Pv i σ H → g (.ref b) σ H fun σ2 H2 => tb { D with nx := Pv (i + 1), ct := Pv (i + 1), bk := D.nx } σ2 H2) (hd : ∀ σ H, Pv kvs.length σ H → D.nx σ H) :
    ∃ W : Nat → Nat → St → Hp → Prop, (∃ m, W 0 m σ H) ∧ ∀ i m σ H, W i m σ H →
      ((Itdt a ob kvs).stop i H ∧ D.nx σ H) ∨ ((Itdt a ob kvs).go i H ∧ ∃ N : St → Hp → Prop, (∀ σ' H', N σ' H' → ∃ m', m' < m ∧ W (i + 1) m' σ' H') ∧ ∀ x H', (Itdt a ob kvs).yld i H x H' → g x σ H' fun σ2 H2 => tb { D with nx := N, ct := N, bk := D.nx } σ2 H2) := by
  refine ⟨fun i m σ H => m = kvs.length - i ∧ i ≤ kvs.length ∧ Pv i σ H, ⟨kvs.length, by simp, Nat.zero_le _, h0⟩, ?_⟩
  rintro i m σ H ⟨rfl, hi, p⟩
  have q := hl i σ H hi p
  by_cases hlt : i < kvs.length
  · refine .inr ⟨⟨q, hlt⟩, Pv (i + 1), fun σ' H' p' => ⟨kvs.length - (i + 1), by omega, rfl, hlt, p'⟩, fun x H' y => ?_⟩
    obtain ⟨e, pr, b, hp, ex, hb⟩ := y
    subst e ex
    exact hs i pr b σ _ hp hb p
  · have e : i = kvs.length := by omega
    subst e
    exact .inl ⟨⟨q, Nat.le_refl _⟩, hd σ H p⟩
end L2

namespace L2
open PySem PySem.Spec PyProof.Rows
/-- o.m(..), the class one of several -/
def tMethD (R : Addr → Sp → Prop) (m : Str) (E : XK) (ta : TE) (t : TA) : TE := fun σ H Q => ta σ H fun x H1 => ∃ C sp a dx fs, R C sp ∧ x = .ref a ∧ H1 a = some (.ins C dx fs) ∧ fs.lookup m = none ∧ t σ H1 fun vs H2 => sp (x :: vs) H2 Q E
/-- the same, the cells lent -/
def tMethLD (X : Cx) (R : Addr → Sp → Prop) (m : Str) (ta : TE) (t : TA) : TE := fun σ H Q => ta σ H fun x H1 => ∃ C sp a dx fs, R C sp ∧ x = .ref a ∧ H1 a = some (.ins C dx fs) ∧ fs.lookup m = none ∧
  t σ H1 fun vs H2 => ∀ f, Lent X σ H2 f → sp (x :: vs) (lend f H2) (fun v H' => Q v (unl f H')) E0
section
variable {X : Cx} {CX : CXT} {k : Nat} {R : Addr → Sp → Prop} {ps : List Str} {E : XK} {m : Str} {pos apos : Pos} {e o : Expr} {es : List Expr} {t : TA} {ta : TE}
theorem pe_methD {pl : Sem Bool} (he : PE X o ta) (hR : ∀ C sp, R C sp → Cls X.K C ∧ KnownM X.prog X.w X.K X.mg X.base CX k C m ps sp) (hr : Room k X.A) (hx : Passes CX X E) (ha : PA X (e :: es) t)
    (hst : starEach (e :: es) X.env = (false, eval e X.env) :: starEach es X.env := by rfl) (hpl : (backTo pos (starEach es X.env)).any (·.1) = false := by rfl)
    (ht : eval (.Call (.Attribute o m apos) (e :: es) [] pos) X.env = (do
      let ov ← eval o X.env
      standAt apos.atName
      let (f, first) ← holding [ov] (getMethod ov m pl)
      callWith pos f first (backTo pos (starEach (e :: es) X.env)) (backToKw pos (keywordEach [] X.env))) := by rfl) :
    PE X (.Call (.Attribute o m apos) (e :: es) [] pos) (tMethD R m E ta t) := by
  intro pins s σ H Q I h
  refine PySem.W.methodCall_KW (pl := pl) (thn (he pins s σ H _ I h) fun u s1 ⟨x, H1, I1, rx, C, sp, a, dx, fs, hC, ex, ea, l, q⟩ => ?_) ht
  obtain ⟨c, G⟩ := hR C sp hC
  obtain ⟨f, fd, F, hm, hb⟩ := G.ex
  subst ex
  obtain rfl : u = Value.ref a := rx
  refine getmeth_ok I1 ea c hm l ?_
  refine PySem.W.callWith_K (first := [.ref a]) (h₀ := X.base) I.ok.mod.kin hm.kp (thn (ha pos pins s1 σ H1 _ I1 q) fun us s2 ⟨vs, H2, I2, r, q2⟩ => ⟨I2.kIn, ?_⟩) hst hpl
  exact run_fn (us := .ref a :: us) (vs := .ref a :: vs) F hr hb .nil hx I2 (.cons rfl r) (by rw [List.append_nil]; exact q2)
theorem pe_methLD {pl : Sem Bool} (he : PE X o ta) (hR : ∀ C sp, R C sp → Cls X.K C ∧ KnownM X.prog X.w X.K X.mg X.base CX0 k C m ps sp) (hr : Room k X.A) (ha : PA X (e :: es) t) (hfn : ∀ x, X.fn x = true := by exact fun _ => rfl)
    (hst : starEach (e :: es) X.env = (false, eval e X.env) :: starEach es X.env := by rfl) (hpl : (backTo pos (starEach es X.env)).any (·.1) = false := by rfl)
    (ht : eval (.Call (.Attribute o m apos) (e :: es) [] pos) X.env = (do
      let ov ← eval o X.env
      standAt apos.atName
      let (f, first) ← holding [ov] (getMethod ov m pl)
      callWith pos f first (backTo pos (starEach (e :: es) X.env)) (backToKw pos (keywordEach [] X.env))) := by rfl) :
    PE X (.Call (.Attribute o m apos) (e :: es) [] pos) (tMethLD X R m ta t) := by
  intro pins s σ H Q I h
  refine PySem.W.methodCall_KW (pl := pl) (thn (he pins s σ H _ I h) fun u s1 ⟨x, H1, I1, rx, C, sp, a, dx, fs, hC, ex, ea, l, q⟩ => ?_) ht
  obtain ⟨c, G⟩ := hR C sp hC
  obtain ⟨f, fd, F, hm, hb⟩ := G.ex
  subst ex
  obtain rfl : u = Value.ref a := rx
  refine getmeth_ok I1 ea c hm l ?_
  refine PySem.W.callWith_K (first := [.ref a]) (h₀ := X.base) I.ok.mod.kin hm.kp (thn (ha pos pins s1 σ H1 _ I1 q) fun us s2 ⟨vs, H2, I2, r, q2⟩ => ⟨I2.kIn, ?_⟩) hst hpl
  exact run_lent (us := .ref a :: us) (vs := .ref a :: vs) hfn F hr hb I2 (.cons rfl r) q2
end
theorem KnownM.le {P : Program} {w : World} {K : PySem.W.Frag} {mg : Str → Option Value} {base : Heap} {CX : CXT} {j k : Nat} {C : Addr} {m : Str} {ps : List Str} {sp : Sp} (G : KnownM P w K mg base CX j C m ps sp) (h : j ≤ k) : KnownM P w K mg base CX k C m ps sp := by
  obtain ⟨f, fd, F, hm, hb⟩ := G.ex
  exact ⟨f, fd, F.mono h, hm, hb⟩
end L2

namespace My
open PySem L2
def top (i : Nat) : Stmt := PySem.Challenge.pw_lazycols_k19_whole_looks_where_it_leans.main.body.getD i (.Pass ⟨0, 0, 0, 0⟩)
abbrev s_is_whole : Stmt := top 8
abbrev s_is_number : Stmt := top 9
abbrev s_is_name : Stmt := top 10
abbrev s_is_fault : Stmt := top 11
abbrev s_check_name : Stmt := top 15
abbrev s_checked_names : Stmt := top 16
abbrev s_each_once : Stmt := top 17
abbrev s_look_in_turn : Stmt := top 18
abbrev s_law_drawn : Stmt := top 26
abbrev s_law_whole : Stmt := top 27
abbrev s_law_names : Stmt := top 28
abbrev s_law_value : Stmt := top 29
abbrev s_law_world : Stmt := top 30
abbrev s_law_table : Stmt := top 31
abbrev s_law_look : Stmt := top 32
abbrev s_law_gathered : Stmt := top 33
abbrev s_law_alike : Stmt := top 34
abbrev s_law_picked : Stmt := top 35
abbrev s_law_made : Stmt := top 36
abbrev s_law_changed : Stmt := top 37
abbrev s_law_leans : Stmt := top 38
abbrev s_law_fault : Stmt := top 39
abbrev s_law : Stmt := top 40
abbrev s_Rule_init : Stmt := inCls (top 19) 0
abbrev s_Cells_init : Stmt := inCls (top 20) 0
abbrev s_Cells_leans : Stmt := inCls (top 20) 1
abbrev s_Cells_gather : Stmt := inCls (top 20) 2
abbrev s_Above_init : Stmt := inCls (top 21) 0
abbrev s_Above_leans : Stmt := inCls (top 21) 1
abbrev s_Above_gather : Stmt := inCls (top 21) 2
abbrev s_Group_init : Stmt := inCls (top 22) 0
abbrev s_Group_leans : Stmt := inCls (top 22) 1
abbrev s_Group_gather : Stmt := inCls (top 22) 2
abbrev s_Lookup_init : Stmt := inCls (top 23) 0
abbrev s_Lookup_leans : Stmt := inCls (top 23) 1
abbrev s_Lookup_gather : Stmt := inCls (top 23) 2
abbrev s_Mend_init : Stmt := inCls (top 24) 0
abbrev s_Mend_leans : Stmt := inCls (top 24) 1
abbrev s_Mend_gather : Stmt := inCls (top 24) 2
structure TRule (K : PySem.W.Frag) (mg : Str → Option Value) (C : Addr) : Prop where
  c : mg "Rule" = some (.ref C)
  cl : Cls K C
  mks : PySem.W.makesIn K C = true
  kc : PySem.W.keepIn K (.ref C) = true
  hc : PySem.W.findIn K (.ref C) "__class__" = some (some (.builtin "object.__class__"))
  n_function : NoAttr K C "function"
  m_init : Mth K C "__init__" "Rule.__init__" s_Rule_init
  v_init : ClsM K C "__init__"
  si_Above : ∃ D, mg "Above" = some (.ref D) ∧ PySem.W.kitOne K (.ref C) (.ref D) = some false
  si_Lookup : ∃ D, mg "Lookup" = some (.ref D) ∧ PySem.W.kitOne K (.ref C) (.ref D) = some false
  si_Mend : ∃ D, mg "Mend" = some (.ref D) ∧ PySem.W.kitOne K (.ref C) (.ref D) = some false
  own : PySem.W.mroIn K C (.type "object") = some true ∧ PySem.W.specialIn K (.builtin "object.__class__") "__get__" = some (some (.builtin "getset_descriptor.__get__")) ∧ PySem.W.takesIn K (.builtin "object.__class__") = some true
structure TCells (K : PySem.W.Frag) (mg : Str → Option Value) (C : Addr) : Prop where
  c : mg "Cells" = some (.ref C)
  cl : Cls K C
  mks : PySem.W.makesIn K C = true
  kc : PySem.W.keepIn K (.ref C) = true
  hc : PySem.W.findIn K (.ref C) "__class__" = some (some (.builtin "object.__class__"))
  n_function : NoAttr K C "function"
  n_names : NoAttr K C "names"
  m_init : Mth K C "__init__" "Cells.__init__" s_Cells_init
  m_leans : Mth K C "leans" "Cells.leans" s_Cells_leans
  m_gather : Mth K C "gather" "Cells.gather" s_Cells_gather
  si_Above : ∃ D, mg "Above" = some (.ref D) ∧ PySem.W.kitOne K (.ref C) (.ref D) = some false
  si_Lookup : ∃ D, mg "Lookup" = some (.ref D) ∧ PySem.W.kitOne K (.ref C) (.ref D) = some false
  si_Mend : ∃ D, mg "Mend" = some (.ref D) ∧ PySem.W.kitOne K (.ref C) (.ref D) = some false
  own : PySem.W.mroIn K C (.type "object") = some true ∧ PySem.W.specialIn K (.builtin "object.__class__") "__get__" = some (some (.builtin "getset_descriptor.__get__")) ∧ PySem.W.takesIn K (.builtin "object.__class__") = some true
structure TAbove (K : PySem.W.Frag) (mg : Str → Option Value) (C : Addr) : Prop where
  c : mg "Above" = some (.ref C)
  cl : Cls K C
  mks : PySem.W.makesIn K C = true
  kc : PySem.W.keepIn K (.ref C) = true
  hc : PySem.W.findIn K (.ref C) "__class__" = some (some (.builtin "object.__class__"))
  n_function : NoAttr K C "function"
  n_names : NoAttr K C "names"
  n_first : NoAttr K C "first"
  m_init : Mth K C "__init__" "Above.__init__" s_Above_init
  m_leans : Mth K C "leans" "Above.leans" s_Above_leans
  m_gather : Mth K C "gather" "Above.gather" s_Above_gather
  si_Above : ∃ D, mg "Above" = some (.ref D) ∧ PySem.W.kitOne K (.ref C) (.ref D) = some true
  si_Lookup : ∃ D, mg "Lookup" = some (.ref D) ∧ PySem.W.kitOne K (.ref C) (.ref D) = some false
  si_Mend : ∃ D, mg "Mend" = some (.ref D) ∧ PySem.W.kitOne K (.ref C) (.ref D) = some false
  own : PySem.W.mroIn K C (.type "object") = some true ∧ PySem.W.specialIn K (.builtin "object.__class__") "__get__" = some (some (.builtin "getset_descriptor.__get__")) ∧ PySem.W.takesIn K (.builtin "object.__class__") = some true
structure TGroup (K : PySem.W.Frag) (mg : Str → Option Value) (C : Addr) : Prop where
  c : mg "Group" = some (.ref C)
  cl : Cls K C
  mks : PySem.W.makesIn K C = true
  kc : PySem.W.keepIn K (.ref C) = true
  hc : PySem.W.findIn K (.ref C) "__class__" = some (some (.builtin "object.__class__"))
  n_function : NoAttr K C "function"
  n_key : NoAttr K C "key"
  n_name : NoAttr K C "name"
  m_init : Mth K C "__init__" "Group.__init__" s_Group_init
  m_leans : Mth K C "leans" "Group.leans" s_Group_leans
  m_gather : Mth K C "gather" "Group.gather" s_Group_gather
  si_Above : ∃ D, mg "Above" = some (.ref D) ∧ PySem.W.kitOne K (.ref C) (.ref D) = some false
  si_Lookup : ∃ D, mg "Lookup" = some (.ref D) ∧ PySem.W.kitOne K (.ref C) (.ref D) = some false
  si_Mend : ∃ D, mg "Mend" = some (.ref D) ∧ PySem.W.kitOne K (.ref C) (.ref D) = some false
  own : PySem.W.mroIn K C (.type "object") = some true ∧ PySem.W.specialIn K (.builtin "object.__class__") "__get__" = some (some (.builtin "getset_descriptor.__get__")) ∧ PySem.W.takesIn K (.builtin "object.__class__") = some true
structure TLookup (K : PySem.W.Frag) (mg : Str → Option Value) (C : Addr) : Prop where
  c : mg "Lookup" = some (.ref C)
  cl : Cls K C
  mks : PySem.W.makesIn K C = true
  kc : PySem.W.keepIn K (.ref C) = true
  hc : PySem.W.findIn K (.ref C) "__class__" = some (some (.builtin "object.__class__"))
  n_function : NoAttr K C "function"
  n_key : NoAttr K C "key"
  n_other : NoAttr K C "other"
  n_theirs : NoAttr K C "theirs"
  n_names : NoAttr K C "names"
  m_init : Mth K C "__init__" "Lookup.__init__" s_Lookup_init
  m_leans : Mth K C "leans" "Lookup.leans" s_Lookup_leans
  m_gather : Mth K C "gather" "Lookup.gather" s_Lookup_gather
  si_Above : ∃ D, mg "Above" = some (.ref D) ∧ PySem.W.kitOne K (.ref C) (.ref D) = some false
  si_Lookup : ∃ D, mg "Lookup" = some (.ref D) ∧ PySem.W.kitOne K (.ref C) (.ref D) = some true
  si_Mend : ∃ D, mg "Mend" = some (.ref D) ∧ PySem.W.kitOne K (.ref C) (.ref D) = some false
  own : PySem.W.mroIn K C (.type "object") = some true ∧ PySem.W.specialIn K (.builtin "object.__class__") "__get__" = some (some (.builtin "getset_descriptor.__get__")) ∧ PySem.W.takesIn K (.builtin "object.__class__") = some true
structure TMend (K : PySem.W.Frag) (mg : Str → Option Value) (C : Addr) : Prop where
  c : mg "Mend" = some (.ref C)
  cl : Cls K C
  mks : PySem.W.makesIn K C = true
  kc : PySem.W.keepIn K (.ref C) = true
  hc : PySem.W.findIn K (.ref C) "__class__" = some (some (.builtin "object.__class__"))
  n_function : NoAttr K C "function"
  n_name : NoAttr K C "name"
  m_init : Mth K C "__init__" "Mend.__init__" s_Mend_init
  m_leans : Mth K C "leans" "Mend.leans" s_Mend_leans
  m_gather : Mth K C "gather" "Mend.gather" s_Mend_gather
  si_Above : ∃ D, mg "Above" = some (.ref D) ∧ PySem.W.kitOne K (.ref C) (.ref D) = some false
  si_Lookup : ∃ D, mg "Lookup" = some (.ref D) ∧ PySem.W.kitOne K (.ref C) (.ref D) = some false
  si_Mend : ∃ D, mg "Mend" = some (.ref D) ∧ PySem.W.kitOne K (.ref C) (.ref D) = some true
  own : PySem.W.mroIn K C (.type "object") = some true ∧ PySem.W.specialIn K (.builtin "object.__class__") "__get__" = some (some (.builtin "getset_descriptor.__get__")) ∧ PySem.W.takesIn K (.builtin "object.__class__") = some true
structure Tops (K : PySem.W.Frag) (mg : Str → Option Value) : Prop where
  len : mg "len" = none
  isinstance : mg "isinstance" = none
  int : mg "int" = none
  bool : mg "bool" = none
  str : mg "str" = none
  all : mg "all" = none
  range : mg "range" = none
  abs : mg "abs" = none
  list : mg "list" = none
  tuple : mg "tuple" = none
  max : mg "max" = none
  ValueError : mg "ValueError" = none
  g_LETTERS : ∃ t, mg "LETTERS" = some (.str ("abcdefghijklmnopqrstuvwxyz" : Str) t)
  g_MOST_LETTERS : ∃ t, mg "MOST_LETTERS" = some (.int 8 t)
  g_MOST_NAMES : ∃ t, mg "MOST_NAMES" = some (.int 6 t)
  g_LACKS : ∃ p, mg "LACKS" = some (.ref p) ∧ ∀ H, SqT K H p [V.str ("fault" : Str), V.str ("lacks" : Str)]
  d_is_whole : Def K mg "is_whole" s_is_whole
  d_is_number : Def K mg "is_number" s_is_number
  d_is_name : Def K mg "is_name" s_is_name
  d_is_fault : Def K mg "is_fault" s_is_fault
  d_check_name : Def K mg "check_name" s_check_name
  d_checked_names : Def K mg "checked_names" s_checked_names
  d_each_once : Def K mg "each_once" s_each_once
  d_look_in_turn : Def K mg "look_in_turn" s_look_in_turn
  d_law_drawn : Def K mg "_law_drawn" s_law_drawn
  d_law_whole : Def K mg "_law_whole" s_law_whole
  d_law_names : Def K mg "_law_names" s_law_names
  d_law_value : Def K mg "_law_value" s_law_value
  d_law_world : Def K mg "_law_world" s_law_world
  d_law_table : Def K mg "_law_table" s_law_table
  d_law_look : Def K mg "_law_look" s_law_look
  d_law_gathered : Def K mg "_law_gathered" s_law_gathered
  d_law_alike : Def K mg "_law_alike" s_law_alike
  d_law_picked : Def K mg "_law_picked" s_law_picked
  d_law_made : Def K mg "_law_made" s_law_made
  d_law_changed : Def K mg "_law_changed" s_law_changed
  d_law_leans : Def K mg "_law_leans" s_law_leans
  d_law_fault : Def K mg "_law_fault" s_law_fault
  d_law : Def K mg "law" s_law
  bs : ∃ z_law_gathered z_law_made : Addr × Addr, DefT K mg "_law_gathered" s_law_gathered z_law_gathered ∧ DefT K mg "_law_made" s_law_made z_law_made ∧ z_law_gathered.2 ≠ z_law_made.2
  notabs : PySem.W.noTabs K = true
  t_Rule : ∃ C, TRule K mg C
  t_Cells : ∃ C, TCells K mg C
  t_Above : ∃ C, TAbove K mg C
  t_Group : ∃ C, TGroup K mg C
  t_Lookup : ∃ C, TLookup K mg C
  t_Mend : ∃ C, TMend K mg C
end My

namespace My
open PySem L2
abbrev letters : Str := "abcdefghijklmnopqrstuvwxyz"
def inL (c : Nat) : Bool := !(Builtin.Str.occurrences letters ⟨#[c]⟩ 0 letters.length 1).isEmpty
def nameS (t : Str) : Bool := decide ((1 : Int) ≤ t.length) && decide ((t.length : Int) ≤ 8) && t.cps.toList.all inL
def wholeD : PyData → Bool
  | .int _ => true
  | _ => false
def numD : PyData → Bool
  | .int i => decide ((if i < 0 then -i else i) < 10 ^ (60 : Int).toNat)
  | _ => false
def nameD : PyData → Bool
  | .str t => nameS t
  | _ => false
def faultD : PyData → Bool
  | .tuple [.str z, d] => decide (z = "fault") && nameD d
  | _ => false
/-- a text is short; the texts in a tuple are -/
def shortS (d : PyData) : Prop := ∀ t, d = .str t → t.length ≤ 1000
def shortD (d : PyData) : Prop := ∀ ds, d = .tuple ds → ∀ e ∈ ds, shortS e
theorem shortS_str {t : Str} (h : t.length ≤ 1000) : shortS (.str t) := fun z e => by cases e; exact h
theorem shortD_not {d : PyData} (h : kdD d ≠ .tup) : shortD d := fun z e => by subst e; exact absurd rfl h
theorem shortD_tup {ds : List PyData} (h : ∀ e ∈ ds, shortS e) : shortD (.tuple ds) := fun z e => by cases e; exact h
section
variable {P : Program} {w : World} {K : PySem.W.Frag} {mg : Str → Option Value} {base : Heap}
def spWhole (K : PySem.W.Frag) : Sp := fun vs H Q _ => ∃ x d, vs = [x] ∧ Dt K H x d ∧ Q (.bl (wholeD d)) H
theorem sc_is_whole : FnScope ["thing"] ["thing"] (defScope s_is_whole) := ⟨rfl, rfl, rfl, by decide +kernel, rfl, by decide +kernel, by decide +kernel⟩
theorem k_is_whole (T : Tops K mg) : Known P w K mg base CX0 1 "is_whole" ["thing"] (spWhole K) := by
  refine T.d_is_whole.known sc_is_whole (fun _ _ _ _ _ _ us hl => match us, hl with | [_], _ => rfl) (fun vs H Q E h => ?_) (fun f cdv A outer s H vs Q E hr h => ?_)
  · obtain ⟨x, a, rfl, _⟩ := h
    rfl
  · obtain ⟨x, d, rfl, hd, q⟩ := h
    refine ⟨_, (pss_one (ps_ret (pe_and (pe_callB call_isT rfl T.isinstance b_isinstance (pa_cons (pv 0) (pa_cons (pe_ty T.int b_int) pa_nil))) (pe_one (pe_not (pe_callB call_isT rfl T.isinstance b_isinstance (pa_cons (pv 0) (pa_cons (pe_ty T.bool b_bool) pa_nil)))))))), ?_⟩
    refine ⟨_, rfl, x, "int", d, _, rfl, hd, kit_int K _, _, rfl, ?_⟩
    refine ite2 (fun h1 => ?_) (fun h1 => ?_)
    · refine ⟨_, rfl, x, "bool", d, _, rfl, hd, kit_bool K _, _, rfl, ?_⟩
      have e : (!decide (kdD d = Kd.bl)) = wholeD d := by cases d <;> simp [kdD, wholeD] at h1 ⊢
      show Q (.bl (!decide (kdD d = Kd.bl))) H
      rw [e]
      exact q
    · have e : false = wholeD d := by cases d <;> simp [kdD, wholeD] at h1 ⊢
      show Q (.bl false) H
      rw [e]
      exact q
def spName (K : PySem.W.Frag) : Sp := fun vs H Q _ => ∃ x d, vs = [x] ∧ Dt K H x d ∧ shortS d ∧ ∀ H', Same H H' → Q (.bl (nameD d)) H'
theorem sc_is_name : FnScope ["thing"] ["thing"] (defScope s_is_name) := ⟨rfl, rfl, rfl, by decide +kernel, rfl, by decide +kernel, by decide +kernel⟩
theorem k_is_name (T : Tops K mg) : Known P w K mg base CX0 1 "is_name" ["thing"] (spName K) := by
  refine T.d_is_name.known sc_is_name (fun _ _ _ _ _ _ us hl => match us, hl with | [_], _ => rfl) (fun vs H Q E h => ?_) (fun f cdv A outer s H vs Q E hr h => ?_)
  · obtain ⟨x, a, rfl, _⟩ := h
    rfl
  · obtain ⟨x, d, rfl, hd, hsh, q⟩ := h
    refine ⟨_, (pss_cons (ps_if (PW.pt (pw_or (pt_not (pt_val (pe_callB call_isT rfl T.isinstance b_isinstance (pa_cons (pv 0) (pa_cons (pe_ty T.str b_str) pa_nil))) (fun _ => rfl))) (pw_or1 (pt_not (pt_chain op_le op_le pe_int (pe_callB call_len rfl T.len b_len (pa_cons (pv 0) pa_nil)) (pe_gI T.g_MOST_LETTERS)))))) (pss_one (ps_ret pe_bl)) pss_nil)
      (pss_one (ps_ret (pe_callB (call_all rfl) rfl T.all b_all (pa_cons (pe_comp caps0 rfl rfl (by decide) (pi_str (pv 0)) (fun _ _ _ _ _ => pts_nil) (fun _ _ _ _ _ => (pe_cmpR op_in_str (pv 0) (pe_gS T.g_LETTERS) (by with_unfolding_all rfl)))) pa_nil))))), ?_⟩
    refine ⟨_, rfl, x, "str", d, _, rfl, hd, kit_str K _, _, rfl, ?_⟩
    by_cases hk : kdD d = .str
    · obtain ⟨t, rfl⟩ : ∃ t, d = .str t := by cases d <;> simp [kdD] at hk ⊢
      cases hd
      have ht : t.length ≤ 1000 := hsh t rfl
      refine iteF ?_
      refine ⟨_, rfl, _, _, rfl, ⟨sl ht, rfl⟩, _, _, rfl, rfl, _, rfl, ?_⟩
      refine ite2 (fun h1 => ?_) (fun h1 => ?_)
      · refine ⟨_, _, rfl, rfl, _, rfl, ?_⟩
        refine ite2 (fun h2 => ?_) (fun h2 => ?_)
        · have e : nameD (.str t) = false := by
            show nameS t = false
            unfold nameS
            have : decide ((t.length : Int) ≤ 8) = false := by simpa using h2
            rw [this, Bool.and_false, Bool.false_and]
          rw [← e]
          exact q H (Same.refl H)
        · have h8 : t.cps.size ≤ 8 := by
            have : (t.length : Int) ≤ 8 := by simpa using h2
            show t.length ≤ 8
            omega
          refine ⟨_, rfl, t, rfl, fun D hD => ?_⟩
          refine comp_str (x := t) (fun i ys H2 => ys = (t.cps.toList.take i).map (fun c => V.bl (inL c)) ∧ Same H H2) ⟨rfl, Same.new hD⟩ ?_ ?_
          · rintro i c ys H2 hc h2D ⟨rfl, s2⟩
            have hi : i < t.cps.size := (Array.getElem?_eq_some_iff.mp hc).1
            refine ⟨_, rfl, _, _, rfl, rfl, h2D, ?_, ?_, s2.on hD⟩
            · rw [List.length_map, List.length_take, Array.length_toList]
              exact small1000 (by omega)
            · rw [List.take_add_one, List.map_append, Array.getElem?_toList, hc]
              rfl
          · rintro ys H2 h2D ⟨rfl, s2⟩
            refine ⟨D, t.cps.toList.map inL, rfl, SqL.of ?_, ?_⟩
            · rw [h2D, List.take_of_length_le (by simp), List.map_map]
              rfl
            · have e : nameD (.str t) = (t.cps.toList.map inL).all id := by
                show nameS t = _
                unfold nameS
                have e1 : decide ((1 : Int) ≤ t.length) = true := h1
                have e2 : decide ((t.length : Int) ≤ 8) = true := by simpa using h2
                rw [e1, e2, Bool.true_and, Bool.true_and, List.all_map]
                rfl
              rw [← e]
              exact q H2 s2
      · refine ⟨_, rfl, ?_⟩
        refine iteT ?_
        have e : nameD (.str t) = false := by
          show nameS t = false
          unfold nameS
          have : decide ((1 : Int) ≤ t.length) = false := by simpa using h1
          rw [this, Bool.false_and, Bool.false_and]
        rw [← e]
        exact q H (Same.refl H)
    · rw [decide_eq_false hk]
      refine iteT (iteT ?_)
      have e : nameD d = false := by cases d <;> simp [kdD] at hk <;> rfl
      rw [← e]
      exact q H (Same.refl H)
def spNumber (K : PySem.W.Frag) : Sp := fun vs H Q _ => ∃ x d, vs = [x] ∧ Dt K H x d ∧ Q (.bl (numD d)) H
theorem sc_is_number : FnScope ["thing"] ["thing"] (defScope s_is_number) := ⟨rfl, rfl, rfl, by decide +kernel, rfl, by decide +kernel, by decide +kernel⟩
theorem k_is_number (T : Tops K mg) : Known P w K mg base CX0 2 "is_number" ["thing"] (spNumber K) := by
  have G_is_whole : Known P w K mg base CX0 1 "is_whole" ["thing"] (spWhole K) := k_is_whole T
  refine T.d_is_number.known sc_is_number (fun _ _ _ _ _ _ us hl => match us, hl with | [_], _ => rfl) (fun vs H Q E h => ?_) (fun f cdv A outer s H vs Q E hr h => ?_)
  · obtain ⟨x, a, rfl, _⟩ := h
    rfl
  · obtain ⟨x, d, rfl, hd, q⟩ := h
    refine ⟨_, (pss_one (ps_ret (pe_and (pe_callN G_is_whole (hr.mono (by decide)) pass0 (pa_cons (pv 0) pa_nil)) (pe_one (pe_cmpR op_lt (pe_callB call_abs rfl T.abs b_abs (pa_cons (pv 0) pa_nil)) (pe_op op_pow pe_int pe_int) (nomark _)))))), ?_⟩
    refine ⟨_, rfl, x, d, rfl, hd, _, rfl, ?_⟩
    refine ite2 (fun h1 => ?_) (fun h1 => ?_)
    · obtain ⟨i, rfl⟩ : ∃ i, d = .int i := by cases d <;> simp [wholeD] at h1 ⊢
      cases hd
      exact ⟨_, rfl, i, rfl, _, _, rfl, rfl, ⟨by decide, by decide, by decide⟩, _, _, rfl, rfl, q⟩
    · have e : numD d = false := by cases d <;> simp [wholeD] at h1 <;> rfl
      show Q (.bl false) H
      rw [← e]
      exact q
def spFault (K : PySem.W.Frag) : Sp := fun vs H Q _ => ∃ x d, vs = [x] ∧ Dt K H x d ∧ shortD d ∧ ∀ H', Same H H' → Q (.bl (faultD d)) H'
theorem sc_is_fault : FnScope ["thing"] ["thing"] (defScope s_is_fault) := ⟨rfl, rfl, rfl, by decide +kernel, rfl, by decide +kernel, by decide +kernel⟩
theorem faultD_len {ds : List PyData} (h : ds.length ≠ 2) : faultD (.tuple ds) = false := by
  match ds, h with
  | [], _ => rfl
  | [a], _ => cases a <;> rfl
  | [a, b], h => exact absurd rfl h
  | a :: b :: c :: r, _ => cases a <;> rfl
theorem k_is_fault (T : Tops K mg) : Known P w K mg base CX0 2 "is_fault" ["thing"] (spFault K) := by
  have G_is_name : Known P w K mg base CX0 1 "is_name" ["thing"] (spName K) := k_is_name T
  refine T.d_is_fault.known sc_is_fault (fun _ _ _ _ _ _ us hl => match us, hl with | [_], _ => rfl) (fun vs H Q E h => ?_) (fun f cdv A outer s H vs Q E hr h => ?_)
  · obtain ⟨x, a, rfl, _⟩ := h
    rfl
  · obtain ⟨x, d, rfl, hd, hsh, q⟩ := h
    refine ⟨_, (pss_cons (ps_if (PW.pt (pw_or (pt_not (pt_val (pe_callB call_isT rfl T.isinstance b_isinstance (pa_cons (pv 0) (pa_cons (pe_ty T.tuple b_tuple) pa_nil))) (fun _ => rfl))) (pw_or1 (pt_cmpR op_ne (pe_callB call_len rfl T.len b_len (pa_cons (pv 0) pa_nil)) pe_int (nomark _))))) (pss_one (ps_ret pe_bl)) pss_nil)
      (pss_one (ps_ret (pe_and (pe_callB call_isT rfl T.isinstance b_isinstance (pa_cons (pe_ix ix_tup (pv 0) pe_int (fun _ _ => rfl)) (pa_cons (pe_ty T.str b_str) pa_nil))) (pe_and (pe_cmpR op_eq (pe_ix ix_tup (pv 0) pe_int (fun _ _ => rfl)) pe_str (nomark _)) (pe_one (pe_callN G_is_name (hr.mono (by decide)) pass0 (pa_cons (pe_ix ix_tup (pv 0) pe_int (fun _ _ => rfl)) pa_nil)))))))), ?_⟩
    refine ⟨_, rfl, x, "tuple", d, _, rfl, hd, kit_tuple K _, _, rfl, ?_⟩
    by_cases hk : kdD d = .tup
    · obtain ⟨ds, rfl⟩ : ∃ ds, d = .tuple ds := by cases d <;> simp [kdD] at hk ⊢
      cases hd with
      | @tup a xs _ hq hall =>
        refine iteF ?_
        refine ⟨_, rfl, _, _, rfl, .inr ⟨_, hq, rfl⟩, rfl, _, rfl, ?_⟩
        have hl := hall.length
        refine ite2 (fun h1 => ?_) (fun h1 => ?_)
        · have h1' : xs.length ≠ 2 := by
            intro z
            rw [z] at h1
            exact absurd h1 (by decide)
          have e := faultD_len (ds := ds) (by rw [← hl]; exact h1')
          rw [← e]
          exact q H (Same.refl H)
        · have h1' : xs.length = 2 := by
            have z : ¬ (!decide (V.int (xs.length : Int) = V.int 2)) = true := h1
            have z2 : (xs.length : Int) = 2 := by simpa using z
            omega
          match xs, ds, hall, h1', hl with
          | [y, z], _, .cons (d := d1) h2 (.cons (d := d2) h3 .nil), _, _ =>
            have a0 : atI [y, z] 0 = some y := rfl
            have a1 : atI [y, z] 1 = some z := rfl
            refine ⟨_, rfl, _, _, _, _, rfl, rfl, hq, a0, y, "str", d1, _, rfl, h2, kit_str K _, _, rfl, ?_⟩
            refine ite2 (fun h4 => ?_) (fun h4 => ?_)
            · obtain ⟨t, rfl⟩ : ∃ t, d1 = .str t := by cases d1 <;> simp [kdD] at h4 ⊢
              cases h2
              refine ⟨_, rfl, _, _, _, _, rfl, rfl, hq, a0, rfl, _, rfl, ?_⟩
              refine ite2 (fun h5 => ?_) (fun h5 => ?_)
              · have h5' : t = "fault" := by
                  have z5 : V.str t = V.str "fault" := by simpa using h5
                  exact V.str.inj z5
                refine ⟨_, rfl, _, _, _, _, rfl, rfl, hq, a1, z, d2, rfl, h3, hsh _ rfl _ (List.mem_cons_of_mem _ List.mem_cons_self), fun H' s' => ?_⟩
                · have e : faultD (.tuple [.str t, d2]) = nameD d2 := by
                    show (decide (t = "fault") && nameD d2) = nameD d2
                    rw [decide_eq_true h5', Bool.true_and]
                  rw [← e]
                  exact q H' s'
              · have h5' : t ≠ "fault" := fun z5 => h5 (by rw [z5]; rfl)
                have e : faultD (.tuple [.str t, d2]) = false := by
                  show (decide (t = "fault") && nameD d2) = false
                  rw [decide_eq_false h5', Bool.false_and]
                show Q (.bl false) H
                rw [← e]
                exact q H (Same.refl H)
            · have e : faultD (.tuple [d1, d2]) = false := by cases d1 <;> simp [kdD] at h4 <;> rfl
              show Q (.bl false) H
              rw [← e]
              exact q H (Same.refl H)
    · rw [decide_eq_false hk]
      refine iteT (iteT ?_)
      have e : faultD d = false := by cases d <;> simp [kdD] at hk <;> rfl
      rw [← e]
      exact q H (Same.refl H)
end
end My

namespace My
open PySem L2
def drawZ (ns : List Int) (k sz : Int) : Int := (104729 * k * k + 48271 + (if 0 < (ns.length : Int) then ns.getD (k % ns.length).toNat 0 % 10 ^ 40 * (2 * k + 69621) else 0)) % 2147483647 / 3 % sz
theorem drawZ_nn (ns : List Int) (k : Int) {sz : Int} (h : 0 < sz) : 0 ≤ drawZ ns k sz := Int.emod_nonneg _ (Int.ne_of_gt h)
theorem drawZ_lt (ns : List Int) (k : Int) {sz : Int} (h : 0 < sz) : drawZ ns k sz < sz := Int.emod_lt_of_pos _ h
section
variable {P : Program} {w : World} {K : PySem.W.Frag} {mg : Str → Option Value} {base : Heap}
def spDrawn (K : PySem.W.Frag) : Sp := fun vs H Q _ => ∃ (a : Addr) (ns : List Int) (k sz : Int), vs = [.ref a, .int k, .int sz] ∧ SqL K H a (ns.map V.int) ∧ ns.length ≤ 63 ∧ 0 ≤ k ∧ k ≤ 1000000 ∧ 0 < sz ∧ Q (.int (drawZ ns k sz)) H
theorem sc_law_drawn : FnScope ["_law_script", "_law_k", "_law_size", "_law_number"] ["_law_script", "_law_k", "_law_size"] (defScope s_law_drawn) := ⟨rfl, rfl, rfl, by decide +kernel, rfl, by decide +kernel, by decide +kernel⟩
theorem k_law_drawn (T : Tops K mg) : Known P w K mg base CX0 1 "_law_drawn" ["_law_script", "_law_k", "_law_size"] (spDrawn K) := by
  refine T.d_law_drawn.known sc_law_drawn (fun _ _ _ _ _ _ us hl => match us, hl with | [_, _, _], _ => rfl) (fun vs H Q E h => ?_) (fun f cdv A outer s H vs Q E hr h => ?_)
  · obtain ⟨a, ns, k, sz, rfl, _⟩ := h
    rfl
  · obtain ⟨a, ns, k, sz, rfl, hS, hl, h0, h6, hz, q⟩ := h
    refine ⟨_, (pss_cons (ps_set (i := 3) sc_law_drawn.nd rfl (Or.inl rfl) (pe_op op_add (pe_op op_mul (pe_op op_mul pe_int (pv 1)) (pv 1)) pe_int))
      (pss_cons (ps_if (pt_cmpR op_gt (pe_callB call_len rfl T.len b_len (pa_cons (pv 0) pa_nil)) pe_int (nomark _)) (pss_one (ps_set (i := 3) sc_law_drawn.nd rfl (Or.inl rfl) (pe_op op_add (pv 3) (pe_op op_mul (pe_op op_mod (pe_ix ix_list (pv 0) (pe_op op_mod (pv 1) (pe_callB call_len rfl T.len b_len (pa_cons (pv 0) pa_nil))) (fun _ _ => rfl)) (pe_op op_pow pe_int pe_int)) (pe_op op_add (pe_op op_mul pe_int (pv 1)) pe_int))))) pss_nil)
      (pss_one (ps_ret (pe_op op_mod (pe_op op_fdiv (pe_op op_mod (pv 3) pe_int) pe_int) (pv 2)))))), ?_⟩
    have el : ((ns.map V.int).length : Int) = (ns.length : Int) := by rw [List.length_map]
    have fin : ∀ n : Int, drawZ ns k sz = n % 2147483647 / 3 % sz →
        tRet (tOp (rI (fun _ j => 0 < j) fun i j => .int (i % j)) (tOp (rI CDiv fun i j => .int (i / j)) (tOp (rI (fun _ j => 0 < j) fun i j => .int (i % j)) (tVar 3) (tC (.int 2147483647))) (tC (.int 3))) (tVar 2))
          { nx := fun _ H' => Q .non H', rt := Q } [some (.ref a), some (.int k), some (.int sz), some (.int n)] H := fun n e => by
      refine ⟨_, rfl, _, _, rfl, rfl, (show (0 : Int) < 2147483647 by decide), _, _, rfl, rfl, ⟨by decide, by decide⟩, _, rfl, _, _, rfl, rfl, hz, ?_⟩
      show Q (.int (n % 2147483647 / 3 % sz)) H
      rw [← e]
      exact q
    refine ⟨_, rfl, _, _, rfl, rfl, .inl ⟨by decide, by decide⟩, _, rfl, _, _, rfl, rfl, .inr ⟨by omega, by omega⟩, _, _, rfl, rfl, ?_⟩
    refine ⟨_, rfl, _, _, rfl, .inl ⟨_, hS, rfl⟩, _, _, rfl, rfl, _, rfl, ?_⟩
    rw [el]
    refine ite2 (fun h2 => ?_) (fun h2 => ?_)
    · have h2' : 0 < (ns.length : Int) := by simpa using h2
      have hm := Int.emod_nonneg k (Int.ne_of_gt h2')
      have hm' := Int.emod_lt_of_pos k h2'
      refine ⟨_, rfl, _, rfl, _, rfl, _, rfl, _, _, rfl, .inl ⟨_, hS, rfl⟩, _, _, rfl, rfl, by rw [el]; exact h2', a, _, _, _, rfl, rfl, hS, by rw [el]; exact at_map ns _ hm hm', ?_⟩
      refine ⟨_, _, rfl, rfl, ⟨by decide, by decide, by decide⟩, _, _, rfl, rfl, (show (0 : Int) < 10 ^ 40 by decide), _, rfl, _, _, rfl, rfl, .inl ⟨by decide, by decide⟩, _, _, rfl, rfl, _, _, rfl, rfl, .inr ⟨by omega, by omega⟩, _, _, rfl, rfl, ?_⟩
      refine fin _ ?_
      unfold drawZ
      rw [if_pos h2']
      rfl
    · have h2' : ¬ 0 < (ns.length : Int) := by simpa using h2
      refine fin _ ?_
      unfold drawZ
      rw [if_neg h2', Int.add_zero]
end
end My

namespace My
open PySem L2
theorem slice_hi {x : Str} {a : Nat} : Txt.slice x (some (a : Int)) none = Txt.slice x (some (a : Int)) (some (x.length : Int)) := by
  have e : Builtin.Str.strSliceIndices (some (a : Int)) none 1 x.length = Builtin.Str.strSliceIndices (some (a : Int)) (some (x.length : Int)) 1 x.length := by
    have e1 : max (0 : Int) (min (x.length : Int) (x.length : Int)) = (x.length : Int) := by omega
    have e2 : ¬ ((x.length : Int) < 0) := by omega
    simp [Builtin.Str.strSliceIndices, e1, e2]
  unfold Txt.slice
  rw [e]
theorem ab_at : ∀ j : Nat, j < 26 → letters.cps.toList[j]? = some (97 + j) := by decide +kernel
theorem ab_ix : ∀ c ∈ letters.cps.toList, Builtin.Str.occurrences letters ⟨#[c]⟩ 0 letters.length 1 = [c - 97] ∧ 97 ≤ c ∧ c < 123 := by decide +kernel
theorem ab_len : letters.cps.toList.length = 26 := by decide +kernel
theorem ab_mem {j : Nat} (h : j < 26) : 97 + j ∈ letters.cps.toList := List.mem_of_getElem? (ab_at j h)
/-- a name, by its letters -/
def Nl (t : Str) : Prop := 1 ≤ t.length ∧ t.length ≤ 8 ∧ ∀ c ∈ t.cps.toList, c ∈ letters.cps.toList
theorem catL_len (a b : Str) : (a ++ b).length = a.length + b.length := by
  show (a.cps ++ b.cps).size = _
  rw [Array.size_append]
  rfl
theorem catL_mem {a b : Str} {c : Nat} (h : c ∈ (a ++ b).cps.toList) : c ∈ a.cps.toList ∨ c ∈ b.cps.toList := by
  have h' : c ∈ (a.cps ++ b.cps).toList := h
  rwa [Array.toList_append, List.mem_append] at h'
/-- the i-th name: the word with another letter at a place -/
def nmI (wd : Str) (p : Nat) (ix i : Nat) : Str := Txt.slice wd none (some (p : Int)) ++ ⟨#[97 + (ix + i) % 26]⟩ ++ Txt.slice wd (some ((p + 1 : Nat) : Int)) none
theorem nmI_len {wd : Str} {p ix i : Nat} (h : p < wd.length) : (nmI wd p ix i).length = wd.length := by
  unfold nmI
  rw [catL_len, catL_len, slice_0, slice_len (Nat.zero_le _) (Nat.le_of_lt h), slice_hi, slice_len (by omega) (Nat.le_refl _)]
  show p - 0 + 1 + (wd.length - (p + 1)) = wd.length
  omega
theorem nmI_nl {wd : Str} {p ix i : Nat} (h : p < wd.length) (hw : Nl wd) : Nl (nmI wd p ix i) := by
  refine ⟨by rw [nmI_len h]; exact hw.1, by rw [nmI_len h]; exact hw.2.1, fun c hc => ?_⟩
  unfold nmI at hc
  rcases catL_mem hc with hc | hc
  · rcases catL_mem hc with hc | hc
    · exact hw.2.2 c (slice_mem hc)
    · have : c = 97 + (ix + i) % 26 := by simpa using hc
      rw [this]
      exact ab_mem (Nat.mod_lt _ (by decide))
  · exact hw.2.2 c (slice_mem hc)
theorem nmI_inj {wd : Str} {p ix i j : Nat} (hi : i < 26) (hj : j < 26) (e : nmI wd p ix i = nmI wd p ix j) : i = j := by
  unfold nmI at e
  have e1 := congrArg (fun s : Str => s.cps.toList) e
  have f : ∀ (a b c : Str), (a ++ b ++ c).cps.toList = a.cps.toList ++ (b.cps.toList ++ c.cps.toList) := fun a b c => by
    show (a.cps ++ b.cps ++ c.cps).toList = _
    rw [Array.toList_append, Array.toList_append, List.append_assoc]
  simp only [f] at e1
  have e2 := List.append_cancel_left e1
  have e3 : 97 + (ix + i) % 26 = 97 + (ix + j) % 26 := by
    have := congrArg List.head? e2
    simpa using this
  omega
def nmsI (wd : Str) (p ix n : Nat) : List Str := (List.range n).map (nmI wd p ix)
theorem nmsI_nodup {wd : Str} {p ix n : Nat} (h : n ≤ 26) : (nmsI wd p ix n).Nodup := by
  unfold nmsI
  rw [List.nodup_iff_pairwise_ne, List.pairwise_map]
  refine List.Pairwise.imp_of_mem (fun {a b} ha hb hne e => ?_) (List.nodup_iff_pairwise_ne.mp List.nodup_range)
  exact hne (nmI_inj (Nat.lt_of_lt_of_le (List.mem_range.mp ha) h) (Nat.lt_of_lt_of_le (List.mem_range.mp hb) h) e)
section
variable {P : Program} {w : World} {K : PySem.W.Frag} {mg : Str → Option Value} {base : Heap}
def spNames2 (K : PySem.W.Frag) : Sp := fun vs H Q _ => ∃ (a : Addr) (ns : List Int) (m : Nat), vs = [.ref a, .int m] ∧ SqL K H a (ns.map V.int) ∧ ns.length ≤ 63 ∧ m ≤ 26 ∧
  ∀ H' p (zs : List Str), Same H H' → H' p = some (.lst (zs.map V.str)) → H p = none → zs.length = m → (∀ z ∈ zs, Nl z) → zs.Nodup → Q (.ref p) H'
abbrev Nnames2 : List Str := ["_law_script", "_law_many", "_law_letters", "_law_word", "_law_k", "_law_at", "_law_names_here", "_law_sign"]
theorem sc_law_names : FnScope Nnames2 ["_law_script", "_law_many"] (defScope s_law_names) := ⟨rfl, rfl, rfl, by decide +kernel, rfl, by decide +kernel, by decide +kernel⟩
theorem k_law_names (T : Tops K mg) : Known P w K mg base CX0 2 "_law_names" ["_law_script", "_law_many"] (spNames2 K) := by
  have G_law_drawn : Known P w K mg base CX0 1 "_law_drawn" ["_law_script", "_law_k", "_law_size"] (spDrawn K) := k_law_drawn T
  refine T.d_law_names.known sc_law_names (fun _ _ _ _ _ _ us hl => match us, hl with | [_, _], _ => rfl) (fun vs H Q E h => ?_) (fun f cdv A outer s H vs Q E hr h => ?_)
  · obtain ⟨a, ns, m, rfl, _⟩ := h
    rfl
  · obtain ⟨a, ns, m, rfl, hS, hl, hm, q⟩ := h
    refine ⟨_, (pss_cons (ps_set (i := 2) sc_law_names.nd rfl (Or.inl rfl) pe_str)
      (pss_cons (ps_set (i := 3) sc_law_names.nd rfl (Or.inl rfl) pe_str)
      (pss_cons (ps_for PassesOwn.never rfl (pi_range1 rfl T.range (pa_cons (pe_op op_add pe_int (pe_callN G_law_drawn (hr.mono (by decide)) pass0 (pa_cons (pv 0) (pa_cons pe_int (pa_cons pe_int pa_nil))))) pa_nil)) (pg_name (i := 4) sc_law_names.nd rfl (Or.inl rfl)) (pss_one (ps_set (i := 3) sc_law_names.nd rfl (Or.inl rfl) (pe_op op_add_str (pv 3) (pe_ix ix_str (pv 2) (pe_callN G_law_drawn (hr.mono (by decide)) pass0 (pa_cons (pv 0) (pa_cons (pe_op op_add pe_int (pv 4)) (pa_cons pe_int pa_nil)))) (fun _ _ => rfl))))))
      (pss_cons (ps_set (i := 5) sc_law_names.nd rfl (Or.inl rfl) (pe_callN G_law_drawn (hr.mono (by decide)) pass0 (pa_cons (pv 0) (pa_cons pe_int (pa_cons (pe_callB call_len_str rfl T.len b_len (pa_cons (pv 3) pa_nil)) pa_nil)))))
      (pss_cons (ps_set (i := 6) sc_law_names.nd rfl (Or.inl rfl) (pe_lst pa_nil))
      (pss_cons (ps_for PassesOwn.never rfl (pi_range1 rfl T.range (pa_cons (pv 1) pa_nil)) (pg_name (i := 4) sc_law_names.nd rfl (Or.inl rfl)) (pss_cons (ps_set (i := 7) sc_law_names.nd rfl (Or.inl rfl) (pe_ix ix_str (pv 2) (pe_op op_mod (pe_op op_add (pe_bm PySem.F.plainAttrs_str PySem.F.slot_str_index PySem.F.type_str_index mt_indexS (pv 2) (pa_cons (pe_ix ix_str (pv 3) (pv 5) (fun _ _ => rfl)) pa_nil)) (pv 4)) pe_int) (fun _ _ => rfl)))
      (pss_one (ps_expr (pe_bm PySem.F.plainAttrs_list PySem.F.slot_list_append PySem.F.type_list_append mt_append (pv 6) (pa_cons (pe_op op_add_str (pe_op op_add_str (pe_slice sl_str (pv 3) po_none (po_some (pv 5))) (pv 7)) (pe_slice sl_str (pv 3) (po_some (pe_op op_add (pv 5) pe_int)) po_none)) pa_nil))))))
      (pss_one (ps_ret (pv 6))))))))), ?_⟩
    have d0 := drawZ_nn ns 1 (show (0 : Int) < 8 by decide)
    have d1 := drawZ_lt ns 1 (show (0 : Int) < 8 by decide)
    obtain ⟨n, en, hn⟩ : ∃ n : Nat, 1 + drawZ ns 1 8 = ((n + 1 : Nat) : Int) ∧ n ≤ 7 := ⟨(drawZ ns 1 8).toNat, by omega, by omega⟩
    refine ⟨_, rfl, a, ns, 1, 8, rfl, hS, hl, by decide, by decide, by decide, _, _, rfl, rfl, _, rfl, by omega, by omega, ?_⟩
    rw [en, Int.toNat_natCast]
    refine for_range (lo := 0) (n := n + 1) (fun i σ H2 => ∃ (wd : Str) (o : Option V), σ = [some (.ref a), some (.int m), some (.str letters), some (.str wd), o, none, none, none] ∧ H = H2 ∧ wd.length = i ∧ ∀ c ∈ wd.cps.toList, c ∈ letters.cps.toList) ⟨_, _, rfl, rfl, rfl, fun c hc => by cases hc⟩ ?_ ?_
    · rintro i σ H2 hi ⟨wd, o, rfl, rfl, hwl, hwc⟩
      have e0 := drawZ_nn ns (2 + (0 + (i : Int))) (show (0 : Int) < 26 by decide)
      have e1 := drawZ_lt ns (2 + (0 + (i : Int))) (show (0 : Int) < 26 by decide)
      obtain ⟨c, hat, hcm⟩ := at_some letters.cps.toList (drawZ ns (2 + (0 + (i : Int))) 26) e0 (by rw [ab_len]; exact e1)
      refine ⟨_, rfl, _, rfl, _, rfl, _, rfl, _, _, rfl, rfl, a, ns, _, 26, rfl, hS, hl, by omega, by omega, by decide, letters, _, c, rfl, rfl, (by decide +kernel), hat, _, _, rfl, rfl, sl (by rw [hwl]; show i + 1 ≤ 1000; omega), ?_⟩
      refine ⟨_, _, rfl, rfl, by rw [catL_len, hwl]; rfl, fun k hk => ?_⟩
      rcases catL_mem hk with hk | hk
      · exact hwc k hk
      · have : k = c := by simpa using hk
        rw [this]
        exact List.mem_of_getElem? hcm
    · rintro σ H2 ⟨wd, o, rfl, rfl, hwl, hwc⟩
      have hw : Nl wd := ⟨by omega, by omega, hwc⟩
      have hpos : (0 : Int) < (wd.length : Int) := by omega
      have f0 := drawZ_nn ns 10 hpos
      have f1 := drawZ_lt ns 10 hpos
      obtain ⟨p, ep, hp⟩ : ∃ p : Nat, drawZ ns 10 (wd.length : Int) = (p : Int) ∧ p < wd.length := ⟨(drawZ ns 10 (wd.length : Int)).toNat, by omega, by omega⟩
      obtain ⟨c, hatc, hcm⟩ := at_some wd.cps.toList (p : Int) (by omega) (by rw [Array.length_toList]; show (p : Int) < (wd.length : Int); omega)
      have hc := hwc c (List.mem_of_getElem? hcm)
      obtain ⟨hoc, hc1, hc2⟩ := ab_ix c hc
      refine ⟨_, rfl, _, rfl, wd, rfl, sl (by omega), a, ns, 10, _, rfl, hS, hl, by decide, by decide, hpos, ?_⟩
      rw [ep]
      refine ⟨sl, fun l hl0 => ?_⟩
      refine ⟨_, rfl, (m : Int), rfl, by omega, by omega, ?_⟩
      rw [Int.toNat_natCast]
      refine for_range (lo := 0) (n := m) (fun i σ H2 => ∃ (o1 o2 : Option V), σ = [some (.ref a), some (.int m), some (.str letters), some (.str wd), o1, some (.int p), some (.ref l), o2] ∧ Same H H2 ∧ H2 l = some (.lst ((nmsI wd p (c - 97) i).map V.str))) ⟨_, _, rfl, Same.new hl0, upd_same⟩ ?_ ?_
      · rintro i σ H2 hi ⟨o1, o2, rfl, s2, h2⟩
        have g0 := Int.emod_nonneg (((c - 97 : Nat) : Int) + (0 + (i : Int))) (show (26 : Int) ≠ 0 by decide)
        have g1 := Int.emod_lt_of_pos (((c - 97 : Nat) : Int) + (0 + (i : Int))) (show (0 : Int) < 26 by decide)
        obtain ⟨d, hatd, hdm⟩ := at_some letters.cps.toList ((((c - 97 : Nat) : Int) + (0 + (i : Int))) % 26) g0 (by rw [ab_len]; exact g1)
        have ed : d = 97 + (c - 97 + i) % 26 := by
          have e1 : ((((c - 97 : Nat) : Int) + (0 + (i : Int))) % 26).toNat = (c - 97 + i) % 26 := by omega
          rw [e1, ab_at _ (Nat.mod_lt _ (by decide))] at hdm
          exact (Option.some.inj hdm).symm
        subst ed
        have l1 : (Txt.slice wd none (some (p : Int))).length = p := by rw [slice_0, slice_len (Nat.zero_le _) (Nat.le_of_lt hp)]; omega
        have l2 : (Txt.slice wd (some ((p : Int) + 1)) none).length = wd.length - (p + 1) := by
          have : ((p : Int) + 1) = ((p + 1 : Nat) : Int) := by omega
          rw [this, slice_hi, slice_len (by omega) (Nat.le_refl _)]
        have hwd8 := hw.2.1
        have ell : (nmsI wd p (c - 97) i).length = i := by unfold nmsI; rw [List.length_map, List.length_range]
        refine ⟨_, rfl, _, rfl, rfl, _, rfl, _, rfl, wd, _, c, rfl, rfl, sl (by omega), hatc, letters, _, c - 97, [], rfl, rfl, hoc, _, rfl, _, _, rfl, rfl, _, _, rfl, rfl, (show (0 : Int) < 26 by decide), letters, _, _, rfl, rfl, (by decide +kernel), hatd, ?_⟩
        refine ⟨_, rfl, .inl ⟨rfl, _, SqL.of h2⟩, _, rfl, _, rfl, _, rfl, _, rfl, sl (by omega), _, rfl, _, _, rfl, rfl, sl (by rw [l1]; show p + 1 ≤ 1000; omega), ?_⟩
        refine ⟨_, rfl, _, rfl, _, _, rfl, rfl, _, rfl, _, rfl, sl (by omega), _, _, rfl, rfl, sl (by rw [catL_len, l1, l2]; show p + 1 + _ ≤ 1000; omega), l, _, _, rfl, rfl, h2, ?_, ?_⟩
        · rw [List.length_map, ell]
          exact small1000 (by omega)
        · refine ⟨_, _, rfl, s2.on hl0, ?_⟩
          rw [upd_same]
          have e2 : nmsI wd p (c - 97) (i + 1) = nmsI wd p (c - 97) i ++ [nmI wd p (c - 97) i] := by
            unfold nmsI
            rw [List.range_succ, List.map_append]
            rfl
          rw [e2, List.map_append]
          rfl
      · rintro σ H2 ⟨o1, o2, rfl, s2, h2⟩
        refine ⟨_, rfl, q H2 l _ s2 h2 hl0 (by unfold nmsI; rw [List.length_map, List.length_range]) (fun z hz => ?_) (nmsI_nodup hm)⟩
        obtain ⟨i, _, rfl⟩ := List.mem_map.mp hz
        exact nmI_nl hp hw
end
end My

namespace My
open PySem L2
theorem Nl.name {t : Str} (h : Nl t) : nameS t = true := by
  unfold nameS
  have a1 : decide ((1 : Int) ≤ t.length) = true := by rw [decide_eq_true_eq]; have := h.1; omega
  have a2 : decide ((t.length : Int) ≤ 8) = true := by rw [decide_eq_true_eq]; have := h.2.1; omega
  have a3 : t.cps.toList.all inL = true := by
    rw [List.all_eq_true]
    intro c hc
    have : ∀ c ∈ letters.cps.toList, inL c = true := by decide +kernel
    exact this c (h.2.2 c hc)
  rw [a1, a2, a3]
  rfl
theorem Nl.lay {z : Str} (h : Nl z) : PyData.canLay0 (.str z) = true := by
  obtain ⟨⟨l⟩⟩ := z
  have : ∀ c ∈ letters.cps.toList, c < 128 := by decide +kernel
  exact lay_text fun c hc => this c (h.2.2 c hc)
theorem spD_lay {p : Str × Str} (h1 : Nl p.1) (h2 : Nl p.2) : (spD p).canLay0 = true := by
  show PyData.canLayAll0 [.str p.1, .str p.2] = true
  show (PyData.canLay0 (.str p.1) && (PyData.canLay0 (.str p.2) && true)) = true
  rw [h1.lay, h2.lay]
  rfl
/-- spots of good names -/
def Spots (K : PySem.W.Frag) (H : Hp) (xs : List V) (ps : List (Str × Str)) : Prop := DtAll K H xs (ps.map spD) ∧ ∀ p ∈ ps, Nl p.1 ∧ Nl p.2
theorem lay_spots : ∀ {ps : List (Str × Str)}, (∀ p ∈ ps, Nl p.1 ∧ Nl p.2) → (PyData.list (ps.map spD)).canLay0 = true
  | [], _ => rfl
  | p :: ps, h => by
    show ((spD p).canLay0 && PyData.canLayAll0 (ps.map spD)) = true
    have e : PyData.canLayAll0 (ps.map spD) = true := lay_spots fun q hq => h q (List.mem_cons_of_mem _ hq)
    rw [e, spD_lay (h p List.mem_cons_self).1 (h p List.mem_cons_self).2]
    rfl
theorem Spots.lay {K : PySem.W.Frag} {H : Hp} {xs : List V} {ps : List (Str × Str)} (h : Spots K H xs ps) : (PyData.list (ps.map spD)).canLay0 = true := lay_spots h.2
theorem DtAll.snoc {K : PySem.W.Frag} {H : Hp} : ∀ {xs : List V} {ds : List PyData} {x : V} {d : PyData}, DtAll K H xs ds → Dt K H x d → DtAll K H (xs ++ [x]) (ds ++ [d])
  | _, _, _, _, .nil, h => .cons h .nil
  | _, _, _, _, .cons h t, q => .cons h (DtAll.snoc t q)
section
variable {P : Program} {w : World} {K : PySem.W.Frag} {mg : Str → Option Value} {base : Heap}
def spCName : Sp := fun vs H Q _ => ∃ z : Str, vs = [.str z] ∧ Nl z ∧ ∀ H', Same H H' → Q .non H'
theorem sc_check_name : FnScope ["name"] ["name"] (defScope s_check_name) := ⟨rfl, rfl, rfl, by decide +kernel, rfl, by decide +kernel, by decide +kernel⟩
theorem k_check_name (T : Tops K mg) : Known P w K mg base CX0 2 "check_name" ["name"] spCName := by
  have G_is_name : Known P w K mg base CX0 1 "is_name" ["thing"] (spName K) := k_is_name T
  refine T.d_check_name.known sc_check_name (fun _ _ _ _ _ _ us hl => match us, hl with | [_], _ => rfl) (fun vs H Q E h => ?_) (fun f cdv A outer s H vs Q E hr h => ?_)
  · obtain ⟨z, rfl, _⟩ := h
    rfl
  · obtain ⟨z, rfl, hz, q⟩ := h
    refine ⟨_, (pss_one (ps_if (pt_not (pt_val (pe_callN G_is_name (hr.mono (by decide)) pass0 (pa_cons (pv 0) pa_nil)) (fun _ => rfl))) (pss_one ps_dead) pss_nil)), ?_⟩
    have h8 := hz.2.1
    refine ⟨_, rfl, _, _, rfl, .str z, shortS_str (by omega), fun H' s' => ⟨_, rfl, ?_⟩⟩
    rw [show nameD (.str z) = true from hz.name]
    exact iteF (q H' s')
def spCNames (K : PySem.W.Frag) : Sp := fun vs H Q _ => ∃ (a : Addr) (zs : List Str), vs = [.ref a] ∧ SqL K H a (zs.map V.str) ∧ zs.length ≤ 6 ∧ (∀ z ∈ zs, Nl z) ∧ ∀ H' l, Same H H' → H l = none → H' l = some (.lst (zs.map V.str)) → Q (.ref l) H'
theorem dt_strs {K : PySem.W.Frag} {H : Hp} : ∀ zs : List Str, DtAll K H (zs.map V.str) (zs.map PyData.str)
  | [] => .nil
  | z :: zs => .cons (.str z) (dt_strs zs)
theorem sc_checked_names : FnScope ["names", "name"] ["names"] (defScope s_checked_names) := ⟨rfl, rfl, rfl, by decide +kernel, rfl, by decide +kernel, by decide +kernel⟩
theorem k_checked_names (T : Tops K mg) : Known P w K mg base CX0 3 "checked_names" ["names"] (spCNames K) := by
  have G_check_name : Known P w K mg base CX0 2 "check_name" ["name"] spCName := k_check_name T
  refine T.d_checked_names.known sc_checked_names (fun _ _ _ _ _ _ us hl => match us, hl with | [_], _ => rfl) (fun vs H Q E h => ?_) (fun f cdv A outer s H vs Q E hr h => ?_)
  · obtain ⟨a, zs, rfl, _⟩ := h
    rfl
  · obtain ⟨a, zs, rfl, hq, h6, hz, q⟩ := h
    refine ⟨_, (pss_cons (ps_if (PW.pt (pw_or (pt_not (pt_val (pe_callB call_isT rfl T.isinstance b_isinstance (pa_cons (pv 0) (pa_cons (pe_ty T.list b_list) pa_nil))) (fun _ => rfl))) (pw_or1 (pt_cmpR op_gt (pe_callB call_len rfl T.len b_len (pa_cons (pv 0) pa_nil)) (pe_gI T.g_MOST_NAMES) (nomark _))))) (pss_one ps_dead) pss_nil)
      (pss_cons (ps_for PassesOwn.never rfl (pi_list (pv 0)) (pg_name (i := 1) sc_checked_names.nd rfl (Or.inl rfl)) (pss_one (ps_expr (pe_callN G_check_name (hr.mono (by decide)) pass0 (pa_cons (pv 1) pa_nil)))))
      (pss_one (ps_ret (pe_callTy call_list_of rfl T.list b_list (pa_cons (pv 0) pa_nil)))))), ?_⟩
    refine ⟨_, rfl, _, "list", _, _, rfl, Dt.lst hq (dt_strs zs), kit_list K _, _, rfl, iteF ?_⟩
    refine ⟨_, rfl, _, _, rfl, .inl ⟨_, hq, rfl⟩, _, _, rfl, rfl, _, rfl, ?_⟩
    rw [List.length_map, decide_eq_false (by omega)]
    refine iteF ?_
    refine ⟨_, rfl, a, rfl, ⟨_, hq⟩, ?_⟩
    refine for_list (K := K) (a := a) (xs := zs.map V.str) (fun i σ H2 => ∃ o, σ = [some (.ref a), o] ∧ Same H H2) ⟨_, rfl, Same.refl H⟩ (fun i σ H2 _ ⟨_, _, s2⟩ => s2.seq hq) ?_ ?_
    · rintro i x σ H2 hx ⟨o, rfl, s2⟩
      rw [List.getElem?_map] at hx
      cases e : zs[i]? with
      | none => rw [e] at hx; cases hx
      | some z =>
        rw [e] at hx
        cases hx
        exact ⟨_, rfl, z, rfl, hz z (List.mem_of_getElem? e), fun H3 s3 => ⟨_, rfl, s2.trans s3⟩⟩
    · rintro σ H2 ⟨o, rfl, s2⟩
      refine ⟨_, rfl, a, _, rfl, .inl (s2.seq hq), fun l hl => ?_⟩
      have hl' : H l = none := by
        cases e : H l with
        | none => rfl
        | some u => rw [s2 _ _ e] at hl; cases hl
      exact q _ l (s2.trans (Same.new hl)) hl' upd_same
def spOnce (K : PySem.W.Frag) : Sp := fun vs H Q _ => ∃ (a : Addr) (xs : List V) (ps : List (Str × Str)), vs = [.ref a] ∧ SqL K H a xs ∧ Spots K H xs ps ∧ ps.length ≤ 100 ∧
  ∀ H' l ys, Same H H' → H l = none → H' l = some (.lst ys) → Spots K H' ys (onceOf ps) → Q (.ref l) H'
theorem sc_each_once : FnScope ["spots", "found", "spot"] ["spots"] (defScope s_each_once) := ⟨rfl, rfl, rfl, by decide +kernel, rfl, by decide +kernel, by decide +kernel⟩
theorem k_each_once (T : Tops K mg) : Known P w K mg base CX0 2 "each_once" ["spots"] (spOnce K) := by
  refine T.d_each_once.known sc_each_once (fun _ _ _ _ _ _ us hl => match us, hl with | [_], _ => rfl) (fun vs H Q E h => ?_) (fun f cdv A outer s H vs Q E hr h => ?_)
  · obtain ⟨a, xs, ps, rfl, _⟩ := h
    rfl
  · obtain ⟨a, xs, ps, rfl, hq, hsp, h100, q⟩ := h
    refine ⟨_, (pss_cons (ps_set (i := 1) sc_each_once.nd rfl (Or.inl rfl) (pe_lst pa_nil))
      (pss_cons (ps_for PassesOwn.never rfl (pi_list (pv 0)) (pg_name (i := 2) sc_each_once.nd rfl (Or.inl rfl)) (pss_one (ps_if (pt_cmpR (op_notinD hr.units) (pv 2) (pv 1) (by with_unfolding_all rfl)) (pss_one (ps_expr (pe_bm PySem.F.plainAttrs_list PySem.F.slot_list_append PySem.F.type_list_append mt_append (pv 1) (pa_cons (pv 2) pa_nil)))) pss_nil)))
      (pss_one (ps_ret (pv 1))))), ?_⟩
    have hlx : xs.length = ps.length := by rw [hsp.1.length, List.length_map]
    refine ⟨sl, fun l hl => ?_⟩
    refine ⟨_, rfl, a, rfl, ⟨_, (Same.new hl).seq hq⟩, ?_⟩
    refine for_list (K := K) (a := a) (xs := xs) (fun i σ H2 => ∃ o ys, σ = [some (.ref a), some (.ref l), o] ∧ Same H H2 ∧ H2 l = some (.lst ys) ∧ DtAll K H ys ((onceOf (ps.take i)).map spD)) ⟨_, [], rfl, Same.new hl, upd_same, .nil⟩ (fun i σ H2 _ ⟨_, _, _, s2, _⟩ => s2.seq hq) ?_ ?_
    · rintro i x σ H2 hx ⟨o, ys, rfl, s2, h2, hd⟩
      obtain ⟨d, hd1, hd2⟩ := hsp.1.get hx
      rw [List.getElem?_map] at hd1
      cases e : ps[i]? with
      | none => rw [e] at hd1; cases hd1
      | some p =>
        rw [e] at hd1
        cases hd1
        have hp := List.mem_of_getElem? e
        have hle : ((onceOf (ps.take i)).map spD).length = ys.length := hd.length.symm
        rw [List.length_map] at hle
        have hyl : ys.length ≤ 100 := by
          have h3 := onceOf_le (ps.take i)
          rw [List.length_take] at h3
          omega
        have lay2 : (PyData.list ((onceOf (ps.take i)).map spD)).canLay0 = true := lay_spots fun p' hp' => hsp.2 p' (List.mem_of_mem_take (onceOf_mem hp'))
        have et : onceOf (ps.take (i + 1)) = if p ∈ onceOf (ps.take i) then onceOf (ps.take i) else onceOf (ps.take i) ++ [p] := by
          rw [List.take_add_one, e]
          exact onceOf_snoc _ _
        refine ⟨_, rfl, _, rfl, spD p, _, hd2.same s2, Dt.lst (SqL.of h2) (DtAll.same s2 hd), spD_lay (hsp.2 p hp).1 (hsp.2 p hp).2, lay2, (show max 0 (max 0 0) + 1 ≤ 62 by decide), _, rfl, ?_⟩
        rw [spD_any]
        by_cases hm : p ∈ onceOf (ps.take i)
        · rw [decide_eq_true hm]
          rw [if_pos hm] at et
          exact iteF ⟨_, ys, rfl, s2, h2, by rw [et]; exact hd⟩
        · rw [decide_eq_false hm]
          rw [if_neg hm] at et
          refine iteT ?_
          refine ⟨_, rfl, .inl ⟨rfl, _, SqL.of h2⟩, _, rfl, l, _, _, rfl, rfl, h2, small1000 (by omega), ?_⟩
          have s3 : Same H (upd H2 l (.lst (ys ++ [x]))) := s2.on hl
          refine ⟨_, ys ++ [x], rfl, s3, upd_same, ?_⟩
          rw [et, List.map_append]
          exact DtAll.snoc hd hd2
    · rintro σ H2 ⟨o, ys, rfl, s2, h2, hd⟩
      refine ⟨_, rfl, q H2 l ys s2 hl h2 ⟨?_, fun p hp => hsp.2 p (onceOf_mem hp)⟩⟩
      rw [hlx, List.take_length] at hd
      exact DtAll.same s2 hd
end
end My

namespace My
open PySem L2
/-- all stays but the instance at p -/
def But (p : Addr) (H H' : Hp) : Prop := ∀ b o, b ≠ p → H b = some o → H' b = some o
theorem But.of {p : Addr} {H H' : Hp} (s : Same H H') : But p H H' := fun b o _ e => s b o e
theorem But.trans {p : Addr} {H H1 H2 : Hp} (a : But p H H1) (b : But p H1 H2) : But p H H2 := fun c o n e => b c o n (a c o n e)
theorem But.upd {p : Addr} {H : Hp} {o : HO} : But p H (upd H p o) := fun b u n e => by rw [upd_ne n]; exact e
theorem spot_inv {K : PySem.W.Frag} {H : Hp} {v : V} {p : Str × Str} (h : Dt K H v (spD p)) : ∃ a, v = .ref a ∧ SqT K H a [.str p.1, .str p.2] := by
  cases h with
  | @tup a xs _ hq hall =>
    cases hall with
    | cons h1 t1 =>
      cases t1 with
      | cons h2 t2 =>
        cases t2
        cases h1
        cases h2
        exact ⟨a, rfl, hq⟩
theorem spot_mk {K : PySem.W.Frag} {H : Hp} {a : Addr} {p : Str × Str} (h : SqT K H a [.str p.1, .str p.2]) : Dt K H (.ref a) (spD p) := .tup h (.cons (.str _) (.cons (.str _) .nil))
theorem sqT_upd {K : PySem.W.Frag} {H : Hp} {a D : Addr} {xs ys : List V} {o : HO} (hD : H D = some (.lst ys)) (h : SqT K H a xs) : SqT K (upd H D o) a xs := by
  rcases h with (h | ⟨o', h⟩) | h
  · exact .inl (.inl (by rw [upd_ne (ne_of h hD (fun z => by cases z))]; exact h))
  · exact .inl (.inr ⟨o', by rw [upd_ne (ne_of h hD (fun z => by cases z))]; exact h⟩)
  · exact .inr h
theorem spots_upd {K : PySem.W.Frag} {H : Hp} {D : Addr} {ys : List V} {o : HO} (hD : H D = some (.lst ys)) : ∀ {xs : List V} {ps : List (Str × Str)}, DtAll K H xs (ps.map spD) → DtAll K (upd H D o) xs (ps.map spD)
  | [], [], _ => .nil
  | _ :: _, p :: ps, .cons h t => by
    obtain ⟨a, rfl, hq⟩ := spot_inv h
    exact .cons (spot_mk (sqT_upd hD hq)) (spots_upd hD t)
section
variable {P : Program} {w : World} {K : PySem.W.Frag} {mg : Str → Option Value} {base : Heap}
def spRuleI (K : PySem.W.Frag) : Sp := fun vs H Q _ => ∃ (p C dx : Addr) (fs : List (Str × V)) (v : V), vs = [.ref p, v] ∧ H p = some (.ins C dx fs) ∧ Cls K C ∧ NoAttr K C "function" ∧ fs.length < 1000 ∧ Q .non (upd H p (.ins C dx (putF "function" v fs)))
theorem sc_Rule_init : FnScope ["self", "function"] ["self", "function"] (defScope s_Rule_init) := ⟨rfl, rfl, rfl, by decide +kernel, rfl, by decide +kernel, by decide +kernel⟩
theorem k_Rule_init (T : Tops K mg) {C : Addr} (Y : TRule K mg C) : KnownM P w K mg base CX0 1 C "__init__" ["self", "function"] (spRuleI K) := by
  refine Y.m_init.known sc_Rule_init (fun _ _ _ _ _ _ us hl => match us, hl with | [_, _], _ => rfl) (fun vs H Q E h => ?_) (fun f cdv A outer s H vs Q E hr h => ?_)
  · obtain ⟨p, C', dx, fs, v, rfl, _⟩ := h
    rfl
  · obtain ⟨p, C', dx, fs, v, rfl, hp, hC, hN, hl, q⟩ := h
    refine ⟨_, (pss_one (ps_fld (pv 0) (pv 1) rfl)), ?_⟩
    exact ⟨_, rfl, _, rfl, p, C', dx, fs, rfl, hp, hC, hN, hl, q⟩
/-- an instance with a list of names -/
def NmAt (C : Addr) (H : Hp) (p : Addr) (zs : List Str) : Prop := ∃ dx fs r, H p = some (.ins C dx fs) ∧ fs.lookup ("names" : Str) = some (.ref r) ∧ fs.lookup ("gather" : Str) = none ∧ H r = some (.lst (zs.map V.str)) ∧ ∀ z ∈ zs, Nl z
/-- the same, its list new over G -/
def NmNew (G : Hp) (C : Addr) (H : Hp) (p : Addr) (zs : List Str) : Prop := ∃ dx fs r, H p = some (.ins C dx fs) ∧ fs.lookup ("names" : Str) = some (.ref r) ∧ fs.lookup ("gather" : Str) = none ∧ H r = some (.lst (zs.map V.str)) ∧ (∀ z ∈ zs, Nl z) ∧ G r = none
theorem NmNew.at {G : Hp} {C : Addr} {H : Hp} {p : Addr} {zs : List Str} {e : Addr} {o u : HO} (h : NmNew G C H p zs) (hp : G p = none) (he : G e = some u) : NmAt C (upd H e o) p zs := by
  obtain ⟨dx, fs, r, h1, h2, h3, h4, h5, h6⟩ := h
  exact ⟨dx, fs, r, by rw [upd_ne (ne_of_none he hp).symm]; exact h1, h2, h3, by rw [upd_ne (ne_of_none he h6).symm]; exact h4, h5⟩
theorem But.none {p l : Addr} {H H' : Hp} (b : But p H H') (n : l ≠ p) (h : H' l = none) : H l = none := by
  cases e : H l with
  | none => rfl
  | some u => rw [b l u n e] at h; cases h
theorem sqL_but {K : PySem.W.Frag} {H H' : Hp} {p a : Addr} {xs : List V} (b : But p H H') (hp : ∃ C dx fs, H p = some (.ins C dx fs)) (h : SqL K H a xs) : SqL K H' a xs := by
  have na : ∀ u, H a = some u → (∀ C dx fs, u ≠ .ins C dx fs) → a ≠ p := fun u e n z => by
    obtain ⟨C, dx, fs, e'⟩ := hp
    rw [← z, e] at e'
    exact n _ _ _ (Option.some.inj e')
  rcases h with (h | ⟨o, h⟩) | h
  · exact .inl (.inl (b _ _ (na _ h (fun _ _ _ z => by cases z)) h))
  · exact .inl (.inr ⟨o, b _ _ (na _ h (fun _ _ _ z => by cases z)) h⟩)
  · exact .inr h
/-- a Lookup: its key, the other table, the column there, its names -/
def LkAt (C : Addr) (H : Hp) (p : Addr) (k o th : Str) (zs : List Str) : Prop := ∃ dx fs r, H p = some (.ins C dx fs) ∧ fs.lookup ("key" : Str) = some (.str k) ∧ fs.lookup ("other" : Str) = some (.str o) ∧ fs.lookup ("theirs" : Str) = some (.str th) ∧
  fs.lookup ("names" : Str) = some (.ref r) ∧ fs.lookup ("gather" : Str) = none ∧ H r = some (.lst (zs.map V.str)) ∧ Nl k ∧ Nl o ∧ Nl th ∧ ∀ z ∈ zs, Nl z
def LkNew (G : Hp) (C : Addr) (H : Hp) (p : Addr) (k o th : Str) (zs : List Str) : Prop := ∃ dx fs r, H p = some (.ins C dx fs) ∧ fs.lookup ("key" : Str) = some (.str k) ∧ fs.lookup ("other" : Str) = some (.str o) ∧ fs.lookup ("theirs" : Str) = some (.str th) ∧
  fs.lookup ("names" : Str) = some (.ref r) ∧ fs.lookup ("gather" : Str) = none ∧ H r = some (.lst (zs.map V.str)) ∧ Nl k ∧ Nl o ∧ Nl th ∧ (∀ z ∈ zs, Nl z) ∧ G r = none
theorem LkNew.at {G : Hp} {C : Addr} {H : Hp} {p : Addr} {k o th : Str} {zs : List Str} {e : Addr} {u v : HO} (h : LkNew G C H p k o th zs) (hp : G p = none) (he : G e = some u) : LkAt C (upd H e v) p k o th zs := by
  obtain ⟨dx, fs, r, h1, h2, h3, h4, h5, h6, h7, h8, h9, h10, h11, h12⟩ := h
  exact ⟨dx, fs, r, by rw [upd_ne (ne_of_none he hp).symm]; exact h1, h2, h3, h4, h5, h6, by rw [upd_ne (ne_of_none he h12).symm]; exact h7, h8, h9, h10, h11⟩
def KyAt (C : Addr) (H : Hp) (p : Addr) (k n : Str) : Prop := ∃ dx fs, H p = some (.ins C dx fs) ∧ fs.lookup ("key" : Str) = some (.str k) ∧ fs.lookup ("name" : Str) = some (.str n) ∧ fs.lookup ("gather" : Str) = none ∧ Nl k ∧ Nl n
end
end My

namespace My
open PySem L2
/-! ### all but lists stay -/
def Keep (H H' : Hp) : Prop := ∀ b o, (∀ xs, o ≠ .lst xs) → H b = some o → H' b = some o
theorem Keep.of {H H' : Hp} (s : Same H H') : Keep H H' := fun b o _ e => s b o e
theorem Keep.trans {H H1 H2 : Hp} (a : Keep H H1) (b : Keep H1 H2) : Keep H H2 := fun c o n e => b c o n (a c o n e)
theorem Keep.lst {H : Hp} {l : Addr} {xs ys : List V} (h : H l = some (.lst xs)) : Keep H (upd H l (.lst ys)) := fun b o n e => by
  rw [upd_ne (ne_of e h (n xs))]
  exact e
theorem Keep.but {H H' : Hp} {l : Addr} {xs : List V} (s : But l H H') (h : H l = some (.lst xs)) : Keep H H' := fun b o n e => s b o (ne_of e h (n xs)) e
theorem noneB {H H' : Hp} {l : Addr} (s : Same H H') (h : H' l = none) : H l = none := by
  cases e : H l with
  | none => rfl
  | some o => rw [s l o e] at h; cases h
/-! ### worlds -/
def WV (H : Hp) (v : V) : Prop := (∃ i, v = .int i) ∨ ∃ a z, v = .ref a ∧ H a = some (.tup [.str ("fault" : Str), .str z]) ∧ Nl z
theorem WV.keep {H H' : Hp} {v : V} (s : Keep H H') (h : WV H v) : WV H' v := by
  rcases h with ⟨i, e⟩ | ⟨a, z, e1, e2, e3⟩
  · exact .inl ⟨i, e⟩
  · exact .inr ⟨a, z, e1, s _ _ (fun xs q => by cases q) e2, e3⟩
def Filled (kvs : List (List Key × V)) (H : Hp) (t c : Str) (m : Nat) : Prop := ∀ p : Nat, p < m → ∃ v, valV kvs [.inr t, .inr c, .inl (p : Int)] = some v ∧ WV H v
theorem Filled.keep {kvs : List (List Key × V)} {H H' : Hp} {t c : Str} {m : Nat} (s : Keep H H') (h : Filled kvs H t c m) : Filled kvs H' t c m := fun p hp => by
  obtain ⟨v, e, q⟩ := h p hp
  exact ⟨v, e, q.keep s⟩
theorem Filled.put {kvs : List (List Key × V)} {H : Hp} {t c : Str} {m : Nat} {k : List Key} {y : V} (hy : WV H y) (h : Filled kvs H t c m) : Filled (putK kvs k y) H t c m := fun p hp => by
  obtain ⟨v, e, q⟩ := h p hp
  rw [valV_put]
  by_cases z : ([.inr t, .inr c, .inl (p : Int)] : List Key) = k
  · rw [if_pos z]; exact ⟨y, rfl, hy⟩
  · rw [if_neg z]; exact ⟨v, e, q⟩
theorem putK_le {κ : Type} [DecidableEq κ] (kvs : List (κ × V)) (k : κ) (y : V) : (putK kvs k y).length ≤ kvs.length + 1 := by
  unfold putK
  split
  · rw [List.length_map]; omega
  · rw [List.length_append]; exact Nat.le_refl _
structure Wld (H : Hp) (t0 t1 : Str) (cs : List Str) (wd rd : Addr) (kvs : List (List Key × V)) (rows : List (Key × V)) (n0 n1 : Nat) : Prop where
  w : H wd = some (.dT kvs)
  r : H rd = some (.dK rows)
  v0 : valV rows (.inr t0) = some (.int (n0 : Int))
  v1 : valV rows (.inr t1) = some (.int (n1 : Int))
  p0 : 1 ≤ n0
  l0 : n0 ≤ 30
  l1 : n1 ≤ 30
  f0 : ∀ c ∈ cs, Filled kvs H t0 c n0
  f1 : ∀ c ∈ cs, Filled kvs H t1 c n1
theorem Wld.keep {H H' : Hp} {t0 t1 : Str} {cs : List Str} {wd rd : Addr} {kvs : List (List Key × V)} {rows : List (Key × V)} {n0 n1 : Nat} (s : Keep H H') (h : Wld H t0 t1 cs wd rd kvs rows n0 n1) : Wld H' t0 t1 cs wd rd kvs rows n0 n1 :=
  ⟨s _ _ (fun xs q => by cases q) h.w, s _ _ (fun xs q => by cases q) h.r, h.v0, h.v1, h.p0, h.l0, h.l1, fun c hc => (h.f0 c hc).keep s, fun c hc => (h.f1 c hc).keep s⟩
section
variable {P : Program} {w : World} {K : PySem.W.Frag} {mg : Str → Option Value} {base : Heap}
def fwords : List Str := ["odd", "lacks", "a", "zzzzzzzz"]
theorem fword_nl : ∀ z ∈ fwords, Nl z := by
  intro z hz
  unfold fwords at hz
  simp only [List.mem_cons, List.not_mem_nil, or_false] at hz
  unfold Nl
  rcases hz with rfl | rfl | rfl | rfl <;> decide +kernel
theorem fword_at (i : Int) (h0 : 0 ≤ i) (h : i < 4) : ∃ z, atI [V.str ("odd" : Str), V.str ("lacks" : Str), V.str ("a" : Str), V.str ("zzzzzzzz" : Str)] i = some (.str z) ∧ Nl z := by
  obtain ⟨v, h1, h2⟩ := at_some [V.str ("odd" : Str), V.str ("lacks" : Str), V.str ("a" : Str), V.str ("zzzzzzzz" : Str)] i h0 (by simpa using h)
  have e : [V.str ("odd" : Str), V.str ("lacks" : Str), V.str ("a" : Str), V.str ("zzzzzzzz" : Str)] = fwords.map V.str := rfl
  rw [e, List.getElem?_map] at h2
  cases z : fwords[i.toNat]? with
  | none => rw [z] at h2; cases h2
  | some y =>
    rw [z] at h2
    cases h2
    exact ⟨y, h1, fword_nl y (List.mem_of_getElem? z)⟩
theorem sign_at (i : Int) (h0 : 0 ≤ i) (h : i < 2) : ∃ j : Int, atI [V.int 1, V.int (-1)] i = some (.int j) ∧ (j = 1 ∨ j = -1) := by
  have : i = 0 ∨ i = 1 := by omega
  rcases this with rfl | rfl
  · exact ⟨1, rfl, .inl rfl⟩
  · exact ⟨-1, rfl, .inr rfl⟩
def spVal (K : PySem.W.Frag) : Sp := fun vs H Q _ => ∃ (a : Addr) (ns : List Int) (k fl : Int), vs = [.ref a, .int k, .int fl] ∧ SqL K H a (ns.map V.int) ∧ ns.length ≤ 63 ∧ 0 ≤ k ∧ k ≤ 100000 ∧ ∀ v H', Same H H' → WV H' v → Q v H'
theorem sc_law_value : FnScope ["_law_script", "_law_k", "_law_faults", "_law_way"] ["_law_script", "_law_k", "_law_faults"] (defScope s_law_value) := ⟨rfl, rfl, rfl, by decide +kernel, rfl, by decide +kernel, by decide +kernel⟩
theorem k_law_value (T : Tops K mg) : Known P w K mg base CX0 2 "_law_value" ["_law_script", "_law_k", "_law_faults"] (spVal K) := by
  have G_law_drawn : Known P w K mg base CX0 1 "_law_drawn" ["_law_script", "_law_k", "_law_size"] (spDrawn K) := k_law_drawn T
  refine T.d_law_value.known sc_law_value (fun _ _ _ _ _ _ us hl => match us, hl with | [_, _, _], _ => rfl) (fun vs H Q E h => ?_) (fun f cdv A outer s H vs Q E hr h => ?_)
  · obtain ⟨a, ns, k, fl, rfl, _⟩ := h
    rfl
  · obtain ⟨a, ns, k, fl, rfl, hS, hl, h0, h1, q⟩ := h
    refine ⟨_, (pss_cons (ps_set (i := 3) sc_law_value.nd rfl (Or.inl rfl) (pe_callN G_law_drawn (hr.mono (by decide)) pass0 (pa_cons (pv 0) (pa_cons (pv 1) (pa_cons pe_int pa_nil)))))
      (pss_cons (ps_if (pt_cmpR op_lt (pv 3) (pv 2) (nomark _)) (pss_one (ps_ret (pe_tup (pa_cons pe_str (pa_cons (pe_ix ix_list (pe_lst (pa_cons pe_str (pa_cons pe_str (pa_cons pe_str (pa_cons pe_str pa_nil))))) (pe_callN G_law_drawn (hr.mono (by decide)) pass0 (pa_cons (pv 0) (pa_cons (pe_op op_add (pv 1) pe_int) (pa_cons pe_int pa_nil)))) (fun _ _ => rfl)) pa_nil))))) pss_nil)
      (pss_cons (ps_if (pt_cmpR op_eq (pv 3) pe_int (nomark _)) (pss_one (ps_ret (pe_op op_mul (pe_op op_pow (pe_op op_add (pe_callN G_law_drawn (hr.mono (by decide)) pass0 (pa_cons (pv 0) (pa_cons (pe_op op_add (pv 1) pe_int) (pa_cons pe_int pa_nil)))) pe_int) pe_int) (pe_ix ix_list (pe_lst (pa_cons pe_int (pa_cons (pe_un un_neg pe_int) pa_nil))) (pe_callN G_law_drawn (hr.mono (by decide)) pass0 (pa_cons (pv 0) (pa_cons (pe_op op_add (pv 1) pe_int) (pa_cons pe_int pa_nil)))) (fun _ _ => rfl))))) pss_nil)
      (pss_one (ps_ret (pe_op op_sub (pe_callN G_law_drawn (hr.mono (by decide)) pass0 (pa_cons (pv 0) (pa_cons (pe_op op_add (pv 1) pe_int) (pa_cons pe_int pa_nil)))) pe_int)))))), ?_⟩
    refine ⟨_, rfl, _, rfl, a, ns, k, 16, rfl, hS, hl, h0, by omega, by decide, ?_⟩
    refine ⟨_, rfl, _, rfl, _, _, rfl, rfl, _, rfl, ?_⟩
    refine ite2 (fun g => ?_) (fun g => ?_)
    · refine ⟨sl, fun D hD => ?_⟩
      have s1 := Same.new (o := .lst [V.str ("odd" : Str), V.str ("lacks" : Str), V.str ("a" : Str), V.str ("zzzzzzzz" : Str)]) hD
      have b0 := drawZ_nn ns (k + 1) (show (0 : Int) < 4 by decide)
      have b1 := drawZ_lt ns (k + 1) (show (0 : Int) < 4 by decide)
      obtain ⟨z, hat, hN⟩ := fword_at _ b0 b1
      refine ⟨_, rfl, _, rfl, _, _, rfl, rfl, a, ns, k + 1, 4, rfl, s1.seq hS, hl, by omega, by omega, by decide, D, _, _, _, rfl, rfl, SqL.of upd_same, hat, sl, fun t ht => ?_⟩
      exact q _ _ (s1.trans (Same.new ht)) (.inr ⟨t, z, rfl, upd_same, hN⟩)
    · refine ⟨_, rfl, rfl, _, rfl, ?_⟩
      refine ite2 (fun g2 => ?_) (fun g2 => ?_)
      · have b0 := drawZ_nn ns (k + 1) (show (0 : Int) < 999983 by decide)
        have b1 := drawZ_lt ns (k + 1) (show (0 : Int) < 999983 by decide)
        have c0 := drawZ_nn ns (k + 2) (show (0 : Int) < 2 by decide)
        have c1 := drawZ_lt ns (k + 2) (show (0 : Int) < 2 by decide)
        obtain ⟨j, hat, hj⟩ := sign_at _ c0 c1
        refine ⟨_, rfl, _, rfl, _, _, rfl, rfl, a, ns, k + 1, 999983, rfl, hS, hl, by omega, by omega, by decide, _, _, rfl, rfl, _, _, rfl, rfl, ⟨by decide, by decide, by omega⟩, ?_⟩
        refine ⟨_, rfl, sl, fun D hD => ?_⟩
        have s1 := Same.new (o := .lst [V.int 1, V.int (-1)]) hD
        refine ⟨_, rfl, _, rfl, _, _, rfl, rfl, a, ns, k + 2, 2, rfl, s1.seq hS, hl, by omega, by omega, by decide, D, _, _, _, rfl, rfl, SqL.of upd_same, hat, ?_⟩
        refine ⟨_, _, rfl, rfl, .inr (by rcases hj with rfl | rfl <;> decide), ?_⟩
        exact q _ _ s1 (.inl ⟨_, rfl⟩)
      · refine ⟨_, rfl, _, rfl, _, _, rfl, rfl, a, ns, k + 1, 4, rfl, hS, hl, by omega, by omega, by decide, _, _, rfl, rfl, ?_⟩
        exact q _ _ (Same.refl H) (.inl ⟨_, rfl⟩)
end
end My

namespace My
open PySem L2
section
variable {P : Program} {w : World} {K : PySem.W.Frag} {mg : Str → Option Value} {base : Heap}
theorem b_max : bootBuiltins "max" = some (.builtin "max") := by kernel_rfl
theorem small_of {n : Nat} (h : n ≤ 1000) : n < sizeLine := small1000 h
/-- the keys: a table, a column, a place -/
def Kys (kvs : List (List Key × V)) : Prop := ∀ kv ∈ kvs, ∃ (t c : Str) (p : Nat), kv.1 = [.inr t, .inr c, .inl (p : Int)] ∧ Nl t ∧ Nl c
theorem putK_key {κ : Type} [DecidableEq κ] {kvs : List (κ × V)} {k : κ} {y : V} {kv : κ × V} (h : kv ∈ putK kvs k y) : kv.1 = k ∨ ∃ kv' ∈ kvs, kv'.1 = kv.1 := by
  unfold putK at h
  split at h
  · obtain ⟨kv', hk, e⟩ := List.mem_map.mp h
    by_cases z : kv'.1 = k
    · rw [if_pos z] at e
      left
      rw [← e]
      exact z
    · rw [if_neg z] at e
      exact .inr ⟨kv', hk, by rw [e]⟩
  · rcases List.mem_append.mp h with h | h
    · exact .inr ⟨kv, h, rfl⟩
    · exact .inl (by rw [List.mem_singleton.mp h])
theorem Kys.put {kvs : List (List Key × V)} {t c : Str} {p : Nat} {y : V} (h : Kys kvs) (ht : Nl t) (hc : Nl c) : Kys (putK kvs [.inr t, .inr c, .inl (p : Int)] y) := fun kv hk => by
  rcases putK_key hk with e | ⟨kv', h', e⟩
  · exact ⟨t, c, p, e, ht, hc⟩
  · rw [← e]
    exact h kv' h'
abbrev Nworld : List Str := ["_law_script", "_law_names_here", "_law_tables", "_law_faults", "_law_k", "_law_world_here", "_law_rows", "_law_table_here", "_law_name", "_law_place"]
def spWorld (K : PySem.W.Frag) : Sp := fun vs H Q _ => ∃ (a na ta : Addr) (ns : List Int) (cs : List Str) (t0 t1 : Str) (fl : Int) (k : Nat), vs = [.ref a, .ref na, .ref ta, .int fl, .int (k : Int)] ∧ SqL K H a (ns.map V.int) ∧ ns.length ≤ 63 ∧ SqL K H na (cs.map V.str) ∧ cs.length = 6 ∧ SqL K H ta [.str t0, .str t1] ∧ t0 ≠ t1 ∧ k ≤ 5000 ∧ Nl t0 ∧ Nl t1 ∧ (∀ c ∈ cs, Nl c) ∧
  ∀ H' p wd rd kvs rows n0 n1, Kys kvs → kvs.length ≤ 360 → Same H H' → H' p = some (.tup [.ref wd, .ref rd]) → Wld H' t0 t1 cs wd rd kvs rows n0 n1 → Q (.ref p) H'
theorem sc_law_world : FnScope Nworld ["_law_script", "_law_names_here", "_law_tables", "_law_faults", "_law_k"] (defScope s_law_world) := ⟨rfl, rfl, rfl, by decide +kernel, rfl, by decide +kernel, by decide +kernel⟩
/-- what stands while the tables are filled: the places of the dicts, how many entries -/
structure WNow (H0 H : Hp) (wd rd : Addr) (kvs : List (List Key × V)) (rows : List (Key × V)) (m : Nat) : Prop where
  s : Same H0 H
  w : H wd = some (.dT kvs)
  r : H rd = some (.dK rows)
  l : kvs.length ≤ m
  ks : Kys kvs
theorem WNow.same {H0 H H' : Hp} {wd rd : Addr} {kvs : List (List Key × V)} {rows : List (Key × V)} {m : Nat} (h : WNow H0 H wd rd kvs rows m) (s : Same H H') : WNow H0 H' wd rd kvs rows m := ⟨h.s.trans s, s _ _ h.w, s _ _ h.r, h.l, h.ks⟩
theorem WV.upd_d {H : Hp} {d : Addr} {o u : HO} {v : V} (hd : H d = some u) (hu : ∀ xs, u ≠ .tup xs) (h : WV H v) : WV (upd H d o) v := by
  rcases h with ⟨i, e⟩ | ⟨a, z, e1, e2, e3⟩
  · exact .inl ⟨i, e⟩
  · exact .inr ⟨a, z, e1, by rw [upd_ne (ne_of e2 hd (fun q => hu _ q.symm))]; exact e2, e3⟩
theorem Filled.upd_d {kvs : List (List Key × V)} {H : Hp} {t c : Str} {m : Nat} {d : Addr} {o u : HO} (hd : H d = some u) (hu : ∀ xs, u ≠ .tup xs) (h : Filled kvs H t c m) : Filled kvs (upd H d o) t c m := fun p hp => by
  obtain ⟨v, e, q⟩ := h p hp
  exact ⟨v, e, q.upd_d hd hu⟩
def AllF (kvs : List (List Key × V)) (H : Hp) (F : List (Str × Str × Nat)) : Prop := ∀ z ∈ F, Filled kvs H z.1 z.2.1 z.2.2
theorem AllF.same {kvs : List (List Key × V)} {H H' : Hp} {F : List (Str × Str × Nat)} (s : Same H H') (h : AllF kvs H F) : AllF kvs H' F := fun z hz => (h z hz).keep (Keep.of s)
theorem AllF.upd_d {kvs : List (List Key × V)} {H : Hp} {F : List (Str × Str × Nat)} {d : Addr} {o u : HO} (hd : H d = some u) (hu : ∀ xs, u ≠ .tup xs) (h : AllF kvs H F) : AllF kvs (upd H d o) F := fun z hz => (h z hz).upd_d hd hu
theorem AllF.put {kvs : List (List Key × V)} {H : Hp} {F : List (Str × Str × Nat)} {k : List Key} {y : V} (hy : WV H y) (h : AllF kvs H F) : AllF (putK kvs k y) H F := fun z hz => (h z hz).put hy
theorem Filled.more {kvs : List (List Key × V)} {H : Hp} {t c : Str} {m : Nat} {y : V} (hy : WV H y) (h : Filled kvs H t c m) : Filled (putK kvs [.inr t, .inr c, .inl (m : Int)] y) H t c (m + 1) := fun p hp => by
  by_cases z : p = m
  · subst z
    rw [valV_put, if_pos rfl]
    exact ⟨y, rfl, hy⟩
  · exact h.put hy p (by omega)
theorem cutW {G : Prop} {N : Hp → Prop} (Pv : Hp → Prop) (h : ∀ H, Pv H → N H) (k : (∀ H, Pv H → N H) → G) : G := k h
theorem k_law_world (T : Tops K mg) : Known P w K mg base CX0 3 "_law_world" ["_law_script", "_law_names_here", "_law_tables", "_law_faults", "_law_k"] (spWorld K) := by
  have G_law_drawn : Known P w K mg base CX0 1 "_law_drawn" ["_law_script", "_law_k", "_law_size"] (spDrawn K) := k_law_drawn T
  have G_law_value : Known P w K mg base CX0 2 "_law_value" ["_law_script", "_law_k", "_law_faults"] (spVal K) := k_law_value T
  refine T.d_law_world.known sc_law_world (fun _ _ _ _ _ _ us hl => match us, hl with | [_, _, _, _, _], _ => rfl) (fun vs H Q E h => ?_) (fun f cdv A outer s H vs Q E hr h => ?_)
  · obtain ⟨a, na, ta, ns, cs, t0, t1, fl, k, rfl, _⟩ := h
    rfl
  · obtain ⟨a, na, ta, ns, cs, t0, t1, fl, k, rfl, hS, hl, hn, hc6, ht, hne, hk, nT0, nT1, nCs, q⟩ := h
    have hu := hu_of hr
    refine ⟨_, (pss_cons (ps_set (i := 5) sc_law_world.nd rfl (Or.inl rfl) pe_dnewT)
      (pss_cons (ps_set (i := 6) sc_law_world.nd rfl (Or.inl rfl) pe_dnewK)
      (pss_cons (ps_for PassesOwn.never rfl (pi_list (pv 2)) (pg_name (i := 7) sc_law_world.nd rfl (Or.inl rfl)) (pss_cons (ps_dput hu (pv 6) (pv 7) (pe_callN G_law_drawn (hr.mono (by decide)) pass0 (pa_cons (pv 0) (pa_cons (pv 4) (pa_cons pe_int pa_nil)))) rfl)
      (pss_cons (ps_if (pt_cmpR op_eq (pe_callN G_law_drawn (hr.mono (by decide)) pass0 (pa_cons (pv 0) (pa_cons (pe_op op_add (pv 4) pe_int) (pa_cons pe_int pa_nil)))) pe_int (nomark _)) (pss_one (ps_dput hu (pv 6) (pv 7) pe_int rfl)) pss_nil)
      (pss_cons (ps_if (pt_cmpR op_eq (pv 7) (pe_ix ix_list (pv 2) pe_int (fun _ _ => rfl)) (nomark _)) (pss_one (ps_dput hu (pv 6) (pv 7) (pe_callB (call_max2 rfl) rfl T.max b_max (pa_cons pe_int (pa_cons (pe_dget hu (pv 6) (pv 7) (fun _ _ => rfl)) pa_nil))) rfl)) pss_nil)
      (pss_one (ps_for PassesOwn.never rfl (pi_list (pv 1)) (pg_name (i := 8) sc_law_world.nd rfl (Or.inl rfl)) (pss_one (ps_for PassesOwn.never rfl (pi_range1 rfl T.range (pa_cons (pe_dget hu (pv 6) (pv 7) (fun _ _ => rfl)) pa_nil)) (pg_name (i := 9) sc_law_world.nd rfl (Or.inl rfl)) (pss_cons (ps_set (i := 4) sc_law_world.nd rfl (Or.inl rfl) (pe_op op_add (pv 4) pe_int))
      (pss_one (ps_dput hu (pv 5) (pe_tup (pa_cons (pv 7) (pa_cons (pv 8) (pa_cons (pv 9) pa_nil)))) (pe_callN G_law_value (hr.mono (by decide)) pass0 (pa_cons (pv 0) (pa_cons (pv 4) (pa_cons (pv 3) pa_nil)))) rfl)))))))))))
      (pss_one (ps_ret (pe_tup (pa_cons (pv 5) (pa_cons (pv 6) pa_nil)))))))), ?_⟩
    intro wd hwd rd hrd
    have nwr : wd ≠ rd := ne_of_none upd_same hrd
    have s1 : Same H (upd (upd H wd (.dT [])) rd (.dK [])) := (Same.new hwd).trans (Same.new hrd)
    have hHrd : H rd = none := noneB (Same.new hwd) hrd
    refine ⟨_, rfl, ta, rfl, ⟨_, s1.seq ht⟩, ?_⟩
    refine for_list (K := K) (a := ta) (xs := [.str t0, .str t1]) (fun i σ H2 => ∃ (k' : Nat) (kvs : List (List Key × V)) (rows : List (Key × V)) (o7 o8 o9 : Option V), σ = [some (.ref a), some (.ref na), some (.ref ta), some (.int fl), some (.int (k' : Int)), some (.ref wd), some (.ref rd), o7, o8, o9] ∧ k' ≤ 5000 + 540 * i ∧ WNow H H2 wd rd kvs rows (180 * i) ∧ rows.length ≤ 3 * i ∧
        (1 ≤ i → ∃ n0 : Nat, valV rows (.inr t0) = some (.int (n0 : Int)) ∧ 1 ≤ n0 ∧ n0 ≤ 30 ∧ ∀ c ∈ cs, Filled kvs H2 t0 c n0) ∧ (2 ≤ i → ∃ n1 : Nat, valV rows (.inr t1) = some (.int (n1 : Int)) ∧ n1 ≤ 30 ∧ ∀ c ∈ cs, Filled kvs H2 t1 c n1))
      ⟨k, [], [], _, _, _, rfl, by omega, ⟨s1, by rw [upd_ne nwr, upd_same], upd_same, Nat.le_refl _, fun kv h => by simp at h⟩, Nat.le_refl _, fun z => by omega, fun z => by omega⟩ (fun i σ H2 _ ⟨_, _, _, _, _, _, _, _, W, _⟩ => W.s.seq ht) ?_ ?_
    · rintro i x σ H2 hx ⟨k', kvs, rows, o7, o8, o9, rfl, hk', W, hr3, h0, h1⟩
      obtain ⟨t, rfl, hit⟩ : ∃ t, x = .str t ∧ ((i = 0 ∧ t = t0) ∨ (i = 1 ∧ t = t1)) := by
        match i, hx with
        | 0, hx => exact ⟨t0, (Option.some.inj hx).symm, .inl ⟨rfl, rfl⟩⟩
        | 1, hx => exact ⟨t1, (Option.some.inj hx).symm, .inr ⟨rfl, rfl⟩⟩
        | n + 2, hx => simp at hx
      have htN : Nl t := by
        rcases hit with ⟨_, e⟩ | ⟨_, e⟩ <;> rw [e]
        · exact nT0
        · exact nT1
      have hi1 : i ≤ 1 := by rcases hit with ⟨e, _⟩ | ⟨e, _⟩ <;> omega
      have b0 := drawZ_nn ns (k' : Int) (show (0 : Int) < 7 by decide)
      have b1 := drawZ_lt ns (k' : Int) (show (0 : Int) < 7 by decide)
      refine ⟨_, rfl, _, rfl, a, ns, k', 7, rfl, W.s.seq hS, hl, by omega, by omega, by decide, ?_⟩
      have step : ∀ {H3 : Hp} {rows3 : List (Key × V)} (y : Int), WNow H H3 wd rd kvs rows3 (180 * i) → WNow H (upd H3 rd (.dK (putK rows3 (.inr t) (.int y)))) wd rd kvs (putK rows3 (.inr t) (.int y)) (180 * i) := fun {H3 rows3} y W3 =>
        ⟨W3.s.on hHrd, by rw [upd_ne nwr]; exact W3.w, upd_same, W3.l, W3.ks⟩
      have old : ∀ {H3 : Hp} {rows3 : List (Key × V)} (y : Int), WNow H H3 wd rd kvs rows3 (180 * i) → (1 ≤ i → ∃ n0 : Nat, valV rows3 (.inr t0) = some (.int (n0 : Int)) ∧ 1 ≤ n0 ∧ n0 ≤ 30 ∧ ∀ c ∈ cs, Filled kvs H3 t0 c n0) →
          (1 ≤ i → ∃ n0 : Nat, valV (putK rows3 (.inr t) (.int y)) (.inr t0) = some (.int (n0 : Int)) ∧ 1 ≤ n0 ∧ n0 ≤ 30 ∧ ∀ c ∈ cs, Filled kvs (upd H3 rd (.dK (putK rows3 (.inr t) (.int y)))) t0 c n0) := fun {H3 rows3} y W3 o hi => by
        obtain ⟨n0, c1, c2, c3, c4⟩ := o hi
        refine ⟨n0, ?_, c2, c3, fun c hc => (c4 c hc).upd_d W3.r (fun xs z => by cases z)⟩
        rw [valV_put, if_neg ?_]
        · exact c1
        · intro z
          rcases hit with ⟨e, _⟩ | ⟨_, e⟩
          · omega
          · rw [e] at z; exact hne (Sum.inr.inj z)
      refine ⟨_, rfl, _, rfl, rd, _, rfl, DPut.k (k := Sum.inr t) W.r (small_of (by omega)), ?_⟩
      have A1 := step (drawZ ns k' 7) W
      have A2 := old (drawZ ns k' 7) W h0
      have A3 := putK_le rows (Sum.inr t) (.int (drawZ ns k' 7))
      have A4 : valV (putK rows (Sum.inr t) (.int (drawZ ns k' 7))) (Sum.inr t) = some (.int ((drawZ ns k' 7).toNat : Int)) := by rw [valV_put, if_pos rfl]; congr 2; omega
      have A5 : (drawZ ns k' 7).toNat ≤ 30 := by omega
      generalize hN : (drawZ ns k' 7).toNat = n at A4 A5
      generalize hR : putK rows (Sum.inr t) (.int (drawZ ns k' 7)) = rows1 at A1 A2 A3 A4 ⊢
      generalize hH : upd H2 rd (.dK rows1) = H3 at A1 A2 ⊢
      refine ⟨_, rfl, _, rfl, _, _, rfl, rfl, a, ns, (k' : Int) + 1, 16, rfl, A1.s.seq hS, hl, by omega, by omega, by decide, rfl, _, rfl, ?_⟩
      refine cutW (fun H4 => ∃ (rows2 : List (Key × V)) (n2 : Nat), WNow H H4 wd rd kvs rows2 (180 * i) ∧ rows2.length ≤ 3 * i + 2 ∧ valV rows2 (.inr t) = some (.int (n2 : Int)) ∧ n2 ≤ 30 ∧ (1 ≤ i → ∃ n0 : Nat, valV rows2 (.inr t0) = some (.int (n0 : Int)) ∧ 1 ≤ n0 ∧ n0 ≤ 30 ∧ ∀ c ∈ cs, Filled kvs H4 t0 c n0)) ?h (fun tl => ite2 (fun g => ?_) (fun g => tl H3 ⟨rows1, n, A1, by omega, A4, A5, A2⟩))
      rotate_left
      · refine ⟨_, rfl, _, rfl, rd, _, rfl, DPut.k (k := Sum.inr t) A1.r (small_of (by omega)), ?_⟩
        have B1 := step 30 A1
        have B2 := old 30 A1 A2
        have B3 := putK_le rows1 (Sum.inr t) (.int 30)
        have B4 : valV (putK rows1 (Sum.inr t) (.int 30)) (Sum.inr t) = some (.int ((30 : Nat) : Int)) := by rw [valV_put, if_pos rfl]; rfl
        generalize putK rows1 (Sum.inr t) (.int 30) = rows2 at B1 B2 B3 B4 ⊢
        generalize upd H3 rd (.dK rows2) = H4 at B1 B2 ⊢
        exact tl H4 ⟨rows2, 30, B1, by omega, B4, Nat.le_refl _, B2⟩
      rintro H4 ⟨rows2, n2, B1, B3, B4, B5, B2⟩
      have ni : ¬ (decide (V.str t = V.str t0) = true) → ¬ (i = 0) := fun g hi => by
        rcases hit with ⟨_, e⟩ | ⟨e, _⟩
        · rw [e] at g; simp at g
        · omega
      refine ⟨_, rfl, _, rfl, ta, _, _, _, rfl, rfl, B1.s.seq ht, rfl, rfl, _, rfl, ?_⟩
      refine cutW (fun H4 => ∃ (rows2 : List (Key × V)) (n2 : Nat), WNow H H4 wd rd kvs rows2 (180 * i) ∧ rows2.length ≤ 3 * i + 3 ∧ valV rows2 (.inr t) = some (.int (n2 : Int)) ∧ n2 ≤ 30 ∧ (i = 0 → 1 ≤ n2) ∧ (1 ≤ i → ∃ n0 : Nat, valV rows2 (.inr t0) = some (.int (n0 : Int)) ∧ 1 ≤ n0 ∧ n0 ≤ 30 ∧ ∀ c ∈ cs, Filled kvs H4 t0 c n0)) ?h2 (fun tl => ite2 (fun g => ?_) (fun g => tl H4 ⟨rows2, n2, B1, by omega, B4, B5, fun hi => absurd hi (ni g), B2⟩))
      rotate_left
      · refine ⟨_, rfl, _, rfl, rd, _, rfl, B4 ▸ DGet.k (k := Sum.inr t) B1.r, 1, _, rfl, ?_⟩
        refine ⟨_, rfl, _, rfl, rd, _, rfl, DPut.k (k := Sum.inr t) B1.r (small_of (by omega)), ?_⟩
        have C1 := step (if (n2 : Int) > 1 then (n2 : Int) else 1) B1
        have C2 := old (if (n2 : Int) > 1 then (n2 : Int) else 1) B1 B2
        have C3 := putK_le rows2 (Sum.inr t) (.int (if (n2 : Int) > 1 then (n2 : Int) else 1))
        have C4 : valV (putK rows2 (Sum.inr t) (.int (if (n2 : Int) > 1 then (n2 : Int) else 1))) (Sum.inr t) = some (.int ((if n2 > 1 then n2 else 1 : Nat) : Int)) := by
          rw [valV_put, if_pos rfl]
          congr 2
          split <;> split <;> omega
        generalize putK rows2 (Sum.inr t) (.int (if (n2 : Int) > 1 then (n2 : Int) else 1)) = rows3 at C1 C2 C3 C4 ⊢
        generalize upd H4 rd (.dK rows3) = H5 at C1 C2 ⊢
        exact tl H5 ⟨rows3, _, C1, by omega, C4, by split <;> omega, fun _ => by split <;> omega, C2⟩
      rintro H5 ⟨rows3, n3, C1, C3, C4, C5, C6, C2⟩
      obtain ⟨F0, hF0, back⟩ : ∃ F0, AllF kvs H5 F0 ∧ ∀ kvs' H', AllF kvs' H' F0 → (1 ≤ i → ∃ n0 : Nat, valV rows3 (.inr t0) = some (.int (n0 : Int)) ∧ 1 ≤ n0 ∧ n0 ≤ 30 ∧ ∀ c ∈ cs, Filled kvs' H' t0 c n0) := by
        by_cases hi : 1 ≤ i
        · obtain ⟨n0, c1, c2, c3, c4⟩ := C2 hi
          refine ⟨cs.map fun c => (t0, c, n0), fun z hz => ?_, fun kvs' H' hA _ => ⟨n0, c1, c2, c3, fun c hc => hA (t0, c, n0) (List.mem_map_of_mem hc)⟩⟩
          obtain ⟨c, hc, rfl⟩ := List.mem_map.mp hz
          exact c4 c hc
        · exact ⟨[], fun z hz => by simp at hz, fun _ _ _ z => absurd z hi⟩
      refine ⟨_, rfl, na, rfl, ⟨_, C1.s.seq hn⟩, ?_⟩
      refine for_list (K := K) (a := na) (xs := cs.map V.str) (fun j σ H6 => ∃ (k2 : Nat) (kvs2 : List (List Key × V)) (o8 o9 : Option V), σ = [some (.ref a), some (.ref na), some (.ref ta), some (.int fl), some (.int (k2 : Int)), some (.ref wd), some (.ref rd), some (.str t), o8, o9] ∧ k2 ≤ k' + 90 * j ∧ WNow H H6 wd rd kvs2 rows3 (180 * i + 30 * j) ∧ AllF kvs2 H6 (F0 ++ (cs.take j).map fun c => (t, c, n3)))
        ⟨k', kvs, _, _, rfl, by omega, C1, by rw [List.take_zero, List.map_nil, List.append_nil]; exact hF0⟩ (fun j σ H6 _ ⟨_, _, _, _, _, _, D1, _⟩ => D1.s.seq hn) ?_ ?_
      · rintro j x σ H6 hx ⟨k2, kvs2, o8, o9, rfl, hk2, D1, D2⟩
        obtain ⟨c, rfl, hcj⟩ : ∃ c, x = .str c ∧ cs[j]? = some c := by
          rw [List.getElem?_map] at hx
          cases e : cs[j]? with
          | none => rw [e] at hx; cases hx
          | some c => rw [e] at hx; cases hx; exact ⟨c, rfl, rfl⟩
        have hj : j < 6 := by rw [← hc6]; exact (List.getElem?_eq_some_iff.mp hcj).1
        refine ⟨_, rfl, _, rfl, rd, _, rfl, C4 ▸ DGet.k (k := Sum.inr t) D1.r, _, rfl, by omega, by omega, ?_⟩
        rw [Int.toNat_natCast]
        refine for_range (lo := 0) (n := n3) (fun m σ H7 => ∃ (k3 : Nat) (kvs3 : List (List Key × V)) (o9 : Option V), σ = [some (.ref a), some (.ref na), some (.ref ta), some (.int fl), some (.int (k3 : Int)), some (.ref wd), some (.ref rd), some (.str t), some (.str c), o9] ∧ k3 ≤ k2 + 3 * m ∧ WNow H H7 wd rd kvs3 rows3 (180 * i + 30 * j + m) ∧ AllF kvs3 H7 (F0 ++ (cs.take j).map fun c => (t, c, n3)) ∧ Filled kvs3 H7 t c m)
          ⟨k2, kvs2, _, rfl, by omega, D1, D2, fun p hp => by omega⟩ ?_ ?_
        · rintro m σ H7 hm ⟨k3, kvs3, o9, rfl, hk3, E1, E2, E3⟩
          refine ⟨_, rfl, _, _, rfl, rfl, ?_⟩
          refine ⟨_, rfl, _, rfl, _, rfl, a, ns, (k3 : Int) + 3, fl, rfl, E1.s.seq hS, hl, by omega, by omega, fun v H8 s8 hv => ?_⟩
          refine ⟨_, rfl, _, rfl, _, rfl, _, rfl, sl, fun p hp => ?_⟩
          have s9 := Same.new (o := .tup [.str t, .str c, .int (0 + (m : Int))]) hp
          have E4 := (E1.same s8).same s9
          have E5 := (E2.same s8).same s9
          have E6 := (E3.keep (Keep.of s8)).keep (Keep.of s9)
          have hv9 := hv.keep (Keep.of s9)
          refine ⟨wd, _, rfl, DPut.t (k := [.inr t, .inr c, .inl (0 + (m : Int))]) E4.w upd_same (small_of (by have := E1.l; omega)), ?_⟩
          generalize upd H8 p (.tup [.str t, .str c, .int (0 + (m : Int))]) = H9 at E4 E5 E6 hv9 ⊢
          rw [Int.zero_add]
          have hHwd : H wd = none := hwd
          refine ⟨k3 + 3, putK kvs3 [.inr t, .inr c, .inl (m : Int)] v, _, rfl, by omega, ⟨E4.s.on hHwd, upd_same, by rw [upd_ne (Ne.symm nwr)]; exact E4.r, by have := putK_le kvs3 [.inr t, .inr c, .inl (m : Int)] v; have := E4.l; omega, E4.ks.put htN (nCs c (List.mem_of_getElem? hcj))⟩, ?_, ?_⟩
          · exact (E5.put hv9).upd_d E4.w (fun xs z => by cases z)
          · exact (E6.more hv9).upd_d E4.w (fun xs z => by cases z)
        · rintro σ H7 ⟨k3, kvs3, o9, rfl, hk3, E1, E2, E3⟩
          refine ⟨k3, kvs3, _, _, rfl, by omega, ⟨E1.s, E1.w, E1.r, by have := E1.l; omega, E1.ks⟩, fun z hz => ?_⟩
          rw [List.take_add_one, hcj, List.map_append, ← List.append_assoc] at hz
          rcases List.mem_append.mp hz with hz | hz
          · exact E2 z hz
          · simp only [Option.toList_some, List.map_cons, List.map_nil, List.mem_cons, List.not_mem_nil, or_false] at hz
            subst hz
            exact E3
      · rintro σ H6 ⟨k2, kvs2, o8, o9, rfl, hk2, D1, D2⟩
        rw [List.length_map, hc6] at hk2 D1
        rw [List.length_map, List.take_of_length_le (Nat.le_refl _)] at D2
        have D3 : AllF kvs2 H6 F0 := fun z hz => D2 z (List.mem_append_left _ hz)
        have D4 : ∀ c ∈ cs, Filled kvs2 H6 t c n3 := fun c hc => D2 (t, c, n3) (List.mem_append_right _ (List.mem_map_of_mem hc))
        refine ⟨k2, kvs2, rows3, _, _, _, rfl, by omega, ⟨D1.s, D1.w, D1.r, by have := D1.l; omega, D1.ks⟩, by omega, fun _ => ?_, fun hi => ?_⟩
        · rcases hit with ⟨e, et⟩ | ⟨e, et⟩
          · subst et
            exact ⟨n3, C4, C6 e, C5, D4⟩
          · exact back kvs2 H6 D3 (by omega)
        · rcases hit with ⟨e, et⟩ | ⟨e, et⟩
          · omega
          · subst et
            exact ⟨n3, C4, C5, D4⟩
    · rintro σ H2 ⟨k', kvs, rows, o7, o8, o9, rfl, hk', W, hr3, h0, h1⟩
      obtain ⟨n0, a1, a2, a3, a4⟩ := h0 (by show 1 ≤ 2; decide)
      obtain ⟨n1, b1, b2, b3⟩ := h1 (by show 2 ≤ 2; decide)
      refine ⟨_, rfl, _, rfl, sl, fun p hp => ?_⟩
      have s2 := Same.new (o := .tup [.ref wd, .ref rd]) hp
      exact q _ p wd rd kvs rows n0 n1 W.ks W.l (W.s.trans s2) upd_same (Wld.keep (Keep.of s2) ⟨W.w, W.r, a1, b1, a2, a3, b2, a4, b3⟩)
end
end My

namespace My
open PySem L2
abbrev Spot3 := Str × Str × Int
/-! ### the notes -/
def Nts (H : Hp) : List V → List Spot3 → Prop := Paired fun v z => ∃ a, v = .ref a ∧ H a = some (.tup [.str z.1, .str z.2.1, .int z.2.2])
theorem Nts.keep {H H' : Hp} (s : Keep H H') : ∀ {vs : List V} {ns : List Spot3}, Nts H vs ns → Nts H' vs ns
  | _, _, .nil => .nil
  | _, _, .cons ⟨a, e1, e2⟩ t => .cons ⟨a, e1, s _ _ (fun xs q => by cases q) e2⟩ (Nts.keep s t)
theorem Nts.snoc {H : Hp} {v : V} {z : Spot3} (h : ∃ a, v = .ref a ∧ H a = some (.tup [.str z.1, .str z.2.1, .int z.2.2])) : ∀ {vs : List V} {ns : List Spot3}, Nts H vs ns → Nts H (vs ++ [v]) (ns ++ [z])
  | _, _, .nil => .cons h .nil
  | _, _, .cons r t => .cons r (Nts.snoc h t)
theorem Nts.length {H : Hp} {vs : List V} {ns : List Spot3} (h : Nts H vs ns) : vs.length = ns.length := Paired.length h
abbrev sp3D (z : Spot3) : PyData := .tuple [.str z.1, .str z.2.1, .int z.2.2]
theorem Nts.dt {K : PySem.W.Frag} {H : Hp} : ∀ {vs : List V} {ns : List Spot3}, Nts H vs ns → DtAll K H vs (ns.map sp3D)
  | _, _, .nil => .nil
  | _, _, .cons ⟨a, e1, e2⟩ t => .cons (e1 ▸ .tup (SqT.of e2) (.cons (.str _) (.cons (.str _) (.cons (.int _) .nil)))) (Nts.dt t)
def Stab (LP : Hp → Prop) : Prop := ∀ H H', Keep H H' → LP H → LP H'
def LkS (LP : Hp → Prop) (nl wd : Addr) (kvs : List (List Key × V)) (ns : List Spot3) (H : Hp) : Prop := LP H ∧ H wd = some (.dT kvs) ∧ ∃ as, H nl = some (.lst as) ∧ Nts H as ns
theorem LkS.keep {LP : Hp → Prop} {nl wd : Addr} {kvs : List (List Key × V)} {ns : List Spot3} {H H' : Hp} (st : Stab LP) (s : Keep H H') (e : ∀ xs, H nl = some (.lst xs) → H' nl = some (.lst xs)) (h : LkS LP nl wd kvs ns H) : LkS LP nl wd kvs ns H' := by
  obtain ⟨h1, h2, as, h3, h4⟩ := h
  exact ⟨st _ _ s h1, s _ _ (fun xs q => by cases q) h2, as, e _ h3, h4.keep s⟩
theorem LkS.same {LP : Hp → Prop} {nl wd : Addr} {kvs : List (List Key × V)} {ns : List Spot3} {H H' : Hp} (st : Stab LP) (s : Same H H') (h : LkS LP nl wd kvs ns H) : LkS LP nl wd kvs ns H' := h.keep st (Keep.of s) fun xs e => s _ _ e
theorem LkS.list {LP : Hp → Prop} {nl wd : Addr} {kvs : List (List Key × V)} {ns : List Spot3} {H : Hp} (h : LkS LP nl wd kvs ns H) : ∃ as, H nl = some (.lst as) := let ⟨_, _, as, e, _⟩ := h; ⟨as, e⟩
/-- how look is asked: the cell is noted -/
def spLk (LP : Hp → Prop) (nl wd : Addr) (kvs : List (List Key × V)) : Sp := fun vs H Q _ => ∃ (t c : Str) (p : Int) (v : V) (ns : List Spot3), vs = [.str t, .str c, .int p] ∧ LkS LP nl wd kvs ns H ∧ ns.length < 900 ∧ valV kvs [.inr t, .inr c, .inl p] = some v ∧
  ∀ H', But nl H H' → LkS LP nl wd kvs (ns ++ [(t, c, p)]) H' → Q v H'
def spMn (LM : Hp → Prop) (rd : Addr) (rows : List (Key × V)) : Sp := fun vs H Q _ => ∃ (t : Str) (v : V), vs = [.str t] ∧ LM H ∧ H rd = some (.dK rows) ∧ valV rows (.inr t) = some v ∧ Q v H
/-! ### what is gathered -/
inductive Res where
  | val (v : V)
  | call (xs : List V)
/-- what is told: ("value", v) or ("call", a new list) -/
def Found (H H' : Hp) (fv : V) : Res → Prop
  | .val v => ∃ a, fv = .ref a ∧ H' a = some (.tup [.str ("value" : Str), v])
  | .call xs => ∃ a l, fv = .ref a ∧ H' a = some (.tup [.str ("call" : Str), .ref l]) ∧ H' l = some (.lst xs) ∧ H l = none
/-- the world a rule looks at -/
structure Sees (LP LM : Hp → Prop) (nl wd rd : Addr) (kvs : List (List Key × V)) (rows : List (Key × V)) (H : Hp) : Prop where
  lk : LkS LP nl wd kvs [] H
  r : H rd = some (.dK rows)
  m : LM H
  sl : Stab LP
  sm : Stab LM
section
variable {P : Program} {w : World} {K : PySem.W.Frag} {mg : Str → Option Value} {base : Heap}
/-- a rule's gather: gat tells what is looked at and what comes -/
def spGat (P : Program) (w : World) (K : PySem.W.Frag) (mg : Str → Option Value) (base : Heap) {Rl : Type} (at' : Hp → Addr → Rl → Prop) (gat : List (List Key × V) → List (Key × V) → Rl → Str → Str → Nat → List Spot3 × Res)
    (ok : Hp → List (List Key × V) → List (Key × V) → Rl → Str → Str → Nat → Prop) : Sp := fun vs H Q _ => ∃ (self look many nl wd rd : Addr) (t c : Str) (p : Nat) (LP LM : Hp → Prop) (kvs : List (List Key × V)) (rows : List (Key × V)) (rl : Rl),
  vs = [.ref self, .ref look, .ref many, .str t, .str c, .int (p : Int)] ∧ at' H self rl ∧ (∀ H', But nl H H' → at' H' self rl) ∧ ok H kvs rows rl t c p ∧ LamFn P w K mg base 2 look (spLk LP nl wd kvs) ∧ LamFn P w K mg base 2 many (spMn LM rd rows) ∧ Sees LP LM nl wd rd kvs rows H ∧
  ∀ H' fv, But nl H H' → LkS LP nl wd kvs (gat kvs rows rl t c p).1 H' → Found H H' fv (gat kvs rows rl t c p).2 → Q fv H'
def spLookD (K : PySem.W.Frag) : Sp := fun vs H Q _ => ∃ (wd nl : Addr) (t c : Str) (p : Int) (v : V) (as : List V) (kvs : List (List Key × V)), vs = [.ref wd, .ref nl, .str t, .str c, .int p] ∧ H wd = some (.dT kvs) ∧ H nl = some (.lst as) ∧ as.length < 1000 ∧ valV kvs [.inr t, .inr c, .inl p] = some v ∧
  ∀ H' a, But nl H H' → H' nl = some (.lst (as ++ [.ref a])) → H' a = some (.tup [.str t, .str c, .int p]) → Q v H'
theorem sc_law_look : FnScope ["_law_world_here", "_law_notes", "_law_table_here", "_law_column", "_law_place"] ["_law_world_here", "_law_notes", "_law_table_here", "_law_column", "_law_place"] (defScope s_law_look) := ⟨rfl, rfl, rfl, by decide +kernel, rfl, by decide +kernel, by decide +kernel⟩
theorem k_law_look (T : Tops K mg) : Known P w K mg base CX0 1 "_law_look" ["_law_world_here", "_law_notes", "_law_table_here", "_law_column", "_law_place"] (spLookD K) := by
  refine T.d_law_look.known sc_law_look (fun _ _ _ _ _ _ us hl => match us, hl with | [_, _, _, _, _], _ => rfl) (fun vs H Q E h => ?_) (fun f cdv A outer s H vs Q E hr h => ?_)
  · obtain ⟨wd, nl, t, c, p, v, as, kvs, rfl, _⟩ := h
    rfl
  · obtain ⟨wd, nl, t, c, p, v, as, kvs, rfl, hw, hn, hl, hv, q⟩ := h
    have hu := hu_of hr
    refine ⟨_, (pss_cons (ps_expr (pe_bm PySem.F.plainAttrs_list PySem.F.slot_list_append PySem.F.type_list_append mt_append (pv 1) (pa_cons (pe_tup (pa_cons (pv 2) (pa_cons (pv 3) (pa_cons (pv 4) pa_nil)))) pa_nil)))
      (pss_one (ps_ret (pe_dget hu (pv 0) (pe_tup (pa_cons (pv 2) (pa_cons (pv 3) (pa_cons (pv 4) pa_nil)))) (fun _ _ => rfl))))), ?_⟩
    refine ⟨_, rfl, .inl ⟨rfl, _, SqL.of hn⟩, _, rfl, _, rfl, _, rfl, sl, fun a ha => ?_⟩
    have s1 := Same.new (o := .tup [.str t, .str c, .int p]) ha
    have nan : nl ≠ a := ne_of_none hn ha
    refine ⟨nl, _, _, rfl, rfl, s1 _ _ hn, small1000 (by omega), ?_⟩
    have nwn : wd ≠ nl := ne_of hw hn (fun z => by cases z)
    refine ⟨_, rfl, _, rfl, _, rfl, _, rfl, sl, fun b hb => ?_⟩
    have s2 := Same.new (o := .tup [.str t, .str c, .int p]) hb
    refine ⟨wd, v, rfl, hv ▸ DGet.t (k := [.inr t, .inr c, .inl p]) (s2 _ _ (by rw [upd_ne nwn]; exact s1 _ _ hw)) upd_same, ?_⟩
    refine q _ a ((But.of s1).trans (But.upd.trans (But.of s2))) (s2 _ _ upd_same) (s2 _ _ ?_)
    rw [upd_ne (Ne.symm nan), upd_same]
theorem sc_law_table : FnScope ["_law_script", "_law_k", "_law_rows", "_law_tables", "_law_table_here"] ["_law_script", "_law_k", "_law_rows", "_law_tables"] (defScope s_law_table) := ⟨rfl, rfl, rfl, by decide +kernel, rfl, by decide +kernel, by decide +kernel⟩
def spTable (K : PySem.W.Frag) : Sp := fun vs H Q _ => ∃ (a ta wd rd : Addr) (ns : List Int) (k : Int) (t0 t1 : Str) (cs : List Str) (kvs : List (List Key × V)) (rows : List (Key × V)) (n0 n1 : Nat), vs = [.ref a, .int k, .ref rd, .ref ta] ∧ SqL K H a (ns.map V.int) ∧ ns.length ≤ 63 ∧ 0 ≤ k ∧ k ≤ 100000 ∧ SqL K H ta [.str t0, .str t1] ∧ Wld H t0 t1 cs wd rd kvs rows n0 n1 ∧
  ∀ t n, ((t = t0 ∧ n = n0) ∨ (t = t1 ∧ n = n1)) → 1 ≤ n → Q (.str t) H
theorem k_law_table (T : Tops K mg) : Known P w K mg base CX0 2 "_law_table" ["_law_script", "_law_k", "_law_rows", "_law_tables"] (spTable K) := by
  have G_law_drawn : Known P w K mg base CX0 1 "_law_drawn" ["_law_script", "_law_k", "_law_size"] (spDrawn K) := k_law_drawn T
  refine T.d_law_table.known sc_law_table (fun _ _ _ _ _ _ us hl => match us, hl with | [_, _, _, _], _ => rfl) (fun vs H Q E h => ?_) (fun f cdv A outer s H vs Q E hr h => ?_)
  · obtain ⟨a, ta, wd, rd, ns, k, t0, t1, cs, kvs, rows, n0, n1, rfl, _⟩ := h
    rfl
  · obtain ⟨a, ta, wd, rd, ns, k, t0, t1, cs, kvs, rows, n0, n1, rfl, hS, hl, h0, h1, ht, W, q⟩ := h
    have hu := hu_of hr
    refine ⟨_, (pss_cons (ps_set (i := 4) sc_law_table.nd rfl (Or.inl rfl) (pe_ix ix_list (pv 3) (pe_callN G_law_drawn (hr.mono (by decide)) pass0 (pa_cons (pv 0) (pa_cons (pv 1) (pa_cons pe_int pa_nil)))) (fun _ _ => rfl)))
      (pss_cons (ps_if (pt_cmpR op_eq (pe_dget hu (pv 2) (pv 4) (fun _ _ => rfl)) pe_int (nomark _)) (pss_one (ps_ret (pe_ix ix_list (pv 3) pe_int (fun _ _ => rfl)))) pss_nil)
      (pss_one (ps_ret (pv 4))))), ?_⟩
    have b0 := drawZ_nn ns k (show (0 : Int) < 2 by decide)
    have b1 := drawZ_lt ns k (show (0 : Int) < 2 by decide)
    obtain ⟨t, n, hat, hn, hv⟩ : ∃ (t : Str) (n : Nat), atI [V.str t0, V.str t1] (drawZ ns k 2) = some (.str t) ∧ ((t = t0 ∧ n = n0) ∨ (t = t1 ∧ n = n1)) ∧ valV rows (.inr t) = some (.int (n : Int)) := by
      have : drawZ ns k 2 = 0 ∨ drawZ ns k 2 = 1 := by omega
      rcases this with e | e
      · exact ⟨t0, n0, by rw [e]; rfl, .inl ⟨rfl, rfl⟩, W.v0⟩
      · exact ⟨t1, n1, by rw [e]; rfl, .inr ⟨rfl, rfl⟩, W.v1⟩
    refine ⟨_, rfl, _, rfl, _, rfl, a, ns, k, 2, rfl, hS, hl, h0, by omega, by decide, ta, _, _, _, rfl, rfl, ht, hat, ?_⟩
    refine ⟨_, rfl, _, rfl, rd, _, rfl, hv ▸ DGet.k (k := Sum.inr t) W.r, rfl, _, rfl, ?_⟩
    refine ite2 (fun g => ?_) (fun g => ?_)
    · exact ⟨_, rfl, ta, _, _, _, rfl, rfl, ht, rfl, q t0 n0 (.inl ⟨rfl, rfl⟩) W.p0⟩
    · refine ⟨_, rfl, q t n hn ?_⟩
      cases n with
      | zero => simp at g
      | succ m => exact Nat.succ_le_succ (Nat.zero_le _)
end
end My

namespace My
open PySem L2
/-! ### each once -/
def onceG (ps : List Spot3) : List Spot3 := ps.foldl (fun acc p => if p ∈ acc then acc else acc ++ [p]) []
theorem onceG_snoc (ps : List Spot3) (p : Spot3) : onceG (ps ++ [p]) = if p ∈ onceG ps then onceG ps else onceG ps ++ [p] := by
  unfold onceG
  rw [List.foldl_append]
  rfl
theorem sp3D_eqv (p q : Spot3) : PyData.eqv (sp3D p) (sp3D q) = decide (p = q) := by
  obtain ⟨a, b, c⟩ := p
  obtain ⟨d, e, f⟩ := q
  simp only [PyData.eqv, PyData.eqvAll, Bool.and_true]
  by_cases h1 : a = d <;> by_cases h2 : b = e <;> by_cases h3 : c = f <;> simp_all
theorem sp3D_any (p : Spot3) : ∀ ps : List Spot3, ((ps.map sp3D).any fun z => PyData.eqv z (sp3D p)) = decide (p ∈ ps)
  | [] => rfl
  | q :: r => by
    rw [List.map_cons, List.any_cons, sp3D_any p r, sp3D_eqv]
    by_cases h1 : q = p <;> by_cases h2 : p ∈ r <;> simp_all [eq_comm]
theorem lay3 {z : Spot3} (h1 : Nl z.1) (h2 : Nl z.2.1) : (sp3D z).canLay0 = true := by
  have a := Nl.lay h1
  have b := Nl.lay h2
  show PyData.canLay0 (.tuple [.str z.1, .str z.2.1, .int z.2.2]) = true
  simp only [PyData.canLay0, PyData.canLayAll0] at a b ⊢
  simp [a, b]
theorem lay3s : ∀ {ps : List Spot3}, (∀ p ∈ ps, Nl p.1 ∧ Nl p.2.1) → (PyData.list (ps.map sp3D)).canLay0 = true
  | [], _ => by decide
  | p :: r, h => by
    have a := lay3 (h p List.mem_cons_self).1 (h p List.mem_cons_self).2
    have b := lay3s fun q hq => h q (List.mem_cons_of_mem _ hq)
    simp only [PyData.canLay0, List.map_cons, PyData.canLayAll0, Bool.and_true, Bool.and_eq_true] at a b ⊢
    exact ⟨a, b⟩
theorem onceG_le : ∀ ps : List Spot3, (onceG ps).length ≤ ps.length := by
  suffices h : ∀ (ps acc : List Spot3), (ps.foldl (fun acc p => if p ∈ acc then acc else acc ++ [p]) acc).length ≤ acc.length + ps.length by
    intro ps
    have := h ps []
    simpa [onceG] using this
  intro ps
  induction ps with
  | nil => intro acc; simp
  | cons p ps ih =>
    intro acc
    rw [List.foldl_cons]
    refine Nat.le_trans (ih _) ?_
    split
    · simp
    · simp; omega
theorem onceG_mem : ∀ {ps : List Spot3} {p : Spot3}, p ∈ onceG ps → p ∈ ps := by
  suffices h : ∀ (ps acc : List Spot3) (p : Spot3), p ∈ ps.foldl (fun acc p => if p ∈ acc then acc else acc ++ [p]) acc → p ∈ acc ∨ p ∈ ps by
    intro ps p hp
    rcases h ps [] p hp with h | h
    · cases h
    · exact h
  intro ps
  induction ps with
  | nil => intro acc p h; exact .inl h
  | cons q ps ih =>
    intro acc p h
    rw [List.foldl_cons] at h
    rcases ih _ p h with h | h
    · split at h
      · exact .inl h
      · rcases List.mem_append.mp h with h | h
        · exact .inl h
        · exact .inr (by simp at h; rw [h]; exact List.mem_cons_self)
    · exact .inr (List.mem_cons_of_mem _ h)
/-! ### all but what is told by a word of its own stays -/
def KeepC (H H' : Hp) : Prop := ∀ b o, (∀ φ, o ≠ .ext φ) → H b = some o → H' b = some o
theorem KeepC.of {H H' : Hp} (s : Same H H') : KeepC H H' := fun b o _ e => s b o e
theorem KeepC.trans {H H1 H2 : Hp} (a : KeepC H H1) (b : KeepC H1 H2) : KeepC H H2 := fun c o n e => b c o n (a c o n e)
theorem KeepC.tab {H H' : Hp} {P : Addr} {q : Str} (t : TabIn q H P) (s : SameX P H H') : KeepC H H' := fun b o n e => by
  obtain ⟨S, h, _⟩ := t
  exact s b o (fun z => by rw [z, h] at e; exact n _ (Option.some.inj e).symm) e
theorem KeepC.sqL {K : PySem.W.Frag} {H H' : Hp} {a : Addr} {xs : List V} (s : KeepC H H') (h : SqL K H a xs) : SqL K H' a xs := by
  rcases h with h | h
  · rcases h with h | ⟨o, h⟩
    · exact .inl (.inl (s _ _ (fun φ z => by cases z) h))
    · exact .inl (.inr ⟨o, s _ _ (fun φ z => by cases z) h⟩)
  · exact .inr h
theorem lam_by {X : Cx} {σ : St} {H₁ : Hp} {f : Lend} {q : Str} {params : Arguments} {body : Expr} {scope : Scope} {fa : Addr} {ps : List Str} {cp : List (Nat × Str)} {cv : List V} {k : Nat} {spB : List V → Hp → VK → Prop} {sc : Scope} {N : List Str} (la : LamAt q params body scope (clFold X.env.cells scope.names []) H₁ fa) (L : Lent X σ H₁ f)
    (hcell : ∀ x, X.env.scope.names.lookup x = some .cell → ∃ c, X.env.cells.lookup x = some c)
    (hcv : cp.map (fun p => σ[p.1]?) = cv.map fun v => some (some v))
    (hb : ∀ (pm ctv : Value) (c : Addr) (clos : List (Str × Addr)) (us : List Value), us.length = ps.length → bindArgs (PySem.W.kla_fn "<lambda>" q params body scope clos pm (.ref c) ctv) ⟨us, []⟩ = pure (ps.zip us))
    (hbody : ∀ (cd : Value) (A : Around) (outer : List Env) (s : Shared) (H : Hp) (vs : List V) (Q : VK), Room k (A.deeper (PySem.W.envX q scope s.heap.objs.size fa cd (clFold X.env.cells scope.names []))) → spB vs H Q →
      ∃ t, PE (cxLam X.prog X.w X.K X.mg X.base (ps ++ cp.map (·.2)) q scope fa cd (clFold X.env.cells scope.names []) A outer s H) body t ∧ t ((vs ++ cv).map some) H Q)
    (hs : X.env.scope = sc := by rfl) (hN : X.N = N := by rfl)
    (hcp : ∀ p ∈ cp, N[p.1]? = some p.2 ∧ sc.names.lookup p.2 = some .cell ∧ scope.names.lookup p.2 = some .free := by decide +kernel)
    (free : ∀ y ∈ scope.names, y.2 = .free → sc.names.lookup y.1 = some .cell := by decide +kernel)
    (kind : scope.kind = .function := by rfl) (co : scope.isCoroutine = false := by rfl) (gen : scope.isGenerator = false := by rfl) (nocell : ∀ y ∈ scope.names, y.2 ≠ .cell := by decide +kernel) (par : ∀ x ∈ ps, scope.names.lookup x = some .local := by decide +kernel) (nd : (ps ++ cp.map (·.2)).Nodup := by decide +kernel) :
    LamFn X.prog X.w X.K X.mg X.base (k + 1) fa (spLam fa f q params body scope (clFold X.env.cells scope.names []) ps.length spB) := by
  subst hs hN
  exact lam_of L hcell hcv hcp free kind co gen nocell par nd hb hbody
theorem Nts.mapT {H H' : Hp} (h : ∀ a xs, H a = some (.tup xs) → H' a = some (.tup xs)) : ∀ {vs : List V} {ns : List Spot3}, Nts H vs ns → Nts H' vs ns
  | _, _, .nil => .nil
  | _, _, .cons ⟨a, e1, e2⟩ t => .cons ⟨a, e1, h _ _ e2⟩ (Nts.mapT h t)
theorem Nts.at {H : Hp} : ∀ {vs : List V} {ns : List Spot3} {i : Nat} {v : V}, Nts H vs ns → vs[i]? = some v → ∃ z, ns[i]? = some z ∧ ∃ a, v = .ref a ∧ H a = some (.tup [.str z.1, .str z.2.1, .int z.2.2])
  | _, _, _, _, .nil, e => by simp at e
  | _, _, 0, _, .cons r _, e => by simp at e; subst e; exact ⟨_, rfl, r⟩
  | _, _, i + 1, v, .cons _ t, e => by
    obtain ⟨z, h1, h2⟩ := Nts.at (i := i) (v := v) t (by simpa using e)
    exact ⟨z, by simpa using h1, h2⟩
theorem tabIn_same {q : Str} {H H' : Hp} {P : Addr} (s : Same H H') (h : TabIn q H P) : TabIn q H' P := by
  obtain ⟨S, e, r⟩ := h
  exact ⟨S, s _ _ e, fun c hc => let ⟨o, e1, e2⟩ := r c hc; ⟨o, s _ _ e1, e2⟩⟩
theorem lamAt_keepC {q : Str} {params : Arguments} {body : Expr} {scope : Scope} {clos : List (Str × Addr)} {H H' : Hp} {fa : Addr} (s : KeepC H H') (h : LamAt q params body scope clos H fa) : LamAt q params body scope clos H' fa := by
  obtain ⟨pm, c, ctv, o, e1, e2, e3⟩ := h
  exact ⟨pm, c, ctv, o, s _ _ (fun φ z => by cases z) e1, s _ _ (fun φ z => by cases z) e2, e3⟩
def LPof (q : Str) (params : Arguments) (body : Expr) (scope : Scope) (clos : List (Str × Addr)) (fa : Addr) (f : Lend) : Hp → Prop := fun H => LamAt q params body scope clos H fa ∧ ∀ b o, f b = some o → H b = some (Fz o)
theorem stab_LPof {q : Str} {params : Arguments} {body : Expr} {scope : Scope} {clos : List (Str × Addr)} {fa : Addr} {f : Lend} : Stab (LPof q params body scope clos fa f) := fun H H' s ⟨⟨pm, c, ctv, o, e1, e2, e3⟩, h⟩ =>
  ⟨⟨pm, c, ctv, o, s _ _ (fun xs z => by cases z) e1, s _ _ (fun xs z => by cases z) e2, e3⟩, fun b o e => s _ _ (fun xs z => by cases z) (h b o e)⟩
def spBlook (nl wd : Addr) (kvs : List (List Key × V)) : List V → Hp → VK → Prop := fun vs H Q => ∃ (t c : Str) (p : Int) (v : V) (as : List V), vs = [.str t, .str c, .int p] ∧ H wd = some (.dT kvs) ∧ H nl = some (.lst as) ∧ as.length < 1000 ∧ valV kvs [.inr t, .inr c, .inl p] = some v ∧
  ∀ H' a, But nl H H' → H' nl = some (.lst (as ++ [.ref a])) → H' a = some (.tup [.str t, .str c, .int p]) → Q v H'
def spBmany (rd : Addr) (rows : List (Key × V)) : List V → Hp → VK → Prop := fun vs H Q => ∃ (t : Str) (v : V), vs = [.str t] ∧ H rd = some (.dK rows) ∧ valV rows (.inr t) = some v ∧ Q v H
theorem look_fn {P : Program} {w : World} {K : PySem.W.Frag} {mg : Str → Option Value} {base : Heap} {k : Nat} {q : Str} {params : Arguments} {body : Expr} {scope : Scope} {clos : List (Str × Addr)} {fa : Addr} {f : Lend} {nl wd : Addr} {kvs : List (List Key × V)}
    (F : LamFn P w K mg base k fa (spLam fa f q params body scope clos 3 (spBlook nl wd kvs))) : LamFn P w K mg base k fa (spLk (LPof q params body scope clos fa f) nl wd kvs) := by
  refine F.imp fun vs H Q E h => ?_
  obtain ⟨t, c, p, v, ns, rfl, ⟨⟨la, lf⟩, hw, as, hn, hN⟩, hlen, hv, qq⟩ := h
  have fn : ∀ b u, H b = some u → (∀ o, u ≠ Fz o) → f b = none := fun b u e z => by
    cases e2 : f b with
    | none => rfl
    | some o => rw [lf b o e2] at e; exact absurd (Option.some.inj e).symm (z o)
  have fwd := fn wd _ hw (fun o z => by cases z)
  have fnl := fn nl _ hn (fun o z => by cases z)
  refine ⟨rfl, la, lf, t, c, p, v, as, rfl, by rw [unl_no fwd]; exact hw, by rw [unl_no fnl]; exact hn, by rw [hN.length]; omega, hv, fun H' a b' e1 e2 fr => ?_⟩
  have B : But nl H (lend f H') := fun b o nb e => by
    cases e3 : f b with
    | none => rw [lend_no e3]; exact b' b o nb (by rw [unl_no e3]; exact e)
    | some ob =>
      rw [lf b ob e3] at e
      rw [lend_at e3]; exact e
  have fa' : f a = none := by
    cases e3 : f a with
    | none => rfl
    | some ob => rw [fr a ob e3] at e2; cases e2
  have hnl' : lend f H' nl = some (.lst (as ++ [.ref a])) := by rw [lend_no fnl]; exact e1
  have kp : Keep H (lend f H') := Keep.but B hn
  exact qq _ B ⟨stab_LPof _ _ kp ⟨la, lf⟩, kp _ _ (fun xs z => by cases z) hw, _, hnl', (hN.keep kp).snoc ⟨a, rfl, by rw [lend_no fa']; exact e2⟩⟩
theorem many_fn {P : Program} {w : World} {K : PySem.W.Frag} {mg : Str → Option Value} {base : Heap} {k : Nat} {q : Str} {params : Arguments} {body : Expr} {scope : Scope} {clos : List (Str × Addr)} {fa : Addr} {f : Lend} {rd : Addr} {rows : List (Key × V)}
    (F : LamFn P w K mg base k fa (spLam fa f q params body scope clos 1 (spBmany rd rows))) : LamFn P w K mg base k fa (spMn (LPof q params body scope clos fa f) rd rows) := by
  refine F.imp fun vs H Q E h => ?_
  obtain ⟨t, v, rfl, ⟨la, lf⟩, hr, hv, qq⟩ := h
  have frd : f rd = none := by
    cases e2 : f rd with
    | none => rfl
    | some o => rw [lf rd o e2] at hr; cases hr
  refine ⟨rfl, la, lf, t, v, rfl, by rw [unl_no frd]; exact hr, hv, fun _ => ?_⟩
  rw [lend_unl lf]
  exact qq
section
variable {P : Program} {w : World} {K : PySem.W.Frag} {mg : Str → Option Value} {base : Heap}
abbrev Ngat : List Str := ["_law_world_here", "_law_rows", "_law_rule", "_law_table_here", "_law_column", "_law_place", "_law_notes", "_law_look_here", "_law_many", "_law_found", "_law_once", "_law_spot"]
theorem sc_law_gathered : FnScope Ngat ["_law_world_here", "_law_rows", "_law_rule", "_law_table_here", "_law_column", "_law_place"] (defScope s_law_gathered) := ⟨rfl, rfl, rfl, by decide +kernel, rfl, by decide +kernel, by decide +kernel⟩
abbrev qGat : Str := ("_law_gathered" : Str) ++ ".<locals>." ++ "<lambda>"
def spGathered {Rl : Type} (at' : Hp → Addr → Rl → Prop) (gat : List (List Key × V) → List (Key × V) → Rl → Str → Str → Nat → List Spot3 × Res) (ok : Hp → List (List Key × V) → List (Key × V) → Rl → Str → Str → Nat → Prop) (zt : Addr) : Sp := fun vs H Q _ =>
  ∃ (wd rd self : Addr) (t c : Str) (p : Nat) (kvs : List (List Key × V)) (rows : List (Key × V)) (rl : Rl), vs = [.ref wd, .ref rd, .ref self, .str t, .str c, .int (p : Int)] ∧ H wd = some (.dT kvs) ∧ H rd = some (.dK rows) ∧ at' H self rl ∧ ok H kvs rows rl t c p ∧
    (∀ z ∈ (gat kvs rows rl t c p).1, Nl z.1 ∧ Nl z.2.1) ∧ (gat kvs rows rl t c p).1.length ≤ 900 ∧ TabIn qGat H zt ∧
    ∀ H' p' fv ol os, SameX zt H H' → TabIn qGat H' zt → H' p' = some (.tup [fv, .ref ol]) → H' ol = some (.lst os) → Nts H' os (onceG (gat kvs rows rl t c p).1) → Found H H' fv (gat kvs rows rl t c p).2 → Q (.ref p') H'
theorem k_law_gathered (T : Tops K mg) {z : Addr × Addr} (B : DefT K mg "_law_gathered" s_law_gathered z) (M : Maker mg base z.1 z.2) {Rl : Type} {at' : Hp → Addr → Rl → Prop} {gat : List (List Key × V) → List (Key × V) → Rl → Str → Str → Nat → List Spot3 × Res} {ok : Hp → List (List Key × V) → List (Key × V) → Rl → Str → Str → Nat → Prop} {kg : Nat} (hkg : 2 ≤ kg) {R : Addr → Sp → Prop}
    (hR : ∀ C sp, R C sp → Cls K C ∧ KnownM P w K mg base CX0 kg C "gather" ["self", "look", "many", "table", "column", "place"] sp)
    (hat : ∀ H p rl, at' H p rl → ∃ C dx fs sp, R C sp ∧ H p = some (.ins C dx fs) ∧ fs.lookup ("gather" : Str) = none ∧ ∀ vs H Q E, spGat P w K mg base (fun H q r => q = p ∧ r = rl ∧ at' H q r) gat ok vs H Q E → sp vs H Q E)
    (has : ∀ H H' p rl, KeepC H H' → at' H p rl → at' H' p rl) (hos : ∀ H H' kvs rows rl t c p, KeepC H H' → ok H kvs rows rl t c p → ok H' kvs rows rl t c p) :
    Known P w K mg base CX0 (kg + 1) "_law_gathered" ["_law_world_here", "_law_rows", "_law_rule", "_law_table_here", "_law_column", "_law_place"] (spGathered at' gat ok z.2) := by
  have G_law_look : Known P w K mg base CX0 1 "_law_look" ["_law_world_here", "_law_notes", "_law_table_here", "_law_column", "_law_place"] (spLookD K) := k_law_look T
  refine B.known sc_law_gathered (fun _ _ _ _ _ _ us hl => match us, hl with | [_, _, _, _, _, _], _ => rfl) (fun vs H Q E h => ?_) (fun f A outer s H vs Q E hr h => ?_)
  · obtain ⟨wd, rd, self, t, c, p, kvs, rows, rl, rfl, _⟩ := h
    rfl
  · obtain ⟨wd, rd, self, t, c, p, kvs, rows, rl, rfl, hw, hrd, hat0, hok0, hnl, hlen, hT, q⟩ := h
    have hcl : ∀ x, (cxOf CX0 P w K mg base Ngat "_law_gathered" (defScope s_law_gathered) f (.ref z.1) A outer s H E).nox.env.scope.names.lookup x = some .cell → ∃ c, (cxOf CX0 P w K mg base Ngat "_law_gathered" (defScope s_law_gathered) f (.ref z.1) A outer s H E).nox.env.cells.lookup x = some c := fun x hx => Option.isSome_iff_exists.mp (PySem.W.cellsFrom_some _ _ _ (.inl hx))
    refine ⟨_, (pss_cons (ps_set (i := 6) sc_law_gathered.nd rfl (by first | exact Or.inl rfl | exact Or.inr rfl) (pe_lst pa_nil))
      (pss_cons (ps_set (i := 7) sc_law_gathered.nd rfl (by first | exact Or.inl rfl | exact Or.inr rfl) (pe_lamF M rfl (caps_of (sc := defScope s_law_gathered) (N := Ngat) (cp := [(0, "_law_world_here"), (6, "_law_notes")]) hcl).clos rfl))
      (pss_cons (ps_set (i := 8) sc_law_gathered.nd rfl (by first | exact Or.inl rfl | exact Or.inr rfl) (pe_lamF M rfl (caps_of (sc := defScope s_law_gathered) (N := Ngat) (cp := [(1, "_law_rows")]) hcl).clos rfl))
      (pss_cons (ps_set (i := 9) sc_law_gathered.nd rfl (by first | exact Or.inl rfl | exact Or.inr rfl) (pe_methLD (pv 2) hR hr (pa_cons (pv 7) (pa_cons (pv 8) (pa_cons (pv 3) (pa_cons (pv 4) (pa_cons (pv 5) pa_nil)))))))
      (pss_cons (ps_set (i := 10) sc_law_gathered.nd rfl (by first | exact Or.inl rfl | exact Or.inr rfl) (pe_lst pa_nil))
      (pss_cons (ps_for PassesOwn.never rfl (pi_list (pv 6)) (pg_name (i := 11) sc_law_gathered.nd rfl (by first | exact Or.inl rfl | exact Or.inr rfl)) (pss_one (ps_if (pt_cmpR (op_notinD hr.units) (pv 11) (pv 10) (by with_unfolding_all rfl)) (pss_one (ps_expr (pe_bm PySem.F.plainAttrs_list PySem.F.slot_list_append PySem.F.type_list_append mt_append (pv 10) (pa_cons (pv 11) pa_nil)))) pss_nil)))
      (pss_one (ps_ret (pe_tup (pa_cons (pv 9) (pa_cons (pv 10) pa_nil))))))))))), ?_⟩
    refine ⟨sl, fun nl hnl0 => ?_⟩
    have s1 := Same.new (o := .lst []) hnl0
    have t1 : TabIn qGat (upd H nl (.lst [])) z.2 := tabIn_same s1 hT
    refine ⟨t1, fun fa H2 hfa s2 tb2 la => ?_⟩
    refine ⟨tb2, fun fb H3 hfb s3 tb3 lb => ?_⟩
    have k3 : KeepC (upd H nl (.lst [])) H3 := (KeepC.tab t1 s2).trans (KeepC.tab tb2 s3)
    have k03 : KeepC H H3 := (KeepC.of s1).trans k3
    have h3n : H3 nl = some (.lst []) := k3 _ _ (fun φ z => by cases z) upd_same
    have h3w : H3 wd = some (.dT kvs) := k03 _ _ (fun φ z => by cases z) hw
    have h3r : H3 rd = some (.dK rows) := k03 _ _ (fun φ z => by cases z) hrd
    have at3 := has _ _ _ _ k03 hat0
    have ok3 := hos _ _ _ _ _ _ _ _ k03 hok0
    have la3 := lamAt_keepC (KeepC.tab tb2 s3) la
    obtain ⟨C, dx, fs, sp, hRC, hself, hg, hsp⟩ := hat H3 self rl at3
    refine ⟨_, rfl, C, sp, self, dx, fs, hRC, rfl, hself, hg, _, rfl, _, rfl, _, rfl, _, rfl, _, rfl, fun f' L => ?_⟩
    have sL : Same H3 (lend f' H3) := fun b o e => by
      cases e2 : f' b with
      | none => rw [lend_no e2]; exact e
      | some ob => rw [L.free b ob e2] at e; cases e
    have kL := KeepC.of sL
    have F1 := look_fn (lam_by (sc := defScope s_law_gathered) (N := Ngat) (ps := ["_law_t", "_law_c", "_law_p"]) (cp := [(0, "_law_world_here"), (6, "_law_notes")]) (cv := [.ref wd, .ref nl]) (k := 1) (spB := spBlook nl wd kvs) la3 L hcl rfl (fun _ _ _ _ us hl => match us, hl with | [_, _, _], _ => rfl) (fun cd A' outer' s' H' vs Q' hr' h' => by
      obtain ⟨t', c', p', v', as, rfl, g1, g2, g3, g4, g5⟩ := h'
      exact ⟨_, pe_callN G_law_look hr' pass0 (pa_cons (pv 3) (pa_cons (pv 4) (pa_cons (pv 0) (pa_cons (pv 1) (pa_cons (pv 2) pa_nil))))), _, rfl, _, rfl, _, rfl, _, rfl, _, rfl, wd, nl, t', c', p', v', as, kvs, rfl, g1, g2, g3, g4, g5⟩))
    have F2 := many_fn (lam_by (sc := defScope s_law_gathered) (N := Ngat) (ps := ["_law_t"]) (cp := [(1, "_law_rows")]) (cv := [.ref rd]) (k := 1) (spB := spBmany rd rows) lb L hcl rfl (fun _ _ _ _ us hl => match us, hl with | [_], _ => rfl) (fun cd A' outer' s' H' vs Q' hr' h' => by
      obtain ⟨t', v', rfl, g1, g2, g3⟩ := h'
      exact ⟨_, pe_dget (hu_of hr') (pv 1) (pv 0) (fun _ _ => rfl), _, rfl, _, rfl, rd, v', rfl, g2 ▸ DGet.k (k := Sum.inr t') g1, g3⟩))
    have lf : ∀ b o, f' b = some o → lend f' H3 b = some (Fz o) := fun b o e => lend_at e
    refine hsp _ _ _ _ ⟨self, fa, fb, nl, wd, rd, t, c, p, _, _, kvs, rows, rl, rfl, ⟨rfl, rfl, has _ _ _ _ kL at3⟩, (fun H' b' => ⟨rfl, rfl, has _ _ _ _ (fun b o nz e => b' b o (ne_of_none e hnl0) (sL _ _ (k03 _ _ nz e))) hat0⟩), hos _ _ _ _ _ _ _ _ kL ok3, F1, F2, ⟨⟨⟨lamAt_keepC kL la3, lf⟩, sL _ _ h3w, [], sL _ _ h3n, .nil⟩, sL _ _ h3r, ⟨lamAt_keepC kL lb, lf⟩, stab_LPof, stab_LPof⟩, fun H4 fv b4 lk4 fo4 => ?_⟩
    generalize hG : gat kvs rows rl t c p = gg at hnl hlen q lk4 fo4
    obtain ⟨ls, res⟩ := gg
    have hlen' : ls.length ≤ 900 := hlen
    have nofL : ∀ b o, H3 b = some o → f' b = none := fun b o e => by
      cases e2 : f' b with
      | none => rfl
      | some ob => rw [L.free b ob e2] at e; cases e
    have KN : ∀ b o, (∀ u, o ≠ Fz u) → H4 b = some o → unl f' H4 b = some o := fun b o nz e => by
      cases e2 : f' b with
      | none => rw [unl_no e2]; exact e
      | some ob =>
        have nb : b ≠ nl := fun y => by rw [y, nofL nl _ h3n] at e2; cases e2
        rw [b4 b _ nb (lend_at e2)] at e
        exact absurd (Option.some.inj e).symm (nz ob)
    have B5 : But nl H3 (unl f' H4) := fun b o nb e => by
      have e2 := nofL b o e
      rw [unl_no e2]
      exact b4 b o nb (by rw [lend_no e2]; exact e)
    obtain ⟨_, _, as, hn4, hN4⟩ := lk4
    have hn5 : unl f' H4 nl = some (.lst as) := KN _ _ (fun u z => by cases z) hn4
    have hN5 : Nts (unl f' H4) as ls := Nts.mapT (fun a xs e => KN _ _ (fun u z => by cases z) e) hN4
    have t5 : TabIn qGat (unl f' H4) z.2 := by
      obtain ⟨S, e, r⟩ := tb3
      have np : ∀ {b : Addr} {o : HO}, H3 b = some o → (∀ xs, o ≠ .lst xs) → b ≠ nl := fun e nz y => by rw [y, h3n] at e; exact nz _ (Option.some.inj e).symm
      exact ⟨S, B5 _ _ (np e (fun xs z => by cases z)) e, fun c hc => let ⟨o, e1, e2⟩ := r c hc; ⟨o, B5 _ _ (np e1 (fun xs z => by cases z)) e1, e2⟩⟩
    have hH3 : ∀ l, H3 l = none → H l = none := fun l e => by
      cases e2 : H l with
      | none => rfl
      | some o =>
        exfalso
        by_cases y : l = z.2
        · obtain ⟨S, e3, _⟩ := tb3
          rw [y, e3] at e; cases e
        · rw [s3 l o y (s2 l o y (s1 _ _ e2))] at e; cases e
    have fo5 : Found H (unl f' H4) fv res := by
      cases res with
      | val v =>
        obtain ⟨a, e1, e2⟩ := fo4
        exact ⟨a, e1, KN _ _ (fun u z => by cases z) e2⟩
      | call xs =>
        obtain ⟨a, l, e1, e2, e3, e4⟩ := fo4
        refine ⟨a, l, e1, KN _ _ (fun u z => by cases z) e2, KN _ _ (fun u z => by cases z) e3, hH3 l ?_⟩
        cases e5 : f' l with
        | none => rw [lend_no e5] at e4; exact e4
        | some ob => rw [lend_at e5] at e4; cases e4
    have k5 : ∀ b o, H b = some o → b ≠ z.2 → unl f' H4 b = some o := fun b o e nz => B5 b o (ne_of_none e hnl0) (s3 b o nz (s2 b o nz (s1 _ _ e)))
    generalize unl f' H4 = H5 at hn5 hN5 t5 fo5 k5 ⊢
    refine ⟨sl, fun ol hol => ?_⟩
    have s6 := Same.new (o := .lst []) hol
    have non : nl ≠ ol := ne_of_none hn5 hol
    refine ⟨_, rfl, nl, rfl, ⟨_, SqL.of (s6 _ _ hn5)⟩, ?_⟩
    refine for_list (K := K) (a := nl) (xs := as) (fun i σ H7 => ∃ (o11 : Option V) (os : List V), σ = [some (.ref wd), some (.ref rd), some (.ref self), some (.str t), some (.str c), some (.int (p : Int)), some (.ref nl), some (.ref fa), some (.ref fb), some fv, some (.ref ol), o11] ∧ But ol (upd H5 ol (.lst [])) H7 ∧ H7 ol = some (.lst os) ∧ Nts H7 os (onceG (ls.take i)))
      ⟨_, [], rfl, But.of (Same.refl _), upd_same, .nil⟩ (fun i σ H7 _ ⟨_, _, _, b, _⟩ => SqL.of (b _ _ non (s6 _ _ hn5))) ?_ ?_
    · rintro i x σ H7 hx ⟨o11, os, rfl, b7, h7, n7⟩
      obtain ⟨y, hy, a, rfl, ha⟩ := Nts.at hN5 hx
      have hym : y ∈ ls := List.mem_of_getElem? hy
      have ha7 : H7 a = some (.tup [.str y.1, .str y.2.1, .int y.2.2]) := b7 _ _ (ne_of_none ha hol) (s6 _ _ ha)
      have hi : i < ls.length := (List.getElem?_eq_some_iff.mp hy).1
      have htk : ls.take (i + 1) = ls.take i ++ [y] := by rw [List.take_add_one, hy]; rfl
      have hol7 : os.length ≤ i := by
        rw [n7.length]
        refine Nat.le_trans (onceG_le _) ?_
        rw [List.length_take]
        exact Nat.min_le_left _ _
      refine ⟨_, rfl, _, rfl, sp3D y, (onceG (ls.take i)).map sp3D, .tup (SqT.of ha7) (.cons (.str _) (.cons (.str _) (.cons (.int _) .nil))), .lst (SqL.of h7) n7.dt, lay3 (hnl y hym).1 (hnl y hym).2, lay3s (fun r hr' => hnl r (List.mem_of_mem_take (onceG_mem hr'))), (by show 1 ≤ 62; decide), _, rfl, ?_⟩
      rw [sp3D_any]
      refine ite2 (fun g => ?_) (fun g => ?_)
      · have g' : y ∉ onceG (ls.take i) := by simpa using g
        refine ⟨_, rfl, .inl ⟨rfl, _, SqL.of h7⟩, _, rfl, ol, _, _, rfl, rfl, h7, small1000 (by omega), ?_⟩
        refine ⟨_, _, rfl, b7.trans But.upd, upd_same, ?_⟩
        rw [htk, onceG_snoc, if_neg g']
        exact (n7.keep (Keep.lst h7)).snoc ⟨a, rfl, Keep.lst h7 _ _ (fun xs z => by cases z) ha7⟩
      · have g' : y ∈ onceG (ls.take i) := by simpa using g
        refine ⟨_, _, rfl, b7, h7, ?_⟩
        rw [htk, onceG_snoc, if_pos g']
        exact n7
    · rintro σ H7 ⟨o11, os, rfl, b7, h7, n7⟩
      rw [hN5.length, List.take_of_length_le (Nat.le_refl _)] at n7
      refine ⟨_, rfl, _, rfl, sl, fun p' hp' => ?_⟩
      have s8 := Same.new (o := .tup [fv, .ref ol]) hp'
      have st : ∀ b o, H5 b = some o → upd H7 p' (.tup [fv, .ref ol]) b = some o := fun b o e => s8 _ _ (b7 _ _ (ne_of_none e hol) (s6 _ _ e))
      refine q _ p' fv ol os (fun b o nz e => st _ _ (k5 b o e nz)) (tabIn_same st t5) upd_same (s8 _ _ h7) (n7.keep (Keep.of s8)) ?_
      cases res with
      | val v =>
        obtain ⟨a, e1, e2⟩ := fo5
        exact ⟨a, e1, st _ _ e2⟩
      | call xs =>
        obtain ⟨a, l, e1, e2, e3, e4⟩ := fo5
        exact ⟨a, l, e1, st _ _ e2, st _ _ e3, e4⟩
end
end My

namespace My
open PySem L2
theorem comp_listF {K : PySem.W.Frag} {cp : List (Nat × Str)} {tt : TT} {te : TE} {σ : St} {a : Addr} {xs : List V} {D : Addr} {Q : VK} {H1 : Hp} (Pv : Nat → List V → Hp → Prop) (h0 : Pv 0 [] (upd H1 D (.lst [])))
    (hl : ∀ i ys H, H D = some (.lst ys) → Pv i ys H → SqL K H a xs)
    (hs : ∀ i x ys H, xs[i]? = some x → H D = some (.lst ys) → Pv i ys H → tt (some x :: capσ cp σ) H fun b H4 => if b = true then te (some x :: capσ cp σ) H4 (Nxt D Pv i ys) else ∃ ys', H4 D = some (.lst ys') ∧ Pv (i + 1) ys' H4)
    (hd : ∀ ys H, H D = some (.lst ys) → Pv xs.length ys H → Q (.ref D) H) : tLoop cp tt te σ (Itl K a) D Q H1 := by
  refine ⟨fun i m H => m = xs.length - i ∧ i ≤ xs.length ∧ ∃ ys, H D = some (.lst ys) ∧ Pv i ys H, ⟨xs.length, by simp, Nat.zero_le _, [], upd_same, h0⟩, ?_⟩
  rintro i m H ⟨rfl, hi, ys, hD, p⟩
  by_cases hlt : i < xs.length
  · refine .inr ⟨⟨xs, xs[i], hl i ys H hD p, by simp [hlt]⟩, Nxt D Pv i ys, fun H4 => ∃ ys', H4 D = some (.lst ys') ∧ Pv (i + 1) ys' H4, fun y H5 ⟨h1, h2, h3⟩ => ⟨ys, xs.length - (i + 1), h1, h2, by omega, rfl, hlt, _, upd_same, h3⟩, fun H4 ⟨ys', h1, h2⟩ => ⟨xs.length - (i + 1), by omega, rfl, hlt, ys', h1, h2⟩, fun v H' y => ?_⟩
    obtain ⟨e, y⟩ := y
    subst e
    exact hs i v ys _ (y xs (hl i ys _ hD p)) hD p
  · have e : i = xs.length := by omega
    subst e
    exact .inl ⟨⟨xs, hl _ ys H hD p, Nat.le_refl _⟩, hd ys H hD p⟩
section
variable {P : Program} {w : World} {K : PySem.W.Frag} {mg : Str → Option Value} {base : Heap}
/-- the data of what a cell holds -/
theorem WV.dt {H : Hp} {v : V} (h : WV H v) : ∃ d, Dt K H v d ∧ d.canLay0 = true ∧ d.depth ≤ 64 ∧ PyData.eqv d d = true ∧ shortD d ∧ ((∃ i, v = .int i ∧ d = .int i) ∨ ∃ a z, v = .ref a ∧ H a = some (.tup [.str ("fault" : Str), .str z]) ∧ d = .tuple [.str "fault", .str z] ∧ faultD d = true) := by
  rcases h with ⟨i, rfl⟩ | ⟨a, z, rfl, h2, h3⟩
  · exact ⟨.int i, .int i, rfl, (show 0 ≤ 64 by decide), (by simp [PyData.eqv]), shortD_not (by intro z; cases z), .inl ⟨i, rfl, rfl⟩⟩
  · have lz := Nl.lay h3
    refine ⟨.tuple [.str "fault", .str z], .tup (SqT.of h2) (.cons (.str _) (.cons (.str _) .nil)), ?_, (show 1 ≤ 64 by decide), ?_, shortD_tup ?_, .inr ⟨a, z, rfl, h2, rfl, ?_⟩⟩
    · have l1 : PyData.canLay0 (.str ("fault" : Str)) = true := by decide +kernel
      simp only [PyData.canLay0, PyData.canLayAll0, Bool.and_true, Bool.and_eq_true] at l1 lz ⊢
      exact ⟨l1, lz⟩
    · simp [PyData.eqv, PyData.eqvAll]
    · intro e he
      simp only [List.mem_cons, List.not_mem_nil, or_false] at he
      rcases he with rfl | rfl
      · exact shortS_str (by decide)
      · exact shortS_str (by have := h3.2.1; omega)
    · show (decide (("fault" : Str) = "fault") && nameD (.str z)) = true
      rw [decide_eq_true rfl, Bool.true_and]
      exact Nl.name h3
def spWholeL (K : PySem.W.Frag) : Sp := fun vs H Q _ => ∃ i : Int, vs = [.int i] ∧ Q (.bl true) H
theorem sc_law_whole : FnScope ["_law_found"] ["_law_found"] (defScope s_law_whole) := ⟨rfl, rfl, rfl, by decide +kernel, rfl, by decide +kernel, by decide +kernel⟩
theorem k_law_whole (T : Tops K mg) : Known P w K mg base CX0 1 "_law_whole" ["_law_found"] (spWholeL K) := by
  refine T.d_law_whole.known sc_law_whole (fun _ _ _ _ _ _ us hl => match us, hl with | [_], _ => rfl) (fun vs H Q E h => ?_) (fun f cdv A outer s H vs Q E hr h => ?_)
  · obtain ⟨i, rfl, _⟩ := h
    rfl
  · obtain ⟨i, rfl, q⟩ := h
    refine ⟨_, (pss_one (ps_ret (pe_and (pe_callB call_isT rfl T.isinstance b_isinstance (pa_cons (pv 0) (pa_cons (pe_ty T.int b_int) pa_nil))) (pe_one (pe_not (pe_callB call_isT rfl T.isinstance b_isinstance (pa_cons (pv 0) (pa_cons (pe_ty T.bool b_bool) pa_nil)))))))), ?_⟩
    refine ⟨_, rfl, _, "int", .int i, _, rfl, .int i, kit_int K _, _, rfl, ?_⟩
    refine iteT ⟨_, rfl, _, "bool", .int i, _, rfl, .int i, kit_bool K _, _, rfl, ?_⟩
    exact q
def spAlike (K : PySem.W.Frag) : Sp := fun vs H Q _ => ∃ (fa da : Addr), vs = [.ref fa, .ref da] ∧
  ((∃ v, H fa = some (.tup [.str ("value" : Str), v]) ∧ H da = some (.tup [.str ("value" : Str), v]) ∧ WV H v) ∨
    ∃ (l m : Addr) (is : List Int), H fa = some (.tup [.str ("call" : Str), .ref l]) ∧ H da = some (.tup [.str ("call" : Str), .ref m]) ∧ H l = some (.lst (is.map V.int)) ∧ H m = some (.lst (is.map V.int)) ∧ is.length ≤ 900) ∧ ∀ H', Same H H' → Q (.bl true) H'
theorem sc_law_alike : FnScope ["_law_found", "_law_due"] ["_law_found", "_law_due"] (defScope s_law_alike) := ⟨rfl, rfl, rfl, by decide +kernel, rfl, by decide +kernel, by decide +kernel⟩
theorem eqv_ints : ∀ is : List Int, PyData.eqvAll (is.map PyData.int) (is.map PyData.int) = true
  | [] => rfl
  | i :: r => by
    rw [List.map_cons]
    show (PyData.eqv (.int i) (.int i) && PyData.eqvAll (r.map PyData.int) (r.map PyData.int)) = true
    rw [eqv_ints r, Bool.and_true]
    simp [PyData.eqv]
theorem k_law_alike (T : Tops K mg) : Known P w K mg base CX0 2 "_law_alike" ["_law_found", "_law_due"] (spAlike K) := by
  have G_law_whole : Known P w K mg base CX0 1 "_law_whole" ["_law_found"] (spWholeL K) := k_law_whole T
  refine T.d_law_alike.known sc_law_alike (fun _ _ _ _ _ _ us hl => match us, hl with | [_, _], _ => rfl) (fun vs H Q E h => ?_) (fun f cdv A outer s H vs Q E hr h => ?_)
  · obtain ⟨fa, da, rfl, _⟩ := h
    rfl
  · obtain ⟨fa, da, rfl, hh, q⟩ := h
    refine ⟨_, (pss_cons (ps_if (PW.pt (pw_or (pt_not (pt_val (pe_callB call_isT rfl T.isinstance b_isinstance (pa_cons (pv 0) (pa_cons (pe_ty T.tuple b_tuple) pa_nil))) (fun _ => rfl))) (pw_or (pt_cmpR op_ne (pe_callB call_len rfl T.len b_len (pa_cons (pv 0) pa_nil)) pe_int (nomark _)) (pw_or (pt_not (pt_val (pe_callB call_isT rfl T.isinstance b_isinstance (pa_cons (pe_ix ix_tup (pv 0) pe_int (fun _ _ => rfl)) (pa_cons (pe_ty T.str b_str) pa_nil))) (fun _ => rfl))) (pw_or1 (pt_cmpR op_ne (pe_ix ix_tup (pv 0) pe_int (fun _ _ => rfl)) (pe_ix ix_tup (pv 1) pe_int (fun _ _ => rfl)) (nomark _))))))) (pss_one (ps_ret pe_bl)) pss_nil)
      (pss_cons (ps_if (pt_val (pe_callB call_isT rfl T.isinstance b_isinstance (pa_cons (pe_ix ix_tup (pv 1) pe_int (fun _ _ => rfl)) (pa_cons (pe_ty T.int b_int) pa_nil))) (fun _ => rfl)) (pss_one (ps_ret (pe_and (pe_callN G_law_whole (hr.mono (by decide)) pass0 (pa_cons (pe_ix ix_tup (pv 0) pe_int (fun _ _ => rfl)) pa_nil)) (pe_one (pe_cmpR (op_eqD hr.units) (pe_ix ix_tup (pv 0) pe_int (fun _ _ => rfl)) (pe_ix ix_tup (pv 1) pe_int (fun _ _ => rfl)) (nomark _)))))) pss_nil)
      (pss_cons (ps_if (pt_val (pe_callB call_isT rfl T.isinstance b_isinstance (pa_cons (pe_ix ix_tup (pv 1) pe_int (fun _ _ => rfl)) (pa_cons (pe_ty T.tuple b_tuple) pa_nil))) (fun _ => rfl)) (pss_one (ps_ret (pe_and (pe_callB call_isT rfl T.isinstance b_isinstance (pa_cons (pe_ix ix_tup (pv 0) pe_int (fun _ _ => rfl)) (pa_cons (pe_ty T.tuple b_tuple) pa_nil))) (pe_one (pe_cmpR (op_eqD hr.units) (pe_ix ix_tup (pv 0) pe_int (fun _ _ => rfl)) (pe_ix ix_tup (pv 1) pe_int (fun _ _ => rfl)) (nomark _)))))) pss_nil)
      (pss_cons (ps_if (PW.pt (pw_or (pt_not (pt_val (pe_callB call_isT rfl T.isinstance b_isinstance (pa_cons (pe_ix ix_tup (pv 0) pe_int (fun _ _ => rfl)) (pa_cons (pe_ty T.list b_list) pa_nil))) (fun _ => rfl))) (pw_or1 (pt_cmpR (op_neD hr.units) (pe_comp caps0 rfl rfl (by decide) (pi_list (pe_ix ix_tup (pv 0) pe_int (fun _ _ => rfl))) (fun _ _ _ _ _ => (pts_one (pt_not (pt_val (pe_callN G_law_whole (hr.mono (by decide)) pass0 (pa_cons (pv 0) pa_nil)) (fun _ => rfl))))) (fun _ _ _ _ _ => (pv 0))) (pe_lst pa_nil) (nomark _))))) (pss_one (ps_ret pe_bl)) pss_nil)
      (pss_one (ps_ret (pe_cmpR (op_eqD hr.units) (pe_ix ix_tup (pv 0) pe_int (fun _ _ => rfl)) (pe_ix ix_tup (pv 1) pe_int (fun _ _ => rfl)) (nomark _)))))))), ?_⟩
    have head : ∀ (z : Str) (x y : V) (dx : PyData), H fa = some (.tup [.str z, x]) → H da = some (.tup [.str z, y]) → Dt K H x dx → True := fun _ _ _ _ _ _ _ => trivial
    rcases hh with ⟨v, h1, h2, hv⟩ | ⟨l, m, is, h1, h2, h3, h4, hl⟩
    · obtain ⟨d, hd, ly, dp, ev, _, kind⟩ := hv.dt (K := K)
      have q1 : SqT K H fa [.str ("value" : Str), v] := SqT.of h1
      have q2 : SqT K H da [.str ("value" : Str), v] := SqT.of h2
      have a0 : atI [V.str ("value" : Str), v] 0 = some (.str ("value" : Str)) := rfl
      have a1 : atI [V.str ("value" : Str), v] 1 = some v := rfl
      refine ⟨_, rfl, _, "tuple", .tuple [.str ("value" : Str), d], _, rfl, .tup q1 (.cons (.str _) (.cons hd .nil)), kit_tuple K _, _, rfl, ?_⟩
      refine iteF ⟨_, rfl, _, _, rfl, .inr ⟨_, q1, rfl⟩, rfl, _, rfl, ?_⟩
      refine iteF ⟨_, rfl, _, _, _, _, rfl, rfl, q1, a0, _, "str", .str _, _, rfl, .str _, kit_str K _, _, rfl, ?_⟩
      refine iteF ⟨_, rfl, _, _, _, _, rfl, rfl, q1, a0, _, rfl, _, _, _, _, rfl, rfl, q2, a0, rfl, _, rfl, ?_⟩
      refine iteNS (by simp) ?_
      rcases kind with ⟨i, rfl, rfl⟩ | ⟨a, z, rfl, hz, rfl, _⟩
      · refine ⟨_, rfl, _, _, _, _, rfl, rfl, q2, a1, _, "int", .int i, _, rfl, .int i, kit_int K _, _, rfl, ?_⟩
        refine iteT ⟨_, rfl, _, _, _, _, rfl, rfl, q1, a1, i, rfl, _, rfl, ?_⟩
        refine iteT ⟨_, rfl, _, _, _, _, rfl, rfl, q1, a1, _, rfl, _, _, _, _, rfl, rfl, q2, a1, .int i, .int i, .int i, .int i, ly, ly, dp, ?_⟩
        rw [ev]
        exact q H (Same.refl H)
      · refine ⟨_, rfl, _, _, _, _, rfl, rfl, q2, a1, _, "int", _, _, rfl, hd, kit_int K _, _, rfl, ?_⟩
        refine iteF ⟨_, rfl, _, _, _, _, rfl, rfl, q2, a1, _, "tuple", _, _, rfl, hd, kit_tuple K _, _, rfl, ?_⟩
        refine iteT ⟨_, rfl, _, _, _, _, rfl, rfl, q1, a1, _, "tuple", _, _, rfl, hd, kit_tuple K _, _, rfl, ?_⟩
        refine iteT ⟨_, rfl, _, _, _, _, rfl, rfl, q1, a1, _, rfl, _, _, _, _, rfl, rfl, q2, a1, _, _, hd, hd, ly, ly, dp, ?_⟩
        rw [ev]
        exact q H (Same.refl H)
    · have q1 : SqT K H fa [.str ("call" : Str), .ref l] := SqT.of h1
      have q2 : SqT K H da [.str ("call" : Str), .ref m] := SqT.of h2
      have a0 : atI [V.str ("call" : Str), .ref l] 0 = some (.str ("call" : Str)) := rfl
      have a1 : atI [V.str ("call" : Str), .ref l] 1 = some (.ref l) := rfl
      have b0 : atI [V.str ("call" : Str), .ref m] 0 = some (.str ("call" : Str)) := rfl
      have b1 : atI [V.str ("call" : Str), .ref m] 1 = some (.ref m) := rfl
      have d1 : Dt K H (.ref l) (.list (is.map PyData.int)) := .lst (SqL.of h3) (dt_ints is)
      have d2 : Dt K H (.ref m) (.list (is.map PyData.int)) := .lst (SqL.of h4) (dt_ints is)
      refine ⟨_, rfl, _, "tuple", .tuple [.str ("call" : Str), .list (is.map PyData.int)], _, rfl, .tup q1 (.cons (.str _) (.cons d1 .nil)), kit_tuple K _, _, rfl, ?_⟩
      refine iteF ⟨_, rfl, _, _, rfl, .inr ⟨_, q1, rfl⟩, rfl, _, rfl, ?_⟩
      refine iteF ⟨_, rfl, _, _, _, _, rfl, rfl, q1, a0, _, "str", .str _, _, rfl, .str _, kit_str K _, _, rfl, ?_⟩
      refine iteF ⟨_, rfl, _, _, _, _, rfl, rfl, q1, a0, _, rfl, _, _, _, _, rfl, rfl, q2, b0, rfl, _, rfl, ?_⟩
      refine iteNS (by simp) ?_
      refine ⟨_, rfl, _, _, _, _, rfl, rfl, q2, b1, _, "int", _, _, rfl, d2, kit_int K _, _, rfl, ?_⟩
      refine iteF ⟨_, rfl, _, _, _, _, rfl, rfl, q2, b1, _, "tuple", _, _, rfl, d2, kit_tuple K _, _, rfl, ?_⟩
      refine iteF ⟨_, rfl, _, _, _, _, rfl, rfl, q1, a1, _, "list", _, _, rfl, d1, kit_list K _, _, rfl, ?_⟩
      refine iteF ⟨_, rfl, _, _, _, _, rfl, rfl, q1, a1, l, rfl, ⟨_, SqL.of h3⟩, fun D hD => ?_⟩
      have s1 := Same.new (o := .lst []) hD
      refine comp_listF (K := K) (a := l) (xs := is.map V.int) (fun i ys H2 => ys = [] ∧ H2 = upd H D (.lst [])) ⟨rfl, rfl⟩ ?_ ?_ ?_
      · rintro i ys H2 _ ⟨rfl, rfl⟩
        exact SqL.of (s1 _ _ h3)
      · rintro i x ys H2 hx hD2 ⟨rfl, rfl⟩
        obtain ⟨j, rfl⟩ : ∃ j : Int, x = .int j := by
          rw [List.getElem?_map] at hx
          cases e : is[i]? with
          | none => rw [e] at hx; cases hx
          | some j => rw [e] at hx; cases hx; exact ⟨j, rfl⟩
        refine ⟨_, rfl, j, rfl, _, rfl, ?_⟩
        exact iteF ⟨[], hD2, rfl, rfl⟩
      · rintro ys H2 hD2 ⟨rfl, rfl⟩
        refine ⟨sl, fun D2 hD3 => ?_⟩
        have s2 := Same.new (o := .lst []) hD3
        refine ⟨.list [], .list [], .lst (SqL.of (s2 _ _ upd_same)) .nil, .lst (SqL.of upd_same) .nil, by decide, by decide, by decide, _, rfl, ?_⟩
        refine iteF ?_
        have s12 := s1.trans s2
        refine ⟨_, rfl, _, _, _, _, rfl, rfl, Same.seqT s12 q1, a1, _, rfl, _, _, _, _, rfl, rfl, Same.seqT s12 q2, b1, _, _, d1.same s12, d2.same s12, ?_, ?_, ?_, ?_⟩
        · exact (lay_ints is).1
        · exact (lay_ints is).1
        · show PyData.depthAll (is.map PyData.int) + 1 ≤ 64
          rw [(lay_ints is).2]
          decide
        · rw [show PyData.eqv (.list (is.map PyData.int)) (.list (is.map PyData.int)) = true from eqv_ints is]
          exact q _ s12
end
end My

namespace L2
open PySem PySem.Spec PyProof.Rows
end L2
namespace My
open PySem L2
theorem WV.keepC {H H' : Hp} {v : V} (s : KeepC H H') (h : WV H v) : WV H' v := by
  rcases h with ⟨i, e⟩ | ⟨a, z, e1, e2, e3⟩
  · exact .inl ⟨i, e⟩
  · exact .inr ⟨a, z, e1, s _ _ (fun xs q => by cases q) e2, e3⟩
theorem Filled.keepC {kvs : List (List Key × V)} {H H' : Hp} {t c : Str} {m : Nat} (s : KeepC H H') (h : Filled kvs H t c m) : Filled kvs H' t c m := fun p hp => by
  obtain ⟨v, e, q⟩ := h p hp
  exact ⟨v, e, q.keepC s⟩
theorem Wld.keepC {H H' : Hp} {t0 t1 : Str} {cs : List Str} {wd rd : Addr} {kvs : List (List Key × V)} {rows : List (Key × V)} {n0 n1 : Nat} (s : KeepC H H') (h : Wld H t0 t1 cs wd rd kvs rows n0 n1) : Wld H' t0 t1 cs wd rd kvs rows n0 n1 :=
  ⟨s _ _ (fun xs q => by cases q) h.w, s _ _ (fun xs q => by cases q) h.r, h.v0, h.v1, h.p0, h.l0, h.l1, fun c hc => (h.f0 c hc).keepC s, fun c hc => (h.f1 c hc).keepC s⟩
theorem tabIn_x {q : Str} {H H' : Hp} {P R : Addr} (ne : P ≠ R) (s : SameX R H H') {q' : Str} (r : TabIn q' H R) (h : TabIn q H P) : TabIn q H' P := by
  obtain ⟨S, e, f⟩ := h
  obtain ⟨S', e', _⟩ := r
  refine ⟨S, s _ _ ne e, fun c hc => ?_⟩
  obtain ⟨o, e1, e2⟩ := f c hc
  exact ⟨o, s _ _ (fun z => by rw [z, e'] at e1; cases e1) e1, e2⟩
theorem eight {zs : List Str} (h : zs.length = 8) : ∃ a b c d e f g i, zs = [a, b, c, d, e, f, g, i] := by
  match zs, h with
  | [a, b, c, d, e, f, g, i], _ => exact ⟨a, b, c, d, e, f, g, i, rfl⟩
def spLaw (K : PySem.W.Frag) (tabs : List (Addr × Addr)) : Sp := fun vs H Q _ => ∃ (a : Addr) (ns : List Int), vs = [.ref a] ∧ SqL K H a (ns.map V.int) ∧ ns.length ≤ 63 ∧ TabsIn0 tabs H ∧ ∀ H', TabsOut tabs H' → Q (.bl true) H'
end My

namespace My
open PySem L2
/-! ### cells looked at in turn -/
def isRef : V → Bool
  | .ref _ => true
  | _ => false
def valAt (kvs : List (List Key × V)) (z : Spot3) : V := (valV kvs [.inr z.1, .inr z.2.1, .inl z.2.2]).getD .non
def turnGo (val : Spot3 → V) : List Spot3 → List V → List Spot3 × Res
  | [], acc => ([], .call acc)
  | z :: r, acc => if isRef (val z) then ([z], .val (val z)) else (z :: (turnGo val r (acc ++ [val z])).1, (turnGo val r (acc ++ [val z])).2)
def turnOf (kvs : List (List Key × V)) (zs : List Spot3) : List Spot3 × Res := turnGo (valAt kvs) zs []
theorem turnGo_app {val : Spot3 → V} : ∀ {xs ys : List Spot3} {acc : List V}, (∀ z ∈ xs, isRef (val z) = false) → turnGo val (xs ++ ys) acc = (xs ++ (turnGo val ys (acc ++ xs.map val)).1, (turnGo val ys (acc ++ xs.map val)).2)
  | [], ys, acc, _ => by simp
  | x :: xs, ys, acc, h => by
    rw [List.cons_append]
    show (if isRef (val x) then _ else _) = _
    rw [h x List.mem_cons_self, if_neg Bool.false_ne_true, turnGo_app (xs := xs) fun z hz => h z (List.mem_cons_of_mem _ hz)]
    simp [List.append_assoc]
theorem turn_end {kvs : List (List Key × V)} {zs : List Spot3} (h : ∀ z ∈ zs, isRef (valAt kvs z) = false) : turnOf kvs zs = (zs, .call (zs.map (valAt kvs))) := by
  have := turnGo_app (val := valAt kvs) (xs := zs) (ys := []) (acc := []) h
  rw [List.append_nil] at this
  unfold turnOf
  rw [this]
  simp [turnGo]
theorem turn_at {kvs : List (List Key × V)} {zs : List Spot3} {i : Nat} {z : Spot3} (hz : zs[i]? = some z) (h : ∀ y ∈ zs.take i, isRef (valAt kvs y) = false) (hr : isRef (valAt kvs z) = true) : turnOf kvs zs = (zs.take (i + 1), .val (valAt kvs z)) := by
  have hi := (List.getElem?_eq_some_iff.mp hz).1
  have e : zs = zs.take i ++ (z :: zs.drop (i + 1)) := by
    have h1 : zs.drop i = zs[i] :: zs.drop (i + 1) := List.drop_eq_getElem_cons hi
    rw [(List.getElem?_eq_some_iff.mp hz).2] at h1
    rw [← h1, List.take_append_drop]
  have := turnGo_app (val := valAt kvs) (xs := zs.take i) (ys := z :: zs.drop (i + 1)) (acc := []) h
  unfold turnOf
  rw [← e] at this
  rw [this]
  simp only [turnGo, hr, if_true]
  rw [List.take_add_one, hz]
  rfl
/-- all cells are there -/
def There (kvs : List (List Key × V)) (H : Hp) (zs : List Spot3) : Prop := ∀ z ∈ zs, ∃ v, valV kvs [.inr z.1, .inr z.2.1, .inl z.2.2] = some v ∧ WV H v
theorem There.keep {kvs : List (List Key × V)} {H H' : Hp} {zs : List Spot3} (s : Keep H H') (h : There kvs H zs) : There kvs H' zs := fun z hz => let ⟨v, e, q⟩ := h z hz; ⟨v, e, q.keep s⟩
theorem There.keepC {kvs : List (List Key × V)} {H H' : Hp} {zs : List Spot3} (s : KeepC H H') (h : There kvs H zs) : There kvs H' zs := fun z hz => let ⟨v, e, q⟩ := h z hz; ⟨v, e, q.keepC s⟩
theorem valAt_of {kvs : List (List Key × V)} {z : Spot3} {v : V} (h : valV kvs [.inr z.1, .inr z.2.1, .inl z.2.2] = some v) : valAt kvs z = v := by unfold valAt; rw [h]; rfl
section
variable {P : Program} {w : World} {K : PySem.W.Frag} {mg : Str → Option Value} {base : Heap}
def spTurn (P : Program) (w : World) (K : PySem.W.Frag) (mg : Str → Option Value) (base : Heap) : Sp := fun vs H Q _ => ∃ (look cl nl wd : Addr) (LP : Hp → Prop) (kvs : List (List Key × V)) (cv : List V) (zs ns : List Spot3), vs = [.ref look, .ref cl] ∧ LamFn P w K mg base 2 look (spLk LP nl wd kvs) ∧ Stab LP ∧ LkS LP nl wd kvs ns H ∧ H cl = some (.lst cv) ∧ cl ≠ nl ∧ Nts H cv zs ∧ There kvs H zs ∧ ns.length + zs.length ≤ 800 ∧
  ∀ H' fv, But nl H H' → LkS LP nl wd kvs (ns ++ (turnOf kvs zs).1) H' → Found H H' fv (turnOf kvs zs).2 → Q fv H'
abbrev Nturn : List Str := ["look", "cells", "numbers", "table", "column", "place", "value"]
theorem sc_look_in_turn : FnScope Nturn ["look", "cells"] (defScope s_look_in_turn) := ⟨rfl, rfl, rfl, by decide +kernel, rfl, by decide +kernel, by decide +kernel⟩
theorem k_look_in_turn (T : Tops K mg) : Known P w K mg base CX0 3 "look_in_turn" ["look", "cells"] (spTurn P w K mg base) := by
  have G_is_fault : Known P w K mg base CX0 2 "is_fault" ["thing"] (spFault K) := k_is_fault T
  refine T.d_look_in_turn.known sc_look_in_turn (fun _ _ _ _ _ _ us hl => match us, hl with | [_, _], _ => rfl) (fun vs H Q E h => ?_) (fun f cdv A outer s H vs Q E hr h => ?_)
  · obtain ⟨look, cl, nl, wd, LP, kvs, cv, zs, ns, rfl, _⟩ := h
    rfl
  · obtain ⟨look, cl, nl, wd, LP, kvs, cv, zs, ns, rfl, F1, st, lk, hc, hcn, hN, hT, hlen, q⟩ := h
    refine ⟨_, (pss_cons (ps_set (i := 2) sc_look_in_turn.nd rfl (Or.inl rfl) (pe_lst pa_nil))
      (pss_cons (ps_for PassesOwn.never rfl (pi_list (pv 1)) (pg_tup rfl (pgs_cons (pg_name (i := 3) sc_look_in_turn.nd rfl (Or.inl rfl)) (pgs_cons (pg_name (i := 4) sc_look_in_turn.nd rfl (Or.inl rfl)) (pgs_cons (pg_name (i := 5) sc_look_in_turn.nd rfl (Or.inl rfl)) pgs_nil)))) (pss_cons (ps_set (i := 6) sc_look_in_turn.nd rfl (Or.inl rfl) (pe_callV 0 hr (pa_cons (pv 3) (pa_cons (pv 4) (pa_cons (pv 5) pa_nil)))))
      (pss_cons (ps_if (pt_val (pe_callN G_is_fault (hr.mono (by decide)) pass0 (pa_cons (pv 6) pa_nil)) (fun _ => rfl)) (pss_one (ps_ret (pe_tup (pa_cons pe_str (pa_cons (pv 6) pa_nil))))) pss_nil)
      (pss_one (ps_expr (pe_bm PySem.F.plainAttrs_list PySem.F.slot_list_append PySem.F.type_list_append mt_append (pv 2) (pa_cons (pv 6) pa_nil)))))))
      (pss_one (ps_ret (pe_tup (pa_cons pe_str (pa_cons (pv 2) pa_nil))))))), ?_⟩
    refine ⟨sl, fun nm hnm => ?_⟩
    have s1 := Same.new (o := .lst []) hnm
    obtain ⟨as0, hn0⟩ := lk.list
    have nnm : nl ≠ nm := ne_of_none hn0 hnm
    have ncm : cl ≠ nm := ne_of_none hc hnm
    refine ⟨_, rfl, cl, rfl, ⟨_, SqL.of (s1 _ _ hc)⟩, ?_⟩
    refine for_list (K := K) (a := cl) (xs := cv) (fun i σ H2 => ∃ o3 o4 o5 o6, σ = [some (.ref look), some (.ref cl), some (.ref nm), o3, o4, o5, o6] ∧ But nl H H2 ∧ LkS LP nl wd kvs (ns ++ zs.take i) H2 ∧ H2 nm = some (.lst ((zs.take i).map (valAt kvs))) ∧ ∀ z ∈ zs.take i, isRef (valAt kvs z) = false)
      ⟨_, _, _, _, rfl, But.of s1, by rw [List.take_zero, List.append_nil]; exact lk.same st s1, upd_same, fun z hz => by simp at hz⟩ (fun i σ H2 _ ⟨_, _, _, _, _, b, _⟩ => SqL.of (b _ _ hcn hc)) ?_ ?_
    · rintro i x σ H2 hx ⟨o3, o4, o5, o6, rfl, b2, lk2, h2, hr2⟩
      obtain ⟨z, hz, a, rfl, ha⟩ := Nts.at hN hx
      have hzm : z ∈ zs := List.mem_of_getElem? hz
      have hi : i < zs.length := (List.getElem?_eq_some_iff.mp hz).1
      have htk : zs.take (i + 1) = zs.take i ++ [z] := by rw [List.take_add_one, hz]; rfl
      have kp2 := Keep.but b2 hn0
      have ha2 := kp2 _ _ (fun xs q => by cases q) ha
      obtain ⟨v, hv, hW⟩ := (hT.keep kp2) z hzm
      have ev := valAt_of hv
      refine ⟨a, _, rfl, SqT.of ha2, rfl, _, _, rfl, _, _, rfl, _, _, rfl, rfl, ?_⟩
      refine ⟨look, _, rfl, F1, _, rfl, _, rfl, _, rfl, z.1, z.2.1, z.2.2, v, ns ++ zs.take i, rfl, lk2, by rw [List.length_append, List.length_take]; omega, hv, fun H3 b3 lk3 => ?_⟩
      obtain ⟨as2, hn2⟩ := lk2.list
      have kp3 := Keep.but b3 hn2
      have hW3 := hW.keep kp3
      have h3 := b3 _ _ (Ne.symm nnm) h2
      obtain ⟨d, hd, _, _, _, hsh, kind⟩ := hW3.dt (K := K)
      refine ⟨_, rfl, v, d, rfl, hd, hsh, fun H4 s4 => ⟨_, rfl, ?_⟩⟩
      have lk4 := lk3.same st s4
      have b4 := (b2.trans b3).trans (But.of s4)
      have lk4' : LkS LP nl wd kvs (ns ++ zs.take (i + 1)) H4 := by rw [htk, ← List.append_assoc]; exact lk4
      rcases kind with ⟨j, rfl, rfl⟩ | ⟨b, y, rfl, hz', rfl, hf⟩
      · refine iteF ?_
        have h4 := s4 _ _ h3
        refine ⟨_, rfl, .inl ⟨rfl, _, SqL.of h4⟩, _, rfl, nm, _, _, rfl, rfl, h4, small1000 (by rw [List.length_map, List.length_take]; omega), ?_⟩
        have e5 : (zs.take (i + 1)).map (valAt kvs) = (zs.take i).map (valAt kvs) ++ [.int j] := by rw [htk, List.map_append, List.map_cons, ev]; rfl
        refine ⟨_, _, _, _, rfl, fun b o nb e => ?_, ?_, by rw [e5]; exact upd_same, fun y hy => ?_⟩
        · rw [upd_ne (ne_of_none e hnm)]
          exact b4 b o nb e
        · exact lk4'.keep st (Keep.lst h4) fun xs e => by rw [upd_ne nnm]; exact e
        · rw [htk] at hy
          rcases List.mem_append.mp hy with hy | hy
          · exact hr2 y hy
          · rw [List.mem_singleton.mp hy, ev]; rfl
      · rw [hf]
        refine iteT ⟨_, rfl, sl, fun p hp => ?_⟩
        have s5 := Same.new (o := .tup [.str ("value" : Str), .ref b]) hp
        have et := turn_at hz hr2 (by rw [ev]; rfl)
        rw [et, ev] at q
        exact q _ _ (b4.trans (But.of s5)) (lk4'.same st s5) ⟨p, rfl, upd_same⟩
    · rintro σ H2 ⟨o3, o4, o5, o6, rfl, b2, lk2, h2, hr2⟩
      rw [hN.length, List.take_of_length_le (Nat.le_refl _)] at lk2 h2 hr2
      refine ⟨_, rfl, sl, fun p hp => ?_⟩
      have s5 := Same.new (o := .tup [.str ("call" : Str), .ref nm]) hp
      rw [turn_end hr2] at q
      exact q _ _ (b2.trans (But.of s5)) (lk2.same st s5) ⟨p, nm, rfl, upd_same, s5 _ _ h2, hnm⟩
end
end My

namespace My
open PySem L2
section
variable {P : Program} {w : World} {K : PySem.W.Frag} {mg : Str → Option Value} {base : Heap}
/-- [(t, z, p) for z in names] -/
theorem comp_spots3 {cp : List (Nat × Str)} {σ : St} {H : Hp} {r D : Addr} {t : Str} {p : Int} {zs : List Str} {te : TE} {Q : VK} (hD : H D = none) (h4 : H r = some (.lst (zs.map V.str))) (h6 : zs.length ≤ 100)
    (hte : ∀ (z : Str) (H2 : Hp) (q : VK), Same H H2 → (∀ tp, H2 tp = none → q (.ref tp) (upd H2 tp (.tup [.str t, .str z, .int p]))) → te (some (.str z) :: capσ cp σ) H2 q)
    (hq : ∀ ys H2, H2 D = some (.lst ys) → Same H H2 → Nts H2 ys (zs.map fun z => (t, z, p)) → Q (.ref D) H2) : tLoop cp tYes te σ (Itl K r) D Q H := by
  refine comp_list (K := K) (a := r) (xs := zs.map V.str) (fun i ys H2 => Same H H2 ∧ Nts H2 ys ((zs.take i).map fun z => (t, z, p))) ⟨Same.new hD, .nil⟩ (fun i ys H2 _ ⟨s2, _⟩ => SqL.of (s2 _ _ h4)) ?_ ?_
  · rintro i x ys H2 hx h2D ⟨s2, hd⟩
    rw [List.getElem?_map] at hx
    cases e : zs[i]? with
    | none => rw [e] at hx; cases hx
    | some z =>
      rw [e] at hx
      cases hx
      have hi : i < zs.length := (List.getElem?_eq_some_iff.mp e).1
      have hyl : ys.length ≤ 100 := by
        have := hd.length
        rw [List.length_map, List.length_take] at this
        omega
      refine hte z H2 _ s2 fun tp htp => ?_
      have s3 : Same H2 (upd H2 tp (.tup [.str t, .str z, .int p])) := Same.new htp
      have h3D := s3 _ _ h2D
      refine ⟨h3D, small1000 (by omega), (s2.trans s3).on hD, ?_⟩
      have et : (zs.take (i + 1)).map (fun z => (t, z, p)) = (zs.take i).map (fun z => (t, z, p)) ++ [(t, z, p)] := by
        rw [List.take_add_one, e, List.map_append]
        rfl
      rw [et]
      exact ((hd.keep (Keep.of s3)).keep (Keep.lst h3D)).snoc ⟨tp, rfl, Keep.lst h3D _ _ (fun xs q => by cases q) upd_same⟩
  · rintro ys H2 h2D ⟨s2, hd⟩
    rw [List.length_map, List.take_length] at hd
    exact hq ys H2 h2D s2 hd
theorem comp_pick {cp : List (Nat × Str)} {σ : St} {H : Hp} {D : Addr} {n : Nat} {te : TE} {Q : VK} (Pz : Str → Prop) (hD : H D = none) (h6 : n ≤ 100)
    (hte : ∀ (j : Nat) (H2 : Hp) (q : VK), j < n → Same H H2 → (∀ z, Pz z → q (.str z) H2) → te (some (.int (0 + (j : Int))) :: capσ cp σ) H2 q)
    (hq : ∀ (zs : List Str) (H2 : Hp), H2 D = some (.lst (zs.map V.str)) → Same H H2 → zs.length = n → (∀ z ∈ zs, Pz z) → Q (.ref D) H2) : tLoop cp tYes te σ (Itr 0 n) D Q H := by
  refine comp_range (lo := 0) (n := n) (fun i ys H2 => ∃ zs : List Str, ys = zs.map V.str ∧ zs.length = i ∧ (∀ z ∈ zs, Pz z) ∧ Same H H2) ⟨[], rfl, rfl, (fun _ h => by cases h), Same.new hD⟩ ?_ ?_
  · rintro i ys H2 hi h2 ⟨zs, rfl, hz, hall, s2⟩
    refine hte i H2 _ hi s2 fun z hN => ⟨h2, ?_, zs ++ [z], by rw [List.map_append]; rfl, by rw [List.length_append, hz]; rfl, fun y hy => ?_, s2.on hD⟩
    · rw [List.length_map, hz]
      exact small1000 (by omega)
    · rcases List.mem_append.mp hy with hy | hy
      · exact hall y hy
      · rw [List.mem_singleton.mp hy]
        exact hN
  · rintro ys H2 h2 ⟨zs, rfl, hz, hall, s2⟩
    exact hq zs H2 h2 s2 hz hall
def spPicked (K : PySem.W.Frag) : Sp := fun vs H Q _ => ∃ (a na : Addr) (ns : List Int) (k : Int) (cs : List Str), vs = [.ref a, .int k, .ref na] ∧ SqL K H a (ns.map V.int) ∧ ns.length ≤ 63 ∧ 0 ≤ k ∧ k ≤ 100000 ∧ SqL K H na (cs.map V.str) ∧ 0 < cs.length ∧
  ∀ H' D (zs : List Str), Same H H' → H D = none → H' D = some (.lst (zs.map V.str)) → zs.length ≤ 6 → (∀ z ∈ zs, z ∈ cs) → Q (.ref D) H'
theorem sc_law_picked : FnScope ["_law_script", "_law_k", "_law_names_here"] ["_law_script", "_law_k", "_law_names_here"] (defScope s_law_picked) := ⟨rfl, rfl, rfl, by decide +kernel, rfl, by decide +kernel, by decide +kernel⟩
theorem str_at {cs : List Str} {i : Int} (h0 : 0 ≤ i) (h : i < cs.length) : ∃ z, atI (cs.map V.str) i = some (.str z) ∧ z ∈ cs := by
  obtain ⟨v, h1, h2⟩ := at_some (cs.map V.str) i h0 (by rw [List.length_map]; exact h)
  rw [List.getElem?_map] at h2
  cases e : cs[i.toNat]? with
  | none => rw [e] at h2; cases h2
  | some z =>
    rw [e] at h2
    cases h2
    exact ⟨z, h1, List.mem_of_getElem? e⟩
theorem k_law_picked (T : Tops K mg) : Known P w K mg base CX0 2 "_law_picked" ["_law_script", "_law_k", "_law_names_here"] (spPicked K) := by
  have G_law_drawn : Known P w K mg base CX0 1 "_law_drawn" ["_law_script", "_law_k", "_law_size"] (spDrawn K) := k_law_drawn T
  refine T.d_law_picked.known sc_law_picked (fun _ _ _ _ _ _ us hl => match us, hl with | [_, _, _], _ => rfl) (fun vs H Q E h => ?_) (fun f cdv A outer s H vs Q E hr h => ?_)
  · obtain ⟨a, na, ns, k, cs, rfl, _⟩ := h
    rfl
  · obtain ⟨a, na, ns, k, cs, rfl, hS, hl, h0, h1, hn, hc, q⟩ := h
    have hcl : ∀ x, (cxOf CX0 P w K mg base ["_law_script", "_law_k", "_law_names_here"] "_law_picked" (defScope s_law_picked) f cdv A outer s H E).nox.env.scope.names.lookup x = some .cell → ∃ c, (cxOf CX0 P w K mg base ["_law_script", "_law_k", "_law_names_here"] "_law_picked" (defScope s_law_picked) f cdv A outer s H E).nox.env.cells.lookup x = some c := fun x hx => Option.isSome_iff_exists.mp (PySem.W.cellsFrom_some _ _ _ (.inl hx))
    refine ⟨_, (pss_one (ps_ret (pe_comp (te := tOp (rIxL K) (tVar 1) (tCall (spDrawn K) [] E0 (tCons (tVar 2) (tCons _ (tCons (tCB (fun xs H Q => ∃ x n, xs = [x] ∧ LenV K x H n ∧ Q (.int n) H) (tCons (tVar 1) tNil)) tNil))))) (caps_of (sc := defScope s_law_picked) (N := ["_law_script", "_law_k", "_law_names_here"]) (cp := [(2, "_law_names_here"), (0, "_law_script"), (1, "_law_k")]) hcl) rfl rfl (by decide) (pi_range1 rfl T.range (pa_cons (pe_callN G_law_drawn (hr.mono (by decide)) pass0 (pa_cons (pv 0) (pa_cons (pe_op op_add (pv 1) pe_int) (pa_cons pe_int pa_nil)))) pa_nil)) (fun _ _ _ _ _ => pts_nil) (fun _ _ _ _ _ => (pe_ix ix_list (pv 1) (pe_callN G_law_drawn (hr.mono (by decide)) pass0 (pa_cons (pv 2) (pa_cons (pe_op op_add (pv 3) (pv 0)) (pa_cons (pe_callB call_len rfl T.len b_len (pa_cons (pv 1) pa_nil)) pa_nil)))) (fun _ _ => rfl)))))), ?_⟩
    have b0 := drawZ_nn ns (k + 9) (show (0 : Int) < 7 by decide)
    have b1 := drawZ_lt ns (k + 9) (show (0 : Int) < 7 by decide)
    refine ⟨_, rfl, _, rfl, _, _, rfl, rfl, a, ns, _, 7, rfl, hS, hl, by omega, by omega, by decide, _, rfl, by omega, by omega, fun D hD => ?_⟩
    refine comp_pick (n := (drawZ ns (k + 9) 7).toNat) (fun z => z ∈ cs) hD (by omega) (fun j H2 q2 hj s2 kq => ?_) (fun zs H2 h2 s2 hz hall => q H2 D zs s2 hD h2 (by omega) hall)
    have el : ((cs.map V.str).length : Int) = (cs.length : Int) := by rw [List.length_map]
    have c0 := drawZ_nn ns (k + (0 + (j : Int))) (show (0 : Int) < (cs.length : Int) by omega)
    have c1 := drawZ_lt ns (k + (0 + (j : Int))) (show (0 : Int) < (cs.length : Int) by omega)
    obtain ⟨z, hat, hzm⟩ := str_at c0 c1
    refine ⟨_, rfl, _, rfl, _, rfl, _, rfl, _, _, rfl, rfl, _, rfl, _, _, rfl, .inl ⟨_, s2.seq hn, rfl⟩, a, ns, _, _, rfl, s2.seq hS, hl, by omega, by omega, by rw [el]; omega, na, _, _, _, rfl, rfl, s2.seq hn, by rw [el]; exact hat, kq z hzm⟩
end
end My

namespace My
open PySem L2
section
variable {P : Program} {w : World} {K : PySem.W.Frag} {mg : Str → Option Value} {base : Heap}
theorem tabIn_lst {q : Str} {H : Hp} {P l : Addr} {xs : List V} {o : HO} (h : H l = some (.lst xs)) (t : TabIn q H P) : TabIn q (upd H l o) P := by
  obtain ⟨S, e, f⟩ := t
  refine ⟨S, by rw [upd_ne (ne_of e h (fun z => by cases z))]; exact e, fun c hc => ?_⟩
  obtain ⟨u, e1, e2⟩ := f c hc
  exact ⟨u, by rw [upd_ne (ne_of e1 h (fun z => by cases z))]; exact e1, e2⟩
theorem name_at {y0 y1 y2 y3 y4 y5 t0 t1 : Str} (i : Int) (h0 : 0 ≤ i) (h : i < 6) : ∃ n, atI ([y0, y1, y2, y3, y4, y5, t0, t1].map V.str) i = some (.str n) ∧ n ∈ [y0, y1, y2, y3, y4, y5] := by
  have : i = 0 ∨ i = 1 ∨ i = 2 ∨ i = 3 ∨ i = 4 ∨ i = 5 := by omega
  rcases this with rfl | rfl | rfl | rfl | rfl | rfl
  · exact ⟨y0, rfl, by simp⟩
  · exact ⟨y1, rfl, by simp⟩
  · exact ⟨y2, rfl, by simp⟩
  · exact ⟨y3, rfl, by simp⟩
  · exact ⟨y4, rfl, by simp⟩
  · exact ⟨y5, rfl, by simp⟩
theorem cutA {G : Prop} {N : St → Hp → Prop} (Pv : St → Hp → Prop) (h : ∀ σ H, Pv σ H → N σ H) (k : (∀ σ H, Pv σ H → N σ H) → G) : G := k h
theorem Found.pre {H H1 H' : Hp} {fv : V} {r : Res} (s : Same H H1) (h : Found H1 H' fv r) : Found H H' fv r := by
  cases r with
  | val v => exact h
  | call xs =>
    obtain ⟨a, l, e1, e2, e3, e4⟩ := h
    exact ⟨a, l, e1, e2, e3, noneB s e4⟩
end
end My

namespace My
open PySem L2
section
variable {P : Program} {w : World} {K : PySem.W.Frag} {mg : Str → Option Value} {base : Heap}
end
end My

namespace My
open PySem L2
section
variable {P : Program} {w : World} {K : PySem.W.Frag} {mg : Str → Option Value} {base : Heap}
theorem go_cases {kvs : List (List Key × V)} {H : Hp} : ∀ {zs : List Spot3} {is0 : List Int}, There kvs H zs →
    ((∃ v, (turnGo (valAt kvs) zs (is0.map V.int)).2 = .val v ∧ WV H v) ∨ ∃ is : List Int, (turnGo (valAt kvs) zs (is0.map V.int)).2 = .call (is.map V.int) ∧ is.length = is0.length + zs.length)
  | [], is0, _ => .inr ⟨is0, rfl, by simp⟩
  | z :: r, is0, h => by
    obtain ⟨v, hv, hw⟩ := h z List.mem_cons_self
    have e := valAt_of hv
    have hr := h
    show (∃ v, (if isRef (valAt kvs z) then _ else _ : List Spot3 × Res).2 = .val v ∧ WV H v) ∨ ∃ is : List Int, (if isRef (valAt kvs z) then _ else _ : List Spot3 × Res).2 = .call (is.map V.int) ∧ _
    rw [e]
    rcases hw with ⟨i, rfl⟩ | ⟨a, y, rfl, g1, g2⟩
    · rw [show isRef (.int i) = false from rfl, if_neg Bool.false_ne_true]
      have ih := go_cases (kvs := kvs) (H := H) (zs := r) (is0 := is0 ++ [i]) (fun y hy => h y (List.mem_cons_of_mem _ hy))
      rw [List.map_append] at ih
      rcases ih with ih | ⟨is, e1, e2⟩
      · exact .inl ih
      · refine .inr ⟨is, e1, ?_⟩
        rw [e2, List.length_append, List.length_cons]
        simp
        omega
    · rw [show isRef (.ref a) = true from rfl, if_pos rfl]
      exact .inl ⟨_, rfl, .inr ⟨a, y, rfl, g1, g2⟩⟩
theorem turn_cases {kvs : List (List Key × V)} {H : Hp} {zs : List Spot3} (h : There kvs H zs) : (∃ v, (turnOf kvs zs).2 = .val v ∧ WV H v) ∨ ∃ is : List Int, (turnOf kvs zs).2 = .call (is.map V.int) ∧ is.length = zs.length := by
  rcases go_cases (is0 := []) h with g | ⟨is, e1, e2⟩
  · exact .inl g
  · exact .inr ⟨is, e1, by simpa using e2⟩
theorem go_sub {val : Spot3 → V} : ∀ {zs : List Spot3} {acc : List V}, (∀ z ∈ (turnGo val zs acc).1, z ∈ zs) ∧ (turnGo val zs acc).1.length ≤ zs.length
  | [], _ => ⟨fun z hz => hz, Nat.le_refl _⟩
  | y :: r, acc => by
    have ih := go_sub (val := val) (zs := r) (acc := acc ++ [val y])
    unfold turnGo
    split
    · exact ⟨fun z hz => by rw [List.mem_singleton.mp hz]; exact List.mem_cons_self, by simp⟩
    · refine ⟨fun z hz => ?_, by rw [List.length_cons, List.length_cons]; have := ih.2; omega⟩
      rcases List.mem_cons.mp hz with e | hz
      · rw [e]; exact List.mem_cons_self
      · exact List.mem_cons_of_mem _ (ih.1 z hz)
theorem turn_sub {kvs : List (List Key × V)} {zs : List Spot3} : (∀ z ∈ (turnOf kvs zs).1, z ∈ zs) ∧ (turnOf kvs zs).1.length ≤ zs.length := go_sub
end
end My

namespace My
open PySem L2
/-! ### cells looked at in turn -/
end My

namespace My
open PySem L2
theorem cutV_take (xs : List V) (k : Nat) (h : k ≤ xs.length) : cutV xs none (some (k : Int)) = xs.take k := by
  unfold cutV
  rw [HT.sIx_none, HT.sIx_nat, List.drop_zero, Nat.min_eq_left h, Nat.sub_zero]
theorem onceG_in {z : Spot3} : ∀ {ps : List Spot3}, z ∈ ps → z ∈ onceG ps := by
  suffices h : ∀ (ps acc : List Spot3), (z ∈ acc ∨ z ∈ ps) → z ∈ ps.foldl (fun acc p => if p ∈ acc then acc else acc ++ [p]) acc by
    intro ps hz
    exact h ps [] (.inr hz)
  intro ps
  induction ps with
  | nil => intro acc hz; exact hz.elim id (fun z => by cases z)
  | cons q ps ih =>
    intro acc hz
    rw [List.foldl_cons]
    refine ih _ ?_
    rcases hz with hz | hz
    · left
      split
      · exact hz
      · exact List.mem_append_left _ hz
    · rcases List.mem_cons.mp hz with e | hz
      · left
        subst e
        split
        · assumption
        · exact List.mem_append_right _ (by simp)
      · exact .inr hz
end My

namespace My
open PySem L2
section
variable {P : Program} {w : World} {K : PySem.W.Frag} {mg : Str → Option Value} {base : Heap}
def rowOf (t : Str) (p : Nat) (zs : List Str) : List Spot3 := zs.map fun z => (t, z, (p : Int))
def gatCells (kvs : List (List Key × V)) (_ : List (Key × V)) (zs : List Str) (t _ : Str) (p : Nat) : List Spot3 × Res := turnOf kvs (rowOf t p zs)
def okCells (H : Hp) (kvs : List (List Key × V)) (_ : List (Key × V)) (zs : List Str) (t _ : Str) (p : Nat) : Prop := zs.length ≤ 6 ∧ There kvs H (rowOf t p zs)
abbrev Ncg : List Str := ["self", "look", "many", "table", "column", "place"]
theorem sc_Cells_gather : FnScope Ncg ["self", "look", "many", "table", "column", "place"] (defScope s_Cells_gather) := ⟨rfl, rfl, rfl, by decide +kernel, rfl, by decide +kernel, by decide +kernel⟩
theorem k_Cells_gather (T : Tops K mg) {C : Addr} (Y : TCells K mg C) : KnownM P w K mg base CX0 4 C "gather" ["self", "look", "many", "table", "column", "place"] (spGat P w K mg base (NmAt C) gatCells okCells) := by
  have G_look_in_turn : Known P w K mg base CX0 3 "look_in_turn" ["look", "cells"] (spTurn P w K mg base) := k_look_in_turn T
  refine Y.m_gather.known sc_Cells_gather (fun _ _ _ _ _ _ us hl => match us, hl with | [_, _, _, _, _, _], _ => rfl) (fun vs H Q E h => ?_) (fun f cdv A outer s H vs Q E hr h => ?_)
  · obtain ⟨self, look, many, nl, wd, rd, t, c, p, LP, LM, kvs, rows, rl, rfl, _⟩ := h
    rfl
  · obtain ⟨self, look, many, nl, wd, rd, t, c, p, LP, LM, kvs, rows, zs, rfl, ⟨dx, fs, r, hp, hn, _, hr', hN⟩, _, ⟨hz6, hT⟩, F1, F2, S, q⟩ := h
    have hcl : ∀ x, (cxOf CX0 P w K mg base Ncg "Cells.gather" (defScope s_Cells_gather) f cdv A outer s H E).nox.env.scope.names.lookup x = some .cell → ∃ c, (cxOf CX0 P w K mg base Ncg "Cells.gather" (defScope s_Cells_gather) f cdv A outer s H E).nox.env.cells.lookup x = some c := fun x hx => Option.isSome_iff_exists.mp (PySem.W.cellsFrom_some _ _ _ (.inl hx))
    refine ⟨_, (pss_one (ps_ret (pe_callN G_look_in_turn (hr.mono (by decide)) pass0 (pa_cons (pv 1) (pa_cons (pe_comp (caps_of (sc := defScope s_Cells_gather) (N := Ncg) (cp := [(3, "table"), (5, "place")]) hcl) rfl rfl (by decide) (pi_list (pe_fld (pv 0) rfl)) (fun _ _ _ _ _ => pts_nil) (fun _ _ _ _ _ => (pe_tup (pa_cons (pv 1) (pa_cons (pv 0) (pa_cons (pv 2) pa_nil)))))) pa_nil))))), ?_⟩
    refine ⟨_, rfl, _, rfl, self, C, dx, fs, _, rfl, hp, Y.cl, Y.n_names, hn, r, rfl, ⟨_, SqL.of hr'⟩, fun D hD => ?_⟩
    refine comp_spots3 (t := t) (p := (p : Int)) (zs := zs) hD hr' (by omega) (fun z H2 q2 s2 k2 => ⟨_, rfl, _, rfl, _, rfl, sl, fun tp htp => k2 tp htp⟩) (fun ys H2 h2 s2 hy => ?_)
    obtain ⟨as0, hn0⟩ := S.lk.list
    refine ⟨look, D, nl, wd, LP, kvs, ys, rowOf t p zs, [], rfl, F1, S.sl, S.lk.same S.sl s2, h2, Ne.symm (ne_of_none hn0 hD), hy, hT.keep (Keep.of s2), ?_, fun H3 fv b3 lk3 fo3 => ?_⟩
    · unfold rowOf; rw [List.length_map]; simp; omega
    · exact q H3 fv ((But.of s2).trans b3) (by rw [List.nil_append] at lk3; exact lk3) (Found.pre s2 fo3)
end
end My

namespace My
open PySem L2
end My

namespace My
open PySem L2
section
variable {P : Program} {w : World} {K : PySem.W.Frag} {mg : Str → Option Value} {base : Heap}
def AbAt (C : Addr) (H : Hp) (p : Addr) (r : Int × List Str) : Prop := NmAt C H p r.2 ∧ ∃ dx fs, H p = some (.ins C dx fs) ∧ fs.lookup ("first" : Str) = some (.int r.1)
/-- a number ahead of those that are told -/
def ahead (i : Int) (r : List Spot3 × Res) : List Spot3 × Res := (r.1, match r.2 with | .call xs => .call (.int i :: xs) | .val v => .val v)
def gatAbove (kvs : List (List Key × V)) (_ : List (Key × V)) (r : Int × List Str) (t c : Str) (p : Nat) : List Spot3 × Res :=
  if 0 < p then turnOf kvs ((t, c, (p : Int) - 1) :: rowOf t p r.2) else ahead r.1 (turnOf kvs (rowOf t p r.2))
def okAbove (H : Hp) (kvs : List (List Key × V)) (_ : List (Key × V)) (r : Int × List Str) (t c : Str) (p : Nat) : Prop := r.2.length ≤ 6 ∧ There kvs H (rowOf t p r.2) ∧ (0 < p → There kvs H [(t, c, (p : Int) - 1)])
abbrev Nag : List Str := ["self", "look", "many", "table", "column", "place", "cells", "told"]
theorem sc_Above_gather : FnScope Nag ["self", "look", "many", "table", "column", "place"] (defScope s_Above_gather) := ⟨rfl, rfl, rfl, by decide +kernel, rfl, by decide +kernel, by decide +kernel⟩
theorem k_Above_gather (T : Tops K mg) {C : Addr} (Y : TAbove K mg C) : KnownM P w K mg base CX0 4 C "gather" ["self", "look", "many", "table", "column", "place"] (spGat P w K mg base (AbAt C) gatAbove okAbove) := by
  have G_look_in_turn : Known P w K mg base CX0 3 "look_in_turn" ["look", "cells"] (spTurn P w K mg base) := k_look_in_turn T
  refine Y.m_gather.known sc_Above_gather (fun _ _ _ _ _ _ us hl => match us, hl with | [_, _, _, _, _, _], _ => rfl) (fun vs H Q E h => ?_) (fun f cdv A outer s H vs Q E hr h => ?_)
  · obtain ⟨self, look, many, nl, wd, rd, t, c, p, LP, LM, kvs, rows, rl, rfl, _⟩ := h
    rfl
  · obtain ⟨self, look, many, nl, wd, rd, t, c, p, LP, LM, kvs, rows, ⟨i0, zs⟩, rfl, ⟨⟨dx, fs, r, hp, hn, _, hr', hN⟩, dx2, fs2, hp2, hf⟩, _, ⟨hz6, hT, hT1⟩, F1, F2, S, q⟩ := h
    have hcl : ∀ x, (cxOf CX0 P w K mg base Nag "Above.gather" (defScope s_Above_gather) f cdv A outer s H E).nox.env.scope.names.lookup x = some .cell → ∃ c, (cxOf CX0 P w K mg base Nag "Above.gather" (defScope s_Above_gather) f cdv A outer s H E).nox.env.cells.lookup x = some c := fun x hx => Option.isSome_iff_exists.mp (PySem.W.cellsFrom_some _ _ _ (.inl hx))
    refine ⟨_, (pss_cons (ps_setComp (i := 6) sc_Above_gather.nd rfl rfl (caps_of (sc := defScope s_Above_gather) (N := Nag) (cp := [(3, "table"), (5, "place")]) hcl) rfl rfl (by decide) (pi_list (pe_fld (pv 0) rfl)) (fun _ _ _ _ _ => pts_nil) (fun _ _ _ _ _ => (pe_tup (pa_cons (pv 1) (pa_cons (pv 0) (pa_cons (pv 2) pa_nil))))) rfl)
      (pss_cons (ps_if (pt_cmpR op_gt (pv 5) pe_int (nomark _)) (pss_one (ps_ret (pe_callN G_look_in_turn (hr.mono (by decide)) pass0 (pa_cons (pv 1) (pa_cons (pe_op op_cat (pe_lst (pa_cons (pe_tup (pa_cons (pv 3) (pa_cons (pv 4) (pa_cons (pe_op op_sub (pv 5) pe_int) pa_nil)))) pa_nil)) (pv 6)) pa_nil))))) pss_nil)
      (pss_cons (ps_set (i := 7) sc_Above_gather.nd rfl (Or.inl rfl) (pe_callN G_look_in_turn (hr.mono (by decide)) pass0 (pa_cons (pv 1) (pa_cons (pv 6) pa_nil))))
      (pss_cons (ps_if (pt_cmpR op_eq (pe_ix ix_tup (pv 7) pe_int (fun _ _ => rfl)) pe_str (nomark _)) (pss_one (ps_ret (pv 7))) pss_nil)
      (pss_one (ps_ret (pe_tup (pa_cons pe_str (pa_cons (pe_op op_cat (pe_lst (pa_cons (pe_fld (pv 0) rfl) pa_nil)) (pe_ix ix_tup (pv 7) pe_int (fun _ _ => rfl))) pa_nil))))))))), ?_⟩
    refine ⟨_, rfl, self, C, dx, fs, _, rfl, hp, Y.cl, Y.n_names, hn, r, rfl, ⟨_, SqL.of hr'⟩, fun D hD => ?_⟩
    refine comp_spots3 (t := t) (p := (p : Int)) (zs := zs) hD hr' (by have : zs.length ≤ 6 := hz6; omega) (fun z H2 q2 s2 k2 => ⟨_, rfl, _, rfl, _, rfl, sl, fun tp htp => k2 tp htp⟩) (fun ys H2 h2 s2 hy => ?_)
    have hz6' : zs.length ≤ 6 := hz6
    have hT : There kvs H (rowOf t p zs) := hT
    have hyR : Nts H2 ys (rowOf t p zs) := hy
    have hrl : (rowOf t p zs).length ≤ 6 := by unfold rowOf; rw [List.length_map]; exact hz6'
    obtain ⟨as0, hn0⟩ := S.lk.list
    refine ⟨_, rfl, _, _, rfl, rfl, _, rfl, ?_⟩
    refine ite2 (fun g => ?_) (fun g => ?_)
    · have hp0 : 0 < p := by have : (0 : Int) < (p : Int) := by simpa using g
                             omega
      have eg : gatAbove kvs rows (i0, zs) t c p = turnOf kvs ((t, c, (p : Int) - 1) :: rowOf t p zs) := by unfold gatAbove; rw [if_pos hp0]
      rw [eg] at q
      refine ⟨_, rfl, _, rfl, _, rfl, _, rfl, _, _, rfl, rfl, sl, fun tp htp => ⟨sl, fun l hl => ?_⟩⟩
      have s3 := Same.new (o := .tup [.str t, .str c, .int ((p : Int) - 1)]) htp
      have s4 := Same.new (o := .lst [.ref tp]) hl
      have s34 := s3.trans s4
      have hl2 := upd_same (H := upd H2 tp (.tup [.str t, .str c, .int ((p : Int) - 1)])) (a := l) (o := .lst [.ref tp])
      have htp2 := s4 _ _ (upd_same (H := H2) (a := tp) (o := .tup [.str t, .str c, .int ((p : Int) - 1)]))
      generalize upd (upd H2 tp (.tup [.str t, .str c, .int ((p : Int) - 1)])) l (.lst [.ref tp]) = H4 at s34 hl2 htp2 ⊢
      have hyl : ys.length ≤ 6 := by rw [hyR.length]; exact hrl
      refine ⟨_, rfl, l, D, _, _, rfl, rfl, hl2, s34 _ _ h2, sl (by simp; omega), fun l2 hl2' => ?_⟩
      have s5 := Same.new (o := .lst ([.ref tp] ++ ys)) hl2'
      have s2345 := s2.trans (s34.trans s5)
      have nlD : l2 ≠ nl := Ne.symm (ne_of_none ((s2.trans s34) _ _ hn0) hl2')
      have hNc : Nts (upd H4 l2 (.lst ([.ref tp] ++ ys))) ([.ref tp] ++ ys) ((t, c, (p : Int) - 1) :: rowOf t p zs) := Paired.cons (a := V.ref tp) (b := ((t, c, (p : Int) - 1) : Spot3)) ⟨tp, rfl, s5 _ _ htp2⟩ (hyR.keep (Keep.of (s34.trans s5)))
      refine ⟨look, l2, nl, wd, LP, kvs, [.ref tp] ++ ys, (t, c, (p : Int) - 1) :: rowOf t p zs, [], rfl, F1, S.sl, S.lk.same S.sl s2345, upd_same, nlD, hNc, ?_, by simp; omega, fun H3 fv b3 lk3 fo3 => ?_⟩
      · intro y hy'
        rcases List.mem_cons.mp hy' with rfl | hy'
        · exact ((hT1 hp0).keep (Keep.of s2345)) _ (by simp)
        · exact (hT.keep (Keep.of s2345)) y hy'
      · exact q H3 fv ((But.of s2345).trans b3) (by rw [List.nil_append] at lk3; exact lk3) (Found.pre s2345 fo3)
    · have hp0 : ¬ 0 < p := fun z => g (by simpa using (show (0 : Int) < (p : Int) by omega))
      have eg : gatAbove kvs rows (i0, zs) t c p = ahead i0 (turnOf kvs (rowOf t p zs)) := by unfold gatAbove; rw [if_neg hp0]
      rw [eg] at q
      refine ⟨_, rfl, _, rfl, look, D, nl, wd, LP, kvs, ys, rowOf t p zs, [], rfl, F1, S.sl, S.lk.same S.sl s2, h2, Ne.symm (ne_of_none hn0 hD), hyR, hT.keep (Keep.of s2), by simp; omega, fun H3 fv b3 lk3 fo3 => ?_⟩
      rw [List.nil_append] at lk3
      have bb := (But.of s2).trans b3
      have noH : ∀ l, H3 l = none → H l = none := fun l e => by
        cases e2 : H l with
        | none => rfl
        | some o =>
          exfalso
          by_cases y : l = nl
          · obtain ⟨as2, e3⟩ := lk3.list
            rw [y, e3] at e; cases e
          · rw [bb l o y e2] at e; cases e
      cases e : (turnOf kvs (rowOf t p zs)).2 with
      | val v =>
        rw [e] at fo3
        have e2 : (ahead i0 (turnOf kvs (rowOf t p zs))).2 = .val v := by unfold ahead; rw [e]
        obtain ⟨a, rfl, ha⟩ := fo3
        have a0 : atI [V.str ("value" : Str), v] 0 = some (.str ("value" : Str)) := rfl
        refine ⟨_, rfl, _, _, _, _, rfl, rfl, SqT.of ha, a0, rfl, _, rfl, ?_⟩
        refine ite2 (fun _ => ?_) (fun g2 => absurd (by simp) g2)
        exact ⟨_, rfl, q H3 _ bb lk3 (by rw [e2]; exact ⟨a, rfl, ha⟩)⟩
      | call xs =>
        rw [e] at fo3
        have e2 : (ahead i0 (turnOf kvs (rowOf t p zs))).2 = .call (.int i0 :: xs) := by unfold ahead; rw [e]
        obtain ⟨a, l, rfl, ha, hl, _⟩ := fo3
        have a0 : atI [V.str ("call" : Str), V.ref l] 0 = some (.str ("call" : Str)) := rfl
        have a1 : atI [V.str ("call" : Str), V.ref l] 1 = some (.ref l) := rfl
        have hp3 : H3 self = some (.ins C dx fs) := bb _ _ (ne_of hp hn0 (fun z => by cases z)) hp
        have hff : fs.lookup ("first" : Str) = some (.int i0) := by
          rw [hp] at hp2
          cases hp2
          exact hf
        have hxs : xs.length ≤ 6 := by
          rcases turn_cases hT with ⟨v, e5, _⟩ | ⟨is, e5, e6⟩
          · rw [e5] at e; cases e
          · rw [e5] at e; cases e; rw [List.length_map]; omega
        refine ⟨_, rfl, _, _, _, _, rfl, rfl, SqT.of ha, a0, rfl, _, rfl, ?_⟩
        refine ite2 (fun g2 => absurd g2 (by decide)) (fun _ => ?_)
        refine ⟨_, rfl, self, C, dx, fs, _, rfl, hp3, Y.cl, Y.n_first, hff, sl, fun l1 hl1 => ?_⟩
        have s6 := Same.new (o := .lst [.int i0]) hl1
        refine ⟨_, rfl, _, _, _, _, rfl, rfl, SqT.of (s6 _ _ ha), a1, l1, l, _, _, rfl, rfl, upd_same, s6 _ _ hl, sl (by simp; omega), fun l2 hl2 => ?_⟩
        have s7 := Same.new (o := .lst ([.int i0] ++ xs)) hl2
        have s67 := s6.trans s7
        refine ⟨sl, fun p2 hp2' => ?_⟩
        have s8 := Same.new (o := .tup [.str ("call" : Str), .ref l2]) hp2'
        have s678 := s67.trans s8
        refine q _ _ (bb.trans (But.of s678)) (lk3.same S.sl s678) ?_
        rw [e2]
        exact ⟨p2, l2, rfl, upd_same, s8 _ _ upd_same, noH l2 (noneB s6 hl2)⟩
end
end My

namespace My
open PySem L2
/-! ### the rows of a group -/
def grpGo (val : Spot3 → V) (own : V) (t k n : Str) : List Nat → List V → List Spot3 × Res
  | [], acc => ([], .call acc)
  | r :: rs, acc =>
    if val (t, k, (r : Int)) = own then
      (if isRef (val (t, n, (r : Int))) then ([(t, k, (r : Int)), (t, n, (r : Int))], .val (val (t, n, (r : Int))))
       else ((t, k, (r : Int)) :: (t, n, (r : Int)) :: (grpGo val own t k n rs (acc ++ [val (t, n, (r : Int))])).1, (grpGo val own t k n rs (acc ++ [val (t, n, (r : Int))])).2))
    else ((t, k, (r : Int)) :: (grpGo val own t k n rs acc).1, (grpGo val own t k n rs acc).2)
def grpSeen (val : Spot3 → V) (own : V) (t k n : Str) (rs : List Nat) : List Spot3 := rs.flatMap fun (r : Nat) => if val (t, k, (r : Int)) = own then [(t, k, (r : Int)), (t, n, (r : Int))] else [(t, k, (r : Int))]
def grpAcc (val : Spot3 → V) (own : V) (t k n : Str) (rs : List Nat) : List V := rs.flatMap fun (r : Nat) => if val (t, k, (r : Int)) = own then [val (t, n, (r : Int))] else []
def NoF (val : Spot3 → V) (own : V) (t k n : Str) (rs : List Nat) : Prop := ∀ r ∈ rs, val (t, k, (r : Int)) = own → isRef (val (t, n, (r : Int))) = false
section
variable {val : Spot3 → V} {own : V} {t k n : Str}
theorem grpGo_cons {r : Nat} {rs : List Nat} {acc : List V} : grpGo val own t k n (r :: rs) acc = if val (t, k, (r : Int)) = own then
      (if isRef (val (t, n, (r : Int))) then ([(t, k, (r : Int)), (t, n, (r : Int))], .val (val (t, n, (r : Int))))
       else ((t, k, (r : Int)) :: (t, n, (r : Int)) :: (grpGo val own t k n rs (acc ++ [val (t, n, (r : Int))])).1, (grpGo val own t k n rs (acc ++ [val (t, n, (r : Int))])).2))
    else ((t, k, (r : Int)) :: (grpGo val own t k n rs acc).1, (grpGo val own t k n rs acc).2) := rfl
theorem grpSeen_cons {r : Nat} {rs : List Nat} : grpSeen val own t k n (r :: rs) = (if val (t, k, (r : Int)) = own then [(t, k, (r : Int)), (t, n, (r : Int))] else [(t, k, (r : Int))]) ++ grpSeen val own t k n rs := by
  unfold grpSeen; rw [List.flatMap_cons]
theorem grpAcc_cons {r : Nat} {rs : List Nat} : grpAcc val own t k n (r :: rs) = (if val (t, k, (r : Int)) = own then [val (t, n, (r : Int))] else []) ++ grpAcc val own t k n rs := by
  unfold grpAcc; rw [List.flatMap_cons]
theorem grp_app : ∀ {xs ys : List Nat} {acc : List V}, NoF val own t k n xs → grpGo val own t k n (xs ++ ys) acc = (grpSeen val own t k n xs ++ (grpGo val own t k n ys (acc ++ grpAcc val own t k n xs)).1, (grpGo val own t k n ys (acc ++ grpAcc val own t k n xs)).2)
  | [], ys, acc, _ => by simp [grpSeen, grpAcc]
  | x :: xs, ys, acc, h => by
    have hx := h x List.mem_cons_self
    have ih : ∀ acc, _ := fun acc => grp_app (xs := xs) (ys := ys) (acc := acc) fun r hr => h r (List.mem_cons_of_mem _ hr)
    rw [List.cons_append]
    rw [grpGo_cons, grpSeen_cons, grpAcc_cons]
    by_cases e : val (t, k, (x : Int)) = own
    · rw [if_pos e, if_pos e, if_pos e, hx e, if_neg Bool.false_ne_true, ih]
      simp [List.append_assoc]
    · rw [if_neg e, if_neg e, if_neg e, ih]
      simp
theorem grp_end {rs : List Nat} (h : NoF val own t k n rs) : grpGo val own t k n rs [] = (grpSeen val own t k n rs, .call (grpAcc val own t k n rs)) := by
  have := grp_app (xs := rs) (ys := []) (acc := []) h
  rw [List.append_nil] at this
  rw [this]
  simp [grpGo]
theorem grp_at {m i : Nat} (hi : i < m) (h : NoF val own t k n (List.range i)) (e : val (t, k, (i : Int)) = own) (hr : isRef (val (t, n, (i : Int))) = true) :
    grpGo val own t k n (List.range m) [] = (grpSeen val own t k n (List.range i) ++ [(t, k, (i : Int)), (t, n, (i : Int))], .val (val (t, n, (i : Int)))) := by
  have e1 : List.range m = List.range i ++ (i :: (List.range m).drop (i + 1)) := by
    have h1 : (List.range m).drop i = (List.range m)[i]'(by simpa using hi) :: (List.range m).drop (i + 1) := List.drop_eq_getElem_cons (by simpa using hi)
    have h2 : (List.range m).take i = List.range i := by rw [List.take_range]; congr 1; omega
    rw [List.getElem_range] at h1
    conv => lhs; rw [← List.take_append_drop i (List.range m), h1, h2]
  have := grp_app (xs := List.range i) (ys := i :: (List.range m).drop (i + 1)) (acc := []) h
  rw [← e1] at this
  rw [this]
  simp only [grpGo, e, hr, if_true]
theorem seen_succ {i : Nat} : grpSeen val own t k n (List.range (i + 1)) = grpSeen val own t k n (List.range i) ++ (if val (t, k, (i : Int)) = own then [(t, k, (i : Int)), (t, n, (i : Int))] else [(t, k, (i : Int))]) := by
  unfold grpSeen
  rw [List.range_succ, List.flatMap_append]
  simp
theorem acc_succ {i : Nat} : grpAcc val own t k n (List.range (i + 1)) = grpAcc val own t k n (List.range i) ++ (if val (t, k, (i : Int)) = own then [val (t, n, (i : Int))] else []) := by
  unfold grpAcc
  rw [List.range_succ, List.flatMap_append]
  simp
theorem nof_succ {i : Nat} (h : NoF val own t k n (List.range i)) (g : val (t, k, (i : Int)) = own → isRef (val (t, n, (i : Int))) = false) : NoF val own t k n (List.range (i + 1)) := fun r hr => by
  rw [List.range_succ] at hr
  rcases List.mem_append.mp hr with hr | hr
  · exact h r hr
  · rw [List.mem_singleton.mp hr]; exact g
theorem seen_len : ∀ rs : List Nat, (grpSeen val own t k n rs).length ≤ 2 * rs.length
  | [] => by simp [grpSeen]
  | r :: rs => by
    have := seen_len rs
    rw [grpSeen_cons, List.length_append, List.length_cons]
    split
    · show 2 + _ ≤ _; omega
    · show 1 + _ ≤ _; omega
theorem acc_len : ∀ rs : List Nat, (grpAcc val own t k n rs).length ≤ rs.length
  | [] => by simp [grpAcc]
  | r :: rs => by
    have := acc_len rs
    rw [grpAcc_cons, List.length_append, List.length_cons]
    split
    · show 1 + _ ≤ _; omega
    · show 0 + _ ≤ _; omega
theorem go_subG : ∀ {rs : List Nat} {acc : List V}, (∀ z ∈ (grpGo val own t k n rs acc).1, z.1 = t ∧ (z.2.1 = k ∨ z.2.1 = n)) ∧ (grpGo val own t k n rs acc).1.length ≤ 2 * rs.length
  | [], _ => ⟨(fun z hz => by cases hz), (by simp [grpGo])⟩
  | r :: rs, acc => by
    have ih1 := go_subG (rs := rs) (acc := acc)
    have ih2 := go_subG (rs := rs) (acc := acc ++ [val (t, n, (r : Int))])
    rw [grpGo_cons]
    split
    · split
      · refine ⟨fun z hz => ?_, by simp only [List.length_cons, List.length_nil]; omega⟩
        simp only [List.mem_cons, List.not_mem_nil, or_false] at hz
        rcases hz with rfl | rfl
        · exact ⟨rfl, .inl rfl⟩
        · exact ⟨rfl, .inr rfl⟩
      · refine ⟨fun z hz => ?_, by simp only [List.length_cons]; have := ih2.2; omega⟩
        rcases List.mem_cons.mp hz with rfl | hz
        · exact ⟨rfl, .inl rfl⟩
        · rcases List.mem_cons.mp hz with rfl | hz
          · exact ⟨rfl, .inr rfl⟩
          · exact ih2.1 z hz
    · refine ⟨fun z hz => ?_, by simp only [List.length_cons]; have := ih1.2; omega⟩
      rcases List.mem_cons.mp hz with rfl | hz
      · exact ⟨rfl, .inl rfl⟩
      · exact ih1.1 z hz
end
/-- a cell's number, as == tells it -/
theorem eqv_own {K : PySem.W.Frag} {H : Hp} {v : V} {i : Int} (h : WV H v) : ∃ d, Dt K H v d ∧ d.canLay0 = true ∧ d.depth ≤ 64 ∧ PyData.eqv d (.int i) = decide (v = .int i) := by
  obtain ⟨d, hd, ly, dp, _, _, kind⟩ := h.dt (K := K)
  refine ⟨d, hd, ly, dp, ?_⟩
  rcases kind with ⟨j, rfl, rfl⟩ | ⟨a, z, rfl, _, rfl, _⟩
  · by_cases e : j = i
    · subst e; simp [PyData.eqv]
    · rw [decide_eq_false (fun z => e (V.int.inj z))]
      simp [PyData.eqv, e]
  · rw [decide_eq_false (fun z => by cases z)]
    rfl
end My

namespace My
open PySem L2
section
variable {P : Program} {w : World} {K : PySem.W.Frag} {mg : Str → Option Value} {base : Heap}
def KyAt2 (C : Addr) (H : Hp) (p : Addr) (r : Str × Str) : Prop := KyAt C H p r.1 r.2
def manyOf (rows : List (Key × V)) (t : Str) : Nat := match valV rows (.inr t) with
  | some (.int i) => i.toNat
  | _ => 0
theorem manyOf_of {rows : List (Key × V)} {t : Str} {m : Nat} (h : valV rows (.inr t) = some (.int (m : Int))) : manyOf rows t = m := by unfold manyOf; rw [h]; exact Int.toNat_natCast m
def gatGroup (kvs : List (List Key × V)) (rows : List (Key × V)) (r : Str × Str) (t _ : Str) (p : Nat) : List Spot3 × Res :=
  if isRef (valAt kvs (t, r.1, (p : Int))) then ([(t, r.1, (p : Int))], .val (valAt kvs (t, r.1, (p : Int))))
  else ((t, r.1, (p : Int)) :: (grpGo (valAt kvs) (valAt kvs (t, r.1, (p : Int))) t r.1 r.2 (List.range (manyOf rows t)) []).1, (grpGo (valAt kvs) (valAt kvs (t, r.1, (p : Int))) t r.1 r.2 (List.range (manyOf rows t)) []).2)
/-- the table's rows are there -/
structure OkG (H : Hp) (kvs : List (List Key × V)) (rows : List (Key × V)) (k n t : Str) (p m : Nat) : Prop where
  v : valV rows (.inr t) = some (.int (m : Int))
  l : m ≤ 30
  p : p < m
  fk : Filled kvs H t k m
  fn : Filled kvs H t n m
def okGroup (H : Hp) (kvs : List (List Key × V)) (rows : List (Key × V)) (r : Str × Str) (t _ : Str) (p : Nat) : Prop := ∃ m, OkG H kvs rows r.1 r.2 t p m
abbrev Ngg : List Str := ["self", "look", "many", "table", "column", "place", "own", "numbers", "row", "value"]
theorem sc_Group_gather : FnScope Ngg ["self", "look", "many", "table", "column", "place"] (defScope s_Group_gather) := ⟨rfl, rfl, rfl, by decide +kernel, rfl, by decide +kernel, by decide +kernel⟩
theorem k_Group_gather (T : Tops K mg) {C : Addr} (Y : TGroup K mg C) : KnownM P w K mg base CX0 3 C "gather" ["self", "look", "many", "table", "column", "place"] (spGat P w K mg base (KyAt2 C) gatGroup okGroup) := by
  have G_is_fault : Known P w K mg base CX0 2 "is_fault" ["thing"] (spFault K) := k_is_fault T
  refine Y.m_gather.known sc_Group_gather (fun _ _ _ _ _ _ us hl => match us, hl with | [_, _, _, _, _, _], _ => rfl) (fun vs H Q E h => ?_) (fun f cdv A outer s H vs Q E hr h => ?_)
  · obtain ⟨self, look, many, nl, wd, rd, t, c, p, LP, LM, kvs, rows, rl, rfl, _⟩ := h
    rfl
  · obtain ⟨self, look, many, nl, wd, rd, t, c, p, LP, LM, kvs, rows, ⟨k, n⟩, rfl, ⟨dx, fs, hp, hk, hn, _, hkN, hnN⟩, _, ⟨m, O⟩, F1, F2, S, q⟩ := h
    refine ⟨_, (pss_cons (ps_set (i := 6) sc_Group_gather.nd rfl (Or.inl rfl) (pe_callV 1 hr (pa_cons (pv 3) (pa_cons (pe_fld (pv 0) rfl) (pa_cons (pv 5) pa_nil)))))
      (pss_cons (ps_if (pt_val (pe_callN G_is_fault (hr.mono (by decide)) pass0 (pa_cons (pv 6) pa_nil)) (fun _ => rfl)) (pss_one (ps_ret (pe_tup (pa_cons pe_str (pa_cons (pv 6) pa_nil))))) pss_nil)
      (pss_cons (ps_set (i := 7) sc_Group_gather.nd rfl (Or.inl rfl) (pe_lst pa_nil))
      (pss_cons (ps_for PassesOwn.never rfl (pi_range1 rfl T.range (pa_cons (pe_callV 2 hr (pa_cons (pv 3) pa_nil)) pa_nil)) (pg_name (i := 8) sc_Group_gather.nd rfl (Or.inl rfl)) (pss_one (ps_if (pt_cmpR (op_eqD hr.units) (pe_callV 1 hr (pa_cons (pv 3) (pa_cons (pe_fld (pv 0) rfl) (pa_cons (pv 8) pa_nil)))) (pv 6) (nomark _)) (pss_cons (ps_set (i := 9) sc_Group_gather.nd rfl (Or.inl rfl) (pe_callV 1 hr (pa_cons (pv 3) (pa_cons (pe_fld (pv 0) rfl) (pa_cons (pv 8) pa_nil)))))
      (pss_cons (ps_if (pt_val (pe_callN G_is_fault (hr.mono (by decide)) pass0 (pa_cons (pv 9) pa_nil)) (fun _ => rfl)) (pss_one (ps_ret (pe_tup (pa_cons pe_str (pa_cons (pv 9) pa_nil))))) pss_nil)
      (pss_one (ps_expr (pe_bm PySem.F.plainAttrs_list PySem.F.slot_list_append PySem.F.type_list_append mt_append (pv 7) (pa_cons (pv 9) pa_nil)))))) pss_nil)))
      (pss_one (ps_ret (pe_tup (pa_cons pe_str (pa_cons (pv 7) pa_nil))))))))), ?_⟩
    obtain ⟨as0, hn0⟩ := S.lk.list
    have hk' : fs.lookup ("key" : Str) = some (.str k) := hk
    have hn' : fs.lookup ("name" : Str) = some (.str n) := hn
    obtain ⟨v, hv, hW⟩ := O.fk p O.p
    have ev : valAt kvs (t, k, (p : Int)) = v := valAt_of (z := (t, k, (p : Int))) hv
    refine ⟨look, _, rfl, F1, _, rfl, _, rfl, self, C, dx, fs, _, rfl, hp, Y.cl, Y.n_key, hk', _, rfl, t, k, (p : Int), v, [], rfl, S.lk, by decide, hv, fun H2 b2 lk2 => ?_⟩
    have hW2 := hW.keep (Keep.but b2 hn0)
    obtain ⟨d, hd, ly, dp, _, hsh, kind⟩ := hW2.dt (K := K)
    refine ⟨_, rfl, v, d, rfl, hd, hsh, fun H3 s3 => ⟨_, rfl, ?_⟩⟩
    have lk3 := lk2.same S.sl s3
    have b3 := b2.trans (But.of s3)
    rcases kind with ⟨i0, rfl, rfl⟩ | ⟨a, z, rfl, hz, rfl, hf⟩
    · refine iteF ⟨sl, fun nm hnm => ?_⟩
      have eg : gatGroup kvs rows (k, n) t c p = ((t, k, (p : Int)) :: (grpGo (valAt kvs) (.int i0) t k n (List.range m) []).1, (grpGo (valAt kvs) (.int i0) t k n (List.range m) []).2) := by
        unfold gatGroup
        rw [show valAt kvs (t, (k, n).1, (p : Int)) = .int i0 from ev, show isRef (.int i0) = false from rfl, if_neg Bool.false_ne_true, manyOf_of O.v]
      rw [eg] at q
      have s4 := Same.new (o := .lst []) hnm
      obtain ⟨as3, hn3⟩ := lk3.list
      have nnm : nl ≠ nm := ne_of_none hn3 hnm
      have lk4 := lk3.same S.sl s4
      have b4 := b3.trans (But.of s4)
      have hnmH : H nm = none := by
        cases e : H nm with
        | none => rfl
        | some o => exfalso; rw [b3 nm o (Ne.symm nnm) e] at hnm; cases hnm
      have hr4 := (Keep.but b4 hn0) _ _ (fun xs z => by cases z) S.r
      refine ⟨many, _, rfl, F2, _, rfl, t, _, rfl, S.sm _ _ (Keep.but b4 hn0) S.m, hr4, O.v, _, rfl, by have := O.l; omega, by have := O.l; omega, ?_⟩
      rw [Int.toNat_natCast]
      refine for_range (lo := 0) (n := m) (fun i σ H5 => ∃ o8 o9, σ = [some (.ref self), some (.ref look), some (.ref many), some (.str t), some (.str c), some (.int (p : Int)), some (.int i0), some (.ref nm), o8, o9] ∧ But nl H H5 ∧ LkS LP nl wd kvs ((t, k, (p : Int)) :: grpSeen (valAt kvs) (.int i0) t k n (List.range i)) H5 ∧ H5 nm = some (.lst (grpAcc (valAt kvs) (.int i0) t k n (List.range i))) ∧ NoF (valAt kvs) (.int i0) t k n (List.range i))
        ⟨_, _, rfl, b4, lk4, upd_same, fun r hr' => by simp at hr'⟩ ?_ ?_
      · rintro i σ H5 hi ⟨o8, o9, rfl, b5, lk5, h5, nf⟩
        have kp5 := Keep.but b5 hn0
        have hp5 := kp5 _ _ (fun xs z => by cases z) hp
        obtain ⟨u, hu, hUW⟩ := (O.fk.keep kp5) i hi
        have eu : valAt kvs (t, k, (i : Int)) = u := valAt_of (z := (t, k, (i : Int))) hu
        have sl1 : (grpSeen (valAt kvs) (.int i0) t k n (List.range i)).length ≤ 2 * i := by have := seen_len (val := valAt kvs) (own := .int i0) (t := t) (k := k) (n := n) (List.range i); rw [List.length_range] at this; exact this
        have al1 : (grpAcc (valAt kvs) (.int i0) t k n (List.range i)).length ≤ i := by have := acc_len (val := valAt kvs) (own := .int i0) (t := t) (k := k) (n := n) (List.range i); rw [List.length_range] at this; exact this
        have hm30 := O.l
        refine ⟨look, _, rfl, F1, _, rfl, _, rfl, self, C, dx, fs, _, rfl, hp5, Y.cl, Y.n_key, hk', _, rfl, t, k, _, u, _, rfl, lk5, by rw [List.length_cons]; omega, by rw [Int.zero_add]; exact hu, fun H6 b6 lk6 => ?_⟩
        rw [Int.zero_add] at lk6
        obtain ⟨as5, hn5⟩ := lk5.list
        have kp6 := Keep.but b6 hn5
        have hU6 := hUW.keep kp6
        obtain ⟨d6, hd6, ly6, dp6, ee⟩ := eqv_own (K := K) (i := i0) hU6
        have h6 := b6 _ _ (Ne.symm nnm) h5
        refine ⟨_, rfl, d6, .int i0, hd6, .int i0, ly6, rfl, dp6, _, rfl, ?_⟩
        rw [ee]
        refine ite2 (fun g => ?_) (fun g => ?_)
        · have g' : u = .int i0 := by simpa using g
          have e7 : valAt kvs (t, k, (i : Int)) = .int i0 := eu.trans g'
          have hp6 := kp6 _ _ (fun xs z => by cases z) hp5
          obtain ⟨u2, hu2, hUW2⟩ := (O.fn.keep (kp5.trans kp6)) i hi
          have eu2 : valAt kvs (t, n, (i : Int)) = u2 := valAt_of (z := (t, n, (i : Int))) hu2
          refine ⟨look, _, rfl, F1, _, rfl, _, rfl, self, C, dx, fs, _, rfl, hp6, Y.cl, Y.n_name, hn', _, rfl, t, n, _, u2, _, rfl, lk6, by rw [List.length_append, List.length_cons]; simp; omega, by rw [Int.zero_add]; exact hu2, fun H7 b7 lk7 => ?_⟩
          rw [Int.zero_add] at lk7
          obtain ⟨as6, hn6⟩ := lk6.list
          have kp7 := Keep.but b7 hn6
          have hU7 := hUW2.keep kp7
          obtain ⟨d7, hd7, ly7, dp7, _, hsh7, kind7⟩ := hU7.dt (K := K)
          refine ⟨_, rfl, u2, d7, rfl, hd7, hsh7, fun H8 s8 => ⟨_, rfl, ?_⟩⟩
          have h8 := s8 _ _ (b7 _ _ (Ne.symm nnm) h6)
          have lk8 := lk7.same S.sl s8
          have b8 := ((b5.trans b6).trans b7).trans (But.of s8)
          have es : (t, k, (p : Int)) :: grpSeen (valAt kvs) (.int i0) t k n (List.range (i + 1)) = ((t, k, (p : Int)) :: grpSeen (valAt kvs) (.int i0) t k n (List.range i)) ++ [(t, k, (i : Int))] ++ [(t, n, (i : Int))] := by
            rw [seen_succ, if_pos e7]
            simp
          rcases kind7 with ⟨j, rfl, rfl⟩ | ⟨b, y, rfl, hz', rfl, hf⟩
          · refine iteF ⟨_, rfl, .inl ⟨rfl, _, SqL.of h8⟩, _, rfl, nm, _, _, rfl, rfl, h8, small1000 (by omega), ?_⟩
            refine ⟨_, _, rfl, fun b o nb e => ?_, ?_, ?_, nof_succ nf fun _ => by rw [eu2]; rfl⟩
            · rw [upd_ne (ne_of_none e hnmH)]
              exact b8 b o nb e
            · rw [es]
              exact lk8.keep S.sl (Keep.lst h8) fun xs e => by rw [upd_ne nnm]; exact e
            · rw [acc_succ, if_pos e7, eu2]
              exact upd_same
          · rw [hf]
            refine iteT ⟨_, rfl, sl, fun a' ha' => ?_⟩
            have s9 := Same.new (o := .tup [.str ("value" : Str), .ref b]) ha'
            have et := grp_at (val := valAt kvs) (own := .int i0) (t := t) (k := k) (n := n) hi nf e7 (by rw [eu2]; rfl)
            rw [et, eu2] at q
            refine q _ _ (b8.trans (But.of s9)) ?_ ⟨a', rfl, upd_same⟩
            have lk9 := lk8.same S.sl s9
            rw [show (t, k, (p : Int)) :: (grpSeen (valAt kvs) (.int i0) t k n (List.range i) ++ [(t, k, (i : Int)), (t, n, (i : Int))]) = ((t, k, (p : Int)) :: grpSeen (valAt kvs) (.int i0) t k n (List.range i)) ++ [(t, k, (i : Int))] ++ [(t, n, (i : Int))] by simp]
            exact lk9
        · have g' : ¬ valAt kvs (t, k, (i : Int)) = .int i0 := fun z => g (by rw [← eu, z]; simp)
          refine ⟨_, _, rfl, b5.trans b6, ?_, ?_, nof_succ nf fun z => absurd z g'⟩
          · rw [seen_succ, if_neg g']
            exact lk6
          · rw [acc_succ, if_neg g', List.append_nil]
            exact h6
      · rintro σ H5 ⟨o8, o9, rfl, b5, lk5, h5, nf⟩
        refine ⟨_, rfl, sl, fun a' ha' => ?_⟩
        have s9 := Same.new (o := .tup [.str ("call" : Str), .ref nm]) ha'
        rw [grp_end nf] at q
        exact q _ _ (b5.trans (But.of s9)) (lk5.same S.sl s9) ⟨a', nm, rfl, upd_same, s9 _ _ h5, hnmH⟩
    · rw [hf]
      have eg : gatGroup kvs rows (k, n) t c p = ([(t, k, (p : Int))], .val (.ref a)) := by
        unfold gatGroup
        rw [show valAt kvs (t, (k, n).1, (p : Int)) = .ref a from ev, show isRef (.ref a) = true from rfl, if_pos rfl]
      rw [eg] at q
      refine iteT ⟨_, rfl, sl, fun a' ha' => ?_⟩
      have s9 := Same.new (o := .tup [.str ("value" : Str), .ref a]) ha'
      exact q _ _ (b3.trans (But.of s9)) (lk3.same S.sl s9) ⟨a', rfl, upd_same⟩
end
end My

namespace My
open PySem L2
/-! ### rows looked up -/
def lkGo (kvs : List (List Key × V)) (own pl : V) (o th : Str) (zs : List Str) : List Nat → List Spot3 × Res
  | [] => ([], .val pl)
  | r :: rs => if valAt kvs (o, th, (r : Int)) = own then ((o, th, (r : Int)) :: (turnOf kvs (rowOf o r zs)).1, (turnOf kvs (rowOf o r zs)).2)
    else ((o, th, (r : Int)) :: (lkGo kvs own pl o th zs rs).1, (lkGo kvs own pl o th zs rs).2)
def thRow (o th : Str) (rs : List Nat) : List Spot3 := rs.map fun (r : Nat) => (o, th, (r : Int))
section
variable {kvs : List (List Key × V)} {own pl : V} {o th : Str} {zs : List Str}
theorem lkGo_cons {r : Nat} {rs : List Nat} : lkGo kvs own pl o th zs (r :: rs) = if valAt kvs (o, th, (r : Int)) = own then ((o, th, (r : Int)) :: (turnOf kvs (rowOf o r zs)).1, (turnOf kvs (rowOf o r zs)).2)
    else ((o, th, (r : Int)) :: (lkGo kvs own pl o th zs rs).1, (lkGo kvs own pl o th zs rs).2) := rfl
theorem lk_app : ∀ {xs ys : List Nat}, (∀ r ∈ xs, ¬ valAt kvs (o, th, (r : Int)) = own) → lkGo kvs own pl o th zs (xs ++ ys) = (thRow o th xs ++ (lkGo kvs own pl o th zs ys).1, (lkGo kvs own pl o th zs ys).2)
  | [], ys, _ => by simp [thRow]
  | x :: xs, ys, h => by
    rw [List.cons_append, lkGo_cons, if_neg (h x List.mem_cons_self), lk_app fun r hr => h r (List.mem_cons_of_mem _ hr)]
    simp [thRow]
theorem lk_end {rs : List Nat} (h : ∀ r ∈ rs, ¬ valAt kvs (o, th, (r : Int)) = own) : lkGo kvs own pl o th zs rs = (thRow o th rs, .val pl) := by
  have := lk_app (pl := pl) (zs := zs) (xs := rs) (ys := []) h
  rw [List.append_nil] at this
  rw [this]
  simp [lkGo]
theorem lk_at {m i : Nat} (hi : i < m) (h : ∀ r ∈ List.range i, ¬ valAt kvs (o, th, (r : Int)) = own) (e : valAt kvs (o, th, (i : Int)) = own) :
    lkGo kvs own pl o th zs (List.range m) = (thRow o th (List.range (i + 1)) ++ (turnOf kvs (rowOf o i zs)).1, (turnOf kvs (rowOf o i zs)).2) := by
  have e1 : List.range m = List.range i ++ (i :: (List.range m).drop (i + 1)) := by
    have h1 : (List.range m).drop i = (List.range m)[i]'(by simpa using hi) :: (List.range m).drop (i + 1) := List.drop_eq_getElem_cons (by simpa using hi)
    have h2 : (List.range m).take i = List.range i := by rw [List.take_range]; congr 1; omega
    rw [List.getElem_range] at h1
    conv => lhs; rw [← List.take_append_drop i (List.range m), h1, h2]
  have := lk_app (pl := pl) (zs := zs) (xs := List.range i) (ys := i :: (List.range m).drop (i + 1)) h
  rw [← e1] at this
  rw [this, lkGo_cons, if_pos e]
  unfold thRow
  rw [List.range_succ, List.map_append]
  simp
theorem lk_sub : ∀ {rs : List Nat}, (∀ z ∈ (lkGo kvs own pl o th zs rs).1, z.1 = o ∧ (z.2.1 = th ∨ z.2.1 ∈ zs)) ∧ (lkGo kvs own pl o th zs rs).1.length ≤ rs.length + zs.length
  | [] => ⟨(fun z hz => by cases hz), (by simp [lkGo])⟩
  | r :: rs => by
    have ih := lk_sub (rs := rs)
    have ts := turn_sub (kvs := kvs) (zs := rowOf o r zs)
    have hl : (rowOf o r zs).length = zs.length := by unfold rowOf; rw [List.length_map]
    rw [lkGo_cons]
    split
    · refine ⟨fun z hz => ?_, by simp only [List.length_cons]; have := ts.2; omega⟩
      rcases List.mem_cons.mp hz with rfl | hz
      · exact ⟨rfl, .inl rfl⟩
      · obtain ⟨u, hu, rfl⟩ := List.mem_map.mp (ts.1 z hz)
        exact ⟨rfl, .inr hu⟩
    · refine ⟨fun z hz => ?_, by simp only [List.length_cons]; have := ih.2; omega⟩
      rcases List.mem_cons.mp hz with rfl | hz
      · exact ⟨rfl, .inl rfl⟩
      · exact ih.1 z hz
end
section
variable {P : Program} {w : World} {K : PySem.W.Frag} {mg : Str → Option Value} {base : Heap}
/-- a Lookup's own: key, table, column there, names -/
abbrev LkR := Str × Str × Str × List Str
def LkAt4 (C : Addr) (H : Hp) (p : Addr) (r : LkR) : Prop := LkAt C H p r.1 r.2.1 r.2.2.1 r.2.2.2
def gatLookup (pl : V) (kvs : List (List Key × V)) (rows : List (Key × V)) (r : LkR) (t _ : Str) (p : Nat) : List Spot3 × Res :=
  if isRef (valAt kvs (t, r.1, (p : Int))) then ([(t, r.1, (p : Int))], .val (valAt kvs (t, r.1, (p : Int))))
  else ((t, r.1, (p : Int)) :: (lkGo kvs (valAt kvs (t, r.1, (p : Int))) pl r.2.1 r.2.2.1 r.2.2.2 (List.range (manyOf rows r.2.1))).1, (lkGo kvs (valAt kvs (t, r.1, (p : Int))) pl r.2.1 r.2.2.1 r.2.2.2 (List.range (manyOf rows r.2.1))).2)
structure OkL (H : Hp) (kvs : List (List Key × V)) (rows : List (Key × V)) (k o th : Str) (zs : List Str) (t : Str) (p m : Nat) : Prop where
  own : ∃ v, valV kvs [.inr t, .inr k, .inl (p : Int)] = some v ∧ WV H v
  v : valV rows (.inr o) = some (.int (m : Int))
  l : m ≤ 30
  ft : Filled kvs H o th m
  fz : ∀ z ∈ zs, Filled kvs H o z m
  z6 : zs.length ≤ 6
theorem OkL.keepC {H H' : Hp} {kvs : List (List Key × V)} {rows : List (Key × V)} {k o th : Str} {zs : List Str} {t : Str} {p m : Nat} (s : KeepC H H') (h : OkL H kvs rows k o th zs t p m) : OkL H' kvs rows k o th zs t p m :=
  ⟨let ⟨v, e, q⟩ := h.own; ⟨v, e, q.keepC s⟩, h.v, h.l, h.ft.keepC s, fun z hz => (h.fz z hz).keepC s, h.z6⟩
theorem OkL.there {H : Hp} {kvs : List (List Key × V)} {rows : List (Key × V)} {k o th : Str} {zs : List Str} {t : Str} {p m i : Nat} (h : OkL H kvs rows k o th zs t p m) (hi : i < m) : There kvs H (rowOf o i zs) := fun z hz => by
  obtain ⟨u, hu, rfl⟩ := List.mem_map.mp hz
  exact h.fz u hu i hi
def okLookup (H : Hp) (kvs : List (List Key × V)) (rows : List (Key × V)) (r : LkR) (t _ : Str) (p : Nat) : Prop := ∃ m, OkL H kvs rows r.1 r.2.1 r.2.2.1 r.2.2.2 t p m
abbrev Nlg : List Str := ["self", "look", "many", "table", "column", "place", "own", "row"]
theorem sc_Lookup_gather : FnScope Nlg ["self", "look", "many", "table", "column", "place"] (defScope s_Lookup_gather) := ⟨rfl, rfl, rfl, by decide +kernel, rfl, by decide +kernel, by decide +kernel⟩
theorem k_Lookup_gather (T : Tops K mg) {C pl : Addr} (Y : TLookup K mg C) (hpl : mg "LACKS" = some (.ref pl)) : KnownM P w K mg base CX0 4 C "gather" ["self", "look", "many", "table", "column", "place"] (spGat P w K mg base (LkAt4 C) (gatLookup (.ref pl)) okLookup) := by
  have G_is_fault : Known P w K mg base CX0 2 "is_fault" ["thing"] (spFault K) := k_is_fault T
  have G_look_in_turn : Known P w K mg base CX0 3 "look_in_turn" ["look", "cells"] (spTurn P w K mg base) := k_look_in_turn T
  refine Y.m_gather.known sc_Lookup_gather (fun _ _ _ _ _ _ us hl => match us, hl with | [_, _, _, _, _, _], _ => rfl) (fun vs H Q E h => ?_) (fun f cdv A outer s H vs Q E hr h => ?_)
  · obtain ⟨self, look, many, nl, wd, rd, t, c, p, LP, LM, kvs, rows, rl, rfl, _⟩ := h
    rfl
  · obtain ⟨self, look, many, nl, wd, rd, t, c, p, LP, LM, kvs, rows, ⟨k, o, th, zs⟩, rfl, ⟨dx, fs, rz, hp, hk, ho, hth, hnm, _, hrz, _⟩, hst, ⟨m, O⟩, F1, F2, S, q⟩ := h
    have hcl : ∀ x, (cxOf CX0 P w K mg base Nlg "Lookup.gather" (defScope s_Lookup_gather) f cdv A outer s H E).nox.env.scope.names.lookup x = some .cell → ∃ c, (cxOf CX0 P w K mg base Nlg "Lookup.gather" (defScope s_Lookup_gather) f cdv A outer s H E).nox.env.cells.lookup x = some c := fun x hx => Option.isSome_iff_exists.mp (PySem.W.cellsFrom_some _ _ _ (.inl hx))
    refine ⟨_, (pss_cons (ps_set (i := 6) sc_Lookup_gather.nd rfl (by first | exact Or.inl rfl | exact Or.inr rfl) (pe_callV (k := 2) 1 (hr.mono (by decide)) (pa_cons (pv 3) (pa_cons (pe_fld (pv 0) rfl) (pa_cons (pv 5) pa_nil)))))
      (pss_cons (ps_if (pt_val (pe_callN G_is_fault (hr.mono (by decide)) pass0 (pa_cons (pv 6) pa_nil)) (fun _ => rfl)) (pss_one (ps_ret (pe_tup (pa_cons pe_str (pa_cons (pv 6) pa_nil))))) pss_nil)
      (pss_cons (ps_for PassesOwn.never rfl (pi_range1 rfl T.range (pa_cons (pe_callV (k := 2) 2 (hr.mono (by decide)) (pa_cons (pe_fld (pv 0) rfl) pa_nil)) pa_nil)) (pg_name (i := 7) sc_Lookup_gather.nd rfl (by first | exact Or.inl rfl | exact Or.inr rfl)) (pss_one (ps_if (pt_cmpR (op_eqD hr.units) (pe_callV (k := 2) 1 (hr.mono (by decide)) (pa_cons (pe_fld (pv 0) rfl) (pa_cons (pe_fld (pv 0) rfl) (pa_cons (pv 7) pa_nil)))) (pv 6) (nomark _)) (pss_one (ps_ret (pe_callN G_look_in_turn (hr.mono (by decide)) pass0 (pa_cons (pv 1) (pa_cons (pe_comp (te := tTup (tCons (tFld K (tVar 2) "other") (tCons (tVar 0) (tCons (tVar 1) tNil)))) (caps_of (sc := defScope s_Lookup_gather) (N := Nlg) (cp := [(7, "row"), (0, "self")]) hcl) rfl rfl (by decide) (pi_list (pe_fld (pv 0) rfl)) (fun _ _ _ _ _ => pts_nil) (fun _ _ _ _ _ => (pe_tup (pa_cons (pe_fld (pv 2) rfl) (pa_cons (pv 0) (pa_cons (pv 1) pa_nil)))))) pa_nil))))) pss_nil)))
      (pss_one (ps_ret (pe_tup (pa_cons pe_str (pa_cons (pe_gR hpl) pa_nil)))))))), ?_⟩
    obtain ⟨as0, hn0⟩ := S.lk.list
    have hk' : fs.lookup ("key" : Str) = some (.str k) := hk
    have ho' : fs.lookup ("other" : Str) = some (.str o) := ho
    have hth' : fs.lookup ("theirs" : Str) = some (.str th) := hth
    have hrz' : H rz = some (.lst (zs.map V.str)) := hrz
    have O' : OkL H kvs rows k o th zs t p m := O
    obtain ⟨v, hv, hW⟩ := O'.own
    have ev : valAt kvs (t, k, (p : Int)) = v := valAt_of (z := (t, k, (p : Int))) hv
    refine ⟨look, _, rfl, F1, _, rfl, _, rfl, self, C, dx, fs, _, rfl, hp, Y.cl, Y.n_key, hk', _, rfl, t, k, (p : Int), v, [], rfl, S.lk, by decide, hv, fun H2 b2 lk2 => ?_⟩
    have hW2 := hW.keep (Keep.but b2 hn0)
    obtain ⟨d, hd, ly, dp, _, hsh, kind⟩ := hW2.dt (K := K)
    refine ⟨_, rfl, v, d, rfl, hd, hsh, fun H3 s3 => ⟨_, rfl, ?_⟩⟩
    have lk3 := lk2.same S.sl s3
    have b3 := b2.trans (But.of s3)
    rcases kind with ⟨i0, rfl, rfl⟩ | ⟨a, z, rfl, hz, rfl, hf⟩
    · refine iteF ?_
      have eg : gatLookup (.ref pl) kvs rows (k, o, th, zs) t c p = ((t, k, (p : Int)) :: (lkGo kvs (.int i0) (.ref pl) o th zs (List.range m)).1, (lkGo kvs (.int i0) (.ref pl) o th zs (List.range m)).2) := by
        unfold gatLookup
        rw [show valAt kvs (t, (k, o, th, zs).1, (p : Int)) = .int i0 from ev, show isRef (.int i0) = false from rfl, if_neg Bool.false_ne_true, show manyOf rows (k, o, th, zs).2.1 = m from manyOf_of O'.v]
      rw [eg] at q
      have kp3 := Keep.but b3 hn0
      have hp3 := kp3 _ _ (fun xs z => by cases z) hp
      have hr3 := kp3 _ _ (fun xs z => by cases z) S.r
      refine ⟨many, _, rfl, F2, _, rfl, self, C, dx, fs, _, rfl, hp3, Y.cl, Y.n_other, ho', o, _, rfl, S.sm _ _ kp3 S.m, hr3, O'.v, _, rfl, by have := O'.l; omega, by have := O'.l; omega, ?_⟩
      rw [Int.toNat_natCast]
      refine for_range (lo := 0) (n := m) (fun i σ H5 => ∃ o7, σ = [some (.ref self), some (.ref look), some (.ref many), some (.str t), some (.str c), some (.int (p : Int)), some (.int i0), o7] ∧ But nl H H5 ∧ LkS LP nl wd kvs ((t, k, (p : Int)) :: thRow o th (List.range i)) H5 ∧ ∀ r ∈ List.range i, ¬ valAt kvs (o, th, (r : Int)) = .int i0)
        ⟨_, rfl, b3, lk3, fun r hr' => by simp at hr'⟩ ?_ ?_
      · rintro i σ H5 hi ⟨o7, rfl, b5, lk5, nf⟩
        rw [Int.zero_add]
        have kp5 := Keep.but b5 hn0
        have hp5 := kp5 _ _ (fun xs z => by cases z) hp
        have hm30 := O'.l
        have hz6 := O'.z6
        obtain ⟨u, hu, hUW⟩ := (O'.ft.keep kp5) i hi
        have eu : valAt kvs (o, th, (i : Int)) = u := valAt_of (z := (o, th, (i : Int))) hu
        have tl1 : (thRow o th (List.range i)).length = i := by unfold thRow; rw [List.length_map, List.length_range]
        have tsu : thRow o th (List.range (i + 1)) = thRow o th (List.range i) ++ [(o, th, (i : Int))] := by unfold thRow; rw [List.range_succ, List.map_append]; rfl
        refine ⟨look, _, rfl, F1, _, rfl, self, C, dx, fs, _, rfl, hp5, Y.cl, Y.n_other, ho', _, rfl, self, C, dx, fs, _, rfl, hp5, Y.cl, Y.n_theirs, hth', _, rfl, o, th, _, u, _, rfl, lk5, by rw [List.length_cons, tl1]; omega, hu, fun H6 b6 lk6 => ?_⟩
        obtain ⟨as5, hn5⟩ := lk5.list
        have kp6 := Keep.but b6 hn5
        have hU6 := hUW.keep kp6
        obtain ⟨d6, hd6, ly6, dp6, ee⟩ := eqv_own (K := K) (i := i0) hU6
        refine ⟨_, rfl, d6, .int i0, hd6, .int i0, ly6, rfl, dp6, _, rfl, ?_⟩
        rw [ee]
        have b56 := b5.trans b6
        have lk6' : LkS LP nl wd kvs ((t, k, (p : Int)) :: thRow o th (List.range (i + 1))) H6 := by rw [tsu]; exact lk6
        refine ite2 (fun g => ?_) (fun g => ?_)
        · have g' : u = .int i0 := by simpa using g
          have e7 : valAt kvs (o, th, (i : Int)) = .int i0 := eu.trans g'
          have hp6 := kp6 _ _ (fun xs z => by cases z) hp5
          obtain ⟨dx6, fs6, rz6, hp6', _, _, _, hnm6, _, hrz6, _⟩ := hst H6 b56
          have hrz6' : H6 rz6 = some (.lst (zs.map V.str)) := hrz6
          refine ⟨_, rfl, _, rfl, self, C, dx6, fs6, _, rfl, hp6', Y.cl, Y.n_names, hnm6, rz6, rfl, ⟨_, SqL.of hrz6'⟩, fun D hD => ?_⟩
          refine comp_spots3 (t := o) (p := (i : Int)) (zs := zs) hD hrz6' (by omega) (fun z H7 q7 s7 k7 => ⟨_, rfl, self, C, dx, fs, _, rfl, s7 _ _ hp6, Y.cl, Y.n_other, ho', _, rfl, _, rfl, sl, fun tp htp => k7 tp htp⟩) (fun ys H7 h7 s7 hy => ?_)
          obtain ⟨as6, hn6⟩ := lk6.list
          have hrl : (rowOf o i zs).length ≤ 6 := by unfold rowOf; rw [List.length_map]; exact hz6
          have tl2 : (thRow o th (List.range (i + 1))).length = i + 1 := by unfold thRow; rw [List.length_map, List.length_range]
          refine ⟨look, D, nl, wd, LP, kvs, ys, rowOf o i zs, (t, k, (p : Int)) :: thRow o th (List.range (i + 1)), rfl, F1, S.sl, lk6'.same S.sl s7, h7, Ne.symm (ne_of_none hn6 hD), hy, (O'.there hi).keep ((kp5.trans kp6).trans (Keep.of s7)), ?_, fun H8 fv b8 lk8 fo8 => ?_⟩
          · rw [List.length_cons, tl2]; omega
          · have et := lk_at (kvs := kvs) (own := .int i0) (pl := .ref pl) (o := o) (th := th) (zs := zs) hi nf e7
            rw [et] at q
            refine q H8 fv (b56.trans ((But.of s7).trans b8)) lk8 ?_
            have noH : ∀ l, H7 l = none → H l = none := fun l e => by
              cases e2 : H l with
              | none => rfl
              | some ob =>
                exfalso
                by_cases y : l = nl
                · rw [y, s7 _ _ hn6] at e; cases e
                · rw [s7 _ _ (b56 l ob y e2)] at e; cases e
            cases e8 : (turnOf kvs (rowOf o i zs)).2 with
            | val v8 => rw [e8] at fo8; exact fo8
            | call xs =>
              rw [e8] at fo8
              obtain ⟨a1, l1, g1, g2, g3, g4⟩ := fo8
              exact ⟨a1, l1, g1, g2, g3, noH l1 g4⟩
        · have g' : ¬ valAt kvs (o, th, (i : Int)) = .int i0 := fun z => g (by rw [← eu, z]; simp)
          refine ⟨_, rfl, b56, lk6', fun r hr' => ?_⟩
          rw [List.range_succ] at hr'
          rcases List.mem_append.mp hr' with hr' | hr'
          · exact nf r hr'
          · rw [List.mem_singleton.mp hr']; exact g'
      · rintro σ H5 ⟨o7, rfl, b5, lk5, nf⟩
        refine ⟨sl, fun a' ha' => ?_⟩
        have s9 := Same.new (o := .tup [.str ("value" : Str), .ref pl]) ha'
        rw [lk_end nf] at q
        exact q _ _ (b5.trans (But.of s9)) (lk5.same S.sl s9) ⟨a', rfl, upd_same⟩
    · rw [hf]
      have eg : gatLookup (.ref pl) kvs rows (k, o, th, zs) t c p = ([(t, k, (p : Int))], .val (.ref a)) := by
        unfold gatLookup
        rw [show valAt kvs (t, (k, o, th, zs).1, (p : Int)) = .ref a from ev, show isRef (.ref a) = true from rfl, if_pos rfl]
      rw [eg] at q
      refine iteT ⟨_, rfl, sl, fun a' ha' => ?_⟩
      have s9 := Same.new (o := .tup [.str ("value" : Str), .ref a]) ha'
      exact q _ _ (b3.trans (But.of s9)) (lk3.same S.sl s9) ⟨a', rfl, upd_same⟩
end
end My

namespace My
open PySem L2
section
variable {P : Program} {w : World} {K : PySem.W.Frag} {mg : Str → Option Value} {base : Heap}
def atMend (C : Addr) (H : Hp) (p : Addr) (n : Str) : Prop := ∃ dx fs, H p = some (.ins C dx fs) ∧ fs.lookup ("name" : Str) = some (.str n) ∧ fs.lookup ("gather" : Str) = none
def mendRes (v : V) : Res := if isRef v then .call [] else .val v
def gatMend (kvs : List (List Key × V)) (_ : List (Key × V)) (n : Str) (t _ : Str) (p : Nat) : List Spot3 × Res := ([(t, n, (p : Int))], mendRes ((valV kvs [.inr t, .inr n, .inl (p : Int)]).getD .non))
def okMend (H : Hp) (kvs : List (List Key × V)) (_ : List (Key × V)) (n : Str) (t _ : Str) (p : Nat) : Prop := ∃ v, valV kvs [.inr t, .inr n, .inl (p : Int)] = some v ∧ WV H v
abbrev Nmg : List Str := ["self", "look", "many", "table", "column", "place", "value"]
theorem sc_Mend_gather : FnScope Nmg ["self", "look", "many", "table", "column", "place"] (defScope s_Mend_gather) := ⟨rfl, rfl, rfl, by decide +kernel, rfl, by decide +kernel, by decide +kernel⟩
theorem k_Mend_gather (T : Tops K mg) {C : Addr} (Y : TMend K mg C) : KnownM P w K mg base CX0 3 C "gather" ["self", "look", "many", "table", "column", "place"] (spGat P w K mg base (atMend C) gatMend okMend) := by
  have G_is_fault : Known P w K mg base CX0 2 "is_fault" ["thing"] (spFault K) := k_is_fault T
  refine Y.m_gather.known sc_Mend_gather (fun _ _ _ _ _ _ us hl => match us, hl with | [_, _, _, _, _, _], _ => rfl) (fun vs H Q E h => ?_) (fun f cdv A outer s H vs Q E hr h => ?_)
  · obtain ⟨self, look, many, nl, wd, rd, t, c, p, LP, LM, kvs, rows, rl, rfl, _⟩ := h
    rfl
  · obtain ⟨self, look, many, nl, wd, rd, t, c, p, LP, LM, kvs, rows, n, rfl, ⟨dx, fs, hp, hn, _⟩, _, ⟨v, hv, hW⟩, F1, F2, S, q⟩ := h
    refine ⟨_, (pss_cons (ps_set (i := 6) sc_Mend_gather.nd rfl (Or.inl rfl) (pe_callV 1 hr (pa_cons (pv 3) (pa_cons (pe_fld (pv 0) rfl) (pa_cons (pv 5) pa_nil)))))
      (pss_cons (ps_if (pt_val (pe_callN G_is_fault (hr.mono (by decide)) pass0 (pa_cons (pv 6) pa_nil)) (fun _ => rfl)) (pss_one (ps_ret (pe_tup (pa_cons pe_str (pa_cons (pe_lst pa_nil) pa_nil))))) pss_nil)
      (pss_one (ps_ret (pe_tup (pa_cons pe_str (pa_cons (pv 6) pa_nil))))))), ?_⟩
    obtain ⟨as0, hn0⟩ := S.lk.list
    refine ⟨look, _, rfl, F1, _, rfl, _, rfl, self, C, dx, fs, _, rfl, hp, Y.cl, Y.n_name, hn, _, rfl, t, n, (p : Int), v, [], rfl, S.lk, by decide, hv, fun H2 b2 lk2 => ?_⟩
    have hW2 := hW.keep (Keep.but b2 hn0)
    have eg : gatMend kvs rows n t c p = ([(t, n, (p : Int))], mendRes v) := by unfold gatMend; rw [hv]; rfl
    rw [eg] at q
    obtain ⟨d, hd, ly, dp, ev, hsh, kind⟩ := hW2.dt (K := K)
    refine ⟨_, rfl, v, d, rfl, hd, hsh, fun H3 s3 => ⟨_, rfl, ?_⟩⟩
    have noH : ∀ l, H3 l = none → H l = none := fun l e => by
      cases e2 : H l with
      | none => rfl
      | some o =>
        exfalso
        by_cases y : l = nl
        · obtain ⟨as2, e3⟩ := lk2.list
          rw [y, s3 _ _ e3] at e; cases e
        · rw [s3 _ _ (b2 l o y e2)] at e; cases e
    rcases kind with ⟨i, rfl, rfl⟩ | ⟨a, z, rfl, hz, rfl, hf⟩
    · refine iteF ⟨_, rfl, sl, fun a ha => ?_⟩
      have s4 := Same.new (o := .tup [.str ("value" : Str), .int i]) ha
      exact q _ _ (b2.trans (But.of (s3.trans s4))) (lk2.same S.sl (s3.trans s4)) ⟨a, rfl, upd_same⟩
    · rw [hf]
      refine iteT ⟨sl, fun l hl => ⟨sl, fun a' ha => ?_⟩⟩
      have s4 := Same.new (o := .lst []) hl
      have s5 := Same.new (o := .tup [.str ("call" : Str), .ref l]) ha
      exact q _ _ (b2.trans (But.of (s3.trans (s4.trans s5)))) (lk2.same S.sl (s3.trans (s4.trans s5))) ⟨a', l, rfl, upd_same, s5 _ _ upd_same, noH l hl⟩
end
end My

namespace My.L
open PySem L2
/-- all stays but the instance at p -/
def But (p : Addr) (H H' : Hp) : Prop := ∀ b o, b ≠ p → H b = some o → H' b = some o
theorem But.of {p : Addr} {H H' : Hp} (s : Same H H') : But p H H' := fun b o _ e => s b o e
theorem But.trans {p : Addr} {H H1 H2 : Hp} (a : But p H H1) (b : But p H1 H2) : But p H H2 := fun c o n e => b c o n (a c o n e)
theorem But.upd {p : Addr} {H : Hp} {o : HO} : But p H (upd H p o) := fun b u n e => by rw [upd_ne n]; exact e
theorem spot_inv {K : PySem.W.Frag} {H : Hp} {v : V} {p : Str × Str} (h : Dt K H v (spD p)) : ∃ a, v = .ref a ∧ SqT K H a [.str p.1, .str p.2] := by
  cases h with
  | @tup a xs _ hq hall =>
    cases hall with
    | cons h1 t1 =>
      cases t1 with
      | cons h2 t2 =>
        cases t2
        cases h1
        cases h2
        exact ⟨a, rfl, hq⟩
theorem spot_mk {K : PySem.W.Frag} {H : Hp} {a : Addr} {p : Str × Str} (h : SqT K H a [.str p.1, .str p.2]) : Dt K H (.ref a) (spD p) := .tup h (.cons (.str _) (.cons (.str _) .nil))
theorem sqT_upd {K : PySem.W.Frag} {H : Hp} {a D : Addr} {xs ys : List V} {o : HO} (hD : H D = some (.lst ys)) (h : SqT K H a xs) : SqT K (upd H D o) a xs := by
  rcases h with (h | ⟨o', h⟩) | h
  · exact .inl (.inl (by rw [upd_ne (ne_of h hD (fun z => by cases z))]; exact h))
  · exact .inl (.inr ⟨o', by rw [upd_ne (ne_of h hD (fun z => by cases z))]; exact h⟩)
  · exact .inr h
theorem spots_upd {K : PySem.W.Frag} {H : Hp} {D : Addr} {ys : List V} {o : HO} (hD : H D = some (.lst ys)) : ∀ {xs : List V} {ps : List (Str × Str)}, DtAll K H xs (ps.map spD) → DtAll K (upd H D o) xs (ps.map spD)
  | [], [], _ => .nil
  | _ :: _, p :: ps, .cons h t => by
    obtain ⟨a, rfl, hq⟩ := spot_inv h
    exact .cons (spot_mk (sqT_upd hD hq)) (spots_upd hD t)
section
variable {P : Program} {w : World} {K : PySem.W.Frag} {mg : Str → Option Value} {base : Heap}
def spRuleI (K : PySem.W.Frag) : Sp := fun vs H Q _ => ∃ (p C dx : Addr) (fs : List (Str × V)) (v : V), vs = [.ref p, v] ∧ H p = some (.ins C dx fs) ∧ Cls K C ∧ NoAttr K C "function" ∧ fs.length < 1000 ∧ Q .non (upd H p (.ins C dx (putF "function" v fs)))
theorem sc_Rule_init : FnScope ["self", "function"] ["self", "function"] (defScope s_Rule_init) := ⟨rfl, rfl, rfl, by decide +kernel, rfl, by decide +kernel, by decide +kernel⟩
theorem k_Rule_init (T : Tops K mg) {C : Addr} (Y : TRule K mg C) : KnownM P w K mg base CX0 1 C "__init__" ["self", "function"] (spRuleI K) := by
  refine Y.m_init.known sc_Rule_init (fun _ _ _ _ _ _ us hl => match us, hl with | [_, _], _ => rfl) (fun vs H Q E h => ?_) (fun f cdv A outer s H vs Q E hr h => ?_)
  · obtain ⟨p, C', dx, fs, v, rfl, _⟩ := h
    rfl
  · obtain ⟨p, C', dx, fs, v, rfl, hp, hC, hN, hl, q⟩ := h
    refine ⟨_, (pss_one (ps_fld (pv 0) (pv 1) rfl)), ?_⟩
    exact ⟨_, rfl, _, rfl, p, C', dx, fs, rfl, hp, hC, hN, hl, q⟩
/-- an instance with a list of names -/
def NmAt (C : Addr) (H : Hp) (p : Addr) (zs : List Str) : Prop := ∃ dx fs r, H p = some (.ins C dx fs) ∧ fs.lookup ("names" : Str) = some (.ref r) ∧ fs.lookup ("leans" : Str) = none ∧ H r = some (.lst (zs.map V.str)) ∧ ∀ z ∈ zs, Nl z
/-- the same, its list new over G -/
def NmNew (G : Hp) (C : Addr) (H : Hp) (p : Addr) (zs : List Str) : Prop := ∃ dx fs r, H p = some (.ins C dx fs) ∧ fs.lookup ("names" : Str) = some (.ref r) ∧ fs.lookup ("leans" : Str) = none ∧ H r = some (.lst (zs.map V.str)) ∧ (∀ z ∈ zs, Nl z) ∧ G r = none
theorem NmNew.at {G : Hp} {C : Addr} {H : Hp} {p : Addr} {zs : List Str} {e : Addr} {o u : HO} (h : NmNew G C H p zs) (hp : G p = none) (he : G e = some u) : NmAt C (upd H e o) p zs := by
  obtain ⟨dx, fs, r, h1, h2, h3, h4, h5, h6⟩ := h
  exact ⟨dx, fs, r, by rw [upd_ne (ne_of_none he hp).symm]; exact h1, h2, h3, by rw [upd_ne (ne_of_none he h6).symm]; exact h4, h5⟩
theorem But.none {p l : Addr} {H H' : Hp} (b : But p H H') (n : l ≠ p) (h : H' l = none) : H l = none := by
  cases e : H l with
  | none => rfl
  | some u => rw [b l u n e] at h; cases h
def spCellsI (K : PySem.W.Frag) (C : Addr) : Sp := fun vs H Q _ => ∃ (p dx a : Addr) (v : V) (zs : List Str), vs = [.ref p, .ref a, v] ∧ H p = some (.ins C dx []) ∧ SqL K H a (zs.map V.str) ∧ zs.length ≤ 6 ∧ (∀ z ∈ zs, Nl z) ∧ ∀ H', But p H H' → NmNew H C H' p zs → Q .non H'
theorem sqL_but {K : PySem.W.Frag} {H H' : Hp} {p a : Addr} {xs : List V} (b : But p H H') (hp : ∃ C dx fs, H p = some (.ins C dx fs)) (h : SqL K H a xs) : SqL K H' a xs := by
  have na : ∀ u, H a = some u → (∀ C dx fs, u ≠ .ins C dx fs) → a ≠ p := fun u e n z => by
    obtain ⟨C, dx, fs, e'⟩ := hp
    rw [← z, e] at e'
    exact n _ _ _ (Option.some.inj e')
  rcases h with (h | ⟨o, h⟩) | h
  · exact .inl (.inl (b _ _ (na _ h (fun _ _ _ z => by cases z)) h))
  · exact .inl (.inr ⟨o, b _ _ (na _ h (fun _ _ _ z => by cases z)) h⟩)
  · exact .inr h
theorem sc_Cells_init : FnScope ["self", "names", "function"] ["self", "names", "function"] (defScope s_Cells_init) := ⟨rfl, rfl, rfl, by decide +kernel, rfl, by decide +kernel, by decide +kernel⟩
theorem k_Cells_init (T : Tops K mg) {R C : Addr} (Z : TRule K mg R) (Y : TCells K mg C) : KnownI P w K mg base CX0 4 C ["self", "names", "function"] (spCellsI K C) := by
  have G_init : KnownM P w K mg base CX0 1 R "__init__" ["self", "function"] (spRuleI K) := k_Rule_init T Z
  have G_checked_names : Known P w K mg base CX0 3 "checked_names" ["names"] (spCNames K) := k_checked_names T
  refine (Y.m_init.known sc_Cells_init (fun _ _ _ _ _ _ us hl => match us, hl with | [_, _, _], _ => rfl) (fun vs H Q E h => ?_) (fun f cdv A outer s H vs Q E hr h => ?_)).init Y.mks Y.kc
  · obtain ⟨p, dx, a, v, zs, rfl, _⟩ := h
    rfl
  · obtain ⟨p, dx, a, v, zs, rfl, hp, hq, h6, hz, q⟩ := h
    refine ⟨_, (pss_cons (ps_expr (pe_clsN (pe_gR Z.c) Z.v_init G_init (hr.mono (by decide)) pass0 (pa_cons (pv 0) (pa_cons (pv 2) pa_nil))))
      (pss_one (ps_fld (pv 0) (pe_callN G_checked_names (hr.mono (by decide)) pass0 (pa_cons (pv 1) pa_nil)) rfl))), ?_⟩
    have b1 : But p H (upd H p (.ins C dx (putF "function" v []))) := But.upd
    refine ⟨_, rfl, _, rfl, p, C, dx, [], v, rfl, hp, Y.cl, Y.n_function, by decide, ?_⟩
    refine ⟨_, rfl, a, zs, rfl, sqL_but b1 ⟨_, _, _, hp⟩ hq, h6, hz, fun H2 l s2 hl h2 => ?_⟩
    have nlp : l ≠ p := fun z => by rw [z, upd_same] at hl; cases hl
    refine ⟨_, rfl, p, C, dx, _, rfl, s2 _ _ upd_same, Y.cl, Y.n_names, (by show 1 < 1000; decide), ?_⟩
    refine q _ ((b1.trans (But.of s2)).trans But.upd) ⟨dx, _, l, upd_same, ?_, ?_, by rw [upd_ne nlp]; exact h2, hz, b1.none nlp hl⟩
    · rw [lookup_putF, if_pos rfl]
    · rw [lookup_putF, if_neg (by decide), lookup_putF, if_neg (by decide)]
      rfl
def spLeans (K : PySem.W.Frag) (C : Addr) : Sp := fun vs H Q _ => ∃ (p : Addr) (t : Str) (zs : List Str), vs = [.ref p, .str t] ∧ NmAt C H p zs ∧ zs.length ≤ 6 ∧ Nl t ∧
  ∀ H' l ys, Same H H' → H l = none → H' l = some (.lst ys) → Spots K H' ys (onceOf (zs.map fun z => (t, z))) → Q (.ref l) H'
theorem sc_Cells_leans : FnScope ["self", "table"] ["self", "table"] (defScope s_Cells_leans) := ⟨rfl, rfl, rfl, by decide +kernel, rfl, by decide +kernel, by decide +kernel⟩
theorem k_Cells_leans (T : Tops K mg) {C : Addr} (Y : TCells K mg C) : KnownM P w K mg base CX0 3 C "leans" ["self", "table"] (spLeans K C) := by
  have G_each_once : Known P w K mg base CX0 2 "each_once" ["spots"] (spOnce K) := k_each_once T
  refine Y.m_leans.known sc_Cells_leans (fun _ _ _ _ _ _ us hl => match us, hl with | [_, _], _ => rfl) (fun vs H Q E h => ?_) (fun f cdv A outer s H vs Q E hr h => ?_)
  · obtain ⟨p, t, zs, rfl, _⟩ := h
    rfl
  · obtain ⟨p, t, zs, rfl, ⟨dx, fs, r, h1, h2, h3, h4, h5⟩, h6, ht, q⟩ := h
    have hcl : ∀ x, (cxOf CX0 P w K mg base ["self", "table"] "Cells.leans" (defScope s_Cells_leans) f cdv A outer s H E).nox.env.scope.names.lookup x = some .cell → ∃ c, (cxOf CX0 P w K mg base ["self", "table"] "Cells.leans" (defScope s_Cells_leans) f cdv A outer s H E).nox.env.cells.lookup x = some c := fun x hx => Option.isSome_iff_exists.mp (PySem.W.cellsFrom_some _ _ _ (.inl hx))
    refine ⟨_, (pss_one (ps_ret (pe_callN G_each_once (hr.mono (by decide)) pass0 (pa_cons (pe_comp (caps_of (sc := defScope s_Cells_leans) (N := ["self", "table"]) (cp := [(1, "table")]) hcl) rfl rfl (by decide) (pi_list (pe_fld (pv 0) rfl)) (fun _ _ _ _ _ => pts_nil) (fun _ _ _ _ _ => (pe_tup (pa_cons (pv 1) (pa_cons (pv 0) pa_nil))))) pa_nil)))), ?_⟩
    refine ⟨_, rfl, p, C, dx, fs, _, rfl, h1, Y.cl, Y.n_names, h2, r, rfl, ⟨_, SqL.of h4⟩, fun D hD => ?_⟩
    refine comp_list (K := K) (a := r) (xs := zs.map V.str) (fun i ys H2 => Same H H2 ∧ DtAll K H2 ys (((zs.take i).map fun z => (t, z)).map spD)) ⟨Same.new hD, .nil⟩ (fun i ys H2 _ ⟨s2, _⟩ => SqL.of (s2 _ _ h4)) ?_ ?_
    · rintro i x ys H2 hx h2D ⟨s2, hd⟩
      rw [List.getElem?_map] at hx
      cases e : zs[i]? with
      | none => rw [e] at hx; cases hx
      | some z =>
        rw [e] at hx
        cases hx
        have hi : i < zs.length := (List.getElem?_eq_some_iff.mp e).1
        have hyl : ys.length ≤ 6 := by
          have := hd.length
          rw [List.length_map, List.length_map, List.length_take] at this
          omega
        refine ⟨_, rfl, _, rfl, sl, fun tp htp => ?_⟩
        have s3 : Same H2 (upd H2 tp (.tup [.str t, .str z])) := Same.new htp
        have h3D := s3 _ _ h2D
        refine ⟨h3D, small1000 (by omega), (s2.trans s3).on hD, ?_⟩
        have et : ((zs.take (i + 1)).map fun z => (t, z)).map spD = ((zs.take i).map fun z => (t, z)).map spD ++ [spD (t, z)] := by
          rw [List.take_add_one, e, List.map_append, List.map_append]
          rfl
        rw [et]
        refine DtAll.snoc (spots_upd h3D (DtAll.same s3 hd)) (spot_mk (p := (t, z)) (sqT_upd h3D (.inl (.inl upd_same))))
    · rintro ys H2 h2D ⟨s2, hd⟩
      rw [List.length_map, List.take_length] at hd
      refine ⟨D, ys, _, rfl, SqL.of h2D, ⟨hd, fun p' hp' => ?_⟩, by rw [List.length_map]; omega, fun H3 l ys' s3 hl h3 hs3 => ?_⟩
      · obtain ⟨z, hz, rfl⟩ := List.mem_map.mp hp'
        exact ⟨ht, h5 z hz⟩
      · have hl' : H l = none := by
          cases e : H l with
          | none => rfl
          | some u => rw [s2 _ _ e] at hl; cases hl
        exact q H3 l ys' (s2.trans s3) hl' h3 hs3
end
end My.L
namespace My.L
open PySem L2
section
variable {P : Program} {w : World} {K : PySem.W.Frag} {mg : Str → Option Value} {base : Heap}
def spAboveI (K : PySem.W.Frag) (C : Addr) : Sp := fun vs H Q _ => ∃ (p dx a : Addr) (i : Int) (v : V) (zs : List Str), vs = [.ref p, .int i, .ref a, v] ∧ numD (.int i) = true ∧ H p = some (.ins C dx []) ∧ SqL K H a (zs.map V.str) ∧ zs.length ≤ 6 ∧ (∀ z ∈ zs, Nl z) ∧ ∀ H', But p H H' → NmNew H C H' p zs → Q .non H'
theorem sc_Above_init : FnScope ["self", "first", "names", "function"] ["self", "first", "names", "function"] (defScope s_Above_init) := ⟨rfl, rfl, rfl, by decide +kernel, rfl, by decide +kernel, by decide +kernel⟩
theorem k_Above_init (T : Tops K mg) {R C : Addr} (Z : TRule K mg R) (Y : TAbove K mg C) : KnownI P w K mg base CX0 4 C ["self", "first", "names", "function"] (spAboveI K C) := by
  have G_init : KnownM P w K mg base CX0 1 R "__init__" ["self", "function"] (spRuleI K) := k_Rule_init T Z
  have G_checked_names : Known P w K mg base CX0 3 "checked_names" ["names"] (spCNames K) := k_checked_names T
  have G_is_number : Known P w K mg base CX0 2 "is_number" ["thing"] (spNumber K) := k_is_number T
  refine (Y.m_init.known sc_Above_init (fun _ _ _ _ _ _ us hl => match us, hl with | [_, _, _, _], _ => rfl) (fun vs H Q E h => ?_) (fun f cdv A outer s H vs Q E hr h => ?_)).init Y.mks Y.kc
  · obtain ⟨p, dx, a, i, v, zs, rfl, _⟩ := h
    rfl
  · obtain ⟨p, dx, a, i, v, zs, rfl, hi, hp, hq, h6, hz, q⟩ := h
    refine ⟨_, (pss_cons (ps_expr (pe_clsN (pe_gR Z.c) Z.v_init G_init (hr.mono (by decide)) pass0 (pa_cons (pv 0) (pa_cons (pv 3) pa_nil))))
      (pss_cons (ps_fld (pv 0) (pe_callN G_checked_names (hr.mono (by decide)) pass0 (pa_cons (pv 2) pa_nil)) rfl)
      (pss_cons (ps_if (pt_not (pt_val (pe_callN G_is_number (hr.mono (by decide)) pass0 (pa_cons (pv 1) pa_nil)) (fun _ => rfl))) (pss_one ps_dead) pss_nil)
      (pss_one (ps_fld (pv 0) (pv 1) rfl))))), ?_⟩
    have b1 : But p H (upd H p (.ins C dx (putF "function" v []))) := But.upd
    refine ⟨_, rfl, _, rfl, p, C, dx, [], v, rfl, hp, Y.cl, Y.n_function, by decide, ?_⟩
    refine ⟨_, rfl, a, zs, rfl, sqL_but b1 ⟨_, _, _, hp⟩ hq, h6, hz, fun H2 l s2 hl h2 => ?_⟩
    have nlp : l ≠ p := fun z => by rw [z, upd_same] at hl; cases hl
    refine ⟨_, rfl, p, C, dx, _, rfl, s2 _ _ upd_same, Y.cl, Y.n_names, (by show 1 < 1000; decide), ?_⟩
    refine ⟨_, rfl, _, _, rfl, .int i, _, rfl, ?_⟩
    rw [hi]
    refine iteF ?_
    refine ⟨_, rfl, _, rfl, p, C, dx, _, rfl, upd_same, Y.cl, Y.n_first, (by show 2 < 1000; decide), ?_⟩
    refine q _ (((b1.trans (But.of s2)).trans But.upd).trans But.upd) ⟨dx, _, l, upd_same, ?_, ?_, by rw [upd_ne nlp, upd_ne nlp]; exact h2, hz, b1.none nlp hl⟩
    · rw [lookup_putF, if_neg (by decide), lookup_putF, if_pos rfl]
    · rw [lookup_putF, if_neg (by decide), lookup_putF, if_neg (by decide), lookup_putF, if_neg (by decide)]
      rfl
theorem sc_Above_leans : FnScope ["self", "table"] ["self", "table"] (defScope s_Above_leans) := ⟨rfl, rfl, rfl, by decide +kernel, rfl, by decide +kernel, by decide +kernel⟩
/-- the turn of [(t, name) for name in names], for a list of names at r -/
theorem comp_spots {cp : List (Nat × Str)} {σ : St} {H : Hp} {r D : Addr} {t : Str} {zs : List Str} {te : TE} {Q : VK} (hD : H D = none) (h4 : H r = some (.lst (zs.map V.str))) (h6 : zs.length ≤ 100)
    (hte : ∀ (z : Str) (H2 : Hp) (q : VK), Same H H2 → (∀ tp, H2 tp = none → q (.ref tp) (upd H2 tp (.tup [.str t, .str z]))) → te (some (.str z) :: capσ cp σ) H2 q)
    (hq : ∀ ys H2, H2 D = some (.lst ys) → Same H H2 → DtAll K H2 ys ((zs.map fun z => (t, z)).map spD) → Q (.ref D) H2) : tLoop cp tYes te σ (Itl K r) D Q H := by
  refine comp_list (K := K) (a := r) (xs := zs.map V.str) (fun i ys H2 => Same H H2 ∧ DtAll K H2 ys (((zs.take i).map fun z => (t, z)).map spD)) ⟨Same.new hD, .nil⟩ (fun i ys H2 _ ⟨s2, _⟩ => SqL.of (s2 _ _ h4)) ?_ ?_
  · rintro i x ys H2 hx h2D ⟨s2, hd⟩
    rw [List.getElem?_map] at hx
    cases e : zs[i]? with
    | none => rw [e] at hx; cases hx
    | some z =>
      rw [e] at hx
      cases hx
      have hi : i < zs.length := (List.getElem?_eq_some_iff.mp e).1
      have hyl : ys.length ≤ 100 := by
        have := hd.length
        rw [List.length_map, List.length_map, List.length_take] at this
        omega
      refine hte z H2 _ s2 fun tp htp => ?_
      have s3 : Same H2 (upd H2 tp (.tup [.str t, .str z])) := Same.new htp
      have h3D := s3 _ _ h2D
      refine ⟨h3D, small1000 (by omega), (s2.trans s3).on hD, ?_⟩
      have et : ((zs.take (i + 1)).map fun z => (t, z)).map spD = ((zs.take i).map fun z => (t, z)).map spD ++ [spD (t, z)] := by
        rw [List.take_add_one, e, List.map_append, List.map_append]
        rfl
      rw [et]
      exact DtAll.snoc (spots_upd h3D (DtAll.same s3 hd)) (spot_mk (p := (t, z)) (sqT_upd h3D (.inl (.inl upd_same))))
  · rintro ys H2 h2D ⟨s2, hd⟩
    rw [List.length_map, List.take_length] at hd
    exact hq ys H2 h2D s2 hd
theorem none_back {H H' : Hp} {l : Addr} (s : Same H H') (h : H' l = none) : H l = none := by
  cases e : H l with
  | none => rfl
  | some u => rw [s _ _ e] at h; cases h
theorem k_Above_leans (T : Tops K mg) {C : Addr} (Y : TAbove K mg C) : KnownM P w K mg base CX0 3 C "leans" ["self", "table"] (spLeans K C) := by
  have G_each_once : Known P w K mg base CX0 2 "each_once" ["spots"] (spOnce K) := k_each_once T
  refine Y.m_leans.known sc_Above_leans (fun _ _ _ _ _ _ us hl => match us, hl with | [_, _], _ => rfl) (fun vs H Q E h => ?_) (fun f cdv A outer s H vs Q E hr h => ?_)
  · obtain ⟨p, t, zs, rfl, _⟩ := h
    rfl
  · obtain ⟨p, t, zs, rfl, ⟨dx, fs, r, h1, h2, h3, h4, h5⟩, h6, ht, q⟩ := h
    have hcl : ∀ x, (cxOf CX0 P w K mg base ["self", "table"] "Above.leans" (defScope s_Above_leans) f cdv A outer s H E).nox.env.scope.names.lookup x = some .cell → ∃ c, (cxOf CX0 P w K mg base ["self", "table"] "Above.leans" (defScope s_Above_leans) f cdv A outer s H E).nox.env.cells.lookup x = some c := fun x hx => Option.isSome_iff_exists.mp (PySem.W.cellsFrom_some _ _ _ (.inl hx))
    refine ⟨_, (pss_one (ps_ret (pe_callN G_each_once (hr.mono (by decide)) pass0 (pa_cons (pe_comp (caps_of (sc := defScope s_Above_leans) (N := ["self", "table"]) (cp := [(1, "table")]) hcl) rfl rfl (by decide) (pi_list (pe_fld (pv 0) rfl)) (fun _ _ _ _ _ => pts_nil) (fun _ _ _ _ _ => (pe_tup (pa_cons (pv 1) (pa_cons (pv 0) pa_nil))))) pa_nil)))), ?_⟩
    refine ⟨_, rfl, p, C, dx, fs, _, rfl, h1, Y.cl, Y.n_names, h2, r, rfl, ⟨_, SqL.of h4⟩, fun D hD => ?_⟩
    refine comp_spots (K := K) (t := t) hD h4 (by omega) (fun z H2 q2 s2 k => ⟨_, rfl, _, rfl, sl, fun tp htp => k tp htp⟩) fun ys H2 h2D s2 hd => ?_
    refine ⟨D, ys, _, rfl, SqL.of h2D, ⟨hd, fun p' hp' => ?_⟩, by rw [List.length_map]; omega, fun H3 l ys' s3 hl h3 hs3 => ?_⟩
    · obtain ⟨z, hz, rfl⟩ := List.mem_map.mp hp'
      exact ⟨ht, h5 z hz⟩
    · exact q H3 l ys' (s2.trans s3) (none_back s2 hl) h3 hs3
end
end My.L

namespace My.L
open PySem L2
section
variable {P : Program} {w : World} {K : PySem.W.Frag} {mg : Str → Option Value} {base : Heap}
def KyAt (C : Addr) (H : Hp) (p : Addr) (k n : Str) : Prop := ∃ dx fs, H p = some (.ins C dx fs) ∧ fs.lookup ("key" : Str) = some (.str k) ∧ fs.lookup ("name" : Str) = some (.str n) ∧ fs.lookup ("leans" : Str) = none ∧ Nl k ∧ Nl n
def spGroupI (K : PySem.W.Frag) (C : Addr) : Sp := fun vs H Q _ => ∃ (p dx : Addr) (k n : Str) (v : V), vs = [.ref p, .str k, .str n, v] ∧ H p = some (.ins C dx []) ∧ Nl k ∧ Nl n ∧ ∀ H', But p H H' → KyAt C H' p k n → Q .non H'
theorem sc_Group_init : FnScope ["self", "key", "name", "function"] ["self", "key", "name", "function"] (defScope s_Group_init) := ⟨rfl, rfl, rfl, by decide +kernel, rfl, by decide +kernel, by decide +kernel⟩
theorem k_Group_init (T : Tops K mg) {R C : Addr} (Z : TRule K mg R) (Y : TGroup K mg C) : KnownI P w K mg base CX0 3 C ["self", "key", "name", "function"] (spGroupI K C) := by
  have G_init : KnownM P w K mg base CX0 1 R "__init__" ["self", "function"] (spRuleI K) := k_Rule_init T Z
  have G_check_name : Known P w K mg base CX0 2 "check_name" ["name"] spCName := k_check_name T
  refine (Y.m_init.known sc_Group_init (fun _ _ _ _ _ _ us hl => match us, hl with | [_, _, _, _], _ => rfl) (fun vs H Q E h => ?_) (fun f cdv A outer s H vs Q E hr h => ?_)).init Y.mks Y.kc
  · obtain ⟨p, dx, k, n, v, rfl, _⟩ := h
    rfl
  · obtain ⟨p, dx, k, n, v, rfl, hp, hk, hn, q⟩ := h
    refine ⟨_, (pss_cons (ps_expr (pe_clsN (pe_gR Z.c) Z.v_init G_init (hr.mono (by decide)) pass0 (pa_cons (pv 0) (pa_cons (pv 3) pa_nil))))
      (pss_cons (ps_expr (pe_callN G_check_name (hr.mono (by decide)) pass0 (pa_cons (pv 1) pa_nil)))
      (pss_cons (ps_expr (pe_callN G_check_name (hr.mono (by decide)) pass0 (pa_cons (pv 2) pa_nil)))
      (pss_cons (ps_fld (pv 0) (pv 1) rfl)
      (pss_one (ps_fld (pv 0) (pv 2) rfl)))))), ?_⟩
    have b1 : But p H (upd H p (.ins C dx (putF "function" v []))) := But.upd
    refine ⟨_, rfl, _, rfl, p, C, dx, [], v, rfl, hp, Y.cl, Y.n_function, by decide, ?_⟩
    refine ⟨_, rfl, k, rfl, hk, fun H2 s2 => ⟨_, rfl, n, rfl, hn, fun H3 s3 => ?_⟩⟩
    have s23 := s2.trans s3
    refine ⟨_, rfl, _, rfl, p, C, dx, _, rfl, s23 _ _ upd_same, Y.cl, Y.n_key, (by show 1 < 1000; decide), ?_⟩
    refine ⟨_, rfl, _, rfl, p, C, dx, _, rfl, upd_same, Y.cl, Y.n_name, (by show 2 < 1000; decide), ?_⟩
    refine q _ (((b1.trans (But.of s23)).trans But.upd).trans But.upd) ⟨dx, _, upd_same, ?_, ?_, ?_, hk, hn⟩
    · rw [lookup_putF, if_neg (by decide), lookup_putF, if_pos rfl]
    · rw [lookup_putF, if_pos rfl]
    · rw [lookup_putF, if_neg (by decide), lookup_putF, if_neg (by decide), lookup_putF, if_neg (by decide)]
      rfl
def spGLeans (K : PySem.W.Frag) (C : Addr) : Sp := fun vs H Q _ => ∃ (p : Addr) (t k n : Str), vs = [.ref p, .str t] ∧ KyAt C H p k n ∧ Nl t ∧
  ∀ H' l ys, Same H H' → H l = none → H' l = some (.lst ys) → Spots K H' ys (onceOf [(t, k), (t, n)]) → Q (.ref l) H'
theorem sc_Group_leans : FnScope ["self", "table"] ["self", "table"] (defScope s_Group_leans) := ⟨rfl, rfl, rfl, by decide +kernel, rfl, by decide +kernel, by decide +kernel⟩
theorem k_Group_leans (T : Tops K mg) {C : Addr} (Y : TGroup K mg C) : KnownM P w K mg base CX0 3 C "leans" ["self", "table"] (spGLeans K C) := by
  have G_each_once : Known P w K mg base CX0 2 "each_once" ["spots"] (spOnce K) := k_each_once T
  refine Y.m_leans.known sc_Group_leans (fun _ _ _ _ _ _ us hl => match us, hl with | [_, _], _ => rfl) (fun vs H Q E h => ?_) (fun f cdv A outer s H vs Q E hr h => ?_)
  · obtain ⟨p, t, k, n, rfl, _⟩ := h
    rfl
  · obtain ⟨p, t, k, n, rfl, ⟨dx, fs, h1, h2, h3, h4, hk, hn⟩, ht, q⟩ := h
    refine ⟨_, (pss_one (ps_ret (pe_callN G_each_once (hr.mono (by decide)) pass0 (pa_cons (pe_lst (pa_cons (pe_tup (pa_cons (pv 1) (pa_cons (pe_fld (pv 0) rfl) pa_nil))) (pa_cons (pe_tup (pa_cons (pv 1) (pa_cons (pe_fld (pv 0) rfl) pa_nil))) pa_nil))) pa_nil)))), ?_⟩
    refine ⟨_, rfl, _, rfl, p, C, dx, fs, _, rfl, h1, Y.cl, Y.n_key, h2, sl, fun t1 ht1 => ?_⟩
    have s1 : Same H (upd H t1 (.tup [.str t, .str k])) := Same.new ht1
    refine ⟨_, rfl, _, rfl, p, C, dx, fs, _, rfl, s1 _ _ h1, Y.cl, Y.n_name, h3, sl, fun t2 ht2 => ?_⟩
    have s2 := Same.new (o := .tup [.str t, .str n]) ht2
    refine ⟨sl, fun l hl => ?_⟩
    have s3 := Same.new (o := .lst [.ref t1, .ref t2]) hl
    refine ⟨l, _, [(t, k), (t, n)], rfl, SqL.of upd_same, ⟨.cons (spot_mk (p := (t, k)) (.inl (.inl (s3 _ _ (s2 _ _ upd_same))))) (.cons (spot_mk (p := (t, n)) (.inl (.inl (s3 _ _ upd_same)))) .nil), fun x hx => ?_⟩, (show 2 ≤ 100 by decide), fun H4 l' ys s4 hl' h4' hs => ?_⟩
    · simp only [List.mem_cons, List.not_mem_nil, or_false] at hx
      rcases hx with rfl | rfl
      · exact ⟨ht, hk⟩
      · exact ⟨ht, hn⟩
    · have s5 := (s1.trans s2).trans s3
      exact q H4 l' ys (s5.trans s4) (none_back s5 hl') h4' hs
def spMendI (K : PySem.W.Frag) (C : Addr) : Sp := fun vs H Q _ => ∃ (p dx : Addr) (n : Str) (v : V), vs = [.ref p, .str n, v] ∧ H p = some (.ins C dx []) ∧ Nl n ∧ ∀ H' dx fs, But p H H' → H' p = some (.ins C dx fs) → fs.lookup ("name" : Str) = some (.str n) → fs.lookup ("leans" : Str) = none → Q .non H'
theorem sc_Mend_init : FnScope ["self", "name", "function"] ["self", "name", "function"] (defScope s_Mend_init) := ⟨rfl, rfl, rfl, by decide +kernel, rfl, by decide +kernel, by decide +kernel⟩
theorem k_Mend_init (T : Tops K mg) {R C : Addr} (Z : TRule K mg R) (Y : TMend K mg C) : KnownI P w K mg base CX0 3 C ["self", "name", "function"] (spMendI K C) := by
  have G_init : KnownM P w K mg base CX0 1 R "__init__" ["self", "function"] (spRuleI K) := k_Rule_init T Z
  have G_check_name : Known P w K mg base CX0 2 "check_name" ["name"] spCName := k_check_name T
  refine (Y.m_init.known sc_Mend_init (fun _ _ _ _ _ _ us hl => match us, hl with | [_, _, _], _ => rfl) (fun vs H Q E h => ?_) (fun f cdv A outer s H vs Q E hr h => ?_)).init Y.mks Y.kc
  · obtain ⟨p, dx, n, v, rfl, _⟩ := h
    rfl
  · obtain ⟨p, dx, n, v, rfl, hp, hn, q⟩ := h
    refine ⟨_, (pss_cons (ps_expr (pe_clsN (pe_gR Z.c) Z.v_init G_init (hr.mono (by decide)) pass0 (pa_cons (pv 0) (pa_cons (pv 2) pa_nil))))
      (pss_cons (ps_expr (pe_callN G_check_name (hr.mono (by decide)) pass0 (pa_cons (pv 1) pa_nil)))
      (pss_one (ps_fld (pv 0) (pv 1) rfl)))), ?_⟩
    have b1 : But p H (upd H p (.ins C dx (putF "function" v []))) := But.upd
    refine ⟨_, rfl, _, rfl, p, C, dx, [], v, rfl, hp, Y.cl, Y.n_function, by decide, ?_⟩
    refine ⟨_, rfl, n, rfl, hn, fun H2 s2 => ?_⟩
    refine ⟨_, rfl, _, rfl, p, C, dx, _, rfl, s2 _ _ upd_same, Y.cl, Y.n_name, (by show 1 < 1000; decide), ?_⟩
    refine q _ dx _ ((b1.trans (But.of s2)).trans But.upd) upd_same ?_ ?_
    · rw [lookup_putF, if_pos rfl]
    · rw [lookup_putF, if_neg (by decide), lookup_putF, if_neg (by decide)]
      rfl
def spMLeans (K : PySem.W.Frag) (C : Addr) : Sp := fun vs H Q _ => ∃ (p dx : Addr) (fs : List (Str × V)) (t n : Str), vs = [.ref p, .str t] ∧ H p = some (.ins C dx fs) ∧ fs.lookup ("name" : Str) = some (.str n) ∧ Nl n ∧ Nl t ∧
  ∀ H' l ys, Same H H' → H l = none → H' l = some (.lst ys) → Spots K H' ys [(t, n)] → Q (.ref l) H'
theorem sc_Mend_leans : FnScope ["self", "table"] ["self", "table"] (defScope s_Mend_leans) := ⟨rfl, rfl, rfl, by decide +kernel, rfl, by decide +kernel, by decide +kernel⟩
theorem k_Mend_leans (T : Tops K mg) {C : Addr} (Y : TMend K mg C) : KnownM P w K mg base CX0 3 C "leans" ["self", "table"] (spMLeans K C) := by
  refine Y.m_leans.known sc_Mend_leans (fun _ _ _ _ _ _ us hl => match us, hl with | [_, _], _ => rfl) (fun vs H Q E h => ?_) (fun f cdv A outer s H vs Q E hr h => ?_)
  · obtain ⟨p, dx, fs, t, n, rfl, _⟩ := h
    rfl
  · obtain ⟨p, dx, fs, t, n, rfl, h1, h2, hn, ht, q⟩ := h
    refine ⟨_, (pss_one (ps_ret (pe_lst (pa_cons (pe_tup (pa_cons (pv 1) (pa_cons (pe_fld (pv 0) rfl) pa_nil))) pa_nil)))), ?_⟩
    refine ⟨_, rfl, _, rfl, p, C, dx, fs, _, rfl, h1, Y.cl, Y.n_name, h2, sl, fun t1 ht1 => ?_⟩
    have s1 : Same H (upd H t1 (.tup [.str t, .str n])) := Same.new ht1
    refine ⟨sl, fun l hl => ?_⟩
    have s3 := Same.new (o := .lst [.ref t1]) hl
    refine q _ l _ (s1.trans s3) (none_back s1 hl) upd_same ⟨.cons (spot_mk (p := (t, n)) (.inl (.inl (s3 _ _ upd_same)))) .nil, fun x hx => ?_⟩
    rw [List.mem_singleton.mp hx]
    exact ⟨ht, hn⟩
end
end My.L

namespace My.L
open PySem L2
section
variable {P : Program} {w : World} {K : PySem.W.Frag} {mg : Str → Option Value} {base : Heap}
/-- a Lookup: its key, the other table, the column there, its names -/
def LkAt (C : Addr) (H : Hp) (p : Addr) (k o th : Str) (zs : List Str) : Prop := ∃ dx fs r, H p = some (.ins C dx fs) ∧ fs.lookup ("key" : Str) = some (.str k) ∧ fs.lookup ("other" : Str) = some (.str o) ∧ fs.lookup ("theirs" : Str) = some (.str th) ∧
  fs.lookup ("names" : Str) = some (.ref r) ∧ fs.lookup ("leans" : Str) = none ∧ H r = some (.lst (zs.map V.str)) ∧ Nl k ∧ Nl o ∧ Nl th ∧ ∀ z ∈ zs, Nl z
def LkNew (G : Hp) (C : Addr) (H : Hp) (p : Addr) (k o th : Str) (zs : List Str) : Prop := ∃ dx fs r, H p = some (.ins C dx fs) ∧ fs.lookup ("key" : Str) = some (.str k) ∧ fs.lookup ("other" : Str) = some (.str o) ∧ fs.lookup ("theirs" : Str) = some (.str th) ∧
  fs.lookup ("names" : Str) = some (.ref r) ∧ fs.lookup ("leans" : Str) = none ∧ H r = some (.lst (zs.map V.str)) ∧ Nl k ∧ Nl o ∧ Nl th ∧ (∀ z ∈ zs, Nl z) ∧ G r = none
theorem LkNew.at {G : Hp} {C : Addr} {H : Hp} {p : Addr} {k o th : Str} {zs : List Str} {e : Addr} {u v : HO} (h : LkNew G C H p k o th zs) (hp : G p = none) (he : G e = some u) : LkAt C (upd H e v) p k o th zs := by
  obtain ⟨dx, fs, r, h1, h2, h3, h4, h5, h6, h7, h8, h9, h10, h11, h12⟩ := h
  exact ⟨dx, fs, r, by rw [upd_ne (ne_of_none he hp).symm]; exact h1, h2, h3, h4, h5, h6, by rw [upd_ne (ne_of_none he h12).symm]; exact h7, h8, h9, h10, h11⟩
def spLookupI (K : PySem.W.Frag) (C : Addr) : Sp := fun vs H Q _ => ∃ (p dx a : Addr) (k o th : Str) (v : V) (zs : List Str), vs = [.ref p, .str k, .str o, .str th, .ref a, v] ∧ H p = some (.ins C dx []) ∧ Nl k ∧ Nl o ∧ Nl th ∧ SqL K H a (zs.map V.str) ∧ zs.length ≤ 6 ∧ (∀ z ∈ zs, Nl z) ∧
  ∀ H', But p H H' → LkNew H C H' p k o th zs → Q .non H'
theorem sc_Lookup_init : FnScope ["self", "key", "table", "theirs", "names", "function"] ["self", "key", "table", "theirs", "names", "function"] (defScope s_Lookup_init) := ⟨rfl, rfl, rfl, by decide +kernel, rfl, by decide +kernel, by decide +kernel⟩
theorem k_Lookup_init (T : Tops K mg) {R C : Addr} (Z : TRule K mg R) (Y : TLookup K mg C) : KnownI P w K mg base CX0 4 C ["self", "key", "table", "theirs", "names", "function"] (spLookupI K C) := by
  have G_init : KnownM P w K mg base CX0 1 R "__init__" ["self", "function"] (spRuleI K) := k_Rule_init T Z
  have G_check_name : Known P w K mg base CX0 2 "check_name" ["name"] spCName := k_check_name T
  have G_checked_names : Known P w K mg base CX0 3 "checked_names" ["names"] (spCNames K) := k_checked_names T
  refine (Y.m_init.known sc_Lookup_init (fun _ _ _ _ _ _ us hl => match us, hl with | [_, _, _, _, _, _], _ => rfl) (fun vs H Q E h => ?_) (fun f cdv A outer s H vs Q E hr h => ?_)).init Y.mks Y.kc
  · obtain ⟨p, dx, a, k, o, th, v, zs, rfl, _⟩ := h
    rfl
  · obtain ⟨p, dx, a, k, o, th, v, zs, rfl, hp, hk, ho, ht, hq, h6, hz, q⟩ := h
    refine ⟨_, (pss_cons (ps_expr (pe_clsN (pe_gR Z.c) Z.v_init G_init (hr.mono (by decide)) pass0 (pa_cons (pv 0) (pa_cons (pv 5) pa_nil))))
      (pss_cons (ps_expr (pe_callN G_check_name (hr.mono (by decide)) pass0 (pa_cons (pv 1) pa_nil)))
      (pss_cons (ps_expr (pe_callN G_check_name (hr.mono (by decide)) pass0 (pa_cons (pv 2) pa_nil)))
      (pss_cons (ps_expr (pe_callN G_check_name (hr.mono (by decide)) pass0 (pa_cons (pv 3) pa_nil)))
      (pss_cons (ps_fld (pv 0) (pv 1) rfl)
      (pss_cons (ps_fld (pv 0) (pv 2) rfl)
      (pss_cons (ps_fld (pv 0) (pv 3) rfl)
      (pss_one (ps_fld (pv 0) (pe_callN G_checked_names (hr.mono (by decide)) pass0 (pa_cons (pv 4) pa_nil)) rfl))))))))), ?_⟩
    have b1 : But p H (upd H p (.ins C dx (putF "function" v []))) := But.upd
    refine ⟨_, rfl, _, rfl, p, C, dx, [], v, rfl, hp, Y.cl, Y.n_function, by decide, ?_⟩
    refine ⟨_, rfl, k, rfl, hk, fun H2 s2 => ⟨_, rfl, o, rfl, ho, fun H3 s3 => ⟨_, rfl, th, rfl, ht, fun H4 s4 => ?_⟩⟩⟩
    have s24 := (s2.trans s3).trans s4
    refine ⟨_, rfl, _, rfl, p, C, dx, _, rfl, s24 _ _ upd_same, Y.cl, Y.n_key, (by show 1 < 1000; decide), ?_⟩
    refine ⟨_, rfl, _, rfl, p, C, dx, _, rfl, upd_same, Y.cl, Y.n_other, (by show 2 < 1000; decide), ?_⟩
    refine ⟨_, rfl, _, rfl, p, C, dx, _, rfl, upd_same, Y.cl, Y.n_theirs, (by show 3 < 1000; decide), ?_⟩
    have b2 := (((b1.trans (But.of s24)).trans (But.upd (o := .ins C dx (putF "key" (.str k) (putF "function" v []))))).trans (But.upd (o := .ins C dx (putF "other" (.str o) (putF "key" (.str k) (putF "function" v [])))))).trans (But.upd (o := .ins C dx (putF "theirs" (.str th) (putF "other" (.str o) (putF "key" (.str k) (putF "function" v []))))))
    refine ⟨_, rfl, a, zs, rfl, sqL_but b2 ⟨_, _, _, hp⟩ hq, h6, hz, fun H5 l s5 hl h5 => ?_⟩
    have nlp : l ≠ p := fun z => by rw [z, upd_same] at hl; cases hl
    refine ⟨_, rfl, p, C, dx, _, rfl, s5 _ _ upd_same, Y.cl, Y.n_names, (by show 4 < 1000; decide), ?_⟩
    refine q _ ((b2.trans (But.of s5)).trans But.upd) ⟨dx, _, l, upd_same, ?_, ?_, ?_, ?_, ?_, by rw [upd_ne nlp]; exact h5, hk, ho, ht, hz, b2.none nlp hl⟩
    · rw [lookup_putF, if_neg (by decide), lookup_putF, if_neg (by decide), lookup_putF, if_neg (by decide), lookup_putF, if_pos rfl]
    · rw [lookup_putF, if_neg (by decide), lookup_putF, if_neg (by decide), lookup_putF, if_pos rfl]
    · rw [lookup_putF, if_neg (by decide), lookup_putF, if_pos rfl]
    · rw [lookup_putF, if_pos rfl]
    · rw [lookup_putF, if_neg (by decide), lookup_putF, if_neg (by decide), lookup_putF, if_neg (by decide), lookup_putF, if_neg (by decide), lookup_putF, if_neg (by decide)]
      rfl
def spLLeans (K : PySem.W.Frag) (C : Addr) : Sp := fun vs H Q _ => ∃ (p : Addr) (t k o th : Str) (zs : List Str), vs = [.ref p, .str t] ∧ LkAt C H p k o th zs ∧ zs.length ≤ 6 ∧ Nl t ∧
  ∀ H' l ys, Same H H' → H l = none → H' l = some (.lst ys) → Spots K H' ys (onceOf ((t, k) :: (th :: zs).map fun z => (o, z))) → Q (.ref l) H'
theorem sc_Lookup_leans : FnScope ["self", "table", "theirs"] ["self", "table"] (defScope s_Lookup_leans) := ⟨rfl, rfl, rfl, by decide +kernel, rfl, by decide +kernel, by decide +kernel⟩
theorem k_Lookup_leans (T : Tops K mg) {C : Addr} (Y : TLookup K mg C) : KnownM P w K mg base CX0 3 C "leans" ["self", "table"] (spLLeans K C) := by
  have G_each_once : Known P w K mg base CX0 2 "each_once" ["spots"] (spOnce K) := k_each_once T
  refine Y.m_leans.known sc_Lookup_leans (fun _ _ _ _ _ _ us hl => match us, hl with | [_, _], _ => rfl) (fun vs H Q E h => ?_) (fun f cdv A outer s H vs Q E hr h => ?_)
  · obtain ⟨p, t, k, o, th, zs, rfl, _⟩ := h
    rfl
  · obtain ⟨p, t, k, o, th, zs, rfl, ⟨dx, fs, r, h1, h2, h3, h4, h5, h6, h7, hk, ho, hth, hz⟩, hl6, ht, q⟩ := h
    have hcl : ∀ x, (cxOf CX0 P w K mg base ["self", "table", "theirs"] "Lookup.leans" (defScope s_Lookup_leans) f cdv A outer s H E).nox.env.scope.names.lookup x = some .cell → ∃ c, (cxOf CX0 P w K mg base ["self", "table", "theirs"] "Lookup.leans" (defScope s_Lookup_leans) f cdv A outer s H E).nox.env.cells.lookup x = some c := fun x hx => Option.isSome_iff_exists.mp (PySem.W.cellsFrom_some _ _ _ (.inl hx))
    refine ⟨_, (pss_cons (ps_setComp (te := tTup (tCons (tFld K (tVar 1) "other") (tCons (tVar 0) tNil))) (i := 2) sc_Lookup_leans.nd rfl rfl (caps_of (sc := defScope s_Lookup_leans) (N := ["self", "table", "theirs"]) (cp := [(0, "self")]) hcl) rfl rfl (by decide) (pi_list (pe_op op_cat (pe_lst (pa_cons (pe_fld (pv 0) rfl) pa_nil)) (pe_fld (pv 0) rfl))) (fun _ _ _ _ _ => pts_nil) (fun _ _ _ _ _ => by exact (pe_tup (pa_cons (pe_fld (pv 1) rfl) (pa_cons (pv 0) pa_nil)))) rfl)
      (pss_one (ps_ret (pe_callN G_each_once (hr.mono (by decide)) pass0 (pa_cons (pe_op op_cat (pe_lst (pa_cons (pe_tup (pa_cons (pv 1) (pa_cons (pe_fld (pv 0) rfl) pa_nil))) pa_nil)) (pv 2)) pa_nil))))), ?_⟩
    refine ⟨_, rfl, p, C, dx, fs, _, rfl, h1, Y.cl, Y.n_theirs, h4, sl, fun l1 hl1 => ?_⟩
    have s1 : Same H (upd H l1 (.lst [.str th])) := Same.new hl1
    refine ⟨_, rfl, p, C, dx, fs, _, rfl, s1 _ _ h1, Y.cl, Y.n_names, h5, l1, r, _, _, rfl, rfl, upd_same, s1 _ _ h7, sl (by show 1 + _ ≤ 1000; rw [List.length_map]; omega), fun l2 hl2 => ?_⟩
    have s2 := Same.new (o := .lst ([.str th] ++ zs.map V.str)) hl2
    have s12 := s1.trans s2
    refine ⟨l2, rfl, ⟨_, SqL.of upd_same⟩, fun D hD => ?_⟩
    refine comp_spots (K := K) (t := o) (zs := th :: zs) hD upd_same (by show zs.length + 1 ≤ 100; omega) (fun z H2 q2 s3 kq => ⟨_, rfl, p, C, dx, fs, _, rfl, s3 _ _ (s12 _ _ h1), Y.cl, Y.n_other, h3, _, rfl, sl, fun tp htp => kq tp htp⟩) fun ys H2 h2D s3 hd => ?_
    have s13 := s12.trans s3
    refine ⟨_, rfl, _, rfl, p, C, dx, fs, _, rfl, s13 _ _ h1, Y.cl, Y.n_key, h2, sl, fun t1 ht1 => ?_⟩
    have s4 := Same.new (o := .tup [.str t, .str k]) ht1
    refine ⟨sl, fun l3 hl3 => ?_⟩
    have s5 := Same.new (o := .lst [.ref t1]) hl3
    have hyl : ys.length = zs.length + 1 := by
      have := hd.length
      rw [List.length_map, List.length_map] at this
      exact this
    refine ⟨_, rfl, l3, D, _, _, rfl, rfl, upd_same, s5 _ _ (s4 _ _ h2D), sl (by show 1 + _ ≤ 1000; omega), fun l4 hl4 => ?_⟩
    have s6 := Same.new (o := .lst ([.ref t1] ++ ys)) hl4
    have s46 := (s4.trans s5).trans s6
    refine ⟨l4, _, (t, k) :: (th :: zs).map fun z => (o, z), rfl, SqL.of upd_same, ⟨?_, fun x hx => ?_⟩, (by show (zs.map _).length + 1 + 1 ≤ 100; rw [List.length_map]; omega), fun H7 l' ys' s7 hl' h7' hs => ?_⟩
    · exact .cons (spot_mk (p := (t, k)) (.inl (.inl (s6 _ _ (s5 _ _ upd_same))))) (DtAll.same s46 hd)
    · rcases List.mem_cons.mp hx with rfl | hx
      · exact ⟨ht, hk⟩
      · obtain ⟨z, hz', rfl⟩ := List.mem_map.mp hx
        rcases List.mem_cons.mp hz' with rfl | hz'
        · exact ⟨ho, hth⟩
        · exact ⟨ho, hz z hz'⟩
    · have s8 := s13.trans s46
      exact q H7 l' ys' (s8.trans s7) (none_back s8 hl') h7' hs
end
end My.L

namespace My
open PySem L2
theorem once_in {α : Type} [∀ (a : α) (l : List α), Decidable (a ∈ l)] {p : α} : ∀ {ps acc : List α}, p ∈ acc ∨ p ∈ ps → p ∈ ps.foldl (fun acc p => if p ∈ acc then acc else acc ++ [p]) acc
  | [], acc, h => by simpa using h
  | q :: ps, acc, h => by
    rw [List.foldl_cons]
    refine once_in ?_
    rcases h with h | h
    · left
      split
      · exact h
      · exact List.mem_append_left _ h
    · rcases List.mem_cons.mp h with rfl | h
      · left
        split
        · assumption
        · simp
      · exact .inr h
theorem mem_onceOf {ps : List (Str × Str)} {p : Str × Str} : p ∈ onceOf ps ↔ p ∈ ps := ⟨onceOf_mem, fun h => by
  unfold onceOf
  exact once_in (acc := []) (.inr h)⟩
/-! ### a rule, whatever its kind -/
inductive RK where
  | cells (zs : List Str)
  | above (i : Int) (zs : List Str)
  | group (k n : Str)
  | lookup (k o th : Str) (zs : List Str)
  | mend (n : Str)
def leansOf (t : Str) : RK → List (Str × Str)
  | .cells zs => onceOf (zs.map fun z => (t, z))
  | .above _ zs => onceOf (zs.map fun z => (t, z))
  | .group k n => onceOf [(t, k), (t, n)]
  | .lookup k o th zs => onceOf ((t, k) :: (th :: zs).map fun z => (o, z))
  | .mend n => [(t, n)]
def gatU (pl : V) (kvs : List (List Key × V)) (rows : List (Key × V)) : RK → Str → Str → Nat → List Spot3 × Res
  | .cells zs, t, c, p => gatCells kvs rows zs t c p
  | .above i zs, t, c, p => gatAbove kvs rows (i, zs) t c p
  | .group k n, t, c, p => gatGroup kvs rows (k, n) t c p
  | .lookup k o th zs, t, c, p => gatLookup pl kvs rows (k, o, th, zs) t c p
  | .mend n, t, c, p => gatMend kvs rows n t c p
def okU (H : Hp) (kvs : List (List Key × V)) (rows : List (Key × V)) : RK → Str → Str → Nat → Prop
  | .cells zs, t, c, p => okCells H kvs rows zs t c p
  | .above i zs, t, c, p => okAbove H kvs rows (i, zs) t c p
  | .group k n, t, c, p => okGroup H kvs rows (k, n) t c p
  | .lookup k o th zs, t, c, p => okLookup H kvs rows (k, o, th, zs) t c p
  | .mend n, t, c, p => okMend H kvs rows n t c p
/-! ### what is looked at decides -/
theorem turnGo_eq {val val' : Spot3 → V} : ∀ {zs : List Spot3} {acc : List V}, (∀ z ∈ (turnGo val zs acc).1, val' z = val z) → turnGo val' zs acc = turnGo val zs acc
  | [], _, _ => rfl
  | z :: r, acc, h => by
    have e : turnGo val (z :: r) acc = if isRef (val z) then ([z], .val (val z)) else (z :: (turnGo val r (acc ++ [val z])).1, (turnGo val r (acc ++ [val z])).2) := rfl
    have e' : turnGo val' (z :: r) acc = if isRef (val' z) then ([z], .val (val' z)) else (z :: (turnGo val' r (acc ++ [val' z])).1, (turnGo val' r (acc ++ [val' z])).2) := rfl
    rw [e] at h
    by_cases g : isRef (val z) = true
    · rw [if_pos g] at h
      rw [e, e', h z (by simp)]
      rw [if_pos g, if_pos g]
    · rw [if_neg g] at h
      have hz := h z (by simp)
      rw [e, e', hz, if_neg g, if_neg g, turnGo_eq (zs := r) fun y hy => h y (List.mem_cons_of_mem _ hy)]
theorem grpGo_eq {val val' : Spot3 → V} {own : V} {t k n : Str} : ∀ {rs : List Nat} {acc : List V}, (∀ z ∈ (grpGo val own t k n rs acc).1, val' z = val z) → grpGo val' own t k n rs acc = grpGo val own t k n rs acc
  | [], _, _ => rfl
  | r :: rs, acc, h => by
    rw [grpGo_cons] at h
    by_cases g : val (t, k, (r : Int)) = own
    · rw [if_pos g] at h
      by_cases g2 : isRef (val (t, n, (r : Int))) = true
      · rw [if_pos g2] at h
        have h1 := h (t, k, (r : Int)) (by simp)
        have h2 := h (t, n, (r : Int)) (by simp)
        rw [grpGo_cons, grpGo_cons, h1, h2, if_pos g, if_pos g, if_pos g2, if_pos g2]
      · rw [if_neg g2] at h
        have h1 := h (t, k, (r : Int)) (by simp)
        have h2 := h (t, n, (r : Int)) (by simp)
        rw [grpGo_cons, grpGo_cons, h1, h2, if_pos g, if_pos g, if_neg g2, if_neg g2, grpGo_eq (rs := rs) fun y hy => h y (by simp [hy])]
    · rw [if_neg g] at h
      have h1 := h (t, k, (r : Int)) (by simp)
      rw [grpGo_cons, grpGo_cons, h1, if_neg g, if_neg g, grpGo_eq (rs := rs) fun y hy => h y (by simp [hy])]
theorem lkGo_eq {kvs kvs' : List (List Key × V)} {own pl : V} {o th : Str} {zs : List Str} : ∀ {rs : List Nat}, (∀ z ∈ (lkGo kvs own pl o th zs rs).1, valAt kvs' z = valAt kvs z) → lkGo kvs' own pl o th zs rs = lkGo kvs own pl o th zs rs
  | [], _ => rfl
  | r :: rs, h => by
    rw [lkGo_cons] at h
    by_cases g : valAt kvs (o, th, (r : Int)) = own
    · rw [if_pos g] at h
      have h1 := h (o, th, (r : Int)) (by simp)
      have e : turnOf kvs' (rowOf o r zs) = turnOf kvs (rowOf o r zs) := turnGo_eq fun y hy => h y (List.mem_cons_of_mem _ hy)
      rw [lkGo_cons, lkGo_cons, h1, if_pos g, if_pos g, e]
    · rw [if_neg g] at h
      have h1 := h (o, th, (r : Int)) (by simp)
      rw [lkGo_cons, lkGo_cons, h1, if_neg g, if_neg g, lkGo_eq (rs := rs) fun y hy => h y (by simp [hy])]
theorem turnOf_eq {kvs kvs' : List (List Key × V)} {zs : List Spot3} (h : ∀ z ∈ (turnOf kvs zs).1, valAt kvs' z = valAt kvs z) : turnOf kvs' zs = turnOf kvs zs := turnGo_eq h
/-- another world that is the same where the rule looks -/
theorem gatU_eq {pl : V} {kvs kvs' : List (List Key × V)} {rows : List (Key × V)} {rk : RK} {t c : Str} {p : Nat} (h : ∀ z ∈ (gatU pl kvs rows rk t c p).1, valAt kvs' z = valAt kvs z) : gatU pl kvs' rows rk t c p = gatU pl kvs rows rk t c p := by
  cases rk with
  | cells zs => exact turnOf_eq h
  | above i zs =>
    show gatAbove kvs' rows (i, zs) t c p = gatAbove kvs rows (i, zs) t c p
    have h : ∀ z ∈ (gatAbove kvs rows (i, zs) t c p).1, valAt kvs' z = valAt kvs z := h
    unfold gatAbove at h ⊢
    by_cases g : 0 < p
    · rw [if_pos g] at h
      rw [if_pos g, if_pos g]
      exact turnOf_eq h
    · rw [if_neg g] at h
      rw [if_neg g, if_neg g, turnOf_eq (zs := rowOf t p zs) h]
  | group k n =>
    show gatGroup kvs' rows (k, n) t c p = gatGroup kvs rows (k, n) t c p
    have h : ∀ z ∈ (gatGroup kvs rows (k, n) t c p).1, valAt kvs' z = valAt kvs z := h
    unfold gatGroup at h ⊢
    by_cases g : isRef (valAt kvs (t, k, (p : Int))) = true
    · rw [if_pos g] at h
      rw [h (t, k, (p : Int)) (by simp), if_pos g, if_pos g]
    · rw [if_neg g] at h
      rw [h (t, k, (p : Int)) (by simp), if_neg g, if_neg g, grpGo_eq fun y hy => h y (List.mem_cons_of_mem _ hy)]
  | lookup k o th zs =>
    show gatLookup pl kvs' rows (k, o, th, zs) t c p = gatLookup pl kvs rows (k, o, th, zs) t c p
    have h : ∀ z ∈ (gatLookup pl kvs rows (k, o, th, zs) t c p).1, valAt kvs' z = valAt kvs z := h
    unfold gatLookup at h ⊢
    by_cases g : isRef (valAt kvs (t, k, (p : Int))) = true
    · rw [if_pos g] at h
      rw [h (t, k, (p : Int)) (by simp), if_pos g, if_pos g]
    · rw [if_neg g] at h
      rw [h (t, k, (p : Int)) (by simp), if_neg g, if_neg g, lkGo_eq fun y hy => h y (List.mem_cons_of_mem _ hy)]
  | mend n =>
    show gatMend kvs' rows n t c p = gatMend kvs rows n t c p
    have h1 : valAt kvs' (t, n, (p : Int)) = valAt kvs (t, n, (p : Int)) := h (t, n, (p : Int)) (by simp [gatU, gatMend])
    unfold gatMend
    have e : (valV kvs' [.inr t, .inr n, .inl (p : Int)]).getD .non = (valV kvs [.inr t, .inr n, .inl (p : Int)]).getD .non := h1
    rw [e]
/-! ### where it looks -/
theorem turnGo_sub {val : Spot3 → V} : ∀ {zs : List Spot3} {acc : List V} {z : Spot3}, z ∈ (turnGo val zs acc).1 → z ∈ zs
  | [], _, _, h => by simp [turnGo] at h
  | y :: r, acc, z, h => by
    have e : turnGo val (y :: r) acc = if isRef (val y) then ([y], .val (val y)) else (y :: (turnGo val r (acc ++ [val y])).1, (turnGo val r (acc ++ [val y])).2) := rfl
    rw [e] at h
    split at h
    · rw [List.mem_singleton.mp h]; simp
    · rcases List.mem_cons.mp h with rfl | h
      · simp
      · exact List.mem_cons_of_mem _ (turnGo_sub h)
theorem grpGo_sub {val : Spot3 → V} {own : V} {t k n : Str} : ∀ {rs : List Nat} {acc : List V} {z : Spot3}, z ∈ (grpGo val own t k n rs acc).1 → ∃ r ∈ rs, z = (t, k, (r : Int)) ∨ z = (t, n, (r : Int))
  | [], _, _, h => by simp [grpGo] at h
  | r :: rs, acc, z, h => by
    rw [grpGo_cons] at h
    have up : (∃ r ∈ rs, z = (t, k, (r : Int)) ∨ z = (t, n, (r : Int))) → ∃ r' ∈ r :: rs, z = (t, k, (r' : Int)) ∨ z = (t, n, (r' : Int)) := fun ⟨r', h1, h2⟩ => ⟨r', List.mem_cons_of_mem _ h1, h2⟩
    split at h
    · split at h
      · simp only [List.mem_cons, List.not_mem_nil, or_false] at h
        exact ⟨r, by simp, h⟩
      · rcases List.mem_cons.mp h with h | h
        · exact ⟨r, by simp, .inl h⟩
        · rcases List.mem_cons.mp h with h | h
          · exact ⟨r, by simp, .inr h⟩
          · exact up (grpGo_sub h)
    · rcases List.mem_cons.mp h with h | h
      · exact ⟨r, by simp, .inl h⟩
      · exact up (grpGo_sub h)
theorem lkGo_sub {kvs : List (List Key × V)} {own pl : V} {o th : Str} {zs : List Str} : ∀ {rs : List Nat} {z : Spot3}, z ∈ (lkGo kvs own pl o th zs rs).1 → ∃ r ∈ rs, ∃ y ∈ th :: zs, z = (o, y, (r : Int))
  | [], _, h => by simp [lkGo] at h
  | r :: rs, z, h => by
    rw [lkGo_cons] at h
    split at h
    · rcases List.mem_cons.mp h with h | h
      · exact ⟨r, by simp, th, by simp, h⟩
      · obtain ⟨y, hy, e⟩ := List.mem_map.mp (turnGo_sub h)
        exact ⟨r, by simp, y, List.mem_cons_of_mem _ hy, e.symm⟩
    · rcases List.mem_cons.mp h with h | h
      · exact ⟨r, by simp, th, by simp, h⟩
      · obtain ⟨r', h1, h2⟩ := lkGo_sub h
        exact ⟨r', List.mem_cons_of_mem _ h1, h2⟩
/-- in the columns that it leans on, or in the row above -/
theorem gatU_leans {pl : V} {kvs : List (List Key × V)} {rows : List (Key × V)} {rk : RK} {t c : Str} {p : Nat} {z : Spot3} (h : z ∈ (gatU pl kvs rows rk t c p).1) :
    (z.1, z.2.1) ∈ leansOf t rk ∨ (0 < p ∧ z = (t, c, (p : Int) - 1) ∧ ∃ i zs, rk = .above i zs) := by
  have row : ∀ {zs : List Str} {z : Spot3}, z ∈ rowOf t p zs → (z.1, z.2.1) ∈ zs.map fun y => (t, y) := fun {zs z} hz => by
    obtain ⟨y, hy, rfl⟩ := List.mem_map.mp hz
    exact List.mem_map.mpr ⟨y, hy, rfl⟩
  cases rk with
  | cells zs => exact .inl (mem_onceOf.mpr (row (turnGo_sub h)))
  | above i zs =>
    have h : z ∈ (gatAbove kvs rows (i, zs) t c p).1 := h
    unfold gatAbove at h
    by_cases g : 0 < p
    · rw [if_pos g] at h
      rcases List.mem_cons.mp (turnGo_sub h) with h | h
      · exact .inr ⟨g, h, i, zs, rfl⟩
      · exact .inl (mem_onceOf.mpr (row h))
    · rw [if_neg g] at h
      exact .inl (mem_onceOf.mpr (row (turnGo_sub h)))
  | group k n =>
    have h : z ∈ (gatGroup kvs rows (k, n) t c p).1 := h
    unfold gatGroup at h
    refine .inl (mem_onceOf.mpr ?_)
    split at h
    · rw [List.mem_singleton.mp h]; simp
    · rcases List.mem_cons.mp h with rfl | h
      · simp
      · obtain ⟨r, _, e | e⟩ := grpGo_sub h <;> rw [e] <;> simp
  | lookup k o th zs =>
    have h : z ∈ (gatLookup pl kvs rows (k, o, th, zs) t c p).1 := h
    unfold gatLookup at h
    refine .inl (mem_onceOf.mpr ?_)
    split at h
    · rw [List.mem_singleton.mp h]; simp
    · rcases List.mem_cons.mp h with rfl | h
      · simp
      · obtain ⟨r, _, y, hy, e⟩ := lkGo_sub h
        rw [e]
        exact List.mem_cons_of_mem _ (List.mem_map.mpr ⟨y, hy, rfl⟩)
  | mend n =>
    have h : z ∈ ([(t, n, (p : Int))] : List Spot3) := h
    rw [List.mem_singleton.mp h]
    exact .inl (by simp [leansOf])
/-! ### how it ends -/
/-- the last one looked at is new, and tells v -/
def EndsAt (val : Spot3 → V) (ls : List Spot3) (v : V) : Prop := ∃ pre z, ls = pre ++ [z] ∧ val z = v ∧ z ∉ pre
theorem turnGo_end {val : Spot3 → V} : ∀ {zs : List Spot3} {acc : List V} {v : V}, (turnGo val zs acc).2 = .val v → ∃ pre z, (turnGo val zs acc).1 = pre ++ [z] ∧ val z = v ∧ isRef v = true ∧ z ∈ zs ∧ ∀ y ∈ pre, isRef (val y) = false
  | [], _, _, h => by simp [turnGo] at h
  | y :: r, acc, v, h => by
    have e : turnGo val (y :: r) acc = if isRef (val y) then ([y], .val (val y)) else (y :: (turnGo val r (acc ++ [val y])).1, (turnGo val r (acc ++ [val y])).2) := rfl
    rw [e] at h ⊢
    by_cases g : isRef (val y) = true
    · rw [if_pos g] at h ⊢
      have h : val y = v := Res.val.inj h
      exact ⟨[], y, rfl, h, by rw [← h]; exact g, by simp, fun x hx => by simp at hx⟩
    · rw [if_neg g] at h ⊢
      obtain ⟨pre, z, h1, h2, h3, h4, h5⟩ := turnGo_end (zs := r) h
      refine ⟨y :: pre, z, by rw [h1]; rfl, h2, h3, List.mem_cons_of_mem _ h4, fun x hx => ?_⟩
      rcases List.mem_cons.mp hx with rfl | hx
      · simpa using g
      · exact h5 x hx
theorem grpGo_end {val : Spot3 → V} {own : V} {t k n : Str} (ho : isRef own = false) : ∀ {rs : List Nat} {acc : List V} {v : V}, (grpGo val own t k n rs acc).2 = .val v → ∃ (pre : List Spot3) (r : Nat), (grpGo val own t k n rs acc).1 = pre ++ [(t, n, (r : Int))] ∧ val (t, n, (r : Int)) = v ∧ isRef v = true ∧ val (t, k, (r : Int)) = own ∧ ∀ y ∈ pre, isRef (val y) = false ∨ ∃ r' : Nat, y = (t, k, (r' : Int))
  | [], _, _, h => by simp [grpGo] at h
  | r :: rs, acc, v, h => by
    rw [grpGo_cons] at h ⊢
    by_cases g : val (t, k, (r : Int)) = own
    · rw [if_pos g] at h ⊢
      by_cases g2 : isRef (val (t, n, (r : Int))) = true
      · rw [if_pos g2] at h ⊢
        have h : val (t, n, (r : Int)) = v := Res.val.inj h
        refine ⟨[(t, k, (r : Int))], r, rfl, h, by rw [← h]; exact g2, g, fun y hy => ?_⟩
        rw [List.mem_singleton.mp hy]
        exact .inr ⟨r, rfl⟩
      · rw [if_neg g2] at h ⊢
        obtain ⟨pre, r', h1, h2, h3, h4, h5⟩ := grpGo_end ho (rs := rs) h
        refine ⟨(t, k, (r : Int)) :: (t, n, (r : Int)) :: pre, r', by rw [h1]; rfl, h2, h3, h4, fun y hy => ?_⟩
        rcases List.mem_cons.mp hy with e | hy
        · exact .inr ⟨r, e⟩
        · rcases List.mem_cons.mp hy with e | hy
          · rw [e]; exact .inl (by simpa using g2)
          · exact h5 y hy
    · rw [if_neg g] at h ⊢
      obtain ⟨pre, r', h1, h2, h3, h4, h5⟩ := grpGo_end ho (rs := rs) h
      refine ⟨(t, k, (r : Int)) :: pre, r', by rw [h1]; rfl, h2, h3, h4, fun y hy => ?_⟩
      rcases List.mem_cons.mp hy with e | hy
      · exact .inr ⟨r, e⟩
      · exact h5 y hy
theorem lkGo_end {kvs : List (List Key × V)} {own pl : V} {o th : Str} {zs : List Str} : ∀ {rs : List Nat} {v : V}, (lkGo kvs own pl o th zs rs).2 = .val v → v = pl ∨ ∃ (pre : List Spot3) (y : Str) (r : Nat), (lkGo kvs own pl o th zs rs).1 = pre ++ [(o, y, (r : Int))] ∧ valAt kvs (o, y, (r : Int)) = v ∧ isRef v = true ∧ valAt kvs (o, th, (r : Int)) = own ∧ ∀ x ∈ pre, isRef (valAt kvs x) = false ∨ ∃ r' : Nat, x = (o, th, (r' : Int))
  | [], _, h => .inl (Res.val.inj h).symm
  | r :: rs, v, h => by
    rw [lkGo_cons] at h ⊢
    by_cases g : valAt kvs (o, th, (r : Int)) = own
    · rw [if_pos g] at h ⊢
      obtain ⟨pre, z, h1, h2, h3, h4, h5⟩ := turnGo_end (val := valAt kvs) (zs := rowOf o r zs) (acc := []) h
      obtain ⟨y, hy, rfl⟩ := List.mem_map.mp h4
      have h1 : (turnOf kvs (rowOf o r zs)).1 = pre ++ [(o, y, (r : Int))] := h1
      refine .inr ⟨(o, th, (r : Int)) :: pre, y, r, by rw [h1]; rfl, h2, h3, g, fun x hx => ?_⟩
      rcases List.mem_cons.mp hx with e | hx
      · exact .inr ⟨r, e⟩
      · exact .inl (h5 x hx)
    · rw [if_neg g] at h ⊢
      rcases lkGo_end (rs := rs) h with e | ⟨pre, y, r', h1, h2, h3, h4, h5⟩
      · exact .inl e
      · refine .inr ⟨(o, th, (r : Int)) :: pre, y, r', by rw [h1]; rfl, h2, h3, h4, fun x hx => ?_⟩
        rcases List.mem_cons.mp hx with e | hx
        · exact .inr ⟨r, e⟩
        · exact h5 x hx
theorem gatU_end {pl : V} {kvs : List (List Key × V)} {rows : List (Key × V)} {rk : RK} {t c : Str} {p : Nat} {v : V} (hp : isRef pl = true) (h : (gatU pl kvs rows rk t c p).2 = .val v) :
    (isRef v = false ∧ ∃ n, rk = .mend n) ∨ (v = pl ∧ ∃ k o th zs, rk = .lookup k o th zs) ∨ (isRef v = true ∧ (∀ n, rk ≠ .mend n) ∧ EndsAt (valAt kvs) (gatU pl kvs rows rk t c p).1 v) := by
  have turn : ∀ {zs : List Spot3} {v : V}, (turnOf kvs zs).2 = .val v → isRef v = true ∧ EndsAt (valAt kvs) (turnOf kvs zs).1 v := fun {zs v} h => by
    obtain ⟨pre, z, h1, h2, h3, _, h5⟩ := turnGo_end (val := valAt kvs) (zs := zs) (acc := []) h
    exact ⟨h3, pre, z, h1, h2, fun m => by have := h5 z m; rw [h2, h3] at this; cases this⟩
  cases rk with
  | cells zs =>
    obtain ⟨a, b⟩ := turn (zs := rowOf t p zs) h
    exact .inr (.inr ⟨a, (fun n z => by cases z), b⟩)
  | above i zs =>
    have h : (gatAbove kvs rows (i, zs) t c p).2 = .val v := h
    show _ ∨ _ ∨ (_ ∧ _ ∧ EndsAt _ (gatAbove kvs rows (i, zs) t c p).1 v)
    unfold gatAbove at h ⊢
    by_cases g : 0 < p
    · rw [if_pos g] at h ⊢
      obtain ⟨a, b⟩ := turn h
      exact .inr (.inr ⟨a, (fun n z => by cases z), b⟩)
    · rw [if_neg g] at h ⊢
      have h' : (turnOf kvs (rowOf t p zs)).2 = .val v := by
        unfold ahead at h
        cases e : (turnOf kvs (rowOf t p zs)).2 with
        | val u => simp only [e] at h; exact h
        | call xs => simp only [e] at h; cases h
      obtain ⟨a, b⟩ := turn h'
      exact .inr (.inr ⟨a, (fun n z => by cases z), b⟩)
  | group k n =>
    have h : (gatGroup kvs rows (k, n) t c p).2 = .val v := h
    show _ ∨ _ ∨ (_ ∧ _ ∧ EndsAt _ (gatGroup kvs rows (k, n) t c p).1 v)
    unfold gatGroup at h ⊢
    by_cases g : isRef (valAt kvs (t, k, (p : Int))) = true
    · rw [if_pos g] at h ⊢
      have h : valAt kvs (t, k, (p : Int)) = v := Res.val.inj h
      exact .inr (.inr ⟨by rw [← h]; exact g, (fun n z => by cases z), [], _, rfl, h, by simp⟩)
    · rw [if_neg g] at h ⊢
      have g' : isRef (valAt kvs (t, k, (p : Int))) = false := by simpa using g
      obtain ⟨pre, r, h1, h2, h3, h4, h5⟩ := grpGo_end g' h
      refine .inr (.inr ⟨h3, (fun n z => by cases z), (t, k, (p : Int)) :: pre, _, by rw [h1]; rfl, h2, fun m => ?_⟩)
      have key : ∀ r' : Int, (t, n, (r : Int)) = (t, k, r') → False := fun r' e => by
        have e1 : n = k := by injection e with _ e; injection e
        have h4' : valAt kvs (t, k, (r : Int)) = valAt kvs (t, k, (p : Int)) := h4
        have h2' : valAt kvs (t, n, (r : Int)) = v := h2
        rw [e1] at h2'
        rw [h2'] at h4'
        rw [← h4', h3] at g'
        cases g'
      rcases List.mem_cons.mp m with e | m
      · exact key _ e
      · rcases h5 _ m with e | ⟨r', e⟩
        · rw [h2, h3] at e; cases e
        · exact key _ e
  | lookup k o th zs =>
    have h : (gatLookup pl kvs rows (k, o, th, zs) t c p).2 = .val v := h
    show _ ∨ _ ∨ (_ ∧ _ ∧ EndsAt _ (gatLookup pl kvs rows (k, o, th, zs) t c p).1 v)
    unfold gatLookup at h ⊢
    by_cases g : isRef (valAt kvs (t, k, (p : Int))) = true
    · rw [if_pos g] at h ⊢
      have h : valAt kvs (t, k, (p : Int)) = v := Res.val.inj h
      exact .inr (.inr ⟨by rw [← h]; exact g, (fun n z => by cases z), [], _, rfl, h, by simp⟩)
    · rw [if_neg g] at h ⊢
      have g' : isRef (valAt kvs (t, k, (p : Int))) = false := by simpa using g
      rcases lkGo_end h with e | ⟨pre, y, r, h1, h2, h3, h4, h5⟩
      · exact .inr (.inl ⟨e, k, o, th, zs, rfl⟩)
      · refine .inr (.inr ⟨h3, (fun n z => by cases z), (t, k, (p : Int)) :: pre, _, by rw [h1]; rfl, h2, fun m => ?_⟩)
        rcases List.mem_cons.mp m with e | m
        · rw [e] at h2
          rw [h2, h3] at g'
          cases g'
        · rcases h5 _ m with e | ⟨r', e⟩
          · rw [h2, h3] at e; cases e
          · have e1 : y = th := by injection e with _ e; injection e
            have h4' : valAt kvs (o, th, (r : Int)) = valAt kvs (t, k, (p : Int)) := h4
            have h2' : valAt kvs (o, y, (r : Int)) = v := h2
            rw [e1] at h2'
            rw [h2'] at h4'
            rw [← h4', h3] at g'
            cases g'
  | mend n =>
    have h : mendRes (valAt kvs (t, n, (p : Int))) = .val v := h
    unfold mendRes at h
    split at h
    · cases h
    · rename_i g
      have h := Res.val.inj h
      exact .inl ⟨by rw [← h]; simpa using g, n, rfl⟩
theorem gatU_none {pl : V} {kvs : List (List Key × V)} {rows : List (Key × V)} {rk : RK} {t c : Str} {p : Nat} (h : (gatU pl kvs rows rk t c p).1 = []) :
    (gatU pl kvs rows rk t c p).2 = .call [] ∨ ∃ i zs, rk = .above i zs ∧ (gatU pl kvs rows rk t c p).2 = .call [.int i] := by
  have turn : ∀ {zs : List Spot3}, (turnOf kvs zs).1 = [] → zs = [] := fun {zs} h => by
    cases zs with
    | nil => rfl
    | cons z r =>
      have e : turnOf kvs (z :: r) = if isRef (valAt kvs z) then ([z], .val (valAt kvs z)) else (z :: (turnGo (valAt kvs) r ([] ++ [valAt kvs z])).1, (turnGo (valAt kvs) r ([] ++ [valAt kvs z])).2) := rfl
      rw [e] at h
      split at h <;> cases h
  cases rk with
  | cells zs =>
    left
    have := turn (zs := rowOf t p zs) h
    show (turnOf kvs (rowOf t p zs)).2 = _
    rw [this]
    rfl
  | above i zs =>
    right
    refine ⟨i, zs, rfl, ?_⟩
    have h : (gatAbove kvs rows (i, zs) t c p).1 = [] := h
    show (gatAbove kvs rows (i, zs) t c p).2 = _
    unfold gatAbove at h ⊢
    by_cases g : 0 < p
    · rw [if_pos g] at h
      cases turn h
    · rw [if_neg g] at h ⊢
      have := turn (zs := rowOf t p zs) h
      show (ahead i (turnOf kvs (rowOf t p zs))).2 = _
      rw [this]
      rfl
  | group k n =>
    have h : (gatGroup kvs rows (k, n) t c p).1 = [] := h
    unfold gatGroup at h
    split at h <;> cases h
  | lookup k o th zs =>
    have h : (gatLookup pl kvs rows (k, o, th, zs) t c p).1 = [] := h
    unfold gatLookup at h
    split at h <;> cases h
  | mend n => cases h
/-! ### the numbers -/
theorem turnGo_call {val : Spot3 → V} : ∀ {zs : List Spot3} {acc xs : List V}, (turnGo val zs acc).2 = .call xs → ∀ x ∈ xs, x ∈ acc ∨ ∃ z ∈ (turnGo val zs acc).1, x = val z ∧ isRef (val z) = false
  | [], acc, xs, h, x, hx => by
    have h : acc = xs := Res.call.inj h
    exact .inl (by rw [h]; exact hx)
  | y :: r, acc, xs, h, x, hx => by
    have e : turnGo val (y :: r) acc = if isRef (val y) then ([y], .val (val y)) else (y :: (turnGo val r (acc ++ [val y])).1, (turnGo val r (acc ++ [val y])).2) := rfl
    rw [e] at h ⊢
    by_cases g : isRef (val y) = true
    · rw [if_pos g] at h; cases h
    · rw [if_neg g] at h ⊢
      rcases turnGo_call (zs := r) h x hx with h' | ⟨z, hz, h'⟩
      · rcases List.mem_append.mp h' with h' | h'
        · exact .inl h'
        · exact .inr ⟨y, by simp, List.mem_singleton.mp h', by simpa using g⟩
      · exact .inr ⟨z, List.mem_cons_of_mem _ hz, h'⟩
theorem grpGo_call {val : Spot3 → V} {own : V} {t k n : Str} : ∀ {rs : List Nat} {acc xs : List V}, (grpGo val own t k n rs acc).2 = .call xs → ∀ x ∈ xs, x ∈ acc ∨ ∃ z ∈ (grpGo val own t k n rs acc).1, x = val z ∧ isRef (val z) = false
  | [], acc, xs, h, x, hx => by
    have h : acc = xs := Res.call.inj h
    exact .inl (by rw [h]; exact hx)
  | r :: rs, acc, xs, h, x, hx => by
    rw [grpGo_cons] at h ⊢
    by_cases g : val (t, k, (r : Int)) = own
    · rw [if_pos g] at h ⊢
      by_cases g2 : isRef (val (t, n, (r : Int))) = true
      · rw [if_pos g2] at h; cases h
      · rw [if_neg g2] at h ⊢
        rcases grpGo_call (rs := rs) h x hx with h' | ⟨z, hz, h'⟩
        · rcases List.mem_append.mp h' with h' | h'
          · exact .inl h'
          · exact .inr ⟨(t, n, (r : Int)), by simp, List.mem_singleton.mp h', by simpa using g2⟩
        · exact .inr ⟨z, by simp [hz], h'⟩
    · rw [if_neg g] at h ⊢
      rcases grpGo_call (rs := rs) h x hx with h' | ⟨z, hz, h'⟩
      · exact .inl h'
      · exact .inr ⟨z, by simp [hz], h'⟩
theorem lkGo_call {kvs : List (List Key × V)} {own pl : V} {o th : Str} {zs : List Str} : ∀ {rs : List Nat} {xs : List V}, (lkGo kvs own pl o th zs rs).2 = .call xs → ∀ x ∈ xs, ∃ z ∈ (lkGo kvs own pl o th zs rs).1, x = valAt kvs z ∧ isRef (valAt kvs z) = false
  | [], xs, h, x, hx => by cases h
  | r :: rs, xs, h, x, hx => by
    rw [lkGo_cons] at h ⊢
    by_cases g : valAt kvs (o, th, (r : Int)) = own
    · rw [if_pos g] at h ⊢
      rcases turnGo_call (val := valAt kvs) (zs := rowOf o r zs) (acc := []) h x hx with h' | ⟨z, hz, h'⟩
      · simp at h'
      · exact ⟨z, List.mem_cons_of_mem _ hz, h'⟩
    · rw [if_neg g] at h ⊢
      obtain ⟨z, hz, h'⟩ := lkGo_call (rs := rs) h x hx
      exact ⟨z, List.mem_cons_of_mem _ hz, h'⟩
theorem gatU_call {pl : V} {kvs : List (List Key × V)} {rows : List (Key × V)} {rk : RK} {t c : Str} {p : Nat} {xs : List V} (h : (gatU pl kvs rows rk t c p).2 = .call xs) : ∀ x ∈ xs, (∃ i, x = .int i) ∨ ∃ z ∈ (gatU pl kvs rows rk t c p).1, x = valAt kvs z ∧ isRef (valAt kvs z) = false := by
  intro x hx
  have turn : ∀ {zs : List Spot3} {xs : List V}, (turnOf kvs zs).2 = .call xs → ∀ x ∈ xs, ∃ z ∈ (turnOf kvs zs).1, x = valAt kvs z ∧ isRef (valAt kvs z) = false := fun {zs xs} h x hx => by
    rcases turnGo_call (val := valAt kvs) (zs := zs) (acc := []) h x hx with h' | h'
    · simp at h'
    · exact h'
  cases rk with
  | cells zs => exact .inr (turn (zs := rowOf t p zs) h x hx)
  | above i zs =>
    have h : (gatAbove kvs rows (i, zs) t c p).2 = .call xs := h
    show _ ∨ ∃ z ∈ (gatAbove kvs rows (i, zs) t c p).1, _
    unfold gatAbove at h ⊢
    by_cases g : 0 < p
    · rw [if_pos g] at h ⊢
      exact .inr (turn h x hx)
    · rw [if_neg g] at h ⊢
      unfold ahead at h ⊢
      cases e : (turnOf kvs (rowOf t p zs)).2 with
      | val u => simp only [e] at h; cases h
      | call ys =>
        simp only [e] at h
        have h : V.int i :: ys = xs := Res.call.inj h
        rw [← h] at hx
        rcases List.mem_cons.mp hx with hx | hx
        · exact .inl ⟨i, hx⟩
        · exact .inr (turn e x hx)
  | group k n =>
    have h : (gatGroup kvs rows (k, n) t c p).2 = .call xs := h
    show _ ∨ ∃ z ∈ (gatGroup kvs rows (k, n) t c p).1, _
    unfold gatGroup at h ⊢
    split at h
    · cases h
    · rename_i g
      rw [if_neg g]
      rcases grpGo_call h x hx with h' | ⟨z, hz, h'⟩
      · simp at h'
      · exact .inr ⟨z, List.mem_cons_of_mem _ hz, h'⟩
  | lookup k o th zs =>
    have h : (gatLookup pl kvs rows (k, o, th, zs) t c p).2 = .call xs := h
    show _ ∨ ∃ z ∈ (gatLookup pl kvs rows (k, o, th, zs) t c p).1, _
    unfold gatLookup at h ⊢
    split at h
    · cases h
    · rename_i g
      rw [if_neg g]
      obtain ⟨z, hz, h'⟩ := lkGo_call h x hx
      exact .inr ⟨z, List.mem_cons_of_mem _ hz, h'⟩
  | mend n =>
    have h : mendRes (valAt kvs (t, n, (p : Int))) = .call xs := h
    unfold mendRes at h
    split at h
    · have h := Res.call.inj h
      rw [← h] at hx
      simp at hx
    · cases h
end My

namespace My
open PySem L2
def NoGL (fs : List (Str × V)) : Prop := fs.lookup ("gather" : Str) = none ∧ fs.lookup ("leans" : Str) = none
/-- a rule stands at p; its list of names stands where O allows -/
def RuleAt (O : Addr → Prop) (K : PySem.W.Frag) (mg : Str → Option Value) (H : Hp) (p : Addr) : RK → Prop
  | .cells zs => ∃ C dx fs r, TCells K mg C ∧ H p = some (.ins C dx fs) ∧ NoGL fs ∧ fs.lookup ("names" : Str) = some (.ref r) ∧ H r = some (.lst (zs.map V.str)) ∧ O r ∧ (∀ z ∈ zs, Nl z) ∧ zs.length ≤ 6
  | .above i zs => ∃ C dx fs r, TAbove K mg C ∧ H p = some (.ins C dx fs) ∧ NoGL fs ∧ fs.lookup ("names" : Str) = some (.ref r) ∧ fs.lookup ("first" : Str) = some (.int i) ∧ H r = some (.lst (zs.map V.str)) ∧ O r ∧ (∀ z ∈ zs, Nl z) ∧ zs.length ≤ 6
  | .group k n => ∃ C dx fs, TGroup K mg C ∧ H p = some (.ins C dx fs) ∧ NoGL fs ∧ fs.lookup ("key" : Str) = some (.str k) ∧ fs.lookup ("name" : Str) = some (.str n) ∧ Nl k ∧ Nl n
  | .lookup k o th zs => ∃ C dx fs r, TLookup K mg C ∧ H p = some (.ins C dx fs) ∧ NoGL fs ∧ fs.lookup ("key" : Str) = some (.str k) ∧ fs.lookup ("other" : Str) = some (.str o) ∧ fs.lookup ("theirs" : Str) = some (.str th) ∧ fs.lookup ("names" : Str) = some (.ref r) ∧
      H r = some (.lst (zs.map V.str)) ∧ O r ∧ Nl k ∧ Nl o ∧ Nl th ∧ (∀ z ∈ zs, Nl z) ∧ zs.length ≤ 6
  | .mend n => ∃ C dx fs, TMend K mg C ∧ H p = some (.ins C dx fs) ∧ NoGL fs ∧ fs.lookup ("name" : Str) = some (.str n) ∧ Nl n
section
variable {P : Program} {w : World} {K : PySem.W.Frag} {mg : Str → Option Value} {base : Heap}
theorem RuleAt.keep {O O' : Addr → Prop} {H H' : Hp} {p : Addr} {rk : RK} (k : ∀ b u, (∀ φ, u ≠ .ext φ) → (b = p ∨ O b) → H b = some u → H' b = some u) (ho : ∀ b, O b → O' b) (h : RuleAt O K mg H p rk) : RuleAt O' K mg H' p rk := by
  cases rk with
  | cells zs =>
    obtain ⟨C, dx, fs, r, h1, h2, h3, h4, h5, h6, h7⟩ := h
    exact ⟨C, dx, fs, r, h1, k _ _ (fun φ z => by cases z) (.inl rfl) h2, h3, h4, k _ _ (fun φ z => by cases z) (.inr h6) h5, ho _ h6, h7⟩
  | above i zs =>
    obtain ⟨C, dx, fs, r, h1, h2, h3, h4, h4', h5, h6, h7⟩ := h
    exact ⟨C, dx, fs, r, h1, k _ _ (fun φ z => by cases z) (.inl rfl) h2, h3, h4, h4', k _ _ (fun φ z => by cases z) (.inr h6) h5, ho _ h6, h7⟩
  | group a n =>
    obtain ⟨C, dx, fs, h1, h2, h3⟩ := h
    exact ⟨C, dx, fs, h1, k _ _ (fun φ z => by cases z) (.inl rfl) h2, h3⟩
  | lookup a o th zs =>
    obtain ⟨C, dx, fs, r, h1, h2, h3, h4, h4', h4'', h4', h5, h6, h7⟩ := h
    exact ⟨C, dx, fs, r, h1, k _ _ (fun φ z => by cases z) (.inl rfl) h2, h3, h4, by assumption, by assumption, by assumption, k _ _ (fun φ z => by cases z) (.inr h6) h5, ho _ h6, h7⟩
  | mend n =>
    obtain ⟨C, dx, fs, h1, h2, h3⟩ := h
    exact ⟨C, dx, fs, h1, k _ _ (fun φ z => by cases z) (.inl rfl) h2, h3⟩
abbrev AnyA : Addr → Prop := fun _ => True
theorem RuleAt.keepC {H H' : Hp} {p : Addr} {rk : RK} (s : KeepC H H') (h : RuleAt AnyA K mg H p rk) : RuleAt AnyA K mg H' p rk := h.keep (fun b u n _ e => s b u n e) fun _ z => z
/-! ### gather, whatever the kind -/
def GatR (P : Program) (w : World) (K : PySem.W.Frag) (mg : Str → Option Value) (base : Heap) (pl : V) (C : Addr) (sp : Sp) : Prop :=
  (TCells K mg C ∧ sp = spGat P w K mg base (NmAt C) gatCells okCells) ∨ (TAbove K mg C ∧ sp = spGat P w K mg base (AbAt C) gatAbove okAbove) ∨ (TGroup K mg C ∧ sp = spGat P w K mg base (KyAt2 C) gatGroup okGroup) ∨
  (TLookup K mg C ∧ sp = spGat P w K mg base (LkAt4 C) (gatLookup pl) okLookup) ∨ (TMend K mg C ∧ sp = spGat P w K mg base (atMend C) gatMend okMend)
theorem gatR_ok (T : Tops K mg) {pa : Addr} (hpl : mg "LACKS" = some (.ref pa)) : ∀ C sp, GatR P w K mg base (.ref pa) C sp → Cls K C ∧ KnownM P w K mg base CX0 4 C "gather" ["self", "look", "many", "table", "column", "place"] sp := by
  rintro C sp (⟨Y, rfl⟩ | ⟨Y, rfl⟩ | ⟨Y, rfl⟩ | ⟨Y, rfl⟩ | ⟨Y, rfl⟩)
  · exact ⟨Y.cl, k_Cells_gather T Y⟩
  · exact ⟨Y.cl, k_Above_gather T Y⟩
  · exact ⟨Y.cl, (k_Group_gather T Y).le (by decide)⟩
  · exact ⟨Y.cl, k_Lookup_gather T Y hpl⟩
  · exact ⟨Y.cl, (k_Mend_gather T Y).le (by decide)⟩
theorem ref_inj {x : Str} {a b : Addr} (h : mg x = some (.ref a)) (h' : mg x = some (.ref b)) : a = b := by
  rw [h] at h'
  cases h'
  rfl
/-- one rule's promise is its kind's -/
theorem gat_of {pl : V} {p : Addr} {rk : RK} {H : Hp} (h : RuleAt AnyA K mg H p rk) : ∃ C dx fs sp, GatR P w K mg base pl C sp ∧ H p = some (.ins C dx fs) ∧ fs.lookup ("gather" : Str) = none ∧
    ∀ vs H Q E, spGat P w K mg base (fun H q r => q = p ∧ r = rk ∧ RuleAt AnyA K mg H q r) (gatU pl) okU vs H Q E → sp vs H Q E := by
  cases rk with
  | cells zs =>
    obtain ⟨C, dx, fs, r, Y, h2, h3, _⟩ := h
    refine ⟨C, dx, fs, _, .inl ⟨Y, rfl⟩, h2, h3.1, fun vs H Q E h => ?_⟩
    have tr : ∀ {H : Hp}, RuleAt AnyA K mg H p (.cells zs) → NmAt C H p zs := fun {H} ⟨C', dx, fs, r, Y', g1, g2, g3, g4, _, g5, _⟩ => by
      cases ref_inj Y'.c Y.c
      exact ⟨dx, fs, r, g1, g3, g2.1, g4, g5⟩
    obtain ⟨self, look, many, nl, wd, rd, t, c, q, LP, LM, kvs, rows, rl, e, ⟨rfl, rfl, ha⟩, hb, ok, F1, F2, S, k⟩ := h
    exact ⟨self, look, many, nl, wd, rd, t, c, q, LP, LM, kvs, rows, zs, e, tr ha, fun H' b => tr (hb H' b).2.2, ok, F1, F2, S, k⟩
  | above i zs =>
    obtain ⟨C, dx, fs, r, Y, h2, h3, _⟩ := h
    refine ⟨C, dx, fs, _, .inr (.inl ⟨Y, rfl⟩), h2, h3.1, fun vs H Q E h => ?_⟩
    have tr : ∀ {H : Hp}, RuleAt AnyA K mg H p (.above i zs) → AbAt C H p (i, zs) := fun {H} ⟨C', dx, fs, r, Y', g1, g2, g3, g3', g4, _, g5, _⟩ => by
      cases ref_inj Y'.c Y.c
      exact ⟨⟨dx, fs, r, g1, g3, g2.1, g4, g5⟩, dx, fs, g1, g3'⟩
    obtain ⟨self, look, many, nl, wd, rd, t, c, q, LP, LM, kvs, rows, rl, e, ⟨rfl, rfl, ha⟩, hb, ok, F1, F2, S, k⟩ := h
    exact ⟨self, look, many, nl, wd, rd, t, c, q, LP, LM, kvs, rows, (i, zs), e, tr ha, fun H' b => tr (hb H' b).2.2, ok, F1, F2, S, k⟩
  | group a n =>
    obtain ⟨C, dx, fs, Y, h2, h3, _⟩ := h
    refine ⟨C, dx, fs, _, .inr (.inr (.inl ⟨Y, rfl⟩)), h2, h3.1, fun vs H Q E h => ?_⟩
    have tr : ∀ {H : Hp}, RuleAt AnyA K mg H p (.group a n) → KyAt2 C H p (a, n) := fun {H} ⟨C', dx, fs, Y', g1, g2, g3, g4, g5, g6⟩ => by
      cases ref_inj Y'.c Y.c
      exact ⟨dx, fs, g1, g3, g4, g2.1, g5, g6⟩
    obtain ⟨self, look, many, nl, wd, rd, t, c, q, LP, LM, kvs, rows, rl, e, ⟨rfl, rfl, ha⟩, hb, ok, F1, F2, S, k⟩ := h
    exact ⟨self, look, many, nl, wd, rd, t, c, q, LP, LM, kvs, rows, (a, n), e, tr ha, fun H' b => tr (hb H' b).2.2, ok, F1, F2, S, k⟩
  | lookup a o th zs =>
    obtain ⟨C, dx, fs, r, Y, h2, h3, _⟩ := h
    refine ⟨C, dx, fs, _, .inr (.inr (.inr (.inl ⟨Y, rfl⟩))), h2, h3.1, fun vs H Q E h => ?_⟩
    have tr : ∀ {H : Hp}, RuleAt AnyA K mg H p (.lookup a o th zs) → LkAt4 C H p (a, o, th, zs) := fun {H} ⟨C', dx, fs, r, Y', g1, g2, g3, g4, g5, g6, g7, _, g8, g9, g10, g11, _⟩ => by
      cases ref_inj Y'.c Y.c
      exact ⟨dx, fs, r, g1, g3, g4, g5, g6, g2.1, g7, g8, g9, g10, g11⟩
    obtain ⟨self, look, many, nl, wd, rd, t, c, q, LP, LM, kvs, rows, rl, e, ⟨rfl, rfl, ha⟩, hb, ok, F1, F2, S, k⟩ := h
    exact ⟨self, look, many, nl, wd, rd, t, c, q, LP, LM, kvs, rows, (a, o, th, zs), e, tr ha, fun H' b => tr (hb H' b).2.2, ok, F1, F2, S, k⟩
  | mend n =>
    obtain ⟨C, dx, fs, Y, h2, h3, _⟩ := h
    refine ⟨C, dx, fs, _, .inr (.inr (.inr (.inr ⟨Y, rfl⟩))), h2, h3.1, fun vs H Q E h => ?_⟩
    have tr : ∀ {H : Hp}, RuleAt AnyA K mg H p (.mend n) → atMend C H p n := fun {H} ⟨C', dx, fs, Y', g1, g2, g3, _⟩ => by
      cases ref_inj Y'.c Y.c
      exact ⟨dx, fs, g1, g3, g2.1⟩
    obtain ⟨self, look, many, nl, wd, rd, t, c, q, LP, LM, kvs, rows, rl, e, ⟨rfl, rfl, ha⟩, hb, ok, F1, F2, S, k⟩ := h
    exact ⟨self, look, many, nl, wd, rd, t, c, q, LP, LM, kvs, rows, n, e, tr ha, fun H' b => tr (hb H' b).2.2, ok, F1, F2, S, k⟩
theorem okU_keepC {H H' : Hp} {kvs : List (List Key × V)} {rows : List (Key × V)} {rk : RK} {t c : Str} {p : Nat} (s : KeepC H H') (h : okU H kvs rows rk t c p) : okU H' kvs rows rk t c p := by
  cases rk with
  | cells zs => exact ⟨h.1, h.2.keepC s⟩
  | above i zs => exact ⟨h.1, h.2.1.keepC s, fun g => (h.2.2 g).keepC s⟩
  | group a n => obtain ⟨m, O⟩ := h; exact ⟨m, O.v, O.l, O.p, O.fk.keepC s, O.fn.keepC s⟩
  | lookup a o th zs => obtain ⟨m, O⟩ := h; exact ⟨m, O.keepC s⟩
  | mend n => obtain ⟨v, h1, h2⟩ := h; exact ⟨v, h1, h2.keepC s⟩
theorem k_gathered (T : Tops K mg) {z : Addr × Addr} (B : DefT K mg "_law_gathered" s_law_gathered z) (M : Maker mg base z.1 z.2) {pa : Addr} (hpl : mg "LACKS" = some (.ref pa)) :
    Known P w K mg base CX0 5 "_law_gathered" ["_law_world_here", "_law_rows", "_law_rule", "_law_table_here", "_law_column", "_law_place"] (spGathered (RuleAt AnyA K mg) (gatU (.ref pa)) okU z.2) :=
  k_law_gathered T B M (kg := 4) (by decide) (gatR_ok T hpl) (fun H p rl h => gat_of h) (fun H H' p rl s h => h.keepC s) fun H H' kvs rows rl t c p s h => okU_keepC s h
/-! ### leans, whatever the kind -/
def LeansR (K : PySem.W.Frag) (mg : Str → Option Value) (C : Addr) (sp : Sp) : Prop :=
  (TCells K mg C ∧ sp = L.spLeans K C) ∨ (TAbove K mg C ∧ sp = L.spLeans K C) ∨ (TGroup K mg C ∧ sp = L.spGLeans K C) ∨ (TLookup K mg C ∧ sp = L.spLLeans K C) ∨ (TMend K mg C ∧ sp = L.spMLeans K C)
theorem leansR_ok (T : Tops K mg) : ∀ C sp, LeansR K mg C sp → Cls K C ∧ KnownM P w K mg base CX0 3 C "leans" ["self", "table"] sp := by
  rintro C sp (⟨Y, rfl⟩ | ⟨Y, rfl⟩ | ⟨Y, rfl⟩ | ⟨Y, rfl⟩ | ⟨Y, rfl⟩)
  · exact ⟨Y.cl, L.k_Cells_leans T Y⟩
  · exact ⟨Y.cl, L.k_Above_leans T Y⟩
  · exact ⟨Y.cl, L.k_Group_leans T Y⟩
  · exact ⟨Y.cl, L.k_Lookup_leans T Y⟩
  · exact ⟨Y.cl, L.k_Mend_leans T Y⟩
theorem leans_of {p : Addr} {rk : RK} {H : Hp} {t : Str} (h : RuleAt AnyA K mg H p rk) (ht : Nl t) : ∃ C dx fs sp, LeansR K mg C sp ∧ H p = some (.ins C dx fs) ∧ fs.lookup ("leans" : Str) = none ∧
    ∀ Q E, (∀ H' l ys, Same H H' → H l = none → H' l = some (.lst ys) → Spots K H' ys (leansOf t rk) → Q (.ref l) H') → sp [.ref p, .str t] H Q E := by
  cases rk with
  | cells zs =>
    obtain ⟨C, dx, fs, r, Y, h2, h3, h4, h5, _, h6, h7⟩ := h
    exact ⟨C, dx, fs, _, .inl ⟨Y, rfl⟩, h2, h3.2, fun Q E k => ⟨p, t, zs, rfl, ⟨dx, fs, r, h2, h4, h3.2, h5, h6⟩, h7, ht, k⟩⟩
  | above i zs =>
    obtain ⟨C, dx, fs, r, Y, h2, h3, h4, _, h5, _, h6, h7⟩ := h
    exact ⟨C, dx, fs, _, .inr (.inl ⟨Y, rfl⟩), h2, h3.2, fun Q E k => ⟨p, t, zs, rfl, ⟨dx, fs, r, h2, h4, h3.2, h5, h6⟩, h7, ht, k⟩⟩
  | group a n =>
    obtain ⟨C, dx, fs, Y, h2, h3, h4, h5, h6, h7⟩ := h
    exact ⟨C, dx, fs, _, .inr (.inr (.inl ⟨Y, rfl⟩)), h2, h3.2, fun Q E k => ⟨p, t, a, n, rfl, ⟨dx, fs, h2, h4, h5, h3.2, h6, h7⟩, ht, k⟩⟩
  | lookup a o th zs =>
    obtain ⟨C, dx, fs, r, Y, h2, h3, h4, h5, h6, h7, h8, _, h9, h10, h11, h12, h13⟩ := h
    exact ⟨C, dx, fs, _, .inr (.inr (.inr (.inl ⟨Y, rfl⟩))), h2, h3.2, fun Q E k => ⟨p, t, a, o, th, zs, rfl, ⟨dx, fs, r, h2, h4, h5, h6, h7, h3.2, h8, h9, h10, h11, h12⟩, h13, ht, k⟩⟩
  | mend n =>
    obtain ⟨C, dx, fs, Y, h2, h3, h4, h5⟩ := h
    exact ⟨C, dx, fs, _, .inr (.inr (.inr (.inr ⟨Y, rfl⟩))), h2, h3.2, fun Q E k => ⟨p, dx, fs, t, n, rfl, h2, h4, h5, ht, k⟩⟩
/-! ### isinstance of a rule -/
structure Kin (K : PySem.W.Frag) (mg : Str → Option Value) (A L M : Addr) : Prop where
  a : TAbove K mg A
  l : TLookup K mg L
  m : TMend K mg M
def isAbove : RK → Bool
  | .above _ _ => true
  | _ => false
def isLookup : RK → Bool
  | .lookup _ _ _ _ => true
  | _ => false
def isMend : RK → Bool
  | .mend _ => true
  | _ => false
theorem kin_of {A L M : Addr} (N : Kin K mg A L M) {O : Addr → Prop} {H : Hp} {p : Addr} {rk : RK} (h : RuleAt O K mg H p rk) : ∃ C, TyOf K H (.ref p) (.ref C) ∧ PySem.W.kitOne K (.ref C) (.ref A) = some (isAbove rk) ∧ PySem.W.kitOne K (.ref C) (.ref L) = some (isLookup rk) ∧ PySem.W.kitOne K (.ref C) (.ref M) = some (isMend rk) := by
  have fin : ∀ {C dx : Addr} {fs : List (Str × V)} {ba bl bm : Bool}, H p = some (.ins C dx fs) → Cls K C → PySem.W.findIn K (.ref C) "__class__" = some (some (.builtin "object.__class__")) →
      (PySem.W.mroIn K C (.type "object") = some true ∧ PySem.W.specialIn K (.builtin "object.__class__") "__get__" = some (some (.builtin "getset_descriptor.__get__")) ∧ PySem.W.takesIn K (.builtin "object.__class__") = some true) →
      (∃ D, mg "Above" = some (.ref D) ∧ PySem.W.kitOne K (.ref C) (.ref D) = some ba) → (∃ D, mg "Lookup" = some (.ref D) ∧ PySem.W.kitOne K (.ref C) (.ref D) = some bl) → (∃ D, mg "Mend" = some (.ref D) ∧ PySem.W.kitOne K (.ref C) (.ref D) = some bm) →
      ∃ C, TyOf K H (.ref p) (.ref C) ∧ PySem.W.kitOne K (.ref C) (.ref A) = some ba ∧ PySem.W.kitOne K (.ref C) (.ref L) = some bl ∧ PySem.W.kitOne K (.ref C) (.ref M) = some bm := by
    intro C dx fs ba bl bm e cl hc ⟨o1, o2, o3⟩ ⟨D1, a1, b1⟩ ⟨D2, a2, b2⟩ ⟨D3, a3, b3⟩
    cases ref_inj a1 N.a.c
    cases ref_inj a2 N.l.c
    cases ref_inj a3 N.m.c
    exact ⟨C, .ins e cl hc o2 o3 o1, b1, b2, b3⟩
  cases rk with
  | cells zs => obtain ⟨C, dx, fs, r, Y, h2, _⟩ := h; exact fin h2 Y.cl Y.hc Y.own Y.si_Above Y.si_Lookup Y.si_Mend
  | above i zs => obtain ⟨C, dx, fs, r, Y, h2, _⟩ := h; exact fin h2 Y.cl Y.hc Y.own Y.si_Above Y.si_Lookup Y.si_Mend
  | group a n => obtain ⟨C, dx, fs, Y, h2, _⟩ := h; exact fin h2 Y.cl Y.hc Y.own Y.si_Above Y.si_Lookup Y.si_Mend
  | lookup a o th zs => obtain ⟨C, dx, fs, r, Y, h2, _⟩ := h; exact fin h2 Y.cl Y.hc Y.own Y.si_Above Y.si_Lookup Y.si_Mend
  | mend n => obtain ⟨C, dx, fs, Y, h2, _⟩ := h; exact fin h2 Y.cl Y.hc Y.own Y.si_Above Y.si_Lookup Y.si_Mend
end
end My

namespace My
open PySem L2
section
variable {P : Program} {w : World} {K : PySem.W.Frag} {mg : Str → Option Value} {base : Heap}
def spCellsI (K : PySem.W.Frag) (mg : Str → Option Value) (C : Addr) : Sp := fun vs H Q _ => ∃ (p dx a : Addr) (v : V) (zs : List Str), vs = [.ref p, .ref a, v] ∧ H p = some (.ins C dx []) ∧ SqL K H a (zs.map V.str) ∧ zs.length ≤ 6 ∧ (∀ z ∈ zs, Nl z) ∧ ∀ H', But p H H' → RuleAt (fun r => H r = none) K mg H' p (.cells zs) → Q .non H'
theorem sc_Cells_init : FnScope ["self", "names", "function"] ["self", "names", "function"] (defScope s_Cells_init) := ⟨rfl, rfl, rfl, by decide +kernel, rfl, by decide +kernel, by decide +kernel⟩
theorem k_Cells_init (T : Tops K mg) {R C : Addr} (Z : TRule K mg R) (Y : TCells K mg C) : KnownI P w K mg base CX0 4 C ["self", "names", "function"] (spCellsI K mg C) := by
  have G_init : KnownM P w K mg base CX0 1 R "__init__" ["self", "function"] (spRuleI K) := k_Rule_init T Z
  have G_checked_names : Known P w K mg base CX0 3 "checked_names" ["names"] (spCNames K) := k_checked_names T
  refine (Y.m_init.known sc_Cells_init (fun _ _ _ _ _ _ us hl => match us, hl with | [_, _, _], _ => rfl) (fun vs H Q E h => ?_) (fun f cdv A outer s H vs Q E hr h => ?_)).init Y.mks Y.kc
  · obtain ⟨p, dx, a, v, zs, rfl, _⟩ := h
    rfl
  · obtain ⟨p, dx, a, v, zs, rfl, hp, hq, h6, hz, q⟩ := h
    refine ⟨_, (pss_cons (ps_expr (pe_clsN (pe_gR Z.c) Z.v_init G_init (hr.mono (by decide)) pass0 (pa_cons (pv 0) (pa_cons (pv 2) pa_nil))))
      (pss_one (ps_fld (pv 0) (pe_callN G_checked_names (hr.mono (by decide)) pass0 (pa_cons (pv 1) pa_nil)) rfl))), ?_⟩
    have b1 : But p H (upd H p (.ins C dx (putF "function" v []))) := But.upd
    refine ⟨_, rfl, _, rfl, p, C, dx, [], v, rfl, hp, Y.cl, Y.n_function, by decide, ?_⟩
    refine ⟨_, rfl, a, zs, rfl, sqL_but b1 ⟨_, _, _, hp⟩ hq, h6, hz, fun H2 l s2 hl h2 => ?_⟩
    have nlp : l ≠ p := fun z => by rw [z, upd_same] at hl; cases hl
    refine ⟨_, rfl, p, C, dx, _, rfl, s2 _ _ upd_same, Y.cl, Y.n_names, (by show 1 < 1000; decide), ?_⟩
    exact q _ ((b1.trans (But.of s2)).trans But.upd) ⟨C, dx, _, l, Y, upd_same, ⟨by rw [lookup_putF, if_neg (by decide), lookup_putF, if_neg (by decide)]; rfl, by rw [lookup_putF, if_neg (by decide), lookup_putF, if_neg (by decide)]; rfl⟩, by rw [lookup_putF, if_pos rfl], by rw [upd_ne nlp]; exact h2, by rw [upd_ne nlp] at hl; exact hl, hz, h6⟩
def spAboveI (K : PySem.W.Frag) (mg : Str → Option Value) (C : Addr) : Sp := fun vs H Q _ => ∃ (p dx a : Addr) (i : Int) (v : V) (zs : List Str), vs = [.ref p, .int i, .ref a, v] ∧ numD (.int i) = true ∧ H p = some (.ins C dx []) ∧ SqL K H a (zs.map V.str) ∧ zs.length ≤ 6 ∧ (∀ z ∈ zs, Nl z) ∧ ∀ H', But p H H' → RuleAt (fun r => H r = none) K mg H' p (.above i zs) → Q .non H'
theorem sc_Above_init : FnScope ["self", "first", "names", "function"] ["self", "first", "names", "function"] (defScope s_Above_init) := ⟨rfl, rfl, rfl, by decide +kernel, rfl, by decide +kernel, by decide +kernel⟩
theorem k_Above_init (T : Tops K mg) {R C : Addr} (Z : TRule K mg R) (Y : TAbove K mg C) : KnownI P w K mg base CX0 4 C ["self", "first", "names", "function"] (spAboveI K mg C) := by
  have G_init : KnownM P w K mg base CX0 1 R "__init__" ["self", "function"] (spRuleI K) := k_Rule_init T Z
  have G_checked_names : Known P w K mg base CX0 3 "checked_names" ["names"] (spCNames K) := k_checked_names T
  have G_is_number : Known P w K mg base CX0 2 "is_number" ["thing"] (spNumber K) := k_is_number T
  refine (Y.m_init.known sc_Above_init (fun _ _ _ _ _ _ us hl => match us, hl with | [_, _, _, _], _ => rfl) (fun vs H Q E h => ?_) (fun f cdv A outer s H vs Q E hr h => ?_)).init Y.mks Y.kc
  · obtain ⟨p, dx, a, i, v, zs, rfl, _⟩ := h
    rfl
  · obtain ⟨p, dx, a, i, v, zs, rfl, hi, hp, hq, h6, hz, q⟩ := h
    refine ⟨_, (pss_cons (ps_expr (pe_clsN (pe_gR Z.c) Z.v_init G_init (hr.mono (by decide)) pass0 (pa_cons (pv 0) (pa_cons (pv 3) pa_nil))))
      (pss_cons (ps_fld (pv 0) (pe_callN G_checked_names (hr.mono (by decide)) pass0 (pa_cons (pv 2) pa_nil)) rfl)
      (pss_cons (ps_if (pt_not (pt_val (pe_callN G_is_number (hr.mono (by decide)) pass0 (pa_cons (pv 1) pa_nil)) (fun _ => rfl))) (pss_one ps_dead) pss_nil)
      (pss_one (ps_fld (pv 0) (pv 1) rfl))))), ?_⟩
    have b1 : But p H (upd H p (.ins C dx (putF "function" v []))) := But.upd
    refine ⟨_, rfl, _, rfl, p, C, dx, [], v, rfl, hp, Y.cl, Y.n_function, by decide, ?_⟩
    refine ⟨_, rfl, a, zs, rfl, sqL_but b1 ⟨_, _, _, hp⟩ hq, h6, hz, fun H2 l s2 hl h2 => ?_⟩
    have nlp : l ≠ p := fun z => by rw [z, upd_same] at hl; cases hl
    refine ⟨_, rfl, p, C, dx, _, rfl, s2 _ _ upd_same, Y.cl, Y.n_names, (by show 1 < 1000; decide), ?_⟩
    refine ⟨_, rfl, _, _, rfl, .int i, _, rfl, ?_⟩
    rw [hi]
    refine iteF ?_
    refine ⟨_, rfl, _, rfl, p, C, dx, _, rfl, upd_same, Y.cl, Y.n_first, (by show 2 < 1000; decide), ?_⟩
    exact q _ (((b1.trans (But.of s2)).trans But.upd).trans But.upd) ⟨C, dx, _, l, Y, upd_same, ⟨by rw [lookup_putF, if_neg (by decide), lookup_putF, if_neg (by decide), lookup_putF, if_neg (by decide)]; rfl, by rw [lookup_putF, if_neg (by decide), lookup_putF, if_neg (by decide), lookup_putF, if_neg (by decide)]; rfl⟩, by rw [lookup_putF, if_neg (by decide), lookup_putF, if_pos rfl], by rw [lookup_putF, if_pos rfl], by rw [upd_ne nlp, upd_ne nlp]; exact h2, by rw [upd_ne nlp] at hl; exact hl, hz, h6⟩
def spGroupI (K : PySem.W.Frag) (mg : Str → Option Value) (C : Addr) : Sp := fun vs H Q _ => ∃ (p dx : Addr) (k n : Str) (v : V), vs = [.ref p, .str k, .str n, v] ∧ H p = some (.ins C dx []) ∧ Nl k ∧ Nl n ∧ ∀ H', But p H H' → RuleAt (fun r => H r = none) K mg H' p (.group k n) → Q .non H'
theorem sc_Group_init : FnScope ["self", "key", "name", "function"] ["self", "key", "name", "function"] (defScope s_Group_init) := ⟨rfl, rfl, rfl, by decide +kernel, rfl, by decide +kernel, by decide +kernel⟩
theorem k_Group_init (T : Tops K mg) {R C : Addr} (Z : TRule K mg R) (Y : TGroup K mg C) : KnownI P w K mg base CX0 3 C ["self", "key", "name", "function"] (spGroupI K mg C) := by
  have G_init : KnownM P w K mg base CX0 1 R "__init__" ["self", "function"] (spRuleI K) := k_Rule_init T Z
  have G_check_name : Known P w K mg base CX0 2 "check_name" ["name"] spCName := k_check_name T
  refine (Y.m_init.known sc_Group_init (fun _ _ _ _ _ _ us hl => match us, hl with | [_, _, _, _], _ => rfl) (fun vs H Q E h => ?_) (fun f cdv A outer s H vs Q E hr h => ?_)).init Y.mks Y.kc
  · obtain ⟨p, dx, k, n, v, rfl, _⟩ := h
    rfl
  · obtain ⟨p, dx, k, n, v, rfl, hp, hk, hn, q⟩ := h
    refine ⟨_, (pss_cons (ps_expr (pe_clsN (pe_gR Z.c) Z.v_init G_init (hr.mono (by decide)) pass0 (pa_cons (pv 0) (pa_cons (pv 3) pa_nil))))
      (pss_cons (ps_expr (pe_callN G_check_name (hr.mono (by decide)) pass0 (pa_cons (pv 1) pa_nil)))
      (pss_cons (ps_expr (pe_callN G_check_name (hr.mono (by decide)) pass0 (pa_cons (pv 2) pa_nil)))
      (pss_cons (ps_fld (pv 0) (pv 1) rfl)
      (pss_one (ps_fld (pv 0) (pv 2) rfl)))))), ?_⟩
    have b1 : But p H (upd H p (.ins C dx (putF "function" v []))) := But.upd
    refine ⟨_, rfl, _, rfl, p, C, dx, [], v, rfl, hp, Y.cl, Y.n_function, by decide, ?_⟩
    refine ⟨_, rfl, k, rfl, hk, fun H2 s2 => ⟨_, rfl, n, rfl, hn, fun H3 s3 => ?_⟩⟩
    have s23 := s2.trans s3
    refine ⟨_, rfl, _, rfl, p, C, dx, _, rfl, s23 _ _ upd_same, Y.cl, Y.n_key, (by show 1 < 1000; decide), ?_⟩
    refine ⟨_, rfl, _, rfl, p, C, dx, _, rfl, upd_same, Y.cl, Y.n_name, (by show 2 < 1000; decide), ?_⟩
    exact q _ (((b1.trans (But.of s23)).trans But.upd).trans But.upd) ⟨C, dx, _, Y, upd_same, ⟨by rw [lookup_putF, if_neg (by decide), lookup_putF, if_neg (by decide), lookup_putF, if_neg (by decide)]; rfl, by rw [lookup_putF, if_neg (by decide), lookup_putF, if_neg (by decide), lookup_putF, if_neg (by decide)]; rfl⟩, by rw [lookup_putF, if_neg (by decide), lookup_putF, if_pos rfl], by rw [lookup_putF, if_pos rfl], hk, hn⟩
def spLookupI (K : PySem.W.Frag) (mg : Str → Option Value) (C : Addr) : Sp := fun vs H Q _ => ∃ (p dx a : Addr) (k o th : Str) (v : V) (zs : List Str), vs = [.ref p, .str k, .str o, .str th, .ref a, v] ∧ H p = some (.ins C dx []) ∧ Nl k ∧ Nl o ∧ Nl th ∧ SqL K H a (zs.map V.str) ∧ zs.length ≤ 6 ∧ (∀ z ∈ zs, Nl z) ∧
  ∀ H', But p H H' → RuleAt (fun r => H r = none) K mg H' p (.lookup k o th zs) → Q .non H'
theorem sc_Lookup_init : FnScope ["self", "key", "table", "theirs", "names", "function"] ["self", "key", "table", "theirs", "names", "function"] (defScope s_Lookup_init) := ⟨rfl, rfl, rfl, by decide +kernel, rfl, by decide +kernel, by decide +kernel⟩
theorem k_Lookup_init (T : Tops K mg) {R C : Addr} (Z : TRule K mg R) (Y : TLookup K mg C) : KnownI P w K mg base CX0 4 C ["self", "key", "table", "theirs", "names", "function"] (spLookupI K mg C) := by
  have G_init : KnownM P w K mg base CX0 1 R "__init__" ["self", "function"] (spRuleI K) := k_Rule_init T Z
  have G_check_name : Known P w K mg base CX0 2 "check_name" ["name"] spCName := k_check_name T
  have G_checked_names : Known P w K mg base CX0 3 "checked_names" ["names"] (spCNames K) := k_checked_names T
  refine (Y.m_init.known sc_Lookup_init (fun _ _ _ _ _ _ us hl => match us, hl with | [_, _, _, _, _, _], _ => rfl) (fun vs H Q E h => ?_) (fun f cdv A outer s H vs Q E hr h => ?_)).init Y.mks Y.kc
  · obtain ⟨p, dx, a, k, o, th, v, zs, rfl, _⟩ := h
    rfl
  · obtain ⟨p, dx, a, k, o, th, v, zs, rfl, hp, hk, ho, ht, hq, h6, hz, q⟩ := h
    refine ⟨_, (pss_cons (ps_expr (pe_clsN (pe_gR Z.c) Z.v_init G_init (hr.mono (by decide)) pass0 (pa_cons (pv 0) (pa_cons (pv 5) pa_nil))))
      (pss_cons (ps_expr (pe_callN G_check_name (hr.mono (by decide)) pass0 (pa_cons (pv 1) pa_nil)))
      (pss_cons (ps_expr (pe_callN G_check_name (hr.mono (by decide)) pass0 (pa_cons (pv 2) pa_nil)))
      (pss_cons (ps_expr (pe_callN G_check_name (hr.mono (by decide)) pass0 (pa_cons (pv 3) pa_nil)))
      (pss_cons (ps_fld (pv 0) (pv 1) rfl)
      (pss_cons (ps_fld (pv 0) (pv 2) rfl)
      (pss_cons (ps_fld (pv 0) (pv 3) rfl)
      (pss_one (ps_fld (pv 0) (pe_callN G_checked_names (hr.mono (by decide)) pass0 (pa_cons (pv 4) pa_nil)) rfl))))))))), ?_⟩
    have b1 : But p H (upd H p (.ins C dx (putF "function" v []))) := But.upd
    refine ⟨_, rfl, _, rfl, p, C, dx, [], v, rfl, hp, Y.cl, Y.n_function, by decide, ?_⟩
    refine ⟨_, rfl, k, rfl, hk, fun H2 s2 => ⟨_, rfl, o, rfl, ho, fun H3 s3 => ⟨_, rfl, th, rfl, ht, fun H4 s4 => ?_⟩⟩⟩
    have s24 := (s2.trans s3).trans s4
    refine ⟨_, rfl, _, rfl, p, C, dx, _, rfl, s24 _ _ upd_same, Y.cl, Y.n_key, (by show 1 < 1000; decide), ?_⟩
    refine ⟨_, rfl, _, rfl, p, C, dx, _, rfl, upd_same, Y.cl, Y.n_other, (by show 2 < 1000; decide), ?_⟩
    refine ⟨_, rfl, _, rfl, p, C, dx, _, rfl, upd_same, Y.cl, Y.n_theirs, (by show 3 < 1000; decide), ?_⟩
    have b2 := (((b1.trans (But.of s24)).trans (But.upd (o := .ins C dx (putF "key" (.str k) (putF "function" v []))))).trans (But.upd (o := .ins C dx (putF "other" (.str o) (putF "key" (.str k) (putF "function" v [])))))).trans (But.upd (o := .ins C dx (putF "theirs" (.str th) (putF "other" (.str o) (putF "key" (.str k) (putF "function" v []))))))
    refine ⟨_, rfl, a, zs, rfl, sqL_but b2 ⟨_, _, _, hp⟩ hq, h6, hz, fun H5 l s5 hl h5 => ?_⟩
    have nlp : l ≠ p := fun z => by rw [z, upd_same] at hl; cases hl
    refine ⟨_, rfl, p, C, dx, _, rfl, s5 _ _ upd_same, Y.cl, Y.n_names, (by show 4 < 1000; decide), ?_⟩
    have nH : H l = none := But.none b2 nlp (by exact hl)
    exact q _ ((b2.trans (But.of s5)).trans But.upd) ⟨C, dx, _, l, Y, upd_same, ⟨by rw [lookup_putF, if_neg (by decide), lookup_putF, if_neg (by decide), lookup_putF, if_neg (by decide), lookup_putF, if_neg (by decide), lookup_putF, if_neg (by decide)]; rfl, by rw [lookup_putF, if_neg (by decide), lookup_putF, if_neg (by decide), lookup_putF, if_neg (by decide), lookup_putF, if_neg (by decide), lookup_putF, if_neg (by decide)]; rfl⟩, by rw [lookup_putF, if_neg (by decide), lookup_putF, if_neg (by decide), lookup_putF, if_neg (by decide), lookup_putF, if_pos rfl], by rw [lookup_putF, if_neg (by decide), lookup_putF, if_neg (by decide), lookup_putF, if_pos rfl], by rw [lookup_putF, if_neg (by decide), lookup_putF, if_pos rfl], by rw [lookup_putF, if_pos rfl], by rw [upd_ne nlp]; exact h5, nH, hk, ho, ht, hz, h6⟩
def spMendI (K : PySem.W.Frag) (mg : Str → Option Value) (C : Addr) : Sp := fun vs H Q _ => ∃ (p dx : Addr) (n : Str) (v : V), vs = [.ref p, .str n, v] ∧ H p = some (.ins C dx []) ∧ Nl n ∧ ∀ H', But p H H' → RuleAt (fun r => H r = none) K mg H' p (.mend n) → Q .non H'
theorem sc_Mend_init : FnScope ["self", "name", "function"] ["self", "name", "function"] (defScope s_Mend_init) := ⟨rfl, rfl, rfl, by decide +kernel, rfl, by decide +kernel, by decide +kernel⟩
theorem k_Mend_init (T : Tops K mg) {R C : Addr} (Z : TRule K mg R) (Y : TMend K mg C) : KnownI P w K mg base CX0 3 C ["self", "name", "function"] (spMendI K mg C) := by
  have G_init : KnownM P w K mg base CX0 1 R "__init__" ["self", "function"] (spRuleI K) := k_Rule_init T Z
  have G_check_name : Known P w K mg base CX0 2 "check_name" ["name"] spCName := k_check_name T
  refine (Y.m_init.known sc_Mend_init (fun _ _ _ _ _ _ us hl => match us, hl with | [_, _, _], _ => rfl) (fun vs H Q E h => ?_) (fun f cdv A outer s H vs Q E hr h => ?_)).init Y.mks Y.kc
  · obtain ⟨p, dx, n, v, rfl, _⟩ := h
    rfl
  · obtain ⟨p, dx, n, v, rfl, hp, hn, q⟩ := h
    refine ⟨_, (pss_cons (ps_expr (pe_clsN (pe_gR Z.c) Z.v_init G_init (hr.mono (by decide)) pass0 (pa_cons (pv 0) (pa_cons (pv 2) pa_nil))))
      (pss_cons (ps_expr (pe_callN G_check_name (hr.mono (by decide)) pass0 (pa_cons (pv 1) pa_nil)))
      (pss_one (ps_fld (pv 0) (pv 1) rfl)))), ?_⟩
    have b1 : But p H (upd H p (.ins C dx (putF "function" v []))) := But.upd
    refine ⟨_, rfl, _, rfl, p, C, dx, [], v, rfl, hp, Y.cl, Y.n_function, by decide, ?_⟩
    refine ⟨_, rfl, n, rfl, hn, fun H2 s2 => ?_⟩
    refine ⟨_, rfl, _, rfl, p, C, dx, _, rfl, s2 _ _ upd_same, Y.cl, Y.n_name, (by show 1 < 1000; decide), ?_⟩
    exact q _ ((b1.trans (But.of s2)).trans But.upd) ⟨C, dx, _, Y, upd_same, ⟨by rw [lookup_putF, if_neg (by decide), lookup_putF, if_neg (by decide)]; rfl, by rw [lookup_putF, if_neg (by decide), lookup_putF, if_neg (by decide)]; rfl⟩, by rw [lookup_putF, if_pos rfl], hn⟩
end
end My

namespace My
open PySem L2
abbrev qMade : Str := ("_law_made" : Str) ++ ".<locals>." ++ "<lambda>"
theorem same_of_init {H H' : Hp} {x dx : Addr} {o u : HO} (hx : H x = none) (hd : H dx = none) (b : But x (upd (upd H dx o) x u) H') : Same H H' := fun c q e => b c q (ne_of_none e hx) (by
  rw [upd_ne (ne_of_none e hx), upd_ne (ne_of_none e hd)]
  exact e)
theorem noneS {q : Str} {H H' : Hp} {Z l : Addr} (t : TabIn q H' Z) (s : SameX Z H H') (h : H' l = none) : H l = none := by
  cases e : H l with
  | none => rfl
  | some u =>
    by_cases z : l = Z
    · obtain ⟨S, e', _⟩ := t
      rw [z, e'] at h; cases h
    · rw [s l u z e] at h; cases h
def rkOf (kind : Int) (a b c o : Str) (zs : List Str) : RK := if kind = 0 then .cells zs else if kind = 1 then .above 5 zs else if kind = 2 then .group a b else if kind = 3 then .lookup a o c zs else .mend a
section
variable {P : Program} {w : World} {K : PySem.W.Frag} {mg : Str → Option Value} {base : Heap}
def spMade (K : PySem.W.Frag) (mg : Str → Option Value) (zt : Addr) : Sp := fun vs H Q _ => ∃ (kind : Int) (d e : Addr) (a b c o : Str) (zs : List Str), vs = [.int kind, .ref d, .ref e, .str o] ∧ H d = some (.lst [.str a, .str b, .str c]) ∧ H e = some (.lst (zs.map V.str)) ∧ zs.length ≤ 6 ∧ Nl a ∧ Nl b ∧ Nl c ∧ Nl o ∧ (∀ z ∈ zs, Nl z) ∧
  TabIn qMade H zt ∧ ∀ H' p, SameX zt H H' → TabIn qMade H' zt → H p = none → RuleAt (fun r => H r = none) K mg H' p (rkOf kind a b c o zs) → Q (.ref p) H'
theorem sc_law_made : FnScope ["_law_kind", "_law_names_here", "_law_some", "_law_other"] ["_law_kind", "_law_names_here", "_law_some", "_law_other"] (defScope s_law_made) := ⟨rfl, rfl, rfl, by decide +kernel, rfl, by decide +kernel, by decide +kernel⟩
theorem k_law_made (T : Tops K mg) {z : Addr × Addr} (B : DefT K mg "_law_made" s_law_made z) (M : Maker mg base z.1 z.2) : Known P w K mg base CX0 6 "_law_made" ["_law_kind", "_law_names_here", "_law_some", "_law_other"] (spMade K mg z.2) := by
  obtain ⟨R, Z⟩ := T.t_Rule
  obtain ⟨C0, Y0⟩ := T.t_Cells
  obtain ⟨C1, Y1⟩ := T.t_Above
  obtain ⟨C2, Y2⟩ := T.t_Group
  obtain ⟨C3, Y3⟩ := T.t_Lookup
  obtain ⟨C4, Y4⟩ := T.t_Mend
  have G0 : KnownI P w K mg base CX0 4 C0 ["self", "names", "function"] (spCellsI K mg C0) := k_Cells_init T Z Y0
  have G1 : KnownI P w K mg base CX0 4 C1 ["self", "first", "names", "function"] (spAboveI K mg C1) := k_Above_init T Z Y1
  have G2 : KnownI P w K mg base CX0 3 C2 ["self", "key", "name", "function"] (spGroupI K mg C2) := k_Group_init T Z Y2
  have G3 : KnownI P w K mg base CX0 4 C3 ["self", "key", "table", "theirs", "names", "function"] (spLookupI K mg C3) := k_Lookup_init T Z Y3
  have G4 : KnownI P w K mg base CX0 3 C4 ["self", "name", "function"] (spMendI K mg C4) := k_Mend_init T Z Y4
  refine B.known sc_law_made (fun _ _ _ _ _ _ us hl => match us, hl with | [_, _, _, _], _ => rfl) (fun vs H Q E h => ?_) (fun f A outer s H vs Q E hr h => ?_)
  · obtain ⟨kind, d, e, a, b, c, o, zs, rfl, _⟩ := h
    rfl
  · obtain ⟨kind, d, e, a, b, c, o, zs, rfl, hd, he, h6, ha, hb, hc, ho, hz, hT, q⟩ := h
    refine ⟨_, (pss_cons (ps_if (pt_cmpR op_eq (pv 0) pe_int (nomark _)) (pss_one (ps_ret (pe_makeN G0 (hr.mono (by decide)) Y0.c pass0 (pa_cons (pv 2) (pa_cons (pe_lamF M rfl rfl rfl) pa_nil))))) pss_nil)
      (pss_cons (ps_if (pt_cmpR op_eq (pv 0) pe_int (nomark _)) (pss_one (ps_ret (pe_makeN G1 (hr.mono (by decide)) Y1.c pass0 (pa_cons pe_int (pa_cons (pv 2) (pa_cons (pe_lamF M rfl rfl rfl) pa_nil)))))) pss_nil)
      (pss_cons (ps_if (pt_cmpR op_eq (pv 0) pe_int (nomark _)) (pss_one (ps_ret (pe_makeN G2 (hr.mono (by decide)) Y2.c pass0 (pa_cons (pe_ix ix_list (pv 1) pe_int (fun _ _ => rfl)) (pa_cons (pe_ix ix_list (pv 1) pe_int (fun _ _ => rfl)) (pa_cons (pe_lamF M rfl rfl rfl) pa_nil)))))) pss_nil)
      (pss_cons (ps_if (pt_cmpR op_eq (pv 0) pe_int (nomark _)) (pss_one (ps_ret (pe_makeN G3 (hr.mono (by decide)) Y3.c pass0 (pa_cons (pe_ix ix_list (pv 1) pe_int (fun _ _ => rfl)) (pa_cons (pv 3) (pa_cons (pe_ix ix_list (pv 1) pe_int (fun _ _ => rfl)) (pa_cons (pv 2) (pa_cons (pe_lamF M rfl rfl rfl) pa_nil)))))))) pss_nil)
      (pss_one (ps_ret (pe_makeN G4 (hr.mono (by decide)) Y4.c pass0 (pa_cons (pe_ix ix_list (pv 1) pe_int (fun _ _ => rfl)) (pa_cons (pe_lamF M rfl rfl rfl) pa_nil))))))))), ?_⟩
    -- what a new instance is, in the end
    have fin : ∀ {H1 H' : Hp} {x dx C' : Addr} {rk : RK}, SameX z.2 H H1 → TabIn qMade H1 z.2 → H1 x = none → H1 dx = none → But x (upd (upd H1 dx (.own x)) x (.ins C' dx [])) H' → RuleAt (fun r => upd (upd H1 dx (.own x)) x (.ins C' dx []) r = none) K mg H' x rk → rkOf kind a b c o zs = rk → Q (.ref x) H' := by
      intro H1 H' x dx C' rk sx tb hx hdx bt ra e
      have s1 := same_of_init hx hdx bt
      subst e
      refine q H' x (fun b' u n e' => s1 _ _ (sx b' u n e')) (tabIn_same s1 tb) (noneS tb sx hx) (ra.keep (fun _ _ _ _ e => e) fun r hr => noneS tb sx ?_)
      by_cases z1 : r = x
      · rw [z1]; exact hx
      · by_cases z2 : r = dx
        · rw [z2]; exact hdx
        · rw [upd_ne z1, upd_ne z2] at hr
          exact hr
    have lst : ∀ {H1 : Hp} {x dx C' : Addr}, SameX z.2 H H1 → H1 x = none → H1 dx = none → SqL K (upd (upd H1 dx (.own x)) x (.ins C' dx [])) e (zs.map V.str) := by
      intro H1 x dx C' sx hx hdx
      have he1 : H1 e = some (.lst (zs.map V.str)) := KeepC.tab hT sx _ _ (fun φ z => by cases z) he
      exact SqL.of (by rw [upd_ne (ne_of_none he1 hx), upd_ne (ne_of_none he1 hdx)]; exact he1)
    refine ⟨_, rfl, rfl, _, rfl, ite2 (fun g => ?_) (fun g0 => ?_)⟩
    · have g' : kind = 0 := by simpa using g
      refine ⟨_, rfl, hT, fun lam H1 hlam sx tb _ x dx hx hdx ne => ?_⟩
      exact ⟨x, dx, e, _, zs, rfl, upd_same, lst sx hx hdx, h6, hz, fun H' bt nm => ⟨rfl, fin sx tb hx hdx bt nm (by unfold rkOf; rw [if_pos g'])⟩⟩
    have g0' : ¬ kind = 0 := by simpa using g0
    refine ⟨_, rfl, rfl, _, rfl, ite2 (fun g => ?_) (fun g1 => ?_)⟩
    · have g' : kind = 1 := by simpa using g
      refine ⟨_, rfl, hT, fun lam H1 hlam sx tb _ x dx hx hdx ne => ?_⟩
      exact ⟨x, dx, e, 5, _, zs, rfl, by decide +kernel, upd_same, lst sx hx hdx, h6, hz, fun H' bt nm => ⟨rfl, fin sx tb hx hdx bt nm (by unfold rkOf; rw [if_neg g0', if_pos g'])⟩⟩
    have g1' : ¬ kind = 1 := by simpa using g1
    refine ⟨_, rfl, rfl, _, rfl, ite2 (fun g => ?_) (fun g2 => ?_)⟩
    · have g' : kind = 2 := by simpa using g
      refine ⟨_, rfl, d, _, _, _, rfl, rfl, SqL.of hd, rfl, _, rfl, d, _, _, _, rfl, rfl, SqL.of hd, rfl, hT, fun lam H1 hlam sx tb _ x dx hx hdx ne => ?_⟩
      exact ⟨x, dx, a, b, _, rfl, upd_same, ha, hb, fun H' bt nm => ⟨rfl, fin sx tb hx hdx bt nm (by unfold rkOf; rw [if_neg g0', if_neg g1', if_pos g'])⟩⟩
    have g2' : ¬ kind = 2 := by simpa using g2
    refine ⟨_, rfl, rfl, _, rfl, ite2 (fun g => ?_) (fun g3 => ?_)⟩
    · have g' : kind = 3 := by simpa using g
      refine ⟨_, rfl, d, _, _, _, rfl, rfl, SqL.of hd, rfl, _, rfl, _, rfl, d, _, _, _, rfl, rfl, SqL.of hd, rfl, _, rfl, hT, fun lam H1 hlam sx tb _ x dx hx hdx ne => ?_⟩
      exact ⟨x, dx, e, a, o, c, _, zs, rfl, upd_same, ha, ho, hc, lst sx hx hdx, h6, hz, fun H' bt nm => ⟨rfl, fin sx tb hx hdx bt nm (by unfold rkOf; rw [if_neg g0', if_neg g1', if_neg g2', if_pos g'])⟩⟩
    have g3' : ¬ kind = 3 := by simpa using g3
    refine ⟨_, rfl, d, _, _, _, rfl, rfl, SqL.of hd, rfl, hT, fun lam H1 hlam sx tb _ x dx hx hdx ne => ?_⟩
    exact ⟨x, dx, a, _, rfl, upd_same, ha, fun H' bt nm => ⟨rfl, fin sx tb hx hdx bt nm (by unfold rkOf; rw [if_neg g0', if_neg g1', if_neg g2', if_neg g3'])⟩⟩
end
end My

namespace My
open PySem L2
theorem valV_mem {κ : Type} [DecidableEq κ] {kvs : List (κ × V)} {p : κ × V} (h : p ∈ kvs) : ∃ v, valV kvs p.1 = some v := by
  unfold valV
  cases e : kvs.find? (fun kv => decide (kv.1 = p.1)) with
  | some q => exact ⟨q.2, rfl⟩
  | none => exact absurd (List.find?_eq_none.mp e p h) (by simp)
/-- an entry of the changed world -/
def GoodK (kvs kvs' : List (List Key × V)) (ls : List Spot3) (H : Hp) (key : List Key) : Prop := ∃ (t c : Str) (q : Nat), key = [.inr t, .inr c, .inl (q : Int)] ∧ ((t, c, (q : Int)) ∈ ls → valV kvs' key = valV kvs key) ∧ ((t, c, (q : Int)) ∉ ls → ∃ v, valV kvs' key = some v ∧ WV H v)
theorem GoodK.mono {kvs kvs' kvs'' : List (List Key × V)} {ls : List Spot3} {H H' : Hp} {key : List Key} (h : GoodK kvs kvs' ls H key) (e : valV kvs'' key = valV kvs' key) (hv : ∀ v, WV H v → WV H' v) : GoodK kvs kvs'' ls H' key := by
  obtain ⟨t, c, q, h1, h2, h3⟩ := h
  refine ⟨t, c, q, h1, fun z => e.trans (h2 z), fun z => ?_⟩
  obtain ⟨v, g1, g2⟩ := h3 z
  exact ⟨v, e.trans g1, hv v g2⟩
section
variable {P : Program} {w : World} {K : PySem.W.Frag} {mg : Str → Option Value} {base : Heap}
def spChanged (K : PySem.W.Frag) : Sp := fun vs H Q _ => ∃ (a wd ol : Addr) (ns : List Int) (kvs : List (List Key × V)) (os : List V) (ls : List Spot3), vs = [.ref a, .ref wd, .ref ol] ∧ SqL K H a (ns.map V.int) ∧ ns.length ≤ 63 ∧ H wd = some (.dT kvs) ∧ Kys kvs ∧ kvs.length ≤ 360 ∧ H ol = some (.lst os) ∧ Nts H os ls ∧ (∀ z ∈ ls, Nl z.1 ∧ Nl z.2.1) ∧
  ∀ H' md kvs', Same H H' → H md = none → H' md = some (.dT kvs') → (∀ kv ∈ kvs, GoodK kvs kvs' ls H' kv.1) → Q (.ref md) H'
theorem sc_law_changed : FnScope ["_law_script", "_law_world_here", "_law_once", "_law_made_here", "_law_k", "_law_spot"] ["_law_script", "_law_world_here", "_law_once"] (defScope s_law_changed) := ⟨rfl, rfl, rfl, by decide +kernel, rfl, by decide +kernel, by decide +kernel⟩
theorem k_law_changed (T : Tops K mg) : Known P w K mg base CX0 3 "_law_changed" ["_law_script", "_law_world_here", "_law_once"] (spChanged K) := by
  have G_law_value : Known P w K mg base CX0 2 "_law_value" ["_law_script", "_law_k", "_law_faults"] (spVal K) := k_law_value T
  refine T.d_law_changed.known sc_law_changed (fun _ _ _ _ _ _ us hl => match us, hl with | [_, _, _], _ => rfl) (fun vs H Q E h => ?_) (fun f cdv A outer s H vs Q E hr h => ?_)
  · obtain ⟨a, wd, ol, ns, kvs, os, ls, rfl, _⟩ := h
    rfl
  · obtain ⟨a, wd, ol, ns, kvs, os, ls, rfl, hS, hl, hw, hK, h360, ho, hN, hNl, q⟩ := h
    have hu := hu_of hr
    refine ⟨_, (pss_cons (ps_set (i := 3) sc_law_changed.nd rfl (Or.inl rfl) pe_dnewT)
      (pss_cons (ps_set (i := 4) sc_law_changed.nd rfl (Or.inl rfl) pe_int)
      (pss_cons (ps_forT PassesOwn.never rfl (pv 1) (pg_name (i := 5) sc_law_changed.nd rfl (Or.inl rfl)) (pss_cons (ps_set (i := 4) sc_law_changed.nd rfl (Or.inl rfl) (pe_op op_add (pv 4) pe_int))
      (pss_cons (ps_dput hu (pv 3) (pv 5) (pe_dget hu (pv 1) (pv 5) (fun _ _ => rfl)) rfl)
      (pss_one (ps_if (pt_cmpR (op_notinD hr.units) (pv 5) (pv 2) (by with_unfolding_all rfl)) (pss_one (ps_dput hu (pv 3) (pv 5) (pe_callN G_law_value (hr.mono (by decide)) pass0 (pa_cons (pv 0) (pa_cons (pv 4) (pa_cons pe_int pa_nil)))) rfl)) pss_nil)))))
      (pss_one (ps_ret (pv 3)))))), ?_⟩
    intro md hmd
    have nwm : wd ≠ md := ne_of_none hw hmd
    refine ⟨_, rfl, wd, kvs, rfl, by rw [upd_ne nwm]; exact hw, fun nf ob => ?_⟩
    have hf0 : (upd (upd H md (.dT [])) wd (.frz ob (.dT kvs))) wd = some (.frz ob (.dT kvs)) := upd_same
    have hf1 : (upd (upd H md (.dT [])) wd (.frz ob (.dT kvs))) md = some (.dT []) := by rw [upd_ne nwm.symm, upd_same]
    have hf2 : ∀ b o, b ≠ wd → H b = some o → (upd (upd H md (.dT [])) wd (.frz ob (.dT kvs))) b = some o := fun b o n e => by rw [upd_ne n, upd_ne (ne_of_none e hmd)]; exact e
    generalize upd (upd H md (.dT [])) wd (.frz ob (.dT kvs)) = Hf at hf0 hf1 hf2 ⊢
    refine for_dictT (a := wd) (ob := ob) (kvs := kvs) (fun i σ Hi => ∃ (k' : Nat) (o5 : Option V) (kvs' : List (List Key × V)), σ = [some (.ref a), some (.ref wd), some (.ref ol), some (.ref md), some (.int (k' : Int)), o5] ∧ k' = 2000 + 3 * i ∧ i ≤ kvs.length ∧ But md Hf Hi ∧ Hi md = some (.dT kvs') ∧ kvs'.length ≤ 2 * i ∧ ∀ kv ∈ kvs.take i, GoodK kvs kvs' ls Hi kv.1)
      ⟨2000, _, [], rfl, rfl, Nat.zero_le _, fun b o _ e => e, hf1, Nat.le_refl _, fun kv h => by simp at h⟩ (fun i σ Hi _ ⟨_, _, _, _, _, _, b, _⟩ => b _ _ nwm hf0) ?_ ?_
    · rintro i p b σ Hi hp hb ⟨k', o5, kvs', rfl, hk, hi, bt, hmi, hl', hg⟩
      obtain ⟨t, c, qn, ek, htN, hcN⟩ := hK p (List.mem_of_getElem? hp)
      obtain ⟨v, hv⟩ := valV_mem (List.mem_of_getElem? hp)
      have hii : i < kvs.length := (List.getElem?_eq_some_iff.mp hp).1
      have hwi : Hi wd = some (.frz ob (.dT kvs)) := bt _ _ nwm hf0
      refine ⟨_, rfl, _, _, rfl, rfl, ?_⟩
      refine ⟨_, rfl, _, rfl, wd, v, rfl, .inr ⟨kvs, p.1, b, .inr ⟨ob, hwi⟩, rfl, hb, hv.symm⟩, ?_⟩
      refine ⟨_, rfl, _, rfl, md, _, rfl, DPut.t (k := p.1) hmi hb (small_of (by omega)), ?_⟩
      have hbk : b ≠ md := ne_of hb hmi (fun z => by cases z)
      have hbU : upd Hi md (.dT (putK kvs' p.1 v)) b = some (.tup [.str t, .str c, .int (qn : Int)]) := by
        rw [upd_ne hbk, hb, ek]
        rfl
      have hoi : Hi ol = some (.lst os) := bt _ _ (ne_of_none ho hmd) (hf2 _ _ (ne_of ho hw (fun z => by cases z)) ho)
      have hoU : upd Hi md (.dT (putK kvs' p.1 v)) ol = some (.lst os) := by rw [upd_ne (ne_of_none ho hmd)]; exact hoi
      have tups : ∀ a' xs, H a' = some (.tup xs) → upd Hi md (.dT (putK kvs' p.1 v)) a' = some (.tup xs) := fun a' xs e => by
        rw [upd_ne (ne_of_none e hmd)]
        exact bt _ _ (ne_of_none e hmd) (hf2 _ _ (ne_of e hw (fun z => by cases z)) e)
      have hNU : Nts (upd Hi md (.dT (putK kvs' p.1 v))) os ls := Nts.mapT tups hN
      have hl2 := putK_le kvs' p.1 v
      have wvU : ∀ u, WV Hi u → WV (upd Hi md (.dT (putK kvs' p.1 v))) u := fun u h => h.upd_d hmi (fun xs z => by cases z)
      have btU : But md Hf (upd Hi md (.dT (putK kvs' p.1 v))) := bt.trans But.upd
      have hmU : upd Hi md (.dT (putK kvs' p.1 v)) md = some (.dT (putK kvs' p.1 v)) := upd_same
      have hSU : SqL K (upd Hi md (.dT (putK kvs' p.1 v))) a (ns.map V.int) := by
        rcases hS with (e | ⟨o', e⟩) | e
        · exact .inl (.inl (by rw [upd_ne (ne_of_none e hmd)]; exact bt _ _ (ne_of_none e hmd) (hf2 _ _ (ne_of e hw (fun z => by cases z)) e)))
        · exact .inl (.inr ⟨o', by rw [upd_ne (ne_of_none e hmd)]; exact bt _ _ (ne_of_none e hmd) (hf2 _ _ (ne_of e hw (fun z => by cases z)) e)⟩)
        · exact .inr e
      generalize upd Hi md (.dT (putK kvs' p.1 v)) = HU at hbU hoU hNU wvU btU hmU hSU ⊢
      have lz : (sp3D (t, c, (qn : Int))).canLay0 = true := lay3 htN hcN
      refine ⟨_, rfl, _, rfl, sp3D (t, c, (qn : Int)), ls.map sp3D, .tup (SqT.of hbU) (.cons (.str _) (.cons (.str _) (.cons (.int _) .nil))), .lst (SqL.of hoU) hNU.dt, lz, lay3s hNl, (by show 1 ≤ 62; decide), _, rfl, ?_⟩
      rw [sp3D_any]
      have old : ∀ {HX : Hp} {y : V}, (∀ u, WV Hi u → WV HX u) → GoodK kvs (putK (putK kvs' p.1 v) p.1 y) ls HX p.1 → ∀ kv ∈ kvs.take (i + 1), GoodK kvs (putK (putK kvs' p.1 v) p.1 y) ls HX kv.1 := by
        intro HX y hX hn kv hkv
        by_cases e : kv.1 = p.1
        · rw [e]; exact hn
        · rw [List.take_add_one, hp] at hkv
          rcases List.mem_append.mp hkv with h | h
          · exact (hg kv h).mono (by rw [valV_put, if_neg e, valV_put, if_neg e]) hX
          · simp at h
            rw [h] at e
            exact absurd rfl e
      refine ite2 (fun g => ?_) (fun g => ?_)
      · have g : (t, c, (qn : Int)) ∉ ls := by simpa using g
        refine ⟨_, rfl, _, rfl, a, ns, _, 6, rfl, hSU, hl, by omega, by omega, fun v' H3 s3 hv3 => ?_⟩
        have hb3 : H3 b = some (.tup (p.1.map kV)) := by rw [ek]; exact s3 _ _ hbU
        refine ⟨_, rfl, _, rfl, md, _, rfl, DPut.t (k := p.1) (s3 _ _ hmU) hb3 (small_of (by omega)), ?_⟩
        have hl3 := putK_le (putK kvs' p.1 v) p.1 v'
        have wv3 : ∀ u, WV H3 u → WV (upd H3 md (.dT (putK (putK kvs' p.1 v) p.1 v'))) u := fun u h => h.upd_d (s3 _ _ hmU) (fun xs z => by cases z)
        refine ⟨k' + 3, _, putK (putK kvs' p.1 v) p.1 v', rfl, by omega, by omega, (btU.trans (But.of s3)).trans But.upd, upd_same, by omega, old (fun u h => wv3 u ((wvU u h).keep (Keep.of s3))) ⟨t, c, qn, ek, fun z => absurd z g, fun _ => ⟨v', by rw [valV_put, if_pos rfl], wv3 _ hv3⟩⟩⟩
      · have g : (t, c, (qn : Int)) ∈ ls := by simpa using g
        refine ⟨k' + 3, _, putK kvs' p.1 v, rfl, by omega, by omega, btU, hmU, by omega, fun kv hkv => ?_⟩
        by_cases e : kv.1 = p.1
        · rw [e]
          exact ⟨t, c, qn, ek, fun _ => by rw [valV_put, if_pos rfl, hv], fun z => absurd g z⟩
        · rw [List.take_add_one, hp] at hkv
          rcases List.mem_append.mp hkv with h | h
          · exact (hg kv h).mono (by rw [valV_put, if_neg e]) wvU
          · simp at h
            rw [h] at e
            exact absurd rfl e
    · rintro σ Hi ⟨k', o5, kvs', rfl, hk, hi, bt, hmi, hl', hg⟩
      have hwi : Hi wd = some (.frz ob (.dT kvs)) := bt _ _ nwm hf0
      refine ⟨wd, ob, kvs, nf, hwi, _, rfl, q _ md kvs' (fun b o e => ?_) hmd (by rw [upd_ne nwm.symm]; exact hmi) fun kv hkv => ?_⟩
      · by_cases z : b = wd
        · rw [z] at e ⊢
          rw [upd_same]
          exact hw.symm.trans e
        · rw [upd_ne z]
          exact bt _ _ (ne_of_none e hmd) (hf2 _ _ z e)
      · rw [List.take_of_length_le (Nat.le_refl _)] at hg
        exact (hg kv hkv).mono rfl fun u h => h.upd_d hwi (fun xs z => by cases z)
end
end My

namespace My
open PySem L2
section
variable {P : Program} {w : World} {K : PySem.W.Frag} {mg : Str → Option Value} {base : Heap}
def spLnF (K : PySem.W.Frag) (mg : Str → Option Value) : Sp := fun vs H Q _ => ∃ (p ol : Addr) (rk : RK) (t own : Str) (pl : Nat) (os : List V) (ls : List Spot3), vs = [.ref p, .str t, .str own, .int (pl : Int), .ref ol] ∧ RuleAt AnyA K mg H p rk ∧ Nl t ∧ Nl own ∧ H ol = some (.lst os) ∧ Nts H os ls ∧ (∀ z ∈ ls, Nl z.1 ∧ Nl z.2.1) ∧
  (∀ z ∈ ls, (z.1, z.2.1) ∈ leansOf t rk ∨ (0 < pl ∧ z = (t, own, (pl : Int) - 1) ∧ isAbove rk = true)) ∧ ∀ H', Same H H' → Q (.bl true) H'
theorem sc_law_leans : FnScope ["_law_rule", "_law_table_here", "_law_own", "_law_place", "_law_once", "_law_known", "_law_spot", "_law_above"] ["_law_rule", "_law_table_here", "_law_own", "_law_place", "_law_once"] (defScope s_law_leans) := ⟨rfl, rfl, rfl, by decide +kernel, rfl, by decide +kernel, by decide +kernel⟩
theorem k_law_leans (T : Tops K mg) : Known P w K mg base CX0 4 "_law_leans" ["_law_rule", "_law_table_here", "_law_own", "_law_place", "_law_once"] (spLnF K mg) := by
  obtain ⟨A', YA⟩ := T.t_Above
  obtain ⟨L', YL⟩ := T.t_Lookup
  obtain ⟨M', YM⟩ := T.t_Mend
  refine T.d_law_leans.known sc_law_leans (fun _ _ _ _ _ _ us hl => match us, hl with | [_, _, _, _, _], _ => rfl) (fun vs H Q E h => ?_) (fun f cdv A outer s H vs Q E hr h => ?_)
  · obtain ⟨p, ol, rk, t, own, pl, os, ls, rfl, _⟩ := h
    rfl
  · obtain ⟨p, ol, rk, t, own, pl, os, ls, rfl, hR, ht, hown, hol, hN, hNl, hz, q⟩ := h
    refine ⟨_, (pss_cons (ps_set (i := 5) sc_law_leans.nd rfl (Or.inl rfl) (pe_methD (pv 0) (leansR_ok T) (hr.mono (by decide)) pass0 (pa_cons (pv 1) pa_nil)))
      (pss_cons (ps_for PassesOwn.never rfl (pi_list (pv 4)) (pg_name (i := 6) sc_law_leans.nd rfl (Or.inl rfl)) (pss_cons (ps_set (i := 7) sc_law_leans.nd rfl (Or.inl rfl) (pe_and (pe_cmpR op_gt (pv 3) pe_int (nomark _)) (pe_and (pe_cmpR (op_eqD hr.units) (pv 6) (pe_tup (pa_cons (pv 1) (pa_cons (pv 2) (pa_cons (pe_op op_sub (pv 3) pe_int) pa_nil)))) (nomark _)) (pe_one (pe_callB call_isC rfl T.isinstance b_isinstance (pa_cons (pv 0) (pa_cons (pe_gR YA.c) pa_nil)))))))
      (pss_one (ps_if (PW.pt (pw_and (pt_cmpR (op_notinD hr.units) (pe_tup (pa_cons (pe_ix ix_tup (pv 6) pe_int (fun _ _ => rfl)) (pa_cons (pe_ix ix_tup (pv 6) pe_int (fun _ _ => rfl)) pa_nil))) (pv 5) (by with_unfolding_all rfl)) (pw_and1 (pt_not (pt_val (pv 7) (fun _ => rfl)))))) (pss_one (ps_ret pe_bl)) pss_nil))))
      (pss_one (ps_ret pe_bl)))), ?_⟩
    obtain ⟨C, dx, fs, sp, hRC, hp, hg, hsp⟩ := leans_of hR ht
    refine ⟨_, rfl, C, sp, p, dx, fs, hRC, rfl, hp, hg, _, rfl, ?_⟩
    refine hsp _ _ fun H1 l ys s1 hl0 hl1 hS => ?_
    refine ⟨_, rfl, ol, rfl, ⟨_, SqL.of (s1 _ _ hol)⟩, ?_⟩
    refine for_list (K := K) (a := ol) (xs := os) (fun i σ H2 => ∃ o6 o7, σ = [some (.ref p), some (.str t), some (.str own), some (.int (pl : Int)), some (.ref ol), some (.ref l), o6, o7] ∧ Same H1 H2) ⟨_, _, rfl, Same.refl _⟩ (fun i σ H2 _ ⟨_, _, _, s2⟩ => SqL.of (s2 _ _ (s1 _ _ hol))) ?_ ?_
    · rintro i x σ H2 hx ⟨o6, o7, rfl, s2⟩
      obtain ⟨z, hzi, b, rfl, hb⟩ := hN.at hx
      have hzm : z ∈ ls := List.mem_of_getElem? hzi
      obtain ⟨zn1, zn2⟩ := hNl z hzm
      have s12 := s1.trans s2
      have hb2 := s12 _ _ hb
      refine ⟨_, rfl, _, _, rfl, rfl, _, rfl, ?_⟩
      refine cutA (fun σ' H' => ∃ c, σ' = [some (.ref p), some (.str t), some (.str own), some (.int (pl : Int)), some (.ref ol), some (.ref l), some (.ref b), some (.bl c)] ∧ Same H2 H' ∧ ((z.1, z.2.1) ∈ leansOf t rk ∨ c = true)) ?hA (fun tl => ite2 (fun g1 => ?_) (fun g1 => tl _ H2 ⟨false, rfl, Same.refl _, ?hB⟩))
      case hB =>
        rcases hz z hzm with h | ⟨h0, _⟩
        · exact .inl h
        · exact absurd (by simpa using h0) g1
      case hA =>
        rintro σ' H3 ⟨c, rfl, s3, hc⟩
        have hb3 := s3 _ _ hb2
        have q3 : SqT K H3 b [.str z.1, .str z.2.1, .int z.2.2] := SqT.of hb3
        refine ⟨_, rfl, _, _, _, _, rfl, rfl, q3, rfl, _, rfl, _, _, _, _, rfl, rfl, q3, rfl, sl, fun tp htp => ?_⟩
        have s4 := Same.new (o := .tup [.str z.1, .str z.2.1]) htp
        have s24 := s3.trans s4
        have s14 := s2.trans s24
        refine ⟨_, rfl, spD (z.1, z.2.1), (leansOf t rk).map spD, .tup (SqT.of upd_same) (.cons (.str _) (.cons (.str _) .nil)), .lst (SqL.of (s14 _ _ hl1)) (DtAll.same s14 hS.1), spD_lay zn1 zn2, hS.lay, (show max 0 (max 0 0) + 1 ≤ 62 by decide), _, rfl, ?_⟩
        rw [spD_any]
        refine ite2 (fun g => ?_) (fun g => ?_)
        · rcases hc with hc | hc
          · simp [hc] at g
          · subst hc
            exact ⟨_, rfl, _, rfl, iteF ⟨_, _, rfl, s14⟩⟩
        · exact ⟨_, _, rfl, s14⟩
      · refine ⟨_, rfl, _, rfl, _, rfl, _, rfl, _, _, rfl, rfl, sl, fun tp htp => ?_⟩
        have s3 := Same.new (o := .tup [.str t, .str own, .int ((pl : Int) - 1)]) htp
        refine ⟨sp3D z, sp3D (t, own, (pl : Int) - 1), .tup (SqT.of (s3 _ _ hb2)) (.cons (.str _) (.cons (.str _) (.cons (.int _) .nil))), .tup (SqT.of upd_same) (.cons (.str _) (.cons (.str _) (.cons (.int _) .nil))), lay3 zn1 zn2, lay3 ht hown, (by show 1 ≤ 64; decide), _, rfl, ?_⟩
        rw [sp3D_eqv]
        refine ite2 (fun g2 => ?_) (fun g2 => ?_)
        · obtain ⟨C', ty, kA, _⟩ := kin_of ⟨YA, YL, YM⟩ (hR.keep (fun b' u _ _ e => (s12.trans s3) _ _ e) fun _ z => z)
          refine ⟨_, rfl, _, _, _, _, rfl, ty, kA, tl _ _ ⟨isAbove rk, rfl, s3, ?_⟩⟩
          rcases hz z hzm with h | ⟨_, _, h⟩
          · exact .inl h
          · exact .inr h
        · refine tl _ _ ⟨false, rfl, s3, ?_⟩
          rcases hz z hzm with h | ⟨_, h, _⟩
          · exact .inl h
          · exact absurd (by simpa using h) g2
    · rintro σ H2 ⟨o6, o7, rfl, s2⟩
      exact q H2 (s1.trans s2)
end
end My

namespace My
open PySem L2
def WVs (H : Hp) (kvs : List (List Key × V)) (ls : List Spot3) : Prop := ∀ z ∈ ls, ∃ v, valV kvs [.inr z.1, .inr z.2.1, .inl z.2.2] = some v ∧ WV H v
theorem WVs.at {H : Hp} {kvs : List (List Key × V)} {ls : List Spot3} {z : Spot3} (h : WVs H kvs ls) (hz : z ∈ ls) : valV kvs [.inr z.1, .inr z.2.1, .inl z.2.2] = some (valAt kvs z) ∧ WV H (valAt kvs z) := by
  obtain ⟨v, h1, h2⟩ := h z hz
  have e : valAt kvs z = v := by unfold valAt; rw [h1]; rfl
  rw [e]
  exact ⟨h1, h2⟩
/-- how gathering ended -/
inductive FC (H : Hp) (pa : Addr) (rk : RK) (kvs : List (List Key × V)) (ls : List Spot3) : Res → Prop
  | none0 (h : ls = []) : FC H pa rk kvs ls (.call [])
  | none5 (h : ls = []) : FC H pa rk kvs ls (.call [.int 5])
  | call (h : ls ≠ []) (is : List Int) : FC H pa rk kvs ls (.call (is.map V.int))
  | whole (h : ls ≠ []) (i : Int) (hm : isMend rk = true) : FC H pa rk kvs ls (.val (.int i))
  | lacks (h : ls ≠ []) (hm : isLookup rk = true) : FC H pa rk kvs ls (.val (.ref pa))
  | last (h : ls ≠ []) (a : Addr) (y : Str) (ha : H a = some (.tup [.str ("fault" : Str), .str y])) (hy : Nl y) (pre : List Spot3) (z : Spot3) (he : onceG ls = pre ++ [z]) (hv : valV kvs [.inr z.1, .inr z.2.1, .inl z.2.2] = some (.ref a)) : FC H pa rk kvs ls (.val (.ref a))
theorem ints_all : ∀ {xs : List V}, (∀ x ∈ xs, ∃ i, x = V.int i) → ∃ is : List Int, xs = is.map V.int
  | [], _ => ⟨[], rfl⟩
  | x :: r, h => by
    obtain ⟨i, rfl⟩ := h x (by simp)
    obtain ⟨is, rfl⟩ := ints_all (xs := r) fun y hy => h y (List.mem_cons_of_mem _ hy)
    exact ⟨i :: is, rfl⟩
theorem onceG_nil0 {ls : List Spot3} (h : onceG ls = []) : ls = [] := by
  cases ls with
  | nil => rfl
  | cons z r =>
    have : z ∈ onceG (z :: r) := once_in (acc := []) (.inr List.mem_cons_self)
    rw [h] at this
    cases this
theorem onceG_nil {ls : List Spot3} : onceG ls = [] ↔ ls = [] := ⟨onceG_nil0, fun h => by rw [h]; rfl⟩
theorem fc_of {H : Hp} {pa : Addr} {kvs : List (List Key × V)} {rows : List (Key × V)} {rk : RK} {t c : Str} {p : Nat} (h5 : ∀ i zs, rk = .above i zs → i = 5) (hw : WVs H kvs (gatU (.ref pa) kvs rows rk t c p).1) : FC H pa rk kvs (gatU (.ref pa) kvs rows rk t c p).1 (gatU (.ref pa) kvs rows rk t c p).2 := by
  by_cases e : (gatU (.ref pa) kvs rows rk t c p).1 = []
  · rcases gatU_none e with h | ⟨i, zs, h1, h2⟩
    · rw [h]; exact .none0 e
    · rw [h2, h5 i zs h1]; exact .none5 e
  · cases er : (gatU (.ref pa) kvs rows rk t c p).2 with
    | call xs =>
      obtain ⟨is, rfl⟩ := ints_all (xs := xs) fun x hx => by
        rcases gatU_call er x hx with h | ⟨z, hz, h1, h2⟩
        · exact h
        · rcases (hw.at hz).2 with ⟨i, h⟩ | ⟨a, y, h, _⟩
          · exact ⟨i, h1.trans h⟩
          · rw [h] at h2; cases h2
      exact .call e is
    | val v =>
      rcases gatU_end rfl er with ⟨h1, n, h2⟩ | ⟨h1, k, o, th, zs, h2⟩ | ⟨h1, _, pre, z, h2, h3, h4⟩
      · subst h2
        have er : mendRes (valAt kvs (t, n, (p : Int))) = .val v := er
        have hz : WV H (valAt kvs (t, n, (p : Int))) := (hw.at (z := (t, n, (p : Int))) (by simp [gatU, gatMend])).2
        unfold mendRes at er
        split at er
        · cases er
        · have ev : valAt kvs (t, n, (p : Int)) = v := Res.val.inj er
          rw [ev] at hz
          rcases hz with ⟨i, rfl⟩ | ⟨a, y, rfl, _⟩
          · exact .whole e i rfl
          · cases h1
      · subst h1 h2
        exact .lacks e rfl
      · have hz : z ∈ (gatU (.ref pa) kvs rows rk t c p).1 := by rw [h2]; simp
        obtain ⟨g1, g2⟩ := hw.at hz
        rw [h3] at g1 g2
        rcases g2 with ⟨i, rfl⟩ | ⟨a, y, rfl, g3, g4⟩
        · cases h1
        · refine .last e a y g3 g4 (onceG pre) z ?_ g1
          rw [h2, onceG_snoc, if_neg fun hm => h4 (onceG_mem hm)]
section
variable {P : Program} {w : World} {K : PySem.W.Frag} {mg : Str → Option Value} {base : Heap}
def spFltL (K : PySem.W.Frag) (mg : Str → Option Value) (pa : Addr) : Sp := fun vs H Q _ => ∃ (wd p fa ol : Addr) (rk : RK) (kvs : List (List Key × V)) (os : List V) (ls : List Spot3) (res : Res) (H0 : Hp), vs = [.ref wd, .ref p, .ref fa, .ref ol] ∧ H wd = some (.dT kvs) ∧ RuleAt AnyA K mg H p rk ∧ H ol = some (.lst os) ∧ Nts H os (onceG ls) ∧ (∀ z ∈ ls, Nl z.1 ∧ Nl z.2.1) ∧ Found H0 H (.ref fa) res ∧ FC H pa rk kvs ls res ∧
  ∀ H', Same H H' → Q (.bl true) H'
theorem sc_law_fault : FnScope ["_law_world_here", "_law_rule", "_law_found", "_law_once"] ["_law_world_here", "_law_rule", "_law_found", "_law_once"] (defScope s_law_fault) := ⟨rfl, rfl, rfl, by decide +kernel, rfl, by decide +kernel, by decide +kernel⟩
theorem k_law_fault (T : Tops K mg) {pa : Addr} (hpa : ∀ H, SqT K H pa [.str "fault", .str "lacks"]) : Known P w K mg base CX0 2 "_law_fault" ["_law_world_here", "_law_rule", "_law_found", "_law_once"] (spFltL K mg pa) := by
  obtain ⟨A', YA⟩ := T.t_Above
  obtain ⟨L', YL⟩ := T.t_Lookup
  obtain ⟨M', YM⟩ := T.t_Mend
  have G_law_whole : Known P w K mg base CX0 1 "_law_whole" ["_law_found"] (spWholeL K) := k_law_whole T
  refine T.d_law_fault.known sc_law_fault (fun _ _ _ _ _ _ us hl => match us, hl with | [_, _, _, _], _ => rfl) (fun vs H Q E h => ?_) (fun f cdv A outer s H vs Q E hr h => ?_)
  · obtain ⟨wd, p, fa, ol, rk, kvs, os, ls, res, H0, rfl, _⟩ := h
    rfl
  · obtain ⟨wd, p, fa, ol, rk, kvs, os, ls, res, H0, rfl, hw, hR, hol, hN, hNl, hF, hC, q⟩ := h
    have hu := hu_of hr
    refine ⟨_, (pss_cons (ps_if (PW.pt (pw_or (pt_not (pt_val (pe_callB call_isT rfl T.isinstance b_isinstance (pa_cons (pv 2) (pa_cons (pe_ty T.tuple b_tuple) pa_nil))) (fun _ => rfl))) (pw_or (pt_cmpR op_ne (pe_callB call_len rfl T.len b_len (pa_cons (pv 2) pa_nil)) pe_int (nomark _)) (pw_or1 (pt_cmpR (op_eqD hr.units) (pv 3) (pe_lst pa_nil) (nomark _)))))) (pss_one (ps_ret (pe_or (pe_cmpR (op_eqD hr.units) (pv 2) (pe_tup (pa_cons pe_str (pa_cons (pe_lst pa_nil) pa_nil))) (nomark _)) (pe_one (pe_cmpR (op_eqD hr.units) (pv 2) (pe_tup (pa_cons pe_str (pa_cons (pe_lst (pa_cons pe_int pa_nil)) pa_nil))) (nomark _)))))) pss_nil)
      (pss_cons (ps_if (pt_cmpR op_eq (pe_ix ix_tup (pv 2) pe_int (fun _ _ => rfl)) pe_str (nomark _)) (pss_one (ps_ret (pe_cmpR (op_eqD hr.units) (pe_comp caps0 rfl rfl (by decide) (pi_list (pe_ix ix_tup (pv 2) pe_int (fun _ _ => rfl))) (fun _ _ _ _ _ => (pts_one (pt_not (pt_val (pe_callN G_law_whole (hr.mono (by decide)) pass0 (pa_cons (pv 0) pa_nil)) (fun _ => rfl))))) (fun _ _ _ _ _ => (pv 0))) (pe_lst pa_nil) (nomark _)))) pss_nil)
      (pss_cons (ps_if (pt_val (pe_callB call_isT rfl T.isinstance b_isinstance (pa_cons (pe_ix ix_tup (pv 2) pe_int (fun _ _ => rfl)) (pa_cons (pe_ty T.int b_int) pa_nil))) (fun _ => rfl)) (pss_one (ps_ret (pe_callB call_isC rfl T.isinstance b_isinstance (pa_cons (pv 1) (pa_cons (pe_gR YM.c) pa_nil))))) pss_nil)
      (pss_cons (ps_if (PW.pt (pw_and (pt_cmpR (op_eqD hr.units) (pe_ix ix_tup (pv 2) pe_int (fun _ _ => rfl)) (pe_tup (pa_cons pe_str (pa_cons pe_str pa_nil))) (nomark _)) (pw_and1 (pt_val (pe_callB call_isC rfl T.isinstance b_isinstance (pa_cons (pv 1) (pa_cons (pe_gR YL.c) pa_nil))) (fun _ => rfl))))) (pss_one (ps_ret pe_bl)) pss_nil)
      (pss_one (ps_ret (pe_cmpR (op_eqD hr.units) (pe_ix ix_tup (pv 2) pe_int (fun _ _ => rfl)) (pe_dget hu (pv 0) (pe_ix ix_list (pv 3) (pe_un un_neg pe_int) (fun _ _ => rfl)) (fun _ _ => rfl)) (nomark _)))))))), ?_⟩
    have lay1 : PyData.canLay0 (.tuple [.str ("call" : Str), .list []]) = true := by decide +kernel
    have lay5 : PyData.canLay0 (.tuple [.str ("call" : Str), .list [.int 5]]) = true := by decide +kernel
    have layO : (PyData.list ((onceG ls).map sp3D)).canLay0 = true := lay3s fun z hz => hNl z (onceG_mem hz)
    have dO : (PyData.list ((onceG ls).map sp3D)).depth ≤ 64 := by
      have : ∀ zs : List Spot3, PyData.depthAll (zs.map sp3D) ≤ 1 := fun zs => by
        induction zs with
        | nil => decide
        | cons z r ih => exact Nat.max_le.mpr ⟨by show 1 ≤ 1; decide, ih⟩
      show PyData.depthAll ((onceG ls).map sp3D) + 1 ≤ 64
      have := this (onceG ls)
      omega
    have dLs : ∀ {H1 : Hp}, Same H H1 → Dt K H1 (.ref ol) (.list ((onceG ls).map sp3D)) := fun {H1} s1 => .lst (SqL.of (s1 _ _ hol)) (DtAll.same s1 hN.dt)
    have eN : ls ≠ [] → PyData.eqv (.list ((onceG ls).map sp3D)) (.list []) = false := fun h => by
      cases e : onceG ls with
      | nil => exact absurd (onceG_nil.mp e) h
      | cons z r => rfl
    cases hC with
    | none0 h =>
      obtain ⟨a, l, e, h1, h2, _⟩ := hF
      cases e
      have d1 : ∀ {H1 : Hp}, Same H H1 → Dt K H1 (.ref fa) (.tuple [.str ("call" : Str), .list []]) := fun {H1} s1 => .tup (SqT.of (s1 _ _ h1)) (.cons (.str _) (.cons (.lst (SqL.of (s1 _ _ h2)) .nil) .nil))
      refine ⟨_, rfl, _, "tuple", _, _, rfl, d1 (Same.refl _), kit_tuple K _, _, rfl, ?_⟩
      refine iteF ⟨_, rfl, _, _, rfl, .inr ⟨_, SqT.of h1, rfl⟩, rfl, _, rfl, ?_⟩
      refine iteF ⟨_, rfl, sl, fun D hD => ?_⟩
      have s1 := Same.new (o := .lst []) hD
      refine ⟨_, .list [], dLs s1, .lst (SqL.of upd_same) .nil, layO, by decide, dO, _, rfl, ?_⟩
      rw [show onceG ls = [] from onceG_nil.mpr h]
      refine iteT ⟨_, rfl, sl, fun D2 hD2 => ⟨sl, fun D3 hD3 => ?_⟩⟩
      have s2 := Same.new (o := .lst []) hD2
      have s3 := Same.new (o := .tup [.str ("call" : Str), .ref D2]) hD3
      have s13 := s1.trans (s2.trans s3)
      refine ⟨_, .tuple [.str ("call" : Str), .list []], d1 s13, .tup (SqT.of upd_same) (.cons (.str _) (.cons (.lst (SqL.of (s3 _ _ upd_same)) .nil) .nil)), lay1, lay1, by decide, _, rfl, ?_⟩
      exact iteT (q _ s13)
    | none5 h =>
      obtain ⟨a, l, e, h1, h2, _⟩ := hF
      cases e
      have d1 : ∀ {H1 : Hp}, Same H H1 → Dt K H1 (.ref fa) (.tuple [.str ("call" : Str), .list [.int 5]]) := fun {H1} s1 => .tup (SqT.of (s1 _ _ h1)) (.cons (.str _) (.cons (.lst (SqL.of (s1 _ _ h2)) (.cons (.int 5) .nil)) .nil))
      refine ⟨_, rfl, _, "tuple", _, _, rfl, d1 (Same.refl _), kit_tuple K _, _, rfl, ?_⟩
      refine iteF ⟨_, rfl, _, _, rfl, .inr ⟨_, SqT.of h1, rfl⟩, rfl, _, rfl, ?_⟩
      refine iteF ⟨_, rfl, sl, fun D hD => ?_⟩
      have s1 := Same.new (o := .lst []) hD
      refine ⟨_, .list [], dLs s1, .lst (SqL.of upd_same) .nil, layO, by decide, dO, _, rfl, ?_⟩
      rw [show onceG ls = [] from onceG_nil.mpr h]
      refine iteT ⟨_, rfl, sl, fun D2 hD2 => ⟨sl, fun D3 hD3 => ?_⟩⟩
      have s2 := Same.new (o := .lst []) hD2
      have s3 := Same.new (o := .tup [.str ("call" : Str), .ref D2]) hD3
      have s13 := s1.trans (s2.trans s3)
      refine ⟨_, .tuple [.str ("call" : Str), .list []], d1 s13, .tup (SqT.of upd_same) (.cons (.str _) (.cons (.lst (SqL.of (s3 _ _ upd_same)) .nil) .nil)), lay5, lay1, by decide, _, rfl, ?_⟩
      rw [show PyData.eqv (.tuple [.str ("call" : Str), .list [.int 5]]) (.tuple [.str ("call" : Str), .list []]) = false from by decide +kernel]
      refine iteF ⟨_, rfl, sl, fun D4 hD4 => ⟨sl, fun D5 hD5 => ?_⟩⟩
      have s4 := Same.new (o := .lst [.int 5]) hD4
      have s5 := Same.new (o := .tup [.str ("call" : Str), .ref D4]) hD5
      have s15 := s13.trans (s4.trans s5)
      refine ⟨_, .tuple [.str ("call" : Str), .list [.int 5]], d1 s15, .tup (SqT.of upd_same) (.cons (.str _) (.cons (.lst (SqL.of (s5 _ _ upd_same)) (.cons (.int 5) .nil)) .nil)), lay5, lay5, by decide, ?_⟩
      rw [show PyData.eqv (.tuple [.str ("call" : Str), .list [.int 5]]) (.tuple [.str ("call" : Str), .list [.int 5]]) = true from by decide +kernel]
      exact q _ s15
    | call h is =>
      obtain ⟨a, l, e, h1, h2, _⟩ := hF
      cases e
      have d1 : Dt K H (.ref fa) (.tuple [.str ("call" : Str), .list (is.map PyData.int)]) := .tup (SqT.of h1) (.cons (.str _) (.cons (.lst (SqL.of h2) (dt_ints is)) .nil))
      refine ⟨_, rfl, _, "tuple", _, _, rfl, d1, kit_tuple K _, _, rfl, ?_⟩
      refine iteF ⟨_, rfl, _, _, rfl, .inr ⟨_, SqT.of h1, rfl⟩, rfl, _, rfl, ?_⟩
      refine iteF ⟨_, rfl, sl, fun D hD => ?_⟩
      have s1 := Same.new (o := .lst []) hD
      refine ⟨_, .list [], dLs s1, .lst (SqL.of upd_same) .nil, layO, by decide, dO, _, rfl, ?_⟩
      rw [eN h]
      refine iteF ⟨_, rfl, _, _, _, _, rfl, rfl, SqT.of (s1 _ _ h1), rfl, rfl, _, rfl, ?_⟩
      refine ite2 (fun _ => ?_) (fun g => absurd (by simp) g)
      have hl1 := s1 _ _ h2
      generalize upd H D (.lst []) = H1 at s1 hl1 ⊢
      refine ⟨_, rfl, _, _, _, _, rfl, rfl, SqT.of (s1 _ _ h1), rfl, l, rfl, ⟨_, SqL.of hl1⟩, fun D2 hD2 => ?_⟩
      have s2 := Same.new (o := .lst []) hD2
      refine comp_listF (K := K) (a := l) (xs := is.map V.int) (fun i ys H2 => ys = [] ∧ H2 = upd H1 D2 (.lst [])) ⟨rfl, rfl⟩ ?_ ?_ ?_
      · rintro i ys H2 _ ⟨rfl, rfl⟩
        exact SqL.of (s2 _ _ hl1)
      · rintro i x ys H2 hx hD2' ⟨rfl, rfl⟩
        obtain ⟨j, rfl⟩ : ∃ j : Int, x = .int j := by
          rw [List.getElem?_map] at hx
          cases e : is[i]? with
          | none => rw [e] at hx; cases hx
          | some j => rw [e] at hx; cases hx; exact ⟨j, rfl⟩
        refine ⟨_, rfl, j, rfl, _, rfl, ?_⟩
        exact iteF ⟨[], hD2', rfl, rfl⟩
      · rintro ys H2 hD2' ⟨rfl, rfl⟩
        refine ⟨sl, fun D3 hD3 => ?_⟩
        have s3 := Same.new (o := .lst []) hD3
        refine ⟨.list [], .list [], .lst (SqL.of (s3 _ _ upd_same)) .nil, .lst (SqL.of upd_same) .nil, by decide, by decide, by decide, ?_⟩
        exact q _ (s1.trans (s2.trans s3))
    | whole h i hm =>
      obtain ⟨a, e, h1⟩ := hF
      cases e
      have d1 : Dt K H (.ref fa) (.tuple [.str ("value" : Str), .int i]) := .tup (SqT.of h1) (.cons (.str _) (.cons (.int i) .nil))
      refine ⟨_, rfl, _, "tuple", _, _, rfl, d1, kit_tuple K _, _, rfl, ?_⟩
      refine iteF ⟨_, rfl, _, _, rfl, .inr ⟨_, SqT.of h1, rfl⟩, rfl, _, rfl, ?_⟩
      refine iteF ⟨_, rfl, sl, fun D hD => ?_⟩
      have s1 := Same.new (o := .lst []) hD
      refine ⟨_, .list [], dLs s1, .lst (SqL.of upd_same) .nil, layO, by decide, dO, _, rfl, ?_⟩
      rw [eN h]
      refine iteF ⟨_, rfl, _, _, _, _, rfl, rfl, SqT.of (s1 _ _ h1), rfl, rfl, _, rfl, ?_⟩
      refine ite2 (fun g => absurd g (by decide +kernel)) (fun _ => ?_)
      refine ⟨_, rfl, _, _, _, _, rfl, rfl, SqT.of (s1 _ _ h1), rfl, _, "int", .int i, _, rfl, .int i, kit_int K _, _, rfl, ?_⟩
      obtain ⟨C', ty, _, _, kM⟩ := kin_of ⟨YA, YL, YM⟩ (hR.keep (fun b' u _ _ e => s1 _ _ e) fun _ z => z)
      rw [hm] at kM
      exact iteT ⟨_, rfl, _, _, _, _, rfl, ty, kM, q _ s1⟩
    | lacks h hm =>
      obtain ⟨a, e, h1⟩ := hF
      cases e
      have dpa : ∀ H1, Dt K H1 (.ref pa) (.tuple [.str ("fault" : Str), .str ("lacks" : Str)]) := fun H1 => .tup (hpa H1) (.cons (.str _) (.cons (.str _) .nil))
      have d1 : Dt K H (.ref fa) (.tuple [.str ("value" : Str), .tuple [.str ("fault" : Str), .str ("lacks" : Str)]]) := .tup (SqT.of h1) (.cons (.str _) (.cons (dpa H) .nil))
      refine ⟨_, rfl, _, "tuple", _, _, rfl, d1, kit_tuple K _, _, rfl, ?_⟩
      refine iteF ⟨_, rfl, _, _, rfl, .inr ⟨_, SqT.of h1, rfl⟩, rfl, _, rfl, ?_⟩
      refine iteF ⟨_, rfl, sl, fun D hD => ?_⟩
      have s1 := Same.new (o := .lst []) hD
      refine ⟨_, .list [], dLs s1, .lst (SqL.of upd_same) .nil, layO, by decide, dO, _, rfl, ?_⟩
      rw [eN h]
      refine iteF ⟨_, rfl, _, _, _, _, rfl, rfl, SqT.of (s1 _ _ h1), rfl, rfl, _, rfl, ?_⟩
      refine ite2 (fun g => absurd g (by decide +kernel)) (fun _ => ?_)
      refine ⟨_, rfl, _, _, _, _, rfl, rfl, SqT.of (s1 _ _ h1), rfl, _, "int", _, _, rfl, dpa _, kit_int K _, _, rfl, ?_⟩
      refine iteF ⟨_, rfl, _, _, _, _, rfl, rfl, SqT.of (s1 _ _ h1), rfl, sl, fun D2 hD2 => ?_⟩
      have s2 := Same.new (o := .tup [.str ("fault" : Str), .str ("lacks" : Str)]) hD2
      refine ⟨_, .tuple [.str ("fault" : Str), .str ("lacks" : Str)], dpa _, .tup (SqT.of upd_same) (.cons (.str _) (.cons (.str _) .nil)), by decide +kernel, by decide +kernel, by decide, _, rfl, ?_⟩
      obtain ⟨C', ty, _, kL, _⟩ := kin_of ⟨YA, YL, YM⟩ (hR.keep (fun b' u _ _ e => (s1.trans s2) _ _ e) fun _ z => z)
      rw [hm] at kL
      rw [show PyData.eqv (.tuple [.str ("fault" : Str), .str ("lacks" : Str)]) (.tuple [.str ("fault" : Str), .str ("lacks" : Str)]) = true from by decide +kernel]
      exact iteT ⟨_, rfl, _, _, _, _, rfl, ty, kL, _, rfl, iteT (q _ (s1.trans s2))⟩
    | last h b y hb hy pre z he hv =>
      obtain ⟨a, e, h1⟩ := hF
      cases e
      have db : ∀ {H1 : Hp}, Same H H1 → Dt K H1 (.ref b) (.tuple [.str ("fault" : Str), .str y]) := fun {H1} s1 => .tup (SqT.of (s1 _ _ hb)) (.cons (.str _) (.cons (.str _) .nil))
      have layB : PyData.canLay0 (.tuple [.str ("fault" : Str), .str y]) = true := by
        have l1 : PyData.canLay0 (.str ("fault" : Str)) = true := by decide +kernel
        have lz := Nl.lay hy
        simp only [PyData.canLay0, PyData.canLayAll0, Bool.and_true, Bool.and_eq_true] at l1 lz ⊢
        exact ⟨l1, lz⟩
      have d1 : Dt K H (.ref fa) (.tuple [.str ("value" : Str), .tuple [.str ("fault" : Str), .str y]]) := .tup (SqT.of h1) (.cons (.str _) (.cons (db (Same.refl _)) .nil))
      refine ⟨_, rfl, _, "tuple", _, _, rfl, d1, kit_tuple K _, _, rfl, ?_⟩
      refine iteF ⟨_, rfl, _, _, rfl, .inr ⟨_, SqT.of h1, rfl⟩, rfl, _, rfl, ?_⟩
      refine iteF ⟨_, rfl, sl, fun D hD => ?_⟩
      have s1 := Same.new (o := .lst []) hD
      refine ⟨_, .list [], dLs s1, .lst (SqL.of upd_same) .nil, layO, by decide, dO, _, rfl, ?_⟩
      rw [eN h]
      refine iteF ⟨_, rfl, _, _, _, _, rfl, rfl, SqT.of (s1 _ _ h1), rfl, rfl, _, rfl, ?_⟩
      refine ite2 (fun g => absurd g (by decide +kernel)) (fun _ => ?_)
      refine ⟨_, rfl, _, _, _, _, rfl, rfl, SqT.of (s1 _ _ h1), rfl, _, "int", _, _, rfl, db s1, kit_int K _, _, rfl, ?_⟩
      refine iteF ⟨_, rfl, _, _, _, _, rfl, rfl, SqT.of (s1 _ _ h1), rfl, sl, fun D2 hD2 => ?_⟩
      have s2 := Same.new (o := .tup [.str ("fault" : Str), .str ("lacks" : Str)]) hD2
      have s12 := s1.trans s2
      refine ⟨_, .tuple [.str ("fault" : Str), .str ("lacks" : Str)], db s12, .tup (SqT.of upd_same) (.cons (.str _) (.cons (.str _) .nil)), layB, by decide +kernel, (by show 1 ≤ 64; decide), _, rfl, ?_⟩
      generalize upd (upd H D (.lst [])) D2 (.tup [.str ("fault" : Str), .str ("lacks" : Str)]) = H2 at s12 ⊢
      obtain ⟨C', ty, _, kL, _⟩ := kin_of ⟨YA, YL, YM⟩ (hR.keep (fun b' u _ _ e => s12 _ _ e) fun _ z => z)
      obtain ⟨os', x, rfl⟩ : ∃ os' x, os = os' ++ [x] := by
        have hlen := hN.length
        rw [he] at hlen
        simp at hlen
        have ne : os ≠ [] := fun z => by rw [z] at hlen; simp at hlen
        exact ⟨os.dropLast, os.getLast ne, (List.dropLast_concat_getLast ne).symm⟩
      obtain ⟨z', hz', bz, rfl, hbz⟩ := hN.at (i := os'.length) (v := x) (by simp)
      have ez : z' = z := by
        have hlen := hN.length
        rw [he] at hlen hz'
        simp at hlen
        rw [hlen] at hz'
        simpa using hz'.symm
      subst ez
      refine cutA (fun σ' H' => σ' = [some (.ref wd), some (.ref p), some (.ref fa), some (.ref ol)] ∧ H' = H2) ?hA (fun tl => ite2 (fun g => ?_) (fun g => iteF (tl _ H2 ⟨rfl, rfl⟩)))
      case hA =>
        rintro σ' H3 ⟨rfl, rfl⟩
        refine ⟨_, rfl, _, _, _, _, rfl, rfl, SqT.of (s12 _ _ h1), rfl, _, rfl, _, rfl, _, rfl, _, _, _, _, rfl, rfl, SqL.of (s12 _ _ hol), atI_last _ _, wd, _, rfl, hv ▸ DGet.t (k := [.inr z'.1, .inr z'.2.1, .inl z'.2.2]) (s12 _ _ hw) (s12 _ _ hbz), _, _, db s12, db s12, layB, layB, (by show 1 ≤ 64; decide), ?_⟩
        rw [show PyData.eqv (.tuple [.str ("fault" : Str), .str y]) (.tuple [.str ("fault" : Str), .str y]) = true from by simp [PyData.eqv, PyData.eqvAll]]
        exact q _ s12
      refine ⟨_, rfl, _, _, _, _, rfl, ty, kL, _, rfl, ?_⟩
      refine ite2 (fun g => q _ s12) (fun g => tl _ H2 ⟨rfl, rfl⟩)
end
end My

namespace My
open PySem L2
/-! ### where a rule may look in a world -/
def RkIn (cs : List Str) (t0 t1 : Str) : RK → Prop
  | .cells zs => (∀ z ∈ zs, z ∈ cs) ∧ zs.length ≤ 6
  | .above _ zs => (∀ z ∈ zs, z ∈ cs) ∧ zs.length ≤ 6
  | .group k n => k ∈ cs ∧ n ∈ cs
  | .lookup k o th zs => k ∈ cs ∧ (o = t0 ∨ o = t1) ∧ th ∈ cs ∧ (∀ z ∈ zs, z ∈ cs) ∧ zs.length ≤ 6
  | .mend n => n ∈ cs
theorem Wld.tab {H : Hp} {t0 t1 : Str} {cs : List Str} {wd rd : Addr} {kvs : List (List Key × V)} {rows : List (Key × V)} {n0 n1 : Nat} (W : Wld H t0 t1 cs wd rd kvs rows n0 n1) {t : Str} {m : Nat} (h : (t = t0 ∧ m = n0) ∨ (t = t1 ∧ m = n1)) :
    valV rows (.inr t) = some (.int (m : Int)) ∧ m ≤ 30 ∧ ∀ c ∈ cs, Filled kvs H t c m := by
  rcases h with ⟨rfl, rfl⟩ | ⟨rfl, rfl⟩
  · exact ⟨W.v0, W.l0, W.f0⟩
  · exact ⟨W.v1, W.l1, W.f1⟩
theorem okU_of {H : Hp} {t0 t1 : Str} {cs : List Str} {wd rd : Addr} {kvs : List (List Key × V)} {rows : List (Key × V)} {n0 n1 : Nat} (W : Wld H t0 t1 cs wd rd kvs rows n0 n1) {rk : RK} (hk : RkIn cs t0 t1 rk) {t own : Str} {m p : Nat} (h : (t = t0 ∧ m = n0) ∨ (t = t1 ∧ m = n1)) (hp : p < m) (ho : own ∈ cs) : okU H kvs rows rk t own p := by
  obtain ⟨hv, h30, hf⟩ := W.tab h
  have row : ∀ {zs : List Str}, (∀ z ∈ zs, z ∈ cs) → There kvs H (rowOf t p zs) := fun {zs} hz z h => by
    obtain ⟨y, hy, rfl⟩ := List.mem_map.mp h
    exact hf y (hz y hy) p hp
  cases rk with
  | cells zs => exact ⟨hk.2, row hk.1⟩
  | above i zs =>
    refine ⟨hk.2, row hk.1, fun g z hz => ?_⟩
    rw [List.mem_singleton.mp hz]
    obtain ⟨v, h1, h2⟩ := hf own ho (p - 1) (by omega)
    have e : ((p - 1 : Nat) : Int) = (p : Int) - 1 := by omega
    rw [e] at h1
    exact ⟨v, h1, h2⟩
  | group k n => exact ⟨m, hv, h30, hp, hf k hk.1, hf n hk.2⟩
  | lookup k o th zs =>
    obtain ⟨h1, h2, h3, h4, h5⟩ := hk
    obtain ⟨mo, hmo⟩ : ∃ mo, (o = t0 ∧ mo = n0) ∨ (o = t1 ∧ mo = n1) := by
      rcases h2 with e | e
      · exact ⟨n0, .inl ⟨e, rfl⟩⟩
      · exact ⟨n1, .inr ⟨e, rfl⟩⟩
    obtain ⟨ov, o30, of⟩ := W.tab hmo
    exact ⟨mo, hf k h1 p hp, ov, o30, of th h3, fun z hz => of z (h4 z hz), h5⟩
  | mend n => exact hf n hk p hp
theorem gatU_in {H : Hp} {t0 t1 : Str} {cs : List Str} {wd rd : Addr} {kvs : List (List Key × V)} {rows : List (Key × V)} {n0 n1 : Nat} (W : Wld H t0 t1 cs wd rd kvs rows n0 n1) {pl : V} {rk : RK} (hk : RkIn cs t0 t1 rk) {t own : Str} {m p : Nat} (h : (t = t0 ∧ m = n0) ∨ (t = t1 ∧ m = n1)) (hp : p < m) (ho : own ∈ cs) :
    (∀ z ∈ (gatU pl kvs rows rk t own p).1, (z.1 = t0 ∨ z.1 = t1) ∧ z.2.1 ∈ cs ∧ ∃ v, valV kvs [.inr z.1, .inr z.2.1, .inl z.2.2] = some v ∧ WV H v) ∧ (gatU pl kvs rows rk t own p).1.length ≤ 900 := by
  obtain ⟨hv, h30, hf⟩ := W.tab h
  have ht : t = t0 ∨ t = t1 := h.imp And.left And.left
  have good : ∀ {c : Str} {r : Nat}, c ∈ cs → r < m → ((t, c, (r : Int)) : Spot3).1 = t0 ∨ ((t, c, (r : Int)) : Spot3).1 = t1 → (t = t0 ∨ t = t1) ∧ c ∈ cs ∧ ∃ v, valV kvs [.inr t, .inr c, .inl (r : Int)] = some v ∧ WV H v := fun {c r} hc hr _ => ⟨ht, hc, hf c hc r hr⟩
  have row : ∀ {zs : List Str} {z : Spot3}, (∀ z ∈ zs, z ∈ cs) → z ∈ rowOf t p zs → (z.1 = t0 ∨ z.1 = t1) ∧ z.2.1 ∈ cs ∧ ∃ v, valV kvs [.inr z.1, .inr z.2.1, .inl z.2.2] = some v ∧ WV H v := fun {zs z} hz h => by
    obtain ⟨y, hy, rfl⟩ := List.mem_map.mp h
    exact good (hz y hy) hp ht
  have rl : ∀ {t : Str} {p : Nat} {zs : List Str}, (rowOf t p zs).length = zs.length := fun {t p zs} => by unfold rowOf; rw [List.length_map]
  cases rk with
  | cells zs =>
    have ts := turn_sub (kvs := kvs) (zs := rowOf t p zs)
    refine ⟨fun z hz => row hk.1 (ts.1 z hz), ?_⟩
    have h2 := ts.2
    have h6 := hk.2
    rw [rl] at h2
    show (turnOf kvs (rowOf t p zs)).1.length ≤ 900
    omega
  | above i zs =>
    have ts := turn_sub (kvs := kvs) (zs := rowOf t p zs)
    have ts' := turn_sub (kvs := kvs) (zs := (t, own, (p : Int) - 1) :: rowOf t p zs)
    have h6 := hk.2
    show (∀ z ∈ (gatAbove kvs rows (i, zs) t own p).1, _) ∧ (gatAbove kvs rows (i, zs) t own p).1.length ≤ 900
    unfold gatAbove
    by_cases g : 0 < p
    · rw [if_pos g]
      refine ⟨fun z hz => ?_, ?_⟩
      · rcases List.mem_cons.mp (ts'.1 z hz) with rfl | hz
        · have e : ((p - 1 : Nat) : Int) = (p : Int) - 1 := by omega
          have := good (r := p - 1) ho (by omega) ht
          rw [e] at this
          exact this
        · exact row hk.1 hz
      · have h2 := ts'.2
        rw [List.length_cons, rl] at h2
        exact Nat.le_trans h2 (by omega)
    · rw [if_neg g]
      refine ⟨fun z hz => row hk.1 (ts.1 z hz), ?_⟩
      have h2 := ts.2
      rw [rl] at h2
      exact Nat.le_trans h2 (by omega)
  | group k n =>
    have em : manyOf rows t = m := manyOf_of hv
    show (∀ z ∈ (gatGroup kvs rows (k, n) t own p).1, _) ∧ (gatGroup kvs rows (k, n) t own p).1.length ≤ 900
    unfold gatGroup
    rw [em]
    split
    · refine ⟨fun z hz => ?_, by simp⟩
      rw [List.mem_singleton.mp hz]
      exact good hk.1 hp ht
    · refine ⟨fun z hz => ?_, ?_⟩
      · rcases List.mem_cons.mp hz with rfl | hz
        · exact good hk.1 hp ht
        · obtain ⟨r, hr, e⟩ := grpGo_sub hz
          have hr := List.mem_range.mp hr
          rcases e with rfl | rfl
          · exact good hk.1 hr ht
          · exact good hk.2 hr ht
      · have g := (go_subG (val := valAt kvs) (own := valAt kvs (t, k, (p : Int))) (t := t) (k := k) (n := n) (rs := List.range m) (acc := [])).2
        rw [List.length_range] at g
        rw [List.length_cons]
        exact Nat.le_trans (Nat.succ_le_succ g) (by omega)
  | lookup k o th zs =>
    obtain ⟨h1, h2, h3, h4, h5⟩ := hk
    obtain ⟨mo, hmo⟩ : ∃ mo, (o = t0 ∧ mo = n0) ∨ (o = t1 ∧ mo = n1) := by
      rcases h2 with e | e
      · exact ⟨n0, .inl ⟨e, rfl⟩⟩
      · exact ⟨n1, .inr ⟨e, rfl⟩⟩
    obtain ⟨ov, o30, of⟩ := W.tab hmo
    have em : manyOf rows o = mo := manyOf_of ov
    show (∀ z ∈ (gatLookup pl kvs rows (k, o, th, zs) t own p).1, _) ∧ (gatLookup pl kvs rows (k, o, th, zs) t own p).1.length ≤ 900
    unfold gatLookup
    split
    · refine ⟨fun z hz => ?_, by simp⟩
      rw [List.mem_singleton.mp hz]
      exact good h1 hp ht
    · refine ⟨fun z hz => ?_, ?_⟩
      · rcases List.mem_cons.mp hz with rfl | hz
        · exact good h1 hp ht
        · obtain ⟨r, hr, y, hy, rfl⟩ := lkGo_sub hz
          have hr : r < mo := by rw [em] at hr; exact List.mem_range.mp hr
          have hyc : y ∈ cs := by
            rcases List.mem_cons.mp hy with rfl | hy
            · exact h3
            · exact h4 y hy
          exact ⟨h2, hyc, of y hyc r hr⟩
      · have g := (lk_sub (kvs := kvs) (own := valAt kvs (t, k, (p : Int))) (pl := pl) (o := o) (th := th) (zs := zs) (rs := List.range (manyOf rows o))).2
        rw [List.length_range, em] at g
        have g' : ((t, k, (p : Int)) :: (lkGo kvs (valAt kvs (t, k, (p : Int))) pl o th zs (List.range (manyOf rows o))).1).length ≤ 900 := by
          rw [List.length_cons, em]
          omega
        exact g'
  | mend n =>
    refine ⟨fun z hz => ?_, by show 1 ≤ 900; decide⟩
    have hz : z ∈ ([(t, n, (p : Int))] : List Spot3) := hz
    rw [List.mem_singleton.mp hz]
    exact good hk hp ht
/-- the changed world is a world -/
theorem Wld.changed {H H' : Hp} {t0 t1 : Str} {cs : List Str} {wd rd md : Addr} {kvs kvs' : List (List Key × V)} {rows : List (Key × V)} {n0 n1 : Nat} {ls : List Spot3} (W : Wld H t0 t1 cs wd rd kvs rows n0 n1) (s : Same H H') (hm : H' md = some (.dT kvs')) (hg : ∀ kv ∈ kvs, GoodK kvs kvs' ls H' kv.1) : Wld H' t0 t1 cs md rd kvs' rows n0 n1 := by
  have fl : ∀ {t c : Str} {m : Nat}, Filled kvs H t c m → Filled kvs' H' t c m := fun {t c m} h q hq => by
    obtain ⟨v, h1, h2⟩ := h q hq
    have h1' := h1
    unfold valV at h1'
    cases e : kvs.find? (fun kv => decide (kv.1 = [.inr t, .inr c, .inl (q : Int)])) with
    | none => rw [e] at h1'; cases h1'
    | some kv =>
      have hk : kv.1 = [.inr t, .inr c, .inl (q : Int)] := by simpa using List.find?_some e
      obtain ⟨t', c', q', e', g1, g2⟩ := hg kv (List.mem_of_find?_eq_some e)
      rw [hk] at g1 g2
      by_cases z : (t', c', (q' : Int)) ∈ ls
      · exact ⟨v, (g1 z).trans h1, h2.keep (Keep.of s)⟩
      · exact g2 z
  exact ⟨hm, s _ _ W.r, W.v0, W.v1, W.p0, W.l0, W.l1, fun c hc => fl (W.f0 c hc), fun c hc => fl (W.f1 c hc)⟩
theorem same_at {kvs kvs' : List (List Key × V)} {ls : List Spot3} {H' : Hp} (hg : ∀ kv ∈ kvs, GoodK kvs kvs' ls H' kv.1) {z : Spot3} (hz : z ∈ ls) {v : V} (h1 : valV kvs [.inr z.1, .inr z.2.1, .inl z.2.2] = some v) : valAt kvs' z = valAt kvs z := by
  have h1' := h1
  unfold valV at h1'
  cases e : kvs.find? (fun kv => decide (kv.1 = [.inr z.1, .inr z.2.1, .inl z.2.2])) with
  | none => rw [e] at h1'; cases h1'
  | some kv =>
    have hk : kv.1 = [.inr z.1, .inr z.2.1, .inl z.2.2] := by simpa using List.find?_some e
    obtain ⟨t', c', q', e', g1, g2⟩ := hg kv (List.mem_of_find?_eq_some e)
    rw [hk] at g1 e'
    have ez : z = (t', c', (q' : Int)) := by
      obtain ⟨a, b, c⟩ := z
      simp only [List.cons.injEq, Sum.inr.injEq, Sum.inl.injEq, and_true] at e'
      obtain ⟨x1, x2, x3⟩ := e'
      rw [x1, x2, x3]
    unfold valAt
    rw [g1 (ez ▸ hz)]
section
variable {P : Program} {w : World} {K : PySem.W.Frag} {mg : Str → Option Value} {base : Heap}
/-- what may be told as a value: a number or a tuple, alike to itself -/
def GoodD (d : PyData) : Prop := d.canLay0 = true ∧ d.depth ≤ 64 ∧ PyData.eqv d d = true ∧ ((∃ i, d = .int i) ∨ ∃ ds, d = .tuple ds)
def AlkV (K : PySem.W.Frag) (H : Hp) (fa da : Addr) : Prop := ∃ v v' d, H fa = some (.tup [.str ("value" : Str), v]) ∧ H da = some (.tup [.str ("value" : Str), v']) ∧ Dt K H v d ∧ Dt K H v' d ∧ GoodD d
def spAlikeG (K : PySem.W.Frag) : Sp := fun vs H Q _ => ∃ (fa da : Addr), vs = [.ref fa, .ref da] ∧
  (AlkV K H fa da ∨
    ∃ (l m : Addr) (is : List Int), H fa = some (.tup [.str ("call" : Str), .ref l]) ∧ H da = some (.tup [.str ("call" : Str), .ref m]) ∧ H l = some (.lst (is.map V.int)) ∧ H m = some (.lst (is.map V.int))) ∧ ∀ H', Same H H' → Q (.bl true) H'
theorem WV.good {K : PySem.W.Frag} {H : Hp} {v : V} (h : WV H v) : ∃ d, Dt K H v d ∧ GoodD d := by
  obtain ⟨d, hd, ly, dp, ev, _, kind⟩ := h.dt (K := K)
  refine ⟨d, hd, ly, dp, ev, ?_⟩
  rcases kind with ⟨i, _, rfl⟩ | ⟨a, z, _, _, rfl, _⟩
  · exact .inl ⟨i, rfl⟩
  · exact .inr ⟨_, rfl⟩
theorem k_law_alikeG (T : Tops K mg) : Known P w K mg base CX0 2 "_law_alike" ["_law_found", "_law_due"] (spAlikeG K) := by
  have G_law_whole : Known P w K mg base CX0 1 "_law_whole" ["_law_found"] (spWholeL K) := k_law_whole T
  refine T.d_law_alike.known sc_law_alike (fun _ _ _ _ _ _ us hl => match us, hl with | [_, _], _ => rfl) (fun vs H Q E h => ?_) (fun f cdv A outer s H vs Q E hr h => ?_)
  · obtain ⟨fa, da, rfl, _⟩ := h
    rfl
  · obtain ⟨fa, da, rfl, hh, q⟩ := h
    refine ⟨_, (pss_cons (ps_if (PW.pt (pw_or (pt_not (pt_val (pe_callB call_isT rfl T.isinstance b_isinstance (pa_cons (pv 0) (pa_cons (pe_ty T.tuple b_tuple) pa_nil))) (fun _ => rfl))) (pw_or (pt_cmpR op_ne (pe_callB call_len rfl T.len b_len (pa_cons (pv 0) pa_nil)) pe_int (nomark _)) (pw_or (pt_not (pt_val (pe_callB call_isT rfl T.isinstance b_isinstance (pa_cons (pe_ix ix_tup (pv 0) pe_int (fun _ _ => rfl)) (pa_cons (pe_ty T.str b_str) pa_nil))) (fun _ => rfl))) (pw_or1 (pt_cmpR op_ne (pe_ix ix_tup (pv 0) pe_int (fun _ _ => rfl)) (pe_ix ix_tup (pv 1) pe_int (fun _ _ => rfl)) (nomark _))))))) (pss_one (ps_ret pe_bl)) pss_nil)
      (pss_cons (ps_if (pt_val (pe_callB call_isT rfl T.isinstance b_isinstance (pa_cons (pe_ix ix_tup (pv 1) pe_int (fun _ _ => rfl)) (pa_cons (pe_ty T.int b_int) pa_nil))) (fun _ => rfl)) (pss_one (ps_ret (pe_and (pe_callN G_law_whole (hr.mono (by decide)) pass0 (pa_cons (pe_ix ix_tup (pv 0) pe_int (fun _ _ => rfl)) pa_nil)) (pe_one (pe_cmpR (op_eqD hr.units) (pe_ix ix_tup (pv 0) pe_int (fun _ _ => rfl)) (pe_ix ix_tup (pv 1) pe_int (fun _ _ => rfl)) (nomark _)))))) pss_nil)
      (pss_cons (ps_if (pt_val (pe_callB call_isT rfl T.isinstance b_isinstance (pa_cons (pe_ix ix_tup (pv 1) pe_int (fun _ _ => rfl)) (pa_cons (pe_ty T.tuple b_tuple) pa_nil))) (fun _ => rfl)) (pss_one (ps_ret (pe_and (pe_callB call_isT rfl T.isinstance b_isinstance (pa_cons (pe_ix ix_tup (pv 0) pe_int (fun _ _ => rfl)) (pa_cons (pe_ty T.tuple b_tuple) pa_nil))) (pe_one (pe_cmpR (op_eqD hr.units) (pe_ix ix_tup (pv 0) pe_int (fun _ _ => rfl)) (pe_ix ix_tup (pv 1) pe_int (fun _ _ => rfl)) (nomark _)))))) pss_nil)
      (pss_cons (ps_if (PW.pt (pw_or (pt_not (pt_val (pe_callB call_isT rfl T.isinstance b_isinstance (pa_cons (pe_ix ix_tup (pv 0) pe_int (fun _ _ => rfl)) (pa_cons (pe_ty T.list b_list) pa_nil))) (fun _ => rfl))) (pw_or1 (pt_cmpR (op_neD hr.units) (pe_comp caps0 rfl rfl (by decide) (pi_list (pe_ix ix_tup (pv 0) pe_int (fun _ _ => rfl))) (fun _ _ _ _ _ => (pts_one (pt_not (pt_val (pe_callN G_law_whole (hr.mono (by decide)) pass0 (pa_cons (pv 0) pa_nil)) (fun _ => rfl))))) (fun _ _ _ _ _ => (pv 0))) (pe_lst pa_nil) (nomark _))))) (pss_one (ps_ret pe_bl)) pss_nil)
      (pss_one (ps_ret (pe_cmpR (op_eqD hr.units) (pe_ix ix_tup (pv 0) pe_int (fun _ _ => rfl)) (pe_ix ix_tup (pv 1) pe_int (fun _ _ => rfl)) (nomark _)))))))), ?_⟩
    have head : ∀ (z : Str) (x y : V) (dx : PyData), H fa = some (.tup [.str z, x]) → H da = some (.tup [.str z, y]) → Dt K H x dx → True := fun _ _ _ _ _ _ _ => trivial
    rcases hh with ⟨v, v', d, h1, h2, hd, hd', ly, dp, ev, kind⟩ | ⟨l, m, is, h1, h2, h3, h4⟩
    · have q1 : SqT K H fa [.str ("value" : Str), v] := SqT.of h1
      have q2 : SqT K H da [.str ("value" : Str), v'] := SqT.of h2
      have a0 : atI [V.str ("value" : Str), v] 0 = some (.str ("value" : Str)) := rfl
      have a1 : atI [V.str ("value" : Str), v] 1 = some v := rfl
      have b0 : atI [V.str ("value" : Str), v'] 0 = some (.str ("value" : Str)) := rfl
      have b1 : atI [V.str ("value" : Str), v'] 1 = some v' := rfl
      refine ⟨_, rfl, _, "tuple", .tuple [.str ("value" : Str), d], _, rfl, .tup q1 (.cons (.str _) (.cons hd .nil)), kit_tuple K _, _, rfl, ?_⟩
      refine iteF ⟨_, rfl, _, _, rfl, .inr ⟨_, q1, rfl⟩, rfl, _, rfl, ?_⟩
      refine iteF ⟨_, rfl, _, _, _, _, rfl, rfl, q1, a0, _, "str", .str _, _, rfl, .str _, kit_str K _, _, rfl, ?_⟩
      refine iteF ⟨_, rfl, _, _, _, _, rfl, rfl, q1, a0, _, rfl, _, _, _, _, rfl, rfl, q2, b0, rfl, _, rfl, ?_⟩
      refine iteNS (by simp) ?_
      rcases kind with ⟨i, rfl⟩ | ⟨ds, rfl⟩
      · cases hd
        cases hd'
        refine ⟨_, rfl, _, _, _, _, rfl, rfl, q2, b1, _, "int", .int i, _, rfl, .int i, kit_int K _, _, rfl, ?_⟩
        refine iteT ⟨_, rfl, _, _, _, _, rfl, rfl, q1, a1, i, rfl, _, rfl, ?_⟩
        refine iteT ⟨_, rfl, _, _, _, _, rfl, rfl, q1, a1, _, rfl, _, _, _, _, rfl, rfl, q2, b1, .int i, .int i, .int i, .int i, ly, ly, dp, ?_⟩
        rw [ev]
        exact q H (Same.refl H)
      · refine ⟨_, rfl, _, _, _, _, rfl, rfl, q2, b1, _, "int", _, _, rfl, hd', kit_int K _, _, rfl, ?_⟩
        refine iteF ⟨_, rfl, _, _, _, _, rfl, rfl, q2, b1, _, "tuple", _, _, rfl, hd', kit_tuple K _, _, rfl, ?_⟩
        refine iteT ⟨_, rfl, _, _, _, _, rfl, rfl, q1, a1, _, "tuple", _, _, rfl, hd, kit_tuple K _, _, rfl, ?_⟩
        refine iteT ⟨_, rfl, _, _, _, _, rfl, rfl, q1, a1, _, rfl, _, _, _, _, rfl, rfl, q2, b1, _, _, hd, hd', ly, ly, dp, ?_⟩
        rw [ev]
        exact q H (Same.refl H)
    · have q1 : SqT K H fa [.str ("call" : Str), .ref l] := SqT.of h1
      have q2 : SqT K H da [.str ("call" : Str), .ref m] := SqT.of h2
      have a0 : atI [V.str ("call" : Str), .ref l] 0 = some (.str ("call" : Str)) := rfl
      have a1 : atI [V.str ("call" : Str), .ref l] 1 = some (.ref l) := rfl
      have b0 : atI [V.str ("call" : Str), .ref m] 0 = some (.str ("call" : Str)) := rfl
      have b1 : atI [V.str ("call" : Str), .ref m] 1 = some (.ref m) := rfl
      have d1 : Dt K H (.ref l) (.list (is.map PyData.int)) := .lst (SqL.of h3) (dt_ints is)
      have d2 : Dt K H (.ref m) (.list (is.map PyData.int)) := .lst (SqL.of h4) (dt_ints is)
      refine ⟨_, rfl, _, "tuple", .tuple [.str ("call" : Str), .list (is.map PyData.int)], _, rfl, .tup q1 (.cons (.str _) (.cons d1 .nil)), kit_tuple K _, _, rfl, ?_⟩
      refine iteF ⟨_, rfl, _, _, rfl, .inr ⟨_, q1, rfl⟩, rfl, _, rfl, ?_⟩
      refine iteF ⟨_, rfl, _, _, _, _, rfl, rfl, q1, a0, _, "str", .str _, _, rfl, .str _, kit_str K _, _, rfl, ?_⟩
      refine iteF ⟨_, rfl, _, _, _, _, rfl, rfl, q1, a0, _, rfl, _, _, _, _, rfl, rfl, q2, b0, rfl, _, rfl, ?_⟩
      refine iteNS (by simp) ?_
      refine ⟨_, rfl, _, _, _, _, rfl, rfl, q2, b1, _, "int", _, _, rfl, d2, kit_int K _, _, rfl, ?_⟩
      refine iteF ⟨_, rfl, _, _, _, _, rfl, rfl, q2, b1, _, "tuple", _, _, rfl, d2, kit_tuple K _, _, rfl, ?_⟩
      refine iteF ⟨_, rfl, _, _, _, _, rfl, rfl, q1, a1, _, "list", _, _, rfl, d1, kit_list K _, _, rfl, ?_⟩
      refine iteF ⟨_, rfl, _, _, _, _, rfl, rfl, q1, a1, l, rfl, ⟨_, SqL.of h3⟩, fun D hD => ?_⟩
      have s1 := Same.new (o := .lst []) hD
      refine comp_listF (K := K) (a := l) (xs := is.map V.int) (fun i ys H2 => ys = [] ∧ H2 = upd H D (.lst [])) ⟨rfl, rfl⟩ ?_ ?_ ?_
      · rintro i ys H2 _ ⟨rfl, rfl⟩
        exact SqL.of (s1 _ _ h3)
      · rintro i x ys H2 hx hD2 ⟨rfl, rfl⟩
        obtain ⟨j, rfl⟩ : ∃ j : Int, x = .int j := by
          rw [List.getElem?_map] at hx
          cases e : is[i]? with
          | none => rw [e] at hx; cases hx
          | some j => rw [e] at hx; cases hx; exact ⟨j, rfl⟩
        refine ⟨_, rfl, j, rfl, _, rfl, ?_⟩
        exact iteF ⟨[], hD2, rfl, rfl⟩
      · rintro ys H2 hD2 ⟨rfl, rfl⟩
        refine ⟨sl, fun D2 hD3 => ?_⟩
        have s2 := Same.new (o := .lst []) hD3
        refine ⟨.list [], .list [], .lst (SqL.of (s2 _ _ upd_same)) .nil, .lst (SqL.of upd_same) .nil, by decide, by decide, by decide, _, rfl, ?_⟩
        refine iteF ?_
        have s12 := s1.trans s2
        refine ⟨_, rfl, _, _, _, _, rfl, rfl, Same.seqT s12 q1, a1, _, rfl, _, _, _, _, rfl, rfl, Same.seqT s12 q2, b1, _, _, d1.same s12, d2.same s12, ?_, ?_, ?_, ?_⟩
        · exact (lay_ints is).1
        · exact (lay_ints is).1
        · show PyData.depthAll (is.map PyData.int) + 1 ≤ 64
          rw [(lay_ints is).2]
          decide
        · rw [show PyData.eqv (.list (is.map PyData.int)) (.list (is.map PyData.int)) = true from eqv_ints is]
          exact q _ s12
end
end My

namespace My
open PySem L2
theorem table_at {y0 y1 y2 y3 y4 y5 t0 t1 : Str} (i : Int) (h0 : 0 ≤ i) (h : i < 2) : ∃ n, atI ([y0, y1, y2, y3, y4, y5, t0, t1].map V.str) (6 + i) = some (.str n) ∧ (n = t0 ∨ n = t1) := by
  have : i = 0 ∨ i = 1 := by omega
  rcases this with rfl | rfl
  · exact ⟨t0, rfl, .inl rfl⟩
  · exact ⟨t1, rfl, .inr rfl⟩
theorem rkOf_in {cs : List Str} {t0 t1 : Str} {kind : Int} {a b c o : Str} {zs : List Str} (ha : a ∈ cs) (hb : b ∈ cs) (hc : c ∈ cs) (ho : o = t0 ∨ o = t1) (hz : ∀ z ∈ zs, z ∈ cs) (hl : zs.length ≤ 6) : RkIn cs t0 t1 (rkOf kind a b c o zs) := by
  unfold rkOf
  split
  · exact ⟨hz, hl⟩
  split
  · exact ⟨hz, hl⟩
  split
  · exact ⟨ha, hb⟩
  split
  · exact ⟨ha, ho, hc, hz, hl⟩
  · exact ha
theorem rkOf_five {kind : Int} {a b c o : Str} {zs : List Str} : ∀ i ys, rkOf kind a b c o zs = .above i ys → i = 5 := by
  intro i ys h
  unfold rkOf at h
  split at h
  · cases h
  split at h
  · cases h; rfl
  split at h
  · cases h
  split at h
  · cases h
  · cases h
structure Nw (K : PySem.W.Frag) (H : Hp) (a wn wd rd : Addr) (ns : List Int) (ws : List Str) (t0 t1 : Str) (cs : List Str) (kvs : List (List Key × V)) (rows : List (Key × V)) (n0 n1 : Nat) (z1 z2 : Addr) : Prop where
  W : Wld H t0 t1 cs wd rd kvs rows n0 n1
  ws : H wn = some (.lst (ws.map V.str))
  sc : SqL K H a (ns.map V.int)
  g : TabIn qGat H z1
  m : TabIn qMade H z2
section
variable {K : PySem.W.Frag} {H H' : Hp} {a wn wd rd : Addr} {ns : List Int} {ws : List Str} {t0 t1 : Str} {cs : List Str} {kvs : List (List Key × V)} {rows : List (Key × V)} {n0 n1 : Nat} {z1 z2 : Addr}
theorem Nw.same (s : Same H H') (h : Nw K H a wn wd rd ns ws t0 t1 cs kvs rows n0 n1 z1 z2) : Nw K H' a wn wd rd ns ws t0 t1 cs kvs rows n0 n1 z1 z2 := ⟨h.W.keep (Keep.of s), s _ _ h.ws, s.seq h.sc, tabIn_same s h.g, tabIn_same s h.m⟩
theorem Nw.gat (ne : z1 ≠ z2) (s : SameX z1 H H') (t : TabIn qGat H' z1) (h : Nw K H a wn wd rd ns ws t0 t1 cs kvs rows n0 n1 z1 z2) : Nw K H' a wn wd rd ns ws t0 t1 cs kvs rows n0 n1 z1 z2 :=
  have k := KeepC.tab h.g s
  ⟨h.W.keepC k, k _ _ (fun φ z => by cases z) h.ws, k.sqL h.sc, t, tabIn_x ne.symm s h.g h.m⟩
theorem Nw.made (ne : z1 ≠ z2) (s : SameX z2 H H') (t : TabIn qMade H' z2) (h : Nw K H a wn wd rd ns ws t0 t1 cs kvs rows n0 n1 z1 z2) : Nw K H' a wn wd rd ns ws t0 t1 cs kvs rows n0 n1 z1 z2 :=
  have k := KeepC.tab h.m s
  ⟨h.W.keepC k, k _ _ (fun φ z => by cases z) h.ws, k.sqL h.sc, tabIn_x ne s h.m h.g, t⟩
end
theorem Found.keepS {H0 H H' : Hp} {fv : V} {r : Res} (s : Same H H') (h : Found H0 H fv r) : Found H0 H' fv r := by
  cases r with
  | val v =>
    obtain ⟨a, e1, e2⟩ := h
    exact ⟨a, e1, s _ _ e2⟩
  | call xs =>
    obtain ⟨a, l, e1, e2, e3, e4⟩ := h
    exact ⟨a, l, e1, s _ _ e2, s _ _ e3, e4⟩
theorem FC.same {H H' : Hp} {pa : Addr} {rk : RK} {kvs : List (List Key × V)} {ls : List Spot3} {r : Res} (s : Same H H') (h : FC H pa rk kvs ls r) : FC H' pa rk kvs ls r := by
  cases h with
  | none0 h => exact .none0 h
  | none5 h => exact .none5 h
  | call h is => exact .call h is
  | whole h i hm => exact .whole h i hm
  | lacks h hm => exact .lacks h hm
  | last h a y ha hy pre z he hv => exact .last h a y (s _ _ ha) hy pre z he hv
theorem cutV_take2 (xs : List V) : cutV xs none (some 2) = xs.take 2 := by
  match xs with
  | [] => rfl
  | [x] => rfl
  | x :: y :: r => exact cutV_take (x :: y :: r) 2 (by simp)
/-- what is told twice is alike -/
theorem alk_of {K : PySem.W.Frag} {pa : Addr} (hpa : ∀ H, SqT K H pa [.str "fault", .str "lacks"]) {H0 H1 H2 H : Hp} {fa ga : Addr} {rk : RK} {kvs : List (List Key × V)} {ls : List Spot3} {res : Res} (hC : FC H pa rk kvs ls res) (s0 : KeepC H H2) (hF : Found H0 H (.ref fa) res) (hG : Found H1 H2 (.ref ga) res) :
    AlkV K H2 ga fa ∨ ∃ (l m : Addr) (is : List Int), H2 ga = some (.tup [.str ("call" : Str), .ref l]) ∧ H2 fa = some (.tup [.str ("call" : Str), .ref m]) ∧ H2 l = some (.lst (is.map V.int)) ∧ H2 m = some (.lst (is.map V.int)) := by
  have lst : ∀ is : List Int, Found H0 H (.ref fa) (.call (is.map V.int)) → Found H1 H2 (.ref ga) (.call (is.map V.int)) → ∃ (l m : Addr) (is : List Int), H2 ga = some (.tup [.str ("call" : Str), .ref l]) ∧ H2 fa = some (.tup [.str ("call" : Str), .ref m]) ∧ H2 l = some (.lst (is.map V.int)) ∧ H2 m = some (.lst (is.map V.int)) := by
    intro is ⟨a, l, e, h1, h2, _⟩ ⟨b, m, e', h3, h4, _⟩
    cases e
    cases e'
    exact ⟨m, l, is, h3, s0 _ _ (fun φ z => by cases z) h1, h4, s0 _ _ (fun φ z => by cases z) h2⟩
  have vl : ∀ (v : V) (d : PyData), Dt K H2 v d → GoodD d → Found H0 H (.ref fa) (.val v) → Found H1 H2 (.ref ga) (.val v) → AlkV K H2 ga fa := by
    intro v d hd g ⟨a, e, h1⟩ ⟨b, e', h3⟩
    cases e
    cases e'
    exact ⟨v, v, d, h3, s0 _ _ (fun φ z => by cases z) h1, hd, hd, g⟩
  cases hC with
  | none0 h => exact .inr (lst [] hF hG)
  | none5 h => exact .inr (lst [5] hF hG)
  | call h is => exact .inr (lst is hF hG)
  | whole h i hm => exact .inl (vl _ _ (.int i) ⟨rfl, (show 0 ≤ 64 by decide), by simp [PyData.eqv], .inl ⟨i, rfl⟩⟩ hF hG)
  | lacks h hm => exact .inl (vl _ _ (.tup (hpa H2) (.cons (.str _) (.cons (.str _) .nil))) ⟨by decide +kernel, by decide, by decide +kernel, .inr ⟨_, rfl⟩⟩ hF hG)
  | last h b y hb hy pre z he hv =>
    obtain ⟨d, hd, g⟩ := WV.good (K := K) (H := H2) (v := .ref b) (.inr ⟨b, y, rfl, s0 _ _ (fun φ z => by cases z) hb, hy⟩)
    exact .inl (vl _ d hd g hF hG)
theorem once_eqv : ∀ zs : List Spot3, PyData.eqvAll (zs.map sp3D) (zs.map sp3D) = true
  | [] => rfl
  | z :: r => by
    rw [List.map_cons]
    show (PyData.eqv (sp3D z) (sp3D z) && PyData.eqvAll (r.map sp3D) (r.map sp3D)) = true
    rw [once_eqv r, sp3D_eqv]
    simp
theorem once_depth (zs : List Spot3) : (PyData.list (zs.map sp3D)).depth ≤ 64 := by
  have : ∀ zs : List Spot3, PyData.depthAll (zs.map sp3D) ≤ 1 := fun zs => by
    induction zs with
    | nil => decide
    | cons z r ih => exact Nat.max_le.mpr ⟨by show 1 ≤ 1; decide, ih⟩
  show PyData.depthAll (zs.map sp3D) + 1 ≤ 64
  have := this zs
  omega
section
variable {P : Program} {w : World} {K : PySem.W.Frag} {mg : Str → Option Value} {base : Heap}
abbrev Nlaw : List Str := ["_law_script", "_law_words", "_law_world_here", "_law_rows", "_law_turn", "_law_at", "_law_table_here", "_law_other", "_law_place", "_law_own", "_law_names_here", "_law_some", "_law_kind", "_law_rule", "_law_found", "_law_once", "_law_changed_here", "_law_again", "_law_same"]
theorem sc_law : FnScope Nlaw ["_law_script"] (defScope s_law) := ⟨rfl, rfl, rfl, by decide +kernel, rfl, by decide +kernel, by decide +kernel⟩
theorem ok_law (T : Tops K mg) {z1 z2 : Addr × Addr} (B1 : DefT K mg "_law_gathered" s_law_gathered z1) (M1 : Maker mg base z1.1 z1.2) (B2 : DefT K mg "_law_made" s_law_made z2) (M2 : Maker mg base z2.1 z2.2) (ne : z1.2 ≠ z2.2) {f : Addr} {fd : FuncData} (F : Fun K "law" "law" s_law f fd) :
    FnOk P w K mg base CX0 12 f fd ["_law_script"] (spLaw K [z1, z2]) := by
  obtain ⟨pa, hpl, hpa⟩ := T.g_LACKS
  have G_law_drawn : Known P w K mg base CX0 1 "_law_drawn" ["_law_script", "_law_k", "_law_size"] (spDrawn K) := k_law_drawn T
  have G_law_names : Known P w K mg base CX0 2 "_law_names" ["_law_script", "_law_many"] (spNames2 K) := k_law_names T
  have G_law_world : Known P w K mg base CX0 3 "_law_world" ["_law_script", "_law_names_here", "_law_tables", "_law_faults", "_law_k"] (spWorld K) := k_law_world T
  have G_law_table : Known P w K mg base CX0 2 "_law_table" ["_law_script", "_law_k", "_law_rows", "_law_tables"] (spTable K) := k_law_table T
  have G_law_picked : Known P w K mg base CX0 2 "_law_picked" ["_law_script", "_law_k", "_law_names_here"] (spPicked K) := k_law_picked T
  have G_law_made : Known P w K mg base CX0 6 "_law_made" ["_law_kind", "_law_names_here", "_law_some", "_law_other"] (spMade K mg z2.2) := k_law_made T B2 M2
  have G_law_gathered : Known P w K mg base CX0 5 "_law_gathered" ["_law_world_here", "_law_rows", "_law_rule", "_law_table_here", "_law_column", "_law_place"] (spGathered (RuleAt AnyA K mg) (gatU (.ref pa)) okU z1.2) := k_gathered T B1 M1 hpl
  have G_law_leans : Known P w K mg base CX0 4 "_law_leans" ["_law_rule", "_law_table_here", "_law_own", "_law_place", "_law_once"] (spLnF K mg) := k_law_leans T
  have G_law_fault : Known P w K mg base CX0 2 "_law_fault" ["_law_world_here", "_law_rule", "_law_found", "_law_once"] (spFltL K mg pa) := k_law_fault T hpa
  have G_law_changed : Known P w K mg base CX0 3 "_law_changed" ["_law_script", "_law_world_here", "_law_once"] (spChanged K) := k_law_changed T
  have G_law_alike : Known P w K mg base CX0 2 "_law_alike" ["_law_found", "_law_due"] (spAlikeG K) := k_law_alikeG T
  refine F.ok sc_law (fun vs H Q E h => ?_) (fun cdv A outer s H vs Q E hr h => ?_)
  · obtain ⟨a, ns, rfl, _⟩ := h
    rfl
  · obtain ⟨a, ns, rfl, hS, hl, hT, q⟩ := h
    have hcl : ∀ x, (cxOf CX0 P w K mg base Nlaw "law" (defScope s_law) f cdv A outer s H E).nox.env.scope.names.lookup x = some .cell → ∃ c, (cxOf CX0 P w K mg base Nlaw "law" (defScope s_law) f cdv A outer s H E).nox.env.cells.lookup x = some c := fun x hx => Option.isSome_iff_exists.mp (PySem.W.cellsFrom_some _ _ _ (.inl hx))
    have hu := hu_of hr
    refine ⟨_, (pss_cons (ps_set (i := 1) sc_law.nd rfl (by first | exact Or.inl rfl | exact Or.inr rfl) (pe_callN G_law_names (hr.mono (by decide)) pass0 (pa_cons (pv 0) (pa_cons pe_int pa_nil))))
      (pss_cons (ps_asg (pe_callN G_law_world (hr.mono (by decide)) pass0 (pa_cons (pv 0) (pa_cons (pe_slice sl_list (pv 1) po_none (po_some pe_int)) (pa_cons (pe_slice sl_list (pv 1) (po_some pe_int) po_none) (pa_cons (pe_callN G_law_drawn (hr.mono (by decide)) pass0 (pa_cons (pv 0) (pa_cons pe_int (pa_cons pe_int pa_nil)))) (pa_cons pe_int pa_nil)))))) (pg_tup rfl (pgs_cons (pg_name (i := 2) sc_law.nd rfl (Or.inl rfl)) (pgs_cons (pg_name (i := 3) sc_law.nd rfl (Or.inl rfl)) pgs_nil))))
      (pss_cons (ps_for PassesOwn.never rfl (pi_range1 rfl T.range (pa_cons pe_int pa_nil)) (pg_name (i := 4) sc_law.nd rfl (Or.inl rfl)) (pss_cons (ps_set (i := 5) sc_law.nd rfl (by first | exact Or.inl rfl | exact Or.inr rfl) (pe_op op_add (pe_op op_mul pe_int (pv 4)) pe_int))
      (pss_cons (ps_set (i := 6) sc_law.nd rfl (Or.inl rfl) (pe_callN G_law_table (hr.mono (by decide)) pass0 (pa_cons (pv 0) (pa_cons (pv 5) (pa_cons (pv 3) (pa_cons (pe_slice sl_list (pv 1) (po_some pe_int) po_none) pa_nil))))))
      (pss_cons (ps_set (i := 7) sc_law.nd rfl (Or.inl rfl) (pe_ix ix_list (pv 1) (pe_op op_add pe_int (pe_callN G_law_drawn (hr.mono (by decide)) pass0 (pa_cons (pv 0) (pa_cons (pe_op op_add (pv 5) pe_int) (pa_cons pe_int pa_nil))))) (fun _ _ => rfl)))
      (pss_cons (ps_set (i := 8) sc_law.nd rfl (Or.inl rfl) (pe_callN G_law_drawn (hr.mono (by decide)) pass0 (pa_cons (pv 0) (pa_cons (pe_op op_add (pv 5) pe_int) (pa_cons (pe_dget hu (pv 3) (pv 6) (fun _ _ => rfl)) pa_nil)))))
      (pss_cons (ps_set (i := 9) sc_law.nd rfl (Or.inl rfl) (pe_ix ix_list (pv 1) (pe_callN G_law_drawn (hr.mono (by decide)) pass0 (pa_cons (pv 0) (pa_cons (pe_op op_add (pv 5) pe_int) (pa_cons pe_int pa_nil)))) (fun _ _ => rfl)))
      (pss_cons (ps_setComp (te := tOp (rIxL K) (tVar 1) (tCall (spDrawn K) [] E0 (tCons (tVar 2) (tCons _ (tCons _ tNil))))) (i := 10) sc_law.nd rfl rfl (caps_of (sc := defScope s_law) (N := Nlaw) (cp := [(1, "_law_words"), (0, "_law_script"), (5, "_law_at")]) hcl) rfl rfl (by decide) (pi_range1 rfl T.range (pa_cons pe_int pa_nil)) (fun _ _ _ _ _ => pts_nil) (fun _ _ _ _ _ => (pe_ix ix_list (pv 1) (pe_callN G_law_drawn (hr.mono (by decide)) pass0 (pa_cons (pv 2) (pa_cons (pe_op op_add (pe_op op_add (pv 3) pe_int) (pv 0)) (pa_cons pe_int pa_nil)))) (fun _ _ => rfl))) rfl)
      (pss_cons (ps_set (i := 11) sc_law.nd rfl (Or.inl rfl) (pe_callN G_law_picked (hr.mono (by decide)) pass0 (pa_cons (pv 0) (pa_cons (pe_op op_add (pv 5) pe_int) (pa_cons (pe_slice sl_list (pv 1) po_none (po_some pe_int)) pa_nil)))))
      (pss_cons (ps_set (i := 12) sc_law.nd rfl (Or.inl rfl) (pe_callN G_law_drawn (hr.mono (by decide)) pass0 (pa_cons (pv 0) (pa_cons (pe_op op_add (pv 5) pe_int) (pa_cons pe_int pa_nil)))))
      (pss_cons (ps_set (i := 13) sc_law.nd rfl (Or.inl rfl) (pe_callN G_law_made (hr.mono (by decide)) pass0 (pa_cons (pv 12) (pa_cons (pv 10) (pa_cons (pv 11) (pa_cons (pv 7) pa_nil))))))
      (pss_cons (ps_expr (pe_bm PySem.F.plainAttrs_list PySem.F.slot_list_append PySem.F.type_list_append mt_append (pv 11) (pa_cons (pe_ix ix_list (pv 1) pe_int (fun _ _ => rfl)) pa_nil)))
      (pss_cons (ps_expr (pe_callN G_law_made (hr.mono (by decide)) pass0 (pa_cons (pe_callN G_law_drawn (hr.mono (by decide)) pass0 (pa_cons (pv 0) (pa_cons (pe_op op_add (pv 5) pe_int) (pa_cons pe_int pa_nil)))) (pa_cons (pv 10) (pa_cons (pe_slice sl_list (pv 11) po_none (po_some pe_int)) (pa_cons (pv 6) pa_nil))))))
      (pss_cons (ps_asg (pe_callN G_law_gathered (hr.mono (by decide)) pass0 (pa_cons (pv 2) (pa_cons (pv 3) (pa_cons (pv 13) (pa_cons (pv 6) (pa_cons (pv 9) (pa_cons (pv 8) pa_nil))))))) (pg_tup rfl (pgs_cons (pg_name (i := 14) sc_law.nd rfl (Or.inl rfl)) (pgs_cons (pg_name (i := 15) sc_law.nd rfl (Or.inl rfl)) pgs_nil))))
      (pss_cons (ps_if (PW.pt (pw_or (pt_not (pt_val (pe_callN G_law_leans (hr.mono (by decide)) pass0 (pa_cons (pv 13) (pa_cons (pv 6) (pa_cons (pv 9) (pa_cons (pv 8) (pa_cons (pv 15) pa_nil)))))) (fun _ => rfl))) (pw_or1 (pt_not (pt_val (pe_callN G_law_fault (hr.mono (by decide)) pass0 (pa_cons (pv 2) (pa_cons (pv 13) (pa_cons (pv 14) (pa_cons (pv 15) pa_nil))))) (fun _ => rfl)))))) (pss_one (ps_ret pe_bl)) pss_nil)
      (pss_cons (ps_set (i := 16) sc_law.nd rfl (Or.inl rfl) (pe_callN G_law_changed (hr.mono (by decide)) pass0 (pa_cons (pv 0) (pa_cons (pv 2) (pa_cons (pv 15) pa_nil)))))
      (pss_cons (ps_asg (pe_callN G_law_gathered (hr.mono (by decide)) pass0 (pa_cons (pv 16) (pa_cons (pv 3) (pa_cons (pv 13) (pa_cons (pv 6) (pa_cons (pv 9) (pa_cons (pv 8) pa_nil))))))) (pg_tup rfl (pgs_cons (pg_name (i := 17) sc_law.nd rfl (Or.inl rfl)) (pgs_cons (pg_name (i := 18) sc_law.nd rfl (Or.inl rfl)) pgs_nil))))
      (pss_one (ps_if (PW.pt (pw_or (pt_not (pt_val (pe_callN G_law_alike (hr.mono (by decide)) pass0 (pa_cons (pv 17) (pa_cons (pv 14) pa_nil))) (fun _ => rfl))) (pw_or1 (pt_cmpR (op_neD hr.units) (pv 18) (pv 15) (nomark _))))) (pss_one (ps_ret pe_bl)) pss_nil))))))))))))))))))
      (pss_one (ps_ret pe_bl))))), ?_⟩
    refine ⟨_, rfl, a, ns, 8, rfl, hS, hl, by decide, fun H0 wn zs s0 hwn hwn0 hz8 hzN hzD => ?_⟩
    have hS0 : SqL K H0 a (ns.map V.int) := s0.seq hS
    have hT1 : TabIn qGat H0 z1.2 := ⟨[], s0 _ _ (hT z1 (by simp)), fun c hc => nomatch hc⟩
    have hT2 : TabIn qMade H0 z2.2 := ⟨[], s0 _ _ (hT z2 (by simp)), fun c hc => nomatch hc⟩
    obtain ⟨y0, y1, y2, y3, y4, y5, t0, t1, rfl⟩ := eight hz8
    have hne : t0 ≠ t1 := by
      intro e
      simp only [List.nodup_cons, List.mem_cons, not_or] at hzD
      exact hzD.2.2.2.2.2.2.1.1 e
    have hcsN : ∀ z ∈ [y0, y1, y2, y3, y4, y5], Nl z := fun z hz => hzN z (by simp only [List.mem_cons, List.not_mem_nil, or_false] at hz ⊢; rcases hz with h | h | h | h | h | h <;> simp [h])
    have hn0 : Nl t0 := hzN _ (by simp)
    have hn1 : Nl t1 := hzN _ (by simp)
    have f0 := drawZ_nn ns 11 (show (0 : Int) < 4 by decide)
    have e1 : cutV ([y0, y1, y2, y3, y4, y5, t0, t1].map V.str) none (some 6) = [y0, y1, y2, y3, y4, y5].map V.str := rfl
    have e2 : cutV ([y0, y1, y2, y3, y4, y5, t0, t1].map V.str) (some 6) none = [.str t0, .str t1] := rfl
    refine ⟨_, rfl, _, rfl, 6, rfl, wn, _, rfl, SqL.of hwn, fun c1 hc1 => ?_⟩
    rw [e1]
    have s1 := Same.new (o := .lst ([y0, y1, y2, y3, y4, y5].map V.str)) hc1
    refine ⟨_, rfl, 6, rfl, wn, _, rfl, SqL.of (s1 _ _ hwn), fun c2 hc2 => ?_⟩
    rw [e2]
    have s2 := Same.new (o := .lst [.str t0, .str t1]) hc2
    have s12 := s1.trans s2
    refine ⟨_, rfl, a, ns, 11, 4, rfl, s12.seq hS0, hl, by decide, by decide, by decide, ?_⟩
    refine ⟨a, c1, c2, ns, [y0, y1, y2, y3, y4, y5], t0, t1, _, 100, rfl, s12.seq hS0, hl, SqL.of (s2 _ _ upd_same), rfl, SqL.of upd_same, hne, by decide, hn0, hn1, hcsN, fun H3 wp wd rd kvs rows n0 n1 hK h360 s3 hp W => ?_⟩
    have s03 := s12.trans s3
    refine ⟨wp, _, rfl, SqT.of hp, rfl, _, _, rfl, _, _, rfl, rfl, ?_⟩
    have N3 : Nw K H3 a wn wd rd ns [y0, y1, y2, y3, y4, y5, t0, t1] t0 t1 [y0, y1, y2, y3, y4, y5] kvs rows n0 n1 z1.2 z2.2 := ⟨W, s03 _ _ hwn, s03.seq hS0, tabIn_same s03 hT1, tabIn_same s03 hT2⟩
    refine ⟨4, rfl, by decide, by decide, ?_⟩
    refine for_range (lo := 0) (n := 4) (fun i σ H4 => ∃ o4 o5 o6 o7 o8 o9 o10 o11 o12 o13 o14 o15 o16 o17 o18, σ = [some (.ref a), some (.ref wn), some (.ref wd), some (.ref rd), o4, o5, o6, o7, o8, o9, o10, o11, o12, o13, o14, o15, o16, o17, o18] ∧ Nw K H4 a wn wd rd ns [y0, y1, y2, y3, y4, y5, t0, t1] t0 t1 [y0, y1, y2, y3, y4, y5] kvs rows n0 n1 z1.2 z2.2) ⟨_, _, _, _, _, _, _, _, _, _, _, _, _, _, _, rfl, N3⟩ ?_ ?_
    · rintro i σ H4 hi ⟨o4, o5, o6, o7, o8, o9, o10, o11, o12, o13, o14, o15, o16, o17, o18, rfl, N4⟩
      refine ⟨_, rfl, _, _, rfl, rfl, .inl ⟨by decide, by decide⟩, _, _, rfl, rfl, ?_⟩
      obtain ⟨at', hat', ha0, ha1⟩ : ∃ at' : Int, 30 * (0 + (i : Int)) + 1500 = at' ∧ 0 ≤ at' ∧ at' ≤ 5000 := ⟨_, rfl, by omega, by omega⟩
      change gName 5 (V.int (30 * (0 + (i : Int)) + 1500)) _ _ _
      rw [hat']
      -- the table
      refine ⟨_, rfl, _, rfl, _, rfl, _, rfl, 6, rfl, wn, _, rfl, SqL.of N4.ws, fun c3 hc3 => ?_⟩
      rw [e2]
      have s5 := Same.new (o := .lst [.str t0, .str t1]) hc3
      have N5 := N4.same s5
      refine ⟨a, c3, wd, rd, ns, _, t0, t1, [y0, y1, y2, y3, y4, y5], kvs, rows, n0, n1, rfl, N5.sc, hl, by omega, by omega, SqL.of upd_same, N5.W, fun t m htm hm1 => ?_⟩
      generalize upd H4 c3 (.lst [.str t0, .str t1]) = H5 at N5 ⊢
      have htN : Nl t := by
        rcases htm with ⟨rfl, _⟩ | ⟨rfl, _⟩
        · exact hn0
        · exact hn1
      obtain ⟨hvt, hm30, hft⟩ := N5.W.tab htm
      -- the other
      have b0 := drawZ_nn ns (at' + 1) (show (0 : Int) < 2 by decide)
      have b1 := drawZ_lt ns (at' + 1) (show (0 : Int) < 2 by decide)
      obtain ⟨oth, hoth, hotht⟩ := table_at (y0 := y0) (y1 := y1) (y2 := y2) (y3 := y3) (y4 := y4) (y5 := y5) (t0 := t0) (t1 := t1) _ b0 b1
      refine ⟨_, rfl, _, rfl, _, rfl, _, _, rfl, rfl, a, ns, _, 2, rfl, N5.sc, hl, by omega, by omega, by decide, _, _, rfl, rfl, wn, _, _, _, rfl, rfl, SqL.of N5.ws, hoth, ?_⟩
      -- the place
      have p0 := drawZ_nn ns (at' + 2) (show (0 : Int) < (m : Int) by omega)
      have p1 := drawZ_lt ns (at' + 2) (show (0 : Int) < (m : Int) by omega)
      obtain ⟨p, ep, hpm⟩ : ∃ p : Nat, drawZ ns (at' + 2) m = (p : Int) ∧ p < m := ⟨(drawZ ns (at' + 2) m).toNat, by omega, by omega⟩
      refine ⟨_, rfl, _, rfl, _, _, rfl, rfl, _, rfl, _, rfl, rd, _, rfl, hvt ▸ DGet.k (k := Sum.inr t) N5.W.r, a, ns, _, m, rfl, N5.sc, hl, by omega, by omega, by omega, ?_⟩
      rw [ep]
      -- its own name
      have ob0 := drawZ_nn ns (at' + 3) (show (0 : Int) < 6 by decide)
      have ob1 := drawZ_lt ns (at' + 3) (show (0 : Int) < 6 by decide)
      obtain ⟨own, hato, hown⟩ := name_at (y0 := y0) (y1 := y1) (y2 := y2) (y3 := y3) (y4 := y4) (y5 := y5) (t0 := t0) (t1 := t1) _ ob0 ob1
      refine ⟨_, rfl, _, rfl, _, rfl, _, _, rfl, rfl, a, ns, _, 6, rfl, N5.sc, hl, by omega, by omega, by decide, wn, _, _, _, rfl, rfl, SqL.of N5.ws, hato, ?_⟩
      -- three names
      refine ⟨3, rfl, by decide, by decide, fun D hD => ?_⟩
      refine comp_range (lo := 0) (n := 3) (fun j ys H6 => (∃ zs : List Str, ys = zs.map V.str ∧ zs.length = j ∧ ∀ z ∈ zs, z ∈ [y0, y1, y2, y3, y4, y5]) ∧ Same H5 H6) ⟨⟨[], rfl, rfl, fun z hz => by simp at hz⟩, Same.new hD⟩ ?_ ?_
      · rintro j ys H6 hj hD6 ⟨⟨zs, rfl, hzl, hzm⟩, s6⟩
        have N6 := N5.same s6
        have nb0 := drawZ_nn ns (at' + 4 + (0 + (j : Int))) (show (0 : Int) < 6 by decide)
        have nb1 := drawZ_lt ns (at' + 4 + (0 + (j : Int))) (show (0 : Int) < 6 by decide)
        obtain ⟨nm, hatn, hnm⟩ := name_at (y0 := y0) (y1 := y1) (y2 := y2) (y3 := y3) (y4 := y4) (y5 := y5) (t0 := t0) (t1 := t1) _ nb0 nb1
        refine ⟨_, rfl, _, rfl, _, rfl, _, _, rfl, rfl, _, rfl, _, _, rfl, rfl, a, ns, _, 6, rfl, N6.sc, hl, by omega, by omega, by decide, wn, _, _, _, rfl, rfl, SqL.of N6.ws, hatn, hD6, ?_, ?_, s6.on hD⟩
        · rw [List.length_map]
          exact small1000 (by omega)
        · refine ⟨zs ++ [nm], by simp, by simp [hzl], fun z hz => ?_⟩
          rcases List.mem_append.mp hz with h | h
          · exact hzm z h
          · rw [List.mem_singleton.mp h]; exact hnm
      rintro ys H6 hD6 ⟨⟨zs, rfl, hzl, hzm⟩, s6⟩
      obtain ⟨ka, kb, kc, rfl⟩ : ∃ ka kb kc, zs = [ka, kb, kc] := by
        match zs, hzl with
        | [ka, kb, kc], _ => exact ⟨ka, kb, kc, rfl⟩
      have N6 := N5.same s6
      have hka := hzm ka (by simp)
      have hkb := hzm kb (by simp)
      have hkc := hzm kc (by simp)
      have hD6 : H6 D = some (.lst [.str ka, .str kb, .str kc]) := hD6
      -- some names
      refine ⟨_, rfl, _, rfl, _, _, rfl, rfl, _, rfl, 6, rfl, wn, _, rfl, SqL.of N6.ws, fun c4 hc4 => ?_⟩
      rw [e1]
      have s7 := Same.new (o := .lst ([y0, y1, y2, y3, y4, y5].map V.str)) hc4
      refine ⟨a, c4, ns, _, [y0, y1, y2, y3, y4, y5], rfl, s7.seq N6.sc, hl, by omega, by omega, SqL.of upd_same, (by show 0 < 6; decide), fun H7 sm vs s7' hsm0 hsm hv6 hvm => ?_⟩
      have s67 := s7.trans s7'
      have N7 := N6.same s67
      have hD7 := s67 _ _ hD6
      -- the kind
      refine ⟨_, rfl, _, rfl, _, _, rfl, rfl, a, ns, _, 5, rfl, N7.sc, hl, by omega, by omega, by decide, ?_⟩
      generalize drawZ ns (at' + 20) 5 = kind
      have hothN : Nl oth := by
        rcases hotht with rfl | rfl
        · exact hn0
        · exact hn1
      refine ⟨_, rfl, _, rfl, _, rfl, _, rfl, kind, D, sm, ka, kb, kc, oth, vs, rfl, hD7, hsm, hv6, hcsN _ hka, hcsN _ hkb, hcsN _ hkc, hothN, fun z hz => hcsN _ (hvm z hz), N7.m, fun H8 rp x8 t8 hrp R8 => ?_⟩
      have k8 := KeepC.tab N7.m x8
      have N8 := N7.made ne x8 t8
      have hrk := rkOf_in (kind := kind) (t0 := t0) (t1 := t1) (o := oth) hka hkb hkc hotht hvm hv6
      have h5 := rkOf_five (kind := kind) (a := ka) (b := kb) (c := kc) (o := oth) (zs := vs)
      generalize rkOf kind ka kb kc oth vs = rk at R8 hrk h5
      have hsm8 := k8 _ _ (fun φ z => by cases z) hsm
      -- the list grows
      refine ⟨_, rfl, .inl ⟨rfl, _, SqL.of hsm8⟩, _, rfl, wn, _, _, _, rfl, rfl, SqL.of N8.ws, rfl, sm, _, _, rfl, rfl, hsm8, small1000 (by rw [List.length_map]; omega), ?_⟩
      have hsm9 := upd_same (H := H8) (a := sm) (o := .lst (vs.map V.str ++ [.str y0]))
      have kp9 : Keep H8 (upd H8 sm (.lst (vs.map V.str ++ [.str y0]))) := Keep.lst hsm8
      have nsm : ∀ {b : Addr} {o : HO}, b ≠ sm → H8 b = some o → upd H8 sm (.lst (vs.map V.str ++ [.str y0])) b = some o := fun n e => by rw [upd_ne n]; exact e
      have R9 : RuleAt AnyA K mg (upd H8 sm (.lst (vs.map V.str ++ [.str y0]))) rp rk := R8.keep (fun b u _ hb e => nsm (by
        rcases hb with rfl | hb
        · intro z; rw [z, hsm] at hrp; cases hrp
        · intro z; rw [z, hsm] at hb; cases hb) e) fun _ _ => trivial
      have nwn : wn ≠ sm := by
        intro z
        have e := N6.ws
        have : H6 sm = none := noneB s7 hsm0
        rw [z, this] at e
        cases e
      have N9 : Nw K (upd H8 sm (.lst (vs.map V.str ++ [.str y0]))) a wn wd rd ns [y0, y1, y2, y3, y4, y5, t0, t1] t0 t1 [y0, y1, y2, y3, y4, y5] kvs rows n0 n1 z1.2 z2.2 := by
        have hsm6 : H6 sm = none := noneB s7 hsm0
        have k68 : KeepC H6 H8 := (KeepC.of s67).trans k8
        refine ⟨N8.W.keep kp9, nsm nwn N8.ws, ?_, tabIn_lst hsm8 N8.g, tabIn_lst hsm8 N8.m⟩
        rcases N6.sc with (e | ⟨o', e⟩) | e
        · exact .inl (.inl (nsm (fun z => by rw [z, hsm6] at e; cases e) (k68 _ _ (fun φ z => by cases z) e)))
        · exact .inl (.inr ⟨o', nsm (fun z => by rw [z, hsm6] at e; cases e) (k68 _ _ (fun φ z => by cases z) e)⟩)
        · exact .inr e
      have hD9 : upd H8 sm (.lst (vs.map V.str ++ [.str y0])) D = some (.lst [.str ka, .str kb, .str kc]) := nsm (fun z => by
        have hsm6 : H6 sm = none := noneB s7 hsm0
        rw [← z, hD6] at hsm6; cases hsm6) (k8 _ _ (fun φ z => by cases z) hD7)
      generalize upd H8 sm (.lst (vs.map V.str ++ [.str y0])) = H9 at hsm9 R9 N9 hD9 ⊢
      -- made once more
      refine ⟨_, rfl, _, rfl, _, _, rfl, rfl, a, ns, _, 5, rfl, N9.sc, hl, by omega, by omega, by decide, _, rfl, _, rfl, 2, rfl, sm, _, rfl, SqL.of hsm9, fun c5 hc5 => ?_⟩
      generalize drawZ ns (at' + 21) 5 = kind2
      obtain ⟨vs2, ev2, hv2l, hv2m⟩ : ∃ vs2 : List Str, cutV (vs.map V.str ++ [.str y0]) none (some 2) = vs2.map V.str ∧ vs2.length ≤ 6 ∧ ∀ z ∈ vs2, z ∈ [y0, y1, y2, y3, y4, y5] := by
        have hm : ∀ z ∈ vs ++ [y0], z ∈ [y0, y1, y2, y3, y4, y5] := fun z hz => by
          rcases List.mem_append.mp hz with h | h
          · exact hvm z h
          · rw [List.mem_singleton.mp h]; simp
        refine ⟨(vs ++ [y0]).take 2, ?_, by rw [List.length_take]; omega, fun z hz => hm z (List.mem_of_mem_take hz)⟩
        have e : vs.map V.str ++ [.str y0] = (vs ++ [y0]).map V.str := by simp
        rw [e, List.map_take]
        exact cutV_take2 _
      rw [ev2]
      have s10 := Same.new (o := .lst (vs2.map V.str)) hc5
      have N10 := N9.same s10
      refine ⟨_, rfl, kind2, D, c5, ka, kb, kc, t, vs2, rfl, s10 _ _ hD9, upd_same, hv2l, hcsN _ hka, hcsN _ hkb, hcsN _ hkc, htN, fun z hz => hcsN _ (hv2m z hz), N10.m, fun H11 rp2 x11 t11 _ _ => ?_⟩
      have k11 := (KeepC.of s10).trans (KeepC.tab N10.m x11)
      have N11 := N10.made ne x11 t11
      have R11 := R9.keepC k11
      -- gathered
      have ok11 := okU_of N11.W hrk htm hpm hown
      have in11 := gatU_in N11.W (pl := .ref pa) hrk htm hpm hown
      have nl11 : ∀ z ∈ (gatU (.ref pa) kvs rows rk t own p).1, Nl z.1 ∧ Nl z.2.1 := fun z hz => by
        obtain ⟨g1, g2, _⟩ := in11.1 z hz
        refine ⟨?_, hcsN _ g2⟩
        rcases g1 with g1 | g1
        · rw [g1]; exact hn0
        · rw [g1]; exact hn1
      refine ⟨_, rfl, _, rfl, _, rfl, _, rfl, _, rfl, _, rfl, wd, rd, rp, t, own, p, kvs, rows, rk, rfl, N11.W.w, N11.W.r, R11, ok11, nl11, in11.2, N11.g, fun H12 p12 fv ol os x12 t12 h12 hol hN12 fo => ?_⟩
      have k12 := KeepC.tab N11.g x12
      have N12 := N11.gat ne x12 t12
      have R12 := R11.keepC k12
      have wv12 : WVs H12 kvs (gatU (.ref pa) kvs rows rk t own p).1 := fun z hz => by
        obtain ⟨_, _, v, g1, g2⟩ := in11.1 z hz
        exact ⟨v, g1, g2.keepC k12⟩
      have fc := fc_of (pa := pa) (rk := rk) h5 wv12
      have lean12 : ∀ z ∈ onceG (gatU (.ref pa) kvs rows rk t own p).1, (z.1, z.2.1) ∈ leansOf t rk ∨ (0 < p ∧ z = (t, own, (p : Int) - 1) ∧ isAbove rk = true) := fun z hz => by
        rcases gatU_leans (onceG_mem hz) with h | ⟨h1, h2, i', zs', rfl⟩
        · exact .inl h
        · exact .inr ⟨h1, h2, rfl⟩
      have same' : ∀ kvs', (∀ z ∈ (gatU (.ref pa) kvs rows rk t own p).1, valAt kvs' z = valAt kvs z) → gatU (.ref pa) kvs' rows rk t own p = gatU (.ref pa) kvs rows rk t own p := fun kvs' h => gatU_eq h
      have nlO : ∀ z ∈ onceG (gatU (.ref pa) kvs rows rk t own p).1, Nl z.1 ∧ Nl z.2.1 := fun z hz => nl11 z (onceG_mem hz)
      obtain ⟨fa, rfl⟩ : ∃ fa, fv = .ref fa := by
        cases e : (gatU (.ref pa) kvs rows rk t own p).2 with
        | val v => rw [e] at fo; obtain ⟨a', h, _⟩ := fo; exact ⟨a', h⟩
        | call xs => rw [e] at fo; obtain ⟨a', l', h, _⟩ := fo; exact ⟨a', h⟩
      have inV := in11.1
      have inL := in11.2
      clear in11 ok11
      generalize hG : gatU (.ref pa) kvs rows rk t own p = gg at nl11 hN12 fo wv12 fc lean12 same' nlO inV inL
      obtain ⟨ls, res⟩ := gg
      refine ⟨p12, _, rfl, SqT.of h12, rfl, _, _, rfl, _, _, rfl, rfl, ?_⟩
      -- where it leans, how it ended
      refine ⟨_, rfl, _, rfl, _, rfl, _, rfl, _, rfl, rp, ol, rk, t, own, p, os, onceG ls, rfl, R12, htN, hcsN _ hown, hol, hN12, nlO, lean12, fun H13 s13 => ⟨_, rfl, ?_⟩⟩
      have N13 := N12.same s13
      refine iteF ⟨_, rfl, _, rfl, _, rfl, _, rfl, wd, rp, fa, ol, rk, kvs, os, ls, res, H11, rfl, N13.W.w, R12.keepC (KeepC.of s13), s13 _ _ hol, hN12.keep (Keep.of s13), nl11, Found.keepS s13 fo, fc.same s13, fun H14 s14 => ⟨_, rfl, ?_⟩⟩
      refine iteF ?_
      have s12' := s13.trans s14
      have N14 := N12.same s12'
      -- the changed world
      refine ⟨_, rfl, _, rfl, _, rfl, a, wd, ol, ns, kvs, os, onceG ls, rfl, N14.sc, hl, N14.W.w, hK, h360, s12' _ _ hol, hN12.keep (Keep.of s12'), nlO, fun H15 md kvs' s15 hmd0 hmd hgk => ?_⟩
      have s25 := s12'.trans s15
      have N15 := N12.same s25
      have W15 : Wld H15 t0 t1 [y0, y1, y2, y3, y4, y5] md rd kvs' rows n0 n1 := N14.W.changed s15 hmd hgk
      have eg : gatU (.ref pa) kvs' rows rk t own p = (ls, res) := same' kvs' fun z hz => by
        obtain ⟨v, g1, _⟩ := wv12 z hz
        exact same_at hgk (onceG_in hz) g1
      have ok15 := okU_of W15 hrk htm hpm hown
      refine ⟨_, rfl, _, rfl, _, rfl, _, rfl, _, rfl, _, rfl, md, rd, rp, t, own, p, kvs', rows, rk, rfl, W15.w, W15.r, R12.keepC (KeepC.of s25), ok15, by rw [eg]; exact nl11, by rw [eg]; exact inL, N15.g, fun H16 p16 fv2 ol2 os2 x16 t16 h16 hol2 hN16 fo2 => ?_⟩
      rw [eg] at hN16 fo2
      have k16 := KeepC.tab N15.g x16
      have N16 := N15.gat ne x16 t16
      have k26 : KeepC H12 H16 := (KeepC.of s25).trans k16
      obtain ⟨ga, rfl⟩ : ∃ ga, fv2 = .ref ga := by
        cases res with
        | val v => obtain ⟨a', h, _⟩ := fo2; exact ⟨a', h⟩
        | call xs => obtain ⟨a', l', h, _⟩ := fo2; exact ⟨a', h⟩
      refine ⟨p16, _, rfl, SqT.of h16, rfl, _, _, rfl, _, _, rfl, rfl, ?_⟩
      refine ⟨_, rfl, _, rfl, ga, fa, rfl, alk_of hpa fc k26 fo fo2, fun H17 s17 => ⟨_, rfl, ?_⟩⟩
      have lzs : (PyData.list ((onceG ls).map sp3D)).canLay0 = true := lay3s nlO
      refine iteF ⟨_, rfl, _, rfl, .list ((onceG ls).map sp3D), .list ((onceG ls).map sp3D), .lst (SqL.of (s17 _ _ hol2)) (Nts.dt (hN16.keep (Keep.of s17))), .lst (SqL.of (s17 _ _ (k26 _ _ (fun φ z => by cases z) hol))) (Nts.dt (Nts.mapT (fun a' xs e => s17 _ _ (k26 _ _ (fun φ z => by cases z) e)) hN12)), lzs, lzs, once_depth _, _, rfl, ?_⟩
      rw [show PyData.eqv (.list ((onceG ls).map sp3D)) (.list ((onceG ls).map sp3D)) = true from once_eqv _]
      refine iteF ?_
      exact ⟨_, _, _, _, _, _, _, _, _, _, _, _, _, _, _, rfl, N16.same s17⟩
    · rintro σ H4 ⟨o4, o5, o6, o7, o8, o9, o10, o11, o12, o13, o14, o15, o16, o17, o18, rfl, N4⟩
      obtain ⟨S1, e3, _⟩ := N4.g
      obtain ⟨S2, e4, _⟩ := N4.m
      refine q H4 fun z hz => ?_
      simp only [List.mem_cons, List.not_mem_nil, or_false] at hz
      rcases hz with rfl | rfl
      · exact ⟨S1, e3⟩
      · exact ⟨S2, e4⟩
end
end My

namespace My
open PySem L2
theorem tops_mk {K : PySem.W.Frag} {h : Heap} {mg : Str → Option Value} (X : K.In h) (G : h.Ns mainGlobals mg)
    (n_len : PySem.W.nsIn K mainGlobals "len" = some none)
    (n_isinstance : PySem.W.nsIn K mainGlobals "isinstance" = some none)
    (n_int : PySem.W.nsIn K mainGlobals "int" = some none)
    (n_bool : PySem.W.nsIn K mainGlobals "bool" = some none)
    (n_str : PySem.W.nsIn K mainGlobals "str" = some none)
    (n_all : PySem.W.nsIn K mainGlobals "all" = some none)
    (n_range : PySem.W.nsIn K mainGlobals "range" = some none)
    (n_abs : PySem.W.nsIn K mainGlobals "abs" = some none)
    (n_list : PySem.W.nsIn K mainGlobals "list" = some none)
    (n_tuple : PySem.W.nsIn K mainGlobals "tuple" = some none)
    (n_max : PySem.W.nsIn K mainGlobals "max" = some none)
    (n_ValueError : PySem.W.nsIn K mainGlobals "ValueError" = some none)
    {t_LETTERS : Tok} (i_LETTERS : PySem.W.nsIn K mainGlobals "LETTERS" = some (some (.str ("abcdefghijklmnopqrstuvwxyz" : Str) t_LETTERS)))
    {t_MOST_LETTERS : Tok} (i_MOST_LETTERS : PySem.W.nsIn K mainGlobals "MOST_LETTERS" = some (some (.int 8 t_MOST_LETTERS)))
    {t_MOST_NAMES : Tok} (i_MOST_NAMES : PySem.W.nsIn K mainGlobals "MOST_NAMES" = some (some (.int 6 t_MOST_NAMES)))
    {p_LACKS : Addr} {t0_LACKS t1_LACKS : Tok} {od_LACKS : Option Addr} {m_LACKS : Nat} {sl_LACKS : Array (Option Value)} (i_LACKS : PySem.W.nsIn K mainGlobals "LACKS" = some (some (.ref p_LACKS))) (j_LACKS : K.lookup p_LACKS = some ⟨.type "tuple", od_LACKS, .seq #[Value.str ("fault" : Str) t0_LACKS, Value.str ("lacks" : Str) t1_LACKS] m_LACKS, sl_LACKS⟩)
    {f_is_whole : Addr} {oc_is_whole kV_is_whole doc_is_whole pm_is_whole ct_is_whole : Value} {cd_is_whole : Value} {od_is_whole an_is_whole : Option Addr} {sl_is_whole : Array (Option Value)} (a_is_whole : PySem.W.nsIn K mainGlobals "is_whole" = some (some (.ref f_is_whole)))
    (l_is_whole : K.lookup f_is_whole = some ⟨oc_is_whole, od_is_whole, .func (PySem.W.fnOf "is_whole" "is_whole" (defArgs s_is_whole) (defBody s_is_whole) (defScope s_is_whole) .none kV_is_whole doc_is_whole pm_is_whole an_is_whole cd_is_whole ct_is_whole), sl_is_whole⟩)
    (c_is_whole : PySem.W.codeIn K cd_is_whole "is_whole" = true) (k_is_whole : PySem.W.keepIn K (.ref f_is_whole) = true)
    {f_is_number : Addr} {oc_is_number kV_is_number doc_is_number pm_is_number ct_is_number : Value} {cd_is_number : Value} {od_is_number an_is_number : Option Addr} {sl_is_number : Array (Option Value)} (a_is_number : PySem.W.nsIn K mainGlobals "is_number" = some (some (.ref f_is_number)))
    (l_is_number : K.lookup f_is_number = some ⟨oc_is_number, od_is_number, .func (PySem.W.fnOf "is_number" "is_number" (defArgs s_is_number) (defBody s_is_number) (defScope s_is_number) .none kV_is_number doc_is_number pm_is_number an_is_number cd_is_number ct_is_number), sl_is_number⟩)
    (c_is_number : PySem.W.codeIn K cd_is_number "is_number" = true) (k_is_number : PySem.W.keepIn K (.ref f_is_number) = true)
    {f_is_name : Addr} {oc_is_name kV_is_name doc_is_name pm_is_name ct_is_name : Value} {cd_is_name : Value} {od_is_name an_is_name : Option Addr} {sl_is_name : Array (Option Value)} (a_is_name : PySem.W.nsIn K mainGlobals "is_name" = some (some (.ref f_is_name)))
    (l_is_name : K.lookup f_is_name = some ⟨oc_is_name, od_is_name, .func (PySem.W.fnOf "is_name" "is_name" (defArgs s_is_name) (defBody s_is_name) (defScope s_is_name) .none kV_is_name doc_is_name pm_is_name an_is_name cd_is_name ct_is_name), sl_is_name⟩)
    (c_is_name : PySem.W.codeIn K cd_is_name "is_name" = true) (k_is_name : PySem.W.keepIn K (.ref f_is_name) = true)
    {f_is_fault : Addr} {oc_is_fault kV_is_fault doc_is_fault pm_is_fault ct_is_fault : Value} {cd_is_fault : Value} {od_is_fault an_is_fault : Option Addr} {sl_is_fault : Array (Option Value)} (a_is_fault : PySem.W.nsIn K mainGlobals "is_fault" = some (some (.ref f_is_fault)))
    (l_is_fault : K.lookup f_is_fault = some ⟨oc_is_fault, od_is_fault, .func (PySem.W.fnOf "is_fault" "is_fault" (defArgs s_is_fault) (defBody s_is_fault) (defScope s_is_fault) .none kV_is_fault doc_is_fault pm_is_fault an_is_fault cd_is_fault ct_is_fault), sl_is_fault⟩)
    (c_is_fault : PySem.W.codeIn K cd_is_fault "is_fault" = true) (k_is_fault : PySem.W.keepIn K (.ref f_is_fault) = true)
    {f_check_name : Addr} {oc_check_name kV_check_name doc_check_name pm_check_name ct_check_name : Value} {cd_check_name : Value} {od_check_name an_check_name : Option Addr} {sl_check_name : Array (Option Value)} (a_check_name : PySem.W.nsIn K mainGlobals "check_name" = some (some (.ref f_check_name)))
    (l_check_name : K.lookup f_check_name = some ⟨oc_check_name, od_check_name, .func (PySem.W.fnOf "check_name" "check_name" (defArgs s_check_name) (defBody s_check_name) (defScope s_check_name) .none kV_check_name doc_check_name pm_check_name an_check_name cd_check_name ct_check_name), sl_check_name⟩)
    (c_check_name : PySem.W.codeIn K cd_check_name "check_name" = true) (k_check_name : PySem.W.keepIn K (.ref f_check_name) = true)
    {f_checked_names : Addr} {oc_checked_names kV_checked_names doc_checked_names pm_checked_names ct_checked_names : Value} {cd_checked_names : Value} {od_checked_names an_checked_names : Option Addr} {sl_checked_names : Array (Option Value)} (a_checked_names : PySem.W.nsIn K mainGlobals "checked_names" = some (some (.ref f_checked_names)))
    (l_checked_names : K.lookup f_checked_names = some ⟨oc_checked_names, od_checked_names, .func (PySem.W.fnOf "checked_names" "checked_names" (defArgs s_checked_names) (defBody s_checked_names) (defScope s_checked_names) .none kV_checked_names doc_checked_names pm_checked_names an_checked_names cd_checked_names ct_checked_names), sl_checked_names⟩)
    (c_checked_names : PySem.W.codeIn K cd_checked_names "checked_names" = true) (k_checked_names : PySem.W.keepIn K (.ref f_checked_names) = true)
    {f_each_once : Addr} {oc_each_once kV_each_once doc_each_once pm_each_once ct_each_once : Value} {cd_each_once : Value} {od_each_once an_each_once : Option Addr} {sl_each_once : Array (Option Value)} (a_each_once : PySem.W.nsIn K mainGlobals "each_once" = some (some (.ref f_each_once)))
    (l_each_once : K.lookup f_each_once = some ⟨oc_each_once, od_each_once, .func (PySem.W.fnOf "each_once" "each_once" (defArgs s_each_once) (defBody s_each_once) (defScope s_each_once) .none kV_each_once doc_each_once pm_each_once an_each_once cd_each_once ct_each_once), sl_each_once⟩)
    (c_each_once : PySem.W.codeIn K cd_each_once "each_once" = true) (k_each_once : PySem.W.keepIn K (.ref f_each_once) = true)
    {f_look_in_turn : Addr} {oc_look_in_turn kV_look_in_turn doc_look_in_turn pm_look_in_turn ct_look_in_turn : Value} {cd_look_in_turn : Value} {od_look_in_turn an_look_in_turn : Option Addr} {sl_look_in_turn : Array (Option Value)} (a_look_in_turn : PySem.W.nsIn K mainGlobals "look_in_turn" = some (some (.ref f_look_in_turn)))
    (l_look_in_turn : K.lookup f_look_in_turn = some ⟨oc_look_in_turn, od_look_in_turn, .func (PySem.W.fnOf "look_in_turn" "look_in_turn" (defArgs s_look_in_turn) (defBody s_look_in_turn) (defScope s_look_in_turn) .none kV_look_in_turn doc_look_in_turn pm_look_in_turn an_look_in_turn cd_look_in_turn ct_look_in_turn), sl_look_in_turn⟩)
    (c_look_in_turn : PySem.W.codeIn K cd_look_in_turn "look_in_turn" = true) (k_look_in_turn : PySem.W.keepIn K (.ref f_look_in_turn) = true)
    {f_law_drawn : Addr} {oc_law_drawn kV_law_drawn doc_law_drawn pm_law_drawn ct_law_drawn : Value} {cd_law_drawn : Value} {od_law_drawn an_law_drawn : Option Addr} {sl_law_drawn : Array (Option Value)} (a_law_drawn : PySem.W.nsIn K mainGlobals "_law_drawn" = some (some (.ref f_law_drawn)))
    (l_law_drawn : K.lookup f_law_drawn = some ⟨oc_law_drawn, od_law_drawn, .func (PySem.W.fnOf "_law_drawn" "_law_drawn" (defArgs s_law_drawn) (defBody s_law_drawn) (defScope s_law_drawn) .none kV_law_drawn doc_law_drawn pm_law_drawn an_law_drawn cd_law_drawn ct_law_drawn), sl_law_drawn⟩)
    (c_law_drawn : PySem.W.codeIn K cd_law_drawn "_law_drawn" = true) (k_law_drawn : PySem.W.keepIn K (.ref f_law_drawn) = true)
    {f_law_whole : Addr} {oc_law_whole kV_law_whole doc_law_whole pm_law_whole ct_law_whole : Value} {cd_law_whole : Value} {od_law_whole an_law_whole : Option Addr} {sl_law_whole : Array (Option Value)} (a_law_whole : PySem.W.nsIn K mainGlobals "_law_whole" = some (some (.ref f_law_whole)))
    (l_law_whole : K.lookup f_law_whole = some ⟨oc_law_whole, od_law_whole, .func (PySem.W.fnOf "_law_whole" "_law_whole" (defArgs s_law_whole) (defBody s_law_whole) (defScope s_law_whole) .none kV_law_whole doc_law_whole pm_law_whole an_law_whole cd_law_whole ct_law_whole), sl_law_whole⟩)
    (c_law_whole : PySem.W.codeIn K cd_law_whole "_law_whole" = true) (k_law_whole : PySem.W.keepIn K (.ref f_law_whole) = true)
    {f_law_names : Addr} {oc_law_names kV_law_names doc_law_names pm_law_names ct_law_names : Value} {cd_law_names : Value} {od_law_names an_law_names : Option Addr} {sl_law_names : Array (Option Value)} (a_law_names : PySem.W.nsIn K mainGlobals "_law_names" = some (some (.ref f_law_names)))
    (l_law_names : K.lookup f_law_names = some ⟨oc_law_names, od_law_names, .func (PySem.W.fnOf "_law_names" "_law_names" (defArgs s_law_names) (defBody s_law_names) (defScope s_law_names) .none kV_law_names doc_law_names pm_law_names an_law_names cd_law_names ct_law_names), sl_law_names⟩)
    (c_law_names : PySem.W.codeIn K cd_law_names "_law_names" = true) (k_law_names : PySem.W.keepIn K (.ref f_law_names) = true)
    {f_law_value : Addr} {oc_law_value kV_law_value doc_law_value pm_law_value ct_law_value : Value} {cd_law_value : Value} {od_law_value an_law_value : Option Addr} {sl_law_value : Array (Option Value)} (a_law_value : PySem.W.nsIn K mainGlobals "_law_value" = some (some (.ref f_law_value)))
    (l_law_value : K.lookup f_law_value = some ⟨oc_law_value, od_law_value, .func (PySem.W.fnOf "_law_value" "_law_value" (defArgs s_law_value) (defBody s_law_value) (defScope s_law_value) .none kV_law_value doc_law_value pm_law_value an_law_value cd_law_value ct_law_value), sl_law_value⟩)
    (c_law_value : PySem.W.codeIn K cd_law_value "_law_value" = true) (k_law_value : PySem.W.keepIn K (.ref f_law_value) = true)
    {f_law_world : Addr} {oc_law_world kV_law_world doc_law_world pm_law_world ct_law_world : Value} {cd_law_world : Value} {od_law_world an_law_world : Option Addr} {sl_law_world : Array (Option Value)} (a_law_world : PySem.W.nsIn K mainGlobals "_law_world" = some (some (.ref f_law_world)))
    (l_law_world : K.lookup f_law_world = some ⟨oc_law_world, od_law_world, .func (PySem.W.fnOf "_law_world" "_law_world" (defArgs s_law_world) (defBody s_law_world) (defScope s_law_world) .none kV_law_world doc_law_world pm_law_world an_law_world cd_law_world ct_law_world), sl_law_world⟩)
    (c_law_world : PySem.W.codeIn K cd_law_world "_law_world" = true) (k_law_world : PySem.W.keepIn K (.ref f_law_world) = true)
    {f_law_table : Addr} {oc_law_table kV_law_table doc_law_table pm_law_table ct_law_table : Value} {cd_law_table : Value} {od_law_table an_law_table : Option Addr} {sl_law_table : Array (Option Value)} (a_law_table : PySem.W.nsIn K mainGlobals "_law_table" = some (some (.ref f_law_table)))
    (l_law_table : K.lookup f_law_table = some ⟨oc_law_table, od_law_table, .func (PySem.W.fnOf "_law_table" "_law_table" (defArgs s_law_table) (defBody s_law_table) (defScope s_law_table) .none kV_law_table doc_law_table pm_law_table an_law_table cd_law_table ct_law_table), sl_law_table⟩)
    (c_law_table : PySem.W.codeIn K cd_law_table "_law_table" = true) (k_law_table : PySem.W.keepIn K (.ref f_law_table) = true)
    {f_law_look : Addr} {oc_law_look kV_law_look doc_law_look pm_law_look ct_law_look : Value} {cd_law_look : Value} {od_law_look an_law_look : Option Addr} {sl_law_look : Array (Option Value)} (a_law_look : PySem.W.nsIn K mainGlobals "_law_look" = some (some (.ref f_law_look)))
    (l_law_look : K.lookup f_law_look = some ⟨oc_law_look, od_law_look, .func (PySem.W.fnOf "_law_look" "_law_look" (defArgs s_law_look) (defBody s_law_look) (defScope s_law_look) .none kV_law_look doc_law_look pm_law_look an_law_look cd_law_look ct_law_look), sl_law_look⟩)
    (c_law_look : PySem.W.codeIn K cd_law_look "_law_look" = true) (k_law_look : PySem.W.keepIn K (.ref f_law_look) = true)
    {f_law_gathered : Addr} {oc_law_gathered kV_law_gathered doc_law_gathered pm_law_gathered ct_law_gathered : Value} {cc_law_gathered : Addr} {od_law_gathered an_law_gathered : Option Addr} {sl_law_gathered : Array (Option Value)} (a_law_gathered : PySem.W.nsIn K mainGlobals "_law_gathered" = some (some (.ref f_law_gathered)))
    (l_law_gathered : K.lookup f_law_gathered = some ⟨oc_law_gathered, od_law_gathered, .func (PySem.W.fnOf "_law_gathered" "_law_gathered" (defArgs s_law_gathered) (defBody s_law_gathered) (defScope s_law_gathered) .none kV_law_gathered doc_law_gathered pm_law_gathered an_law_gathered (.ref cc_law_gathered) ct_law_gathered), sl_law_gathered⟩)
    (c_law_gathered : PySem.W.codeIn K (.ref cc_law_gathered) "_law_gathered" = true) (k_law_gathered : PySem.W.keepIn K (.ref f_law_gathered) = true)
    {wo_law_gathered : Value} {wd_law_gathered : Option Addr} {wv_law_gathered : Array Value} {ws_law_gathered : Array (Option Value)} {p_law_gathered : Addr} (w_law_gathered : K.lookup cc_law_gathered = some ⟨wo_law_gathered, wd_law_gathered, .fields wv_law_gathered, ws_law_gathered⟩) (t_law_gathered : wv_law_gathered[11]? = some (.ref p_law_gathered))
    {f_law_alike : Addr} {oc_law_alike kV_law_alike doc_law_alike pm_law_alike ct_law_alike : Value} {cd_law_alike : Value} {od_law_alike an_law_alike : Option Addr} {sl_law_alike : Array (Option Value)} (a_law_alike : PySem.W.nsIn K mainGlobals "_law_alike" = some (some (.ref f_law_alike)))
    (l_law_alike : K.lookup f_law_alike = some ⟨oc_law_alike, od_law_alike, .func (PySem.W.fnOf "_law_alike" "_law_alike" (defArgs s_law_alike) (defBody s_law_alike) (defScope s_law_alike) .none kV_law_alike doc_law_alike pm_law_alike an_law_alike cd_law_alike ct_law_alike), sl_law_alike⟩)
    (c_law_alike : PySem.W.codeIn K cd_law_alike "_law_alike" = true) (k_law_alike : PySem.W.keepIn K (.ref f_law_alike) = true)
    {f_law_picked : Addr} {oc_law_picked kV_law_picked doc_law_picked pm_law_picked ct_law_picked : Value} {cd_law_picked : Value} {od_law_picked an_law_picked : Option Addr} {sl_law_picked : Array (Option Value)} (a_law_picked : PySem.W.nsIn K mainGlobals "_law_picked" = some (some (.ref f_law_picked)))
    (l_law_picked : K.lookup f_law_picked = some ⟨oc_law_picked, od_law_picked, .func (PySem.W.fnOf "_law_picked" "_law_picked" (defArgs s_law_picked) (defBody s_law_picked) (defScope s_law_picked) .none kV_law_picked doc_law_picked pm_law_picked an_law_picked cd_law_picked ct_law_picked), sl_law_picked⟩)
    (c_law_picked : PySem.W.codeIn K cd_law_picked "_law_picked" = true) (k_law_picked : PySem.W.keepIn K (.ref f_law_picked) = true)
    {f_law_made : Addr} {oc_law_made kV_law_made doc_law_made pm_law_made ct_law_made : Value} {cc_law_made : Addr} {od_law_made an_law_made : Option Addr} {sl_law_made : Array (Option Value)} (a_law_made : PySem.W.nsIn K mainGlobals "_law_made" = some (some (.ref f_law_made)))
    (l_law_made : K.lookup f_law_made = some ⟨oc_law_made, od_law_made, .func (PySem.W.fnOf "_law_made" "_law_made" (defArgs s_law_made) (defBody s_law_made) (defScope s_law_made) .none kV_law_made doc_law_made pm_law_made an_law_made (.ref cc_law_made) ct_law_made), sl_law_made⟩)
    (c_law_made : PySem.W.codeIn K (.ref cc_law_made) "_law_made" = true) (k_law_made : PySem.W.keepIn K (.ref f_law_made) = true)
    {wo_law_made : Value} {wd_law_made : Option Addr} {wv_law_made : Array Value} {ws_law_made : Array (Option Value)} {p_law_made : Addr} (w_law_made : K.lookup cc_law_made = some ⟨wo_law_made, wd_law_made, .fields wv_law_made, ws_law_made⟩) (t_law_made : wv_law_made[11]? = some (.ref p_law_made))
    {f_law_changed : Addr} {oc_law_changed kV_law_changed doc_law_changed pm_law_changed ct_law_changed : Value} {cd_law_changed : Value} {od_law_changed an_law_changed : Option Addr} {sl_law_changed : Array (Option Value)} (a_law_changed : PySem.W.nsIn K mainGlobals "_law_changed" = some (some (.ref f_law_changed)))
    (l_law_changed : K.lookup f_law_changed = some ⟨oc_law_changed, od_law_changed, .func (PySem.W.fnOf "_law_changed" "_law_changed" (defArgs s_law_changed) (defBody s_law_changed) (defScope s_law_changed) .none kV_law_changed doc_law_changed pm_law_changed an_law_changed cd_law_changed ct_law_changed), sl_law_changed⟩)
    (c_law_changed : PySem.W.codeIn K cd_law_changed "_law_changed" = true) (k_law_changed : PySem.W.keepIn K (.ref f_law_changed) = true)
    {f_law_leans : Addr} {oc_law_leans kV_law_leans doc_law_leans pm_law_leans ct_law_leans : Value} {cd_law_leans : Value} {od_law_leans an_law_leans : Option Addr} {sl_law_leans : Array (Option Value)} (a_law_leans : PySem.W.nsIn K mainGlobals "_law_leans" = some (some (.ref f_law_leans)))
    (l_law_leans : K.lookup f_law_leans = some ⟨oc_law_leans, od_law_leans, .func (PySem.W.fnOf "_law_leans" "_law_leans" (defArgs s_law_leans) (defBody s_law_leans) (defScope s_law_leans) .none kV_law_leans doc_law_leans pm_law_leans an_law_leans cd_law_leans ct_law_leans), sl_law_leans⟩)
    (c_law_leans : PySem.W.codeIn K cd_law_leans "_law_leans" = true) (k_law_leans : PySem.W.keepIn K (.ref f_law_leans) = true)
    {f_law_fault : Addr} {oc_law_fault kV_law_fault doc_law_fault pm_law_fault ct_law_fault : Value} {cd_law_fault : Value} {od_law_fault an_law_fault : Option Addr} {sl_law_fault : Array (Option Value)} (a_law_fault : PySem.W.nsIn K mainGlobals "_law_fault" = some (some (.ref f_law_fault)))
    (l_law_fault : K.lookup f_law_fault = some ⟨oc_law_fault, od_law_fault, .func (PySem.W.fnOf "_law_fault" "_law_fault" (defArgs s_law_fault) (defBody s_law_fault) (defScope s_law_fault) .none kV_law_fault doc_law_fault pm_law_fault an_law_fault cd_law_fault ct_law_fault), sl_law_fault⟩)
    (c_law_fault : PySem.W.codeIn K cd_law_fault "_law_fault" = true) (k_law_fault : PySem.W.keepIn K (.ref f_law_fault) = true)
    {f_law : Addr} {oc_law kV_law doc_law pm_law ct_law : Value} {cd_law : Value} {od_law an_law : Option Addr} {sl_law : Array (Option Value)} (a_law : PySem.W.nsIn K mainGlobals "law" = some (some (.ref f_law)))
    (l_law : K.lookup f_law = some ⟨oc_law, od_law, .func (PySem.W.fnOf "law" "law" (defArgs s_law) (defBody s_law) (defScope s_law) .none kV_law doc_law pm_law an_law cd_law ct_law), sl_law⟩)
    (c_law : PySem.W.codeIn K cd_law "law" = true) (k_law : PySem.W.keepIn K (.ref f_law) = true)
    (ne_law_gathered_law_made : p_law_gathered ≠ p_law_made)
    (notabs : PySem.W.noTabs K = true)
    {C_Rule : Addr} (a_Rule : PySem.W.nsIn K mainGlobals "Rule" = some (some (.ref C_Rule)))
    (pg_Rule : PySem.W.plainGet K C_Rule Str.empty = true) (hd_Rule : PySem.W.hasDictIn K C_Rule = true) (po_Rule : PySem.W.plainOver K C_Rule = true) (sa_Rule : PySem.W.findIn K (.ref C_Rule) "__setattr__" = some (some (.builtin "object.__setattr__"))) (mk_Rule : PySem.W.makesIn K C_Rule = true) (kc_Rule : PySem.W.keepIn K (.ref C_Rule) = true) (hc_Rule : PySem.W.findIn K (.ref C_Rule) "__class__" = some (some (.builtin "object.__class__")))
    (na_Rule_function : PySem.W.findIn K (.ref C_Rule) "function" = some none)
    {f_Rule_init : Addr} {oc_Rule_init kV_Rule_init doc_Rule_init pm_Rule_init cd_Rule_init ct_Rule_init : Value} {od_Rule_init an_Rule_init : Option Addr} {sl_Rule_init : Array (Option Value)} (a_Rule_init : PySem.W.findIn K (.ref C_Rule) "__init__" = some (some (.ref f_Rule_init))) (j_Rule_init : PySem.W.isFn K (.ref f_Rule_init) = true)
    (l_Rule_init : K.lookup f_Rule_init = some ⟨oc_Rule_init, od_Rule_init, .func (PySem.W.fnOf "__init__" "Rule.__init__" (defArgs s_Rule_init) (defBody s_Rule_init) (defScope s_Rule_init) .none kV_Rule_init doc_Rule_init pm_Rule_init an_Rule_init cd_Rule_init ct_Rule_init), sl_Rule_init⟩)
    (c_Rule_init : PySem.W.codeIn K cd_Rule_init "Rule.__init__" = true) (k_Rule_init : PySem.W.keepIn K (.ref f_Rule_init) = true)
    (vg_Rule_init : PySem.W.specialIn K (.ref C_Rule) "__getattribute__" = some (some (.builtin "type.__getattribute__"))) (vr_Rule_init : PySem.W.readsIn K C_Rule (.type "type") = true) (vf_Rule_init : PySem.W.findCls K (.ref C_Rule) (.type "type") "__init__" = some (.val (.ref f_Rule_init)))
    (ow4 : PySem.W.specialIn K (.builtin "object.__class__") "__get__" = some (some (.builtin "getset_descriptor.__get__"))) (ow5 : PySem.W.takesIn K (.builtin "object.__class__") = some true)
    (mo_Rule : PySem.W.mroIn K C_Rule (.type "object") = some true)
    {C_Cells : Addr} (a_Cells : PySem.W.nsIn K mainGlobals "Cells" = some (some (.ref C_Cells)))
    (pg_Cells : PySem.W.plainGet K C_Cells Str.empty = true) (hd_Cells : PySem.W.hasDictIn K C_Cells = true) (po_Cells : PySem.W.plainOver K C_Cells = true) (sa_Cells : PySem.W.findIn K (.ref C_Cells) "__setattr__" = some (some (.builtin "object.__setattr__"))) (mk_Cells : PySem.W.makesIn K C_Cells = true) (kc_Cells : PySem.W.keepIn K (.ref C_Cells) = true) (hc_Cells : PySem.W.findIn K (.ref C_Cells) "__class__" = some (some (.builtin "object.__class__")))
    (na_Cells_function : PySem.W.findIn K (.ref C_Cells) "function" = some none)
    (na_Cells_names : PySem.W.findIn K (.ref C_Cells) "names" = some none)
    {f_Cells_init : Addr} {oc_Cells_init kV_Cells_init doc_Cells_init pm_Cells_init cd_Cells_init ct_Cells_init : Value} {od_Cells_init an_Cells_init : Option Addr} {sl_Cells_init : Array (Option Value)} (a_Cells_init : PySem.W.findIn K (.ref C_Cells) "__init__" = some (some (.ref f_Cells_init))) (j_Cells_init : PySem.W.isFn K (.ref f_Cells_init) = true)
    (l_Cells_init : K.lookup f_Cells_init = some ⟨oc_Cells_init, od_Cells_init, .func (PySem.W.fnOf "__init__" "Cells.__init__" (defArgs s_Cells_init) (defBody s_Cells_init) (defScope s_Cells_init) .none kV_Cells_init doc_Cells_init pm_Cells_init an_Cells_init cd_Cells_init ct_Cells_init), sl_Cells_init⟩)
    (c_Cells_init : PySem.W.codeIn K cd_Cells_init "Cells.__init__" = true) (k_Cells_init : PySem.W.keepIn K (.ref f_Cells_init) = true)
    {f_Cells_leans : Addr} {oc_Cells_leans kV_Cells_leans doc_Cells_leans pm_Cells_leans cd_Cells_leans ct_Cells_leans : Value} {od_Cells_leans an_Cells_leans : Option Addr} {sl_Cells_leans : Array (Option Value)} (a_Cells_leans : PySem.W.findIn K (.ref C_Cells) "leans" = some (some (.ref f_Cells_leans))) (j_Cells_leans : PySem.W.isFn K (.ref f_Cells_leans) = true)
    (l_Cells_leans : K.lookup f_Cells_leans = some ⟨oc_Cells_leans, od_Cells_leans, .func (PySem.W.fnOf "leans" "Cells.leans" (defArgs s_Cells_leans) (defBody s_Cells_leans) (defScope s_Cells_leans) .none kV_Cells_leans doc_Cells_leans pm_Cells_leans an_Cells_leans cd_Cells_leans ct_Cells_leans), sl_Cells_leans⟩)
    (c_Cells_leans : PySem.W.codeIn K cd_Cells_leans "Cells.leans" = true) (k_Cells_leans : PySem.W.keepIn K (.ref f_Cells_leans) = true)
    {f_Cells_gather : Addr} {oc_Cells_gather kV_Cells_gather doc_Cells_gather pm_Cells_gather cd_Cells_gather ct_Cells_gather : Value} {od_Cells_gather an_Cells_gather : Option Addr} {sl_Cells_gather : Array (Option Value)} (a_Cells_gather : PySem.W.findIn K (.ref C_Cells) "gather" = some (some (.ref f_Cells_gather))) (j_Cells_gather : PySem.W.isFn K (.ref f_Cells_gather) = true)
    (l_Cells_gather : K.lookup f_Cells_gather = some ⟨oc_Cells_gather, od_Cells_gather, .func (PySem.W.fnOf "gather" "Cells.gather" (defArgs s_Cells_gather) (defBody s_Cells_gather) (defScope s_Cells_gather) .none kV_Cells_gather doc_Cells_gather pm_Cells_gather an_Cells_gather cd_Cells_gather ct_Cells_gather), sl_Cells_gather⟩)
    (c_Cells_gather : PySem.W.codeIn K cd_Cells_gather "Cells.gather" = true) (k_Cells_gather : PySem.W.keepIn K (.ref f_Cells_gather) = true)
    (mo_Cells : PySem.W.mroIn K C_Cells (.type "object") = some true)
    {C_Above : Addr} (a_Above : PySem.W.nsIn K mainGlobals "Above" = some (some (.ref C_Above)))
    (pg_Above : PySem.W.plainGet K C_Above Str.empty = true) (hd_Above : PySem.W.hasDictIn K C_Above = true) (po_Above : PySem.W.plainOver K C_Above = true) (sa_Above : PySem.W.findIn K (.ref C_Above) "__setattr__" = some (some (.builtin "object.__setattr__"))) (mk_Above : PySem.W.makesIn K C_Above = true) (kc_Above : PySem.W.keepIn K (.ref C_Above) = true) (hc_Above : PySem.W.findIn K (.ref C_Above) "__class__" = some (some (.builtin "object.__class__")))
    (na_Above_function : PySem.W.findIn K (.ref C_Above) "function" = some none)
    (na_Above_names : PySem.W.findIn K (.ref C_Above) "names" = some none)
    (na_Above_first : PySem.W.findIn K (.ref C_Above) "first" = some none)
    {f_Above_init : Addr} {oc_Above_init kV_Above_init doc_Above_init pm_Above_init cd_Above_init ct_Above_init : Value} {od_Above_init an_Above_init : Option Addr} {sl_Above_init : Array (Option Value)} (a_Above_init : PySem.W.findIn K (.ref C_Above) "__init__" = some (some (.ref f_Above_init))) (j_Above_init : PySem.W.isFn K (.ref f_Above_init) = true)
    (l_Above_init : K.lookup f_Above_init = some ⟨oc_Above_init, od_Above_init, .func (PySem.W.fnOf "__init__" "Above.__init__" (defArgs s_Above_init) (defBody s_Above_init) (defScope s_Above_init) .none kV_Above_init doc_Above_init pm_Above_init an_Above_init cd_Above_init ct_Above_init), sl_Above_init⟩)
    (c_Above_init : PySem.W.codeIn K cd_Above_init "Above.__init__" = true) (k_Above_init : PySem.W.keepIn K (.ref f_Above_init) = true)
    {f_Above_leans : Addr} {oc_Above_leans kV_Above_leans doc_Above_leans pm_Above_leans cd_Above_leans ct_Above_leans : Value} {od_Above_leans an_Above_leans : Option Addr} {sl_Above_leans : Array (Option Value)} (a_Above_leans : PySem.W.findIn K (.ref C_Above) "leans" = some (some (.ref f_Above_leans))) (j_Above_leans : PySem.W.isFn K (.ref f_Above_leans) = true)
    (l_Above_leans : K.lookup f_Above_leans = some ⟨oc_Above_leans, od_Above_leans, .func (PySem.W.fnOf "leans" "Above.leans" (defArgs s_Above_leans) (defBody s_Above_leans) (defScope s_Above_leans) .none kV_Above_leans doc_Above_leans pm_Above_leans an_Above_leans cd_Above_leans ct_Above_leans), sl_Above_leans⟩)
    (c_Above_leans : PySem.W.codeIn K cd_Above_leans "Above.leans" = true) (k_Above_leans : PySem.W.keepIn K (.ref f_Above_leans) = true)
    {f_Above_gather : Addr} {oc_Above_gather kV_Above_gather doc_Above_gather pm_Above_gather cd_Above_gather ct_Above_gather : Value} {od_Above_gather an_Above_gather : Option Addr} {sl_Above_gather : Array (Option Value)} (a_Above_gather : PySem.W.findIn K (.ref C_Above) "gather" = some (some (.ref f_Above_gather))) (j_Above_gather : PySem.W.isFn K (.ref f_Above_gather) = true)
    (l_Above_gather : K.lookup f_Above_gather = some ⟨oc_Above_gather, od_Above_gather, .func (PySem.W.fnOf "gather" "Above.gather" (defArgs s_Above_gather) (defBody s_Above_gather) (defScope s_Above_gather) .none kV_Above_gather doc_Above_gather pm_Above_gather an_Above_gather cd_Above_gather ct_Above_gather), sl_Above_gather⟩)
    (c_Above_gather : PySem.W.codeIn K cd_Above_gather "Above.gather" = true) (k_Above_gather : PySem.W.keepIn K (.ref f_Above_gather) = true)
    (mo_Above : PySem.W.mroIn K C_Above (.type "object") = some true)
    {C_Group : Addr} (a_Group : PySem.W.nsIn K mainGlobals "Group" = some (some (.ref C_Group)))
    (pg_Group : PySem.W.plainGet K C_Group Str.empty = true) (hd_Group : PySem.W.hasDictIn K C_Group = true) (po_Group : PySem.W.plainOver K C_Group = true) (sa_Group : PySem.W.findIn K (.ref C_Group) "__setattr__" = some (some (.builtin "object.__setattr__"))) (mk_Group : PySem.W.makesIn K C_Group = true) (kc_Group : PySem.W.keepIn K (.ref C_Group) = true) (hc_Group : PySem.W.findIn K (.ref C_Group) "__class__" = some (some (.builtin "object.__class__")))
    (na_Group_function : PySem.W.findIn K (.ref C_Group) "function" = some none)
    (na_Group_key : PySem.W.findIn K (.ref C_Group) "key" = some none)
    (na_Group_name : PySem.W.findIn K (.ref C_Group) "name" = some none)
    {f_Group_init : Addr} {oc_Group_init kV_Group_init doc_Group_init pm_Group_init cd_Group_init ct_Group_init : Value} {od_Group_init an_Group_init : Option Addr} {sl_Group_init : Array (Option Value)} (a_Group_init : PySem.W.findIn K (.ref C_Group) "__init__" = some (some (.ref f_Group_init))) (j_Group_init : PySem.W.isFn K (.ref f_Group_init) = true)
    (l_Group_init : K.lookup f_Group_init = some ⟨oc_Group_init, od_Group_init, .func (PySem.W.fnOf "__init__" "Group.__init__" (defArgs s_Group_init) (defBody s_Group_init) (defScope s_Group_init) .none kV_Group_init doc_Group_init pm_Group_init an_Group_init cd_Group_init ct_Group_init), sl_Group_init⟩)
    (c_Group_init : PySem.W.codeIn K cd_Group_init "Group.__init__" = true) (k_Group_init : PySem.W.keepIn K (.ref f_Group_init) = true)
    {f_Group_leans : Addr} {oc_Group_leans kV_Group_leans doc_Group_leans pm_Group_leans cd_Group_leans ct_Group_leans : Value} {od_Group_leans an_Group_leans : Option Addr} {sl_Group_leans : Array (Option Value)} (a_Group_leans : PySem.W.findIn K (.ref C_Group) "leans" = some (some (.ref f_Group_leans))) (j_Group_leans : PySem.W.isFn K (.ref f_Group_leans) = true)
    (l_Group_leans : K.lookup f_Group_leans = some ⟨oc_Group_leans, od_Group_leans, .func (PySem.W.fnOf "leans" "Group.leans" (defArgs s_Group_leans) (defBody s_Group_leans) (defScope s_Group_leans) .none kV_Group_leans doc_Group_leans pm_Group_leans an_Group_leans cd_Group_leans ct_Group_leans), sl_Group_leans⟩)
    (c_Group_leans : PySem.W.codeIn K cd_Group_leans "Group.leans" = true) (k_Group_leans : PySem.W.keepIn K (.ref f_Group_leans) = true)
    {f_Group_gather : Addr} {oc_Group_gather kV_Group_gather doc_Group_gather pm_Group_gather cd_Group_gather ct_Group_gather : Value} {od_Group_gather an_Group_gather : Option Addr} {sl_Group_gather : Array (Option Value)} (a_Group_gather : PySem.W.findIn K (.ref C_Group) "gather" = some (some (.ref f_Group_gather))) (j_Group_gather : PySem.W.isFn K (.ref f_Group_gather) = true)
    (l_Group_gather : K.lookup f_Group_gather = some ⟨oc_Group_gather, od_Group_gather, .func (PySem.W.fnOf "gather" "Group.gather" (defArgs s_Group_gather) (defBody s_Group_gather) (defScope s_Group_gather) .none kV_Group_gather doc_Group_gather pm_Group_gather an_Group_gather cd_Group_gather ct_Group_gather), sl_Group_gather⟩)
    (c_Group_gather : PySem.W.codeIn K cd_Group_gather "Group.gather" = true) (k_Group_gather : PySem.W.keepIn K (.ref f_Group_gather) = true)
    (mo_Group : PySem.W.mroIn K C_Group (.type "object") = some true)
    {C_Lookup : Addr} (a_Lookup : PySem.W.nsIn K mainGlobals "Lookup" = some (some (.ref C_Lookup)))
    (pg_Lookup : PySem.W.plainGet K C_Lookup Str.empty = true) (hd_Lookup : PySem.W.hasDictIn K C_Lookup = true) (po_Lookup : PySem.W.plainOver K C_Lookup = true) (sa_Lookup : PySem.W.findIn K (.ref C_Lookup) "__setattr__" = some (some (.builtin "object.__setattr__"))) (mk_Lookup : PySem.W.makesIn K C_Lookup = true) (kc_Lookup : PySem.W.keepIn K (.ref C_Lookup) = true) (hc_Lookup : PySem.W.findIn K (.ref C_Lookup) "__class__" = some (some (.builtin "object.__class__")))
    (na_Lookup_function : PySem.W.findIn K (.ref C_Lookup) "function" = some none)
    (na_Lookup_key : PySem.W.findIn K (.ref C_Lookup) "key" = some none)
    (na_Lookup_other : PySem.W.findIn K (.ref C_Lookup) "other" = some none)
    (na_Lookup_theirs : PySem.W.findIn K (.ref C_Lookup) "theirs" = some none)
    (na_Lookup_names : PySem.W.findIn K (.ref C_Lookup) "names" = some none)
    {f_Lookup_init : Addr} {oc_Lookup_init kV_Lookup_init doc_Lookup_init pm_Lookup_init cd_Lookup_init ct_Lookup_init : Value} {od_Lookup_init an_Lookup_init : Option Addr} {sl_Lookup_init : Array (Option Value)} (a_Lookup_init : PySem.W.findIn K (.ref C_Lookup) "__init__" = some (some (.ref f_Lookup_init))) (j_Lookup_init : PySem.W.isFn K (.ref f_Lookup_init) = true)
    (l_Lookup_init : K.lookup f_Lookup_init = some ⟨oc_Lookup_init, od_Lookup_init, .func (PySem.W.fnOf "__init__" "Lookup.__init__" (defArgs s_Lookup_init) (defBody s_Lookup_init) (defScope s_Lookup_init) .none kV_Lookup_init doc_Lookup_init pm_Lookup_init an_Lookup_init cd_Lookup_init ct_Lookup_init), sl_Lookup_init⟩)
    (c_Lookup_init : PySem.W.codeIn K cd_Lookup_init "Lookup.__init__" = true) (k_Lookup_init : PySem.W.keepIn K (.ref f_Lookup_init) = true)
    {f_Lookup_leans : Addr} {oc_Lookup_leans kV_Lookup_leans doc_Lookup_leans pm_Lookup_leans cd_Lookup_leans ct_Lookup_leans : Value} {od_Lookup_leans an_Lookup_leans : Option Addr} {sl_Lookup_leans : Array (Option Value)} (a_Lookup_leans : PySem.W.findIn K (.ref C_Lookup) "leans" = some (some (.ref f_Lookup_leans))) (j_Lookup_leans : PySem.W.isFn K (.ref f_Lookup_leans) = true)
    (l_Lookup_leans : K.lookup f_Lookup_leans = some ⟨oc_Lookup_leans, od_Lookup_leans, .func (PySem.W.fnOf "leans" "Lookup.leans" (defArgs s_Lookup_leans) (defBody s_Lookup_leans) (defScope s_Lookup_leans) .none kV_Lookup_leans doc_Lookup_leans pm_Lookup_leans an_Lookup_leans cd_Lookup_leans ct_Lookup_leans), sl_Lookup_leans⟩)
    (c_Lookup_leans : PySem.W.codeIn K cd_Lookup_leans "Lookup.leans" = true) (k_Lookup_leans : PySem.W.keepIn K (.ref f_Lookup_leans) = true)
    {f_Lookup_gather : Addr} {oc_Lookup_gather kV_Lookup_gather doc_Lookup_gather pm_Lookup_gather cd_Lookup_gather ct_Lookup_gather : Value} {od_Lookup_gather an_Lookup_gather : Option Addr} {sl_Lookup_gather : Array (Option Value)} (a_Lookup_gather : PySem.W.findIn K (.ref C_Lookup) "gather" = some (some (.ref f_Lookup_gather))) (j_Lookup_gather : PySem.W.isFn K (.ref f_Lookup_gather) = true)
    (l_Lookup_gather : K.lookup f_Lookup_gather = some ⟨oc_Lookup_gather, od_Lookup_gather, .func (PySem.W.fnOf "gather" "Lookup.gather" (defArgs s_Lookup_gather) (defBody s_Lookup_gather) (defScope s_Lookup_gather) .none kV_Lookup_gather doc_Lookup_gather pm_Lookup_gather an_Lookup_gather cd_Lookup_gather ct_Lookup_gather), sl_Lookup_gather⟩)
    (c_Lookup_gather : PySem.W.codeIn K cd_Lookup_gather "Lookup.gather" = true) (k_Lookup_gather : PySem.W.keepIn K (.ref f_Lookup_gather) = true)
    (mo_Lookup : PySem.W.mroIn K C_Lookup (.type "object") = some true)
    {C_Mend : Addr} (a_Mend : PySem.W.nsIn K mainGlobals "Mend" = some (some (.ref C_Mend)))
    (pg_Mend : PySem.W.plainGet K C_Mend Str.empty = true) (hd_Mend : PySem.W.hasDictIn K C_Mend = true) (po_Mend : PySem.W.plainOver K C_Mend = true) (sa_Mend : PySem.W.findIn K (.ref C_Mend) "__setattr__" = some (some (.builtin "object.__setattr__"))) (mk_Mend : PySem.W.makesIn K C_Mend = true) (kc_Mend : PySem.W.keepIn K (.ref C_Mend) = true) (hc_Mend : PySem.W.findIn K (.ref C_Mend) "__class__" = some (some (.builtin "object.__class__")))
    (na_Mend_function : PySem.W.findIn K (.ref C_Mend) "function" = some none)
    (na_Mend_name : PySem.W.findIn K (.ref C_Mend) "name" = some none)
    {f_Mend_init : Addr} {oc_Mend_init kV_Mend_init doc_Mend_init pm_Mend_init cd_Mend_init ct_Mend_init : Value} {od_Mend_init an_Mend_init : Option Addr} {sl_Mend_init : Array (Option Value)} (a_Mend_init : PySem.W.findIn K (.ref C_Mend) "__init__" = some (some (.ref f_Mend_init))) (j_Mend_init : PySem.W.isFn K (.ref f_Mend_init) = true)
    (l_Mend_init : K.lookup f_Mend_init = some ⟨oc_Mend_init, od_Mend_init, .func (PySem.W.fnOf "__init__" "Mend.__init__" (defArgs s_Mend_init) (defBody s_Mend_init) (defScope s_Mend_init) .none kV_Mend_init doc_Mend_init pm_Mend_init an_Mend_init cd_Mend_init ct_Mend_init), sl_Mend_init⟩)
    (c_Mend_init : PySem.W.codeIn K cd_Mend_init "Mend.__init__" = true) (k_Mend_init : PySem.W.keepIn K (.ref f_Mend_init) = true)
    {f_Mend_leans : Addr} {oc_Mend_leans kV_Mend_leans doc_Mend_leans pm_Mend_leans cd_Mend_leans ct_Mend_leans : Value} {od_Mend_leans an_Mend_leans : Option Addr} {sl_Mend_leans : Array (Option Value)} (a_Mend_leans : PySem.W.findIn K (.ref C_Mend) "leans" = some (some (.ref f_Mend_leans))) (j_Mend_leans : PySem.W.isFn K (.ref f_Mend_leans) = true)
    (l_Mend_leans : K.lookup f_Mend_leans = some ⟨oc_Mend_leans, od_Mend_leans, .func (PySem.W.fnOf "leans" "Mend.leans" (defArgs s_Mend_leans) (defBody s_Mend_leans) (defScope s_Mend_leans) .none kV_Mend_leans doc_Mend_leans pm_Mend_leans an_Mend_leans cd_Mend_leans ct_Mend_leans), sl_Mend_leans⟩)
    (c_Mend_leans : PySem.W.codeIn K cd_Mend_leans "Mend.leans" = true) (k_Mend_leans : PySem.W.keepIn K (.ref f_Mend_leans) = true)
    {f_Mend_gather : Addr} {oc_Mend_gather kV_Mend_gather doc_Mend_gather pm_Mend_gather cd_Mend_gather ct_Mend_gather : Value} {od_Mend_gather an_Mend_gather : Option Addr} {sl_Mend_gather : Array (Option Value)} (a_Mend_gather : PySem.W.findIn K (.ref C_Mend) "gather" = some (some (.ref f_Mend_gather))) (j_Mend_gather : PySem.W.isFn K (.ref f_Mend_gather) = true)
    (l_Mend_gather : K.lookup f_Mend_gather = some ⟨oc_Mend_gather, od_Mend_gather, .func (PySem.W.fnOf "gather" "Mend.gather" (defArgs s_Mend_gather) (defBody s_Mend_gather) (defScope s_Mend_gather) .none kV_Mend_gather doc_Mend_gather pm_Mend_gather an_Mend_gather cd_Mend_gather ct_Mend_gather), sl_Mend_gather⟩)
    (c_Mend_gather : PySem.W.codeIn K cd_Mend_gather "Mend.gather" = true) (k_Mend_gather : PySem.W.keepIn K (.ref f_Mend_gather) = true)
    (mo_Mend : PySem.W.mroIn K C_Mend (.type "object") = some true)
    (si_Rule_Above : PySem.W.kitOne K (.ref C_Rule) (.ref C_Above) = some false)
    (si_Rule_Lookup : PySem.W.kitOne K (.ref C_Rule) (.ref C_Lookup) = some false)
    (si_Rule_Mend : PySem.W.kitOne K (.ref C_Rule) (.ref C_Mend) = some false)
    (si_Cells_Above : PySem.W.kitOne K (.ref C_Cells) (.ref C_Above) = some false)
    (si_Cells_Lookup : PySem.W.kitOne K (.ref C_Cells) (.ref C_Lookup) = some false)
    (si_Cells_Mend : PySem.W.kitOne K (.ref C_Cells) (.ref C_Mend) = some false)
    (si_Above_Above : PySem.W.kitOne K (.ref C_Above) (.ref C_Above) = some true)
    (si_Above_Lookup : PySem.W.kitOne K (.ref C_Above) (.ref C_Lookup) = some false)
    (si_Above_Mend : PySem.W.kitOne K (.ref C_Above) (.ref C_Mend) = some false)
    (si_Group_Above : PySem.W.kitOne K (.ref C_Group) (.ref C_Above) = some false)
    (si_Group_Lookup : PySem.W.kitOne K (.ref C_Group) (.ref C_Lookup) = some false)
    (si_Group_Mend : PySem.W.kitOne K (.ref C_Group) (.ref C_Mend) = some false)
    (si_Lookup_Above : PySem.W.kitOne K (.ref C_Lookup) (.ref C_Above) = some false)
    (si_Lookup_Lookup : PySem.W.kitOne K (.ref C_Lookup) (.ref C_Lookup) = some true)
    (si_Lookup_Mend : PySem.W.kitOne K (.ref C_Lookup) (.ref C_Mend) = some false)
    (si_Mend_Above : PySem.W.kitOne K (.ref C_Mend) (.ref C_Above) = some false)
    (si_Mend_Lookup : PySem.W.kitOne K (.ref C_Mend) (.ref C_Lookup) = some false)
    (si_Mend_Mend : PySem.W.kitOne K (.ref C_Mend) (.ref C_Mend) = some true) : Tops K mg where
  len := PySem.W.mg_none_of X G n_len
  isinstance := PySem.W.mg_none_of X G n_isinstance
  int := PySem.W.mg_none_of X G n_int
  bool := PySem.W.mg_none_of X G n_bool
  str := PySem.W.mg_none_of X G n_str
  all := PySem.W.mg_none_of X G n_all
  range := PySem.W.mg_none_of X G n_range
  abs := PySem.W.mg_none_of X G n_abs
  list := PySem.W.mg_none_of X G n_list
  tuple := PySem.W.mg_none_of X G n_tuple
  max := PySem.W.mg_none_of X G n_max
  ValueError := PySem.W.mg_none_of X G n_ValueError
  g_LETTERS := ⟨_, PySem.W.mg_of X G i_LETTERS⟩
  g_MOST_LETTERS := ⟨_, PySem.W.mg_of X G i_MOST_LETTERS⟩
  g_MOST_NAMES := ⟨_, PySem.W.mg_of X G i_MOST_NAMES⟩
  g_LACKS := ⟨p_LACKS, PySem.W.mg_of X G i_LACKS, fun H => .inr ⟨_, _, _, j_LACKS, rfl, rfl, sl (by simp), .cons ⟨_, rfl⟩ (.cons ⟨_, rfl⟩ (.nil))⟩⟩
  d_is_whole := top_def X G a_is_whole l_is_whole c_is_whole k_is_whole
  d_is_number := top_def X G a_is_number l_is_number c_is_number k_is_number
  d_is_name := top_def X G a_is_name l_is_name c_is_name k_is_name
  d_is_fault := top_def X G a_is_fault l_is_fault c_is_fault k_is_fault
  d_check_name := top_def X G a_check_name l_check_name c_check_name k_check_name
  d_checked_names := top_def X G a_checked_names l_checked_names c_checked_names k_checked_names
  d_each_once := top_def X G a_each_once l_each_once c_each_once k_each_once
  d_look_in_turn := top_def X G a_look_in_turn l_look_in_turn c_look_in_turn k_look_in_turn
  d_law_drawn := top_def X G a_law_drawn l_law_drawn c_law_drawn k_law_drawn
  d_law_whole := top_def X G a_law_whole l_law_whole c_law_whole k_law_whole
  d_law_names := top_def X G a_law_names l_law_names c_law_names k_law_names
  d_law_value := top_def X G a_law_value l_law_value c_law_value k_law_value
  d_law_world := top_def X G a_law_world l_law_world c_law_world k_law_world
  d_law_table := top_def X G a_law_table l_law_table c_law_table k_law_table
  d_law_look := top_def X G a_law_look l_law_look c_law_look k_law_look
  d_law_gathered := top_def X G a_law_gathered l_law_gathered c_law_gathered k_law_gathered
  d_law_alike := top_def X G a_law_alike l_law_alike c_law_alike k_law_alike
  d_law_picked := top_def X G a_law_picked l_law_picked c_law_picked k_law_picked
  d_law_made := top_def X G a_law_made l_law_made c_law_made k_law_made
  d_law_changed := top_def X G a_law_changed l_law_changed c_law_changed k_law_changed
  d_law_leans := top_def X G a_law_leans l_law_leans c_law_leans k_law_leans
  d_law_fault := top_def X G a_law_fault l_law_fault c_law_fault k_law_fault
  d_law := top_def X G a_law l_law c_law k_law
  bs := ⟨_, _, top_defT X G a_law_gathered l_law_gathered c_law_gathered k_law_gathered w_law_gathered t_law_gathered, top_defT X G a_law_made l_law_made c_law_made k_law_made w_law_made t_law_made, ne_law_gathered_law_made⟩
  notabs := notabs
  t_Rule := ⟨C_Rule, { c := PySem.W.mg_of X G a_Rule, cl := ⟨pg_Rule, hd_Rule, po_Rule, sa_Rule⟩, mks := mk_Rule, kc := kc_Rule, hc := hc_Rule, n_function := na_Rule_function, m_init := mth_mk a_Rule_init j_Rule_init l_Rule_init c_Rule_init k_Rule_init, v_init := ⟨vg_Rule_init, _, _, vr_Rule_init, vf_Rule_init, a_Rule_init⟩, si_Above := ⟨_, PySem.W.mg_of X G a_Above, si_Rule_Above⟩, si_Lookup := ⟨_, PySem.W.mg_of X G a_Lookup, si_Rule_Lookup⟩, si_Mend := ⟨_, PySem.W.mg_of X G a_Mend, si_Rule_Mend⟩, own := ⟨mo_Rule, ow4, ow5⟩ }⟩
  t_Cells := ⟨C_Cells, { c := PySem.W.mg_of X G a_Cells, cl := ⟨pg_Cells, hd_Cells, po_Cells, sa_Cells⟩, mks := mk_Cells, kc := kc_Cells, hc := hc_Cells, n_function := na_Cells_function, n_names := na_Cells_names, m_init := mth_mk a_Cells_init j_Cells_init l_Cells_init c_Cells_init k_Cells_init, m_leans := mth_mk a_Cells_leans j_Cells_leans l_Cells_leans c_Cells_leans k_Cells_leans, m_gather := mth_mk a_Cells_gather j_Cells_gather l_Cells_gather c_Cells_gather k_Cells_gather, si_Above := ⟨_, PySem.W.mg_of X G a_Above, si_Cells_Above⟩, si_Lookup := ⟨_, PySem.W.mg_of X G a_Lookup, si_Cells_Lookup⟩, si_Mend := ⟨_, PySem.W.mg_of X G a_Mend, si_Cells_Mend⟩, own := ⟨mo_Cells, ow4, ow5⟩ }⟩
  t_Above := ⟨C_Above, { c := PySem.W.mg_of X G a_Above, cl := ⟨pg_Above, hd_Above, po_Above, sa_Above⟩, mks := mk_Above, kc := kc_Above, hc := hc_Above, n_function := na_Above_function, n_names := na_Above_names, n_first := na_Above_first, m_init := mth_mk a_Above_init j_Above_init l_Above_init c_Above_init k_Above_init, m_leans := mth_mk a_Above_leans j_Above_leans l_Above_leans c_Above_leans k_Above_leans, m_gather := mth_mk a_Above_gather j_Above_gather l_Above_gather c_Above_gather k_Above_gather, si_Above := ⟨_, PySem.W.mg_of X G a_Above, si_Above_Above⟩, si_Lookup := ⟨_, PySem.W.mg_of X G a_Lookup, si_Above_Lookup⟩, si_Mend := ⟨_, PySem.W.mg_of X G a_Mend, si_Above_Mend⟩, own := ⟨mo_Above, ow4, ow5⟩ }⟩
  t_Group := ⟨C_Group, { c := PySem.W.mg_of X G a_Group, cl := ⟨pg_Group, hd_Group, po_Group, sa_Group⟩, mks := mk_Group, kc := kc_Group, hc := hc_Group, n_function := na_Group_function, n_key := na_Group_key, n_name := na_Group_name, m_init := mth_mk a_Group_init j_Group_init l_Group_init c_Group_init k_Group_init, m_leans := mth_mk a_Group_leans j_Group_leans l_Group_leans c_Group_leans k_Group_leans, m_gather := mth_mk a_Group_gather j_Group_gather l_Group_gather c_Group_gather k_Group_gather, si_Above := ⟨_, PySem.W.mg_of X G a_Above, si_Group_Above⟩, si_Lookup := ⟨_, PySem.W.mg_of X G a_Lookup, si_Group_Lookup⟩, si_Mend := ⟨_, PySem.W.mg_of X G a_Mend, si_Group_Mend⟩, own := ⟨mo_Group, ow4, ow5⟩ }⟩
  t_Lookup := ⟨C_Lookup, { c := PySem.W.mg_of X G a_Lookup, cl := ⟨pg_Lookup, hd_Lookup, po_Lookup, sa_Lookup⟩, mks := mk_Lookup, kc := kc_Lookup, hc := hc_Lookup, n_function := na_Lookup_function, n_key := na_Lookup_key, n_other := na_Lookup_other, n_theirs := na_Lookup_theirs, n_names := na_Lookup_names, m_init := mth_mk a_Lookup_init j_Lookup_init l_Lookup_init c_Lookup_init k_Lookup_init, m_leans := mth_mk a_Lookup_leans j_Lookup_leans l_Lookup_leans c_Lookup_leans k_Lookup_leans, m_gather := mth_mk a_Lookup_gather j_Lookup_gather l_Lookup_gather c_Lookup_gather k_Lookup_gather, si_Above := ⟨_, PySem.W.mg_of X G a_Above, si_Lookup_Above⟩, si_Lookup := ⟨_, PySem.W.mg_of X G a_Lookup, si_Lookup_Lookup⟩, si_Mend := ⟨_, PySem.W.mg_of X G a_Mend, si_Lookup_Mend⟩, own := ⟨mo_Lookup, ow4, ow5⟩ }⟩
  t_Mend := ⟨C_Mend, { c := PySem.W.mg_of X G a_Mend, cl := ⟨pg_Mend, hd_Mend, po_Mend, sa_Mend⟩, mks := mk_Mend, kc := kc_Mend, hc := hc_Mend, n_function := na_Mend_function, n_name := na_Mend_name, m_init := mth_mk a_Mend_init j_Mend_init l_Mend_init c_Mend_init k_Mend_init, m_leans := mth_mk a_Mend_leans j_Mend_leans l_Mend_leans c_Mend_leans k_Mend_leans, m_gather := mth_mk a_Mend_gather j_Mend_gather l_Mend_gather c_Mend_gather k_Mend_gather, si_Above := ⟨_, PySem.W.mg_of X G a_Above, si_Mend_Above⟩, si_Lookup := ⟨_, PySem.W.mg_of X G a_Lookup, si_Mend_Lookup⟩, si_Mend := ⟨_, PySem.W.mg_of X G a_Mend, si_Mend_Mend⟩, own := ⟨mo_Mend, ow4, ow5⟩ }⟩
theorem walk {l : PySem.W.OpenLaw} {q : Program} {loose : List Str} {XP : (Str → Option Value) → Heap → Prop} {YP : World → Heap → Prop} {d : DefRec} {K : Params → PySem.W.Frag} (hn : l.most = some 63) (hdf : d.params.defaults = []) (hdn : d.name = "law")
    (hY : ∀ (w : World) (h : Heap), YP w h → (K w.params).In h)
    (recs : ((PyProof.Rows.recsOf q).find? (fun e => e.name == ("_law_gathered" : Str))).isSome = true ∧ ((PyProof.Rows.recsOf q).find? (fun e => e.name == ("_law_made" : Str))).isSome = true)
    (F : ∀ (w : World) (mg : Str → Option Value) (h : Heap), (K w.params).In h → h.Ns mainGlobals mg → Tops (K w.params) mg) :
    PySem.W.WalkO q loose XP YP l.row.toRowW d [] (fun f vs => PySem.call f vs) :=
  L2.walk_ofC (n := 63) (k := 12) (x := "_law_script") (CX := fun _ => CX0) (sp := fun w tabs => spLaw (K w.params) tabs) hn (by decide) hdf ⟨rfl, by decide, by decide⟩ hY
    (fun w mg fa h KX G hmg => by
      have T := F w mg h KX G
      obtain ⟨f, fd, F4, hm⟩ := T.d_law.ex
      rw [hdn] at hmg
      have e := hmg.symm.trans hm
      cases e
      obtain ⟨z_law_gathered, z_law_made, B_law_gathered, B_law_made, ne_law_gathered_law_made⟩ := T.bs
      obtain ⟨r_law_gathered, r_law_made⟩ := recs
      refine ⟨T.notabs, [z_law_gathered, z_law_made], fun z hz => ?_, fd, fun s u => ?_, fun base kb nb mk => ?_⟩
      · simp only [List.mem_cons, List.not_mem_nil, or_false] at hz
        rcases hz with rfl | rfl
        · exact ⟨⟨_, r_law_gathered, B_law_gathered.tab⟩⟩
        · exact ⟨⟨_, r_law_made, B_law_made.tab⟩⟩
      · obtain ⟨oc, od, kV, doc, pm, an, cdv, ct, osl, rfl, _⟩ := F4.ex
        exact .of_eq rfl
      · exact ok_law T B_law_gathered (mk _ (by simp)) B_law_made (mk _ (by simp)) ne_law_gathered_law_made F4)
    (fun _ _ _ a ns hl hT hS => ⟨a, ns, rfl, hS, hl, hT, fun _ hT' => ⟨rfl, hT'⟩⟩) fun _ _ _ _ _ z => z
end My
def PySem.W.Fast.tw10636967158363706152 : Unit := ()
def PySem.W.Fast.tw2988494667366409611 : Unit := ()
def PySem.W.Fast.tw1218286866922820834 : Unit := ()
def PySem.W.Fast.tw1145651539305981030 : Unit := ()
def PySem.W.Fast.tw2085933811547385790 : Unit := ()
def PySem.W.Fast.tw16470766568444449910 : Unit := ()
def PySem.W.Fast.tw7911273725249839317 : Unit := ()
def PySem.W.Fast.tw1682603107664745818 : Unit := ()
def PySem.W.Fast.tw1366966482453761274 : Unit := ()
def PySem.W.Fast.tw10797065105315616129 : Unit := ()
def PySem.W.Fast.tw15888475224514281168 : Unit := ()
def PySem.W.Fast.tw15392643610629638545 : Unit := ()
def PySem.W.Fast.tw7844008404635936007 : Unit := ()
def PySem.W.Fast.tw9002180522271635626 : Unit := ()
def PySem.W.Fast.tw14886477129293427685 : Unit := ()
def PySem.W.Fast.tw2126090664383967394 : Unit := ()
def PySem.W.Fast.tw9610987955484553816 : Unit := ()
def PySem.W.Fast.tw10599247527488759058 : Unit := ()
def PySem.W.Fast.tw8653913047982819854 : Unit := ()
def PySem.W.Fast.tw1722406685444454631 : Unit := ()
def PySem.W.Fast.tw18366072423873862235 : Unit := ()
def PySem.W.Fast.tw16932466688463010558 : Unit := ()
def PySem.W.Fast.tw6630361721972291905 : Unit := ()
def PySem.W.Fast.tw11748629494030773927 : Unit := ()
def PySem.W.Fast.tw6592479151336662703 : Unit := ()
def PySem.W.Fast.tw13246214435413176517 : Unit := ()
def PySem.W.Fast.tw10608060304329396807 : Unit := ()
def PySem.W.Fast.tw5230380462980238322 : Unit := ()
def PySem.W.Fast.tw5620464150360280785 : Unit := ()
def PySem.W.Fast.tw573388881557332590 : Unit := ()
def PySem.W.Fast.tw15456488349468051651 : Unit := ()
def PySem.W.Fast.tw13934649523783345686 : Unit := ()
def PySem.W.Fast.tw8241754615593314894 : Unit := ()
def PySem.W.Fast.tw11513974428524401749 : Unit := ()
def PySem.W.Fast.tw17707936640712013575 : Unit := ()
def PySem.W.Fast.tw4657334712499786088 : Unit := ()
def PySem.W.Fast.tw14947571161494339322 : Unit := ()
def PySem.W.Fast.tw3697004097559180060 : Unit := ()
def PySem.W.Fast.tw17952427576105801256 : Unit := ()
def PySem.W.Fast.tw11651961099404656057 : Unit := ()
def PySem.W.Fast.tw10528381631053648464 : Unit := ()
def PySem.W.Fast.tw6689848880394755485 : Unit := ()
def PySem.W.Fast.tw3169611702946092968 : Unit := ()
def PySem.W.Fast.tw648625061826179300 : Unit := ()
def PySem.W.Fast.tw10231494633382143427 : Unit := ()
def PySem.W.Fast.tw6875573681877142806 : Unit := ()
def PySem.W.Fast.tw4595093160366034274 : Unit := ()
def PySem.W.Fast.tw10391219855477703166 : Unit := ()
def PySem.W.Fast.tw17244329740868673903 : Unit := ()
def PySem.W.Fast.tw13543603045363297207 : Unit := ()
def PySem.W.Fast.tw5288752668856663216 : Unit := ()
def PySem.W.Fast.tw5698012469729484432 : Unit := ()
def PySem.W.Fast.tw13503695016356023480 : Unit := ()
def PySem.W.Fast.tw14226403640073545874 : Unit := ()
def PySem.W.Fast.tw6962357723846907068 : Unit := ()
def PySem.W.Fast.tw15989862400160601527 : Unit := ()
def PySem.W.Fast.tw4187005761149994417 : Unit := ()
def PySem.W.Fast.tw14170451259081011785 : Unit := ()
def PySem.W.Fast.tw11234253653577018157 : Unit := ()
def PySem.W.Fast.tw9896215852360144589 : Unit := ()
def PySem.W.Fast.tw6277143471591222671 : Unit := ()
def PySem.W.Fast.tw3146535384255484130 : Unit := ()
def PySem.W.Fast.tw1186125023667632988 : Unit := ()
def PySem.W.Fast.tw2354582883157172552 : Unit := ()
def PySem.W.Fast.tw11181342468487487245 : Unit := ()
def PySem.W.Fast.tw12887146400641475968 : Unit := ()
def PySem.W.Fast.tw8185623796365191180 : Unit := ()
def PySem.W.Fast.tw2242966697825486940 : Unit := ()
def PySem.W.Fast.tw13257151771413335994 : Unit := ()
def PySem.W.Fast.tw7348892899778734717 : Unit := ()
def PySem.W.Fast.tw16305052668998099362 : Unit := ()
def PySem.W.Fast.tw16136430363418294565 : Unit := ()
def PySem.W.Fast.tw16765967286402799181 : Unit := ()
def PySem.W.Fast.tw1691851163659958679 : Unit := ()
def PySem.W.Fast.tw16428546460844924991 : Unit := ()
def PySem.W.Fast.tw9565601427848119659 : Unit := ()
def PySem.W.Fast.tw11667412901485909828 : Unit := ()
def PySem.W.Fast.tw16887223256371812985 : Unit := ()
def PySem.W.Fast.tw8024131161818598429 : Unit := ()
def PySem.W.Fast.tw3294376407300888853 : Unit := ()
def PySem.W.Fast.tw4004436087055041653 : Unit := ()
def PySem.W.Fast.tw8377460593813478643 : Unit := ()
def PySem.W.Fast.tw16500737579600114747 : Unit := ()
def PySem.W.Fast.tw8283422349486023493 : Unit := ()
def PySem.W.Fast.tw16087179571215127892 : Unit := ()
def PySem.W.Fast.tw3342000979014329756 : Unit := ()
def PySem.W.Fast.tw16453516091124013902 : Unit := ()
def PySem.W.Fast.tw11119001432692197325 : Unit := ()
def PySem.W.Fast.tw16647755836095710306 : Unit := ()
def PySem.W.Fast.tw9766419941110872136 : Unit := ()
def PySem.W.Fast.tw11915863002276853688 : Unit := ()
def PySem.W.Fast.tw15689819195772094396 : Unit := ()
def PySem.W.Fast.tw2794900755382656150 : Unit := ()
def PySem.W.Fast.tw2879533574699868919 : Unit := ()
def PySem.W.Fast.tw3968709949497785826 : Unit := ()
def PySem.W.Fast.tw9013875388138479906 : Unit := ()
def PySem.W.Fast.tw7476276183247015659 : Unit := ()
def PySem.W.Fast.tw987216997558278023 : Unit := ()
def PySem.W.Fast.tw4046073022384665403 : Unit := ()
def PySem.W.Fast.tw13909507480139383672 : Unit := ()
def PySem.W.Fast.tw6634116482725431773 : Unit := ()
def PySem.W.Fast.tw3318482838146295698 : Unit := ()
def PySem.W.Fast.tw10003897503166410904 : Unit := ()
def PySem.W.Fast.tw7143656458492553785 : Unit := ()
def PySem.W.Fast.tw13828008574892335692 : Unit := ()
def PySem.W.Fast.tw510586520998371551 : Unit := ()
def PySem.W.Fast.tw14056183263053103292 : Unit := ()
def PySem.W.Fast.tw4194111584106913522 : Unit := ()
def PySem.W.Fast.tw11908856759647558702 : Unit := ()
def PySem.W.Fast.tw12315720860862688087 : Unit := ()
def PySem.W.Fast.tw6966638093073576272 : Unit := ()
def PySem.W.Fast.tw434283154265089385 : Unit := ()
def PySem.W.Fast.tw103825702499332670 : Unit := ()
def PySem.W.Fast.tw8354861791081587379 : Unit := ()
def PySem.W.Fast.tw1921079699313066857 : Unit := ()
def PySem.W.Fast.tw703796021367607842 : Unit := ()
def PySem.W.Fast.tw12256327168564112296 : Unit := ()
def PySem.W.Fast.tw13961391717005857820 : Unit := ()
def PySem.W.Fast.tw9017193611690724585 : Unit := ()
def PySem.W.Fast.tw7490190019296422400 : Unit := ()
def PySem.W.Fast.tw11323126573835891185 : Unit := ()
def PySem.W.Fast.tw4489140968125180986 : Unit := ()
def PySem.W.Fast.tw18236111302188284332 : Unit := ()
def PySem.W.Fast.tw7371056936463433095 : Unit := ()
def PySem.W.Fast.tw816440967447917453 : Unit := ()
def PySem.W.Fast.tw15587873797712967720 : Unit := ()
def PySem.W.Fast.tw17600611678944070119 : Unit := ()
def PySem.W.Fast.tw1442960306298676342 : Unit := ()
def PySem.W.Fast.tw14497651355843031037 : Unit := ()
def PySem.W.Fast.tw3520284722257425924 : Unit := ()
def PySem.W.Fast.tw13668116891511682609 : Unit := ()
def PySem.W.Fast.tw4808044721882220072 : Unit := ()
def PySem.W.Fast.tw7160081620599903269 : Unit := ()
def PySem.W.Fast.tw9151159585831032467 : Unit := ()
def PySem.W.Fast.tw18436371339333507318 : Unit := ()
def PySem.W.Fast.tw9018438854615009745 : Unit := ()
def PySem.W.Fast.tw3651483312940266377 : Unit := ()
def PySem.W.Fast.tw15788689609955371089 : Unit := ()
def PySem.W.Fast.tw4672476228359172666 : Unit := ()
def PySem.W.Fast.tw11415723216215238701 : Unit := ()
def PySem.W.Fast.tw9199781747511014253 : Unit := ()
def PySem.W.Fast.tw7966392028255123689 : Unit := ()
def PySem.W.Fast.tw7108491199156058555 : Unit := ()
def PySem.W.Fast.tw12796515169568817339 : Unit := ()
def PySem.W.Fast.tw6246105515609989582 : Unit := ()
def PySem.W.Fast.tw4463977699908223911 : Unit := ()
def PySem.W.Fast.tw16581758879807379627 : Unit := ()
def PySem.W.Fast.tw12744209687192927292 : Unit := ()
def PySem.W.Fast.tw15080600419088099791 : Unit := ()
def PySem.W.Fast.tw9769707020052607513 : Unit := ()
def PySem.W.Fast.tw8885015946956551924 : Unit := ()
def PySem.W.Fast.tw4677980476991531465 : Unit := ()
def PySem.W.Fast.tw5797392882918325742 : Unit := ()
def PySem.W.Fast.tw17853019930721772061 : Unit := ()
def PySem.W.Fast.tw14991775451540675089 : Unit := ()
def PySem.W.Fast.tw14530016039235485692 : Unit := ()
def PySem.W.Fast.tw14062361306985408042 : Unit := ()
def PySem.W.Fast.tw17248896102107179726 : Unit := ()
def PySem.W.Fast.tw14404446561018792259 : Unit := ()
def PySem.W.Fast.tw16750306318622886690 : Unit := ()
def PySem.W.Fast.tw3033449348099812954 : Unit := ()
def PySem.W.Fast.tw15060033817788930707 : Unit := ()
def PySem.W.Fast.tw6622134352835442783 : Unit := ()
def PySem.W.Fast.tw9751509908396641346 : Unit := ()
def PySem.W.Fast.tw12936943671553251361 : Unit := ()
def PySem.W.Fast.tw3518129911226148843 : Unit := ()
def PySem.W.Fast.tw11657823607098517031 : Unit := ()
def PySem.W.Fast.tw15049873027603692817 : Unit := ()
def PySem.W.Fast.tw5137977360920365126 : Unit := ()
def PySem.W.Fast.tw13449055652463344557 : Unit := ()
def PySem.W.Fast.tw10492726084777005760 : Unit := ()
def PySem.W.Fast.tw6130347631175733482 : Unit := ()
def PySem.W.Fast.tw7708270912945992451 : Unit := ()
def PySem.W.Fast.tw11566549866087202731 : Unit := ()
def PySem.W.Fast.tw2895543714931360051 : Unit := ()
def PySem.W.Fast.tw6826230287482250692 : Unit := ()
def PySem.W.Fast.tw10579543673814979592 : Unit := ()
def PySem.W.Fast.tw7281607311767466996 : Unit := ()
def PySem.W.Fast.tw3542546097352604238 : Unit := ()
def PySem.W.Fast.tw12550402586610204354 : Unit := ()
def PySem.W.Fast.tw18363997230030226653 : Unit := ()
def PySem.W.Fast.tw11808041884902311120 : Unit := ()
def PySem.W.Fast.tw11270929877744736292 : Unit := ()
def PySem.W.Fast.tw15557507550067410606 : Unit := ()
def PySem.W.Fast.tw2969441826465741872 : Unit := ()
def PySem.W.Fast.tw7506954561714363711 : Unit := ()
def PySem.W.Fast.tw16677660961284602001 : Unit := ()
def PySem.W.Fast.tw5153698441726905231 : Unit := ()
def PySem.W.Fast.tw5432496977962896230 : Unit := ()
def PySem.W.Fast.tw18344450800305285323 : Unit := ()
def PySem.W.Fast.tw11968427735579209948 : Unit := ()
def PySem.W.Fast.tw7480411469571122396 : Unit := ()
def PySem.W.Fast.tw3601002749333406294 : Unit := ()
def PySem.W.Fast.tw3023235796696717041 : Unit := ()
def PySem.W.Fast.tw9853289615010765072 : Unit := ()
def PySem.W.Fast.tw7680439232031580621 : Unit := ()
def PySem.W.Fast.tw7782505700221143774 : Unit := ()
def PySem.W.Fast.tw15899151032175223093 : Unit := ()
def PySem.W.Fast.tw14343390949740944075 : Unit := ()
def PySem.W.Fast.tw166253323822000188 : Unit := ()
def PySem.W.Fast.tw10791903247202844967 : Unit := ()
def PySem.W.Fast.tw17888869618805806076 : Unit := ()
def PySem.W.Fast.tw15487108346010642629 : Unit := ()
def PySem.W.Fast.tw7564639494086324657 : Unit := ()
def PySem.W.Fast.tw124058514821743549 : Unit := ()
def PySem.W.Fast.tw4846383294758353980 : Unit := ()
def PySem.W.Fast.tw6668154360338091098 : Unit := ()
def PySem.W.Fast.tw910070477063442837 : Unit := ()
def PySem.W.Fast.tw9857220787297213441 : Unit := ()
def PySem.W.Fast.tw4356641164925418012 : Unit := ()
def PySem.W.Fast.tw1600397536848796125 : Unit := ()
def PySem.W.Fast.tw13915926285354497111 : Unit := ()
def PySem.W.Fast.tw1833650715743180612 : Unit := ()
def PySem.W.Fast.tw12018018146783099954 : Unit := ()
def PySem.W.Fast.tw5588197580533923901 : Unit := ()
def PySem.W.Fast.tw6042587234419134817 : Unit := ()
def PySem.W.Fast.tw8930391760541131751 : Unit := ()
def PySem.W.Fast.tw7349518732441449757 : Unit := ()
def PySem.W.Fast.tw6392113743542583228 : Unit := ()
def PySem.W.Fast.tw9795474473949217941 : Unit := ()
def PySem.W.Fast.tw6409286950792568676 : Unit := ()
def PySem.W.Fast.tw2315768868303518771 : Unit := ()
def PySem.W.Fast.tw4777403568393100088 : Unit := ()
def PySem.W.Fast.tw7724972750872136534 : Unit := ()
def PySem.W.Fast.tw5256325248690519701 : Unit := ()
def PySem.W.Fast.tw12990977365623690142 : Unit := ()
def PySem.W.Fast.tw9029193872485095091 : Unit := ()
def PySem.W.Fast.tw3022040735108662180 : Unit := ()
def PySem.W.Fast.tw17744535846043552750 : Unit := ()
def PySem.W.Fast.tw907319192844933236 : Unit := ()
def PySem.W.Fast.tw1981019862612667461 : Unit := ()
def PySem.W.Fast.tw4367554604612289071 : Unit := ()
def PySem.W.Fast.tw2847978356540368969 : Unit := ()
def PySem.W.Fast.tw13323020065767246857 : Unit := ()
def PySem.W.Fast.tw14660752273660829114 : Unit := ()
def PySem.W.Fast.tw15109534289397761941 : Unit := ()
def PySem.W.Fast.tw5533368864083747687 : Unit := ()
def PySem.W.Fast.tw75020087093356668 : Unit := ()
def PySem.W.Fast.tw3365686675005462088 : Unit := ()
def PySem.W.Fast.tw15659973590440038358 : Unit := ()
def PySem.W.Fast.tw13248250454644109127 : Unit := ()
def PySem.W.Fast.tw9694787825326211873 : Unit := ()
def PySem.W.Fast.tw6672490895751632867 : Unit := ()
def PySem.W.Fast.tw5440802209511540284 : Unit := ()
def PySem.W.Fast.tw5502134226073794058 : Unit := ()
def PySem.W.Fast.tw10983879567103791522 : Unit := ()
def PySem.W.Fast.tw15520009643740823586 : Unit := ()
def PySem.W.Fast.tw8851613277866872751 : Unit := ()
def PySem.W.Fast.tw15230750420841215465 : Unit := ()
def PySem.W.Fast.tw1918003630017081657 : Unit := ()
def PySem.W.Fast.tw12345155790385155220 : Unit := ()
def PySem.W.Fast.tw7998904938083011246 : Unit := ()
def PySem.W.Fast.tw1476173397588665616 : Unit := ()
def PySem.W.Fast.tw13132065585568515173 : Unit := ()
def PySem.W.Fast.tw4251404690217430372 : Unit := ()
def PySem.W.Fast.tw2024030952550239420 : Unit := ()
def PySem.W.Fast.tw15580128301253242408 : Unit := ()
def PySem.W.Fast.tw6649843957179372625 : Unit := ()
def PySem.W.Fast.tw1422154855990644562 : Unit := ()
def PySem.W.Fast.tw6254467432506736433 : Unit := ()
def PySem.W.Fast.tw3890028444851493029 : Unit := ()
def PySem.W.Fast.tw14334631512759133119 : Unit := ()
def PySem.W.Fast.tw13890134142079511399 : Unit := ()
def PySem.W.Fast.tw13617940619215467426 : Unit := ()
def PySem.W.Fast.tw17813877957578741469 : Unit := ()
def PySem.W.Fast.tw12690923907418736976 : Unit := ()
def PySem.W.Fast.tw6183890653143234146 : Unit := ()
def PySem.W.Fast.tw7633409975872311836 : Unit := ()
def PySem.W.Fast.tw5670090355480908287 : Unit := ()
def PySem.W.Fast.tw108542878403342674 : Unit := ()
def PySem.W.Fast.tw14775496194932806525 : Unit := ()
def PySem.W.Fast.tw15314417316814539657 : Unit := ()
def PySem.W.Fast.tw10793578735413879955 : Unit := ()
def PySem.W.Fast.tw289163147094270836 : Unit := ()
def PySem.W.Fast.tw14239418300627314849 : Unit := ()
def PySem.W.Fast.tw5711886843449124776 : Unit := ()
def PySem.W.Fast.tw1617326785581479875 : Unit := ()
def PySem.W.Fast.tw18331884837894196589 : Unit := ()
def PySem.W.Fast.tw5806750692191424028 : Unit := ()
def PySem.W.Fast.tw14870359911305760869 : Unit := ()
def PySem.W.Fast.tw18249813381692185062 : Unit := ()
def PySem.W.Fast.tw14498340488900220372 : Unit := ()
def PySem.W.Fast.tw12498349999194386792 : Unit := ()
def PySem.W.Fast.tw11474990328935516765 : Unit := ()
def PySem.W.Fast.tw2637521373993636934 : Unit := ()
def PySem.W.Fast.tw10349751869197194059 : Unit := ()
def PySem.W.Fast.tw10654877364693268049 : Unit := ()
def PySem.W.Fast.tw10649519451346968552 : Unit := ()
def PySem.W.Fast.tw11075185248650552300 : Unit := ()
def PySem.W.Fast.tw4531995914160425413 : Unit := ()
def PySem.W.Fast.tw412264266428600383 : Unit := ()
def PySem.W.Fast.tw15401422514627822668 : Unit := ()
def PySem.W.Fast.tw552556560970128691 : Unit := ()
def PySem.W.Fast.tw10949636874526242393 : Unit := ()
def PySem.W.Fast.tw6793542116417344675 : Unit := ()
def PySem.W.Fast.tw15485995160001788131 : Unit := ()
def PySem.W.Fast.tw3947552343890826709 : Unit := ()
def PySem.W.Fast.tw3635856046741103215 : Unit := ()
def PySem.W.Fast.tw8170980950529148206 : Unit := ()
def PySem.W.Fast.tw5479217716984741924 : Unit := ()
def PySem.W.Fast.tw1041960399058876103 : Unit := ()
def PySem.W.Fast.tw18118136980934305098 : Unit := ()
def PySem.W.Fast.tw4672415799918243122 : Unit := ()
def PySem.W.Fast.tw16224889587931597072 : Unit := ()
def PySem.W.Fast.tw16163794704675817545 : Unit := ()
def PySem.W.Fast.tw3576873029017390061 : Unit := ()
def PySem.W.Fast.tw10155052743759164268 : Unit := ()
def PySem.W.Fast.tw16162874455349375142 : Unit := ()
def PySem.W.Fast.tw8779860412300293152 : Unit := ()
def PySem.W.Fast.tw4768565261742381951 : Unit := ()
def PySem.W.Fast.tw8940980068897089124 : Unit := ()
def PySem.W.Fast.tw17014443461006420929 : Unit := ()
def PySem.W.Fast.tw2907315627972958733 : Unit := ()
def PySem.W.Fast.tw1240473592473763802 : Unit := ()
def PySem.W.Fast.tw491761261744610637 : Unit := ()
def PySem.W.Fast.tw6267360257391265612 : Unit := ()
def PySem.W.Fast.tw6897248914135375741 : Unit := ()
def PySem.W.Fast.tw18096240517978047094 : Unit := ()
def PySem.W.Fast.tw1030772923946974782 : Unit := ()
def PySem.W.Fast.tw10838683960159407459 : Unit := ()
def PySem.W.Fast.tw7327889919904506307 : Unit := ()
def PySem.W.Fast.tw8705341040219880957 : Unit := ()
def PySem.W.Fast.tw2440536814136780715 : Unit := ()
def PySem.W.Fast.tw6402189221307069889 : Unit := ()
def PySem.W.Fast.tw3419828368458553397 : Unit := ()
def PySem.W.Fast.tw3420631850415644084 : Unit := ()
def PySem.W.Fast.tw11122300226828126294 : Unit := ()
def PySem.W.Fast.tw13912726270096668098 : Unit := ()
def PySem.W.Fast.tw3395948194041783300 : Unit := ()
def PySem.W.Fast.tw2225164539285405844 : Unit := ()
def PySem.W.Fast.tw4931780951543056306 : Unit := ()
def PySem.W.Fast.tw386653226160640980 : Unit := ()
def PySem.W.Fast.tw10684125818475830884 : Unit := ()
def PySem.W.Fast.tw1693899286210970631 : Unit := ()
def PySem.W.Fast.tw13624421855705436940 : Unit := ()
def PySem.W.Fast.tw16347883991968876657 : Unit := ()
def PySem.W.Fast.tw12656342438657704858 : Unit := ()
def PySem.W.Fast.tw10376860827434202108 : Unit := ()
def PySem.W.Fast.tw17563941754894737968 : Unit := ()
def PySem.W.Fast.tw13778696299033395359 : Unit := ()
def PySem.W.Fast.tw8836409340323361762 : Unit := ()
def PySem.W.Fast.tw13842035109902254463 : Unit := ()
def PySem.W.Fast.tw3833474734294052829 : Unit := ()
def PySem.W.Fast.tw7487005451398358517 : Unit := ()
def PySem.W.Fast.tw12451569392972883879 : Unit := ()
def PySem.W.Fast.tw12400806328090841122 : Unit := ()
def PySem.W.Fast.tw7746510291357966264 : Unit := ()
def PySem.W.Fast.tw10239445248141485769 : Unit := ()
def PySem.W.Fast.tw10991116102169670081 : Unit := ()
def PySem.W.Fast.tw15646605219522405942 : Unit := ()
def PySem.W.Fast.tw11656645240087709888 : Unit := ()
def PySem.W.Fast.tw10557958107805977355 : Unit := ()
def PySem.W.Fast.tw16964518688965320906 : Unit := ()
def PySem.W.Fast.tw15807206214020134389 : Unit := ()
def PySem.W.Fast.tw14320278403095648805 : Unit := ()
def PySem.W.Fast.tw5517137663578584857 : Unit := ()
def PySem.W.Fast.tw17796252203143912105 : Unit := ()
def PySem.W.Fast.tw11620742122482847294 : Unit := ()
def PySem.W.Fast.tw9531806605215560162 : Unit := ()
def PySem.W.Fast.tw7114863799518487872 : Unit := ()
def PySem.W.Fast.tw10835323397318731748 : Unit := ()
def PySem.W.Fast.tw16326674002475949576 : Unit := ()
def PySem.W.Fast.tw9092385935427048339 : Unit := ()
def PySem.W.Fast.tw3718572124618630484 : Unit := ()
def PySem.W.Fast.tw10943829989564740524 : Unit := ()
def PySem.W.Fast.tw6501267316419250435 : Unit := ()
def PySem.W.Fast.tw11115421810225221787 : Unit := ()
def PySem.W.Fast.tw2790687293194438118 : Unit := ()
def PySem.W.Fast.tw14439007733256633838 : Unit := ()
def PySem.W.Fast.tw5207564643672384818 : Unit := ()
def PySem.W.Fast.tw8213690902752550510 : Unit := ()
def PySem.W.Fast.tw5112738753425937836 : Unit := ()
def PySem.W.Fast.tw1153621767050068055 : Unit := ()
def PySem.W.Fast.tw4089772268523612697 : Unit := ()
def PySem.W.Fast.tw17520548586149992991 : Unit := ()
def PySem.W.Fast.tw11402618354509796674 : Unit := ()
def PySem.W.Fast.tw10471794364355086554 : Unit := ()
def PySem.W.Fast.tw14603405274875577024 : Unit := ()
open PySem PySem.W PyProof.Rows
set_option maxRecDepth 100000 in
set_option maxHeartbeats 0 in
theorem PySem.Challenge.cw_lazycols_k19_whole_looks_where_it_leans_holds : PySem.Challenge.rw_lazycols_k19_whole_looks_where_it_leans.Holds := by
  w_on; o_law; k_head; (case hw => w_witness2)
  k_fill
  refine My.walk (l := PySem.Challenge.rw_lazycols_k19_whole_looks_where_it_leans) rfl rfl rfl (fun w h Y => PySem.W.km_in_of Y) ?R ?F
  case R => first | exact rfl | decide +kernel
  case F =>
    intro w mg h KX G
    refine' My.tops_mk KX G ?n_len ?n_isinstance ?n_int ?n_bool ?n_str ?n_all ?n_range ?n_abs ?n_list ?n_tuple ?n_max ?n_ValueError ?i_LETTERS ?i_MOST_LETTERS ?i_MOST_NAMES ?i_LACKS ?j_LACKS ?a_is_whole ?l_is_whole ?c_is_whole ?k_is_whole ?a_is_number ?l_is_number ?c_is_number ?k_is_number ?a_is_name ?l_is_name ?c_is_name ?k_is_name ?a_is_fault ?l_is_fault ?c_is_fault ?k_is_fault ?a_check_name ?l_check_name ?c_check_name ?k_check_name ?a_checked_names ?l_checked_names ?c_checked_names ?k_checked_names ?a_each_once ?l_each_once ?c_each_once ?k_each_once ?a_look_in_turn ?l_look_in_turn ?c_look_in_turn ?k_look_in_turn ?a_law_drawn ?l_law_drawn ?c_law_drawn ?k_law_drawn ?a_law_whole ?l_law_whole ?c_law_whole ?k_law_whole ?a_law_names ?l_law_names ?c_law_names ?k_law_names ?a_law_value ?l_law_value ?c_law_value ?k_law_value ?a_law_world ?l_law_world ?c_law_world ?k_law_world ?a_law_table ?l_law_table ?c_law_table ?k_law_table ?a_law_look ?l_law_look ?c_law_look ?k_law_look ?a_law_gathered ?l_law_gathered ?c_law_gathered ?k_law_gathered ?w_law_gathered ?t_law_gathered ?a_law_alike ?l_law_alike ?c_law_alike ?k_law_alike ?a_law_picked ?l_law_picked ?c_law_picked ?k_law_picked ?a_law_made ?l_law_made ?c_law_made ?k_law_made ?w_law_made ?t_law_made ?a_law_changed ?l_law_changed ?c_law_changed ?k_law_changed ?a_law_leans ?l_law_leans ?c_law_leans ?k_law_leans ?a_law_fault ?l_law_fault ?c_law_fault ?k_law_fault ?a_law ?l_law ?c_law ?k_law ?ne_law_gathered_law_made ?notabs ?a_Rule ?pg_Rule ?hd_Rule ?po_Rule ?sa_Rule ?mk_Rule ?kc_Rule ?hc_Rule ?na_Rule_function ?a_Rule_init ?j_Rule_init ?l_Rule_init ?c_Rule_init ?k_Rule_init ?vg_Rule_init ?vr_Rule_init ?vf_Rule_init ?ow4 ?ow5 ?mo_Rule ?a_Cells ?pg_Cells ?hd_Cells ?po_Cells ?sa_Cells ?mk_Cells ?kc_Cells ?hc_Cells ?na_Cells_function ?na_Cells_names ?a_Cells_init ?j_Cells_init ?l_Cells_init ?c_Cells_init ?k_Cells_init ?a_Cells_leans ?j_Cells_leans ?l_Cells_leans ?c_Cells_leans ?k_Cells_leans ?a_Cells_gather ?j_Cells_gather ?l_Cells_gather ?c_Cells_gather ?k_Cells_gather ?mo_Cells ?a_Above ?pg_Above ?hd_Above ?po_Above ?sa_Above ?mk_Above ?kc_Above ?hc_Above ?na_Above_function ?na_Above_names ?na_Above_first ?a_Above_init ?j_Above_init ?l_Above_init ?c_Above_init ?k_Above_init ?a_Above_leans ?j_Above_leans ?l_Above_leans ?c_Above_leans ?k_Above_leans ?a_Above_gather ?j_Above_gather ?l_Above_gather ?c_Above_gather ?k_Above_gather ?mo_Above ?a_Group ?pg_Group ?hd_Group ?po_Group ?sa_Group ?mk_Group ?kc_Group ?hc_Group ?na_Group_function ?na_Group_key ?na_Group_name ?a_Group_init ?j_Group_init ?l_Group_init ?c_Group_init ?k_Group_init ?a_Group_leans ?j_Group_leans ?l_Group_leans ?c_Group_leans ?k_Group_leans ?a_Group_gather ?j_Group_gather ?l_Group_gather ?c_Group_gather ?k_Group_gather ?mo_Group ?a_Lookup ?pg_Lookup ?hd_Lookup ?po_Lookup ?sa_Lookup ?mk_Lookup ?kc_Lookup ?hc_Lookup ?na_Lookup_function ?na_Lookup_key ?na_Lookup_other ?na_Lookup_theirs ?na_Lookup_names ?a_Lookup_init ?j_Lookup_init ?l_Lookup_init ?c_Lookup_init ?k_Lookup_init ?a_Lookup_leans ?j_Lookup_leans ?l_Lookup_leans ?c_Lookup_leans ?k_Lookup_leans ?a_Lookup_gather ?j_Lookup_gather ?l_Lookup_gather ?c_Lookup_gather ?k_Lookup_gather ?mo_Lookup ?a_Mend ?pg_Mend ?hd_Mend ?po_Mend ?sa_Mend ?mk_Mend ?kc_Mend ?hc_Mend ?na_Mend_function ?na_Mend_name ?a_Mend_init ?j_Mend_init ?l_Mend_init ?c_Mend_init ?k_Mend_init ?a_Mend_leans ?j_Mend_leans ?l_Mend_leans ?c_Mend_leans ?k_Mend_leans ?a_Mend_gather ?j_Mend_gather ?l_Mend_gather ?c_Mend_gather ?k_Mend_gather ?mo_Mend ?si_Rule_Above ?si_Rule_Lookup ?si_Rule_Mend ?si_Cells_Above ?si_Cells_Lookup ?si_Cells_Mend ?si_Above_Above ?si_Above_Lookup ?si_Above_Mend ?si_Group_Above ?si_Group_Lookup ?si_Group_Mend ?si_Lookup_Above ?si_Lookup_Lookup ?si_Lookup_Mend ?si_Mend_Above ?si_Mend_Lookup ?si_Mend_Mend
    (case n_len => k_is)
    (case n_isinstance => k_is)
    (case n_int => k_is)
    (case n_bool => k_is)
    (case n_str => k_is)
    (case n_all => k_is)
    (case n_range => k_is)
    (case n_abs => k_is)
    (case n_list => k_is)
    (case n_tuple => k_is)
    (case n_max => k_is)
    (case n_ValueError => k_is)
    (case i_LETTERS => k_is)
    (case i_MOST_LETTERS => k_is)
    (case i_MOST_NAMES => k_is)
    (case i_LACKS => k_is)
    (case j_LACKS => k_is)
    (case a_is_whole => k_is)
    (case l_is_whole => k_is)
    (case c_is_whole => k_is)
    (case k_is_whole => k_is)
    (case a_is_number => k_is)
    (case l_is_number => k_is)
    (case c_is_number => k_is)
    (case k_is_number => k_is)
    (case a_is_name => k_is)
    (case l_is_name => k_is)
    (case c_is_name => k_is)
    (case k_is_name => k_is)
    (case a_is_fault => k_is)
    (case l_is_fault => k_is)
    (case c_is_fault => k_is)
    (case k_is_fault => k_is)
    (case a_check_name => k_is)
    (case l_check_name => k_is)
    (case c_check_name => k_is)
    (case k_check_name => k_is)
    (case a_checked_names => k_is)
    (case l_checked_names => k_is)
    (case c_checked_names => k_is)
    (case k_checked_names => k_is)
    (case a_each_once => k_is)
    (case l_each_once => k_is)
    (case c_each_once => k_is)
    (case k_each_once => k_is)
    (case a_look_in_turn => k_is)
    (case l_look_in_turn => k_is)
    (case c_look_in_turn => k_is)
    (case k_look_in_turn => k_is)
    (case a_law_drawn => k_is)
    (case l_law_drawn => k_is)
    (case c_law_drawn => k_is)
    (case k_law_drawn => k_is)
    (case a_law_whole => k_is)
    (case l_law_whole => k_is)
    (case c_law_whole => k_is)
    (case k_law_whole => k_is)
    (case a_law_names => k_is)
    (case l_law_names => k_is)
    (case c_law_names => k_is)
    (case k_law_names => k_is)
    (case a_law_value => k_is)
    (case l_law_value => k_is)
    (case c_law_value => k_is)
    (case k_law_value => k_is)
    (case a_law_world => k_is)
    (case l_law_world => k_is)
    (case c_law_world => k_is)
    (case k_law_world => k_is)
    (case a_law_table => k_is)
    (case l_law_table => k_is)
    (case c_law_table => k_is)
    (case k_law_table => k_is)
    (case a_law_look => k_is)
    (case l_law_look => k_is)
    (case c_law_look => k_is)
    (case k_law_look => k_is)
    (case a_law_gathered => k_is)
    (case l_law_gathered => k_is)
    (case c_law_gathered => k_is)
    (case k_law_gathered => k_is)
    (case w_law_gathered => k_is)
    (case t_law_gathered => exact rfl)
    (case a_law_alike => k_is)
    (case l_law_alike => k_is)
    (case c_law_alike => k_is)
    (case k_law_alike => k_is)
    (case a_law_picked => k_is)
    (case l_law_picked => k_is)
    (case c_law_picked => k_is)
    (case k_law_picked => k_is)
    (case a_law_made => k_is)
    (case l_law_made => k_is)
    (case c_law_made => k_is)
    (case k_law_made => k_is)
    (case w_law_made => k_is)
    (case t_law_made => exact rfl)
    (case a_law_changed => k_is)
    (case l_law_changed => k_is)
    (case c_law_changed => k_is)
    (case k_law_changed => k_is)
    (case a_law_leans => k_is)
    (case l_law_leans => k_is)
    (case c_law_leans => k_is)
    (case k_law_leans => k_is)
    (case a_law_fault => k_is)
    (case l_law_fault => k_is)
    (case c_law_fault => k_is)
    (case k_law_fault => k_is)
    (case a_law => k_is)
    (case l_law => k_is)
    (case c_law => k_is)
    (case k_law => k_is)
    (case ne_law_gathered_law_made => decide)
    (case notabs => kernel_rfl)
    (case a_Rule => k_is)
    (case pg_Rule => k_is)
    (case hd_Rule => k_is)
    (case po_Rule => k_is)
    (case sa_Rule => k_is)
    (case mk_Rule => k_is)
    (case kc_Rule => k_is)
    (case hc_Rule => k_is)
    (case na_Rule_function => k_is)
    (case a_Rule_init => k_is)
    (case j_Rule_init => k_is)
    (case l_Rule_init => k_is)
    (case c_Rule_init => k_is)
    (case k_Rule_init => k_is)
    (case vg_Rule_init => k_is)
    (case vr_Rule_init => k_is)
    (case vf_Rule_init => k_is)
    (case ow4 => k_is)
    (case ow5 => k_is)
    (case mo_Rule => k_is)
    (case a_Cells => k_is)
    (case pg_Cells => k_is)
    (case hd_Cells => k_is)
    (case po_Cells => k_is)
    (case sa_Cells => k_is)
    (case mk_Cells => k_is)
    (case kc_Cells => k_is)
    (case hc_Cells => k_is)
    (case na_Cells_function => k_is)
    (case na_Cells_names => k_is)
    (case a_Cells_init => k_is)
    (case j_Cells_init => k_is)
    (case l_Cells_init => k_is)
    (case c_Cells_init => k_is)
    (case k_Cells_init => k_is)
    (case a_Cells_leans => k_is)
    (case j_Cells_leans => k_is)
    (case l_Cells_leans => k_is)
    (case c_Cells_leans => k_is)
    (case k_Cells_leans => k_is)
    (case a_Cells_gather => k_is)
    (case j_Cells_gather => k_is)
    (case l_Cells_gather => k_is)
    (case c_Cells_gather => k_is)
    (case k_Cells_gather => k_is)
    (case mo_Cells => k_is)
    (case a_Above => k_is)
    (case pg_Above => k_is)
    (case hd_Above => k_is)
    (case po_Above => k_is)
    (case sa_Above => k_is)
    (case mk_Above => k_is)
    (case kc_Above => k_is)
    (case hc_Above => k_is)
    (case na_Above_function => k_is)
    (case na_Above_names => k_is)
    (case na_Above_first => k_is)
    (case a_Above_init => k_is)
    (case j_Above_init => k_is)
    (case l_Above_init => k_is)
    (case c_Above_init => k_is)
    (case k_Above_init => k_is)
    (case a_Above_leans => k_is)
    (case j_Above_leans => k_is)
    (case l_Above_leans => k_is)
    (case c_Above_leans => k_is)
    (case k_Above_leans => k_is)
    (case a_Above_gather => k_is)
    (case j_Above_gather => k_is)
    (case l_Above_gather => k_is)
    (case c_Above_gather => k_is)
    (case k_Above_gather => k_is)
    (case mo_Above => k_is)
    (case a_Group => k_is)
    (case pg_Group => k_is)
    (case hd_Group => k_is)
    (case po_Group => k_is)
    (case sa_Group => k_is)
    (case mk_Group => k_is)
    (case kc_Group => k_is)
    (case hc_Group => k_is)
    (case na_Group_function => k_is)
    (case na_Group_key => k_is)
    (case na_Group_name => k_is)
    (case a_Group_init => k_is)
    (case j_Group_init => k_is)
    (case l_Group_init => k_is)
    (case c_Group_init => k_is)
    (case k_Group_init => k_is)
    (case a_Group_leans => k_is)
    (case j_Group_leans => k_is)
    (case l_Group_leans => k_is)
    (case c_Group_leans => k_is)
    (case k_Group_leans => k_is)
    (case a_Group_gather => k_is)
    (case j_Group_gather => k_is)
    (case l_Group_gather => k_is)
    (case c_Group_gather => k_is)
    (case k_Group_gather => k_is)
    (case mo_Group => k_is)
    (case a_Lookup => k_is)
    (case pg_Lookup => k_is)
    (case hd_Lookup => k_is)
    (case po_Lookup => k_is)
    (case sa_Lookup => k_is)
    (case mk_Lookup => k_is)
    (case kc_Lookup => k_is)
    (case hc_Lookup => k_is)
    (case na_Lookup_function => k_is)
    (case na_Lookup_key => k_is)
    (case na_Lookup_other => k_is)
    (case na_Lookup_theirs => k_is)
    (case na_Lookup_names => k_is)
    (case a_Lookup_init => k_is)
    (case j_Lookup_init => k_is)
    (case l_Lookup_init => k_is)
    (case c_Lookup_init => k_is)
    (case k_Lookup_init => k_is)
    (case a_Lookup_leans => k_is)
    (case j_Lookup_leans => k_is)
    (case l_Lookup_leans => k_is)
    (case c_Lookup_leans => k_is)
    (case k_Lookup_leans => k_is)
    (case a_Lookup_gather => k_is)
    (case j_Lookup_gather => k_is)
    (case l_Lookup_gather => k_is)
    (case c_Lookup_gather => k_is)
    (case k_Lookup_gather => k_is)
    (case mo_Lookup => k_is)
    (case a_Mend => k_is)
    (case pg_Mend => k_is)
    (case hd_Mend => k_is)
    (case po_Mend => k_is)
    (case sa_Mend => k_is)
    (case mk_Mend => k_is)
    (case kc_Mend => k_is)
    (case hc_Mend => k_is)
    (case na_Mend_function => k_is)
    (case na_Mend_name => k_is)
    (case a_Mend_init => k_is)
    (case j_Mend_init => k_is)
    (case l_Mend_init => k_is)
    (case c_Mend_init => k_is)
    (case k_Mend_init => k_is)
    (case a_Mend_leans => k_is)
    (case j_Mend_leans => k_is)
    (case l_Mend_leans => k_is)
    (case c_Mend_leans => k_is)
    (case k_Mend_leans => k_is)
    (case a_Mend_gather => k_is)
    (case j_Mend_gather => k_is)
    (case l_Mend_gather => k_is)
    (case c_Mend_gather => k_is)
    (case k_Mend_gather => k_is)
    (case mo_Mend => k_is)
    (case si_Rule_Above => kit_is)
    (case si_Rule_Lookup => kit_is)
    (case si_Rule_Mend => kit_is)
    (case si_Cells_Above => kit_is)
    (case si_Cells_Lookup => kit_is)
    (case si_Cells_Mend => kit_is)
    (case si_Above_Above => kit_is)
    (case si_Above_Lookup => kit_is)
    (case si_Above_Mend => kit_is)
    (case si_Group_Above => kit_is)
    (case si_Group_Lookup => kit_is)
    (case si_Group_Mend => kit_is)
    (case si_Lookup_Above => kit_is)
    (case si_Lookup_Lookup => kit_is)
    (case si_Lookup_Mend => kit_is)
    (case si_Mend_Above => kit_is)
    (case si_Mend_Lookup => kit_is)
    (case si_Mend_Mend => kit_is)
