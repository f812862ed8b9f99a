import PyProof.Rows.All
import Wide.All
import OpenK.AllK
import Wide.FinOn
import PyProof.EqAt
import PyProof.EqKinds
import PyProof.TupleCall
import Lean
import PySem.Challenge.RW_lazycols_k17_rules_refused
set_option Elab.async false
set_option linter.all false
set_option maxRecDepth 100000
set_option maxHeartbeats 4000000
set_option genSizeOfSpec false
/-! THE HAND LAYER, for ints, bools, texts, own classes, LISTS and tuples (index, slices, in, append, pop ..), calls, loops. Paste it whole ahead of your own text; what your proof does not reach may be deleted. -/
namespace L2
open PySem PySem.Spec PyProof.Rows

/-- a key: an int or a str -/
abbrev Key := Sum Int Str
def keyIs : Key → Value → Bool
  | .inl k, v => Value.isInt k v
  | .inr x, v => Value.isStrOf x v
def keyH (w : World) : Key → Int
  | .inl k => hashInt k
  | .inr x => hashStr w x
theorem keyIs_shape : ∀ {k : Key} {v : Value}, keyIs k v = true → (∃ i t, k = Sum.inl i ∧ v = Value.int i t) ∨ (∃ x t, k = Sum.inr x ∧ v = Value.str x t)
  | .inl i, v, h => by
    obtain ⟨t, e⟩ := Value.isInt_shape (k := i) (v := v) h
    exact .inl ⟨i, t, rfl, e⟩
  | .inr x, v, h => by
    obtain ⟨t, e⟩ := Value.isStrOf_shape (x := x) (v := v) h
    exact .inr ⟨x, t, rfl, e⟩
theorem keyIs_int (i : Int) (t : Tok) : keyIs (.inl i) (.int i t) = true := by simp [keyIs, Value.isInt]
theorem keyIs_str (x : Str) (t : Tok) : keyIs (.inr x) (.str x t) = true := by simp [keyIs, Value.isStrOf]
theorem key_ll (a b : Int) : decide ((Sum.inl a : Key) = Sum.inl b) = (a == b) := by
  by_cases e : a = b
  · subst e; simp
  · have h : ¬ (Sum.inl a : Key) = Sum.inl b := fun q => e (Sum.inl.inj q)
    rw [decide_eq_false h]
    exact (beq_eq_false_iff_ne.mpr e).symm
theorem key_rr (a b : Str) : decide ((Sum.inr a : Key) = Sum.inr b) = decide (a = b) := by
  by_cases e : a = b
  · subst e; simp
  · have h : ¬ (Sum.inr a : Key) = Sum.inr b := fun q => e (Sum.inr.inj q)
    rw [decide_eq_false h, decide_eq_false e]
theorem key_lr (a : Int) (b : Str) : decide ((Sum.inl a : Key) = Sum.inr b) = false := decide_eq_false (fun q => nomatch q)
theorem key_rl (a : Str) (b : Int) : decide ((Sum.inr a : Key) = Sum.inl b) = false := decide_eq_false (fun q => nomatch q)

def mixKind (prog : Program) (w : World) : PySem.KeyKind prog w Key where
  is := keyIs
  hash := keyH w
  inj := fun v a b ha hb => by
    rcases keyIs_shape ha with ⟨i, t, rfl, rfl⟩ | ⟨x, t, rfl, rfl⟩
    · rcases keyIs_shape hb with ⟨j, u, rfl, e⟩ | ⟨y, u, rfl, e⟩
      · injection e with e1 _; rw [e1]
      · exact nomatch e
    · rcases keyIs_shape hb with ⟨j, u, rfl, e⟩ | ⟨y, u, rfl, e⟩
      · exact nomatch e
      · injection e with e1 _; rw [e1]
  byValue := fun k v h => by
    rcases keyIs_shape h with ⟨i, t, rfl, rfl⟩ | ⟨x, t, rfl, rfl⟩ <;> rfl
  pyHash := fun hv h => by
    rcases keyIs_shape hv with ⟨i, t, rfl, rfl⟩ | ⟨x, t, rfl, rfl⟩
    · exact wpAny_pyHash_int h
    · exact wpAny_pyHash_str h
  eqBool := fun hu hv h => by
    rcases keyIs_shape hu with ⟨i, t, rfl, rfl⟩ | ⟨x, t, rfl, rfl⟩
    · rcases keyIs_shape hv with ⟨j, u, rfl, rfl⟩ | ⟨y, u, rfl, rfl⟩
      · rw [key_ll] at h; exact wpAny_eqBool_int h
      · rw [key_lr] at h; exact SeqAt.EqAt.int_str i t y u _ _ _ _ h
    · rcases keyIs_shape hv with ⟨j, u, rfl, rfl⟩ | ⟨y, u, rfl, rfl⟩
      · rw [key_rl] at h; exact SeqAt.EqAt.str_int x t j u _ _ _ _ h
      · rw [key_rr] at h; exact wpAny_eqBool_str h
  «strs» := fun k x t v h => by
    rcases keyIs_shape h with ⟨i, u, rfl, e⟩ | ⟨y, u, rfl, e⟩
    · exact nomatch e
    · injection e with e1 _
      subst e1
      cases v <;> rfl

theorem mixKind_int (prog : Program) (w : World) (i : Int) (t : Tok) : (mixKind prog w).is (.inl i) (.int i t) = true := keyIs_int i t
theorem mixKind_str (prog : Program) (w : World) (x : Str) (t : Tok) : (mixKind prog w).is (.inr x) (.str x t) = true := keyIs_str x t
end L2

namespace L2
open PySem PySem.Spec PyProof.Rows

/-- a value, without the heap -/
inductive V where
  | non | bl (b : Bool) | int (i : Int) | str (x : Str) | byt (b : Array UInt8) | flt (b : UInt64) | ref (a : Addr) | ty (n : String)
  deriving DecidableEq

def RelV : V → Value → Prop
  | .non, u => u = Value.none
  | .bl b, u => u = Value.bool b
  | .int i, u => ∃ t, u = Value.int i t
  | .str x, u => ∃ t, u = Value.str x t
  | .byt b, u => ∃ t, u = Value.bytes b t
  | .flt b, u => ∃ t, u = Value.float b t
  | .ref a, u => u = Value.ref a
  | .ty n, u => u = Value.type n

abbrev Vals : List V → List Value → Prop := Paired RelV
theorem Vals.length {xs : List V} {us : List Value} (r : Vals xs us) : xs.length = us.length := Paired.length r
theorem Vals.get : ∀ {xs : List V} {us : List Value} {i : Nat} {x : V}, Vals xs us → xs[i]? = some x → ∃ u, us[i]? = some u ∧ RelV x u
  | _, _, _, _, .nil, e => by simp at e
  | _, _, 0, _, .cons r _, e => by simp at e; subst e; exact ⟨_, rfl, r⟩
  | _, _, i + 1, x, .cons _ t, e => by
    obtain ⟨u, h1, h2⟩ := Vals.get (i := i) (x := x) t (by simpa using e)
    exact ⟨u, by simpa using h1, h2⟩
theorem Vals.append : ∀ {xs ys : List V} {us ws : List Value}, Vals xs us → Vals ys ws → Vals (xs ++ ys) (us ++ ws)
  | _, _, _, _, .nil, s => s
  | _, _, _, _, .cons r t, s => .cons r (Vals.append t s)
theorem Vals.take : ∀ {xs : List V} {us : List Value} (n : Nat), Vals xs us → Vals (xs.take n) (us.take n)
  | _, _, 0, _ => .nil
  | _, _, _ + 1, .nil => .nil
  | _, _, n + 1, .cons r t => .cons r (Vals.take n t)
theorem Vals.drop : ∀ {xs : List V} {us : List Value} (n : Nat), Vals xs us → Vals (xs.drop n) (us.drop n)
  | _, _, 0, r => r
  | _, _, _ + 1, .nil => .nil
  | _, _, n + 1, .cons _ t => Vals.drop n t
def RelO : Option V → Option Value → Prop
  | some v, some u => RelV v u
  | none, none => True
  | _, _ => False
def KV {κ : Type} : List (κ × V) → List (κ × Value) → Prop := Paired fun (p : κ × V) (q : κ × Value) => p.1 = q.1 ∧ RelV p.2 q.2

/-- a key of a dict (00_mix): an int or a text -/
def kV : Key → V
  | .inl i => .int i
  | .inr x => .str x

/-- what stands at a tracked address -/
inductive HO where
  /-- a list -/
  | lst (xs : List V)
  /-- a tuple (never changes) -/
  | tup (xs : List V)
  /-- a dict whose keys are ints and texts; one whose keys are tuples of ints and texts (the empty one is both) -/
  | dK (kvs : List (Key × V)) | dT (kvs : List (List Key × V))
  /-- a set of ints: its members, its size -/
  | set (S : Int → Bool) (n : Nat)
  /-- an instance of the class at C, its dict at dx, its attributes -/
  | ins (C dx : Addr) (fs : List (Str × V))
  /-- the dict of the instance at x -/
  | own (x : Addr)
  /-- the dict of an exception -/
  | xd (fs : List (Str × V))
  /-- a bound method, f of x -/
  | met (f x : Addr)
  /-- a range object lo, lo + 1, .. below hi -/
  | rng (lo hi : Int)
  /-- a thing that is known to the object (the script; a dict while a loop walks it): read, never written while it is so -/
  | frz (o : Obj) (u : HO)
  /-- a code object's table -/
  | tbl (ps : Array Value)
  /-- any other thing, by what is true of its one object (a def of one's own: SetO a S n := HO.ext fun h => ..) -/
  | ext (φ : Heap → Prop)

abbrev Hp := Addr → Option HO
def upd (H : Hp) (a : Addr) (o : HO) : Hp := fun b => if b = a then some o else H b
theorem upd_same {H : Hp} {a : Addr} {o : HO} : upd H a o a = some o := by unfold upd; rw [if_pos rfl]
theorem upd_ne {H : Hp} {a b : Addr} {o : HO} (h : b ≠ a) : upd H a o b = H b := by unfold upd; rw [if_neg h]
theorem ne_of_none {H : Hp} {a b : Addr} {o : HO} (h : H a = some o) (h' : H b = none) : a ≠ b := by
  intro e; subst e; rw [h] at h'; cases h'

section
variable (P : Program) (w : World)
def ObjOk (H : Hp) (h : Heap) (a : Addr) : HO → Prop
  | .lst xs => xs.length ≤ sizeLine ∧ ∃ (its : List Value) (n : Nat), Vals xs its ∧ h.get? a = some { cls := .type "list", data := .seq its.toArray n }
  | .tup xs => xs.length ≤ sizeLine ∧ ∃ its : List Value, Vals xs its ∧ IsTup h a its.toArray
  | .dK kvs => kvs.length ≤ sizeLine ∧ (a == sysModules) = false ∧ ∃ vs, KV kvs vs ∧ h.DictOf (mixKind P w) a vs
  | .dT kvs => kvs.length ≤ sizeLine ∧ (a == sysModules) = false ∧ ∃ xs : List (List Key × Addr × Value),
      Paired (fun (p : List Key × V) (q : List Key × Addr × Value) => p.1 = q.1 ∧ H q.2.1 = some (.tup (p.1.map kV)) ∧ RelV p.2 q.2.2) kvs xs ∧
      ∃ o es ep, h.get? a = some o ∧ o.ExactDict ∧ o.data = .dict es ep ∧ es.toList = xs.map (entryOfKey (tupleKind (mixKind P w))) ∧ (xs.map (·.1)).Nodup
  | .set S n => h.SetOf (intKind P w) a S n
  | .ins C dx fs => H dx = some (.own a) ∧ fs.length ≤ 1000 ∧ dx ≠ a ∧ h.get? a = some (PySem.W.instObj C dx) ∧
      ∃ mA, h.Ns1 dx mA ∧ (∀ f, RelO (fs.lookup f) (mA f)) ∧ PySem.Within mA (fs.map (·.1))
  | .own _ => ∃ o, h.get? a = some o
  | .xd fs => ∃ mA, h.Ns1 a mA ∧ ∀ f, RelO (fs.lookup f) (mA f)
  | .rng lo hi => ∃ t u v, h.get? a = some { cls := .type "range", data := .fields #[.int lo t, .int hi u, .int 1 v] }
  | .frz o u => h.get? a = some o ∧ ObjOk H h a u
  | .tbl ps => h.get? a = some { cls := .none, data := .fields ps }
  | .met f x => h.get? a = some (PySem.W.methodObj (.ref f) (.ref x))
  | .ext φ => φ h ∧ (∃ o, h.get? a = some o) ∧ ∀ h1 h2 : Heap, φ h1 → (∀ o, h1.get? a = some o → h2.get? a = some o) → φ h2
/-- the abstract heap is held -/
def HOk (H : Hp) (h : Heap) : Prop := ∀ a o, H a = some o → ObjOk P w H h a o
end

section
variable {P : Program} {w : World} {H H' : Hp} {h h' : Heap} {a : Addr} {o : HO}
theorem ObjOk.lt (x : ObjOk P w H h a o) : a < h.objs.size := by
  cases o with
  | lst xs => obtain ⟨_, _, _, _, e⟩ := x; exact Heap.lt_size e
  | tup xs => obtain ⟨_, _, _, p⟩ := x; exact p.lt
  | dK kvs => obtain ⟨_, _, _, _, o, _, _, e, _⟩ := x; exact Heap.lt_size e
  | dT kvs => obtain ⟨_, _, _, _, o, _, _, e, _⟩ := x; exact Heap.lt_size e
  | set S n => obtain ⟨o, _, _, _, e, _⟩ := x; exact Heap.lt_size e
  | ins C dx fs => obtain ⟨_, _, _, e, _⟩ := x; exact Heap.lt_size e
  | own y => obtain ⟨_, e⟩ := x; exact Heap.lt_size e
  | xd fs => obtain ⟨_, ⟨_, _, _, e, _⟩, _⟩ := x; exact Heap.lt_size e
  | rng lo hi => obtain ⟨_, _, _, e⟩ := x; exact Heap.lt_size e
  | frz ob u => obtain ⟨e, _⟩ := x; exact Heap.lt_size e
  | tbl ps => exact Heap.lt_size (show h.get? a = some _ from x)
  | met f y => exact Heap.lt_size (show h.get? a = some _ from x)
  | ext φ => obtain ⟨_, ⟨_, e⟩, _⟩ := x; exact Heap.lt_size e
theorem Paired.mapP {α β : Type} {F G : α → β → Prop} : ∀ {l₁ : List α} {l₂ : List β}, Paired F l₁ l₂ → (∀ a b, F a b → G a b) → Paired G l₁ l₂
  | _, _, .nil, _ => .nil
  | _, _, .cons r t, f => .cons (f _ _ r) (Paired.mapP t f)
/-- what an object's description leans on: its own object, its own dict, the tuples -/
theorem ObjOk.stay (x : ObjOk P w H h a o) (k : ∀ b u, (b = a ∨ H b = some (.own a)) → h.get? b = some u → h'.get? b = some u)
    (ho : ∀ b, H b = some (.own a) → H' b = some (.own a)) (ht : ∀ b xs, H b = some (.tup xs) → H' b = some (.tup xs)) : ObjOk P w H' h' a o := by
  induction o with
  | lst xs => obtain ⟨z, its, n, r, e⟩ := x; exact ⟨z, its, n, r, k _ _ (.inl rfl) e⟩
  | tup xs => obtain ⟨z, its, r, ob, e, c⟩ := x; exact ⟨z, its, r, ob, k _ _ (.inl rfl) e, c⟩
  | dK kvs => obtain ⟨z, y, vs, r, ob, es, ep, e, c⟩ := x; exact ⟨z, y, vs, r, ob, es, ep, k _ _ (.inl rfl) e, c⟩
  | dT kvs =>
    obtain ⟨z, y, xs, r, ob, es, ep, e, c⟩ := x
    exact ⟨z, y, xs, Paired.mapP r fun p q z => ⟨z.1, ht _ _ z.2.1, z.2.2⟩, ob, es, ep, k _ _ (.inl rfl) e, c⟩
  | set S n => obtain ⟨ob, es, ep, t, e, c⟩ := x; exact ⟨ob, es, ep, t, k _ _ (.inl rfl) e, c⟩
  | ins C dx fs =>
    obtain ⟨d, z, ne, e, mA, ⟨od, es, ep, e2, c⟩, r⟩ := x
    exact ⟨ho _ d, z, ne, k _ _ (.inl rfl) e, mA, ⟨od, es, ep, k _ _ (.inr d) e2, c⟩, r⟩
  | own y => obtain ⟨ob, e⟩ := x; exact ⟨ob, k _ _ (.inl rfl) e⟩
  | xd fs => obtain ⟨mA, ⟨od, es, ep, e, c⟩, r⟩ := x; exact ⟨mA, ⟨od, es, ep, k _ _ (.inl rfl) e, c⟩, r⟩
  | rng lo hi => obtain ⟨t, u, v, e⟩ := x; exact ⟨t, u, v, k _ _ (.inl rfl) e⟩
  | frz ob u ih => obtain ⟨e, q⟩ := x; exact ⟨k _ _ (.inl rfl) e, ih q⟩
  | tbl ps =>
    have e : h.get? a = some { cls := .none, data := .fields ps } := x
    show h'.get? a = some { cls := .none, data := .fields ps }
    exact k a _ (.inl rfl) e
  | met f y =>
    have e : h.get? a = some (PySem.W.methodObj (.ref f) (.ref y)) := x
    show h'.get? a = some (PySem.W.methodObj (.ref f) (.ref y))
    exact k a _ (.inl rfl) e
  | ext φ => obtain ⟨p, ⟨o, e⟩, st⟩ := x; exact ⟨st _ _ p fun o q => k _ _ (.inl rfl) q, ⟨o, k _ _ (.inl rfl) e⟩, st⟩
theorem HOk.lt (x : HOk P w H h) (e : H a = some o) : a < h.objs.size := (x a o e).lt
theorem HOk.fresh (x : HOk P w H h) (e : h.objs.size ≤ a) : H a = none := by
  cases q : H a with
  | none => rfl
  | some u => exact absurd (Nat.lt_of_lt_of_le (x.lt q) e) (Nat.lt_irrefl _)
/-- every object of the heap is kept -/
theorem HOk.kept (x : HOk P w H h) (k : ∀ b u, h.get? b = some u → h'.get? b = some u) : HOk P w H h' := fun a o e =>
  (x a o e).stay (fun b u _ q => k b u q) (fun _ q => q) fun _ _ q => q
/-- a new object is laid and tracked -/
theorem HOk.laid (x : HOk P w H h) (k : ∀ b u, h.get? b = some u → h'.get? b = some u) (hp : h.objs.size ≤ a) (new : ObjOk P w (upd H a o) h' a o) : HOk P w (upd H a o) h' := fun b u e => by
  have hn := x.fresh hp
  by_cases hb : b = a
  · subst hb; rw [upd_same] at e; cases e; exact new
  · rw [upd_ne hb] at e
    exact (x b u e).stay (fun c v _ q => k c v q) (fun c q => by rw [upd_ne (ne_of_none q hn)]; exact q) fun c xs q => by rw [upd_ne (ne_of_none q hn)]; exact q
end

/-- what may be read as u: it is u, or a known u -/
def Rd (H : Hp) (a : Addr) (u : HO) : Prop := H a = some u ∨ ∃ o, H a = some (.frz o u)
theorem Rd.ok {P : Program} {w : World} {H : Hp} {h : Heap} {a : Addr} {u : HO} (r : Rd H a u) (x : HOk P w H h) : ObjOk P w H h a u := by
  rcases r with r | ⟨o, r⟩
  · exact x a u r
  · obtain ⟨_, q⟩ := x a _ r
    exact q
/-- what may be written -/
def Mut : Option HO → Prop
  | some (.lst _) => True
  | some (.dK _) => True
  | some (.dT _) => True
  | some (.set _ _) => True
  | some (.ins _ _ _) => True
  | some (.ext _) => True
  | _ => False
section
variable {P : Program} {w : World} {H : Hp} {h h' : Heap} {x e : Addr} {o' : HO}
/-- the object at e is changed: x itself, or the dict of the instance x -/
theorem HOk.write (ok : HOk P w H h) (mu : Mut (H x)) (he : e = x ∨ H e = some (.own x)) (k : ∀ b u, b ≠ e → h.get? b = some u → h'.get? b = some u) (heo : ∃ u, h'.get? e = some u)
    (new : ObjOk P w (upd H x o') h' x o') : HOk P w (upd H x o') h' := fun b u q => by
  have nown : ∀ c y, H c = some (.own y) → c ≠ x := fun c y r z => by subst z; rw [r] at mu; exact mu
  have ntup : ∀ c xs, H c = some (.tup xs) → c ≠ x := fun c xs r z => by subst z; rw [r] at mu; exact mu
  by_cases hb : b = x
  · subst hb; rw [upd_same] at q; cases q; exact new
  · rw [upd_ne hb] at q
    by_cases hbe : b = e
    · have q' : H b = some (.own x) := by
        rcases he with z | z
        · exact absurd (hbe.trans z) hb
        · rw [hbe]; exact z
      rw [q] at q'; cases q'
      obtain ⟨v, hv⟩ := heo
      exact ⟨v, by rw [hbe]; exact hv⟩
    · refine (ok b u q).stay (fun c v hc r => k c v ?_ r) (fun c r => by rw [upd_ne (nown c b r)]; exact r) fun c xs r => by rw [upd_ne (ntup c xs r)]; exact r
      rcases hc with rfl | hc
      · exact hbe
      · rintro rfl
        rcases he with z | z
        · exact nown c b hc z
        · rw [hc] at z; cases z; exact hb rfl
end

/-! ### kept unless tracked; of the frames at fs (the callers') the slots may change (an exception that passes writes there); of the records at ex (iterators) nothing is said -/
structure Un (fs ex : List Addr) (H H' : Hp) (h h' : Heap) : Prop where
  keep : ∀ b o, h.get? b = some o → H b = none → b ∉ fs → b ∉ ex → h'.get? b = some o
  slot : ∀ b o, h.get? b = some o → H b = none → b ∈ fs → b ∉ ex → ∃ sl, h'.get? b = some { o with slots := sl }
  free : ∀ b o, h.get? b = some o → H b = none → b ∉ ex → H' b = none
  there : ∀ b o, h.get? b = some o → b ∉ ex → ∃ o', h'.get? b = some o'
  tups : ∀ b xs, H b = some (.tup xs) → H' b = some (.tup xs)
  frzs : ∀ b o u, H b = some (.frz o u) → H' b = some (.frz o u)
  tbls : ∀ b ps, H b = some (.tbl ps) → ∃ more, H' b = some (.tbl (ps ++ more))
section
variable {fs fs' ex ex' : List Addr} {H H1 H2 : Hp} {h h1 h2 h' : Heap} {a x e : Addr} {o : HO}
theorem Un.any (u : Un fs ex H H1 h h1) {b : Addr} {ob : Obj} (q : h.get? b = some ob) (n : H b = none) (hx : b ∉ ex) : ∃ sl, h1.get? b = some { ob with slots := sl } := by
  by_cases hb : b ∈ fs
  · exact u.slot b ob q n hb hx
  · exact ⟨ob.slots, u.keep b ob q n hb hx⟩
theorem Un.kept (k : ∀ b u, h.get? b = some u → h'.get? b = some u) : Un fs ex H H h h' :=
  ⟨fun b ob q _ _ _ => k b ob q, fun b ob q _ _ _ => ⟨ob.slots, k b ob q⟩, fun _ _ _ n _ => n, fun b ob q _ => ⟨ob, k b ob q⟩, fun _ _ q => q, fun _ _ _ q => q, fun _ ps q => ⟨#[], by rw [q]; simp⟩⟩
theorem Un.refl : Un fs ex H H h h := Un.kept fun _ _ q => q
theorem Un.laid (k : ∀ b u, h.get? b = some u → h'.get? b = some u) (hp : h.objs.size ≤ a) (hn : H a = none) : Un fs ex H (upd H a o) h h' where
  keep := fun b u q _ _ _ => k b u q
  slot := fun b u q _ _ _ => ⟨u.slots, k b u q⟩
  free := fun b u q n _ => by rw [upd_ne (Nat.ne_of_lt (Nat.lt_of_lt_of_le (Heap.lt_size q) hp))]; exact n
  there := fun b u q _ => ⟨u, k b u q⟩
  tups := fun b xs q => by rw [upd_ne (ne_of_none q hn)]; exact q
  frzs := fun b u xs q => by rw [upd_ne (ne_of_none q hn)]; exact q
  tbls := fun b ps q => ⟨#[], by rw [upd_ne (ne_of_none q hn), q]; simp⟩
theorem Un.write (mu : Mut (H x)) (he : e = x ∨ H e = some (.own x)) (k : ∀ b u, b ≠ e → h.get? b = some u → h'.get? b = some u) (heo : ∃ u, h'.get? e = some u) : Un fs ex H (upd H x o) h h' := by
  have hx : ∀ b, H b = none → b ≠ x := fun b n z => by subst z; rw [n] at mu; exact mu
  have hb : ∀ b, H b = none → b ≠ e := fun b n z => by
    subst z
    rcases he with r | r
    · exact hx b n r
    · rw [n] at r; cases r
  have hm : ∀ b u, H b = some u → ¬ Mut (some u) → b ≠ x := fun b u q nm z => by subst z; rw [q] at mu; exact nm mu
  refine ⟨fun b u q n _ _ => k b u (hb b n) q, fun b u q n _ _ => ⟨u.slots, k b u (hb b n) q⟩, fun b u q n _ => by rw [upd_ne (hx b n)]; exact n, fun b u q _ => ?_,
    fun b xs q => by rw [upd_ne (hm b _ q fun z => z)]; exact q, fun b u xs q => by rw [upd_ne (hm b _ q fun z => z)]; exact q, fun b ps q => ⟨#[], by rw [upd_ne (hm b _ q fun z => z), q]; simp⟩⟩
  by_cases hbe : b = e
  · subst hbe; exact heo
  · exact ⟨u, k b u hbe q⟩
end

/-! ### the heap without what is tracked -/
def trk (h : Heap) (H : Hp) : List Addr := (List.range h.objs.size).filter fun a => (H a).isSome
def hidT (h : Heap) (H : Hp) : Heap := PySem.W.hideAll h (trk h H)
theorem hidT_size (h : Heap) (H : Hp) : (hidT h H).objs.size = h.objs.size := PySem.W.hideAll_size _ _
theorem hidT_get {h : Heap} {H : Hp} {b : Addr} {o : Obj} (e : h.get? b = some o) (n : H b = none) : (hidT h H).get? b = some o :=
  PySem.W.hideAll_get _ e fun hm => by
    have q : (H b).isSome = true := (List.mem_filter.mp hm).2
    rw [n] at q; simp at q
theorem of_hidT {h : Heap} {H : Hp} {b : Addr} {o : Obj} (e : (hidT h H).get? b = some o) : h.get? b = some o ∧ H b = none := by
  have e' : h.get? b = some o := PySem.W.of_hideAll (trk h H) e
  refine ⟨e', ?_⟩
  cases q : H b with
  | none => rfl
  | some x =>
    have hm : b ∈ trk h H := List.mem_filter.mpr ⟨List.mem_range.mpr (Heap.lt_size e'), by simp [q]⟩
    have z : (hidT h H).get? b = none := PySem.W.hideAll_none (trk h H) hm
    rw [z] at e; cases e

/-! ### OpenK's ledger, filled with every new object but one -/
def allNews (g h : Heap) (L : Addr) : List (Addr × Obj) := (List.range h.objs.size).filterMap fun a => if a = L ∨ (g.get? a).isSome = true then none else (h.get? a).map fun o => (a, o)
def rest (g h : Heap) (L d : Addr) : List (Addr × Obj) := (allNews g h L).filter fun p => decide (p.1 ≠ d)
end L2

namespace L2
open PySem PySem.Spec PyProof.Rows

/-- the module's facts, over the base: the heap at the law's entry without what is tracked there -/
structure Mod (K : PySem.W.Frag) (mg : Str → Option Value) (base : Heap) : Prop where
  kin : K.In base
  glob : base.Ns mainGlobals mg
  blt : ∃ mb, base.Ns builtinsNs mb ∧ ∀ x : Str, x ≠ "__name__" → mb x = bootBuiltins x
  nolimit : base.NoLimit

/-- the context: a def's body (or a comprehension's block) running. base: fixed through the whole law; s₀, H₀: the entry; outer: the frames whose slots others may change (a def's callers); stack: all frames that run;
   ex: iterators that were made ahead of the entry and are walked here (a comprehension's); fn: the names whose cells were made at the entry (a def: all; a comprehension's block: its own); calm: not within an except suite; pn: pins that every state bears; xe: what is wanted of an exception that leaves the code -/
structure Cx where
  prog : Program
  w : World
  K : PySem.W.Frag
  mg : Str → Option Value
  base : Heap
  A : Around
  N : List Str
  s₀ : Shared
  H₀ : Hp
  env : Env
  outer : List Env
  stack : List Env
  ex : List Addr
  fn : Str → Bool
  calm : Bool
  pn : List (Addr × Obj)
  xe : Value → Shared → Prop
/-- the callers' frames -/
def frs (l : List Env) : List Addr := l.filterMap (·.frame)
abbrev Cx.fs (X : Cx) : List Addr := frs X.outer

def Vis (sc : Scope) (x : Str) : Prop := sc.names.lookup x = some .local ∨ sc.names.lookup x = some .cell ∨ sc.names.lookup x = some .free
def Loc (sc : Scope) (x : Str) : Prop := sc.names.lookup x = some .local ∨ sc.names.lookup x = some .cell
def Look (env : Env) (h : Heap) (m : Str → Option Value) (x : Str) (u : Value) : Prop :=
  (env.kindOf x = some .local ∧ m x = some u) ∨ ((env.kindOf x = some .cell ∨ env.kindOf x = some .free) ∧ ∃ c, env.cells.lookup x = some c ∧ h.IsCell c (some u))

structure Cx.Ok (X : Cx) : Prop where
  mod : Mod X.K X.mg X.base
  kind : X.env.scope.kind = .function
  glob : X.env.globals = mainGlobals
  blt : X.env.builtins = builtinsNs
  above : X.s₀.heap.objs.size ≤ X.env.locals
  inj : ∀ x y c, X.env.cells.lookup x = some c → X.env.cells.lookup y = some c → x = y
  has : ∀ x, (X.env.kindOf x = some .cell ∨ X.env.kindOf x = some .free) → ∃ c, X.env.cells.lookup x = some c
  cab : ∀ x c, X.fn x = true → X.env.cells.lookup x = some c → X.s₀.heap.objs.size ≤ c
  hd : X.calm = true → X.A.handled = none
  frames : X.A.frames = some X.stack
  stk : X.stack = X.outer ∨ (X.stack = X.env :: X.outer ∧ X.env.frame = some X.env.locals)
  exf : ∀ b ∈ X.ex, b ≠ X.env.locals ∧ ∀ x c, X.env.cells.lookup x = some c → c ≠ b
  bs : ∀ b o, X.base.get? b = some o → X.s₀.heap.get? b = some o ∧ X.H₀ b = none
  bsz : X.base.objs.size ≤ X.s₀.heap.objs.size
  noex : ∀ b o, X.base.get? b = some o → b ∉ X.ex
  exfs : ∀ b ∈ X.ex, b ∉ X.fs
  funs : X.s₀.heap.FunFrames X.base X.outer
  frf : ∀ b ∈ X.fs, X.H₀ b = none

structure Inv (X : Cx) (pins : List (Addr × Obj)) (σ : List (Option V)) (H : Hp) (s : Shared) : Prop where
  ok : X.Ok
  os : s.os = X.s₀.os
  bare : AllBare s.gens
  base : Un X.fs X.ex X.H₀ H X.s₀.heap s.heap
  loc : ∃ m, s.heap.Ns X.env.locals m ∧ ∀ (i : Nat) (x : Str) (v : V), X.N[i]? = some x → σ[i]? = some (some v) → Vis X.env.scope x → ∃ u, RelV v u ∧ Look X.env s.heap m x u
  cell : ∀ x c, X.env.cells.lookup x = some c → ∃ v, s.heap.IsCell c v
  free : H X.env.locals = none
  freeC : ∀ x c, X.env.cells.lookup x = some c → H c = none
  pin : ∀ p ∈ X.pn ++ pins, s.heap.get? p.1 = some p.2 ∧ H p.1 = none ∧ p.1 ≠ X.env.locals ∧ p.1 ∉ X.fs ∧ ∀ v, p.2.data ≠ .cell v
  hok : HOk X.prog X.w H s.heap
  len : σ.length = X.N.length

section
variable {X : Cx} {pins : List (Addr × Obj)} {σ : List (Option V)} {H H' : Hp} {s : Shared} {h' : Heap}

theorem Cx.Ok.nofr (ok : X.Ok) {b : Addr} {o : Obj} (e : X.base.get? b = some o) : b ∉ X.fs := fun hb => by
  have := (ok.funs.mem hb).1
  rw [e] at this; cases this
theorem Inv.bs (I : Inv X pins σ H s) : ∀ b o, X.base.get? b = some o → s.heap.get? b = some o ∧ H b = none := fun b o e =>
  ⟨I.base.keep b o (I.ok.bs b o e).1 (I.ok.bs b o e).2 (I.ok.nofr e) (I.ok.noex b o e), I.base.free b o (I.ok.bs b o e).1 (I.ok.bs b o e).2 (I.ok.noex b o e)⟩
theorem Inv.bk (I : Inv X pins σ H s) : ∀ b o, X.base.get? b = some o → s.heap.get? b = some o := fun b o e => (I.bs b o e).1
theorem Inv.mod (I : Inv X pins σ H s) : Mod X.K X.mg X.base := I.ok.mod
theorem Inv.kIn (I : Inv X pins σ H s) : X.K.In s.heap := I.ok.mod.kin.keeps I.bk
/-- the frame over the base: for OpenK's rules (K.In X.base is I.mod.kin) -/
theorem Inv.fr (I : Inv X pins σ H s) : ∃ m, Fr X.base X.env.locals s.heap m :=
  let ⟨m, hn, _⟩ := I.loc
  ⟨m, hn, I.bk, Nat.le_trans I.ok.bsz I.ok.above⟩
theorem Inv.lt (I : Inv X pins σ H s) : X.env.locals < s.heap.objs.size := let ⟨_, hn, _⟩ := I.loc; hn.lt
theorem Inv.sz (I : Inv X pins σ H s) : X.s₀.heap.objs.size ≤ s.heap.objs.size := Nat.le_trans I.ok.above (Nat.le_of_lt I.lt)
theorem Inv.nofs (I : Inv X pins σ H s) {a : Addr} (h : s.heap.objs.size ≤ a) : a ∉ X.fs := fun hb => by
  obtain ⟨_, o, ho, _⟩ := I.ok.funs.mem hb
  exact absurd (Nat.lt_of_lt_of_le (Heap.lt_size ho) (Nat.le_trans I.sz h)) (Nat.lt_irrefl _)
theorem Inv.cne (I : Inv X pins σ H s) : ∀ x c, X.env.cells.lookup x = some c → c ≠ X.env.locals := fun x c e z => by
  obtain ⟨v, o, ho, hd⟩ := I.cell x c e
  obtain ⟨m, ⟨o', es, ep, ho', hd', _⟩, _⟩ := I.loc
  rw [z, ho'] at ho; cases ho; rw [hd'] at hd; cases hd
theorem Inv.funs (I : Inv X pins σ H s) : s.heap.FunFrames X.base X.outer := by
  have all : ∀ (l : List Env), (∀ b ∈ frs l, b ∈ X.fs) → X.s₀.heap.FunFrames X.base l → s.heap.FunFrames X.base l := by
    intro l
    induction l with
    | nil => intro _ _; trivial
    | cons env r ih =>
      intro hs hl
      obtain ⟨hk, ⟨L, o, hf, hn, ho, hd⟩, hr⟩ := hl
      have hL : L ∈ X.fs := hs L (by unfold frs; rw [List.filterMap_cons, hf]; exact List.mem_cons_self)
      obtain ⟨sl, e⟩ := I.base.slot L o ho (I.ok.frf L hL) hL fun z => I.ok.exfs L z hL
      exact ⟨hk, ⟨L, _, hf, hn, e, hd⟩, ih (fun b hb => hs b (by unfold frs; rw [List.filterMap_cons, hf]; exact List.mem_cons_of_mem _ hb)) hr⟩
  exact all X.outer (fun _ hb => hb) I.ok.funs

/-- the frames that run, for a call -/
theorem Inv.stack (I : Inv X pins σ H s) : s.heap.FunFrames X.base X.stack := by
  rcases I.ok.stk with e | ⟨e, hf⟩
  · rw [e]; exact I.funs
  · rw [e]
    obtain ⟨m, hn, _⟩ := I.loc
    refine .cons (by rw [I.ok.kind]; decide) hf hn ?_ I.funs
    exact Heap.get?_none_of_le (Nat.le_trans I.ok.bsz I.ok.above)
theorem Inv.stkSub (I : Inv X pins σ H s) : ∀ b ∈ frs X.stack, b ∈ X.env.locals :: X.fs := fun b hb => by
  rcases I.ok.stk with e | ⟨e, hf⟩
  · rw [e] at hb; exact List.mem_cons_of_mem _ hb
  · rw [e] at hb
    unfold frs at hb
    rw [List.filterMap_cons, hf] at hb
    exact hb
theorem Inv.stkFree (I : Inv X pins σ H s) : ∀ b ∈ frs X.stack, H b = none := fun b hb => by
  rcases List.mem_cons.mp (I.stkSub b hb) with e | hb
  · rw [e]; exact I.free
  · obtain ⟨_, o, ho, _⟩ := I.ok.funs.mem hb
    exact I.base.free b o ho (I.ok.frf b hb) fun z => I.ok.exfs b z hb

/-- THE STEP: the untracked objects but the frame and the records at ch are kept (the callers' frames up to slots), the frame's map is kept, the new abstract heap is held -/
theorem Inv.step {g' : Array GenState} {t' : Nat} {d' : Drawn} {ch : List Addr} (I : Inv X pins σ H s)
    (hch : ∀ b ∈ ch, (b ∈ X.ex ∨ X.s₀.heap.objs.size ≤ b) ∧ b ≠ X.env.locals ∧ (∀ x c, X.env.cells.lookup x = some c → c ≠ b) ∧ ∀ p ∈ X.pn ++ pins, p.1 ≠ b)
    (keep : ∀ b o, b ≠ X.env.locals → b ∉ X.fs → b ∉ ch → s.heap.get? b = some o → H b = none → h'.get? b = some o)
    (slot : ∀ b o, b ≠ X.env.locals → b ∈ X.fs → b ∉ ch → s.heap.get? b = some o → H b = none → ∃ sl, h'.get? b = some { o with slots := sl }) (free : ∀ b o, b ∉ ch → s.heap.get? b = some o → H b = none → H' b = none)
    (there : ∀ b o, b ∉ ch → s.heap.get? b = some o → ∃ o', h'.get? b = some o')
    (tups : ∀ b xs, H b = some (.tup xs) → H' b = some (.tup xs)) (frzs : ∀ b o u, H b = some (.frz o u) → H' b = some (.frz o u)) (tbls : ∀ b ps, H b = some (.tbl ps) → ∃ more, H' b = some (.tbl (ps ++ more)))
    (ns : ∀ m, s.heap.Ns X.env.locals m → h'.Ns X.env.locals m) (hok : HOk X.prog X.w H' h') (hg : AllBare g') :
    Inv X pins σ H' { s with heap := h', gens := g', drawn := d', toks := t' } := by
  have neL : ∀ b o, X.s₀.heap.get? b = some o → b ≠ X.env.locals := fun b o e => Nat.ne_of_lt (Nat.lt_of_lt_of_le (Heap.lt_size e) I.ok.above)
  have neC : ∀ b o, X.s₀.heap.get? b = some o → b ∉ X.ex → b ∉ ch := fun b o e hx hb => by
    rcases (hch b hb).1 with z | z
    · exact hx z
    · exact absurd (Nat.lt_of_lt_of_le (Heap.lt_size e) z) (Nat.lt_irrefl _)
  have cellK : ∀ x c, X.env.cells.lookup x = some c → ∀ v, s.heap.IsCell c v → h'.IsCell c v := fun x c e v ⟨o, ho, hd⟩ => by
    have nch : c ∉ ch := fun z => (hch c z).2.2.1 x c e rfl
    by_cases hc : c ∈ X.fs
    · obtain ⟨sl, q⟩ := slot c o (I.cne x c e) hc nch ho (I.freeC x c e)
      exact ⟨_, q, hd⟩
    · exact ⟨o, keep c o (I.cne x c e) hc nch ho (I.freeC x c e), hd⟩
  refine ⟨I.ok, I.os, hg, ⟨fun b o e n hb hx => ?_, fun b o e n hb hx => ?_, fun b o e n hx => ?_, fun b o e hx => ?_, fun b xs e => tups b xs (I.base.tups b xs e), fun b o xs e => frzs b o xs (I.base.frzs b o xs e), fun b ps e => ?_⟩, ?_, fun x c e => ?_, ?_, fun x c e => ?_, fun p hp => ?_, hok, I.len⟩
  · exact keep b o (neL b o e) hb (neC b o e hx) (I.base.keep b o e n hb hx) (I.base.free b o e n hx)
  · obtain ⟨sl, e1⟩ := I.base.slot b o e n hb hx
    obtain ⟨sl', e2⟩ := slot b _ (neL b o e) hb (neC b o e hx) e1 (I.base.free b o e n hx)
    exact ⟨sl', e2⟩
  · obtain ⟨o', e1⟩ := I.base.there b o e hx
    exact free b o' (neC b o e hx) e1 (I.base.free b o e n hx)
  · obtain ⟨o', e1⟩ := I.base.there b o e hx
    exact there b o' (neC b o e hx) e1
  · obtain ⟨m1, e1⟩ := I.base.tbls b ps e
    obtain ⟨m2, e2⟩ := tbls b _ e1
    exact ⟨m1 ++ m2, by rw [e2, Array.append_assoc]⟩
  · obtain ⟨m, hn, hl⟩ := I.loc
    refine ⟨m, ns m hn, fun i x v e1 e2 e3 => ?_⟩
    obtain ⟨u, r, l⟩ := hl i x v e1 e2 e3
    refine ⟨u, r, ?_⟩
    rcases l with l | ⟨k, c, e, z⟩
    · exact .inl l
    · exact .inr ⟨k, c, e, cellK x c e _ z⟩
  · obtain ⟨v, z⟩ := I.cell x c e
    exact ⟨v, cellK x c e v z⟩
  · obtain ⟨m, ⟨o, _, _, ho, _⟩, _⟩ := I.loc
    exact free _ o (fun z => (hch _ z).2.1 rfl) ho I.free
  · obtain ⟨v, o, ho, hd⟩ := I.cell x c e
    exact free c o (fun z => (hch c z).2.2.1 x c e rfl) ho (I.freeC x c e)
  · obtain ⟨e, n, ne, nf, d⟩ := I.pin p hp
    have nch : p.1 ∉ ch := fun z => (hch p.1 z).2.2.2 p hp rfl
    exact ⟨keep p.1 p.2 ne nf nch e n, free p.1 p.2 nch e n, ne, nf, d⟩
/-- .. where the frame's own object is kept too -/
theorem Inv.un {t' : Nat} (I : Inv X pins σ H s) (u : Un X.fs [] H H' s.heap h') (hok : HOk X.prog X.w H' h') : Inv X pins σ H' { s with heap := h', toks := t' } := by
  obtain ⟨m, ⟨o, es, ep, ho, r⟩, _⟩ := id I.loc
  obtain ⟨sl, hL⟩ := u.any ho I.free (by simp)
  exact I.step (g' := s.gens) (d' := s.drawn) (ch := []) (fun _ z => nomatch z) (fun b o _ hb _ e n => u.keep b o e n hb (by simp)) (fun b o _ hb _ e n => u.slot b o e n hb (by simp)) (fun b o _ e n => u.free b o e n (by simp)) (fun b o _ e => u.there b o e (by simp)) u.tups u.frzs u.tbls (fun m' hm => by
    obtain ⟨o', es', ep', ho', r'⟩ := hm
    rw [ho] at ho'; cases ho'
    exact ⟨_, es', ep', hL, r'⟩) hok I.bare
/-- behind a call (or a comprehension's block): the slots of this frame may have changed too, the records at ch may have turned -/
theorem Inv.call {g' : Array GenState} {t' : Nat} {d' : Drawn} {ch : List Addr} (I : Inv X pins σ H s) (u : Un (frs X.stack) ch H H' s.heap h') (hok : HOk X.prog X.w H' h') (hg : AllBare g')
    (hch : ∀ b ∈ ch, (b ∈ X.ex ∨ X.s₀.heap.objs.size ≤ b) ∧ b ≠ X.env.locals ∧ (∀ x c, X.env.cells.lookup x = some c → c ≠ b) ∧ ∀ p ∈ X.pn ++ pins, p.1 ≠ b) :
    Inv X pins σ H' { s with heap := h', gens := g', drawn := d', toks := t' } := by
  obtain ⟨m, ⟨o, es, ep, ho, r⟩, _⟩ := id I.loc
  obtain ⟨sl, hL⟩ := u.any ho I.free fun z => (hch _ z).2.1 rfl
  exact I.step (ch := ch) hch (fun b o hL hb hc e n => u.keep b o e n (fun z => (List.mem_cons.mp (I.stkSub b z)).elim hL hb) hc) (fun b o _ _ hc e n => u.any e n hc) (fun b o hc e n => u.free b o e n hc) (fun b o hc e => u.there b o e hc) u.tups u.frzs u.tbls (fun m' hm => by
    obtain ⟨o', es', ep', ho', r'⟩ := hm
    rw [ho] at ho'; cases ho'
    exact ⟨_, es', ep', hL, r'⟩) hok hg
/-- an untracked record of ours (an iterator) has turned -/
theorem Inv.turned {t' : Nat} {it : Addr} (I : Inv X pins σ H s) (k : ∀ b o, b ≠ it → s.heap.get? b = some o → h'.get? b = some o) (hn : H it = none) (hL : it ≠ X.env.locals)
    (h1 : it ∈ X.ex ∨ X.s₀.heap.objs.size ≤ it) (h2 : ∀ x c, X.env.cells.lookup x = some c → c ≠ it) (h3 : ∀ p ∈ X.pn ++ pins, p.1 ≠ it) : Inv X pins σ H { s with heap := h', toks := t' } := by
  have nit : ∀ b u, H b = some u → b ≠ it := fun b u e z => by rw [z, hn] at e; cases e
  refine I.step (g' := s.gens) (d' := s.drawn) (ch := [it]) (fun b hb => ?_) (fun b o _ _ hc e _ => k b o (fun z => hc (by simp [z])) e) (fun b o _ _ hc e _ => ⟨o.slots, k b o (fun z => hc (by simp [z])) e⟩) (fun _ _ _ _ n => n)
    (fun b o hc e => ⟨o, k b o (fun z => hc (by simp [z])) e⟩) (fun _ _ e => e) (fun _ _ _ e => e) (fun b ps e => ⟨#[], by rw [e]; simp⟩) (fun m hm => ?_) (fun b u e => ?_) I.bare
  · have e : b = it := by simpa using hb
    subst e
    exact ⟨h1, hL, h2, h3⟩
  · obtain ⟨o, es, ep, ho, r⟩ := hm
    exact ⟨o, es, ep, k _ o (Ne.symm hL) ho, r⟩
  · refine (I.hok b u e).stay (fun c v hc q => k c v ?_ q) (fun _ q => q) fun _ _ q => q
    rcases hc with z | z
    · rw [z]; exact nit b u e
    · exact nit c _ z
theorem Inv.tok (I : Inv X pins σ H s) (t : Nat) : Inv X pins σ H { s with toks := t } := I.un (h' := s.heap) (t' := t) Un.refl I.hok
/-- all objects kept -/
theorem Inv.kept {t' : Nat} (I : Inv X pins σ H s) (k : ∀ b u, s.heap.get? b = some u → h'.get? b = some u) : Inv X pins σ H { s with heap := h', toks := t' } := I.un (Un.kept k) (I.hok.kept k)
/-- a new object laid and tracked -/
theorem Inv.laid {a : Addr} {o : HO} {t' : Nat} (I : Inv X pins σ H s) (k : ∀ b u, s.heap.get? b = some u → h'.get? b = some u) (hp : s.heap.objs.size ≤ a) (new : ObjOk X.prog X.w (upd H a o) h' a o) :
    Inv X pins σ (upd H a o) { s with heap := h', toks := t' } := I.un (Un.laid k hp (I.hok.fresh hp)) (I.hok.laid k hp new)
/-- an object written -/
theorem Inv.write {x e : Addr} {o : HO} {t' : Nat} (I : Inv X pins σ H s) (mu : Mut (H x)) (he : e = x ∨ H e = some (.own x)) (k : ∀ b u, b ≠ e → s.heap.get? b = some u → h'.get? b = some u) (heo : ∃ u, h'.get? e = some u)
    (new : ObjOk X.prog X.w (upd H x o) h' x o) : Inv X pins σ (upd H x o) { s with heap := h', toks := t' } := I.un (Un.write mu he k heo) (I.hok.write mu he k heo new)
/-- forgetting slots, pins -/
theorem Inv.weak {σ' : List (Option V)} (I : Inv X pins σ H s) (hl : σ'.length = σ.length) (w : ∀ (i : Nat) v, σ'[i]? = some (some v) → σ[i]? = some (some v)) : Inv X pins σ' H s :=
  ⟨I.ok, I.os, I.bare, I.base, let ⟨m, hn, hl'⟩ := I.loc; ⟨m, hn, fun i x v e1 e2 e3 => hl' i x v e1 (w i v e2) e3⟩, I.cell, I.free, I.freeC, I.pin, I.hok, hl.trans I.len⟩
theorem Inv.pins_of {pins' : List (Addr × Obj)} (I : Inv X pins σ H s) (h : ∀ p ∈ pins', s.heap.get? p.1 = some p.2 ∧ H p.1 = none ∧ p.1 ≠ X.env.locals ∧ p.1 ∉ X.fs ∧ ∀ v, p.2.data ≠ .cell v) : Inv X pins' σ H s :=
  ⟨I.ok, I.os, I.bare, I.base, I.loc, I.cell, I.free, I.freeC, fun p hp => (List.mem_append.mp hp).elim (fun z => I.pin p (List.mem_append_left _ z)) (h p), I.hok, I.len⟩

theorem nodup_ix {N : List Str} (hN : N.Nodup) {i j : Nat} {x : Str} (a : N[i]? = some x) (b : N[j]? = some x) : i = j := by
  obtain ⟨h1, e1⟩ := List.getElem?_eq_some_iff.mp a
  obtain ⟨h2, e2⟩ := List.getElem?_eq_some_iff.mp b
  exact (List.getElem_inj hN).mp (e1.trans e2.symm)

/-- a name is stored; what changed -/
theorem store_ok2 {M : Model} {A : Around} {E : Value → Shared → Prop} {i : Nat} {x : Str} {v : V} {u : Value} {Q : Unit → Shared → Prop} (I : Inv X pins σ H s) (hN : X.N.Nodup) (hi : X.N[i]? = some x) (hx : Loc X.env.scope x) (r : RelV v u)
    (h : ∀ s', Inv X pins (σ.set i (some v)) H s' → (∃ a, Heap.SameBut a s.heap s'.heap ∧ (a = X.env.locals ∨ X.env.cells.lookup x = some a)) → Q () s') (hf : X.fn x = true ∨ X.env.scope.names.lookup x = some .local := by first | exact .inl rfl | exact .inr rfl | assumption) : wpAny M A (storeName X.env x u) Q E s := by
  obtain ⟨m, hn, hl⟩ := id I.loc
  have hcls : (X.env.scope.kind == .class || (X.env.scope.kind == .module && X.env.locals != X.env.globals)) = false := by rw [I.ok.kind]; rfl
  have hiσ : i < σ.length := by rw [I.len]; exact (List.getElem?_eq_some_iff.mp hi).1
  have cne := I.cne
  have tracked : ∀ {a : Addr} {h' : Heap}, (∃ o, s.heap.get? a = some o ∧ H a = none) → Heap.SameBut a s.heap h' → HOk X.prog X.w H h' := fun {a h'} ha hs b ob e => by
    obtain ⟨_, _, hfree⟩ := ha
    refine (I.hok b ob e).stay (fun c w' hc q => (hs.2 c ?_).trans q) (fun _ q => q) fun _ _ q => q
    rintro rfl
    rcases hc with rfl | hc
    · rw [hfree] at e; cases e
    · rw [hfree] at hc; cases hc
  rcases hx with hk | hk
  · refine wpAny_storeName_local hk hn (fun h' hn' hs => ?_) hcls
    obtain ⟨oL, _, _, hoL, _⟩ := id hn
    refine h _ ⟨I.ok, I.os, I.bare, ⟨fun b o e n hb hx => ?_, fun b o e n hb hx => ?_, I.base.free, fun b o e hx => ?_, I.base.tups, I.base.frzs, I.base.tbls⟩, ⟨_, hn', fun j y v' e1 e2 e3 => ?_⟩, fun y c e => ?_, I.free, I.freeC, fun p hp => ?_, tracked ⟨oL, hoL, I.free⟩ hs, by simpa using I.len⟩ ⟨_, hs, .inl rfl⟩
    · exact (hs.2 b (Nat.ne_of_lt (Nat.lt_of_lt_of_le (Heap.lt_size e) I.ok.above))).trans (I.base.keep b o e n hb hx)
    · obtain ⟨sl, e1⟩ := I.base.slot b o e n hb hx
      exact ⟨sl, (hs.2 b (Nat.ne_of_lt (Nat.lt_of_lt_of_le (Heap.lt_size e) I.ok.above))).trans e1⟩
    · obtain ⟨o', e1⟩ := I.base.there b o e hx
      exact ⟨o', (hs.2 b (Nat.ne_of_lt (Nat.lt_of_lt_of_le (Heap.lt_size e) I.ok.above))).trans e1⟩
    · by_cases hj : j = i
      · subst hj
        rw [hi] at e1; cases e1
        rw [List.getElem?_set_self hiσ] at e2
        cases e2
        exact ⟨u, r, .inl ⟨hk, by simp⟩⟩
      · rw [List.getElem?_set_ne (Ne.symm hj)] at e2
        obtain ⟨u', r', q⟩ := hl j y v' e1 e2 e3
        refine ⟨u', r', ?_⟩
        rcases q with ⟨k, e⟩ | ⟨k, c, e, z⟩
        · refine .inl ⟨k, ?_⟩
          have : y ≠ x := fun e => hj (nodup_ix hN e1 (e ▸ hi))
          simp [this, e]
        · exact .inr ⟨k, c, e, z.sameBut hs (cne y c e)⟩
    · obtain ⟨w', z⟩ := I.cell y c e
      exact ⟨w', z.sameBut hs (cne y c e)⟩
    · obtain ⟨e, n, ne, nf, d⟩ := I.pin p hp
      exact ⟨(hs.2 p.1 ne).trans e, n, ne, nf, d⟩
  · have hfn : X.fn x = true := by
      rcases hf with z | z
      · exact z
      · rw [z] at hk; cases hk
    obtain ⟨c, hc⟩ := I.ok.has x (.inl hk)
    obtain ⟨w', z⟩ := I.cell x c hc
    refine wpAny_storeName_cell I.ok.kind hk hc z (fun h' hc' hs => ?_)
    obtain ⟨oc, hoc, hocd⟩ := id z
    refine h { s with heap := h' } ⟨I.ok, I.os, I.bare, ⟨fun b o e n hb hx => ?_, fun b o e n hb hx => ?_, I.base.free, fun b o e hx => ?_, I.base.tups, I.base.frzs, I.base.tbls⟩, ⟨m, hn.sameBut hs (Ne.symm (cne x c hc)), fun j y v' e1 e2 e3 => ?_⟩, fun y c' e => ?_, I.free, I.freeC, fun p hp => ?_, tracked ⟨oc, hoc, I.freeC x c hc⟩ hs, by simpa using I.len⟩ ⟨c, hs, .inr hc⟩
    · exact (hs.2 b (Nat.ne_of_lt (Nat.lt_of_lt_of_le (Heap.lt_size e) (I.ok.cab x c hfn hc)))).trans (I.base.keep b o e n hb hx)
    · obtain ⟨sl, e1⟩ := I.base.slot b o e n hb hx
      exact ⟨sl, (hs.2 b (Nat.ne_of_lt (Nat.lt_of_lt_of_le (Heap.lt_size e) (I.ok.cab x c hfn hc)))).trans e1⟩
    · obtain ⟨o', e1⟩ := I.base.there b o e hx
      exact ⟨o', (hs.2 b (Nat.ne_of_lt (Nat.lt_of_lt_of_le (Heap.lt_size e) (I.ok.cab x c hfn hc)))).trans e1⟩
    · by_cases hj : j = i
      · subst hj
        rw [hi] at e1; cases e1
        rw [List.getElem?_set_self hiσ] at e2
        cases e2
        exact ⟨u, r, .inr ⟨.inl hk, c, hc, hc'⟩⟩
      · rw [List.getElem?_set_ne (Ne.symm hj)] at e2
        obtain ⟨u', r', q⟩ := hl j y v' e1 e2 e3
        refine ⟨u', r', ?_⟩
        rcases q with q | ⟨k, c', e, z'⟩
        · exact .inl q
        · refine .inr ⟨k, c', e, z'.sameBut hs ?_⟩
          rintro rfl
          exact hj (nodup_ix hN e1 (I.ok.inj _ _ _ e hc ▸ hi))
    · by_cases hcc : c' = c
      · subst hcc; exact ⟨_, hc'⟩
      · obtain ⟨w2, z2⟩ := I.cell y c' e
        exact ⟨w2, z2.sameBut hs hcc⟩
    · obtain ⟨e, n, ne, nf, d⟩ := I.pin p hp
      refine ⟨(hs.2 p.1 ?_).trans e, n, ne, nf, d⟩
      intro q
      rw [q, hoc] at e
      have q' : oc = p.2 := Option.some.inj e
      exact d w' (by rw [← q']; exact hocd)
theorem store_ok {M : Model} {A : Around} {E : Value → Shared → Prop} {i : Nat} {x : Str} {v : V} {u : Value} {Q : Unit → Shared → Prop} (I : Inv X pins σ H s) (hN : X.N.Nodup) (hi : X.N[i]? = some x) (hx : Loc X.env.scope x) (r : RelV v u)
    (h : ∀ s', Inv X pins (σ.set i (some v)) H s' → Q () s') (hf : X.fn x = true ∨ X.env.scope.names.lookup x = some .local := by first | exact .inl rfl | exact .inr rfl | assumption) : wpAny M A (storeName X.env x u) Q E s :=
  store_ok2 I hN hi hx r (fun s' I' _ => h s' I') hf
/-- behind a call or a block, the state as it is -/
theorem Inv.call' {s' : Shared} {ch : List Addr} (I : Inv X pins σ H s) (ho : s'.os = s.os) (u : Un (frs X.stack) ch H H' s.heap s'.heap) (hok : HOk X.prog X.w H' s'.heap) (hg : AllBare s'.gens)
    (hch : ∀ b ∈ ch, (b ∈ X.ex ∨ X.s₀.heap.objs.size ≤ b) ∧ b ≠ X.env.locals ∧ (∀ x c, X.env.cells.lookup x = some c → c ≠ b) ∧ ∀ p ∈ X.pn ++ pins, p.1 ≠ b) : Inv X pins σ H' s' := by
  obtain ⟨h', g', d', t', o'⟩ := s'
  have e : o' = s.os := ho
  subst e
  exact I.call (g' := g') (t' := t') (d' := d') u hok hg hch
end

/-! ### the judgements -/
/-- an exception: its class, its own dict's address (where it has one), the abstract heap behind it -/
abbrev XK := Value → Option Addr → Hp → Prop
abbrev St := List (Option V)
abbrev VK := V → Hp → Prop
/-- an expression's reading; a test's; an argument list's -/
abbrev TE := St → Hp → VK → Prop
abbrev TT := St → Hp → (Bool → Hp → Prop) → Prop
abbrev TA := St → Hp → (List V → Hp → Prop) → Prop
/-- what is wanted behind a statement -/
structure Ends where
  nx : St → Hp → Prop
  rt : VK
  bk : St → Hp → Prop := fun _ _ => False
  ct : St → Hp → Prop := fun _ _ => False
abbrev TS := Ends → St → Hp → Prop

def EP (X : Cx) (pins : List (Addr × Obj)) (σ : St) (Q : VK) (u : Value) (s' : Shared) : Prop := ∃ v H', Inv X pins σ H' s' ∧ RelV v u ∧ Q v H'
def TP (X : Cx) (pins : List (Addr × Obj)) (σ : St) (Q : Bool → Hp → Prop) (b : Bool) (s' : Shared) : Prop := ∃ H', Inv X pins σ H' s' ∧ Q b H'
def AP (X : Cx) (pins : List (Addr × Obj)) (σ : St) (Q : List V → Hp → Prop) (us : List Value) (s' : Shared) : Prop := ∃ vs H', Inv X pins σ H' s' ∧ Vals vs us ∧ Q vs H'
def SP (X : Cx) (pins : List (Addr × Obj)) (D : Ends) (f : Flow) (s' : Shared) : Prop :=
  match f with
  | .next => ∃ σ' H', Inv X pins σ' H' s' ∧ D.nx σ' H'
  | .brk => ∃ σ' H', Inv X pins σ' H' s' ∧ D.bk σ' H'
  | .cont => ∃ σ' H', Inv X pins σ' H' s' ∧ D.ct σ' H'
  | .ret u => ∃ v σ' H', Inv X pins σ' H' s' ∧ RelV v u ∧ D.rt v H'

def PE (X : Cx) (e : Expr) (t : TE) : Prop :=
  ∀ (pins : List (Addr × Obj)) (s : Shared) (σ : St) (H : Hp) (Q : VK), Inv X pins σ H s → t σ H Q → wpAny (model X.prog X.w) X.A (eval e X.env) (EP X pins σ Q) X.xe s
def PT (X : Cx) (e : Expr) (t : TT) : Prop :=
  ∀ (pins : List (Addr × Obj)) (s : Shared) (σ : St) (H : Hp) (Q : Bool → Hp → Prop), Inv X pins σ H s → t σ H Q → wpAny (model X.prog X.w) X.A (isTrue e X.env (eval e X.env)) (TP X pins σ Q) X.xe s
/-- a test whatever its 'whole' is (and, or) -/
def PW (X : Cx) (e : Expr) (t : TT) : Prop :=
  ∀ (whole : Sem Value) (pins : List (Addr × Obj)) (s : Shared) (σ : St) (H : Hp) (Q : Bool → Hp → Prop), Inv X pins σ H s → t σ H Q → wpAny (model X.prog X.w) X.A (isTrue e X.env whole) (TP X pins σ Q) X.xe s
theorem PW.pt {X : Cx} {e : Expr} {t : TT} (h : PW X e t) : PT X e t := h _
/-- an argument list (no star), from the left -/
def PA (X : Cx) (es : List Expr) (t : TA) : Prop :=
  ∀ (pos : Pos) (pins : List (Addr × Obj)) (s : Shared) (σ : St) (H : Hp) (Q : List V → Hp → Prop), Inv X pins σ H s → t σ H Q → wpAny (model X.prog X.w) X.A (spliced (backTo pos (starEach es X.env))) (AP X pins σ Q) X.xe s
def PS (X : Cx) (st : Stmt) (t : TS) : Prop :=
  ∀ (pins : List (Addr × Obj)) (s : Shared) (σ : St) (H : Hp) (D : Ends), Inv X pins σ H s → t D σ H → wpAny (model X.prog X.w) X.A (exec st X.env) (SP X pins D) X.xe s
def PSs (X : Cx) (st : List Stmt) (t : TS) : Prop :=
  ∀ (pins : List (Addr × Obj)) (s : Shared) (σ : St) (H : Hp) (D : Ends), Inv X pins σ H s → t D σ H → wpAny (model X.prog X.w) X.A (execs st X.env) (SP X pins D) X.xe s
/-- weaken the end -/
theorem thn {α : Type} {t : Sem α} {Q Q' : α → Shared → Prop} {M : Model} {A : Around} {E : Value → Shared → Prop} {s : Shared} (h : wpAny M A t Q E s) (hQ : ∀ a s, Q a s → Q' a s) : wpAny M A t Q' E s := wpAny_mono h hQ fun _ _ x => x
end L2

namespace L2
open PySem PySem.Spec PyProof.Rows
section
variable {X : Cx}

/-- two expressions in a row -/
theorem bin {a b : Expr} {ta tb : TE} (ha : PE X a ta) (hb : PE X b tb) {pins : List (Addr × Obj)} {s : Shared} {σ : St} {H : Hp} {R : V → V → Hp → Prop} (I : Inv X pins σ H s) (h : ta σ H fun x H1 => tb σ H1 fun y H2 => R x y H2)
    {α : Type} {Q : α → Shared → Prop} {f : Value → Value → Sem α}
    (hf : ∀ v u s2 x y H2, Inv X pins σ H2 s2 → RelV x v → RelV y u → R x y H2 → wpAny (model X.prog X.w) X.A (f v u) Q X.xe s2) :
    wpAny (model X.prog X.w) X.A (eval a X.env) (fun v s₁ => wpAny (model X.prog X.w) X.A (eval b X.env) (fun u s₂ => wpAny (model X.prog X.w) X.A (f v u) Q X.xe s₂) X.xe s₁) X.xe s := by
  refine thn (ha pins s σ H _ I h) fun v s1 ⟨x, H1, I1, r1, q1⟩ => ?_
  refine thn (hb pins s1 σ H1 _ I1 q1) fun u s2 ⟨y, H2, I2, r2, q2⟩ => ?_
  exact hf v u s2 x y H2 I2 r1 r2 q2

/-! ### names and constants -/
def tVar (i : Nat) : TE := fun σ H Q => ∃ v, σ[i]? = some (some v) ∧ Q v H
def tC (v : V) : TE := fun _ H Q => Q v H
theorem pe_var {i : Nat} {x : Str} {pos : Pos} (hN : X.N[i]? = some x) (hv : Vis X.env.scope x) (hd : (x == ("__debug__" : Str)) = false := by decide) (hcd : (x == ("__classdict__" : Str)) = false := by decide) : PE X (.Name x pos) (tVar i) := by
  intro pins s σ H Q I h
  obtain ⟨v, e, h⟩ := h
  obtain ⟨m, hn, hl⟩ := I.loc
  obtain ⟨u, r, l⟩ := hl i x v hN e hv
  have fin : EP X pins σ Q u s := ⟨v, H, I, r, h⟩
  rcases l with ⟨hk, hm⟩ | ⟨hk, c, hc, hcell⟩
  · exact wpAny_Name (wpAny_loadName_local I.ok.kind hk hn hm fin) hd
  · rcases hk with hk | hk
    · exact wpAny_Name (wpAny_loadName_cell I.ok.kind hk hc hcell fin) hd
    · exact wpAny_Name (wpAny_loadName_free I.ok.kind hk hc hcell fin hcd) hd
theorem pe_int {i j pos} : PE X (.Constant (.int i) j pos) (tC (.int i)) := fun _ _ _ H _ I h => wpAny_Constant_int ⟨.int i, H, I.tok _, ⟨_, rfl⟩, h⟩
theorem pe_bl {b j pos} : PE X (.Constant (.bool b) j pos) (tC (.bl b)) := fun _ _ _ H _ I h => Constant_bool ⟨.bl b, H, I, rfl, h⟩
theorem pe_non {j pos} : PE X (.Constant .none j pos) (tC .non) := fun _ _ _ H _ I h => Constant_none ⟨.non, H, I, rfl, h⟩
theorem pe_str {x j pos} : PE X (.Constant (.str x) j pos) (tC (.str x)) := fun _ _ _ H _ I h => Calls.Constant_str ⟨.str x, H, I.tok _, ⟨_, rfl⟩, h⟩

/-- a global name of the def -/
def Gl (X : Cx) (x : Str) : Prop := X.env.kindOf x = some .globalImplicit
theorem ld_glob {E : Value → Shared → Prop} {pins : List (Addr × Obj)} {s : Shared} {σ : St} {H : Hp} {x : Str} {u : Value} {pos : Pos} {Q : Value → Shared → Prop} (I : Inv X pins σ H s) (hg : Gl X x) (hm : X.mg x = some u) (h : Q u s)
    (hd : (x == ("__debug__" : Str)) = false := by decide) : wpAny (model X.prog X.w) X.A (eval (.Name x pos) X.env) Q E s :=
  Calls.Name_function_global I.ok.kind hg (Calls.loadGlobal_global (by rw [I.ok.glob]; exact I.mod.glob.keeps I.bk) hm h) hd
theorem ld_blt {E : Value → Shared → Prop} {pins : List (Addr × Obj)} {s : Shared} {σ : St} {H : Hp} {x : Str} {u : Value} {pos : Pos} {Q : Value → Shared → Prop} (I : Inv X pins σ H s) (hg : Gl X x) (hm : X.mg x = none) (hv : bootBuiltins x = some u) (h : Q u s)
    (hn : x ≠ "__name__" := by decide) (hd : (x == ("__debug__" : Str)) = false := by decide) : wpAny (model X.prog X.w) X.A (eval (.Name x pos) X.env) Q E s := by
  obtain ⟨mb, h1, h2⟩ := I.mod.blt
  exact Calls.Name_function_global I.ok.kind hg (Calls.loadGlobal_builtin (by rw [I.ok.glob]; exact I.mod.glob.keeps I.bk) hm (by rw [I.ok.blt]; exact h1.keeps I.bk) ((h2 x hn).trans hv) h) hd
/-- a module's constant, a class, a function, as a value -/
theorem pe_glob {x : Str} {v : V} {u : Value} {pos : Pos} (hg : Gl X x) (hm : X.mg x = some u) (r : RelV v u) (hd : (x == ("__debug__" : Str)) = false := by decide) : PE X (.Name x pos) (tC v) :=
  fun _ _ _ H _ I h => ld_glob I hg hm ⟨v, H, I, r, h⟩ hd
theorem pe_bltn {x : Str} {v : V} {u : Value} {pos : Pos} (hg : Gl X x) (hm : X.mg x = none) (hv : bootBuiltins x = some u) (r : RelV v u) (hn : x ≠ "__name__" := by decide) (hd : (x == ("__debug__" : Str)) = false := by decide) : PE X (.Name x pos) (tC v) :=
  fun _ _ _ H _ I h => ld_blt I hg hm hv ⟨v, H, I, r, h⟩ hn hd

/-! ### arithmetic -/
variable {a b : Expr} {ta tb : TE} {pos : Pos}
/-! ### comparisons -/
def PC (X : Cx) (op : CmpOp) (a b : Expr) (t : TE) : Prop :=
  ∀ (pins : List (Addr × Obj)) (s : Shared) (σ : St) (H : Hp) (Q : VK), Inv X pins σ H s → t σ H Q →
    wpAny (model X.prog X.w) X.A (eval a X.env) (fun v s₁ => wpAny (model X.prog X.w) X.A (eval b X.env) (fun u s₂ => wpAny (model X.prog X.w) X.A (compareOp op v u) (EP X pins σ Q) X.xe s₂) X.xe s₁) X.xe s
theorem nobehind (b : Expr) {op : CmpOp} (h : op ≠ .In) (h2 : op ≠ .NotIn) : behindInMarks op b = false := by
  have e1 : (op == CmpOp.In) = false := by cases op <;> first | rfl | exact absurd rfl h
  have e2 : (op == CmpOp.NotIn) = false := by cases op <;> first | rfl | exact absurd rfl h2
  cases b <;> simp [behindInMarks, e1, e2]
/-- a comparison as a value, as a test -/
def tB (t : TE) : TT := fun σ H Q => t σ H fun x H1 => ∃ c, x = .bl c ∧ Q c H1
theorem pt_cmp {op : CmpOp} {t : TE} (h : PC X op a b t) (h1 : behindInMarks op b = false := by first | exact nobehind _ (by decide) (by decide) | rfl) : PT X (.Compare a [op] [b] pos) (tB t) := by
  intro pins s σ H Q I hw
  refine wpAny_isTrue_Compare1 (thn (h pins s σ H _ I hw) fun v s1 h1 => thn h1 fun u s2 h2 => thn h2 fun c s3 ⟨x, H1, I1, r1, q1⟩ => ?_) h1
  obtain ⟨d, rfl, q⟩ := q1
  cases r1
  exact wpAny_truthy_bool ⟨H1, I1, q⟩
/-- an expression whose value is a bool, as a test -/
theorem pt_val {e : Expr} {t : TE} (h : PE X e t) (he : ∀ whole, isTrue e X.env whole = (do let v ← whole; standAt e.pos; holding [v] (truthy v)) := by intro _; rfl) : PT X e (tB t) := by
  intro pins s σ H Q I hw
  refine isTrue_plain (thn (h pins s σ H _ I hw) fun v s1 ⟨x, H1, I1, r1, q1⟩ => ?_) (he _)
  obtain ⟨d, rfl, q⟩ := q1
  cases r1
  exact wpAny_truthy_bool ⟨H1, I1, q⟩

/-! ### and, or, not -/
variable {tA tB' : TT} {rest : List Expr}
def tAnd (t u : TT) : TT := fun σ H Q => t σ H fun c H1 => if c = true then u σ H1 Q else Q false H1
def tOr (t u : TT) : TT := fun σ H Q => t σ H fun c H1 => if c = true then Q true H1 else u σ H1 Q
def tNot (t : TT) : TT := fun σ H Q => t σ H fun c H1 => Q (!c) H1
theorem pw_and1 (ha : PT X a tA) : PW X (.BoolOp .And [a] pos) tA := by
  intro wh pins s σ H Q I h
  refine isTrue_and (thn (ha pins s σ H Q I h) fun c s1 e => ?_)
  cases c with
  | true => exact isTrue_and_nil e
  | false => exact e
theorem pw_or1 (ha : PT X a tA) : PW X (.BoolOp .Or [a] pos) tA := by
  intro wh pins s σ H Q I h
  refine isTrue_or (thn (ha pins s σ H Q I h) fun c s1 e => ?_)
  cases c with
  | false => exact isTrue_or_nil e
  | true => exact e
theorem pw_and (ha : PT X a tA) (hb : PW X (.BoolOp .And (b :: rest) pos) tB') : PW X (.BoolOp .And (a :: b :: rest) pos) (tAnd tA tB') := by
  intro wh pins s σ H Q I h
  refine isTrue_and (thn (ha pins s σ H _ I h) fun c s1 ⟨H1, I1, q1⟩ => ?_)
  cases c with
  | true => exact hb wh pins s1 σ H1 Q I1 q1
  | false => exact ⟨H1, I1, q1⟩
theorem pw_or (ha : PT X a tA) (hb : PW X (.BoolOp .Or (b :: rest) pos) tB') : PW X (.BoolOp .Or (a :: b :: rest) pos) (tOr tA tB') := by
  intro wh pins s σ H Q I h
  refine isTrue_or (thn (ha pins s σ H _ I h) fun c s1 ⟨H1, I1, q1⟩ => ?_)
  cases c with
  | true => exact ⟨H1, I1, q1⟩
  | false => exact hb wh pins s1 σ H1 Q I1 q1
theorem pt_not (ha : PT X a tA) : PT X (.UnaryOp .Not a pos) (tNot tA) := by
  intro pins s σ H Q I h
  exact isTrue_not (ha pins s σ H (fun c H1 => Q (!c) H1) I h)
/-- .. as values (bools) -/
def tAndV (ta tb : TE) : TE := fun σ H Q => ta σ H fun x H1 => ∃ c, x = .bl c ∧ if c = true then tb σ H1 Q else Q (.bl false) H1
def tOrV (ta tb : TE) : TE := fun σ H Q => ta σ H fun x H1 => ∃ c, x = .bl c ∧ if c = true then Q (.bl true) H1 else tb σ H1 Q
def tNotV (ta : TE) : TE := fun σ H Q => ta σ H fun x H1 => ∃ c, x = .bl c ∧ Q (.bl (!c)) H1
theorem pe_one {op} {t : TE} (h : PE X a t) : PE X (.BoolOp op [a] pos) t := fun pins s σ H Q I hw => BoolOp_one (h pins s σ H Q I hw)
theorem pe_and (ha : PE X a ta) (hb : PE X (.BoolOp .And (b :: rest) pos) tb) : PE X (.BoolOp .And (a :: b :: rest) pos) (tAndV ta tb) := by
  intro pins s σ H Q I h
  refine BoolOp_and (thn (ha pins s σ H _ I h) fun v s1 ⟨x, H1, I1, r1, q1⟩ => ?_)
  obtain ⟨c, rfl, q1⟩ := q1
  cases r1
  refine wpAny_truthy_bool ?_
  cases c with
  | true => exact hb pins s1 σ H1 Q I1 q1
  | false => exact ⟨.bl false, H1, I1, rfl, q1⟩
theorem pe_or (ha : PE X a ta) (hb : PE X (.BoolOp .Or (b :: rest) pos) tb) : PE X (.BoolOp .Or (a :: b :: rest) pos) (tOrV ta tb) := by
  intro pins s σ H Q I h
  refine BoolOp_or (thn (ha pins s σ H _ I h) fun v s1 ⟨x, H1, I1, r1, q1⟩ => ?_)
  obtain ⟨c, rfl, q1⟩ := q1
  cases r1
  refine wpAny_truthy_bool ?_
  cases c with
  | false => exact hb pins s1 σ H1 Q I1 q1
  | true => exact ⟨.bl true, H1, I1, rfl, q1⟩
theorem pe_not (ha : PE X a ta) : PE X (.UnaryOp .Not a pos) (tNotV ta) := by
  intro pins s σ H Q I h
  refine UnaryOp_ (thn (ha pins s σ H _ I h) fun v s1 ⟨x, H1, I1, r1, q1⟩ => ?_)
  obtain ⟨c, rfl, q1⟩ := q1
  cases r1
  exact not_of (wpAny_truthy_bool ⟨.bl (!c), H1, I1, rfl, q1⟩)
end
end L2

namespace L2
open PySem PySem.Spec PyProof.Rows

/-! ### a list, a tuple that is read: tracked, frozen, or an object of the module -/
def SqL (K : PySem.W.Frag) (H : Hp) (a : Addr) (xs : List V) : Prop :=
  Rd H a (.lst xs) ∨
    ∃ (o : Obj) (its : Array Value) (n : Nat), K.lookup a = some o ∧ o.cls = .type "list" ∧ o.dict = none ∧ o.data = .seq its n ∧ its.size ≤ sizeLine ∧ Vals xs its.toList
def SqT (K : PySem.W.Frag) (H : Hp) (a : Addr) (xs : List V) : Prop :=
  Rd H a (.tup xs) ∨
    ∃ (o : Obj) (its : Array Value) (n : Nat), K.lookup a = some o ∧ o.cls = .type "tuple" ∧ o.data = .seq its n ∧ its.size ≤ sizeLine ∧ Vals xs its.toList
def absV : Value → Option V
  | .none => some .non
  | .bool b => some (.bl b)
  | .int i _ => some (.int i)
  | .str x _ => some (.str x)
  | .bytes b _ => some (.byt b)
  | .float b _ => some (.flt b)
  | .ref a => some (.ref a)
  | .type n => some (.ty n)
  | _ => none
theorem RelV.abs {x : V} {u : Value} (r : RelV x u) : absV u = some x := by
  cases x with
  | non => cases r; rfl
  | bl _ => cases r; rfl
  | int _ => obtain ⟨t, rfl⟩ := r; rfl
  | str _ => obtain ⟨t, rfl⟩ := r; rfl
  | byt _ => obtain ⟨t, rfl⟩ := r; rfl
  | flt _ => obtain ⟨t, rfl⟩ := r; rfl
  | ref _ => cases r; rfl
  | ty _ => cases r; rfl
theorem RelV.inj {x y : V} {u : Value} (r : RelV x u) (q : RelV y u) : x = y := Option.some.inj (r.abs.symm.trans q.abs)
theorem Vals.inj : ∀ {xs ys : List V} {us : List Value}, Vals xs us → Vals ys us → xs = ys
  | _, _, _, .nil, .nil => rfl
  | _, _, _, .cons r t, .cons r' t' => by rw [r.inj r', Vals.inj t t']
section
variable {X : Cx} {pins : List (Addr × Obj)} {σ : St} {H : Hp} {s : Shared} {a : Addr} {xs ys : List V}
theorem SqL.of {K : PySem.W.Frag} (h : H a = some (.lst xs)) : SqL K H a xs := .inl (.inl h)
theorem SqT.of {K : PySem.W.Frag} (h : H a = some (.tup xs)) : SqT K H a xs := .inl (.inl h)
theorem Inv.list (I : Inv X pins σ H s) (h : SqL X.K H a xs) : ∃ its : List Value, Vals xs its ∧ PlainL s.heap a its.toArray ∧ xs.length ≤ sizeLine := by
  rcases h with h | ⟨o, its, n, hk, hc, hd, hs, hz, r⟩
  · obtain ⟨z, its, n, r, e⟩ := h.ok I.hok
    exact ⟨its, r, ⟨_, n, e, rfl, rfl, rfl⟩, z⟩
  · refine ⟨its.toList, r, ⟨o, n, I.kIn a o hk, hc, hd, by simpa using hs⟩, ?_⟩
    have e := r.length
    simp only [Array.length_toList] at e
    omega
theorem Inv.tuple (I : Inv X pins σ H s) (h : SqT X.K H a xs) : ∃ its : List Value, Vals xs its ∧ IsTup s.heap a its.toArray ∧ xs.length ≤ sizeLine := by
  rcases h with h | ⟨o, its, n, hk, hc, hs, hz, r⟩
  · obtain ⟨z, its, r, p⟩ := h.ok I.hok
    exact ⟨its, r, p, z⟩
  · refine ⟨its.toList, r, ⟨o, I.kIn a o hk, hc, n, by simpa using hs⟩, ?_⟩
    have e := r.length
    simp only [Array.length_toList] at e
    omega
theorem Inv.list_inj (I : Inv X pins σ H s) (h : SqL X.K H a xs) (h' : SqL X.K H a ys) : xs = ys := by
  obtain ⟨its, r, ⟨o, n, e, _, _, d⟩, _⟩ := I.list h
  obtain ⟨its', r', ⟨o', n', e', _, _, d'⟩, _⟩ := I.list h'
  rw [e] at e'; cases e'
  rw [d] at d'
  injection d' with d1 _
  have : its = its' := by simpa using congrArg Array.toList d1
  subst this
  exact r.inj r'
end

/-! ### another wish about exceptions -/
abbrev Cx.wish (X : Cx) (E : Value → Shared → Prop) : Cx := { X with xe := E }
/-- no exception leaves -/
abbrev Cx.nox (X : Cx) : Cx := X.wish fun _ _ => False
theorem Cx.Ok.wish {X : Cx} (ok : X.Ok) (E : Value → Shared → Prop) : (X.wish E).Ok :=
  ⟨ok.mod, ok.kind, ok.glob, ok.blt, ok.above, ok.inj, ok.has, ok.cab, ok.hd, ok.frames, ok.stk, ok.exf, ok.bs, ok.bsz, ok.noex, ok.exfs, ok.funs, ok.frf⟩
theorem Cx.Ok.unwish {X : Cx} {E : Value → Shared → Prop} (ok : (X.wish E).Ok) : X.Ok :=
  ⟨ok.mod, ok.kind, ok.glob, ok.blt, ok.above, ok.inj, ok.has, ok.cab, ok.hd, ok.frames, ok.stk, ok.exf, ok.bs, ok.bsz, ok.noex, ok.exfs, ok.funs, ok.frf⟩
section
variable {X : Cx} {pins : List (Addr × Obj)} {σ : St} {H : Hp} {s : Shared} {E : Value → Shared → Prop}
theorem Inv.wish (I : Inv X pins σ H s) (E : Value → Shared → Prop) : Inv (X.wish E) pins σ H s := ⟨I.ok.wish E, I.os, I.bare, I.base, I.loc, I.cell, I.free, I.freeC, I.pin, I.hok, I.len⟩
theorem Inv.unwish (I : Inv (X.wish E) pins σ H s) : Inv X pins σ H s := ⟨I.ok.unwish, I.os, I.bare, I.base, I.loc, I.cell, I.free, I.freeC, I.pin, I.hok, I.len⟩
theorem SP.unwish {D : Ends} {f : Flow} {s' : Shared} (h : SP (X.wish E) pins D f s') : SP X pins D f s' := by
  cases f with
  | next => obtain ⟨σ', H', I, q⟩ := h; exact ⟨σ', H', I.unwish, q⟩
  | brk => obtain ⟨σ', H', I, q⟩ := h; exact ⟨σ', H', I.unwish, q⟩
  | cont => obtain ⟨σ', H', I, q⟩ := h; exact ⟨σ', H', I.unwish, q⟩
  | ret u => obtain ⟨v, σ', H', I, r, q⟩ := h; exact ⟨v, σ', H', I.unwish, r, q⟩
theorem PSs.nox {st : List Stmt} {t : TS} (h : PSs X.nox st t) : PSs X st t := fun pins s σ H D I hw =>
  wpAny_mono (h pins s σ H D (I.wish _) hw) (fun _ _ q => q.unwish) fun _ _ z => False.elim z
end

/-! ### blocks and small statements -/
section
variable {X : Cx} {st : Stmt} {rest : List Stmt} {t u : TS} {e : Expr} {te : TE} {pos : Pos}
def tNext : TS := fun D σ H => D.nx σ H
def tSeq (t u : TS) : TS := fun D σ H => t { D with nx := u D } σ H
theorem pss_nil : PSs X [] tNext := fun _ _ σ H _ I h => wpAny_execs_nil ⟨σ, H, I, h⟩
theorem pss_cons (h1 : PS X st t) (h2 : PSs X rest u) : PSs X (st :: rest) (tSeq t u) := by
  intro pins s σ H D I h
  refine wpAny_execs_cons (thn (h1 pins s σ H { D with nx := u D } I h) fun f s1 q => ?_)
  cases f with
  | next =>
    obtain ⟨σ', H', I', q⟩ := q
    exact h2 pins s1 σ' H' D I' q
  | ret v => exact q
  | brk => exact q
  | cont => exact q
theorem pss_one (h1 : PS X st t) : PSs X [st] t := by
  intro pins s σ H D I h
  refine wpAny_execs_cons (thn (h1 pins s σ H D I h) fun f s1 q => ?_)
  cases f with
  | next => exact wpAny_execs_nil q
  | ret v => exact q
  | brk => exact q
  | cont => exact q
/-- in a def's body nothing is shown -/
theorem Inv.quiet {pins : List (Addr × Obj)} {σ : St} {H : Hp} {s : Shared} (I : Inv X pins σ H s) : interactive X.env = false := by simp [interactive, I.ok.kind]
/-- an expression whose value is dropped -/
def tDrop (te : TE) : TS := fun D σ H => te σ H fun _ H1 => D.nx σ H1
theorem ps_expr (he : PE X e te) (hs : swapsWith e none pos.line X.env = pure false := by rfl) : PS X (.Expr e pos) (tDrop te) := by
  intro pins s σ H D I h
  exact wpAny_Expr_any (thn (he pins s σ H _ I h) fun v s1 ⟨x, H1, I1, r1, q1⟩ => ⟨σ, H1, I1, q1⟩) I.quiet hs
def tRet (te : TE) : TS := fun D σ H => te σ H D.rt
theorem ps_ret (he : PE X e te) : PS X (.Return (some e) pos) (tRet te) := by
  intro pins s σ H D I h
  exact wpAny_Return_some (thn (he pins s σ H _ I h) fun v s1 ⟨x, H1, I1, r1, q1⟩ => ⟨x, σ, H1, I1, r1, q1⟩)
def tIfS (c : TT) (t u : TS) : TS := fun D σ H => c σ H fun b H1 => if b = true then t D σ H1 else u D σ H1
theorem ps_if {c : Expr} {a b : List Stmt} {tc : TT} (hc : PT X c tc) (ha : PSs X a t) (hb : PSs X b u) : PS X (.If c a b pos) (tIfS tc t u) := by
  intro pins s σ H D I h
  refine wpAny_If (thn (hc pins s σ H _ I h) fun d s1 ⟨H1, I1, q1⟩ => ?_)
  cases d with
  | true => exact ha pins s1 σ H1 D I1 q1
  | false => exact hb pins s1 σ H1 D I1 q1
end

/-! ### targets -/
abbrev TG := V → St → Hp → (St → Hp → Prop) → Prop
def PG (X : Cx) (target : Expr) (t : TG) : Prop :=
  ∀ (pins : List (Addr × Obj)) (s : Shared) (σ : St) (H : Hp) (v : V) (u : Value) (Q : St → Hp → Prop), Inv X pins σ H s → RelV v u → t v σ H Q →
    wpAny (model X.prog X.w) X.A (assign target X.env u) (fun _ s' => ∃ σ' H', Inv X pins σ' H' s' ∧ Q σ' H') X.xe s
section
variable {X : Cx} {pos : Pos}
def gName (i : Nat) : TG := fun v σ H Q => Q (σ.set i (some v)) H
theorem pg_name {i : Nat} {x : Str} (hN : X.N.Nodup) (hi : X.N[i]? = some x) (hx : Loc X.env.scope x) (hf : X.fn x = true ∨ X.env.scope.names.lookup x = some .local := by first | exact .inl rfl | exact .inr rfl | assumption) : PG X (.Name x pos) (gName i) := by
  intro pins s σ H v u Q I r h
  exact wpAny_assign_Name (store_ok I hN hi hx r (fun s' I' => ⟨_, H, I', h⟩) hf)
/-- target = value -/
def tAsg (te : TE) (g : TG) : TS := fun D σ H => te σ H fun x H1 => g x σ H1 D.nx
/-- name = value -/
theorem ps_set {i : Nat} {x : Str} {e : Expr} {te : TE} {pos' : Pos} (hN : X.N.Nodup) (hi : X.N[i]? = some x) (hx : Loc X.env.scope x) (he : PE X e te) (hs : swapsWith e (some (.Name x pos')) pos.line X.env = pure false := by rfl) (hf : X.fn x = true ∨ X.env.scope.names.lookup x = some .local := by first | exact .inl rfl | exact .inr rfl | assumption) :
    PS X (.Assign [.Name x pos'] e pos) (tAsg te (gName i)) := by
  intro pins s σ H D I h
  refine wpAny_Assign_Name (thn (he pins s σ H _ I h) fun v s1 ⟨y, H1, I1, r1, q1⟩ => ?_) hs
  exact store_ok I1 hN hi hx r1 (fun s2 I2 => ⟨_, H1, I2, q1⟩) hf
end

/-! ### while -/
section
variable {X : Cx} {pos : Pos}
end

/-! ### what a loop or a comprehension walks -/
/-- at turn i: it yields x (the heap may grow), or it stops -/
structure It where
  go : Nat → Hp → Prop
  yld : Nat → Hp → V → Hp → Prop
  stop : Nat → Hp → Prop
/-- the iterator's own objects may turn: they are not the frame's, not pinned, younger than the entry (or a comprehension's own) -/
def FpOk (X : Cx) (pins : List (Addr × Obj)) (H : Hp) (b : Addr) : Prop :=
  H b = none ∧ b ≠ X.env.locals ∧ b ∉ X.fs ∧ (b ∈ X.ex ∨ X.s₀.heap.objs.size ≤ b) ∧ (∀ x c, X.env.cells.lookup x = some c → c ≠ b) ∧ ∀ p ∈ X.pn ++ pins, p.1 ≠ b
theorem Inv.fpOk {X : Cx} {pins : List (Addr × Obj)} {σ : St} {H H' : Hp} {s : Shared} {b : Addr} (I : Inv X pins σ H s) (hb : s.heap.objs.size ≤ b) (hn : H' b = none) : FpOk X pins H' b := by
  refine ⟨hn, Nat.ne_of_gt (Nat.lt_of_lt_of_le I.lt hb), I.nofs hb, .inr (Nat.le_trans I.sz hb), fun x c e z => ?_, fun p hp z => ?_⟩
  · obtain ⟨v, q⟩ := I.cell x c e
    exact absurd (Nat.lt_of_lt_of_le q.lt (by rw [z]; exact hb)) (Nat.lt_irrefl _)
  · exact absurd (Nat.lt_of_lt_of_le (Heap.lt_size (I.pin p hp).1) (by rw [z]; exact hb)) (Nat.lt_irrefl _)
structure Turn (P : Program) (w : World) (K : PySem.W.Frag) (tg : Expr) (J : It) (fp : List Addr) (it : Addr) (tn : Nat → Heap → Prop) : Prop where
  mem : it ∈ fp
  obj : ∀ i h, tn i h → ∀ b ∈ fp, ∃ o, h.get? b = some o ∧ ∀ v, o.data ≠ .cell v
  keep : ∀ i h h', tn i h → (∀ b ∈ fp, ∀ o, h.get? b = some o → h'.get? b = some o) → tn i h'
  item : ∀ (X : Cx), X.prog = P → X.w = w → X.K = K → X.calm = true → ∀ (i : Nat) (pins : List (Addr × Obj)) (s : Shared) (σ : St) (H : Hp) (E : Value → Shared → Prop), Inv X pins σ H s → (∀ b ∈ fp, FpOk X pins H b) → tn i s.heap → J.go i H →
    wpAny (model P w) X.A (pyNext (.ref it)) (fun r s1 => ∃ u, r = some u ∧
      wpAny (model P w) X.A (letOwnedTupleGo tg (.ref it) u) (fun _ s2 => ∃ x H', Inv X pins σ H' s2 ∧ RelV x u ∧ J.yld i H x H' ∧ tn (i + 1) s2.heap ∧ ∀ b ∈ fp, H' b = none) E s1) E s
  done : ∀ (X : Cx), X.prog = P → X.w = w → X.K = K → X.calm = true → ∀ (i : Nat) (pins : List (Addr × Obj)) (s : Shared) (σ : St) (H : Hp) (E : Value → Shared → Prop), Inv X pins σ H s → (∀ b ∈ fp, FpOk X pins H b) → tn i s.heap → J.stop i H →
    wpAny (model P w) X.A (pyNext (.ref it)) (fun r s1 => r = none ∧ Inv X pins σ H s1) E s
  self : ∀ (A : Around) (i : Nat) (s : Shared) (Q : Value → Shared → Prop) (E : Value → Shared → Prop), tn i s.heap → Q (.ref it) s → wpAny (model P w) A (pyIter (.ref it)) Q E s
abbrev TI := St → Hp → (It → Hp → Prop) → Prop
/-- an iterator has come -/
def PIE (X : Cx) (pins : List (Addr × Obj)) (σ : St) (tg : Expr) (R : It → Hp → Prop) (itv : Value) (s2 : Shared) : Prop :=
  ∃ (it : Addr) (fp : List Addr) (tn : Nat → Heap → Prop) (J : It) (H' : Hp), itv = .ref it ∧ Inv X pins σ H' s2 ∧ Turn X.prog X.w X.K tg J fp it tn ∧ tn 0 s2.heap ∧ (∀ b ∈ fp, FpOk X pins H' b) ∧ R J H'
def PI (X : Cx) (tg iter : Expr) (wi : TI) : Prop :=
  ∀ (pins : List (Addr × Obj)) (s : Shared) (σ : St) (H : Hp) (R : It → Hp → Prop), Inv X pins σ H s → wi σ H R →
    wpAny (model X.prog X.w) X.A (eval iter X.env) (fun v s1 => wpAny (model X.prog X.w) X.A (pyIter v) (PIE X pins σ tg R) X.xe s1) X.xe s

/-- the step ahead of the store is nothing for an iterator that keeps no tuple -/
theorem go_of {M : Model} {A : Around} {E : Value → Shared → Prop} {s : Shared} {tg : Expr} {it : Addr} {u : Value} {o : Obj} {n : String} {vs : Array Value} {Q : Unit → Shared → Prop} (ho : s.heap.get? it = some o) (hc : o.cls = .type n) (hd : o.data = .fields vs)
    (hn : ["enumerate", "zip", "dict_itemiterator", "dict_reverseitemiterator", "odict_iterator", "itertools.zip_longest", "itertools.pairwise"].contains n = false) (hQ : Q () s) : wpAny M A (letOwnedTupleGo tg (.ref it) u) Q E s := by
  unfold letOwnedTupleGo
  cases tg <;> first
    | exact wpAny_pure hQ
    | (cases u <;> first
        | exact wpAny_pure hQ
        | (refine wpAny_bind (wpAny_load ho ?_)
           rw [hc, hd]
           show wpAny M A (if (["enumerate", "zip", "dict_itemiterator", "dict_reverseitemiterator", "odict_iterator", "itertools.zip_longest", "itertools.pairwise"].contains n && vs[0]? == some (rawInt _)) = true then _ else _) Q E s
           rw [if_neg (by intro h; rw [hn, Bool.false_and] at h; cases h)]
           exact wpAny_pure hQ))

/-- the list at a, as it stands at each turn (a loop may append to it) -/
def Itl (K : PySem.W.Frag) (a : Addr) : It :=
  ⟨fun i H => ∃ xs x, SqL K H a xs ∧ xs[i]? = some x, fun i H x H' => H' = H ∧ ∀ xs, SqL K H a xs → xs[i]? = some x, fun i H => ∃ xs, SqL K H a xs ∧ xs.length ≤ i⟩
/-- lo, lo + 1, .. (n of them) -/
def Itr (lo : Int) (n : Nat) : It := ⟨fun i _ => i < n, fun i H x H' => H' = H ∧ x = .int (lo + i), fun i _ => n ≤ i⟩
theorem turn_list {P : Program} {w : World} {K : PySem.W.Frag} {tg : Expr} (a it : Addr) : Turn P w K tg (Itl K a) [it] it (fun i h => h.IsListIter it a i) where
  mem := by simp
  obj := fun i h st b hb => by
    have e : b = it := by simpa using hb
    subst e
    obtain ⟨o, e, c, d⟩ := st
    exact ⟨o, e, fun v z => by rw [d] at z; cases z⟩
  keep := fun i h h' st k => st.at fun o e => k it (by simp) o e
  item := by
    intro X hP hw hK hc i pins s σ H E I hf st hg
    subst hP hw hK
    obtain ⟨xs, x, hq, hx⟩ := hg
    obtain ⟨its, rv, p, hz⟩ := I.list hq
    obtain ⟨u, hu, ru⟩ := rv.get hx
    obtain ⟨f0, f1, f2, f3, f4, f5⟩ := hf it (by simp)
    refine wpAny_pyNext_list_item st p.isList (x := u) (by simpa using hu) fun h' st' sb => ?_
    have I1 : Inv X pins σ H { s with heap := h' } := I.turned (t' := s.toks) (fun b o hb e => (sb.2 b hb).trans e) f0 f1 f3 f4 f5
    obtain ⟨o, e, c, d⟩ := id st'
    exact ⟨u, rfl, go_of (s := { s with heap := h' }) e c d (by decide) ⟨x, H, I1, ru, ⟨rfl, fun ys hy => by rw [I.list_inj hy hq]; exact hx⟩, st', fun b hb => (hf b hb).1⟩⟩
  done := by
    intro X hP hw hK hc i pins s σ H E I hf st hg
    subst hP hw hK
    obtain ⟨xs, hq, hx⟩ := hg
    obtain ⟨its, rv, p, hz⟩ := I.list hq
    obtain ⟨f0, f1, f2, f3, f4, f5⟩ := hf it (by simp)
    have hl := rv.length
    exact wpAny_pyNext_list_end (I.ok.hd hc) st p.isList (by simp; omega) fun h' eb => ⟨rfl, I.turned (t' := s.toks) (fun b o hb e => eb b o hb e) f0 f1 f3 f4 f5⟩
  self := fun _ _ _ _ _ st h => wpAny_pyIter_listiter st h
theorem turn_range {P : Program} {w : World} {K : PySem.W.Frag} {tg : Expr} (it : Addr) (lo : Int) (n : Nat) : Turn P w K tg (Itr lo n) [it] it (fun i h => IsRangeIter h it (lo + (i : Nat) * 1) ((n : Int) - (i : Nat)) 1) where
  mem := by simp
  obj := fun i h st b hb => by
    have e : b = it := by simpa using hb
    subst e
    exact ⟨_, st, fun v z => by
      have z' : Data.fields _ = Data.cell v := z
      cases z'⟩
  keep := fun i h h' st k => k it (by simp) _ st
  item := by
    intro X hP hw hK hc i pins s σ H E I hf st hg
    subst hP hw hK
    obtain ⟨f0, f1, f2, f3, f4, f5⟩ := hf it (by simp)
    have W := Walks.range (prog := X.prog) (w := X.w) (I.ok.hd hc) it lo 1 n
    refine W.item i s _ _ hg st fun v h' tk hv st' kk => ?_
    obtain ⟨t, rfl⟩ := hv
    have I1 : Inv X pins σ H { s with heap := h', toks := tk } := I.turned (fun b o hb e => kk b o (by simpa using hb) e) f0 f1 f3 f4 f5
    refine ⟨_, rfl, go_of (s := { s with heap := h', toks := tk }) (n := "range_iterator") st' rfl rfl (by decide) ⟨.int (lo + i), H, I1, ⟨t, ?_⟩, ⟨rfl, rfl⟩, st', fun b hb => (hf b hb).1⟩⟩
    rw [Int.mul_one]
  done := by
    intro X hP hw hK hc i pins s σ H E I hf st hg
    subst hP hw hK
    obtain ⟨f0, f1, f2, f3, f4, f5⟩ := hf it (by simp)
    exact wpAny_pyNext_range_end (I.ok.hd hc) st (by have : n ≤ i := hg; omega) fun h' eb => ⟨rfl, I.turned (t' := s.toks) (fun b o hb e => eb b o hb e) f0 f1 f3 f4 f5⟩
  self := fun _ _ _ _ _ st h => wpAny_pyIter_rangeiter st h
end L2

namespace L2
open PySem PySem.Spec PyProof.Rows
section
variable {X : Cx} {tg : Expr}
def iList (K : PySem.W.Frag) (tl : TE) : TI := fun σ H R => tl σ H fun x H1 => ∃ a, x = .ref a ∧ (∃ xs, SqL K H1 a xs) ∧ R (Itl K a) H1
theorem pi_list {l : Expr} {tl : TE} (hl : PE X l tl) : PI X tg l (iList X.K tl) := by
  intro pins s σ H R I h
  refine thn (hl pins s σ H _ I h) fun v s1 ⟨x, H1, I1, r1, q1⟩ => ?_
  obtain ⟨a, e, ⟨xs, hq⟩, q⟩ := q1
  subst e
  cases r1
  obtain ⟨its, rv, p, hz⟩ := I1.list hq
  refine wpAny_pyIter_list p.isList ?_
  refine ⟨s1.heap.objs.size, [s1.heap.objs.size], _, _, H1, rfl, I1.kept (t' := s1.toks) fun b o e => Heap.get?_push_of_some _ e, turn_list a _, ⟨_, Heap.get?_push_size _ rfl, rfl, rfl⟩, fun b hb => ?_, q⟩
  have e : b = s1.heap.objs.size := by simpa using hb
  subst e
  exact I1.fpOk (Nat.le_refl _) (I1.hok.fresh (Nat.le_refl _))
/-- a range object just made, walked -/
theorem range_it {pins : List (Addr × Obj)} {σ : St} {H : Hp} {s : Shared} {R : It → Hp → Prop} {E : Value → Shared → Prop} {lo hi : Int} {t u v : Tok} {tk : Nat} (I : Inv X pins σ H s) (h1 : -(2 ^ 62) ≤ lo) (h2 : lo < 2 ^ 62) (h3 : -(2 ^ 62) ≤ hi) (h4 : hi < 2 ^ 62)
    (q : R (Itr lo (hi - lo).toNat) H) : wpAny (model X.prog X.w) X.A (pyIter (.ref s.heap.objs.size)) (PIE X pins σ tg R) E { s with heap := s.heap.push { cls := .type "range", data := .fields #[.int lo t, .int hi u, .int 1 v] }, toks := tk } := by
  refine wpAny_pyIter_range (IsRange.new ..) (small_one h1 h2 h3 h4) ?_
  have I1 : Inv X pins σ H { s with heap := s.heap.push { cls := .type "range", data := .fields #[.int lo t, .int hi u, .int 1 v] }, toks := tk } := I.kept fun b o e => Heap.get?_push_of_some _ e
  refine ⟨(s.heap.push { cls := .type "range", data := .fields #[.int lo t, .int hi u, .int 1 v] }).objs.size, [(s.heap.push { cls := .type "range", data := .fields #[.int lo t, .int hi u, .int 1 v] }).objs.size], _, _, H, rfl,
    I1.kept (t' := tk) fun b o e => Heap.get?_push_of_some _ e, turn_range _ lo (hi - lo).toNat, ?_, fun b hb => ?_, q⟩
  · have e1 : lo + ((0 : Nat) : Int) * 1 = lo := by simp
    have e2 : (((hi - lo).toNat : Nat) : Int) - ((0 : Nat) : Int) = Builtin.Range.rangeSize lo hi 1 := by rw [rangeSize_one]; split <;> omega
    show IsRangeIter _ _ (lo + ((0 : Nat) : Int) * 1) ((((hi - lo).toNat : Nat) : Int) - ((0 : Nat) : Int)) 1
    rw [e1, e2]
    exact Heap.get?_push_size _ rfl
  · have e : b = (s.heap.push { cls := .type "range", data := .fields #[.int lo t, .int hi u, .int 1 v] }).objs.size := by simpa using hb
    subst e
    exact I1.fpOk (Nat.le_refl _) (I1.hok.fresh (Nat.le_refl _))
def iRng1 (ta : TA) : TI := fun σ H R => ta σ H fun vs H1 => ∃ j : Int, vs = [.int j] ∧ -(2 ^ 62) ≤ j ∧ j < 2 ^ 62 ∧ R (Itr 0 j.toNat) H1
theorem pi_range1 {a : Expr} {ta : TA} {p pos : Pos} (hg : Gl X "range") (hm : X.mg "range" = none) (ha : PA X [a] ta) (hs : starEach [a] X.env = [(false, eval a X.env)] := by rfl) : PI X tg (.Call (.Name "range" p) [a] [] pos) (iRng1 ta) := by
  intro pins s σ H R I h
  refine Call_ (ld_blt I hg hm boot_range (PyProof.Rows.callWith_type1 (thn (ha pos pins s σ H _ I h) fun us s1 ⟨vs, H1, I1, r1, q1⟩ => ?_) hs rfl))
  obtain ⟨j, e, q1, q2, q⟩ := q1
  subst e
  cases r1 with
  | cons r rr =>
    cases rr
    obtain ⟨t, rfl⟩ := r
    exact call_range_1 (range_it I1 (by omega) (by omega) q1 q2 (by simpa using q))
/-! ### for -/
/-- W: the invariant by the turn and a measure; N: what the body is to reach -/
def tFor (wi : TI) (g : TG) (tb : TS) : TS := fun D σ H => wi σ H fun J H1 => ∃ W : Nat → Nat → St → Hp → Prop, (∃ m, W 0 m σ H1) ∧ ∀ i m σ H, W i m σ H →
  (J.stop i H ∧ D.nx σ H) ∨ (J.go i H ∧ ∃ N : St → Hp → Prop, (∀ σ' H', N σ' H' → ∃ m', m' < m ∧ W (i + 1) m' σ' H') ∧ ∀ x H', J.yld i H x H' → g x σ H' fun σ2 H2 => tb { D with nx := N, ct := N, bk := D.nx } σ2 H2)
/-- the records at fp as they stand -/
def pinsAt (fp : List Addr) (h : Heap) : List (Addr × Obj) := fp.filterMap fun b => (h.get? b).map fun o => (b, o)
theorem mem_pinsAt {fp : List Addr} {h : Heap} {b : Addr} {o : Obj} (hb : b ∈ fp) (e : h.get? b = some o) : (b, o) ∈ pinsAt fp h := List.mem_filterMap.mpr ⟨b, hb, by rw [e]; rfl⟩
theorem of_pinsAt {fp : List Addr} {h : Heap} {p : Addr × Obj} (hp : p ∈ pinsAt fp h) : p.1 ∈ fp ∧ h.get? p.1 = some p.2 := by
  obtain ⟨b, hb, e⟩ := List.mem_filterMap.mp hp
  cases q : h.get? b with
  | none => rw [q] at e; cases e
  | some o =>
    rw [q] at e
    have e' : (b, o) = p := Option.some.inj e
    subst e'
    exact ⟨hb, q⟩
theorem Inv.pinned {pins : List (Addr × Obj)} {σ : St} {H : Hp} {s : Shared} {fp : List Addr} (I : Inv X pins σ H s) (hf : ∀ b ∈ fp, FpOk X pins H b) (ho : ∀ b ∈ fp, ∃ o, s.heap.get? b = some o ∧ ∀ v, o.data ≠ .cell v) : Inv X (pins ++ pinsAt fp s.heap) σ H s :=
  I.pins_of fun p hp => (List.mem_append.mp hp).elim (fun z => I.pin p (List.mem_append_right _ z)) fun z => by
    obtain ⟨hb, e⟩ := of_pinsAt z
    obtain ⟨f0, f1, f2, _⟩ := hf p.1 hb
    obtain ⟨o, e', d⟩ := ho p.1 hb
    rw [e] at e'; cases e'
    exact ⟨e, f0, f1, f2, d⟩
theorem Inv.unpinned {pins pl : List (Addr × Obj)} {σ : St} {H : Hp} {s : Shared} (I : Inv X (pins ++ pl) σ H s) : Inv X pins σ H s := I.pins_of fun p hp => I.pin p (List.mem_append_right _ (List.mem_append_left _ hp))
theorem ps_for {iter : Expr} {body : List Stmt} {wi : TI} {g : TG} {tb : TS} {pos : Pos} (hp : PassesOwn (model X.prog X.w) X.A X.env X.xe) (hc : X.calm = true) (hi : PI X tg iter wi) (hg : PG X tg g) (hb : PSs X body tb)
    (hs : ∀ x, foldedSetIterable iter X.env x = pure x := by intro _; rfl) : PS X (.For tg iter body [] pos) (tFor wi g tb) := by
  intro pins s σ H D I h
  refine wpAny_For (thn (hi pins s σ H _ I h) fun v s1 h1 => thn h1 fun itv s2 h2 => ?_) hs
  obtain ⟨it, fp, tn, J, H2, e, I2, T, st2, f2, W, ⟨m0, w0⟩, turn⟩ := h2
  subst e
  -- what stays true of the iterator's objects through the loop
  have stat : ∀ {H' : Hp}, (∀ b ∈ fp, H' b = none) → ∀ b ∈ fp, FpOk X pins H' b := fun hn b hb => ⟨hn b hb, (f2 b hb).2⟩
  refine codeAny_forLoop_any (fun n s' => ∃ i σ' H', Inv X pins σ' H' s' ∧ tn i s'.heap ∧ (∀ b ∈ fp, H' b = none) ∧ W i n σ' H') ?_ m0 ⟨0, σ, H2, I2, st2, fun b hb => (f2 b hb).1, w0⟩
  rintro n s3 ⟨i, σ3, H3, I3, st3, fr3, w3⟩
  rcases turn i n σ3 H3 w3 with ⟨stop, qn⟩ | ⟨go, N, hN, step⟩
  · refine wpAny_passesOwn hp (thn (T.done X rfl rfl rfl hc i pins s3 σ3 H3 X.xe I3 (stat fr3) st3 stop) fun r s4 ⟨hr, I4⟩ => ?_)
    subst hr
    exact wpAny_execs_nil ⟨σ3, H3, I4, qn⟩
  · refine wpAny_passesOwn hp (thn (T.item X rfl rfl rfl hc i pins s3 σ3 H3 X.xe I3 (stat fr3) st3 go) fun r s4 ⟨u, hr, h4⟩ => ?_)
    subst hr
    refine wpAny_passesOwn hp (thn h4 fun _ s5 ⟨x, H5, I5, r5, y5, st5, fr5⟩ => ?_)
    have I5' := I5.pinned (stat fr5) (T.obj _ _ st5)
    refine wpAny_passesOwn hp (thn (hg _ s5 σ3 H5 x u _ I5' r5 (step x H5 y5)) fun _ s6 ⟨σ6, H6, I6, q6⟩ => ?_)
    refine wpAny_passesOwn hp (thn (hb _ s6 σ6 H6 _ I6 q6) fun f s7 q7 => ?_)
    have again : ∀ {σ7 : St} {H7 : Hp}, Inv X (pins ++ pinsAt fp s5.heap) σ7 H7 s7 → N σ7 H7 → ∃ m, m < n ∧ ∃ i σ' H', Inv X pins σ' H' s7 ∧ tn i s7.heap ∧ (∀ b ∈ fp, H' b = none) ∧ W i m σ' H' := fun {σ7 H7} I7 n7 => by
      obtain ⟨m', hm, w7⟩ := hN σ7 H7 n7
      refine ⟨m', hm, i + 1, σ7, H7, I7.unpinned, T.keep _ _ _ st5 fun b hb o e => (I7.pin (b, o) (List.mem_append_right _ (List.mem_append_right _ (mem_pinsAt hb e)))).1, fun b hb => ?_, w7⟩
      obtain ⟨o, e, d⟩ := T.obj _ _ st5 b hb
      exact (I7.pin (b, o) (List.mem_append_right _ (List.mem_append_right _ (mem_pinsAt hb e)))).2.1
    cases f with
    | next => obtain ⟨σ7, H7, I7, n7⟩ := q7; exact again I7 n7
    | cont => obtain ⟨σ7, H7, I7, n7⟩ := q7; exact again I7 n7
    | brk => obtain ⟨σ7, H7, I7, q7⟩ := q7; exact ⟨σ7, H7, I7.unpinned, q7⟩
    | ret v => obtain ⟨x7, σ7, H7, I7, r7, q7⟩ := q7; exact ⟨x7, σ7, H7, I7.unpinned, r7, q7⟩
end

/-! ### the forms one uses -/
/-- over a list that the body leaves as it is -/
theorem for_list {K : PySem.W.Frag} {a : Addr} {xs : List V} {g : TG} {tb : TS} {D : Ends} {σ : St} {H : Hp} (Pv : Nat → St → Hp → Prop) (h0 : Pv 0 σ H) (hl : ∀ i σ H, i ≤ xs.length → Pv i σ H → SqL K H a xs)
    (hs : ∀ i x σ H, xs[i]? = some x → Pv i σ H → g x σ H fun σ2 H2 => tb { D with nx := Pv (i + 1), ct := Pv (i + 1), bk := D.nx } σ2 H2) (hd : ∀ σ H, Pv xs.length σ H → D.nx σ H) :
    ∃ W : Nat → Nat → St → Hp → Prop, (∃ m, W 0 m σ H) ∧ ∀ i m σ H, W i m σ H →
      ((Itl K a).stop i H ∧ D.nx σ H) ∨ ((Itl K a).go i H ∧ ∃ N : St → Hp → Prop, (∀ σ' H', N σ' H' → ∃ m', m' < m ∧ W (i + 1) m' σ' H') ∧ ∀ x H', (Itl K a).yld i H x H' → g x σ H' fun σ2 H2 => tb { D with nx := N, ct := N, bk := D.nx } σ2 H2) := by
  refine ⟨fun i m σ H => m = xs.length - i ∧ i ≤ xs.length ∧ Pv i σ H, ⟨xs.length, by simp, Nat.zero_le _, h0⟩, ?_⟩
  rintro i m σ H ⟨rfl, hi, p⟩
  have q := hl i σ H hi p
  by_cases hlt : i < xs.length
  · refine .inr ⟨⟨xs, xs[i], q, by simp [hlt]⟩, Pv (i + 1), fun σ' H' p' => ⟨xs.length - (i + 1), by omega, rfl, hlt, p'⟩, fun x H' y => ?_⟩
    obtain ⟨e, y⟩ := y
    subst e
    exact hs i x σ _ (y xs q) p
  · have e : i = xs.length := by omega
    subst e
    exact .inl ⟨⟨xs, q, Nat.le_refl _⟩, hd σ H p⟩
theorem for_range {lo : Int} {n : Nat} {g : TG} {tb : TS} {D : Ends} {σ : St} {H : Hp} (Pv : Nat → St → Hp → Prop) (h0 : Pv 0 σ H)
    (hs : ∀ i σ H, i < n → Pv i σ H → g (.int (lo + i)) σ H fun σ2 H2 => tb { D with nx := Pv (i + 1), ct := Pv (i + 1), bk := D.nx } σ2 H2) (hd : ∀ σ H, Pv n σ H → D.nx σ H) :
    ∃ W : Nat → Nat → St → Hp → Prop, (∃ m, W 0 m σ H) ∧ ∀ i m σ H, W i m σ H →
      ((Itr lo n).stop i H ∧ D.nx σ H) ∨ ((Itr lo n).go i H ∧ ∃ N : St → Hp → Prop, (∀ σ' H', N σ' H' → ∃ m', m' < m ∧ W (i + 1) m' σ' H') ∧ ∀ x H', (Itr lo n).yld i H x H' → g x σ H' fun σ2 H2 => tb { D with nx := N, ct := N, bk := D.nx } σ2 H2) := by
  refine ⟨fun i m σ H => m = n - i ∧ i ≤ n ∧ Pv i σ H, ⟨n, by simp, Nat.zero_le _, h0⟩, ?_⟩
  rintro i m σ H ⟨rfl, hi, p⟩
  by_cases hlt : i < n
  · refine .inr ⟨hlt, Pv (i + 1), fun σ' H' p' => ⟨n - (i + 1), by omega, rfl, hlt, p'⟩, fun x H' y => ?_⟩
    obtain ⟨e, y⟩ := y
    subst e y
    exact hs i σ _ hlt p
  · have e : i = n := by omega
    subst e
    exact .inl ⟨Nat.le_refl _, hd σ H p⟩
end L2

namespace L2
open PySem PySem.Spec PyProof.Rows

abbrev R2 := V → V → Hp → VK → Prop
/-- a two-place operation on values: f is binaryOp op, inplaceOp op or compareOp op -/
def OpR (X : Cx) (f : Value → Value → Sem Value) (r : R2) : Prop :=
  ∀ (pins : List (Addr × Obj)) (s : Shared) (σ : St) (H : Hp) (x y : V) (v u : Value) (Q : VK), Inv X pins σ H s → RelV x v → RelV y u → r x y H Q →
    wpAny (model X.prog X.w) X.A (f v u) (EP X pins σ Q) X.xe s
/-- a one-place operation -/
def UnR (X : Cx) (f : Value → Sem Value) (r : V → Hp → VK → Prop) : Prop :=
  ∀ (pins : List (Addr × Obj)) (s : Shared) (σ : St) (H : Hp) (x : V) (v : Value) (Q : VK), Inv X pins σ H s → RelV x v → r x H Q →
    wpAny (model X.prog X.w) X.A (f v) (EP X pins σ Q) X.xe s
/-- a call of a value that is known (a builtin, a type) with values -/
def CallR (X : Cx) (f : Value) (r : List V → Hp → VK → Prop) : Prop :=
  ∀ (pins : List (Addr × Obj)) (s : Shared) (σ : St) (H : Hp) (xs : List V) (us : List Value) (Q : VK), Inv X pins σ H s → Vals xs us → r xs H Q →
    wpAny (model X.prog X.w) X.A (call f us) (EP X pins σ Q) X.xe s
/-- a value's truth -/
def TruR (X : Cx) (r : V → Hp → (Bool → Hp → Prop) → Prop) : Prop :=
  ∀ (pins : List (Addr × Obj)) (s : Shared) (σ : St) (H : Hp) (x : V) (v : Value) (Q : Bool → Hp → Prop), Inv X pins σ H s → RelV x v → r x H Q →
    wpAny (model X.prog X.w) X.A (truthy v) (TP X pins σ Q) X.xe s

def tOp (r : R2) (ta tb : TE) : TE := fun σ H Q => ta σ H fun x H1 => tb σ H1 fun y H2 => r x y H2 Q
def tUn (r : V → Hp → VK → Prop) (ta : TE) : TE := fun σ H Q => ta σ H fun x H1 => r x H1 Q
/-- ints in, under C, and a value out -/
def rI (C : Int → Int → Prop) (g : Int → Int → V) : R2 := fun x y H Q => ∃ i j, x = .int i ∧ y = .int j ∧ C i j ∧ Q (g i j) H
def rI0 (g : Int → Int → V) : R2 := fun x y H Q => ∃ i j, x = .int i ∧ y = .int j ∧ Q (g i j) H
def rU (g : Int → V) : V → Hp → VK → Prop := fun x H Q => ∃ i, x = .int i ∧ Q (g i) H

section
variable {X : Cx} {a b c : Expr} {ta tb tc : TE} {pos : Pos}

theorem binT (ha : PE X a ta) (hb : PE X b tb) {pins : List (Addr × Obj)} {s : Shared} {σ : St} {H : Hp} {R : V → V → Hp → Prop} (I : Inv X pins σ H s)
    (h : ta σ H fun x H1 => tb σ H1 fun y H2 => R x y H2) {Q : Value → Shared → Prop} {f : Value → Value → Sem Value}
    (hf : ∀ v u s2 x y H2, Inv X pins σ H2 s2 → RelV x v → RelV y u → R x y H2 → wpAny (model X.prog X.w) X.A (f v u) Q X.xe s2) :
    wpAny (model X.prog X.w) X.A (eval a X.env) (fun v s₁ => wpAny (model X.prog X.w) X.A (eval b X.env) (fun u s₂ => wpAny (model X.prog X.w) X.A (f v u) Q X.xe s₂) X.xe s₁) X.xe s := by
  refine thn (ha pins s σ H _ I h) fun v s1 ⟨x, H1, I1, r1, q1⟩ => ?_
  refine thn (hb pins s1 σ H1 _ I1 q1) fun u s2 ⟨y, H2, I2, r2, q2⟩ => ?_
  exact hf v u s2 x y H2 I2 r1 r2 q2

theorem pe_op {op : Operator} {r : R2} (ho : OpR X (binaryOp op) r) (ha : PE X a ta) (hb : PE X b tb) : PE X (.BinOp a op b pos) (tOp r ta tb) := by
  intro pins s σ H Q I h
  exact wpAny_BinOp (binT ha hb I h fun v u s2 x y H2 I2 rx ry q => ho pins s2 σ H2 x y v u Q I2 rx ry q)
theorem pe_un {op : UnaryOp} {r : V → Hp → VK → Prop} (ho : UnR X (unaryOp op) r) (ha : PE X a ta) : PE X (.UnaryOp op a pos) (tUn r ta) := by
  intro pins s σ H Q I h
  exact UnaryOp_ (thn (ha pins s σ H _ I h) fun v s1 ⟨x, H1, I1, r1, q1⟩ => ho pins s1 σ H1 x v Q I1 r1 q1)
/-! ### ints -/
theorem opI {f : Value → Value → Sem Value} {C : Int → Int → Prop} {g : Int → Int → Int}
    (rule : ∀ (i j : Int) (t u : Tok) (s : Shared) (Q : Value → Shared → Prop) (E : Value → Shared → Prop), C i j → Q (.int (g i j) s.toks) { s with toks := s.toks + 1 } → wpAny (model X.prog X.w) X.A (f (.int i t) (.int j u)) Q E s) :
    OpR X f (rI C fun i j => .int (g i j)) := by
  intro pins s σ H x y v u Q I rx ry h
  obtain ⟨i, j, rfl, rfl, hc, q⟩ := h
  obtain ⟨t, rfl⟩ := rx
  obtain ⟨t', rfl⟩ := ry
  exact rule i j t t' s _ _ hc ⟨.int (g i j), H, I.tok _, ⟨_, rfl⟩, q⟩
theorem opI0 {f : Value → Value → Sem Value} {g : Int → Int → Int}
    (rule : ∀ (i j : Int) (t u : Tok) (s : Shared) (Q : Value → Shared → Prop) (E : Value → Shared → Prop), Q (.int (g i j) s.toks) { s with toks := s.toks + 1 } → wpAny (model X.prog X.w) X.A (f (.int i t) (.int j u)) Q E s) :
    OpR X f (rI0 fun i j => .int (g i j)) := by
  intro pins s σ H x y v u Q I rx ry h
  obtain ⟨i, j, rfl, rfl, q⟩ := h
  obtain ⟨t, rfl⟩ := rx
  obtain ⟨t', rfl⟩ := ry
  exact rule i j t t' s _ _ ⟨.int (g i j), H, I.tok _, ⟨_, rfl⟩, q⟩
theorem opB0 {f : Value → Value → Sem Value} {g : Int → Int → Bool}
    (rule : ∀ (i j : Int) (t u : Tok) (s : Shared) (Q : Value → Shared → Prop) (E : Value → Shared → Prop), Q (.bool (g i j)) s → wpAny (model X.prog X.w) X.A (f (.int i t) (.int j u)) Q E s) :
    OpR X f (rI0 fun i j => .bl (g i j)) := by
  intro pins s σ H x y v u Q I rx ry h
  obtain ⟨i, j, rfl, rfl, q⟩ := h
  obtain ⟨t, rfl⟩ := rx
  obtain ⟨t', rfl⟩ := ry
  exact rule i j t t' s _ _ ⟨.bl (g i j), H, I, rfl, q⟩

def CDiv (i j : Int) : Prop := 0 < j ∧ j < 1073741824
def CPow (i j : Int) : Prop := 0 ≤ j ∧ j ≤ 1000000 ∧ i.natAbs < 2 ^ 64
def CMul (i j : Int) : Prop := (-(2 ^ 64) < i ∧ i < 2 ^ 64) ∨ (-(2 ^ 64) < j ∧ j < 2 ^ 64)
theorem CMul.ok {i j : Int} (h : CMul i j) : IntMulOk i j := by
  rcases h with ⟨h1, h2⟩ | ⟨h1, h2⟩
  · exact .of_left (intBits_le_64 h1 h2)
  · exact .of_right (intBits_le_64 h1 h2)
theorem op_add : OpR X (binaryOp .Add) (rI0 fun i j => .int (i + j)) := opI0 fun _ _ _ _ _ _ _ q => add_int q
theorem op_sub : OpR X (binaryOp .Sub) (rI0 fun i j => .int (i - j)) := opI0 fun _ _ _ _ _ _ _ q => sub_int q
theorem op_mul : OpR X (binaryOp .Mult) (rI CMul fun i j => .int (i * j)) := opI fun _ _ _ _ _ _ _ hc q => mul_int q hc.ok
/-- // by a positive divisor -/
theorem op_fdiv : OpR X (binaryOp .FloorDiv) (rI CDiv fun i j => .int (i / j)) := opI fun i j _ _ _ _ _ hc q => by
  have h1 : (0 : Int) < j := hc.1
  have h2 : j < 1073741824 := hc.2
  exact floordiv_int (by omega) (by rw [Int.fdiv_eq_ediv_of_nonneg i (by omega)]; exact q) (.inl (PyProof.noPylong_small (by omega)))
/-- % by a positive divisor of any size -/
theorem op_mod : OpR X (binaryOp .Mod) (rI (fun _ j => 0 < j) fun i j => .int (i % j)) := opI fun i j _ _ _ _ _ hc q => by
  have h1 : (0 : Int) < j := hc
  exact mod_int' (by omega) (by rw [Int.fmod_eq_emod_of_nonneg i (by omega)]; exact q)
theorem op_pow : OpR X (binaryOp .Pow) (rI CPow fun i j => .int (i ^ j.toNat)) := opI fun _ _ _ _ _ _ _ hc q => pow_int_small hc.1 hc.2.1 hc.2.2 q
theorem unI {f : Value → Sem Value} {g : Int → Int}
    (rule : ∀ (i : Int) (t : Tok) (s : Shared) (Q : Value → Shared → Prop) (E : Value → Shared → Prop), Q (.int (g i) s.toks) { s with toks := s.toks + 1 } → wpAny (model X.prog X.w) X.A (f (.int i t)) Q E s) :
    UnR X f (rU fun i => .int (g i)) := by
  intro pins s σ H x v Q I rx h
  obtain ⟨i, rfl, q⟩ := h
  obtain ⟨t, rfl⟩ := rx
  exact rule i t s _ _ ⟨.int (g i), H, I.tok _, ⟨_, rfl⟩, q⟩
theorem un_neg : UnR X (unaryOp .USub) (rU fun i => .int (-i)) := unI fun _ _ _ _ _ q => neg_int q
/-! ### bools among ints: n += (a < b) -/
end

/-! ### comparisons -/
/-- the scalars that == tells apart as data does -/
def scal : V → V → Bool
  | .non, .non => true | .non, .int _ => true | .int _, .non => true | .non, .bl _ => true | .bl _, .non => true | .non, .str _ => true | .str _, .non => true
  | .int _, .int _ => true | .bl _, .bl _ => true | .str _, .str _ => true | .byt _, .byt _ => true
  | .int _, .str _ => true | .str _, .int _ => true | .bl _, .str _ => true | .str _, .bl _ => true
  | _, _ => false
def rEq : R2 := fun x y H Q => scal x y = true ∧ Q (.bl (decide (x = y))) H
def rNe : R2 := fun x y H Q => scal x y = true ∧ Q (.bl (!decide (x = y))) H

theorem dec_int {i j : Int} : decide (V.int i = V.int j) = (i == j) := by
  rw [Bool.eq_iff_iff]
  simp
theorem dec_bl {i j : Bool} : decide (V.bl i = V.bl j) = (i == j) := by
  rw [Bool.eq_iff_iff]
  simp
theorem dec_str {i j : Str} : decide (V.str i = V.str j) = (i == j) := by
  rw [Bool.eq_iff_iff]
  simp
theorem dec_byt {i j : Array UInt8} : decide (V.byt i = V.byt j) = (i.toList == j.toList) := by
  rw [Bool.eq_iff_iff]
  cases i
  cases j
  simp

section
variable {X : Cx} {a b c : Expr} {ta tb tc : TE} {pos : Pos}
theorem fin_bl {pins : List (Addr × Obj)} {σ : St} {H : Hp} {s : Shared} {Q : VK} {k k' : Bool} (I : Inv X pins σ H s) (q : Q (.bl k) H) (e : k = k') : EP X pins σ Q (.bool k') s := by
  subst e
  exact ⟨.bl k, H, I, rfl, q⟩
theorem op_eq : OpR X (compareOp .Eq) rEq := by
  intro pins s σ H x y v u Q I rx ry h
  obtain ⟨hs, q⟩ := h
  cases x with
  | non =>
    cases rx
    cases y with
    | non => cases ry; exact PySem.EqNone.eq_none_none (fin_bl I q (by simp))
    | bl j => cases ry; exact PySem.EqNone.eq_none_bool (fin_bl I q (by simp))
    | int j => obtain ⟨t', rfl⟩ := ry; exact PySem.EqNone.eq_none_int (fin_bl I q (by simp))
    | str j => obtain ⟨t', rfl⟩ := ry; exact PySem.EqNone.eq_none_str (fin_bl I q (by simp))
    | _ => exact absurd (show false = true from hs) Bool.false_ne_true
  | bl i =>
    cases rx
    cases y with
    | non => cases ry; exact PySem.EqNone.eq_bool_none (fin_bl I q (by simp))
    | bl j => cases ry; exact eq_bool (fin_bl I q dec_bl)
    | str j => obtain ⟨t', rfl⟩ := ry; exact PySem.EqMixed.eq_bool_str (fin_bl I q (by simp))
    | _ => exact absurd (show false = true from hs) Bool.false_ne_true
  | int i =>
    obtain ⟨t, rfl⟩ := rx
    cases y with
    | non => cases ry; exact PySem.EqNone.eq_int_none (fin_bl I q (by simp))
    | int j => obtain ⟨t', rfl⟩ := ry; exact eq_int (fin_bl I q dec_int)
    | str j => obtain ⟨t', rfl⟩ := ry; exact PySem.EqMixed.eq_int_str (fin_bl I q (by simp))
    | _ => exact absurd (show false = true from hs) Bool.false_ne_true
  | str i =>
    obtain ⟨t, rfl⟩ := rx
    cases y with
    | non => cases ry; exact PySem.EqNone.eq_str_none (fin_bl I q (by simp))
    | bl j => cases ry; exact PySem.EqMixed.eq_str_bool (fin_bl I q (by simp))
    | int j => obtain ⟨t', rfl⟩ := ry; exact PySem.EqMixed.eq_str_int (fin_bl I q (by simp))
    | str j => obtain ⟨t', rfl⟩ := ry; exact eq_str (fin_bl I q dec_str)
    | _ => exact absurd (show false = true from hs) Bool.false_ne_true
  | byt i =>
    obtain ⟨t, rfl⟩ := rx
    cases y with
    | byt j => obtain ⟨t', rfl⟩ := ry; exact PySem.W.eq_bytes (fin_bl I q dec_byt)
    | _ => exact absurd (show false = true from hs) Bool.false_ne_true
  | _ => cases y <;> exact absurd (show false = true from hs) Bool.false_ne_true
theorem op_ne : OpR X (compareOp .NotEq) rNe := by
  intro pins s σ H x y v u Q I rx ry h
  obtain ⟨hs, q⟩ := h
  cases x with
  | non =>
    cases rx
    cases y with
    | non => cases ry; exact PySem.EqNone.ne_none_none (fin_bl I q (by simp))
    | bl j => cases ry; exact PySem.EqNone.ne_none_bool (fin_bl I q (by simp))
    | int j => obtain ⟨t', rfl⟩ := ry; exact PySem.EqNone.ne_none_int (fin_bl I q (by simp))
    | str j => obtain ⟨t', rfl⟩ := ry; exact PySem.EqNone.ne_none_str (fin_bl I q (by simp))
    | _ => exact absurd (show false = true from hs) Bool.false_ne_true
  | bl i =>
    cases rx
    cases y with
    | non => cases ry; exact PySem.EqNone.ne_bool_none (fin_bl I q (by simp))
    | bl j => cases ry; exact ne_bool (fin_bl I q (congrArg not dec_bl))
    | str j => obtain ⟨t', rfl⟩ := ry; exact PySem.EqMixed.ne_bool_str (fin_bl I q (by simp))
    | _ => exact absurd (show false = true from hs) Bool.false_ne_true
  | int i =>
    obtain ⟨t, rfl⟩ := rx
    cases y with
    | non => cases ry; exact PySem.EqNone.ne_int_none (fin_bl I q (by simp))
    | int j => obtain ⟨t', rfl⟩ := ry; exact ne_int (fin_bl I q (congrArg not dec_int))
    | str j => obtain ⟨t', rfl⟩ := ry; exact PySem.EqMixed.ne_int_str (fin_bl I q (by simp))
    | _ => exact absurd (show false = true from hs) Bool.false_ne_true
  | str i =>
    obtain ⟨t, rfl⟩ := rx
    cases y with
    | non => cases ry; exact PySem.EqNone.ne_str_none (fin_bl I q (by simp))
    | bl j => cases ry; exact PySem.EqMixed.ne_str_bool (fin_bl I q (by simp))
    | int j => obtain ⟨t', rfl⟩ := ry; exact PySem.EqMixed.ne_str_int (fin_bl I q (by simp))
    | str j => obtain ⟨t', rfl⟩ := ry; exact ne_str (fin_bl I q (congrArg not dec_str))
    | _ => exact absurd (show false = true from hs) Bool.false_ne_true
  | byt i =>
    obtain ⟨t, rfl⟩ := rx
    cases y with
    | byt j => obtain ⟨t', rfl⟩ := ry; exact PySem.W.ne_bytes (fin_bl I q (congrArg not dec_byt))
    | _ => exact absurd (show false = true from hs) Bool.false_ne_true
  | _ => cases y <;> exact absurd (show false = true from hs) Bool.false_ne_true

theorem op_lt : OpR X (compareOp .Lt) (rI0 fun i j => .bl (decide (i < j))) := opB0 fun _ _ _ _ _ _ _ q => lt_int q
theorem op_le : OpR X (compareOp .LtE) (rI0 fun i j => .bl (decide (i ≤ j))) := opB0 fun _ _ _ _ _ _ _ q => le_int q
theorem op_gt : OpR X (compareOp .Gt) (rI0 fun i j => .bl (decide (j < i))) := opB0 fun _ _ _ _ _ _ _ q => gt_int q
/-- the one string within the other -/
theorem op_in_str : OpR X (compareOp .In) (fun x y H Q => ∃ i j, x = .str i ∧ y = .str j ∧ Q (.bl (!(Builtin.Str.occurrences j i 0 j.length 1).isEmpty)) H) := by
  intro pins s σ H x y v u Q I rx ry h
  obtain ⟨i, j, rfl, rfl, q⟩ := h
  obtain ⟨t, rfl⟩ := rx
  obtain ⟨t', rfl⟩ := ry
  exact in_str (fin_bl I q rfl)

/-- is None, is not None: the right side a value none -/
theorem op_isN : OpR X (compareOp .Is) (fun x y H Q => y = .non ∧ Q (.bl (decide (x = .non))) H) := by
  intro pins s σ H x y v u Q I rx ry h
  obtain ⟨rfl, q⟩ := h
  cases ry
  refine is_none_gen (fin_bl I q ?_)
  cases x <;> first
    | (cases rx; rfl)
    | (obtain ⟨t, rfl⟩ := rx; rfl)
theorem nomark (b : Expr) {op : CmpOp} (h : op ≠ .In := by decide) (h2 : op ≠ .NotIn := by decide) : behindInMarks op b = false := by
  have e1 : (op == CmpOp.In) = false := by cases op <;> first | rfl | exact absurd rfl h
  have e2 : (op == CmpOp.NotIn) = false := by cases op <;> first | rfl | exact absurd rfl h2
  cases b <;> simp [behindInMarks, e1, e2]
/-- a comparison as a value; hm: nomark b, or (for in, not in) by with_unfolding_all rfl -/
theorem pe_cmpR {op : CmpOp} {r : R2} (ho : OpR X (compareOp op) r) (ha : PE X a ta) (hb : PE X b tb) (hm : behindInMarks op b = false) : PE X (.Compare a [op] [b] pos) (tOp r ta tb) := by
  intro pins s σ H Q I h
  exact wpAny_Compare1 (binT ha hb I h fun v u s2 x y H2 I2 rx ry q => ho pins s2 σ H2 x y v u Q I2 rx ry q) hm
/-- a reading of a value as a test -/
def tTest (t : TE) : TT := fun σ H Q => t σ H fun x H' => ∃ k, x = .bl k ∧ Q k H'
theorem pt_cmpR {op : CmpOp} {r : R2} (ho : OpR X (compareOp op) r) (ha : PE X a ta) (hb : PE X b tb) (hm : behindInMarks op b = false) : PT X (.Compare a [op] [b] pos) (tTest (tOp r ta tb)) := by
  intro pins s σ H Q I h
  refine wpAny_isTrue_Compare1 (thn (ha pins s σ H _ I h) fun v s1 ⟨x, H1, I1, r1, q1⟩ => thn (hb pins s1 σ H1 _ I1 q1) fun u s2 ⟨y, H2, I2, r2, q2⟩ =>
    thn (ho pins s2 σ H2 x y v u _ I2 r1 r2 q2) fun c s3 ⟨z, H3, I3, r3, k, e, q3⟩ => ?_) hm
  subst e
  cases r3
  exact wpAny_truthy_bool ⟨H3, I3, q3⟩
/-- a op1 b op2 c -/
def tChain (r r' : R2) (ta tb tc : TE) : TE := fun σ H Q => ta σ H fun x H1 => tb σ H1 fun y H2 => r x y H2 fun z H3 => ∃ k, z = .bl k ∧
  (if k = true then tc σ H3 fun w' H4 => r' y w' H4 Q else Q (.bl false) H3)
theorem pt_chain {op op' : CmpOp} {r r' : R2} (ho : OpR X (compareOp op) r) (ho' : OpR X (compareOp op') r') (ha : PE X a ta) (hb : PE X b tb) (hc : PE X c tc)
    (hm : lastMarks [op, op'] [b, c] = false := by with_unfolding_all rfl) : PT X (.Compare a [op, op'] [b, c] pos) (tTest (tChain r r' ta tb tc)) := by
  intro pins s σ H Q I h
  refine isTrue_chain (thn (ha pins s σ H _ I h) fun v s1 ⟨x, H1, I1, r1, q1⟩ => test_link (thn (hb pins s1 σ H1 _ I1 q1) fun u s2 ⟨y, H2, I2, r2, q2⟩ =>
    thn (ho pins s2 σ H2 x y v u _ I2 r1 r2 q2) fun d s3 ⟨z, H3, I3, r3, k, e, q3⟩ => ?_)) hm
  subst e
  cases r3
  refine wpAny_truthy_bool ?_
  cases k with
  | false =>
    obtain ⟨k', e', q'⟩ := q3
    cases e'
    exact ite_ff ⟨H3, I3, q'⟩
  | true =>
    refine ite_tt (test_last (thn (hc pins s3 σ H3 _ I3 q3) fun w' s4 ⟨z', H4, I4, r4, q4⟩ => thn (ho' pins s4 σ H4 y z' u w' _ I4 r2 r4 q4) fun d' s5 ⟨z2, H5, I5, r5, k2, e2, q5⟩ => ?_))
    subst e2
    cases r5
    exact wpAny_truthy_bool ⟨H5, I5, q5⟩

/-! ### truth -/
/-- a value's truth by the abstract heap -/
def TruV (K : PySem.W.Frag) (x : V) (H : Hp) (k : Bool) : Prop :=
  match x with
  | .non => k = false
  | .bl b => k = b
  | .int i => k = (i != 0)
  | .str y => y.length ≤ sizeLine ∧ k = ((y.length : Int) != 0)
  | .byt y => y.size ≤ sizeLine ∧ k = ((y.size : Int) != 0)
  | .ref p => (∃ xs, SqL K H p xs ∧ k = !xs.isEmpty) ∨ (∃ xs, SqT K H p xs ∧ k = !xs.isEmpty) ∨ ∃ kvs, H p = some (.dK kvs) ∧ k = !kvs.isEmpty
  | _ => False
theorem isEmpty_kv {κ : Type} {kvs : List (κ × V)} {vs : List (κ × Value)} (r : KV kvs vs) : (!vs.isEmpty) = !kvs.isEmpty := by
  cases r <;> rfl
theorem isEmpty_of {xs : List V} {its : List Value} (r : Vals xs its) : (!its.toArray.isEmpty) = !xs.isEmpty := by
  cases r <;> simp
theorem line63 : (sizeLine : Nat) < 2 ^ 63 := by rw [sizeLine_eq]; decide
theorem tru_ok : TruR X (fun x H Q => ∃ k, TruV X.K x H k ∧ Q k H) := by
  intro pins s σ H x v Q I rx h
  obtain ⟨k, e, q⟩ := h
  have hl := line63
  have hs : sizeLine = 16777216 := sizeLine_eq
  cases x with
  | non =>
    cases rx
    have e' : k = false := e
    subst e'
    exact truthy_none ⟨H, I, q⟩
  | bl b =>
    cases rx
    have e' : k = b := e
    subst e'
    exact wpAny_truthy_bool ⟨H, I, q⟩
  | int i =>
    obtain ⟨t, rfl⟩ := rx
    have e' : k = (i != 0) := e
    subst e'
    exact PySem.P.truthy_int ⟨H, I, q⟩
  | str y =>
    obtain ⟨t, rfl⟩ := rx
    obtain ⟨hy, e'⟩ : y.length ≤ sizeLine ∧ k = ((y.length : Int) != 0) := e
    subst e'
    exact PySem.P.truthy_str (by omega) ⟨H, I.tok _, q⟩
  | byt y =>
    obtain ⟨t, rfl⟩ := rx
    obtain ⟨hy, e'⟩ : y.size ≤ sizeLine ∧ k = ((y.size : Int) != 0) := e
    subst e'
    exact PySem.W.truthy_bytes (by omega) ⟨H, I.tok _, q⟩
  | ref p =>
    cases rx
    have e' : (∃ xs, SqL X.K H p xs ∧ k = !xs.isEmpty) ∨ (∃ xs, SqT X.K H p xs ∧ k = !xs.isEmpty) ∨ ∃ kvs, H p = some (.dK kvs) ∧ k = !kvs.isEmpty := e
    rcases e' with ⟨xs, hx, e'⟩ | ⟨xs, hx, e'⟩ | ⟨kvs, hx, e'⟩
    · subst e'
      obtain ⟨its, r, pl, hz⟩ := I.list hx
      have hlen := r.length
      exact wpAny_truthy_list pl.isList (by simp only [List.size_toArray]; omega) ⟨H, I.tok _, by rw [isEmpty_of r]; exact q⟩
    · subst e'
      obtain ⟨its, r, pl, hz⟩ := I.tuple hx
      have hlen := r.length
      exact truthy_tuple pl (by simp only [List.size_toArray]; omega) ⟨H, I.tok _, by rw [isEmpty_of r]; exact q⟩
    · subst e'
      obtain ⟨hz, hS, vs, r, m⟩ : kvs.length ≤ sizeLine ∧ (p == sysModules) = false ∧ ∃ vs, KV kvs vs ∧ s.heap.DictOf (mixKind X.prog X.w) p vs := I.hok p _ hx
      have hlen : kvs.length = vs.length := Paired.length r
      exact wpAny_truthy_dict hS m (by omega) ⟨H, I.tok _, by rw [isEmpty_kv r]; exact q⟩
  | _ => exact (show False from e).elim
/-! ### strs and bytes -/
/-! ### scalar builtins, by CallR -/
theorem vals1 {x : V} {us : List Value} (r : Vals [x] us) : ∃ u, us = [u] ∧ RelV x u := by
  cases r with
  | cons r1 r2 => cases r2; exact ⟨_, rfl, r1⟩
theorem vals2 {x y : V} {us : List Value} (r : Vals [x, y] us) : ∃ u w', us = [u, w'] ∧ RelV x u ∧ RelV y w' := by
  cases r with
  | cons r1 r2 =>
    cases r2 with
    | cons r3 r4 => cases r4; exact ⟨_, _, rfl, r1, r3⟩
theorem call_abs : CallR X (.builtin "abs") (fun xs H Q => ∃ i, xs = [.int i] ∧ Q (.int (if i < 0 then -i else i)) H) := by
  intro pins s σ H xs us Q I r h
  obtain ⟨i, rfl, q⟩ := h
  obtain ⟨u, rfl, t, rfl⟩ := vals1 r
  exact call_abs_int fun u tk => ⟨.int (if i < 0 then -i else i), H, I.tok _, ⟨_, rfl⟩, q⟩
theorem call_max2 (hc : X.calm = true) : CallR X (.builtin "max") (fun xs H Q => ∃ i j, xs = [.int i, .int j] ∧ Q (.int (if j > i then j else i)) H) := by
  intro pins s σ H xs us Q I r h
  obtain ⟨i, j, rfl, q⟩ := h
  obtain ⟨u, w', rfl, ⟨t, rfl⟩, ⟨t', rfl⟩⟩ := vals2 r
  refine max_two_ints (I.ok.hd hc) fun h' tk k => ⟨_, H, I.kept k, ?_, q⟩
  by_cases hj : j > i
  · rw [if_pos hj, if_pos hj]; exact ⟨_, rfl⟩
  · rw [if_neg hj, if_neg hj]; exact ⟨_, rfl⟩
theorem call_int1 : CallR X (.type "int") (fun xs H Q => (∃ i, xs = [.int i] ∧ Q (.int i) H) ∨ ∃ k, xs = [.bl k] ∧ Q (.int (if k then 1 else 0)) H) := by
  intro pins s σ H xs us Q I r h
  rcases h with ⟨i, rfl, q⟩ | ⟨k, rfl, q⟩
  · obtain ⟨u, rfl, t, rfl⟩ := vals1 r
    exact call_int_int ⟨.int i, H, I, ⟨_, rfl⟩, q⟩
  · obtain ⟨u, rfl, r1⟩ := vals1 r
    cases r1
    exact call_int_bool ⟨.int (if k then 1 else 0), H, I.tok _, ⟨_, rfl⟩, q⟩
/-- len of a str, a bytes, a list, a tuple -/
def LenV (K : PySem.W.Frag) (x : V) (H : Hp) (n : Nat) : Prop :=
  match x with
  | .str y => y.length ≤ sizeLine ∧ n = y.length
  | .byt y => y.size ≤ sizeLine ∧ n = y.size
  | .ref p => (∃ xs, SqL K H p xs ∧ n = xs.length) ∨ ∃ xs, SqT K H p xs ∧ n = xs.length
  | _ => False
theorem call_len : CallR X (.builtin "len") (fun xs H Q => ∃ x n, xs = [x] ∧ LenV X.K x H n ∧ Q (.int n) H) := by
  intro pins s σ H xs us Q I r h
  obtain ⟨x, n, rfl, e, q⟩ := h
  obtain ⟨u, rfl, rx⟩ := vals1 r
  have hl := line63
  have hs : sizeLine = 16777216 := sizeLine_eq
  cases x with
  | str y =>
    obtain ⟨t, rfl⟩ := rx
    obtain ⟨hy, e'⟩ : y.length ≤ sizeLine ∧ n = y.length := e
    subst e'
    exact len_str (by omega) ⟨.int _, H, I.tok _, ⟨_, rfl⟩, q⟩
  | byt y =>
    obtain ⟨t, rfl⟩ := rx
    obtain ⟨hy, e'⟩ : y.size ≤ sizeLine ∧ n = y.size := e
    subst e'
    exact PySem.W.len_bytes (by omega) ⟨.int _, H, I.tok _, ⟨_, rfl⟩, q⟩
  | ref p =>
    cases rx
    have e' : (∃ xs, SqL X.K H p xs ∧ n = xs.length) ∨ ∃ xs, SqT X.K H p xs ∧ n = xs.length := e
    rcases e' with ⟨xs, hx, e'⟩ | ⟨xs, hx, e'⟩
    · subst e'
      obtain ⟨its, r', pl, hz⟩ := I.list hx
      have hlen := r'.length
      exact Calls.call_len_list pl.isList (by simp only [List.size_toArray]; omega) ⟨.int xs.length, H, I.tok _, ⟨_, by simp only [List.size_toArray]; rw [hlen]⟩, q⟩
    · subst e'
      obtain ⟨its, r', pl, hz⟩ := I.tuple hx
      have hlen := r'.length
      exact len_tuple pl (by simp only [List.size_toArray]; omega) ⟨.int xs.length, H, I.tok _, ⟨_, by simp only [List.size_toArray]; rw [hlen]⟩, q⟩
  | _ => exact (show False from e).elim
end
end L2

namespace L2
open PySem PySem.Spec PyProof.Rows

/-! ### an instance, its attributes a map -/
structure ObjM (h : Heap) (x dx C : Addr) (mA : Str → Option Value) : Prop where
  obj : h.get? x = some (PySem.W.instObj C dx)
  ns : h.Ns1 dx mA
  ne : dx ≠ x

theorem lookIn_ns {h : Heap} {dx : Addr} {mA : Str → Option Value} (n : h.Ns1 dx mA) : ∃ od, h.get? dx = some od ∧ ∀ name, PySem.W.lookIn name od = some (mA name) := by
  obtain ⟨o, es, ep, ho, hd, hk, _, hm⟩ := n
  refine ⟨o, ho, fun name => ?_⟩
  have e := hm name
  unfold nsFind findBy at e
  rw [← Array.find?_toList] at e
  unfold PySem.W.lookIn
  rw [hd]
  dsimp only
  split
  · rename_i y q
    rw [q] at e
    exact congrArg some e
  · rename_i q
    rw [q] at e
    have a : es.toList.any (·.refKey) = false := by
      rw [List.any_eq_false]
      intro y hy
      obtain ⟨z, t, hkey⟩ := hk y (Array.mem_toList_iff.mp hy)
      simp [DictEntry.refKey, hkey]
    have a' : ¬ es.toList.any (·.refKey) = true := by rw [a]; exact Bool.false_ne_true
    rw [if_neg a']
    exact congrArg some e

theorem ObjM.look {h : Heap} {x dx C : Addr} {mA : Str → Option Value} (I : ObjM h x dx C mA) : ∃ od, PySem.W.InstAt h x (PySem.W.instObj C dx) C (some od) ∧ ∀ name, PySem.W.lookIn name od = some (mA name) :=
  let ⟨od, ho, hl⟩ := lookIn_ns I.ns
  ⟨od, ⟨I.obj, rfl, rfl, ho⟩, hl⟩

section
variable {prog : Program} {w : World} {A : Around} {E : Value → Shared → Prop} {s : Shared} {K : PySem.W.Frag} {x dx C f : Addr} {mA : Str → Option Value} {name : Str} {v : Value}

theorem set_map {ns : List Str} {Q : Unit → Shared → Prop} (X : K.In s.heap) (I : ObjM s.heap x dx C mA)
    (hs : PySem.W.findIn K (.ref C) "__setattr__" = some (some (.builtin "object.__setattr__"))) (hp : PySem.W.plainOver K C = true) (ht : PySem.W.takerIn K C name = some none) (hh : PySem.W.hasDictIn K C = true)
    (hw : PySem.Within mA ns) (hsz : ns.length ≤ sizeLine)
    (h : ∀ h', ObjM h' x dx C (fun y => if y = name then some v else mA y) → Heap.SameBut dx s.heap h' → Q () { s with heap := h', toks := s.toks + 2 }) :
    wpAny (model prog w) A (setAttr (.ref x) name v) Q E s := by
  obtain ⟨od, J, hl⟩ := I.look
  refine PySem.W.set_plain X J hs (PySem.W.osa_open (s := { s with toks := s.toks + 1 }) (r := none) X J hp ht fun b => ?_)
  obtain ⟨cd, hc, hd'⟩ := PySem.W.any_some hh
  have hx : s.heap.get? x = some ⟨.ref C, some dx, .plain, #[]⟩ := I.obj
  refine wpAny_bind (wpAny_pure (wpAny_bind (wpAny_bind (wpAny_loadPart hx (wpAny_bind (PySem.W.Looks.here (s := { s with toks := s.toks + 1 }) (PySem.W.looks_clsIn X hc) ?_))))))
  rw [hd']
  refine wpAny_pure (a := some dx) (wpAny_bind (wpAny_pure (wpAny_bind ?_)))
  refine wpAny_nsSet1 (s := { s with toks := s.toks + 1 }) I.ns fun h' hn2 hs2 => ?_
  obtain ⟨oD, esD, epD, hoD, hdD, hcD⟩ := hn2.count (PySem.Within.cons name v hw)
  refine wpAny_bind (wpAny_lookBehind hoD (by rw [hdD]; exact pastItsLine_dict (Nat.le_trans hcD (by rw [List.length_cons]; omega))) ?_)
  exact wpAny_pure (h _ ⟨(hs2.2 _ (Ne.symm I.ne)).trans I.obj, hn2, I.ne⟩ hs2)

/-- C(..): the dict at the heap's end, the instance behind it; then its __init__ -/
theorem make_map {R : Result → Shared → Prop} {vs : List Value} {kw : List (Str × Value)} (X : K.In s.heap) (hm : PySem.W.makesIn K C = true)
    (hi : PySem.W.findIn K (.ref C) "__init__" = some (some (.ref f))) (hf : PySem.W.typeIn K (.ref f) = some (.type "function"))
    (h : codeAny (model prog w) (A.under (.builtin "type.__call__" ⟨.ref C :: vs, kw⟩)) (.call (.ref f) ⟨.ref (s.heap.objs.size + 1) :: vs, kw⟩) (PySem.W.InitBack (s.heap.objs.size + 1) R)
      { s with heap := (s.heap.push PySem.W.emptyDict).push (PySem.W.instObj C s.heap.objs.size) }) :
    codeAny (model prog w) A (.call (.ref C) ⟨vs, kw⟩) R s := by
  obtain ⟨hh, g, d, t, os⟩ := s
  exact PySem.W.make_core (PySem.W.makes_of X hm) (PySem.W.looks_findIn X hi) (fun self => PySem.W.bind_fn X self hf) (.inl rfl) h
end

/-! ### the attributes as a list of pairs -/
def putF (f : Str) (v : V) : List (Str × V) → List (Str × V)
  | [] => [(f, v)]
  | (g, x) :: r => if g = f then (g, v) :: r else (g, x) :: putF f v r
theorem lookup_putF (f g : Str) (v : V) : ∀ fs : List (Str × V), (putF f v fs).lookup g = if g = f then some v else fs.lookup g
  | [] => by
    show List.lookup g [(f, v)] = _
    by_cases h : g = f
    · have hb : (g == f) = true := beq_iff_eq.mpr h
      simp only [List.lookup, hb, if_pos h]
    · have hb : (g == f) = false := beq_eq_false_iff_ne.mpr h
      simp only [List.lookup, hb, if_neg h]
  | (k, x) :: r => by
    have ih := lookup_putF f g v r
    rw [show putF f v ((k, x) :: r) = (if k = f then (k, v) :: r else (k, x) :: putF f v r) from rfl]
    by_cases hk : k = f
    · rw [if_pos hk]
      by_cases h : g = k
      · have hb : (g == k) = true := beq_iff_eq.mpr h
        simp only [List.lookup, hb, if_pos (h.trans hk)]
      · have hb : (g == k) = false := beq_eq_false_iff_ne.mpr h
        simp only [List.lookup, hb, if_neg (fun e : g = f => h (e.trans hk.symm))]
    · rw [if_neg hk]
      by_cases h : g = k
      · have hb : (g == k) = true := beq_iff_eq.mpr h
        simp only [List.lookup, hb, if_neg (fun e : g = f => hk (h.symm.trans e))]
      · have hb : (g == k) = false := beq_eq_false_iff_ne.mpr h
        simp only [List.lookup, hb]
        exact ih
theorem keys_putF (f : Str) (v : V) : ∀ fs : List (Str × V), f ∈ (putF f v fs).map (·.1) ∧ ∀ g, g ∈ fs.map (·.1) → g ∈ (putF f v fs).map (·.1)
  | [] => ⟨by simp [putF], fun g h => by simp at h⟩
  | (k, x) :: r => by
    obtain ⟨i1, i2⟩ := keys_putF f v r
    rw [show putF f v ((k, x) :: r) = (if k = f then (k, v) :: r else (k, x) :: putF f v r) from rfl]
    by_cases hk : k = f
    · rw [if_pos hk]
      subst hk
      exact ⟨by simp, fun g h => by simpa using h⟩
    · rw [if_neg hk]
      refine ⟨?_, fun g h => ?_⟩
      · rw [List.map_cons]
        exact List.mem_cons_of_mem _ i1
      · rw [List.map_cons] at h ⊢
        rcases List.mem_cons.mp h with e | e
        · exact List.mem_cons.mpr (.inl e)
        · exact List.mem_cons_of_mem _ (i2 g e)
theorem length_putF (f : Str) (v : V) : ∀ fs : List (Str × V), (putF f v fs).length ≤ fs.length + 1
  | [] => by simp [putF]
  | (k, x) :: r => by
    have ih := length_putF f v r
    rw [show putF f v ((k, x) :: r) = (if k = f then (k, v) :: r else (k, x) :: putF f v r) from rfl]
    by_cases hk : k = f
    · rw [if_pos hk, List.length_cons, List.length_cons]; omega
    · rw [if_neg hk, List.length_cons, List.length_cons]; omega

section
variable {P : Program} {w : World} {H H' : Hp} {h h' : Heap} {a C dx : Addr} {fs fs' : List (Str × V)}
theorem ins_get (hok : HOk P w H h) (e : H a = some (.ins C dx fs)) : ∃ mA, ObjM h a dx C mA ∧ (∀ f, RelO (fs.lookup f) (mA f)) ∧ PySem.Within mA (fs.map (·.1)) ∧ fs.length ≤ 1000 ∧ H dx = some (.own a) := by
  obtain ⟨d, z, ne, ob, mA, n, r, q⟩ := (show ObjOk P w H h a (.ins C dx fs) from hok a _ e)
  exact ⟨mA, ⟨ob, n, ne⟩, r, q, z, d⟩
end

/-! ### what of the text a class must have -/
structure Cls (K : PySem.W.Frag) (C : Addr) : Prop where
  pg : PySem.W.plainGet K C Str.empty = true
  hd : PySem.W.hasDictIn K C = true
  po : PySem.W.plainOver K C = true
  sa : PySem.W.findIn K (.ref C) "__setattr__" = some (some (.builtin "object.__setattr__"))
theorem Cls.get {K : PySem.W.Frag} {C : Addr} (c : Cls K C) (f : Str) : PySem.W.plainGet K C f = true := c.pg
/-- no class of it has the name -/
def NoAttr (K : PySem.W.Frag) (C : Addr) (f : Str) : Prop := PySem.W.findIn K (.ref C) f = some none
theorem NoAttr.taker {K : PySem.W.Frag} {C : Addr} {f : Str} (n : NoAttr K C f) : PySem.W.takerIn K C f = some none := by
  unfold PySem.W.takerIn
  rw [show PySem.W.findIn K (.ref C) f = some none from n]
  rfl
/-- a constant of the class -/
structure Con (K : PySem.W.Frag) (C : Addr) (f : Str) (v : V) (u : Value) : Prop where
  at_ : PySem.W.findIn K (.ref C) f = some (some u)
  rel : RelV v u
  get : PySem.W.specialIn K u "__get__" = some none
  cp : PySem.W.copiedNames.contains f = false
/-- a method: a plain def of the class or of one above it -/
structure Meth (K : PySem.W.Frag) (C : Addr) (m : Str) (f : Addr) : Prop where
  at_ : PySem.W.findIn K (.ref C) m = some (some (.ref f))
  fn : PySem.W.isFn K (.ref f) = true
  kp : PySem.W.keepIn K (.ref f) = true

section
variable {X : Cx} {pins : List (Addr × Obj)} {σ : St} {H : Hp} {s : Shared} {a C dx : Addr} {fs : List (Str × V)} {f : Str} {v : V} {A : Around} {E : Value → Shared → Prop}

theorem setattr_ok {y : V} {u : Value} {Q : Unit → Shared → Prop} (I : Inv X pins σ H s) (e : H a = some (.ins C dx fs)) (c : Cls X.K C) (n : NoAttr X.K C f) (hl : fs.length < 1000) (ry : RelV y u)
    (h : ∀ s', Inv X pins σ (upd H a (.ins C dx (putF f y fs))) s' → Q () s') : wpAny (model X.prog X.w) A (setAttr (.ref a) f u) Q E s := by
  obtain ⟨mA, O, r, wi, _, ho⟩ := ins_get I.hok e
  have hz : (fs.map (·.1)).length ≤ sizeLine := by rw [List.length_map, sizeLine_eq]; omega
  refine set_map I.kIn O c.sa c.po n.taker c.hd wi hz fun h' O' sb => h _ ?_
  have hd : ∃ o, h'.get? dx = some o := let ⟨o, _, _, e', _⟩ := O'.ns; ⟨o, e'⟩
  refine I.write (x := a) (e := dx) (by rw [e]; exact True.intro) (.inr ho) (fun b q hb z => (sb.2 b hb).trans z) hd ?_
  refine ⟨by rw [upd_ne O.ne]; exact ho, ?_, O.ne, O'.obj, _, O'.ns, fun g => ?_, fun g hg => ?_⟩
  · have := length_putF f y fs; omega
  · show RelO ((putF f y fs).lookup g) (if g = f then some u else mA g)
    rw [lookup_putF]
    by_cases q : g = f
    · rw [if_pos q, if_pos q]; exact ry
    · rw [if_neg q, if_neg q]; exact r g
  · by_cases q : g = f
    · rw [q]; exact (keys_putF f y fs).1
    · refine (keys_putF f y fs).2 g (wi g fun z => hg ?_)
      show (if g = f then some u else mA g) = none
      rw [if_neg q]; exact z

/-- a new instance, tracked, without attributes -/
theorem Inv.made (I : Inv X pins σ H s) : Inv X pins σ (upd (upd H s.heap.objs.size (.own (s.heap.objs.size + 1))) (s.heap.objs.size + 1) (.ins C s.heap.objs.size []))
    { s with heap := (s.heap.push PySem.W.emptyDict).push (PySem.W.instObj C s.heap.objs.size) } := by
  have e1 : (s.heap.push PySem.W.emptyDict).get? s.heap.objs.size = some PySem.W.emptyDict := Heap.get?_push_size s.heap rfl
  have e2 : ((s.heap.push PySem.W.emptyDict).push (PySem.W.instObj C s.heap.objs.size)).get? (s.heap.objs.size + 1) = some (PySem.W.instObj C s.heap.objs.size) := by
    have := Heap.get?_push_size (s.heap.push PySem.W.emptyDict) (o := PySem.W.instObj C s.heap.objs.size) rfl
    rwa [Heap.size_push] at this
  have e3 : (s.heap.push PySem.W.emptyDict).Ns s.heap.objs.size (fun _ => none) := ⟨PySem.W.emptyDict, #[], _, e1, rfl, (fun e he => absurd he (by simp)), fun _ => rfl⟩
  have I1 := I.laid (a := s.heap.objs.size) (o := .own (s.heap.objs.size + 1)) (h' := s.heap.push PySem.W.emptyDict) (t' := s.toks) (fun b u q => Heap.get?_push_of_some _ q) (Nat.le_refl _) ⟨_, e1⟩
  refine I1.laid (a := s.heap.objs.size + 1) (o := .ins C s.heap.objs.size []) (t' := s.toks) (fun b u q => Heap.get?_push_of_some _ q) (Nat.le_of_eq (Heap.size_push _ _)) ?_
  have ne : s.heap.objs.size ≠ s.heap.objs.size + 1 := Nat.ne_of_lt (Nat.lt_succ_self _)
  refine ⟨by rw [upd_ne ne, upd_same], Nat.zero_le _, ne, e2, fun _ => none, (Heap.Ns1.of_empty e3).at fun o q => Heap.get?_push_of_some _ q, fun _ => True.intro, fun y hy => absurd rfl hy⟩

end

/-! ### readings and rules -/
/-- e.f = value -/
def sFld (K : PySem.W.Frag) (ta tv : TE) (f : Str) : TS := fun D σ H => tv σ H fun y H1 => ta σ H1 fun x H2 => ∃ a C dx fs, x = .ref a ∧ H2 a = some (.ins C dx fs) ∧ Cls K C ∧ NoAttr K C f ∧ fs.length < 1000 ∧
  D.nx σ (upd H2 a (.ins C dx (putF f y fs)))
section
variable {X : Cx} {o e value : Expr} {f : Str} {pos pos' tpos : Pos} {ta tv : TE}
theorem ps_fld (ha : PE X o ta) (hv : PE X value tv) (hs : swapsWith value (some (.Attribute o f pos')) pos.line X.env = pure false) : PS X (.Assign [.Attribute o f pos'] value pos) (sFld X.K ta tv f) := by
  intro pins s σ H D I h
  refine plainObj_wpAny_Assign_Attribute (thn (hv pins s σ H _ I h) fun u s1 ⟨y, H1, I1, ry, q⟩ => thn (ha pins s1 σ H1 _ I1 q) fun ov s2 ⟨x, H2, I2, rx, a, C, dx, fs, ex, ea, c, n, l, q2⟩ => ?_) hs
  subst ex
  obtain rfl : ov = Value.ref a := rx
  exact setattr_ok I2 ea c n l ry fun s3 I3 => ⟨σ, _, I3, q2⟩
end

/-! ### isinstance -/
section
variable {X : Cx} {pins : List (Addr × Obj)} {σ : St} {H : Hp} {s : Shared} {A : Around} {E : Value → Shared → Prop} {Q : Value → Shared → Prop} {c : Value} {b : Bool}
/-- the type of a value, as the fragment's deciders take it; for an instance its class -/
inductive TyOf (K : PySem.W.Frag) (H : Hp) : V → Value → Prop where
  | non : TyOf K H .non (.type "NoneType")
  | bl (x : Bool) : TyOf K H (.bl x) (.type "bool")
  | int (i : Int) : TyOf K H (.int i) (.type "int")
  | str (x : Str) : TyOf K H (.str x) (.type "str")
  | flt (x : UInt64) : TyOf K H (.flt x) (.type "float")
  | lst {a : Addr} {xs : List V} (e : H a = some (.lst xs)) : TyOf K H (.ref a) (.type "list")
  | frz {a : Addr} {o : Obj} {xs : List V} (e : H a = some (.frz o (.lst xs))) : TyOf K H (.ref a) (.type "list")
  | tup {a : Addr} {xs : List V} (e : H a = some (.tup xs)) : TyOf K H (.ref a) (.type "tuple")
  | dK {a : Addr} {kvs : List (Key × V)} (e : H a = some (.dK kvs)) : TyOf K H (.ref a) (.type "dict")
  | dT {a : Addr} {kvs : List (List Key × V)} (e : H a = some (.dT kvs)) : TyOf K H (.ref a) (.type "dict")
  | ins {a C dx : Addr} {fs : List (Str × V)} (e : H a = some (.ins C dx fs)) (cl : Cls K C) (ha : PySem.W.findIn K (.ref C) "__class__" = some (some (.builtin "object.__class__")))
      (hn : PySem.W.specialIn K (.builtin "object.__class__") "__get__" = some (some (.builtin "getset_descriptor.__get__"))) (htk : PySem.W.takesIn K (.builtin "object.__class__") = some true)
      (hm : PySem.W.mroIn K C (.type "object") = some true) : TyOf K H (.ref a) (.ref C)
/-- isinstance(x, c) for one class c, a built-in or an own one: kitOne's answer -/
theorem isinst_ok {x : V} {u t : Value} (I : Inv X pins σ H s) (rx : RelV x u) (ty : TyOf X.K H x t) (e : PySem.W.kitOne X.K t c = some b) (h : ∀ tk, Q (.bool b) { s with toks := tk }) :
    wpAny (model X.prog X.w) A (call (.builtin "isinstance") [u, c]) Q E s := by
  cases ty with
  | non => cases (show u = Value.none from rx); exact PySem.W.kia_one PySem.W.kitx_none I.kIn True.intro e (fun z => nomatch z) h
  | bl y => cases (show u = Value.bool y from rx); exact PySem.W.kia_one PySem.W.kitx_bool I.kIn True.intro e (fun z => nomatch z) h
  | int i => obtain ⟨t, q⟩ := (show ∃ t, u = Value.int i t from rx); cases q; exact PySem.W.kia_one PySem.W.kitx_int I.kIn True.intro e (fun z => nomatch z) h
  | str y => obtain ⟨t, q⟩ := (show ∃ t, u = Value.str y t from rx); cases q; exact PySem.W.kia_one PySem.W.kitx_str I.kIn True.intro e (fun z => nomatch z) h
  | flt y => obtain ⟨t, q⟩ := (show ∃ t, u = Value.float y t from rx); cases q; exact PySem.W.kia_one PySem.W.kitx_float I.kIn True.intro e (fun z => nomatch z) h
  | @lst a xs ea =>
    cases (show u = Value.ref a from rx)
    obtain ⟨_, _, n, _, h1⟩ := (show ObjOk X.prog X.w H s.heap a (.lst xs) from I.hok a _ ea)
    exact PySem.W.kia_one PySem.W.kitx_list I.kIn ⟨_, h1, rfl⟩ e (fun z => nomatch z) h
  | @frz a ob xs ea =>
    cases (show u = Value.ref a from rx)
    obtain ⟨_, _, _, n, _, h1⟩ := (show ObjOk X.prog X.w H s.heap a (.frz ob (.lst xs)) from I.hok a _ ea)
    exact PySem.W.kia_one PySem.W.kitx_list I.kIn ⟨_, h1, rfl⟩ e (fun z => nomatch z) h
  | @tup a xs ea =>
    cases (show u = Value.ref a from rx)
    obtain ⟨_, _, _, p⟩ := (show ObjOk X.prog X.w H s.heap a (.tup xs) from I.hok a _ ea)
    obtain ⟨o, h1, h2, _⟩ := p
    exact PySem.W.kia_one PySem.W.kitx_tuple I.kIn ⟨o, h1, h2⟩ e (fun z => nomatch z) h
  | @dK a kvs ea =>
    cases (show u = Value.ref a from rx)
    obtain ⟨_, _, vs, _, p⟩ := (show ObjOk X.prog X.w H s.heap a (.dK kvs) from I.hok a _ ea)
    obtain ⟨o, es, ep, h1, h2, _⟩ := p
    exact PySem.W.kia_one PySem.W.kitx_dict I.kIn ⟨o, h1, h2.1⟩ e (fun z => nomatch z) h
  | @dT a kvs ea =>
    cases (show u = Value.ref a from rx)
    obtain ⟨_, _, xs, _, o, es, ep, h1, h2, _⟩ := (show ObjOk X.prog X.w H s.heap a (.dT kvs) from I.hok a _ ea)
    exact PySem.W.kia_one PySem.W.kitx_dict I.kIn ⟨o, h1, h2.1⟩ e (fun z => nomatch z) h
  | @ins a C dx fs ea cl ha hn htk hm =>
    cases (show u = Value.ref a from rx)
    obtain ⟨mA, O, _⟩ := ins_get I.hok ea
    obtain ⟨od, J, _⟩ := O.look
    exact PySem.W.kia_one (PySem.W.kitx_own (cl.get _) cl.hd ha hn htk hm) I.kIn J e (fun z => nomatch z) h
end
end L2

namespace L2
open PySem PySem.Spec PyProof.Rows

/-! ### room -/
structure Room (k : Nat) (A : Around) : Prop where
  hd : A.handled = none
  dp : A.depth + 3 * k + 5 < recursionLimit
  un : A.units + 16 * k + 200 < cLine
theorem Room.mono {j k : Nat} {A : Around} (r : Room k A) (h : j ≤ k) : Room j A := ⟨r.hd, by have := r.dp; omega, by have := r.un; omega⟩
theorem Room.deeper {k : Nat} {A : Around} (r : Room (k + 1) A) (env : Env) : Room k (A.deeper env) :=
  ⟨r.hd, by have := r.dp; show A.depth + 1 + 3 * k + 5 < _; omega, by have := r.un; show A.units + 3 + 16 * k + 200 < _; omega⟩
theorem make_depth {A : Around} {C : Addr} {us : List Value} {kw : List (Str × Value)} : (A.under (.builtin "type.__call__" ⟨.ref C :: us, kw⟩)).depth = A.depth + 1 := by
  first | rfl | simp [Around.under, Code.weight, Code.isCreation, Code.isGuard, Code.isCaller, Code.frames, Code.isFrame, guardIds]
theorem make_units {A : Around} {C : Addr} {us : List Value} {kw : List (Str × Value)} : (A.under (.builtin "type.__call__" ⟨.ref C :: us, kw⟩)).units = A.units + 1 := by
  first | rfl | simp [Around.under, Code.cUnits, Code.frames, Code.isFrame]
theorem Room.make {k : Nat} {A : Around} (r : Room (k + 1) A) (C : Addr) (us : List Value) (kw : List (Str × Value)) : Room k (A.under (.builtin "type.__call__" ⟨.ref C :: us, kw⟩)) :=
  ⟨r.hd, by have := r.dp; rw [make_depth]; omega, by have := r.un; rw [make_units]; omega⟩
theorem Room.depth {k : Nat} {A : Around} (r : Room k A) : A.depth < recursionLimit := by have := r.dp; omega
theorem Room.units {k : Nat} {A : Around} (r : Room k A) : A.units + 64 < cLine := by have := r.un; omega
/-! ### argument lists and displays -/
def tNil : TA := fun _ H Q => Q [] H
def tCons (ta : TE) (tr : TA) : TA := fun σ H Q => ta σ H fun x H1 => tr σ H1 fun xs H2 => Q (x :: xs) H2
section
variable {X : Cx} {e : Expr} {es : List Expr} {te : TE} {t : TA} {pos : Pos}
theorem pa_nil : PA X [] tNil := fun _ _ _ _ H Q I h => Calls.spliced_nil ⟨[], H, I, .nil, h⟩
theorem pa_cons (ha : PE X e te) (hr : PA X es t) (hs : starEach (e :: es) X.env = (false, eval e X.env) :: starEach es X.env := by rfl) : PA X (e :: es) (tCons te t) := by
  intro pos pins s σ H Q I h
  rw [hs]
  show wpAny _ _ (spliced ((false, eval e X.env) :: backTo pos (starEach es X.env))) _ _ s
  refine Calls.spliced_cons (thn (ha pins s σ H _ I h) fun u s1 ⟨x, H1, I1, r1, q1⟩ => ?_)
  exact thn (hr pos pins s1 σ H1 _ I1 q1) fun us s2 ⟨xs, H2, I2, r2, q2⟩ => ⟨x :: xs, H2, I2, .cons r1 r2, q2⟩

/-- a tuple, a list of written items -/
def tTup (t : TA) : TE := fun σ H Q => t σ H fun xs H1 => xs.length ≤ sizeLine ∧ ∀ p, H1 p = none → Q (.ref p) (upd H1 p (.tup xs))
def tLst (t : TA) : TE := fun σ H Q => t σ H fun xs H1 => xs.length ≤ sizeLine ∧ ∀ p, H1 p = none → Q (.ref p) (upd H1 p (.lst xs))
theorem pe_tup {x1} (h : PA X es t) : PE X (.Tuple es x1 pos) (tTup t) := by
  intro pins s σ H Q I hq
  refine wpAny_Tuple_spliced (thn (h pos pins s σ H _ I hq) fun us s1 ⟨xs, H1, I1, r, z, q⟩ => ⟨by rw [← r.length]; exact z, ?_⟩)
  have hf : H1 s1.heap.objs.size = none := I1.hok.fresh (Nat.le_refl _)
  refine ⟨.ref s1.heap.objs.size, upd H1 s1.heap.objs.size (.tup xs), I1.laid (t' := s1.toks) (fun b u e => Heap.get?_push_of_some _ e) (Nat.le_refl _) ?_, rfl, q _ hf⟩
  exact ⟨z, us, r, ⟨_, Heap.get?_push_size _ rfl, rfl, _, rfl⟩⟩
theorem pe_lst (h : PA X es t) : PE X (.List es pos) (tLst t) := by
  intro pins s σ H Q I hq
  refine wpAny_List_spliced (thn (h pos pins s σ H _ I hq) fun us s1 ⟨xs, H1, I1, r, z, q⟩ => ⟨by rw [← r.length]; exact z, ?_⟩)
  have hf : H1 s1.heap.objs.size = none := I1.hok.fresh (Nat.le_refl _)
  refine ⟨.ref s1.heap.objs.size, upd H1 s1.heap.objs.size (.lst xs), I1.laid (t' := s1.toks) (fun b u e => Heap.get?_push_of_some _ e) (Nat.le_refl _) ?_, rfl, q _ hf⟩
  exact ⟨z, us, 0, r, Heap.get?_push_size _ rfl⟩
end

/-! ### what a def promises -/
/-- a def's promise: the bound arguments in the parameters' order, the heap, the wanted end, the wanted exception -/
abbrev Sp := List V → Hp → VK → XK → Prop
/-- how an exception lies behind a call (file 08 gives it): the callers' frames, abstract heap and state ahead of the call, the wish, the exception, the state -/
abbrev CXT := List Env → Hp → Shared → XK → Value → Shared → Prop

/-- the state at a call -/
structure Env0 (P : Program) (w : World) (K : PySem.W.Frag) (mg : Str → Option Value) (base : Heap) (A : Around) (outer : List Env) (s : Shared) (H : Hp) : Prop where
  frames : A.frames = some outer
  mod : Mod K mg base
  bs : ∀ b o, base.get? b = some o → s.heap.get? b = some o ∧ H b = none
  bsz : base.objs.size ≤ s.heap.objs.size
  funs : s.heap.FunFrames base outer
  frf : ∀ b ∈ frs outer, H b = none
  hok : HOk P w H s.heap
  bare : AllBare s.gens
/-- a call's end -/
def CE (outer : List Env) (P : Program) (w : World) (H : Hp) (s : Shared) (Q : VK) (u : Value) (s' : Shared) : Prop :=
  ∃ v H', s'.os = s.os ∧ AllBare s'.gens ∧ Un (frs outer) [] H H' s.heap s'.heap ∧ HOk P w H' s'.heap ∧ RelV v u ∧ Q v H'
def CR (CX : CXT) (outer : List Env) (P : Program) (w : World) (H : Hp) (s : Shared) (Q : VK) (E : XK) (r : Result) (s' : Shared) : Prop :=
  match r with
  | .ok (.ret u) => CE outer P w H s Q u s'
  | .ok _ => False
  | .error e => CX outer H s E e s'
structure FnOk (P : Program) (w : World) (K : PySem.W.Frag) (mg : Str → Option Value) (base : Heap) (CX : CXT) (k : Nat) (f : Addr) (fd : FuncData) (ps : List Str) (sp : Sp) : Prop where
  len : ∀ vs H Q E, sp vs H Q E → vs.length = ps.length
  run : ∀ (A : Around) (outer : List Env) (s : Shared) (H : Hp) (args : Args) (us : List Value) (vs : List V) (Q : VK) (E : XK), Room k A → Env0 P w K mg base A outer s H → BindsTo s fd args (ps.zip us) → Vals vs us → sp vs H Q E →
    codeAny (model P w) A (.call (.ref f) args) (CR CX outer P w H s Q E) s
theorem Env0.make {P : Program} {w : World} {K : PySem.W.Frag} {mg : Str → Option Value} {base : Heap} {A : Around} {outer : List Env} {s : Shared} {H : Hp} (e : Env0 P w K mg base A outer s H) (C : Addr) (us : List Value) (kw : List (Str × Value)) :
    Env0 P w K mg base (A.under (.builtin "type.__call__" ⟨.ref C :: us, kw⟩)) outer s H := ⟨by first | exact e.frames | (simpa [Around.under, Code.envs, Code.isFrame, pushEnvs] using e.frames), e.mod, e.bs, e.bsz, e.funs, e.frf, e.hok, e.bare⟩
section
variable {X : Cx} {pins : List (Addr × Obj)} {σ : St} {H : Hp} {s s' : Shared}
/-- from a body: what a callee wants -/
theorem Inv.env0 (I : Inv X pins σ H s) : Env0 X.prog X.w X.K X.mg X.base X.A X.stack s H :=
  ⟨I.ok.frames, I.ok.mod, I.bs, Nat.le_trans I.ok.bsz I.sz, I.stack, I.stkFree, I.hok, I.bare⟩
/-- behind a call -/
theorem Inv.after {Q : VK} {u : Value} (I : Inv X pins σ H s) (h : CE X.stack X.prog X.w H s Q u s') : EP X pins σ Q u s' := by
  obtain ⟨v, H', os, bare, un, hok, r, q⟩ := h
  obtain ⟨hh, g, d, t, os'⟩ := s'
  obtain rfl : os' = s.os := os
  exact ⟨v, H', I.call (h' := hh) (g' := g) (d' := d) (t' := t) (ch := []) un hok bare (fun b z => absurd z (by simp)), r, q⟩
end

/-! ### calls -/
/-- f(..): the written arguments, then the defaults dvs; E: what is wanted of an exception -/
def tCall (sp : Sp) (dvs : List V) (E : XK) (t : TA) : TE := fun σ H Q => t σ H fun vs H1 => sp (vs ++ dvs) H1 Q E
/-- C(..): a new instance and its dict, then __init__ -/
def tMake (C : Addr) (sp : Sp) (dvs : List V) (E : XK) (t : TA) : TE := fun σ H Q => t σ H fun vs H1 => ∀ x dx, H1 x = none → H1 dx = none → dx ≠ x →
  sp (.ref x :: (vs ++ dvs)) (upd (upd H1 dx (.own x)) x (.ins C dx [])) (fun v H2 => v = .non ∧ Q (.ref x) H2) E

/-- how the parameters are bound: us the positional arguments, kw the keywords' values by name, ds the defaults that fill up -/
def Binds (K : PySem.W.Frag) (fd : FuncData) (ps : List Str) (ds : List Value) : Prop :=
  ∀ (s : Shared) (us : List Value), K.In s.heap → (us ++ ds).length = ps.length → BindsTo s fd ⟨us, []⟩ (ps.zip (us ++ ds))
/-- every parameter is given -/
theorem Binds.all {K : PySem.W.Frag} {fd : FuncData} {ps : List Str} (h : ∀ us : List Value, us.length = ps.length → bindArgs fd ⟨us, []⟩ = pure (ps.zip us)) : Binds K fd ps [] := fun s us _ hl => by
  rw [List.append_nil] at hl ⊢
  exact .of_eq (h us hl)

/-- an exception of a callee reaches what this body wants of exceptions -/
def Passes (CX : CXT) (X : Cx) (E : XK) : Prop := ∀ (pins : List (Addr × Obj)) (σ : St) (H : Hp) (s : Shared) (e : Value) (s' : Shared), Inv X pins σ H s → CX X.stack H s E e s' → X.xe e s'

section
variable {X : Cx} {CX : CXT} {k : Nat} {f C : Addr} {fd : FuncData} {ps : List Str} {sp : Sp} {dvs : List V} {ds : List Value} {E : XK} {x m : Str} {p pos apos : Pos} {e o : Expr} {es : List Expr} {ta : TE} {t : TA}

/-- the callee runs -/
theorem run_fn {pins : List (Addr × Obj)} {σ : St} {H : Hp} {s : Shared} {Q : VK} {us : List Value} {vs : List V} (F : FnOk X.prog X.w X.K X.mg X.base CX k f fd ps sp) (hr : Room k X.A) (hb : Binds X.K fd ps ds) (hd : Vals dvs ds) (hx : Passes CX X E)
    (I : Inv X pins σ H s) (r : Vals vs us) (h : sp (vs ++ dvs) H Q E) : wpAny (model X.prog X.w) X.A (call (.ref f) us) (EP X pins σ Q) X.xe s := by
  have r2 : Vals (vs ++ dvs) (us ++ ds) := r.append hd
  have hl : (us ++ ds).length = ps.length := by rw [← r2.length]; exact F.len _ _ _ _ h
  refine wpAny_call (codeAny_mono (F.run X.A X.stack s H ⟨us, []⟩ (us ++ ds) (vs ++ dvs) Q E hr I.env0 (hb s us I.kIn hl) r2 h) fun r s' hq => ?_)
  cases r with
  | error e => exact hx pins σ H s e s' I hq
  | ok fl =>
    cases fl with
    | ret u => exact I.after hq
    | next => exact False.elim hq
    | brk => exact False.elim hq
    | cont => exact False.elim hq

theorem pe_call (F : FnOk X.prog X.w X.K X.mg X.base CX k f fd ps sp) (hr : Room k X.A) (hg : Gl X x) (hm : X.mg x = some (.ref f)) (hk : PySem.W.keepIn X.K (.ref f) = true) (hb : Binds X.K fd ps ds) (hd : Vals dvs ds) (hx : Passes CX X E)
    (ha : PA X (e :: es) t) (hdb : (x == ("__debug__" : Str)) = false := by decide) (he : starEach (e :: es) X.env = (false, eval e X.env) :: starEach es X.env := by rfl) (hpl : (backTo pos (starEach es X.env)).any (·.1) = false := by rfl) :
    PE X (.Call (.Name x p) (e :: es) [] pos) (tCall sp dvs E t) := by
  intro pins s σ H Q I h
  refine wpAny_Call_Name_kw (ld_glob I hg hm ?_ hdb)
  refine PySem.W.callWith_K (h₀ := X.base) I.ok.mod.kin hk (thn (ha pos pins s σ H _ I h) fun us s1 ⟨vs, H1, I1, r, q⟩ => ⟨I1.kIn, ?_⟩) he hpl
  exact run_fn F hr hb hd hx I1 r q
/-- what a class must have to be made -/
structure Mk (K : PySem.W.Frag) (C f : Addr) : Prop where
  makes : PySem.W.makesIn K C = true
  init : PySem.W.findIn K (.ref C) "__init__" = some (some (.ref f))
  fn : PySem.W.isFn K (.ref f) = true
  kp : PySem.W.keepIn K (.ref C) = true

theorem run_make {pins : List (Addr × Obj)} {σ : St} {H : Hp} {s : Shared} {Q : VK} {us : List Value} {vs : List V} (M : Mk X.K C f) (F : FnOk X.prog X.w X.K X.mg X.base CX k f fd ps sp) (hr : Room (k + 1) X.A) (hb : Binds X.K fd ps ds) (hd : Vals dvs ds)
    (hx : Passes CX X E) (I : Inv X pins σ H s) (r : Vals vs us)
    (h : ∀ x dx, H x = none → H dx = none → dx ≠ x → sp (.ref x :: (vs ++ dvs)) (upd (upd H dx (.own x)) x (.ins C dx [])) (fun v H2 => v = .non ∧ Q (.ref x) H2) E) :
    wpAny (model X.prog X.w) X.A (call (.ref C) us) (EP X pins σ Q) X.xe s := by
  have hq := h (s.heap.objs.size + 1) s.heap.objs.size (I.hok.fresh (Nat.le_succ _)) (I.hok.fresh (Nat.le_refl _)) (Nat.ne_of_lt (Nat.lt_succ_self _))
  have I2 := Inv.made (C := C) I
  have r2 : Vals (V.ref (s.heap.objs.size + 1) :: (vs ++ dvs)) (Value.ref (s.heap.objs.size + 1) :: (us ++ ds)) := .cons rfl (r.append hd)
  have hl : (Value.ref (s.heap.objs.size + 1) :: us ++ ds).length = ps.length := by
    have e := r2.length
    rw [F.len _ _ _ _ hq] at e
    exact e.symm
  refine wpAny_call (make_map (f := f) I.kIn M.makes M.init (beq_iff_eq.mp M.fn) (codeAny_mono (F.run _ X.stack _ _ ⟨Value.ref (s.heap.objs.size + 1) :: us, []⟩ (Value.ref (s.heap.objs.size + 1) :: (us ++ ds)) _ _ E (hr.make C us [])
    (I2.env0.make C us []) (hb _ (Value.ref (s.heap.objs.size + 1) :: us) I2.kIn hl) r2 hq) fun r s' hq' => ?_))
  cases r with
  | error e => exact hx pins σ _ _ e s' I2 hq'
  | ok fl =>
    cases fl with
    | ret u =>
      obtain ⟨v, H', I3, rv, ev, q3⟩ := I2.after hq'
      subst ev
      exact ⟨rv, ⟨V.ref (s.heap.objs.size + 1), H', I3, rfl, q3⟩⟩
    | next => exact False.elim hq'
    | brk => exact False.elim hq'
    | cont => exact False.elim hq'
theorem pe_make (M : Mk X.K C f) (F : FnOk X.prog X.w X.K X.mg X.base CX k f fd ps sp) (hr : Room (k + 1) X.A) (hg : Gl X x) (hm : X.mg x = some (.ref C)) (hb : Binds X.K fd ps ds) (hd : Vals dvs ds) (hx : Passes CX X E)
    (ha : PA X (e :: es) t) (hdb : (x == ("__debug__" : Str)) = false := by decide) (he : starEach (e :: es) X.env = (false, eval e X.env) :: starEach es X.env := by rfl) (hpl : (backTo pos (starEach es X.env)).any (·.1) = false := by rfl) :
    PE X (.Call (.Name x p) (e :: es) [] pos) (tMake C sp dvs E t) := by
  intro pins s σ H Q I h
  refine wpAny_Call_Name_kw (ld_glob I hg hm ?_ hdb)
  refine PySem.W.callWith_K (h₀ := X.base) I.ok.mod.kin M.kp (thn (ha pos pins s σ H _ I h) fun us s1 ⟨vs, H1, I1, r, q⟩ => ⟨I1.kIn, ?_⟩) he hpl
  exact run_make M F hr hb hd hx I1 r q
end

/-! ### keywords -/
section
variable {X : Cx} {CX : CXT} {k : Nat} {f C : Addr} {fd : FuncData} {ps ks : List Str} {sp : Sp} {E : XK} {x m : Str} {p pos apos kpos : Pos} {e o : Expr} {es : List Expr} {kws : List Keyword} {te ta : TE} {t tk : TA} {nm : Option Str}
/-- how a call with keywords binds: g puts the positional values us and the keywords' values ws (names ks) in the parameters' order, defaults among them -/
structure KBinds (K : PySem.W.Frag) (fd : FuncData) (ps ks : List Str) (g : List Value → List Value → List Value) (gV : List V → List V → List V) : Prop where
  to : ∀ (s : Shared) (us ws : List Value), K.In s.heap → (g us ws).length = ps.length → BindsTo s fd ⟨us, ks.zip ws⟩ (ps.zip (g us ws))
  rel : ∀ {vs : List V} {us : List Value} {zs : List V} {ws : List Value}, Vals vs us → Vals zs ws → Vals (gV vs zs) (g us ws)
variable {g : List Value → List Value → List Value} {gV : List V → List V → List V}
end

/-! ### a def's body keeps its promise -/
/-- names: the parameters first -/
structure FnScope (N P : List Str) (sc : Scope) : Prop where
  kind : sc.kind = .function
  co : sc.isCoroutine = false
  gen : sc.isGenerator = false
  nd : N.Nodup
  pre : N.take P.length = P
  par : ∀ x ∈ P, sc.names.lookup x = some .local ∨ sc.names.lookup x = some .cell
  nofree : ∀ y ∈ sc.names, y.2 ≠ .free

theorem bindL_out {kindOf : Str → Option NameKind} {x : Str} : ∀ {binds : List (Str × Value)} {m : Str → Option Value}, (∀ v, (x, v) ∉ binds) → bindL kindOf binds m x = m x
  | [], _, _ => rfl
  | (n, v) :: r, m, h => by
    unfold bindL
    rw [bindL_out fun w hw => h w (List.mem_cons_of_mem _ hw)]
    split
    · have : x ≠ n := by rintro rfl; exact h v List.mem_cons_self
      simp [this]
    · rfl
theorem bindC_out {kindOf : Str → Option NameKind} {x : Str} : ∀ {binds : List (Str × Value)} {m : Str → Option Value}, (∀ v, (x, v) ∉ binds) → bindC kindOf binds m x = m x
  | [], _, _ => rfl
  | (n, v) :: r, m, h => by
    unfold bindC
    rw [bindC_out fun w hw => h w (List.mem_cons_of_mem _ hw)]
    split
    · rfl
    · have : x ≠ n := by rintro rfl; exact h v List.mem_cons_self
      simp [this]
theorem bindL_get {kindOf : Str → Option NameKind} {x : Str} {v : Value} : ∀ {P : List Str} {vs : List Value} {i : Nat} {m : Str → Option Value}, P.Nodup → P[i]? = some x → vs[i]? = some v → kindOf x = some .local →
    bindL kindOf (P.zip vs) m x = some v
  | [], _, _, _, _, h, _, _ => by simp at h
  | _ :: _, [], _, _, _, _, h, _ => by simp at h
  | p :: P, w :: vs, 0, m, nd, h1, h2, hk => by
    simp at h1 h2; subst h1; subst h2
    show bindL kindOf ((p, w) :: P.zip vs) m p = _
    unfold bindL
    rw [bindL_out fun v hv => (List.nodup_cons.mp nd).1 (List.of_mem_zip hv).1, if_pos hk]
    simp
  | p :: P, w :: vs, i + 1, m, nd, h1, h2, hk => by
    show bindL kindOf ((p, w) :: P.zip vs) m x = _
    unfold bindL
    exact bindL_get (i := i) (List.nodup_cons.mp nd).2 (by simpa using h1) (by simpa using h2) hk
theorem bindC_get {kindOf : Str → Option NameKind} {x : Str} {v : Value} : ∀ {P : List Str} {vs : List Value} {i : Nat} {m : Str → Option Value}, P.Nodup → P[i]? = some x → vs[i]? = some v → kindOf x ≠ some .local →
    bindC kindOf (P.zip vs) m x = some v
  | [], _, _, _, _, h, _, _ => by simp at h
  | _ :: _, [], _, _, _, _, h, _ => by simp at h
  | p :: P, w :: vs, 0, m, nd, h1, h2, hk => by
    simp at h1 h2; subst h1; subst h2
    show bindC kindOf ((p, w) :: P.zip vs) m p = _
    unfold bindC
    rw [bindC_out fun v hv => (List.nodup_cons.mp nd).1 (List.of_mem_zip hv).1, if_neg hk]
    simp
  | p :: P, w :: vs, i + 1, m, nd, h1, h2, hk => by
    show bindC kindOf ((p, w) :: P.zip vs) m x = _
    unfold bindC
    exact bindC_get (i := i) (List.nodup_cons.mp nd).2 (by simpa using h1) (by simpa using h2) hk

/-- the names' values at the entry -/
def start (N : List Str) (vs : List V) : St := vs.map some ++ List.replicate (N.length - vs.length) none

/-- the context of a def's body, at its entry; an exception leaves the frame, then lies as CX says -/
def cxOf (CX : CXT) (P : Program) (w : World) (K : PySem.W.Frag) (mg : Str → Option Value) (base : Heap) (N : List Str) (qual : Str) (scope : Scope) (f : Addr) (cd : Value) (A : Around) (outer : List Env) (s : Shared) (H : Hp) (E : XK) : Cx where
  prog := P
  w := w
  K := K
  mg := mg
  base := base
  A := A.deeper (envOfC qual scope s.heap.objs.size f cd)
  N := N
  s₀ := s
  H₀ := H
  env := envOfC qual scope s.heap.objs.size f cd
  outer := outer
  stack := envOfC qual scope s.heap.objs.size f cd :: outer
  ex := []
  calm := true
  fn := fun _ => true
  pn := []
  xe := fun e s' => wpAny (model P w) (A.deeper (envOfC qual scope s.heap.objs.size f cd)) (leaving (envOfC qual scope s.heap.objs.size f cd) e) (fun _ s'' => CX outer H s E e s'') (fun e' s'' => CX outer H s E e' s'') s'

theorem cell_has {sc : Scope} {n : Nat} {x : Str} (h : sc.names.lookup x = some .cell) : ∃ c, (cellsFrom n sc.names []).lookup x = some c := by
  have q := PySem.W.cellsFrom_some sc.names n [] (.inl h)
  exact Option.isSome_iff_exists.mp q

theorem inv_start {CX : CXT} {P : Program} {w : World} {K : PySem.W.Frag} {mg : Str → Option Value} {base : Heap} {N ps : List Str} {qual : Str} {scope : Scope} {f : Addr} {cd : Value} {A : Around} {outer : List Env} {s s1 : Shared} {H : Hp} {E : XK} {us : List Value} {vs : List V}
    (S : FnScope N ps scope) (hd : A.handled = none) (e0 : Env0 P w K mg base A outer s H) (hl : vs.length = ps.length) (r : Vals vs us)
    (x : InCallC s s.heap.objs.size (bindL (envOfC qual scope s.heap.objs.size f cd).kindOf (ps.zip us) fun _ => none) (cellsFrom (s.heap.objs.size + 1) scope.names []) (bindC (envOfC qual scope s.heap.objs.size f cd).kindOf (ps.zip us) fun _ => none) s1) :
    Inv (cxOf CX P w K mg base N qual scope f cd A outer s H E) [] (start N vs) H s1 := by
  have hpl : ps.length ≤ N.length := by have := congrArg List.length S.pre; rw [List.length_take] at this; omega
  obtain ⟨h1, tk, rfl, hk⟩ := x.done
  have noA : ∀ b : Addr, b ∉ (cxOf CX P w K mg base N qual scope f cd A outer s H E).ex := fun b z => absurd (show b ∈ ([] : List Addr) from z) (by simp)
  refine ⟨⟨e0.mod, S.kind, rfl, rfl, Nat.le_refl _, fun y z c h1 h2 => ?_, fun y hy => ?_, fun y c _ h => ?_, fun _ => hd, Around.frames_deeper e0.frames, .inr ⟨rfl, rfl⟩, fun b z => absurd z (noA b), e0.bs, e0.bsz, fun b _ _ => noA b, fun b z => absurd z (noA b), e0.funs, e0.frf⟩,
    rfl, e0.bare, Un.kept hk, ⟨_, x.toInCall.ns, fun i y v h1 h2 h3 => ?_⟩, fun y c h => ⟨_, x.cell y c h⟩, e0.hok.fresh (Nat.le_refl _), fun y c h => ?_, fun p hp => absurd (show p ∈ ([] : List (Addr × Obj)) from hp) (by simp), e0.hok.kept hk, ?_⟩
  · exact name_of_addr x.apart (PySem.mem_of_lookup h1) (PySem.mem_of_lookup h2)
  · have hy : scope.names.lookup y = some .cell ∨ scope.names.lookup y = some .free := hy
    rcases hy with hy | hy
    · exact cell_has hy
    · exact absurd rfl (S.nofree _ (PySem.mem_of_lookup hy))
  · exact Nat.le_of_lt (x.above y c (PySem.mem_of_lookup h))
  · have hi : i < vs.length := by
      unfold start at h2
      by_cases hi : i < vs.length
      · exact hi
      · rw [List.getElem?_append_right (by simpa using hi)] at h2
        rw [List.getElem?_replicate] at h2
        split at h2 <;> cases h2
    have ha : vs[i]? = some v := by
      unfold start at h2
      rw [List.getElem?_append_left (by simpa using hi), List.getElem?_map] at h2
      cases e : vs[i]? with
      | none => rw [e] at h2; cases h2
      | some a => rw [e] at h2; cases h2; rfl
    obtain ⟨u, hu, rv⟩ := r.get ha
    have hp : ps[i]? = some y := by
      rw [← S.pre, List.getElem?_take_of_lt (by omega)]; exact h1
    have ndP : ps.Nodup := by rw [← S.pre]; exact S.nd.sublist (List.take_sublist _ _)
    refine ⟨u, rv, ?_⟩
    rcases S.par y (List.mem_of_getElem? hp) with k | k
    · exact .inl ⟨k, bindL_get ndP hp hu k⟩
    · obtain ⟨c, e⟩ := cell_has (n := s.heap.objs.size + 1) k
      refine .inr ⟨.inl k, c, e, ?_⟩
      have q := x.cell y c e
      rw [bindC_get ndP hp hu (by show scope.names.lookup y ≠ _; rw [k]; decide)] at q
      exact q
  · exact e0.hok.fresh (Nat.le_of_lt (x.above y c (PySem.mem_of_lookup h)))
  · unfold start
    show _ = N.length
    rw [List.length_append, List.length_map, List.length_replicate]
    omega

/-- THE RULE: a def (or a method) of the text, by its body. The body's reading t is chosen for each entry; it is run at the parameters' values -/
theorem fn_of {CX : CXT} {P : Program} {w : World} {K : PySem.W.Frag} {mg : Str → Option Value} {base : Heap} {k : Nat} {f : Addr} {name qual : Str} {params : Arguments} {body : List Stmt} {scope : Scope} {dV kV doc pm cdv ct oc : Value} {an od : Option Addr}
    {osl : Array (Option Value)} {N ps : List Str} {sp : Sp} (lk : K.lookup f = some ⟨oc, od, .func (PySem.W.fnOf name qual params body scope dV kV doc pm an cdv ct), osl⟩) (hcd : PySem.W.codeIn K cdv qual = true) (S : FnScope N ps scope)
    (len : ∀ vs H Q E, sp vs H Q E → vs.length = ps.length)
    (hbody : ∀ (A : Around) (outer : List Env) (s : Shared) (H : Hp) (vs : List V) (Q : VK) (E : XK), Room k (A.deeper (envOfC qual scope s.heap.objs.size f cdv)) → sp vs H Q E →
      ∃ t, PSs (cxOf CX P w K mg base N qual scope f cdv A outer s H E) body t ∧ t { nx := fun _ H' => Q .non H', rt := Q } (start N vs) H) :
    FnOk P w K mg base CX (k + 1) f (PySem.W.fnOf name qual params body scope dV kV doc pm an cdv ct) ps sp := by
  refine ⟨len, fun A outer s H args us vs Q E hr e0 hb r hsp => ?_⟩
  have hl := len _ _ _ _ hsp
  have KX : K.In s.heap := e0.mod.kin.keeps fun b o e => (e0.bs b o e).1
  have lim : s.heap.NoLimit := e0.mod.nolimit.keeps fun b o e => (e0.bs b o e).1
  have hkind : ∀ y ∈ ps.zip us, scope.names.lookup y.1 = some .local ∨ (scope.names.lookup y.1 = some .cell ∧ ((cellsFrom (s.heap.objs.size + 1) scope.names []).lookup y.1).isSome = true) := fun ⟨n, v⟩ hy => by
    rcases S.par n (List.of_mem_zip hy).1 with q | q
    · exact .inl q
    · exact .inr ⟨q, PySem.W.cellsFrom_some _ _ _ (.inl q)⟩
  refine codeAny_call_function hr.depth (KX _ _ lk) rfl S.co S.gen rfl (PySem.W.codeRec_of KX hcd) (hb _ _ _ _ ?_)
  refine wpAny_newFunctionEnv_cells S.kind hkind fun env he s1 x => ?_
  subst he
  refine ⟨lim.keeps x.toInCall.keep, codeAny_func ?_⟩
  obtain ⟨t, ht, hq⟩ := hbody A outer s H vs Q E (hr.deeper _) hsp
  have I : Inv (cxOf CX P w K mg base N qual scope f cdv A outer s H E) [] (start N vs) H s1 := inv_start S hr.hd e0 hl r x
  refine wpAny_mono (ht [] s1 (start N vs) H _ I hq) (fun fl s' hs => ?_) fun e s' hs => hs
  have fin : ∀ {σ' : St} {H' : Hp} {v : V} {u : Value}, Inv (cxOf CX P w K mg base N qual scope f cdv A outer s H E) [] σ' H' s' → RelV v u → Q v H' → CE outer P w H s Q u s' :=
    fun {σ' H' v u} J rv q => ⟨v, H', J.os, J.bare, J.base, J.hok, rv, q⟩
  cases fl with
  | ret u =>
    obtain ⟨v, σ', H', J, rv, q⟩ := hs
    exact fin J rv q
  | next =>
    obtain ⟨σ', H', J, q⟩ := hs
    exact fin (v := V.non) (u := Value.none) J rfl q
  | brk =>
    obtain ⟨_, _, _, q⟩ := hs
    exact False.elim q
  | cont =>
    obtain ⟨_, _, _, q⟩ := hs
    exact False.elim q
end L2

namespace L2
open PySem PySem.Spec PyProof.Rows
section
variable {X : Cx} {x : Str} {p pos : Pos} {e : Expr} {es : List Expr} {t : TA} {id T : String} {r : List V → Hp → VK → Prop}

def tCB (r : List V → Hp → VK → Prop) (t : TA) : TE := fun σ H Q => t σ H fun vs H1 => r vs H1 Q
/-- f(e, ..), f a built-in function -/
theorem pe_callB (hc : CallR X (.builtin id) r) (hg : Gl X x) (hm : X.mg x = none) (hv : bootBuiltins x = some (.builtin id)) (ha : PA X (e :: es) t) (hn : x ≠ "__name__" := by decide) (hdb : (x == ("__debug__" : Str)) = false := by decide)
    (he : starEach (e :: es) X.env = (false, eval e X.env) :: starEach es X.env := by rfl) (hpl : (backTo pos (starEach es X.env)).any (·.1) = false := by rfl) : PE X (.Call (.Name x p) (e :: es) [] pos) (tCB r t) := by
  intro pins s σ H Q I h
  refine wpAny_Call_Name_kw (ld_blt I hg hm hv ?_ hn hdb)
  exact PyProof.Rows.callWith_builtin1 (thn (ha pos pins s σ H _ I h) fun us s1 ⟨vs, H1, I1, r1, q1⟩ => hc pins s1 σ H1 vs us Q I1 r1 q1) he hpl
/-- T(e, ..), T a built-in type -/
theorem pe_callTy (hc : CallR X (.type T) r) (hg : Gl X x) (hm : X.mg x = none) (hv : bootBuiltins x = some (.type T)) (ha : PA X (e :: es) t) (hn : x ≠ "__name__" := by decide) (hdb : (x == ("__debug__" : Str)) = false := by decide)
    (he : starEach (e :: es) X.env = (false, eval e X.env) :: starEach es X.env := by rfl) (hpl : (backTo pos (starEach es X.env)).any (·.1) = false := by rfl) : PE X (.Call (.Name x p) (e :: es) [] pos) (tCB r t) := by
  intro pins s σ H Q I h
  refine wpAny_Call_Name_kw (ld_blt I hg hm hv ?_ hn hdb)
  exact PyProof.Rows.callWith_type1 (thn (ha pos pins s σ H _ I h) fun us s1 ⟨vs, H1, I1, r1, q1⟩ => hc pins s1 σ H1 vs us Q I1 r1 q1) he hpl
end
end L2

namespace HT
open PySem PyProof.Rows

section
open PySem.SeqAt
open PySem.AutoSeq1 (wpAny_loadPart')
open PySem.MeetsSeq PySem.MeetsSeq2 PySem.MeetsSeq3

end

section
variable {prog : Program} {w : World} {A : Around} {E : Value → Shared → Prop} {s : Shared}

/-! ### t[a:b], not the whole -/
/-- a slice's bound as a place among n (d where it is left out) -/
def sIx (n d : Nat) : Option Int → Nat
  | none => d
  | some v => if v < 0 then (v + (n : Int)).toNat else min v.toNat n
theorem sIx_none (n d : Nat) : sIx n d none = d := rfl
theorem sIx_nat (n d k : Nat) : sIx n d (some (k : Int)) = min k n := by
  show (if (k : Int) < 0 then ((k : Int) + (n : Int)).toNat else min (k : Int).toNat n) = min k n
  rw [if_neg (by omega), Int.toNat_natCast]
end
end HT

namespace L2
open PySem PySem.Spec PyProof.Rows

/-! ### the parts of a slice -/
abbrev TO := St → Hp → (Option Int → Hp → Prop) → Prop
/-- a slice's part (left out, or an int) -/
def PO (X : Cx) (e : Option Expr) (t : TO) : Prop :=
  ∀ (pins : List (Addr × Obj)) (s : Shared) (σ : St) (H : Hp) (Q : Option Int → Hp → Prop), Inv X pins σ H s → t σ H Q →
    wpAny (model X.prog X.w) X.A (evalPart e X.env) (fun u s' => ∃ o H', Inv X pins σ H' s' ∧ IsPart u o ∧ Q o H') X.xe s
def tNoPart : TO := fun _ H Q => Q none H
def tPart (t : TE) : TO := fun σ H Q => t σ H fun x H1 => ∃ i, x = .int i ∧ Q (some i) H1

section
variable {X : Cx} {e : Expr} {te : TE} {lo hi : Option Expr} {tl th : TO} {pos p2 : Pos}

theorem po_none : PO X none tNoPart := by
  intro pins s σ H Q I h
  rw [evalPart_none]
  exact wpAny_pure ⟨none, H, I, .none, h⟩
theorem po_some (h : PE X e te) : PO X (some e) (tPart te) := by
  intro pins s σ H Q I hw
  rw [evalPart_some]
  refine thn (h pins s σ H _ I hw) fun u s1 ⟨x, H1, I1, r1, q1⟩ => ?_
  obtain ⟨i, rfl, q⟩ := q1
  obtain ⟨t, rfl⟩ := r1
  exact ⟨some i, H1, I1, .int i t, q⟩

/-- what a slice of a value is, by values: the slice object stands at sl -/
def SlR (X : Cx) (r : V → Option Int → Option Int → Hp → VK → Prop) : Prop :=
  ∀ (pins : List (Addr × Obj)) (s : Shared) (σ : St) (H : Hp) (x : V) (v vl vu : Value) (lo hi : Option Int) (sl : Addr) (Q : VK), Inv X pins σ H s → RelV x v → s.heap.IsSliceOf sl vl vu .none → IsPart vl lo → IsPart vu hi → r x lo hi H Q →
    ∃ T id, typeLookup (.type T) "__getitem__" = pure (some (.builtin id)) ∧ s.TypeIs v T ∧ wpAny (model X.prog X.w) X.A (getItem v (.ref sl)) (EP X pins σ Q) X.xe s
def tSl (r : V → Option Int → Option Int → Hp → VK → Prop) (te : TE) (tl th : TO) : TE := fun σ H Q => te σ H fun x H1 => tl σ H1 fun l H2 => th σ H2 fun u H3 => r x l u H3 Q
/-- a[lo:hi], any a -/
theorem pe_slice {r : V → Option Int → Option Int → Hp → VK → Prop} (hr : SlR X r) (he : PE X e te) (hl : PO X lo tl) (hu : PO X hi th) : PE X (.Subscript e (.Slice lo hi none p2) pos) (tSl r te tl th) := by
  intro pins s σ H Q I h
  refine Subscript_ (thn (he pins s σ H _ I h) fun v s1 ⟨x, H1, I1, r1, q1⟩ => ?_)
  refine wpAny_Slice (thn (hl pins s1 σ H1 _ I1 q1) fun vl s2 ⟨l, H2, I2, pl, q2⟩ => thn (hu pins s2 σ H2 _ I2 q2) fun vu s3 ⟨u, H3, I3, pu, q3⟩ => ?_)
  rw [evalPart_none]
  refine wpAny_pure ?_
  have I4 : Inv X pins σ H3 { s3 with heap := s3.heap.push { cls := .type "slice", data := .fields #[vl, vu, .none] } } := I3.kept (t' := s3.toks) fun b ob q => Heap.get?_push_of_some _ q
  obtain ⟨T, id, hT, ht, hg⟩ := hr pins { s3 with heap := s3.heap.push { cls := .type "slice", data := .fields #[vl, vu, .none] } } σ H3 x v vl vu l u s3.heap.objs.size Q I4 r1 (Heap.IsSliceOf.new ..) pl pu q3
  show wpAny (model X.prog X.w) X.A (subscriptTail e (.Slice lo hi none p2) v (.ref s3.heap.objs.size)) (EP X pins σ Q) X.xe { s3 with heap := s3.heap.push { cls := .type "slice", data := .fields #[vl, vu, .none] } }
  exact tail_any (ops := [.ref s3.heap.objs.size, v]) ht hT hg (by with_unfolding_all rfl)

/-- the items of xs[lo:hi] -/
def cutV (xs : List V) (lo hi : Option Int) : List V := (xs.drop (HT.sIx xs.length 0 lo)).take (HT.sIx xs.length xs.length hi - HT.sIx xs.length 0 lo)
theorem cutV_length (xs : List V) (lo hi : Option Int) : (cutV xs lo hi).length ≤ xs.length := by
  unfold cutV
  rw [List.length_take, List.length_drop]
  omega
/-! ### t < u, t + u -/
end
end L2

namespace L2
open PySem PySem.Spec PyProof.Rows

/-! ### places -/
/-- the place that an index of any sign means -/
def ixN (n : Nat) (i : Int) : Option Nat := if 0 ≤ i then (if i < n then some i.toNat else none) else if -(n : Int) ≤ i then some (i + n).toNat else none
def atI {α : Type} (xs : List α) (i : Int) : Option α := (ixN xs.length i).bind fun j => xs[j]?
theorem ixN_seq {n : Nat} {i : Int} {j : Nat} (h : ixN n i = some j) : seqIndex? i n = some j ∧ j < n ∧ -(n : Int) ≤ i ∧ i < n := by
  unfold ixN at h
  by_cases h0 : 0 ≤ i
  · rw [if_pos h0] at h
    by_cases h1 : i < n
    · rw [if_pos h1] at h
      have e : i.toNat = j := Option.some.inj h
      exact ⟨by rw [seqIndex_of h0 h1, e], by omega, by omega, h1⟩
    · rw [if_neg h1] at h; cases h
  · rw [if_neg h0] at h
    by_cases h1 : -(n : Int) ≤ i
    · rw [if_pos h1] at h
      have e : (i + n).toNat = j := Option.some.inj h
      exact ⟨by rw [seqIndex_neg (by omega) h1, e], by omega, h1, by omega⟩
    · rw [if_neg h1] at h; cases h
theorem atI_get {α : Type} {xs : List α} {i : Int} {v : α} (h : atI xs i = some v) : ∃ j, seqIndex? i xs.length = some j ∧ xs[j]? = some v ∧ j < xs.length ∧ -(xs.length : Int) ≤ i ∧ i < xs.length := by
  unfold atI at h
  cases e : ixN xs.length i with
  | none => rw [e] at h; cases h
  | some j =>
    rw [e] at h
    obtain ⟨h1, h2, h3, h4⟩ := ixN_seq e
    exact ⟨j, h1, h, h2, h3, h4⟩
theorem atI_nat {α : Type} {xs : List α} {j : Nat} {v : α} (h : xs[j]? = some v) : atI xs (j : Int) = some v := by
  have hj : j < xs.length := (List.getElem?_eq_some_iff.mp h).1
  have e : ixN xs.length (j : Int) = some j := by
    unfold ixN
    rw [if_pos (by omega), if_pos (by omega)]; simp
  unfold atI; rw [e]; exact h
/-! ### what may be subscripted -/
/-- what stands as an index of a plain subscript -/
def PlainIx (b : Expr) : Prop := ∀ o i, subscripted b false o i = operate [o, i] (getItem o i)
/-- a subscript by values -/
def IxR (X : Cx) (r : R2) : Prop :=
  ∀ (value slice : Expr) (pins : List (Addr × Obj)) (s : Shared) (σ : St) (H : Hp) (x y : V) (v u : Value) (Q : VK), Inv X pins σ H s → RelV x v → RelV y u → r x y H Q →
    subscripted slice false v u = operate [v, u] (getItem v u) → wpAny (model X.prog X.w) X.A (subscriptTail value slice v u) (EP X pins σ Q) X.xe s
/-- a call of a builtin's method by values: the receiver, the arguments -/
def MtR (X : Cx) (id : String) (r : V → List V → Hp → VK → Prop) : Prop :=
  ∀ (pins : List (Addr × Obj)) (s : Shared) (σ : St) (H : Hp) (x : V) (xs : List V) (v : Value) (us : List Value) (Q : VK), Inv X pins σ H s → RelV x v → Vals xs us → r x xs H Q →
    wpAny (model X.prog X.w) X.A (call (.builtin id) (v :: us)) (EP X pins σ Q) X.xe s
section
variable {X : Cx} {a b : Expr} {ta tb : TE} {pos : Pos}
/-- a[b] -/
theorem pe_ix {r : R2} (hr : IxR X r) (ha : PE X a ta) (hb : PE X b tb) (hs : PlainIx b) : PE X (.Subscript a b pos) (tOp r ta tb) := by
  intro pins s σ H Q I h
  exact Subscript_ (binT ha hb I h fun v u s2 x y H2 I2 rx ry q => hr a b pins s2 σ H2 x y v u Q I2 rx ry q (hs _ _))

def rIxL (K : PySem.W.Frag) : R2 := fun x y H Q => ∃ p xs i v, x = .ref p ∧ y = .int i ∧ SqL K H p xs ∧ atI xs i = some v ∧ Q v H
theorem ix_list : IxR X (rIxL X.K) := by
  intro value slice pins s σ H x y v u Q I rx ry h hs
  obtain ⟨p, xs, i, z, rfl, rfl, hq, he, q⟩ := h
  cases rx
  obtain ⟨t, rfl⟩ := ry
  obtain ⟨its, r, pl, hz⟩ := I.list hq
  obtain ⟨j, h1, h2, h3, h4, h5⟩ := atI_get he
  obtain ⟨w, ew, rw'⟩ := r.get h2
  have hl := r.length
  have hn := line63
  have fin : EP X pins σ Q w s := ⟨z, H, I, rw', q⟩
  by_cases h0 : 0 ≤ i
  · have hj : i.toNat = j := by
      rw [seqIndex_of h0 h5] at h1
      exact Option.some.inj h1
    exact item_listR pl.isList h0 (by omega) (by rw [hj]; simpa using ew) fin hs
  · have hj : (i + (its.toArray.size : Int)).toNat = j := by
      rw [seqIndex_neg (by omega) h4] at h1
      rw [List.size_toArray, ← hl]
      exact Option.some.inj h1
    exact subscriptTail_builtinR (x := w) pl.isList.typeIs slot_list_getitem.lookup
      (wpAny_getItem_list_neg (Q := fun r s' => r = w ∧ EP X pins σ Q r s') pl.isList (by omega) (by rw [List.size_toArray] <;> omega) (by omega) (by rw [hj]; simpa using ew) ⟨rfl, fin⟩) hs
/-! ### xs[i] = v, any sign -/
/-! ### slices -/
theorem slice_bounds (lo hi : Option Int) (n : Nat) : (sliceBounds lo hi none n).1 = ((HT.sIx n 0 lo : Nat) : Int) ∧ (sliceBounds lo hi none n).2.1 = ((HT.sIx n n hi : Nat) : Int) ∧ (sliceBounds lo hi none n).2.2 = 1 := by
  refine ⟨?_, ?_, rfl⟩
  · cases lo with
    | none => simp [sliceBounds, HT.sIx]
    | some i =>
      simp only [sliceBounds, HT.sIx, Option.getD_none, show (1 : Int) > 0 by decide, if_true]
      by_cases h : i < 0
      · simp only [h, if_true] <;> omega
      · simp only [h, if_false] <;> omega
  · cases hi with
    | none => simp [sliceBounds, HT.sIx]
    | some i =>
      simp only [sliceBounds, HT.sIx, Option.getD_none, show (1 : Int) > 0 by decide, if_true]
      by_cases h : i < 0
      · simp only [h, if_true] <;> omega
      · simp only [h, if_false] <;> omega
theorem slicePick_cut (its : List Value) (lo hi : Option Int) : slicePick its.toArray lo hi none = ((its.drop (HT.sIx its.length 0 lo)).take (HT.sIx its.length its.length hi - HT.sIx its.length 0 lo)).toArray := by
  obtain ⟨h1, h2, h3⟩ := slice_bounds lo hi its.toArray.size
  unfold slicePick
  rw [h1, h2, h3]
  simp only [sliceRange_one, pick_run, List.size_toArray] <;> rfl
/-- xs[lo:hi] of a list: a new list -/
def rSlL (K : PySem.W.Frag) : V → Option Int → Option Int → Hp → VK → Prop := fun x lo hi H Q => ∃ a xs, x = .ref a ∧ SqL K H a xs ∧ ∀ p, H p = none → Q (.ref p) (upd H p (.lst (cutV xs lo hi)))
theorem sl_list : SlR X (rSlL X.K) := by
  intro pins s σ H x v vl vu lo hi sl Q I rx hs pl pu h
  obtain ⟨a, xs, rfl, hx, q⟩ := h
  cases rx
  obtain ⟨its, r, ht, hz⟩ := I.list hx
  have hlen := r.length
  refine ⟨"list", _, slot_list_getitem.lookup, ht.isList.typeIs, ?_⟩
  refine wpAny_getItem_list_slice ht.isList hs pl pu .none (by simp) ?_ (by rw [List.size_toArray] <;> omega)
  rw [slicePick_cut, ← hlen]
  refine ⟨.ref s.heap.objs.size, _, I.laid (t' := s.toks) (o := .lst (cutV xs lo hi)) (fun b ob q => Heap.get?_push_of_some _ q) (Nat.le_refl _) ?_, rfl, q _ (I.hok.fresh (Nat.le_refl _))⟩
  exact ⟨Nat.le_trans (cutV_length xs lo hi) hz, _, 0, (r.drop (HT.sIx xs.length 0 lo)).take (HT.sIx xs.length xs.length hi - HT.sIx xs.length 0 lo), Heap.get?_push_size _ rfl⟩

/-! ### in, not in: flat items -/
/-! ### len, list(x), tuple(x) of any list or tuple that is read -/
theorem call_list_of : CallR X (.type "list") (fun xs H Q => ∃ p ys, xs = [.ref p] ∧ (SqL X.K H p ys ∨ SqT X.K H p ys) ∧ ∀ l, H l = none → Q (.ref l) (upd H l (.lst ys))) := by
  intro pins s σ H xs us Q I r h
  obtain ⟨p, ys, rfl, hq, q⟩ := h
  obtain ⟨u, rfl, rx⟩ := vals1 r
  cases rx
  have fin : ∀ (its : List Value), Vals ys its → ys.length ≤ sizeLine → ∀ (h' : Heap) (c' : Nat), (∀ b o', s.heap.get? b = some o' → h'.get? b = some o') →
      h'.get? s.heap.objs.size = some { cls := .type "list", dict := none, data := .seq its.toArray c', slots := #[] } → EP X pins σ Q (.ref s.heap.objs.size) { s with heap := h' } := fun its r' hz h' c' kp e =>
    ⟨.ref s.heap.objs.size, _, I.laid (t' := s.toks) kp (Nat.le_refl _) (show ObjOk X.prog X.w _ h' _ (.lst ys) from ⟨hz, its, c', r', e⟩), rfl, q _ (I.hok.fresh (Nat.le_refl _))⟩
  rcases hq with hq | hq
  · obtain ⟨its, r', pl, hz⟩ := I.list hq
    have hlen := r'.length
    obtain ⟨o, ho, hc, n, hd⟩ := pl.isList
    exact call_list_seq p (.inl rfl) ho hc hd (fun h' c' kp e => fin its r' hz h' c' kp e) (by simp only [List.size_toArray] <;> omega)
  · obtain ⟨its, r', pl, hz⟩ := I.tuple hq
    have hlen := r'.length
    obtain ⟨o, ho, hc, n, hd⟩ := pl
    exact call_list_seq p (.inr rfl) ho hc hd (fun h' c' kp e => fin its r' hz h' c' kp e) (by simp only [List.size_toArray] <;> omega)
theorem call_tuple_of : CallR X (.type "tuple") (fun xs H Q => ∃ p ys, xs = [.ref p] ∧ ((SqL X.K H p ys ∧ ∀ l, H l = none → Q (.ref l) (upd H l (.tup ys))) ∨ (SqT X.K H p ys ∧ Q (.ref p) H))) := by
  intro pins s σ H xs us Q I r h
  obtain ⟨p, ys, rfl, h⟩ := h
  obtain ⟨u, rfl, rx⟩ := vals1 r
  cases rx
  rcases h with ⟨hq, q⟩ | ⟨hq, q⟩
  · obtain ⟨its, r', pl, hz⟩ := I.list hq
    have hlen := r'.length
    refine call_tuple_list pl.isList (fun h' kp => ?_) (by simp only [List.size_toArray] <;> omega)
    have I1 : Inv X pins σ H { s with heap := h' } := I.kept (t' := s.toks) kp
    have I2 : Inv X pins σ (upd H h'.objs.size (.tup ys)) { s with heap := h'.push { cls := .type "tuple", data := .seq its.toArray } } :=
      I1.laid (t' := s.toks) (fun b o e => Heap.get?_push_of_some _ e) (Nat.le_refl _) (show ObjOk X.prog X.w _ _ _ (.tup ys) from ⟨hz, its, r', IsTup.new _ _⟩)
    exact ⟨.ref h'.objs.size, _, I2, rfl, q _ (I1.hok.fresh (Nat.le_refl _))⟩
  · obtain ⟨its, r', pl, hz⟩ := I.tuple hq
    exact call_tuple_same pl ⟨.ref p, H, I, rfl, q⟩

/-! ### the call of a builtin's method: o.m(..) -/
/-- the value is of that builtin type -/
def tyV (K : PySem.W.Frag) (T : String) (x : V) (H : Hp) : Prop := match x with
  | .str _ => T = "str"
  | .int _ => T = "int"
  | .ref p => (T = "list" ∧ ∃ xs, SqL K H p xs) ∨ (T = "tuple" ∧ ∃ o, K.lookup p = some o ∧ o.cls = .type "tuple" ∧ o.dict = none) ∨
      (T = "dict" ∧ ((∃ kvs, H p = some (.dK kvs)) ∨ ∃ kvs, H p = some (.dT kvs))) ∨ (T = "set" ∧ ∃ S n, H p = some (.set S n))
  | _ => False
theorem tyV_is {pins : List (Addr × Obj)} {σ : St} {H : Hp} {s : Shared} {T : String} {x : V} {v : Value} (I : Inv X pins σ H s) (r : RelV x v) (ty : tyV X.K T x H) :
    s.TypeIs v T ∧ ∀ a, v = .ref a → ∃ ob, s.heap.get? a = some ob ∧ ob.dict = none := by
  cases x with
  | str z =>
    obtain ⟨t, rfl⟩ := r
    cases (show T = "str" from ty)
    exact ⟨typeIs_str s z t, fun _ e => nomatch e⟩
  | int i =>
    obtain ⟨t, rfl⟩ := r
    cases (show T = "int" from ty)
    exact ⟨typeIs_int s i t, fun _ e => nomatch e⟩
  | ref p =>
    cases r
    rcases ty with ⟨rfl, xs, hq⟩ | ⟨rfl, o, hk, hc, hd⟩ | ⟨rfl, hk⟩ | ⟨rfl, S, n, hk⟩
    · obtain ⟨its, _, pl, _⟩ := I.list hq
      refine ⟨pl.isList.typeIs, fun a e => ?_⟩
      cases e
      obtain ⟨o, n, e, c, hd, _⟩ := pl
      exact ⟨o, e, hd⟩
    · refine ⟨⟨o, I.kIn p o hk, hc⟩, fun a e => ?_⟩
      cases e
      exact ⟨o, I.kIn _ o hk, hd⟩
    · have z : ∃ o, s.heap.get? p = some o ∧ o.ExactDict := by
        rcases hk with ⟨kvs, hk⟩ | ⟨kvs, hk⟩
        · obtain ⟨_, _, _, _, o, _, _, e, ex, _⟩ := I.hok p _ hk
          exact ⟨o, e, ex⟩
        · obtain ⟨_, _, _, _, o, _, _, e, ex, _⟩ := I.hok p _ hk
          exact ⟨o, e, ex⟩
      obtain ⟨o, e, ex⟩ := z
      refine ⟨⟨o, e, ex.1⟩, fun a e2 => ?_⟩
      cases e2
      exact ⟨o, e, ex.2.1⟩
    · obtain ⟨o, _, _, _, e, ex, _⟩ := I.hok p _ hk
      refine ⟨⟨o, e, ex.1⟩, fun a e2 => ?_⟩
      cases e2
      exact ⟨o, e, ex.2.1⟩
  | _ => exact False.elim ty
def tBM (K : PySem.W.Frag) (T : String) (r : V → List V → Hp → VK → Prop) (to : TE) (t : TA) : TE := fun σ H Q => to σ H fun x H1 => tyV K T x H1 ∧ t σ H1 fun xs H2 => r x xs H2 Q
variable {o e : Expr} {es : List Expr} {to : TE} {t : TA} {name : Str} {apos cpos : Pos} {T id : String} {r : V → List V → Hp → VK → Prop}
theorem pe_bm (pa : PlainAttrs T) (slot : Slot T name id) (hty : typeOf (.builtin id) = pure (.type "method_descriptor")) (hm : MtR X id r) (ho : PE X o to) (ha : PA X (e :: es) t)
    (hbase : attributeBase o name X.env (eval o X.env) = eval o X.env := by rfl)
    (hfew : ((backTo cpos (starEach (e :: es) X.env)).all (fun x => !x.1) && (backToKw cpos (keywordEach [] X.env)).all (fun x => x.1.isSome)
      && decide ((e :: es).length + ([] : List Keyword).length + (if ([] : List Keyword).isEmpty then 0 else 1) < 30)) = true := by rfl)
    (hline : (apos.endLine == cpos.line) = true := by rfl) (hs : starEach (e :: es) X.env = (false, eval e X.env) :: starEach es X.env := by rfl) (hplain : (backTo cpos (starEach es X.env)).any (·.1) = false := by rfl) :
    PE X (.Call (.Attribute o name apos) (e :: es) [] cpos) (tBM X.K T r to t) := by
  intro pins s σ H Q I h
  refine wpAny_Call_method_late hbase hfew hline rfl (thn (ho pins s σ H _ I h) fun v s1 ⟨x, H1, I1, r1, ty, q1⟩ => ?_)
  obtain ⟨h1, h2⟩ := tyV_is I1 r1 ty
  refine ⟨T, id, pa, slot, hty, h1, h2, ?_⟩
  have hA := ha cpos pins s1 σ H1 _ I1 q1
  rw [hs] at hA ⊢
  refine Calls.callWith_builtin (by show (false || (backTo cpos (starEach es X.env)).any (·.1)) = false; rw [hplain] <;> rfl) (Calls.evalArgs_plain ?_)
  exact thn hA fun us s2 ⟨vs, H2, I2, r2, q2⟩ => hm pins s2 σ H2 x vs v us Q I2 r1 r2 q2
/- xs.append(e), list.index on a module's tuple .. are MtR facts of 06m -/
end
end L2

namespace L2
open PySem PySem.Spec PyProof.Rows

def MtM (X : Cx) (id : String) (r : V → List V → Hp → VK → Prop) : Prop :=
  ∀ (pins : List (Addr × Obj)) (s : Shared) (σ : St) (H : Hp) (x : V) (xs : List V) (v : Value) (us : List Value) (Q : VK), Inv X pins σ H s → RelV x v → Vals xs us → r x xs H Q →
    wpAny (model X.prog X.w) X.A (call (.builtin id) (v :: us)) (EP X pins σ Q) X.xe s

/-! ### lists of values -/
theorem Vals.one : ∀ {x : V} {us : List Value}, Vals [x] us → ∃ u, us = [u] ∧ RelV x u
  | _, _, .cons r .nil => ⟨_, rfl, r⟩
theorem Vals.two : ∀ {x y : V} {us : List Value}, Vals [x, y] us → ∃ u v, us = [u, v] ∧ RelV x u ∧ RelV y v
  | _, _, _, .cons r (.cons q .nil) => ⟨_, _, rfl, r, q⟩
section
variable {X : Cx} {pins : List (Addr × Obj)} {σ : St} {H : Hp} {s : Shared} {l b : Addr} {xs ys zs : List V}

/-! ### the two steps: a tracked list is rewritten, a new list is laid -/
theorem Inv.lset {its its' : List Value} {n : Nat} {f : Array Value → Array Value} {t' : Nat} (I : Inv X pins σ H s) (hH : H l = some (.lst xs))
    (e : s.heap.get? l = some { cls := .type "list", data := .seq its.toArray n }) (hf : f its.toArray = its'.toArray) (hv : Vals ys its') (hz : ys.length ≤ sizeLine) :
    Inv X pins σ (upd H l (.lst ys)) { s with heap := s.heap.update l (Obj.mapSeq f), toks := t' } := by
  have q := PySem.IsL.update e f
  rw [hf] at q
  refine I.write (x := l) (e := l) (by rw [hH]; exact trivial) (.inl rfl) (fun b' u hb hu => (Heap.get?_update_other s.heap (Obj.mapSeq f) (Ne.symm hb)).trans hu) ⟨_, q⟩ ?_
  exact ⟨hz, its', _, hv, q⟩
theorem Inv.lnew {its : List Value} {t' : Nat} (I : Inv X pins σ H s) (hv : Vals ys its) (hz : ys.length ≤ sizeLine) :
    Inv X pins σ (upd H s.heap.objs.size (.lst ys)) { s with heap := s.heap.push { cls := .type "list", data := .seq its.toArray }, toks := t' } :=
  I.laid (fun _ _ q => Heap.get?_push_of_some _ q) (Nat.le_refl _) ⟨hz, its, 0, hv, Heap.get?_push_size _ rfl⟩
theorem Inv.fresh (I : Inv X pins σ H s) : H s.heap.objs.size = none := I.hok.fresh (Nat.le_refl _)
theorem Inv.lstM (I : Inv X pins σ H s) (hH : H l = some (.lst xs)) : xs.length ≤ sizeLine ∧ ∃ (its : List Value) (n : Nat), Vals xs its ∧ xs.length = its.length ∧ s.heap.get? l = some { cls := .type "list", data := .seq its.toArray n } := by
  obtain ⟨z, its, n, r, e⟩ := I.hok l _ hH
  exact ⟨z, its, n, r, r.length, e⟩

theorem notLongL {n : Nat} (h : n ≤ sizeLine) : Builtin.List.listTooLong n = false := by
  unfold Builtin.List.listTooLong
  exact decide_eq_false (by omega)
end

section
variable {X : Cx}

/-! ### methods -/
def rAppend : V → List V → Hp → VK → Prop := fun x vs H Q => ∃ l xs y, x = .ref l ∧ vs = [y] ∧ H l = some (.lst xs) ∧ xs.length < sizeLine ∧ Q .non (upd H l (.lst (xs ++ [y])))
theorem mt_append : MtM X "list.append" rAppend := by
  intro pins s σ H x vs v us Q I rx rv h
  obtain ⟨l, xs, y, rfl, rfl, hH, hz, q⟩ := h
  cases rx
  obtain ⟨u, rfl, ru⟩ := rv.one
  obtain ⟨z, its, n, r, hl, e⟩ := I.lstM hH
  refine call_meets F.slot_list_append ⟨_, e, rfl⟩ F.entry_list_append (F.args_list_append_2 _ _) (PySem.list_append l its.toArray n u (by rw [List.size_toArray]; omega)) ⟨e, ?_⟩
  refine ⟨.non, _, I.lset (its' := its ++ [u]) hH e (by simp) (r.append (.cons ru .nil)) ?_, rfl, q⟩
  rw [List.length_append, List.length_singleton]
  omega

def rExtend : V → List V → Hp → VK → Prop := fun x vs H Q => ∃ l b xs zs, x = .ref l ∧ vs = [.ref b] ∧ H l = some (.lst xs) ∧ H b = some (.lst zs) ∧ xs.length + zs.length ≤ sizeLine ∧ Q .non (upd H l (.lst (xs ++ zs)))
theorem mt_extend : MtM X "list.extend" rExtend := by
  intro pins s σ H x vs v us Q I rx rv h
  obtain ⟨l, b, xs, zs, rfl, rfl, hH, hB, hz, q⟩ := h
  cases rx
  obtain ⟨u, rfl, ru⟩ := rv.one
  cases ru
  obtain ⟨z, its, n, r, hl, e⟩ := I.lstM hH
  obtain ⟨z2, its2, n2, r2, hl2, e2⟩ := I.lstM hB
  have hsz : its.toArray.size + its2.toArray.size ≤ sizeLine := by rw [List.size_toArray, List.size_toArray]; omega
  have hlong : ¬ (!its.toArray.isEmpty && Builtin.List.listTooLong (its.toArray.size + its2.toArray.size)) = true := by
    rw [notLongL hsz, Bool.and_false]
    exact Bool.false_ne_true
  refine call_meets F.slot_list_extend ⟨_, e, rfl⟩ F.entry_list_extend (F.args_list_extend_2 _ _)
    (AutoSeq1.list_extend_list_list_0 l its.toArray n b its2.toArray n2 hlong (by rw [List.size_toArray]; omega) (by omega)) ⟨e, e2, ?_⟩
  refine ⟨.non, _, I.lset (its' := its ++ its2) hH e (by simp) (r.append r2) ?_, rfl, q⟩
  rw [List.length_append]
  omega

/-! ### list + list, list += list, list * int -/
def rCat : R2 := fun x y H Q => ∃ l b xs zs, x = .ref l ∧ y = .ref b ∧ H l = some (.lst xs) ∧ H b = some (.lst zs) ∧ xs.length + zs.length ≤ sizeLine ∧ ∀ p, H p = none → Q (.ref p) (upd H p (.lst (xs ++ zs)))
theorem op_cat : OpR X (binaryOp .Add) rCat := by
  intro pins s σ H x y v u Q I rx ry h
  obtain ⟨l, b, xs, zs, rfl, rfl, hH, hB, hz, q⟩ := h
  cases rx
  cases ry
  obtain ⟨z, its, n, r, hl, e⟩ := I.lstM hH
  obtain ⟨z2, its2, n2, r2, hl2, e2⟩ := I.lstM hB
  refine PySem.P.add_list e e2 ?_ (by rw [List.size_toArray, List.size_toArray]; omega)
  have ea : its.toArray ++ its2.toArray = (its ++ its2).toArray := by simp
  rw [ea]
  exact ⟨.ref _, _, I.lnew (t' := s.toks) (r.append r2) (by rw [List.length_append]; omega), rfl, q _ I.fresh⟩
/-! ### del xs[i] -/
end

/-! ### xs[a:b] = ys -/
section
variable {prog : Program} {w : World} {A : Around} {E : Value → Shared → Prop} {s : Shared}
set_option maxRecDepth 100000 in
end

section
variable {X : Cx}
end
end L2

namespace L2
open PySem PySem.Spec PyProof.Rows

/-! ### lists of pairs as tables -/
section
variable {κ : Type} [DecidableEq κ]
/-- in its place, or at the end -/
def putK (kvs : List (κ × V)) (k : κ) (v : V) : List (κ × V) :=
  if (kvs.any fun kv => decide (kv.1 = k)) = true then kvs.map (fun kv => if kv.1 = k then (kv.1, v) else kv) else kvs ++ [(k, v)]
theorem length_putK (kvs : List (κ × V)) (k : κ) (v : V) : (putK kvs k v).length ≤ kvs.length + 1 := by
  unfold putK
  split
  · rw [List.length_map]; omega
  · rw [List.length_append, List.length_cons, List.length_nil]; omega
theorem KV.any {kvs : List (κ × V)} {vs : List (κ × Value)} (r : KV kvs vs) (k : κ) : (kvs.any fun kv => decide (kv.1 = k)) = vs.any fun kv => decide (kv.1 = k) := by
  unfold KV at r
  induction r with
  | nil => rfl
  | cons h t ih => rw [List.any_cons, List.any_cons, ih, h.1]
theorem KV.repl {kvs : List (κ × V)} {vs : List (κ × Value)} (r : KV kvs vs) (k : κ) {y : V} {u : Value} (ry : RelV y u) :
    KV (kvs.map fun kv => if kv.1 = k then (kv.1, y) else kv) (vs.map fun kv => if kv.1 = k then (kv.1, u) else kv) := by
  unfold KV at r ⊢
  induction r with
  | nil => exact .nil
  | @cons p q ps qs h t ih =>
    rw [List.map_cons, List.map_cons]
    refine .cons ?_ ih
    obtain ⟨h1, h2⟩ := h
    by_cases e : p.1 = k
    · rw [if_pos e, if_pos (h1.symm.trans e)]; exact ⟨h1, ry⟩
    · rw [if_neg e, if_neg (fun z => e (h1.trans z))]; exact ⟨h1, h2⟩
theorem KV.put {kvs : List (κ × V)} {vs : List (κ × Value)} (r : KV kvs vs) (k : κ) {y : V} {u : Value} (ry : RelV y u) : KV (putK kvs k y) (stored vs k u) := by
  unfold putK stored
  rw [r.any k]
  by_cases e : (vs.any fun kv => decide (kv.1 = k)) = true
  · rw [if_pos e, if_pos e]; exact r.repl k ry
  · rw [if_neg e, if_neg e]; exact Paired.snoc r ⟨rfl, ry⟩
end

/-! ### a tracked dict, its keys ints and texts or tuples of these -/
theorem kV_is {P : Program} {w : World} {k : Key} {u : Value} (r : RelV (kV k) u) : (mixKind P w).is k u = true := by
  cases k with
  | inl i => obtain ⟨t, e⟩ := (show ∃ t, u = Value.int i t from r); subst e; exact mixKind_int P w i t
  | inr x => obtain ⟨t, e⟩ := (show ∃ t, u = Value.str x t from r); subst e; exact mixKind_str P w x t
section
variable {P : Program} {w : World} {H : Hp} {h : Heap} {a : Addr}
theorem rd_of {u : HO} (ok : HOk P w H h) (e : Rd H a u) : ObjOk P w H h a u := e.ok ok
theorem dk_rd {kvs : List (Key × V)} (ok : HOk P w H h) (e : Rd H a (.dK kvs)) : kvs.length ≤ sizeLine ∧ (a == sysModules) = false ∧ ∃ vs, KV kvs vs ∧ h.DictOf (mixKind P w) a vs :=
  show ObjOk P w H h a (.dK kvs) from rd_of ok e
theorem dk_of {kvs : List (Key × V)} (ok : HOk P w H h) (e : H a = some (.dK kvs)) : kvs.length ≤ sizeLine ∧ (a == sysModules) = false ∧ ∃ vs, KV kvs vs ∧ h.DictOf (mixKind P w) a vs := dk_rd ok (.inl e)
end

section
variable {X : Cx} {pins : List (Addr × Obj)} {σ : St} {H : Hp} {s : Shared} {a : Addr} {y v : V} {u r : Value} {o : Option V} {A : Around} {E : Value → Shared → Prop}

theorem Inv.big (I : Inv X pins σ H s) : sysModules < s.heap.objs.size := by
  have h : mainGlobals < s.heap.objs.size := (I.mod.glob.keeps I.bk).lt
  exact Nat.lt_trans (by decide) h

/-- a dict's object is replaced -/
theorem d_write {h' : Heap} {t' : Nat} {ob : HO} (I : Inv X pins σ H s) (mu : Mut (H a)) (hs : Heap.SameBut a s.heap h') (he : ∃ q, h'.get? a = some q) (new : ObjOk X.prog X.w (upd H a ob) h' a ob) :
    Inv X pins σ (upd H a ob) { s with heap := h', toks := t' } :=
  I.write (x := a) (e := a) mu (.inl rfl) (fun b q hb z => (hs.2 b hb).trans z) he new
theorem dk_new {P : Program} {w : World} {H' : Hp} {h' : Heap} {kvs : List (Key × V)} {vs : List (Key × Value)} (z : kvs.length ≤ sizeLine) (hd : (a == sysModules) = false) (rel : KV kvs vs) (dd : h'.DictOf (mixKind P w) a vs) :
    ObjOk P w H' h' a (.dK kvs) := ⟨z, hd, vs, rel, dd⟩
end

section
variable {X : Cx} {pins : List (Addr × Obj)} {σ : St} {H : Hp} {s : Shared} {a : Addr} {kvs : List (Key × V)} {k : Key} {u : Value} {A : Around} {E : Value → Shared → Prop}
end

/-! ### readings and rules -/
section
variable {X : Cx} {o i e value : Expr} {pos pos' tpos : Pos} {td ty tv : TE}
end

/-! ### displays -/
theorem dk_empty {P : Program} {w : World} {H : Hp} (h : Heap) (hb : sysModules < h.objs.size) : ObjOk P w H (h.push { cls := .type "dict", data := .dict #[] }) h.objs.size (.dK []) :=
  ⟨Nat.zero_le _, beq_eq_false_iff_ne.mpr (Ne.symm (Nat.ne_of_lt hb)), [], .nil, Heap.DictOf.new h⟩
section
variable {X : Cx} {pos : Pos}
end

/-- the pairs of a display, from the left -/
def tPairs : List (TE × TE) → St → Hp → (List (V × V) → Hp → Prop) → Prop
  | [], _, H, Q => Q [] H
  | (tk, tv) :: r, σ, H, Q => tk σ H fun x H1 => tv σ H1 fun y H2 => tPairs r σ H2 fun ps H3 => Q ((x, y) :: ps) H3
abbrev VV : List (V × V) → List (Value × Value) → Prop := Paired fun p q => RelV p.1 q.1 ∧ RelV p.2 q.2
def PPs (X : Cx) (pos : Pos) (keys : List (Option Expr)) (values : List Expr) (trs : List (TE × TE)) : Prop :=
  ∀ (pins : List (Addr × Obj)) (s : Shared) (σ : St) (H : Hp) (Q : List (V × V) → Hp → Prop), Inv X pins σ H s → tPairs trs σ H Q →
    wpAny (model X.prog X.w) X.A (evalPairs (pairTrees keys values X.env pos)) (fun vs s' => ∃ ps H', Inv X pins σ H' s' ∧ VV ps vs ∧ Q ps H') X.xe s
theorem pps_nil {X : Cx} {pos : Pos} : PPs X pos [] [] [] := fun pins s σ H Q I h => pairTrees_nil_walk ⟨[], H, I, .nil, h⟩
theorem pps_cons {X : Cx} {pos : Pos} {k v : Expr} {ks : List (Option Expr)} {vs : List Expr} {tk tv : TE} {trs : List (TE × TE)} (hk : PE X k tk) (hv : PE X v tv) (hr : PPs X pos ks vs trs) :
    PPs X pos (some k :: ks) (v :: vs) ((tk, tv) :: trs) := fun pins s σ H Q I h =>
  pairTrees_cons_walk (thn (hk pins s σ H _ I h) fun u s1 ⟨x, H1, I1, rx, q1⟩ => thn (hv pins s1 σ H1 _ I1 q1) fun w2 s2 ⟨y, H2, I2, ry, q2⟩ =>
    thn (hr pins s2 σ H2 _ I2 q2) fun ws s3 ⟨ps, H3, I3, rel, q3⟩ => ⟨(x, y) :: ps, H3, I3, .cons ⟨rx, ry⟩ rel, q3⟩)

def mergeK (kvs more : List (Key × V)) : List (Key × V) := more.foldl (fun acc kv => putK acc kv.1 kv.2) kvs
theorem KV.merge : ∀ {more : List (Key × V)} {rs : List (Key × Value)} {kvs : List (Key × V)} {vs : List (Key × Value)}, KV more rs → KV kvs vs → KV (mergeK kvs more) (merged vs rs) := by
  intro more rs kvs vs r
  unfold KV at r
  induction r generalizing kvs vs with
  | nil => intro q; exact q
  | @cons p q ps qs h t ih =>
    intro r0
    have e : KV (putK kvs p.1 p.2) (stored vs q.1 q.2) := by
      have := r0.put p.1 h.2
      rw [← h.1]; exact this
    exact ih e
theorem length_mergeK : ∀ (more kvs : List (Key × V)), (mergeK kvs more).length ≤ kvs.length + more.length
  | [], kvs => by show kvs.length ≤ kvs.length + 0; omega
  | p :: r, kvs => by
    have h1 := length_mergeK r (putK kvs p.1 p.2)
    have h2 := length_putK kvs p.1 p.2
    show (mergeK (putK kvs p.1 p.2) r).length ≤ _
    rw [List.length_cons]; omega
theorem carries_of {P : Program} {w : World} : ∀ {kvs : List (Key × V)} {ws : List (Value × Value)}, VV (kvs.map fun kv => (kV kv.1, kv.2)) ws → ∃ rs, Carries (mixKind P w) ws rs ∧ KV kvs rs
  | [], _, r => by rw [List.map_nil] at r; cases r; exact ⟨[], True.intro, .nil⟩
  | p :: kvs, _, r => by
    rw [List.map_cons] at r
    cases r with
    | @cons a b as bs h t =>
      obtain ⟨rs, c, q⟩ := carries_of (P := P) (w := w) t
      obtain ⟨b1, b2⟩ := b
      exact ⟨(p.1, b2) :: rs, ⟨kV_is h.1, rfl, c⟩, .cons ⟨rfl, h.2⟩ q⟩
/-- {k: v, ..} with keys ints and texts; the new dict stands empty while the pairs are made -/
def tDisp (trs : List (TE × TE)) : TE := fun σ H Q => ∀ p, H p = none → tPairs trs σ (upd H p (.dK [])) fun ps H2 => H2 p = some (.dK []) ∧ ∃ kvs : List (Key × V), ps = kvs.map (fun kv => (kV kv.1, kv.2)) ∧ kvs.length ≤ 15 ∧ Q (.ref p) (upd H2 p (.dK (mergeK [] kvs)))
theorem pe_disp {X : Cx} {pos : Pos} {keys : List (Option Expr)} {values : List Expr} {trs : List (TE × TE)} (h : PPs X pos keys values trs) (hall : keys.all (·.isSome) = true) (hl : keys.length = values.length) (h0 : keys ≠ [])
    (h15 : keys.length ≤ 15) : PE X (.Dict keys values pos) (tDisp trs) := by
  intro pins s σ H Q I q
  have hn := I.hok.fresh (Nat.le_refl s.heap.objs.size)
  have I1 := I.laid (a := s.heap.objs.size) (o := .dK []) (h' := s.heap.push { cls := .type "dict", data := .dict #[] }) (t' := s.toks) (fun _ _ q => Heap.get?_push_of_some _ q) (Nat.le_refl _) (dk_empty s.heap I.big)
  refine wpAny_Dict_walk (knd := mixKind X.prog X.w) hall hl h0 h15 (thn (h pins _ σ _ _ I1 (q _ hn)) fun ws s2 ⟨ps, H2, I2, rel, e, kvs, ep, lk, q2⟩ => ?_)
  subst ep
  obtain ⟨rs, c, rk⟩ := carries_of (P := X.prog) (w := X.w) rel
  obtain ⟨z, hd, vs0, r0, dd⟩ := dk_of I2.hok e
  cases r0
  refine ⟨rs, c, dd, fun h' dd' hs => ⟨.ref s.heap.objs.size, _, ?_, rfl, q2⟩⟩
  have hz : (mergeK [] kvs).length ≤ sizeLine := by
    have h1 := length_mergeK kvs []
    rw [List.length_nil] at h1
    rw [sizeLine_eq]; omega
  have he : ∃ q, h'.get? s.heap.objs.size = some q := let ⟨q, _, _, hq, _⟩ := dd'; ⟨q, hq⟩
  exact d_write I2 (by rw [e]; exact True.intro) hs he (dk_new hz hd (rk.merge .nil) dd')

/-! ### methods -/
/-- a method call o.m(e) of a built-in, with one argument: what must be seen of the text -/
structure M1 (X : Cx) (o : Expr) (m : Str) (apos : Pos) (e : Expr) (cpos : Pos) : Prop where
  base : attributeBase o m X.env (eval o X.env) = eval o X.env
  few : ((backTo cpos (starEach [e] X.env)).all (fun x => !x.1) && (backToKw cpos (keywordEach [] X.env)).all (fun x => x.1.isSome)
    && decide (([e] : List Expr).length + ([] : List Keyword).length + (if ([] : List Keyword).isEmpty then 0 else 1) < 30)) = true
  line : (apos.endLine == cpos.line) = true
  trees : backTo cpos (starEach [e] X.env) = [(false, eval e X.env)]
structure M2 (X : Cx) (o : Expr) (m : Str) (apos : Pos) (e f : Expr) (cpos : Pos) : Prop where
  base : attributeBase o m X.env (eval o X.env) = eval o X.env
  few : ((backTo cpos (starEach [e, f] X.env)).all (fun x => !x.1) && (backToKw cpos (keywordEach [] X.env)).all (fun x => x.1.isSome)
    && decide (([e, f] : List Expr).length + ([] : List Keyword).length + (if ([] : List Keyword).isEmpty then 0 else 1) < 30)) = true
  line : (apos.endLine == cpos.line) = true
  trees : backTo cpos (starEach [e, f] X.env) = [(false, eval e X.env), (false, eval f X.env)]

section
variable {X : Cx} {pins : List (Addr × Obj)} {σ : St} {H : Hp} {s : Shared} {a : Addr} {y d : V} {u r : Value} {o : Option V} {A : Around} {E : Value → Shared → Prop}
end

section
variable {X : Cx} {o e f : Expr} {apos cpos : Pos} {td ty tx : TE}
end

/-! ### dict(d): a copy -/
section
variable {X : Cx} {pins : List (Addr × Obj)} {σ : St} {H : Hp} {s : Shared} {a : Addr} {kvs : List (Key × V)} {A : Around} {E : Value → Shared → Prop}
end

section
variable {X : Cx} {pins : List (Addr × Obj)} {σ : St} {H : Hp} {s : Shared} {a : Addr} {y : V} {u : Value} {A : Around} {E : Value → Shared → Prop}
end
end L2

namespace Att
open PySem PySem.W PySem.Calls PyProof.Rows

/-! ### the script -/
theorem ints_of_wellAll {P : Params} {h : Heap} : ∀ (ns : List Int) (vs : List Value), WellAll P h vs (ns.map WData.int) → IntsAre vs ns := by
  intro ns
  induction ns with
  | nil =>
    intro vs w
    rw [List.map_nil] at w
    cases w
    exact .nil
  | cons n ns ih =>
    intro vs w
    rw [List.map_cons] at w
    cases w with
    | cons a b =>
      cases a
      exact .cons _ _ (ih _ b)

theorem script_of {l : OpenLaw} {n : Nat} (hn : l.most = some n) {P : Params} {h : Heap} {args : List WData} {vals : List Value}
    (hpre : l.row.toRowW.claim.pre args = true) (hwl : WellAll P h vals args) :
    ∃ a vs ns, vals = [Value.ref a] ∧ args = [WData.list (ns.map WData.int)] ∧ h.get? a = some { cls := .type "list", data := .seq vs.toArray } ∧ IntsAre vs ns ∧ ns.length ≤ n := by
  have hsh : WShape.hasAll [] args [.list .int] = true := (pre_splitW hpre).1
  have hc : l.pre.holds [] { args := args } = true := (pre_splitW hpre).2
  obtain ⟨d, r, rfl, h1, h2⟩ := hasAllW_cons hsh
  obtain rfl := hasAllW_nil h2
  obtain ⟨xs, rfl, h3⟩ := hasW_list h1
  obtain ⟨ns, rfl⟩ := items_int h3
  have hlen : ns.length ≤ n := by
    unfold OpenLaw.pre at hc
    have h4 : (WTm.not (.lt (.lit (.int (n : Int))) (.len (.arg 0)))).holds [] { args := [.list (ns.map .int)] } = true := by
      have h4 := (holds_andW hc).1
      rw [hn] at h4
      exact h4
    have h5 := condW_of h4 (w_not (w_lt w_lit (w_len_list (w_arg rfl))))
    rw [List.length_map] at h5
    refine Nat.le_of_not_lt fun q => ?_
    have q' : (n : Int) < ((ns.length : Nat) : Int) := by omega
    first
      | (rw [decide_eq_true q'] at h5; exact absurd h5 (by decide))
      | (simp at h5; omega)
  cases hwl with
  | cons w1 w2 =>
    cases w2
    cases w1 with
    | list ho hall => exact ⟨_, _, ns, rfl, rfl, ho, ints_of_wellAll ns _ hall, hlen⟩

theorem post_true (l : OpenLaw) (args : List WData) : l.row.toRowW.claim.post args (.bool true) args = true :=
  postW_of (r := l.row.toRowW) (X := (true == true))
    (show WShape.has [] (.bool true) .bool = true by first | rfl | decide | simp [WShape.has, WShape.arms, WShape.armsAll])
    (show (WTm.eq .res (.lit (.bool true))).value [] { args := args, res := some (.bool true), after := args } = some (.bool (true == true)) from w_eq_bool (w_res rfl) w_lit) rfl

/-! ### the attachment: holds_open's last premise (the goal 'hc' behind k_head) from a wpAny of the law's body -/
/-- the same from a codeAny of the CALL (for a layer whose function contracts speak of calls) -/
theorem attach_call {l : OpenLaw} {n : Nat} {q : Program} {loose : List Str} {XP : (Str → Option Value) → Heap → Prop} {YP : World → Heap → Prop} {d : DefRec}
    (hn : l.most = some n) (hdf : d.params.defaults = [])
    (call : ∀ (w : World) (s₀ s₁ : Shared) (mg mb : Str → Option Value) (fa : Addr) (o : Obj) (pm cd doc : Value) (a : Addr) (vs : List Value) (ns : List Int),
      Ground q loose [] XP w s₀ mg mb s₁.heap → YP w s₁.heap →
      s₁.heap.get? fa = some o → o.data = .func (docDef d.name d.params d.body d.scope pm cd doc) → s₁.heap.CodeRec cd d.name → mg d.name = some (.ref fa) →
      s₁.heap.get? a = some { cls := .type "list", data := .seq vs.toArray } → IntsAre vs ns → ns.length ≤ n → s₁.gens = #[] →
      codeAny (model l.prog w) callerA (.call (.ref fa) ⟨[.ref a], []⟩) (fun r s' => r = .ok (.ret (.bool true)) ∧ OldK s₁.heap s'.heap ∧ s'.os = s₁.os ∧ AllBare s'.gens) s₁) :
    WalkO q loose XP YP l.row.toRowW d [] (fun f vs => PySem.call f vs) := by
  intro w s₀ s₁ mg mb G Y fa o pm cd doc dV kV ho hd hcd hD hmg hg args vals as hpre hlay hrd hwl hlo
  obtain rfl : dV = .none := Dflts.none hD hdf
  obtain rfl : kV = .none := Dflts.noKw hD
  obtain ⟨a, vs, ns, rfl, rfl, hobj, hints, hlen⟩ := script_of hn hpre hwl
  refine enter_call (codeAny_mono (call w s₀ s₁ mg mb fa o pm cd doc a vs ns G Y ho (fd_plain hd) hcd hmg hobj hints hlen hg) fun r s' hq => ?_)
  obtain ⟨rfl, h2, h3, h4⟩ := hq
  exact ⟨.inl ⟨.bool true, .bool true, [], rfl, fun _ => rfl, .bool true, post_true l _, fun _ => ⟨List.Pairwise.nil, fun _ hm => (nomatch hm)⟩⟩, h2, h3, h4⟩

/-! ### rules over ANY heap (no ledger) from facts about the written part K: the library's own take a ledger (News) for what they write -/
section
variable {prog : Program} {w : World} {A : Around} {E : Value → Shared → Prop} {s : Shared} {K : Frag}

/-! the whole heap as the ledger: makes every rule that writes through a ledger a rule over any heap -/
def ledger (h : Heap) (L d : Addr) : List (Addr × Obj) := (List.range h.objs.size).filterMap fun a => if a = L ∨ a = d then none else (h.get? a).map fun o => (a, o)
end
end Att

namespace L2
open PySem PySem.Spec PyProof.Rows

theorem vals_ints : ∀ {vs : List Value} {ns : List Int}, IntsAre vs ns → Vals (ns.map V.int) vs
  | _, _, .nil => .nil
  | _, _, .cons n t h => .cons ⟨t, rfl⟩ (vals_ints h)

end L2

namespace L2
open PySem PySem.Spec PyProof.Rows

end L2

/-! SHORT WORDS over the layer: a def of the text, its body, what a loop and a test want. -/
namespace L2
open PySem PySem.Spec PyProof.Rows

/-! ### the text by places -/
def defArgs (s : Stmt) : Arguments := match s with
  | .FunctionDef _ a _ _ _ _ _ _ _ _ => a
  | _ => { posonlyargs := [], args := [], vararg := none, kwonlyargs := [], kw_defaults := [], kwarg := none, defaults := [] }
def defBody (s : Stmt) : List Stmt := match s with
  | .FunctionDef _ _ b _ _ _ _ _ _ _ => b
  | _ => []
def defScope (s : Stmt) : Scope := match s with
  | .FunctionDef _ _ _ _ _ _ sc _ _ _ => sc
  | _ => { kind := .function, names := [], isGenerator := false, isCoroutine := false }

/-! ### no exception leaves a def -/
abbrev CX0 : CXT := fun _ _ _ _ _ _ => False
abbrev E0 : XK := fun _ _ _ => False
theorem pass0 {X : Cx} : Passes CX0 X E0 := fun _ _ _ _ _ _ _ h => h.elim

/-! ### a def (or method) of the text as it stands behind the top -/
structure Fun (K : PySem.W.Frag) (x qual : Str) (st : Stmt) (f : Addr) (fd : FuncData) : Prop where
  ex : ∃ (oc : Value) (od : Option Addr) (kV doc pm : Value) (an : Option Addr) (cdv ct : Value) (osl : Array (Option Value)),
    fd = PySem.W.fnOf x qual (defArgs st) (defBody st) (defScope st) .none kV doc pm an cdv ct ∧ K.lookup f = some ⟨oc, od, .func fd, osl⟩ ∧ PySem.W.codeIn K cdv qual = true
  kp : PySem.W.keepIn K (.ref f) = true
section
variable {P : Program} {w : World} {K : PySem.W.Frag} {mg : Str → Option Value} {base : Heap}
/-- THE RULE for a def: its body as a term of rules, and the reading of that term -/
theorem Fun.ok {x qual : Str} {st : Stmt} {f : Addr} {fd : FuncData} {N ps : List Str} {k : Nat} {sp : Sp} (F : Fun K x qual st f fd) (S : FnScope N ps (defScope st)) (len : ∀ vs H Q E, sp vs H Q E → vs.length = ps.length)
    (hbody : ∀ (cdv : Value) (A : Around) (outer : List Env) (s : Shared) (H : Hp) (vs : List V) (Q : VK) (E : XK), Room k (A.deeper (envOfC qual (defScope st) s.heap.objs.size f cdv)) → sp vs H Q E →
      ∃ t, PSs (cxOf CX0 P w K mg base N qual (defScope st) f cdv A outer s H E).nox (defBody st) t ∧ t { nx := fun _ H' => Q .non H', rt := Q } (start N vs) H) : FnOk P w K mg base CX0 (k + 1) f fd ps sp := by
  obtain ⟨oc, od, kV, doc, pm, an, cdv, ct, osl, rfl, lk, hcd⟩ := F.ex
  refine fn_of lk hcd S len fun A outer s H vs Q E hr hsp => ?_
  obtain ⟨t, h, q⟩ := hbody cdv A outer s H vs Q E hr hsp
  exact ⟨t, h.nox, q⟩
/-- how its arguments bind (no defaults): h is «fun _ _ _ _ _ _ us hl => match us, hl with | [_, _], _ => rfl», one _ a parameter -/
theorem Fun.binds {x qual : Str} {st : Stmt} {f : Addr} {fd : FuncData} {ps : List Str} (F : Fun K x qual st f fd)
    (h : ∀ (kV doc pm : Value) (an : Option Addr) (cdv ct : Value) (us : List Value), us.length = ps.length → bindArgs (PySem.W.fnOf x qual (defArgs st) (defBody st) (defScope st) .none kV doc pm an cdv ct) ⟨us, []⟩ = pure (ps.zip us)) : Binds K fd ps [] := by
  obtain ⟨oc, od, kV, doc, pm, an, cdv, ct, osl, rfl, lk, hcd⟩ := F.ex
  exact .all (h kV doc pm an cdv ct)
theorem fun_mk {x qual : Str} {st : Stmt} {f : Addr} {oc : Value} {od an : Option Addr} {osl : Array (Option Value)} {kV doc pm cdv ct : Value} (l : K.lookup f = some ⟨oc, od, .func (PySem.W.fnOf x qual (defArgs st) (defBody st) (defScope st) .none kV doc pm an cdv ct), osl⟩)
    (c : PySem.W.codeIn K cdv qual = true) (k : PySem.W.keepIn K (.ref f) = true) : Fun K x qual st f (PySem.W.fnOf x qual (defArgs st) (defBody st) (defScope st) .none kV doc pm an cdv ct) := ⟨⟨oc, od, kV, doc, pm, an, cdv, ct, osl, rfl, l, c⟩, k⟩
end
theorem small1000 {n : Nat} (h : n ≤ 1000) : n < sizeLine := Nat.lt_of_le_of_lt h (by decide)

/-! ### expressions in short: the name that stands in the i-th slot -/
section
variable {X : Cx}
theorem pv (i : Nat) {x : Str} {pos : Pos} (hN : X.N[i]? = some x := by rfl) (hv : Vis X.env.scope x := by first | exact Or.inl rfl | exact Or.inr (Or.inl rfl) | exact Or.inr (Or.inr rfl)) (hd : (x == ("__debug__" : Str)) = false := by decide)
    (hcd : (x == ("__classdict__" : Str)) = false := by decide) : PE X (.Name x pos) (tVar i) := pe_var hN hv hd hcd
end

/-! ### tests -/
theorem iteF {A B : Prop} (h : B) : if false = true then A else B := by
  rw [if_neg Bool.false_ne_true]
  exact h
theorem iteT {A B : Prop} (h : A) : if true = true then A else B := by
  rw [if_pos rfl]
  exact h
theorem ite2 {c A B : Prop} [Decidable c] (h1 : c → A) (h2 : ¬ c → B) : if c then A else B := by
  by_cases h : c
  · rw [if_pos h]
    exact h1 h
  · rw [if_neg h]
    exact h2 h
theorem iteNS {c A B : Prop} [Decidable c] (hc : c) (h : B) : if (!decide c) = true then A else B := by
  rw [decide_eq_true hc]
  exact iteF h

/-! ### heaps -/
/-- all that was tracked is as it was -/
def Same (H H' : Hp) : Prop := ∀ b o, H b = some o → H' b = some o
theorem Same.refl (H : Hp) : Same H H := fun _ _ h => h
theorem Same.trans {H H1 H2 : Hp} (a : Same H H1) (b : Same H1 H2) : Same H H2 := fun c o h => b c o (a c o h)
theorem Same.seq {K : PySem.W.Frag} {H H' : Hp} {a : Addr} {xs : List V} (e : Same H H') (h : SqL K H a xs) : SqL K H' a xs := by
  rcases h with (h | ⟨o, h⟩) | h
  · exact .inl (.inl (e _ _ h))
  · exact .inl (.inr ⟨o, e _ _ h⟩)
  · exact .inr h

/-! ### a dict's pairs: keys that differ -/
section
variable {κ : Type} [DecidableEq κ]
end
end L2

namespace L2
open PySem PySem.Spec PyProof.Rows

/-! ### small rules -/
section
variable {X : Cx} {a b c : Expr} {ta tb tc : TE} {pos : Pos}
/-- a name of the top that holds an int, a text, an object -/
theorem pe_gI {x : Str} {i : Int} (h : ∃ t, X.mg x = some (.int i t)) (hg : Gl X x := by rfl) (hd : (x == ("__debug__" : Str)) = false := by decide) : PE X (.Name x pos) (tC (.int i)) := by
  obtain ⟨t, h⟩ := h
  exact pe_glob hg h ⟨t, rfl⟩ hd
theorem pe_gS {x z : Str} (h : ∃ t, X.mg x = some (.str z t)) (hg : Gl X x := by rfl) (hd : (x == ("__debug__" : Str)) = false := by decide) : PE X (.Name x pos) (tC (.str z)) := by
  obtain ⟨t, h⟩ := h
  exact pe_glob hg h ⟨t, rfl⟩ hd
theorem pe_gR {x : Str} {f : Addr} (h : X.mg x = some (.ref f)) (hg : Gl X x := by rfl) (hd : (x == ("__debug__" : Str)) = false := by decide) : PE X (.Name x pos) (tC (.ref f)) := pe_glob hg h rfl hd
/-- a built-in type as a value -/
theorem pe_ty {x : Str} {T : String} (hm : X.mg x = none) (hv : bootBuiltins x = some (.type T)) (hg : Gl X x := by rfl) (hn : x ≠ "__name__" := by decide) (hd : (x == ("__debug__" : Str)) = false := by decide) : PE X (.Name x pos) (tC (.ty T)) := pe_bltn hg hm hv rfl hn hd
/-- isinstance(x, C), C an own class -/
theorem call_isC : CallR X (.builtin "isinstance") (fun xs H Q => ∃ x C t k, xs = [x, .ref C] ∧ TyOf X.K H x t ∧ PySem.W.kitOne X.K t (.ref C) = some k ∧ Q (.bl k) H) := by
  intro pins s σ H xs us Q I r h
  obtain ⟨x, C, t, k, rfl, ty, e, q⟩ := h
  cases r with
  | cons r1 rr =>
    cases rr with
    | cons r2 rr =>
      cases rr
      cases r2
      exact isinst_ok I r1 ty e fun tk => ⟨.bl k, H, I.tok tk, rfl, q⟩
end

/-! ### data -/
mutual
inductive Dt (K : PySem.W.Frag) (H : Hp) : V → PyData → Prop where
  | non : Dt K H .non .none
  | bl (b : Bool) : Dt K H (.bl b) (.bool b)
  | int (i : Int) : Dt K H (.int i) (.int i)
  | str (x : Str) : Dt K H (.str x) (.str x)
  | lst {a : Addr} {xs : List V} {ds : List PyData} : SqL K H a xs → DtAll K H xs ds → Dt K H (.ref a) (.list ds)
  | tup {a : Addr} {xs : List V} {ds : List PyData} : SqT K H a xs → DtAll K H xs ds → Dt K H (.ref a) (.tuple ds)
  | dK {a : Addr} {kvs : List (Key × V)} : H a = some (.dK kvs) → Dt K H (.ref a) (.dict [])
  | dT {a : Addr} {kvs : List (List Key × V)} : H a = some (.dT kvs) → Dt K H (.ref a) (.dict [])
inductive DtAll (K : PySem.W.Frag) (H : Hp) : List V → List PyData → Prop where
  | nil : DtAll K H [] []
  | cons {v : V} {d : PyData} {vs : List V} {ds : List PyData} : Dt K H v d → DtAll K H vs ds → DtAll K H (v :: vs) (d :: ds)
end
section
variable {X : Cx} {pins : List (Addr × Obj)} {σ : St} {H H' : Hp} {s : Shared}
mutual
theorem Dt.reads (I : Inv X pins σ H s) : ∀ {v : V} {d : PyData} {u : Value}, Dt X.K H v d → RelV v u → d.canLay0 = true → ∃ as, Reads s.heap u d as
  | _, _, _, .non, r, _ => by cases r; exact ⟨_, .none⟩
  | _, _, _, .bl b, r, _ => by cases r; exact ⟨_, .bool b⟩
  | _, _, _, .int i, r, _ => by obtain ⟨t, rfl⟩ := r; exact ⟨_, .int i t⟩
  | _, _, _, .str x, r, _ => by obtain ⟨t, rfl⟩ := r; exact ⟨_, .str x t⟩
  | _, _, _, .lst h hd, r, l => by
    cases r
    obtain ⟨its, rv, ⟨o, n, e, hc, _, hs⟩, _⟩ := I.list h
    obtain ⟨as, ra⟩ := DtAll.reads I hd rv (by rw [PyData.canLay0] at l; exact l)
    exact ⟨_, .list e hc hs (by simpa using ra)⟩
  | _, _, _, .tup h hd, r, l => by
    cases r
    obtain ⟨its, rv, ⟨o, e, hc, n, hs⟩, _⟩ := I.tuple h
    obtain ⟨as, ra⟩ := DtAll.reads I hd rv (by rw [PyData.canLay0] at l; exact l)
    exact ⟨_, .tuple e hc hs (by simpa using ra)⟩
  | _, _, _, .dK _, _, l => by rw [PyData.canLay0] at l; cases l
  | _, _, _, .dT _, _, l => by rw [PyData.canLay0] at l; cases l
theorem DtAll.reads (I : Inv X pins σ H s) : ∀ {vs : List V} {ds : List PyData} {us : List Value}, DtAll X.K H vs ds → Vals vs us → PyData.canLayAll0 ds = true → ∃ as, ReadsAll s.heap us ds as
  | _, _, _, .nil, r, _ => by cases r; exact ⟨_, .nil⟩
  | _, _, _, .cons h hd, r, l => by
    rw [PyData.canLayAll0, Bool.and_eq_true] at l
    cases r with
    | cons r1 rr =>
      obtain ⟨as, ra⟩ := Dt.reads I h r1 l.1
      obtain ⟨bs, rb⟩ := DtAll.reads I hd rr l.2
      exact ⟨_, .cons ra rb⟩
end
theorem Same.seqT {K : PySem.W.Frag} {a : Addr} {xs : List V} (e : Same H H') (h : SqT K H a xs) : SqT K H' a xs := by
  rcases h with (h | ⟨o, h⟩) | h
  · exact .inl (.inl (e _ _ h))
  · exact .inl (.inr ⟨o, e _ _ h⟩)
  · exact .inr h
mutual
theorem Dt.same {K : PySem.W.Frag} (e : Same H H') : ∀ {v : V} {d : PyData}, Dt K H v d → Dt K H' v d
  | _, _, .non => .non
  | _, _, .bl b => .bl b
  | _, _, .int i => .int i
  | _, _, .str x => .str x
  | _, _, .lst h hd => .lst (e.seq h) (DtAll.same e hd)
  | _, _, .tup h hd => .tup (Same.seqT e h) (DtAll.same e hd)
  | _, _, .dK h => .dK (e _ _ h)
  | _, _, .dT h => .dT (e _ _ h)
theorem DtAll.same {K : PySem.W.Frag} (e : Same H H') : ∀ {vs : List V} {ds : List PyData}, DtAll K H vs ds → DtAll K H' vs ds
  | _, _, .nil => .nil
  | _, _, .cons h hd => .cons (Dt.same e h) (DtAll.same e hd)
end
theorem DtAll.get {K : PySem.W.Frag} : ∀ {vs : List V} {ds : List PyData} {i : Nat} {v : V}, DtAll K H vs ds → vs[i]? = some v → ∃ d, ds[i]? = some d ∧ Dt K H v d
  | _, _, _, _, .nil, e => by simp at e
  | _, _, 0, _, .cons h _, e => by simp at e; subst e; exact ⟨_, rfl, h⟩
  | _, _, i + 1, v, .cons _ t, e => by
    obtain ⟨d, h1, h2⟩ := DtAll.get (i := i) (v := v) t (by simpa using e)
    exact ⟨d, by simpa using h1, h2⟩
theorem DtAll.length {K : PySem.W.Frag} : ∀ {vs : List V} {ds : List PyData}, DtAll K H vs ds → vs.length = ds.length
  | _, _, .nil => rfl
  | _, _, .cons _ t => by rw [List.length_cons, List.length_cons, DtAll.length t]
theorem DtAll.append {K : PySem.W.Frag} : ∀ {vs ws : List V} {ds es : List PyData}, DtAll K H vs ds → DtAll K H ws es → DtAll K H (vs ++ ws) (ds ++ es)
  | _, _, _, _, .nil, h => h
  | _, _, _, _, .cons h t, h' => .cons h (DtAll.append t h')
/-- == of data -/
theorem op_eqD (hu : X.A.units + 64 < cLine) : OpR X (compareOp .Eq) (fun x y H Q => ∃ dx dy, Dt X.K H x dx ∧ Dt X.K H y dy ∧ dx.canLay0 = true ∧ dy.canLay0 = true ∧ dx.depth ≤ 64 ∧ Q (.bl (PyData.eqv dx dy)) H) := by
  intro pins s σ H x y v u Q I rx ry h
  obtain ⟨dx, dy, hx, hy, lx, ly, hd, q⟩ := h
  obtain ⟨as, ra⟩ := Dt.reads I hx rx lx
  obtain ⟨bs, rb⟩ := Dt.reads I hy ry ly
  exact SeqAt.compareEq_reads ra rb lx ly (by have := Nat.min_le_left dx.depth dy.depth; omega) ⟨.bl _, H, I, rfl, q⟩
end

/-! ### the signs of a text, walked -/
def Its (x : Str) : It := ⟨fun i _ => i < x.cps.size, fun i H v H' => H' = H ∧ ∃ c, x.cps[i]? = some c ∧ v = .str ⟨#[c]⟩, fun i _ => x.cps.size ≤ i⟩
theorem turn_str {P : Program} {w : World} {K : PySem.W.Frag} {tg : Expr} (it : Addr) (x : Str) (t : Tok) : ∀ ty : String, (ty = "str_ascii_iterator" ∨ ty = "str_iterator") → Turn P w K tg (Its x) [it] it (fun i h => h.IsStrIter it ty x t i) := by
  intro ty hty
  refine ⟨by simp, ?_, ?_, ?_, ?_, ?_⟩
  · intro i h st b hb
    have e : b = it := by simpa using hb
    subst e
    obtain ⟨o, e, c, d⟩ := st
    exact ⟨o, e, fun v z => by rw [d] at z; cases z⟩
  · intro i h h' st k
    obtain ⟨o, e, c, d⟩ := st
    exact ⟨o, k it (by simp) o e, c, d⟩
  · intro X hP hw hK hc i pins s σ H E I hf st hg
    subst hP hw hK
    obtain ⟨f0, f1, f2, f3, f4, f5⟩ := hf it (by simp)
    have hi : i < x.cps.size := hg
    have hx : x.cps[i]? = some x.cps[i] := by simp [hi]
    have fin : ∀ h', h'.IsStrIter it ty x t (i + 1) → Heap.SameBut it s.heap h' → ∃ u, some (Value.str ⟨#[x.cps[i]]⟩ s.toks) = some u ∧
        wpAny (model X.prog X.w) X.A (letOwnedTupleGo tg (.ref it) u) (fun _ s2 => ∃ y H', Inv X pins σ H' s2 ∧ RelV y u ∧ (Its x).yld i H y H' ∧ s2.heap.IsStrIter it ty x t (i + 1) ∧ ∀ b ∈ [it], H' b = none) E { s with heap := h', toks := s.toks + 1 } := by
      intro h' st' sb
      have I1 : Inv X pins σ H { s with heap := h', toks := s.toks + 1 } := I.turned (fun b o hb e => (sb.2 b hb).trans e) f0 f1 f3 f4 f5
      obtain ⟨o, e, c, d⟩ := id st'
      refine ⟨_, rfl, go_of (s := { s with heap := h', toks := s.toks + 1 }) e c d ?_ ⟨.str ⟨#[x.cps[i]]⟩, H, I1, ⟨_, rfl⟩, ⟨rfl, _, hx, rfl⟩, st', fun b hb => (hf b hb).1⟩⟩
      rcases hty with rfl | rfl <;> decide
    rcases hty with rfl | rfl
    · exact wpAny_pyNext_ascii_item st hx fin
    · exact wpAny_pyNext_wide_item st hx fin
  · intro X hP hw hK hc i pins s σ H E I hf st hg
    subst hP hw hK
    obtain ⟨f0, f1, f2, f3, f4, f5⟩ := hf it (by simp)
    have hi : x.cps.size ≤ i := hg
    have hx : x.cps[i]? = none := by simp [hi]
    have fin : ∀ h', Heap.ExtBut it s.heap h' → (none : Option Value) = none ∧ Inv X pins σ H { s with heap := h' } := fun h' eb => ⟨rfl, I.turned (t' := s.toks) (fun b o hb e => eb b o hb e) f0 f1 f3 f4 f5⟩
    rcases hty with rfl | rfl
    · exact wpAny_pyNext_ascii_end (I.ok.hd hc) st hx fin
    · exact wpAny_pyNext_wide_end (I.ok.hd hc) st hx fin
  · intro A i s Q E st h
    rcases hty with rfl | rfl
    · exact wpAny_pyIter_striter_ascii st h
    · exact wpAny_pyIter_striter_wide st h
section
variable {X : Cx} {tg : Expr}
def iStr (tl : TE) : TI := fun σ H R => tl σ H fun v H1 => ∃ x, v = .str x ∧ R (Its x) H1
theorem pi_str {l : Expr} {tl : TE} (hl : PE X l tl) : PI X tg l (iStr tl) := by
  intro pins s σ H R I h
  refine thn (hl pins s σ H _ I h) fun v s1 ⟨y, H1, I1, r1, q1⟩ => ?_
  obtain ⟨x, e, q⟩ := q1
  subst e
  obtain ⟨t, rfl⟩ := r1
  have fin : ∀ ty : String, (ty = "str_ascii_iterator" ∨ ty = "str_iterator") → PIE X pins σ tg R (.ref s1.heap.objs.size) { s1 with heap := s1.heap.push { cls := .type ty, data := .fields #[.str x t, .int 0 0] } } := fun ty hty => by
    refine ⟨s1.heap.objs.size, [s1.heap.objs.size], _, _, H1, rfl, I1.kept (t' := s1.toks) fun b o e => Heap.get?_push_of_some _ e, turn_str _ x t ty hty, ⟨_, Heap.get?_push_size _ rfl, rfl, rfl⟩, fun b hb => ?_, q⟩
    have e : b = s1.heap.objs.size := by simpa using hb
    subst e
    exact I1.fpOk (Nat.le_refl _) (I1.hok.fresh (Nat.le_refl _))
  cases ha : x.cps.all (· < 128)
  · exact wpAny_pyIter_wide ha (fin _ (.inr rfl))
  · exact wpAny_pyIter_ascii ha (fin _ (.inl rfl))
end
end L2

namespace L2
open PySem PySem.Spec PyProof.Rows

/-! ### a list's comprehension -/
section
variable {prog : Program} {w : World} {A : Around} {R : Result → Shared → Prop} {s : Shared}
theorem compLoop_own {elt target iter : Expr} {ifs : List Expr} {scope : Scope} {pos : Pos} {it acc : Value} {env : Env} (I : Nat → Shared → Prop)
    (turn : ∀ n s, I n s → wpAny (model prog w) A (pyNext it) (fun r s₁ => match r with
      | none => R (.ok .next) s₁
      | some v => wpAny (model prog w) A (letOwnedTupleGo target it v) (fun _ s₁' => wpAny (model prog w) A (assign target env v) (fun _ s₂ =>
          wpAny (model prog w) A (forIn ifs true fun c r => if r = true then do let ok ← isTrue c env (eval c env); pure (ForInStep.yield ok) else pure (ForInStep.yield r)) (fun ok s₃ =>
            if ok = true then wpAny (model prog w) A (eval elt env) (fun x s₄ =>
              wpAny (model prog w) A (call (.builtin "list.append") [acc, x]) (fun _ s₅ => ∃ m, m < n ∧ I m s₅) (fun _ _ => False) s₄) (fun _ _ => False) s₃
            else ∃ m, m < n ∧ I m s₃) (fun _ _ => False) s₂) (fun _ _ => False) s₁') (fun _ _ => False) s₁) (fun _ _ => False) s)
    (n : Nat) (h : I n s) :
    codeAny (model prog w) A (.compLoop (.ListComp elt [⟨target, iter, ifs, 0⟩] scope pos) 0 it acc env) R s := by
  refine codeAny_loop rfl I (fun n s hI => ?_) n h
  show wpAny _ A ((compTurn (.ListComp elt [⟨target, iter, ifs, 0⟩] scope pos) 0 it acc env).onRaise (fun x => do noteFrame x env; theTreesLotGoes x)) _ _ s
  refine wpAny_noted ?_
  rw [compTurn_list]
  refine wpAny_bind (wpAny_standAt (wpAny_bind (wpAny_mono (turn n s hI) (fun r s₁ h₁ => ?_) fun _ _ h' => h'.elim)))
  cases r with
  | none => exact wpAny_pure h₁
  | some v =>
    refine wpAny_bind (wpAny_mono h₁ (fun _ s₁' h₁' => ?_) fun _ _ h' => h'.elim)
    refine wpAny_bind (wpAny_mono h₁' (fun _ s₂ h₂ => wpAny_bind (wpAny_mono h₂ (fun ok s₃ h₃ => ?_) fun _ _ h' => h'.elim)) fun _ _ h' => h'.elim)
    cases ok with
    | false => exact wpAny_pure ⟨rfl, h₃⟩
    | true =>
      exact wpAny_bind (wpAny_bind (wpAny_mono h₃ (fun x s₄ h₄ => wpAny_bind (wpAny_mono h₄ (fun _ s₅ h₅ => wpAny_pure (wpAny_pure ⟨rfl, h₅⟩)) fun _ _ h' => h'.elim)) fun _ _ h' => h'.elim))
end

/-- the context of a comprehension's block -/
def cxComp (X : Cx) (scope : Scope) (cl : List (Str × Addr)) (C : Addr) (N' : List Str) (fp : List Addr) (pins : List (Addr × Obj)) (s : Shared) (H : Hp) : Cx where
  prog := X.prog
  w := X.w
  K := X.K
  mg := X.mg
  base := X.base
  A := X.A
  N := N'
  s₀ := s
  H₀ := H
  env := compEnvC scope cl C X.env
  outer := X.stack
  stack := X.stack
  ex := fp
  calm := X.calm
  fn := fun _ => false
  pn := X.pn ++ pins
  xe := fun _ _ => False
/-- the cells that the block sees -/
structure Caps (X : Cx) (scope : Scope) (cl : List (Str × Addr)) (cp : List (Nat × Str)) : Prop where
  kind : scope.kind = .function
  nocell : ∀ y ∈ scope.names, y.2 ≠ .cell
  names : ∀ y ∈ scope.names, y.2 = .local → scope.names.lookup y.1 = some .local
  clos : closureFor scope X.env = pure cl
  sub : ∀ x c, cl.lookup x = some c → X.env.cells.lookup x = some c
  has : ∀ x, ((relabel scope X.env).names.lookup x = some .cell ∨ (relabel scope X.env).names.lookup x = some .free) → ∃ c, cl.lookup x = some c
  at' : ∀ p ∈ cp, X.N[p.1]? = some p.2 ∧ (X.env.scope.names.lookup p.2 = some .cell ∨ X.env.scope.names.lookup p.2 = some .free) ∧ ((relabel scope X.env).names.lookup p.2 = some .cell ∨ (relabel scope X.env).names.lookup p.2 = some .free)
def capσ (cp : List (Nat × Str)) (σ : St) : St := cp.map fun p => (σ[p.1]?).getD none
section
variable {X : Cx} {pins : List (Addr × Obj)} {σ : St} {H : Hp} {s : Shared} {scope : Scope} {cl : List (Str × Addr)} {cp : List (Nat × Str)} {fp : List Addr} {x : Str}
theorem inv_comp (I : Inv X pins σ H s) (c : Caps X scope cl cp) (hf : ∀ b ∈ fp, FpOk X pins H b) (hfo : ∀ b ∈ fp, b < s.heap.objs.size) {h' : Heap} {ty : String} {tk : Nat} {m : Str → Option Value} (hm : h'.Ns s.heap.objs.size m)
    (sb : Heap.SameBut s.heap.objs.size (s.heap.push { cls := .type ty, data := .dict #[] }) h') :
    Inv (cxComp X scope cl s.heap.objs.size (x :: cp.map (·.2)) fp pins s H) [] (none :: capσ cp σ) H { s with heap := h', toks := tk } := by
  have old : ∀ b o, s.heap.get? b = some o → h'.get? b = some o := fun b o e => (sb.2 b (Nat.ne_of_lt (Heap.lt_size e))).trans (Heap.get?_push_of_some _ e)
  have hC : H s.heap.objs.size = none := I.hok.fresh (Nat.le_refl _)
  refine ⟨⟨I.ok.mod, c.kind, I.ok.glob, I.ok.blt, Nat.le_refl _, fun y z k h1 h2 => I.ok.inj y z k (c.sub _ _ h1) (c.sub _ _ h2), c.has, fun y k z => (Bool.noConfusion z), I.ok.hd, I.ok.frames, .inl rfl, fun b hb => ?_, fun b o e => I.bs b o e, Nat.le_trans I.ok.bsz I.sz, fun b o e hb => ?_, fun b hb hz => ?_, I.stack, I.stkFree⟩,
    rfl, I.bare, Un.kept old, ⟨m, hm, fun i y v h1 h2 h3 => ?_⟩, fun y k e => ?_, hC, fun y k e => I.freeC y k (c.sub y k e), fun p hp => ?_, I.hok.kept old, ?_⟩
  · obtain ⟨f0, f1, f2, f3, f4, f5⟩ := hf b hb
    exact ⟨Nat.ne_of_lt (hfo b hb), fun y k e => f4 y k (c.sub y k e)⟩
  · obtain ⟨f0, f1, f2, f3, f4, f5⟩ := hf b hb
    rcases f3 with z | z
    · exact I.ok.noex b o e z
    · exact absurd (Nat.lt_of_lt_of_le (Heap.lt_size (I.ok.bs b o e).1) z) (Nat.lt_irrefl _)
  · obtain ⟨f0, f1, f2, f3, f4, f5⟩ := hf b hb
    rcases List.mem_cons.mp (I.stkSub b hz) with e | e
    · exact f1 e
    · exact f2 e
  · cases i with
    | zero => simp at h2
    | succ i =>
      have h1' : (cp.map (·.2))[i]? = some y := by
        have z : (x :: cp.map (·.2))[i + 1]? = some y := h1
        rw [List.getElem?_cons_succ] at z
        exact z
      have h2' : (capσ cp σ)[i]? = some (some v) := by simpa using h2
      unfold capσ at h2'
      rw [List.getElem?_map] at h1' h2'
      cases e : cp[i]? with
      | none => rw [e] at h1'; cases h1'
      | some p =>
        rw [e] at h1' h2'
        simp only [Option.map_some, Option.some.injEq] at h1' h2'
        obtain ⟨k1, k2, k3⟩ := c.at' p (List.mem_of_getElem? e)
        subst h1'
        have h2'' : σ[p.1]? = some (some v) := by
          cases q : σ[p.1]? with
          | none => rw [q] at h2'; cases h2'
          | some z => rw [q] at h2'; simpa using h2'
        obtain ⟨m0, hn0, hl0⟩ := I.loc
        obtain ⟨u, r, l⟩ := hl0 p.1 p.2 v k1 h2'' (k2.elim (fun z => .inr (.inl z)) fun z => .inr (.inr z))
        refine ⟨u, r, .inr ⟨k3, ?_⟩⟩
        rcases l with ⟨z, _⟩ | ⟨_, cc, e1, e2⟩
        · have z' : X.env.scope.names.lookup p.2 = some .local := z
          rcases k2 with k | k <;> (rw [z'] at k; cases k)
        · obtain ⟨cc', e3⟩ := c.has p.2 k3
          have e4 := c.sub _ _ e3
          rw [e1] at e4
          cases e4
          obtain ⟨o, ho, hd⟩ := e2
          exact ⟨cc, e3, o, old _ _ ho, hd⟩
  · obtain ⟨v, o, ho, hd⟩ := I.cell y k (c.sub y k e)
    exact ⟨v, o, old _ _ ho, hd⟩
  · have hp' : p ∈ X.pn ++ pins := by
      rcases List.mem_append.mp hp with z | z
      · exact z
      · cases z
    obtain ⟨e, n, ne, nf, d⟩ := I.pin p hp'
    refine ⟨old _ _ e, n, Nat.ne_of_lt (Heap.lt_size e), fun hz => ?_, d⟩
    rcases List.mem_cons.mp (I.stkSub p.1 hz) with q | q
    · exact ne q
    · exact nf q
  · show (none :: capσ cp σ).length = (x :: cp.map (·.2)).length
    simp [capσ]
/-- behind the block -/
theorem Inv.uncomp {C : Addr} {N' : List Str} {σ' : St} {H' : Hp} {s' : Shared} {h'' : Heap} (I : Inv X pins σ H s) (hC : C = s.heap.objs.size) (hf : ∀ b ∈ fp, FpOk X pins H b) (J : Inv (cxComp X scope cl C N' fp pins s H) [] σ' H' s') (sb : Heap.SameBut C s'.heap h'') :
    Inv X pins σ H' { s' with heap := h'' } := by
  have ne : ∀ b o, s.heap.get? b = some o → b ≠ C := fun b o e => by rw [hC]; exact Nat.ne_of_lt (Heap.lt_size e)
  have B : Un (frs X.stack) fp H H' s.heap s'.heap := J.base
  refine I.call' (s' := { s' with heap := h'' }) (ch := fp) (show s'.os = s.os from J.os) ⟨fun b o e n hb hx => ?_, fun b o e n hb hx => ?_, B.free, fun b o e hx => ?_, B.tups, B.frzs, B.tbls⟩ (fun b ob e => ?_) J.bare fun b hb => ?_
  · exact (sb.2 b (ne b o e)).trans (B.keep b o e n hb hx)
  · obtain ⟨sl, q⟩ := B.slot b o e n hb hx
    exact ⟨sl, (sb.2 b (ne b o e)).trans q⟩
  · obtain ⟨o', q⟩ := B.there b o e hx
    exact ⟨o', (sb.2 b (ne b o e)).trans q⟩
  · have hfree : H' C = none := J.free
    refine (J.hok b ob e).stay (fun k w' hk q => (sb.2 k ?_).trans q) (fun _ q => q) fun _ _ q => q
    rintro rfl
    rcases hk with rfl | hk
    · rw [hfree] at e; cases e
    · rw [hfree] at hk; cases hk
  · obtain ⟨f0, f1, f2, f3, f4, f5⟩ := hf b hb
    exact ⟨f3, f1, f4, f5⟩
end

/-- the tests behind the for -/
def PTs (X : Cx) (ifs : List Expr) (t : TT) : Prop :=
  ∀ (pins : List (Addr × Obj)) (s : Shared) (σ : St) (H : Hp) (Q : Bool → Hp → Prop), Inv X pins σ H s → t σ H Q →
    wpAny (model X.prog X.w) X.A (forIn ifs true fun c r => if r = true then do let ok ← isTrue c X.env (eval c X.env); pure (ForInStep.yield ok) else pure (ForInStep.yield r)) (TP X pins σ Q) X.xe s
def tYes : TT := fun _ H Q => Q true H
theorem pts_nil {X : Cx} : PTs X [] tYes := fun _ _ _ H _ I h => wpAny_tests_nil ⟨H, I, h⟩
/-- the loop of a comprehension: W by the turn and a measure; the list grows at D -/
def tLoop (cp : List (Nat × Str)) (tt : TT) (te : TE) (σ : St) (J : It) (D : Addr) (Q : VK) (H1 : Hp) : Prop :=
  ∃ W : Nat → Nat → Hp → Prop, (∃ m, W 0 m (upd H1 D (.lst []))) ∧ ∀ i m H2, W i m H2 → (J.stop i H2 ∧ Q (.ref D) H2) ∨
    (J.go i H2 ∧ ∃ (N : VK) (N' : Hp → Prop), (∀ y H5, N y H5 → ∃ ys m', H5 D = some (.lst ys) ∧ ys.length < sizeLine ∧ m' < m ∧ W (i + 1) m' (upd H5 D (.lst (ys ++ [y])))) ∧ (∀ H4, N' H4 → ∃ m', m' < m ∧ W (i + 1) m' H4) ∧
      ∀ v H3, J.yld i H2 v H3 → tt (some v :: capσ cp σ) H3 fun b H4 => if b = true then te (some v :: capσ cp σ) H4 N else N' H4)
def tComp (cp : List (Nat × Str)) (wi : TI) (tt : TT) (te : TE) : TE := fun σ H Q => wi σ H fun J H1 => ∀ D, H1 D = none → tLoop cp tt te σ J D Q H1
section
variable {X : Cx} {scope : Scope} {cl : List (Str × Addr)} {cp : List (Nat × Str)} {x : Str} {px pos : Pos} {elt iter : Expr} {ifs : List Expr} {wi : TI} {tt : TT} {te : TE}
theorem comp_core {pins : List (Addr × Obj)} {σ : St} {H2 : Hp} {s2 : Shared} {it : Addr} {fp : List Addr} {tn : Nat → Heap → Prop} {J : It} {Q : VK} {R : Addr → Result → Shared → Prop} {E : Value → Shared → Prop} (c : Caps X scope cl cp) (hcalm : X.calm = true) (hx : scope.names.lookup x = some .local) (hnd : (x :: cp.map (·.2)).Nodup)
    (ht : ∀ C fp pins s H, PTs (cxComp X scope cl C (x :: cp.map (·.2)) fp pins s H) ifs tt) (he : ∀ C fp pins s H, PE (cxComp X scope cl C (x :: cp.map (·.2)) fp pins s H) elt te)
    (I2 : Inv X pins σ H2 s2) (T : Turn X.prog X.w X.K (.Name x px) J fp it tn) (st2 : tn 0 s2.heap) (f2 : ∀ b ∈ fp, FpOk X pins H2 b) (q : tLoop cp tt te σ J s2.heap.objs.size Q H2)
    (hR : ∀ (C : Addr) (H' : Hp) (s' : Shared), (∃ m, s'.heap.Ns C m) → X.s₀.heap.objs.size ≤ C → H' C = none → C ≠ X.env.locals → (∀ x c, X.env.cells.lookup x = some c → c ≠ C) → (∀ p ∈ X.pn ++ pins, p.1 ≠ C) → (∀ h'', Heap.SameBut C s'.heap h'' → Inv X pins σ H' { s' with heap := h'' }) → Q (.ref s2.heap.objs.size) H' → R C (.ok .next) s') :
    wpAny (model X.prog X.w) X.A (newList []) (fun acc s₃ => wpAny (model X.prog X.w) X.A (newFunctionEnv scope X.env.globals cl [] X.env.qual none .none (some X.env)) (fun cenv s₄ =>
      acc = .ref s2.heap.objs.size ∧ codeAny (model X.prog X.w) X.A (.compStart (.ListComp elt [⟨.Name x px, iter, ifs, 0⟩] scope pos) 0 (.ref it) acc { cenv with scope := relabel scope X.env }) (R cenv.locals) s₄) E s₃) E s2 := by
  obtain ⟨W, ⟨m0, w0⟩, turn⟩ := q
  refine wpAny_newObj_type ?_
  have I3 : Inv X pins σ (upd H2 s2.heap.objs.size (.lst [])) { s2 with heap := s2.heap.push { cls := .type "list", dict := none, data := .seq ([] : List Value).toArray } } :=
    I2.lnew (t' := s2.toks) (ys := []) (its := []) .nil (Nat.zero_le _)
  have fpo : ∀ b ∈ fp, b < s2.heap.objs.size := fun b hb => by
    obtain ⟨o, e, _⟩ := T.obj _ _ st2 b hb
    exact Heap.lt_size e
  have f3 : ∀ b ∈ fp, FpOk X pins (upd H2 s2.heap.objs.size (.lst [])) b := fun b hb => ⟨by rw [upd_ne (Nat.ne_of_lt (fpo b hb))]; exact (f2 b hb).1, (f2 b hb).2⟩
  generalize hs3 : ({ s2 with heap := s2.heap.push { cls := .type "list", dict := none, data := .seq ([] : List Value).toArray } } : Shared) = s3 at I3
  have e3 : s3.heap = s2.heap.push { cls := .type "list", dict := none, data := .seq ([] : List Value).toArray } := by rw [← hs3]
  have sz3 : s2.heap.objs.size < s3.heap.objs.size := by rw [e3, Heap.size_push]; exact Nat.lt_succ_self _
  refine wpAny_newFunctionEnv c.nocell (by intro y hy; cases hy) (fun h₁ hns sb => ?_) c.kind
  have J3 := inv_comp (x := x) (tk := s3.toks + ([] : List (Str × Value)).length) I3 c f3 (fun b hb => Nat.lt_trans (fpo b hb) sz3) hns sb
  refine ⟨rfl, ?_⟩
  have st3 : tn 0 h₁ := T.keep _ _ _ st2 fun b hb o e => (sb.2 b (Nat.ne_of_lt (Nat.lt_trans (fpo b hb) sz3))).trans (Heap.get?_push_of_some _ (by rw [e3]; exact Heap.get?_push_of_some _ e))
  generalize hX : cxComp X scope cl s3.heap.objs.size (x :: cp.map (·.2)) fp pins s3 (upd H2 s2.heap.objs.size (.lst [])) = X' at J3
  have eA : X'.A = X.A := by rw [← hX]; rfl
  have eP : X'.prog = X.prog := by rw [← hX]; rfl
  have ew : X'.w = X.w := by rw [← hX]; rfl
  have eK : X'.K = X.K := by rw [← hX]; rfl
  have ec : X'.calm = true := by rw [← hX]; exact hcalm
  have ee : X'.env = compEnvC scope cl s3.heap.objs.size X.env := by rw [← hX]; rfl
  have ex : X'.xe = fun _ _ => False := by rw [← hX]; rfl
  have fpX : ∀ {H' : Hp}, (∀ b ∈ fp, H' b = none) → ∀ b ∈ fp, FpOk X' [] H' b := fun hn b hb => by
    obtain ⟨f0, f1, f2', f3', f4, f5⟩ := f3 b hb
    subst hX
    refine ⟨hn b hb, Nat.ne_of_lt (Nat.lt_trans (fpo b hb) sz3), fun hz => ?_, .inl hb, fun y k e => f4 y k (c.sub y k e), fun p hp => ?_⟩
    · rcases List.mem_cons.mp (I3.stkSub b hz) with e | e
      · exact f1 e
      · exact f2' e
    · rcases List.mem_append.mp hp with z | z
      · exact f5 p z
      · cases z
  have pT := ht s3.heap.objs.size fp pins s3 (upd H2 s2.heap.objs.size (.lst []))
  have pE := he s3.heap.objs.size fp pins s3 (upd H2 s2.heap.objs.size (.lst []))
  have pG : PG X' (.Name x px) (gName 0) := by
    subst hX
    exact pg_name hnd rfl (.inl (lookup_relabel_local hx)) (.inr (lookup_relabel_local hx))
  rw [hX] at pT pE
  have loop : codeAny (model X.prog X.w) X.A (.compLoop (.ListComp elt [⟨.Name x px, iter, ifs, 0⟩] scope pos) 0 (.ref it) (.ref s2.heap.objs.size) (compEnvC scope cl s3.heap.objs.size X.env)) (R s3.heap.objs.size) { s3 with heap := h₁, toks := s3.toks + ([] : List (Str × Value)).length } := by
    refine compLoop_own (fun n s' => ∃ i o H', Inv X' [] (o :: capσ cp σ) H' s' ∧ tn i s'.heap ∧ (∀ b ∈ fp, H' b = none) ∧ W i n H') ?_ m0 ⟨0, none, _, J3, st3, fun b hb => (f3 b hb).1, w0⟩
    rintro n s5 ⟨i, o, H5, J5, st5, fr5, w5⟩
    rcases turn i n H5 w5 with ⟨stop, qn⟩ | ⟨go, N, N', hN, hN', step⟩
    · have z := T.done X' eP ew eK ec i [] s5 _ H5 (fun _ _ => False) J5 (fpX fr5) st5 stop
      rw [eA] at z
      refine thn z fun r s6 ⟨hr, J6⟩ => ?_
      subst hr
      subst hX
      obtain ⟨m6, hn6, _⟩ := J6.loc
      refine hR s3.heap.objs.size H5 s6 ⟨m6, hn6⟩ I3.sz J6.free (Nat.ne_of_gt I3.lt) (fun y k e z => ?_) (fun p hp z => ?_) (fun h'' sb' => I3.uncomp rfl f3 J6 sb') qn
      · obtain ⟨v, w'⟩ := I3.cell y k e
        exact absurd w'.lt (by rw [z]; exact Nat.lt_irrefl _)
      · exact absurd (Heap.lt_size (I3.pin p hp).1) (by rw [z]; exact Nat.lt_irrefl _)
    · have z := T.item X' eP ew eK ec i [] s5 _ H5 (fun _ _ => False) J5 (fpX fr5) st5 go
      rw [eA] at z
      refine thn z fun r s6 ⟨u, hr, h6⟩ => ?_
      subst hr
      refine thn h6 fun _ s7 ⟨v, H7, J7, r7, y7, st7, fr7⟩ => ?_
      have J7' := J7.pinned (fpX fr7) (T.obj _ _ st7)
      have z8 := pG _ s7 _ H7 v u (fun σ' H' => σ' = some v :: capσ cp σ ∧ H' = H7) J7' r7 ⟨rfl, rfl⟩
      rw [eA, eP, ew, ee, ex] at z8
      refine thn z8 fun _ s8 ⟨σ8, H8, J8, e8, e8'⟩ => ?_
      subst e8 e8'
      have z9 := pT _ s8 _ H8 _ J8 (step v H8 y7)
      rw [eA, eP, ew, ee, ex] at z9
      refine thn z9 fun ok s9 ⟨H9, J9, q9⟩ => ?_
      have fin : ∀ {H' : Hp} {s' : Shared}, Inv X' ([] ++ pinsAt fp s7.heap) (some v :: capσ cp σ) H' s' → (∃ m', m' < n ∧ W (i + 1) m' H') → ∃ m, m < n ∧ ∃ i o H', Inv X' [] (o :: capσ cp σ) H' s' ∧ tn i s'.heap ∧ (∀ b ∈ fp, H' b = none) ∧ W i m H' := fun {H' s'} K' ⟨m', hm, w'⟩ => by
        refine ⟨m', hm, i + 1, some v, H', K'.unpinned, T.keep _ _ _ st7 fun b hb ob e => (K'.pin (b, ob) (List.mem_append_right _ (List.mem_append_right _ (mem_pinsAt hb e)))).1, fun b hb => ?_, w'⟩
        obtain ⟨ob, e, d⟩ := T.obj _ _ st7 b hb
        exact (K'.pin (b, ob) (List.mem_append_right _ (List.mem_append_right _ (mem_pinsAt hb e)))).2.1
      cases ok with
      | false =>
        rw [if_neg Bool.false_ne_true] at q9 ⊢
        exact fin J9 (hN' _ q9)
      | true =>
        rw [if_pos rfl] at q9 ⊢
        have z10 := pE _ s9 _ H9 _ J9 q9
        rw [eA, eP, ew, ee, ex] at z10
        refine thn z10 fun u10 s10 ⟨y, H10, J10, r10, n10⟩ => ?_
        obtain ⟨ys, m', hD, hz, hm, w'⟩ := hN y H10 n10
        have z11 := mt_append (X := X') _ s10 _ H10 (.ref s2.heap.objs.size) [y] (.ref s2.heap.objs.size) [u10] (fun _ H' => H' = upd H10 s2.heap.objs.size (.lst (ys ++ [y]))) J10 rfl (.cons r10 .nil) ⟨_, ys, y, rfl, rfl, hD, hz, rfl⟩
        rw [eA, eP, ew, ex] at z11
        refine thn z11 fun u11 s11 ⟨y', H11, J11, r11, e11⟩ => ?_
        subst e11
        exact fin J11 ⟨m', hm, w'⟩
  exact codeAny_compStart_list loop (T.self _ 0 _ _ _ st3 loop)
theorem pe_comp (c : Caps X scope cl cp) (hcalm : X.calm = true) (hx : scope.names.lookup x = some .local) (hnd : (x :: cp.map (·.2)).Nodup) (hi : PI X (.Name x px) iter wi)
    (ht : ∀ C fp pins s H, PTs (cxComp X scope cl C (x :: cp.map (·.2)) fp pins s H) ifs tt) (he : ∀ C fp pins s H, PE (cxComp X scope cl C (x :: cp.map (·.2)) fp pins s H) elt te)
    (hs : ∀ v, foldedSetIterable iter X.env v = pure v := by intro _; rfl) : PE X (.ListComp elt [⟨.Name x px, iter, ifs, 0⟩] scope pos) (tComp cp wi tt te) := by
  intro pins s σ H Q I h
  rw [eval_ListComp]
  refine wpAny_comprehension_free (use := none) (g := ⟨.Name x px, iter, ifs, 0⟩) (gs := []) (cl := cl) rfl hs c.clos c.kind c.names ?_
  refine thn (hi pins s σ H _ I h) fun v s1 h1 => thn h1 fun itv s2 h2 => ?_
  obtain ⟨it, fp, tn, J, H2, e, I2, T, st2, f2, q⟩ := h2
  subst e
  refine thn (comp_core (iter := iter) (pos := pos) (R := fun C => compPost (model X.prog X.w) X.A X.xe none (EP X pins σ Q) (.ref s2.heap.objs.size) C) c hcalm hx hnd ht he I2 T st2 f2 (q _ (I2.hok.fresh (Nat.le_refl _))) ?_) fun acc s3 h3 => thn h3 fun cenv s4 h4 => ?_
  · rintro C H' s' ⟨m, hn⟩ _ _ _ _ _ hI hq
    exact ⟨m, hn, fun h'' sb => ⟨.ref s2.heap.objs.size, H', hI h'' sb, rfl, hq⟩⟩
  · obtain ⟨e, h4⟩ := h4
    subst e
    exact h4
end
end L2

namespace L2
open PySem PySem.Spec PyProof.Rows

section
variable {X : Cx} {scope : Scope} {cl : List (Str × Addr)} {cp : List (Nat × Str)} {x : Str} {px pos : Pos} {elt iter : Expr} {ifs : List Expr} {wi : TI} {tt : TT} {te : TE}
/-- y = [.. for ..]: the store comes ahead of the letting go -/
theorem ps_setComp {i : Nat} {y : Str} {py : Pos} {pos' : Pos} (hN : X.N.Nodup) (hi' : X.N[i]? = some y) (hy : X.env.scope.names.lookup y = some .local) (c : Caps X scope cl cp) (hcalm : X.calm = true) (hx : scope.names.lookup x = some .local) (hnd : (x :: cp.map (·.2)).Nodup) (hi : PI X (.Name x px) iter wi)
    (ht : ∀ C fp pins s H, PTs (cxComp X scope cl C (x :: cp.map (·.2)) fp pins s H) ifs tt) (he : ∀ C fp pins s H, PE (cxComp X scope cl C (x :: cp.map (·.2)) fp pins s H) elt te)
    (hsw : swapsWith (.ListComp elt [⟨.Name x px, iter, ifs, 0⟩] scope pos) (some (.Name y py)) pos'.line X.env = pure true)
    (hs : ∀ v, foldedSetIterable iter X.env v = pure v := by intro _; rfl) : PS X (.Assign [.Name y py] (.ListComp elt [⟨.Name x px, iter, ifs, 0⟩] scope pos) pos') (tAsg (tComp cp wi tt te) (gName i)) := by
  intro pins s σ H D I h
  rw [exec_Assign_Name_used _ _ _ _ hsw]
  refine wpAny_bind (wpAny_standAt (wpAny_bind (wpAny_bind ?_)))
  refine wpAny_comprehension_free (use := some (assign (.Name y py) X.env)) (g := ⟨.Name x px, iter, ifs, 0⟩) (gs := []) (cl := cl) rfl hs c.clos c.kind c.names ?_
  refine thn (hi pins s σ H _ I h) fun v s1 h1 => thn h1 fun itv s2 h2 => ?_
  obtain ⟨it, fp, tn, J, H2, e, I2, T, st2, f2, q⟩ := h2
  subst e
  refine thn (comp_core (iter := iter) (pos := pos) (R := fun C => compPost (model X.prog X.w) X.A X.xe (some (assign (.Name y py) X.env)) (fun _ s' => wpAny (model X.prog X.w) X.A (pure ()) (fun _ s' => wpAny (model X.prog X.w) X.A (pure Flow.next) (SP X pins D) X.xe s') X.xe s') (.ref s2.heap.objs.size) C) c hcalm hx hnd ht he I2 T st2 f2 (q _ (I2.hok.fresh (Nat.le_refl _))) ?_) fun acc s3 h3 => thn h3 fun cenv s4 h4 => ?_
  · rintro C H' s' ⟨m, hn⟩ hC0 hCn hCL hCc hCp hI hq
    have I' : Inv X pins σ H' s' := hI s'.heap (Heap.SameBut.refl ..)
    refine wpAny_assign_Name (store_ok2 (v := .ref s2.heap.objs.size) I' hN hi' (.inl hy) rfl (fun s'' I'' hb => ?_) (.inr hy))
    obtain ⟨a, sb, ha⟩ := hb
    have hne : C ≠ a := by
      rcases ha with z | z
      · rw [z]; exact hCL
      · exact fun e => hCc y a z e.symm
    refine ⟨m, hn.sameBut sb hne, fun h'' sb'' => wpAny_pure (wpAny_pure ⟨_, H', ?_, hq⟩)⟩
    exact I''.turned (t' := s''.toks) (fun b o hb e => (sb''.2 b hb).trans e) hCn hCL (.inr hC0) hCc hCp
  · obtain ⟨e, h4⟩ := h4
    subst e
    exact h4
end

/-! ### all, join -/
theorem bools_of : ∀ {bs : List Bool} {us : List Value}, Vals (bs.map V.bl) us → ∀ (i : Nat) (v : Value), us[i]? = some v → ∃ b : Bool, bs[i]? = some b ∧ v = Value.bool b
  | [], _, .nil, i, v, h => by simp at h
  | b :: bs, u :: us, .cons r t, 0, v, h => by
    simp at h
    subst h
    cases r
    exact ⟨b, rfl, rfl⟩
  | b :: bs, u :: us, .cons r t, i + 1, v, h => by
    obtain ⟨b', e1, e2⟩ := bools_of t i v (by simpa using h)
    exact ⟨b', by simpa using e1, e2⟩
section
variable {X : Cx}
theorem call_all (hc : X.calm = true) : CallR X (.builtin "all") (fun xs H Q => ∃ (a : Addr) (bs : List Bool), xs = [.ref a] ∧ SqL X.K H a (bs.map V.bl) ∧ Q (.bl (bs.all id)) H) := by
  intro pins s σ H xs us Q I r h
  obtain ⟨a, bs, rfl, hq, q⟩ := h
  obtain ⟨u, rfl, ru⟩ := r.one
  cases ru
  obtain ⟨its, rv, pl, hz⟩ := I.list hq
  have hl : s.heap.IsList a its.toArray := pl.isList
  have hlt : a < s.heap.objs.size := by obtain ⟨_, e, _⟩ := hl; exact Heap.lt_size e
  refine call_all_walk (wpAny_pyIter_list hl ?_)
  refine ⟨s.heap.objs.size, [s.heap.objs.size, a], [s.heap.objs.size], its.toArray.size, _, _, fun i => (bs[i]?).getD true, rfl, Walks.list (A := X.A.in1) (I.ok.hd hc) _ a (Nat.ne_of_lt hlt) its.toArray,
    ⟨⟨_, Heap.get?_push_size _ rfl, rfl, rfl⟩, hl.push _⟩, fun i v s' Q' E' hP hQ => ?_, fun h' tk hk => ?_⟩
  · obtain ⟨b, e, rfl⟩ := bools_of rv i v (by simpa using hP)
    simp only [e, Option.getD_some] at hQ
    exact wpAny_truthy_bool hQ
  · have e : ((List.range its.toArray.size).all fun i => (bs[i]?).getD true) = bs.all id := by
      have := rv.length
      rw [List.length_map] at this
      rw [List.size_toArray, ← this]
      exact PyProof.Rows.LSm.range_all bs
    rw [e]
    refine ⟨.bl _, H, I.kept (t' := tk) fun b o e' => hk b o (fun hm => ?_) (Heap.get?_push_of_some _ e'), rfl, q⟩
    rw [List.mem_singleton.mp hm] at e'
    exact Nat.lt_irrefl _ (Heap.lt_size e')
end

/-! ### a def that is known: its promise and how it is called -/
structure Known (P : Program) (w : World) (K : PySem.W.Frag) (mg : Str → Option Value) (base : Heap) (CX : CXT) (k : Nat) (x : Str) (ps : List Str) (sp : Sp) : Prop where
  ex : ∃ f fd, FnOk P w K mg base CX k f fd ps sp ∧ mg x = some (.ref f) ∧ PySem.W.keepIn K (.ref f) = true ∧ Binds K fd ps []
section
variable {X : Cx} {CX : CXT} {k : Nat} {ps : List Str} {sp : Sp} {E : XK} {x : Str} {p pos : Pos} {e : Expr} {es : List Expr} {t : TA}
theorem pe_callN (G : Known X.prog X.w X.K X.mg X.base CX k x ps sp) (hr : Room k X.A) (hx : Passes CX X E) (ha : PA X (e :: es) t) (hg : Gl X x := by rfl) (hdb : (x == ("__debug__" : Str)) = false := by decide)
    (he : starEach (e :: es) X.env = (false, eval e X.env) :: starEach es X.env := by rfl) (hpl : (backTo pos (starEach es X.env)).any (·.1) = false := by rfl) : PE X (.Call (.Name x p) (e :: es) [] pos) (tCall sp [] E t) := by
  obtain ⟨f, fd, F, hm, hk, hb⟩ := G.ex
  exact pe_call F hr hg hm hk hb .nil hx ha hdb he hpl
end
/-! ### the forms of a comprehension that one uses: Pv by the turn, the list so far, the heap (in which it stands at D) -/
def Nxt (D : Addr) (Pv : Nat → List V → Hp → Prop) (i : Nat) (ys : List V) : VK := fun y H5 => H5 D = some (.lst ys) ∧ ys.length < sizeLine ∧ Pv (i + 1) (ys ++ [y]) (upd H5 D (.lst (ys ++ [y])))
theorem comp_it {cp : List (Nat × Str)} {te : TE} {σ : St} {J : It} {n : Nat} {D : Addr} {Q : VK} {H1 : Hp} (Pv : Nat → List V → Hp → Prop) (h0 : Pv 0 [] (upd H1 D (.lst []))) 
    (hg : ∀ i ys H, H D = some (.lst ys) → Pv i ys H → (i < n → J.go i H) ∧ (i = n → J.stop i H))
    (hs : ∀ i ys H v H', i < n → H D = some (.lst ys) → Pv i ys H → J.yld i H v H' → te (some v :: capσ cp σ) H' (Nxt D Pv i ys))
    (hd : ∀ ys H, H D = some (.lst ys) → Pv n ys H → Q (.ref D) H) : tLoop cp tYes te σ J D Q H1 := by
  refine ⟨fun i m H => m = n - i ∧ i ≤ n ∧ ∃ ys, H D = some (.lst ys) ∧ Pv i ys H, ⟨n, by simp, Nat.zero_le _, [], upd_same, h0⟩, ?_⟩
  rintro i m H ⟨rfl, hi, ys, hD, p⟩
  by_cases hlt : i < n
  · refine .inr ⟨(hg i ys H hD p).1 hlt, Nxt D Pv i ys, fun _ => False, fun y H5 ⟨h1, h2, h3⟩ => ⟨ys, n - (i + 1), h1, h2, by omega, rfl, hlt, _, upd_same, h3⟩, fun _ z => z.elim, fun v H' y => ?_⟩
    exact hs i ys H v H' hlt hD p y
  · have e : i = n := by omega
    subst e
    exact .inl ⟨(hg i ys H hD p).2 rfl, hd ys H hD p⟩
theorem comp_range {cp : List (Nat × Str)} {te : TE} {σ : St} {lo : Int} {n : Nat} {D : Addr} {Q : VK} {H1 : Hp} (Pv : Nat → List V → Hp → Prop) (h0 : Pv 0 [] (upd H1 D (.lst [])))
    (hs : ∀ i ys H, i < n → H D = some (.lst ys) → Pv i ys H → te (some (.int (lo + i)) :: capσ cp σ) H (Nxt D Pv i ys))
    (hd : ∀ ys H, H D = some (.lst ys) → Pv n ys H → Q (.ref D) H) : tLoop cp tYes te σ (Itr lo n) D Q H1 :=
  comp_it (n := n) Pv h0 (fun i ys H _ _ => ⟨fun h => h, fun h => by subst h; exact Nat.le_refl _⟩) (fun i ys H v H' hi hD p y => by
    obtain ⟨e, rfl⟩ := y
    subst e
    exact hs i ys _ hi hD p) hd
theorem comp_str {cp : List (Nat × Str)} {te : TE} {σ : St} {x : Str} {D : Addr} {Q : VK} {H1 : Hp} (Pv : Nat → List V → Hp → Prop) (h0 : Pv 0 [] (upd H1 D (.lst [])))
    (hs : ∀ i c ys H, x.cps[i]? = some c → H D = some (.lst ys) → Pv i ys H → te (some (.str ⟨#[c]⟩) :: capσ cp σ) H (Nxt D Pv i ys))
    (hd : ∀ ys H, H D = some (.lst ys) → Pv x.cps.size ys H → Q (.ref D) H) : tLoop cp tYes te σ (Its x) D Q H1 :=
  comp_it (n := x.cps.size) Pv h0 (fun i ys H _ _ => ⟨fun h => h, fun h => by subst h; exact Nat.le_refl _⟩) (fun i ys H v H' hi hD p y => by
    obtain ⟨e, c, hc, rfl⟩ := y
    subst e
    exact hs i c ys _ hc hD p) hd
end L2

namespace L2
open PySem PySem.Spec PyProof.Rows

/-! ### the kinds of plain things, isinstance of them -/
inductive Kd where
  | non | bl | int | str | lst | tup | dct
  deriving DecidableEq
def Kd.nm : Kd → String
  | .non => "NoneType" | .bl => "bool" | .int => "int" | .str => "str" | .lst => "list" | .tup => "tuple" | .dct => "dict"
theorem kit_int (K : PySem.W.Frag) (a : Kd) : PySem.W.kitOne K (.type a.nm) (.type "int") = some (decide (a = .int ∨ a = .bl)) := by cases a <;> kernel_rfl
theorem kit_bool (K : PySem.W.Frag) (a : Kd) : PySem.W.kitOne K (.type a.nm) (.type "bool") = some (decide (a = .bl)) := by cases a <;> kernel_rfl
theorem kit_str (K : PySem.W.Frag) (a : Kd) : PySem.W.kitOne K (.type a.nm) (.type "str") = some (decide (a = .str)) := by cases a <;> kernel_rfl
theorem kit_list (K : PySem.W.Frag) (a : Kd) : PySem.W.kitOne K (.type a.nm) (.type "list") = some (decide (a = .lst)) := by cases a <;> kernel_rfl
def kdD : PyData → Kd
  | .none => .non | .bool _ => .bl | .int _ => .int | .str _ => .str | .list _ => .lst | .tuple _ => .tup | .dict _ => .dct
/-- isinstance(x, T), T a built-in type -/
theorem call_isT {X : Cx} : CallR X (.builtin "isinstance") (fun xs H Q => ∃ x T d k, xs = [x, .ty T] ∧ Dt X.K H x d ∧ PySem.W.kitOne X.K (.type (kdD d).nm) (.type T) = some k ∧ Q (.bl k) H) := by
  intro pins s σ H xs us Q I r h
  obtain ⟨x, T, d, k, rfl, hd, e, q⟩ := h
  obtain ⟨u, c, rfl, r1, r2⟩ := r.two
  cases r2
  have fin : ∀ tk, EP X pins σ Q (.bool k) { s with toks := tk } := fun tk => ⟨.bl k, H, I.tok tk, rfl, q⟩
  cases hd with
  | non => cases r1; exact PySem.W.kia_one PySem.W.kitx_none I.kIn True.intro e (fun z => nomatch z) fin
  | bl b => cases r1; exact PySem.W.kia_one PySem.W.kitx_bool I.kIn True.intro e (fun z => nomatch z) fin
  | int i => obtain ⟨t, rfl⟩ := r1; exact PySem.W.kia_one PySem.W.kitx_int I.kIn True.intro e (fun z => nomatch z) fin
  | str z => obtain ⟨t, rfl⟩ := r1; exact PySem.W.kia_one PySem.W.kitx_str I.kIn True.intro e (fun z => nomatch z) fin
  | lst hq _ =>
    cases r1
    obtain ⟨its, _, ⟨o, n, eo, hc, _, _⟩, _⟩ := I.list hq
    exact PySem.W.kia_one PySem.W.kitx_list I.kIn ⟨o, eo, hc⟩ e (fun z => nomatch z) fin
  | tup hq _ =>
    cases r1
    obtain ⟨its, _, ⟨o, eo, hc, _⟩, _⟩ := I.tuple hq
    exact PySem.W.kia_one PySem.W.kitx_tuple I.kIn ⟨o, eo, hc⟩ e (fun z => nomatch z) fin
  | dK ea =>
    cases r1
    obtain ⟨_, _, vs, _, o, es, ep, h1, h2, _⟩ := I.hok _ _ ea
    exact PySem.W.kia_one PySem.W.kitx_dict I.kIn ⟨o, h1, h2.1⟩ e (fun z => nomatch z) fin
  | dT ea =>
    cases r1
    obtain ⟨_, _, zs, _, o, es, ep, h1, h2, _⟩ := I.hok _ _ ea
    exact PySem.W.kia_one PySem.W.kitx_dict I.kIn ⟨o, h1, h2.1⟩ e (fun z => nomatch z) fin

/-! ### no cell is caught -/
theorem caps0 {X : Cx} {scope : Scope} (kind : scope.kind = .function := by rfl) (plain : ∀ y ∈ scope.names, y.2 = .local ∨ y.2 = .globalImplicit := by decide) (names : ∀ y ∈ scope.names, y.2 = .local → scope.names.lookup y.1 = some .local := by decide +kernel) : Caps X scope [] [] where
  kind := kind
  nocell := fun y hy z => by rcases plain y hy with h | h <;> rw [h] at z <;> cases z
  names := names
  clos := closureFor_none fun y hy z => by rcases plain y hy with h | h <;> rw [h] at z <;> cases z
  sub := fun x c e => by cases e
  has := fun x h => by
    have hm : ∀ (k : NameKind), (relabel scope X.env).names.lookup x = some k → k = .local ∨ k = .globalImplicit := fun k e => by
      have m := PySem.mem_of_lookup e
      unfold relabel at m
      obtain ⟨⟨n, k'⟩, hy, e'⟩ := List.mem_map.mp m
      have q := plain _ hy
      have nf : (k' == NameKind.free) = false := by rcases q with h | h <;> (have h' : k' = _ := h; subst h'; rfl)
      simp only [nf, Bool.false_and, Bool.false_eq_true, if_false] at e'
      have : k' = k := congrArg (·.2) e'
      rw [← this]
      exact q
    rcases h with h | h
    · rcases hm _ h with z | z <;> cases z
    · rcases hm _ h with z | z <;> cases z
  at' := fun p hp => by cases hp

/-! ### a def of the text -/
structure Def (K : PySem.W.Frag) (mg : Str → Option Value) (x : Str) (st : Stmt) : Prop where
  ex : ∃ f fd, Fun K x x st f fd ∧ mg x = some (.ref f)
section
variable {P : Program} {w : World} {K : PySem.W.Frag} {mg : Str → Option Value} {base : Heap}
theorem top_def {h : Heap} {x : Str} {st : Stmt} {f : Addr} {oc : Value} {od an : Option Addr} {osl : Array (Option Value)} {kV doc pm cdv ct : Value} (X : K.In h) (G : h.Ns mainGlobals mg) (a : PySem.W.nsIn K mainGlobals x = some (some (.ref f)))
    (l : K.lookup f = some ⟨oc, od, .func (PySem.W.fnOf x x (defArgs st) (defBody st) (defScope st) .none kV doc pm an cdv ct), osl⟩) (c : PySem.W.codeIn K cdv x = true) (k : PySem.W.keepIn K (.ref f) = true) : Def K mg x st :=
  ⟨f, _, fun_mk l c k, PySem.W.mg_of X G a⟩
theorem Def.known {x : Str} {st : Stmt} {N ps : List Str} {k : Nat} {sp : Sp} (D : Def K mg x st) (S : FnScope N ps (defScope st))
    (hb : ∀ (kV doc pm : Value) (an : Option Addr) (cdv ct : Value) (us : List Value), us.length = ps.length → bindArgs (PySem.W.fnOf x x (defArgs st) (defBody st) (defScope st) .none kV doc pm an cdv ct) ⟨us, []⟩ = pure (ps.zip us))
    (len : ∀ vs H Q E, sp vs H Q E → vs.length = ps.length)
    (hbody : ∀ (f : Addr) (cdv : Value) (A : Around) (outer : List Env) (s : Shared) (H : Hp) (vs : List V) (Q : VK) (E : XK), Room k (A.deeper (envOfC x (defScope st) s.heap.objs.size f cdv)) → sp vs H Q E →
      ∃ t, PSs (cxOf CX0 P w K mg base N x (defScope st) f cdv A outer s H E).nox (defBody st) t ∧ t { nx := fun _ H' => Q .non H', rt := Q } (start N vs) H) : Known P w K mg base CX0 (k + 1) x ps sp := by
  obtain ⟨f, fd, F, hm⟩ := D.ex
  exact ⟨f, fd, F.ok S len fun cdv A outer s H vs Q E hr h => hbody f cdv A outer s H vs Q E hr h, hm, F.kp, F.binds hb⟩
end

/-! ### heaps that grow -/
theorem Same.new {H : Hp} {D : Addr} {o : HO} (h : H D = none) : Same H (upd H D o) := fun b u e => by rw [upd_ne (ne_of_none e h)]; exact e
/-- a new thing is turned -/
theorem Same.on {H H2 : Hp} {D : Addr} {o : HO} (e : Same H H2) (h : H D = none) : Same H (upd H2 D o) := fun b u z => by rw [upd_ne (ne_of_none z h)]; exact e b u z

/-! ### a new list, a new tuple of data -/
/-! ### texts -/
abbrev one (c : Nat) : Str := ⟨#[c]⟩
theorem at_some {α : Type} (xs : List α) (i : Int) (h0 : 0 ≤ i) (h : i < xs.length) : ∃ v, atI xs i = some v ∧ xs[i.toNat]? = some v := by
  have e : i = (i.toNat : Int) := by omega
  have hl : i.toNat < xs.length := by omega
  generalize i.toNat = j at e hl
  subst e
  exact ⟨_, atI_nat (List.getElem?_eq_getElem hl), List.getElem?_eq_getElem hl⟩
theorem DtAll.pick {K : PySem.W.Frag} {H : Hp} {xs : List V} {ds : List PyData} {i : Int} (all : DtAll K H xs ds) (h0 : 0 ≤ i) (h : i < ds.length) : ∃ v d, atI xs i = some v ∧ ds[i.toNat]? = some d ∧ Dt K H v d := by
  obtain ⟨v, hat, hv⟩ := at_some xs i h0 (by rw [all.length]; exact h)
  obtain ⟨d, hd, hdt⟩ := all.get hv
  exact ⟨v, d, hat, hd, hdt⟩
theorem at_map (ns : List Int) (i : Int) (h0 : 0 ≤ i) (h : i < ns.length) : atI (ns.map V.int) i = some (V.int (ns.getD i.toNat 0)) := by
  have e : i = (i.toNat : Int) := by omega
  have hl : i.toNat < ns.length := by omega
  generalize i.toNat = j at e hl
  subst e
  refine atI_nat ?_
  rw [List.getElem?_map, List.getElem?_eq_getElem hl]
  simp [List.getD, hl]

/-! ### data of texts and ints -/
theorem dt_strs {K : PySem.W.Frag} {H : Hp} : ∀ zs : List Str, DtAll K H (zs.map V.str) (zs.map PyData.str)
  | [] => .nil
  | z :: r => .cons (.str z) (dt_strs r)
theorem sl {n : Nat} (h : n ≤ 1000 := by simp) : n ≤ sizeLine := Nat.le_of_lt (small1000 h)

/-! ### names of Python's own -/
theorem b_all : bootBuiltins "all" = some (.builtin "all") := by kernel_rfl
theorem b_isinstance : bootBuiltins "isinstance" = some (.builtin "isinstance") := by kernel_rfl
theorem b_abs : bootBuiltins "abs" = some (.builtin "abs") := by kernel_rfl
theorem b_len : bootBuiltins "len" = some (.builtin "len") := by kernel_rfl
theorem b_int : bootBuiltins "int" = some (.type "int") := by kernel_rfl
theorem b_bool : bootBuiltins "bool" = some (.type "bool") := by kernel_rfl
theorem b_str : bootBuiltins "str" = some (.type "str") := by kernel_rfl
theorem b_list : bootBuiltins "list" = some (.type "list") := by kernel_rfl
theorem b_tuple : bootBuiltins "tuple" = some (.type "tuple") := by kernel_rfl
end L2

namespace L2
open PySem PySem.Spec PyProof.Rows

/-! ### exceptions -/
/-- an exception that left a frame: its object at ea, its record at T -/
def Fly (h : Heap) (ea T : Addr) (C : Value) : Prop :=
  ∃ oe vs oT ts, h.get? ea = some oe ∧ oe.cls = C ∧ oe.dict = none ∧ oe.data = .fields vs ∧ vs[1]? = some (.ref T) ∧ T ≠ ea ∧ h.get? T = some oT ∧ oT.data = .fields ts ∧ ts[3]? = some .none
/-- what passing through the frames fs changes: the exception's own objects, the frames' slots -/
structure Flew (fs own : List Addr) (h h' : Heap) : Prop where
  keep : ∀ b o, b ∉ own → b ∉ fs → h.get? b = some o → h'.get? b = some o
  slot : ∀ b o, b ∉ own → h.get? b = some o → ∃ sl, h'.get? b = some { o with slots := sl }
theorem dict_mapFields (o : Obj) (g : Array Value → Array Value) : (o.mapFields g).dict = o.dict := by
  obtain ⟨c, d, dt, sl⟩ := o
  cases dt <;> rfl
section
variable {M : Model} {A : Around} {E : Value → Shared → Prop} {s : Shared} {base : Heap} {env : Env} {outer : List Env} {L ea T : Addr} {C : Value}
theorem entry_laid {oe : Obj} {vs : Array Value} {head : Value} {hadNext : Bool} {Q : Unit → Shared → Prop} (hfr : A.frames = some (env :: outer)) (hl : s.heap.FunFrames base (env :: outer)) (hf : env.frame = some L)
    (he : s.heap.get? ea = some oe) (hdn : oe.dict = none) (hd : oe.data = .fields vs) (hsz : 1 < vs.size)
    (k : ∀ h' T', s.heap.objs.size ≤ T' → Fly h' ea T' oe.cls → Flew (frs (env :: outer)) [ea] s.heap h' → Q () { s with heap := h' }) :
    wpAny M A (do let a ← frameOf env; let pl ← entryPlaceOf L hadNext; let b ← EntryCells.newEntry head a .none (rawInt L) .none pl; setField (.ref ea) 1 b) (fun _ s' => wpAny M A (setFlight (.ref ea) none) Q E s') E s := by
  have nfr : ea ∉ frs (env :: outer) := fun hm => by
    obtain ⟨_, o, ho, hnf⟩ := hl.mem hm
    rw [he] at ho
    cases ho
    exact hnf vs hd
  refine wpAny_bind (wpAny_frameOf_fun hfr hl hf fun g so => ?_)
  refine wpAny_bind (wpAny_entryPlaceOf fun pl hpl => ?_)
  unfold EntryCells.newEntry newFields
  refine wpAny_bind (wpAny_newObj_type ?_ (hpl.sizeOk5 _ _ _ _ _))
  have hts : 3 < ([head, .ref L, .none, rawInt L, .none] ++ (if pl.isEmpty then List.replicate 6 Value.none else pl)).toArray.size := by
    rw [List.size_toArray, List.length_append]
    exact Nat.lt_of_lt_of_le (by decide : 3 < 5) (Nat.le_add_right _ _)
  generalize ([head, .ref L, .none, rawInt L, .none] ++ (if pl.isEmpty then List.replicate 6 Value.none else pl)).toArray = ts at hts
  have g1 : g.get? ea = some oe := (so.2.1 ea nfr).trans he
  have gT : g.objs.size = s.heap.objs.size := so.1
  have neT : g.objs.size ≠ ea := Nat.ne_of_gt (Heap.lt_size g1)
  have g2 := Heap.get?_push_of_some (h := g) ({ cls := .type "traceback", dict := none, data := .fields ts } : Obj) g1
  refine wpAny_setField g2 hd hsz ?_
  have d3 := Obj.data_mapFields hd (·.setIfInBounds 1 (Value.ref g.objs.size))
  have g3 := Heap.get?_update_self (Obj.mapFields (·.setIfInBounds 1 (Value.ref g.objs.size))) g2 (Obj.isFreed_of_fields d3)
  have t3 : ((g.push ({ cls := .type "traceback", dict := none, data := .fields ts } : Obj)).update ea (Obj.mapFields (·.setIfInBounds 1 (Value.ref g.objs.size)))).get? g.objs.size = some { cls := .type "traceback", dict := none, data := .fields ts } :=
    (Heap.get?_update_other _ _ (Ne.symm neT)).trans (Heap.get?_push_size g rfl)
  unfold setFlight
  refine wpAny_bind (wpAny_field g3 d3 (x := .ref g.objs.size) (by simp [hsz]) ?_)
  rw [if_pos (show (Value.ref g.objs.size != Value.none) = true from by simp)]
  refine wpAny_setField t3 rfl hts ?_
  have d4 := Obj.data_mapFields (o := ({ cls := .type "traceback", dict := none, data := .fields ts } : Obj)) (vs := ts) rfl (·.setIfInBounds 3 ((none : Option Addr).elim Value.none fun f => rawInt f))
  refine k _ g.objs.size (by rw [gT]; exact Nat.le_refl _) ⟨_, _, _, _, (Heap.get?_update_other _ _ neT).trans g3, Obj.cls_mapFields _ _, (dict_mapFields _ _).trans hdn, d3, by simp [hsz], neT, Heap.get?_update_self _ t3 (Obj.isFreed_of_fields d4), d4, by simp [hts]⟩ ?_
  have up : ∀ b o, b ≠ ea → g.get? b = some o → (((g.push ({ cls := .type "traceback", dict := none, data := .fields ts } : Obj)).update ea (Obj.mapFields (·.setIfInBounds 1 (Value.ref g.objs.size)))).update g.objs.size (Obj.mapFields (·.setIfInBounds 3 ((none : Option Addr).elim Value.none fun f => rawInt f)))).get? b = some o := fun b o nb hb =>
    (Heap.get?_update_other _ _ (Nat.ne_of_gt (Heap.lt_size hb))).trans ((Heap.get?_update_other _ _ (Ne.symm nb)).trans (Heap.get?_push_of_some _ hb))
  refine ⟨fun b o nb nf hb => up b o (fun z => nb (by simp [z])) ((so.2.1 b nf).trans hb), fun b o nb hb => ?_⟩
  obtain ⟨sl, hs⟩ := so.2.2 b o hb
  exact ⟨sl, up b _ (fun z => nb (by simp [z])) hs⟩
/-- a new exception leaves its frame -/
theorem leave_new {oe : Obj} {vs : Array Value} {Q : Unit → Shared → Prop} (hfr : A.frames = some (env :: outer)) (hl : s.heap.FunFrames base (env :: outer)) (hf : env.frame = some L)
    (he : s.heap.get? ea = some oe) (hdn : oe.dict = none) (hd : oe.data = .fields vs) (h1 : vs[1]? = some .none)
    (k : ∀ h' T', s.heap.objs.size ≤ T' → Fly h' ea T' oe.cls → Flew (frs (env :: outer)) [ea] s.heap h' → Q () { s with heap := h' }) : wpAny M A (leaving env (.ref ea)) Q E s := by
  unfold leaving noteFrame
  simp only [hf]
  refine wpAny_bind (wpAny_bind (wpAny_field he hd h1 ?_))
  rw [if_neg (by decide)]
  exact entry_laid hfr hl hf he hdn hd (Array.getElem?_eq_some_iff.mp h1).1 k
/-- one that flies comes through the next frame -/
theorem note_fly {Q : Unit → Shared → Prop} (hfr : A.frames = some (env :: outer)) (hl : s.heap.FunFrames base (env :: outer)) (hf : env.frame = some L) (hx : Fly s.heap ea T C)
    (k : ∀ h' T', s.heap.objs.size ≤ T' → Fly h' ea T' C → Flew (frs (env :: outer)) [ea, T] s.heap h' → Q () { s with heap := h' }) :
    wpAny M A (noteFrame (.ref ea) env) (fun _ s' => wpAny M A (setFlight (.ref ea) none) Q E s') E s := by
  obtain ⟨oe, vs, oT, ts, he, hc, hdn, hd, h1, hTe, hT, hdT, h3⟩ := hx
  subst hc
  unfold noteFrame
  simp only [hf]
  refine wpAny_bind (wpAny_field he hd h1 ?_)
  rw [if_pos (show (Value.ref T != Value.none) = true from by simp)]
  refine wpAny_bind (wpAny_field hT hdT h3 ?_)
  rw [if_neg (show ¬ ((Value.none == rawInt L) = true) from by simp [rawInt])]
  refine wpAny_bind (wpAny_setField hT hdT (Array.getElem?_eq_some_iff.mp h3).1 ?_)
  have far : ∀ b, b ≠ T → (s.heap.update T (Obj.mapFields (·.setIfInBounds 3 Value.none))).get? b = s.heap.get? b := fun b nb => Heap.get?_update_other _ _ (Ne.symm nb)
  have nT : T ∉ frs (env :: outer) := fun hm => by
    obtain ⟨_, o, ho, hnf⟩ := hl.mem hm
    rw [hT] at ho
    cases ho
    exact hnf ts hdT
  have hl2 : (s.heap.update T (Obj.mapFields (·.setIfInBounds 3 Value.none))).FunFrames base (env :: outer) := hl.of_keeps fun b o hb hnf => ⟨o, (far b fun z => by
    rw [z, hT] at hb
    cases hb
    exact hnf ts hdT).trans hb, rfl⟩
  refine entry_laid (s := { s with heap := s.heap.update T (Obj.mapFields (·.setIfInBounds 3 Value.none)) }) hfr hl2 hf ((far ea (Ne.symm hTe)).trans he) hdn hd (Array.getElem?_eq_some_iff.mp h1).1 fun h' T' hT' hfly hflew => ?_
  refine k h' T' (by simpa using hT') hfly ⟨fun b o nb nf hb => hflew.keep b o (fun z => nb (by simp at z; simp [z])) nf ((far b fun z => nb (by simp [z])).trans hb), fun b o nb hb => hflew.slot b o (fun z => nb (by simp at z; simp [z])) ((far b fun z => nb (by simp [z])).trans hb)⟩
end
end L2

namespace L2
open PySem PySem.Spec PyProof.Rows

theorem ObjOk.there {P : Program} {w : World} {H : Hp} {h : Heap} {a : Addr} {o : HO} (x : ObjOk P w H h a o) : ∃ ob, h.get? a = some ob := by
  cases o with
  | lst xs => obtain ⟨_, _, _, _, e⟩ := x; exact ⟨_, e⟩
  | tup xs => obtain ⟨_, _, _, o, e, _⟩ := x; exact ⟨_, e⟩
  | dK kvs => obtain ⟨_, _, _, _, o, _, _, e, _⟩ := x; exact ⟨_, e⟩
  | dT kvs => obtain ⟨_, _, _, _, o, _, _, e, _⟩ := x; exact ⟨_, e⟩
  | set S n => obtain ⟨o, _, _, _, e, _⟩ := x; exact ⟨_, e⟩
  | ins C dx fs => obtain ⟨_, _, _, e, _⟩ := x; exact ⟨_, e⟩
  | own y => exact x
  | xd fs => obtain ⟨_, ⟨_, _, _, e, _⟩, _⟩ := x; exact ⟨_, e⟩
  | rng lo hi => obtain ⟨_, _, _, e⟩ := x; exact ⟨_, e⟩
  | frz ob u => obtain ⟨e, _⟩ := x; exact ⟨_, e⟩
  | tbl ps => exact ⟨_, x⟩
  | met f y => exact ⟨_, x⟩
  | ext φ => obtain ⟨_, e, _⟩ := x; exact e
/-- how an exception lies behind a call -/
def CXE (P : Program) (w : World) : CXT := fun outer H s E e s' => ∃ (ea T : Addr) (C : Value) (H' : Hp), e = .ref ea ∧ s'.os = s.os ∧ AllBare s'.gens ∧ Un (frs outer) [] H H' s.heap s'.heap ∧ HOk P w H' s'.heap ∧
  Fly s'.heap ea T C ∧ s.heap.get? ea = none ∧ s.heap.get? T = none ∧ H' ea = none ∧ H' T = none ∧ E C none H'
section
variable {P : Program} {w : World} {K : PySem.W.Frag} {mg : Str → Option Value} {base : Heap} {N : List Str} {qual : Str} {scope : Scope} {f : Addr} {cd : Value} {A : Around} {outer : List Env} {s : Shared} {H : Hp} {E : XK}
abbrev bodyCx (P : Program) (w : World) (K : PySem.W.Frag) (mg : Str → Option Value) (base : Heap) (N : List Str) (qual : Str) (scope : Scope) (f : Addr) (cd : Value) (A : Around) (outer : List Env) (s : Shared) (H : Hp) (E : XK) : Cx := cxOf (CXE P w) P w K mg base N qual scope f cd A outer s H E
/-- the frames but one's own, in a body -/
theorem Flew.un {fs own : List Addr} {H0 H2 : Hp} {h0 h2 h3 : Heap} {L : Addr} {os : List Addr} (u : Un os [] H0 H2 h0 h2) (fl : Flew fs own h2 h3) (hfs : ∀ b ∈ fs, b = L ∨ b ∈ os) (hL : h0.objs.size ≤ L) (hown : ∀ b ∈ own, h0.get? b = none) : Un os [] H0 H2 h0 h3 := by
  have no : ∀ b o, h0.get? b = some o → b ∉ own := fun b o e z => by rw [hown b z] at e; cases e
  have nL : ∀ b o, h0.get? b = some o → b ≠ L := fun b o e => Nat.ne_of_lt (Nat.lt_of_lt_of_le (Heap.lt_size e) hL)
  refine ⟨fun b o e n hb hx => fl.keep b o (no b o e) (fun z => (hfs b z).elim (nL b o e) hb) (u.keep b o e n hb hx), fun b o e n hb hx => ?_, u.free, fun b o e hx => ?_, u.tups, u.frzs, u.tbls⟩
  · obtain ⟨sl, e1⟩ := u.slot b o e n hb hx
    obtain ⟨sl', e2⟩ := fl.slot b _ (no b o e) e1
    exact ⟨sl', e2⟩
  · obtain ⟨o', e1⟩ := u.there b o e hx
    obtain ⟨sl', e2⟩ := fl.slot b _ (no b o e) e1
    exact ⟨_, e2⟩
theorem Flew.hok {fs own : List Addr} {H2 : Hp} {h2 h3 : Heap} (x : HOk P w H2 h2) (fl : Flew fs own h2 h3) (hfs : ∀ b ∈ fs, H2 b = none) (hown : ∀ b ∈ own, H2 b = none) : HOk P w H2 h3 := fun b o e =>
  (x b o e).stay (fun c u hc q => fl.keep c u (fun z => by
      rcases hc with rfl | hc
      · rw [hown _ z] at e; cases e
      · rw [hown _ z] at hc; cases hc) (fun z => by
      rcases hc with rfl | hc
      · rw [hfs _ z] at e; cases e
      · rw [hfs _ z] at hc; cases hc) q) (fun _ q => q) fun _ _ q => q
theorem cxe_of {pins : List (Addr × Obj)} {σ : St} {H2 : Hp} {s2 : Shared} {h3 : Heap} {own : List Addr} {ea T3 : Addr} {C : Value} (I2 : Inv (bodyCx P w K mg base N qual scope f cd A outer s H E) pins σ H2 s2) (fly : Fly h3 ea T3 C)
    (fl : Flew (frs ((bodyCx P w K mg base N qual scope f cd A outer s H E).env :: outer)) own s2.heap h3) (hown : ∀ b ∈ own, s.heap.get? b = none ∧ H2 b = none) (hea : s.heap.get? ea = none ∧ H2 ea = none) (hT : s2.heap.objs.size ≤ T3) (q : E C none H2) :
    CXE P w outer H s E (.ref ea) { s2 with heap := h3 } := by
  have B : Un (frs outer) [] H H2 s.heap s2.heap := I2.base
  have hfs : ∀ b ∈ frs ((bodyCx P w K mg base N qual scope f cd A outer s H E).env :: outer), b = (bodyCx P w K mg base N qual scope f cd A outer s H E).env.locals ∨ b ∈ frs outer := fun b hb => List.mem_cons.mp (I2.stkSub b hb)
  refine ⟨ea, T3, C, H2, rfl, I2.os, I2.bare, fl.un B hfs (Nat.le_refl _) (fun b hb => (hown b hb).1), fl.hok I2.hok (fun b hb => I2.stkFree b hb) (fun b hb => (hown b hb).2), fly, hea.1, ?_, hea.2, I2.hok.fresh hT, q⟩
  exact Heap.get?_none_of_le (Nat.le_trans I2.sz hT)
/-- a callee's exception goes on -/
theorem passE : Passes (CXE P w) (bodyCx P w K mg base N qual scope f cd A outer s H E) E := by
  intro pins σ H1 s1 e s2 I hq
  obtain ⟨ea, T, C, H2, rfl, os, bare, un, hok, fly, n1, n2, f1, f2, q⟩ := hq
  have I2 : Inv (bodyCx P w K mg base N qual scope f cd A outer s H E) pins σ H2 s2 := I.call' os un hok bare (fun b z => absurd z (by simp))
  have old : ∀ b, s1.heap.get? b = none → s.heap.get? b = none := fun b e => by
    cases z : s.heap.get? b with
    | none => rfl
    | some o =>
      obtain ⟨o', e'⟩ := I.base.there b o z (by intro hz; cases hz)
      rw [e] at e'
      cases e'
  show wpAny (model P w) (bodyCx P w K mg base N qual scope f cd A outer s H E).A (leaving (bodyCx P w K mg base N qual scope f cd A outer s H E).env (.ref ea)) _ _ s2
  unfold leaving
  refine wpAny_bind (note_fly (base := base) I.ok.frames I2.stack rfl fly fun h3 T3 hT3 fly3 flew => ?_)
  refine cxe_of I2 fly3 flew (fun b hb => ?_) ⟨old ea n1, f1⟩ hT3 q
  simp only [List.mem_cons, List.not_mem_nil, or_false] at hb
  rcases hb with rfl | rfl
  · exact ⟨old _ n1, f1⟩
  · exact ⟨old _ n2, f2⟩
end

/-! ### raise C(..), C an own class below ValueError -/
abbrev mroV : List Value := [.type "ValueError", .type "Exception", .type "BaseException", .type "object"]
theorem ownCls_of {K : PySem.W.Frag} {h : Heap} {mg : Str → Option Value} {x : Str} {C : Addr} {bmB : List Value} {newId : String} (X : K.In h) (hm : mg x = some (.ref C)) (q : PySem.W.excIn K C bmB newId = true) : OwnCls x C bmB newId mg h := by
  refine ⟨hm, ?_⟩
  unfold PySem.W.excIn at q
  split at q
  · rename_i dd cdt sl ho
    split at q
    · rename_i C' bm k0 k1 k2 k3 n k5 hmr hs
      simp only [Bool.and_eq_true, beq_iff_eq, Bool.not_eq_true'] at q
      obtain ⟨⟨⟨⟨⟨q1, q2⟩, q3⟩, q4⟩, q5⟩, q6⟩ := q
      subst q1 q2
      obtain ⟨nm, bs, mro, ns, qn, hd, sn, sub, ab, col, del⟩ := cdt
      obtain ⟨l⟩ := sl
      dsimp only at hmr hs q3 q5 q6
      subst hmr hs q3
      exact ⟨bm, ns, nm, qn, bs, hd, sn, sub, ab, col, dd, k0, k1, k2, k3, k5, _, X _ _ ho, .of_isNs (PySem.W.isNs_of_in X q5), PySem.W.nsMap_none_of_in X q5 q6, PySem.W.tail_of_in X q4⟩
    · cases q
  · cases q
section
variable {P : Program} {w : World} {K : PySem.W.Frag} {mg : Str → Option Value} {base : Heap} {N : List Str} {qual : Str} {scope : Scope} {f : Addr} {cd : Value} {A : Around} {outer : List Env} {s : Shared} {H : Hp} {E : XK}
def tRaise (E : XK) (C : Addr) (ta : TA) : TS := fun _ σ H => ta σ H fun vs H1 => vs.length ≤ sizeLine ∧ E (.ref C) none H1
theorem ps_raise {x : Str} {np cpos pos : Pos} {C : Addr} {e : Expr} {es : List Expr} {ta : TA} (hm : mg x = some (.ref C)) (hq : PySem.W.excIn K C mroV "ValueError.__new__" = true) (ha : PA (bodyCx P w K mg base N qual scope f cd A outer s H E) (e :: es) ta)
    (hg : Gl (bodyCx P w K mg base N qual scope f cd A outer s H E) x := by rfl) (hdb : (x == ("__debug__" : Str)) = false := by decide)
    (he : starEach (e :: es) (bodyCx P w K mg base N qual scope f cd A outer s H E).env = (false, eval e (bodyCx P w K mg base N qual scope f cd A outer s H E).env) :: starEach es (bodyCx P w K mg base N qual scope f cd A outer s H E).env := by rfl)
    (hpl : (backTo cpos (starEach es (bodyCx P w K mg base N qual scope f cd A outer s H E).env)).any (·.1) = false := by rfl) :
    PS (bodyCx P w K mg base N qual scope f cd A outer s H E) (.Raise (some (.Call (.Name x np) (e :: es) [] cpos)) none pos) (tRaise E C ta) := by
  intro pins s1 σ H1 D I h
  have O := ownCls_of I.ok.mod.kin hm hq
  obtain ⟨tl, Nn, nm, q, bs, hdct, sn, sub, ab, col, dd, k0, k1, k2, k3, k5, mN, hC, hN, hni, TT'⟩ := O.obj
  refine wpAny_Raise_call_subT (C := C) (nm := nm) (q := q) (N := Nn) (bs := bs) (bm := tl) (hdct := hdct) (sn := sn) (sub := sub) (ab := ab) (col := col) (dd := dd) (k0 := k0) (k1 := k1) (k2 := k2) (k3 := k3) (k5 := k5)
    F.excBase_ValueError (mN := mN) (TT'.hasType F.excBase_ValueError.hasBase) (I.ok.hd rfl) ?_ hni ?_
  · rw [he]
    show (false || (backTo cpos (starEach es _)).any (·.1)) = false
    rw [hpl]
    rfl
  refine ld_glob I hg hm ⟨rfl, ?_⟩ hdb
  have hA := ha cpos pins s1 σ H1 _ I h
  rw [he] at hA ⊢
  refine Calls.evalArgs_plain (thn hA fun us s2 ⟨vs, H2, I2, r2, hl2, q2⟩ => ⟨rfl, by rw [← r2.length]; exact hl2, I2.bk _ _ hC, hN.keeps I2.bk, TT'.keeps I2.bk, fun h' ea hmade => ?_⟩)
  have I3 : Inv (bodyCx P w K mg base N qual scope f cd A outer s H E) pins σ H2 { s2 with heap := h' } := I2.kept (t' := s2.toks) hmade.keeps
  obtain ⟨t, ht, _, _⟩ := hmade.there
  have old : s.heap.get? ea = none := by
    cases z : s.heap.get? ea with
    | none => rfl
    | some o =>
      obtain ⟨o', e'⟩ := I2.base.there ea o z (by intro hz; cases hz)
      rw [hmade.new] at e'
      cases e'
  have fr : H2 ea = none := by
    cases z : H2 ea with
    | none => rfl
    | some o =>
      obtain ⟨oo, e'⟩ := (I2.hok ea o z).there
      rw [hmade.new] at e'
      cases e'
  show wpAny (model P w) (bodyCx P w K mg base N qual scope f cd A outer s H E).A (leaving (bodyCx P w K mg base N qual scope f cd A outer s H E).env (.ref ea)) _ _ { s2 with heap := h' }
  refine leave_new (s := { s2 with heap := h' }) (base := base) I.ok.frames I3.stack rfl ht rfl rfl rfl fun h3 T3 hT3 fly flew => ?_
  refine cxe_of I3 fly flew (fun b hb => ?_) ⟨old, fr⟩ hT3 q2
  simp only [List.mem_cons, List.not_mem_nil, or_false] at hb
  subst hb
  exact ⟨old, fr⟩
/-- a def that may raise -/
theorem Fun.okE {x qual : Str} {st : Stmt} {f : Addr} {fd : FuncData} {N ps : List Str} {k : Nat} {sp : Sp} (F : Fun K x qual st f fd) (S : FnScope N ps (defScope st)) (len : ∀ vs H Q E, sp vs H Q E → vs.length = ps.length)
    (hbody : ∀ (cdv : Value) (A : Around) (outer : List Env) (s : Shared) (H : Hp) (vs : List V) (Q : VK) (E : XK), Room k (A.deeper (envOfC qual (defScope st) s.heap.objs.size f cdv)) → sp vs H Q E →
      ∃ t, PSs (bodyCx P w K mg base N qual (defScope st) f cdv A outer s H E) (defBody st) t ∧ t { nx := fun _ H' => Q .non H', rt := Q } (start N vs) H) : FnOk P w K mg base (CXE P w) (k + 1) f fd ps sp := by
  obtain ⟨oc, od, kV, doc, pm, an, cdv, ct, osl, rfl, lk, hcd⟩ := F.ex
  exact fn_of lk hcd S len fun A outer s H vs Q E hr hsp => hbody cdv A outer s H vs Q E hr hsp
theorem Def.knownE {x : Str} {st : Stmt} {N ps : List Str} {k : Nat} {sp : Sp} (D : Def K mg x st) (S : FnScope N ps (defScope st))
    (hb : ∀ (kV doc pm : Value) (an : Option Addr) (cdv ct : Value) (us : List Value), us.length = ps.length → bindArgs (PySem.W.fnOf x x (defArgs st) (defBody st) (defScope st) .none kV doc pm an cdv ct) ⟨us, []⟩ = pure (ps.zip us))
    (len : ∀ vs H Q E, sp vs H Q E → vs.length = ps.length)
    (hbody : ∀ (f : Addr) (cdv : Value) (A : Around) (outer : List Env) (s : Shared) (H : Hp) (vs : List V) (Q : VK) (E : XK), Room k (A.deeper (envOfC x (defScope st) s.heap.objs.size f cdv)) → sp vs H Q E →
      ∃ t, PSs (bodyCx P w K mg base N x (defScope st) f cdv A outer s H E) (defBody st) t ∧ t { nx := fun _ H' => Q .non H', rt := Q } (start N vs) H) : Known P w K mg base (CXE P w) (k + 1) x ps sp := by
  obtain ⟨f, fd, F, hm⟩ := D.ex
  exact ⟨f, fd, F.okE S len fun cdv A outer s H vs Q E hr h => hbody f cdv A outer s H vs Q E hr h, hm, F.kp, F.binds hb⟩
end
end L2

namespace L2
open PySem PySem.Spec PyProof.Rows

/-! ### try .. except C as n -/
/-- a caught exception, of the class C -/
def excO (ea : Addr) (C : Value) : HO := .ext fun h => ∃ o, h.get? ea = some o ∧ o.cls = C ∧ o.dict = none ∧ PySem.W.notCls o = true
section
variable {X : Cx} {pins : List (Addr × Obj)} {σ : St} {H : Hp} {s : Shared}
/-- frames' slots and the exception's own objects have changed -/
theorem Inv.flew {own : List Addr} {h3 : Heap} {t' : Nat} (I : Inv X pins σ H s) (fl : Flew (frs X.stack) own s.heap h3)
    (hown : ∀ b ∈ own, X.s₀.heap.get? b = none ∧ H b = none ∧ b ≠ X.env.locals ∧ (∀ x c, X.env.cells.lookup x = some c → c ≠ b) ∧ ∀ p ∈ X.pn ++ pins, p.1 ≠ b) : Inv X pins σ H { s with heap := h3, toks := t' } := by
  have no : ∀ b o, X.s₀.heap.get? b = some o → b ∉ own := fun b o e z => by rw [(hown b z).1] at e; cases e
  have nL : ∀ b o, X.s₀.heap.get? b = some o → b ≠ X.env.locals := fun b o e => Nat.ne_of_lt (Nat.lt_of_lt_of_le (Heap.lt_size e) I.ok.above)
  have cellK : ∀ x c, X.env.cells.lookup x = some c → ∀ v, s.heap.IsCell c v → h3.IsCell c v := fun x c e v ⟨o, ho, hd⟩ => by
    obtain ⟨sl, q⟩ := fl.slot c o (fun z => (hown c z).2.2.2.1 x c e rfl) ho
    exact ⟨_, q, hd⟩
  refine ⟨I.ok, I.os, I.bare, ⟨fun b o e n hb hx => ?_, fun b o e n hb hx => ?_, I.base.free, fun b o e hx => ?_, I.base.tups, I.base.frzs, I.base.tbls⟩, ?_, fun x c e => ?_, I.free, I.freeC, fun p hp => ?_, fl.hok I.hok (fun b hb => I.stkFree b hb) (fun b hb => (hown b hb).2.1), I.len⟩
  · exact fl.keep b o (no b o e) (fun z => (List.mem_cons.mp (I.stkSub b z)).elim (nL b o e) hb) (I.base.keep b o e n hb hx)
  · obtain ⟨sl, e1⟩ := I.base.slot b o e n hb hx
    obtain ⟨sl', e2⟩ := fl.slot b _ (no b o e) e1
    exact ⟨sl', e2⟩
  · obtain ⟨o', e1⟩ := I.base.there b o e hx
    obtain ⟨sl', e2⟩ := fl.slot b _ (no b o e) e1
    exact ⟨_, e2⟩
  · obtain ⟨m, ⟨o, es, ep, ho, r⟩, hl⟩ := I.loc
    obtain ⟨sl, hL⟩ := fl.slot _ o (fun z => (hown _ z).2.2.1 rfl) ho
    refine ⟨m, ⟨_, es, ep, hL, r⟩, fun i x v e1 e2 e3 => ?_⟩
    obtain ⟨u, rv, l⟩ := hl i x v e1 e2 e3
    refine ⟨u, rv, ?_⟩
    rcases l with l | ⟨k, c, e, z⟩
    · exact .inl l
    · exact .inr ⟨k, c, e, cellK x c e _ z⟩
  · obtain ⟨v, z⟩ := I.cell x c e
    exact ⟨v, cellK x c e v z⟩
  · obtain ⟨e, n, ne, nf, d⟩ := I.pin p hp
    exact ⟨fl.keep _ _ (fun z => (hown _ z).2.2.2.2 p hp rfl) (fun z => (List.mem_cons.mp (I.stkSub _ z)).elim ne nf) e, n, ne, nf, d⟩
/-- an object that was not tracked is tracked -/
theorem Inv.adopt {a : Addr} {o : HO} (I : Inv X pins σ H s) (hn : H a = none) (h0 : X.s₀.heap.get? a = none) (hL : a ≠ X.env.locals) (hc : ∀ x c, X.env.cells.lookup x = some c → c ≠ a) (hp : ∀ p ∈ X.pn ++ pins, p.1 ≠ a)
    (new : ObjOk X.prog X.w (upd H a o) s.heap a o) : Inv X pins σ (upd H a o) s := by
  have ne : ∀ b u, H b = some u → b ≠ a := fun b u e => ne_of_none e hn
  refine ⟨I.ok, I.os, I.bare, ⟨I.base.keep, I.base.slot, fun b u e n hx => ?_, I.base.there, fun b xs e => ?_, fun b u xs e => ?_, fun b ps e => ?_⟩, I.loc, I.cell, ?_, fun x c e => ?_, fun p hq => ?_, fun b u e => ?_, I.len⟩
  · rw [upd_ne (fun z => by rw [z, h0] at e; cases e)]
    exact I.base.free b u e n hx
  · have q := I.base.tups b xs e
    rw [upd_ne (ne _ _ q)]
    exact q
  · have q := I.base.frzs b u xs e
    rw [upd_ne (ne _ _ q)]
    exact q
  · obtain ⟨more, q⟩ := I.base.tbls b ps e
    exact ⟨more, by rw [upd_ne (ne _ _ q)]; exact q⟩
  · rw [upd_ne (Ne.symm hL)]
    exact I.free
  · rw [upd_ne (hc x c e)]
    exact I.freeC x c e
  · obtain ⟨e, n, r⟩ := I.pin p hq
    exact ⟨e, by rw [upd_ne (hp p hq)]; exact n, r⟩
  · by_cases hb : b = a
    · subst hb
      rw [upd_same] at e
      cases e
      exact new
    · rw [upd_ne hb] at e
      exact (I.hok b u e).stay (fun _ _ _ q => q) (fun c q => by rw [upd_ne (ne _ _ q)]; exact q) fun c xs q => by rw [upd_ne (ne _ _ q)]; exact q
/-- a local name goes -/
theorem Inv.unname {j : Nat} {n : Str} {h' : Heap} {m : Str → Option Value} {v : Option Value} {t' : Nat} (I : Inv X pins σ H s) (hN : X.N.Nodup) (hj : X.N[j]? = some n) (hm : s.heap.Ns X.env.locals m)
    (hl : ∀ (i : Nat) (x : Str) (v : V), X.N[i]? = some x → σ[i]? = some (some v) → Vis X.env.scope x → ∃ u, RelV v u ∧ Look X.env s.heap m x u) (hn : h'.Ns X.env.locals (fun x => if x = n then v else m x)) (sb : Heap.SameBut X.env.locals s.heap h') :
    Inv X pins (σ.set j none) H { s with heap := h', toks := t' } := by
  have hjσ : j < σ.length := by rw [I.len]; exact (List.getElem?_eq_some_iff.mp hj).1
  have nL : ∀ b o, X.s₀.heap.get? b = some o → b ≠ X.env.locals := fun b o e => Nat.ne_of_lt (Nat.lt_of_lt_of_le (Heap.lt_size e) I.ok.above)
  refine ⟨I.ok, I.os, I.bare, ⟨fun b o e n hb hx => (sb.2 b (nL b o e)).trans (I.base.keep b o e n hb hx), fun b o e n hb hx => ?_, I.base.free, fun b o e hx => ?_, I.base.tups, I.base.frzs, I.base.tbls⟩, ⟨_, hn, fun i y w' e1 e2 e3 => ?_⟩, fun y c e => ?_, I.free, I.freeC, fun p hp => ?_, fun b ob e => ?_, by simpa using I.len⟩
  · obtain ⟨sl, e1⟩ := I.base.slot b o e n hb hx
    exact ⟨sl, (sb.2 b (nL b o e)).trans e1⟩
  · obtain ⟨o', e1⟩ := I.base.there b o e hx
    exact ⟨o', (sb.2 b (nL b o e)).trans e1⟩
  · by_cases hi : i = j
    · subst hi
      rw [List.getElem?_set_self hjσ] at e2
      cases e2
    · rw [List.getElem?_set_ne (Ne.symm hi)] at e2
      obtain ⟨u, r, q⟩ := hl i y w' e1 e2 e3
      refine ⟨u, r, ?_⟩
      rcases q with ⟨k, e⟩ | ⟨k, c, e, z⟩
      · refine .inl ⟨k, ?_⟩
        have : y ≠ n := fun e => hi (nodup_ix hN e1 (e ▸ hj))
        simp [this, e]
      · exact .inr ⟨k, c, e, z.sameBut sb (I.cne y c e)⟩
  · obtain ⟨v', z⟩ := I.cell y c e
    exact ⟨v', z.sameBut sb (I.cne y c e)⟩
  · obtain ⟨e, n, ne, nf, d⟩ := I.pin p hp
    exact ⟨(sb.2 p.1 ne).trans e, n, ne, nf, d⟩
  · obtain ⟨oL, _, _, hoL, _⟩ := id hm
    refine (I.hok b ob e).stay (fun c w' hc q => (sb.2 c ?_).trans q) (fun _ q => q) fun _ _ q => q
    rintro rfl
    rcases hc with rfl | hc
    · rw [I.free] at e; cases e
    · rw [I.free] at hc; cases hc
end
/-- within an except suite -/
abbrev Cx.inEx (X : Cx) (ea : Addr) : Cx := { X with A := X.A.mark (some (.ref ea)), calm := false, xe := fun _ _ => False }
abbrev Cx.pinned (X : Cx) (pn : List (Addr × Obj)) (E1 : Value → Shared → Prop) : Cx := { X with pn := pn, xe := E1 }
section
variable {X : Cx} {pins : List (Addr × Obj)} {σ : St} {H : Hp} {s : Shared}
theorem Inv.inEx (I : Inv X pins σ H s) (ea : Addr) : Inv (X.inEx ea) pins σ H s :=
  ⟨⟨I.ok.mod, I.ok.kind, I.ok.glob, I.ok.blt, I.ok.above, I.ok.inj, I.ok.has, I.ok.cab, fun z => Bool.noConfusion z, I.ok.frames, I.ok.stk, I.ok.exf, I.ok.bs, I.ok.bsz, I.ok.noex, I.ok.exfs, I.ok.funs, I.ok.frf⟩, I.os, I.bare, I.base, I.loc, I.cell, I.free, I.freeC, I.pin, I.hok, I.len⟩
theorem Inv.outEx {ea : Addr} (ok : X.Ok) (I : Inv (X.inEx ea) pins σ H s) : Inv X pins σ H s := ⟨ok, I.os, I.bare, I.base, I.loc, I.cell, I.free, I.freeC, I.pin, I.hok, I.len⟩
theorem Inv.pinnedIn (I : Inv X pins σ H s) (E1 : Value → Shared → Prop) : Inv (X.pinned (X.pn ++ pins) E1) [] σ H s :=
  ⟨⟨I.ok.mod, I.ok.kind, I.ok.glob, I.ok.blt, I.ok.above, I.ok.inj, I.ok.has, I.ok.cab, I.ok.hd, I.ok.frames, I.ok.stk, I.ok.exf, I.ok.bs, I.ok.bsz, I.ok.noex, I.ok.exfs, I.ok.funs, I.ok.frf⟩, I.os, I.bare, I.base, I.loc, I.cell, I.free, I.freeC,
    fun p hp => I.pin p (by simpa using hp), I.hok, I.len⟩
theorem Inv.pinnedOut {pins' : List (Addr × Obj)} {E1 : Value → Shared → Prop} (ok : X.Ok) (I : Inv (X.pinned (X.pn ++ pins) E1) pins' σ H s) : Inv X pins σ H s :=
  ⟨ok, I.os, I.bare, I.base, I.loc, I.cell, I.free, I.freeC, fun p hp => I.pin p (List.mem_append_left _ hp), I.hok, I.len⟩
end
def Ends.less (D : Ends) (j : Nat) : Ends where
  nx := fun σ H => D.nx (σ.set j none) H
  rt := D.rt
  bk := fun σ H => D.bk (σ.set j none) H
  ct := fun σ H => D.ct (σ.set j none) H
/-- what is wanted of an exception in the suite of a try -/
def eTry (K : PySem.W.Frag) (B : Addr) (m j : Nat) (th : TS) (D : Ends) : XK := fun C _ H' => PySem.W.exmOne K C (.ref B) = some true ∧ ∀ ea, H' ea = none → th (D.less j) ((List.replicate m none).set j (some (.ref ea))) (upd H' ea (excO ea C))
def tTry (K : PySem.W.Frag) (B : Addr) (m j : Nat) (tb : XK → TS) (th : TS) : TS := fun D σ H => tb (eTry K B m j th D) D σ H
theorem ps_try {X : Cx} {body suite : List Stmt} {b₀ : Stmt} {x n : Str} {np hpos pos : Pos} {B : Addr} {tb : XK → TS} {th : TS} {j : Nat} (hex : X.ex = []) (hst : X.stack = X.env :: X.outer) (hfr : X.env.frame = some X.env.locals) (hN : X.N.Nodup) (hj : X.N[j]? = some n)
    (hn : X.env.scope.names.lookup n = some .local) (hm : X.mg x = some (.ref B)) (hb : ∀ pn E' E1, Passes (CXE X.prog X.w) (X.pinned pn E1) E' → PSs (X.pinned pn E1) body (tb E')) (hh : ∀ ea, PSs (X.inEx ea) (b₀ :: suite) th)
    (hg : Gl X x := by rfl) (hdb : (x == ("__debug__" : Str)) = false := by decide) :
    PS X (.Try body [.ExceptHandler (some (.Name x np)) (some n) (b₀ :: suite) hpos] [] [] pos) (tTry X.K B X.N.length j tb th) := by
  intro pins s σ H D I h
  have pass : Passes (CXE X.prog X.w) (X.pinned (X.pn ++ pins) (fun e s1 => wpAny (model X.prog X.w) X.A (noteFrame e X.env) (fun _ s2 => wpAny (model X.prog X.w) X.A (setFlight e none) (fun _ s3 =>
      wpAny (model X.prog X.w) X.A (handleBy e X.env [.ExceptHandler (some (.Name x np)) (some n) (b₀ :: suite) hpos]) (SP X pins D) X.xe s3) X.xe s2) X.xe s1)) (eTry X.K B X.N.length j th D) := by
    intro pins' σ' H1 s1 e s2 I1 hq
    obtain ⟨ea, T, C, H2, rfl, os, bare, un, hok, fly, n1, n2, f1, f2, hx, q⟩ := hq
    have I1' : Inv X pins (List.replicate X.N.length none) H1 s1 := (I1.pinnedOut I.ok).weak (by rw [List.length_replicate, I1.len]) fun i v e => by
      rw [List.getElem?_replicate] at e
      split at e <;> cases e
    have I2 : Inv X pins (List.replicate X.N.length none) H2 s2 := I1'.call' os un hok bare (fun b z => absurd z (by simp))
    have own : ∀ b, s1.heap.get? b = none → H2 b = none → X.s₀.heap.get? b = none ∧ H2 b = none ∧ b ≠ X.env.locals ∧ (∀ x c, X.env.cells.lookup x = some c → c ≠ b) ∧ ∀ p ∈ X.pn ++ pins, p.1 ≠ b := fun b e hb => by
      refine ⟨?_, hb, fun z => ?_, fun y c hc z => ?_, fun p hp z => ?_⟩
      · cases z : X.s₀.heap.get? b with
        | none => rfl
        | some o =>
          obtain ⟨o', e'⟩ := I1'.base.there b o z (by rw [hex]; intro hz; cases hz)
          rw [e] at e'
          cases e'
      · obtain ⟨m, ⟨o, _, _, ho, _⟩, _⟩ := I1'.loc
        rw [← z, e] at ho
        cases ho
      · obtain ⟨v, o, ho, _⟩ := I1'.cell y c hc
        rw [z, e] at ho
        cases ho
      · have ho := (I1'.pin p hp).1
        rw [z, e] at ho
        cases ho
    have st2 : s2.heap.FunFrames X.base (X.env :: X.outer) := hst ▸ I2.stack
    have fr2 : X.A.frames = some (X.env :: X.outer) := hst ▸ I.ok.frames
    refine note_fly (base := X.base) fr2 st2 hfr fly fun h3 T3 hT3 fly3 flew => ?_
    have I3 : Inv X pins (List.replicate X.N.length none) H2 { s2 with heap := h3 } := I2.flew (t' := s2.toks) (hst ▸ flew) fun b hb => by
      simp only [List.mem_cons, List.not_mem_nil, or_false] at hb
      rcases hb with rfl | rfl
      · exact own _ n1 f1
      · exact own _ n2 f2
    obtain ⟨oe, vs, oT, ts, he, hcl, hdn, hd, h1, hTe, hT, hdT, h3'⟩ := fly3
    refine wpAny_handleBy_cons (codeAny_handlers_test ?_) (by intro z; cases z)
    refine ld_glob (X := X.inEx ea) (I3.inEx ea) hg hm ?_ hdb
    have LT : PySem.W.Looks (model X.prog X.w) h3 (typeOf (.ref ea)) C := hcl ▸ (PySem.W.Looks.ld he).andThen .now
    have LX := PySem.W.exm_one (M := model X.prog X.w) I3.kIn LT hx
    refine LX _ _ _ { s2 with heap := h3 } (fun _ _ z => z) ?_
    show codeAny _ _ _ _ _
    refine codeAny_handlers_suite_as ?_
    -- setFlight
    unfold setFlight
    refine wpAny_bind (wpAny_field (s := { s2 with heap := h3 }) he hd h1 ?_)
    rw [if_pos (show (Value.ref T3 != Value.none) = true from by simp)]
    refine wpAny_setField (s := { s2 with heap := h3 }) hT hdT (Array.getElem?_eq_some_iff.mp h3').1 ?_
    have far : ∀ b, b ≠ T3 → (h3.update T3 (Obj.mapFields (·.setIfInBounds 3 ((none : Option Addr).elim Value.none fun f => rawInt f)))).get? b = h3.get? b := fun b nb => Heap.get?_update_other _ _ (Ne.symm nb)
    have hfT : H2 T3 = none := I2.hok.fresh hT3
    have oT3 : T3 ≠ X.env.locals := Nat.ne_of_gt (Nat.lt_of_lt_of_le I2.lt hT3)
    have I4 : Inv X pins (List.replicate X.N.length none) H2 { s2 with heap := h3.update T3 (Obj.mapFields (·.setIfInBounds 3 ((none : Option Addr).elim Value.none fun f => rawInt f))) } :=
      I3.turned (t' := s2.toks) (fun b o nb e => (far b nb).trans e) hfT oT3 (.inr (Nat.le_trans I2.sz hT3)) (fun y c hc z => by
        obtain ⟨v, w'⟩ := I2.cell y c hc
        exact absurd w'.lt (by rw [z]; exact Nat.not_lt.mpr hT3)) (fun p hp z => absurd (Heap.lt_size (I2.pin p hp).1) (by rw [z]; exact Nat.not_lt.mpr hT3))
    obtain ⟨o0, o1, o2, o3, o4⟩ := own ea n1 f1
    have he4 := (far ea (Ne.symm hTe)).trans he
    have I5 : Inv X pins (List.replicate X.N.length none) (upd H2 ea (excO ea C)) _ := I4.adopt o1 o0 o2 o3 o4 ⟨⟨oe, he4, hcl, hdn, by unfold PySem.W.notCls; rw [hd]⟩, ⟨oe, he4⟩, fun a b ⟨o, e1, e2⟩ k => ⟨o, k o e1, e2⟩⟩
    refine store_ok (v := .ref ea) I5 hN hj (.inl hn) rfl (fun s6 I6 => ?_) (.inr hn)
    have run := hh ea pins s6 _ _ (D.less j) (I6.inEx ea) (q ea f1)
    refine wpAny_mono run (fun fl s7 q7 => ?_) fun _ _ z => z.elim
    have fin : ∀ {σ7 : St} {H7 : Hp} {R : Unit → Shared → Prop}, Inv (X.inEx ea) pins σ7 H7 s7 → (∀ s8, Inv X pins (σ7.set j none) H7 s8 → R () s8) → wpAny (model X.prog X.w) X.A (do bindName X.env n .none; unbindBehindTheSuite X.env n hpos) R X.xe s7 := fun {σ7 H7 R} I7 k => by
      have I7' := I7.outEx I.ok
      obtain ⟨m, hm7, hl7⟩ := I7'.loc
      refine wpAny_nameGoes_keeps (show X.env.scope.names.lookup n = some .local from hn) hm7 (by rw [I.ok.kind]; rfl) fun h8 v hn8 sb8 => ?_
      exact k _ (I7'.unname hN hj hm7 hl7 hn8 sb8)
    cases fl with
    | next => obtain ⟨σ7, H7, I7, n7⟩ := q7; exact fin I7 fun s8 I8 => ⟨_, H7, I8, n7⟩
    | brk => obtain ⟨σ7, H7, I7, n7⟩ := q7; exact fin I7 fun s8 I8 => ⟨_, H7, I8, n7⟩
    | cont => obtain ⟨σ7, H7, I7, n7⟩ := q7; exact fin I7 fun s8 I8 => ⟨_, H7, I8, n7⟩
    | ret u => obtain ⟨v7, σ7, H7, I7, r7, n7⟩ := q7; exact fin I7 fun s8 I8 => ⟨v7, _, H7, I8, r7, n7⟩
  have run := hb (X.pn ++ pins) (eTry X.K B X.N.length j th D) _ pass [] s σ H D (I.pinnedIn _) h
  refine wpAny_Try_except (wpAny_mono run (fun fl s1 q1 => ?_) fun e s1 q1 => q1)
  cases fl with
  | next => obtain ⟨σ1, H1, I1, n1⟩ := q1; exact wpAny_execs_nil ⟨σ1, H1, I1.pinnedOut I.ok, n1⟩
  | brk => obtain ⟨σ1, H1, I1, n1⟩ := q1; exact ⟨σ1, H1, I1.pinnedOut I.ok, n1⟩
  | cont => obtain ⟨σ1, H1, I1, n1⟩ := q1; exact ⟨σ1, H1, I1.pinnedOut I.ok, n1⟩
  | ret u => obtain ⟨v1, σ1, H1, I1, r1, n1⟩ := q1; exact ⟨v1, σ1, H1, I1.pinnedOut I.ok, r1, n1⟩
/-! ### isinstance of a caught exception -/
structure ExcK (K : PySem.W.Frag) (C : Addr) : Prop where
  hga : PySem.W.findIn K (.ref C) "__getattribute__" = some (some (.builtin "BaseException.__getattribute__"))
  hk : PySem.W.findIn K (.ref C) "__getattr__" = some none
  hc : ∃ cd, PySem.W.clsIn K C = some cd
  ha : PySem.W.findIn K (.ref C) "__class__" = some (some (.builtin "object.__class__"))
  hn : PySem.W.specialIn K (.builtin "object.__class__") "__get__" = some (some (.builtin "getset_descriptor.__get__"))
  ht : PySem.W.takesIn K (.builtin "object.__class__") = some true
  hm : PySem.W.mroIn K C (.type "object") = some true
  hb : PySem.W.mroIn K C (.type "BaseException") = some true
/-- the class of a caught exception, asked by its own __getattribute__ -/
theorem exc_class {prog : Program} {w : World} {A : Around} {E : Value → Shared → Prop} {s : Shared} {K : PySem.W.Frag} {x C : Addr} {ox : Obj} {Q : Option Value → Shared → Prop} (k : ExcK K C) (X : K.In s.heap) (I : PySem.W.InstAt s.heap x ox C none)
    (h : Q (some (.ref C)) { s with toks := s.toks + 1 }) : wpAny (model prog w) A (getAttr? (.ref x) "__class__") Q E s := by
  obtain ⟨hh, g, d, t, os⟩ := s
  obtain ⟨cd, hc⟩ := k.hc
  have hf : PySem.W.findObj K C none "__class__" = some (.bind (.builtin "getset_descriptor.__get__") (.builtin "object.__class__")) := by
    show (PySem.W.clsIn K C).bind _ = _
    rw [hc, Option.bind_some, k.ha, Option.bind_some]
    simp [k.hn, k.ht]
  have L0 := I.type (M := model prog w)
  have L1 := PySem.W.looks_findIn (M := model prog w) X k.hga
  have L2 := PySem.W.looks_findIn (M := model prog w) X k.hk
  have L3 := PySem.W.looks_mroIn (M := model prog w) X k.hb
  have L4 := PySem.W.looks_find (M := model prog w) X I hf
  unfold getAttr? getAttrBy? getAttrBy
  refine wpAny_bind (wpAny_mkText (wpAny_bind (wpAny_attempt (wpAny_holding (wpAny_bind (L0.at (wpAny_bind (L1.at ?_))))))))
  show wpAny _ _ (getAttrByItsOwn _ _ _ _ _ _) _ _ _
  unfold getAttrByItsOwn
  refine wpAny_bind ?_
  show wpAny _ _ (typeLookup (.ref C) "__getattr__") _ _ _
  refine L2.at (wpAny_bind (wpAny_attempt (wpAny_holding ?_)))
  show wpAny _ _ (boundAndCalled _ _ _) _ _ _
  unfold boundAndCalled
  rw [F.excAttr_ValueError.ga.bind (.ref x)]
  refine wpAny_bind (wpAny_pure (wpAny_call ?_))
  refine codeAny_call_builtin F.excAttr_ValueError.ga.plain F.entry_bexc_ga ?_
  have hk : builtinKind "BaseException.__getattribute__" = some .slot := by decide +kernel
  have hsp : splitId "BaseException.__getattribute__" = some ("BaseException", "__getattribute__") := by decide +kernel
  have L5 : PySem.W.Looks (model prog w) hh (isInstance (.ref x) (.type "BaseException")) true := L0.andThen L3
  have ha := F.args_bexc_ga (.ref x) (.str "__class__" t)
  have key : ∀ (Q2 : Unit → Shared → Prop) (E2 : Value → Shared → Prop) (A2 : Around), Q2 () ⟨hh, g, d, t + 1, os⟩ → wpAny (model prog w) A2 (checkBuiltinCall "BaseException.__getattribute__" ⟨[.ref x, .str "__class__" t], []⟩) Q2 E2 ⟨hh, g, d, t + 1, os⟩ := by
    intro Q2 E2 A2 q
    have z := @PySem.W.check_slot (model prog w) A2 E2 ⟨hh, g, d, t + 1, os⟩ _ _ _ (.ref x) [.str "__class__" t] [] Q2 hk hsp L5 ha q
    exact z
  refine key _ _ _ ?_
  unfold Builtin.«object.__getattribute__»
  refine wpAny_bind (wpAny_pure (wpAny_bind (wpAny_pure (wpAny_bind (L0.at (wpAny_bind (L4.at ?_)))))))
  refine wpAny_bind (wpAny_holding (wpAny_call ?_))
  exact PySem.W.class_get (s := ⟨hh, g, d, t + 1, os⟩) (ox := ox) (od := none) X I k.hm (wpAny_pure (PySem.W.handed_on rfl (wpAny_pure h)))
theorem kitx_exc {K : PySem.W.Frag} {x C : Addr} (k : ExcK K C) : PySem.W.KitX K (.ref x) (.ref C) (fun h => ∃ ox, PySem.W.InstAt h x ox C none) where
  ty := fun _ _ _ ⟨_, I⟩ => I.type
  it := fun _ _ X _ => by
    obtain ⟨cd, hc⟩ := k.hc
    unfold PySem.W.clsIn at hc
    split at hc
    · rename_i ho
      intro A' Q' E' s' kk q
      unfold isType loadHead
      exact wpAny_bind (wpAny_loadPart (kk _ _ (X _ _ ho)) (wpAny_pure q))
    · cases hc
  ne := fun h tp dd its n sl X htp => by
    obtain ⟨cd, hc⟩ := k.hc
    refine Bool.eq_false_iff.mpr fun q => ?_
    have e : C = tp := Value.ref.inj (beq_iff_eq.mp q)
    subst e
    unfold PySem.W.clsIn at hc
    split at hc
    · rename_i ho
      have z := (X _ _ ho).symm.trans htp
      cases z
    · cases hc
  ca := fun {prog w A E Q s} X ⟨ox, I⟩ h => exc_class k X I h
theorem call_isX {X : Cx} : CallR X (.builtin "isinstance") (fun xs H Q => ∃ ea C D cv k, xs = [.ref ea, D] ∧ H ea = some (excO ea (.ref C)) ∧ ExcK X.K C ∧ ((∃ D', D = .ref D' ∧ cv = Value.ref D') ∨ ∃ T, D = .ty T ∧ cv = Value.type T) ∧ PySem.W.kitOne X.K (.ref C) cv = some k ∧ Q (.bl k) H) := by
  intro pins s σ H xs us Q I r h
  obtain ⟨ea, C, D, cv, k, rfl, hea, hk, hD, e, q⟩ := h
  obtain ⟨u, c, rfl, r1, r2⟩ := r.two
  cases r1
  obtain ⟨⟨o, h1, h2, h3, h4⟩, _⟩ := I.hok _ _ hea
  have ec : c = cv := by
    rcases hD with ⟨D', rfl, rfl⟩ | ⟨T, rfl, rfl⟩ <;> exact r2
  subst ec
  refine PySem.W.kia_one (kitx_exc hk) I.kIn ⟨o, h1, h2, h4, ?_⟩ e (fun z => nomatch z) fun tk => ⟨.bl k, H, I.tok tk, rfl, q⟩
  rw [h3]
  trivial
end L2

namespace L2
open PySem PySem.Spec PyProof.Rows
/-! ### a slice of a text -/
theorem b_ValueError : bootBuiltins "ValueError" = some (.type "ValueError") := by kernel_rfl
end L2

namespace L2
open PySem PySem.Spec PyProof.Rows
/-! ### list(range(n)), list(d) -/
section
variable {X : Cx}
end
/-- the j-th statement of a class's body -/
def inCls (s : Stmt) (j : Nat) : Stmt := match s with
  | .ClassDef _ _ _ body _ _ _ _ _ _ _ => body.getD j (.Pass ⟨0, 0, 0, 0⟩)
  | _ => .Pass ⟨0, 0, 0, 0⟩
/-! ### methods and classes, by what they promise -/
structure KnownM (P : Program) (w : World) (K : PySem.W.Frag) (mg : Str → Option Value) (base : Heap) (CX : CXT) (k : Nat) (C : Addr) (m : Str) (ps : List Str) (sp : Sp) : Prop where
  ex : ∃ f fd, FnOk P w K mg base CX k f fd ps sp ∧ Meth K C m f ∧ Binds K fd ps []
structure KnownI (P : Program) (w : World) (K : PySem.W.Frag) (mg : Str → Option Value) (base : Heap) (CX : CXT) (k : Nat) (C : Addr) (ps : List Str) (sp : Sp) : Prop where
  ex : ∃ f fd, FnOk P w K mg base CX k f fd ps sp ∧ Mk K C f ∧ Binds K fd ps []
structure Mth (K : PySem.W.Frag) (C : Addr) (m qual : Str) (st : Stmt) : Prop where
  ex : ∃ f fd, Fun K m qual st f fd ∧ PySem.W.findIn K (.ref C) m = some (some (.ref f)) ∧ PySem.W.isFn K (.ref f) = true
section
variable {P : Program} {w : World} {K : PySem.W.Frag} {mg : Str → Option Value} {base : Heap} {C : Addr}
theorem mth_mk {m qual : Str} {st : Stmt} {f : Addr} {oc : Value} {od an : Option Addr} {osl : Array (Option Value)} {kV doc pm cdv ct : Value} (a : PySem.W.findIn K (.ref C) m = some (some (.ref f))) (i : PySem.W.isFn K (.ref f) = true)
    (l : K.lookup f = some ⟨oc, od, .func (PySem.W.fnOf m qual (defArgs st) (defBody st) (defScope st) .none kV doc pm an cdv ct), osl⟩) (c : PySem.W.codeIn K cdv qual = true) (k : PySem.W.keepIn K (.ref f) = true) : Mth K C m qual st :=
  ⟨f, _, fun_mk l c k, a, i⟩
theorem Mth.known {m qual : Str} {st : Stmt} {N ps : List Str} {k : Nat} {sp : Sp} (D : Mth K C m qual st) (S : FnScope N ps (defScope st))
    (hb : ∀ (kV doc pm : Value) (an : Option Addr) (cdv ct : Value) (us : List Value), us.length = ps.length → bindArgs (PySem.W.fnOf m qual (defArgs st) (defBody st) (defScope st) .none kV doc pm an cdv ct) ⟨us, []⟩ = pure (ps.zip us))
    (len : ∀ vs H Q E, sp vs H Q E → vs.length = ps.length)
    (hbody : ∀ (f : Addr) (cdv : Value) (A : Around) (outer : List Env) (s : Shared) (H : Hp) (vs : List V) (Q : VK) (E : XK), Room k (A.deeper (envOfC qual (defScope st) s.heap.objs.size f cdv)) → sp vs H Q E →
      ∃ t, PSs (cxOf CX0 P w K mg base N qual (defScope st) f cdv A outer s H E).nox (defBody st) t ∧ t { nx := fun _ H' => Q .non H', rt := Q } (start N vs) H) : KnownM P w K mg base CX0 (k + 1) C m ps sp := by
  obtain ⟨f, fd, F, ha, hi⟩ := D.ex
  exact ⟨f, fd, F.ok S len fun cdv A outer s H vs Q E hr h => hbody f cdv A outer s H vs Q E hr h, ⟨ha, hi, F.kp⟩, F.binds hb⟩
theorem Mth.knownE {m qual : Str} {st : Stmt} {N ps : List Str} {k : Nat} {sp : Sp} (D : Mth K C m qual st) (S : FnScope N ps (defScope st))
    (hb : ∀ (kV doc pm : Value) (an : Option Addr) (cdv ct : Value) (us : List Value), us.length = ps.length → bindArgs (PySem.W.fnOf m qual (defArgs st) (defBody st) (defScope st) .none kV doc pm an cdv ct) ⟨us, []⟩ = pure (ps.zip us))
    (len : ∀ vs H Q E, sp vs H Q E → vs.length = ps.length)
    (hbody : ∀ (f : Addr) (cdv : Value) (A : Around) (outer : List Env) (s : Shared) (H : Hp) (vs : List V) (Q : VK) (E : XK), Room k (A.deeper (envOfC qual (defScope st) s.heap.objs.size f cdv)) → sp vs H Q E →
      ∃ t, PSs (bodyCx P w K mg base N qual (defScope st) f cdv A outer s H E) (defBody st) t ∧ t { nx := fun _ H' => Q .non H', rt := Q } (start N vs) H) : KnownM P w K mg base (CXE P w) (k + 1) C m ps sp := by
  obtain ⟨f, fd, F, ha, hi⟩ := D.ex
  exact ⟨f, fd, F.okE S len fun cdv A outer s H vs Q E hr h => hbody f cdv A outer s H vs Q E hr h, ⟨ha, hi, F.kp⟩, F.binds hb⟩
theorem KnownM.init {CX : CXT} {k : Nat} {ps : List Str} {sp : Sp} (G : KnownM P w K mg base CX k C "__init__" ps sp) (mk : PySem.W.makesIn K C = true) (kc : PySem.W.keepIn K (.ref C) = true) : KnownI P w K mg base CX k C ps sp := by
  obtain ⟨f, fd, F, hm, hb⟩ := G.ex
  exact ⟨f, fd, F, ⟨mk, hm.at_, hm.fn, kc⟩, hb⟩
end
section
variable {X : Cx} {CX : CXT} {k : Nat} {C : Addr} {ps : List Str} {sp : Sp} {E : XK} {x m : Str} {p pos apos : Pos} {e o : Expr} {es : List Expr} {t : TA} {ta : TE}
theorem pe_makeN (G : KnownI X.prog X.w X.K X.mg X.base CX k C ps sp) (hr : Room (k + 1) X.A) (hm : X.mg x = some (.ref C)) (hx : Passes CX X E)
    (ha : PA X (e :: es) t) (hg : Gl X x := by rfl) (hdb : (x == ("__debug__" : Str)) = false := by decide) (he : starEach (e :: es) X.env = (false, eval e X.env) :: starEach es X.env := by rfl) (hpl : (backTo pos (starEach es X.env)).any (·.1) = false := by rfl) :
    PE X (.Call (.Name x p) (e :: es) [] pos) (tMake C sp [] E t) := by
  obtain ⟨f, fd, F, M, hb⟩ := G.ex
  exact pe_make M F hr hg hm hb .nil hx ha hdb he hpl
end
end L2

namespace L2
open PySem PySem.Spec PyProof.Rows
/-! ### what a comprehension catches -/
def clFold (cells : List (Str × Addr)) : List (Str × NameKind) → List (Str × Addr) → List (Str × Addr)
  | [], acc => acc
  | (n, k) :: r, acc => clFold cells r (if k == .free then (n, (cells.lookup n).getD 0) :: acc else acc)
theorem closureFor_fold {env : Env} : ∀ {names : List (Str × NameKind)} {acc : List (Str × Addr)}, (∀ y ∈ names, y.2 = .free → ∃ c, env.cells.lookup y.1 = some c) →
    (forIn names acc fun (x : Str × NameKind) (cs : List (Str × Addr)) => (do
      let (name, kind) := x
      if kind == NameKind.free then (do let a ← cellOf env name; pure (ForInStep.yield ((name, a) :: cs))) else pure (ForInStep.yield cs) : Sem (ForInStep (List (Str × Addr))))) = pure (clFold env.cells names acc)
  | [], acc, _ => rfl
  | (n, k) :: r, acc, h => by
    rw [List.forIn_cons]
    by_cases hk : (k == NameKind.free) = true
    · obtain ⟨c, hc⟩ := h (n, k) List.mem_cons_self (by simpa using hk)
      have e : cellOf env n = pure c := by unfold cellOf; rw [show env.cells.lookup n = some c from hc]
      have ih := closureFor_fold (env := env) (names := r) (acc := (n, c) :: acc) fun y hy => h y (List.mem_cons_of_mem _ hy)
      show (do let r ← (if k == NameKind.free then (do let a ← cellOf env n; pure (ForInStep.yield ((n, a) :: acc))) else pure (ForInStep.yield acc) : Sem (ForInStep (List (Str × Addr)))); _) = _
      rw [if_pos hk, e, pure_bind, pure_bind]
      refine Eq.trans ih ?_
      show _ = pure (clFold env.cells r (if (k == NameKind.free) = true then (n, (env.cells.lookup n).getD 0) :: acc else acc))
      rw [if_pos hk, show env.cells.lookup n = some c from hc]
      rfl
    · have ih := closureFor_fold (env := env) (names := r) (acc := acc) fun y hy => h y (List.mem_cons_of_mem _ hy)
      show (do let r ← (if k == NameKind.free then (do let a ← cellOf env n; pure (ForInStep.yield ((n, a) :: acc))) else pure (ForInStep.yield acc) : Sem (ForInStep (List (Str × Addr)))); _) = _
      rw [if_neg hk, pure_bind]
      refine Eq.trans ih ?_
      show _ = pure (clFold env.cells r (if (k == NameKind.free) = true then (n, (env.cells.lookup n).getD 0) :: acc else acc))
      rw [if_neg hk]
theorem clFold_sub {cells : List (Str × Addr)} : ∀ {names : List (Str × NameKind)} {acc : List (Str × Addr)}, (∀ y ∈ names, y.2 = .free → ∃ c, cells.lookup y.1 = some c) → (∀ x c, acc.lookup x = some c → cells.lookup x = some c) →
    ∀ x c, (clFold cells names acc).lookup x = some c → cells.lookup x = some c
  | [], _, _, h => h
  | (n, k) :: r, acc, hf, h => by
    refine clFold_sub (names := r) (fun y hy => hf y (List.mem_cons_of_mem _ hy)) ?_
    intro x c e
    by_cases hk : (k == NameKind.free) = true
    · obtain ⟨c', hc⟩ := hf (n, k) List.mem_cons_self (by simpa using hk)
      have hc' : cells.lookup n = some c' := hc
      rw [if_pos hk, hc', List.lookup_cons] at e
      by_cases hx : (x == n) = true
      · rw [hx] at e
        cases e
        have : x = n := by simpa using hx
        rw [this]
        exact hc'
      · rw [show (x == n) = false by simpa using hx] at e
        exact h x c e
    · rw [if_neg hk] at e
      exact h x c e
theorem clFold_keep {cells : List (Str × Addr)} : ∀ {names : List (Str × NameKind)} {acc : List (Str × Addr)} {x : Str}, (∃ c, acc.lookup x = some c) → ∃ c, (clFold cells names acc).lookup x = some c
  | [], _, _, h => h
  | (n, k) :: r, acc, x, ⟨c, h⟩ => by
    refine clFold_keep (names := r) ?_
    by_cases hk : (k == NameKind.free) = true
    · rw [if_pos hk, List.lookup_cons]
      cases hx : x == n with
      | true => exact ⟨_, rfl⟩
      | false => exact ⟨c, h⟩
    · rw [if_neg hk]
      exact ⟨c, h⟩
theorem clFold_has {cells : List (Str × Addr)} : ∀ {names : List (Str × NameKind)} {acc : List (Str × Addr)} {x : Str}, (x, NameKind.free) ∈ names → ∃ c, (clFold cells names acc).lookup x = some c
  | (n, k) :: r, acc, x, h => by
    rcases List.mem_cons.mp h with e | h
    · cases e
      refine clFold_keep (names := r) ⟨(cells.lookup n).getD 0, ?_⟩
      rw [if_pos (by rfl), List.lookup_cons, beq_self_eq_true]
    · exact clFold_has (names := r) h
theorem relabel_kind {env : Env} : ∀ {names : List (Str × NameKind)} {x : Str}, names.lookup x = some .free →
    (names.map fun (n, k) => if (k == NameKind.free && env.scope.kind == .function && env.kindOf n == some .cell) then (n, NameKind.cell) else (n, k)).lookup x = some .cell ∨
    (names.map fun (n, k) => if (k == NameKind.free && env.scope.kind == .function && env.kindOf n == some .cell) then (n, NameKind.cell) else (n, k)).lookup x = some .free
  | [], _, h => by simp at h
  | (n, k) :: r, x, h => by
    have ih := @relabel_kind env r x
    rw [List.lookup_cons] at h
    rw [List.map_cons]
    cases hx : x == n with
    | true =>
      rw [hx] at h
      cases h
      by_cases hc : (NameKind.free == NameKind.free && env.scope.kind == .function && env.kindOf n == some .cell) = true
      · simp only [hc, if_true, List.lookup_cons, hx]
        exact .inl trivial
      · simp only [hc, if_false, List.lookup_cons, hx, Bool.false_eq_true]
        exact .inr trivial
    | false =>
      rw [hx] at h
      by_cases hc : (k == NameKind.free && env.scope.kind == .function && env.kindOf n == some .cell) = true
      · simp only [hc, if_true, List.lookup_cons, hx]
        exact ih h
      · simp only [hc, if_false, List.lookup_cons, hx, Bool.false_eq_true]
        exact ih h
theorem caps_of {X : Cx} {scope : Scope} {cp : List (Nat × Str)} {sc : Scope} {N : List Str} (hcell : ∀ x, X.env.scope.names.lookup x = some .cell → ∃ c, X.env.cells.lookup x = some c) (hs : X.env.scope = sc := by rfl) (hN : X.N = N := by rfl)
    (kind : scope.kind = .function := by rfl) (plain : ∀ y ∈ scope.names, y.2 ≠ .cell := by decide) (names : ∀ y ∈ scope.names, y.2 = .local → scope.names.lookup y.1 = some .local := by decide +kernel)
    (free : ∀ y ∈ scope.names, y.2 = .free → sc.names.lookup y.1 = some .cell := by decide +kernel) (at' : ∀ p ∈ cp, N[p.1]? = some p.2 ∧ sc.names.lookup p.2 = some .cell ∧ scope.names.lookup p.2 = some .free := by decide +kernel) :
    Caps X scope (clFold X.env.cells scope.names []) cp := by
  subst hs hN
  have hf : ∀ y ∈ scope.names, y.2 = .free → ∃ c, X.env.cells.lookup y.1 = some c := fun y hy e => hcell _ (free y hy e)
  refine ⟨kind, plain, names, ?_, clFold_sub hf (fun x c e => by cases e), fun x h => ?_, fun p hp => ?_⟩
  · show closureFor scope X.env = _
    simp only [closureFor]
    have := closureFor_fold (env := X.env) (acc := []) hf
    exact (congrArg (fun z => z >>= fun r => pure r) this).trans (pure_bind _ _)
  · have hm : ∀ k, (relabel scope X.env).names.lookup x = some k → (k = .cell ∨ k = .free) → (x, NameKind.free) ∈ scope.names := fun k e hk => by
      have m := PySem.mem_of_lookup e
      unfold relabel at m
      obtain ⟨⟨n, k'⟩, hy, e'⟩ := List.mem_map.mp m
      have nc := plain _ hy
      by_cases hc : (k' == NameKind.free && X.env.scope.kind == .function && X.env.kindOf n == some .cell) = true
      · simp only [hc, if_true] at e'
        have e1 : n = x := congrArg (·.1) e'
        have : k' = .free := by simp only [Bool.and_eq_true, beq_iff_eq] at hc; exact hc.1.1
        subst e1 this
        exact hy
      · simp only [hc, if_false, Bool.false_eq_true] at e'
        have e1 : n = x := congrArg (·.1) e'
        have e2 : k' = k := congrArg (·.2) e'
        subst e1 e2
        rcases hk with z | z
        · exact absurd z nc
        · subst z; exact hy
    rcases h with h | h
    · exact clFold_has (hm _ h (.inl rfl))
    · exact clFold_has (hm _ h (.inr rfl))
  · obtain ⟨h1, h2, h3⟩ := at' p hp
    exact ⟨h1, .inl h2, relabel_kind h3⟩
end L2

namespace L2
open PySem PySem.Spec PyProof.Rows PySem.Builtin PySem.Builtin.Str
/-! ### what a slice of a text is -/
end L2

namespace L2
open PySem PySem.Spec PyProof.Rows
/-! ### for over a dict: it stands still while it is walked -/
section
variable {X : Cx} {pins : List (Addr × Obj)} {σ : St} {H : Hp} {s : Shared} {d : Addr}
end
section
variable {X : Cx} {tg : Expr}
end
end L2

namespace L2
open PySem PySem.Spec PyProof.Rows
/-! ### list.insert -/
def insV {α : Type} (xs : List α) (k : Nat) (y : α) : List α := xs.take k ++ y :: xs.drop k
theorem insV_len {α : Type} (xs : List α) (k : Nat) (y : α) : (insV xs k y).length = xs.length + 1 := by
  unfold insV
  rw [List.length_append, List.length_cons, List.length_take, List.length_drop]
  omega
def rInsert : V → List V → Hp → VK → Prop := fun x vs H Q => ∃ l xs i y, x = .ref l ∧ vs = [.int i, y] ∧ H l = some (.lst xs) ∧ 0 ≤ i ∧ i ≤ xs.length ∧ xs.length < sizeLine ∧ Q .non (upd H l (.lst (insV xs i.toNat y)))
section
variable {X : Cx}
theorem mt_insert : MtM X "list.insert" rInsert := by
  intro pins s σ H x vs v us Q I rx rv h
  obtain ⟨l, xs, i, y, rfl, rfl, hH, h0, h1, hz, q⟩ := h
  cases rx
  cases rv with
  | @cons _ u1 _ us' r1 rr =>
    cases rr with
    | @cons _ u2 _ us'' r2 rr =>
      cases rr
      obtain ⟨t, rfl⟩ := r1
      obtain ⟨z, its, n, r, hl, e⟩ := I.lstM hH
      have h63 := line63
      have hfit : Builtin.List.listFitsIndex i = true := fitsIndex_both (by omega) (by omega)
      refine call_meets F.slot_list_insert ⟨_, e, rfl⟩ F.entry_list_insert (F.args_list_insert_3 _ _ _) (PySem.AutoSeq1.list_insert_list_int_val_1 l its.toArray n i t u2 (by rw [hfit]; decide) (by rw [List.size_toArray]; omega)) ⟨e, ?_⟩
      refine ⟨.non, _, I.lset (its' := its.take i.toNat ++ u2 :: its.drop i.toNat) hH e ?_ ((r.take i.toNat).append (.cons r2 (r.drop i.toNat))) ?_, rfl, q⟩
      · show (its.toArray.extract 0 (if i < 0 then (i + (its.toArray.size : Int)).toNat else min i.toNat its.toArray.size)).push u2 ++ its.toArray.extract (if i < 0 then (i + (its.toArray.size : Int)).toNat else min i.toNat its.toArray.size) = _
        rw [PySem.W.kl_ins_eq, List.size_toArray, if_neg (by omega), Nat.min_eq_left (by omega)]
      · have := insV_len xs i.toNat y
        unfold insV at this
        omega
/-! ### dict(d) -/
/-! ### d != e, where both hold the same things -/
end
/-! ### for k, v in d.items() -/
section
variable {X : Cx} {elts : List Expr} {x1 : Nat} {tpos apos pos : Pos}
end
/-! ### xs != [], xs[::-1], what is never come to -/
section
variable {X : Cx} {e st : Expr} {te : TE} {ts : TO} {p2 pos : Pos}
end
end L2

namespace L2
open PySem PySem.Spec PyProof.Rows
/-! ### lambdas: the table of the code that makes them is tracked by what is true of it -/
/-- what the base tells of the code that makes lambdas -/
structure Maker (mg : Str → Option Value) (base : Heap) (c P : Addr) : Prop where
  hd : PySem.W.CodeHd base c P
  bt : base.BuiltinsAt mg P
section
variable {X : Cx}
theorem triples_app : ∀ {xs : List Value} {l c : Nat} {a : Addr}, TriplesOk xs → TriplesOk (xs ++ [rawInt l, rawInt c, .ref a])
  | [], _, _, _, _ => trivial
  | .int _ _ :: .int _ _ :: _ :: rest, _, _, _, t => triples_app (xs := rest) t
theorem triples_more {ps : Array Value} {l c : Nat} {a : Addr} (t : TriplesOk ps.toList) : TriplesOk (ps ++ #[rawInt l, rawInt c, .ref a]).toList := by
  rw [Array.toList_append]
  exact triples_app t
end
/-! ### the head, with tables -/
/-- a def whose code's table stands in the written part -/
structure TabOf (q : Program) (K : PySem.W.Frag) (z : Addr × Addr) : Prop where
  ex : ∃ x : Str, ((recsOf q).find? (fun e => e.name == x)).isSome = true ∧ PySem.W.tabIn K x = some z
theorem noTab {K : PySem.W.Frag} {h : Heap} {a : Addr} {ps : Array Value} (hK : PySem.W.noTabs K = true) (X : K.In h) (e : h.get? a = some (PySem.W.tabObj ps)) : K.lookup a = none := by
  cases q : K.lookup a with
  | none => rfl
  | some o =>
    have e2 := X a o q
    rw [e] at e2
    cases e2
    have h2 := List.all_eq_true.mp hK (a, _) (PySem.W.mem_of_lookupK q)
    exact absurd (show false = true from h2) Bool.false_ne_true
end L2

namespace L2
open PySem PySem.Spec PyProof.Rows
/-! ### C.m(x, ..): a method called through its class -/
/-- what the written part tells of a class whose method m is read from it -/
structure ClsM (K : PySem.W.Frag) (C : Addr) (m : Str) : Prop where
  ga : PySem.W.specialIn K (.ref C) "__getattribute__" = some (some (.builtin "type.__getattribute__"))
  ex : ∃ (mc : Value) (f : Addr), PySem.W.readsIn K C mc = true ∧ PySem.W.findCls K (.ref C) mc m = some (.val (.ref f)) ∧ PySem.W.findIn K (.ref C) m = some (some (.ref f))
section
variable {X : Cx} {CX : CXT} {k : Nat} {C : Addr} {ps : List Str} {sp : Sp} {E : XK} {x m : Str} {p pos apos : Pos} {e o : Expr} {es : List Expr} {t : TA} {ta : TE}
theorem pe_clsN {pl : Sem Bool} (he : PE X o (tC (.ref C))) (c : ClsM X.K C m) (G : KnownM X.prog X.w X.K X.mg X.base CX k C m ps sp) (hr : Room k X.A) (hx : Passes CX X E) (ha : PA X (e :: es) t)
    (hst : starEach (e :: es) X.env = (false, eval e X.env) :: starEach es X.env := by rfl) (hpl : (backTo pos (starEach es X.env)).any (·.1) = false := by rfl)
    (ht : eval (.Call (.Attribute o m apos) (e :: es) [] pos) X.env = (do
      let ov ← eval o X.env
      standAt apos.atName
      let (f, first) ← holding [ov] (getMethod ov m pl)
      callWith pos f first (backTo pos (starEach (e :: es) X.env)) (backToKw pos (keywordEach [] X.env))) := by rfl) :
    PE X (.Call (.Attribute o m apos) (e :: es) [] pos) (tCall sp [] E t) := by
  obtain ⟨f, fd, F, hm, hb⟩ := G.ex
  intro pins s σ H Q I h
  refine PySem.W.methodCall_KW (pl := pl) (thn (he pins s σ H (fun v H1 => v = .ref C ∧ H1 = H) I ⟨rfl, rfl⟩) fun u s1 ⟨x, H1, I1, rx, q⟩ => ?_) ht
  obtain ⟨rfl, rfl⟩ := q
  obtain rfl : u = Value.ref C := rx
  obtain ⟨mc, f', h1, h2, h3⟩ := c.ex
  have e1 := hm.at_
  rw [h3] at e1
  cases e1
  refine PySem.W.method_cls I1.kIn c.ga (PySem.W.cls_value I1.kIn h1 h2 rfl ?_)
  refine PySem.W.callWith_K (first := []) (h₀ := X.base) I.ok.mod.kin hm.kp (thn (ha pos pins _ σ _ _ (I1.tok _) h) fun us s2 ⟨vs, H2, I2, r, q2⟩ => ⟨I2.kIn, ?_⟩) hst hpl
  exact run_fn (us := us) (vs := vs) F hr hb .nil hx I2 r q2
end
end L2
namespace L2
open PySem PySem.Spec PyProof.Rows
/-! ### a def that makes lambdas: its code's table -/
structure DefT (K : PySem.W.Frag) (mg : Str → Option Value) (x : Str) (st : Stmt) (z : Addr × Addr) : Prop where
  ex : ∃ f fd, Fun K x x st f fd ∧ mg x = some (.ref f) ∧ fd.code = .ref z.1
  tab : PySem.W.tabIn K x = some z
section
variable {P : Program} {w : World} {K : PySem.W.Frag} {mg : Str → Option Value} {base : Heap}
theorem tab_mk {x : Str} {f c p : Addr} {oc wo : Value} {od wd : Option Addr} {fd : FuncData} {osl ws : Array (Option Value)} {vs : Array Value} (a : PySem.W.nsIn K mainGlobals x = some (some (.ref f)))
    (l : K.lookup f = some ⟨oc, od, .func fd, osl⟩) (hc : fd.code = .ref c) (w : K.lookup c = some ⟨wo, wd, .fields vs, ws⟩) (h : vs[11]? = some (.ref p)) : PySem.W.tabIn K x = some (c, p) := by
  unfold PySem.W.tabIn
  rw [a]
  dsimp only
  rw [l]
  dsimp only
  rw [hc]
  dsimp only
  rw [w]
  dsimp only
  rw [h]
theorem top_defT {h : Heap} {x : Str} {st : Stmt} {f c p : Addr} {oc wo : Value} {od an wd : Option Addr} {osl ws : Array (Option Value)} {kV doc pm ct : Value} {vs : Array Value} (X : K.In h) (G : h.Ns mainGlobals mg) (a : PySem.W.nsIn K mainGlobals x = some (some (.ref f)))
    (l : K.lookup f = some ⟨oc, od, .func (PySem.W.fnOf x x (defArgs st) (defBody st) (defScope st) .none kV doc pm an (.ref c) ct), osl⟩) (hc : PySem.W.codeIn K (.ref c) x = true) (k : PySem.W.keepIn K (.ref f) = true)
    (w : K.lookup c = some ⟨wo, wd, .fields vs, ws⟩) (t : vs[11]? = some (.ref p)) : DefT K mg x st (c, p) :=
  ⟨⟨f, _, fun_mk l hc k, PySem.W.mg_of X G a, rfl⟩, tab_mk a l rfl w t⟩
end
end L2

namespace L2
open PySem PySem.Spec PyProof.Rows
/-! ### text.index(text) -/
end L2

namespace L2
open PySem PySem.Spec PyProof.Rows
/-! ### x in a list, by the data -/
section
variable {X : Cx}
end
/-! ### spots: pairs of texts -/
end L2

namespace L2
open PySem PySem.Spec PyProof.Rows
/-! ### lambdas that are called -/
/-- a thing that is known to the object, and nothing more -/
def Fz (o : Obj) : HO := .frz o (.ext fun _ => True)
theorem fz_ok {P : Program} {w : World} {H : Hp} {h : Heap} {a : Addr} {o : Obj} (e : h.get? a = some o) : ObjOk P w H h a (Fz o) := ⟨e, trivial, ⟨o, e⟩, fun _ _ _ _ => trivial⟩
def CodeO (q : Str) (o : Obj) : Prop := ∃ vs t, o.data = .fields vs ∧ vs[1]? = some (.str q t)
/-- a code object's table: the code in it stands at S -/
def TabC (P : Addr) (S : List Addr) : HO := .ext fun h => ∃ ps : Array Value, h.get? P = some (PySem.W.tabObj ps) ∧ TriplesOk ps.toList ∧ ∀ pos cv, codeAmong pos ps.toList = some cv → ∃ c ∈ S, cv = .ref c
def TabIn (q : Str) (H : Hp) (P : Addr) : Prop := ∃ S, H P = some (TabC P S) ∧ ∀ c ∈ S, ∃ o, H c = some (Fz o) ∧ CodeO q o
def LamAt (q : Str) (params : Arguments) (body : Expr) (scope : Scope) (clos : List (Str × Addr)) (H : Hp) (fa : Addr) : Prop :=
  ∃ pm c ctv o, H fa = some (Fz (PySem.W.kla_obj "<lambda>" q params body scope clos pm c ctv)) ∧ H c = some (Fz o) ∧ CodeO q o
theorem tabC_ok {P : Program} {w : World} {H : Hp} {h : Heap} {a : Addr} {ps : Array Value} {S : List Addr} (e : h.get? a = some (PySem.W.tabObj ps)) (t : TriplesOk ps.toList) (c : ∀ pos cv, codeAmong pos ps.toList = some cv → ∃ c ∈ S, cv = .ref c) : ObjOk P w H h a (TabC a S) :=
  ⟨⟨ps, e, t, c⟩, ⟨_, e⟩, fun h1 h2 ⟨qs, e1, t1⟩ k => ⟨qs, k _ e1, t1⟩⟩
theorem among_app {pos : Pos} {l c : Nat} {a : Addr} {cv : Value} : ∀ {xs : List Value}, TriplesOk xs → codeAmong pos (xs ++ [rawInt l, rawInt c, .ref a]) = some cv → codeAmong pos xs = some cv ∨ cv = .ref a
  | [], _, h => by
    right
    simp only [List.nil_append, rawInt, codeAmong] at h
    split at h
    · exact (Option.some.inj h).symm
    · cases h
  | .int x _ :: .int y _ :: z :: rest, t, h => by
    simp only [List.cons_append, codeAmong] at h ⊢
    split at h
    · rename_i e
      rw [if_pos e]
      exact .inl h
    · rename_i e
      rw [if_neg e]
      exact among_app (xs := rest) t h
theorem hok_fz {P : Program} {w : World} {H : Hp} {h : Heap} {c : Addr} {o : Obj} (x : HOk P w H h) (hn : H c = none) (e : h.get? c = some o) : HOk P w (upd H c (Fz o)) h := fun b u q => by
  by_cases hb : b = c
  · subst hb; rw [upd_same] at q; cases q; exact fz_ok e
  · rw [upd_ne hb] at q
    exact (x b u q).stay (fun _ _ _ z => z) (fun d z => by rw [upd_ne (ne_of_none z hn)]; exact z) fun d xs z => by rw [upd_ne (ne_of_none z hn)]; exact z
/-- all but what stands at P is as it was -/
def SameX (P : Addr) (H H' : Hp) : Prop := ∀ b o, b ≠ P → H b = some o → H' b = some o
def tLamF (P : Addr) (q : Str) (params : Arguments) (body : Expr) (scope : Scope) (clos : List (Str × Addr)) : TE := fun _ H Q => TabIn q H P ∧ ∀ a H', H a = none → SameX P H H' → TabIn q H' P → LamAt q params body scope clos H' a → Q (.ref a) H'
section
variable {X : Cx}
theorem pe_lamF {params : Arguments} {body : Expr} {scope : Scope} {pos : Pos} {c P : Addr} {clos : List (Str × Addr)} (M : Maker X.mg X.base c P) (hc : X.env.code = .ref c) (hcl : closureFor scope X.env = pure clos) (hdef : defaultsOf params X.env = ([], [])) :
    PE X (.Lambda params body scope pos) (tLamF P (X.env.qual ++ "<lambda>") params body scope clos) := by
  intro pins s σ H Q I h
  obtain ⟨⟨S, hP, hS⟩, q⟩ := h
  obtain ⟨⟨ps, e, t, tc⟩, _, _⟩ := I.hok P _ hP
  have hg : s.heap.Ns mainGlobals X.mg := I.mod.glob.keeps I.bk
  have C := M.hd.keeps I.bk
  have hb : s.heap.BuiltinsAt X.mg P := let ⟨bm, o, b1, b2, b3, b4, b5, r⟩ := M.bt; ⟨bm, o, b1, b2, b3, b4, I.bk _ _ b5, r⟩
  have hgP : mainGlobals ≠ P := fun z => by
    obtain ⟨o, es, ep, e1, hd, _⟩ := hg
    rw [z, e] at e1; cases e1; cases hd
  refine PySem.W.kla_eval hdef ?_
  cases hf : codeAmong pos ps.toList with
  | none =>
    refine PySem.W.kla_makeFunction (mg := X.mg) hcl I.ok.glob hg hc C e t hf hgP hb fun c' ctv h' tk hx hge hlt hrec htb => ?_
    obtain ⟨c1, oc, vs, tq, ec, goc, doc, dq⟩ := hrec
    obtain rfl : c' = c1 := by cases ec; rfl
    have nP : ∀ b, H b = none → b ≠ P := fun b n z => by rw [z, hP] at n; cases n
    have hPlt : P < s.heap.objs.size := Heap.lt_size e
    have goc' : (h'.push (PySem.W.kla_obj "<lambda>" (X.env.qual ++ "<lambda>") params body scope clos ((X.mg "__name__").getD .none) c' ctv)).get? c' = some oc := Heap.get?_push_of_some _ goc
    have cP : c' ≠ P := Nat.ne_of_gt (Nat.lt_of_lt_of_le hPlt hge)
    have aP : h'.objs.size ≠ P := Nat.ne_of_gt (Nat.lt_of_lt_of_le hPlt (Nat.le_of_lt (Nat.lt_of_le_of_lt hge hlt)))
    have ac : h'.objs.size ≠ c' := Nat.ne_of_gt hlt
    have fr : ∀ b, s.heap.objs.size ≤ b → H b = none := fun b z => I.hok.fresh z
    have hk : ∀ b u, b ≠ P → s.heap.get? b = some u → (h'.push (PySem.W.kla_obj "<lambda>" (X.env.qual ++ "<lambda>") params body scope clos ((X.mg "__name__").getD .none) c' ctv)).get? b = some u := fun b u nb eb => Heap.get?_push_of_some _ (hx b u nb eb)
    have hok1 : HOk X.prog X.w (upd H P (TabC P (c' :: S))) (h'.push (PySem.W.kla_obj "<lambda>" (X.env.qual ++ "<lambda>") params body scope clos ((X.mg "__name__").getD .none) c' ctv)) :=
      I.hok.write (x := P) (e := P) (by rw [hP]; trivial) (.inl rfl) hk ⟨_, Heap.get?_push_of_some _ htb⟩ (tabC_ok (Heap.get?_push_of_some _ htb) (triples_more t) fun pos cv z => by
        rw [Array.toList_append] at z
        rcases among_app t z with z | z
        · obtain ⟨d, hd, r⟩ := tc pos cv z
          exact ⟨d, List.mem_cons_of_mem _ hd, r⟩
        · exact ⟨c', List.mem_cons_self, z⟩)
    have n1 : upd H P (TabC P (c' :: S)) c' = none := by rw [upd_ne cP]; exact fr _ hge
    have hok2 := hok_fz hok1 n1 goc'
    have n2 : upd (upd H P (TabC P (c' :: S))) c' (Fz oc) h'.objs.size = none := by rw [upd_ne ac, upd_ne aP]; exact fr _ (Nat.le_of_lt (Nat.lt_of_le_of_lt hge hlt))
    have hok3 := hok_fz hok2 n2 (Heap.get?_push_size _ rfl)
    have sm : ∀ b, b ≠ P → H b ≠ none → upd (upd (upd H P (TabC P (c' :: S))) c' (Fz oc)) h'.objs.size (Fz (PySem.W.kla_obj "<lambda>" (X.env.qual ++ "<lambda>") params body scope clos ((X.mg "__name__").getD .none) c' ctv)) b = H b := fun b z1 z2 => by
      have y1 : b ≠ h'.objs.size := fun z => z2 (by rw [z]; exact fr _ (Nat.le_of_lt (Nat.lt_of_le_of_lt hge hlt)))
      have y2 : b ≠ c' := fun z => z2 (by rw [z]; exact fr _ hge)
      rw [upd_ne y1, upd_ne y2, upd_ne z1]
    have sv : ∀ b o, b ≠ P → H b = some o → upd (upd (upd H P (TabC P (c' :: S))) c' (Fz oc)) h'.objs.size (Fz (PySem.W.kla_obj "<lambda>" (X.env.qual ++ "<lambda>") params body scope clos ((X.mg "__name__").getD .none) c' ctv)) b = some o := fun b o z1 z2 => by
      rw [sm b z1 (by rw [z2]; intro z; cases z)]; exact z2
    have J := I.step (h' := h'.push (PySem.W.kla_obj "<lambda>" (X.env.qual ++ "<lambda>") params body scope clos ((X.mg "__name__").getD .none) c' ctv)) (g' := s.gens) (t' := tk) (d' := s.drawn) (ch := []) (fun _ z => nomatch z)
      (fun b o _ _ _ eb n => hk b o (nP b n) eb) (fun b o _ _ _ eb n => ⟨o.slots, hk b o (nP b n) eb⟩)
      (fun b o _ eb n => by rw [upd_ne (Nat.ne_of_lt (Nat.lt_of_lt_of_le (Heap.lt_size eb) (Nat.le_of_lt (Nat.lt_of_le_of_lt hge hlt)))), upd_ne (Nat.ne_of_lt (Nat.lt_of_lt_of_le (Heap.lt_size eb) hge)), upd_ne (nP b n)]; exact n)
      (fun b o _ eb => by
        by_cases z : b = P
        · subst z; exact ⟨_, Heap.get?_push_of_some _ htb⟩
        · exact ⟨o, hk b o z eb⟩)
      (fun b xs z => sv b _ (fun y => by rw [y, hP] at z; cases z) z) (fun b o u z => sv b _ (fun y => by rw [y, hP] at z; cases z) z) (fun b ps z => ⟨#[], by rw [sv b _ (fun y => by rw [y, hP] at z; cases z) z]; simp⟩)
      (fun m ⟨o, es, ep, ho, r⟩ => ⟨o, es, ep, hk _ o (nP _ I.free) ho, r⟩) hok3 I.bare
    refine ⟨.ref h'.objs.size, _, J, rfl, q _ _ (fr _ (Nat.le_of_lt (Nat.lt_of_le_of_lt hge hlt))) (fun b o z1 z2 => sv b o z1 z2) ⟨c' :: S, ?_, fun d hd => ?_⟩ ⟨_, c', ctv, oc, upd_same, ?_, vs, tq, doc, dq⟩⟩
    · rw [upd_ne (Ne.symm aP), upd_ne (Ne.symm cP), upd_same]
    · rcases List.mem_cons.mp hd with rfl | hd
      · exact ⟨oc, by rw [upd_ne (Ne.symm ac), upd_same], vs, tq, doc, dq⟩
      · obtain ⟨o, e1, e2⟩ := hS d hd
        exact ⟨o, sv d _ (fun y => by rw [y, hP] at e1; cases e1) e1, e2⟩
    · rw [upd_ne (Ne.symm ac), upd_same]
  | some cv =>
    obtain ⟨d, hd, rfl⟩ := tc _ _ hf
    obtain ⟨od, e1, e2⟩ := hS d hd
    refine PySem.W.kla_makeFunctionHit (mg := X.mg) hcl I.ok.glob hg hc C e t hf hb fun ctv h' tk hk hsz => ?_
    have fr : H h'.objs.size = none := I.hok.fresh hsz
    have sv : ∀ b o, H b = some o → upd H h'.objs.size (Fz (PySem.W.kla_obj "<lambda>" (X.env.qual ++ "<lambda>") params body scope clos ((X.mg "__name__").getD .none) d ctv)) b = some o := fun b o z => by
      rw [upd_ne (ne_of_none z fr)]; exact z
    refine ⟨.ref h'.objs.size, _, I.laid (a := h'.objs.size) (o := Fz (PySem.W.kla_obj "<lambda>" (X.env.qual ++ "<lambda>") params body scope clos ((X.mg "__name__").getD .none) d ctv)) (fun b o eb => Heap.get?_push_of_some _ (hk b o eb)) hsz (fz_ok (Heap.get?_push_size _ rfl)), rfl,
      q _ _ fr (fun b o _ z => sv b o z) ⟨S, sv _ _ hP, fun d' hd' => ?_⟩ ⟨_, d, ctv, od, upd_same, sv _ _ e1, e2⟩⟩
    obtain ⟨o, e3, e4⟩ := hS d' hd'
    exact ⟨o, sv _ _ e3, e4⟩
end
end L2

namespace L2
open PySem PySem.Spec PyProof.Rows
/-! ### the maker's cells, lent to those that it calls -/
abbrev Lend := Addr → Option Obj
section
variable {P : Program} {w : World} {H H' : Hp} {h h' : Heap} {f : Lend} {fs : List Addr}
end
structure Lent (X : Cx) (σ : St) (H : Hp) (f : Lend) : Prop where
  free : ∀ b o, f b = some o → H b = none
  cell : ∀ x c, X.env.cells.lookup x = some c → ∃ o v, f c = some o ∧ o.data = .cell v
  val : ∀ (i : Nat) x v, X.N[i]? = some x → σ[i]? = some (some v) → X.env.scope.names.lookup x = some .cell → ∃ c o u, X.env.cells.lookup x = some c ∧ f c = some o ∧ o.data = .cell (some u) ∧ RelV v u
  inj : ∀ x y c, X.env.cells.lookup x = some c → X.env.cells.lookup y = some c → x = y
section
variable {X : Cx} {k : Nat} {C : Addr} {ps : List Str} {sp : Sp} {x m : Str} {p pos apos : Pos} {e o : Expr} {es : List Expr} {t : TA} {ta : TE}
end
/-! ### a lambda runs -/
structure LamFn (P : Program) (w : World) (K : PySem.W.Frag) (mg : Str → Option Value) (base : Heap) (k : Nat) (fa : Addr) (sp : Sp) : Prop where
  fn : ∀ vs H Q E, sp vs H Q E → ∃ c d fd sl, H fa = some (Fz ⟨c, d, .func fd, sl⟩)
  run : ∀ (A : Around) (outer : List Env) (s : Shared) (H : Hp) (us : List Value) (vs : List V) (Q : VK) (E : XK), Room k A → Env0 P w K mg base A outer s H → Vals vs us → sp vs H Q E →
    codeAny (model P w) A (.call (.ref fa) ⟨us, []⟩) (CR CX0 outer P w H s Q E) s
section
variable {X : Cx} {k : Nat} {x : Str} {p pos : Pos} {e : Expr} {es : List Expr} {t : TA}
end
end L2

namespace L2
open PySem PySem.Spec PyProof.Rows
/-! ### what a lambda promises -/
/-! ### the head, with tables of code that is called -/
abbrev TabsIn0 (tabs : List (Addr × Addr)) (H : Hp) : Prop := ∀ z ∈ tabs, H z.2 = some (TabC z.2 [])
abbrev TabsOut (tabs : List (Addr × Addr)) (H : Hp) : Prop := ∀ z ∈ tabs, ∃ S, H z.2 = some (TabC z.2 S)
theorem law_callC {P : Program} {w : World} {K : PySem.W.Frag} {mg mb : Str → Option Value} {CX : CXT} {k : Nat} {fa a : Addr} {fd : FuncData} {x : Str} {sp : Sp} {s₁ : Shared} {vs : List Value} {ns : List Int} {tabs : List (Addr × Addr)}
    (KX : K.In s₁.heap) (hns : s₁.heap.Ns mainGlobals mg) (hb : s₁.heap.Ns builtinsNs mb) (hbb : ∀ x : Str, x ≠ "__name__" → mb x = bootBuiltins x) (hlim : s₁.heap.NoLimit) (hg : s₁.gens = #[])
    (ha : s₁.heap.get? a = some { cls := .type "list", data := .seq vs.toArray }) (hi : IntsAre vs ns) (hl : ns.length ≤ sizeLine) (hr : Room k callerA)
    (hT : ∀ z ∈ tabs, PySem.W.CodeHd s₁.heap z.1 z.2 ∧ s₁.heap.get? z.2 = some (PySem.W.tabObj #[]) ∧ K.lookup z.2 = none)
    (hbm : ∃ bm ob, mg "__builtins__" = some (.ref bm) ∧ bm ≠ builtinsNs ∧ s₁.heap.get? bm = some ob ∧ ob.cls = .type "module" ∧ ob.dict = some builtinsNs ∧ ob.data = .plain)
    (F : ∀ base : Heap, K.In base → base.Ns mainGlobals mg → (∀ z ∈ tabs, Maker mg base z.1 z.2) → FnOk P w K mg base CX k fa fd [x] sp) (hbind : ∀ (s : Shared) (u : Value), BindsTo s fd ⟨[u], []⟩ [(x, u)])
    (hsp : ∀ H : Hp, TabsIn0 tabs H → SqL K H a (ns.map V.int) → sp [.ref a] H (fun v H' => v = .bl true ∧ TabsOut tabs H') fun _ _ _ => False)
    (hCX : ∀ H e s', CX [] H s₁ (fun _ _ _ => False) e s' → False) :
    codeAny (model P w) callerA (.call (.ref fa) ⟨[.ref a], []⟩) (fun r s' => r = .ok (.ret (.bool true)) ∧ OldK s₁.heap s'.heap ∧ s'.os = s₁.os ∧ AllBare s'.gens) s₁ := by
  have rv := vals_ints hi
  have lenV := hi.length
  have neT : ∀ z ∈ tabs, z.2 ≠ a := fun z hz e => by
    have e1 := (hT z hz).2.1
    rw [e, ha] at e1
    cases e1
  have core : ∀ H : Hp, TabsIn0 tabs H → (∀ b, H b = none ∨ (b = a ∧ K.lookup a = none ∧ ∃ o xs, H b = some (.frz o (.lst xs))) ∨ ∃ z ∈ tabs, b = z.2) → SqL K H a (ns.map V.int) → HOk P w H s₁.heap →
      codeAny (model P w) callerA (.call (.ref fa) ⟨[.ref a], []⟩) (fun r s' => r = .ok (.ret (.bool true)) ∧ OldK s₁.heap s'.heap ∧ s'.os = s₁.os ∧ AllBare s'.gens) s₁ := by
    intro H hTb hO hS hok
    have base_of : ∀ {b : Addr} {o : Obj}, s₁.heap.get? b = some o → H b = none → (hidT s₁.heap H).get? b = some o := fun e n => hidT_get e n
    have free : ∀ {b : Addr} {o : Obj}, s₁.heap.get? b = some o → o ≠ { cls := .type "list", data := .seq vs.toArray } → o ≠ PySem.W.tabObj #[] → H b = none := fun {b o} e n1 n2 => by
      rcases hO b with z | ⟨rfl, _, _⟩ | ⟨z, hz, rfl⟩
      · exact z
      · rw [ha] at e; exact absurd (Option.some.inj e).symm n1
      · rw [(hT z hz).2.1] at e; exact absurd (Option.some.inj e).symm n2
    have noA : ∀ {b : Addr} {o : Obj} {es : Array DictEntry} {ep : Nat}, s₁.heap.get? b = some o → o.data = .dict es ep → H b = none := fun {b o es ep} e d =>
      free e (fun z => by rw [z] at d; cases d) (fun z => by rw [z] at d; cases d)
    have nsK : ∀ {b : Addr} {m : Str → Option Value}, s₁.heap.Ns b m → (hidT s₁.heap H).Ns b m := fun {b m} ⟨o, es, ep, e, d, r⟩ => ⟨o, es, ep, base_of e (noA e d), d, r⟩
    have hKb : K.In (hidT s₁.heap H) := fun b o e => base_of (KX b o e) (by
      rcases hO b with z | ⟨rfl, z, _⟩ | ⟨z, hz, rfl⟩
      · exact z
      · rw [z] at e; cases e
      · rw [(hT z hz).2.2] at e; cases e)
    have hM : Mod K mg (hidT s₁.heap H) := ⟨hKb, nsK hns, ⟨mb, nsK hb, hbb⟩, let ⟨mc, h1, h2⟩ := hlim; ⟨mc, nsK h1, h2⟩⟩
    have e0 : Env0 P w K mg (hidT s₁.heap H) callerA [] s₁ H := ⟨rfl, hM, fun b o e => of_hidT e, Nat.le_of_eq (hidT_size _ _), trivial, fun b hb => absurd (show b ∈ ([] : List Addr) from hb) (by simp), hok, .of_eq hg⟩
    have hMk : ∀ z ∈ tabs, Maker mg (hidT s₁.heap H) z.1 z.2 := fun z hz => by
      obtain ⟨⟨o, ws, file, tf, flags, tg, inF, text, tt, e1, e2, r⟩, e3, _⟩ := hT z hz
      obtain ⟨bm, ob, b1, b2, b3, b4, b5, b6⟩ := hbm
      refine ⟨⟨o, ws, file, tf, flags, tg, inF, text, tt, base_of e1 (free e1 (fun q => by rw [q] at e2; exact absurd (Value.type.inj e2) (by decide)) (fun q => by rw [q] at e2; cases e2)), e2, r⟩, bm, ob, b1, b2, fun q => ?_, fun q => ?_, base_of b3 (free b3 (fun q => by rw [q] at b4; exact absurd (Value.type.inj b4) (by decide)) (fun q => by rw [q] at b4; cases b4)), b4, b5, b6⟩
      · obtain ⟨o', es, ep, e', d', _⟩ := hns
        rw [q, e'] at b3; cases b3; rw [d'] at b6; cases b6
      · rw [q, e3] at b3; cases b3; cases b4
    refine codeAny_mono ((F _ hKb (nsK hns) hMk).run callerA [] s₁ H ⟨[.ref a], []⟩ [.ref a] [.ref a] _ _ hr e0 (hbind s₁ (.ref a)) (.cons rfl .nil) (hsp H hTb hS)) fun r s' h => ?_
    cases r with
    | error e => exact (hCX H e s' h).elim
    | ok fl =>
      cases fl with
      | next => exact False.elim h
      | brk => exact False.elim h
      | cont => exact False.elim h
      | ret u =>
        obtain ⟨v, H', os, bare, un, hok', r', q⟩ := h
        obtain ⟨q', hT'⟩ : v = .bl true ∧ TabsOut tabs H' := q
        subst q'
        obtain rfl : u = Value.bool true := r'
        refine ⟨rfl, ⟨fun b o e => ?_, fun b o e => un.there b o e (by simp)⟩, os, bare⟩
        rcases hO b with z | ⟨rfl, _, ob, xs, z⟩ | ⟨z, hz, rfl⟩
        · exact .inl (un.keep b o e z (by intro z; exact absurd (show b ∈ ([] : List Addr) from z) (by simp)) (by simp))
        · have z2 := un.frzs b ob _ z
          obtain ⟨e1, _⟩ := hok b _ z
          obtain ⟨e2, _⟩ := hok' b _ z2
          rw [e] at e1; cases e1
          exact .inl e2
        · obtain ⟨S4, z4⟩ := hT' z hz
          obtain ⟨⟨ps, e4, _⟩, _⟩ := hok' z.2 _ z4
          have e3 := (hT z hz).2.1
          rw [e3] at e
          cases e
          exact .inr (.inl ⟨((hT z hz).1.tab e3).isCodeTable, rfl, #[], ps, rfl, by rw [e4, Array.empty_append]⟩)
  have hTok : ∀ (H : Hp) (z : Addr × Addr), z ∈ tabs → ObjOk P w H s₁.heap z.2 (TabC z.2 []) := fun H z hz => tabC_ok (hT z hz).2.1 trivial fun pos cv e => by cases e
  classical
  let Ht : Hp := fun b => if b ∈ tabs.map (·.2) then some (TabC b []) else none
  have hHt : TabsIn0 tabs Ht := fun z hz => if_pos (List.mem_map_of_mem hz)
  have ofHt : ∀ b u, Ht b = some u → ∃ z ∈ tabs, b = z.2 ∧ u = TabC z.2 [] := fun b u e => by
    by_cases hb : b ∈ tabs.map (·.2)
    · have e' := (if_pos hb).symm.trans e
      obtain ⟨z, hz, rfl⟩ := List.mem_map.mp hb
      exact ⟨z, hz, rfl, (Option.some.inj e').symm⟩
    · have e' := (if_neg hb).symm.trans e
      cases e'
  cases hk : K.lookup a with
  | some o =>
    have e := KX a o hk
    rw [ha] at e
    cases e
    refine core Ht hHt (fun b => ?_) (.inr ⟨_, vs.toArray, _, hk, rfl, rfl, rfl, by rw [List.size_toArray, lenV]; exact hl, by simpa using rv⟩) (fun b u z => ?_)
    · cases q : Ht b with
      | none => exact .inl rfl
      | some u => obtain ⟨z, hz, e, _⟩ := ofHt b u q; exact .inr (.inr ⟨z, hz, e⟩)
    · obtain ⟨y, hy, rfl, rfl⟩ := ofHt b u z
      exact hTok _ y hy
  | none =>
    refine core (fun b => if b = a then some (.frz { cls := .type "list", data := .seq vs.toArray } (.lst (ns.map V.int))) else Ht b) (fun z hz => ?_) (fun b => ?_) (.inl (.inr ⟨{ cls := .type "list", data := .seq vs.toArray }, if_pos rfl⟩)) (fun b u z => ?_)
    · exact (if_neg (neT z hz)).trans (hHt z hz)
    · by_cases hb : b = a
      · exact .inr (.inl ⟨hb, hk, _, _, if_pos hb⟩)
      · cases q : Ht b with
        | none => exact .inl (if_neg hb)
        | some u => obtain ⟨z, hz, e, _⟩ := ofHt b u q; exact .inr (.inr ⟨z, hz, e⟩)
    · by_cases hb : b = a
      · have z' := (if_pos hb).symm.trans z
        cases z'
        subst hb
        exact ⟨ha, by rw [List.length_map]; exact hl, vs, _, rv, ha⟩
      · have z' := (if_neg hb).symm.trans z
        obtain ⟨y, hy, rfl, rfl⟩ := ofHt b u z'
        exact hTok _ y hy
theorem walk_ofC {l : PySem.W.OpenLaw} {n k : Nat} {q : Program} {loose : List Str} {XP : (Str → Option Value) → Heap → Prop} {YP : World → Heap → Prop} {d : DefRec} {K : Params → PySem.W.Frag} {CX : World → CXT} {sp : World → List (Addr × Addr) → Sp} {x : Str}
    (hn : l.most = some n) (hn2 : n ≤ sizeLine) (hdf : d.params.defaults = []) (hr : Room k callerA)
    (hY : ∀ (w : World) (h : Heap), YP w h → (K w.params).In h)
    (F : ∀ (w : World) (mg : Str → Option Value) (fa : Addr) (h : Heap), (K w.params).In h → h.Ns mainGlobals mg → mg d.name = some (.ref fa) →
      PySem.W.noTabs (K w.params) = true ∧ ∃ tabs : List (Addr × Addr), (∀ z ∈ tabs, TabOf q (K w.params) z) ∧ ∃ fd : FuncData, (∀ (s : Shared) (u : Value), BindsTo s fd ⟨[u], []⟩ [(x, u)]) ∧
        ∀ base : Heap, (K w.params).In base → base.Ns mainGlobals mg → (∀ z ∈ tabs, Maker mg base z.1 z.2) → FnOk l.prog w (K w.params) mg base (CX w) k fa fd [x] (sp w tabs))
    (hsp : ∀ (w : World) (tabs : List (Addr × Addr)) (H : Hp) (a : Addr) (ns : List Int), ns.length ≤ n → TabsIn0 tabs H → SqL (K w.params) H a (ns.map V.int) → sp w tabs [.ref a] H (fun v H' => v = .bl true ∧ TabsOut tabs H') fun _ _ _ => False)
    (hCX : ∀ (w : World) (H : Hp) (s : Shared) (e : Value) (s' : Shared), CX w [] H s (fun _ _ _ => False) e s' → False) :
    PySem.W.WalkO q loose XP YP l.row.toRowW d [] (fun f vs => PySem.call f vs) := by
  refine Att.attach_call hn hdf fun w s₀ s₁ mg mb fa o pm cd doc a vs ns G Y ho hd hcd hmg hobj hints hlen hg => ?_
  have KX := hY w _ Y
  obtain ⟨hnT, tabs, hTb, fd, hb, hF⟩ := F w mg fa _ KX G.T.g hmg
  refine law_callC KX G.T.g G.T.b G.T.builtins G.T.nolimit hg hobj hints (Nat.le_trans hlen hn2) hr (fun z hz => ?_) G.T.bmain hF hb (fun H hO hS => hsp w tabs H a ns hlen hO hS) fun H e s' => hCX w H s₁ e s'
  obtain ⟨y, h1, h2⟩ := (hTb z hz).ex
  obtain ⟨d', h1⟩ := Option.isSome_iff_exists.mp h1
  obtain ⟨t1, t2⟩ := PySem.W.tab_of G.T KX h1 h2
  exact ⟨t1, t2, noTab hnT KX t2⟩
end L2

namespace L2
open PySem PySem.Spec PyProof.Rows
/-! ### o.f(..), f a field of the instance: a lambda -/
section
variable {X : Cx} {k : Nat} {m : Str} {p pos apos : Pos} {e o : Expr} {es : List Expr} {ta : TE} {t : TA}
end
/-! ### a def that returns a closure: its cells stay, known to the object -/
structure EndsR where
  nx : St → Hp → Prop
  rt : V → St → Hp → Prop
abbrev TSR := EndsR → St → Hp → Prop
section
variable {X : Cx} {st : Stmt} {rest : List Stmt} {t u : TSR} {e : Expr} {te : TE} {pos : Pos}
end
end L2

namespace L2
open PySem PySem.Spec PyProof.Rows
section
variable {P : Program} {w : World} {K : PySem.W.Frag} {mg : Str → Option Value} {base : Heap} {N : List Str} {qual : Str} {scope : Scope} {f : Addr} {cd : Value} {A : Around} {outer : List Env} {s : Shared} {H : Hp} {E : XK}
/-- an exception of a loop's body goes on -/
theorem po_body : PassesOwn (model P w) (bodyCx P w K mg base N qual scope f cd A outer s H E).A (bodyCx P w K mg base N qual scope f cd A outer s H E).env (bodyCx P w K mg base N qual scope f cd A outer s H E).xe := PassesOwn.leaving
end
end L2

namespace L2
open PySem PySem.Spec PyProof.Rows
/-! ### isinstance with a tuple of own classes -/
theorem vals_refs : ∀ {Cs : List Addr} {its : List Value}, Vals (Cs.map V.ref) its → its = Cs.map Value.ref
  | [], _, h => by cases h; rfl
  | C :: Cs, _, h => by
    cases h with
    | cons r t =>
      cases r
      rw [vals_refs t]
      rfl
theorem kitAny_no {K : PySem.W.Frag} {t : Value} : ∀ {Cs : List Addr}, (∀ C ∈ Cs, PySem.W.kitOne K t (.ref C) = some false) → PySem.W.kitAny K t (Cs.map Value.ref) = some false
  | [], _ => rfl
  | C :: Cs, h => by
    show (match PySem.W.kitOne K t (.ref C) with | some true => some true | some false => PySem.W.kitAny K t (Cs.map Value.ref) | none => none) = _
    rw [h C (by simp)]
    exact kitAny_no fun D hD => h D (by simp [hD])
/-- a caught one is of none of the classes -/
theorem call_isXT {X : Cx} : CallR X (.builtin "isinstance") (fun xs H Q => ∃ (ea C tp : Addr) (Cs : List Addr), xs = [.ref ea, .ref tp] ∧ H ea = some (excO ea (.ref C)) ∧ ExcK X.K C ∧ H tp = some (.tup (Cs.map V.ref)) ∧ (∀ D ∈ Cs, PySem.W.kitOne X.K (.ref C) (.ref D) = some false) ∧ Q (.bl false) H) := by
  intro pins s σ H xs us Q I r h
  obtain ⟨ea, C, tp, Cs, rfl, hea, hk, htp, hno, q⟩ := h
  obtain ⟨u, c, rfl, r1, r2⟩ := r.two
  cases r1
  cases r2
  obtain ⟨⟨o, h1, h2, h3, h4⟩, _⟩ := I.hok _ _ hea
  obtain ⟨_, its, rv, ⟨ot, g1, g2, n, g3⟩⟩ := (show ObjOk X.prog X.w H s.heap tp (.tup (Cs.map V.ref)) from I.hok _ _ htp)
  obtain ⟨cl, dd, dat, sl⟩ := ot
  dsimp only at g2 g3
  subst g2 g3
  have e := vals_refs rv
  subst e
  refine PySem.W.kia_tup (kitx_exc hk) I.kIn ⟨o, h1, h2, h4, ?_⟩ g1 (kitAny_no hno) (fun z => nomatch z) fun tk => ⟨.bl false, H, I.tok tk, rfl, q⟩
  rw [h3]
  trivial
end L2

namespace L2
open PySem PySem.Spec PyProof.Rows
/-! ### rules laid in boxes: what is in them stays closed while the parts are fitted -/
structure PEw (X : Cx) (e : Expr) (t : TE) : Prop where
  run : PE X e t
structure PAw (X : Cx) (es : List Expr) (t : TA) : Prop where
  run : PA X es t
structure PTw (X : Cx) (e : Expr) (t : TT) : Prop where
  run : PT X e t
structure PSw (X : Cx) (st : Stmt) (t : TS) : Prop where
  run : PS X st t
structure PSsw (X : Cx) (st : List Stmt) (t : TS) : Prop where
  run : PSs X st t
section
variable {X : Cx} {es : List Expr} {te : TE} {t u : TA}
theorem paw_nil : PAw X [] tNil := ⟨pa_nil⟩
theorem paw_t {elts : List Expr} {k : Nat} {pos : Pos} (ha : PEw X (.Tuple elts k pos) te) (hr : PAw X es t) : PAw X (.Tuple elts k pos :: es) (tCons te t) := ⟨pa_cons ha.run hr.run rfl⟩
theorem paw_l {elts : List Expr} {pos : Pos} (ha : PEw X (.List elts pos) te) (hr : PAw X es t) : PAw X (.List elts pos :: es) (tCons te t) := ⟨pa_cons ha.run hr.run rfl⟩
theorem paw_k {c : Const} {k : Nat} {pos : Pos} (ha : PEw X (.Constant c k pos) te) (hr : PAw X es t) : PAw X (.Constant c k pos :: es) (tCons te t) := ⟨pa_cons ha.run hr.run rfl⟩
theorem paw_d {ks : List (Option Expr)} {vs : List Expr} {pos : Pos} (ha : PEw X (.Dict ks vs pos) te) (hr : PAw X es t) : PAw X (.Dict ks vs pos :: es) (tCons te t) := ⟨pa_cons ha.run hr.run rfl⟩
theorem paw_b {a b : Expr} {op : Operator} {pos : Pos} (ha : PEw X (.BinOp a op b pos) te) (hr : PAw X es t) : PAw X (.BinOp a op b pos :: es) (tCons te t) := ⟨pa_cons ha.run hr.run rfl⟩
theorem paw_u {a : Expr} {op : UnaryOp} {pos : Pos} (ha : PEw X (.UnaryOp op a pos) te) (hr : PAw X es t) : PAw X (.UnaryOp op a pos :: es) (tCons te t) := ⟨pa_cons ha.run hr.run rfl⟩
theorem paw_c {f : Expr} {as : List Expr} {kw : List Keyword} {pos : Pos} (ha : PEw X (.Call f as kw pos) te) (hr : PAw X es t) : PAw X (.Call f as kw pos :: es) (tCons te t) := ⟨pa_cons ha.run hr.run rfl⟩
theorem paw_f {ar : Arguments} {bd : Expr} {sc : Scope} {pos : Pos} (ha : PEw X (.Lambda ar bd sc pos) te) (hr : PAw X es t) : PAw X (.Lambda ar bd sc pos :: es) (tCons te t) := ⟨pa_cons ha.run hr.run rfl⟩
theorem paw_o {op : BoolOp} {vs : List Expr} {pos : Pos} (ha : PEw X (.BoolOp op vs pos) te) (hr : PAw X es t) : PAw X (.BoolOp op vs pos :: es) (tCons te t) := ⟨pa_cons ha.run hr.run rfl⟩
theorem paw_s {v i : Expr} {pos : Pos} (ha : PEw X (.Subscript v i pos) te) (hr : PAw X es t) : PAw X (.Subscript v i pos :: es) (tCons te t) := ⟨pa_cons ha.run hr.run rfl⟩
theorem pew_tup {k : Nat} {pos : Pos} (h : PAw X es t) : PEw X (.Tuple es k pos) (tTup t) := ⟨pe_tup h.run⟩
theorem pew_lst {pos : Pos} (h : PAw X es t) : PEw X (.List es pos) (tLst t) := ⟨pe_lst h.run⟩
theorem pew_str {x j} {pos : Pos} : PEw X (.Constant (.str x) j pos) (tC (.str x)) := ⟨pe_str⟩
theorem pew_int {i j} {pos : Pos} : PEw X (.Constant (.int i) j pos) (tC (.int i)) := ⟨pe_int⟩
theorem pew_bl {b j} {pos : Pos} : PEw X (.Constant (.bool b) j pos) (tC (.bl b)) := ⟨pe_bl⟩
theorem pew_non {j} {pos : Pos} : PEw X (.Constant .none j pos) (tC .non) := ⟨pe_non⟩
end
section
variable {X : Cx} {st : Stmt} {rest : List Stmt} {t u : TS} {pos : Pos}
theorem psw_set {i : Nat} {x : Str} {e : Expr} {te : TE} {pos' : Pos} (hN : X.N.Nodup) (hi : X.N[i]? = some x) (hx : Loc X.env.scope x) (he : PEw X e te) (hs : swapsWith e (some (.Name x pos')) pos.line X.env = pure false := by rfl) (hf : X.fn x = true ∨ X.env.scope.names.lookup x = some .local := by first | exact .inl rfl | exact .inr rfl | assumption) :
    PSw X (.Assign [.Name x pos'] e pos) (tAsg te (gName i)) := ⟨ps_set hN hi hx he.run hs hf⟩
theorem pssw_cons (h1 : PSw X st t) (h2 : PSsw X rest u) : PSsw X (st :: rest) (tSeq t u) := ⟨pss_cons h1.run h2.run⟩
theorem pssw_one (h1 : PSw X st t) : PSsw X [st] t := ⟨pss_one h1.run⟩
end
end L2

namespace My
open PySem L2
def top (i : Nat) : Stmt := PySem.Challenge.pw_lazycols_k17_rules_refused.main.body.getD i (.Pass ⟨0, 0, 0, 0⟩)
abbrev s_is_whole : Stmt := top 20
abbrev s_is_number : Stmt := top 21
abbrev s_is_name : Stmt := top 22
abbrev s_check_name : Stmt := top 25
abbrev s_checked_names : Stmt := top 26
abbrev s_law_drawn : Stmt := top 34
abbrev s_law_name : Stmt := top 35
abbrev s_law_list : Stmt := top 36
abbrev s_law_first : Stmt := top 37
abbrev s_law_made : Stmt := top 38
abbrev s_law_asked : Stmt := top 39
abbrev s_law : Stmt := top 40
/-- where the refusals stand -/
structure Ad where
  ColsError : Addr
  NoName : Addr
  NoValue : Addr
  NoTable : Addr
  NoColumn : Addr
  NoPlace : Addr
  NoSize : Addr
  NoText : Addr
  NoRow : Addr
  NoBack : Addr
  TooMuch : Addr
  Ruled : Addr
  Ring : Addr
  Nobody : Addr
  Several : Addr
structure Excs (K : PySem.W.Frag) (mg : Str → Option Value) (c : Ad) : Prop where
  c_ColsError : mg "ColsError" = some (.ref c.ColsError)
  c_NoName : mg "NoName" = some (.ref c.NoName)
  c_NoValue : mg "NoValue" = some (.ref c.NoValue)
  c_NoTable : mg "NoTable" = some (.ref c.NoTable)
  c_NoColumn : mg "NoColumn" = some (.ref c.NoColumn)
  c_NoPlace : mg "NoPlace" = some (.ref c.NoPlace)
  c_NoSize : mg "NoSize" = some (.ref c.NoSize)
  c_NoText : mg "NoText" = some (.ref c.NoText)
  c_NoRow : mg "NoRow" = some (.ref c.NoRow)
  c_NoBack : mg "NoBack" = some (.ref c.NoBack)
  c_TooMuch : mg "TooMuch" = some (.ref c.TooMuch)
  c_Ruled : mg "Ruled" = some (.ref c.Ruled)
  c_Ring : mg "Ring" = some (.ref c.Ring)
  c_Nobody : mg "Nobody" = some (.ref c.Nobody)
  c_Several : mg "Several" = some (.ref c.Several)
  x_NoName : PySem.W.excIn K c.NoName mroV "ValueError.__new__" = true
  k_NoName : ExcK K c.NoName
  v_NoName : PySem.W.kitOne K (.ref c.NoName) (.type "ValueError") = some true
  i_NoName_ColsError : PySem.W.kitOne K (.ref c.NoName) (.ref c.ColsError) = some true
  e_NoName_ColsError : PySem.W.exmOne K (.ref c.NoName) (.ref c.ColsError) = some true
  i_NoName_NoName : PySem.W.kitOne K (.ref c.NoName) (.ref c.NoName) = some true
  i_NoName_NoValue : PySem.W.kitOne K (.ref c.NoName) (.ref c.NoValue) = some false
  i_NoName_NoTable : PySem.W.kitOne K (.ref c.NoName) (.ref c.NoTable) = some false
  i_NoName_NoColumn : PySem.W.kitOne K (.ref c.NoName) (.ref c.NoColumn) = some false
  i_NoName_NoPlace : PySem.W.kitOne K (.ref c.NoName) (.ref c.NoPlace) = some false
  i_NoName_NoSize : PySem.W.kitOne K (.ref c.NoName) (.ref c.NoSize) = some false
  i_NoName_NoText : PySem.W.kitOne K (.ref c.NoName) (.ref c.NoText) = some false
  i_NoName_NoRow : PySem.W.kitOne K (.ref c.NoName) (.ref c.NoRow) = some false
  i_NoName_NoBack : PySem.W.kitOne K (.ref c.NoName) (.ref c.NoBack) = some false
  i_NoName_TooMuch : PySem.W.kitOne K (.ref c.NoName) (.ref c.TooMuch) = some false
  i_NoName_Ruled : PySem.W.kitOne K (.ref c.NoName) (.ref c.Ruled) = some false
  i_NoName_Ring : PySem.W.kitOne K (.ref c.NoName) (.ref c.Ring) = some false
  i_NoName_Nobody : PySem.W.kitOne K (.ref c.NoName) (.ref c.Nobody) = some false
  i_NoName_Several : PySem.W.kitOne K (.ref c.NoName) (.ref c.Several) = some false
  x_NoValue : PySem.W.excIn K c.NoValue mroV "ValueError.__new__" = true
  k_NoValue : ExcK K c.NoValue
  v_NoValue : PySem.W.kitOne K (.ref c.NoValue) (.type "ValueError") = some true
  i_NoValue_ColsError : PySem.W.kitOne K (.ref c.NoValue) (.ref c.ColsError) = some true
  e_NoValue_ColsError : PySem.W.exmOne K (.ref c.NoValue) (.ref c.ColsError) = some true
  i_NoValue_NoName : PySem.W.kitOne K (.ref c.NoValue) (.ref c.NoName) = some false
  i_NoValue_NoValue : PySem.W.kitOne K (.ref c.NoValue) (.ref c.NoValue) = some true
  i_NoValue_NoTable : PySem.W.kitOne K (.ref c.NoValue) (.ref c.NoTable) = some false
  i_NoValue_NoColumn : PySem.W.kitOne K (.ref c.NoValue) (.ref c.NoColumn) = some false
  i_NoValue_NoPlace : PySem.W.kitOne K (.ref c.NoValue) (.ref c.NoPlace) = some false
  i_NoValue_NoSize : PySem.W.kitOne K (.ref c.NoValue) (.ref c.NoSize) = some false
  i_NoValue_NoText : PySem.W.kitOne K (.ref c.NoValue) (.ref c.NoText) = some false
  i_NoValue_NoRow : PySem.W.kitOne K (.ref c.NoValue) (.ref c.NoRow) = some false
  i_NoValue_NoBack : PySem.W.kitOne K (.ref c.NoValue) (.ref c.NoBack) = some false
  i_NoValue_TooMuch : PySem.W.kitOne K (.ref c.NoValue) (.ref c.TooMuch) = some false
  i_NoValue_Ruled : PySem.W.kitOne K (.ref c.NoValue) (.ref c.Ruled) = some false
  i_NoValue_Ring : PySem.W.kitOne K (.ref c.NoValue) (.ref c.Ring) = some false
  i_NoValue_Nobody : PySem.W.kitOne K (.ref c.NoValue) (.ref c.Nobody) = some false
  i_NoValue_Several : PySem.W.kitOne K (.ref c.NoValue) (.ref c.Several) = some false
abbrev s_Rule_init : Stmt := inCls (top 27) 0
abbrev s_Cells_init : Stmt := inCls (top 28) 0
abbrev s_Above_init : Stmt := inCls (top 29) 0
abbrev s_Group_init : Stmt := inCls (top 30) 0
abbrev s_Lookup_init : Stmt := inCls (top 31) 0
abbrev s_Mend_init : Stmt := inCls (top 32) 0
structure TRule (K : PySem.W.Frag) (mg : Str → Option Value) (C : Addr) : Prop where
  c : mg "Rule" = some (.ref C)
  cl : Cls K C
  mks : PySem.W.makesIn K C = true
  kc : PySem.W.keepIn K (.ref C) = true
  hc : PySem.W.findIn K (.ref C) "__class__" = some (some (.builtin "object.__class__"))
  n_function : NoAttr K C "function"
  m_init : Mth K C "__init__" "Rule.__init__" s_Rule_init
  v_init : ClsM K C "__init__"
  si_Above : ∃ D, mg "Above" = some (.ref D) ∧ PySem.W.kitOne K (.ref C) (.ref D) = some false
  si_Cells : ∃ D, mg "Cells" = some (.ref D) ∧ PySem.W.kitOne K (.ref C) (.ref D) = some false
  si_Group : ∃ D, mg "Group" = some (.ref D) ∧ PySem.W.kitOne K (.ref C) (.ref D) = some false
  si_Lookup : ∃ D, mg "Lookup" = some (.ref D) ∧ PySem.W.kitOne K (.ref C) (.ref D) = some false
  si_Mend : ∃ D, mg "Mend" = some (.ref D) ∧ PySem.W.kitOne K (.ref C) (.ref D) = some false
  si_Rule : ∃ D, mg "Rule" = some (.ref D) ∧ PySem.W.kitOne K (.ref C) (.ref D) = some true
structure TCells (K : PySem.W.Frag) (mg : Str → Option Value) (C : Addr) : Prop where
  c : mg "Cells" = some (.ref C)
  cl : Cls K C
  mks : PySem.W.makesIn K C = true
  kc : PySem.W.keepIn K (.ref C) = true
  hc : PySem.W.findIn K (.ref C) "__class__" = some (some (.builtin "object.__class__"))
  n_function : NoAttr K C "function"
  n_names : NoAttr K C "names"
  m_init : Mth K C "__init__" "Cells.__init__" s_Cells_init
  up_Rule : ∃ R, mg "Rule" = some (.ref R) ∧ PySem.W.kitOne K (.ref C) (.ref R) = some true ∧ PySem.W.mroIn K C (.type "object") = some true ∧ PySem.W.specialIn K (.builtin "object.__class__") "__get__" = some (some (.builtin "getset_descriptor.__get__")) ∧ PySem.W.takesIn K (.builtin "object.__class__") = some true
  si_Above : ∃ D, mg "Above" = some (.ref D) ∧ PySem.W.kitOne K (.ref C) (.ref D) = some false
  si_Cells : ∃ D, mg "Cells" = some (.ref D) ∧ PySem.W.kitOne K (.ref C) (.ref D) = some true
  si_Group : ∃ D, mg "Group" = some (.ref D) ∧ PySem.W.kitOne K (.ref C) (.ref D) = some false
  si_Lookup : ∃ D, mg "Lookup" = some (.ref D) ∧ PySem.W.kitOne K (.ref C) (.ref D) = some false
  si_Mend : ∃ D, mg "Mend" = some (.ref D) ∧ PySem.W.kitOne K (.ref C) (.ref D) = some false
structure TAbove (K : PySem.W.Frag) (mg : Str → Option Value) (C : Addr) : Prop where
  c : mg "Above" = some (.ref C)
  cl : Cls K C
  mks : PySem.W.makesIn K C = true
  kc : PySem.W.keepIn K (.ref C) = true
  hc : PySem.W.findIn K (.ref C) "__class__" = some (some (.builtin "object.__class__"))
  n_function : NoAttr K C "function"
  n_names : NoAttr K C "names"
  n_first : NoAttr K C "first"
  m_init : Mth K C "__init__" "Above.__init__" s_Above_init
  up_Rule : ∃ R, mg "Rule" = some (.ref R) ∧ PySem.W.kitOne K (.ref C) (.ref R) = some true ∧ PySem.W.mroIn K C (.type "object") = some true ∧ PySem.W.specialIn K (.builtin "object.__class__") "__get__" = some (some (.builtin "getset_descriptor.__get__")) ∧ PySem.W.takesIn K (.builtin "object.__class__") = some true
  si_Above : ∃ D, mg "Above" = some (.ref D) ∧ PySem.W.kitOne K (.ref C) (.ref D) = some true
  si_Cells : ∃ D, mg "Cells" = some (.ref D) ∧ PySem.W.kitOne K (.ref C) (.ref D) = some false
  si_Group : ∃ D, mg "Group" = some (.ref D) ∧ PySem.W.kitOne K (.ref C) (.ref D) = some false
  si_Lookup : ∃ D, mg "Lookup" = some (.ref D) ∧ PySem.W.kitOne K (.ref C) (.ref D) = some false
  si_Mend : ∃ D, mg "Mend" = some (.ref D) ∧ PySem.W.kitOne K (.ref C) (.ref D) = some false
structure TGroup (K : PySem.W.Frag) (mg : Str → Option Value) (C : Addr) : Prop where
  c : mg "Group" = some (.ref C)
  cl : Cls K C
  mks : PySem.W.makesIn K C = true
  kc : PySem.W.keepIn K (.ref C) = true
  hc : PySem.W.findIn K (.ref C) "__class__" = some (some (.builtin "object.__class__"))
  n_function : NoAttr K C "function"
  n_key : NoAttr K C "key"
  n_name : NoAttr K C "name"
  m_init : Mth K C "__init__" "Group.__init__" s_Group_init
  up_Rule : ∃ R, mg "Rule" = some (.ref R) ∧ PySem.W.kitOne K (.ref C) (.ref R) = some true ∧ PySem.W.mroIn K C (.type "object") = some true ∧ PySem.W.specialIn K (.builtin "object.__class__") "__get__" = some (some (.builtin "getset_descriptor.__get__")) ∧ PySem.W.takesIn K (.builtin "object.__class__") = some true
  si_Above : ∃ D, mg "Above" = some (.ref D) ∧ PySem.W.kitOne K (.ref C) (.ref D) = some false
  si_Cells : ∃ D, mg "Cells" = some (.ref D) ∧ PySem.W.kitOne K (.ref C) (.ref D) = some false
  si_Group : ∃ D, mg "Group" = some (.ref D) ∧ PySem.W.kitOne K (.ref C) (.ref D) = some true
  si_Lookup : ∃ D, mg "Lookup" = some (.ref D) ∧ PySem.W.kitOne K (.ref C) (.ref D) = some false
  si_Mend : ∃ D, mg "Mend" = some (.ref D) ∧ PySem.W.kitOne K (.ref C) (.ref D) = some false
structure TLookup (K : PySem.W.Frag) (mg : Str → Option Value) (C : Addr) : Prop where
  c : mg "Lookup" = some (.ref C)
  cl : Cls K C
  mks : PySem.W.makesIn K C = true
  kc : PySem.W.keepIn K (.ref C) = true
  hc : PySem.W.findIn K (.ref C) "__class__" = some (some (.builtin "object.__class__"))
  n_function : NoAttr K C "function"
  n_key : NoAttr K C "key"
  n_other : NoAttr K C "other"
  n_theirs : NoAttr K C "theirs"
  n_names : NoAttr K C "names"
  m_init : Mth K C "__init__" "Lookup.__init__" s_Lookup_init
  up_Rule : ∃ R, mg "Rule" = some (.ref R) ∧ PySem.W.kitOne K (.ref C) (.ref R) = some true ∧ PySem.W.mroIn K C (.type "object") = some true ∧ PySem.W.specialIn K (.builtin "object.__class__") "__get__" = some (some (.builtin "getset_descriptor.__get__")) ∧ PySem.W.takesIn K (.builtin "object.__class__") = some true
  si_Above : ∃ D, mg "Above" = some (.ref D) ∧ PySem.W.kitOne K (.ref C) (.ref D) = some false
  si_Cells : ∃ D, mg "Cells" = some (.ref D) ∧ PySem.W.kitOne K (.ref C) (.ref D) = some false
  si_Group : ∃ D, mg "Group" = some (.ref D) ∧ PySem.W.kitOne K (.ref C) (.ref D) = some false
  si_Lookup : ∃ D, mg "Lookup" = some (.ref D) ∧ PySem.W.kitOne K (.ref C) (.ref D) = some true
  si_Mend : ∃ D, mg "Mend" = some (.ref D) ∧ PySem.W.kitOne K (.ref C) (.ref D) = some false
structure TMend (K : PySem.W.Frag) (mg : Str → Option Value) (C : Addr) : Prop where
  c : mg "Mend" = some (.ref C)
  cl : Cls K C
  mks : PySem.W.makesIn K C = true
  kc : PySem.W.keepIn K (.ref C) = true
  hc : PySem.W.findIn K (.ref C) "__class__" = some (some (.builtin "object.__class__"))
  n_function : NoAttr K C "function"
  n_name : NoAttr K C "name"
  m_init : Mth K C "__init__" "Mend.__init__" s_Mend_init
  up_Rule : ∃ R, mg "Rule" = some (.ref R) ∧ PySem.W.kitOne K (.ref C) (.ref R) = some true ∧ PySem.W.mroIn K C (.type "object") = some true ∧ PySem.W.specialIn K (.builtin "object.__class__") "__get__" = some (some (.builtin "getset_descriptor.__get__")) ∧ PySem.W.takesIn K (.builtin "object.__class__") = some true
  si_Above : ∃ D, mg "Above" = some (.ref D) ∧ PySem.W.kitOne K (.ref C) (.ref D) = some false
  si_Cells : ∃ D, mg "Cells" = some (.ref D) ∧ PySem.W.kitOne K (.ref C) (.ref D) = some false
  si_Group : ∃ D, mg "Group" = some (.ref D) ∧ PySem.W.kitOne K (.ref C) (.ref D) = some false
  si_Lookup : ∃ D, mg "Lookup" = some (.ref D) ∧ PySem.W.kitOne K (.ref C) (.ref D) = some false
  si_Mend : ∃ D, mg "Mend" = some (.ref D) ∧ PySem.W.kitOne K (.ref C) (.ref D) = some true
structure Tops (K : PySem.W.Frag) (mg : Str → Option Value) : Prop where
  len : mg "len" = none
  isinstance : mg "isinstance" = none
  int : mg "int" = none
  bool : mg "bool" = none
  str : mg "str" = none
  all : mg "all" = none
  range : mg "range" = none
  abs : mg "abs" = none
  list : mg "list" = none
  tuple : mg "tuple" = none
  max : mg "max" = none
  ValueError : mg "ValueError" = none
  g_LETTERS : ∃ t, mg "LETTERS" = some (.str ("abcdefghijklmnopqrstuvwxyz" : Str) t)
  g_MOST_LETTERS : ∃ t, mg "MOST_LETTERS" = some (.int 8 t)
  g_MOST_NAMES : ∃ t, mg "MOST_NAMES" = some (.int 6 t)
  d_is_whole : Def K mg "is_whole" s_is_whole
  d_is_number : Def K mg "is_number" s_is_number
  d_is_name : Def K mg "is_name" s_is_name
  d_check_name : Def K mg "check_name" s_check_name
  d_checked_names : Def K mg "checked_names" s_checked_names
  d_law_drawn : Def K mg "_law_drawn" s_law_drawn
  d_law_name : Def K mg "_law_name" s_law_name
  d_law_list : Def K mg "_law_list" s_law_list
  d_law_first : Def K mg "_law_first" s_law_first
  d_law_made : Def K mg "_law_made" s_law_made
  d_law_asked : Def K mg "_law_asked" s_law_asked
  d_law : Def K mg "law" s_law
  bs : ∃ z_law : Addr × Addr, DefT K mg "law" s_law z_law
  notabs : PySem.W.noTabs K = true
  exc : ∃ c : Ad, Excs K mg c
  t_Rule : ∃ C, TRule K mg C
  t_Cells : ∃ C, TCells K mg C
  t_Above : ∃ C, TAbove K mg C
  t_Group : ∃ C, TGroup K mg C
  t_Lookup : ∃ C, TLookup K mg C
  t_Mend : ∃ C, TMend K mg C
end My

namespace My
open PySem L2
abbrev letters : Str := "abcdefghijklmnopqrstuvwxyz"
def inL (c : Nat) : Bool := !(Builtin.Str.occurrences letters ⟨#[c]⟩ 0 letters.length 1).isEmpty
def nameS (t : Str) : Bool := decide ((1 : Int) ≤ t.length) && decide ((t.length : Int) ≤ 8) && t.cps.toList.all inL
def wholeD : PyData → Bool
  | .int _ => true
  | _ => false
def numD : PyData → Bool
  | .int i => decide ((if i < 0 then -i else i) < 10 ^ (60 : Int).toNat)
  | _ => false
def nameD : PyData → Bool
  | .str t => nameS t
  | _ => false
/-- a text is short; the texts in a tuple are -/
def shortS (d : PyData) : Prop := ∀ t, d = .str t → t.length ≤ 1000
theorem shortS_str {t : Str} (h : t.length ≤ 1000) : shortS (.str t) := fun z e => by cases e; exact h
theorem shortS_not {d : PyData} (h : kdD d ≠ .str) : shortS d := fun z e => by subst e; exact absurd rfl h
section
variable {P : Program} {w : World} {K : PySem.W.Frag} {mg : Str → Option Value} {base : Heap}
def spWhole (K : PySem.W.Frag) : Sp := fun vs H Q _ => ∃ x d, vs = [x] ∧ Dt K H x d ∧ Q (.bl (wholeD d)) H
theorem sc_is_whole : FnScope ["thing"] ["thing"] (defScope s_is_whole) := ⟨rfl, rfl, rfl, by decide +kernel, rfl, by decide +kernel, by decide +kernel⟩
theorem k_is_whole (T : Tops K mg) : Known P w K mg base CX0 1 "is_whole" ["thing"] (spWhole K) := by
  refine T.d_is_whole.known sc_is_whole (fun _ _ _ _ _ _ us hl => match us, hl with | [_], _ => rfl) (fun vs H Q E h => ?_) (fun f cdv A outer s H vs Q E hr h => ?_)
  · obtain ⟨x, a, rfl, _⟩ := h
    rfl
  · obtain ⟨x, d, rfl, hd, q⟩ := h
    refine ⟨_, (pss_one (ps_ret (pe_and (pe_callB call_isT rfl T.isinstance b_isinstance (pa_cons (pv 0) (pa_cons (pe_ty T.int b_int) pa_nil))) (pe_one (pe_not (pe_callB call_isT rfl T.isinstance b_isinstance (pa_cons (pv 0) (pa_cons (pe_ty T.bool b_bool) pa_nil)))))))), ?_⟩
    refine ⟨_, rfl, x, "int", d, _, rfl, hd, kit_int K _, _, rfl, ?_⟩
    refine ite2 (fun h1 => ?_) (fun h1 => ?_)
    · refine ⟨_, rfl, x, "bool", d, _, rfl, hd, kit_bool K _, _, rfl, ?_⟩
      have e : (!decide (kdD d = Kd.bl)) = wholeD d := by cases d <;> simp [kdD, wholeD] at h1 ⊢
      show Q (.bl (!decide (kdD d = Kd.bl))) H
      rw [e]
      exact q
    · have e : false = wholeD d := by cases d <;> simp [kdD, wholeD] at h1 ⊢
      show Q (.bl false) H
      rw [e]
      exact q
def spName (K : PySem.W.Frag) : Sp := fun vs H Q _ => ∃ x d, vs = [x] ∧ Dt K H x d ∧ shortS d ∧ ∀ H', Same H H' → Q (.bl (nameD d)) H'
theorem sc_is_name : FnScope ["thing"] ["thing"] (defScope s_is_name) := ⟨rfl, rfl, rfl, by decide +kernel, rfl, by decide +kernel, by decide +kernel⟩
theorem k_is_name (T : Tops K mg) : Known P w K mg base CX0 1 "is_name" ["thing"] (spName K) := by
  refine T.d_is_name.known sc_is_name (fun _ _ _ _ _ _ us hl => match us, hl with | [_], _ => rfl) (fun vs H Q E h => ?_) (fun f cdv A outer s H vs Q E hr h => ?_)
  · obtain ⟨x, a, rfl, _⟩ := h
    rfl
  · obtain ⟨x, d, rfl, hd, hsh, q⟩ := h
    refine ⟨_, (pss_cons (ps_if (PW.pt (pw_or (pt_not (pt_val (pe_callB call_isT rfl T.isinstance b_isinstance (pa_cons (pv 0) (pa_cons (pe_ty T.str b_str) pa_nil))) (fun _ => rfl))) (pw_or1 (pt_not (pt_chain op_le op_le pe_int (pe_callB call_len rfl T.len b_len (pa_cons (pv 0) pa_nil)) (pe_gI T.g_MOST_LETTERS)))))) (pss_one (ps_ret pe_bl)) pss_nil)
      (pss_one (ps_ret (pe_callB (call_all rfl) rfl T.all b_all (pa_cons (pe_comp caps0 rfl rfl (by decide) (pi_str (pv 0)) (fun _ _ _ _ _ => pts_nil) (fun _ _ _ _ _ => (pe_cmpR op_in_str (pv 0) (pe_gS T.g_LETTERS) (by with_unfolding_all rfl)))) pa_nil))))), ?_⟩
    refine ⟨_, rfl, x, "str", d, _, rfl, hd, kit_str K _, _, rfl, ?_⟩
    by_cases hk : kdD d = .str
    · obtain ⟨t, rfl⟩ : ∃ t, d = .str t := by cases d <;> simp [kdD] at hk ⊢
      cases hd
      have ht : t.length ≤ 1000 := hsh t rfl
      refine iteF ?_
      refine ⟨_, rfl, _, _, rfl, ⟨sl ht, rfl⟩, _, _, rfl, rfl, _, rfl, ?_⟩
      refine ite2 (fun h1 => ?_) (fun h1 => ?_)
      · refine ⟨_, _, rfl, rfl, _, rfl, ?_⟩
        refine ite2 (fun h2 => ?_) (fun h2 => ?_)
        · have e : nameD (.str t) = false := by
            show nameS t = false
            unfold nameS
            have : decide ((t.length : Int) ≤ 8) = false := by simpa using h2
            rw [this, Bool.and_false, Bool.false_and]
          rw [← e]
          exact q H (Same.refl H)
        · have h8 : t.cps.size ≤ 8 := by
            have : (t.length : Int) ≤ 8 := by simpa using h2
            show t.length ≤ 8
            omega
          refine ⟨_, rfl, t, rfl, fun D hD => ?_⟩
          refine comp_str (x := t) (fun i ys H2 => ys = (t.cps.toList.take i).map (fun c => V.bl (inL c)) ∧ Same H H2) ⟨rfl, Same.new hD⟩ ?_ ?_
          · rintro i c ys H2 hc h2D ⟨rfl, s2⟩
            have hi : i < t.cps.size := (Array.getElem?_eq_some_iff.mp hc).1
            refine ⟨_, rfl, _, _, rfl, rfl, h2D, ?_, ?_, s2.on hD⟩
            · rw [List.length_map, List.length_take, Array.length_toList]
              exact small1000 (by omega)
            · rw [List.take_add_one, List.map_append, Array.getElem?_toList, hc]
              rfl
          · rintro ys H2 h2D ⟨rfl, s2⟩
            refine ⟨D, t.cps.toList.map inL, rfl, SqL.of ?_, ?_⟩
            · rw [h2D, List.take_of_length_le (by simp), List.map_map]
              rfl
            · have e : nameD (.str t) = (t.cps.toList.map inL).all id := by
                show nameS t = _
                unfold nameS
                have e1 : decide ((1 : Int) ≤ t.length) = true := h1
                have e2 : decide ((t.length : Int) ≤ 8) = true := by simpa using h2
                rw [e1, e2, Bool.true_and, Bool.true_and, List.all_map]
                rfl
              rw [← e]
              exact q H2 s2
      · refine ⟨_, rfl, ?_⟩
        refine iteT ?_
        have e : nameD (.str t) = false := by
          show nameS t = false
          unfold nameS
          have : decide ((1 : Int) ≤ t.length) = false := by simpa using h1
          rw [this, Bool.false_and, Bool.false_and]
        rw [← e]
        exact q H (Same.refl H)
    · rw [decide_eq_false hk]
      refine iteT (iteT ?_)
      have e : nameD d = false := by cases d <;> simp [kdD] at hk <;> rfl
      rw [← e]
      exact q H (Same.refl H)
def spNumber (K : PySem.W.Frag) : Sp := fun vs H Q _ => ∃ x d, vs = [x] ∧ Dt K H x d ∧ Q (.bl (numD d)) H
theorem sc_is_number : FnScope ["thing"] ["thing"] (defScope s_is_number) := ⟨rfl, rfl, rfl, by decide +kernel, rfl, by decide +kernel, by decide +kernel⟩
theorem k_is_number (T : Tops K mg) : Known P w K mg base CX0 2 "is_number" ["thing"] (spNumber K) := by
  have G_is_whole : Known P w K mg base CX0 1 "is_whole" ["thing"] (spWhole K) := k_is_whole T
  refine T.d_is_number.known sc_is_number (fun _ _ _ _ _ _ us hl => match us, hl with | [_], _ => rfl) (fun vs H Q E h => ?_) (fun f cdv A outer s H vs Q E hr h => ?_)
  · obtain ⟨x, a, rfl, _⟩ := h
    rfl
  · obtain ⟨x, d, rfl, hd, q⟩ := h
    refine ⟨_, (pss_one (ps_ret (pe_and (pe_callN G_is_whole (hr.mono (by decide)) pass0 (pa_cons (pv 0) pa_nil)) (pe_one (pe_cmpR op_lt (pe_callB call_abs rfl T.abs b_abs (pa_cons (pv 0) pa_nil)) (pe_op op_pow pe_int pe_int) (nomark _)))))), ?_⟩
    refine ⟨_, rfl, x, d, rfl, hd, _, rfl, ?_⟩
    refine ite2 (fun h1 => ?_) (fun h1 => ?_)
    · obtain ⟨i, rfl⟩ : ∃ i, d = .int i := by cases d <;> simp [wholeD] at h1 ⊢
      cases hd
      exact ⟨_, rfl, i, rfl, _, _, rfl, rfl, ⟨by decide, by decide, by decide⟩, _, _, rfl, rfl, q⟩
    · have e : numD d = false := by cases d <;> simp [wholeD] at h1 <;> rfl
      show Q (.bl false) H
      rw [← e]
      exact q
end
end My

namespace My
open PySem L2
section
variable {P : Program} {w : World} {K : PySem.W.Frag} {mg : Str → Option Value} {base : Heap}
def spCNameE (K : PySem.W.Frag) (c : Ad) : Sp := fun vs H Q E => ∃ x d, vs = [x] ∧ Dt K H x d ∧ shortS d ∧ (nameD d = true → ∀ H', Same H H' → Q .non H') ∧ (nameD d = false → ∀ H', Same H H' → E (.ref c.NoName) none H')
theorem sc_check_name : FnScope ["name"] ["name"] (defScope s_check_name) := ⟨rfl, rfl, rfl, by decide +kernel, rfl, by decide +kernel, by decide +kernel⟩
theorem k_check_name (T : Tops K mg) {c : Ad} (X : Excs K mg c) : Known P w K mg base (CXE P w) 2 "check_name" ["name"] (spCNameE K c) := by
  have G_is_name : Known P w K mg base CX0 1 "is_name" ["thing"] (spName K) := k_is_name T
  refine T.d_check_name.knownE sc_check_name (fun _ _ _ _ _ _ us hl => match us, hl with | [_], _ => rfl) (fun vs H Q E h => ?_) (fun f cdv A outer s H vs Q E hr h => ?_)
  · obtain ⟨x, d, rfl, _⟩ := h
    rfl
  · obtain ⟨x, d, rfl, hd, hsh, q1, q2⟩ := h
    refine ⟨_, (pss_one (ps_if (pt_not (pt_val (pe_callN G_is_name (hr.mono (by decide)) pass0 (pa_cons (pv 0) pa_nil)) (fun _ => rfl))) (pss_one (ps_raise X.c_NoName X.x_NoName (pa_cons pe_str pa_nil))) pss_nil)), ?_⟩
    refine ⟨_, rfl, x, d, rfl, hd, hsh, fun H' s' => ⟨_, rfl, ?_⟩⟩
    refine ite2 (fun h1 => ?_) (fun h1 => ?_)
    · exact ⟨sl, q2 (by simpa using h1) H' s'⟩
    · exact q1 (by simpa using h1) H' s'
def namesD : PyData → Bool
  | .list ds => decide (ds.length ≤ 6) && ds.all nameD
  | _ => false
def spCNamesE (K : PySem.W.Frag) (c : Ad) : Sp := fun vs H Q E => ∃ x d, vs = [x] ∧ Dt K H x d ∧ (∀ ds, d = .list ds → ∀ e ∈ ds, shortS e) ∧ (namesD d = true → ∀ H' l, Same H H' → H l = none → Q (.ref l) H') ∧ (namesD d = false → ∀ H', Same H H' → E (.ref c.NoName) none H')
theorem sc_checked_names : FnScope ["names", "name"] ["names"] (defScope s_checked_names) := ⟨rfl, rfl, rfl, by decide +kernel, rfl, by decide +kernel, by decide +kernel⟩
theorem dtall_at {H : Hp} : ∀ {xs : List V} {ds : List PyData} {i : Nat} {x : V}, DtAll K H xs ds → xs[i]? = some x → ∃ d, ds[i]? = some d ∧ Dt K H x d
  | _, _, _, _, .nil, e => by simp at e
  | _, _, 0, _, .cons h _, e => by simp at e; subst e; exact ⟨_, rfl, h⟩
  | _, _, i + 1, x, .cons _ t, e => by
    obtain ⟨d, h1, h2⟩ := dtall_at (i := i) (x := x) t (by simpa using e)
    exact ⟨d, by simpa using h1, h2⟩
theorem dtall_len {H : Hp} : ∀ {xs : List V} {ds : List PyData}, DtAll K H xs ds → xs.length = ds.length
  | _, _, .nil => rfl
  | _, _, .cons _ t => by rw [List.length_cons, List.length_cons, dtall_len t]
theorem k_checked_names (T : Tops K mg) {c : Ad} (X : Excs K mg c) : Known P w K mg base (CXE P w) 3 "checked_names" ["names"] (spCNamesE K c) := by
  have G_check_name : Known P w K mg base (CXE P w) 2 "check_name" ["name"] (spCNameE K c) := k_check_name T X
  refine T.d_checked_names.knownE sc_checked_names (fun _ _ _ _ _ _ us hl => match us, hl with | [_], _ => rfl) (fun vs H Q E h => ?_) (fun f cdv A outer s H vs Q E hr h => ?_)
  · obtain ⟨x, d, rfl, _⟩ := h
    rfl
  · obtain ⟨x, d, rfl, hd, hsh, q1, q2⟩ := h
    refine ⟨_, (pss_cons (ps_if (PW.pt (pw_or (pt_not (pt_val (pe_callB call_isT rfl T.isinstance b_isinstance (pa_cons (pv 0) (pa_cons (pe_ty T.list b_list) pa_nil))) (fun _ => rfl))) (pw_or1 (pt_cmpR op_gt (pe_callB call_len rfl T.len b_len (pa_cons (pv 0) pa_nil)) (pe_gI T.g_MOST_NAMES) (nomark _))))) (pss_one (ps_raise X.c_NoName X.x_NoName (pa_cons pe_str pa_nil))) pss_nil)
      (pss_cons (ps_for po_body rfl (pi_list (pv 0)) (pg_name (i := 1) sc_checked_names.nd rfl (Or.inl rfl)) (pss_one (ps_expr (pe_callN G_check_name (hr.mono (by decide)) passE (pa_cons (pv 1) pa_nil)))))
      (pss_one (ps_ret (pe_callTy call_list_of rfl T.list b_list (pa_cons (pv 0) pa_nil)))))), ?_⟩
    refine ⟨_, rfl, x, "list", d, _, rfl, hd, kit_list K _, _, rfl, ?_⟩
    by_cases hk : kdD d = .lst
    · obtain ⟨ds, rfl⟩ : ∃ ds, d = .list ds := by cases d <;> simp [kdD] at hk ⊢
      rw [decide_eq_true hk]
      refine iteF ?_
      cases hd with
      | @lst a xs _ hq hall =>
        have ln := dtall_len hall
        refine ⟨_, rfl, _, _, rfl, .inl ⟨_, hq, rfl⟩, _, _, rfl, rfl, _, rfl, ?_⟩
        refine ite2 (fun g => ?_) (fun g => ?_)
        · refine ⟨sl, q2 ?_ H (Same.refl H)⟩
          have g' : ¬ ds.length ≤ 6 := by
            have : (6 : Int) < (xs.length : Int) := by simpa using g
            omega
          show (decide (ds.length ≤ 6) && ds.all nameD) = false
          rw [decide_eq_false g']
          rfl
        · have g' : ds.length ≤ 6 := by
            have : ¬ (6 : Int) < (xs.length : Int) := by simpa using g
            omega
          have nm : namesD (.list ds) = ds.all nameD := by
            show (decide (ds.length ≤ 6) && ds.all nameD) = _
            rw [decide_eq_true g', Bool.true_and]
          refine ⟨_, rfl, a, rfl, ⟨_, hq⟩, ?_⟩
          refine for_list (K := K) (a := a) (xs := xs) (fun i σ H2 => ∃ o, σ = [some (.ref a), o] ∧ Same H H2 ∧ ∀ e ∈ ds.take i, nameD e = true) ⟨_, rfl, Same.refl H, fun e he => by simp at he⟩ (fun i σ H2 _ ⟨_, _, s2, _⟩ => s2.seq hq) ?_ ?_
          · rintro i y σ H2 hy ⟨o, rfl, s2, hg⟩
            obtain ⟨e, he, hde⟩ := dtall_at hall hy
            have hem : e ∈ ds := List.mem_of_getElem? he
            refine ⟨_, rfl, y, e, rfl, Dt.same s2 hde, hsh ds rfl e hem, fun hn H3 s3 => ⟨_, rfl, s2.trans s3, fun e' he' => ?_⟩, fun hn H3 s3 => q2 ?_ H3 (s2.trans s3)⟩
            · rw [List.take_add_one, he] at he'
              rcases List.mem_append.mp he' with h | h
              · exact hg e' h
              · simp at h
                rw [h]; exact hn
            · rw [nm]
              rw [List.all_eq_false]
              exact ⟨e, hem, by simp [hn]⟩
          · rintro σ H2 ⟨o, rfl, s2, hg⟩
            rw [ln, List.take_of_length_le (Nat.le_refl _)] at hg
            refine ⟨_, rfl, a, xs, rfl, .inl (s2.seq hq), fun l hl => q1 ?_ _ l (s2.trans (Same.new hl)) ?_⟩
            · rw [nm, List.all_eq_true]
              exact hg
            · cases e : H l with
              | none => rfl
              | some u => rw [s2 l u e] at hl; cases hl
    · rw [decide_eq_false hk]
      refine iteT ?_
      refine iteT ⟨sl, q2 ?_ H (Same.refl H)⟩
      cases d <;> simp [kdD] at hk <;> rfl
end
end My

namespace My
open PySem L2
/-- no list, tuple or dict -/
def NoDat : HO → Prop
  | .ins _ _ _ => True
  | .ext _ => True
  | _ => False
section
variable {K : PySem.W.Frag} {p : Addr} {H H1 H' : Hp}
theorem sx_of (s : Same H H') : SameX p H H' := fun b o _ e => s b o e
theorem sx_trans (s : SameX p H H1) (t : SameX p H1 H') : SameX p H H' := fun b o n e => t b o n (s b o n e)
theorem sx_upd {o : HO} : SameX p H (upd H p o) := fun b u n e => by rw [upd_ne n]; exact e
theorem sx_ne {a : Addr} {o u : HO} (hp : H p = some u) (nd : NoDat u) (e : H a = some o) (no : ¬ NoDat o) : a ≠ p := fun z => by
  rw [z, hp] at e
  exact no (Option.some.inj e ▸ nd)
theorem sqL_sx {u : HO} {a : Addr} {xs : List V} (b : SameX p H H') (hp : H p = some u) (nd : NoDat u) (h : SqL K H a xs) : SqL K H' a xs := by
  rcases h with (h | ⟨o, h⟩) | h
  · exact .inl (.inl (b _ _ (sx_ne hp nd h (fun z => z)) h))
  · exact .inl (.inr ⟨o, b _ _ (sx_ne hp nd h (fun z => z)) h⟩)
  · exact .inr h
theorem sqT_sx {u : HO} {a : Addr} {xs : List V} (b : SameX p H H') (hp : H p = some u) (nd : NoDat u) (h : SqT K H a xs) : SqT K H' a xs := by
  rcases h with (h | ⟨o, h⟩) | h
  · exact .inl (.inl (b _ _ (sx_ne hp nd h (fun z => z)) h))
  · exact .inl (.inr ⟨o, b _ _ (sx_ne hp nd h (fun z => z)) h⟩)
  · exact .inr h
mutual
theorem dt_sx {u : HO} (b : SameX p H H') (hp : H p = some u) (nd : NoDat u) : ∀ {v : V} {d : PyData}, Dt K H v d → Dt K H' v d
  | _, _, .non => .non
  | _, _, .bl b => .bl b
  | _, _, .int i => .int i
  | _, _, .str x => .str x
  | _, _, .lst h hd => .lst (sqL_sx b hp nd h) (dtall_sx b hp nd hd)
  | _, _, .tup h hd => .tup (sqT_sx b hp nd h) (dtall_sx b hp nd hd)
  | _, _, .dK h => .dK (b _ _ (sx_ne hp nd h (fun z => z)) h)
  | _, _, .dT h => .dT (b _ _ (sx_ne hp nd h (fun z => z)) h)
theorem dtall_sx {u : HO} (b : SameX p H H') (hp : H p = some u) (nd : NoDat u) : ∀ {vs : List V} {ds : List PyData}, DtAll K H vs ds → DtAll K H' vs ds
  | _, _, .nil => .nil
  | _, _, .cons h hd => .cons (dt_sx b hp nd h) (dtall_sx b hp nd hd)
end
end
def InsOf (C p : Addr) (H : Hp) : Prop := ∃ dx fs, H p = some (.ins C dx fs)
def shL (d : PyData) : Prop := ∀ ds, d = .list ds → ∀ e ∈ ds, shortS e
section
variable {P : Program} {w : World} {K : PySem.W.Frag} {mg : Str → Option Value} {base : Heap}
def spRuleI (K : PySem.W.Frag) : Sp := fun vs H Q _ => ∃ (p C dx : Addr) (fs : List (Str × V)) (v : V), vs = [.ref p, v] ∧ H p = some (.ins C dx fs) ∧ Cls K C ∧ NoAttr K C "function" ∧ fs.length < 1000 ∧ Q .non (upd H p (.ins C dx (putF "function" v fs)))
theorem sc_Rule_init : FnScope ["self", "function"] ["self", "function"] (defScope s_Rule_init) := ⟨rfl, rfl, rfl, by decide +kernel, rfl, by decide +kernel, by decide +kernel⟩
theorem k_Rule_init (T : Tops K mg) {C : Addr} (Y : TRule K mg C) : KnownM P w K mg base CX0 1 C "__init__" ["self", "function"] (spRuleI K) := by
  refine Y.m_init.known sc_Rule_init (fun _ _ _ _ _ _ us hl => match us, hl with | [_, _], _ => rfl) (fun vs H Q E h => ?_) (fun f cdv A outer s H vs Q E hr h => ?_)
  · obtain ⟨p, C', dx, fs, v, rfl, _⟩ := h
    rfl
  · obtain ⟨p, C', dx, fs, v, rfl, hp, hC, hN, hl, q⟩ := h
    refine ⟨_, (pss_one (ps_fld (pv 0) (pv 1) rfl)), ?_⟩
    exact ⟨_, rfl, _, rfl, p, C', dx, fs, rfl, hp, hC, hN, hl, q⟩
def spCellsE (K : PySem.W.Frag) (c : Ad) (C : Addr) : Sp := fun vs H Q E => ∃ (p dx : Addr) (x v : V) (d : PyData), vs = [.ref p, x, v] ∧ H p = some (.ins C dx []) ∧ Dt K H x d ∧ shL d ∧
  (namesD d = true → ∀ H', SameX p H H' → InsOf C p H' → Q .non H') ∧ (namesD d = false → ∀ H', SameX p H H' → E (.ref c.NoName) none H')
theorem sc_Cells_init : FnScope ["self", "names", "function"] ["self", "names", "function"] (defScope s_Cells_init) := ⟨rfl, rfl, rfl, by decide +kernel, rfl, by decide +kernel, by decide +kernel⟩
theorem k_Cells_init (T : Tops K mg) {c : Ad} (X : Excs K mg c) {R C : Addr} (Z : TRule K mg R) (Y : TCells K mg C) : KnownI P w K mg base (CXE P w) 4 C ["self", "names", "function"] (spCellsE K c C) := by
  have G_init : KnownM P w K mg base CX0 1 R "__init__" ["self", "function"] (spRuleI K) := k_Rule_init T Z
  have G_checked_names : Known P w K mg base (CXE P w) 3 "checked_names" ["names"] (spCNamesE K c) := k_checked_names T X
  refine (Y.m_init.knownE sc_Cells_init (fun _ _ _ _ _ _ us hl => match us, hl with | [_, _, _], _ => rfl) (fun vs H Q E h => ?_) (fun f cdv A outer s H vs Q E hr h => ?_)).init Y.mks Y.kc
  · obtain ⟨p, dx, x, v, d, rfl, _⟩ := h
    rfl
  · obtain ⟨p, dx, x, v, d, rfl, hp, hd, hs, q1, q2⟩ := h
    refine ⟨_, (pss_cons (ps_expr (pe_clsN (pe_gR Z.c) Z.v_init G_init (hr.mono (by decide)) pass0 (pa_cons (pv 0) (pa_cons (pv 2) pa_nil))))
      (pss_one (ps_fld (pv 0) (pe_callN G_checked_names (hr.mono (by decide)) passE (pa_cons (pv 1) pa_nil)) rfl))), ?_⟩
    have b1 : SameX p H (upd H p (.ins C dx (putF "function" v []))) := sx_upd
    refine ⟨_, rfl, _, rfl, p, C, dx, [], v, rfl, hp, Y.cl, Y.n_function, by decide, ?_⟩
    refine ⟨_, rfl, x, d, rfl, dt_sx b1 hp trivial hd, hs, fun hn H2 l s2 hl => ?_, fun hn H2 s2 => q2 hn H2 (sx_trans b1 (sx_of s2))⟩
    refine ⟨_, rfl, p, C, dx, _, rfl, s2 _ _ upd_same, Y.cl, Y.n_names, (by show 1 < 1000; decide), ?_⟩
    exact q1 hn _ (sx_trans (sx_trans b1 (sx_of s2)) sx_upd) ⟨dx, _, upd_same⟩
def spAboveE (K : PySem.W.Frag) (c : Ad) (C : Addr) : Sp := fun vs H Q E => ∃ (p dx : Addr) (y x v : V) (e d : PyData), vs = [.ref p, y, x, v] ∧ H p = some (.ins C dx []) ∧ Dt K H y e ∧ Dt K H x d ∧ shL d ∧
  (namesD d = true → numD e = true → ∀ H', SameX p H H' → InsOf C p H' → Q .non H') ∧ (namesD d = false → ∀ H', SameX p H H' → E (.ref c.NoName) none H') ∧ (namesD d = true → numD e = false → ∀ H', SameX p H H' → E (.ref c.NoValue) none H')
theorem sc_Above_init : FnScope ["self", "first", "names", "function"] ["self", "first", "names", "function"] (defScope s_Above_init) := ⟨rfl, rfl, rfl, by decide +kernel, rfl, by decide +kernel, by decide +kernel⟩
theorem k_Above_init (T : Tops K mg) {c : Ad} (X : Excs K mg c) {R C : Addr} (Z : TRule K mg R) (Y : TAbove K mg C) : KnownI P w K mg base (CXE P w) 4 C ["self", "first", "names", "function"] (spAboveE K c C) := by
  have G_init : KnownM P w K mg base CX0 1 R "__init__" ["self", "function"] (spRuleI K) := k_Rule_init T Z
  have G_checked_names : Known P w K mg base (CXE P w) 3 "checked_names" ["names"] (spCNamesE K c) := k_checked_names T X
  have G_is_number : Known P w K mg base CX0 2 "is_number" ["thing"] (spNumber K) := k_is_number T
  refine (Y.m_init.knownE sc_Above_init (fun _ _ _ _ _ _ us hl => match us, hl with | [_, _, _, _], _ => rfl) (fun vs H Q E h => ?_) (fun f cdv A outer s H vs Q E hr h => ?_)).init Y.mks Y.kc
  · obtain ⟨p, dx, y, x, v, e, d, rfl, _⟩ := h
    rfl
  · obtain ⟨p, dx, y, x, v, e, d, rfl, hp, he, hd, hs, q1, q2, q3⟩ := h
    refine ⟨_, (pss_cons (ps_expr (pe_clsN (pe_gR Z.c) Z.v_init G_init (hr.mono (by decide)) pass0 (pa_cons (pv 0) (pa_cons (pv 3) pa_nil))))
      (pss_cons (ps_fld (pv 0) (pe_callN G_checked_names (hr.mono (by decide)) passE (pa_cons (pv 2) pa_nil)) rfl)
      (pss_cons (ps_if (pt_not (pt_val (pe_callN G_is_number (hr.mono (by decide)) pass0 (pa_cons (pv 1) pa_nil)) (fun _ => rfl))) (pss_one (ps_raise X.c_NoValue X.x_NoValue (pa_cons pe_str pa_nil))) pss_nil)
      (pss_one (ps_fld (pv 0) (pv 1) rfl))))), ?_⟩
    have b1 : SameX p H (upd H p (.ins C dx (putF "function" v []))) := sx_upd
    refine ⟨_, rfl, _, rfl, p, C, dx, [], v, rfl, hp, Y.cl, Y.n_function, by decide, ?_⟩
    refine ⟨_, rfl, x, d, rfl, dt_sx b1 hp trivial hd, hs, fun hn H2 l s2 hl => ?_, fun hn H2 s2 => q2 hn H2 (sx_trans b1 (sx_of s2))⟩
    refine ⟨_, rfl, p, C, dx, _, rfl, s2 _ _ upd_same, Y.cl, Y.n_names, (by show 1 < 1000; decide), ?_⟩
    have b2 := sx_trans (sx_trans b1 (sx_of s2)) (sx_upd (o := .ins C dx (putF "names" (.ref l) (putF "function" v []))))
    refine ⟨_, rfl, y, e, rfl, dt_sx b2 hp trivial he, _, rfl, ?_⟩
    refine ite2 (fun h1 => ?_) (fun h1 => ?_)
    · exact ⟨sl, q3 hn (by simpa using h1) _ b2⟩
    · refine ⟨_, rfl, _, rfl, p, C, dx, _, rfl, upd_same, Y.cl, Y.n_first, (by show 2 < 1000; decide), ?_⟩
      exact q1 hn (by simpa using h1) _ (sx_trans b2 sx_upd) ⟨dx, _, upd_same⟩
def spGroupE (K : PySem.W.Frag) (c : Ad) (C : Addr) : Sp := fun vs H Q E => ∃ (p dx : Addr) (x y v : V) (d e : PyData), vs = [.ref p, x, y, v] ∧ H p = some (.ins C dx []) ∧ Dt K H x d ∧ Dt K H y e ∧ shortS d ∧ shortS e ∧
  ((nameD d && nameD e) = true → ∀ H', SameX p H H' → InsOf C p H' → Q .non H') ∧ ((nameD d && nameD e) = false → ∀ H', SameX p H H' → E (.ref c.NoName) none H')
theorem sc_Group_init : FnScope ["self", "key", "name", "function"] ["self", "key", "name", "function"] (defScope s_Group_init) := ⟨rfl, rfl, rfl, by decide +kernel, rfl, by decide +kernel, by decide +kernel⟩
theorem k_Group_init (T : Tops K mg) {c : Ad} (X : Excs K mg c) {R C : Addr} (Z : TRule K mg R) (Y : TGroup K mg C) : KnownI P w K mg base (CXE P w) 3 C ["self", "key", "name", "function"] (spGroupE K c C) := by
  have G_init : KnownM P w K mg base CX0 1 R "__init__" ["self", "function"] (spRuleI K) := k_Rule_init T Z
  have G_check_name : Known P w K mg base (CXE P w) 2 "check_name" ["name"] (spCNameE K c) := k_check_name T X
  refine (Y.m_init.knownE sc_Group_init (fun _ _ _ _ _ _ us hl => match us, hl with | [_, _, _, _], _ => rfl) (fun vs H Q E h => ?_) (fun f cdv A outer s H vs Q E hr h => ?_)).init Y.mks Y.kc
  · obtain ⟨p, dx, x, y, v, d, e, rfl, _⟩ := h
    rfl
  · obtain ⟨p, dx, x, y, v, d, e, rfl, hp, hd, he, sd, se, q1, q2⟩ := h
    refine ⟨_, (pss_cons (ps_expr (pe_clsN (pe_gR Z.c) Z.v_init G_init (hr.mono (by decide)) pass0 (pa_cons (pv 0) (pa_cons (pv 3) pa_nil))))
      (pss_cons (ps_expr (pe_callN G_check_name (hr.mono (by decide)) passE (pa_cons (pv 1) pa_nil)))
      (pss_cons (ps_expr (pe_callN G_check_name (hr.mono (by decide)) passE (pa_cons (pv 2) pa_nil)))
      (pss_cons (ps_fld (pv 0) (pv 1) rfl)
      (pss_one (ps_fld (pv 0) (pv 2) rfl)))))), ?_⟩
    have b1 : SameX p H (upd H p (.ins C dx (putF "function" v []))) := sx_upd
    refine ⟨_, rfl, _, rfl, p, C, dx, [], v, rfl, hp, Y.cl, Y.n_function, by decide, ?_⟩
    refine ⟨_, rfl, x, d, rfl, dt_sx b1 hp trivial hd, sd, fun n1 H2 s2 => ?_, fun n1 H2 s2 => q2 (by rw [n1]; rfl) H2 (sx_trans b1 (sx_of s2))⟩
    have b2 := sx_trans b1 (sx_of s2)
    refine ⟨_, rfl, y, e, rfl, dt_sx b2 hp trivial he, se, fun n2 H3 s3 => ?_, fun n2 H3 s3 => q2 (by rw [n1, n2]; rfl) H3 (sx_trans b2 (sx_of s3))⟩
    have s23 := s2.trans s3
    refine ⟨_, rfl, _, rfl, p, C, dx, _, rfl, s23 _ _ upd_same, Y.cl, Y.n_key, (by show 1 < 1000; decide), ?_⟩
    refine ⟨_, rfl, _, rfl, p, C, dx, _, rfl, upd_same, Y.cl, Y.n_name, (by show 2 < 1000; decide), ?_⟩
    exact q1 (by rw [n1, n2]; rfl) _ (sx_trans (sx_trans (sx_trans b2 (sx_of s3)) sx_upd) sx_upd) ⟨dx, _, upd_same⟩
def spLookupE (K : PySem.W.Frag) (c : Ad) (C : Addr) : Sp := fun vs H Q E => ∃ (p dx : Addr) (x y z u v : V) (d e g m : PyData), vs = [.ref p, x, y, z, u, v] ∧ H p = some (.ins C dx []) ∧ Dt K H x d ∧ Dt K H y e ∧ Dt K H z g ∧ Dt K H u m ∧ shortS d ∧ shortS e ∧ shortS g ∧ shL m ∧
  ((nameD d && nameD e && nameD g && namesD m) = true → ∀ H', SameX p H H' → InsOf C p H' → Q .non H') ∧ ((nameD d && nameD e && nameD g && namesD m) = false → ∀ H', SameX p H H' → E (.ref c.NoName) none H')
theorem sc_Lookup_init : FnScope ["self", "key", "table", "theirs", "names", "function"] ["self", "key", "table", "theirs", "names", "function"] (defScope s_Lookup_init) := ⟨rfl, rfl, rfl, by decide +kernel, rfl, by decide +kernel, by decide +kernel⟩
theorem k_Lookup_init (T : Tops K mg) {c : Ad} (X : Excs K mg c) {R C : Addr} (Z : TRule K mg R) (Y : TLookup K mg C) : KnownI P w K mg base (CXE P w) 4 C ["self", "key", "table", "theirs", "names", "function"] (spLookupE K c C) := by
  have G_init : KnownM P w K mg base CX0 1 R "__init__" ["self", "function"] (spRuleI K) := k_Rule_init T Z
  have G_check_name : Known P w K mg base (CXE P w) 2 "check_name" ["name"] (spCNameE K c) := k_check_name T X
  have G_checked_names : Known P w K mg base (CXE P w) 3 "checked_names" ["names"] (spCNamesE K c) := k_checked_names T X
  refine (Y.m_init.knownE sc_Lookup_init (fun _ _ _ _ _ _ us hl => match us, hl with | [_, _, _, _, _, _], _ => rfl) (fun vs H Q E h => ?_) (fun f cdv A outer s H vs Q E hr h => ?_)).init Y.mks Y.kc
  · obtain ⟨p, dx, x, y, z, u, v, d, e, g, m, rfl, _⟩ := h
    rfl
  · obtain ⟨p, dx, x, y, z, u, v, d, e, g, m, rfl, hp, hd, he, hg, hm, sd, se, sg, sm, q1, q2⟩ := h
    refine ⟨_, (pss_cons (ps_expr (pe_clsN (pe_gR Z.c) Z.v_init G_init (hr.mono (by decide)) pass0 (pa_cons (pv 0) (pa_cons (pv 5) pa_nil))))
      (pss_cons (ps_expr (pe_callN G_check_name (hr.mono (by decide)) passE (pa_cons (pv 1) pa_nil)))
      (pss_cons (ps_expr (pe_callN G_check_name (hr.mono (by decide)) passE (pa_cons (pv 2) pa_nil)))
      (pss_cons (ps_expr (pe_callN G_check_name (hr.mono (by decide)) passE (pa_cons (pv 3) pa_nil)))
      (pss_cons (ps_fld (pv 0) (pv 1) rfl)
      (pss_cons (ps_fld (pv 0) (pv 2) rfl)
      (pss_cons (ps_fld (pv 0) (pv 3) rfl)
      (pss_one (ps_fld (pv 0) (pe_callN G_checked_names (hr.mono (by decide)) passE (pa_cons (pv 4) pa_nil)) rfl))))))))), ?_⟩
    have b1 : SameX p H (upd H p (.ins C dx (putF "function" v []))) := sx_upd
    refine ⟨_, rfl, _, rfl, p, C, dx, [], v, rfl, hp, Y.cl, Y.n_function, by decide, ?_⟩
    refine ⟨_, rfl, x, d, rfl, dt_sx b1 hp trivial hd, sd, fun n1 H2 s2 => ?_, fun n1 H2 s2 => q2 (by rw [n1]; rfl) H2 (sx_trans b1 (sx_of s2))⟩
    have b2 := sx_trans b1 (sx_of s2)
    refine ⟨_, rfl, y, e, rfl, dt_sx b2 hp trivial he, se, fun n2 H3 s3 => ?_, fun n2 H3 s3 => q2 (by rw [n1, n2]; rfl) H3 (sx_trans b2 (sx_of s3))⟩
    have b3 := sx_trans b2 (sx_of s3)
    refine ⟨_, rfl, z, g, rfl, dt_sx b3 hp trivial hg, sg, fun n3 H4 s4 => ?_, fun n3 H4 s4 => q2 (by rw [n1, n2, n3]; rfl) H4 (sx_trans b3 (sx_of s4))⟩
    have s24 := (s2.trans s3).trans s4
    refine ⟨_, rfl, _, rfl, p, C, dx, _, rfl, s24 _ _ upd_same, Y.cl, Y.n_key, (by show 1 < 1000; decide), ?_⟩
    refine ⟨_, rfl, _, rfl, p, C, dx, _, rfl, upd_same, Y.cl, Y.n_other, (by show 2 < 1000; decide), ?_⟩
    refine ⟨_, rfl, _, rfl, p, C, dx, _, rfl, upd_same, Y.cl, Y.n_theirs, (by show 3 < 1000; decide), ?_⟩
    have b4 := sx_trans (sx_trans (sx_trans (sx_trans b3 (sx_of s4)) (sx_upd (o := .ins C dx (putF "key" x (putF "function" v []))))) (sx_upd (o := .ins C dx (putF "other" y (putF "key" x (putF "function" v [])))))) (sx_upd (o := .ins C dx (putF "theirs" z (putF "other" y (putF "key" x (putF "function" v []))))))
    refine ⟨_, rfl, u, m, rfl, dt_sx b4 hp trivial hm, sm, fun n4 H5 l s5 hl => ?_, fun n4 H5 s5 => q2 (by rw [n1, n2, n3, n4]; rfl) H5 (sx_trans b4 (sx_of s5))⟩
    refine ⟨_, rfl, p, C, dx, _, rfl, s5 _ _ upd_same, Y.cl, Y.n_names, (by show 4 < 1000; decide), ?_⟩
    exact q1 (by rw [n1, n2, n3, n4]; rfl) _ (sx_trans (sx_trans b4 (sx_of s5)) sx_upd) ⟨dx, _, upd_same⟩
def spMendE (K : PySem.W.Frag) (c : Ad) (C : Addr) : Sp := fun vs H Q E => ∃ (p dx : Addr) (x v : V) (d : PyData), vs = [.ref p, x, v] ∧ H p = some (.ins C dx []) ∧ Dt K H x d ∧ shortS d ∧
  (nameD d = true → ∀ H', SameX p H H' → InsOf C p H' → Q .non H') ∧ (nameD d = false → ∀ H', SameX p H H' → E (.ref c.NoName) none H')
theorem sc_Mend_init : FnScope ["self", "name", "function"] ["self", "name", "function"] (defScope s_Mend_init) := ⟨rfl, rfl, rfl, by decide +kernel, rfl, by decide +kernel, by decide +kernel⟩
theorem k_Mend_init (T : Tops K mg) {c : Ad} (X : Excs K mg c) {R C : Addr} (Z : TRule K mg R) (Y : TMend K mg C) : KnownI P w K mg base (CXE P w) 3 C ["self", "name", "function"] (spMendE K c C) := by
  have G_init : KnownM P w K mg base CX0 1 R "__init__" ["self", "function"] (spRuleI K) := k_Rule_init T Z
  have G_check_name : Known P w K mg base (CXE P w) 2 "check_name" ["name"] (spCNameE K c) := k_check_name T X
  refine (Y.m_init.knownE sc_Mend_init (fun _ _ _ _ _ _ us hl => match us, hl with | [_, _, _], _ => rfl) (fun vs H Q E h => ?_) (fun f cdv A outer s H vs Q E hr h => ?_)).init Y.mks Y.kc
  · obtain ⟨p, dx, x, v, d, rfl, _⟩ := h
    rfl
  · obtain ⟨p, dx, x, v, d, rfl, hp, hd, sd, q1, q2⟩ := h
    refine ⟨_, (pss_cons (ps_expr (pe_clsN (pe_gR Z.c) Z.v_init G_init (hr.mono (by decide)) pass0 (pa_cons (pv 0) (pa_cons (pv 2) pa_nil))))
      (pss_cons (ps_expr (pe_callN G_check_name (hr.mono (by decide)) passE (pa_cons (pv 1) pa_nil)))
      (pss_one (ps_fld (pv 0) (pv 1) rfl)))), ?_⟩
    have b1 : SameX p H (upd H p (.ins C dx (putF "function" v []))) := sx_upd
    refine ⟨_, rfl, _, rfl, p, C, dx, [], v, rfl, hp, Y.cl, Y.n_function, by decide, ?_⟩
    refine ⟨_, rfl, x, d, rfl, dt_sx b1 hp trivial hd, sd, fun n1 H2 s2 => ?_, fun n1 H2 s2 => q2 n1 H2 (sx_trans b1 (sx_of s2))⟩
    refine ⟨_, rfl, _, rfl, p, C, dx, _, rfl, s2 _ _ upd_same, Y.cl, Y.n_name, (by show 1 < 1000; decide), ?_⟩
    exact q1 n1 _ (sx_trans (sx_trans b1 (sx_of s2)) sx_upd) ⟨dx, _, upd_same⟩
end
end My

namespace My
open PySem L2
def drawZ (ns : List Int) (k sz : Int) : Int := (104729 * k * k + 48271 + (if 0 < (ns.length : Int) then ns.getD (k % ns.length).toNat 0 % 10 ^ 40 * (2 * k + 69621) else 0)) % 2147483647 / 3 % sz
theorem drawZ_nn (ns : List Int) (k : Int) {sz : Int} (h : 0 < sz) : 0 ≤ drawZ ns k sz := Int.emod_nonneg _ (Int.ne_of_gt h)
theorem drawZ_lt (ns : List Int) (k : Int) {sz : Int} (h : 0 < sz) : drawZ ns k sz < sz := Int.emod_lt_of_pos _ h
section
variable {P : Program} {w : World} {K : PySem.W.Frag} {mg : Str → Option Value} {base : Heap}
def spDrawn (K : PySem.W.Frag) : Sp := fun vs H Q _ => ∃ (a : Addr) (ns : List Int) (k sz : Int), vs = [.ref a, .int k, .int sz] ∧ SqL K H a (ns.map V.int) ∧ ns.length ≤ 63 ∧ 0 ≤ k ∧ k ≤ 1000000 ∧ 0 < sz ∧ Q (.int (drawZ ns k sz)) H
theorem sc_law_drawn : FnScope ["_law_script", "_law_k", "_law_size", "_law_number"] ["_law_script", "_law_k", "_law_size"] (defScope s_law_drawn) := ⟨rfl, rfl, rfl, by decide +kernel, rfl, by decide +kernel, by decide +kernel⟩
theorem k_law_drawn (T : Tops K mg) : Known P w K mg base CX0 1 "_law_drawn" ["_law_script", "_law_k", "_law_size"] (spDrawn K) := by
  refine T.d_law_drawn.known sc_law_drawn (fun _ _ _ _ _ _ us hl => match us, hl with | [_, _, _], _ => rfl) (fun vs H Q E h => ?_) (fun f cdv A outer s H vs Q E hr h => ?_)
  · obtain ⟨a, ns, k, sz, rfl, _⟩ := h
    rfl
  · obtain ⟨a, ns, k, sz, rfl, hS, hl, h0, h6, hz, q⟩ := h
    refine ⟨_, (pss_cons (ps_set (i := 3) sc_law_drawn.nd rfl (Or.inl rfl) (pe_op op_add (pe_op op_mul (pe_op op_mul pe_int (pv 1)) (pv 1)) pe_int))
      (pss_cons (ps_if (pt_cmpR op_gt (pe_callB call_len rfl T.len b_len (pa_cons (pv 0) pa_nil)) pe_int (nomark _)) (pss_one (ps_set (i := 3) sc_law_drawn.nd rfl (Or.inl rfl) (pe_op op_add (pv 3) (pe_op op_mul (pe_op op_mod (pe_ix ix_list (pv 0) (pe_op op_mod (pv 1) (pe_callB call_len rfl T.len b_len (pa_cons (pv 0) pa_nil))) (fun _ _ => rfl)) (pe_op op_pow pe_int pe_int)) (pe_op op_add (pe_op op_mul pe_int (pv 1)) pe_int))))) pss_nil)
      (pss_one (ps_ret (pe_op op_mod (pe_op op_fdiv (pe_op op_mod (pv 3) pe_int) pe_int) (pv 2)))))), ?_⟩
    have el : ((ns.map V.int).length : Int) = (ns.length : Int) := by rw [List.length_map]
    have fin : ∀ n : Int, drawZ ns k sz = n % 2147483647 / 3 % sz →
        tRet (tOp (rI (fun _ j => 0 < j) fun i j => .int (i % j)) (tOp (rI CDiv fun i j => .int (i / j)) (tOp (rI (fun _ j => 0 < j) fun i j => .int (i % j)) (tVar 3) (tC (.int 2147483647))) (tC (.int 3))) (tVar 2))
          { nx := fun _ H' => Q .non H', rt := Q } [some (.ref a), some (.int k), some (.int sz), some (.int n)] H := fun n e => by
      refine ⟨_, rfl, _, _, rfl, rfl, (show (0 : Int) < 2147483647 by decide), _, _, rfl, rfl, ⟨by decide, by decide⟩, _, rfl, _, _, rfl, rfl, hz, ?_⟩
      show Q (.int (n % 2147483647 / 3 % sz)) H
      rw [← e]
      exact q
    refine ⟨_, rfl, _, _, rfl, rfl, .inl ⟨by decide, by decide⟩, _, rfl, _, _, rfl, rfl, .inr ⟨by omega, by omega⟩, _, _, rfl, rfl, ?_⟩
    refine ⟨_, rfl, _, _, rfl, .inl ⟨_, hS, rfl⟩, _, _, rfl, rfl, _, rfl, ?_⟩
    rw [el]
    refine ite2 (fun h2 => ?_) (fun h2 => ?_)
    · have h2' : 0 < (ns.length : Int) := by simpa using h2
      have hm := Int.emod_nonneg k (Int.ne_of_gt h2')
      have hm' := Int.emod_lt_of_pos k h2'
      refine ⟨_, rfl, _, rfl, _, rfl, _, rfl, _, _, rfl, .inl ⟨_, hS, rfl⟩, _, _, rfl, rfl, by rw [el]; exact h2', a, _, _, _, rfl, rfl, hS, by rw [el]; exact at_map ns _ hm hm', ?_⟩
      refine ⟨_, _, rfl, rfl, ⟨by decide, by decide, by decide⟩, _, _, rfl, rfl, (show (0 : Int) < 10 ^ 40 by decide), _, rfl, _, _, rfl, rfl, .inl ⟨by decide, by decide⟩, _, _, rfl, rfl, _, _, rfl, rfl, .inr ⟨by omega, by omega⟩, _, _, rfl, rfl, ?_⟩
      refine fin _ ?_
      unfold drawZ
      rw [if_pos h2']
      rfl
    · have h2' : ¬ 0 < (ns.length : Int) := by simpa using h2
      refine fin _ ?_
      unfold drawZ
      rw [if_neg h2', Int.add_zero]
end
end My

namespace My
open PySem L2
/-- a thing's data lean on what is new over G alone -/
def Frh (K : PySem.W.Frag) (G H : Hp) (v : V) (d : PyData) : Prop := ∀ H' : Hp, (∀ b o, G b = none → H b = some o → H' b = some o) → Dt K H' v d
theorem Frh.dt {K : PySem.W.Frag} {G H : Hp} {v : V} {d : PyData} (h : Frh K G H v d) : Dt K H v d := h H fun _ _ _ e => e
theorem Frh.of {K : PySem.W.Frag} {G H : Hp} {v : V} {d : PyData} (h : ∀ H' : Hp, Dt K H' v d) : Frh K G H v d := fun H' _ => h H'
theorem frh_at {K : PySem.W.Frag} {G H : Hp} : ∀ {vs : List V} {ds : List PyData} {i : Nat} {v : V}, Paired (Frh K G H) vs ds → vs[i]? = some v → ∃ d, ds[i]? = some d ∧ Frh K G H v d
  | _, _, _, _, .nil, e => by simp at e
  | _, _, 0, _, .cons r _, e => by simp at e; subst e; exact ⟨_, rfl, r⟩
  | _, _, i + 1, v, .cons _ t, e => by
    obtain ⟨d, h1, h2⟩ := frh_at (i := i) (v := v) t (by simpa using e)
    exact ⟨d, by simpa using h1, h2⟩
theorem frh_pick {K : PySem.W.Frag} {G H : Hp} {xs : List V} {ds : List PyData} {i : Int} (all : Paired (Frh K G H) xs ds) (h0 : 0 ≤ i) (h : i < ds.length) : ∃ v d, atI xs i = some v ∧ d ∈ ds ∧ Frh K G H v d := by
  obtain ⟨v, hat, hv⟩ := at_some xs i h0 (by rw [Paired.length all]; exact h)
  obtain ⟨d, hd, hdt⟩ := frh_at all hv
  exact ⟨v, d, hat, List.mem_of_getElem? hd, hdt⟩
theorem noneB {H H' : Hp} {l : Addr} (s : Same H H') (h : H' l = none) : H l = none := by
  cases e : H l with
  | none => rfl
  | some o => rw [s l o e] at h; cases h
theorem frh_tup {K : PySem.W.Frag} {G H : Hp} {p : Addr} {xs : List V} {ds : List PyData} (hG : G p = none) (h : H p = some (.tup xs)) (hd : ∀ H', DtAll K H' xs ds) : Frh K G H (.ref p) (.tuple ds) := fun H' e => .tup (SqT.of (e p _ hG h)) (hd H')
theorem frh_lst {K : PySem.W.Frag} {G H : Hp} {p : Addr} {xs : List V} {ds : List PyData} (hG : G p = none) (h : H p = some (.lst xs)) (hd : ∀ H', DtAll K H' xs ds) : Frh K G H (.ref p) (.list ds) := fun H' e => .lst (SqL.of (e p _ hG h)) (hd H')
theorem frh_dK {K : PySem.W.Frag} {G H : Hp} {p : Addr} {kvs : List (Key × V)} (hG : G p = none) (h : H p = some (.dK kvs)) : Frh K G H (.ref p) (.dict []) := fun H' e => .dK (e p _ hG h)
theorem dt_strs {K : PySem.W.Frag} {H : Hp} : ∀ zs : List Str, DtAll K H (zs.map V.str) (zs.map PyData.str)
  | [] => .nil
  | z :: zs => .cons (.str z) (dt_strs zs)
theorem comp_pickS {cp : List (Nat × Str)} {σ : St} {H : Hp} {D : Addr} {n : Nat} {te : TE} {Q : VK} (Pz : Str → Prop) (hD : H D = none) (h6 : n ≤ 100)
    (hte : ∀ (j : Nat) (H2 : Hp) (q : VK), j < n → Same H H2 → (∀ z H3, Pz z → Same H2 H3 → q (.str z) H3) → te (some (.int (0 + (j : Int))) :: capσ cp σ) H2 q)
    (hq : ∀ (zs : List Str) (H2 : Hp), H2 D = some (.lst (zs.map V.str)) → Same H H2 → zs.length = n → (∀ z ∈ zs, Pz z) → Q (.ref D) H2) : tLoop cp tYes te σ (Itr 0 n) D Q H := by
  refine comp_range (lo := 0) (n := n) (fun i ys H2 => ∃ zs : List Str, ys = zs.map V.str ∧ zs.length = i ∧ (∀ z ∈ zs, Pz z) ∧ Same H H2) ⟨[], rfl, rfl, (fun _ h => by cases h), Same.new hD⟩ ?_ ?_
  · rintro i ys H2 hi h2 ⟨zs, rfl, hz, hall, s2⟩
    refine hte i H2 _ hi s2 fun z H3 hN s3 => ⟨s3 _ _ h2, ?_, zs ++ [z], by rw [List.map_append]; rfl, by rw [List.length_append, hz]; rfl, fun y hy => ?_, (s2.trans s3).on hD⟩
    · rw [List.length_map, hz]
      exact small1000 (by omega)
    · rcases List.mem_append.mp hy with hy | hy
      · exact hall y hy
      · rw [List.mem_singleton.mp hy]
        exact hN
  · rintro ys H2 h2 ⟨zs, rfl, hz, hall, s2⟩
    exact hq zs H2 h2 s2 hz hall
def goodN : List PyData := [.str "a", .str "zzzzzzzz", .str "key", .str "odd"]
def badN : List PyData := [.str "", .str "abcdefghi", .str "A", .str "a b", .str "a1", .str "a\n", .str " a", .none, .bool true, .int 1, .tuple [.str "a"], .list [.str "a"], .dict [], .str "t.a"]
theorem goodN_ok {d : PyData} (h : d ∈ goodN) : ∃ z, d = .str z ∧ nameS z = true ∧ z.length ≤ 8 := by
  simp only [goodN, List.mem_cons, List.not_mem_nil, or_false] at h
  rcases h with rfl | rfl | rfl | rfl <;> exact ⟨_, rfl, by decide +kernel, by decide +kernel⟩
theorem badN_ok {d : PyData} (h : d ∈ badN) : nameD d = false ∧ shortS d := by
  simp only [badN, List.mem_cons, List.not_mem_nil, or_false] at h
  rcases h with rfl | rfl | rfl | rfl | rfl | rfl | rfl | rfl | rfl | rfl | rfl | rfl | rfl | rfl <;>
    first
    | exact ⟨by decide +kernel, shortS_str (by decide +kernel)⟩
    | exact ⟨rfl, shortS_not (by decide)⟩
section
variable {P : Program} {w : World} {K : PySem.W.Frag} {mg : Str → Option Value} {base : Heap}
def spLName (K : PySem.W.Frag) : Sp := fun vs H Q _ => ∃ (a : Addr) (ns : List Int) (k : Int) (b : Bool), vs = [.ref a, .int k, .bl b] ∧ SqL K H a (ns.map V.int) ∧ ns.length ≤ 63 ∧ 0 ≤ k ∧ k ≤ 1000 ∧
  ∀ H' v d, Same H H' → Frh K H H' v d → shortS d → nameD d = !b → Q v H'
theorem sc_law_name : FnScope ["_law_script", "_law_k", "_law_bent", "_law_good", "_law_some"] ["_law_script", "_law_k", "_law_bent"] (defScope s_law_name) := ⟨rfl, rfl, rfl, by decide +kernel, rfl, by decide +kernel, by decide +kernel⟩
theorem k_law_name (T : Tops K mg) : Known P w K mg base CX0 2 "_law_name" ["_law_script", "_law_k", "_law_bent"] (spLName K) := by
  have G_law_drawn : Known P w K mg base CX0 1 "_law_drawn" ["_law_script", "_law_k", "_law_size"] (spDrawn K) := k_law_drawn T
  refine T.d_law_name.known sc_law_name (fun _ _ _ _ _ _ us hl => match us, hl with | [_, _, _], _ => rfl) (fun vs H Q E h => ?_) (fun f cdv A outer s H vs Q E hr h => ?_)
  · obtain ⟨a, ns, k, b, rfl, _⟩ := h
    rfl
  · obtain ⟨a, ns, k, b, rfl, hS, hl, h0, h1, q⟩ := h
    refine ⟨_, PSsw.run (pssw_cons (PSw.mk (ps_set (i := 3) sc_law_name.nd rfl (Or.inl rfl) (pe_ix ix_list (pe_lst (pa_cons pe_str (pa_cons pe_str (pa_cons pe_str (pa_cons pe_str pa_nil))))) (pe_callN G_law_drawn (hr.mono (by decide)) pass0 (pa_cons (pv 0) (pa_cons (pv 1) (pa_cons pe_int pa_nil)))) (fun _ _ => rfl))))
      (pssw_cons (PSw.mk (ps_if (pt_not (pt_val (pv 2) (fun _ => rfl))) (pss_one (ps_ret (pv 3))) pss_nil))
      (pssw_cons (psw_set (i := 4) sc_law_name.nd rfl (Or.inl rfl) (pew_lst (paw_k pew_str (paw_k pew_str (paw_k pew_str (paw_k pew_str (paw_k pew_str (paw_k pew_str (paw_k pew_str (paw_k pew_non (paw_k pew_bl (paw_k pew_int (paw_t (pew_tup (paw_k pew_str paw_nil)) (paw_l (pew_lst (paw_k pew_str paw_nil)) (paw_d (PEw.mk (pe_disp (pps_cons pe_str pe_int pps_nil) rfl rfl (by simp) (by decide))) (paw_k pew_str paw_nil))))))))))))))))
      (pssw_one (PSw.mk (ps_ret (pe_ix ix_list (pv 4) (pe_callN G_law_drawn (hr.mono (by decide)) pass0 (pa_cons (pv 0) (pa_cons (pe_op op_add (pv 1) pe_int) (pa_cons pe_int pa_nil)))) (fun _ _ => rfl)))))))), ?_⟩
    have c0 := drawZ_nn ns k (show (0 : Int) < 4 by decide)
    have c1 := drawZ_lt ns k (show (0 : Int) < 4 by decide)
    refine ⟨sl, fun l1 hl1 => ?_⟩
    have s1 := Same.new (o := .lst [.str ("a" : Str), .str ("zzzzzzzz" : Str), .str ("key" : Str), .str ("odd" : Str)]) hl1
    have all1 : Paired (Frh K H (upd H l1 (.lst [.str ("a" : Str), .str ("zzzzzzzz" : Str), .str ("key" : Str), .str ("odd" : Str)]))) [.str ("a" : Str), .str ("zzzzzzzz" : Str), .str ("key" : Str), .str ("odd" : Str)] goodN :=
      .cons (.of fun _ => .str _) (.cons (.of fun _ => .str _) (.cons (.of fun _ => .str _) (.cons (.of fun _ => .str _) .nil)))
    obtain ⟨v, d, hat, hdm, hd⟩ := frh_pick all1 c0 c1
    refine ⟨_, rfl, _, rfl, a, ns, k, 4, rfl, s1.seq hS, hl, h0, by omega, by decide, l1, _, _, v, rfl, rfl, SqL.of upd_same, hat, ?_⟩
    obtain ⟨z, rfl, hz1, hz2⟩ := goodN_ok hdm
    refine ⟨_, rfl, _, rfl, ?_⟩
    cases b with
    | false =>
      refine iteT ?_
      exact ⟨_, rfl, q _ v _ s1 hd (shortS_str (by omega)) (by rw [show nameD (.str z) = nameS z from rfl, hz1]; rfl)⟩
    | true =>
      refine iteF ?_
      have e0 := drawZ_nn ns (k + 1) (show (0 : Int) < 14 by decide)
      have e1 := drawZ_lt ns (k + 1) (show (0 : Int) < 14 by decide)
      refine ⟨sl, fun p1 h1' => ⟨sl, fun p2 h2' => fun p3 h3' => ⟨upd_same, [(.inr "a", .int 1)], rfl, by decide, sl, fun l2 hl2 => ?_⟩⟩⟩
      generalize hH1 : upd H l1 (.lst [.str ("a" : Str), .str ("zzzzzzzz" : Str), .str ("key" : Str), .str ("odd" : Str)]) = H1 at *
      have u1 := Same.new (o := .tup [.str ("a" : Str)]) h1'
      have u2 := Same.new (o := .lst [.str ("a" : Str)]) h2'
      have u3 := (Same.new (o := .dK []) h3').on (o := .dK (mergeK [] [(.inr "a", .int 1)])) h3'
      have u4 := Same.new (o := .lst [.str ("" : Str), .str ("abcdefghi" : Str), .str ("A" : Str), .str ("a b" : Str), .str ("a1" : Str), .str ("a\n" : Str), .str (" a" : Str), .non, .bl true, .int 1, .ref p1, .ref p2, .ref p3, .str ("t.a" : Str)]) hl2
      have o1 : H p1 = none := noneB s1 h1'
      have o2 : H p2 = none := noneB (s1.trans u1) h2'
      have o3 : H p3 = none := noneB ((s1.trans u1).trans u2) h3'
      have v1 := ((u2.trans u3).trans u4) _ _ (upd_same (H := H1) (a := p1) (o := .tup [.str ("a" : Str)]))
      have v2 := (u3.trans u4) _ _ (upd_same (a := p2) (o := .lst [.str ("a" : Str)]))
      have v3 := u4 _ _ (upd_same (a := p3) (o := .dK (mergeK [] [(.inr "a", .int 1)])))
      have sA := (((s1.trans u1).trans u2).trans u3).trans u4
      have gl := upd_same (H := upd (upd (upd (upd H1 p1 (.tup [.str ("a" : Str)])) p2 (.lst [.str ("a" : Str)])) p3 (.dK [])) p3 (.dK (mergeK [] [(.inr "a", .int 1)]))) (a := l2) (o := .lst [.str ("" : Str), .str ("abcdefghi" : Str), .str ("A" : Str), .str ("a b" : Str), .str ("a1" : Str), .str ("a\n" : Str), .str (" a" : Str), .non, .bl true, .int 1, .ref p1, .ref p2, .ref p3, .str ("t.a" : Str)])
      generalize upd (upd (upd (upd (upd H1 p1 (.tup [.str ("a" : Str)])) p2 (.lst [.str ("a" : Str)])) p3 (.dK [])) p3 (.dK (mergeK [] [(.inr "a", .int 1)]))) l2 (.lst [.str ("" : Str), .str ("abcdefghi" : Str), .str ("A" : Str), .str ("a b" : Str), .str ("a1" : Str), .str ("a\n" : Str), .str (" a" : Str), .non, .bl true, .int 1, .ref p1, .ref p2, .ref p3, .str ("t.a" : Str)]) = HF at v1 v2 v3 sA gl ⊢
      have all2 : Paired (Frh K H HF) [.str ("" : Str), .str ("abcdefghi" : Str), .str ("A" : Str), .str ("a b" : Str), .str ("a1" : Str), .str ("a\n" : Str), .str (" a" : Str), .non, .bl true, .int 1, .ref p1, .ref p2, .ref p3, .str ("t.a" : Str)] badN :=
        .cons (.of fun _ => .str _) (.cons (.of fun _ => .str _) (.cons (.of fun _ => .str _) (.cons (.of fun _ => .str _) (.cons (.of fun _ => .str _) (.cons (.of fun _ => .str _) (.cons (.of fun _ => .str _) (.cons (.of fun _ => .non) (.cons (.of fun _ => .bl _) (.cons (.of fun _ => .int _)
        (.cons (frh_tup o1 v1 fun _ => .cons (.str _) .nil) (.cons (frh_lst o2 v2 fun _ => .cons (.str _) .nil) (.cons (frh_dK o3 v3) (.cons (.of fun _ => .str _) .nil)))))))))))))
      obtain ⟨v', d', hat', hdm', hd'⟩ := frh_pick all2 e0 e1
      obtain ⟨n1, n2⟩ := badN_ok hdm'
      exact ⟨_, rfl, _, rfl, _, rfl, _, _, rfl, rfl, a, ns, _, 14, rfl, sA.seq hS, hl, by omega, by omega, by decide, l2, _, _, v', rfl, rfl, SqL.of gl, hat', q _ v' d' sA hd' n2 n1⟩
/-! ### lists of names -/
def spLList (K : PySem.W.Frag) : Sp := fun vs H Q _ => ∃ (a : Addr) (ns : List Int) (k : Int) (b : Bool), vs = [.ref a, .int k, .bl b] ∧ SqL K H a (ns.map V.int) ∧ ns.length ≤ 63 ∧ 0 ≤ k ∧ k ≤ 900 ∧
  ∀ H' v d, Same H H' → Dt K H' v d → shL d → namesD d = !b → Q v H'
theorem nameS_len {z : Str} (h : nameS z = true) : z.length ≤ 8 := by
  unfold nameS at h
  simp only [Bool.and_eq_true, decide_eq_true_eq] at h
  omega
def okS (z : Str) : Prop := nameS z = true ∧ z.length ≤ 8
theorem names_good {zs : List Str} (h : ∀ z ∈ zs, okS z) (hl : zs.length ≤ 6) : namesD (.list (zs.map PyData.str)) = true := by
  show (decide ((zs.map PyData.str).length ≤ 6) && (zs.map PyData.str).all nameD) = true
  rw [List.length_map, decide_eq_true hl, Bool.true_and, List.all_eq_true]
  intro e he
  obtain ⟨z, hz, rfl⟩ := List.mem_map.mp he
  exact (h z hz).1
theorem shL_strs {zs : List Str} (h : ∀ z ∈ zs, z.length ≤ 8) : shL (.list (zs.map PyData.str)) := fun ds e x hx => by
  cases e
  obtain ⟨z, hz, rfl⟩ := List.mem_map.mp hx
  exact shortS_str (by have := h z hz; omega)
theorem shL_not {d : PyData} (h : ∀ ds, d ≠ .list ds) : shL d := fun ds e => absurd e (h ds)
def sevenS : List Str := ["a", "b", "c", "d", "e", "f", "g"]
theorem cut7 {xs : List V} (h : 7 ≤ xs.length) : cutV xs none (some 7) = xs.take 7 := by
  have e : HT.sIx xs.length xs.length (some (7 : Int)) = 7 := by
    have := HT.sIx_nat xs.length xs.length 7
    have h7 : ((7 : Nat) : Int) = 7 := rfl
    rw [h7] at this
    rw [this]
    omega
  unfold cutV
  rw [e, HT.sIx_none, List.drop_zero]
abbrev Nlist : List Str := ["_law_script", "_law_k", "_law_bent", "_law_names", "_law_way"]
theorem sc_law_list : FnScope Nlist ["_law_script", "_law_k", "_law_bent"] (defScope s_law_list) := ⟨rfl, rfl, rfl, by decide +kernel, rfl, by decide +kernel, by decide +kernel⟩
theorem k_law_list (T : Tops K mg) : Known P w K mg base CX0 3 "_law_list" ["_law_script", "_law_k", "_law_bent"] (spLList K) := by
  have G_law_drawn : Known P w K mg base CX0 1 "_law_drawn" ["_law_script", "_law_k", "_law_size"] (spDrawn K) := k_law_drawn T
  have G_law_name : Known P w K mg base CX0 2 "_law_name" ["_law_script", "_law_k", "_law_bent"] (spLName K) := k_law_name T
  refine T.d_law_list.known sc_law_list (fun _ _ _ _ _ _ us hl => match us, hl with | [_, _, _], _ => rfl) (fun vs H Q E h => ?_) (fun f cdv A outer s H vs Q E hr h => ?_)
  · obtain ⟨a, ns, k, b, rfl, _⟩ := h
    rfl
  · obtain ⟨a, ns, k, b, rfl, hS, hl, h0, h1, q⟩ := h
    have hcl : ∀ x, (cxOf CX0 P w K mg base Nlist "_law_list" (defScope s_law_list) f cdv A outer s H E).nox.env.scope.names.lookup x = some .cell → ∃ c, (cxOf CX0 P w K mg base Nlist "_law_list" (defScope s_law_list) f cdv A outer s H E).nox.env.cells.lookup x = some c := fun x hx => Option.isSome_iff_exists.mp (PySem.W.cellsFrom_some _ _ _ (.inl hx))
    refine ⟨_, PSsw.run (pssw_cons (PSw.mk (ps_setComp (te := tCall (spLName K) [] E0 (tCons (tVar 1) (tCons _ (tCons _ tNil)))) (i := 3) sc_law_list.nd rfl rfl (caps_of (sc := defScope s_law_list) (N := Nlist) (cp := [(0, "_law_script"), (1, "_law_k")]) hcl) rfl rfl (by decide) (pi_range1 rfl T.range (pa_cons (pe_callN G_law_drawn (hr.mono (by decide)) pass0 (pa_cons (pv 0) (pa_cons (pv 1) (pa_cons pe_int pa_nil)))) pa_nil)) (fun _ _ _ _ _ => pts_nil) (fun _ _ _ _ _ => (pe_callN G_law_name (hr.mono (by decide)) pass0 (pa_cons (pv 1) (pa_cons (pe_op op_add (pv 2) (pv 0)) (pa_cons pe_bl pa_nil))))) rfl))
      (pssw_cons (PSw.mk (ps_if (pt_not (pt_val (pv 2) (fun _ => rfl))) (pss_one (ps_ret (pv 3))) pss_nil))
      (pssw_cons (PSw.mk (ps_set (i := 4) sc_law_list.nd rfl (by first | exact Or.inl rfl | exact Or.inr rfl) (pe_callN G_law_drawn (hr.mono (by decide)) pass0 (pa_cons (pv 0) (pa_cons (pe_op op_add (pv 1) pe_int) (pa_cons pe_int pa_nil))))))
      (pssw_cons (PSw.mk (ps_if (pt_cmpR op_eq (pv 4) pe_int (nomark _)) (pss_one (ps_ret (pe_ix ix_list (pew_lst (paw_c (PEw.mk (pe_callTy call_tuple_of (by rfl) T.tuple b_tuple (pa_cons (pv 3) pa_nil))) (paw_k pew_str (paw_k pew_non (paw_d (PEw.mk (pe_disp (pps_cons pe_str pe_int pps_nil) rfl rfl (by simp) (by decide))) (paw_k pew_str (paw_k pew_bl paw_nil))))))).run (pe_callN G_law_drawn (hr.mono (by decide)) pass0 (pa_cons (pv 0) (pa_cons (pe_op op_add (pv 1) pe_int) (pa_cons pe_int pa_nil)))) (fun _ _ => rfl)))) pss_nil))
      (pssw_cons (PSw.mk (ps_if (pt_cmpR op_eq (pv 4) pe_int (nomark _)) (pss_one (ps_ret (pe_slice sl_list (pe_op op_cat (pv 3) (pew_lst (paw_k pew_str (paw_k pew_str (paw_k pew_str (paw_k pew_str (paw_k pew_str (paw_k pew_str (paw_k pew_str paw_nil)))))))).run) po_none (po_some pe_int)))) pss_nil))
      (pssw_cons (PSw.mk (ps_expr (pe_bm PySem.F.plainAttrs_list PySem.F.slot_list_insert PySem.F.type_list_insert mt_insert (pv 3) (pa_cons (pe_callN G_law_drawn (hr.mono (by decide)) pass0 (pa_cons (pv 0) (pa_cons (pe_op op_add (pv 1) pe_int) (pa_cons (pe_op op_add (pe_callB call_len rfl T.len b_len (pa_cons (pv 3) pa_nil)) pe_int) pa_nil)))) (pa_cons (pe_callN G_law_name (hr.mono (by decide)) pass0 (pa_cons (pv 0) (pa_cons (pe_op op_add (pv 1) pe_int) (pa_cons pe_bl pa_nil)))) pa_nil)))))
      (pssw_one (PSw.mk (ps_ret (pv 3)))))))))), ?_⟩
    have b0 := drawZ_nn ns k (show (0 : Int) < 7 by decide)
    have b1 := drawZ_lt ns k (show (0 : Int) < 7 by decide)
    refine ⟨_, rfl, _, rfl, a, ns, k, 7, rfl, hS, hl, h0, by omega, by decide, _, rfl, by omega, by omega, fun D hD => ?_⟩
    refine comp_pickS (n := (drawZ ns k 7).toNat) okS hD (by omega) (fun j H2 q2 hj s2 kq => ?_) (fun zs H2 h2 s2 hz hall => ?_)
    · refine ⟨_, rfl, _, rfl, _, rfl, _, _, rfl, rfl, a, ns, _, false, rfl, s2.seq hS, hl, by omega, by omega, fun H3 v d s3 fr sh nd => ?_⟩
      cases d with
      | str z =>
        have hd := fr.dt
        cases hd
        have n1 : nameS z = true := nd
        exact kq z H3 ⟨n1, nameS_len n1⟩ s3
      | _ => cases nd
    · have h6 : zs.length ≤ 6 := by omega
      have z8 : ∀ z ∈ zs, z.length ≤ 8 := fun z hz' => (hall z hz').2
      refine ⟨_, rfl, _, rfl, ?_⟩
      cases b with
      | false =>
        refine iteT ?_
        exact ⟨_, rfl, q _ _ _ s2 (.lst (SqL.of h2) (dt_strs zs)) (shL_strs z8) (by rw [names_good hall h6]; rfl)⟩
      | true =>
        refine iteF ?_
        have w0 := drawZ_nn ns (k + 9) (show (0 : Int) < 4 by decide)
        refine ⟨_, rfl, _, rfl, _, _, rfl, rfl, a, ns, _, 4, rfl, s2.seq hS, hl, by omega, by omega, by decide, ?_⟩
        refine ⟨_, rfl, rfl, _, rfl, ite2 (fun _ => ?_) (fun _ => ?_)⟩
        · have e0 := drawZ_nn ns (k + 10) (show (0 : Int) < 6 by decide)
          have e1 := drawZ_lt ns (k + 10) (show (0 : Int) < 6 by decide)
          refine ⟨_, rfl, D, _, rfl, .inl ⟨SqL.of h2, fun p1 h1' => fun p2 h2' => ⟨upd_same, [(.inr "a", .int 1)], rfl, by decide, sl, fun l2 hl2 => ?_⟩⟩⟩
          have u1 := Same.new (o := .tup (zs.map V.str)) h1'
          have u2 := (Same.new (o := .dK []) h2').on (o := .dK (mergeK [] [(.inr "a", .int 1)])) h2'
          have u3 := Same.new (o := .lst [.ref p1, .str ("a" : Str), .non, .ref p2, .str ("" : Str), .bl true]) hl2
          have all : DtAll K (upd (upd (upd (upd H2 p1 (.tup (zs.map V.str))) p2 (.dK [])) p2 (.dK (mergeK [] [(.inr "a", .int 1)]))) l2 (.lst [.ref p1, .str ("a" : Str), .non, .ref p2, .str ("" : Str), .bl true])) [.ref p1, .str ("a" : Str), .non, .ref p2, .str ("" : Str), .bl true] [.tuple (zs.map PyData.str), .str "a", .none, .dict [], .str "", .bool true] :=
            .cons (.tup (SqT.of ((u2.trans u3) _ _ upd_same)) (dt_strs zs)) (.cons (.str _) (.cons .non (.cons (.dK (u3 _ _ upd_same)) (.cons (.str _) (.cons (.bl _) .nil)))))
          obtain ⟨v', d', hat', hdm', hd'⟩ := all.pick e0 e1
          have sA := ((s2.trans u1).trans u2).trans u3
          refine ⟨_, rfl, _, rfl, _, _, rfl, rfl, a, ns, _, 6, rfl, sA.seq hS, hl, by omega, by omega, by decide, l2, _, _, v', rfl, rfl, SqL.of upd_same, hat', q _ v' d' sA hd' ?_ ?_⟩
          · have hm := List.mem_of_getElem? hdm'
            simp only [List.mem_cons, List.not_mem_nil, or_false] at hm
            rcases hm with rfl | rfl | rfl | rfl | rfl | rfl <;> exact shL_not (fun ds z => by cases z)
          · have hm := List.mem_of_getElem? hdm'
            simp only [List.mem_cons, List.not_mem_nil, or_false] at hm
            rcases hm with rfl | rfl | rfl | rfl | rfl | rfl <;> rfl
        · refine ⟨_, rfl, rfl, _, rfl, ite2 (fun _ => ?_) (fun _ => ?_)⟩
          · refine ⟨_, rfl, sl, fun l1 hl1 => ?_⟩
            have u1 := Same.new (o := .lst (sevenS.map V.str)) hl1
            have lm : ((zs ++ sevenS).map V.str).length = zs.length + 7 := by rw [List.length_map, List.length_append]; rfl
            refine ⟨D, l1, _, _, rfl, rfl, u1 _ _ h2, upd_same, ?_, fun l2 hl2 => ⟨7, rfl, l2, _, rfl, SqL.of upd_same, fun p hp => ?_⟩⟩
            · show (zs.map V.str).length + 7 ≤ sizeLine
              rw [List.length_map]
              exact Nat.le_of_lt (small1000 (by omega))
            have em : zs.map V.str ++ [.str ("a" : Str), .str ("b" : Str), .str ("c" : Str), .str ("d" : Str), .str ("e" : Str), .str ("f" : Str), .str ("g" : Str)] = (zs ++ sevenS).map V.str := by rw [List.map_append]; rfl
            have ec : cutV (zs.map V.str ++ [.str ("a" : Str), .str ("b" : Str), .str ("c" : Str), .str ("d" : Str), .str ("e" : Str), .str ("f" : Str), .str ("g" : Str)]) none (some 7) = ((zs ++ sevenS).take 7).map V.str := by
              rw [em, cut7 (by rw [lm]; omega), List.map_take]
            refine q _ _ (.list (((zs ++ sevenS).take 7).map PyData.str)) (((s2.trans u1).trans (Same.new hl2)).trans (Same.new hp)) (.lst (SqL.of upd_same) (by rw [ec]; exact dt_strs _)) (shL_strs fun z hz' => ?_) ?_
            · rcases List.mem_append.mp (List.mem_of_mem_take hz') with h | h
              · exact z8 z h
              · simp only [sevenS, List.mem_cons, List.not_mem_nil, or_false] at h
                rcases h with rfl | rfl | rfl | rfl | rfl | rfl | rfl <;> decide +kernel
            · show (decide ((((zs ++ sevenS).take 7).map PyData.str).length ≤ 6) && _) = false
              have : ¬ (((zs ++ sevenS).take 7).map PyData.str).length ≤ 6 := by
                rw [List.length_map, List.length_take, List.length_append, show sevenS.length = 7 from rfl]
                omega
              rw [decide_eq_false this]
              rfl
          · have el : ((zs.map V.str).length : Int) = (zs.length : Int) := by rw [List.length_map]
            have i0 := drawZ_nn ns (k + 11) (show (0 : Int) < (zs.length : Int) + 1 by omega)
            have i1 := drawZ_lt ns (k + 11) (show (0 : Int) < (zs.length : Int) + 1 by omega)
            refine ⟨_, rfl, .inl ⟨rfl, _, SqL.of h2⟩, _, rfl, _, rfl, _, _, rfl, rfl, _, rfl, _, _, rfl, .inl ⟨_, SqL.of h2, rfl⟩, _, _, rfl, rfl, a, ns, _, _, rfl, s2.seq hS, hl, by omega, by omega, by rw [el]; omega, ?_⟩
            rw [el]
            refine ⟨_, rfl, _, rfl, _, _, rfl, rfl, a, ns, _, true, rfl, s2.seq hS, hl, by omega, by omega, fun H3 v d s3 fr sh nd => ?_⟩
            generalize drawZ ns (k + 11) ((zs.length : Int) + 1) = ix at i0 i1 ⊢
            refine ⟨D, _, ix, v, rfl, rfl, s3 _ _ h2, i0, by rw [List.length_map]; omega, by rw [List.length_map]; exact small1000 (by omega), ?_⟩
            have fr' : Dt K (upd H3 D (.lst (insV (zs.map V.str) ix.toNat v))) v d := fr _ fun b o hb e => by rw [upd_ne (fun z => by rw [z, h2] at hb; cases hb)]; exact e
            have eT : (zs.map V.str).take ix.toNat = (zs.take ix.toNat).map V.str := (List.map_take ..).symm
            have eD : (zs.map V.str).drop ix.toNat = (zs.drop ix.toNat).map V.str := (List.map_drop ..).symm
            have all : DtAll K (upd H3 D (.lst (insV (zs.map V.str) ix.toNat v))) (insV (zs.map V.str) ix.toNat v) ((zs.take ix.toNat).map PyData.str ++ d :: (zs.drop ix.toNat).map PyData.str) := by
              show DtAll K _ ((zs.map V.str).take ix.toNat ++ v :: (zs.map V.str).drop ix.toNat) _
              rw [eT, eD]
              exact DtAll.append (dt_strs _) (.cons fr' (dt_strs _))
            refine ⟨_, rfl, q _ _ _ ((s2.trans s3).on hD) (.lst (SqL.of upd_same) all) (fun ds e x hx => ?_) ?_⟩
            · cases e
              rcases List.mem_append.mp hx with h | h
              · obtain ⟨z, hz', rfl⟩ := List.mem_map.mp h
                exact shortS_str (by have := z8 z (List.mem_of_mem_take hz'); omega)
              · rcases List.mem_cons.mp h with rfl | h
                · exact sh
                · obtain ⟨z, hz', rfl⟩ := List.mem_map.mp h
                  exact shortS_str (by have := z8 z (List.mem_of_mem_drop hz'); omega)
            · show (_ && ((zs.take ix.toNat).map PyData.str ++ d :: (zs.drop ix.toNat).map PyData.str).all nameD) = false
              have : ((zs.take ix.toNat).map PyData.str ++ d :: (zs.drop ix.toNat).map PyData.str).all nameD = false := by
                rw [List.all_eq_false]
                exact ⟨d, by simp, by rw [nd]; decide⟩
              rw [this, Bool.and_false]
/-! ### the first one -/
abbrev F60 : Int := 10 ^ (60 : Int).toNat
def spLFirst (K : PySem.W.Frag) : Sp := fun vs H Q _ => ∃ (a : Addr) (ns : List Int) (k : Int) (b : Bool), vs = [.ref a, .int k, .bl b] ∧ SqL K H a (ns.map V.int) ∧ ns.length ≤ 63 ∧ 0 ≤ k ∧ k ≤ 900 ∧
  ∀ H' v d, Same H H' → Dt K H' v d → numD d = !b → Q v H'
theorem num_far {i : Int} (h : F60 ≤ i ∨ i ≤ -F60) : numD (.int i) = false := by
  show decide ((if i < 0 then -i else i) < F60) = false
  have pos : (0 : Int) < F60 := by decide +kernel
  generalize F60 = F at *
  rw [decide_eq_false_iff_not]
  split <;> omega
theorem sc_law_first : FnScope ["_law_script", "_law_k", "_law_bent", "_law_good", "_law_far", "_law_some"] ["_law_script", "_law_k", "_law_bent"] (defScope s_law_first) := ⟨rfl, rfl, rfl, by decide +kernel, rfl, by decide +kernel, by decide +kernel⟩
theorem k_law_first (T : Tops K mg) : Known P w K mg base CX0 2 "_law_first" ["_law_script", "_law_k", "_law_bent"] (spLFirst K) := by
  have G_law_drawn : Known P w K mg base CX0 1 "_law_drawn" ["_law_script", "_law_k", "_law_size"] (spDrawn K) := k_law_drawn T
  refine T.d_law_first.known sc_law_first (fun _ _ _ _ _ _ us hl => match us, hl with | [_, _, _], _ => rfl) (fun vs H Q E h => ?_) (fun f cdv A outer s H vs Q E hr h => ?_)
  · obtain ⟨a, ns, k, b, rfl, _⟩ := h
    rfl
  · obtain ⟨a, ns, k, b, rfl, hS, hl, h0, h1, q⟩ := h
    refine ⟨_, PSsw.run (pssw_cons (PSw.mk (ps_set (i := 3) sc_law_first.nd rfl (Or.inl rfl) (pe_ix ix_list (pew_lst (paw_k pew_int (paw_u (PEw.mk (pe_un un_neg pe_int)) (paw_b (PEw.mk (pe_op op_sub (pe_op op_pow pe_int pe_int) pe_int)) (paw_b (PEw.mk (pe_op op_sub pe_int (pe_op op_pow pe_int pe_int))) paw_nil))))).run (pe_callN G_law_drawn (hr.mono (by decide)) pass0 (pa_cons (pv 0) (pa_cons (pv 1) (pa_cons pe_int pa_nil)))) (fun _ _ => rfl))))
      (pssw_cons (PSw.mk (ps_if (pt_not (pt_val (pv 2) (fun _ => rfl))) (pss_one (ps_ret (pv 3))) pss_nil))
      (pssw_cons (PSw.mk (ps_set (i := 4) sc_law_first.nd rfl (Or.inl rfl) (pe_callN G_law_drawn (hr.mono (by decide)) pass0 (pa_cons (pv 0) (pa_cons (pe_op op_add (pv 1) pe_int) (pa_cons pe_int pa_nil))))))
      (pssw_cons (psw_set (i := 5) sc_law_first.nd rfl (Or.inl rfl) (pew_lst (paw_b (PEw.mk (pe_op op_add (pe_op op_pow pe_int pe_int) (pv 4))) (paw_b (PEw.mk (pe_op op_sub (pe_un un_neg (pe_op op_pow pe_int pe_int)) (pv 4))) (paw_k pew_bl (paw_k pew_bl (paw_k pew_non (paw_k pew_str (paw_k pew_str (paw_t (pew_tup (paw_k pew_str (paw_k pew_str paw_nil))) (paw_l (pew_lst (paw_k pew_int paw_nil)) (paw_d (PEw.mk (pe_disp (pps_cons pe_int pe_int pps_nil) rfl rfl (by simp) (by decide))) paw_nil))))))))))))
      (pssw_one (PSw.mk (ps_ret (pe_ix ix_list (pv 5) (pe_callN G_law_drawn (hr.mono (by decide)) pass0 (pa_cons (pv 0) (pa_cons (pe_op op_add (pv 1) pe_int) (pa_cons pe_int pa_nil)))) (fun _ _ => rfl))))))))), ?_⟩
    have c0 := drawZ_nn ns k (show (0 : Int) < 4 by decide)
    have c1 := drawZ_lt ns k (show (0 : Int) < 4 by decide)
    refine ⟨_, rfl, _, _, rfl, rfl, ⟨by decide, by decide, by decide⟩, _, _, rfl, rfl, _, _, rfl, rfl, ⟨by decide, by decide, by decide⟩, _, _, rfl, rfl, sl, fun l1 hl1 => ?_⟩
    have s1 := Same.new (o := .lst [.int 0, .int (-7), .int (F60 - 1), .int (1 - F60)]) hl1
    have all1 : DtAll K (upd H l1 (.lst [.int 0, .int (-7), .int (F60 - 1), .int (1 - F60)])) [.int 0, .int (-7), .int (F60 - 1), .int (1 - F60)] [.int 0, .int (-7), .int (F60 - 1), .int (1 - F60)] := .cons (.int _) (.cons (.int _) (.cons (.int _) (.cons (.int _) .nil)))
    obtain ⟨v, d, hat, hdm, hd⟩ := all1.pick c0 c1
    refine ⟨_, rfl, _, rfl, a, ns, k, 4, rfl, s1.seq hS, hl, h0, by omega, by decide, l1, _, _, v, rfl, rfl, SqL.of upd_same, hat, ?_⟩
    refine ⟨_, rfl, _, rfl, ?_⟩
    cases b with
    | false =>
      refine iteT ?_
      refine ⟨_, rfl, q _ v _ s1 hd ?_⟩
      have hm := List.mem_of_getElem? hdm
      simp only [List.mem_cons, List.not_mem_nil, or_false] at hm
      rcases hm with rfl | rfl | rfl | rfl <;> decide +kernel
    | true =>
      refine iteF ?_
      have f0 := drawZ_nn ns (k + 1) (show (0 : Int) < 999983 by decide)
      have e0 := drawZ_nn ns (k + 2) (show (0 : Int) < 10 by decide)
      have e1 := drawZ_lt ns (k + 2) (show (0 : Int) < 10 by decide)
      refine ⟨_, rfl, _, rfl, _, _, rfl, rfl, a, ns, _, 999983, rfl, s1.seq hS, hl, by omega, by omega, by decide, ?_⟩
      generalize drawZ ns (k + 1) 999983 = far at f0 ⊢
      refine ⟨_, _, rfl, rfl, ⟨by decide, by decide, by decide⟩, _, rfl, _, _, rfl, rfl, _, _, rfl, rfl, ⟨by decide, by decide, by decide⟩, _, rfl, _, rfl, _, _, rfl, rfl, sl, fun p1 h1' => ⟨sl, fun p2 h2' => fun p3 h3' => ⟨upd_same, [(.inl 1, .int 1)], rfl, by decide, sl, fun l2 hl2 => ?_⟩⟩⟩
      have u1 := Same.new (o := .tup [.str ("fault" : Str), .str ("a" : Str)]) h1'
      have u2 := Same.new (o := .lst [.int 1]) h2'
      have u3 := (Same.new (o := .dK []) h3').on (o := .dK (mergeK [] [(.inl 1, .int 1)])) h3'
      have u4 := Same.new (o := .lst [.int (F60 + far), .int (-F60 - far), .bl true, .bl false, .non, .str ("1" : Str), .str ("" : Str), .ref p1, .ref p2, .ref p3]) hl2
      have sA := (((s1.trans u1).trans u2).trans u3).trans u4
      have all2 : DtAll K _ [.int (F60 + far), .int (-F60 - far), .bl true, .bl false, .non, .str ("1" : Str), .str ("" : Str), .ref p1, .ref p2, .ref p3] [.int (F60 + far), .int (-F60 - far), .bool true, .bool false, .none, .str "1", .str "", .tuple [.str "fault", .str "a"], .list [.int 1], .dict []] :=
        .cons (.int _) (.cons (.int _) (.cons (.bl _) (.cons (.bl _) (.cons .non (.cons (.str _) (.cons (.str _) (.cons (.tup (SqT.of (((u2.trans u3).trans u4) _ _ upd_same)) (.cons (.str _) (.cons (.str _) .nil))) (.cons (.lst (SqL.of ((u3.trans u4) _ _ upd_same)) (.cons (.int _) .nil)) (.cons (.dK (u4 _ _ upd_same)) .nil)))))))))
      obtain ⟨v', d', hat', hdm', hd'⟩ := all2.pick e0 e1
      refine ⟨_, rfl, _, rfl, _, rfl, _, _, rfl, rfl, a, ns, _, 10, rfl, sA.seq hS, hl, by omega, by omega, by decide, l2, _, _, v', rfl, rfl, SqL.of upd_same, hat', q _ v' d' sA hd' ?_⟩
      have hm := List.mem_of_getElem? hdm'
      simp only [List.mem_cons, List.not_mem_nil, or_false] at hm
      have pos : (0 : Int) < F60 := by decide +kernel
      rcases hm with rfl | rfl | rfl | rfl | rfl | rfl | rfl | rfl | rfl | rfl
      · exact num_far (.inl (by omega))
      · exact num_far (.inr (by omega))
      all_goals rfl
end
end My

namespace My
open PySem L2
structure Cs where
  r : Addr
  c0 : Addr
  c1 : Addr
  c2 : Addr
  c3 : Addr
  c4 : Addr
structure Ys (K : PySem.W.Frag) (mg : Str → Option Value) (z : Cs) : Prop where
  r : TRule K mg z.r
  c0 : TCells K mg z.c0
  c1 : TAbove K mg z.c1
  c2 : TGroup K mg z.c2
  c3 : TLookup K mg z.c3
  c4 : TMend K mg z.c4
def clsOf (z : Cs) (k : Int) : Addr := if k = 0 then z.c0 else if k = 1 then z.c1 else if k = 2 then z.c2 else if k = 3 then z.c3 else z.c4
def verd (k : Int) (n0 n1 n2 s f : PyData) : Nat :=
  if k = 0 then (if namesD s = true then 0 else 1)
  else if k = 1 then (if namesD s = true then (if numD f = true then 0 else 2) else 1)
  else if k = 2 then (if (nameD n0 && nameD n1) = true then 0 else 1)
  else if k = 3 then (if (nameD n0 && nameD n1 && nameD n2 && namesD s) = true then 0 else 1)
  else (if nameD n0 = true then 0 else 1)
/-- what is handed on -/
structure Inp (K : PySem.W.Frag) (H : Hp) (a : Addr) (xs xf : V) (n0 n1 n2 s f : PyData) : Prop where
  nm : ∃ x0 x1 x2, SqL K H a [x0, x1, x2] ∧ Dt K H x0 n0 ∧ Dt K H x1 n1 ∧ Dt K H x2 n2
  so : Dt K H xs s
  fi : Dt K H xf f
  s0 : shortS n0
  s1 : shortS n1
  s2 : shortS n2
  ss : shL s
section
variable {P : Program} {w : World} {K : PySem.W.Frag} {mg : Str → Option Value} {base : Heap}
theorem made_sx {H H' : Hp} {g dg : Addr} {o u : HO} (hg : H g = none) (hdg : H dg = none) (b : SameX g (upd (upd H dg o) g u) H') : Same H H' := fun c q e => b c q (ne_of_none e hg) (by
  rw [upd_ne (ne_of_none e hg), upd_ne (ne_of_none e hdg)]
  exact e)
theorem made_same {H : Hp} {x dx : Addr} {o u : HO} (hx : H x = none) (hdx : H dx = none) : Same H (upd (upd H dx o) x u) := fun b q e => by
  rw [upd_ne (ne_of_none e hx), upd_ne (ne_of_none e hdx)]
  exact e
def spMade (K : PySem.W.Frag) (c : Ad) (z : Cs) : Sp := fun vs H Q E => ∃ (k : Int) (a : Addr) (xs xf xt : V) (n0 n1 n2 s f : PyData), vs = [.int k, .ref a, xs, xf, xt] ∧ Inp K H a xs xf n0 n1 n2 s f ∧
  (verd k n0 n1 n2 s f = 0 → ∀ H' p, Same H H' → InsOf (clsOf z k) p H' → Q (.ref p) H') ∧ (verd k n0 n1 n2 s f = 1 → ∀ H', Same H H' → E (.ref c.NoName) none H') ∧ (verd k n0 n1 n2 s f = 2 → ∀ H', Same H H' → E (.ref c.NoValue) none H')
theorem sc_law_made : FnScope ["_law_kind", "_law_names", "_law_some", "_law_first_here", "_law_thing"] ["_law_kind", "_law_names", "_law_some", "_law_first_here", "_law_thing"] (defScope s_law_made) := ⟨rfl, rfl, rfl, by decide +kernel, rfl, by decide +kernel, by decide +kernel⟩
theorem k_law_made (T : Tops K mg) {c : Ad} (X : Excs K mg c) {z : Cs} (Y : Ys K mg z) : Known P w K mg base (CXE P w) 6 "_law_made" ["_law_kind", "_law_names", "_law_some", "_law_first_here", "_law_thing"] (spMade K c z) := by
  have G0 : KnownI P w K mg base (CXE P w) 4 z.c0 ["self", "names", "function"] (spCellsE K c z.c0) := k_Cells_init T X Y.r Y.c0
  have G1 : KnownI P w K mg base (CXE P w) 4 z.c1 ["self", "first", "names", "function"] (spAboveE K c z.c1) := k_Above_init T X Y.r Y.c1
  have G2 : KnownI P w K mg base (CXE P w) 3 z.c2 ["self", "key", "name", "function"] (spGroupE K c z.c2) := k_Group_init T X Y.r Y.c2
  have G3 : KnownI P w K mg base (CXE P w) 4 z.c3 ["self", "key", "table", "theirs", "names", "function"] (spLookupE K c z.c3) := k_Lookup_init T X Y.r Y.c3
  have G4 : KnownI P w K mg base (CXE P w) 3 z.c4 ["self", "name", "function"] (spMendE K c z.c4) := k_Mend_init T X Y.r Y.c4
  refine T.d_law_made.knownE sc_law_made (fun _ _ _ _ _ _ us hl => match us, hl with | [_, _, _, _, _], _ => rfl) (fun vs H Q E h => ?_) (fun f cdv A outer s H vs Q E hr h => ?_)
  · obtain ⟨k, a, xs, xf, xt, n0, n1, n2, s, f, rfl, _⟩ := h
    rfl
  · obtain ⟨k, a, xs, xf, xt, n0, n1, n2, so, fi, rfl, I, q0, q1, q2⟩ := h
    obtain ⟨x0, x1, x2, hn, d0, d1, d2⟩ := I.nm
    refine ⟨_, (pss_cons (ps_if (pt_cmpR op_eq (pv 0) pe_int (nomark _)) (pss_one (ps_ret (pe_makeN G0 (hr.mono (by decide)) Y.c0.c passE (pa_cons (pv 2) (pa_cons (pv 4) pa_nil))))) pss_nil)
      (pss_cons (ps_if (pt_cmpR op_eq (pv 0) pe_int (nomark _)) (pss_one (ps_ret (pe_makeN G1 (hr.mono (by decide)) Y.c1.c passE (pa_cons (pv 3) (pa_cons (pv 2) (pa_cons (pv 4) pa_nil)))))) pss_nil)
      (pss_cons (ps_if (pt_cmpR op_eq (pv 0) pe_int (nomark _)) (pss_one (ps_ret (pe_makeN G2 (hr.mono (by decide)) Y.c2.c passE (pa_cons (pe_ix ix_list (pv 1) pe_int (fun _ _ => rfl)) (pa_cons (pe_ix ix_list (pv 1) pe_int (fun _ _ => rfl)) (pa_cons (pv 4) pa_nil)))))) pss_nil)
      (pss_cons (ps_if (pt_cmpR op_eq (pv 0) pe_int (nomark _)) (pss_one (ps_ret (pe_makeN G3 (hr.mono (by decide)) Y.c3.c passE (pa_cons (pe_ix ix_list (pv 1) pe_int (fun _ _ => rfl)) (pa_cons (pe_ix ix_list (pv 1) pe_int (fun _ _ => rfl)) (pa_cons (pe_ix ix_list (pv 1) pe_int (fun _ _ => rfl)) (pa_cons (pv 2) (pa_cons (pv 4) pa_nil)))))))) pss_nil)
      (pss_one (ps_ret (pe_makeN G4 (hr.mono (by decide)) Y.c4.c passE (pa_cons (pe_ix ix_list (pv 1) pe_int (fun _ _ => rfl)) (pa_cons (pv 4) pa_nil))))))))), ?_⟩
    have nk : ∀ {i j : Int}, ¬ (decide (V.int i = V.int j) = true) → i ≠ j := fun h e => h (by rw [e]; exact decide_eq_true rfl)
    have yk : ∀ {i j : Int}, decide (V.int i = V.int j) = true → i = j := fun h => V.int.inj (of_decide_eq_true h)
    refine ⟨_, rfl, rfl, _, rfl, ite2 (fun e => ?_) (fun e0 => ?_)⟩
    · have e := yk e
      subst e
      refine ⟨_, rfl, _, rfl, fun g dg hg hdg hne => ⟨g, dg, xs, xt, so, rfl, upd_same, I.so.same (made_same hg hdg), I.ss, fun h H' b i => ⟨rfl, q0 ?_ H' g (made_sx hg hdg b) i⟩, fun h H' b => q1 ?_ H' (made_sx hg hdg b)⟩⟩
      · show (if namesD so = true then 0 else 1) = 0
        rw [if_pos h]
      · show (if namesD so = true then 0 else 1) = 1
        rw [if_neg (by rw [h]; decide)]
    have e0 := nk e0
    refine ⟨_, rfl, rfl, _, rfl, ite2 (fun e => ?_) (fun e1 => ?_)⟩
    · have e := yk e
      subst e
      refine ⟨_, rfl, _, rfl, _, rfl, fun g dg hg hdg hne => ⟨g, dg, xf, xs, xt, fi, so, rfl, upd_same, I.fi.same (made_same hg hdg), I.so.same (made_same hg hdg), I.ss, fun h h' H' b i => ⟨rfl, q0 ?_ H' g (made_sx hg hdg b) i⟩, fun h H' b => q1 ?_ H' (made_sx hg hdg b), fun h h' H' b => q2 ?_ H' (made_sx hg hdg b)⟩⟩
      · show (if namesD so = true then (if numD fi = true then 0 else 2) else 1) = 0
        rw [if_pos h, if_pos h']
      · show (if namesD so = true then (if numD fi = true then 0 else 2) else 1) = 1
        rw [if_neg (by rw [h]; decide)]
      · show (if namesD so = true then (if numD fi = true then 0 else 2) else 1) = 2
        rw [if_pos h, if_neg (by rw [h']; decide)]
    have e1 := nk e1
    refine ⟨_, rfl, rfl, _, rfl, ite2 (fun e => ?_) (fun e2 => ?_)⟩
    · have e := yk e
      subst e
      refine ⟨_, rfl, a, _, 0, x0, rfl, rfl, hn, rfl, _, rfl, a, _, 1, x1, rfl, rfl, hn, rfl, _, rfl, fun g dg hg hdg hne => ⟨g, dg, x0, x1, xt, n0, n1, rfl, upd_same, d0.same (made_same hg hdg), d1.same (made_same hg hdg), I.s0, I.s1, fun h H' b i => ⟨rfl, q0 ?_ H' g (made_sx hg hdg b) i⟩, fun h H' b => q1 ?_ H' (made_sx hg hdg b)⟩⟩
      · show (if (nameD n0 && nameD n1) = true then 0 else 1) = 0
        rw [if_pos h]
      · show (if (nameD n0 && nameD n1) = true then 0 else 1) = 1
        rw [if_neg (by rw [h]; decide)]
    have e2 := nk e2
    refine ⟨_, rfl, rfl, _, rfl, ite2 (fun e => ?_) (fun e3 => ?_)⟩
    · have e := yk e
      subst e
      refine ⟨_, rfl, a, _, 0, x0, rfl, rfl, hn, rfl, _, rfl, a, _, 1, x1, rfl, rfl, hn, rfl, _, rfl, a, _, 2, x2, rfl, rfl, hn, rfl, _, rfl, _, rfl, fun g dg hg hdg hne => ⟨g, dg, x0, x1, x2, xs, xt, n0, n1, n2, so, rfl, upd_same, d0.same (made_same hg hdg), d1.same (made_same hg hdg), d2.same (made_same hg hdg), I.so.same (made_same hg hdg), I.s0, I.s1, I.s2, I.ss, fun h H' b i => ⟨rfl, q0 ?_ H' g (made_sx hg hdg b) i⟩, fun h H' b => q1 ?_ H' (made_sx hg hdg b)⟩⟩
      · show (if (nameD n0 && nameD n1 && nameD n2 && namesD so) = true then 0 else 1) = 0
        rw [if_pos h]
      · show (if (nameD n0 && nameD n1 && nameD n2 && namesD so) = true then 0 else 1) = 1
        rw [if_neg (by rw [h]; decide)]
    have e3 := nk e3
    have ev : verd k n0 n1 n2 so fi = if nameD n0 = true then 0 else 1 := by
      unfold verd
      rw [if_neg e0, if_neg e1, if_neg e2, if_neg e3]
    have ec : clsOf z k = z.c4 := by
      unfold clsOf
      rw [if_neg e0, if_neg e1, if_neg e2, if_neg e3]
    rw [ev, ec] at q0
    rw [ev] at q1
    refine ⟨_, rfl, a, _, 0, x0, rfl, rfl, hn, rfl, _, rfl, fun g dg hg hdg hne => ⟨g, dg, x0, xt, n0, rfl, upd_same, d0.same (made_same hg hdg), I.s0, fun h H' b i => ⟨rfl, q0 (if_pos h) H' g (made_sx hg hdg b) i⟩, fun h H' b => q1 (if_neg (by rw [h]; decide)) H' (made_sx hg hdg b)⟩⟩
end
end My

namespace My
open PySem L2
structure Fam (K : PySem.W.Frag) (z : Cs) (C : Addr) (k : Int) : Prop where
  cl : Cls K C
  ha : PySem.W.findIn K (.ref C) "__class__" = some (some (.builtin "object.__class__"))
  hn : PySem.W.specialIn K (.builtin "object.__class__") "__get__" = some (some (.builtin "getset_descriptor.__get__"))
  ht : PySem.W.takesIn K (.builtin "object.__class__") = some true
  hm : PySem.W.mroIn K C (.type "object") = some true
  up : PySem.W.kitOne K (.ref C) (.ref z.r) = some true
  i0 : PySem.W.kitOne K (.ref C) (.ref z.c0) = some (decide (k = 0))
  i1 : PySem.W.kitOne K (.ref C) (.ref z.c1) = some (decide (k = 1))
  i2 : PySem.W.kitOne K (.ref C) (.ref z.c2) = some (decide (k = 2))
  i3 : PySem.W.kitOne K (.ref C) (.ref z.c3) = some (decide (k = 3))
  i4 : PySem.W.kitOne K (.ref C) (.ref z.c4) = some (decide (k = 4))
theorem ref_inj {mg : Str → Option Value} {x : Str} {a b : Addr} (h : mg x = some (.ref a)) (h' : mg x = some (.ref b)) : a = b := by
  rw [h] at h'
  cases h'
  rfl
section
variable {P : Program} {w : World} {K : PySem.W.Frag} {mg : Str → Option Value} {base : Heap}
theorem fam0 {z : Cs} (Y : Ys K mg z) : Fam K z z.c0 0 := by
  obtain ⟨R, hR, kR, hm, hn, ht⟩ := Y.c0.up_Rule
  obtain ⟨D0, h0, k0⟩ := Y.c0.si_Cells
  obtain ⟨D1, h1, k1⟩ := Y.c0.si_Above
  obtain ⟨D2, h2, k2⟩ := Y.c0.si_Group
  obtain ⟨D3, h3, k3⟩ := Y.c0.si_Lookup
  obtain ⟨D4, h4, k4⟩ := Y.c0.si_Mend
  cases ref_inj hR Y.r.c
  cases ref_inj h0 Y.c0.c
  cases ref_inj h1 Y.c1.c
  cases ref_inj h2 Y.c2.c
  cases ref_inj h3 Y.c3.c
  cases ref_inj h4 Y.c4.c
  exact ⟨Y.c0.cl, Y.c0.hc, hn, ht, hm, kR, k0, k1, k2, k3, k4⟩
theorem fam1 {z : Cs} (Y : Ys K mg z) : Fam K z z.c1 1 := by
  obtain ⟨R, hR, kR, hm, hn, ht⟩ := Y.c1.up_Rule
  obtain ⟨D0, h0, k0⟩ := Y.c1.si_Cells
  obtain ⟨D1, h1, k1⟩ := Y.c1.si_Above
  obtain ⟨D2, h2, k2⟩ := Y.c1.si_Group
  obtain ⟨D3, h3, k3⟩ := Y.c1.si_Lookup
  obtain ⟨D4, h4, k4⟩ := Y.c1.si_Mend
  cases ref_inj hR Y.r.c
  cases ref_inj h0 Y.c0.c
  cases ref_inj h1 Y.c1.c
  cases ref_inj h2 Y.c2.c
  cases ref_inj h3 Y.c3.c
  cases ref_inj h4 Y.c4.c
  exact ⟨Y.c1.cl, Y.c1.hc, hn, ht, hm, kR, k0, k1, k2, k3, k4⟩
theorem fam2 {z : Cs} (Y : Ys K mg z) : Fam K z z.c2 2 := by
  obtain ⟨R, hR, kR, hm, hn, ht⟩ := Y.c2.up_Rule
  obtain ⟨D0, h0, k0⟩ := Y.c2.si_Cells
  obtain ⟨D1, h1, k1⟩ := Y.c2.si_Above
  obtain ⟨D2, h2, k2⟩ := Y.c2.si_Group
  obtain ⟨D3, h3, k3⟩ := Y.c2.si_Lookup
  obtain ⟨D4, h4, k4⟩ := Y.c2.si_Mend
  cases ref_inj hR Y.r.c
  cases ref_inj h0 Y.c0.c
  cases ref_inj h1 Y.c1.c
  cases ref_inj h2 Y.c2.c
  cases ref_inj h3 Y.c3.c
  cases ref_inj h4 Y.c4.c
  exact ⟨Y.c2.cl, Y.c2.hc, hn, ht, hm, kR, k0, k1, k2, k3, k4⟩
theorem fam3 {z : Cs} (Y : Ys K mg z) : Fam K z z.c3 3 := by
  obtain ⟨R, hR, kR, hm, hn, ht⟩ := Y.c3.up_Rule
  obtain ⟨D0, h0, k0⟩ := Y.c3.si_Cells
  obtain ⟨D1, h1, k1⟩ := Y.c3.si_Above
  obtain ⟨D2, h2, k2⟩ := Y.c3.si_Group
  obtain ⟨D3, h3, k3⟩ := Y.c3.si_Lookup
  obtain ⟨D4, h4, k4⟩ := Y.c3.si_Mend
  cases ref_inj hR Y.r.c
  cases ref_inj h0 Y.c0.c
  cases ref_inj h1 Y.c1.c
  cases ref_inj h2 Y.c2.c
  cases ref_inj h3 Y.c3.c
  cases ref_inj h4 Y.c4.c
  exact ⟨Y.c3.cl, Y.c3.hc, hn, ht, hm, kR, k0, k1, k2, k3, k4⟩
theorem fam4 {z : Cs} (Y : Ys K mg z) : Fam K z z.c4 4 := by
  obtain ⟨R, hR, kR, hm, hn, ht⟩ := Y.c4.up_Rule
  obtain ⟨D0, h0, k0⟩ := Y.c4.si_Cells
  obtain ⟨D1, h1, k1⟩ := Y.c4.si_Above
  obtain ⟨D2, h2, k2⟩ := Y.c4.si_Group
  obtain ⟨D3, h3, k3⟩ := Y.c4.si_Lookup
  obtain ⟨D4, h4, k4⟩ := Y.c4.si_Mend
  cases ref_inj hR Y.r.c
  cases ref_inj h0 Y.c0.c
  cases ref_inj h1 Y.c1.c
  cases ref_inj h2 Y.c2.c
  cases ref_inj h3 Y.c3.c
  cases ref_inj h4 Y.c4.c
  exact ⟨Y.c4.cl, Y.c4.hc, hn, ht, hm, kR, k0, k1, k2, k3, k4⟩
theorem fam_of {z : Cs} (Y : Ys K mg z) {k : Int} (h0 : 0 ≤ k) (h5 : k < 5) : Fam K z (clsOf z k) k := by
  have : k = 0 ∨ k = 1 ∨ k = 2 ∨ k = 3 ∨ k = 4 := by omega
  rcases this with rfl | rfl | rfl | rfl | rfl
  · exact fam0 Y
  · exact fam1 Y
  · exact fam2 Y
  · exact fam3 Y
  · exact fam4 Y
theorem Fam.ty {z : Cs} {C p : Addr} {k : Int} {H : Hp} (F : Fam K z C k) (h : InsOf C p H) : TyOf K H (.ref p) (.ref C) := by
  obtain ⟨dx, fs, e⟩ := h
  exact .ins e F.cl F.ha F.hn F.ht F.hm
theorem InsOf.same {C p : Addr} {H H' : Hp} (s : Same H H') (h : InsOf C p H) : InsOf C p H' := by
  obtain ⟨dx, fs, e⟩ := h
  exact ⟨dx, fs, s _ _ e⟩
theorem beq_k (i : Nat) (k : Int) : decide (V.int (0 + (i : Int)) = V.int k) = decide (k = (i : Int)) := by
  by_cases h : k = (i : Int)
  · rw [decide_eq_true h, h, Int.zero_add]
    exact decide_eq_true rfl
  · rw [decide_eq_false h, Int.zero_add]
    exact decide_eq_false fun e => h (V.int.inj e).symm
theorem lay_bools (b0 b1 b2 b3 b4 : Bool) : (PyData.list [.bool b0, .bool b1, .bool b2, .bool b3, .bool b4]).canLay0 = true ∧ (PyData.list [.bool b0, .bool b1, .bool b2, .bool b3, .bool b4]).depth ≤ 64 := by
  cases b0 <;> cases b1 <;> cases b2 <;> cases b3 <;> cases b4 <;> exact ⟨by decide +kernel, by decide +kernel⟩
def wordOf : Nat → Str
  | 0 => "made"
  | 1 => "name"
  | _ => "value"
def spAsked (K : PySem.W.Frag) : Sp := fun vs H Q _ => ∃ (k : Int) (a : Addr) (xs xf xt : V) (n0 n1 n2 s f : PyData), vs = [.int k, .ref a, xs, xf, xt] ∧ 0 ≤ k ∧ k < 5 ∧ Inp K H a xs xf n0 n1 n2 s f ∧ ∀ H', Same H H' → Q (.str (wordOf (verd k n0 n1 n2 s f))) H'
abbrev Nask : List Str := ["_law_kind", "_law_names", "_law_some", "_law_first_here", "_law_thing", "_law_made_here", "_law_kept", "e", "_law_kinds"]
theorem sc_law_asked : FnScope Nask ["_law_kind", "_law_names", "_law_some", "_law_first_here", "_law_thing"] (defScope s_law_asked) := ⟨rfl, rfl, rfl, by decide +kernel, rfl, by decide +kernel, by decide +kernel⟩
theorem k_law_asked (T : Tops K mg) {c : Ad} (X : Excs K mg c) {z : Cs} (Y : Ys K mg z) : Known P w K mg base CX0 7 "_law_asked" ["_law_kind", "_law_names", "_law_some", "_law_first_here", "_law_thing"] (spAsked K) := by
  have G_law_made : Known P w K mg base (CXE P w) 6 "_law_made" ["_law_kind", "_law_names", "_law_some", "_law_first_here", "_law_thing"] (spMade K c z) := k_law_made T X Y
  refine T.d_law_asked.known sc_law_asked (fun _ _ _ _ _ _ us hl => match us, hl with | [_, _, _, _, _], _ => rfl) (fun vs H Q E h => ?_) (fun f cdv A outer s H vs Q E hr h => ?_)
  · obtain ⟨k, a, xs, xf, xt, n0, n1, n2, s, f, rfl, _⟩ := h
    rfl
  · obtain ⟨k, a, xs, xf, xt, n0, n1, n2, so, fi, rfl, k0, k5, I, q⟩ := h
    have F := fam_of Y k0 k5
    have hcl : ∀ x, (cxOf CX0 P w K mg base Nask "_law_asked" (defScope s_law_asked) f cdv A outer s H E).nox.env.scope.names.lookup x = some .cell → ∃ c, (cxOf CX0 P w K mg base Nask "_law_asked" (defScope s_law_asked) f cdv A outer s H E).nox.env.cells.lookup x = some c := fun x hx => Option.isSome_iff_exists.mp (PySem.W.cellsFrom_some _ _ _ (.inl hx))
    refine ⟨_, PSsw.run (pssw_cons (PSw.mk (ps_set (i := 5) sc_law_asked.nd rfl (Or.inl rfl) pe_non))
      (pssw_cons (PSw.mk (ps_set (i := 6) sc_law_asked.nd rfl (Or.inl rfl) pe_non))
      (pssw_cons (PSw.mk (ps_try (j := 7) rfl rfl rfl sc_law_asked.nd rfl rfl X.c_ColsError (fun pn E' E1 hp => pss_one (ps_set (i := 5) sc_law_asked.nd rfl (Or.inl rfl) (pe_callN G_law_made (hr.mono (by decide)) hp (pa_cons (pv 0) (pa_cons (pv 1) (pa_cons (pv 2) (pa_cons (pv 3) (pa_cons (pv 4) pa_nil)))))))) (fun ea => pss_one (ps_set (i := 6) sc_law_asked.nd rfl (Or.inl rfl) (pv 7)))))
      (pssw_cons (PSw.mk (ps_if (pt_cmpR op_isN (pv 6) pe_non (nomark _)) (pss_cons (ps_set (i := 8) sc_law_asked.nd rfl (Or.inl rfl) (pe_lst (pa_cons (pe_callB call_isC rfl T.isinstance b_isinstance (pa_cons (pv 5) (pa_cons (pe_gR Y.c0.c) pa_nil))) (pa_cons (pe_callB call_isC rfl T.isinstance b_isinstance (pa_cons (pv 5) (pa_cons (pe_gR Y.c1.c) pa_nil))) (pa_cons (pe_callB call_isC rfl T.isinstance b_isinstance (pa_cons (pv 5) (pa_cons (pe_gR Y.c2.c) pa_nil))) pa_nil)))))
      (pss_cons (ps_set (i := 8) sc_law_asked.nd rfl (Or.inl rfl) (pe_op op_cat (pv 8) (pe_lst (pa_cons (pe_callB call_isC rfl T.isinstance b_isinstance (pa_cons (pv 5) (pa_cons (pe_gR Y.c3.c) pa_nil))) (pa_cons (pe_callB call_isC rfl T.isinstance b_isinstance (pa_cons (pv 5) (pa_cons (pe_gR Y.c4.c) pa_nil))) pa_nil)))))
      (pss_cons (ps_if (PW.pt (pw_and (pt_val (pe_callB call_isC rfl T.isinstance b_isinstance (pa_cons (pv 5) (pa_cons (pe_gR Y.r.c) pa_nil))) (fun _ => rfl)) (pw_and1 (pt_cmpR (op_eqD hr.units) (pv 8) (pe_comp (caps_of (sc := defScope s_law_asked) (N := Nask) (cp := [(0, "_law_kind")]) hcl) rfl rfl (by decide) (pi_range1 rfl T.range (pa_cons pe_int pa_nil)) (fun _ _ _ _ _ => pts_nil) (fun _ _ _ _ _ => (pe_cmpR op_eq (pv 0) (pv 1) (nomark _)))) (nomark _))))) (pss_one (ps_ret pe_str)) pss_nil)
      (pss_one (ps_ret pe_str))))) pss_nil))
      (pssw_cons (PSw.mk (ps_if (pt_not (pt_val (pe_callB call_isX rfl T.isinstance b_isinstance (pa_cons (pv 6) (pa_cons (pe_ty T.ValueError b_ValueError) pa_nil))) (fun _ => rfl))) (pss_one (ps_ret pe_str)) pss_nil))
      (pssw_cons (PSw.mk (ps_if (pt_val (pe_callB call_isXT rfl T.isinstance b_isinstance (pa_cons (pv 6) (pa_cons (pe_tup (pa_cons (pe_gR X.c_NoBack) (pa_cons (pe_gR X.c_NoColumn) (pa_cons (pe_gR X.c_NoPlace) (pa_cons (pe_gR X.c_NoRow) (pa_cons (pe_gR X.c_NoSize) (pa_cons (pe_gR X.c_NoTable) (pa_cons (pe_gR X.c_NoText) pa_nil)))))))) pa_nil))) (fun _ => rfl)) (pss_one (ps_ret pe_str)) pss_nil))
      (pssw_cons (PSw.mk (ps_if (pt_val (pe_callB call_isXT rfl T.isinstance b_isinstance (pa_cons (pv 6) (pa_cons (pe_tup (pa_cons (pe_gR X.c_Nobody) (pa_cons (pe_gR X.c_Ring) (pa_cons (pe_gR X.c_Ruled) (pa_cons (pe_gR X.c_Several) (pa_cons (pe_gR X.c_TooMuch) pa_nil)))))) pa_nil))) (fun _ => rfl)) (pss_one (ps_ret pe_str)) pss_nil))
      (pssw_one (PSw.mk (ps_ret (pe_ix ix_list (pe_lst (pa_cons pe_str (pa_cons pe_str (pa_cons pe_str (pa_cons pe_str pa_nil))))) (pe_op op_add (pe_callTy call_int1 rfl T.int b_int (pa_cons (pe_callB call_isX rfl T.isinstance b_isinstance (pa_cons (pv 6) (pa_cons (pe_gR X.c_NoName) pa_nil))) pa_nil)) (pe_op op_mul pe_int (pe_callTy call_int1 rfl T.int b_int (pa_cons (pe_callB call_isX rfl T.isinstance b_isinstance (pa_cons (pv 6) (pa_cons (pe_gR X.c_NoValue) pa_nil))) pa_nil)))) (fun _ _ => rfl)))))))))))), ?_⟩
    refine ⟨_, rfl, _, rfl, _, rfl, _, rfl, _, rfl, k, a, xs, xf, xt, n0, n1, n2, so, fi, rfl, I, fun hv H1 p s1 hi => ?_, fun hv H1 s1 => ?_, fun hv H1 s1 => ?_⟩
    · -- made
      refine ⟨_, rfl, rfl, _, rfl, ite2 (fun _ => ?_) (fun g => absurd (decide_eq_true rfl) g)⟩
      have ty := F.ty hi
      refine ⟨_, rfl, _, z.c0, _, _, rfl, ty, F.i0, _, rfl, _, z.c1, _, _, rfl, ty, F.i1, _, rfl, _, z.c2, _, _, rfl, ty, F.i2, sl, fun l1 hl1 => ?_⟩
      have u1 := Same.new (o := .lst [.bl (decide (k = 0)), .bl (decide (k = 1)), .bl (decide (k = 2))]) hl1
      have ty1 := F.ty (hi.same u1)
      refine ⟨_, rfl, _, rfl, _, z.c3, _, _, rfl, ty1, F.i3, _, rfl, _, z.c4, _, _, rfl, ty1, F.i4, sl, fun l2 hl2 => ?_⟩
      have u2 := Same.new (o := .lst [.bl (decide (k = 3)), .bl (decide (k = 4))]) hl2
      refine ⟨l1, l2, _, _, rfl, rfl, u2 _ _ upd_same, upd_same, sl, fun l3 hl3 => ?_⟩
      have u3 := Same.new (o := .lst ([.bl (decide (k = 0)), .bl (decide (k = 1)), .bl (decide (k = 2))] ++ [.bl (decide (k = 3)), .bl (decide (k = 4))])) hl3
      have uA := (u1.trans u2).trans u3
      have g3 := upd_same (H := upd (upd H1 l1 (.lst [.bl (decide (k = 0)), .bl (decide (k = 1)), .bl (decide (k = 2))])) l2 (.lst [.bl (decide (k = 3)), .bl (decide (k = 4))])) (a := l3) (o := .lst ([.bl (decide (k = 0)), .bl (decide (k = 1)), .bl (decide (k = 2))] ++ [.bl (decide (k = 3)), .bl (decide (k = 4))]))
      generalize upd (upd (upd H1 l1 (.lst [.bl (decide (k = 0)), .bl (decide (k = 1)), .bl (decide (k = 2))])) l2 (.lst [.bl (decide (k = 3)), .bl (decide (k = 4))])) l3 (.lst ([.bl (decide (k = 0)), .bl (decide (k = 1)), .bl (decide (k = 2))] ++ [.bl (decide (k = 3)), .bl (decide (k = 4))])) = H2 at uA g3 ⊢
      refine ⟨_, rfl, _, z.r, _, _, rfl, F.ty (hi.same uA), F.up, _, rfl, iteT ?_⟩
      refine ⟨_, rfl, 5, rfl, by decide, by decide, fun D hD => ?_⟩
      refine comp_range (lo := 0) (n := 5) (fun i ys H3 => ys = (List.range i).map (fun (j : Nat) => V.bl (decide (k = (j : Int)))) ∧ Same H2 H3) ⟨rfl, Same.new hD⟩ ?_ ?_
      · rintro i ys H3 hi5 h3 ⟨rfl, s3⟩
        refine ⟨_, rfl, _, rfl, rfl, h3, ?_, ?_, s3.on hD⟩
        · rw [List.length_map, List.length_range]
          exact small1000 (by omega)
        · rw [List.range_succ, List.map_append, beq_k]
          rfl
      · rintro ys H3 h3 ⟨rfl, s3⟩
        obtain ⟨ly, dp⟩ := lay_bools (decide (k = 0)) (decide (k = 1)) (decide (k = 2)) (decide (k = 3)) (decide (k = 4))
        refine ⟨.list [.bool (decide (k = 0)), .bool (decide (k = 1)), .bool (decide (k = 2)), .bool (decide (k = 3)), .bool (decide (k = 4))], .list [.bool (decide (k = 0)), .bool (decide (k = 1)), .bool (decide (k = 2)), .bool (decide (k = 3)), .bool (decide (k = 4))], .lst (SqL.of (s3 _ _ g3)) (.cons (.bl _) (.cons (.bl _) (.cons (.bl _) (.cons (.bl _) (.cons (.bl _) .nil))))), .lst (SqL.of h3) (.cons (.bl _) (.cons (.bl _) (.cons (.bl _) (.cons (.bl _) (.cons (.bl _) .nil))))), ly, ly, dp, _, rfl, ?_⟩
        rw [SeqAt.eqv_refl _ ly]
        refine iteT ?_
        have qq := q _ ((s1.trans uA).trans s3)
        rw [hv] at qq
        exact qq
    · -- NoName
      refine ⟨X.e_NoName_ColsError, fun ea hea => ⟨_, rfl, ?_⟩⟩
      have he : (upd H1 ea (excO ea (.ref c.NoName))) ea = some (excO ea (.ref c.NoName)) := upd_same
      have s2 := s1.trans (Same.new (o := excO ea (.ref c.NoName)) hea)
      generalize upd H1 ea (excO ea (.ref c.NoName)) = H2 at he s2 ⊢
      refine ⟨_, rfl, rfl, _, rfl, ite2 (fun g => absurd (of_decide_eq_true g) (by intro z; cases z)) (fun _ => ?_)⟩
      refine ⟨_, rfl, ea, c.NoName, _, _, _, rfl, he, X.k_NoName, .inr ⟨_, rfl, rfl⟩, X.v_NoName, _, rfl, iteF ?_⟩
      refine ⟨_, rfl, sl, fun t1 ht1 => ?_⟩
      have he := (Same.new (o := .tup ([c.NoBack, c.NoColumn, c.NoPlace, c.NoRow, c.NoSize, c.NoTable, c.NoText].map V.ref)) ht1) _ _ he
      have s2 := s2.trans (Same.new (o := .tup ([c.NoBack, c.NoColumn, c.NoPlace, c.NoRow, c.NoSize, c.NoTable, c.NoText].map V.ref)) ht1)
      refine ⟨ea, c.NoName, t1, [c.NoBack, c.NoColumn, c.NoPlace, c.NoRow, c.NoSize, c.NoTable, c.NoText], rfl, he, X.k_NoName, upd_same, (fun D hD => ?_), _, rfl, iteF ?_⟩
      · simp only [List.mem_cons, List.not_mem_nil, or_false] at hD
        rcases hD with rfl | rfl | rfl | rfl | rfl | rfl | rfl
        · exact X.i_NoName_NoBack
        · exact X.i_NoName_NoColumn
        · exact X.i_NoName_NoPlace
        · exact X.i_NoName_NoRow
        · exact X.i_NoName_NoSize
        · exact X.i_NoName_NoTable
        · exact X.i_NoName_NoText
      refine ⟨_, rfl, sl, fun t2 ht2 => ?_⟩
      have he := (Same.new (o := .tup ([c.Nobody, c.Ring, c.Ruled, c.Several, c.TooMuch].map V.ref)) ht2) _ _ he
      have s2 := s2.trans (Same.new (o := .tup ([c.Nobody, c.Ring, c.Ruled, c.Several, c.TooMuch].map V.ref)) ht2)
      refine ⟨ea, c.NoName, t2, [c.Nobody, c.Ring, c.Ruled, c.Several, c.TooMuch], rfl, he, X.k_NoName, upd_same, (fun D hD => ?_), _, rfl, iteF ?_⟩
      · simp only [List.mem_cons, List.not_mem_nil, or_false] at hD
        rcases hD with rfl | rfl | rfl | rfl | rfl
        · exact X.i_NoName_Nobody
        · exact X.i_NoName_Ring
        · exact X.i_NoName_Ruled
        · exact X.i_NoName_Several
        · exact X.i_NoName_TooMuch
      refine ⟨sl, fun l hl' => ?_⟩
      have he := (Same.new (o := .lst [.str ("odd" : Str), .str ("name" : Str), .str ("value" : Str), .str ("odd" : Str)]) hl') _ _ he
      have s2 := s2.trans (Same.new (o := .lst [.str ("odd" : Str), .str ("name" : Str), .str ("value" : Str), .str ("odd" : Str)]) hl')
      refine ⟨_, rfl, ea, c.NoName, _, _, _, rfl, he, X.k_NoName, .inl ⟨_, rfl, rfl⟩, X.i_NoName_NoName, .inr ⟨_, rfl, ?_⟩⟩
      refine ⟨_, rfl, ea, c.NoName, _, _, _, rfl, he, X.k_NoName, .inl ⟨_, rfl, rfl⟩, X.i_NoName_NoValue, .inr ⟨_, rfl, _, _, rfl, rfl, .inl ⟨by decide, by decide⟩, _, _, rfl, rfl, ?_⟩⟩
      refine ⟨l, _, _, .str "name", rfl, rfl, SqL.of upd_same, rfl, ?_⟩
      have qq := q _ s2
      rw [hv] at qq
      exact qq
    · -- NoValue
      refine ⟨X.e_NoValue_ColsError, fun ea hea => ⟨_, rfl, ?_⟩⟩
      have he : (upd H1 ea (excO ea (.ref c.NoValue))) ea = some (excO ea (.ref c.NoValue)) := upd_same
      have s2 := s1.trans (Same.new (o := excO ea (.ref c.NoValue)) hea)
      generalize upd H1 ea (excO ea (.ref c.NoValue)) = H2 at he s2 ⊢
      refine ⟨_, rfl, rfl, _, rfl, ite2 (fun g => absurd (of_decide_eq_true g) (by intro z; cases z)) (fun _ => ?_)⟩
      refine ⟨_, rfl, ea, c.NoValue, _, _, _, rfl, he, X.k_NoValue, .inr ⟨_, rfl, rfl⟩, X.v_NoValue, _, rfl, iteF ?_⟩
      refine ⟨_, rfl, sl, fun t1 ht1 => ?_⟩
      have he := (Same.new (o := .tup ([c.NoBack, c.NoColumn, c.NoPlace, c.NoRow, c.NoSize, c.NoTable, c.NoText].map V.ref)) ht1) _ _ he
      have s2 := s2.trans (Same.new (o := .tup ([c.NoBack, c.NoColumn, c.NoPlace, c.NoRow, c.NoSize, c.NoTable, c.NoText].map V.ref)) ht1)
      refine ⟨ea, c.NoValue, t1, [c.NoBack, c.NoColumn, c.NoPlace, c.NoRow, c.NoSize, c.NoTable, c.NoText], rfl, he, X.k_NoValue, upd_same, (fun D hD => ?_), _, rfl, iteF ?_⟩
      · simp only [List.mem_cons, List.not_mem_nil, or_false] at hD
        rcases hD with rfl | rfl | rfl | rfl | rfl | rfl | rfl
        · exact X.i_NoValue_NoBack
        · exact X.i_NoValue_NoColumn
        · exact X.i_NoValue_NoPlace
        · exact X.i_NoValue_NoRow
        · exact X.i_NoValue_NoSize
        · exact X.i_NoValue_NoTable
        · exact X.i_NoValue_NoText
      refine ⟨_, rfl, sl, fun t2 ht2 => ?_⟩
      have he := (Same.new (o := .tup ([c.Nobody, c.Ring, c.Ruled, c.Several, c.TooMuch].map V.ref)) ht2) _ _ he
      have s2 := s2.trans (Same.new (o := .tup ([c.Nobody, c.Ring, c.Ruled, c.Several, c.TooMuch].map V.ref)) ht2)
      refine ⟨ea, c.NoValue, t2, [c.Nobody, c.Ring, c.Ruled, c.Several, c.TooMuch], rfl, he, X.k_NoValue, upd_same, (fun D hD => ?_), _, rfl, iteF ?_⟩
      · simp only [List.mem_cons, List.not_mem_nil, or_false] at hD
        rcases hD with rfl | rfl | rfl | rfl | rfl
        · exact X.i_NoValue_Nobody
        · exact X.i_NoValue_Ring
        · exact X.i_NoValue_Ruled
        · exact X.i_NoValue_Several
        · exact X.i_NoValue_TooMuch
      refine ⟨sl, fun l hl' => ?_⟩
      have he := (Same.new (o := .lst [.str ("odd" : Str), .str ("name" : Str), .str ("value" : Str), .str ("odd" : Str)]) hl') _ _ he
      have s2 := s2.trans (Same.new (o := .lst [.str ("odd" : Str), .str ("name" : Str), .str ("value" : Str), .str ("odd" : Str)]) hl')
      refine ⟨_, rfl, ea, c.NoValue, _, _, _, rfl, he, X.k_NoValue, .inl ⟨_, rfl, rfl⟩, X.i_NoValue_NoName, .inr ⟨_, rfl, ?_⟩⟩
      refine ⟨_, rfl, ea, c.NoValue, _, _, _, rfl, he, X.k_NoValue, .inl ⟨_, rfl, rfl⟩, X.i_NoValue_NoValue, .inr ⟨_, rfl, _, _, rfl, rfl, .inl ⟨by decide, by decide⟩, _, _, rfl, rfl, ?_⟩⟩
      refine ⟨l, _, _, .str "value", rfl, rfl, SqL.of upd_same, rfl, ?_⟩
      have qq := q _ s2
      rw [hv] at qq
      exact qq
end
end My

namespace L2
open PySem PySem.Spec PyProof.Rows
theorem Fun.okT {P : Program} {w : World} {K : PySem.W.Frag} {mg : Str → Option Value} {base : Heap} {x qual : Str} {st : Stmt} {f c : Addr} {fd : FuncData} {N ps : List Str} {k : Nat} {sp : Sp} (F : Fun K x qual st f fd) (hc : fd.code = .ref c) (S : FnScope N ps (defScope st)) (len : ∀ vs H Q E, sp vs H Q E → vs.length = ps.length)
    (hbody : ∀ (A : Around) (outer : List Env) (s : Shared) (H : Hp) (vs : List V) (Q : VK) (E : XK), Room k (A.deeper (envOfC qual (defScope st) s.heap.objs.size f (.ref c))) → sp vs H Q E →
      ∃ t, PSs (cxOf CX0 P w K mg base N qual (defScope st) f (.ref c) A outer s H E).nox (defBody st) t ∧ t { nx := fun _ H' => Q .non H', rt := Q } (start N vs) H) : FnOk P w K mg base CX0 (k + 1) f fd ps sp := by
  obtain ⟨oc, od, kV, doc, pm, an, cdv, ct, osl, rfl, lk, hcd⟩ := F.ex
  have e : cdv = .ref c := hc
  subst e
  refine fn_of lk hcd S len fun A outer s H vs Q E hr hsp => ?_
  obtain ⟨t, h, q⟩ := hbody A outer s H vs Q E hr hsp
  exact ⟨t, h.nox, q⟩
end L2
namespace My
open PySem L2
theorem b_max : bootBuiltins "max" = some (.builtin "max") := by kernel_rfl
abbrev qLaw : Str := ("law" : Str) ++ ".<locals>." ++ "<lambda>"
def spLaw (K : PySem.W.Frag) (tabs : List (Addr × Addr)) : Sp := fun vs H Q _ => ∃ (a : Addr) (ns : List Int), vs = [.ref a] ∧ SqL K H a (ns.map V.int) ∧ ns.length ≤ 63 ∧ TabsIn0 tabs H ∧ ∀ H', TabsOut tabs H' → Q (.bl true) H'
theorem cutA {G : Prop} {N : St → Hp → Prop} (Pv : St → Hp → Prop) (h : ∀ σ H, Pv σ H → N σ H) (k : (∀ σ H, Pv σ H → N σ H) → G) : G := k h
theorem tabIn_same {q : Str} {H H' : Hp} {P : Addr} (s : Same H H') (h : TabIn q H P) : TabIn q H' P := by
  obtain ⟨S, e, f⟩ := h
  exact ⟨S, s _ _ e, fun c hc => let ⟨o, e1, e2⟩ := f c hc; ⟨o, s _ _ e1, e2⟩⟩
theorem orv {ta tb : TE} {σ : St} {H : Hp} {Q : VK} {b c : Bool} (ha : ∀ Q' : VK, Q' (.bl b) H → ta σ H Q') (hb : ∀ Q' : VK, Q' (.bl c) H → tb σ H Q') (h : Q (.bl (b || c)) H) : tOrV ta tb σ H Q := by
  refine ha _ ⟨b, rfl, ?_⟩
  cases b
  · exact iteF (hb _ h)
  · exact iteT h
def wrongB (k : Int) (b0 b1 b2 b3 : Bool) : Bool := if k = 0 then b3 else if k = 1 then b3 else if k = 2 then b0 || b1 else if k = 3 then b0 || (b1 || (b2 || b3)) else b0
theorem wrong_at {k : Int} (h0 : 0 ≤ k) (h5 : k < 5) (b0 b1 b2 b3 : Bool) : atI [V.bl b3, .bl b3, .bl (b0 || b1), .bl (b0 || (b1 || (b2 || b3))), .bl b0] k = some (.bl (wrongB k b0 b1 b2 b3)) := by
  have : k = 0 ∨ k = 1 ∨ k = 2 ∨ k = 3 ∨ k = 4 := by omega
  rcases this with rfl | rfl | rfl | rfl | rfl <;> rfl
theorem word_due {k : Int} (h0 : 0 ≤ k) (h5 : k < 5) {b0 b1 b2 b3 b4 : Bool} {n0 n1 n2 s f : PyData} (e0 : nameD n0 = !b0) (e1 : nameD n1 = !b1) (e2 : nameD n2 = !b2) (e3 : namesD s = !b3) (e4 : numD f = !b4) :
    wordOf (verd k n0 n1 n2 s f) = if wrongB k b0 b1 b2 b3 = true then "name" else if k = 1 ∧ b4 = true then "value" else "made" := by
  have : k = 0 ∨ k = 1 ∨ k = 2 ∨ k = 3 ∨ k = 4 := by omega
  rcases this with rfl | rfl | rfl | rfl | rfl <;> simp only [verd, wrongB, e0, e1, e2, e3, e4] <;> cases b0 <;> cases b1 <;> cases b2 <;> cases b3 <;> cases b4 <;> rfl
theorem six_at {l0 : Addr} {x0 : V} {i : Int} (h0 : 0 ≤ i) (h6 : i < 6) : ∃ v, atI [x0, .non, .int 5, .str ("a" : Str), .ref l0, .bl true] i = some v := by
  obtain ⟨v, h, _⟩ := at_some [x0, .non, .int 5, .str ("a" : Str), .ref l0, .bl true] i h0 (by exact h6)
  exact ⟨v, h⟩
theorem Frh.keep {K : PySem.W.Frag} {G H H' : Hp} {v : V} {d : PyData} (h : Frh K G H v d) (k : ∀ b o, G b = none → H b = some o → H' b = some o) : Frh K G H' v d := fun H'' e => h H'' fun b o hb e' => e b o hb (k b o hb e')
theorem Frh.up {K : PySem.W.Frag} {G H1 H : Hp} {v : V} {d : PyData} (h : Frh K H1 H v d) (k : ∀ b, H1 b = none → G b = none) : Frh K G H v d := fun H'' e => h H'' fun b o hb e' => e b o (k b hb) e'
theorem frhs_keep {K : PySem.W.Frag} {G H H' : Hp} (k : ∀ b o, G b = none → H b = some o → H' b = some o) : ∀ {vs : List V} {ds : List PyData}, Paired (Frh K G H) vs ds → Paired (Frh K G H') vs ds
  | _, _, .nil => .nil
  | _, _, .cons r t => .cons (r.keep k) (frhs_keep k t)
theorem frhs_snoc {K : PySem.W.Frag} {G H : Hp} {v : V} {d : PyData} : ∀ {vs : List V} {ds : List PyData}, Paired (Frh K G H) vs ds → Frh K G H v d → Paired (Frh K G H) (vs ++ [v]) (ds ++ [d])
  | _, _, .nil, h => .cons h .nil
  | _, _, .cons r t, h => .cons r (frhs_snoc t h)
section
variable {P : Program} {w : World} {K : PySem.W.Frag} {mg : Str → Option Value} {base : Heap}
theorem bl_at {bz : Nat → Bool} {n j : Nat} (h : j < n) : atI ((List.range n).map fun i => V.bl (bz i)) (0 + (j : Int)) = some (.bl (bz j)) := by
  obtain ⟨v, h1, h2⟩ := at_some ((List.range n).map fun i => V.bl (bz i)) (0 + (j : Int)) (by omega) (by rw [List.length_map, List.length_range]; omega)
  have e : (0 + (j : Int)).toNat = j := by omega
  rw [e, List.getElem?_map, List.getElem?_range h] at h2
  cases h2
  exact h1
/-- the three names -/
theorem comp_three {cp : List (Nat × Str)} {σ : St} {H : Hp} {D : Addr} {te : TE} {Q : VK} (bz : Nat → Bool) (hD : H D = none)
    (hte : ∀ (j : Nat) (H2 : Hp) (q : VK), j < 3 → Same H H2 → (∀ v d H3, Same H2 H3 → Frh K H2 H3 v d → shortS d → (nameD d = !bz j) → q v H3) → te (some (.int (0 + (j : Int))) :: capσ cp σ) H2 q)
    (hq : ∀ (x0 x1 x2 : V) (n0 n1 n2 : PyData) (H2 : Hp), H2 D = some (.lst [x0, x1, x2]) → Same H H2 → Dt K H2 x0 n0 → Dt K H2 x1 n1 → Dt K H2 x2 n2 → shortS n0 → shortS n1 → shortS n2 → nameD n0 = !bz 0 → nameD n1 = !bz 1 → nameD n2 = !bz 2 → Q (.ref D) H2) : tLoop cp tYes te σ (Itr 0 3) D Q H := by
  refine comp_range (lo := 0) (n := 3) (fun i ys H2 => ∃ ds : List PyData, Paired (Frh K (upd H D (.lst [])) H2) ys ds ∧ ds.length = i ∧ (∀ j d, ds[j]? = some d → shortS d ∧ nameD d = !bz j) ∧ Same H H2) ⟨[], .nil, rfl, (fun j d e => by simp at e), Same.new hD⟩ ?_ ?_
  · rintro i ys H2 hi h2 ⟨ds, hp, hl, hds, s2⟩
    refine hte i H2 _ hi s2 fun v d H3 s3 fr sh nd => ⟨s3 _ _ h2, ?_, ds ++ [d], ?_, by rw [List.length_append, hl]; rfl, ?_, (s2.trans s3).on hD⟩
    · rw [Paired.length hp, hl]
      exact small1000 (by omega)
    · have up : ∀ b, H2 b = none → upd H D (.lst []) b = none := fun b hb => by
        rw [upd_ne (fun z => by rw [z, h2] at hb; cases hb)]
        exact noneB s2 hb
      have kp : ∀ b o, upd H D (.lst []) b = none → H3 b = some o → upd H3 D (.lst (ys ++ [v])) b = some o := fun b o hb e => by
        rw [upd_ne (fun z => by rw [z, upd_same] at hb; cases hb)]
        exact e
      refine frhs_snoc (frhs_keep (fun b o hb e => kp b o hb (s3 _ _ e)) hp) ((fr.up up).keep kp)
    · intro j e he
      by_cases hj : j < ds.length
      · rw [List.getElem?_append_left hj] at he
        exact hds j e he
      · rw [List.getElem?_append_right (by omega)] at he
        have : j - ds.length = 0 := by
          cases hk : j - ds.length with
          | zero => rfl
          | succ m => rw [hk] at he; simp at he
        rw [this] at he
        cases he
        have : j = i := by omega
        rw [this]
        exact ⟨sh, nd⟩
  · rintro ys H2 h2 ⟨ds, hp, hl, hds, s2⟩
    match ds, hl with
    | [n0, n1, n2], _ =>
      cases hp with
      | cons r0 t0 =>
        cases t0 with
        | cons r1 t1 =>
          cases t1 with
          | cons r2 t2 =>
            cases t2
            obtain ⟨a0, b0⟩ := hds 0 n0 rfl
            obtain ⟨a1, b1⟩ := hds 1 n1 rfl
            obtain ⟨a2, b2⟩ := hds 2 n2 rfl
            exact hq _ _ _ n0 n1 n2 H2 h2 s2 r0.dt r1.dt r2.dt a0 a1 a2 b0 b1 b2
abbrev Nlaw : List Str := ["_law_script", "_law_turn", "_law_kind", "_law_at", "_law_bent", "_law_names", "_law_some", "_law_first_here", "_law_wrong", "_law_due", "_law_things", "_law_thing"]
theorem sc_law : FnScope Nlaw ["_law_script"] (defScope s_law) := ⟨rfl, rfl, rfl, by decide +kernel, rfl, by decide +kernel, by decide +kernel⟩
theorem ok_law (T : Tops K mg) {z : Addr × Addr} (B : DefT K mg "law" s_law z) (M : Maker mg base z.1 z.2) {f : Addr} {fd : FuncData} (F : Fun K "law" "law" s_law f fd) (hcd : fd.code = .ref z.1) : FnOk P w K mg base CX0 12 f fd ["_law_script"] (spLaw K [z]) := by
  obtain ⟨c, X⟩ := T.exc
  obtain ⟨R, yr⟩ := T.t_Rule
  obtain ⟨C0, y0⟩ := T.t_Cells
  obtain ⟨C1, y1⟩ := T.t_Above
  obtain ⟨C2, y2⟩ := T.t_Group
  obtain ⟨C3, y3⟩ := T.t_Lookup
  obtain ⟨C4, y4⟩ := T.t_Mend
  have Y : Ys K mg ⟨R, C0, C1, C2, C3, C4⟩ := ⟨yr, y0, y1, y2, y3, y4⟩
  have G_law_drawn : Known P w K mg base CX0 1 "_law_drawn" ["_law_script", "_law_k", "_law_size"] (spDrawn K) := k_law_drawn T
  have G_law_name : Known P w K mg base CX0 2 "_law_name" ["_law_script", "_law_k", "_law_bent"] (spLName K) := k_law_name T
  have G_law_list : Known P w K mg base CX0 3 "_law_list" ["_law_script", "_law_k", "_law_bent"] (spLList K) := k_law_list T
  have G_law_first : Known P w K mg base CX0 2 "_law_first" ["_law_script", "_law_k", "_law_bent"] (spLFirst K) := k_law_first T
  have G_law_asked : Known P w K mg base CX0 7 "_law_asked" ["_law_kind", "_law_names", "_law_some", "_law_first_here", "_law_thing"] (spAsked K) := k_law_asked T X Y
  refine F.okT hcd sc_law (fun vs H Q E h => ?_) (fun A outer s H vs Q E hr h => ?_)
  · obtain ⟨a, ns, rfl, _⟩ := h
    rfl
  · obtain ⟨a, ns, rfl, hS, hl, hT, q⟩ := h
    have hcl : ∀ x, (cxOf CX0 P w K mg base Nlaw "law" (defScope s_law) f (.ref z.1) A outer s H E).nox.env.scope.names.lookup x = some .cell → ∃ c, (cxOf CX0 P w K mg base Nlaw "law" (defScope s_law) f (.ref z.1) A outer s H E).nox.env.cells.lookup x = some c := fun x hx => Option.isSome_iff_exists.mp (PySem.W.cellsFrom_some _ _ _ (.inl hx))
    refine ⟨_, PSsw.run (pssw_cons (PSw.mk (ps_for PassesOwn.never rfl (pi_range1 (by rfl) T.range (pa_cons pe_int pa_nil)) (pg_name (i := 1) sc_law.nd rfl (Or.inl rfl)) (PSsw.run (pssw_cons (PSw.mk (ps_set (i := 2) sc_law.nd rfl (Or.inl rfl) (pe_callN G_law_drawn (hr.mono (by decide)) pass0 (pa_cons (pv 0) (pa_cons (pe_op op_add pe_int (pv 1)) (pa_cons pe_int pa_nil))))))
      (pssw_cons (PSw.mk (ps_set (i := 3) sc_law.nd rfl (by first | exact Or.inl rfl | exact Or.inr rfl) (pe_op op_add (pe_op op_mul pe_int (pv 1)) pe_int)))
      (pssw_cons (PSw.mk (ps_set (i := 4) sc_law.nd rfl (by first | exact Or.inl rfl | exact Or.inr rfl) (pe_comp (te := tOp rEq (tCall (spDrawn K) [] E0 (tCons (tVar 1) (tCons _ (tCons _ tNil)))) _) (caps_of (sc := defScope s_law) (N := Nlaw) (cp := [(0, "_law_script"), (3, "_law_at")]) hcl) rfl rfl (by decide) (pi_range1 rfl T.range (pa_cons pe_int pa_nil)) (fun _ _ _ _ _ => pts_nil) (fun _ _ _ _ _ => (pe_cmpR op_eq (pe_callN G_law_drawn (hr.mono (by decide)) pass0 (pa_cons (pv 1) (pa_cons (pe_op op_add (pv 2) (pv 0)) (pa_cons pe_int pa_nil)))) pe_int (nomark _))))))
      (pssw_cons (PSw.mk (ps_setComp (i := 5) sc_law.nd rfl rfl (caps_of (sc := defScope s_law) (N := Nlaw) (cp := [(0, "_law_script"), (4, "_law_bent"), (3, "_law_at")]) hcl) rfl rfl (by decide) (pi_range1 rfl T.range (pa_cons pe_int pa_nil)) (fun _ _ _ _ _ => pts_nil) (te := tCall (spLName K) [] E0 (tCons (tVar 1) (tCons _ (tCons (tOp (rIxL K) (tVar 2) (tVar 0)) tNil)))) (fun _ _ _ _ _ => (pe_callN G_law_name (hr.mono (by decide)) pass0 (pa_cons (pv 1) (pa_cons (pe_op op_add (pe_op op_add (pv 3) pe_int) (pe_op op_mul pe_int (pv 0))) (pa_cons (pe_ix ix_list (pv 2) (pv 0) (fun _ _ => rfl)) pa_nil))))) rfl))
      (pssw_cons (PSw.mk (ps_set (i := 6) sc_law.nd rfl (Or.inl rfl) (pe_callN G_law_list (hr.mono (by decide)) pass0 (pa_cons (pv 0) (pa_cons (pe_op op_add (pv 3) pe_int) (pa_cons (pe_ix ix_list (pv 4) pe_int (fun _ _ => rfl)) pa_nil))))))
      (pssw_cons (PSw.mk (ps_set (i := 7) sc_law.nd rfl (Or.inl rfl) (pe_callN G_law_first (hr.mono (by decide)) pass0 (pa_cons (pv 0) (pa_cons (pe_op op_add (pv 3) pe_int) (pa_cons (pe_ix ix_list (pv 4) pe_int (fun _ _ => rfl)) pa_nil))))))
      (pssw_cons (PSw.mk (ps_set (i := 8) sc_law.nd rfl (Or.inl rfl) (pe_ix ix_list (pew_lst (paw_s (PEw.mk (pe_ix ix_list (pv 4) pe_int (fun _ _ => rfl))) (paw_s (PEw.mk (pe_ix ix_list (pv 4) pe_int (fun _ _ => rfl))) (paw_o (PEw.mk (pe_or (pe_ix ix_list (pv 4) pe_int (fun _ _ => rfl)) (pe_one (pe_ix ix_list (pv 4) pe_int (fun _ _ => rfl))))) (paw_o (PEw.mk (pe_or (pe_ix ix_list (pv 4) pe_int (fun _ _ => rfl)) (pe_or (pe_ix ix_list (pv 4) pe_int (fun _ _ => rfl)) (pe_or (pe_ix ix_list (pv 4) pe_int (fun _ _ => rfl)) (pe_one (pe_ix ix_list (pv 4) pe_int (fun _ _ => rfl))))))) (paw_s (PEw.mk (pe_ix ix_list (pv 4) pe_int (fun _ _ => rfl))) paw_nil)))))).run (pv 2) (fun _ _ => rfl))))
      (pssw_cons (PSw.mk (ps_set (i := 9) sc_law.nd rfl (Or.inl rfl) pe_str))
      (pssw_cons (PSw.mk (ps_if (pt_val (pv 8) (fun _ => rfl)) (pss_one (ps_set (i := 9) sc_law.nd rfl (Or.inl rfl) pe_str)) (pss_one (ps_if (PW.pt (pw_and (pt_cmpR op_eq (pv 2) pe_int (nomark _)) (pw_and1 (pt_val (pe_ix ix_list (pv 4) pe_int (fun _ _ => rfl)) (fun _ => rfl))))) (pss_one (ps_set (i := 9) sc_law.nd rfl (Or.inl rfl) pe_str)) pss_nil))))
      (pssw_cons (PSw.mk (ps_set (i := 10) sc_law.nd rfl (Or.inl rfl) (pew_lst (paw_f (PEw.mk (pe_lamF M rfl rfl rfl)) (paw_k pew_non (paw_k pew_int (paw_k pew_str (paw_l (pew_lst paw_nil) (paw_k pew_bl paw_nil))))))).run))
      (pssw_cons (PSw.mk (ps_set (i := 11) sc_law.nd rfl (Or.inl rfl) (pe_ix ix_list (pv 10) (pe_callB (call_max2 rfl) (by rfl) T.max b_max (pa_cons pe_int (pa_cons (pe_op op_sub (pe_callN G_law_drawn (hr.mono (by decide)) pass0 (pa_cons (pv 0) (pa_cons (pe_op op_add (pv 3) pe_int) (pa_cons pe_int pa_nil)))) pe_int) pa_nil))) (fun _ _ => rfl))))
      (pssw_one (PSw.mk (ps_if (pt_cmpR op_ne (pe_callN G_law_asked (hr.mono (by decide)) pass0 (pa_cons (pv 2) (pa_cons (pv 5) (pa_cons (pv 6) (pa_cons (pv 7) (pa_cons (pv 11) pa_nil)))))) (pv 9) (nomark _)) (pss_one (ps_ret pe_bl)) pss_nil)))))))))))))))))
      (pssw_one (PSw.mk (ps_ret pe_bl)))), ?_⟩
    have hT0 : TabIn qLaw H z.2 := ⟨[], hT z (by simp), fun c hc => nomatch hc⟩
    obtain ⟨S0, hz0, _⟩ := id hT0
    refine ⟨12, rfl, by decide, by decide, ?_⟩
    refine for_range (lo := 0) (n := 12) (fun i σ Hi => ∃ (o1 o2 o3 o4 o5 o6 o7 o8 o9 o10 o11 : Option V), σ = [some (.ref a), o1, o2, o3, o4, o5, o6, o7, o8, o9, o10, o11] ∧ SameX z.2 H Hi ∧ TabIn qLaw Hi z.2) ⟨_, _, _, _, _, _, _, _, _, _, _, rfl, sx_of (Same.refl H), hT0⟩ ?_ ?_
    · rintro i σ Hi hi ⟨o1, o2, o3, o4, o5, o6, o7, o8, o9, o10, o11, rfl, sx, tb⟩
      have hS1 : SqL K Hi a (ns.map V.int) := sqL_sx sx hz0 trivial hS
      have k0 := drawZ_nn ns (1 + (0 + (i : Int))) (show (0 : Int) < 5 by decide)
      have k5 := drawZ_lt ns (1 + (0 + (i : Int))) (show (0 : Int) < 5 by decide)
      refine ⟨_, rfl, _, rfl, _, _, rfl, rfl, a, ns, _, 5, rfl, hS1, hl, by omega, by omega, by decide, ?_⟩
      refine ⟨_, rfl, _, _, rfl, rfl, .inl ⟨by decide, by decide⟩, _, _, rfl, rfl, ?_⟩
      have a0 : 0 ≤ 40 * (0 + (i : Int)) + 20 := by omega
      have a1 : 40 * (0 + (i : Int)) + 20 ≤ 500 := by omega
      refine ⟨5, rfl, by decide, by decide, fun D1 hD1 => ?_⟩
      obtain ⟨bz, hbz⟩ : ∃ bz : Nat → Bool, ∀ j : Nat, decide (V.int (drawZ ns ((40 * (0 + (i : Int)) + 20) + (0 + (j : Int))) 3) = V.int 0) = bz j := ⟨_, fun j => rfl⟩
      refine comp_range (lo := 0) (n := 5) (fun j ys H2 => ys = (List.range j).map (fun (j : Nat) => V.bl (bz j)) ∧ Same Hi H2) ⟨rfl, Same.new hD1⟩ ?_ ?_
      · rintro j ys H2 hj h2 ⟨rfl, s2⟩
        refine ⟨_, rfl, _, rfl, _, rfl, _, _, rfl, rfl, a, ns, _, 3, rfl, s2.seq hS1, hl, by omega, by omega, by decide, rfl, h2, ?_, ?_, s2.on hD1⟩
        · rw [List.length_map, List.length_range]
          exact small1000 (by omega)
        · rw [List.range_succ, List.map_append, hbz]
          rfl
      · rintro ys H2 h2 ⟨rfl, s2⟩
        refine ⟨3, rfl, by decide, by decide, fun D2 hD2 => ?_⟩
        refine comp_three (K := K) bz hD2 (fun j H3 q3 hj s3 kq => ?_) (fun x0 x1 x2 n0 n1 n2 H3 h3 s3 d0 d1 d2 sh0 sh1 sh2 e0 e1 e2 => ?_)
        · refine ⟨_, rfl, _, rfl, _, _, rfl, rfl, _, rfl, _, _, rfl, rfl, .inl ⟨by decide, by decide⟩, _, _, rfl, rfl, _, rfl, _, rfl, D1, _, _, .bl (bz j), rfl, rfl, SqL.of (s3 _ _ h2), bl_at (by omega), a, ns, _, bz j, rfl, (s2.trans s3).seq hS1, hl, by omega, by omega, fun H4 v d s4 fr sh nd => kq v d H4 s4 fr sh nd⟩
        · have hb : H3 D1 = some (.lst [.bl (bz 0), .bl (bz 1), .bl (bz 2), .bl (bz 3), .bl (bz 4)]) := s3 _ _ h2
          have s13 := s2.trans s3
          generalize bz 0 = b0 at *
          generalize bz 1 = b1 at *
          generalize bz 2 = b2 at *
          generalize bz 3 = b3 at *
          generalize bz 4 = b4 at *
          refine ⟨_, rfl, _, rfl, _, _, rfl, rfl, _, rfl, D1, _, _, .bl b3, rfl, rfl, SqL.of hb, rfl, a, ns, _, b3, rfl, s13.seq hS1, hl, by omega, by omega, fun H4 xs so s4 ds sh3 e3 => ?_⟩
          refine ⟨_, rfl, _, rfl, _, _, rfl, rfl, _, rfl, D1, _, _, .bl b4, rfl, rfl, SqL.of (s4 _ _ hb), rfl, a, ns, _, b4, rfl, (s13.trans s4).seq hS1, hl, by omega, by omega, fun H5 xf fi s5 df e4 => ?_⟩
          have s35 := s4.trans s5
          have hb5 := SqL.of (K := K) (s35 _ _ hb)
          have I5 : Inp K H5 D2 xs xf n0 n1 n2 so fi := ⟨⟨x0, x1, x2, SqL.of (s35 _ _ h3), d0.same s35, d1.same s35, d2.same s35⟩, ds.same s5, df, sh0, sh1, sh2, sh3⟩
          have s15 := s13.trans s35
          have tb5 := tabIn_same s15 tb
          refine ⟨_, rfl, D1, _, _, .bl b3, rfl, rfl, hb5, rfl, _, rfl, D1, _, _, .bl b3, rfl, rfl, hb5, rfl, ?_⟩
          refine orv (b := b0) (c := b1) (fun Q' h => ⟨_, rfl, D1, _, _, .bl b0, rfl, rfl, hb5, rfl, h⟩) (fun Q' h => ⟨_, rfl, D1, _, _, .bl b1, rfl, rfl, hb5, rfl, h⟩) ?_
          refine orv (b := b0) (c := b1 || (b2 || b3)) (fun Q' h => ⟨_, rfl, D1, _, _, .bl b0, rfl, rfl, hb5, rfl, h⟩) (fun Q' h => orv (b := b1) (c := b2 || b3) (fun Q' h => ⟨_, rfl, D1, _, _, .bl b1, rfl, rfl, hb5, rfl, h⟩) (fun Q' h => orv (b := b2) (c := b3) (fun Q' h => ⟨_, rfl, D1, _, _, .bl b2, rfl, rfl, hb5, rfl, h⟩) (fun Q' h => ⟨_, rfl, D1, _, _, .bl b3, rfl, rfl, hb5, rfl, h⟩) h) h) ?_
          refine ⟨_, rfl, D1, _, _, .bl b0, rfl, rfl, hb5, rfl, sl, fun l1 hl1 => ?_⟩
          have u1 := Same.new (o := .lst [.bl b3, .bl b3, .bl (b0 || b1), .bl (b0 || (b1 || (b2 || b3))), .bl b0]) hl1
          refine ⟨_, rfl, l1, _, _, _, rfl, rfl, SqL.of upd_same, wrong_at k0 k5 b0 b1 b2 b3, ?_⟩
          have due := word_due k0 k5 e0 e1 e2 e3 e4
          have s16 := s15.trans u1
          have tb6 := tabIn_same u1 tb5
          have hb6 := SqL.of (K := K) ((s35.trans u1) _ _ hb)
          have I6 : Inp K _ D2 xs xf n0 n1 n2 so fi := ⟨⟨x0, x1, x2, SqL.of ((s35.trans u1) _ _ h3), d0.same (s35.trans u1), d1.same (s35.trans u1), d2.same (s35.trans u1)⟩, ds.same (s5.trans u1), df.same u1, sh0, sh1, sh2, sh3⟩
          generalize upd H5 l1 (.lst [.bl b3, .bl b3, .bl (b0 || b1), .bl (b0 || (b1 || (b2 || b3))), .bl b0]) = H6 at s16 tb6 hb6 I6 ⊢
          generalize wrongB (drawZ ns (1 + (0 + (i : Int))) 5) b0 b1 b2 b3 = wr at due ⊢
          refine ⟨_, rfl, _, rfl, ?_⟩
          refine cutA (fun σ' H' => σ' = [some (.ref a), some (.int (0 + (i : Int))), some (.int (drawZ ns (1 + (0 + (i : Int))) 5)), some (.int (40 * (0 + (i : Int)) + 20)), some (.ref D1), some (.ref D2), some xs, some xf, some (.bl wr), some (.str (wordOf (verd (drawZ ns (1 + (0 + (i : Int))) 5) n0 n1 n2 so fi))), o10, o11] ∧ H' = H6) ?hA (fun tl => by
            refine ite2 (fun g => ?p1) (fun g => ?p2)
            case p2 =>
              have g : ¬ wr = true := g
              rw [if_neg g] at due
              refine ⟨_, rfl, rfl, _, rfl, ite2 (fun g1 => ?q1) (fun g1 => ?q2)⟩
              case q2 =>
                have g1' : ¬ (drawZ ns (1 + (0 + (i : Int))) 5) = 1 := fun h => g1 (by rw [h]; exact decide_eq_true rfl)
                rw [if_neg (fun h => g1' h.1)] at due
                refine iteF ?_
                exact tl _ _ ⟨by rw [due]; rfl, rfl⟩
              case q1 =>
                have g1 : (drawZ ns (1 + (0 + (i : Int))) 5) = 1 := V.int.inj (of_decide_eq_true g1)
                refine ⟨_, rfl, D1, _, _, .bl b4, rfl, rfl, hb6, rfl, _, rfl, ite2 (fun g2 => ?r1) (fun g2 => ?r2)⟩
                case r2 =>
                  rw [if_neg (fun h => g2 h.2)] at due
                  exact tl _ _ ⟨by rw [due]; rfl, rfl⟩
                case r1 =>
                  rw [if_pos ⟨g1, g2⟩] at due
                  exact tl _ _ ⟨by rw [due]; rfl, rfl⟩
            case p1 =>
              have g : wr = true := g
              rw [if_pos g] at due
              exact tl _ _ ⟨by rw [due]; rfl, rfl⟩)
          rintro σ' H' ⟨rfl, rfl⟩
          refine ⟨tb6, fun fa H7 hfa sx7 tb7 lam => ?_⟩
          obtain ⟨S6, hz6, _⟩ := id tb6
          have I7 : Inp K H7 D2 xs xf n0 n1 n2 so fi := ⟨let ⟨x0, x1, x2, g1, g2, g3, g4⟩ := I6.nm; ⟨x0, x1, x2, sqL_sx sx7 hz6 trivial g1, dt_sx sx7 hz6 trivial g2, dt_sx sx7 hz6 trivial g3, dt_sx sx7 hz6 trivial g4⟩, dt_sx sx7 hz6 trivial I6.so, dt_sx sx7 hz6 trivial I6.fi, sh0, sh1, sh2, sh3⟩
          have hS7 : SqL K H7 a (ns.map V.int) := sqL_sx sx7 hz6 trivial (s16.seq hS1)
          refine ⟨sl, fun l0 hl0 => ⟨sl, fun l2 hl2 => ?_⟩⟩
          have u2 := Same.new (o := .lst []) hl0
          have u3 := Same.new (o := .lst [.ref fa, .non, .int 5, .str ("a" : Str), .ref l0, .bl true]) hl2
          have u23 := u2.trans u3
          have m0 := drawZ_nn ns ((40 * (0 + (i : Int)) + 20) + 35) (show (0 : Int) < 12 by decide)
          have m1 := drawZ_lt ns ((40 * (0 + (i : Int)) + 20) + 35) (show (0 : Int) < 12 by decide)
          have ix : ∃ v, atI ([.ref fa, .non, .int 5, .str ("a" : Str), .ref l0, .bl true] : List V) (if drawZ ns ((40 * (0 + (i : Int)) + 20) + 35) 12 - 6 > 0 then drawZ ns ((40 * (0 + (i : Int)) + 20) + 35) 12 - 6 else 0) = some v := six_at (by split <;> omega) (by split <;> omega)
          obtain ⟨v, hv⟩ := ix
          refine ⟨_, rfl, _, rfl, _, rfl, _, _, rfl, rfl, a, ns, _, 12, rfl, u23.seq hS7, hl, by omega, by omega, by decide, _, _, rfl, rfl, _, _, rfl, l2, _, _, v, rfl, rfl, SqL.of upd_same, hv, ?_⟩
          have I8 : Inp K _ D2 xs xf n0 n1 n2 so fi := ⟨let ⟨x0, x1, x2, g1, g2, g3, g4⟩ := I7.nm; ⟨x0, x1, x2, u23.seq g1, g2.same u23, g3.same u23, g4.same u23⟩, I7.so.same u23, I7.fi.same u23, sh0, sh1, sh2, sh3⟩
          refine ⟨_, rfl, _, rfl, _, rfl, _, rfl, _, rfl, (drawZ ns (1 + (0 + (i : Int))) 5), D2, xs, xf, v, n0, n1, n2, so, fi, rfl, k0, k5, I8, fun H9 s9 => ?_⟩
          refine ⟨_, rfl, rfl, _, rfl, iteNS rfl ?_⟩
          exact ⟨_, _, _, _, _, _, _, _, _, _, _, rfl, sx_trans (sx_trans (sx_trans sx (sx_of s16)) sx7) (sx_of (u23.trans s9)), tabIn_same (u23.trans s9) tb7⟩
    · rintro σ Hi ⟨o1, o2, o3, o4, o5, o6, o7, o8, o9, o10, o11, rfl, sx, tb⟩
      refine q Hi fun y hy => ?_
      rw [List.mem_singleton.mp hy]
      obtain ⟨S, e, _⟩ := tb
      exact ⟨S, e⟩
end
end My

namespace My
open PySem L2
theorem tops_mk {K : PySem.W.Frag} {h : Heap} {mg : Str → Option Value} (X : K.In h) (G : h.Ns mainGlobals mg)
    (n_len : PySem.W.nsIn K mainGlobals "len" = some none)
    (n_isinstance : PySem.W.nsIn K mainGlobals "isinstance" = some none)
    (n_int : PySem.W.nsIn K mainGlobals "int" = some none)
    (n_bool : PySem.W.nsIn K mainGlobals "bool" = some none)
    (n_str : PySem.W.nsIn K mainGlobals "str" = some none)
    (n_all : PySem.W.nsIn K mainGlobals "all" = some none)
    (n_range : PySem.W.nsIn K mainGlobals "range" = some none)
    (n_abs : PySem.W.nsIn K mainGlobals "abs" = some none)
    (n_list : PySem.W.nsIn K mainGlobals "list" = some none)
    (n_tuple : PySem.W.nsIn K mainGlobals "tuple" = some none)
    (n_max : PySem.W.nsIn K mainGlobals "max" = some none)
    (n_ValueError : PySem.W.nsIn K mainGlobals "ValueError" = some none)
    {t_LETTERS : Tok} (i_LETTERS : PySem.W.nsIn K mainGlobals "LETTERS" = some (some (.str ("abcdefghijklmnopqrstuvwxyz" : Str) t_LETTERS)))
    {t_MOST_LETTERS : Tok} (i_MOST_LETTERS : PySem.W.nsIn K mainGlobals "MOST_LETTERS" = some (some (.int 8 t_MOST_LETTERS)))
    {t_MOST_NAMES : Tok} (i_MOST_NAMES : PySem.W.nsIn K mainGlobals "MOST_NAMES" = some (some (.int 6 t_MOST_NAMES)))
    {f_is_whole : Addr} {oc_is_whole kV_is_whole doc_is_whole pm_is_whole ct_is_whole : Value} {cd_is_whole : Value} {od_is_whole an_is_whole : Option Addr} {sl_is_whole : Array (Option Value)} (a_is_whole : PySem.W.nsIn K mainGlobals "is_whole" = some (some (.ref f_is_whole)))
    (l_is_whole : K.lookup f_is_whole = some ⟨oc_is_whole, od_is_whole, .func (PySem.W.fnOf "is_whole" "is_whole" (defArgs s_is_whole) (defBody s_is_whole) (defScope s_is_whole) .none kV_is_whole doc_is_whole pm_is_whole an_is_whole cd_is_whole ct_is_whole), sl_is_whole⟩)
    (c_is_whole : PySem.W.codeIn K cd_is_whole "is_whole" = true) (k_is_whole : PySem.W.keepIn K (.ref f_is_whole) = true)
    {f_is_number : Addr} {oc_is_number kV_is_number doc_is_number pm_is_number ct_is_number : Value} {cd_is_number : Value} {od_is_number an_is_number : Option Addr} {sl_is_number : Array (Option Value)} (a_is_number : PySem.W.nsIn K mainGlobals "is_number" = some (some (.ref f_is_number)))
    (l_is_number : K.lookup f_is_number = some ⟨oc_is_number, od_is_number, .func (PySem.W.fnOf "is_number" "is_number" (defArgs s_is_number) (defBody s_is_number) (defScope s_is_number) .none kV_is_number doc_is_number pm_is_number an_is_number cd_is_number ct_is_number), sl_is_number⟩)
    (c_is_number : PySem.W.codeIn K cd_is_number "is_number" = true) (k_is_number : PySem.W.keepIn K (.ref f_is_number) = true)
    {f_is_name : Addr} {oc_is_name kV_is_name doc_is_name pm_is_name ct_is_name : Value} {cd_is_name : Value} {od_is_name an_is_name : Option Addr} {sl_is_name : Array (Option Value)} (a_is_name : PySem.W.nsIn K mainGlobals "is_name" = some (some (.ref f_is_name)))
    (l_is_name : K.lookup f_is_name = some ⟨oc_is_name, od_is_name, .func (PySem.W.fnOf "is_name" "is_name" (defArgs s_is_name) (defBody s_is_name) (defScope s_is_name) .none kV_is_name doc_is_name pm_is_name an_is_name cd_is_name ct_is_name), sl_is_name⟩)
    (c_is_name : PySem.W.codeIn K cd_is_name "is_name" = true) (k_is_name : PySem.W.keepIn K (.ref f_is_name) = true)
    {f_check_name : Addr} {oc_check_name kV_check_name doc_check_name pm_check_name ct_check_name : Value} {cd_check_name : Value} {od_check_name an_check_name : Option Addr} {sl_check_name : Array (Option Value)} (a_check_name : PySem.W.nsIn K mainGlobals "check_name" = some (some (.ref f_check_name)))
    (l_check_name : K.lookup f_check_name = some ⟨oc_check_name, od_check_name, .func (PySem.W.fnOf "check_name" "check_name" (defArgs s_check_name) (defBody s_check_name) (defScope s_check_name) .none kV_check_name doc_check_name pm_check_name an_check_name cd_check_name ct_check_name), sl_check_name⟩)
    (c_check_name : PySem.W.codeIn K cd_check_name "check_name" = true) (k_check_name : PySem.W.keepIn K (.ref f_check_name) = true)
    {f_checked_names : Addr} {oc_checked_names kV_checked_names doc_checked_names pm_checked_names ct_checked_names : Value} {cd_checked_names : Value} {od_checked_names an_checked_names : Option Addr} {sl_checked_names : Array (Option Value)} (a_checked_names : PySem.W.nsIn K mainGlobals "checked_names" = some (some (.ref f_checked_names)))
    (l_checked_names : K.lookup f_checked_names = some ⟨oc_checked_names, od_checked_names, .func (PySem.W.fnOf "checked_names" "checked_names" (defArgs s_checked_names) (defBody s_checked_names) (defScope s_checked_names) .none kV_checked_names doc_checked_names pm_checked_names an_checked_names cd_checked_names ct_checked_names), sl_checked_names⟩)
    (c_checked_names : PySem.W.codeIn K cd_checked_names "checked_names" = true) (k_checked_names : PySem.W.keepIn K (.ref f_checked_names) = true)
    {f_law_drawn : Addr} {oc_law_drawn kV_law_drawn doc_law_drawn pm_law_drawn ct_law_drawn : Value} {cd_law_drawn : Value} {od_law_drawn an_law_drawn : Option Addr} {sl_law_drawn : Array (Option Value)} (a_law_drawn : PySem.W.nsIn K mainGlobals "_law_drawn" = some (some (.ref f_law_drawn)))
    (l_law_drawn : K.lookup f_law_drawn = some ⟨oc_law_drawn, od_law_drawn, .func (PySem.W.fnOf "_law_drawn" "_law_drawn" (defArgs s_law_drawn) (defBody s_law_drawn) (defScope s_law_drawn) .none kV_law_drawn doc_law_drawn pm_law_drawn an_law_drawn cd_law_drawn ct_law_drawn), sl_law_drawn⟩)
    (c_law_drawn : PySem.W.codeIn K cd_law_drawn "_law_drawn" = true) (k_law_drawn : PySem.W.keepIn K (.ref f_law_drawn) = true)
    {f_law_name : Addr} {oc_law_name kV_law_name doc_law_name pm_law_name ct_law_name : Value} {cd_law_name : Value} {od_law_name an_law_name : Option Addr} {sl_law_name : Array (Option Value)} (a_law_name : PySem.W.nsIn K mainGlobals "_law_name" = some (some (.ref f_law_name)))
    (l_law_name : K.lookup f_law_name = some ⟨oc_law_name, od_law_name, .func (PySem.W.fnOf "_law_name" "_law_name" (defArgs s_law_name) (defBody s_law_name) (defScope s_law_name) .none kV_law_name doc_law_name pm_law_name an_law_name cd_law_name ct_law_name), sl_law_name⟩)
    (c_law_name : PySem.W.codeIn K cd_law_name "_law_name" = true) (k_law_name : PySem.W.keepIn K (.ref f_law_name) = true)
    {f_law_list : Addr} {oc_law_list kV_law_list doc_law_list pm_law_list ct_law_list : Value} {cd_law_list : Value} {od_law_list an_law_list : Option Addr} {sl_law_list : Array (Option Value)} (a_law_list : PySem.W.nsIn K mainGlobals "_law_list" = some (some (.ref f_law_list)))
    (l_law_list : K.lookup f_law_list = some ⟨oc_law_list, od_law_list, .func (PySem.W.fnOf "_law_list" "_law_list" (defArgs s_law_list) (defBody s_law_list) (defScope s_law_list) .none kV_law_list doc_law_list pm_law_list an_law_list cd_law_list ct_law_list), sl_law_list⟩)
    (c_law_list : PySem.W.codeIn K cd_law_list "_law_list" = true) (k_law_list : PySem.W.keepIn K (.ref f_law_list) = true)
    {f_law_first : Addr} {oc_law_first kV_law_first doc_law_first pm_law_first ct_law_first : Value} {cd_law_first : Value} {od_law_first an_law_first : Option Addr} {sl_law_first : Array (Option Value)} (a_law_first : PySem.W.nsIn K mainGlobals "_law_first" = some (some (.ref f_law_first)))
    (l_law_first : K.lookup f_law_first = some ⟨oc_law_first, od_law_first, .func (PySem.W.fnOf "_law_first" "_law_first" (defArgs s_law_first) (defBody s_law_first) (defScope s_law_first) .none kV_law_first doc_law_first pm_law_first an_law_first cd_law_first ct_law_first), sl_law_first⟩)
    (c_law_first : PySem.W.codeIn K cd_law_first "_law_first" = true) (k_law_first : PySem.W.keepIn K (.ref f_law_first) = true)
    {f_law_made : Addr} {oc_law_made kV_law_made doc_law_made pm_law_made ct_law_made : Value} {cd_law_made : Value} {od_law_made an_law_made : Option Addr} {sl_law_made : Array (Option Value)} (a_law_made : PySem.W.nsIn K mainGlobals "_law_made" = some (some (.ref f_law_made)))
    (l_law_made : K.lookup f_law_made = some ⟨oc_law_made, od_law_made, .func (PySem.W.fnOf "_law_made" "_law_made" (defArgs s_law_made) (defBody s_law_made) (defScope s_law_made) .none kV_law_made doc_law_made pm_law_made an_law_made cd_law_made ct_law_made), sl_law_made⟩)
    (c_law_made : PySem.W.codeIn K cd_law_made "_law_made" = true) (k_law_made : PySem.W.keepIn K (.ref f_law_made) = true)
    {f_law_asked : Addr} {oc_law_asked kV_law_asked doc_law_asked pm_law_asked ct_law_asked : Value} {cd_law_asked : Value} {od_law_asked an_law_asked : Option Addr} {sl_law_asked : Array (Option Value)} (a_law_asked : PySem.W.nsIn K mainGlobals "_law_asked" = some (some (.ref f_law_asked)))
    (l_law_asked : K.lookup f_law_asked = some ⟨oc_law_asked, od_law_asked, .func (PySem.W.fnOf "_law_asked" "_law_asked" (defArgs s_law_asked) (defBody s_law_asked) (defScope s_law_asked) .none kV_law_asked doc_law_asked pm_law_asked an_law_asked cd_law_asked ct_law_asked), sl_law_asked⟩)
    (c_law_asked : PySem.W.codeIn K cd_law_asked "_law_asked" = true) (k_law_asked : PySem.W.keepIn K (.ref f_law_asked) = true)
    {f_law : Addr} {oc_law kV_law doc_law pm_law ct_law : Value} {cc_law : Addr} {od_law an_law : Option Addr} {sl_law : Array (Option Value)} (a_law : PySem.W.nsIn K mainGlobals "law" = some (some (.ref f_law)))
    (l_law : K.lookup f_law = some ⟨oc_law, od_law, .func (PySem.W.fnOf "law" "law" (defArgs s_law) (defBody s_law) (defScope s_law) .none kV_law doc_law pm_law an_law (.ref cc_law) ct_law), sl_law⟩)
    (c_law : PySem.W.codeIn K (.ref cc_law) "law" = true) (k_law : PySem.W.keepIn K (.ref f_law) = true)
    {wo_law : Value} {wd_law : Option Addr} {wv_law : Array Value} {ws_law : Array (Option Value)} {p_law : Addr} (w_law : K.lookup cc_law = some ⟨wo_law, wd_law, .fields wv_law, ws_law⟩) (t_law : wv_law[11]? = some (.ref p_law))
    (notabs : PySem.W.noTabs K = true)
    {C_ColsError : Addr} (q_ColsError : PySem.W.nsIn K mainGlobals "ColsError" = some (some (.ref C_ColsError)))
    {C_NoName : Addr} (q_NoName : PySem.W.nsIn K mainGlobals "NoName" = some (some (.ref C_NoName)))
    {C_NoValue : Addr} (q_NoValue : PySem.W.nsIn K mainGlobals "NoValue" = some (some (.ref C_NoValue)))
    {C_NoTable : Addr} (q_NoTable : PySem.W.nsIn K mainGlobals "NoTable" = some (some (.ref C_NoTable)))
    {C_NoColumn : Addr} (q_NoColumn : PySem.W.nsIn K mainGlobals "NoColumn" = some (some (.ref C_NoColumn)))
    {C_NoPlace : Addr} (q_NoPlace : PySem.W.nsIn K mainGlobals "NoPlace" = some (some (.ref C_NoPlace)))
    {C_NoSize : Addr} (q_NoSize : PySem.W.nsIn K mainGlobals "NoSize" = some (some (.ref C_NoSize)))
    {C_NoText : Addr} (q_NoText : PySem.W.nsIn K mainGlobals "NoText" = some (some (.ref C_NoText)))
    {C_NoRow : Addr} (q_NoRow : PySem.W.nsIn K mainGlobals "NoRow" = some (some (.ref C_NoRow)))
    {C_NoBack : Addr} (q_NoBack : PySem.W.nsIn K mainGlobals "NoBack" = some (some (.ref C_NoBack)))
    {C_TooMuch : Addr} (q_TooMuch : PySem.W.nsIn K mainGlobals "TooMuch" = some (some (.ref C_TooMuch)))
    {C_Ruled : Addr} (q_Ruled : PySem.W.nsIn K mainGlobals "Ruled" = some (some (.ref C_Ruled)))
    {C_Ring : Addr} (q_Ring : PySem.W.nsIn K mainGlobals "Ring" = some (some (.ref C_Ring)))
    {C_Nobody : Addr} (q_Nobody : PySem.W.nsIn K mainGlobals "Nobody" = some (some (.ref C_Nobody)))
    {C_Several : Addr} (q_Several : PySem.W.nsIn K mainGlobals "Several" = some (some (.ref C_Several)))
    (x_NoName : PySem.W.excIn K C_NoName mroV "ValueError.__new__" = true) (v_NoName : PySem.W.kitOne K (.ref C_NoName) (.type "ValueError") = some true)
    (wa_NoName : PySem.W.findIn K (.ref C_NoName) "__getattribute__" = some (some (.builtin "BaseException.__getattribute__")))
    (wb_NoName : PySem.W.findIn K (.ref C_NoName) "__getattr__" = some none)
    (wd_NoName : PySem.W.findIn K (.ref C_NoName) "__class__" = some (some (.builtin "object.__class__")))
    (we_NoName : PySem.W.mroIn K C_NoName (.type "object") = some true)
    (wf_NoName : PySem.W.mroIn K C_NoName (.type "BaseException") = some true)
    {cd_NoName : ClassData} (wc_NoName : PySem.W.clsIn K C_NoName = some cd_NoName)
    (i_NoName_ColsError : PySem.W.kitOne K (.ref C_NoName) (.ref C_ColsError) = some true)
    (e_NoName_ColsError : PySem.W.exmOne K (.ref C_NoName) (.ref C_ColsError) = some true)
    (i_NoName_NoName : PySem.W.kitOne K (.ref C_NoName) (.ref C_NoName) = some true)
    (i_NoName_NoValue : PySem.W.kitOne K (.ref C_NoName) (.ref C_NoValue) = some false)
    (i_NoName_NoTable : PySem.W.kitOne K (.ref C_NoName) (.ref C_NoTable) = some false)
    (i_NoName_NoColumn : PySem.W.kitOne K (.ref C_NoName) (.ref C_NoColumn) = some false)
    (i_NoName_NoPlace : PySem.W.kitOne K (.ref C_NoName) (.ref C_NoPlace) = some false)
    (i_NoName_NoSize : PySem.W.kitOne K (.ref C_NoName) (.ref C_NoSize) = some false)
    (i_NoName_NoText : PySem.W.kitOne K (.ref C_NoName) (.ref C_NoText) = some false)
    (i_NoName_NoRow : PySem.W.kitOne K (.ref C_NoName) (.ref C_NoRow) = some false)
    (i_NoName_NoBack : PySem.W.kitOne K (.ref C_NoName) (.ref C_NoBack) = some false)
    (i_NoName_TooMuch : PySem.W.kitOne K (.ref C_NoName) (.ref C_TooMuch) = some false)
    (i_NoName_Ruled : PySem.W.kitOne K (.ref C_NoName) (.ref C_Ruled) = some false)
    (i_NoName_Ring : PySem.W.kitOne K (.ref C_NoName) (.ref C_Ring) = some false)
    (i_NoName_Nobody : PySem.W.kitOne K (.ref C_NoName) (.ref C_Nobody) = some false)
    (i_NoName_Several : PySem.W.kitOne K (.ref C_NoName) (.ref C_Several) = some false)
    (x_NoValue : PySem.W.excIn K C_NoValue mroV "ValueError.__new__" = true) (v_NoValue : PySem.W.kitOne K (.ref C_NoValue) (.type "ValueError") = some true)
    (wa_NoValue : PySem.W.findIn K (.ref C_NoValue) "__getattribute__" = some (some (.builtin "BaseException.__getattribute__")))
    (wb_NoValue : PySem.W.findIn K (.ref C_NoValue) "__getattr__" = some none)
    (wd_NoValue : PySem.W.findIn K (.ref C_NoValue) "__class__" = some (some (.builtin "object.__class__")))
    (we_NoValue : PySem.W.mroIn K C_NoValue (.type "object") = some true)
    (wf_NoValue : PySem.W.mroIn K C_NoValue (.type "BaseException") = some true)
    {cd_NoValue : ClassData} (wc_NoValue : PySem.W.clsIn K C_NoValue = some cd_NoValue)
    (i_NoValue_ColsError : PySem.W.kitOne K (.ref C_NoValue) (.ref C_ColsError) = some true)
    (e_NoValue_ColsError : PySem.W.exmOne K (.ref C_NoValue) (.ref C_ColsError) = some true)
    (i_NoValue_NoName : PySem.W.kitOne K (.ref C_NoValue) (.ref C_NoName) = some false)
    (i_NoValue_NoValue : PySem.W.kitOne K (.ref C_NoValue) (.ref C_NoValue) = some true)
    (i_NoValue_NoTable : PySem.W.kitOne K (.ref C_NoValue) (.ref C_NoTable) = some false)
    (i_NoValue_NoColumn : PySem.W.kitOne K (.ref C_NoValue) (.ref C_NoColumn) = some false)
    (i_NoValue_NoPlace : PySem.W.kitOne K (.ref C_NoValue) (.ref C_NoPlace) = some false)
    (i_NoValue_NoSize : PySem.W.kitOne K (.ref C_NoValue) (.ref C_NoSize) = some false)
    (i_NoValue_NoText : PySem.W.kitOne K (.ref C_NoValue) (.ref C_NoText) = some false)
    (i_NoValue_NoRow : PySem.W.kitOne K (.ref C_NoValue) (.ref C_NoRow) = some false)
    (i_NoValue_NoBack : PySem.W.kitOne K (.ref C_NoValue) (.ref C_NoBack) = some false)
    (i_NoValue_TooMuch : PySem.W.kitOne K (.ref C_NoValue) (.ref C_TooMuch) = some false)
    (i_NoValue_Ruled : PySem.W.kitOne K (.ref C_NoValue) (.ref C_Ruled) = some false)
    (i_NoValue_Ring : PySem.W.kitOne K (.ref C_NoValue) (.ref C_Ring) = some false)
    (i_NoValue_Nobody : PySem.W.kitOne K (.ref C_NoValue) (.ref C_Nobody) = some false)
    (i_NoValue_Several : PySem.W.kitOne K (.ref C_NoValue) (.ref C_Several) = some false)
    (w4 : PySem.W.specialIn K (.builtin "object.__class__") "__get__" = some (some (.builtin "getset_descriptor.__get__"))) (w5 : PySem.W.takesIn K (.builtin "object.__class__") = some true)
    {C_Rule : Addr} (a_Rule : PySem.W.nsIn K mainGlobals "Rule" = some (some (.ref C_Rule)))
    (pg_Rule : PySem.W.plainGet K C_Rule Str.empty = true) (hd_Rule : PySem.W.hasDictIn K C_Rule = true) (po_Rule : PySem.W.plainOver K C_Rule = true) (sa_Rule : PySem.W.findIn K (.ref C_Rule) "__setattr__" = some (some (.builtin "object.__setattr__"))) (mk_Rule : PySem.W.makesIn K C_Rule = true) (kc_Rule : PySem.W.keepIn K (.ref C_Rule) = true) (hc_Rule : PySem.W.findIn K (.ref C_Rule) "__class__" = some (some (.builtin "object.__class__")))
    (na_Rule_function : PySem.W.findIn K (.ref C_Rule) "function" = some none)
    {f_Rule_init : Addr} {oc_Rule_init kV_Rule_init doc_Rule_init pm_Rule_init cd_Rule_init ct_Rule_init : Value} {od_Rule_init an_Rule_init : Option Addr} {sl_Rule_init : Array (Option Value)} (a_Rule_init : PySem.W.findIn K (.ref C_Rule) "__init__" = some (some (.ref f_Rule_init))) (j_Rule_init : PySem.W.isFn K (.ref f_Rule_init) = true)
    (l_Rule_init : K.lookup f_Rule_init = some ⟨oc_Rule_init, od_Rule_init, .func (PySem.W.fnOf "__init__" "Rule.__init__" (defArgs s_Rule_init) (defBody s_Rule_init) (defScope s_Rule_init) .none kV_Rule_init doc_Rule_init pm_Rule_init an_Rule_init cd_Rule_init ct_Rule_init), sl_Rule_init⟩)
    (c_Rule_init : PySem.W.codeIn K cd_Rule_init "Rule.__init__" = true) (k_Rule_init : PySem.W.keepIn K (.ref f_Rule_init) = true)
    (vg_Rule_init : PySem.W.specialIn K (.ref C_Rule) "__getattribute__" = some (some (.builtin "type.__getattribute__"))) (vr_Rule_init : PySem.W.readsIn K C_Rule (.type "type") = true) (vf_Rule_init : PySem.W.findCls K (.ref C_Rule) (.type "type") "__init__" = some (.val (.ref f_Rule_init)))
    {C_Cells : Addr} (a_Cells : PySem.W.nsIn K mainGlobals "Cells" = some (some (.ref C_Cells)))
    (pg_Cells : PySem.W.plainGet K C_Cells Str.empty = true) (hd_Cells : PySem.W.hasDictIn K C_Cells = true) (po_Cells : PySem.W.plainOver K C_Cells = true) (sa_Cells : PySem.W.findIn K (.ref C_Cells) "__setattr__" = some (some (.builtin "object.__setattr__"))) (mk_Cells : PySem.W.makesIn K C_Cells = true) (kc_Cells : PySem.W.keepIn K (.ref C_Cells) = true) (hc_Cells : PySem.W.findIn K (.ref C_Cells) "__class__" = some (some (.builtin "object.__class__")))
    (na_Cells_function : PySem.W.findIn K (.ref C_Cells) "function" = some none)
    (na_Cells_names : PySem.W.findIn K (.ref C_Cells) "names" = some none)
    {f_Cells_init : Addr} {oc_Cells_init kV_Cells_init doc_Cells_init pm_Cells_init cd_Cells_init ct_Cells_init : Value} {od_Cells_init an_Cells_init : Option Addr} {sl_Cells_init : Array (Option Value)} (a_Cells_init : PySem.W.findIn K (.ref C_Cells) "__init__" = some (some (.ref f_Cells_init))) (j_Cells_init : PySem.W.isFn K (.ref f_Cells_init) = true)
    (l_Cells_init : K.lookup f_Cells_init = some ⟨oc_Cells_init, od_Cells_init, .func (PySem.W.fnOf "__init__" "Cells.__init__" (defArgs s_Cells_init) (defBody s_Cells_init) (defScope s_Cells_init) .none kV_Cells_init doc_Cells_init pm_Cells_init an_Cells_init cd_Cells_init ct_Cells_init), sl_Cells_init⟩)
    (c_Cells_init : PySem.W.codeIn K cd_Cells_init "Cells.__init__" = true) (k_Cells_init : PySem.W.keepIn K (.ref f_Cells_init) = true)
    (ow4 : PySem.W.specialIn K (.builtin "object.__class__") "__get__" = some (some (.builtin "getset_descriptor.__get__"))) (ow5 : PySem.W.takesIn K (.builtin "object.__class__") = some true)
    (mo_Cells : PySem.W.mroIn K C_Cells (.type "object") = some true)
    (vu_Cells_Rule : PySem.W.kitOne K (.ref C_Cells) (.ref C_Rule) = some true)
    {C_Above : Addr} (a_Above : PySem.W.nsIn K mainGlobals "Above" = some (some (.ref C_Above)))
    (pg_Above : PySem.W.plainGet K C_Above Str.empty = true) (hd_Above : PySem.W.hasDictIn K C_Above = true) (po_Above : PySem.W.plainOver K C_Above = true) (sa_Above : PySem.W.findIn K (.ref C_Above) "__setattr__" = some (some (.builtin "object.__setattr__"))) (mk_Above : PySem.W.makesIn K C_Above = true) (kc_Above : PySem.W.keepIn K (.ref C_Above) = true) (hc_Above : PySem.W.findIn K (.ref C_Above) "__class__" = some (some (.builtin "object.__class__")))
    (na_Above_function : PySem.W.findIn K (.ref C_Above) "function" = some none)
    (na_Above_names : PySem.W.findIn K (.ref C_Above) "names" = some none)
    (na_Above_first : PySem.W.findIn K (.ref C_Above) "first" = some none)
    {f_Above_init : Addr} {oc_Above_init kV_Above_init doc_Above_init pm_Above_init cd_Above_init ct_Above_init : Value} {od_Above_init an_Above_init : Option Addr} {sl_Above_init : Array (Option Value)} (a_Above_init : PySem.W.findIn K (.ref C_Above) "__init__" = some (some (.ref f_Above_init))) (j_Above_init : PySem.W.isFn K (.ref f_Above_init) = true)
    (l_Above_init : K.lookup f_Above_init = some ⟨oc_Above_init, od_Above_init, .func (PySem.W.fnOf "__init__" "Above.__init__" (defArgs s_Above_init) (defBody s_Above_init) (defScope s_Above_init) .none kV_Above_init doc_Above_init pm_Above_init an_Above_init cd_Above_init ct_Above_init), sl_Above_init⟩)
    (c_Above_init : PySem.W.codeIn K cd_Above_init "Above.__init__" = true) (k_Above_init : PySem.W.keepIn K (.ref f_Above_init) = true)
    (mo_Above : PySem.W.mroIn K C_Above (.type "object") = some true)
    (vu_Above_Rule : PySem.W.kitOne K (.ref C_Above) (.ref C_Rule) = some true)
    {C_Group : Addr} (a_Group : PySem.W.nsIn K mainGlobals "Group" = some (some (.ref C_Group)))
    (pg_Group : PySem.W.plainGet K C_Group Str.empty = true) (hd_Group : PySem.W.hasDictIn K C_Group = true) (po_Group : PySem.W.plainOver K C_Group = true) (sa_Group : PySem.W.findIn K (.ref C_Group) "__setattr__" = some (some (.builtin "object.__setattr__"))) (mk_Group : PySem.W.makesIn K C_Group = true) (kc_Group : PySem.W.keepIn K (.ref C_Group) = true) (hc_Group : PySem.W.findIn K (.ref C_Group) "__class__" = some (some (.builtin "object.__class__")))
    (na_Group_function : PySem.W.findIn K (.ref C_Group) "function" = some none)
    (na_Group_key : PySem.W.findIn K (.ref C_Group) "key" = some none)
    (na_Group_name : PySem.W.findIn K (.ref C_Group) "name" = some none)
    {f_Group_init : Addr} {oc_Group_init kV_Group_init doc_Group_init pm_Group_init cd_Group_init ct_Group_init : Value} {od_Group_init an_Group_init : Option Addr} {sl_Group_init : Array (Option Value)} (a_Group_init : PySem.W.findIn K (.ref C_Group) "__init__" = some (some (.ref f_Group_init))) (j_Group_init : PySem.W.isFn K (.ref f_Group_init) = true)
    (l_Group_init : K.lookup f_Group_init = some ⟨oc_Group_init, od_Group_init, .func (PySem.W.fnOf "__init__" "Group.__init__" (defArgs s_Group_init) (defBody s_Group_init) (defScope s_Group_init) .none kV_Group_init doc_Group_init pm_Group_init an_Group_init cd_Group_init ct_Group_init), sl_Group_init⟩)
    (c_Group_init : PySem.W.codeIn K cd_Group_init "Group.__init__" = true) (k_Group_init : PySem.W.keepIn K (.ref f_Group_init) = true)
    (mo_Group : PySem.W.mroIn K C_Group (.type "object") = some true)
    (vu_Group_Rule : PySem.W.kitOne K (.ref C_Group) (.ref C_Rule) = some true)
    {C_Lookup : Addr} (a_Lookup : PySem.W.nsIn K mainGlobals "Lookup" = some (some (.ref C_Lookup)))
    (pg_Lookup : PySem.W.plainGet K C_Lookup Str.empty = true) (hd_Lookup : PySem.W.hasDictIn K C_Lookup = true) (po_Lookup : PySem.W.plainOver K C_Lookup = true) (sa_Lookup : PySem.W.findIn K (.ref C_Lookup) "__setattr__" = some (some (.builtin "object.__setattr__"))) (mk_Lookup : PySem.W.makesIn K C_Lookup = true) (kc_Lookup : PySem.W.keepIn K (.ref C_Lookup) = true) (hc_Lookup : PySem.W.findIn K (.ref C_Lookup) "__class__" = some (some (.builtin "object.__class__")))
    (na_Lookup_function : PySem.W.findIn K (.ref C_Lookup) "function" = some none)
    (na_Lookup_key : PySem.W.findIn K (.ref C_Lookup) "key" = some none)
    (na_Lookup_other : PySem.W.findIn K (.ref C_Lookup) "other" = some none)
    (na_Lookup_theirs : PySem.W.findIn K (.ref C_Lookup) "theirs" = some none)
    (na_Lookup_names : PySem.W.findIn K (.ref C_Lookup) "names" = some none)
    {f_Lookup_init : Addr} {oc_Lookup_init kV_Lookup_init doc_Lookup_init pm_Lookup_init cd_Lookup_init ct_Lookup_init : Value} {od_Lookup_init an_Lookup_init : Option Addr} {sl_Lookup_init : Array (Option Value)} (a_Lookup_init : PySem.W.findIn K (.ref C_Lookup) "__init__" = some (some (.ref f_Lookup_init))) (j_Lookup_init : PySem.W.isFn K (.ref f_Lookup_init) = true)
    (l_Lookup_init : K.lookup f_Lookup_init = some ⟨oc_Lookup_init, od_Lookup_init, .func (PySem.W.fnOf "__init__" "Lookup.__init__" (defArgs s_Lookup_init) (defBody s_Lookup_init) (defScope s_Lookup_init) .none kV_Lookup_init doc_Lookup_init pm_Lookup_init an_Lookup_init cd_Lookup_init ct_Lookup_init), sl_Lookup_init⟩)
    (c_Lookup_init : PySem.W.codeIn K cd_Lookup_init "Lookup.__init__" = true) (k_Lookup_init : PySem.W.keepIn K (.ref f_Lookup_init) = true)
    (mo_Lookup : PySem.W.mroIn K C_Lookup (.type "object") = some true)
    (vu_Lookup_Rule : PySem.W.kitOne K (.ref C_Lookup) (.ref C_Rule) = some true)
    {C_Mend : Addr} (a_Mend : PySem.W.nsIn K mainGlobals "Mend" = some (some (.ref C_Mend)))
    (pg_Mend : PySem.W.plainGet K C_Mend Str.empty = true) (hd_Mend : PySem.W.hasDictIn K C_Mend = true) (po_Mend : PySem.W.plainOver K C_Mend = true) (sa_Mend : PySem.W.findIn K (.ref C_Mend) "__setattr__" = some (some (.builtin "object.__setattr__"))) (mk_Mend : PySem.W.makesIn K C_Mend = true) (kc_Mend : PySem.W.keepIn K (.ref C_Mend) = true) (hc_Mend : PySem.W.findIn K (.ref C_Mend) "__class__" = some (some (.builtin "object.__class__")))
    (na_Mend_function : PySem.W.findIn K (.ref C_Mend) "function" = some none)
    (na_Mend_name : PySem.W.findIn K (.ref C_Mend) "name" = some none)
    {f_Mend_init : Addr} {oc_Mend_init kV_Mend_init doc_Mend_init pm_Mend_init cd_Mend_init ct_Mend_init : Value} {od_Mend_init an_Mend_init : Option Addr} {sl_Mend_init : Array (Option Value)} (a_Mend_init : PySem.W.findIn K (.ref C_Mend) "__init__" = some (some (.ref f_Mend_init))) (j_Mend_init : PySem.W.isFn K (.ref f_Mend_init) = true)
    (l_Mend_init : K.lookup f_Mend_init = some ⟨oc_Mend_init, od_Mend_init, .func (PySem.W.fnOf "__init__" "Mend.__init__" (defArgs s_Mend_init) (defBody s_Mend_init) (defScope s_Mend_init) .none kV_Mend_init doc_Mend_init pm_Mend_init an_Mend_init cd_Mend_init ct_Mend_init), sl_Mend_init⟩)
    (c_Mend_init : PySem.W.codeIn K cd_Mend_init "Mend.__init__" = true) (k_Mend_init : PySem.W.keepIn K (.ref f_Mend_init) = true)
    (mo_Mend : PySem.W.mroIn K C_Mend (.type "object") = some true)
    (vu_Mend_Rule : PySem.W.kitOne K (.ref C_Mend) (.ref C_Rule) = some true)
    (si_Rule_Above : PySem.W.kitOne K (.ref C_Rule) (.ref C_Above) = some false)
    (si_Rule_Cells : PySem.W.kitOne K (.ref C_Rule) (.ref C_Cells) = some false)
    (si_Rule_Group : PySem.W.kitOne K (.ref C_Rule) (.ref C_Group) = some false)
    (si_Rule_Lookup : PySem.W.kitOne K (.ref C_Rule) (.ref C_Lookup) = some false)
    (si_Rule_Mend : PySem.W.kitOne K (.ref C_Rule) (.ref C_Mend) = some false)
    (si_Rule_Rule : PySem.W.kitOne K (.ref C_Rule) (.ref C_Rule) = some true)
    (si_Cells_Above : PySem.W.kitOne K (.ref C_Cells) (.ref C_Above) = some false)
    (si_Cells_Cells : PySem.W.kitOne K (.ref C_Cells) (.ref C_Cells) = some true)
    (si_Cells_Group : PySem.W.kitOne K (.ref C_Cells) (.ref C_Group) = some false)
    (si_Cells_Lookup : PySem.W.kitOne K (.ref C_Cells) (.ref C_Lookup) = some false)
    (si_Cells_Mend : PySem.W.kitOne K (.ref C_Cells) (.ref C_Mend) = some false)
    (si_Above_Above : PySem.W.kitOne K (.ref C_Above) (.ref C_Above) = some true)
    (si_Above_Cells : PySem.W.kitOne K (.ref C_Above) (.ref C_Cells) = some false)
    (si_Above_Group : PySem.W.kitOne K (.ref C_Above) (.ref C_Group) = some false)
    (si_Above_Lookup : PySem.W.kitOne K (.ref C_Above) (.ref C_Lookup) = some false)
    (si_Above_Mend : PySem.W.kitOne K (.ref C_Above) (.ref C_Mend) = some false)
    (si_Group_Above : PySem.W.kitOne K (.ref C_Group) (.ref C_Above) = some false)
    (si_Group_Cells : PySem.W.kitOne K (.ref C_Group) (.ref C_Cells) = some false)
    (si_Group_Group : PySem.W.kitOne K (.ref C_Group) (.ref C_Group) = some true)
    (si_Group_Lookup : PySem.W.kitOne K (.ref C_Group) (.ref C_Lookup) = some false)
    (si_Group_Mend : PySem.W.kitOne K (.ref C_Group) (.ref C_Mend) = some false)
    (si_Lookup_Above : PySem.W.kitOne K (.ref C_Lookup) (.ref C_Above) = some false)
    (si_Lookup_Cells : PySem.W.kitOne K (.ref C_Lookup) (.ref C_Cells) = some false)
    (si_Lookup_Group : PySem.W.kitOne K (.ref C_Lookup) (.ref C_Group) = some false)
    (si_Lookup_Lookup : PySem.W.kitOne K (.ref C_Lookup) (.ref C_Lookup) = some true)
    (si_Lookup_Mend : PySem.W.kitOne K (.ref C_Lookup) (.ref C_Mend) = some false)
    (si_Mend_Above : PySem.W.kitOne K (.ref C_Mend) (.ref C_Above) = some false)
    (si_Mend_Cells : PySem.W.kitOne K (.ref C_Mend) (.ref C_Cells) = some false)
    (si_Mend_Group : PySem.W.kitOne K (.ref C_Mend) (.ref C_Group) = some false)
    (si_Mend_Lookup : PySem.W.kitOne K (.ref C_Mend) (.ref C_Lookup) = some false)
    (si_Mend_Mend : PySem.W.kitOne K (.ref C_Mend) (.ref C_Mend) = some true) : Tops K mg where
  len := PySem.W.mg_none_of X G n_len
  isinstance := PySem.W.mg_none_of X G n_isinstance
  int := PySem.W.mg_none_of X G n_int
  bool := PySem.W.mg_none_of X G n_bool
  str := PySem.W.mg_none_of X G n_str
  all := PySem.W.mg_none_of X G n_all
  range := PySem.W.mg_none_of X G n_range
  abs := PySem.W.mg_none_of X G n_abs
  list := PySem.W.mg_none_of X G n_list
  tuple := PySem.W.mg_none_of X G n_tuple
  max := PySem.W.mg_none_of X G n_max
  ValueError := PySem.W.mg_none_of X G n_ValueError
  g_LETTERS := ⟨_, PySem.W.mg_of X G i_LETTERS⟩
  g_MOST_LETTERS := ⟨_, PySem.W.mg_of X G i_MOST_LETTERS⟩
  g_MOST_NAMES := ⟨_, PySem.W.mg_of X G i_MOST_NAMES⟩
  d_is_whole := top_def X G a_is_whole l_is_whole c_is_whole k_is_whole
  d_is_number := top_def X G a_is_number l_is_number c_is_number k_is_number
  d_is_name := top_def X G a_is_name l_is_name c_is_name k_is_name
  d_check_name := top_def X G a_check_name l_check_name c_check_name k_check_name
  d_checked_names := top_def X G a_checked_names l_checked_names c_checked_names k_checked_names
  d_law_drawn := top_def X G a_law_drawn l_law_drawn c_law_drawn k_law_drawn
  d_law_name := top_def X G a_law_name l_law_name c_law_name k_law_name
  d_law_list := top_def X G a_law_list l_law_list c_law_list k_law_list
  d_law_first := top_def X G a_law_first l_law_first c_law_first k_law_first
  d_law_made := top_def X G a_law_made l_law_made c_law_made k_law_made
  d_law_asked := top_def X G a_law_asked l_law_asked c_law_asked k_law_asked
  d_law := top_def X G a_law l_law c_law k_law
  bs := ⟨_, top_defT X G a_law l_law c_law k_law w_law t_law⟩
  notabs := notabs
  exc := ⟨⟨C_ColsError, C_NoName, C_NoValue, C_NoTable, C_NoColumn, C_NoPlace, C_NoSize, C_NoText, C_NoRow, C_NoBack, C_TooMuch, C_Ruled, C_Ring, C_Nobody, C_Several⟩, { c_ColsError := PySem.W.mg_of X G q_ColsError, c_NoName := PySem.W.mg_of X G q_NoName, c_NoValue := PySem.W.mg_of X G q_NoValue, c_NoTable := PySem.W.mg_of X G q_NoTable, c_NoColumn := PySem.W.mg_of X G q_NoColumn, c_NoPlace := PySem.W.mg_of X G q_NoPlace, c_NoSize := PySem.W.mg_of X G q_NoSize, c_NoText := PySem.W.mg_of X G q_NoText, c_NoRow := PySem.W.mg_of X G q_NoRow, c_NoBack := PySem.W.mg_of X G q_NoBack, c_TooMuch := PySem.W.mg_of X G q_TooMuch, c_Ruled := PySem.W.mg_of X G q_Ruled, c_Ring := PySem.W.mg_of X G q_Ring, c_Nobody := PySem.W.mg_of X G q_Nobody, c_Several := PySem.W.mg_of X G q_Several, x_NoName := x_NoName, v_NoName := v_NoName, k_NoName := ⟨wa_NoName, wb_NoName, ⟨_, wc_NoName⟩, wd_NoName, w4, w5, we_NoName, wf_NoName⟩, i_NoName_ColsError := i_NoName_ColsError, e_NoName_ColsError := e_NoName_ColsError, i_NoName_NoName := i_NoName_NoName, i_NoName_NoValue := i_NoName_NoValue, i_NoName_NoTable := i_NoName_NoTable, i_NoName_NoColumn := i_NoName_NoColumn, i_NoName_NoPlace := i_NoName_NoPlace, i_NoName_NoSize := i_NoName_NoSize, i_NoName_NoText := i_NoName_NoText, i_NoName_NoRow := i_NoName_NoRow, i_NoName_NoBack := i_NoName_NoBack, i_NoName_TooMuch := i_NoName_TooMuch, i_NoName_Ruled := i_NoName_Ruled, i_NoName_Ring := i_NoName_Ring, i_NoName_Nobody := i_NoName_Nobody, i_NoName_Several := i_NoName_Several, x_NoValue := x_NoValue, v_NoValue := v_NoValue, k_NoValue := ⟨wa_NoValue, wb_NoValue, ⟨_, wc_NoValue⟩, wd_NoValue, w4, w5, we_NoValue, wf_NoValue⟩, i_NoValue_ColsError := i_NoValue_ColsError, e_NoValue_ColsError := e_NoValue_ColsError, i_NoValue_NoName := i_NoValue_NoName, i_NoValue_NoValue := i_NoValue_NoValue, i_NoValue_NoTable := i_NoValue_NoTable, i_NoValue_NoColumn := i_NoValue_NoColumn, i_NoValue_NoPlace := i_NoValue_NoPlace, i_NoValue_NoSize := i_NoValue_NoSize, i_NoValue_NoText := i_NoValue_NoText, i_NoValue_NoRow := i_NoValue_NoRow, i_NoValue_NoBack := i_NoValue_NoBack, i_NoValue_TooMuch := i_NoValue_TooMuch, i_NoValue_Ruled := i_NoValue_Ruled, i_NoValue_Ring := i_NoValue_Ring, i_NoValue_Nobody := i_NoValue_Nobody, i_NoValue_Several := i_NoValue_Several }⟩
  t_Rule := ⟨C_Rule, { c := PySem.W.mg_of X G a_Rule, cl := ⟨pg_Rule, hd_Rule, po_Rule, sa_Rule⟩, mks := mk_Rule, kc := kc_Rule, hc := hc_Rule, n_function := na_Rule_function, m_init := mth_mk a_Rule_init j_Rule_init l_Rule_init c_Rule_init k_Rule_init, v_init := ⟨vg_Rule_init, _, _, vr_Rule_init, vf_Rule_init, a_Rule_init⟩, si_Above := ⟨_, PySem.W.mg_of X G a_Above, si_Rule_Above⟩, si_Cells := ⟨_, PySem.W.mg_of X G a_Cells, si_Rule_Cells⟩, si_Group := ⟨_, PySem.W.mg_of X G a_Group, si_Rule_Group⟩, si_Lookup := ⟨_, PySem.W.mg_of X G a_Lookup, si_Rule_Lookup⟩, si_Mend := ⟨_, PySem.W.mg_of X G a_Mend, si_Rule_Mend⟩, si_Rule := ⟨_, PySem.W.mg_of X G a_Rule, si_Rule_Rule⟩ }⟩
  t_Cells := ⟨C_Cells, { c := PySem.W.mg_of X G a_Cells, cl := ⟨pg_Cells, hd_Cells, po_Cells, sa_Cells⟩, mks := mk_Cells, kc := kc_Cells, hc := hc_Cells, n_function := na_Cells_function, n_names := na_Cells_names, m_init := mth_mk a_Cells_init j_Cells_init l_Cells_init c_Cells_init k_Cells_init, up_Rule := ⟨_, PySem.W.mg_of X G a_Rule, vu_Cells_Rule, mo_Cells, ow4, ow5⟩, si_Above := ⟨_, PySem.W.mg_of X G a_Above, si_Cells_Above⟩, si_Cells := ⟨_, PySem.W.mg_of X G a_Cells, si_Cells_Cells⟩, si_Group := ⟨_, PySem.W.mg_of X G a_Group, si_Cells_Group⟩, si_Lookup := ⟨_, PySem.W.mg_of X G a_Lookup, si_Cells_Lookup⟩, si_Mend := ⟨_, PySem.W.mg_of X G a_Mend, si_Cells_Mend⟩ }⟩
  t_Above := ⟨C_Above, { c := PySem.W.mg_of X G a_Above, cl := ⟨pg_Above, hd_Above, po_Above, sa_Above⟩, mks := mk_Above, kc := kc_Above, hc := hc_Above, n_function := na_Above_function, n_names := na_Above_names, n_first := na_Above_first, m_init := mth_mk a_Above_init j_Above_init l_Above_init c_Above_init k_Above_init, up_Rule := ⟨_, PySem.W.mg_of X G a_Rule, vu_Above_Rule, mo_Above, ow4, ow5⟩, si_Above := ⟨_, PySem.W.mg_of X G a_Above, si_Above_Above⟩, si_Cells := ⟨_, PySem.W.mg_of X G a_Cells, si_Above_Cells⟩, si_Group := ⟨_, PySem.W.mg_of X G a_Group, si_Above_Group⟩, si_Lookup := ⟨_, PySem.W.mg_of X G a_Lookup, si_Above_Lookup⟩, si_Mend := ⟨_, PySem.W.mg_of X G a_Mend, si_Above_Mend⟩ }⟩
  t_Group := ⟨C_Group, { c := PySem.W.mg_of X G a_Group, cl := ⟨pg_Group, hd_Group, po_Group, sa_Group⟩, mks := mk_Group, kc := kc_Group, hc := hc_Group, n_function := na_Group_function, n_key := na_Group_key, n_name := na_Group_name, m_init := mth_mk a_Group_init j_Group_init l_Group_init c_Group_init k_Group_init, up_Rule := ⟨_, PySem.W.mg_of X G a_Rule, vu_Group_Rule, mo_Group, ow4, ow5⟩, si_Above := ⟨_, PySem.W.mg_of X G a_Above, si_Group_Above⟩, si_Cells := ⟨_, PySem.W.mg_of X G a_Cells, si_Group_Cells⟩, si_Group := ⟨_, PySem.W.mg_of X G a_Group, si_Group_Group⟩, si_Lookup := ⟨_, PySem.W.mg_of X G a_Lookup, si_Group_Lookup⟩, si_Mend := ⟨_, PySem.W.mg_of X G a_Mend, si_Group_Mend⟩ }⟩
  t_Lookup := ⟨C_Lookup, { c := PySem.W.mg_of X G a_Lookup, cl := ⟨pg_Lookup, hd_Lookup, po_Lookup, sa_Lookup⟩, mks := mk_Lookup, kc := kc_Lookup, hc := hc_Lookup, n_function := na_Lookup_function, n_key := na_Lookup_key, n_other := na_Lookup_other, n_theirs := na_Lookup_theirs, n_names := na_Lookup_names, m_init := mth_mk a_Lookup_init j_Lookup_init l_Lookup_init c_Lookup_init k_Lookup_init, up_Rule := ⟨_, PySem.W.mg_of X G a_Rule, vu_Lookup_Rule, mo_Lookup, ow4, ow5⟩, si_Above := ⟨_, PySem.W.mg_of X G a_Above, si_Lookup_Above⟩, si_Cells := ⟨_, PySem.W.mg_of X G a_Cells, si_Lookup_Cells⟩, si_Group := ⟨_, PySem.W.mg_of X G a_Group, si_Lookup_Group⟩, si_Lookup := ⟨_, PySem.W.mg_of X G a_Lookup, si_Lookup_Lookup⟩, si_Mend := ⟨_, PySem.W.mg_of X G a_Mend, si_Lookup_Mend⟩ }⟩
  t_Mend := ⟨C_Mend, { c := PySem.W.mg_of X G a_Mend, cl := ⟨pg_Mend, hd_Mend, po_Mend, sa_Mend⟩, mks := mk_Mend, kc := kc_Mend, hc := hc_Mend, n_function := na_Mend_function, n_name := na_Mend_name, m_init := mth_mk a_Mend_init j_Mend_init l_Mend_init c_Mend_init k_Mend_init, up_Rule := ⟨_, PySem.W.mg_of X G a_Rule, vu_Mend_Rule, mo_Mend, ow4, ow5⟩, si_Above := ⟨_, PySem.W.mg_of X G a_Above, si_Mend_Above⟩, si_Cells := ⟨_, PySem.W.mg_of X G a_Cells, si_Mend_Cells⟩, si_Group := ⟨_, PySem.W.mg_of X G a_Group, si_Mend_Group⟩, si_Lookup := ⟨_, PySem.W.mg_of X G a_Lookup, si_Mend_Lookup⟩, si_Mend := ⟨_, PySem.W.mg_of X G a_Mend, si_Mend_Mend⟩ }⟩
theorem walk {l : PySem.W.OpenLaw} {q : Program} {loose : List Str} {XP : (Str → Option Value) → Heap → Prop} {YP : World → Heap → Prop} {d : DefRec} {K : Params → PySem.W.Frag} (hn : l.most = some 63) (hdf : d.params.defaults = []) (hdn : d.name = "law")
    (hY : ∀ (w : World) (h : Heap), YP w h → (K w.params).In h)
    (recs : ((PyProof.Rows.recsOf q).find? (fun e => e.name == ("law" : Str))).isSome = true)
    (F : ∀ (w : World) (mg : Str → Option Value) (h : Heap), (K w.params).In h → h.Ns mainGlobals mg → Tops (K w.params) mg) :
    PySem.W.WalkO q loose XP YP l.row.toRowW d [] (fun f vs => PySem.call f vs) :=
  L2.walk_ofC (n := 63) (k := 12) (x := "_law_script") (CX := fun _ => CX0) (sp := fun w tabs => spLaw (K w.params) tabs) hn (by decide) hdf ⟨rfl, by decide, by decide⟩ hY
    (fun w mg fa h KX G hmg => by
      have T := F w mg h KX G
      obtain ⟨z_law, B_law⟩ := T.bs
      obtain ⟨f, fd, F4, hm, hcd⟩ := B_law.ex
      rw [hdn] at hmg
      have e := hmg.symm.trans hm
      cases e
      have r_law := recs
      refine ⟨T.notabs, [z_law], fun z hz => ?_, fd, fun s u => ?_, fun base kb nb mk => ?_⟩
      · simp only [List.mem_cons, List.not_mem_nil, or_false] at hz
        rcases hz with rfl
        · exact ⟨⟨_, r_law, B_law.tab⟩⟩
      · obtain ⟨oc, od, kV, doc, pm, an, cdv, ct, osl, rfl, _⟩ := F4.ex
        exact .of_eq rfl
      · exact ok_law T B_law (mk _ (by simp)) F4 hcd)
    (fun _ _ _ a ns hl hT hS => ⟨a, ns, rfl, hS, hl, hT, fun _ hT' => ⟨rfl, hT'⟩⟩) fun _ _ _ _ _ z => z
end My
def PySem.W.Fast.tw545358769618253538 : Unit := ()
def PySem.W.Fast.tw2613576290258089553 : Unit := ()
def PySem.W.Fast.tw1546001488176602494 : Unit := ()
def PySem.W.Fast.tw17647335078139441224 : Unit := ()
def PySem.W.Fast.tw17726681330939947831 : Unit := ()
def PySem.W.Fast.tw655349598789392643 : Unit := ()
def PySem.W.Fast.tw945621200680519556 : Unit := ()
def PySem.W.Fast.tw4113111732177726386 : Unit := ()
def PySem.W.Fast.tw8034673265726852567 : Unit := ()
def PySem.W.Fast.tw11633486629873549026 : Unit := ()
def PySem.W.Fast.tw7603206065889058110 : Unit := ()
def PySem.W.Fast.tw11469542333332364556 : Unit := ()
def PySem.W.Fast.tw5276337607357731973 : Unit := ()
def PySem.W.Fast.tw17931075130778781142 : Unit := ()
def PySem.W.Fast.tw1669734068305909446 : Unit := ()
def PySem.W.Fast.tw5793471216465276525 : Unit := ()
def PySem.W.Fast.tw17265967727326844818 : Unit := ()
def PySem.W.Fast.tw12582023627777322264 : Unit := ()
def PySem.W.Fast.tw17001130472221639930 : Unit := ()
def PySem.W.Fast.tw562795806783814428 : Unit := ()
def PySem.W.Fast.tw13219425814985553273 : Unit := ()
def PySem.W.Fast.tw8463258372374114610 : Unit := ()
def PySem.W.Fast.tw13898172148337736760 : Unit := ()
def PySem.W.Fast.tw10715108096582427482 : Unit := ()
def PySem.W.Fast.tw15705325208841268144 : Unit := ()
def PySem.W.Fast.tw18316042424466410584 : Unit := ()
def PySem.W.Fast.tw13213339272730788145 : Unit := ()
def PySem.W.Fast.tw8643378679226978805 : Unit := ()
def PySem.W.Fast.tw18360811235994417410 : Unit := ()
def PySem.W.Fast.tw7554017223097782787 : Unit := ()
def PySem.W.Fast.tw16242183304467690936 : Unit := ()
def PySem.W.Fast.tw11648052430202944583 : Unit := ()
def PySem.W.Fast.tw8754278416109174110 : Unit := ()
def PySem.W.Fast.tw6080662917062716938 : Unit := ()
def PySem.W.Fast.tw16491866210490645377 : Unit := ()
def PySem.W.Fast.tw15050636897550994556 : Unit := ()
def PySem.W.Fast.tw3944281206267597697 : Unit := ()
def PySem.W.Fast.tw12034197731690503945 : Unit := ()
def PySem.W.Fast.tw4963278911976987769 : Unit := ()
def PySem.W.Fast.tw2237232440837706561 : Unit := ()
def PySem.W.Fast.tw12968569773859709661 : Unit := ()
def PySem.W.Fast.tw8095254183963129784 : Unit := ()
def PySem.W.Fast.tw2167273534441146950 : Unit := ()
def PySem.W.Fast.tw1106132477669110965 : Unit := ()
def PySem.W.Fast.tw18131046063453466349 : Unit := ()
def PySem.W.Fast.tw7584252602196193122 : Unit := ()
def PySem.W.Fast.tw16668118465883571499 : Unit := ()
def PySem.W.Fast.tw5402485316194733348 : Unit := ()
def PySem.W.Fast.tw676766700132226233 : Unit := ()
def PySem.W.Fast.tw8712113854671067974 : Unit := ()
def PySem.W.Fast.tw6722294167947921295 : Unit := ()
def PySem.W.Fast.tw17401858663537315117 : Unit := ()
def PySem.W.Fast.tw2260729652061803509 : Unit := ()
def PySem.W.Fast.tw17693348174824752485 : Unit := ()
def PySem.W.Fast.tw16777773255593633325 : Unit := ()
def PySem.W.Fast.tw2948774518617757198 : Unit := ()
def PySem.W.Fast.tw8629461511204375691 : Unit := ()
def PySem.W.Fast.tw6977025091868593107 : Unit := ()
def PySem.W.Fast.tw3348003852091124771 : Unit := ()
def PySem.W.Fast.tw12561321148521990542 : Unit := ()
def PySem.W.Fast.tw10472053997209943986 : Unit := ()
def PySem.W.Fast.tw439193202248261409 : Unit := ()
def PySem.W.Fast.tw18353573250640611390 : Unit := ()
def PySem.W.Fast.tw14405878346604728697 : Unit := ()
def PySem.W.Fast.tw6634837702586643766 : Unit := ()
def PySem.W.Fast.tw11462644536091006463 : Unit := ()
def PySem.W.Fast.tw5581121255737277025 : Unit := ()
def PySem.W.Fast.tw11612087202739563497 : Unit := ()
def PySem.W.Fast.tw12806892331280877476 : Unit := ()
def PySem.W.Fast.tw4261298216923824910 : Unit := ()
def PySem.W.Fast.tw17369371460551684097 : Unit := ()
def PySem.W.Fast.tw2391394133071303809 : Unit := ()
def PySem.W.Fast.tw11134439237305833598 : Unit := ()
def PySem.W.Fast.tw3431981589223933908 : Unit := ()
def PySem.W.Fast.tw16938580925955424461 : Unit := ()
def PySem.W.Fast.tw12728863822992851446 : Unit := ()
def PySem.W.Fast.tw14178974930898785653 : Unit := ()
def PySem.W.Fast.tw10123613285893678724 : Unit := ()
def PySem.W.Fast.tw978854738974746140 : Unit := ()
def PySem.W.Fast.tw15336512654768395136 : Unit := ()
def PySem.W.Fast.tw12035283655198954236 : Unit := ()
def PySem.W.Fast.tw1107902379536925804 : Unit := ()
def PySem.W.Fast.tw13690777928937008510 : Unit := ()
def PySem.W.Fast.tw9419643899830594606 : Unit := ()
def PySem.W.Fast.tw3523554840748368496 : Unit := ()
def PySem.W.Fast.tw917786367718246194 : Unit := ()
def PySem.W.Fast.tw5263803867275440405 : Unit := ()
def PySem.W.Fast.tw6545869098722782381 : Unit := ()
def PySem.W.Fast.tw13387018196094370882 : Unit := ()
def PySem.W.Fast.tw1472151705200567496 : Unit := ()
def PySem.W.Fast.tw17432777776993003808 : Unit := ()
def PySem.W.Fast.tw6940465172936775504 : Unit := ()
def PySem.W.Fast.tw716684178327286557 : Unit := ()
def PySem.W.Fast.tw8656967143100374852 : Unit := ()
def PySem.W.Fast.tw8833491010619364080 : Unit := ()
def PySem.W.Fast.tw16013827752721330160 : Unit := ()
def PySem.W.Fast.tw11654664667473327900 : Unit := ()
def PySem.W.Fast.tw14538122711909175977 : Unit := ()
def PySem.W.Fast.tw5580198572178615147 : Unit := ()
def PySem.W.Fast.tw5605522342282464419 : Unit := ()
def PySem.W.Fast.tw3933961175252153094 : Unit := ()
def PySem.W.Fast.tw13926369000272111318 : Unit := ()
def PySem.W.Fast.tw16608661914278972933 : Unit := ()
def PySem.W.Fast.tw2121817007278247053 : Unit := ()
def PySem.W.Fast.tw8273508128605622244 : Unit := ()
def PySem.W.Fast.tw17075377796910214856 : Unit := ()
def PySem.W.Fast.tw9048790933787338227 : Unit := ()
def PySem.W.Fast.tw411707760817044382 : Unit := ()
def PySem.W.Fast.tw2609387853638973654 : Unit := ()
def PySem.W.Fast.tw3070441181979417996 : Unit := ()
def PySem.W.Fast.tw5369477656872285556 : Unit := ()
def PySem.W.Fast.tw13664202592438430368 : Unit := ()
def PySem.W.Fast.tw14428351900514426689 : Unit := ()
def PySem.W.Fast.tw9844215468076735627 : Unit := ()
def PySem.W.Fast.tw14199440512001384084 : Unit := ()
def PySem.W.Fast.tw2920067477710690294 : Unit := ()
def PySem.W.Fast.tw2688905603484173822 : Unit := ()
def PySem.W.Fast.tw370906259314612472 : Unit := ()
def PySem.W.Fast.tw14300794938509701377 : Unit := ()
def PySem.W.Fast.tw9120986708330956556 : Unit := ()
def PySem.W.Fast.tw2694317347675494364 : Unit := ()
def PySem.W.Fast.tw11915802569642806049 : Unit := ()
def PySem.W.Fast.tw10476226615739265491 : Unit := ()
def PySem.W.Fast.tw3041301530795056679 : Unit := ()
def PySem.W.Fast.tw17180222705120348409 : Unit := ()
def PySem.W.Fast.tw7398175220093954593 : Unit := ()
def PySem.W.Fast.tw11786059293771252870 : Unit := ()
def PySem.W.Fast.tw6802293657479266780 : Unit := ()
def PySem.W.Fast.tw10302368124188059993 : Unit := ()
def PySem.W.Fast.tw8278808369224292129 : Unit := ()
def PySem.W.Fast.tw17465224014790646161 : Unit := ()
def PySem.W.Fast.tw10424779424694118483 : Unit := ()
def PySem.W.Fast.tw13043765752472880106 : Unit := ()
def PySem.W.Fast.tw14778593237325673193 : Unit := ()
def PySem.W.Fast.tw15540648757941615952 : Unit := ()
def PySem.W.Fast.tw4298289050262163912 : Unit := ()
def PySem.W.Fast.tw7947246393117719625 : Unit := ()
def PySem.W.Fast.tw8117015020515955593 : Unit := ()
def PySem.W.Fast.tw6305844734622129717 : Unit := ()
def PySem.W.Fast.tw17776612768347773586 : Unit := ()
def PySem.W.Fast.tw8403692435401568775 : Unit := ()
def PySem.W.Fast.tw11773583516511325604 : Unit := ()
def PySem.W.Fast.tw3688522578232851374 : Unit := ()
def PySem.W.Fast.tw14620588664512559521 : Unit := ()
def PySem.W.Fast.tw3525390252530350420 : Unit := ()
def PySem.W.Fast.tw9050630231210982989 : Unit := ()
def PySem.W.Fast.tw12463534946965198722 : Unit := ()
def PySem.W.Fast.tw15198287397019547106 : Unit := ()
def PySem.W.Fast.tw13877595345188203183 : Unit := ()
def PySem.W.Fast.tw13074724588637479143 : Unit := ()
def PySem.W.Fast.tw15748118829506966173 : Unit := ()
def PySem.W.Fast.tw6813734908716556524 : Unit := ()
def PySem.W.Fast.tw7940286514061811320 : Unit := ()
def PySem.W.Fast.tw18387839710512618895 : Unit := ()
def PySem.W.Fast.tw8014725156202484611 : Unit := ()
def PySem.W.Fast.tw17750140156813838769 : Unit := ()
def PySem.W.Fast.tw1024723210810021446 : Unit := ()
def PySem.W.Fast.tw11603673938788418863 : Unit := ()
def PySem.W.Fast.tw1714975833615489840 : Unit := ()
def PySem.W.Fast.tw13064772141135426282 : Unit := ()
def PySem.W.Fast.tw15965375344691956620 : Unit := ()
def PySem.W.Fast.tw4565254045657050631 : Unit := ()
def PySem.W.Fast.tw10554325333154254848 : Unit := ()
def PySem.W.Fast.tw5792835715815732746 : Unit := ()
def PySem.W.Fast.tw14216242198105168194 : Unit := ()
def PySem.W.Fast.tw2502881408676441928 : Unit := ()
def PySem.W.Fast.tw17991710635715570396 : Unit := ()
def PySem.W.Fast.tw12201687009900951870 : Unit := ()
def PySem.W.Fast.tw7240153893684035027 : Unit := ()
def PySem.W.Fast.tw3391852230844742328 : Unit := ()
def PySem.W.Fast.tw12683579567173577874 : Unit := ()
def PySem.W.Fast.tw11907571975423082207 : Unit := ()
def PySem.W.Fast.tw10420937187443503054 : Unit := ()
def PySem.W.Fast.tw16045640190360900353 : Unit := ()
def PySem.W.Fast.tw16222762383620832903 : Unit := ()
def PySem.W.Fast.tw3974285326571667906 : Unit := ()
def PySem.W.Fast.tw6045781256484770477 : Unit := ()
def PySem.W.Fast.tw17102324724167332567 : Unit := ()
def PySem.W.Fast.tw172991524585204957 : Unit := ()
def PySem.W.Fast.tw17679600608718284162 : Unit := ()
def PySem.W.Fast.tw15556863555439840792 : Unit := ()
def PySem.W.Fast.tw11411124667780623878 : Unit := ()
def PySem.W.Fast.tw162919032479357645 : Unit := ()
def PySem.W.Fast.tw9068503995283382409 : Unit := ()
def PySem.W.Fast.tw10363938967777307219 : Unit := ()
def PySem.W.Fast.tw7647702821375020640 : Unit := ()
def PySem.W.Fast.tw13693277403780386600 : Unit := ()
def PySem.W.Fast.tw2528348194820243692 : Unit := ()
def PySem.W.Fast.tw2197304105957132928 : Unit := ()
def PySem.W.Fast.tw4064899569012206343 : Unit := ()
def PySem.W.Fast.tw4822539458487366978 : Unit := ()
def PySem.W.Fast.tw2929990811546430515 : Unit := ()
def PySem.W.Fast.tw4720880453244732448 : Unit := ()
def PySem.W.Fast.tw14188711529168817087 : Unit := ()
def PySem.W.Fast.tw14233415550254447744 : Unit := ()
def PySem.W.Fast.tw844225672925385753 : Unit := ()
def PySem.W.Fast.tw6831583895829639483 : Unit := ()
def PySem.W.Fast.tw12684783765263040171 : Unit := ()
def PySem.W.Fast.tw1888007403125746182 : Unit := ()
def PySem.W.Fast.tw6900456641571324126 : Unit := ()
def PySem.W.Fast.tw9471205502628675797 : Unit := ()
def PySem.W.Fast.tw5172780719576705729 : Unit := ()
def PySem.W.Fast.tw811018030963986762 : Unit := ()
def PySem.W.Fast.tw6833519839812981941 : Unit := ()
def PySem.W.Fast.tw10538320060873075429 : Unit := ()
def PySem.W.Fast.tw7428358383990050953 : Unit := ()
def PySem.W.Fast.tw10315885319267461248 : Unit := ()
def PySem.W.Fast.tw15616865253464454690 : Unit := ()
def PySem.W.Fast.tw6792319082123227245 : Unit := ()
def PySem.W.Fast.tw13502605306408985039 : Unit := ()
def PySem.W.Fast.tw11071905400446236599 : Unit := ()
def PySem.W.Fast.tw16371987157096362658 : Unit := ()
def PySem.W.Fast.tw2592164285016165772 : Unit := ()
def PySem.W.Fast.tw16225544059468674727 : Unit := ()
def PySem.W.Fast.tw11351699214921702536 : Unit := ()
def PySem.W.Fast.tw2802569386745383993 : Unit := ()
def PySem.W.Fast.tw4577636127331195880 : Unit := ()
def PySem.W.Fast.tw6454742849599615125 : Unit := ()
def PySem.W.Fast.tw1854047595477020088 : Unit := ()
def PySem.W.Fast.tw3030926422810653710 : Unit := ()
def PySem.W.Fast.tw13603961332827981256 : Unit := ()
def PySem.W.Fast.tw17900763196851375865 : Unit := ()
def PySem.W.Fast.tw7237229599145247785 : Unit := ()
def PySem.W.Fast.tw14717669178269729306 : Unit := ()
def PySem.W.Fast.tw9833616253213079223 : Unit := ()
def PySem.W.Fast.tw11532714671953394094 : Unit := ()
def PySem.W.Fast.tw14662813990569548952 : Unit := ()
def PySem.W.Fast.tw11935081986242873823 : Unit := ()
def PySem.W.Fast.tw8407379655717842098 : Unit := ()
def PySem.W.Fast.tw8031522492391595359 : Unit := ()
def PySem.W.Fast.tw5877874357997119433 : Unit := ()
def PySem.W.Fast.tw8223837993678884897 : Unit := ()
def PySem.W.Fast.tw12981400078023625609 : Unit := ()
def PySem.W.Fast.tw14803631379788517708 : Unit := ()
def PySem.W.Fast.tw5060756557182085344 : Unit := ()
def PySem.W.Fast.tw4953336984250385623 : Unit := ()
def PySem.W.Fast.tw14432100245770864581 : Unit := ()
def PySem.W.Fast.tw8717604152951290036 : Unit := ()
def PySem.W.Fast.tw15410907140812454569 : Unit := ()
def PySem.W.Fast.tw15640153479050097338 : Unit := ()
def PySem.W.Fast.tw2694461417536899476 : Unit := ()
def PySem.W.Fast.tw8060580925105058560 : Unit := ()
def PySem.W.Fast.tw10807092006604940619 : Unit := ()
def PySem.W.Fast.tw5844384972034628767 : Unit := ()
def PySem.W.Fast.tw7198777197908941008 : Unit := ()
def PySem.W.Fast.tw4192157960932903087 : Unit := ()
def PySem.W.Fast.tw10721518652263320180 : Unit := ()
def PySem.W.Fast.tw11030337886068655857 : Unit := ()
def PySem.W.Fast.tw6949577480764528904 : Unit := ()
def PySem.W.Fast.tw13151457559444081138 : Unit := ()
def PySem.W.Fast.tw16315570899201150 : Unit := ()
def PySem.W.Fast.tw11207593359582438738 : Unit := ()
def PySem.W.Fast.tw492660801176531089 : Unit := ()
def PySem.W.Fast.tw9295924195500274720 : Unit := ()
def PySem.W.Fast.tw963767688115123105 : Unit := ()
def PySem.W.Fast.tw10854425089228536303 : Unit := ()
def PySem.W.Fast.tw8805269086821075798 : Unit := ()
def PySem.W.Fast.tw10583858420105189256 : Unit := ()
def PySem.W.Fast.tw8787047202970495705 : Unit := ()
def PySem.W.Fast.tw175367655324931204 : Unit := ()
def PySem.W.Fast.tw6801494594878324551 : Unit := ()
def PySem.W.Fast.tw7565080648183827680 : Unit := ()
def PySem.W.Fast.tw1258443572930614303 : Unit := ()
def PySem.W.Fast.tw15986787089609216681 : Unit := ()
def PySem.W.Fast.tw9120292959562040750 : Unit := ()
def PySem.W.Fast.tw18211173716145752819 : Unit := ()
def PySem.W.Fast.tw12849520626240575767 : Unit := ()
def PySem.W.Fast.tw10986017097235642019 : Unit := ()
def PySem.W.Fast.tw959512924358421703 : Unit := ()
def PySem.W.Fast.tw9735763603544737188 : Unit := ()
def PySem.W.Fast.tw4717627899112972397 : Unit := ()
def PySem.W.Fast.tw16422977198060854936 : Unit := ()
def PySem.W.Fast.tw11927842340242480719 : Unit := ()
def PySem.W.Fast.tw4052214217340893023 : Unit := ()
def PySem.W.Fast.tw951779089481139489 : Unit := ()
def PySem.W.Fast.tw8809484657652421030 : Unit := ()
def PySem.W.Fast.tw10055796653649191465 : Unit := ()
def PySem.W.Fast.tw16151489042382651913 : Unit := ()
def PySem.W.Fast.tw8042221730706513671 : Unit := ()
def PySem.W.Fast.tw2251324511069859536 : Unit := ()
def PySem.W.Fast.tw18154746268624369607 : Unit := ()
def PySem.W.Fast.tw13948045770063216838 : Unit := ()
def PySem.W.Fast.tw3292449326656087535 : Unit := ()
def PySem.W.Fast.tw6033554731219706871 : Unit := ()
def PySem.W.Fast.tw4174757317800386051 : Unit := ()
def PySem.W.Fast.tw13711937254940225968 : Unit := ()
def PySem.W.Fast.tw17081313594183039938 : Unit := ()
def PySem.W.Fast.tw5538438402950324679 : Unit := ()
def PySem.W.Fast.tw2876784570014250754 : Unit := ()
def PySem.W.Fast.tw487153677854399855 : Unit := ()
def PySem.W.Fast.tw887284673768886921 : Unit := ()
def PySem.W.Fast.tw16726652657673629823 : Unit := ()
def PySem.W.Fast.tw6638448886853984909 : Unit := ()
def PySem.W.Fast.tw9009121730392086698 : Unit := ()
def PySem.W.Fast.tw5508121829155457896 : Unit := ()
def PySem.W.Fast.tw2541778002128793562 : Unit := ()
def PySem.W.Fast.tw17048746510543773418 : Unit := ()
def PySem.W.Fast.tw9050891221256473325 : Unit := ()
def PySem.W.Fast.tw13937170328585522035 : Unit := ()
def PySem.W.Fast.tw586158640973696747 : Unit := ()
def PySem.W.Fast.tw17259653434440843339 : Unit := ()
def PySem.W.Fast.tw15821816269056916496 : Unit := ()
def PySem.W.Fast.tw11172287613142965376 : Unit := ()
def PySem.W.Fast.tw13090795596791129155 : Unit := ()
def PySem.W.Fast.tw17894709743263017106 : Unit := ()
def PySem.W.Fast.tw14542730224610019239 : Unit := ()
def PySem.W.Fast.tw11311949357539168145 : Unit := ()
def PySem.W.Fast.tw1973713926141401336 : Unit := ()
def PySem.W.Fast.tw6898324190080440583 : Unit := ()
def PySem.W.Fast.tw8590242840554701952 : Unit := ()
def PySem.W.Fast.tw9547451767513041944 : Unit := ()
def PySem.W.Fast.tw5730007159336051538 : Unit := ()
def PySem.W.Fast.tw16496731756184254941 : Unit := ()
def PySem.W.Fast.tw3351144208154501868 : Unit := ()
def PySem.W.Fast.tw5392279839980374341 : Unit := ()
def PySem.W.Fast.tw4845627979880550146 : Unit := ()
def PySem.W.Fast.tw8591925331084725869 : Unit := ()
def PySem.W.Fast.tw2350223237692518291 : Unit := ()
def PySem.W.Fast.tw17705617828001062500 : Unit := ()
def PySem.W.Fast.tw2962364832834218502 : Unit := ()
def PySem.W.Fast.tw3967351423576186548 : Unit := ()
def PySem.W.Fast.tw9113426290817459722 : Unit := ()
def PySem.W.Fast.tw4735880442063681714 : Unit := ()
def PySem.W.Fast.tw1087108040070892673 : Unit := ()
def PySem.W.Fast.tw14105619530195059618 : Unit := ()
def PySem.W.Fast.tw3222350355716006296 : Unit := ()
def PySem.W.Fast.tw12655007866804834631 : Unit := ()
def PySem.W.Fast.tw10380722706729432262 : Unit := ()
def PySem.W.Fast.tw13894504327376652999 : Unit := ()
def PySem.W.Fast.tw11088823509015523471 : Unit := ()
def PySem.W.Fast.tw3561989302540000740 : Unit := ()
def PySem.W.Fast.tw5630358576911264415 : Unit := ()
def PySem.W.Fast.tw15943286921932881191 : Unit := ()
def PySem.W.Fast.tw871655761626868213 : Unit := ()
def PySem.W.Fast.tw3334688497860352733 : Unit := ()
def PySem.W.Fast.tw13293197661509797147 : Unit := ()
def PySem.W.Fast.tw1054157329898056964 : Unit := ()
def PySem.W.Fast.tw11858120615189949544 : Unit := ()
def PySem.W.Fast.tw11604807577676122825 : Unit := ()
def PySem.W.Fast.tw17948383816310628774 : Unit := ()
def PySem.W.Fast.tw9094476764676885489 : Unit := ()
def PySem.W.Fast.tw15690129943798431700 : Unit := ()
def PySem.W.Fast.tw17648601125746265078 : Unit := ()
def PySem.W.Fast.tw16906219243575277920 : Unit := ()
def PySem.W.Fast.tw1378422775053439564 : Unit := ()
def PySem.W.Fast.tw13636723922827261836 : Unit := ()
def PySem.W.Fast.tw11472987799725235949 : Unit := ()
def PySem.W.Fast.tw12092459584775934041 : Unit := ()
def PySem.W.Fast.tw11420101464054009281 : Unit := ()
def PySem.W.Fast.tw16719130764878060271 : Unit := ()
def PySem.W.Fast.tw5620777716943203325 : Unit := ()
def PySem.W.Fast.tw7958553265452779321 : Unit := ()
def PySem.W.Fast.tw10270762962307760932 : Unit := ()
def PySem.W.Fast.tw8013259566480580433 : Unit := ()
def PySem.W.Fast.tw10237786644514270189 : Unit := ()
def PySem.W.Fast.tw10249880772094578633 : Unit := ()
def PySem.W.Fast.tw10242406999932490104 : Unit := ()
def PySem.W.Fast.tw654495165021978880 : Unit := ()
def PySem.W.Fast.tw17156135075587561181 : Unit := ()
def PySem.W.Fast.tw1439542437904241947 : Unit := ()
def PySem.W.Fast.tw11193143783267533315 : Unit := ()
def PySem.W.Fast.tw18320888523644114830 : Unit := ()
def PySem.W.Fast.tw17945407189922788047 : Unit := ()
def PySem.W.Fast.tw13850480062302284923 : Unit := ()
def PySem.W.Fast.tw18173606981793767751 : Unit := ()
def PySem.W.Fast.tw10282185974809437010 : Unit := ()
def PySem.W.Fast.tw2145467142251674802 : Unit := ()
def PySem.W.Fast.tw16127985969033104351 : Unit := ()
def PySem.W.Fast.tw16129441622166541666 : Unit := ()
def PySem.W.Fast.tw8802553981752839828 : Unit := ()
def PySem.W.Fast.tw14135585115971122867 : Unit := ()
def PySem.W.Fast.tw14630769087152372449 : Unit := ()
def PySem.W.Fast.tw13908311845462622328 : Unit := ()
def PySem.W.Fast.tw13409124671325147015 : Unit := ()
def PySem.W.Fast.tw13247114815822570026 : Unit := ()
def PySem.W.Fast.tw5073944439937507146 : Unit := ()
def PySem.W.Fast.tw10767101925508643723 : Unit := ()
def PySem.W.Fast.tw4191779709726666703 : Unit := ()
def PySem.W.Fast.tw11776178330929863571 : Unit := ()
def PySem.W.Fast.tw14357070365888980658 : Unit := ()
def PySem.W.Fast.tw11408826822141430013 : Unit := ()
def PySem.W.Fast.tw408718354554886273 : Unit := ()
def PySem.W.Fast.tw12507298969499066699 : Unit := ()
def PySem.W.Fast.tw6784285796179697894 : Unit := ()
def PySem.W.Fast.tw995567975657560919 : Unit := ()
def PySem.W.Fast.tw15505215875635444920 : Unit := ()
def PySem.W.Fast.tw10290131667893923000 : Unit := ()
def PySem.W.Fast.tw7538784264871023326 : Unit := ()
def PySem.W.Fast.tw5578139563046854801 : Unit := ()
def PySem.W.Fast.tw14060384749573354364 : Unit := ()
def PySem.W.Fast.tw13484955461595232634 : Unit := ()
def PySem.W.Fast.tw16154387159730102124 : Unit := ()
def PySem.W.Fast.tw2468476893882711484 : Unit := ()
def PySem.W.Fast.tw12675561257715620080 : Unit := ()
def PySem.W.Fast.tw6801422504548546853 : Unit := ()
def PySem.W.Fast.tw2419661019175596292 : Unit := ()
def PySem.W.Fast.tw9049890012862478974 : Unit := ()
def PySem.W.Fast.tw10627058087277137367 : Unit := ()
def PySem.W.Fast.tw8847879878028251728 : Unit := ()
def PySem.W.Fast.tw1986766988133860505 : Unit := ()
def PySem.W.Fast.tw12430209437763363081 : Unit := ()
def PySem.W.Fast.tw13859789080528333631 : Unit := ()
def PySem.W.Fast.tw16570374882556665151 : Unit := ()
def PySem.W.Fast.tw10251916608159847259 : Unit := ()
def PySem.W.Fast.tw3749487503755403124 : Unit := ()
def PySem.W.Fast.tw6768623097938878522 : Unit := ()
def PySem.W.Fast.tw6592525651415616754 : Unit := ()
def PySem.W.Fast.tw15973999181922158602 : Unit := ()
def PySem.W.Fast.tw505430017458973740 : Unit := ()
def PySem.W.Fast.tw17149522168441466826 : Unit := ()
def PySem.W.Fast.tw16513824371084093348 : Unit := ()
def PySem.W.Fast.tw7573952899526897741 : Unit := ()
def PySem.W.Fast.tw15466817621143457947 : Unit := ()
def PySem.W.Fast.tw2327512794888585578 : Unit := ()
def PySem.W.Fast.tw4105373926951123470 : Unit := ()
def PySem.W.Fast.tw16886433366824936316 : Unit := ()
def PySem.W.Fast.tw3641493615546822300 : Unit := ()
def PySem.W.Fast.tw6421494363802013620 : Unit := ()
def PySem.W.Fast.tw15189195362718673528 : Unit := ()
def PySem.W.Fast.tw16808381222748696742 : Unit := ()
def PySem.W.Fast.tw15110897361584318125 : Unit := ()
def PySem.W.Fast.tw8001601161420540184 : Unit := ()
def PySem.W.Fast.tw4264870120375232897 : Unit := ()
def PySem.W.Fast.tw7566130385923464880 : Unit := ()
def PySem.W.Fast.tw555109869327677696 : Unit := ()
def PySem.W.Fast.tw13444937645800996524 : Unit := ()
def PySem.W.Fast.tw18271043917001276237 : Unit := ()
def PySem.W.Fast.tw18029118189587283063 : Unit := ()
def PySem.W.Fast.tw16815228010319636284 : Unit := ()
def PySem.W.Fast.tw10172874818839214999 : Unit := ()
def PySem.W.Fast.tw18041375379424471836 : Unit := ()
def PySem.W.Fast.tw15919162439614037393 : Unit := ()
def PySem.W.Fast.tw8118564850663553287 : Unit := ()
def PySem.W.Fast.tw17250166078014273322 : Unit := ()
def PySem.W.Fast.tw16463322461788256226 : Unit := ()
def PySem.W.Fast.tw13026511676426253371 : Unit := ()
def PySem.W.Fast.tw11571332477272403573 : Unit := ()
def PySem.W.Fast.tw11719903407484847801 : Unit := ()
def PySem.W.Fast.tw8323757410116977875 : Unit := ()
def PySem.W.Fast.tw6436598274949264488 : Unit := ()
def PySem.W.Fast.tw16528969432270451425 : Unit := ()
def PySem.W.Fast.tw346135740913964273 : Unit := ()
def PySem.W.Fast.tw7728364432057929185 : Unit := ()
def PySem.W.Fast.tw16189156957444118907 : Unit := ()
def PySem.W.Fast.tw16349556323912369344 : Unit := ()
def PySem.W.Fast.tw8646934625658042277 : Unit := ()
def PySem.W.Fast.tw4914044279515943552 : Unit := ()
def PySem.W.Fast.tw7305033033992679132 : Unit := ()
def PySem.W.Fast.tw17361627342686979373 : Unit := ()
def PySem.W.Fast.tw17118946890519551233 : Unit := ()
def PySem.W.Fast.tw3280913002946193000 : Unit := ()
def PySem.W.Fast.tw13838353544024922628 : Unit := ()
def PySem.W.Fast.tw16929274245281105662 : Unit := ()
def PySem.W.Fast.tw18443214185258649815 : Unit := ()
def PySem.W.Fast.tw6727832564567968533 : Unit := ()
def PySem.W.Fast.tw6895933485976774524 : Unit := ()
def PySem.W.Fast.tw14469216609317078938 : Unit := ()
def PySem.W.Fast.tw9293304488201213624 : Unit := ()
def PySem.W.Fast.tw2748876356298745882 : Unit := ()
def PySem.W.Fast.tw18392643099397048748 : Unit := ()
def PySem.W.Fast.tw7327499857403455259 : Unit := ()
def PySem.W.Fast.tw1160264583995439848 : Unit := ()
def PySem.W.Fast.tw9277293237878816577 : Unit := ()
def PySem.W.Fast.tw17867591740831716240 : Unit := ()
def PySem.W.Fast.tw2907226201567905886 : Unit := ()
def PySem.W.Fast.tw11966761561840654844 : Unit := ()
def PySem.W.Fast.tw15045895438813640069 : Unit := ()
def PySem.W.Fast.tw3051797325194820014 : Unit := ()
def PySem.W.Fast.tw4262635251554124848 : Unit := ()
def PySem.W.Fast.tw6546931841049579784 : Unit := ()
def PySem.W.Fast.tw16975063768557330185 : Unit := ()
def PySem.W.Fast.tw10039315120790954747 : Unit := ()
def PySem.W.Fast.tw3483511168565097096 : Unit := ()
def PySem.W.Fast.tw16552500778469406610 : Unit := ()
def PySem.W.Fast.tw3409390980836721204 : Unit := ()
def PySem.W.Fast.tw12011726233056450806 : Unit := ()
def PySem.W.Fast.tw6722465709495201249 : Unit := ()
def PySem.W.Fast.tw15195683721770264947 : Unit := ()
def PySem.W.Fast.tw16112418792380837361 : Unit := ()
def PySem.W.Fast.tw10782003689371307143 : Unit := ()
def PySem.W.Fast.tw2449565099103979956 : Unit := ()
def PySem.W.Fast.tw10358472275022784036 : Unit := ()
def PySem.W.Fast.tw10326149349452375467 : Unit := ()
def PySem.W.Fast.tw17302169526004671490 : Unit := ()
def PySem.W.Fast.tw6818901775750785320 : Unit := ()
def PySem.W.Fast.tw3198027776072969325 : Unit := ()
def PySem.W.Fast.tw17204692462465427632 : Unit := ()
def PySem.W.Fast.tw11072537080451088358 : Unit := ()
def PySem.W.Fast.tw13864048490414584157 : Unit := ()
def PySem.W.Fast.tw309550412728176844 : Unit := ()
def PySem.W.Fast.tw1645453962527093093 : Unit := ()
def PySem.W.Fast.tw3160832446556520497 : Unit := ()
def PySem.W.Fast.tw15826531958292270170 : Unit := ()
def PySem.W.Fast.tw8413316062974646606 : Unit := ()
def PySem.W.Fast.tw620271010015616076 : Unit := ()
def PySem.W.Fast.tw7307200571780083033 : Unit := ()
def PySem.W.Fast.tw5272054334675151632 : Unit := ()
def PySem.W.Fast.tw16792535842671516049 : Unit := ()
def PySem.W.Fast.tw24118614497645503 : Unit := ()
def PySem.W.Fast.tw3030802391332157014 : Unit := ()
def PySem.W.Fast.tw11678906233608106842 : Unit := ()
def PySem.W.Fast.tw13963386319293626918 : Unit := ()
def PySem.W.Fast.tw5056690764188631208 : Unit := ()
def PySem.W.Fast.tw15694919426494911392 : Unit := ()
def PySem.W.Fast.tw4288455725280094182 : Unit := ()
def PySem.W.Fast.tw9524261159148456425 : Unit := ()
def PySem.W.Fast.tw5067567160187394966 : Unit := ()
def PySem.W.Fast.tw18406918021816595 : Unit := ()
open PySem PySem.W PyProof.Rows
set_option maxRecDepth 100000 in
set_option maxHeartbeats 0 in
theorem PySem.Challenge.cw_lazycols_k17_rules_refused_holds : PySem.Challenge.rw_lazycols_k17_rules_refused.Holds := by
  w_on; o_law; k_head; (case hw => w_witness2)
  k_fill
  refine My.walk (l := PySem.Challenge.rw_lazycols_k17_rules_refused) rfl rfl rfl (fun w h Y => PySem.W.km_in_of Y) ?R ?F
  case R => first | exact rfl | decide +kernel
  case F =>
    intro w mg h KX G
    refine' My.tops_mk KX G ?n_len ?n_isinstance ?n_int ?n_bool ?n_str ?n_all ?n_range ?n_abs ?n_list ?n_tuple ?n_max ?n_ValueError ?i_LETTERS ?i_MOST_LETTERS ?i_MOST_NAMES ?a_is_whole ?l_is_whole ?c_is_whole ?k_is_whole ?a_is_number ?l_is_number ?c_is_number ?k_is_number ?a_is_name ?l_is_name ?c_is_name ?k_is_name ?a_check_name ?l_check_name ?c_check_name ?k_check_name ?a_checked_names ?l_checked_names ?c_checked_names ?k_checked_names ?a_law_drawn ?l_law_drawn ?c_law_drawn ?k_law_drawn ?a_law_name ?l_law_name ?c_law_name ?k_law_name ?a_law_list ?l_law_list ?c_law_list ?k_law_list ?a_law_first ?l_law_first ?c_law_first ?k_law_first ?a_law_made ?l_law_made ?c_law_made ?k_law_made ?a_law_asked ?l_law_asked ?c_law_asked ?k_law_asked ?a_law ?l_law ?c_law ?k_law ?w_law ?t_law ?notabs ?q_ColsError ?q_NoName ?q_NoValue ?q_NoTable ?q_NoColumn ?q_NoPlace ?q_NoSize ?q_NoText ?q_NoRow ?q_NoBack ?q_TooMuch ?q_Ruled ?q_Ring ?q_Nobody ?q_Several ?x_NoName ?v_NoName ?wa_NoName ?wb_NoName ?wd_NoName ?we_NoName ?wf_NoName ?wc_NoName ?i_NoName_ColsError ?e_NoName_ColsError ?i_NoName_NoName ?i_NoName_NoValue ?i_NoName_NoTable ?i_NoName_NoColumn ?i_NoName_NoPlace ?i_NoName_NoSize ?i_NoName_NoText ?i_NoName_NoRow ?i_NoName_NoBack ?i_NoName_TooMuch ?i_NoName_Ruled ?i_NoName_Ring ?i_NoName_Nobody ?i_NoName_Several ?x_NoValue ?v_NoValue ?wa_NoValue ?wb_NoValue ?wd_NoValue ?we_NoValue ?wf_NoValue ?wc_NoValue ?i_NoValue_ColsError ?e_NoValue_ColsError ?i_NoValue_NoName ?i_NoValue_NoValue ?i_NoValue_NoTable ?i_NoValue_NoColumn ?i_NoValue_NoPlace ?i_NoValue_NoSize ?i_NoValue_NoText ?i_NoValue_NoRow ?i_NoValue_NoBack ?i_NoValue_TooMuch ?i_NoValue_Ruled ?i_NoValue_Ring ?i_NoValue_Nobody ?i_NoValue_Several ?w4 ?w5 ?a_Rule ?pg_Rule ?hd_Rule ?po_Rule ?sa_Rule ?mk_Rule ?kc_Rule ?hc_Rule ?na_Rule_function ?a_Rule_init ?j_Rule_init ?l_Rule_init ?c_Rule_init ?k_Rule_init ?vg_Rule_init ?vr_Rule_init ?vf_Rule_init ?a_Cells ?pg_Cells ?hd_Cells ?po_Cells ?sa_Cells ?mk_Cells ?kc_Cells ?hc_Cells ?na_Cells_function ?na_Cells_names ?a_Cells_init ?j_Cells_init ?l_Cells_init ?c_Cells_init ?k_Cells_init ?ow4 ?ow5 ?mo_Cells ?vu_Cells_Rule ?a_Above ?pg_Above ?hd_Above ?po_Above ?sa_Above ?mk_Above ?kc_Above ?hc_Above ?na_Above_function ?na_Above_names ?na_Above_first ?a_Above_init ?j_Above_init ?l_Above_init ?c_Above_init ?k_Above_init ?mo_Above ?vu_Above_Rule ?a_Group ?pg_Group ?hd_Group ?po_Group ?sa_Group ?mk_Group ?kc_Group ?hc_Group ?na_Group_function ?na_Group_key ?na_Group_name ?a_Group_init ?j_Group_init ?l_Group_init ?c_Group_init ?k_Group_init ?mo_Group ?vu_Group_Rule ?a_Lookup ?pg_Lookup ?hd_Lookup ?po_Lookup ?sa_Lookup ?mk_Lookup ?kc_Lookup ?hc_Lookup ?na_Lookup_function ?na_Lookup_key ?na_Lookup_other ?na_Lookup_theirs ?na_Lookup_names ?a_Lookup_init ?j_Lookup_init ?l_Lookup_init ?c_Lookup_init ?k_Lookup_init ?mo_Lookup ?vu_Lookup_Rule ?a_Mend ?pg_Mend ?hd_Mend ?po_Mend ?sa_Mend ?mk_Mend ?kc_Mend ?hc_Mend ?na_Mend_function ?na_Mend_name ?a_Mend_init ?j_Mend_init ?l_Mend_init ?c_Mend_init ?k_Mend_init ?mo_Mend ?vu_Mend_Rule ?si_Rule_Above ?si_Rule_Cells ?si_Rule_Group ?si_Rule_Lookup ?si_Rule_Mend ?si_Rule_Rule ?si_Cells_Above ?si_Cells_Cells ?si_Cells_Group ?si_Cells_Lookup ?si_Cells_Mend ?si_Above_Above ?si_Above_Cells ?si_Above_Group ?si_Above_Lookup ?si_Above_Mend ?si_Group_Above ?si_Group_Cells ?si_Group_Group ?si_Group_Lookup ?si_Group_Mend ?si_Lookup_Above ?si_Lookup_Cells ?si_Lookup_Group ?si_Lookup_Lookup ?si_Lookup_Mend ?si_Mend_Above ?si_Mend_Cells ?si_Mend_Group ?si_Mend_Lookup ?si_Mend_Mend
    (case n_len => k_is)
    (case n_isinstance => k_is)
    (case n_int => k_is)
    (case n_bool => k_is)
    (case n_str => k_is)
    (case n_all => k_is)
    (case n_range => k_is)
    (case n_abs => k_is)
    (case n_list => k_is)
    (case n_tuple => k_is)
    (case n_max => k_is)
    (case n_ValueError => k_is)
    (case i_LETTERS => k_is)
    (case i_MOST_LETTERS => k_is)
    (case i_MOST_NAMES => k_is)
    (case a_is_whole => k_is)
    (case l_is_whole => k_is)
    (case c_is_whole => k_is)
    (case k_is_whole => k_is)
    (case a_is_number => k_is)
    (case l_is_number => k_is)
    (case c_is_number => k_is)
    (case k_is_number => k_is)
    (case a_is_name => k_is)
    (case l_is_name => k_is)
    (case c_is_name => k_is)
    (case k_is_name => k_is)
    (case a_check_name => k_is)
    (case l_check_name => k_is)
    (case c_check_name => k_is)
    (case k_check_name => k_is)
    (case a_checked_names => k_is)
    (case l_checked_names => k_is)
    (case c_checked_names => k_is)
    (case k_checked_names => k_is)
    (case a_law_drawn => k_is)
    (case l_law_drawn => k_is)
    (case c_law_drawn => k_is)
    (case k_law_drawn => k_is)
    (case a_law_name => k_is)
    (case l_law_name => k_is)
    (case c_law_name => k_is)
    (case k_law_name => k_is)
    (case a_law_list => k_is)
    (case l_law_list => k_is)
    (case c_law_list => k_is)
    (case k_law_list => k_is)
    (case a_law_first => k_is)
    (case l_law_first => k_is)
    (case c_law_first => k_is)
    (case k_law_first => k_is)
    (case a_law_made => k_is)
    (case l_law_made => k_is)
    (case c_law_made => k_is)
    (case k_law_made => k_is)
    (case a_law_asked => k_is)
    (case l_law_asked => k_is)
    (case c_law_asked => k_is)
    (case k_law_asked => k_is)
    (case a_law => k_is)
    (case l_law => k_is)
    (case c_law => k_is)
    (case k_law => k_is)
    (case w_law => k_is)
    (case t_law => exact rfl)
    (case notabs => kernel_rfl)
    (case q_ColsError => k_is)
    (case q_NoName => k_is)
    (case q_NoValue => k_is)
    (case q_NoTable => k_is)
    (case q_NoColumn => k_is)
    (case q_NoPlace => k_is)
    (case q_NoSize => k_is)
    (case q_NoText => k_is)
    (case q_NoRow => k_is)
    (case q_NoBack => k_is)
    (case q_TooMuch => k_is)
    (case q_Ruled => k_is)
    (case q_Ring => k_is)
    (case q_Nobody => k_is)
    (case q_Several => k_is)
    (case x_NoName => k_exc)
    (case v_NoName => kit_is)
    (case wa_NoName => k_is)
    (case wb_NoName => k_is)
    (case wd_NoName => k_is)
    (case we_NoName => k_is)
    (case wf_NoName => k_is)
    (case wc_NoName => k_is)
    (case i_NoName_ColsError => kit_is)
    (case e_NoName_ColsError => kts_exm)
    (case i_NoName_NoName => kit_is)
    (case i_NoName_NoValue => kit_is)
    (case i_NoName_NoTable => kit_is)
    (case i_NoName_NoColumn => kit_is)
    (case i_NoName_NoPlace => kit_is)
    (case i_NoName_NoSize => kit_is)
    (case i_NoName_NoText => kit_is)
    (case i_NoName_NoRow => kit_is)
    (case i_NoName_NoBack => kit_is)
    (case i_NoName_TooMuch => kit_is)
    (case i_NoName_Ruled => kit_is)
    (case i_NoName_Ring => kit_is)
    (case i_NoName_Nobody => kit_is)
    (case i_NoName_Several => kit_is)
    (case x_NoValue => k_exc)
    (case v_NoValue => kit_is)
    (case wa_NoValue => k_is)
    (case wb_NoValue => k_is)
    (case wd_NoValue => k_is)
    (case we_NoValue => k_is)
    (case wf_NoValue => k_is)
    (case wc_NoValue => k_is)
    (case i_NoValue_ColsError => kit_is)
    (case e_NoValue_ColsError => kts_exm)
    (case i_NoValue_NoName => kit_is)
    (case i_NoValue_NoValue => kit_is)
    (case i_NoValue_NoTable => kit_is)
    (case i_NoValue_NoColumn => kit_is)
    (case i_NoValue_NoPlace => kit_is)
    (case i_NoValue_NoSize => kit_is)
    (case i_NoValue_NoText => kit_is)
    (case i_NoValue_NoRow => kit_is)
    (case i_NoValue_NoBack => kit_is)
    (case i_NoValue_TooMuch => kit_is)
    (case i_NoValue_Ruled => kit_is)
    (case i_NoValue_Ring => kit_is)
    (case i_NoValue_Nobody => kit_is)
    (case i_NoValue_Several => kit_is)
    (case w4 => k_is)
    (case w5 => k_is)
    (case a_Rule => k_is)
    (case pg_Rule => k_is)
    (case hd_Rule => k_is)
    (case po_Rule => k_is)
    (case sa_Rule => k_is)
    (case mk_Rule => k_is)
    (case kc_Rule => k_is)
    (case hc_Rule => k_is)
    (case na_Rule_function => k_is)
    (case a_Rule_init => k_is)
    (case j_Rule_init => k_is)
    (case l_Rule_init => k_is)
    (case c_Rule_init => k_is)
    (case k_Rule_init => k_is)
    (case vg_Rule_init => k_is)
    (case vr_Rule_init => k_is)
    (case vf_Rule_init => k_is)
    (case a_Cells => k_is)
    (case pg_Cells => k_is)
    (case hd_Cells => k_is)
    (case po_Cells => k_is)
    (case sa_Cells => k_is)
    (case mk_Cells => k_is)
    (case kc_Cells => k_is)
    (case hc_Cells => k_is)
    (case na_Cells_function => k_is)
    (case na_Cells_names => k_is)
    (case a_Cells_init => k_is)
    (case j_Cells_init => k_is)
    (case l_Cells_init => k_is)
    (case c_Cells_init => k_is)
    (case k_Cells_init => k_is)
    (case ow4 => k_is)
    (case ow5 => k_is)
    (case mo_Cells => k_is)
    (case vu_Cells_Rule => kit_is)
    (case a_Above => k_is)
    (case pg_Above => k_is)
    (case hd_Above => k_is)
    (case po_Above => k_is)
    (case sa_Above => k_is)
    (case mk_Above => k_is)
    (case kc_Above => k_is)
    (case hc_Above => k_is)
    (case na_Above_function => k_is)
    (case na_Above_names => k_is)
    (case na_Above_first => k_is)
    (case a_Above_init => k_is)
    (case j_Above_init => k_is)
    (case l_Above_init => k_is)
    (case c_Above_init => k_is)
    (case k_Above_init => k_is)
    (case mo_Above => k_is)
    (case vu_Above_Rule => kit_is)
    (case a_Group => k_is)
    (case pg_Group => k_is)
    (case hd_Group => k_is)
    (case po_Group => k_is)
    (case sa_Group => k_is)
    (case mk_Group => k_is)
    (case kc_Group => k_is)
    (case hc_Group => k_is)
    (case na_Group_function => k_is)
    (case na_Group_key => k_is)
    (case na_Group_name => k_is)
    (case a_Group_init => k_is)
    (case j_Group_init => k_is)
    (case l_Group_init => k_is)
    (case c_Group_init => k_is)
    (case k_Group_init => k_is)
    (case mo_Group => k_is)
    (case vu_Group_Rule => kit_is)
    (case a_Lookup => k_is)
    (case pg_Lookup => k_is)
    (case hd_Lookup => k_is)
    (case po_Lookup => k_is)
    (case sa_Lookup => k_is)
    (case mk_Lookup => k_is)
    (case kc_Lookup => k_is)
    (case hc_Lookup => k_is)
    (case na_Lookup_function => k_is)
    (case na_Lookup_key => k_is)
    (case na_Lookup_other => k_is)
    (case na_Lookup_theirs => k_is)
    (case na_Lookup_names => k_is)
    (case a_Lookup_init => k_is)
    (case j_Lookup_init => k_is)
    (case l_Lookup_init => k_is)
    (case c_Lookup_init => k_is)
    (case k_Lookup_init => k_is)
    (case mo_Lookup => k_is)
    (case vu_Lookup_Rule => kit_is)
    (case a_Mend => k_is)
    (case pg_Mend => k_is)
    (case hd_Mend => k_is)
    (case po_Mend => k_is)
    (case sa_Mend => k_is)
    (case mk_Mend => k_is)
    (case kc_Mend => k_is)
    (case hc_Mend => k_is)
    (case na_Mend_function => k_is)
    (case na_Mend_name => k_is)
    (case a_Mend_init => k_is)
    (case j_Mend_init => k_is)
    (case l_Mend_init => k_is)
    (case c_Mend_init => k_is)
    (case k_Mend_init => k_is)
    (case mo_Mend => k_is)
    (case vu_Mend_Rule => kit_is)
    (case si_Rule_Above => kit_is)
    (case si_Rule_Cells => kit_is)
    (case si_Rule_Group => kit_is)
    (case si_Rule_Lookup => kit_is)
    (case si_Rule_Mend => kit_is)
    (case si_Rule_Rule => kit_is)
    (case si_Cells_Above => kit_is)
    (case si_Cells_Cells => kit_is)
    (case si_Cells_Group => kit_is)
    (case si_Cells_Lookup => kit_is)
    (case si_Cells_Mend => kit_is)
    (case si_Above_Above => kit_is)
    (case si_Above_Cells => kit_is)
    (case si_Above_Group => kit_is)
    (case si_Above_Lookup => kit_is)
    (case si_Above_Mend => kit_is)
    (case si_Group_Above => kit_is)
    (case si_Group_Cells => kit_is)
    (case si_Group_Group => kit_is)
    (case si_Group_Lookup => kit_is)
    (case si_Group_Mend => kit_is)
    (case si_Lookup_Above => kit_is)
    (case si_Lookup_Cells => kit_is)
    (case si_Lookup_Group => kit_is)
    (case si_Lookup_Lookup => kit_is)
    (case si_Lookup_Mend => kit_is)
    (case si_Mend_Above => kit_is)
    (case si_Mend_Cells => kit_is)
    (case si_Mend_Group => kit_is)
    (case si_Mend_Lookup => kit_is)
    (case si_Mend_Mend => kit_is)
