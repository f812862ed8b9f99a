import PyProof.Rows.All
import Wide.All
import OpenK.AllK
import Wide.FinOn
import PyProof.EqAt
import PyProof.EqKinds
import PyProof.TupleCall
import Lean
import PySem.Challenge.RW_lazycols_k51_values_written
set_option Elab.async false
set_option linter.all false
set_option maxRecDepth 100000
set_option maxHeartbeats 4000000
set_option genSizeOfSpec false
/-! THE HAND LAYER, for ints, bools, texts, own classes, LISTS and tuples (index, slices, in, append, pop ..), calls, loops. Paste it whole ahead of your own text; what your proof does not reach may be deleted. -/
namespace L2
open PySem PySem.Spec PyProof.Rows

/-- a key: an int or a str -/
abbrev Key := Sum Int Str
def keyIs : Key → Value → Bool
  | .inl k, v => Value.isInt k v
  | .inr x, v => Value.isStrOf x v
def keyH (w : World) : Key → Int
  | .inl k => hashInt k
  | .inr x => hashStr w x
theorem keyIs_shape : ∀ {k : Key} {v : Value}, keyIs k v = true → (∃ i t, k = Sum.inl i ∧ v = Value.int i t) ∨ (∃ x t, k = Sum.inr x ∧ v = Value.str x t)
  | .inl i, v, h => by
    obtain ⟨t, e⟩ := Value.isInt_shape (k := i) (v := v) h
    exact .inl ⟨i, t, rfl, e⟩
  | .inr x, v, h => by
    obtain ⟨t, e⟩ := Value.isStrOf_shape (x := x) (v := v) h
    exact .inr ⟨x, t, rfl, e⟩
theorem key_ll (a b : Int) : decide ((Sum.inl a : Key) = Sum.inl b) = (a == b) := by
  by_cases e : a = b
  · subst e; simp
  · have h : ¬ (Sum.inl a : Key) = Sum.inl b := fun q => e (Sum.inl.inj q)
    rw [decide_eq_false h]
    exact (beq_eq_false_iff_ne.mpr e).symm
theorem key_rr (a b : Str) : decide ((Sum.inr a : Key) = Sum.inr b) = decide (a = b) := by
  by_cases e : a = b
  · subst e; simp
  · have h : ¬ (Sum.inr a : Key) = Sum.inr b := fun q => e (Sum.inr.inj q)
    rw [decide_eq_false h, decide_eq_false e]
theorem key_lr (a : Int) (b : Str) : decide ((Sum.inl a : Key) = Sum.inr b) = false := decide_eq_false (fun q => nomatch q)
theorem key_rl (a : Str) (b : Int) : decide ((Sum.inr a : Key) = Sum.inl b) = false := decide_eq_false (fun q => nomatch q)

def mixKind (prog : Program) (w : World) : PySem.KeyKind prog w Key where
  is := keyIs
  hash := keyH w
  inj := fun v a b ha hb => by
    rcases keyIs_shape ha with ⟨i, t, rfl, rfl⟩ | ⟨x, t, rfl, rfl⟩
    · rcases keyIs_shape hb with ⟨j, u, rfl, e⟩ | ⟨y, u, rfl, e⟩
      · injection e with e1 _; rw [e1]
      · exact nomatch e
    · rcases keyIs_shape hb with ⟨j, u, rfl, e⟩ | ⟨y, u, rfl, e⟩
      · exact nomatch e
      · injection e with e1 _; rw [e1]
  byValue := fun k v h => by
    rcases keyIs_shape h with ⟨i, t, rfl, rfl⟩ | ⟨x, t, rfl, rfl⟩ <;> rfl
  pyHash := fun hv h => by
    rcases keyIs_shape hv with ⟨i, t, rfl, rfl⟩ | ⟨x, t, rfl, rfl⟩
    · exact wpAny_pyHash_int h
    · exact wpAny_pyHash_str h
  eqBool := fun hu hv h => by
    rcases keyIs_shape hu with ⟨i, t, rfl, rfl⟩ | ⟨x, t, rfl, rfl⟩
    · rcases keyIs_shape hv with ⟨j, u, rfl, rfl⟩ | ⟨y, u, rfl, rfl⟩
      · rw [key_ll] at h; exact wpAny_eqBool_int h
      · rw [key_lr] at h; exact SeqAt.EqAt.int_str i t y u _ _ _ _ h
    · rcases keyIs_shape hv with ⟨j, u, rfl, rfl⟩ | ⟨y, u, rfl, rfl⟩
      · rw [key_rl] at h; exact SeqAt.EqAt.str_int x t j u _ _ _ _ h
      · rw [key_rr] at h; exact wpAny_eqBool_str h
  «strs» := fun k x t v h => by
    rcases keyIs_shape h with ⟨i, u, rfl, e⟩ | ⟨y, u, rfl, e⟩
    · exact nomatch e
    · injection e with e1 _
      subst e1
      cases v <;> rfl

end L2

namespace L2
open PySem PySem.Spec PyProof.Rows

/-- a value, without the heap -/
inductive V where
  | non | bl (b : Bool) | int (i : Int) | str (x : Str) | byt (b : Array UInt8) | flt (b : UInt64) | ref (a : Addr) | ty (n : String)
  deriving DecidableEq

def RelV : V → Value → Prop
  | .non, u => u = Value.none
  | .bl b, u => u = Value.bool b
  | .int i, u => ∃ t, u = Value.int i t
  | .str x, u => ∃ t, u = Value.str x t
  | .byt b, u => ∃ t, u = Value.bytes b t
  | .flt b, u => ∃ t, u = Value.float b t
  | .ref a, u => u = Value.ref a
  | .ty n, u => u = Value.type n

abbrev Vals : List V → List Value → Prop := Paired RelV
theorem Vals.length {xs : List V} {us : List Value} (r : Vals xs us) : xs.length = us.length := Paired.length r
theorem Vals.get : ∀ {xs : List V} {us : List Value} {i : Nat} {x : V}, Vals xs us → xs[i]? = some x → ∃ u, us[i]? = some u ∧ RelV x u
  | _, _, _, _, .nil, e => by simp at e
  | _, _, 0, _, .cons r _, e => by simp at e; subst e; exact ⟨_, rfl, r⟩
  | _, _, i + 1, x, .cons _ t, e => by
    obtain ⟨u, h1, h2⟩ := Vals.get (i := i) (x := x) t (by simpa using e)
    exact ⟨u, by simpa using h1, h2⟩
theorem Vals.append : ∀ {xs ys : List V} {us ws : List Value}, Vals xs us → Vals ys ws → Vals (xs ++ ys) (us ++ ws)
  | _, _, _, _, .nil, s => s
  | _, _, _, _, .cons r t, s => .cons r (Vals.append t s)
def RelO : Option V → Option Value → Prop
  | some v, some u => RelV v u
  | none, none => True
  | _, _ => False
def KV {κ : Type} : List (κ × V) → List (κ × Value) → Prop := Paired fun (p : κ × V) (q : κ × Value) => p.1 = q.1 ∧ RelV p.2 q.2

/-- a key of a dict (00_mix): an int or a text -/
def kV : Key → V
  | .inl i => .int i
  | .inr x => .str x

/-- what stands at a tracked address -/
inductive HO where
  /-- a list -/
  | lst (xs : List V)
  /-- a tuple (never changes) -/
  | tup (xs : List V)
  /-- a dict whose keys are ints and texts; one whose keys are tuples of ints and texts (the empty one is both) -/
  | dK (kvs : List (Key × V)) | dT (kvs : List (List Key × V))
  /-- a set of ints: its members, its size -/
  | set (S : Int → Bool) (n : Nat)
  /-- an instance of the class at C, its dict at dx, its attributes -/
  | ins (C dx : Addr) (fs : List (Str × V))
  /-- the dict of the instance at x -/
  | own (x : Addr)
  /-- the dict of an exception -/
  | xd (fs : List (Str × V))
  /-- a bound method, f of x -/
  | met (f x : Addr)
  /-- a range object lo, lo + 1, .. below hi -/
  | rng (lo hi : Int)
  /-- a thing that is known to the object (the script; a dict while a loop walks it): read, never written while it is so -/
  | frz (o : Obj) (u : HO)
  /-- a code object's table -/
  | tbl (ps : Array Value)
  /-- any other thing, by what is true of its one object (a def of one's own: SetO a S n := HO.ext fun h => ..) -/
  | ext (φ : Heap → Prop)

abbrev Hp := Addr → Option HO
def upd (H : Hp) (a : Addr) (o : HO) : Hp := fun b => if b = a then some o else H b
theorem upd_same {H : Hp} {a : Addr} {o : HO} : upd H a o a = some o := by unfold upd; rw [if_pos rfl]
theorem upd_ne {H : Hp} {a b : Addr} {o : HO} (h : b ≠ a) : upd H a o b = H b := by unfold upd; rw [if_neg h]
theorem ne_of_none {H : Hp} {a b : Addr} {o : HO} (h : H a = some o) (h' : H b = none) : a ≠ b := by
  intro e; subst e; rw [h] at h'; cases h'

section
variable (P : Program) (w : World)
def ObjOk (H : Hp) (h : Heap) (a : Addr) : HO → Prop
  | .lst xs => xs.length ≤ sizeLine ∧ ∃ (its : List Value) (n : Nat), Vals xs its ∧ h.get? a = some { cls := .type "list", data := .seq its.toArray n }
  | .tup xs => xs.length ≤ sizeLine ∧ ∃ its : List Value, Vals xs its ∧ IsTup h a its.toArray
  | .dK kvs => kvs.length ≤ sizeLine ∧ (a == sysModules) = false ∧ ∃ vs, KV kvs vs ∧ h.DictOf (mixKind P w) a vs
  | .dT kvs => kvs.length ≤ sizeLine ∧ (a == sysModules) = false ∧ ∃ xs : List (List Key × Addr × Value),
      Paired (fun (p : List Key × V) (q : List Key × Addr × Value) => p.1 = q.1 ∧ H q.2.1 = some (.tup (p.1.map kV)) ∧ RelV p.2 q.2.2) kvs xs ∧
      ∃ o es ep, h.get? a = some o ∧ o.ExactDict ∧ o.data = .dict es ep ∧ es.toList = xs.map (entryOfKey (tupleKind (mixKind P w))) ∧ (xs.map (·.1)).Nodup
  | .set S n => h.SetOf (intKind P w) a S n
  | .ins C dx fs => H dx = some (.own a) ∧ fs.length ≤ 1000 ∧ dx ≠ a ∧ h.get? a = some (PySem.W.instObj C dx) ∧
      ∃ mA, h.Ns1 dx mA ∧ (∀ f, RelO (fs.lookup f) (mA f)) ∧ PySem.Within mA (fs.map (·.1))
  | .own _ => ∃ o, h.get? a = some o
  | .xd fs => ∃ mA, h.Ns1 a mA ∧ ∀ f, RelO (fs.lookup f) (mA f)
  | .rng lo hi => ∃ t u v, h.get? a = some { cls := .type "range", data := .fields #[.int lo t, .int hi u, .int 1 v] }
  | .frz o u => h.get? a = some o ∧ ObjOk H h a u
  | .tbl ps => h.get? a = some { cls := .none, data := .fields ps }
  | .met f x => h.get? a = some (PySem.W.methodObj (.ref f) (.ref x))
  | .ext φ => φ h ∧ (∃ o, h.get? a = some o) ∧ ∀ h1 h2 : Heap, φ h1 → (∀ o, h1.get? a = some o → h2.get? a = some o) → φ h2
/-- the abstract heap is held -/
def HOk (H : Hp) (h : Heap) : Prop := ∀ a o, H a = some o → ObjOk P w H h a o
end

section
variable {P : Program} {w : World} {H H' : Hp} {h h' : Heap} {a : Addr} {o : HO}
theorem ObjOk.lt (x : ObjOk P w H h a o) : a < h.objs.size := by
  cases o with
  | lst xs => obtain ⟨_, _, _, _, e⟩ := x; exact Heap.lt_size e
  | tup xs => obtain ⟨_, _, _, p⟩ := x; exact p.lt
  | dK kvs => obtain ⟨_, _, _, _, o, _, _, e, _⟩ := x; exact Heap.lt_size e
  | dT kvs => obtain ⟨_, _, _, _, o, _, _, e, _⟩ := x; exact Heap.lt_size e
  | set S n => obtain ⟨o, _, _, _, e, _⟩ := x; exact Heap.lt_size e
  | ins C dx fs => obtain ⟨_, _, _, e, _⟩ := x; exact Heap.lt_size e
  | own y => obtain ⟨_, e⟩ := x; exact Heap.lt_size e
  | xd fs => obtain ⟨_, ⟨_, _, _, e, _⟩, _⟩ := x; exact Heap.lt_size e
  | rng lo hi => obtain ⟨_, _, _, e⟩ := x; exact Heap.lt_size e
  | frz ob u => obtain ⟨e, _⟩ := x; exact Heap.lt_size e
  | tbl ps => exact Heap.lt_size (show h.get? a = some _ from x)
  | met f y => exact Heap.lt_size (show h.get? a = some _ from x)
  | ext φ => obtain ⟨_, ⟨_, e⟩, _⟩ := x; exact Heap.lt_size e
theorem Paired.mapP {α β : Type} {F G : α → β → Prop} : ∀ {l₁ : List α} {l₂ : List β}, Paired F l₁ l₂ → (∀ a b, F a b → G a b) → Paired G l₁ l₂
  | _, _, .nil, _ => .nil
  | _, _, .cons r t, f => .cons (f _ _ r) (Paired.mapP t f)
/-- what an object's description leans on: its own object, its own dict, the tuples -/
theorem ObjOk.stay (x : ObjOk P w H h a o) (k : ∀ b u, (b = a ∨ H b = some (.own a)) → h.get? b = some u → h'.get? b = some u)
    (ho : ∀ b, H b = some (.own a) → H' b = some (.own a)) (ht : ∀ b xs, H b = some (.tup xs) → H' b = some (.tup xs)) : ObjOk P w H' h' a o := by
  induction o with
  | lst xs => obtain ⟨z, its, n, r, e⟩ := x; exact ⟨z, its, n, r, k _ _ (.inl rfl) e⟩
  | tup xs => obtain ⟨z, its, r, ob, e, c⟩ := x; exact ⟨z, its, r, ob, k _ _ (.inl rfl) e, c⟩
  | dK kvs => obtain ⟨z, y, vs, r, ob, es, ep, e, c⟩ := x; exact ⟨z, y, vs, r, ob, es, ep, k _ _ (.inl rfl) e, c⟩
  | dT kvs =>
    obtain ⟨z, y, xs, r, ob, es, ep, e, c⟩ := x
    exact ⟨z, y, xs, Paired.mapP r fun p q z => ⟨z.1, ht _ _ z.2.1, z.2.2⟩, ob, es, ep, k _ _ (.inl rfl) e, c⟩
  | set S n => obtain ⟨ob, es, ep, t, e, c⟩ := x; exact ⟨ob, es, ep, t, k _ _ (.inl rfl) e, c⟩
  | ins C dx fs =>
    obtain ⟨d, z, ne, e, mA, ⟨od, es, ep, e2, c⟩, r⟩ := x
    exact ⟨ho _ d, z, ne, k _ _ (.inl rfl) e, mA, ⟨od, es, ep, k _ _ (.inr d) e2, c⟩, r⟩
  | own y => obtain ⟨ob, e⟩ := x; exact ⟨ob, k _ _ (.inl rfl) e⟩
  | xd fs => obtain ⟨mA, ⟨od, es, ep, e, c⟩, r⟩ := x; exact ⟨mA, ⟨od, es, ep, k _ _ (.inl rfl) e, c⟩, r⟩
  | rng lo hi => obtain ⟨t, u, v, e⟩ := x; exact ⟨t, u, v, k _ _ (.inl rfl) e⟩
  | frz ob u ih => obtain ⟨e, q⟩ := x; exact ⟨k _ _ (.inl rfl) e, ih q⟩
  | tbl ps =>
    have e : h.get? a = some { cls := .none, data := .fields ps } := x
    show h'.get? a = some { cls := .none, data := .fields ps }
    exact k a _ (.inl rfl) e
  | met f y =>
    have e : h.get? a = some (PySem.W.methodObj (.ref f) (.ref y)) := x
    show h'.get? a = some (PySem.W.methodObj (.ref f) (.ref y))
    exact k a _ (.inl rfl) e
  | ext φ => obtain ⟨p, ⟨o, e⟩, st⟩ := x; exact ⟨st _ _ p fun o q => k _ _ (.inl rfl) q, ⟨o, k _ _ (.inl rfl) e⟩, st⟩
theorem HOk.lt (x : HOk P w H h) (e : H a = some o) : a < h.objs.size := (x a o e).lt
theorem HOk.fresh (x : HOk P w H h) (e : h.objs.size ≤ a) : H a = none := by
  cases q : H a with
  | none => rfl
  | some u => exact absurd (Nat.lt_of_lt_of_le (x.lt q) e) (Nat.lt_irrefl _)
/-- every object of the heap is kept -/
theorem HOk.kept (x : HOk P w H h) (k : ∀ b u, h.get? b = some u → h'.get? b = some u) : HOk P w H h' := fun a o e =>
  (x a o e).stay (fun b u _ q => k b u q) (fun _ q => q) fun _ _ q => q
/-- a new object is laid and tracked -/
theorem HOk.laid (x : HOk P w H h) (k : ∀ b u, h.get? b = some u → h'.get? b = some u) (hp : h.objs.size ≤ a) (new : ObjOk P w (upd H a o) h' a o) : HOk P w (upd H a o) h' := fun b u e => by
  have hn := x.fresh hp
  by_cases hb : b = a
  · subst hb; rw [upd_same] at e; cases e; exact new
  · rw [upd_ne hb] at e
    exact (x b u e).stay (fun c v _ q => k c v q) (fun c q => by rw [upd_ne (ne_of_none q hn)]; exact q) fun c xs q => by rw [upd_ne (ne_of_none q hn)]; exact q
end

/-- what may be read as u: it is u, or a known u -/
def Rd (H : Hp) (a : Addr) (u : HO) : Prop := H a = some u ∨ ∃ o, H a = some (.frz o u)
theorem Rd.ok {P : Program} {w : World} {H : Hp} {h : Heap} {a : Addr} {u : HO} (r : Rd H a u) (x : HOk P w H h) : ObjOk P w H h a u := by
  rcases r with r | ⟨o, r⟩
  · exact x a u r
  · obtain ⟨_, q⟩ := x a _ r
    exact q
/-- what may be written -/
def Mut : Option HO → Prop
  | some (.lst _) => True
  | some (.dK _) => True
  | some (.dT _) => True
  | some (.set _ _) => True
  | some (.ins _ _ _) => True
  | some (.ext _) => True
  | _ => False
section
variable {P : Program} {w : World} {H : Hp} {h h' : Heap} {x e : Addr} {o' : HO}
/-- the object at e is changed: x itself, or the dict of the instance x -/
theorem HOk.write (ok : HOk P w H h) (mu : Mut (H x)) (he : e = x ∨ H e = some (.own x)) (k : ∀ b u, b ≠ e → h.get? b = some u → h'.get? b = some u) (heo : ∃ u, h'.get? e = some u)
    (new : ObjOk P w (upd H x o') h' x o') : HOk P w (upd H x o') h' := fun b u q => by
  have nown : ∀ c y, H c = some (.own y) → c ≠ x := fun c y r z => by subst z; rw [r] at mu; exact mu
  have ntup : ∀ c xs, H c = some (.tup xs) → c ≠ x := fun c xs r z => by subst z; rw [r] at mu; exact mu
  by_cases hb : b = x
  · subst hb; rw [upd_same] at q; cases q; exact new
  · rw [upd_ne hb] at q
    by_cases hbe : b = e
    · have q' : H b = some (.own x) := by
        rcases he with z | z
        · exact absurd (hbe.trans z) hb
        · rw [hbe]; exact z
      rw [q] at q'; cases q'
      obtain ⟨v, hv⟩ := heo
      exact ⟨v, by rw [hbe]; exact hv⟩
    · refine (ok b u q).stay (fun c v hc r => k c v ?_ r) (fun c r => by rw [upd_ne (nown c b r)]; exact r) fun c xs r => by rw [upd_ne (ntup c xs r)]; exact r
      rcases hc with rfl | hc
      · exact hbe
      · rintro rfl
        rcases he with z | z
        · exact nown c b hc z
        · rw [hc] at z; cases z; exact hb rfl
end

/-! ### kept unless tracked; of the frames at fs (the callers') the slots may change (an exception that passes writes there); of the records at ex (iterators) nothing is said -/
structure Un (fs ex : List Addr) (H H' : Hp) (h h' : Heap) : Prop where
  keep : ∀ b o, h.get? b = some o → H b = none → b ∉ fs → b ∉ ex → h'.get? b = some o
  slot : ∀ b o, h.get? b = some o → H b = none → b ∈ fs → b ∉ ex → ∃ sl, h'.get? b = some { o with slots := sl }
  free : ∀ b o, h.get? b = some o → H b = none → b ∉ ex → H' b = none
  there : ∀ b o, h.get? b = some o → b ∉ ex → ∃ o', h'.get? b = some o'
  tups : ∀ b xs, H b = some (.tup xs) → H' b = some (.tup xs)
  frzs : ∀ b o u, H b = some (.frz o u) → H' b = some (.frz o u)
  tbls : ∀ b ps, H b = some (.tbl ps) → ∃ more, H' b = some (.tbl (ps ++ more))
section
variable {fs fs' ex ex' : List Addr} {H H1 H2 : Hp} {h h1 h2 h' : Heap} {a x e : Addr} {o : HO}
theorem Un.any (u : Un fs ex H H1 h h1) {b : Addr} {ob : Obj} (q : h.get? b = some ob) (n : H b = none) (hx : b ∉ ex) : ∃ sl, h1.get? b = some { ob with slots := sl } := by
  by_cases hb : b ∈ fs
  · exact u.slot b ob q n hb hx
  · exact ⟨ob.slots, u.keep b ob q n hb hx⟩
theorem Un.kept (k : ∀ b u, h.get? b = some u → h'.get? b = some u) : Un fs ex H H h h' :=
  ⟨fun b ob q _ _ _ => k b ob q, fun b ob q _ _ _ => ⟨ob.slots, k b ob q⟩, fun _ _ _ n _ => n, fun b ob q _ => ⟨ob, k b ob q⟩, fun _ _ q => q, fun _ _ _ q => q, fun _ ps q => ⟨#[], by rw [q]; simp⟩⟩
theorem Un.refl : Un fs ex H H h h := Un.kept fun _ _ q => q
theorem Un.laid (k : ∀ b u, h.get? b = some u → h'.get? b = some u) (hp : h.objs.size ≤ a) (hn : H a = none) : Un fs ex H (upd H a o) h h' where
  keep := fun b u q _ _ _ => k b u q
  slot := fun b u q _ _ _ => ⟨u.slots, k b u q⟩
  free := fun b u q n _ => by rw [upd_ne (Nat.ne_of_lt (Nat.lt_of_lt_of_le (Heap.lt_size q) hp))]; exact n
  there := fun b u q _ => ⟨u, k b u q⟩
  tups := fun b xs q => by rw [upd_ne (ne_of_none q hn)]; exact q
  frzs := fun b u xs q => by rw [upd_ne (ne_of_none q hn)]; exact q
  tbls := fun b ps q => ⟨#[], by rw [upd_ne (ne_of_none q hn), q]; simp⟩
theorem Un.write (mu : Mut (H x)) (he : e = x ∨ H e = some (.own x)) (k : ∀ b u, b ≠ e → h.get? b = some u → h'.get? b = some u) (heo : ∃ u, h'.get? e = some u) : Un fs ex H (upd H x o) h h' := by
  have hx : ∀ b, H b = none → b ≠ x := fun b n z => by subst z; rw [n] at mu; exact mu
  have hb : ∀ b, H b = none → b ≠ e := fun b n z => by
    subst z
    rcases he with r | r
    · exact hx b n r
    · rw [n] at r; cases r
  have hm : ∀ b u, H b = some u → ¬ Mut (some u) → b ≠ x := fun b u q nm z => by subst z; rw [q] at mu; exact nm mu
  refine ⟨fun b u q n _ _ => k b u (hb b n) q, fun b u q n _ _ => ⟨u.slots, k b u (hb b n) q⟩, fun b u q n _ => by rw [upd_ne (hx b n)]; exact n, fun b u q _ => ?_,
    fun b xs q => by rw [upd_ne (hm b _ q fun z => z)]; exact q, fun b u xs q => by rw [upd_ne (hm b _ q fun z => z)]; exact q, fun b ps q => ⟨#[], by rw [upd_ne (hm b _ q fun z => z), q]; simp⟩⟩
  by_cases hbe : b = e
  · subst hbe; exact heo
  · exact ⟨u, k b u hbe q⟩
end

/-! ### the heap without what is tracked -/
def trk (h : Heap) (H : Hp) : List Addr := (List.range h.objs.size).filter fun a => (H a).isSome
def hidT (h : Heap) (H : Hp) : Heap := PySem.W.hideAll h (trk h H)
theorem hidT_size (h : Heap) (H : Hp) : (hidT h H).objs.size = h.objs.size := PySem.W.hideAll_size _ _
theorem hidT_get {h : Heap} {H : Hp} {b : Addr} {o : Obj} (e : h.get? b = some o) (n : H b = none) : (hidT h H).get? b = some o :=
  PySem.W.hideAll_get _ e fun hm => by
    have q : (H b).isSome = true := (List.mem_filter.mp hm).2
    rw [n] at q; simp at q
theorem of_hidT {h : Heap} {H : Hp} {b : Addr} {o : Obj} (e : (hidT h H).get? b = some o) : h.get? b = some o ∧ H b = none := by
  have e' : h.get? b = some o := PySem.W.of_hideAll (trk h H) e
  refine ⟨e', ?_⟩
  cases q : H b with
  | none => rfl
  | some x =>
    have hm : b ∈ trk h H := List.mem_filter.mpr ⟨List.mem_range.mpr (Heap.lt_size e'), by simp [q]⟩
    have z : (hidT h H).get? b = none := PySem.W.hideAll_none (trk h H) hm
    rw [z] at e; cases e

/-! ### OpenK's ledger, filled with every new object but one -/
def allNews (g h : Heap) (L : Addr) : List (Addr × Obj) := (List.range h.objs.size).filterMap fun a => if a = L ∨ (g.get? a).isSome = true then none else (h.get? a).map fun o => (a, o)
def rest (g h : Heap) (L d : Addr) : List (Addr × Obj) := (allNews g h L).filter fun p => decide (p.1 ≠ d)
end L2

namespace L2
open PySem PySem.Spec PyProof.Rows

/-- the module's facts, over the base: the heap at the law's entry without what is tracked there -/
structure Mod (K : PySem.W.Frag) (mg : Str → Option Value) (base : Heap) : Prop where
  kin : K.In base
  glob : base.Ns mainGlobals mg
  blt : ∃ mb, base.Ns builtinsNs mb ∧ ∀ x : Str, x ≠ "__name__" → mb x = bootBuiltins x
  nolimit : base.NoLimit

/-- the context: a def's body (or a comprehension's block) running. base: fixed through the whole law; s₀, H₀: the entry; outer: the frames whose slots others may change (a def's callers); stack: all frames that run;
   ex: iterators that were made ahead of the entry and are walked here (a comprehension's); fn: the names whose cells were made at the entry (a def: all; a comprehension's block: its own); calm: not within an except suite; pn: pins that every state bears; xe: what is wanted of an exception that leaves the code -/
structure Cx where
  prog : Program
  w : World
  K : PySem.W.Frag
  mg : Str → Option Value
  base : Heap
  A : Around
  N : List Str
  s₀ : Shared
  H₀ : Hp
  env : Env
  outer : List Env
  stack : List Env
  ex : List Addr
  fn : Str → Bool
  calm : Bool
  pn : List (Addr × Obj)
  xe : Value → Shared → Prop
/-- the callers' frames -/
def frs (l : List Env) : List Addr := l.filterMap (·.frame)
abbrev Cx.fs (X : Cx) : List Addr := frs X.outer

def Vis (sc : Scope) (x : Str) : Prop := sc.names.lookup x = some .local ∨ sc.names.lookup x = some .cell ∨ sc.names.lookup x = some .free
def Loc (sc : Scope) (x : Str) : Prop := sc.names.lookup x = some .local ∨ sc.names.lookup x = some .cell
def Look (env : Env) (h : Heap) (m : Str → Option Value) (x : Str) (u : Value) : Prop :=
  (env.kindOf x = some .local ∧ m x = some u) ∨ ((env.kindOf x = some .cell ∨ env.kindOf x = some .free) ∧ ∃ c, env.cells.lookup x = some c ∧ h.IsCell c (some u))

structure Cx.Ok (X : Cx) : Prop where
  mod : Mod X.K X.mg X.base
  kind : X.env.scope.kind = .function
  glob : X.env.globals = mainGlobals
  blt : X.env.builtins = builtinsNs
  above : X.s₀.heap.objs.size ≤ X.env.locals
  inj : ∀ x y c, X.env.cells.lookup x = some c → X.env.cells.lookup y = some c → x = y
  has : ∀ x, (X.env.kindOf x = some .cell ∨ X.env.kindOf x = some .free) → ∃ c, X.env.cells.lookup x = some c
  cab : ∀ x c, X.fn x = true → X.env.cells.lookup x = some c → X.s₀.heap.objs.size ≤ c
  hd : X.calm = true → X.A.handled = none
  frames : X.A.frames = some X.stack
  stk : X.stack = X.outer ∨ (X.stack = X.env :: X.outer ∧ X.env.frame = some X.env.locals)
  exf : ∀ b ∈ X.ex, b ≠ X.env.locals ∧ ∀ x c, X.env.cells.lookup x = some c → c ≠ b
  bs : ∀ b o, X.base.get? b = some o → X.s₀.heap.get? b = some o ∧ X.H₀ b = none
  bsz : X.base.objs.size ≤ X.s₀.heap.objs.size
  noex : ∀ b o, X.base.get? b = some o → b ∉ X.ex
  exfs : ∀ b ∈ X.ex, b ∉ X.fs
  funs : X.s₀.heap.FunFrames X.base X.outer
  frf : ∀ b ∈ X.fs, X.H₀ b = none

structure Inv (X : Cx) (pins : List (Addr × Obj)) (σ : List (Option V)) (H : Hp) (s : Shared) : Prop where
  ok : X.Ok
  os : s.os = X.s₀.os
  bare : AllBare s.gens
  base : Un X.fs X.ex X.H₀ H X.s₀.heap s.heap
  loc : ∃ m, s.heap.Ns X.env.locals m ∧ ∀ (i : Nat) (x : Str) (v : V), X.N[i]? = some x → σ[i]? = some (some v) → Vis X.env.scope x → ∃ u, RelV v u ∧ Look X.env s.heap m x u
  cell : ∀ x c, X.env.cells.lookup x = some c → ∃ v, s.heap.IsCell c v
  free : H X.env.locals = none
  freeC : ∀ x c, X.env.cells.lookup x = some c → H c = none
  pin : ∀ p ∈ X.pn ++ pins, s.heap.get? p.1 = some p.2 ∧ H p.1 = none ∧ p.1 ≠ X.env.locals ∧ p.1 ∉ X.fs ∧ ∀ v, p.2.data ≠ .cell v
  hok : HOk X.prog X.w H s.heap
  len : σ.length = X.N.length

section
variable {X : Cx} {pins : List (Addr × Obj)} {σ : List (Option V)} {H H' : Hp} {s : Shared} {h' : Heap}

theorem Cx.Ok.nofr (ok : X.Ok) {b : Addr} {o : Obj} (e : X.base.get? b = some o) : b ∉ X.fs := fun hb => by
  have := (ok.funs.mem hb).1
  rw [e] at this; cases this
theorem Inv.bs (I : Inv X pins σ H s) : ∀ b o, X.base.get? b = some o → s.heap.get? b = some o ∧ H b = none := fun b o e =>
  ⟨I.base.keep b o (I.ok.bs b o e).1 (I.ok.bs b o e).2 (I.ok.nofr e) (I.ok.noex b o e), I.base.free b o (I.ok.bs b o e).1 (I.ok.bs b o e).2 (I.ok.noex b o e)⟩
theorem Inv.bk (I : Inv X pins σ H s) : ∀ b o, X.base.get? b = some o → s.heap.get? b = some o := fun b o e => (I.bs b o e).1
theorem Inv.mod (I : Inv X pins σ H s) : Mod X.K X.mg X.base := I.ok.mod
theorem Inv.kIn (I : Inv X pins σ H s) : X.K.In s.heap := I.ok.mod.kin.keeps I.bk
/-- the frame over the base: for OpenK's rules (K.In X.base is I.mod.kin) -/
theorem Inv.fr (I : Inv X pins σ H s) : ∃ m, Fr X.base X.env.locals s.heap m :=
  let ⟨m, hn, _⟩ := I.loc
  ⟨m, hn, I.bk, Nat.le_trans I.ok.bsz I.ok.above⟩
theorem Inv.lt (I : Inv X pins σ H s) : X.env.locals < s.heap.objs.size := let ⟨_, hn, _⟩ := I.loc; hn.lt
theorem Inv.sz (I : Inv X pins σ H s) : X.s₀.heap.objs.size ≤ s.heap.objs.size := Nat.le_trans I.ok.above (Nat.le_of_lt I.lt)
theorem Inv.nofs (I : Inv X pins σ H s) {a : Addr} (h : s.heap.objs.size ≤ a) : a ∉ X.fs := fun hb => by
  obtain ⟨_, o, ho, _⟩ := I.ok.funs.mem hb
  exact absurd (Nat.lt_of_lt_of_le (Heap.lt_size ho) (Nat.le_trans I.sz h)) (Nat.lt_irrefl _)
theorem Inv.cne (I : Inv X pins σ H s) : ∀ x c, X.env.cells.lookup x = some c → c ≠ X.env.locals := fun x c e z => by
  obtain ⟨v, o, ho, hd⟩ := I.cell x c e
  obtain ⟨m, ⟨o', es, ep, ho', hd', _⟩, _⟩ := I.loc
  rw [z, ho'] at ho; cases ho; rw [hd'] at hd; cases hd
theorem Inv.funs (I : Inv X pins σ H s) : s.heap.FunFrames X.base X.outer := by
  have all : ∀ (l : List Env), (∀ b ∈ frs l, b ∈ X.fs) → X.s₀.heap.FunFrames X.base l → s.heap.FunFrames X.base l := by
    intro l
    induction l with
    | nil => intro _ _; trivial
    | cons env r ih =>
      intro hs hl
      obtain ⟨hk, ⟨L, o, hf, hn, ho, hd⟩, hr⟩ := hl
      have hL : L ∈ X.fs := hs L (by unfold frs; rw [List.filterMap_cons, hf]; exact List.mem_cons_self)
      obtain ⟨sl, e⟩ := I.base.slot L o ho (I.ok.frf L hL) hL fun z => I.ok.exfs L z hL
      exact ⟨hk, ⟨L, _, hf, hn, e, hd⟩, ih (fun b hb => hs b (by unfold frs; rw [List.filterMap_cons, hf]; exact List.mem_cons_of_mem _ hb)) hr⟩
  exact all X.outer (fun _ hb => hb) I.ok.funs

/-- the frames that run, for a call -/
theorem Inv.stack (I : Inv X pins σ H s) : s.heap.FunFrames X.base X.stack := by
  rcases I.ok.stk with e | ⟨e, hf⟩
  · rw [e]; exact I.funs
  · rw [e]
    obtain ⟨m, hn, _⟩ := I.loc
    refine .cons (by rw [I.ok.kind]; decide) hf hn ?_ I.funs
    exact Heap.get?_none_of_le (Nat.le_trans I.ok.bsz I.ok.above)
theorem Inv.stkSub (I : Inv X pins σ H s) : ∀ b ∈ frs X.stack, b ∈ X.env.locals :: X.fs := fun b hb => by
  rcases I.ok.stk with e | ⟨e, hf⟩
  · rw [e] at hb; exact List.mem_cons_of_mem _ hb
  · rw [e] at hb
    unfold frs at hb
    rw [List.filterMap_cons, hf] at hb
    exact hb
theorem Inv.stkFree (I : Inv X pins σ H s) : ∀ b ∈ frs X.stack, H b = none := fun b hb => by
  rcases List.mem_cons.mp (I.stkSub b hb) with e | hb
  · rw [e]; exact I.free
  · obtain ⟨_, o, ho, _⟩ := I.ok.funs.mem hb
    exact I.base.free b o ho (I.ok.frf b hb) fun z => I.ok.exfs b z hb

/-- THE STEP: the untracked objects but the frame and the records at ch are kept (the callers' frames up to slots), the frame's map is kept, the new abstract heap is held -/
theorem Inv.step {g' : Array GenState} {t' : Nat} {d' : Drawn} {ch : List Addr} (I : Inv X pins σ H s)
    (hch : ∀ b ∈ ch, (b ∈ X.ex ∨ X.s₀.heap.objs.size ≤ b) ∧ b ≠ X.env.locals ∧ (∀ x c, X.env.cells.lookup x = some c → c ≠ b) ∧ ∀ p ∈ X.pn ++ pins, p.1 ≠ b)
    (keep : ∀ b o, b ≠ X.env.locals → b ∉ X.fs → b ∉ ch → s.heap.get? b = some o → H b = none → h'.get? b = some o)
    (slot : ∀ b o, b ≠ X.env.locals → b ∈ X.fs → b ∉ ch → s.heap.get? b = some o → H b = none → ∃ sl, h'.get? b = some { o with slots := sl }) (free : ∀ b o, b ∉ ch → s.heap.get? b = some o → H b = none → H' b = none)
    (there : ∀ b o, b ∉ ch → s.heap.get? b = some o → ∃ o', h'.get? b = some o')
    (tups : ∀ b xs, H b = some (.tup xs) → H' b = some (.tup xs)) (frzs : ∀ b o u, H b = some (.frz o u) → H' b = some (.frz o u)) (tbls : ∀ b ps, H b = some (.tbl ps) → ∃ more, H' b = some (.tbl (ps ++ more)))
    (ns : ∀ m, s.heap.Ns X.env.locals m → h'.Ns X.env.locals m) (hok : HOk X.prog X.w H' h') (hg : AllBare g') :
    Inv X pins σ H' { s with heap := h', gens := g', drawn := d', toks := t' } := by
  have neL : ∀ b o, X.s₀.heap.get? b = some o → b ≠ X.env.locals := fun b o e => Nat.ne_of_lt (Nat.lt_of_lt_of_le (Heap.lt_size e) I.ok.above)
  have neC : ∀ b o, X.s₀.heap.get? b = some o → b ∉ X.ex → b ∉ ch := fun b o e hx hb => by
    rcases (hch b hb).1 with z | z
    · exact hx z
    · exact absurd (Nat.lt_of_lt_of_le (Heap.lt_size e) z) (Nat.lt_irrefl _)
  have cellK : ∀ x c, X.env.cells.lookup x = some c → ∀ v, s.heap.IsCell c v → h'.IsCell c v := fun x c e v ⟨o, ho, hd⟩ => by
    have nch : c ∉ ch := fun z => (hch c z).2.2.1 x c e rfl
    by_cases hc : c ∈ X.fs
    · obtain ⟨sl, q⟩ := slot c o (I.cne x c e) hc nch ho (I.freeC x c e)
      exact ⟨_, q, hd⟩
    · exact ⟨o, keep c o (I.cne x c e) hc nch ho (I.freeC x c e), hd⟩
  refine ⟨I.ok, I.os, hg, ⟨fun b o e n hb hx => ?_, fun b o e n hb hx => ?_, fun b o e n hx => ?_, fun b o e hx => ?_, fun b xs e => tups b xs (I.base.tups b xs e), fun b o xs e => frzs b o xs (I.base.frzs b o xs e), fun b ps e => ?_⟩, ?_, fun x c e => ?_, ?_, fun x c e => ?_, fun p hp => ?_, hok, I.len⟩
  · exact keep b o (neL b o e) hb (neC b o e hx) (I.base.keep b o e n hb hx) (I.base.free b o e n hx)
  · obtain ⟨sl, e1⟩ := I.base.slot b o e n hb hx
    obtain ⟨sl', e2⟩ := slot b _ (neL b o e) hb (neC b o e hx) e1 (I.base.free b o e n hx)
    exact ⟨sl', e2⟩
  · obtain ⟨o', e1⟩ := I.base.there b o e hx
    exact free b o' (neC b o e hx) e1 (I.base.free b o e n hx)
  · obtain ⟨o', e1⟩ := I.base.there b o e hx
    exact there b o' (neC b o e hx) e1
  · obtain ⟨m1, e1⟩ := I.base.tbls b ps e
    obtain ⟨m2, e2⟩ := tbls b _ e1
    exact ⟨m1 ++ m2, by rw [e2, Array.append_assoc]⟩
  · obtain ⟨m, hn, hl⟩ := I.loc
    refine ⟨m, ns m hn, fun i x v e1 e2 e3 => ?_⟩
    obtain ⟨u, r, l⟩ := hl i x v e1 e2 e3
    refine ⟨u, r, ?_⟩
    rcases l with l | ⟨k, c, e, z⟩
    · exact .inl l
    · exact .inr ⟨k, c, e, cellK x c e _ z⟩
  · obtain ⟨v, z⟩ := I.cell x c e
    exact ⟨v, cellK x c e v z⟩
  · obtain ⟨m, ⟨o, _, _, ho, _⟩, _⟩ := I.loc
    exact free _ o (fun z => (hch _ z).2.1 rfl) ho I.free
  · obtain ⟨v, o, ho, hd⟩ := I.cell x c e
    exact free c o (fun z => (hch c z).2.2.1 x c e rfl) ho (I.freeC x c e)
  · obtain ⟨e, n, ne, nf, d⟩ := I.pin p hp
    have nch : p.1 ∉ ch := fun z => (hch p.1 z).2.2.2 p hp rfl
    exact ⟨keep p.1 p.2 ne nf nch e n, free p.1 p.2 nch e n, ne, nf, d⟩
/-- .. where the frame's own object is kept too -/
theorem Inv.un {t' : Nat} (I : Inv X pins σ H s) (u : Un X.fs [] H H' s.heap h') (hok : HOk X.prog X.w H' h') : Inv X pins σ H' { s with heap := h', toks := t' } := by
  obtain ⟨m, ⟨o, es, ep, ho, r⟩, _⟩ := id I.loc
  obtain ⟨sl, hL⟩ := u.any ho I.free (by simp)
  exact I.step (g' := s.gens) (d' := s.drawn) (ch := []) (fun _ z => nomatch z) (fun b o _ hb _ e n => u.keep b o e n hb (by simp)) (fun b o _ hb _ e n => u.slot b o e n hb (by simp)) (fun b o _ e n => u.free b o e n (by simp)) (fun b o _ e => u.there b o e (by simp)) u.tups u.frzs u.tbls (fun m' hm => by
    obtain ⟨o', es', ep', ho', r'⟩ := hm
    rw [ho] at ho'; cases ho'
    exact ⟨_, es', ep', hL, r'⟩) hok I.bare
/-- behind a call (or a comprehension's block): the slots of this frame may have changed too, the records at ch may have turned -/
theorem Inv.call {g' : Array GenState} {t' : Nat} {d' : Drawn} {ch : List Addr} (I : Inv X pins σ H s) (u : Un (frs X.stack) ch H H' s.heap h') (hok : HOk X.prog X.w H' h') (hg : AllBare g')
    (hch : ∀ b ∈ ch, (b ∈ X.ex ∨ X.s₀.heap.objs.size ≤ b) ∧ b ≠ X.env.locals ∧ (∀ x c, X.env.cells.lookup x = some c → c ≠ b) ∧ ∀ p ∈ X.pn ++ pins, p.1 ≠ b) :
    Inv X pins σ H' { s with heap := h', gens := g', drawn := d', toks := t' } := by
  obtain ⟨m, ⟨o, es, ep, ho, r⟩, _⟩ := id I.loc
  obtain ⟨sl, hL⟩ := u.any ho I.free fun z => (hch _ z).2.1 rfl
  exact I.step (ch := ch) hch (fun b o hL hb hc e n => u.keep b o e n (fun z => (List.mem_cons.mp (I.stkSub b z)).elim hL hb) hc) (fun b o _ _ hc e n => u.any e n hc) (fun b o hc e n => u.free b o e n hc) (fun b o hc e => u.there b o e hc) u.tups u.frzs u.tbls (fun m' hm => by
    obtain ⟨o', es', ep', ho', r'⟩ := hm
    rw [ho] at ho'; cases ho'
    exact ⟨_, es', ep', hL, r'⟩) hok hg
/-- an untracked record of ours (an iterator) has turned -/
theorem Inv.turned {t' : Nat} {it : Addr} (I : Inv X pins σ H s) (k : ∀ b o, b ≠ it → s.heap.get? b = some o → h'.get? b = some o) (hn : H it = none) (hL : it ≠ X.env.locals)
    (h1 : it ∈ X.ex ∨ X.s₀.heap.objs.size ≤ it) (h2 : ∀ x c, X.env.cells.lookup x = some c → c ≠ it) (h3 : ∀ p ∈ X.pn ++ pins, p.1 ≠ it) : Inv X pins σ H { s with heap := h', toks := t' } := by
  have nit : ∀ b u, H b = some u → b ≠ it := fun b u e z => by rw [z, hn] at e; cases e
  refine I.step (g' := s.gens) (d' := s.drawn) (ch := [it]) (fun b hb => ?_) (fun b o _ _ hc e _ => k b o (fun z => hc (by simp [z])) e) (fun b o _ _ hc e _ => ⟨o.slots, k b o (fun z => hc (by simp [z])) e⟩) (fun _ _ _ _ n => n)
    (fun b o hc e => ⟨o, k b o (fun z => hc (by simp [z])) e⟩) (fun _ _ e => e) (fun _ _ _ e => e) (fun b ps e => ⟨#[], by rw [e]; simp⟩) (fun m hm => ?_) (fun b u e => ?_) I.bare
  · have e : b = it := by simpa using hb
    subst e
    exact ⟨h1, hL, h2, h3⟩
  · obtain ⟨o, es, ep, ho, r⟩ := hm
    exact ⟨o, es, ep, k _ o (Ne.symm hL) ho, r⟩
  · refine (I.hok b u e).stay (fun c v hc q => k c v ?_ q) (fun _ q => q) fun _ _ q => q
    rcases hc with z | z
    · rw [z]; exact nit b u e
    · exact nit c _ z
theorem Inv.tok (I : Inv X pins σ H s) (t : Nat) : Inv X pins σ H { s with toks := t } := I.un (h' := s.heap) (t' := t) Un.refl I.hok
/-- all objects kept -/
theorem Inv.kept {t' : Nat} (I : Inv X pins σ H s) (k : ∀ b u, s.heap.get? b = some u → h'.get? b = some u) : Inv X pins σ H { s with heap := h', toks := t' } := I.un (Un.kept k) (I.hok.kept k)
/-- a new object laid and tracked -/
theorem Inv.laid {a : Addr} {o : HO} {t' : Nat} (I : Inv X pins σ H s) (k : ∀ b u, s.heap.get? b = some u → h'.get? b = some u) (hp : s.heap.objs.size ≤ a) (new : ObjOk X.prog X.w (upd H a o) h' a o) :
    Inv X pins σ (upd H a o) { s with heap := h', toks := t' } := I.un (Un.laid k hp (I.hok.fresh hp)) (I.hok.laid k hp new)
/-- an object written -/
theorem Inv.write {x e : Addr} {o : HO} {t' : Nat} (I : Inv X pins σ H s) (mu : Mut (H x)) (he : e = x ∨ H e = some (.own x)) (k : ∀ b u, b ≠ e → s.heap.get? b = some u → h'.get? b = some u) (heo : ∃ u, h'.get? e = some u)
    (new : ObjOk X.prog X.w (upd H x o) h' x o) : Inv X pins σ (upd H x o) { s with heap := h', toks := t' } := I.un (Un.write mu he k heo) (I.hok.write mu he k heo new)
/-- forgetting slots, pins -/
theorem Inv.weak {σ' : List (Option V)} (I : Inv X pins σ H s) (hl : σ'.length = σ.length) (w : ∀ (i : Nat) v, σ'[i]? = some (some v) → σ[i]? = some (some v)) : Inv X pins σ' H s :=
  ⟨I.ok, I.os, I.bare, I.base, let ⟨m, hn, hl'⟩ := I.loc; ⟨m, hn, fun i x v e1 e2 e3 => hl' i x v e1 (w i v e2) e3⟩, I.cell, I.free, I.freeC, I.pin, I.hok, hl.trans I.len⟩
theorem Inv.pins_of {pins' : List (Addr × Obj)} (I : Inv X pins σ H s) (h : ∀ p ∈ pins', s.heap.get? p.1 = some p.2 ∧ H p.1 = none ∧ p.1 ≠ X.env.locals ∧ p.1 ∉ X.fs ∧ ∀ v, p.2.data ≠ .cell v) : Inv X pins' σ H s :=
  ⟨I.ok, I.os, I.bare, I.base, I.loc, I.cell, I.free, I.freeC, fun p hp => (List.mem_append.mp hp).elim (fun z => I.pin p (List.mem_append_left _ z)) (h p), I.hok, I.len⟩

theorem nodup_ix {N : List Str} (hN : N.Nodup) {i j : Nat} {x : Str} (a : N[i]? = some x) (b : N[j]? = some x) : i = j := by
  obtain ⟨h1, e1⟩ := List.getElem?_eq_some_iff.mp a
  obtain ⟨h2, e2⟩ := List.getElem?_eq_some_iff.mp b
  exact (List.getElem_inj hN).mp (e1.trans e2.symm)

/-- a name is stored; what changed -/
theorem store_ok2 {M : Model} {A : Around} {E : Value → Shared → Prop} {i : Nat} {x : Str} {v : V} {u : Value} {Q : Unit → Shared → Prop} (I : Inv X pins σ H s) (hN : X.N.Nodup) (hi : X.N[i]? = some x) (hx : Loc X.env.scope x) (r : RelV v u)
    (h : ∀ s', Inv X pins (σ.set i (some v)) H s' → (∃ a, Heap.SameBut a s.heap s'.heap ∧ (a = X.env.locals ∨ X.env.cells.lookup x = some a)) → Q () s') (hf : X.fn x = true ∨ X.env.scope.names.lookup x = some .local := by first | exact .inl rfl | exact .inr rfl | assumption) : wpAny M A (storeName X.env x u) Q E s := by
  obtain ⟨m, hn, hl⟩ := id I.loc
  have hcls : (X.env.scope.kind == .class || (X.env.scope.kind == .module && X.env.locals != X.env.globals)) = false := by rw [I.ok.kind]; rfl
  have hiσ : i < σ.length := by rw [I.len]; exact (List.getElem?_eq_some_iff.mp hi).1
  have cne := I.cne
  have tracked : ∀ {a : Addr} {h' : Heap}, (∃ o, s.heap.get? a = some o ∧ H a = none) → Heap.SameBut a s.heap h' → HOk X.prog X.w H h' := fun {a h'} ha hs b ob e => by
    obtain ⟨_, _, hfree⟩ := ha
    refine (I.hok b ob e).stay (fun c w' hc q => (hs.2 c ?_).trans q) (fun _ q => q) fun _ _ q => q
    rintro rfl
    rcases hc with rfl | hc
    · rw [hfree] at e; cases e
    · rw [hfree] at hc; cases hc
  rcases hx with hk | hk
  · refine wpAny_storeName_local hk hn (fun h' hn' hs => ?_) hcls
    obtain ⟨oL, _, _, hoL, _⟩ := id hn
    refine h _ ⟨I.ok, I.os, I.bare, ⟨fun b o e n hb hx => ?_, fun b o e n hb hx => ?_, I.base.free, fun b o e hx => ?_, I.base.tups, I.base.frzs, I.base.tbls⟩, ⟨_, hn', fun j y v' e1 e2 e3 => ?_⟩, fun y c e => ?_, I.free, I.freeC, fun p hp => ?_, tracked ⟨oL, hoL, I.free⟩ hs, by simpa using I.len⟩ ⟨_, hs, .inl rfl⟩
    · exact (hs.2 b (Nat.ne_of_lt (Nat.lt_of_lt_of_le (Heap.lt_size e) I.ok.above))).trans (I.base.keep b o e n hb hx)
    · obtain ⟨sl, e1⟩ := I.base.slot b o e n hb hx
      exact ⟨sl, (hs.2 b (Nat.ne_of_lt (Nat.lt_of_lt_of_le (Heap.lt_size e) I.ok.above))).trans e1⟩
    · obtain ⟨o', e1⟩ := I.base.there b o e hx
      exact ⟨o', (hs.2 b (Nat.ne_of_lt (Nat.lt_of_lt_of_le (Heap.lt_size e) I.ok.above))).trans e1⟩
    · by_cases hj : j = i
      · subst hj
        rw [hi] at e1; cases e1
        rw [List.getElem?_set_self hiσ] at e2
        cases e2
        exact ⟨u, r, .inl ⟨hk, by simp⟩⟩
      · rw [List.getElem?_set_ne (Ne.symm hj)] at e2
        obtain ⟨u', r', q⟩ := hl j y v' e1 e2 e3
        refine ⟨u', r', ?_⟩
        rcases q with ⟨k, e⟩ | ⟨k, c, e, z⟩
        · refine .inl ⟨k, ?_⟩
          have : y ≠ x := fun e => hj (nodup_ix hN e1 (e ▸ hi))
          simp [this, e]
        · exact .inr ⟨k, c, e, z.sameBut hs (cne y c e)⟩
    · obtain ⟨w', z⟩ := I.cell y c e
      exact ⟨w', z.sameBut hs (cne y c e)⟩
    · obtain ⟨e, n, ne, nf, d⟩ := I.pin p hp
      exact ⟨(hs.2 p.1 ne).trans e, n, ne, nf, d⟩
  · have hfn : X.fn x = true := by
      rcases hf with z | z
      · exact z
      · rw [z] at hk; cases hk
    obtain ⟨c, hc⟩ := I.ok.has x (.inl hk)
    obtain ⟨w', z⟩ := I.cell x c hc
    refine wpAny_storeName_cell I.ok.kind hk hc z (fun h' hc' hs => ?_)
    obtain ⟨oc, hoc, hocd⟩ := id z
    refine h { s with heap := h' } ⟨I.ok, I.os, I.bare, ⟨fun b o e n hb hx => ?_, fun b o e n hb hx => ?_, I.base.free, fun b o e hx => ?_, I.base.tups, I.base.frzs, I.base.tbls⟩, ⟨m, hn.sameBut hs (Ne.symm (cne x c hc)), fun j y v' e1 e2 e3 => ?_⟩, fun y c' e => ?_, I.free, I.freeC, fun p hp => ?_, tracked ⟨oc, hoc, I.freeC x c hc⟩ hs, by simpa using I.len⟩ ⟨c, hs, .inr hc⟩
    · exact (hs.2 b (Nat.ne_of_lt (Nat.lt_of_lt_of_le (Heap.lt_size e) (I.ok.cab x c hfn hc)))).trans (I.base.keep b o e n hb hx)
    · obtain ⟨sl, e1⟩ := I.base.slot b o e n hb hx
      exact ⟨sl, (hs.2 b (Nat.ne_of_lt (Nat.lt_of_lt_of_le (Heap.lt_size e) (I.ok.cab x c hfn hc)))).trans e1⟩
    · obtain ⟨o', e1⟩ := I.base.there b o e hx
      exact ⟨o', (hs.2 b (Nat.ne_of_lt (Nat.lt_of_lt_of_le (Heap.lt_size e) (I.ok.cab x c hfn hc)))).trans e1⟩
    · by_cases hj : j = i
      · subst hj
        rw [hi] at e1; cases e1
        rw [List.getElem?_set_self hiσ] at e2
        cases e2
        exact ⟨u, r, .inr ⟨.inl hk, c, hc, hc'⟩⟩
      · rw [List.getElem?_set_ne (Ne.symm hj)] at e2
        obtain ⟨u', r', q⟩ := hl j y v' e1 e2 e3
        refine ⟨u', r', ?_⟩
        rcases q with q | ⟨k, c', e, z'⟩
        · exact .inl q
        · refine .inr ⟨k, c', e, z'.sameBut hs ?_⟩
          rintro rfl
          exact hj (nodup_ix hN e1 (I.ok.inj _ _ _ e hc ▸ hi))
    · by_cases hcc : c' = c
      · subst hcc; exact ⟨_, hc'⟩
      · obtain ⟨w2, z2⟩ := I.cell y c' e
        exact ⟨w2, z2.sameBut hs hcc⟩
    · obtain ⟨e, n, ne, nf, d⟩ := I.pin p hp
      refine ⟨(hs.2 p.1 ?_).trans e, n, ne, nf, d⟩
      intro q
      rw [q, hoc] at e
      have q' : oc = p.2 := Option.some.inj e
      exact d w' (by rw [← q']; exact hocd)
theorem store_ok {M : Model} {A : Around} {E : Value → Shared → Prop} {i : Nat} {x : Str} {v : V} {u : Value} {Q : Unit → Shared → Prop} (I : Inv X pins σ H s) (hN : X.N.Nodup) (hi : X.N[i]? = some x) (hx : Loc X.env.scope x) (r : RelV v u)
    (h : ∀ s', Inv X pins (σ.set i (some v)) H s' → Q () s') (hf : X.fn x = true ∨ X.env.scope.names.lookup x = some .local := by first | exact .inl rfl | exact .inr rfl | assumption) : wpAny M A (storeName X.env x u) Q E s :=
  store_ok2 I hN hi hx r (fun s' I' _ => h s' I') hf
/-- behind a call or a block, the state as it is -/
theorem Inv.call' {s' : Shared} {ch : List Addr} (I : Inv X pins σ H s) (ho : s'.os = s.os) (u : Un (frs X.stack) ch H H' s.heap s'.heap) (hok : HOk X.prog X.w H' s'.heap) (hg : AllBare s'.gens)
    (hch : ∀ b ∈ ch, (b ∈ X.ex ∨ X.s₀.heap.objs.size ≤ b) ∧ b ≠ X.env.locals ∧ (∀ x c, X.env.cells.lookup x = some c → c ≠ b) ∧ ∀ p ∈ X.pn ++ pins, p.1 ≠ b) : Inv X pins σ H' s' := by
  obtain ⟨h', g', d', t', o'⟩ := s'
  have e : o' = s.os := ho
  subst e
  exact I.call (g' := g') (t' := t') (d' := d') u hok hg hch
end

/-! ### the judgements -/
/-- an exception: its class, its own dict's address (where it has one), the abstract heap behind it -/
abbrev XK := Value → Option Addr → Hp → Prop
abbrev St := List (Option V)
abbrev VK := V → Hp → Prop
/-- an expression's reading; a test's; an argument list's -/
abbrev TE := St → Hp → VK → Prop
abbrev TT := St → Hp → (Bool → Hp → Prop) → Prop
abbrev TA := St → Hp → (List V → Hp → Prop) → Prop
/-- what is wanted behind a statement -/
structure Ends where
  nx : St → Hp → Prop
  rt : VK
  bk : St → Hp → Prop := fun _ _ => False
  ct : St → Hp → Prop := fun _ _ => False
abbrev TS := Ends → St → Hp → Prop

def EP (X : Cx) (pins : List (Addr × Obj)) (σ : St) (Q : VK) (u : Value) (s' : Shared) : Prop := ∃ v H', Inv X pins σ H' s' ∧ RelV v u ∧ Q v H'
def TP (X : Cx) (pins : List (Addr × Obj)) (σ : St) (Q : Bool → Hp → Prop) (b : Bool) (s' : Shared) : Prop := ∃ H', Inv X pins σ H' s' ∧ Q b H'
def AP (X : Cx) (pins : List (Addr × Obj)) (σ : St) (Q : List V → Hp → Prop) (us : List Value) (s' : Shared) : Prop := ∃ vs H', Inv X pins σ H' s' ∧ Vals vs us ∧ Q vs H'
def SP (X : Cx) (pins : List (Addr × Obj)) (D : Ends) (f : Flow) (s' : Shared) : Prop :=
  match f with
  | .next => ∃ σ' H', Inv X pins σ' H' s' ∧ D.nx σ' H'
  | .brk => ∃ σ' H', Inv X pins σ' H' s' ∧ D.bk σ' H'
  | .cont => ∃ σ' H', Inv X pins σ' H' s' ∧ D.ct σ' H'
  | .ret u => ∃ v σ' H', Inv X pins σ' H' s' ∧ RelV v u ∧ D.rt v H'

def PE (X : Cx) (e : Expr) (t : TE) : Prop :=
  ∀ (pins : List (Addr × Obj)) (s : Shared) (σ : St) (H : Hp) (Q : VK), Inv X pins σ H s → t σ H Q → wpAny (model X.prog X.w) X.A (eval e X.env) (EP X pins σ Q) X.xe s
def PT (X : Cx) (e : Expr) (t : TT) : Prop :=
  ∀ (pins : List (Addr × Obj)) (s : Shared) (σ : St) (H : Hp) (Q : Bool → Hp → Prop), Inv X pins σ H s → t σ H Q → wpAny (model X.prog X.w) X.A (isTrue e X.env (eval e X.env)) (TP X pins σ Q) X.xe s
/-- a test whatever its 'whole' is (and, or) -/
def PW (X : Cx) (e : Expr) (t : TT) : Prop :=
  ∀ (whole : Sem Value) (pins : List (Addr × Obj)) (s : Shared) (σ : St) (H : Hp) (Q : Bool → Hp → Prop), Inv X pins σ H s → t σ H Q → wpAny (model X.prog X.w) X.A (isTrue e X.env whole) (TP X pins σ Q) X.xe s
theorem PW.pt {X : Cx} {e : Expr} {t : TT} (h : PW X e t) : PT X e t := h _
/-- an argument list (no star), from the left -/
def PA (X : Cx) (es : List Expr) (t : TA) : Prop :=
  ∀ (pos : Pos) (pins : List (Addr × Obj)) (s : Shared) (σ : St) (H : Hp) (Q : List V → Hp → Prop), Inv X pins σ H s → t σ H Q → wpAny (model X.prog X.w) X.A (spliced (backTo pos (starEach es X.env))) (AP X pins σ Q) X.xe s
def PS (X : Cx) (st : Stmt) (t : TS) : Prop :=
  ∀ (pins : List (Addr × Obj)) (s : Shared) (σ : St) (H : Hp) (D : Ends), Inv X pins σ H s → t D σ H → wpAny (model X.prog X.w) X.A (exec st X.env) (SP X pins D) X.xe s
def PSs (X : Cx) (st : List Stmt) (t : TS) : Prop :=
  ∀ (pins : List (Addr × Obj)) (s : Shared) (σ : St) (H : Hp) (D : Ends), Inv X pins σ H s → t D σ H → wpAny (model X.prog X.w) X.A (execs st X.env) (SP X pins D) X.xe s
/-- weaken the end -/
theorem thn {α : Type} {t : Sem α} {Q Q' : α → Shared → Prop} {M : Model} {A : Around} {E : Value → Shared → Prop} {s : Shared} (h : wpAny M A t Q E s) (hQ : ∀ a s, Q a s → Q' a s) : wpAny M A t Q' E s := wpAny_mono h hQ fun _ _ x => x
end L2

namespace L2
open PySem PySem.Spec PyProof.Rows
section
variable {X : Cx}

/-- two expressions in a row -/
theorem bin {a b : Expr} {ta tb : TE} (ha : PE X a ta) (hb : PE X b tb) {pins : List (Addr × Obj)} {s : Shared} {σ : St} {H : Hp} {R : V → V → Hp → Prop} (I : Inv X pins σ H s) (h : ta σ H fun x H1 => tb σ H1 fun y H2 => R x y H2)
    {α : Type} {Q : α → Shared → Prop} {f : Value → Value → Sem α}
    (hf : ∀ v u s2 x y H2, Inv X pins σ H2 s2 → RelV x v → RelV y u → R x y H2 → wpAny (model X.prog X.w) X.A (f v u) Q X.xe s2) :
    wpAny (model X.prog X.w) X.A (eval a X.env) (fun v s₁ => wpAny (model X.prog X.w) X.A (eval b X.env) (fun u s₂ => wpAny (model X.prog X.w) X.A (f v u) Q X.xe s₂) X.xe s₁) X.xe s := by
  refine thn (ha pins s σ H _ I h) fun v s1 ⟨x, H1, I1, r1, q1⟩ => ?_
  refine thn (hb pins s1 σ H1 _ I1 q1) fun u s2 ⟨y, H2, I2, r2, q2⟩ => ?_
  exact hf v u s2 x y H2 I2 r1 r2 q2

/-! ### names and constants -/
def tVar (i : Nat) : TE := fun σ H Q => ∃ v, σ[i]? = some (some v) ∧ Q v H
def tC (v : V) : TE := fun _ H Q => Q v H
theorem pe_var {i : Nat} {x : Str} {pos : Pos} (hN : X.N[i]? = some x) (hv : Vis X.env.scope x) (hd : (x == ("__debug__" : Str)) = false := by decide) (hcd : (x == ("__classdict__" : Str)) = false := by decide) : PE X (.Name x pos) (tVar i) := by
  intro pins s σ H Q I h
  obtain ⟨v, e, h⟩ := h
  obtain ⟨m, hn, hl⟩ := I.loc
  obtain ⟨u, r, l⟩ := hl i x v hN e hv
  have fin : EP X pins σ Q u s := ⟨v, H, I, r, h⟩
  rcases l with ⟨hk, hm⟩ | ⟨hk, c, hc, hcell⟩
  · exact wpAny_Name (wpAny_loadName_local I.ok.kind hk hn hm fin) hd
  · rcases hk with hk | hk
    · exact wpAny_Name (wpAny_loadName_cell I.ok.kind hk hc hcell fin) hd
    · exact wpAny_Name (wpAny_loadName_free I.ok.kind hk hc hcell fin hcd) hd
theorem pe_int {i j pos} : PE X (.Constant (.int i) j pos) (tC (.int i)) := fun _ _ _ H _ I h => wpAny_Constant_int ⟨.int i, H, I.tok _, ⟨_, rfl⟩, h⟩
theorem pe_bl {b j pos} : PE X (.Constant (.bool b) j pos) (tC (.bl b)) := fun _ _ _ H _ I h => Constant_bool ⟨.bl b, H, I, rfl, h⟩
theorem pe_non {j pos} : PE X (.Constant .none j pos) (tC .non) := fun _ _ _ H _ I h => Constant_none ⟨.non, H, I, rfl, h⟩
theorem pe_str {x j pos} : PE X (.Constant (.str x) j pos) (tC (.str x)) := fun _ _ _ H _ I h => Calls.Constant_str ⟨.str x, H, I.tok _, ⟨_, rfl⟩, h⟩

/-- a global name of the def -/
def Gl (X : Cx) (x : Str) : Prop := X.env.kindOf x = some .globalImplicit
theorem ld_glob {E : Value → Shared → Prop} {pins : List (Addr × Obj)} {s : Shared} {σ : St} {H : Hp} {x : Str} {u : Value} {pos : Pos} {Q : Value → Shared → Prop} (I : Inv X pins σ H s) (hg : Gl X x) (hm : X.mg x = some u) (h : Q u s)
    (hd : (x == ("__debug__" : Str)) = false := by decide) : wpAny (model X.prog X.w) X.A (eval (.Name x pos) X.env) Q E s :=
  Calls.Name_function_global I.ok.kind hg (Calls.loadGlobal_global (by rw [I.ok.glob]; exact I.mod.glob.keeps I.bk) hm h) hd
theorem ld_blt {E : Value → Shared → Prop} {pins : List (Addr × Obj)} {s : Shared} {σ : St} {H : Hp} {x : Str} {u : Value} {pos : Pos} {Q : Value → Shared → Prop} (I : Inv X pins σ H s) (hg : Gl X x) (hm : X.mg x = none) (hv : bootBuiltins x = some u) (h : Q u s)
    (hn : x ≠ "__name__" := by decide) (hd : (x == ("__debug__" : Str)) = false := by decide) : wpAny (model X.prog X.w) X.A (eval (.Name x pos) X.env) Q E s := by
  obtain ⟨mb, h1, h2⟩ := I.mod.blt
  exact Calls.Name_function_global I.ok.kind hg (Calls.loadGlobal_builtin (by rw [I.ok.glob]; exact I.mod.glob.keeps I.bk) hm (by rw [I.ok.blt]; exact h1.keeps I.bk) ((h2 x hn).trans hv) h) hd
/-- a module's constant, a class, a function, as a value -/
theorem pe_glob {x : Str} {v : V} {u : Value} {pos : Pos} (hg : Gl X x) (hm : X.mg x = some u) (r : RelV v u) (hd : (x == ("__debug__" : Str)) = false := by decide) : PE X (.Name x pos) (tC v) :=
  fun _ _ _ H _ I h => ld_glob I hg hm ⟨v, H, I, r, h⟩ hd
theorem pe_bltn {x : Str} {v : V} {u : Value} {pos : Pos} (hg : Gl X x) (hm : X.mg x = none) (hv : bootBuiltins x = some u) (r : RelV v u) (hn : x ≠ "__name__" := by decide) (hd : (x == ("__debug__" : Str)) = false := by decide) : PE X (.Name x pos) (tC v) :=
  fun _ _ _ H _ I h => ld_blt I hg hm hv ⟨v, H, I, r, h⟩ hn hd

/-! ### arithmetic -/
variable {a b : Expr} {ta tb : TE} {pos : Pos}
/-! ### comparisons -/
def PC (X : Cx) (op : CmpOp) (a b : Expr) (t : TE) : Prop :=
  ∀ (pins : List (Addr × Obj)) (s : Shared) (σ : St) (H : Hp) (Q : VK), Inv X pins σ H s → t σ H Q →
    wpAny (model X.prog X.w) X.A (eval a X.env) (fun v s₁ => wpAny (model X.prog X.w) X.A (eval b X.env) (fun u s₂ => wpAny (model X.prog X.w) X.A (compareOp op v u) (EP X pins σ Q) X.xe s₂) X.xe s₁) X.xe s
theorem nobehind (b : Expr) {op : CmpOp} (h : op ≠ .In) (h2 : op ≠ .NotIn) : behindInMarks op b = false := by
  have e1 : (op == CmpOp.In) = false := by cases op <;> first | rfl | exact absurd rfl h
  have e2 : (op == CmpOp.NotIn) = false := by cases op <;> first | rfl | exact absurd rfl h2
  cases b <;> simp [behindInMarks, e1, e2]
/-- a comparison as a value, as a test -/
def tB (t : TE) : TT := fun σ H Q => t σ H fun x H1 => ∃ c, x = .bl c ∧ Q c H1
theorem pt_cmp {op : CmpOp} {t : TE} (h : PC X op a b t) (h1 : behindInMarks op b = false := by first | exact nobehind _ (by decide) (by decide) | rfl) : PT X (.Compare a [op] [b] pos) (tB t) := by
  intro pins s σ H Q I hw
  refine wpAny_isTrue_Compare1 (thn (h pins s σ H _ I hw) fun v s1 h1 => thn h1 fun u s2 h2 => thn h2 fun c s3 ⟨x, H1, I1, r1, q1⟩ => ?_) h1
  obtain ⟨d, rfl, q⟩ := q1
  cases r1
  exact wpAny_truthy_bool ⟨H1, I1, q⟩
/-- an expression whose value is a bool, as a test -/
theorem pt_val {e : Expr} {t : TE} (h : PE X e t) (he : ∀ whole, isTrue e X.env whole = (do let v ← whole; standAt e.pos; holding [v] (truthy v)) := by intro _; rfl) : PT X e (tB t) := by
  intro pins s σ H Q I hw
  refine isTrue_plain (thn (h pins s σ H _ I hw) fun v s1 ⟨x, H1, I1, r1, q1⟩ => ?_) (he _)
  obtain ⟨d, rfl, q⟩ := q1
  cases r1
  exact wpAny_truthy_bool ⟨H1, I1, q⟩

/-! ### and, or, not -/
variable {tA tB' : TT} {rest : List Expr}
def tAnd (t u : TT) : TT := fun σ H Q => t σ H fun c H1 => if c = true then u σ H1 Q else Q false H1
def tOr (t u : TT) : TT := fun σ H Q => t σ H fun c H1 => if c = true then Q true H1 else u σ H1 Q
def tNot (t : TT) : TT := fun σ H Q => t σ H fun c H1 => Q (!c) H1
theorem pw_and1 (ha : PT X a tA) : PW X (.BoolOp .And [a] pos) tA := by
  intro wh pins s σ H Q I h
  refine isTrue_and (thn (ha pins s σ H Q I h) fun c s1 e => ?_)
  cases c with
  | true => exact isTrue_and_nil e
  | false => exact e
theorem pw_or1 (ha : PT X a tA) : PW X (.BoolOp .Or [a] pos) tA := by
  intro wh pins s σ H Q I h
  refine isTrue_or (thn (ha pins s σ H Q I h) fun c s1 e => ?_)
  cases c with
  | false => exact isTrue_or_nil e
  | true => exact e
theorem pw_and (ha : PT X a tA) (hb : PW X (.BoolOp .And (b :: rest) pos) tB') : PW X (.BoolOp .And (a :: b :: rest) pos) (tAnd tA tB') := by
  intro wh pins s σ H Q I h
  refine isTrue_and (thn (ha pins s σ H _ I h) fun c s1 ⟨H1, I1, q1⟩ => ?_)
  cases c with
  | true => exact hb wh pins s1 σ H1 Q I1 q1
  | false => exact ⟨H1, I1, q1⟩
theorem pw_or (ha : PT X a tA) (hb : PW X (.BoolOp .Or (b :: rest) pos) tB') : PW X (.BoolOp .Or (a :: b :: rest) pos) (tOr tA tB') := by
  intro wh pins s σ H Q I h
  refine isTrue_or (thn (ha pins s σ H _ I h) fun c s1 ⟨H1, I1, q1⟩ => ?_)
  cases c with
  | true => exact ⟨H1, I1, q1⟩
  | false => exact hb wh pins s1 σ H1 Q I1 q1
theorem pt_not (ha : PT X a tA) : PT X (.UnaryOp .Not a pos) (tNot tA) := by
  intro pins s σ H Q I h
  exact isTrue_not (ha pins s σ H (fun c H1 => Q (!c) H1) I h)
/-- .. as values (bools) -/
def tAndV (ta tb : TE) : TE := fun σ H Q => ta σ H fun x H1 => ∃ c, x = .bl c ∧ if c = true then tb σ H1 Q else Q (.bl false) H1
def tOrV (ta tb : TE) : TE := fun σ H Q => ta σ H fun x H1 => ∃ c, x = .bl c ∧ if c = true then Q (.bl true) H1 else tb σ H1 Q
def tNotV (ta : TE) : TE := fun σ H Q => ta σ H fun x H1 => ∃ c, x = .bl c ∧ Q (.bl (!c)) H1
theorem pe_one {op} {t : TE} (h : PE X a t) : PE X (.BoolOp op [a] pos) t := fun pins s σ H Q I hw => BoolOp_one (h pins s σ H Q I hw)
theorem pe_and (ha : PE X a ta) (hb : PE X (.BoolOp .And (b :: rest) pos) tb) : PE X (.BoolOp .And (a :: b :: rest) pos) (tAndV ta tb) := by
  intro pins s σ H Q I h
  refine BoolOp_and (thn (ha pins s σ H _ I h) fun v s1 ⟨x, H1, I1, r1, q1⟩ => ?_)
  obtain ⟨c, rfl, q1⟩ := q1
  cases r1
  refine wpAny_truthy_bool ?_
  cases c with
  | true => exact hb pins s1 σ H1 Q I1 q1
  | false => exact ⟨.bl false, H1, I1, rfl, q1⟩
theorem pe_or (ha : PE X a ta) (hb : PE X (.BoolOp .Or (b :: rest) pos) tb) : PE X (.BoolOp .Or (a :: b :: rest) pos) (tOrV ta tb) := by
  intro pins s σ H Q I h
  refine BoolOp_or (thn (ha pins s σ H _ I h) fun v s1 ⟨x, H1, I1, r1, q1⟩ => ?_)
  obtain ⟨c, rfl, q1⟩ := q1
  cases r1
  refine wpAny_truthy_bool ?_
  cases c with
  | false => exact hb pins s1 σ H1 Q I1 q1
  | true => exact ⟨.bl true, H1, I1, rfl, q1⟩
theorem pe_not (ha : PE X a ta) : PE X (.UnaryOp .Not a pos) (tNotV ta) := by
  intro pins s σ H Q I h
  refine UnaryOp_ (thn (ha pins s σ H _ I h) fun v s1 ⟨x, H1, I1, r1, q1⟩ => ?_)
  obtain ⟨c, rfl, q1⟩ := q1
  cases r1
  exact not_of (wpAny_truthy_bool ⟨.bl (!c), H1, I1, rfl, q1⟩)
/-- a if t else b -/
def tIf (t : TT) (ta tb : TE) : TE := fun σ H Q => t σ H fun c H1 => if c = true then ta σ H1 Q else tb σ H1 Q
theorem pe_ifExp {c : Expr} (hc : PT X c tA) (ha : PE X a ta) (hb : PE X b tb) : PE X (.IfExp c a b pos) (tIf tA ta tb) := by
  intro pins s σ H Q I h
  refine wpAny_IfExp (thn (hc pins s σ H _ I h) fun d s1 ⟨H1, I1, q1⟩ => ?_)
  cases d with
  | true => exact ha pins s1 σ H1 Q I1 q1
  | false => exact hb pins s1 σ H1 Q I1 q1
end
end L2

namespace L2
open PySem PySem.Spec PyProof.Rows

/-! ### a list, a tuple that is read: tracked, frozen, or an object of the module -/
def SqL (K : PySem.W.Frag) (H : Hp) (a : Addr) (xs : List V) : Prop :=
  Rd H a (.lst xs) ∨
    ∃ (o : Obj) (its : Array Value) (n : Nat), K.lookup a = some o ∧ o.cls = .type "list" ∧ o.dict = none ∧ o.data = .seq its n ∧ its.size ≤ sizeLine ∧ Vals xs its.toList
def SqT (K : PySem.W.Frag) (H : Hp) (a : Addr) (xs : List V) : Prop :=
  Rd H a (.tup xs) ∨
    ∃ (o : Obj) (its : Array Value) (n : Nat), K.lookup a = some o ∧ o.cls = .type "tuple" ∧ o.data = .seq its n ∧ its.size ≤ sizeLine ∧ Vals xs its.toList
section
variable {X : Cx} {pins : List (Addr × Obj)} {σ : St} {H : Hp} {s : Shared} {a : Addr} {xs ys : List V}
theorem SqL.of {K : PySem.W.Frag} (h : H a = some (.lst xs)) : SqL K H a xs := .inl (.inl h)
theorem SqT.of {K : PySem.W.Frag} (h : H a = some (.tup xs)) : SqT K H a xs := .inl (.inl h)
theorem Inv.list (I : Inv X pins σ H s) (h : SqL X.K H a xs) : ∃ its : List Value, Vals xs its ∧ PlainL s.heap a its.toArray ∧ xs.length ≤ sizeLine := by
  rcases h with h | ⟨o, its, n, hk, hc, hd, hs, hz, r⟩
  · obtain ⟨z, its, n, r, e⟩ := h.ok I.hok
    exact ⟨its, r, ⟨_, n, e, rfl, rfl, rfl⟩, z⟩
  · refine ⟨its.toList, r, ⟨o, n, I.kIn a o hk, hc, hd, by simpa using hs⟩, ?_⟩
    have e := r.length
    simp only [Array.length_toList] at e
    omega
theorem Inv.tuple (I : Inv X pins σ H s) (h : SqT X.K H a xs) : ∃ its : List Value, Vals xs its ∧ IsTup s.heap a its.toArray ∧ xs.length ≤ sizeLine := by
  rcases h with h | ⟨o, its, n, hk, hc, hs, hz, r⟩
  · obtain ⟨z, its, r, p⟩ := h.ok I.hok
    exact ⟨its, r, p, z⟩
  · refine ⟨its.toList, r, ⟨o, I.kIn a o hk, hc, n, by simpa using hs⟩, ?_⟩
    have e := r.length
    simp only [Array.length_toList] at e
    omega
end

/-! ### another wish about exceptions -/
abbrev Cx.wish (X : Cx) (E : Value → Shared → Prop) : Cx := { X with xe := E }
/-- no exception leaves -/
abbrev Cx.nox (X : Cx) : Cx := X.wish fun _ _ => False
theorem Cx.Ok.wish {X : Cx} (ok : X.Ok) (E : Value → Shared → Prop) : (X.wish E).Ok :=
  ⟨ok.mod, ok.kind, ok.glob, ok.blt, ok.above, ok.inj, ok.has, ok.cab, ok.hd, ok.frames, ok.stk, ok.exf, ok.bs, ok.bsz, ok.noex, ok.exfs, ok.funs, ok.frf⟩
theorem Cx.Ok.unwish {X : Cx} {E : Value → Shared → Prop} (ok : (X.wish E).Ok) : X.Ok :=
  ⟨ok.mod, ok.kind, ok.glob, ok.blt, ok.above, ok.inj, ok.has, ok.cab, ok.hd, ok.frames, ok.stk, ok.exf, ok.bs, ok.bsz, ok.noex, ok.exfs, ok.funs, ok.frf⟩
section
variable {X : Cx} {pins : List (Addr × Obj)} {σ : St} {H : Hp} {s : Shared} {E : Value → Shared → Prop}
theorem Inv.wish (I : Inv X pins σ H s) (E : Value → Shared → Prop) : Inv (X.wish E) pins σ H s := ⟨I.ok.wish E, I.os, I.bare, I.base, I.loc, I.cell, I.free, I.freeC, I.pin, I.hok, I.len⟩
theorem Inv.unwish (I : Inv (X.wish E) pins σ H s) : Inv X pins σ H s := ⟨I.ok.unwish, I.os, I.bare, I.base, I.loc, I.cell, I.free, I.freeC, I.pin, I.hok, I.len⟩
theorem SP.unwish {D : Ends} {f : Flow} {s' : Shared} (h : SP (X.wish E) pins D f s') : SP X pins D f s' := by
  cases f with
  | next => obtain ⟨σ', H', I, q⟩ := h; exact ⟨σ', H', I.unwish, q⟩
  | brk => obtain ⟨σ', H', I, q⟩ := h; exact ⟨σ', H', I.unwish, q⟩
  | cont => obtain ⟨σ', H', I, q⟩ := h; exact ⟨σ', H', I.unwish, q⟩
  | ret u => obtain ⟨v, σ', H', I, r, q⟩ := h; exact ⟨v, σ', H', I.unwish, r, q⟩
theorem PSs.nox {st : List Stmt} {t : TS} (h : PSs X.nox st t) : PSs X st t := fun pins s σ H D I hw =>
  wpAny_mono (h pins s σ H D (I.wish _) hw) (fun _ _ q => q.unwish) fun _ _ z => False.elim z
end

/-! ### blocks and small statements -/
section
variable {X : Cx} {st : Stmt} {rest : List Stmt} {t u : TS} {e : Expr} {te : TE} {pos : Pos}
def tNext : TS := fun D σ H => D.nx σ H
def tSeq (t u : TS) : TS := fun D σ H => t { D with nx := u D } σ H
theorem pss_nil : PSs X [] tNext := fun _ _ σ H _ I h => wpAny_execs_nil ⟨σ, H, I, h⟩
theorem pss_cons (h1 : PS X st t) (h2 : PSs X rest u) : PSs X (st :: rest) (tSeq t u) := by
  intro pins s σ H D I h
  refine wpAny_execs_cons (thn (h1 pins s σ H { D with nx := u D } I h) fun f s1 q => ?_)
  cases f with
  | next =>
    obtain ⟨σ', H', I', q⟩ := q
    exact h2 pins s1 σ' H' D I' q
  | ret v => exact q
  | brk => exact q
  | cont => exact q
theorem pss_one (h1 : PS X st t) : PSs X [st] t := by
  intro pins s σ H D I h
  refine wpAny_execs_cons (thn (h1 pins s σ H D I h) fun f s1 q => ?_)
  cases f with
  | next => exact wpAny_execs_nil q
  | ret v => exact q
  | brk => exact q
  | cont => exact q
/-- in a def's body nothing is shown -/
theorem Inv.quiet {pins : List (Addr × Obj)} {σ : St} {H : Hp} {s : Shared} (I : Inv X pins σ H s) : interactive X.env = false := by simp [interactive, I.ok.kind]
/-- an expression whose value is dropped -/
def tDrop (te : TE) : TS := fun D σ H => te σ H fun _ H1 => D.nx σ H1
theorem ps_expr (he : PE X e te) (hs : swapsWith e none pos.line X.env = pure false := by rfl) : PS X (.Expr e pos) (tDrop te) := by
  intro pins s σ H D I h
  exact wpAny_Expr_any (thn (he pins s σ H _ I h) fun v s1 ⟨x, H1, I1, r1, q1⟩ => ⟨σ, H1, I1, q1⟩) I.quiet hs
def tRet (te : TE) : TS := fun D σ H => te σ H D.rt
theorem ps_ret (he : PE X e te) : PS X (.Return (some e) pos) (tRet te) := by
  intro pins s σ H D I h
  exact wpAny_Return_some (thn (he pins s σ H _ I h) fun v s1 ⟨x, H1, I1, r1, q1⟩ => ⟨x, σ, H1, I1, r1, q1⟩)
def tIfS (c : TT) (t u : TS) : TS := fun D σ H => c σ H fun b H1 => if b = true then t D σ H1 else u D σ H1
theorem ps_if {c : Expr} {a b : List Stmt} {tc : TT} (hc : PT X c tc) (ha : PSs X a t) (hb : PSs X b u) : PS X (.If c a b pos) (tIfS tc t u) := by
  intro pins s σ H D I h
  refine wpAny_If (thn (hc pins s σ H _ I h) fun d s1 ⟨H1, I1, q1⟩ => ?_)
  cases d with
  | true => exact ha pins s1 σ H1 D I1 q1
  | false => exact hb pins s1 σ H1 D I1 q1
end

/-! ### targets -/
abbrev TG := V → St → Hp → (St → Hp → Prop) → Prop
def PG (X : Cx) (target : Expr) (t : TG) : Prop :=
  ∀ (pins : List (Addr × Obj)) (s : Shared) (σ : St) (H : Hp) (v : V) (u : Value) (Q : St → Hp → Prop), Inv X pins σ H s → RelV v u → t v σ H Q →
    wpAny (model X.prog X.w) X.A (assign target X.env u) (fun _ s' => ∃ σ' H', Inv X pins σ' H' s' ∧ Q σ' H') X.xe s
section
variable {X : Cx} {pos : Pos}
def gName (i : Nat) : TG := fun v σ H Q => Q (σ.set i (some v)) H
theorem pg_name {i : Nat} {x : Str} (hN : X.N.Nodup) (hi : X.N[i]? = some x) (hx : Loc X.env.scope x) (hf : X.fn x = true ∨ X.env.scope.names.lookup x = some .local := by first | exact .inl rfl | exact .inr rfl | assumption) : PG X (.Name x pos) (gName i) := by
  intro pins s σ H v u Q I r h
  exact wpAny_assign_Name (store_ok I hN hi hx r (fun s' I' => ⟨_, H, I', h⟩) hf)
/-- target = value -/
def tAsg (te : TE) (g : TG) : TS := fun D σ H => te σ H fun x H1 => g x σ H1 D.nx
/-- name = value -/
theorem ps_set {i : Nat} {x : Str} {e : Expr} {te : TE} {pos' : Pos} (hN : X.N.Nodup) (hi : X.N[i]? = some x) (hx : Loc X.env.scope x) (he : PE X e te) (hs : swapsWith e (some (.Name x pos')) pos.line X.env = pure false := by rfl) (hf : X.fn x = true ∨ X.env.scope.names.lookup x = some .local := by first | exact .inl rfl | exact .inr rfl | assumption) :
    PS X (.Assign [.Name x pos'] e pos) (tAsg te (gName i)) := by
  intro pins s σ H D I h
  refine wpAny_Assign_Name (thn (he pins s σ H _ I h) fun v s1 ⟨y, H1, I1, r1, q1⟩ => ?_) hs
  exact store_ok I1 hN hi hx r1 (fun s2 I2 => ⟨_, H1, I2, q1⟩) hf
end

/-! ### while -/
section
variable {X : Cx} {pos : Pos}
/-- the invariant W with its measure -/
def tWhile (c : TT) (tb : TS) : TS := fun D σ H => ∃ W : Nat → St → Hp → Prop, (∃ m, W m σ H) ∧ ∀ m σ H, W m σ H →
  c σ H fun b H1 => if b = true then ∃ N : St → Hp → Prop, (∀ σ' H', N σ' H' → ∃ m', m' < m ∧ W m' σ' H') ∧ tb { D with nx := N, ct := N, bk := D.nx } σ H1 else D.nx σ H1
theorem ps_while {c : Expr} {body : List Stmt} {tc : TT} {tb : TS} (hp : PassesOwn (model X.prog X.w) X.A X.env X.xe) (hc : PT X c tc) (hb : PSs X body tb) : PS X (.While c body [] pos) (tWhile tc tb) := by
  intro pins s σ H D I h
  obtain ⟨W, ⟨m0, w0⟩, turn⟩ := h
  refine wpAny_While (codeAny_whileLoop (fun n s' => ∃ σ' H', Inv X pins σ' H' s' ∧ W n σ' H') ?_ m0 ⟨σ, H, I, w0⟩)
  rintro n s1 ⟨σ1, H1, I1, w1⟩
  refine wpAny_passesOwn hp (thn (hc pins s1 σ1 H1 _ I1 (turn n σ1 H1 w1)) fun b s2 ⟨H2, I2, q2⟩ => ?_)
  cases b with
  | true =>
    obtain ⟨N, hN, q2⟩ := q2
    rw [if_pos rfl]
    refine wpAny_passesOwn hp (thn (hb pins s2 σ1 H2 _ I2 q2) fun f s3 q3 => ?_)
    cases f with
    | next =>
      obtain ⟨σ3, H3, I3, n3⟩ := q3
      obtain ⟨m', hm, w3⟩ := hN σ3 H3 n3
      exact ⟨m', hm, σ3, H3, I3, w3⟩
    | cont =>
      obtain ⟨σ3, H3, I3, n3⟩ := q3
      obtain ⟨m', hm, w3⟩ := hN σ3 H3 n3
      exact ⟨m', hm, σ3, H3, I3, w3⟩
    | brk => exact q3
    | ret v => exact q3
  | false =>
    rw [if_neg Bool.false_ne_true]
    exact wpAny_execs_nil ⟨σ1, H2, I2, q2⟩
end

/-! ### what a loop or a comprehension walks -/
/-- at turn i: it yields x (the heap may grow), or it stops -/
structure It where
  go : Nat → Hp → Prop
  yld : Nat → Hp → V → Hp → Prop
  stop : Nat → Hp → Prop
/-- the iterator's own objects may turn: they are not the frame's, not pinned, younger than the entry (or a comprehension's own) -/
def FpOk (X : Cx) (pins : List (Addr × Obj)) (H : Hp) (b : Addr) : Prop :=
  H b = none ∧ b ≠ X.env.locals ∧ b ∉ X.fs ∧ (b ∈ X.ex ∨ X.s₀.heap.objs.size ≤ b) ∧ (∀ x c, X.env.cells.lookup x = some c → c ≠ b) ∧ ∀ p ∈ X.pn ++ pins, p.1 ≠ b
theorem Inv.fpOk {X : Cx} {pins : List (Addr × Obj)} {σ : St} {H H' : Hp} {s : Shared} {b : Addr} (I : Inv X pins σ H s) (hb : s.heap.objs.size ≤ b) (hn : H' b = none) : FpOk X pins H' b := by
  refine ⟨hn, Nat.ne_of_gt (Nat.lt_of_lt_of_le I.lt hb), I.nofs hb, .inr (Nat.le_trans I.sz hb), fun x c e z => ?_, fun p hp z => ?_⟩
  · obtain ⟨v, q⟩ := I.cell x c e
    exact absurd (Nat.lt_of_lt_of_le q.lt (by rw [z]; exact hb)) (Nat.lt_irrefl _)
  · exact absurd (Nat.lt_of_lt_of_le (Heap.lt_size (I.pin p hp).1) (by rw [z]; exact hb)) (Nat.lt_irrefl _)
structure Turn (P : Program) (w : World) (K : PySem.W.Frag) (tg : Expr) (J : It) (fp : List Addr) (it : Addr) (tn : Nat → Heap → Prop) : Prop where
  mem : it ∈ fp
  obj : ∀ i h, tn i h → ∀ b ∈ fp, ∃ o, h.get? b = some o ∧ ∀ v, o.data ≠ .cell v
  keep : ∀ i h h', tn i h → (∀ b ∈ fp, ∀ o, h.get? b = some o → h'.get? b = some o) → tn i h'
  item : ∀ (X : Cx), X.prog = P → X.w = w → X.K = K → X.calm = true → ∀ (i : Nat) (pins : List (Addr × Obj)) (s : Shared) (σ : St) (H : Hp) (E : Value → Shared → Prop), Inv X pins σ H s → (∀ b ∈ fp, FpOk X pins H b) → tn i s.heap → J.go i H →
    wpAny (model P w) X.A (pyNext (.ref it)) (fun r s1 => ∃ u, r = some u ∧
      wpAny (model P w) X.A (letOwnedTupleGo tg (.ref it) u) (fun _ s2 => ∃ x H', Inv X pins σ H' s2 ∧ RelV x u ∧ J.yld i H x H' ∧ tn (i + 1) s2.heap ∧ ∀ b ∈ fp, H' b = none) E s1) E s
  done : ∀ (X : Cx), X.prog = P → X.w = w → X.K = K → X.calm = true → ∀ (i : Nat) (pins : List (Addr × Obj)) (s : Shared) (σ : St) (H : Hp) (E : Value → Shared → Prop), Inv X pins σ H s → (∀ b ∈ fp, FpOk X pins H b) → tn i s.heap → J.stop i H →
    wpAny (model P w) X.A (pyNext (.ref it)) (fun r s1 => r = none ∧ Inv X pins σ H s1) E s
  self : ∀ (A : Around) (i : Nat) (s : Shared) (Q : Value → Shared → Prop) (E : Value → Shared → Prop), tn i s.heap → Q (.ref it) s → wpAny (model P w) A (pyIter (.ref it)) Q E s
abbrev TI := St → Hp → (It → Hp → Prop) → Prop
/-- an iterator has come -/
def PIE (X : Cx) (pins : List (Addr × Obj)) (σ : St) (tg : Expr) (R : It → Hp → Prop) (itv : Value) (s2 : Shared) : Prop :=
  ∃ (it : Addr) (fp : List Addr) (tn : Nat → Heap → Prop) (J : It) (H' : Hp), itv = .ref it ∧ Inv X pins σ H' s2 ∧ Turn X.prog X.w X.K tg J fp it tn ∧ tn 0 s2.heap ∧ (∀ b ∈ fp, FpOk X pins H' b) ∧ R J H'
def PI (X : Cx) (tg iter : Expr) (wi : TI) : Prop :=
  ∀ (pins : List (Addr × Obj)) (s : Shared) (σ : St) (H : Hp) (R : It → Hp → Prop), Inv X pins σ H s → wi σ H R →
    wpAny (model X.prog X.w) X.A (eval iter X.env) (fun v s1 => wpAny (model X.prog X.w) X.A (pyIter v) (PIE X pins σ tg R) X.xe s1) X.xe s

/-- the step ahead of the store is nothing for an iterator that keeps no tuple -/
theorem go_of {M : Model} {A : Around} {E : Value → Shared → Prop} {s : Shared} {tg : Expr} {it : Addr} {u : Value} {o : Obj} {n : String} {vs : Array Value} {Q : Unit → Shared → Prop} (ho : s.heap.get? it = some o) (hc : o.cls = .type n) (hd : o.data = .fields vs)
    (hn : ["enumerate", "zip", "dict_itemiterator", "dict_reverseitemiterator", "odict_iterator", "itertools.zip_longest", "itertools.pairwise"].contains n = false) (hQ : Q () s) : wpAny M A (letOwnedTupleGo tg (.ref it) u) Q E s := by
  unfold letOwnedTupleGo
  cases tg <;> first
    | exact wpAny_pure hQ
    | (cases u <;> first
        | exact wpAny_pure hQ
        | (refine wpAny_bind (wpAny_load ho ?_)
           rw [hc, hd]
           show wpAny M A (if (["enumerate", "zip", "dict_itemiterator", "dict_reverseitemiterator", "odict_iterator", "itertools.zip_longest", "itertools.pairwise"].contains n && vs[0]? == some (rawInt _)) = true then _ else _) Q E s
           rw [if_neg (by intro h; rw [hn, Bool.false_and] at h; cases h)]
           exact wpAny_pure hQ))

/-- lo, lo + 1, .. (n of them) -/
def Itr (lo : Int) (n : Nat) : It := ⟨fun i _ => i < n, fun i H x H' => H' = H ∧ x = .int (lo + i), fun i _ => n ≤ i⟩
theorem turn_range {P : Program} {w : World} {K : PySem.W.Frag} {tg : Expr} (it : Addr) (lo : Int) (n : Nat) : Turn P w K tg (Itr lo n) [it] it (fun i h => IsRangeIter h it (lo + (i : Nat) * 1) ((n : Int) - (i : Nat)) 1) where
  mem := by simp
  obj := fun i h st b hb => by
    have e : b = it := by simpa using hb
    subst e
    exact ⟨_, st, fun v z => by
      have z' : Data.fields _ = Data.cell v := z
      cases z'⟩
  keep := fun i h h' st k => k it (by simp) _ st
  item := by
    intro X hP hw hK hc i pins s σ H E I hf st hg
    subst hP hw hK
    obtain ⟨f0, f1, f2, f3, f4, f5⟩ := hf it (by simp)
    have W := Walks.range (prog := X.prog) (w := X.w) (I.ok.hd hc) it lo 1 n
    refine W.item i s _ _ hg st fun v h' tk hv st' kk => ?_
    obtain ⟨t, rfl⟩ := hv
    have I1 : Inv X pins σ H { s with heap := h', toks := tk } := I.turned (fun b o hb e => kk b o (by simpa using hb) e) f0 f1 f3 f4 f5
    refine ⟨_, rfl, go_of (s := { s with heap := h', toks := tk }) (n := "range_iterator") st' rfl rfl (by decide) ⟨.int (lo + i), H, I1, ⟨t, ?_⟩, ⟨rfl, rfl⟩, st', fun b hb => (hf b hb).1⟩⟩
    rw [Int.mul_one]
  done := by
    intro X hP hw hK hc i pins s σ H E I hf st hg
    subst hP hw hK
    obtain ⟨f0, f1, f2, f3, f4, f5⟩ := hf it (by simp)
    exact wpAny_pyNext_range_end (I.ok.hd hc) st (by have : n ≤ i := hg; omega) fun h' eb => ⟨rfl, I.turned (t' := s.toks) (fun b o hb e => eb b o hb e) f0 f1 f3 f4 f5⟩
  self := fun _ _ _ _ _ st h => wpAny_pyIter_rangeiter st h
end L2

namespace L2
open PySem PySem.Spec PyProof.Rows
section
variable {X : Cx} {tg : Expr}
/-- a range object just made, walked -/
theorem range_it {pins : List (Addr × Obj)} {σ : St} {H : Hp} {s : Shared} {R : It → Hp → Prop} {E : Value → Shared → Prop} {lo hi : Int} {t u v : Tok} {tk : Nat} (I : Inv X pins σ H s) (h1 : -(2 ^ 62) ≤ lo) (h2 : lo < 2 ^ 62) (h3 : -(2 ^ 62) ≤ hi) (h4 : hi < 2 ^ 62)
    (q : R (Itr lo (hi - lo).toNat) H) : wpAny (model X.prog X.w) X.A (pyIter (.ref s.heap.objs.size)) (PIE X pins σ tg R) E { s with heap := s.heap.push { cls := .type "range", data := .fields #[.int lo t, .int hi u, .int 1 v] }, toks := tk } := by
  refine wpAny_pyIter_range (IsRange.new ..) (small_one h1 h2 h3 h4) ?_
  have I1 : Inv X pins σ H { s with heap := s.heap.push { cls := .type "range", data := .fields #[.int lo t, .int hi u, .int 1 v] }, toks := tk } := I.kept fun b o e => Heap.get?_push_of_some _ e
  refine ⟨(s.heap.push { cls := .type "range", data := .fields #[.int lo t, .int hi u, .int 1 v] }).objs.size, [(s.heap.push { cls := .type "range", data := .fields #[.int lo t, .int hi u, .int 1 v] }).objs.size], _, _, H, rfl,
    I1.kept (t' := tk) fun b o e => Heap.get?_push_of_some _ e, turn_range _ lo (hi - lo).toNat, ?_, fun b hb => ?_, q⟩
  · have e1 : lo + ((0 : Nat) : Int) * 1 = lo := by simp
    have e2 : (((hi - lo).toNat : Nat) : Int) - ((0 : Nat) : Int) = Builtin.Range.rangeSize lo hi 1 := by rw [rangeSize_one]; split <;> omega
    show IsRangeIter _ _ (lo + ((0 : Nat) : Int) * 1) ((((hi - lo).toNat : Nat) : Int) - ((0 : Nat) : Int)) 1
    rw [e1, e2]
    exact Heap.get?_push_size _ rfl
  · have e : b = (s.heap.push { cls := .type "range", data := .fields #[.int lo t, .int hi u, .int 1 v] }).objs.size := by simpa using hb
    subst e
    exact I1.fpOk (Nat.le_refl _) (I1.hok.fresh (Nat.le_refl _))
def iRng1 (ta : TA) : TI := fun σ H R => ta σ H fun vs H1 => ∃ j : Int, vs = [.int j] ∧ -(2 ^ 62) ≤ j ∧ j < 2 ^ 62 ∧ R (Itr 0 j.toNat) H1
theorem pi_range1 {a : Expr} {ta : TA} {p pos : Pos} (hg : Gl X "range") (hm : X.mg "range" = none) (ha : PA X [a] ta) (hs : starEach [a] X.env = [(false, eval a X.env)] := by rfl) : PI X tg (.Call (.Name "range" p) [a] [] pos) (iRng1 ta) := by
  intro pins s σ H R I h
  refine Call_ (ld_blt I hg hm boot_range (PyProof.Rows.callWith_type1 (thn (ha pos pins s σ H _ I h) fun us s1 ⟨vs, H1, I1, r1, q1⟩ => ?_) hs rfl))
  obtain ⟨j, e, q1, q2, q⟩ := q1
  subst e
  cases r1 with
  | cons r rr =>
    cases rr
    obtain ⟨t, rfl⟩ := r
    exact call_range_1 (range_it I1 (by omega) (by omega) q1 q2 (by simpa using q))
/-! ### for -/
/-- W: the invariant by the turn and a measure; N: what the body is to reach -/
def tFor (wi : TI) (g : TG) (tb : TS) : TS := fun D σ H => wi σ H fun J H1 => ∃ W : Nat → Nat → St → Hp → Prop, (∃ m, W 0 m σ H1) ∧ ∀ i m σ H, W i m σ H →
  (J.stop i H ∧ D.nx σ H) ∨ (J.go i H ∧ ∃ N : St → Hp → Prop, (∀ σ' H', N σ' H' → ∃ m', m' < m ∧ W (i + 1) m' σ' H') ∧ ∀ x H', J.yld i H x H' → g x σ H' fun σ2 H2 => tb { D with nx := N, ct := N, bk := D.nx } σ2 H2)
/-- the records at fp as they stand -/
def pinsAt (fp : List Addr) (h : Heap) : List (Addr × Obj) := fp.filterMap fun b => (h.get? b).map fun o => (b, o)
theorem mem_pinsAt {fp : List Addr} {h : Heap} {b : Addr} {o : Obj} (hb : b ∈ fp) (e : h.get? b = some o) : (b, o) ∈ pinsAt fp h := List.mem_filterMap.mpr ⟨b, hb, by rw [e]; rfl⟩
theorem of_pinsAt {fp : List Addr} {h : Heap} {p : Addr × Obj} (hp : p ∈ pinsAt fp h) : p.1 ∈ fp ∧ h.get? p.1 = some p.2 := by
  obtain ⟨b, hb, e⟩ := List.mem_filterMap.mp hp
  cases q : h.get? b with
  | none => rw [q] at e; cases e
  | some o =>
    rw [q] at e
    have e' : (b, o) = p := Option.some.inj e
    subst e'
    exact ⟨hb, q⟩
theorem Inv.pinned {pins : List (Addr × Obj)} {σ : St} {H : Hp} {s : Shared} {fp : List Addr} (I : Inv X pins σ H s) (hf : ∀ b ∈ fp, FpOk X pins H b) (ho : ∀ b ∈ fp, ∃ o, s.heap.get? b = some o ∧ ∀ v, o.data ≠ .cell v) : Inv X (pins ++ pinsAt fp s.heap) σ H s :=
  I.pins_of fun p hp => (List.mem_append.mp hp).elim (fun z => I.pin p (List.mem_append_right _ z)) fun z => by
    obtain ⟨hb, e⟩ := of_pinsAt z
    obtain ⟨f0, f1, f2, _⟩ := hf p.1 hb
    obtain ⟨o, e', d⟩ := ho p.1 hb
    rw [e] at e'; cases e'
    exact ⟨e, f0, f1, f2, d⟩
theorem Inv.unpinned {pins pl : List (Addr × Obj)} {σ : St} {H : Hp} {s : Shared} (I : Inv X (pins ++ pl) σ H s) : Inv X pins σ H s := I.pins_of fun p hp => I.pin p (List.mem_append_right _ (List.mem_append_left _ hp))
theorem ps_for {iter : Expr} {body : List Stmt} {wi : TI} {g : TG} {tb : TS} {pos : Pos} (hp : PassesOwn (model X.prog X.w) X.A X.env X.xe) (hc : X.calm = true) (hi : PI X tg iter wi) (hg : PG X tg g) (hb : PSs X body tb)
    (hs : ∀ x, foldedSetIterable iter X.env x = pure x := by intro _; rfl) : PS X (.For tg iter body [] pos) (tFor wi g tb) := by
  intro pins s σ H D I h
  refine wpAny_For (thn (hi pins s σ H _ I h) fun v s1 h1 => thn h1 fun itv s2 h2 => ?_) hs
  obtain ⟨it, fp, tn, J, H2, e, I2, T, st2, f2, W, ⟨m0, w0⟩, turn⟩ := h2
  subst e
  -- what stays true of the iterator's objects through the loop
  have stat : ∀ {H' : Hp}, (∀ b ∈ fp, H' b = none) → ∀ b ∈ fp, FpOk X pins H' b := fun hn b hb => ⟨hn b hb, (f2 b hb).2⟩
  refine codeAny_forLoop_any (fun n s' => ∃ i σ' H', Inv X pins σ' H' s' ∧ tn i s'.heap ∧ (∀ b ∈ fp, H' b = none) ∧ W i n σ' H') ?_ m0 ⟨0, σ, H2, I2, st2, fun b hb => (f2 b hb).1, w0⟩
  rintro n s3 ⟨i, σ3, H3, I3, st3, fr3, w3⟩
  rcases turn i n σ3 H3 w3 with ⟨stop, qn⟩ | ⟨go, N, hN, step⟩
  · refine wpAny_passesOwn hp (thn (T.done X rfl rfl rfl hc i pins s3 σ3 H3 X.xe I3 (stat fr3) st3 stop) fun r s4 ⟨hr, I4⟩ => ?_)
    subst hr
    exact wpAny_execs_nil ⟨σ3, H3, I4, qn⟩
  · refine wpAny_passesOwn hp (thn (T.item X rfl rfl rfl hc i pins s3 σ3 H3 X.xe I3 (stat fr3) st3 go) fun r s4 ⟨u, hr, h4⟩ => ?_)
    subst hr
    refine wpAny_passesOwn hp (thn h4 fun _ s5 ⟨x, H5, I5, r5, y5, st5, fr5⟩ => ?_)
    have I5' := I5.pinned (stat fr5) (T.obj _ _ st5)
    refine wpAny_passesOwn hp (thn (hg _ s5 σ3 H5 x u _ I5' r5 (step x H5 y5)) fun _ s6 ⟨σ6, H6, I6, q6⟩ => ?_)
    refine wpAny_passesOwn hp (thn (hb _ s6 σ6 H6 _ I6 q6) fun f s7 q7 => ?_)
    have again : ∀ {σ7 : St} {H7 : Hp}, Inv X (pins ++ pinsAt fp s5.heap) σ7 H7 s7 → N σ7 H7 → ∃ m, m < n ∧ ∃ i σ' H', Inv X pins σ' H' s7 ∧ tn i s7.heap ∧ (∀ b ∈ fp, H' b = none) ∧ W i m σ' H' := fun {σ7 H7} I7 n7 => by
      obtain ⟨m', hm, w7⟩ := hN σ7 H7 n7
      refine ⟨m', hm, i + 1, σ7, H7, I7.unpinned, T.keep _ _ _ st5 fun b hb o e => (I7.pin (b, o) (List.mem_append_right _ (List.mem_append_right _ (mem_pinsAt hb e)))).1, fun b hb => ?_, w7⟩
      obtain ⟨o, e, d⟩ := T.obj _ _ st5 b hb
      exact (I7.pin (b, o) (List.mem_append_right _ (List.mem_append_right _ (mem_pinsAt hb e)))).2.1
    cases f with
    | next => obtain ⟨σ7, H7, I7, n7⟩ := q7; exact again I7 n7
    | cont => obtain ⟨σ7, H7, I7, n7⟩ := q7; exact again I7 n7
    | brk => obtain ⟨σ7, H7, I7, q7⟩ := q7; exact ⟨σ7, H7, I7.unpinned, q7⟩
    | ret v => obtain ⟨x7, σ7, H7, I7, r7, q7⟩ := q7; exact ⟨x7, σ7, H7, I7.unpinned, r7, q7⟩
end

/-! ### the forms one uses -/
theorem for_range {lo : Int} {n : Nat} {g : TG} {tb : TS} {D : Ends} {σ : St} {H : Hp} (Pv : Nat → St → Hp → Prop) (h0 : Pv 0 σ H)
    (hs : ∀ i σ H, i < n → Pv i σ H → g (.int (lo + i)) σ H fun σ2 H2 => tb { D with nx := Pv (i + 1), ct := Pv (i + 1), bk := D.nx } σ2 H2) (hd : ∀ σ H, Pv n σ H → D.nx σ H) :
    ∃ W : Nat → Nat → St → Hp → Prop, (∃ m, W 0 m σ H) ∧ ∀ i m σ H, W i m σ H →
      ((Itr lo n).stop i H ∧ D.nx σ H) ∨ ((Itr lo n).go i H ∧ ∃ N : St → Hp → Prop, (∀ σ' H', N σ' H' → ∃ m', m' < m ∧ W (i + 1) m' σ' H') ∧ ∀ x H', (Itr lo n).yld i H x H' → g x σ H' fun σ2 H2 => tb { D with nx := N, ct := N, bk := D.nx } σ2 H2) := by
  refine ⟨fun i m σ H => m = n - i ∧ i ≤ n ∧ Pv i σ H, ⟨n, by simp, Nat.zero_le _, h0⟩, ?_⟩
  rintro i m σ H ⟨rfl, hi, p⟩
  by_cases hlt : i < n
  · refine .inr ⟨hlt, Pv (i + 1), fun σ' H' p' => ⟨n - (i + 1), by omega, rfl, hlt, p'⟩, fun x H' y => ?_⟩
    obtain ⟨e, y⟩ := y
    subst e y
    exact hs i σ _ hlt p
  · have e : i = n := by omega
    subst e
    exact .inl ⟨Nat.le_refl _, hd σ H p⟩
end L2

namespace L2
open PySem PySem.Spec PyProof.Rows

abbrev R2 := V → V → Hp → VK → Prop
/-- a two-place operation on values: f is binaryOp op, inplaceOp op or compareOp op -/
def OpR (X : Cx) (f : Value → Value → Sem Value) (r : R2) : Prop :=
  ∀ (pins : List (Addr × Obj)) (s : Shared) (σ : St) (H : Hp) (x y : V) (v u : Value) (Q : VK), Inv X pins σ H s → RelV x v → RelV y u → r x y H Q →
    wpAny (model X.prog X.w) X.A (f v u) (EP X pins σ Q) X.xe s
/-- a call of a value that is known (a builtin, a type) with values -/
def CallR (X : Cx) (f : Value) (r : List V → Hp → VK → Prop) : Prop :=
  ∀ (pins : List (Addr × Obj)) (s : Shared) (σ : St) (H : Hp) (xs : List V) (us : List Value) (Q : VK), Inv X pins σ H s → Vals xs us → r xs H Q →
    wpAny (model X.prog X.w) X.A (call f us) (EP X pins σ Q) X.xe s
/-- a value's truth -/
def TruR (X : Cx) (r : V → Hp → (Bool → Hp → Prop) → Prop) : Prop :=
  ∀ (pins : List (Addr × Obj)) (s : Shared) (σ : St) (H : Hp) (x : V) (v : Value) (Q : Bool → Hp → Prop), Inv X pins σ H s → RelV x v → r x H Q →
    wpAny (model X.prog X.w) X.A (truthy v) (TP X pins σ Q) X.xe s

def tOp (r : R2) (ta tb : TE) : TE := fun σ H Q => ta σ H fun x H1 => tb σ H1 fun y H2 => r x y H2 Q
/-- ints in, under C, and a value out -/
def rI (C : Int → Int → Prop) (g : Int → Int → V) : R2 := fun x y H Q => ∃ i j, x = .int i ∧ y = .int j ∧ C i j ∧ Q (g i j) H
def rI0 (g : Int → Int → V) : R2 := fun x y H Q => ∃ i j, x = .int i ∧ y = .int j ∧ Q (g i j) H
section
variable {X : Cx} {a b c : Expr} {ta tb tc : TE} {pos : Pos}

theorem binT (ha : PE X a ta) (hb : PE X b tb) {pins : List (Addr × Obj)} {s : Shared} {σ : St} {H : Hp} {R : V → V → Hp → Prop} (I : Inv X pins σ H s)
    (h : ta σ H fun x H1 => tb σ H1 fun y H2 => R x y H2) {Q : Value → Shared → Prop} {f : Value → Value → Sem Value}
    (hf : ∀ v u s2 x y H2, Inv X pins σ H2 s2 → RelV x v → RelV y u → R x y H2 → wpAny (model X.prog X.w) X.A (f v u) Q X.xe s2) :
    wpAny (model X.prog X.w) X.A (eval a X.env) (fun v s₁ => wpAny (model X.prog X.w) X.A (eval b X.env) (fun u s₂ => wpAny (model X.prog X.w) X.A (f v u) Q X.xe s₂) X.xe s₁) X.xe s := by
  refine thn (ha pins s σ H _ I h) fun v s1 ⟨x, H1, I1, r1, q1⟩ => ?_
  refine thn (hb pins s1 σ H1 _ I1 q1) fun u s2 ⟨y, H2, I2, r2, q2⟩ => ?_
  exact hf v u s2 x y H2 I2 r1 r2 q2

theorem pe_op {op : Operator} {r : R2} (ho : OpR X (binaryOp op) r) (ha : PE X a ta) (hb : PE X b tb) : PE X (.BinOp a op b pos) (tOp r ta tb) := by
  intro pins s σ H Q I h
  exact wpAny_BinOp (binT ha hb I h fun v u s2 x y H2 I2 rx ry q => ho pins s2 σ H2 x y v u Q I2 rx ry q)
/-! ### ints -/
theorem opI {f : Value → Value → Sem Value} {C : Int → Int → Prop} {g : Int → Int → Int}
    (rule : ∀ (i j : Int) (t u : Tok) (s : Shared) (Q : Value → Shared → Prop) (E : Value → Shared → Prop), C i j → Q (.int (g i j) s.toks) { s with toks := s.toks + 1 } → wpAny (model X.prog X.w) X.A (f (.int i t) (.int j u)) Q E s) :
    OpR X f (rI C fun i j => .int (g i j)) := by
  intro pins s σ H x y v u Q I rx ry h
  obtain ⟨i, j, rfl, rfl, hc, q⟩ := h
  obtain ⟨t, rfl⟩ := rx
  obtain ⟨t', rfl⟩ := ry
  exact rule i j t t' s _ _ hc ⟨.int (g i j), H, I.tok _, ⟨_, rfl⟩, q⟩
theorem opI0 {f : Value → Value → Sem Value} {g : Int → Int → Int}
    (rule : ∀ (i j : Int) (t u : Tok) (s : Shared) (Q : Value → Shared → Prop) (E : Value → Shared → Prop), Q (.int (g i j) s.toks) { s with toks := s.toks + 1 } → wpAny (model X.prog X.w) X.A (f (.int i t) (.int j u)) Q E s) :
    OpR X f (rI0 fun i j => .int (g i j)) := by
  intro pins s σ H x y v u Q I rx ry h
  obtain ⟨i, j, rfl, rfl, q⟩ := h
  obtain ⟨t, rfl⟩ := rx
  obtain ⟨t', rfl⟩ := ry
  exact rule i j t t' s _ _ ⟨.int (g i j), H, I.tok _, ⟨_, rfl⟩, q⟩
theorem opB0 {f : Value → Value → Sem Value} {g : Int → Int → Bool}
    (rule : ∀ (i j : Int) (t u : Tok) (s : Shared) (Q : Value → Shared → Prop) (E : Value → Shared → Prop), Q (.bool (g i j)) s → wpAny (model X.prog X.w) X.A (f (.int i t) (.int j u)) Q E s) :
    OpR X f (rI0 fun i j => .bl (g i j)) := by
  intro pins s σ H x y v u Q I rx ry h
  obtain ⟨i, j, rfl, rfl, q⟩ := h
  obtain ⟨t, rfl⟩ := rx
  obtain ⟨t', rfl⟩ := ry
  exact rule i j t t' s _ _ ⟨.bl (g i j), H, I, rfl, q⟩

def CDiv (i j : Int) : Prop := 0 < j ∧ j < 1073741824
def CPow (i j : Int) : Prop := 0 ≤ j ∧ j ≤ 1000000 ∧ i.natAbs < 2 ^ 64
def CMul (i j : Int) : Prop := (-(2 ^ 64) < i ∧ i < 2 ^ 64) ∨ (-(2 ^ 64) < j ∧ j < 2 ^ 64)
theorem CMul.ok {i j : Int} (h : CMul i j) : IntMulOk i j := by
  rcases h with ⟨h1, h2⟩ | ⟨h1, h2⟩
  · exact .of_left (intBits_le_64 h1 h2)
  · exact .of_right (intBits_le_64 h1 h2)
theorem op_add : OpR X (binaryOp .Add) (rI0 fun i j => .int (i + j)) := opI0 fun _ _ _ _ _ _ _ q => add_int q
theorem op_sub : OpR X (binaryOp .Sub) (rI0 fun i j => .int (i - j)) := opI0 fun _ _ _ _ _ _ _ q => sub_int q
theorem op_mul : OpR X (binaryOp .Mult) (rI CMul fun i j => .int (i * j)) := opI fun _ _ _ _ _ _ _ hc q => mul_int q hc.ok
/-- // by a positive divisor -/
theorem op_fdiv : OpR X (binaryOp .FloorDiv) (rI CDiv fun i j => .int (i / j)) := opI fun i j _ _ _ _ _ hc q => by
  have h1 : (0 : Int) < j := hc.1
  have h2 : j < 1073741824 := hc.2
  exact floordiv_int (by omega) (by rw [Int.fdiv_eq_ediv_of_nonneg i (by omega)]; exact q) (.inl (PyProof.noPylong_small (by omega)))
/-- % by a positive divisor of any size -/
theorem op_mod : OpR X (binaryOp .Mod) (rI (fun _ j => 0 < j) fun i j => .int (i % j)) := opI fun i j _ _ _ _ _ hc q => by
  have h1 : (0 : Int) < j := hc
  exact mod_int' (by omega) (by rw [Int.fmod_eq_emod_of_nonneg i (by omega)]; exact q)
theorem op_pow : OpR X (binaryOp .Pow) (rI CPow fun i j => .int (i ^ j.toNat)) := opI fun _ _ _ _ _ _ _ hc q => pow_int_small hc.1 hc.2.1 hc.2.2 q
/-! ### bools among ints: n += (a < b) -/
end

/-! ### comparisons -/
/-- the scalars that == tells apart as data does -/
def scal : V → V → Bool
  | .non, .non => true | .non, .int _ => true | .int _, .non => true | .non, .bl _ => true | .bl _, .non => true | .non, .str _ => true | .str _, .non => true
  | .int _, .int _ => true | .bl _, .bl _ => true | .str _, .str _ => true | .byt _, .byt _ => true
  | .int _, .str _ => true | .str _, .int _ => true | .bl _, .str _ => true | .str _, .bl _ => true
  | _, _ => false
def rEq : R2 := fun x y H Q => scal x y = true ∧ Q (.bl (decide (x = y))) H
def rNe : R2 := fun x y H Q => scal x y = true ∧ Q (.bl (!decide (x = y))) H

theorem dec_int {i j : Int} : decide (V.int i = V.int j) = (i == j) := by
  rw [Bool.eq_iff_iff]
  simp
theorem dec_bl {i j : Bool} : decide (V.bl i = V.bl j) = (i == j) := by
  rw [Bool.eq_iff_iff]
  simp
theorem dec_str {i j : Str} : decide (V.str i = V.str j) = (i == j) := by
  rw [Bool.eq_iff_iff]
  simp
theorem dec_byt {i j : Array UInt8} : decide (V.byt i = V.byt j) = (i.toList == j.toList) := by
  rw [Bool.eq_iff_iff]
  cases i
  cases j
  simp

section
variable {X : Cx} {a b c : Expr} {ta tb tc : TE} {pos : Pos}
theorem fin_bl {pins : List (Addr × Obj)} {σ : St} {H : Hp} {s : Shared} {Q : VK} {k k' : Bool} (I : Inv X pins σ H s) (q : Q (.bl k) H) (e : k = k') : EP X pins σ Q (.bool k') s := by
  subst e
  exact ⟨.bl k, H, I, rfl, q⟩
theorem op_eq : OpR X (compareOp .Eq) rEq := by
  intro pins s σ H x y v u Q I rx ry h
  obtain ⟨hs, q⟩ := h
  cases x with
  | non =>
    cases rx
    cases y with
    | non => cases ry; exact PySem.EqNone.eq_none_none (fin_bl I q (by simp))
    | bl j => cases ry; exact PySem.EqNone.eq_none_bool (fin_bl I q (by simp))
    | int j => obtain ⟨t', rfl⟩ := ry; exact PySem.EqNone.eq_none_int (fin_bl I q (by simp))
    | str j => obtain ⟨t', rfl⟩ := ry; exact PySem.EqNone.eq_none_str (fin_bl I q (by simp))
    | _ => exact absurd (show false = true from hs) Bool.false_ne_true
  | bl i =>
    cases rx
    cases y with
    | non => cases ry; exact PySem.EqNone.eq_bool_none (fin_bl I q (by simp))
    | bl j => cases ry; exact eq_bool (fin_bl I q dec_bl)
    | str j => obtain ⟨t', rfl⟩ := ry; exact PySem.EqMixed.eq_bool_str (fin_bl I q (by simp))
    | _ => exact absurd (show false = true from hs) Bool.false_ne_true
  | int i =>
    obtain ⟨t, rfl⟩ := rx
    cases y with
    | non => cases ry; exact PySem.EqNone.eq_int_none (fin_bl I q (by simp))
    | int j => obtain ⟨t', rfl⟩ := ry; exact eq_int (fin_bl I q dec_int)
    | str j => obtain ⟨t', rfl⟩ := ry; exact PySem.EqMixed.eq_int_str (fin_bl I q (by simp))
    | _ => exact absurd (show false = true from hs) Bool.false_ne_true
  | str i =>
    obtain ⟨t, rfl⟩ := rx
    cases y with
    | non => cases ry; exact PySem.EqNone.eq_str_none (fin_bl I q (by simp))
    | bl j => cases ry; exact PySem.EqMixed.eq_str_bool (fin_bl I q (by simp))
    | int j => obtain ⟨t', rfl⟩ := ry; exact PySem.EqMixed.eq_str_int (fin_bl I q (by simp))
    | str j => obtain ⟨t', rfl⟩ := ry; exact eq_str (fin_bl I q dec_str)
    | _ => exact absurd (show false = true from hs) Bool.false_ne_true
  | byt i =>
    obtain ⟨t, rfl⟩ := rx
    cases y with
    | byt j => obtain ⟨t', rfl⟩ := ry; exact PySem.W.eq_bytes (fin_bl I q dec_byt)
    | _ => exact absurd (show false = true from hs) Bool.false_ne_true
  | _ => cases y <;> exact absurd (show false = true from hs) Bool.false_ne_true
theorem op_ne : OpR X (compareOp .NotEq) rNe := by
  intro pins s σ H x y v u Q I rx ry h
  obtain ⟨hs, q⟩ := h
  cases x with
  | non =>
    cases rx
    cases y with
    | non => cases ry; exact PySem.EqNone.ne_none_none (fin_bl I q (by simp))
    | bl j => cases ry; exact PySem.EqNone.ne_none_bool (fin_bl I q (by simp))
    | int j => obtain ⟨t', rfl⟩ := ry; exact PySem.EqNone.ne_none_int (fin_bl I q (by simp))
    | str j => obtain ⟨t', rfl⟩ := ry; exact PySem.EqNone.ne_none_str (fin_bl I q (by simp))
    | _ => exact absurd (show false = true from hs) Bool.false_ne_true
  | bl i =>
    cases rx
    cases y with
    | non => cases ry; exact PySem.EqNone.ne_bool_none (fin_bl I q (by simp))
    | bl j => cases ry; exact ne_bool (fin_bl I q (congrArg not dec_bl))
    | str j => obtain ⟨t', rfl⟩ := ry; exact PySem.EqMixed.ne_bool_str (fin_bl I q (by simp))
    | _ => exact absurd (show false = true from hs) Bool.false_ne_true
  | int i =>
    obtain ⟨t, rfl⟩ := rx
    cases y with
    | non => cases ry; exact PySem.EqNone.ne_int_none (fin_bl I q (by simp))
    | int j => obtain ⟨t', rfl⟩ := ry; exact ne_int (fin_bl I q (congrArg not dec_int))
    | str j => obtain ⟨t', rfl⟩ := ry; exact PySem.EqMixed.ne_int_str (fin_bl I q (by simp))
    | _ => exact absurd (show false = true from hs) Bool.false_ne_true
  | str i =>
    obtain ⟨t, rfl⟩ := rx
    cases y with
    | non => cases ry; exact PySem.EqNone.ne_str_none (fin_bl I q (by simp))
    | bl j => cases ry; exact PySem.EqMixed.ne_str_bool (fin_bl I q (by simp))
    | int j => obtain ⟨t', rfl⟩ := ry; exact PySem.EqMixed.ne_str_int (fin_bl I q (by simp))
    | str j => obtain ⟨t', rfl⟩ := ry; exact ne_str (fin_bl I q (congrArg not dec_str))
    | _ => exact absurd (show false = true from hs) Bool.false_ne_true
  | byt i =>
    obtain ⟨t, rfl⟩ := rx
    cases y with
    | byt j => obtain ⟨t', rfl⟩ := ry; exact PySem.W.ne_bytes (fin_bl I q (congrArg not dec_byt))
    | _ => exact absurd (show false = true from hs) Bool.false_ne_true
  | _ => cases y <;> exact absurd (show false = true from hs) Bool.false_ne_true

theorem op_lt : OpR X (compareOp .Lt) (rI0 fun i j => .bl (decide (i < j))) := opB0 fun _ _ _ _ _ _ _ q => lt_int q
theorem op_le : OpR X (compareOp .LtE) (rI0 fun i j => .bl (decide (i ≤ j))) := opB0 fun _ _ _ _ _ _ _ q => le_int q
theorem op_gt : OpR X (compareOp .Gt) (rI0 fun i j => .bl (decide (j < i))) := opB0 fun _ _ _ _ _ _ _ q => gt_int q
/-- the one string within the other -/
theorem op_in_str : OpR X (compareOp .In) (fun x y H Q => ∃ i j, x = .str i ∧ y = .str j ∧ Q (.bl (!(Builtin.Str.occurrences j i 0 j.length 1).isEmpty)) H) := by
  intro pins s σ H x y v u Q I rx ry h
  obtain ⟨i, j, rfl, rfl, q⟩ := h
  obtain ⟨t, rfl⟩ := rx
  obtain ⟨t', rfl⟩ := ry
  exact in_str (fin_bl I q rfl)

theorem nomark (b : Expr) {op : CmpOp} (h : op ≠ .In := by decide) (h2 : op ≠ .NotIn := by decide) : behindInMarks op b = false := by
  have e1 : (op == CmpOp.In) = false := by cases op <;> first | rfl | exact absurd rfl h
  have e2 : (op == CmpOp.NotIn) = false := by cases op <;> first | rfl | exact absurd rfl h2
  cases b <;> simp [behindInMarks, e1, e2]
/-- a comparison as a value; hm: nomark b, or (for in, not in) by with_unfolding_all rfl -/
theorem pe_cmpR {op : CmpOp} {r : R2} (ho : OpR X (compareOp op) r) (ha : PE X a ta) (hb : PE X b tb) (hm : behindInMarks op b = false) : PE X (.Compare a [op] [b] pos) (tOp r ta tb) := by
  intro pins s σ H Q I h
  exact wpAny_Compare1 (binT ha hb I h fun v u s2 x y H2 I2 rx ry q => ho pins s2 σ H2 x y v u Q I2 rx ry q) hm
/-- a reading of a value as a test -/
def tTest (t : TE) : TT := fun σ H Q => t σ H fun x H' => ∃ k, x = .bl k ∧ Q k H'
theorem pt_cmpR {op : CmpOp} {r : R2} (ho : OpR X (compareOp op) r) (ha : PE X a ta) (hb : PE X b tb) (hm : behindInMarks op b = false) : PT X (.Compare a [op] [b] pos) (tTest (tOp r ta tb)) := by
  intro pins s σ H Q I h
  refine wpAny_isTrue_Compare1 (thn (ha pins s σ H _ I h) fun v s1 ⟨x, H1, I1, r1, q1⟩ => thn (hb pins s1 σ H1 _ I1 q1) fun u s2 ⟨y, H2, I2, r2, q2⟩ =>
    thn (ho pins s2 σ H2 x y v u _ I2 r1 r2 q2) fun c s3 ⟨z, H3, I3, r3, k, e, q3⟩ => ?_) hm
  subst e
  cases r3
  exact wpAny_truthy_bool ⟨H3, I3, q3⟩
/-- a op1 b op2 c -/
def tChain (r r' : R2) (ta tb tc : TE) : TE := fun σ H Q => ta σ H fun x H1 => tb σ H1 fun y H2 => r x y H2 fun z H3 => ∃ k, z = .bl k ∧
  (if k = true then tc σ H3 fun w' H4 => r' y w' H4 Q else Q (.bl false) H3)
theorem pt_chain {op op' : CmpOp} {r r' : R2} (ho : OpR X (compareOp op) r) (ho' : OpR X (compareOp op') r') (ha : PE X a ta) (hb : PE X b tb) (hc : PE X c tc)
    (hm : lastMarks [op, op'] [b, c] = false := by with_unfolding_all rfl) : PT X (.Compare a [op, op'] [b, c] pos) (tTest (tChain r r' ta tb tc)) := by
  intro pins s σ H Q I h
  refine isTrue_chain (thn (ha pins s σ H _ I h) fun v s1 ⟨x, H1, I1, r1, q1⟩ => test_link (thn (hb pins s1 σ H1 _ I1 q1) fun u s2 ⟨y, H2, I2, r2, q2⟩ =>
    thn (ho pins s2 σ H2 x y v u _ I2 r1 r2 q2) fun d s3 ⟨z, H3, I3, r3, k, e, q3⟩ => ?_)) hm
  subst e
  cases r3
  refine wpAny_truthy_bool ?_
  cases k with
  | false =>
    obtain ⟨k', e', q'⟩ := q3
    cases e'
    exact ite_ff ⟨H3, I3, q'⟩
  | true =>
    refine ite_tt (test_last (thn (hc pins s3 σ H3 _ I3 q3) fun w' s4 ⟨z', H4, I4, r4, q4⟩ => thn (ho' pins s4 σ H4 y z' u w' _ I4 r2 r4 q4) fun d' s5 ⟨z2, H5, I5, r5, k2, e2, q5⟩ => ?_))
    subst e2
    cases r5
    exact wpAny_truthy_bool ⟨H5, I5, q5⟩

/-! ### truth -/
/-- a value's truth by the abstract heap -/
def TruV (K : PySem.W.Frag) (x : V) (H : Hp) (k : Bool) : Prop :=
  match x with
  | .non => k = false
  | .bl b => k = b
  | .int i => k = (i != 0)
  | .str y => y.length ≤ sizeLine ∧ k = ((y.length : Int) != 0)
  | .byt y => y.size ≤ sizeLine ∧ k = ((y.size : Int) != 0)
  | .ref p => (∃ xs, SqL K H p xs ∧ k = !xs.isEmpty) ∨ (∃ xs, SqT K H p xs ∧ k = !xs.isEmpty) ∨ ∃ kvs, H p = some (.dK kvs) ∧ k = !kvs.isEmpty
  | _ => False
theorem isEmpty_kv {κ : Type} {kvs : List (κ × V)} {vs : List (κ × Value)} (r : KV kvs vs) : (!vs.isEmpty) = !kvs.isEmpty := by
  cases r <;> rfl
theorem isEmpty_of {xs : List V} {its : List Value} (r : Vals xs its) : (!its.toArray.isEmpty) = !xs.isEmpty := by
  cases r <;> simp
theorem line63 : (sizeLine : Nat) < 2 ^ 63 := by rw [sizeLine_eq]; decide
theorem tru_ok : TruR X (fun x H Q => ∃ k, TruV X.K x H k ∧ Q k H) := by
  intro pins s σ H x v Q I rx h
  obtain ⟨k, e, q⟩ := h
  have hl := line63
  have hs : sizeLine = 16777216 := sizeLine_eq
  cases x with
  | non =>
    cases rx
    have e' : k = false := e
    subst e'
    exact truthy_none ⟨H, I, q⟩
  | bl b =>
    cases rx
    have e' : k = b := e
    subst e'
    exact wpAny_truthy_bool ⟨H, I, q⟩
  | int i =>
    obtain ⟨t, rfl⟩ := rx
    have e' : k = (i != 0) := e
    subst e'
    exact PySem.P.truthy_int ⟨H, I, q⟩
  | str y =>
    obtain ⟨t, rfl⟩ := rx
    obtain ⟨hy, e'⟩ : y.length ≤ sizeLine ∧ k = ((y.length : Int) != 0) := e
    subst e'
    exact PySem.P.truthy_str (by omega) ⟨H, I.tok _, q⟩
  | byt y =>
    obtain ⟨t, rfl⟩ := rx
    obtain ⟨hy, e'⟩ : y.size ≤ sizeLine ∧ k = ((y.size : Int) != 0) := e
    subst e'
    exact PySem.W.truthy_bytes (by omega) ⟨H, I.tok _, q⟩
  | ref p =>
    cases rx
    have e' : (∃ xs, SqL X.K H p xs ∧ k = !xs.isEmpty) ∨ (∃ xs, SqT X.K H p xs ∧ k = !xs.isEmpty) ∨ ∃ kvs, H p = some (.dK kvs) ∧ k = !kvs.isEmpty := e
    rcases e' with ⟨xs, hx, e'⟩ | ⟨xs, hx, e'⟩ | ⟨kvs, hx, e'⟩
    · subst e'
      obtain ⟨its, r, pl, hz⟩ := I.list hx
      have hlen := r.length
      exact wpAny_truthy_list pl.isList (by simp only [List.size_toArray]; omega) ⟨H, I.tok _, by rw [isEmpty_of r]; exact q⟩
    · subst e'
      obtain ⟨its, r, pl, hz⟩ := I.tuple hx
      have hlen := r.length
      exact truthy_tuple pl (by simp only [List.size_toArray]; omega) ⟨H, I.tok _, by rw [isEmpty_of r]; exact q⟩
    · subst e'
      obtain ⟨hz, hS, vs, r, m⟩ : kvs.length ≤ sizeLine ∧ (p == sysModules) = false ∧ ∃ vs, KV kvs vs ∧ s.heap.DictOf (mixKind X.prog X.w) p vs := I.hok p _ hx
      have hlen : kvs.length = vs.length := Paired.length r
      exact wpAny_truthy_dict hS m (by omega) ⟨H, I.tok _, by rw [isEmpty_kv r]; exact q⟩
  | _ => exact (show False from e).elim
/-! ### strs and bytes -/
theorem op_add_str : OpR X (binaryOp .Add) (fun x y H Q => ∃ i j, x = .str i ∧ y = .str j ∧ i.length + j.length ≤ sizeLine ∧ Q (.str (i ++ j)) H) := by
  intro pins s σ H x y v u Q I rx ry h
  obtain ⟨i, j, rfl, rfl, hz, q⟩ := h
  obtain ⟨t, rfl⟩ := rx
  obtain ⟨t', rfl⟩ := ry
  exact add_str (fun t' tk => ⟨.str (i ++ j), H, I.tok _, ⟨_, rfl⟩, q⟩) hz
/-! ### scalar builtins, by CallR -/
theorem vals1 {x : V} {us : List Value} (r : Vals [x] us) : ∃ u, us = [u] ∧ RelV x u := by
  cases r with
  | cons r1 r2 => cases r2; exact ⟨_, rfl, r1⟩
theorem call_abs : CallR X (.builtin "abs") (fun xs H Q => ∃ i, xs = [.int i] ∧ Q (.int (if i < 0 then -i else i)) H) := by
  intro pins s σ H xs us Q I r h
  obtain ⟨i, rfl, q⟩ := h
  obtain ⟨u, rfl, t, rfl⟩ := vals1 r
  exact call_abs_int fun u tk => ⟨.int (if i < 0 then -i else i), H, I.tok _, ⟨_, rfl⟩, q⟩
theorem call_str_int : CallR X (.type "str") (fun xs H Q => ∃ i, xs = [.int i] ∧ i.natAbs.log2 < 1920 ∧ Q (.str (toString i)) H) := by
  intro pins s σ H xs us Q I r h
  obtain ⟨i, rfl, hz, q⟩ := h
  obtain ⟨u, rfl, t, rfl⟩ := vals1 r
  exact PySem.P.str_of_int hz ⟨.str _, H, I.tok _, ⟨_, rfl⟩, q⟩
/-- len of a str, a bytes, a list, a tuple -/
def LenV (K : PySem.W.Frag) (x : V) (H : Hp) (n : Nat) : Prop :=
  match x with
  | .str y => y.length ≤ sizeLine ∧ n = y.length
  | .byt y => y.size ≤ sizeLine ∧ n = y.size
  | .ref p => (∃ xs, SqL K H p xs ∧ n = xs.length) ∨ ∃ xs, SqT K H p xs ∧ n = xs.length
  | _ => False
theorem call_len : CallR X (.builtin "len") (fun xs H Q => ∃ x n, xs = [x] ∧ LenV X.K x H n ∧ Q (.int n) H) := by
  intro pins s σ H xs us Q I r h
  obtain ⟨x, n, rfl, e, q⟩ := h
  obtain ⟨u, rfl, rx⟩ := vals1 r
  have hl := line63
  have hs : sizeLine = 16777216 := sizeLine_eq
  cases x with
  | str y =>
    obtain ⟨t, rfl⟩ := rx
    obtain ⟨hy, e'⟩ : y.length ≤ sizeLine ∧ n = y.length := e
    subst e'
    exact len_str (by omega) ⟨.int _, H, I.tok _, ⟨_, rfl⟩, q⟩
  | byt y =>
    obtain ⟨t, rfl⟩ := rx
    obtain ⟨hy, e'⟩ : y.size ≤ sizeLine ∧ n = y.size := e
    subst e'
    exact PySem.W.len_bytes (by omega) ⟨.int _, H, I.tok _, ⟨_, rfl⟩, q⟩
  | ref p =>
    cases rx
    have e' : (∃ xs, SqL X.K H p xs ∧ n = xs.length) ∨ ∃ xs, SqT X.K H p xs ∧ n = xs.length := e
    rcases e' with ⟨xs, hx, e'⟩ | ⟨xs, hx, e'⟩
    · subst e'
      obtain ⟨its, r', pl, hz⟩ := I.list hx
      have hlen := r'.length
      exact Calls.call_len_list pl.isList (by simp only [List.size_toArray]; omega) ⟨.int xs.length, H, I.tok _, ⟨_, by simp only [List.size_toArray]; rw [hlen]⟩, q⟩
    · subst e'
      obtain ⟨its, r', pl, hz⟩ := I.tuple hx
      have hlen := r'.length
      exact len_tuple pl (by simp only [List.size_toArray]; omega) ⟨.int xs.length, H, I.tok _, ⟨_, by simp only [List.size_toArray]; rw [hlen]⟩, q⟩
  | _ => exact (show False from e).elim
end
end L2

namespace L2
open PySem PySem.Spec PyProof.Rows

/-! ### an instance, its attributes a map -/
structure ObjM (h : Heap) (x dx C : Addr) (mA : Str → Option Value) : Prop where
  obj : h.get? x = some (PySem.W.instObj C dx)
  ns : h.Ns1 dx mA
  ne : dx ≠ x

section
variable {prog : Program} {w : World} {A : Around} {E : Value → Shared → Prop} {s : Shared} {K : PySem.W.Frag} {x dx C f : Addr} {mA : Str → Option Value} {name : Str} {v : Value}

end

/-! ### the attributes as a list of pairs -/
section
variable {P : Program} {w : World} {H H' : Hp} {h h' : Heap} {a C dx : Addr} {fs fs' : List (Str × V)}
end

/-! ### what of the text a class must have -/
structure Cls (K : PySem.W.Frag) (C : Addr) : Prop where
  pg : PySem.W.plainGet K C Str.empty = true
  hd : PySem.W.hasDictIn K C = true
  po : PySem.W.plainOver K C = true
  sa : PySem.W.findIn K (.ref C) "__setattr__" = some (some (.builtin "object.__setattr__"))
/-- a constant of the class -/
structure Con (K : PySem.W.Frag) (C : Addr) (f : Str) (v : V) (u : Value) : Prop where
  at_ : PySem.W.findIn K (.ref C) f = some (some u)
  rel : RelV v u
  get : PySem.W.specialIn K u "__get__" = some none
  cp : PySem.W.copiedNames.contains f = false
/-- a method: a plain def of the class or of one above it -/
structure Meth (K : PySem.W.Frag) (C : Addr) (m : Str) (f : Addr) : Prop where
  at_ : PySem.W.findIn K (.ref C) m = some (some (.ref f))
  fn : PySem.W.isFn K (.ref f) = true
  kp : PySem.W.keepIn K (.ref f) = true

section
variable {X : Cx} {pins : List (Addr × Obj)} {σ : St} {H : Hp} {s : Shared} {a C dx : Addr} {fs : List (Str × V)} {f : Str} {v : V} {A : Around} {E : Value → Shared → Prop}

end

/-! ### readings and rules -/
section
variable {X : Cx} {o e value : Expr} {f : Str} {pos pos' tpos : Pos} {ta tv : TE}
end

/-! ### isinstance -/
section
variable {X : Cx} {pins : List (Addr × Obj)} {σ : St} {H : Hp} {s : Shared} {A : Around} {E : Value → Shared → Prop} {Q : Value → Shared → Prop} {c : Value} {b : Bool}
/-- the type of a value, as the fragment's deciders take it; for an instance its class -/
inductive TyOf (K : PySem.W.Frag) (H : Hp) : V → Value → Prop where
  | non : TyOf K H .non (.type "NoneType")
  | bl (x : Bool) : TyOf K H (.bl x) (.type "bool")
  | int (i : Int) : TyOf K H (.int i) (.type "int")
  | str (x : Str) : TyOf K H (.str x) (.type "str")
  | flt (x : UInt64) : TyOf K H (.flt x) (.type "float")
  | lst {a : Addr} {xs : List V} (e : H a = some (.lst xs)) : TyOf K H (.ref a) (.type "list")
  | frz {a : Addr} {o : Obj} {xs : List V} (e : H a = some (.frz o (.lst xs))) : TyOf K H (.ref a) (.type "list")
  | tup {a : Addr} {xs : List V} (e : H a = some (.tup xs)) : TyOf K H (.ref a) (.type "tuple")
  | dK {a : Addr} {kvs : List (Key × V)} (e : H a = some (.dK kvs)) : TyOf K H (.ref a) (.type "dict")
  | dT {a : Addr} {kvs : List (List Key × V)} (e : H a = some (.dT kvs)) : TyOf K H (.ref a) (.type "dict")
  | ins {a C dx : Addr} {fs : List (Str × V)} (e : H a = some (.ins C dx fs)) (cl : Cls K C) (ha : PySem.W.findIn K (.ref C) "__class__" = some (some (.builtin "object.__class__")))
      (hn : PySem.W.specialIn K (.builtin "object.__class__") "__get__" = some (some (.builtin "getset_descriptor.__get__"))) (htk : PySem.W.takesIn K (.builtin "object.__class__") = some true)
      (hm : PySem.W.mroIn K C (.type "object") = some true) : TyOf K H (.ref a) (.ref C)
end
end L2

namespace L2
open PySem PySem.Spec PyProof.Rows

/-! ### room -/
structure Room (k : Nat) (A : Around) : Prop where
  hd : A.handled = none
  dp : A.depth + 3 * k + 5 < recursionLimit
  un : A.units + 16 * k + 200 < cLine
theorem Room.mono {j k : Nat} {A : Around} (r : Room k A) (h : j ≤ k) : Room j A := ⟨r.hd, by have := r.dp; omega, by have := r.un; omega⟩
theorem Room.deeper {k : Nat} {A : Around} (r : Room (k + 1) A) (env : Env) : Room k (A.deeper env) :=
  ⟨r.hd, by have := r.dp; show A.depth + 1 + 3 * k + 5 < _; omega, by have := r.un; show A.units + 3 + 16 * k + 200 < _; omega⟩
theorem Room.depth {k : Nat} {A : Around} (r : Room k A) : A.depth < recursionLimit := by have := r.dp; omega
theorem Room.units {k : Nat} {A : Around} (r : Room k A) : A.units + 64 < cLine := by have := r.un; omega
/-! ### argument lists and displays -/
def tNil : TA := fun _ H Q => Q [] H
def tCons (ta : TE) (tr : TA) : TA := fun σ H Q => ta σ H fun x H1 => tr σ H1 fun xs H2 => Q (x :: xs) H2
section
variable {X : Cx} {e : Expr} {es : List Expr} {te : TE} {t : TA} {pos : Pos}
theorem pa_nil : PA X [] tNil := fun _ _ _ _ H Q I h => Calls.spliced_nil ⟨[], H, I, .nil, h⟩
theorem pa_cons (ha : PE X e te) (hr : PA X es t) (hs : starEach (e :: es) X.env = (false, eval e X.env) :: starEach es X.env := by rfl) : PA X (e :: es) (tCons te t) := by
  intro pos pins s σ H Q I h
  rw [hs]
  show wpAny _ _ (spliced ((false, eval e X.env) :: backTo pos (starEach es X.env))) _ _ s
  refine Calls.spliced_cons (thn (ha pins s σ H _ I h) fun u s1 ⟨x, H1, I1, r1, q1⟩ => ?_)
  exact thn (hr pos pins s1 σ H1 _ I1 q1) fun us s2 ⟨xs, H2, I2, r2, q2⟩ => ⟨x :: xs, H2, I2, .cons r1 r2, q2⟩

/-- a tuple, a list of written items -/
def tTup (t : TA) : TE := fun σ H Q => t σ H fun xs H1 => xs.length ≤ sizeLine ∧ ∀ p, H1 p = none → Q (.ref p) (upd H1 p (.tup xs))
def tLst (t : TA) : TE := fun σ H Q => t σ H fun xs H1 => xs.length ≤ sizeLine ∧ ∀ p, H1 p = none → Q (.ref p) (upd H1 p (.lst xs))
theorem pe_tup {x1} (h : PA X es t) : PE X (.Tuple es x1 pos) (tTup t) := by
  intro pins s σ H Q I hq
  refine wpAny_Tuple_spliced (thn (h pos pins s σ H _ I hq) fun us s1 ⟨xs, H1, I1, r, z, q⟩ => ⟨by rw [← r.length]; exact z, ?_⟩)
  have hf : H1 s1.heap.objs.size = none := I1.hok.fresh (Nat.le_refl _)
  refine ⟨.ref s1.heap.objs.size, upd H1 s1.heap.objs.size (.tup xs), I1.laid (t' := s1.toks) (fun b u e => Heap.get?_push_of_some _ e) (Nat.le_refl _) ?_, rfl, q _ hf⟩
  exact ⟨z, us, r, ⟨_, Heap.get?_push_size _ rfl, rfl, _, rfl⟩⟩
theorem pe_lst (h : PA X es t) : PE X (.List es pos) (tLst t) := by
  intro pins s σ H Q I hq
  refine wpAny_List_spliced (thn (h pos pins s σ H _ I hq) fun us s1 ⟨xs, H1, I1, r, z, q⟩ => ⟨by rw [← r.length]; exact z, ?_⟩)
  have hf : H1 s1.heap.objs.size = none := I1.hok.fresh (Nat.le_refl _)
  refine ⟨.ref s1.heap.objs.size, upd H1 s1.heap.objs.size (.lst xs), I1.laid (t' := s1.toks) (fun b u e => Heap.get?_push_of_some _ e) (Nat.le_refl _) ?_, rfl, q _ hf⟩
  exact ⟨z, us, 0, r, Heap.get?_push_size _ rfl⟩
end

/-! ### what a def promises -/
/-- a def's promise: the bound arguments in the parameters' order, the heap, the wanted end, the wanted exception -/
abbrev Sp := List V → Hp → VK → XK → Prop
/-- how an exception lies behind a call (file 08 gives it): the callers' frames, abstract heap and state ahead of the call, the wish, the exception, the state -/
abbrev CXT := List Env → Hp → Shared → XK → Value → Shared → Prop

/-- the state at a call -/
structure Env0 (P : Program) (w : World) (K : PySem.W.Frag) (mg : Str → Option Value) (base : Heap) (A : Around) (outer : List Env) (s : Shared) (H : Hp) : Prop where
  frames : A.frames = some outer
  mod : Mod K mg base
  bs : ∀ b o, base.get? b = some o → s.heap.get? b = some o ∧ H b = none
  bsz : base.objs.size ≤ s.heap.objs.size
  funs : s.heap.FunFrames base outer
  frf : ∀ b ∈ frs outer, H b = none
  hok : HOk P w H s.heap
  bare : AllBare s.gens
/-- a call's end -/
def CE (outer : List Env) (P : Program) (w : World) (H : Hp) (s : Shared) (Q : VK) (u : Value) (s' : Shared) : Prop :=
  ∃ v H', s'.os = s.os ∧ AllBare s'.gens ∧ Un (frs outer) [] H H' s.heap s'.heap ∧ HOk P w H' s'.heap ∧ RelV v u ∧ Q v H'
def CR (CX : CXT) (outer : List Env) (P : Program) (w : World) (H : Hp) (s : Shared) (Q : VK) (E : XK) (r : Result) (s' : Shared) : Prop :=
  match r with
  | .ok (.ret u) => CE outer P w H s Q u s'
  | .ok _ => False
  | .error e => CX outer H s E e s'
structure FnOk (P : Program) (w : World) (K : PySem.W.Frag) (mg : Str → Option Value) (base : Heap) (CX : CXT) (k : Nat) (f : Addr) (fd : FuncData) (ps : List Str) (sp : Sp) : Prop where
  len : ∀ vs H Q E, sp vs H Q E → vs.length = ps.length
  run : ∀ (A : Around) (outer : List Env) (s : Shared) (H : Hp) (args : Args) (us : List Value) (vs : List V) (Q : VK) (E : XK), Room k A → Env0 P w K mg base A outer s H → BindsTo s fd args (ps.zip us) → Vals vs us → sp vs H Q E →
    codeAny (model P w) A (.call (.ref f) args) (CR CX outer P w H s Q E) s
section
variable {X : Cx} {pins : List (Addr × Obj)} {σ : St} {H : Hp} {s s' : Shared}
/-- from a body: what a callee wants -/
theorem Inv.env0 (I : Inv X pins σ H s) : Env0 X.prog X.w X.K X.mg X.base X.A X.stack s H :=
  ⟨I.ok.frames, I.ok.mod, I.bs, Nat.le_trans I.ok.bsz I.sz, I.stack, I.stkFree, I.hok, I.bare⟩
/-- behind a call -/
theorem Inv.after {Q : VK} {u : Value} (I : Inv X pins σ H s) (h : CE X.stack X.prog X.w H s Q u s') : EP X pins σ Q u s' := by
  obtain ⟨v, H', os, bare, un, hok, r, q⟩ := h
  obtain ⟨hh, g, d, t, os'⟩ := s'
  obtain rfl : os' = s.os := os
  exact ⟨v, H', I.call (h' := hh) (g' := g) (d' := d) (t' := t) (ch := []) un hok bare (fun b z => absurd z (by simp)), r, q⟩
end

/-! ### calls -/
/-- f(..): the written arguments, then the defaults dvs; E: what is wanted of an exception -/
def tCall (sp : Sp) (dvs : List V) (E : XK) (t : TA) : TE := fun σ H Q => t σ H fun vs H1 => sp (vs ++ dvs) H1 Q E
/-- how the parameters are bound: us the positional arguments, kw the keywords' values by name, ds the defaults that fill up -/
def Binds (K : PySem.W.Frag) (fd : FuncData) (ps : List Str) (ds : List Value) : Prop :=
  ∀ (s : Shared) (us : List Value), K.In s.heap → (us ++ ds).length = ps.length → BindsTo s fd ⟨us, []⟩ (ps.zip (us ++ ds))
/-- every parameter is given -/
theorem Binds.all {K : PySem.W.Frag} {fd : FuncData} {ps : List Str} (h : ∀ us : List Value, us.length = ps.length → bindArgs fd ⟨us, []⟩ = pure (ps.zip us)) : Binds K fd ps [] := fun s us _ hl => by
  rw [List.append_nil] at hl ⊢
  exact .of_eq (h us hl)

/-- an exception of a callee reaches what this body wants of exceptions -/
def Passes (CX : CXT) (X : Cx) (E : XK) : Prop := ∀ (pins : List (Addr × Obj)) (σ : St) (H : Hp) (s : Shared) (e : Value) (s' : Shared), Inv X pins σ H s → CX X.stack H s E e s' → X.xe e s'

section
variable {X : Cx} {CX : CXT} {k : Nat} {f C : Addr} {fd : FuncData} {ps : List Str} {sp : Sp} {dvs : List V} {ds : List Value} {E : XK} {x m : Str} {p pos apos : Pos} {e o : Expr} {es : List Expr} {ta : TE} {t : TA}

/-- the callee runs -/
theorem run_fn {pins : List (Addr × Obj)} {σ : St} {H : Hp} {s : Shared} {Q : VK} {us : List Value} {vs : List V} (F : FnOk X.prog X.w X.K X.mg X.base CX k f fd ps sp) (hr : Room k X.A) (hb : Binds X.K fd ps ds) (hd : Vals dvs ds) (hx : Passes CX X E)
    (I : Inv X pins σ H s) (r : Vals vs us) (h : sp (vs ++ dvs) H Q E) : wpAny (model X.prog X.w) X.A (call (.ref f) us) (EP X pins σ Q) X.xe s := by
  have r2 : Vals (vs ++ dvs) (us ++ ds) := r.append hd
  have hl : (us ++ ds).length = ps.length := by rw [← r2.length]; exact F.len _ _ _ _ h
  refine wpAny_call (codeAny_mono (F.run X.A X.stack s H ⟨us, []⟩ (us ++ ds) (vs ++ dvs) Q E hr I.env0 (hb s us I.kIn hl) r2 h) fun r s' hq => ?_)
  cases r with
  | error e => exact hx pins σ H s e s' I hq
  | ok fl =>
    cases fl with
    | ret u => exact I.after hq
    | next => exact False.elim hq
    | brk => exact False.elim hq
    | cont => exact False.elim hq

theorem pe_call (F : FnOk X.prog X.w X.K X.mg X.base CX k f fd ps sp) (hr : Room k X.A) (hg : Gl X x) (hm : X.mg x = some (.ref f)) (hk : PySem.W.keepIn X.K (.ref f) = true) (hb : Binds X.K fd ps ds) (hd : Vals dvs ds) (hx : Passes CX X E)
    (ha : PA X (e :: es) t) (hdb : (x == ("__debug__" : Str)) = false := by decide) (he : starEach (e :: es) X.env = (false, eval e X.env) :: starEach es X.env := by rfl) (hpl : (backTo pos (starEach es X.env)).any (·.1) = false := by rfl) :
    PE X (.Call (.Name x p) (e :: es) [] pos) (tCall sp dvs E t) := by
  intro pins s σ H Q I h
  refine wpAny_Call_Name_kw (ld_glob I hg hm ?_ hdb)
  refine PySem.W.callWith_K (h₀ := X.base) I.ok.mod.kin hk (thn (ha pos pins s σ H _ I h) fun us s1 ⟨vs, H1, I1, r, q⟩ => ⟨I1.kIn, ?_⟩) he hpl
  exact run_fn F hr hb hd hx I1 r q
/-- what a class must have to be made -/
structure Mk (K : PySem.W.Frag) (C f : Addr) : Prop where
  makes : PySem.W.makesIn K C = true
  init : PySem.W.findIn K (.ref C) "__init__" = some (some (.ref f))
  fn : PySem.W.isFn K (.ref f) = true
  kp : PySem.W.keepIn K (.ref C) = true

end

/-! ### keywords -/
section
variable {X : Cx} {CX : CXT} {k : Nat} {f C : Addr} {fd : FuncData} {ps ks : List Str} {sp : Sp} {E : XK} {x m : Str} {p pos apos kpos : Pos} {e o : Expr} {es : List Expr} {kws : List Keyword} {te ta : TE} {t tk : TA} {nm : Option Str}
/-- how a call with keywords binds: g puts the positional values us and the keywords' values ws (names ks) in the parameters' order, defaults among them -/
structure KBinds (K : PySem.W.Frag) (fd : FuncData) (ps ks : List Str) (g : List Value → List Value → List Value) (gV : List V → List V → List V) : Prop where
  to : ∀ (s : Shared) (us ws : List Value), K.In s.heap → (g us ws).length = ps.length → BindsTo s fd ⟨us, ks.zip ws⟩ (ps.zip (g us ws))
  rel : ∀ {vs : List V} {us : List Value} {zs : List V} {ws : List Value}, Vals vs us → Vals zs ws → Vals (gV vs zs) (g us ws)
variable {g : List Value → List Value → List Value} {gV : List V → List V → List V}
end

/-! ### a def's body keeps its promise -/
/-- names: the parameters first -/
structure FnScope (N P : List Str) (sc : Scope) : Prop where
  kind : sc.kind = .function
  co : sc.isCoroutine = false
  gen : sc.isGenerator = false
  nd : N.Nodup
  pre : N.take P.length = P
  par : ∀ x ∈ P, sc.names.lookup x = some .local ∨ sc.names.lookup x = some .cell
  nofree : ∀ y ∈ sc.names, y.2 ≠ .free

theorem bindL_out {kindOf : Str → Option NameKind} {x : Str} : ∀ {binds : List (Str × Value)} {m : Str → Option Value}, (∀ v, (x, v) ∉ binds) → bindL kindOf binds m x = m x
  | [], _, _ => rfl
  | (n, v) :: r, m, h => by
    unfold bindL
    rw [bindL_out fun w hw => h w (List.mem_cons_of_mem _ hw)]
    split
    · have : x ≠ n := by rintro rfl; exact h v List.mem_cons_self
      simp [this]
    · rfl
theorem bindC_out {kindOf : Str → Option NameKind} {x : Str} : ∀ {binds : List (Str × Value)} {m : Str → Option Value}, (∀ v, (x, v) ∉ binds) → bindC kindOf binds m x = m x
  | [], _, _ => rfl
  | (n, v) :: r, m, h => by
    unfold bindC
    rw [bindC_out fun w hw => h w (List.mem_cons_of_mem _ hw)]
    split
    · rfl
    · have : x ≠ n := by rintro rfl; exact h v List.mem_cons_self
      simp [this]
theorem bindL_get {kindOf : Str → Option NameKind} {x : Str} {v : Value} : ∀ {P : List Str} {vs : List Value} {i : Nat} {m : Str → Option Value}, P.Nodup → P[i]? = some x → vs[i]? = some v → kindOf x = some .local →
    bindL kindOf (P.zip vs) m x = some v
  | [], _, _, _, _, h, _, _ => by simp at h
  | _ :: _, [], _, _, _, _, h, _ => by simp at h
  | p :: P, w :: vs, 0, m, nd, h1, h2, hk => by
    simp at h1 h2; subst h1; subst h2
    show bindL kindOf ((p, w) :: P.zip vs) m p = _
    unfold bindL
    rw [bindL_out fun v hv => (List.nodup_cons.mp nd).1 (List.of_mem_zip hv).1, if_pos hk]
    simp
  | p :: P, w :: vs, i + 1, m, nd, h1, h2, hk => by
    show bindL kindOf ((p, w) :: P.zip vs) m x = _
    unfold bindL
    exact bindL_get (i := i) (List.nodup_cons.mp nd).2 (by simpa using h1) (by simpa using h2) hk
theorem bindC_get {kindOf : Str → Option NameKind} {x : Str} {v : Value} : ∀ {P : List Str} {vs : List Value} {i : Nat} {m : Str → Option Value}, P.Nodup → P[i]? = some x → vs[i]? = some v → kindOf x ≠ some .local →
    bindC kindOf (P.zip vs) m x = some v
  | [], _, _, _, _, h, _, _ => by simp at h
  | _ :: _, [], _, _, _, _, h, _ => by simp at h
  | p :: P, w :: vs, 0, m, nd, h1, h2, hk => by
    simp at h1 h2; subst h1; subst h2
    show bindC kindOf ((p, w) :: P.zip vs) m p = _
    unfold bindC
    rw [bindC_out fun v hv => (List.nodup_cons.mp nd).1 (List.of_mem_zip hv).1, if_neg hk]
    simp
  | p :: P, w :: vs, i + 1, m, nd, h1, h2, hk => by
    show bindC kindOf ((p, w) :: P.zip vs) m x = _
    unfold bindC
    exact bindC_get (i := i) (List.nodup_cons.mp nd).2 (by simpa using h1) (by simpa using h2) hk

/-- the names' values at the entry -/
def start (N : List Str) (vs : List V) : St := vs.map some ++ List.replicate (N.length - vs.length) none

/-- the context of a def's body, at its entry; an exception leaves the frame, then lies as CX says -/
def cxOf (CX : CXT) (P : Program) (w : World) (K : PySem.W.Frag) (mg : Str → Option Value) (base : Heap) (N : List Str) (qual : Str) (scope : Scope) (f : Addr) (cd : Value) (A : Around) (outer : List Env) (s : Shared) (H : Hp) (E : XK) : Cx where
  prog := P
  w := w
  K := K
  mg := mg
  base := base
  A := A.deeper (envOfC qual scope s.heap.objs.size f cd)
  N := N
  s₀ := s
  H₀ := H
  env := envOfC qual scope s.heap.objs.size f cd
  outer := outer
  stack := envOfC qual scope s.heap.objs.size f cd :: outer
  ex := []
  calm := true
  fn := fun _ => true
  pn := []
  xe := fun e s' => wpAny (model P w) (A.deeper (envOfC qual scope s.heap.objs.size f cd)) (leaving (envOfC qual scope s.heap.objs.size f cd) e) (fun _ s'' => CX outer H s E e s'') (fun e' s'' => CX outer H s E e' s'') s'

theorem cell_has {sc : Scope} {n : Nat} {x : Str} (h : sc.names.lookup x = some .cell) : ∃ c, (cellsFrom n sc.names []).lookup x = some c := by
  have q := PySem.W.cellsFrom_some sc.names n [] (.inl h)
  exact Option.isSome_iff_exists.mp q

theorem inv_start {CX : CXT} {P : Program} {w : World} {K : PySem.W.Frag} {mg : Str → Option Value} {base : Heap} {N ps : List Str} {qual : Str} {scope : Scope} {f : Addr} {cd : Value} {A : Around} {outer : List Env} {s s1 : Shared} {H : Hp} {E : XK} {us : List Value} {vs : List V}
    (S : FnScope N ps scope) (hd : A.handled = none) (e0 : Env0 P w K mg base A outer s H) (hl : vs.length = ps.length) (r : Vals vs us)
    (x : InCallC s s.heap.objs.size (bindL (envOfC qual scope s.heap.objs.size f cd).kindOf (ps.zip us) fun _ => none) (cellsFrom (s.heap.objs.size + 1) scope.names []) (bindC (envOfC qual scope s.heap.objs.size f cd).kindOf (ps.zip us) fun _ => none) s1) :
    Inv (cxOf CX P w K mg base N qual scope f cd A outer s H E) [] (start N vs) H s1 := by
  have hpl : ps.length ≤ N.length := by have := congrArg List.length S.pre; rw [List.length_take] at this; omega
  obtain ⟨h1, tk, rfl, hk⟩ := x.done
  have noA : ∀ b : Addr, b ∉ (cxOf CX P w K mg base N qual scope f cd A outer s H E).ex := fun b z => absurd (show b ∈ ([] : List Addr) from z) (by simp)
  refine ⟨⟨e0.mod, S.kind, rfl, rfl, Nat.le_refl _, fun y z c h1 h2 => ?_, fun y hy => ?_, fun y c _ h => ?_, fun _ => hd, Around.frames_deeper e0.frames, .inr ⟨rfl, rfl⟩, fun b z => absurd z (noA b), e0.bs, e0.bsz, fun b _ _ => noA b, fun b z => absurd z (noA b), e0.funs, e0.frf⟩,
    rfl, e0.bare, Un.kept hk, ⟨_, x.toInCall.ns, fun i y v h1 h2 h3 => ?_⟩, fun y c h => ⟨_, x.cell y c h⟩, e0.hok.fresh (Nat.le_refl _), fun y c h => ?_, fun p hp => absurd (show p ∈ ([] : List (Addr × Obj)) from hp) (by simp), e0.hok.kept hk, ?_⟩
  · exact name_of_addr x.apart (PySem.mem_of_lookup h1) (PySem.mem_of_lookup h2)
  · have hy : scope.names.lookup y = some .cell ∨ scope.names.lookup y = some .free := hy
    rcases hy with hy | hy
    · exact cell_has hy
    · exact absurd rfl (S.nofree _ (PySem.mem_of_lookup hy))
  · exact Nat.le_of_lt (x.above y c (PySem.mem_of_lookup h))
  · have hi : i < vs.length := by
      unfold start at h2
      by_cases hi : i < vs.length
      · exact hi
      · rw [List.getElem?_append_right (by simpa using hi)] at h2
        rw [List.getElem?_replicate] at h2
        split at h2 <;> cases h2
    have ha : vs[i]? = some v := by
      unfold start at h2
      rw [List.getElem?_append_left (by simpa using hi), List.getElem?_map] at h2
      cases e : vs[i]? with
      | none => rw [e] at h2; cases h2
      | some a => rw [e] at h2; cases h2; rfl
    obtain ⟨u, hu, rv⟩ := r.get ha
    have hp : ps[i]? = some y := by
      rw [← S.pre, List.getElem?_take_of_lt (by omega)]; exact h1
    have ndP : ps.Nodup := by rw [← S.pre]; exact S.nd.sublist (List.take_sublist _ _)
    refine ⟨u, rv, ?_⟩
    rcases S.par y (List.mem_of_getElem? hp) with k | k
    · exact .inl ⟨k, bindL_get ndP hp hu k⟩
    · obtain ⟨c, e⟩ := cell_has (n := s.heap.objs.size + 1) k
      refine .inr ⟨.inl k, c, e, ?_⟩
      have q := x.cell y c e
      rw [bindC_get ndP hp hu (by show scope.names.lookup y ≠ _; rw [k]; decide)] at q
      exact q
  · exact e0.hok.fresh (Nat.le_of_lt (x.above y c (PySem.mem_of_lookup h)))
  · unfold start
    show _ = N.length
    rw [List.length_append, List.length_map, List.length_replicate]
    omega

/-- THE RULE: a def (or a method) of the text, by its body. The body's reading t is chosen for each entry; it is run at the parameters' values -/
theorem fn_of {CX : CXT} {P : Program} {w : World} {K : PySem.W.Frag} {mg : Str → Option Value} {base : Heap} {k : Nat} {f : Addr} {name qual : Str} {params : Arguments} {body : List Stmt} {scope : Scope} {dV kV doc pm cdv ct oc : Value} {an od : Option Addr}
    {osl : Array (Option Value)} {N ps : List Str} {sp : Sp} (lk : K.lookup f = some ⟨oc, od, .func (PySem.W.fnOf name qual params body scope dV kV doc pm an cdv ct), osl⟩) (hcd : PySem.W.codeIn K cdv qual = true) (S : FnScope N ps scope)
    (len : ∀ vs H Q E, sp vs H Q E → vs.length = ps.length)
    (hbody : ∀ (A : Around) (outer : List Env) (s : Shared) (H : Hp) (vs : List V) (Q : VK) (E : XK), Room k (A.deeper (envOfC qual scope s.heap.objs.size f cdv)) → sp vs H Q E →
      ∃ t, PSs (cxOf CX P w K mg base N qual scope f cdv A outer s H E) body t ∧ t { nx := fun _ H' => Q .non H', rt := Q } (start N vs) H) :
    FnOk P w K mg base CX (k + 1) f (PySem.W.fnOf name qual params body scope dV kV doc pm an cdv ct) ps sp := by
  refine ⟨len, fun A outer s H args us vs Q E hr e0 hb r hsp => ?_⟩
  have hl := len _ _ _ _ hsp
  have KX : K.In s.heap := e0.mod.kin.keeps fun b o e => (e0.bs b o e).1
  have lim : s.heap.NoLimit := e0.mod.nolimit.keeps fun b o e => (e0.bs b o e).1
  have hkind : ∀ y ∈ ps.zip us, scope.names.lookup y.1 = some .local ∨ (scope.names.lookup y.1 = some .cell ∧ ((cellsFrom (s.heap.objs.size + 1) scope.names []).lookup y.1).isSome = true) := fun ⟨n, v⟩ hy => by
    rcases S.par n (List.of_mem_zip hy).1 with q | q
    · exact .inl q
    · exact .inr ⟨q, PySem.W.cellsFrom_some _ _ _ (.inl q)⟩
  refine codeAny_call_function hr.depth (KX _ _ lk) rfl S.co S.gen rfl (PySem.W.codeRec_of KX hcd) (hb _ _ _ _ ?_)
  refine wpAny_newFunctionEnv_cells S.kind hkind fun env he s1 x => ?_
  subst he
  refine ⟨lim.keeps x.toInCall.keep, codeAny_func ?_⟩
  obtain ⟨t, ht, hq⟩ := hbody A outer s H vs Q E (hr.deeper _) hsp
  have I : Inv (cxOf CX P w K mg base N qual scope f cdv A outer s H E) [] (start N vs) H s1 := inv_start S hr.hd e0 hl r x
  refine wpAny_mono (ht [] s1 (start N vs) H _ I hq) (fun fl s' hs => ?_) fun e s' hs => hs
  have fin : ∀ {σ' : St} {H' : Hp} {v : V} {u : Value}, Inv (cxOf CX P w K mg base N qual scope f cdv A outer s H E) [] σ' H' s' → RelV v u → Q v H' → CE outer P w H s Q u s' :=
    fun {σ' H' v u} J rv q => ⟨v, H', J.os, J.bare, J.base, J.hok, rv, q⟩
  cases fl with
  | ret u =>
    obtain ⟨v, σ', H', J, rv, q⟩ := hs
    exact fin J rv q
  | next =>
    obtain ⟨σ', H', J, q⟩ := hs
    exact fin (v := V.non) (u := Value.none) J rfl q
  | brk =>
    obtain ⟨_, _, _, q⟩ := hs
    exact False.elim q
  | cont =>
    obtain ⟨_, _, _, q⟩ := hs
    exact False.elim q
end L2

namespace L2
open PySem PySem.Spec PyProof.Rows
section
variable {X : Cx} {x : Str} {p pos : Pos} {e : Expr} {es : List Expr} {t : TA} {id T : String} {r : List V → Hp → VK → Prop}

def tCB (r : List V → Hp → VK → Prop) (t : TA) : TE := fun σ H Q => t σ H fun vs H1 => r vs H1 Q
/-- f(e, ..), f a built-in function -/
theorem pe_callB (hc : CallR X (.builtin id) r) (hg : Gl X x) (hm : X.mg x = none) (hv : bootBuiltins x = some (.builtin id)) (ha : PA X (e :: es) t) (hn : x ≠ "__name__" := by decide) (hdb : (x == ("__debug__" : Str)) = false := by decide)
    (he : starEach (e :: es) X.env = (false, eval e X.env) :: starEach es X.env := by rfl) (hpl : (backTo pos (starEach es X.env)).any (·.1) = false := by rfl) : PE X (.Call (.Name x p) (e :: es) [] pos) (tCB r t) := by
  intro pins s σ H Q I h
  refine wpAny_Call_Name_kw (ld_blt I hg hm hv ?_ hn hdb)
  exact PyProof.Rows.callWith_builtin1 (thn (ha pos pins s σ H _ I h) fun us s1 ⟨vs, H1, I1, r1, q1⟩ => hc pins s1 σ H1 vs us Q I1 r1 q1) he hpl
/-- T(e, ..), T a built-in type -/
theorem pe_callTy (hc : CallR X (.type T) r) (hg : Gl X x) (hm : X.mg x = none) (hv : bootBuiltins x = some (.type T)) (ha : PA X (e :: es) t) (hn : x ≠ "__name__" := by decide) (hdb : (x == ("__debug__" : Str)) = false := by decide)
    (he : starEach (e :: es) X.env = (false, eval e X.env) :: starEach es X.env := by rfl) (hpl : (backTo pos (starEach es X.env)).any (·.1) = false := by rfl) : PE X (.Call (.Name x p) (e :: es) [] pos) (tCB r t) := by
  intro pins s σ H Q I h
  refine wpAny_Call_Name_kw (ld_blt I hg hm hv ?_ hn hdb)
  exact PyProof.Rows.callWith_type1 (thn (ha pos pins s σ H _ I h) fun us s1 ⟨vs, H1, I1, r1, q1⟩ => hc pins s1 σ H1 vs us Q I1 r1 q1) he hpl
end
end L2

namespace HT
open PySem PyProof.Rows

section
open PySem.SeqAt
open PySem.AutoSeq1 (wpAny_loadPart')
open PySem.MeetsSeq PySem.MeetsSeq2 PySem.MeetsSeq3

end

section
variable {prog : Program} {w : World} {A : Around} {E : Value → Shared → Prop} {s : Shared}

/-! ### t[a:b], not the whole -/
end
end HT

namespace L2
open PySem PySem.Spec PyProof.Rows

/-! ### the parts of a slice -/
abbrev TO := St → Hp → (Option Int → Hp → Prop) → Prop
/-- a slice's part (left out, or an int) -/
def PO (X : Cx) (e : Option Expr) (t : TO) : Prop :=
  ∀ (pins : List (Addr × Obj)) (s : Shared) (σ : St) (H : Hp) (Q : Option Int → Hp → Prop), Inv X pins σ H s → t σ H Q →
    wpAny (model X.prog X.w) X.A (evalPart e X.env) (fun u s' => ∃ o H', Inv X pins σ H' s' ∧ IsPart u o ∧ Q o H') X.xe s
def tNoPart : TO := fun _ H Q => Q none H
def tPart (t : TE) : TO := fun σ H Q => t σ H fun x H1 => ∃ i, x = .int i ∧ Q (some i) H1

section
variable {X : Cx} {e : Expr} {te : TE} {lo hi : Option Expr} {tl th : TO} {pos p2 : Pos}

theorem po_none : PO X none tNoPart := by
  intro pins s σ H Q I h
  rw [evalPart_none]
  exact wpAny_pure ⟨none, H, I, .none, h⟩
theorem po_some (h : PE X e te) : PO X (some e) (tPart te) := by
  intro pins s σ H Q I hw
  rw [evalPart_some]
  refine thn (h pins s σ H _ I hw) fun u s1 ⟨x, H1, I1, r1, q1⟩ => ?_
  obtain ⟨i, rfl, q⟩ := q1
  obtain ⟨t, rfl⟩ := r1
  exact ⟨some i, H1, I1, .int i t, q⟩

/-- what a slice of a value is, by values: the slice object stands at sl -/
def SlR (X : Cx) (r : V → Option Int → Option Int → Hp → VK → Prop) : Prop :=
  ∀ (pins : List (Addr × Obj)) (s : Shared) (σ : St) (H : Hp) (x : V) (v vl vu : Value) (lo hi : Option Int) (sl : Addr) (Q : VK), Inv X pins σ H s → RelV x v → s.heap.IsSliceOf sl vl vu .none → IsPart vl lo → IsPart vu hi → r x lo hi H Q →
    ∃ T id, typeLookup (.type T) "__getitem__" = pure (some (.builtin id)) ∧ s.TypeIs v T ∧ wpAny (model X.prog X.w) X.A (getItem v (.ref sl)) (EP X pins σ Q) X.xe s
def tSl (r : V → Option Int → Option Int → Hp → VK → Prop) (te : TE) (tl th : TO) : TE := fun σ H Q => te σ H fun x H1 => tl σ H1 fun l H2 => th σ H2 fun u H3 => r x l u H3 Q
/-- a[lo:hi], any a -/
theorem pe_slice {r : V → Option Int → Option Int → Hp → VK → Prop} (hr : SlR X r) (he : PE X e te) (hl : PO X lo tl) (hu : PO X hi th) : PE X (.Subscript e (.Slice lo hi none p2) pos) (tSl r te tl th) := by
  intro pins s σ H Q I h
  refine Subscript_ (thn (he pins s σ H _ I h) fun v s1 ⟨x, H1, I1, r1, q1⟩ => ?_)
  refine wpAny_Slice (thn (hl pins s1 σ H1 _ I1 q1) fun vl s2 ⟨l, H2, I2, pl, q2⟩ => thn (hu pins s2 σ H2 _ I2 q2) fun vu s3 ⟨u, H3, I3, pu, q3⟩ => ?_)
  rw [evalPart_none]
  refine wpAny_pure ?_
  have I4 : Inv X pins σ H3 { s3 with heap := s3.heap.push { cls := .type "slice", data := .fields #[vl, vu, .none] } } := I3.kept (t' := s3.toks) fun b ob q => Heap.get?_push_of_some _ q
  obtain ⟨T, id, hT, ht, hg⟩ := hr pins { s3 with heap := s3.heap.push { cls := .type "slice", data := .fields #[vl, vu, .none] } } σ H3 x v vl vu l u s3.heap.objs.size Q I4 r1 (Heap.IsSliceOf.new ..) pl pu q3
  show wpAny (model X.prog X.w) X.A (subscriptTail e (.Slice lo hi none p2) v (.ref s3.heap.objs.size)) (EP X pins σ Q) X.xe { s3 with heap := s3.heap.push { cls := .type "slice", data := .fields #[vl, vu, .none] } }
  exact tail_any (ops := [.ref s3.heap.objs.size, v]) ht hT hg (by with_unfolding_all rfl)

/-! ### t < u, t + u -/
end
end L2

namespace L2
open PySem PySem.Spec PyProof.Rows

/-! ### places -/
/-- the place that an index of any sign means -/
def ixN (n : Nat) (i : Int) : Option Nat := if 0 ≤ i then (if i < n then some i.toNat else none) else if -(n : Int) ≤ i then some (i + n).toNat else none
def atI {α : Type} (xs : List α) (i : Int) : Option α := (ixN xs.length i).bind fun j => xs[j]?
theorem ixN_seq {n : Nat} {i : Int} {j : Nat} (h : ixN n i = some j) : seqIndex? i n = some j ∧ j < n ∧ -(n : Int) ≤ i ∧ i < n := by
  unfold ixN at h
  by_cases h0 : 0 ≤ i
  · rw [if_pos h0] at h
    by_cases h1 : i < n
    · rw [if_pos h1] at h
      have e : i.toNat = j := Option.some.inj h
      exact ⟨by rw [seqIndex_of h0 h1, e], by omega, by omega, h1⟩
    · rw [if_neg h1] at h; cases h
  · rw [if_neg h0] at h
    by_cases h1 : -(n : Int) ≤ i
    · rw [if_pos h1] at h
      have e : (i + n).toNat = j := Option.some.inj h
      exact ⟨by rw [seqIndex_neg (by omega) h1, e], by omega, h1, by omega⟩
    · rw [if_neg h1] at h; cases h
theorem atI_get {α : Type} {xs : List α} {i : Int} {v : α} (h : atI xs i = some v) : ∃ j, seqIndex? i xs.length = some j ∧ xs[j]? = some v ∧ j < xs.length ∧ -(xs.length : Int) ≤ i ∧ i < xs.length := by
  unfold atI at h
  cases e : ixN xs.length i with
  | none => rw [e] at h; cases h
  | some j =>
    rw [e] at h
    obtain ⟨h1, h2, h3, h4⟩ := ixN_seq e
    exact ⟨j, h1, h, h2, h3, h4⟩
theorem atI_nat {α : Type} {xs : List α} {j : Nat} {v : α} (h : xs[j]? = some v) : atI xs (j : Int) = some v := by
  have hj : j < xs.length := (List.getElem?_eq_some_iff.mp h).1
  have e : ixN xs.length (j : Int) = some j := by
    unfold ixN
    rw [if_pos (by omega), if_pos (by omega)]; simp
  unfold atI; rw [e]; exact h
/-! ### what may be subscripted -/
/-- what stands as an index of a plain subscript -/
def PlainIx (b : Expr) : Prop := ∀ o i, subscripted b false o i = operate [o, i] (getItem o i)
/-- a subscript by values -/
def IxR (X : Cx) (r : R2) : Prop :=
  ∀ (value slice : Expr) (pins : List (Addr × Obj)) (s : Shared) (σ : St) (H : Hp) (x y : V) (v u : Value) (Q : VK), Inv X pins σ H s → RelV x v → RelV y u → r x y H Q →
    subscripted slice false v u = operate [v, u] (getItem v u) → wpAny (model X.prog X.w) X.A (subscriptTail value slice v u) (EP X pins σ Q) X.xe s
/-- a call of a builtin's method by values: the receiver, the arguments -/
def MtR (X : Cx) (id : String) (r : V → List V → Hp → VK → Prop) : Prop :=
  ∀ (pins : List (Addr × Obj)) (s : Shared) (σ : St) (H : Hp) (x : V) (xs : List V) (v : Value) (us : List Value) (Q : VK), Inv X pins σ H s → RelV x v → Vals xs us → r x xs H Q →
    wpAny (model X.prog X.w) X.A (call (.builtin id) (v :: us)) (EP X pins σ Q) X.xe s
section
variable {X : Cx} {a b : Expr} {ta tb : TE} {pos : Pos}
/-- a[b] -/
theorem pe_ix {r : R2} (hr : IxR X r) (ha : PE X a ta) (hb : PE X b tb) (hs : PlainIx b) : PE X (.Subscript a b pos) (tOp r ta tb) := by
  intro pins s σ H Q I h
  exact Subscript_ (binT ha hb I h fun v u s2 x y H2 I2 rx ry q => hr a b pins s2 σ H2 x y v u Q I2 rx ry q (hs _ _))

def rIxL (K : PySem.W.Frag) : R2 := fun x y H Q => ∃ p xs i v, x = .ref p ∧ y = .int i ∧ SqL K H p xs ∧ atI xs i = some v ∧ Q v H
def rIxT (K : PySem.W.Frag) : R2 := fun x y H Q => ∃ p xs i v, x = .ref p ∧ y = .int i ∧ SqT K H p xs ∧ atI xs i = some v ∧ Q v H
def rIxS : R2 := fun x y H Q => ∃ z i c, x = .str z ∧ y = .int i ∧ z.length ≤ sizeLine ∧ atI z.cps.toList i = some c ∧ Q (.str ⟨#[c]⟩) H
theorem ix_list : IxR X (rIxL X.K) := by
  intro value slice pins s σ H x y v u Q I rx ry h hs
  obtain ⟨p, xs, i, z, rfl, rfl, hq, he, q⟩ := h
  cases rx
  obtain ⟨t, rfl⟩ := ry
  obtain ⟨its, r, pl, hz⟩ := I.list hq
  obtain ⟨j, h1, h2, h3, h4, h5⟩ := atI_get he
  obtain ⟨w, ew, rw'⟩ := r.get h2
  have hl := r.length
  have hn := line63
  have fin : EP X pins σ Q w s := ⟨z, H, I, rw', q⟩
  by_cases h0 : 0 ≤ i
  · have hj : i.toNat = j := by
      rw [seqIndex_of h0 h5] at h1
      exact Option.some.inj h1
    exact item_listR pl.isList h0 (by omega) (by rw [hj]; simpa using ew) fin hs
  · have hj : (i + (its.toArray.size : Int)).toNat = j := by
      rw [seqIndex_neg (by omega) h4] at h1
      rw [List.size_toArray, ← hl]
      exact Option.some.inj h1
    exact subscriptTail_builtinR (x := w) pl.isList.typeIs slot_list_getitem.lookup
      (wpAny_getItem_list_neg (Q := fun r s' => r = w ∧ EP X pins σ Q r s') pl.isList (by omega) (by rw [List.size_toArray] <;> omega) (by omega) (by rw [hj]; simpa using ew) ⟨rfl, fin⟩) hs
theorem ix_tup : IxR X (rIxT X.K) := by
  intro value slice pins s σ H x y v u Q I rx ry h hs
  obtain ⟨p, xs, i, z, rfl, rfl, hq, he, q⟩ := h
  cases rx
  obtain ⟨t, rfl⟩ := ry
  obtain ⟨its, r, pl, hz⟩ := I.tuple hq
  obtain ⟨j, h1, h2, h3, h4, h5⟩ := atI_get he
  obtain ⟨w, ew, rw'⟩ := r.get h2
  have hl := r.length
  have hn := line63
  have fin : EP X pins σ Q w s := ⟨z, H, I, rw', q⟩
  exact subscriptTail_builtinR (x := w) pl.typeIs slot_tuple_getitem.lookup
    (getItem_tuple (j := j) (Q := fun r s' => r = w ∧ EP X pins σ Q r s') pl (by omega) (by omega) (by rw [List.size_toArray, ← hl]; exact h1) (by simpa using ew) ⟨rfl, fin⟩) hs
theorem ix_str : IxR X rIxS := by
  intro value slice pins s σ H x y v u Q I rx ry h hs
  obtain ⟨z, i, c, rfl, rfl, hz, he, q⟩ := h
  obtain ⟨t, rfl⟩ := rx
  obtain ⟨t', rfl⟩ := ry
  obtain ⟨j, h1, h2, h3, h4, h5⟩ := atI_get he
  have hl : z.cps.toList.length = z.length := by simp [Str.length]
  rw [hl] at h1 h4 h5
  have hn := line63
  exact tail_any (typeIs_str s z t) slot_str_getitem.lookup (getItem_str (c := c) (by
    have e1 : decide (i < -(2 ^ 63 : Int)) = false := decide_eq_false (by omega)
    have e2 : decide (i ≥ 2 ^ 63) = false := decide_eq_false (by omega)
    rw [e1, e2, Bool.or_false]) (by rw [h1]; simpa using h2) ⟨.str ⟨#[c]⟩, H, I.tok _, ⟨_, rfl⟩, q⟩) hs
/-! ### xs[i] = v, any sign -/
/-! ### slices -/
/-! ### in, not in: flat items -/
/-! ### len, list(x), tuple(x) of any list or tuple that is read -/
/-! ### the call of a builtin's method: o.m(..) -/
/-- the value is of that builtin type -/
def tyV (K : PySem.W.Frag) (T : String) (x : V) (H : Hp) : Prop := match x with
  | .str _ => T = "str"
  | .int _ => T = "int"
  | .ref p => (T = "list" ∧ ∃ xs, SqL K H p xs) ∨ (T = "tuple" ∧ ∃ o, K.lookup p = some o ∧ o.cls = .type "tuple" ∧ o.dict = none) ∨
      (T = "dict" ∧ ((∃ kvs, H p = some (.dK kvs)) ∨ ∃ kvs, H p = some (.dT kvs))) ∨ (T = "set" ∧ ∃ S n, H p = some (.set S n))
  | _ => False
theorem tyV_is {pins : List (Addr × Obj)} {σ : St} {H : Hp} {s : Shared} {T : String} {x : V} {v : Value} (I : Inv X pins σ H s) (r : RelV x v) (ty : tyV X.K T x H) :
    s.TypeIs v T ∧ ∀ a, v = .ref a → ∃ ob, s.heap.get? a = some ob ∧ ob.dict = none := by
  cases x with
  | str z =>
    obtain ⟨t, rfl⟩ := r
    cases (show T = "str" from ty)
    exact ⟨typeIs_str s z t, fun _ e => nomatch e⟩
  | int i =>
    obtain ⟨t, rfl⟩ := r
    cases (show T = "int" from ty)
    exact ⟨typeIs_int s i t, fun _ e => nomatch e⟩
  | ref p =>
    cases r
    rcases ty with ⟨rfl, xs, hq⟩ | ⟨rfl, o, hk, hc, hd⟩ | ⟨rfl, hk⟩ | ⟨rfl, S, n, hk⟩
    · obtain ⟨its, _, pl, _⟩ := I.list hq
      refine ⟨pl.isList.typeIs, fun a e => ?_⟩
      cases e
      obtain ⟨o, n, e, c, hd, _⟩ := pl
      exact ⟨o, e, hd⟩
    · refine ⟨⟨o, I.kIn p o hk, hc⟩, fun a e => ?_⟩
      cases e
      exact ⟨o, I.kIn _ o hk, hd⟩
    · have z : ∃ o, s.heap.get? p = some o ∧ o.ExactDict := by
        rcases hk with ⟨kvs, hk⟩ | ⟨kvs, hk⟩
        · obtain ⟨_, _, _, _, o, _, _, e, ex, _⟩ := I.hok p _ hk
          exact ⟨o, e, ex⟩
        · obtain ⟨_, _, _, _, o, _, _, e, ex, _⟩ := I.hok p _ hk
          exact ⟨o, e, ex⟩
      obtain ⟨o, e, ex⟩ := z
      refine ⟨⟨o, e, ex.1⟩, fun a e2 => ?_⟩
      cases e2
      exact ⟨o, e, ex.2.1⟩
    · obtain ⟨o, _, _, _, e, ex, _⟩ := I.hok p _ hk
      refine ⟨⟨o, e, ex.1⟩, fun a e2 => ?_⟩
      cases e2
      exact ⟨o, e, ex.2.1⟩
  | _ => exact False.elim ty
def tBM0 (K : PySem.W.Frag) (T : String) (r : V → List V → Hp → VK → Prop) (to : TE) : TE := fun σ H Q => to σ H fun x H1 => tyV K T x H1 ∧ r x [] H1 Q
def tBM (K : PySem.W.Frag) (T : String) (r : V → List V → Hp → VK → Prop) (to : TE) (t : TA) : TE := fun σ H Q => to σ H fun x H1 => tyV K T x H1 ∧ t σ H1 fun xs H2 => r x xs H2 Q
variable {o e : Expr} {es : List Expr} {to : TE} {t : TA} {name : Str} {apos cpos : Pos} {T id : String} {r : V → List V → Hp → VK → Prop}
theorem pe_bm0 (pa : PlainAttrs T) (slot : Slot T name id) (hty : typeOf (.builtin id) = pure (.type "method_descriptor")) (hm : MtR X id r) (ho : PE X o to)
    (hbase : attributeBase o name X.env (eval o X.env) = eval o X.env := by rfl) (hline : (apos.endLine == cpos.line) = true := by rfl) : PE X (.Call (.Attribute o name apos) [] [] cpos) (tBM0 X.K T r to) := by
  intro pins s σ H Q I h
  refine wpAny_Call_method0_late hbase hline (thn (ho pins s σ H _ I h) fun v s1 ⟨x, H1, I1, r1, ty, q1⟩ => ?_)
  obtain ⟨h1, h2⟩ := tyV_is I1 r1 ty
  exact ⟨T, id, pa, slot, hty, h1, h2, Calls.callWith_builtin rfl (PySem.evalArgs_none (hm pins s1 σ H1 x [] v [] Q I1 r1 .nil q1))⟩
theorem pe_bm (pa : PlainAttrs T) (slot : Slot T name id) (hty : typeOf (.builtin id) = pure (.type "method_descriptor")) (hm : MtR X id r) (ho : PE X o to) (ha : PA X (e :: es) t)
    (hbase : attributeBase o name X.env (eval o X.env) = eval o X.env := by rfl)
    (hfew : ((backTo cpos (starEach (e :: es) X.env)).all (fun x => !x.1) && (backToKw cpos (keywordEach [] X.env)).all (fun x => x.1.isSome)
      && decide ((e :: es).length + ([] : List Keyword).length + (if ([] : List Keyword).isEmpty then 0 else 1) < 30)) = true := by rfl)
    (hline : (apos.endLine == cpos.line) = true := by rfl) (hs : starEach (e :: es) X.env = (false, eval e X.env) :: starEach es X.env := by rfl) (hplain : (backTo cpos (starEach es X.env)).any (·.1) = false := by rfl) :
    PE X (.Call (.Attribute o name apos) (e :: es) [] cpos) (tBM X.K T r to t) := by
  intro pins s σ H Q I h
  refine wpAny_Call_method_late hbase hfew hline rfl (thn (ho pins s σ H _ I h) fun v s1 ⟨x, H1, I1, r1, ty, q1⟩ => ?_)
  obtain ⟨h1, h2⟩ := tyV_is I1 r1 ty
  refine ⟨T, id, pa, slot, hty, h1, h2, ?_⟩
  have hA := ha cpos pins s1 σ H1 _ I1 q1
  rw [hs] at hA ⊢
  refine Calls.callWith_builtin (by show (false || (backTo cpos (starEach es X.env)).any (·.1)) = false; rw [hplain] <;> rfl) (Calls.evalArgs_plain ?_)
  exact thn hA fun us s2 ⟨vs, H2, I2, r2, q2⟩ => hm pins s2 σ H2 x vs v us Q I2 r1 r2 q2
/- xs.append(e), list.index on a module's tuple .. are MtR facts of 06m -/
end
end L2

namespace L2
open PySem PySem.Spec PyProof.Rows

def MtM (X : Cx) (id : String) (r : V → List V → Hp → VK → Prop) : Prop :=
  ∀ (pins : List (Addr × Obj)) (s : Shared) (σ : St) (H : Hp) (x : V) (xs : List V) (v : Value) (us : List Value) (Q : VK), Inv X pins σ H s → RelV x v → Vals xs us → r x xs H Q →
    wpAny (model X.prog X.w) X.A (call (.builtin id) (v :: us)) (EP X pins σ Q) X.xe s

/-! ### lists of values -/
theorem Vals.one : ∀ {x : V} {us : List Value}, Vals [x] us → ∃ u, us = [u] ∧ RelV x u
  | _, _, .cons r .nil => ⟨_, rfl, r⟩
theorem Vals.two : ∀ {x y : V} {us : List Value}, Vals [x, y] us → ∃ u v, us = [u, v] ∧ RelV x u ∧ RelV y v
  | _, _, _, .cons r (.cons q .nil) => ⟨_, _, rfl, r, q⟩
section
variable {X : Cx} {pins : List (Addr × Obj)} {σ : St} {H : Hp} {s : Shared} {l b : Addr} {xs ys zs : List V}

/-! ### the two steps: a tracked list is rewritten, a new list is laid -/
theorem Inv.lset {its its' : List Value} {n : Nat} {f : Array Value → Array Value} {t' : Nat} (I : Inv X pins σ H s) (hH : H l = some (.lst xs))
    (e : s.heap.get? l = some { cls := .type "list", data := .seq its.toArray n }) (hf : f its.toArray = its'.toArray) (hv : Vals ys its') (hz : ys.length ≤ sizeLine) :
    Inv X pins σ (upd H l (.lst ys)) { s with heap := s.heap.update l (Obj.mapSeq f), toks := t' } := by
  have q := PySem.IsL.update e f
  rw [hf] at q
  refine I.write (x := l) (e := l) (by rw [hH]; exact trivial) (.inl rfl) (fun b' u hb hu => (Heap.get?_update_other s.heap (Obj.mapSeq f) (Ne.symm hb)).trans hu) ⟨_, q⟩ ?_
  exact ⟨hz, its', _, hv, q⟩
theorem Inv.lnew {its : List Value} {t' : Nat} (I : Inv X pins σ H s) (hv : Vals ys its) (hz : ys.length ≤ sizeLine) :
    Inv X pins σ (upd H s.heap.objs.size (.lst ys)) { s with heap := s.heap.push { cls := .type "list", data := .seq its.toArray }, toks := t' } :=
  I.laid (fun _ _ q => Heap.get?_push_of_some _ q) (Nat.le_refl _) ⟨hz, its, 0, hv, Heap.get?_push_size _ rfl⟩
theorem Inv.fresh (I : Inv X pins σ H s) : H s.heap.objs.size = none := I.hok.fresh (Nat.le_refl _)
theorem Inv.lstM (I : Inv X pins σ H s) (hH : H l = some (.lst xs)) : xs.length ≤ sizeLine ∧ ∃ (its : List Value) (n : Nat), Vals xs its ∧ xs.length = its.length ∧ s.heap.get? l = some { cls := .type "list", data := .seq its.toArray n } := by
  obtain ⟨z, its, n, r, e⟩ := I.hok l _ hH
  exact ⟨z, its, n, r, r.length, e⟩

theorem notLongL {n : Nat} (h : n ≤ sizeLine) : Builtin.List.listTooLong n = false := by
  unfold Builtin.List.listTooLong
  exact decide_eq_false (by omega)
end

section
variable {X : Cx}

/-! ### methods -/
def rAppend : V → List V → Hp → VK → Prop := fun x vs H Q => ∃ l xs y, x = .ref l ∧ vs = [y] ∧ H l = some (.lst xs) ∧ xs.length < sizeLine ∧ Q .non (upd H l (.lst (xs ++ [y])))
theorem mt_append : MtM X "list.append" rAppend := by
  intro pins s σ H x vs v us Q I rx rv h
  obtain ⟨l, xs, y, rfl, rfl, hH, hz, q⟩ := h
  cases rx
  obtain ⟨u, rfl, ru⟩ := rv.one
  obtain ⟨z, its, n, r, hl, e⟩ := I.lstM hH
  refine call_meets F.slot_list_append ⟨_, e, rfl⟩ F.entry_list_append (F.args_list_append_2 _ _) (PySem.list_append l its.toArray n u (by rw [List.size_toArray]; omega)) ⟨e, ?_⟩
  refine ⟨.non, _, I.lset (its' := its ++ [u]) hH e (by simp) (r.append (.cons ru .nil)) ?_, rfl, q⟩
  rw [List.length_append, List.length_singleton]
  omega

def rExtend : V → List V → Hp → VK → Prop := fun x vs H Q => ∃ l b xs zs, x = .ref l ∧ vs = [.ref b] ∧ H l = some (.lst xs) ∧ H b = some (.lst zs) ∧ xs.length + zs.length ≤ sizeLine ∧ Q .non (upd H l (.lst (xs ++ zs)))
theorem mt_extend : MtM X "list.extend" rExtend := by
  intro pins s σ H x vs v us Q I rx rv h
  obtain ⟨l, b, xs, zs, rfl, rfl, hH, hB, hz, q⟩ := h
  cases rx
  obtain ⟨u, rfl, ru⟩ := rv.one
  cases ru
  obtain ⟨z, its, n, r, hl, e⟩ := I.lstM hH
  obtain ⟨z2, its2, n2, r2, hl2, e2⟩ := I.lstM hB
  have hsz : its.toArray.size + its2.toArray.size ≤ sizeLine := by rw [List.size_toArray, List.size_toArray]; omega
  have hlong : ¬ (!its.toArray.isEmpty && Builtin.List.listTooLong (its.toArray.size + its2.toArray.size)) = true := by
    rw [notLongL hsz, Bool.and_false]
    exact Bool.false_ne_true
  refine call_meets F.slot_list_extend ⟨_, e, rfl⟩ F.entry_list_extend (F.args_list_extend_2 _ _)
    (AutoSeq1.list_extend_list_list_0 l its.toArray n b its2.toArray n2 hlong (by rw [List.size_toArray]; omega) (by omega)) ⟨e, e2, ?_⟩
  refine ⟨.non, _, I.lset (its' := its ++ its2) hH e (by simp) (r.append r2) ?_, rfl, q⟩
  rw [List.length_append]
  omega

/-! ### list + list, list += list, list * int -/
def rCat : R2 := fun x y H Q => ∃ l b xs zs, x = .ref l ∧ y = .ref b ∧ H l = some (.lst xs) ∧ H b = some (.lst zs) ∧ xs.length + zs.length ≤ sizeLine ∧ ∀ p, H p = none → Q (.ref p) (upd H p (.lst (xs ++ zs)))
theorem op_cat : OpR X (binaryOp .Add) rCat := by
  intro pins s σ H x y v u Q I rx ry h
  obtain ⟨l, b, xs, zs, rfl, rfl, hH, hB, hz, q⟩ := h
  cases rx
  cases ry
  obtain ⟨z, its, n, r, hl, e⟩ := I.lstM hH
  obtain ⟨z2, its2, n2, r2, hl2, e2⟩ := I.lstM hB
  refine PySem.P.add_list e e2 ?_ (by rw [List.size_toArray, List.size_toArray]; omega)
  have ea : its.toArray ++ its2.toArray = (its ++ its2).toArray := by simp
  rw [ea]
  exact ⟨.ref _, _, I.lnew (t' := s.toks) (r.append r2) (by rw [List.length_append]; omega), rfl, q _ I.fresh⟩
/-! ### del xs[i] -/
end

/-! ### xs[a:b] = ys -/
section
variable {prog : Program} {w : World} {A : Around} {E : Value → Shared → Prop} {s : Shared}
set_option maxRecDepth 100000 in
end

section
variable {X : Cx}
end
end L2

namespace L2
open PySem PySem.Spec PyProof.Rows

/-! ### lists of pairs as tables -/
section
variable {κ : Type} [DecidableEq κ]
end

/-! ### a tracked dict, its keys ints and texts or tuples of these -/
section
variable {P : Program} {w : World} {H : Hp} {h : Heap} {a : Addr}
end

section
variable {X : Cx} {pins : List (Addr × Obj)} {σ : St} {H : Hp} {s : Shared} {a : Addr} {y v : V} {u r : Value} {o : Option V} {A : Around} {E : Value → Shared → Prop}

end

section
variable {X : Cx} {pins : List (Addr × Obj)} {σ : St} {H : Hp} {s : Shared} {a : Addr} {kvs : List (Key × V)} {k : Key} {u : Value} {A : Around} {E : Value → Shared → Prop}
end

/-! ### readings and rules -/
section
variable {X : Cx} {o i e value : Expr} {pos pos' tpos : Pos} {td ty tv : TE}
end

/-! ### displays -/
section
variable {X : Cx} {pos : Pos}
end

/-! ### methods -/
/-- a method call o.m(e) of a built-in, with one argument: what must be seen of the text -/
structure M1 (X : Cx) (o : Expr) (m : Str) (apos : Pos) (e : Expr) (cpos : Pos) : Prop where
  base : attributeBase o m X.env (eval o X.env) = eval o X.env
  few : ((backTo cpos (starEach [e] X.env)).all (fun x => !x.1) && (backToKw cpos (keywordEach [] X.env)).all (fun x => x.1.isSome)
    && decide (([e] : List Expr).length + ([] : List Keyword).length + (if ([] : List Keyword).isEmpty then 0 else 1) < 30)) = true
  line : (apos.endLine == cpos.line) = true
  trees : backTo cpos (starEach [e] X.env) = [(false, eval e X.env)]
structure M2 (X : Cx) (o : Expr) (m : Str) (apos : Pos) (e f : Expr) (cpos : Pos) : Prop where
  base : attributeBase o m X.env (eval o X.env) = eval o X.env
  few : ((backTo cpos (starEach [e, f] X.env)).all (fun x => !x.1) && (backToKw cpos (keywordEach [] X.env)).all (fun x => x.1.isSome)
    && decide (([e, f] : List Expr).length + ([] : List Keyword).length + (if ([] : List Keyword).isEmpty then 0 else 1) < 30)) = true
  line : (apos.endLine == cpos.line) = true
  trees : backTo cpos (starEach [e, f] X.env) = [(false, eval e X.env), (false, eval f X.env)]

section
variable {X : Cx} {pins : List (Addr × Obj)} {σ : St} {H : Hp} {s : Shared} {a : Addr} {y d : V} {u r : Value} {o : Option V} {A : Around} {E : Value → Shared → Prop}
end

section
variable {X : Cx} {o e f : Expr} {apos cpos : Pos} {td ty tx : TE}
end

/-! ### dict(d): a copy -/
section
variable {X : Cx} {pins : List (Addr × Obj)} {σ : St} {H : Hp} {s : Shared} {a : Addr} {kvs : List (Key × V)} {A : Around} {E : Value → Shared → Prop}
end

section
variable {X : Cx} {pins : List (Addr × Obj)} {σ : St} {H : Hp} {s : Shared} {a : Addr} {y : V} {u : Value} {A : Around} {E : Value → Shared → Prop}
end
end L2

namespace Att
open PySem PySem.W PySem.Calls PyProof.Rows

/-! ### the script -/
theorem ints_of_wellAll {P : Params} {h : Heap} : ∀ (ns : List Int) (vs : List Value), WellAll P h vs (ns.map WData.int) → IntsAre vs ns := by
  intro ns
  induction ns with
  | nil =>
    intro vs w
    rw [List.map_nil] at w
    cases w
    exact .nil
  | cons n ns ih =>
    intro vs w
    rw [List.map_cons] at w
    cases w with
    | cons a b =>
      cases a
      exact .cons _ _ (ih _ b)

theorem script_of {l : OpenLaw} {n : Nat} (hn : l.most = some n) {P : Params} {h : Heap} {args : List WData} {vals : List Value}
    (hpre : l.row.toRowW.claim.pre args = true) (hwl : WellAll P h vals args) :
    ∃ a vs ns, vals = [Value.ref a] ∧ args = [WData.list (ns.map WData.int)] ∧ h.get? a = some { cls := .type "list", data := .seq vs.toArray } ∧ IntsAre vs ns ∧ ns.length ≤ n := by
  have hsh : WShape.hasAll [] args [.list .int] = true := (pre_splitW hpre).1
  have hc : l.pre.holds [] { args := args } = true := (pre_splitW hpre).2
  obtain ⟨d, r, rfl, h1, h2⟩ := hasAllW_cons hsh
  obtain rfl := hasAllW_nil h2
  obtain ⟨xs, rfl, h3⟩ := hasW_list h1
  obtain ⟨ns, rfl⟩ := items_int h3
  have hlen : ns.length ≤ n := by
    unfold OpenLaw.pre at hc
    have h4 : (WTm.not (.lt (.lit (.int (n : Int))) (.len (.arg 0)))).holds [] { args := [.list (ns.map .int)] } = true := by
      have h4 := (holds_andW hc).1
      rw [hn] at h4
      exact h4
    have h5 := condW_of h4 (w_not (w_lt w_lit (w_len_list (w_arg rfl))))
    rw [List.length_map] at h5
    refine Nat.le_of_not_lt fun q => ?_
    have q' : (n : Int) < ((ns.length : Nat) : Int) := by omega
    first
      | (rw [decide_eq_true q'] at h5; exact absurd h5 (by decide))
      | (simp at h5; omega)
  cases hwl with
  | cons w1 w2 =>
    cases w2
    cases w1 with
    | list ho hall => exact ⟨_, _, ns, rfl, rfl, ho, ints_of_wellAll ns _ hall, hlen⟩

theorem post_true (l : OpenLaw) (args : List WData) : l.row.toRowW.claim.post args (.bool true) args = true :=
  postW_of (r := l.row.toRowW) (X := (true == true))
    (show WShape.has [] (.bool true) .bool = true by first | rfl | decide | simp [WShape.has, WShape.arms, WShape.armsAll])
    (show (WTm.eq .res (.lit (.bool true))).value [] { args := args, res := some (.bool true), after := args } = some (.bool (true == true)) from w_eq_bool (w_res rfl) w_lit) rfl

/-! ### the attachment: holds_open's last premise (the goal 'hc' behind k_head) from a wpAny of the law's body -/
/-- the same from a codeAny of the CALL (for a layer whose function contracts speak of calls) -/
theorem attach_call {l : OpenLaw} {n : Nat} {q : Program} {loose : List Str} {XP : (Str → Option Value) → Heap → Prop} {YP : World → Heap → Prop} {d : DefRec}
    (hn : l.most = some n) (hdf : d.params.defaults = [])
    (call : ∀ (w : World) (s₀ s₁ : Shared) (mg mb : Str → Option Value) (fa : Addr) (o : Obj) (pm cd doc : Value) (a : Addr) (vs : List Value) (ns : List Int),
      Ground q loose [] XP w s₀ mg mb s₁.heap → YP w s₁.heap →
      s₁.heap.get? fa = some o → o.data = .func (docDef d.name d.params d.body d.scope pm cd doc) → s₁.heap.CodeRec cd d.name → mg d.name = some (.ref fa) →
      s₁.heap.get? a = some { cls := .type "list", data := .seq vs.toArray } → IntsAre vs ns → ns.length ≤ n → s₁.gens = #[] →
      codeAny (model l.prog w) callerA (.call (.ref fa) ⟨[.ref a], []⟩) (fun r s' => r = .ok (.ret (.bool true)) ∧ OldK s₁.heap s'.heap ∧ s'.os = s₁.os ∧ AllBare s'.gens) s₁) :
    WalkO q loose XP YP l.row.toRowW d [] (fun f vs => PySem.call f vs) := by
  intro w s₀ s₁ mg mb G Y fa o pm cd doc dV kV ho hd hcd hD hmg hg args vals as hpre hlay hrd hwl hlo
  obtain rfl : dV = .none := Dflts.none hD hdf
  obtain rfl : kV = .none := Dflts.noKw hD
  obtain ⟨a, vs, ns, rfl, rfl, hobj, hints, hlen⟩ := script_of hn hpre hwl
  refine enter_call (codeAny_mono (call w s₀ s₁ mg mb fa o pm cd doc a vs ns G Y ho (fd_plain hd) hcd hmg hobj hints hlen hg) fun r s' hq => ?_)
  obtain ⟨rfl, h2, h3, h4⟩ := hq
  exact ⟨.inl ⟨.bool true, .bool true, [], rfl, fun _ => rfl, .bool true, post_true l _, fun _ => ⟨List.Pairwise.nil, fun _ hm => (nomatch hm)⟩⟩, h2, h3, h4⟩

/-! ### rules over ANY heap (no ledger) from facts about the written part K: the library's own take a ledger (News) for what they write -/
section
variable {prog : Program} {w : World} {A : Around} {E : Value → Shared → Prop} {s : Shared} {K : Frag}

/-! the whole heap as the ledger: makes every rule that writes through a ledger a rule over any heap -/
def ledger (h : Heap) (L d : Addr) : List (Addr × Obj) := (List.range h.objs.size).filterMap fun a => if a = L ∨ a = d then none else (h.get? a).map fun o => (a, o)
end
end Att

namespace L2
open PySem PySem.Spec PyProof.Rows

theorem vals_ints : ∀ {vs : List Value} {ns : List Int}, IntsAre vs ns → Vals (ns.map V.int) vs
  | _, _, .nil => .nil
  | _, _, .cons n t h => .cons ⟨t, rfl⟩ (vals_ints h)

/-- nothing is tracked but the script, known to the object (or it is an object of the module) -/
def Only (H : Hp) : Prop := ∀ b, H b = none ∨ ∃ o xs, H b = some (.frz o (.lst xs))

/-- THE HEAD: the law's promise, at the heap behind the top. F, the promise of the law's def, may use that base is part of the heap (so K.In base, base.Ns mainGlobals mg stand in Mod) -/
theorem law_call {P : Program} {w : World} {K : PySem.W.Frag} {mg mb : Str → Option Value} {CX : CXT} {k : Nat} {fa a : Addr} {fd : FuncData} {x : Str} {sp : Sp} {s₁ : Shared} {vs : List Value} {ns : List Int}
    (KX : K.In s₁.heap) (hns : s₁.heap.Ns mainGlobals mg) (hb : s₁.heap.Ns builtinsNs mb) (hbb : ∀ x : Str, x ≠ "__name__" → mb x = bootBuiltins x) (hlim : s₁.heap.NoLimit) (hg : s₁.gens = #[])
    (ha : s₁.heap.get? a = some { cls := .type "list", data := .seq vs.toArray }) (hi : IntsAre vs ns) (hl : ns.length ≤ sizeLine) (hr : Room k callerA)
    (F : ∀ base : Heap, K.In base → base.Ns mainGlobals mg → FnOk P w K mg base CX k fa fd [x] sp) (hbind : ∀ (s : Shared) (u : Value), BindsTo s fd ⟨[u], []⟩ [(x, u)])
    (hsp : ∀ H : Hp, Only H → SqL K H a (ns.map V.int) → sp [.ref a] H (fun v _ => v = .bl true) fun _ _ _ => False)
    (hCX : ∀ H e s', CX [] H s₁ (fun _ _ _ => False) e s' → False) :
    codeAny (model P w) callerA (.call (.ref fa) ⟨[.ref a], []⟩) (fun r s' => r = .ok (.ret (.bool true)) ∧ OldK s₁.heap s'.heap ∧ s'.os = s₁.os ∧ AllBare s'.gens) s₁ := by
  have rv := vals_ints hi
  have lenV := hi.length
  -- from an abstract heap in which nothing but the script may be tracked
  have core : ∀ H : Hp, Only H → SqL K H a (ns.map V.int) → HOk P w H s₁.heap → (∀ b, H b ≠ none → b = a) → (H a ≠ none → K.lookup a = none) →
      codeAny (model P w) callerA (.call (.ref fa) ⟨[.ref a], []⟩) (fun r s' => r = .ok (.ret (.bool true)) ∧ OldK s₁.heap s'.heap ∧ s'.os = s₁.os ∧ AllBare s'.gens) s₁ := by
    intro H hO hS hok hA hK
    have base_of : ∀ {b : Addr} {o : Obj}, s₁.heap.get? b = some o → H b = none → (hidT s₁.heap H).get? b = some o := fun e n => hidT_get e n
    have noA : ∀ {b : Addr} {o : Obj} {es : Array DictEntry} {ep : Nat}, s₁.heap.get? b = some o → o.data = .dict es ep → H b = none := fun {b o es ep} e d => by
      cases q : H b with
      | none => rfl
      | some u =>
        have e' : b = a := hA b (by rw [q]; simp)
        subst e'
        rw [ha] at e; cases e
        have d' : Data.seq vs.toArray _ = Data.dict es ep := d
        cases d'
    have nsK : ∀ {b : Addr} {m : Str → Option Value}, s₁.heap.Ns b m → (hidT s₁.heap H).Ns b m := fun {b m} ⟨o, es, ep, e, d, r⟩ => ⟨o, es, ep, base_of e (noA e d), d, r⟩
    have hKb : K.In (hidT s₁.heap H) := fun b o e => base_of (KX b o e) (by
      cases q : H b with
      | none => rfl
      | some u =>
        have e' : b = a := hA b (by rw [q]; simp)
        subst e'
        rw [hK (by rw [q]; simp)] at e; cases e)
    have hM : Mod K mg (hidT s₁.heap H) := ⟨hKb, nsK hns, ⟨mb, nsK hb, hbb⟩, let ⟨mc, h1, h2⟩ := hlim; ⟨mc, nsK h1, h2⟩⟩
    have e0 : Env0 P w K mg (hidT s₁.heap H) callerA [] s₁ H := ⟨rfl, hM, fun b o e => of_hidT e, Nat.le_of_eq (hidT_size _ _), trivial, fun b hb => absurd (show b ∈ ([] : List Addr) from hb) (by simp), hok, .of_eq hg⟩
    refine codeAny_mono ((F _ hKb (nsK hns)).run callerA [] s₁ H ⟨[.ref a], []⟩ [.ref a] [.ref a] _ _ hr e0 (hbind s₁ (.ref a)) (.cons rfl .nil) (hsp H hO hS)) fun r s' h => ?_
    cases r with
    | error e => exact (hCX H e s' h).elim
    | ok fl =>
      cases fl with
      | next => exact False.elim h
      | brk => exact False.elim h
      | cont => exact False.elim h
      | ret u =>
        obtain ⟨v, H', os, bare, un, hok', r', q⟩ := h
        have q' : v = .bl true := q
        subst q'
        obtain rfl : u = Value.bool true := r'
        refine ⟨rfl, OldK.of_keep fun b o e => ?_, os, bare⟩
        cases q : H b with
        | none => exact un.keep b o e q (by intro z; exact absurd (show b ∈ ([] : List Addr) from z) (by simp)) (by simp)
        | some u =>
          rcases hO b with z | ⟨ob, xs, z⟩
          · rw [q] at z; cases z
          · have z2 := un.frzs b ob _ z
            obtain ⟨e1, _⟩ := hok b _ z
            obtain ⟨e2, _⟩ := hok' b _ z2
            rw [e] at e1; cases e1
            exact e2
  cases hk : K.lookup a with
  | some o =>
    -- the script is one of the module's own objects
    have e := KX a o hk
    rw [ha] at e
    cases e
    refine core (fun _ => none) (fun _ => .inl rfl) (.inr ⟨_, vs.toArray, _, hk, rfl, rfl, rfl, by rw [List.size_toArray, lenV]; exact hl, by simpa using rv⟩) (fun b u z => by have z' : (none : Option HO) = some u := z; cases z') (fun b z => absurd rfl z) fun z => absurd rfl z
  | none =>
    refine core (fun b => if b = a then some (.frz { cls := .type "list", data := .seq vs.toArray } (.lst (ns.map V.int))) else none) (fun b => ?_) (.inl (.inr ⟨{ cls := .type "list", data := .seq vs.toArray }, if_pos rfl⟩)) (fun b u z => ?_) (fun b z => ?_) fun _ => hk
    · by_cases hb : b = a
      · exact .inr ⟨_, _, if_pos hb⟩
      · exact .inl (if_neg hb)
    · by_cases hb : b = a
      · have z' := (if_pos hb).symm.trans z
        cases z'
        subst hb
        exact ⟨ha, by rw [List.length_map]; exact hl, vs, _, rv, ha⟩
      · have z' := (if_neg hb).symm.trans z
        cases z'
    · by_cases hb : b = a
      · exact hb
      · exact absurd (if_neg hb) z
end L2

namespace L2
open PySem PySem.Spec PyProof.Rows

/-- the goal that k_head leaves (case hc), from the law's promise. F gives the function object fd (K's own) once, then the promise over every base -/
theorem walk_of {l : PySem.W.OpenLaw} {n k : Nat} {q : Program} {loose : List Str} {XP : (Str → Option Value) → Heap → Prop} {YP : World → Heap → Prop} {d : DefRec} {K : Params → PySem.W.Frag} {CX : World → CXT} {sp : World → Sp} {x : Str}
    (hn : l.most = some n) (hn2 : n ≤ sizeLine) (hdf : d.params.defaults = []) (hr : Room k callerA)
    (hY : ∀ (w : World) (h : Heap), YP w h → (K w.params).In h)
    (F : ∀ (w : World) (mg : Str → Option Value) (fa : Addr) (h : Heap), (K w.params).In h → h.Ns mainGlobals mg → mg d.name = some (.ref fa) →
      ∃ fd : FuncData, (∀ (s : Shared) (u : Value), BindsTo s fd ⟨[u], []⟩ [(x, u)]) ∧
        ∀ base : Heap, (K w.params).In base → base.Ns mainGlobals mg → FnOk l.prog w (K w.params) mg base (CX w) k fa fd [x] (sp w))
    (hsp : ∀ (w : World) (H : Hp) (a : Addr) (ns : List Int), ns.length ≤ n → Only H → SqL (K w.params) H a (ns.map V.int) → sp w [.ref a] H (fun v _ => v = .bl true) fun _ _ _ => False)
    (hCX : ∀ (w : World) (H : Hp) (s : Shared) (e : Value) (s' : Shared), CX w [] H s (fun _ _ _ => False) e s' → False) :
    PySem.W.WalkO q loose XP YP l.row.toRowW d [] (fun f vs => PySem.call f vs) := by
  refine Att.attach_call hn hdf fun w s₀ s₁ mg mb fa o pm cd doc a vs ns G Y ho hd hcd hmg hobj hints hlen hg => ?_
  have KX := hY w _ Y
  obtain ⟨fd, hb, hF⟩ := F w mg fa _ KX G.T.g hmg
  exact law_call KX G.T.g G.T.b G.T.builtins G.T.nolimit hg hobj hints (Nat.le_trans hlen hn2) hr hF hb (fun H hO hS => hsp w H a ns hlen hO hS) fun H e s' => hCX w H s₁ e s'
end L2

/-! SHORT WORDS over the layer: a def of the text, its body, what a loop and a test want. -/
namespace L2
open PySem PySem.Spec PyProof.Rows

/-! ### the text by places -/
def defArgs (s : Stmt) : Arguments := match s with
  | .FunctionDef _ a _ _ _ _ _ _ _ _ => a
  | _ => { posonlyargs := [], args := [], vararg := none, kwonlyargs := [], kw_defaults := [], kwarg := none, defaults := [] }
def defBody (s : Stmt) : List Stmt := match s with
  | .FunctionDef _ _ b _ _ _ _ _ _ _ => b
  | _ => []
def defScope (s : Stmt) : Scope := match s with
  | .FunctionDef _ _ _ _ _ _ sc _ _ _ => sc
  | _ => { kind := .function, names := [], isGenerator := false, isCoroutine := false }

/-! ### no exception leaves a def -/
abbrev CX0 : CXT := fun _ _ _ _ _ _ => False
abbrev E0 : XK := fun _ _ _ => False
theorem pass0 {X : Cx} : Passes CX0 X E0 := fun _ _ _ _ _ _ _ h => h.elim

/-! ### a def (or method) of the text as it stands behind the top -/
structure Fun (K : PySem.W.Frag) (x qual : Str) (st : Stmt) (f : Addr) (fd : FuncData) : Prop where
  ex : ∃ (oc : Value) (od : Option Addr) (kV doc pm : Value) (an : Option Addr) (cdv ct : Value) (osl : Array (Option Value)),
    fd = PySem.W.fnOf x qual (defArgs st) (defBody st) (defScope st) .none kV doc pm an cdv ct ∧ K.lookup f = some ⟨oc, od, .func fd, osl⟩ ∧ PySem.W.codeIn K cdv qual = true
  kp : PySem.W.keepIn K (.ref f) = true
section
variable {P : Program} {w : World} {K : PySem.W.Frag} {mg : Str → Option Value} {base : Heap}
/-- THE RULE for a def: its body as a term of rules, and the reading of that term -/
theorem Fun.ok {x qual : Str} {st : Stmt} {f : Addr} {fd : FuncData} {N ps : List Str} {k : Nat} {sp : Sp} (F : Fun K x qual st f fd) (S : FnScope N ps (defScope st)) (len : ∀ vs H Q E, sp vs H Q E → vs.length = ps.length)
    (hbody : ∀ (cdv : Value) (A : Around) (outer : List Env) (s : Shared) (H : Hp) (vs : List V) (Q : VK) (E : XK), Room k (A.deeper (envOfC qual (defScope st) s.heap.objs.size f cdv)) → sp vs H Q E →
      ∃ t, PSs (cxOf CX0 P w K mg base N qual (defScope st) f cdv A outer s H E).nox (defBody st) t ∧ t { nx := fun _ H' => Q .non H', rt := Q } (start N vs) H) : FnOk P w K mg base CX0 (k + 1) f fd ps sp := by
  obtain ⟨oc, od, kV, doc, pm, an, cdv, ct, osl, rfl, lk, hcd⟩ := F.ex
  refine fn_of lk hcd S len fun A outer s H vs Q E hr hsp => ?_
  obtain ⟨t, h, q⟩ := hbody cdv A outer s H vs Q E hr hsp
  exact ⟨t, h.nox, q⟩
/-- how its arguments bind (no defaults): h is «fun _ _ _ _ _ _ us hl => match us, hl with | [_, _], _ => rfl», one _ a parameter -/
theorem Fun.binds {x qual : Str} {st : Stmt} {f : Addr} {fd : FuncData} {ps : List Str} (F : Fun K x qual st f fd)
    (h : ∀ (kV doc pm : Value) (an : Option Addr) (cdv ct : Value) (us : List Value), us.length = ps.length → bindArgs (PySem.W.fnOf x qual (defArgs st) (defBody st) (defScope st) .none kV doc pm an cdv ct) ⟨us, []⟩ = pure (ps.zip us)) : Binds K fd ps [] := by
  obtain ⟨oc, od, kV, doc, pm, an, cdv, ct, osl, rfl, lk, hcd⟩ := F.ex
  exact .all (h kV doc pm an cdv ct)
theorem fun_mk {x qual : Str} {st : Stmt} {f : Addr} {oc : Value} {od an : Option Addr} {osl : Array (Option Value)} {kV doc pm cdv ct : Value} (l : K.lookup f = some ⟨oc, od, .func (PySem.W.fnOf x qual (defArgs st) (defBody st) (defScope st) .none kV doc pm an cdv ct), osl⟩)
    (c : PySem.W.codeIn K cdv qual = true) (k : PySem.W.keepIn K (.ref f) = true) : Fun K x qual st f (PySem.W.fnOf x qual (defArgs st) (defBody st) (defScope st) .none kV doc pm an cdv ct) := ⟨⟨oc, od, kV, doc, pm, an, cdv, ct, osl, rfl, l, c⟩, k⟩
end
theorem small1000 {n : Nat} (h : n ≤ 1000) : n < sizeLine := Nat.lt_of_le_of_lt h (by decide)

/-! ### expressions in short: the name that stands in the i-th slot -/
section
variable {X : Cx}
theorem pv (i : Nat) {x : Str} {pos : Pos} (hN : X.N[i]? = some x := by rfl) (hv : Vis X.env.scope x := by first | exact Or.inl rfl | exact Or.inr (Or.inl rfl) | exact Or.inr (Or.inr rfl)) (hd : (x == ("__debug__" : Str)) = false := by decide)
    (hcd : (x == ("__classdict__" : Str)) = false := by decide) : PE X (.Name x pos) (tVar i) := pe_var hN hv hd hcd
end

/-! ### tests -/
theorem iteF {A B : Prop} (h : B) : if false = true then A else B := by
  rw [if_neg Bool.false_ne_true]
  exact h
theorem iteT {A B : Prop} (h : A) : if true = true then A else B := by
  rw [if_pos rfl]
  exact h
theorem ite2 {c A B : Prop} [Decidable c] (h1 : c → A) (h2 : ¬ c → B) : if c then A else B := by
  by_cases h : c
  · rw [if_pos h]
    exact h1 h
  · rw [if_neg h]
    exact h2 h
theorem iteNS {c A B : Prop} [Decidable c] (hc : c) (h : B) : if (!decide c) = true then A else B := by
  rw [decide_eq_true hc]
  exact iteF h

/-! ### heaps -/
/-- all that was tracked is as it was -/
def Same (H H' : Hp) : Prop := ∀ b o, H b = some o → H' b = some o
theorem Same.refl (H : Hp) : Same H H := fun _ _ h => h
theorem Same.trans {H H1 H2 : Hp} (a : Same H H1) (b : Same H1 H2) : Same H H2 := fun c o h => b c o (a c o h)
theorem Same.seq {K : PySem.W.Frag} {H H' : Hp} {a : Addr} {xs : List V} (e : Same H H') (h : SqL K H a xs) : SqL K H' a xs := by
  rcases h with (h | ⟨o, h⟩) | h
  · exact .inl (.inl (e _ _ h))
  · exact .inl (.inr ⟨o, e _ _ h⟩)
  · exact .inr h

/-! ### a dict's pairs: keys that differ -/
section
variable {κ : Type} [DecidableEq κ]
end
end L2

namespace L2
open PySem PySem.Spec PyProof.Rows

/-! ### small rules -/
section
variable {X : Cx} {a b c : Expr} {ta tb tc : TE} {pos : Pos}
/-- a name of the top that holds an int, a text, an object -/
theorem pe_gI {x : Str} {i : Int} (h : ∃ t, X.mg x = some (.int i t)) (hg : Gl X x := by rfl) (hd : (x == ("__debug__" : Str)) = false := by decide) : PE X (.Name x pos) (tC (.int i)) := by
  obtain ⟨t, h⟩ := h
  exact pe_glob hg h ⟨t, rfl⟩ hd
theorem pe_gS {x z : Str} (h : ∃ t, X.mg x = some (.str z t)) (hg : Gl X x := by rfl) (hd : (x == ("__debug__" : Str)) = false := by decide) : PE X (.Name x pos) (tC (.str z)) := by
  obtain ⟨t, h⟩ := h
  exact pe_glob hg h ⟨t, rfl⟩ hd
theorem pe_gR {x : Str} {f : Addr} (h : X.mg x = some (.ref f)) (hg : Gl X x := by rfl) (hd : (x == ("__debug__" : Str)) = false := by decide) : PE X (.Name x pos) (tC (.ref f)) := pe_glob hg h rfl hd
/-- a built-in type as a value -/
theorem pe_ty {x : Str} {T : String} (hm : X.mg x = none) (hv : bootBuiltins x = some (.type T)) (hg : Gl X x := by rfl) (hn : x ≠ "__name__" := by decide) (hd : (x == ("__debug__" : Str)) = false := by decide) : PE X (.Name x pos) (tC (.ty T)) := pe_bltn hg hm hv rfl hn hd
/-- a text times a number -/
theorem op_mul_str : OpR X (binaryOp .Mult) (fun x y H Q => ∃ i n, x = .str i ∧ y = .int n ∧ i.length ≤ 64 ∧ n ≤ 1000 ∧ -1000 ≤ n ∧ Q (.str (Txt.mul i n)) H) := by
  intro pins s σ H x y v u Q I rx ry h
  obtain ⟨i, n, rfl, rfl, h1, h2, h3, q⟩ := h
  obtain ⟨t, rfl⟩ := rx
  obtain ⟨t', rfl⟩ := ry
  exact SB.mul (mulOk_of 64 1000 h1 (by omega) (by omega) (by decide) (by decide)) fun t' k => ⟨.str _, H, I.tok k, ⟨_, rfl⟩, q⟩
end

/-! ### data -/
mutual
inductive Dt (K : PySem.W.Frag) (H : Hp) : V → PyData → Prop where
  | non : Dt K H .non .none
  | bl (b : Bool) : Dt K H (.bl b) (.bool b)
  | int (i : Int) : Dt K H (.int i) (.int i)
  | str (x : Str) : Dt K H (.str x) (.str x)
  | lst {a : Addr} {xs : List V} {ds : List PyData} : SqL K H a xs → DtAll K H xs ds → Dt K H (.ref a) (.list ds)
  | tup {a : Addr} {xs : List V} {ds : List PyData} : SqT K H a xs → DtAll K H xs ds → Dt K H (.ref a) (.tuple ds)
  | dK {a : Addr} {kvs : List (Key × V)} : H a = some (.dK kvs) → Dt K H (.ref a) (.dict [])
  | dT {a : Addr} {kvs : List (List Key × V)} : H a = some (.dT kvs) → Dt K H (.ref a) (.dict [])
inductive DtAll (K : PySem.W.Frag) (H : Hp) : List V → List PyData → Prop where
  | nil : DtAll K H [] []
  | cons {v : V} {d : PyData} {vs : List V} {ds : List PyData} : Dt K H v d → DtAll K H vs ds → DtAll K H (v :: vs) (d :: ds)
end
section
variable {X : Cx} {pins : List (Addr × Obj)} {σ : St} {H H' : Hp} {s : Shared}
mutual
theorem Dt.reads (I : Inv X pins σ H s) : ∀ {v : V} {d : PyData} {u : Value}, Dt X.K H v d → RelV v u → d.canLay0 = true → ∃ as, Reads s.heap u d as
  | _, _, _, .non, r, _ => by cases r; exact ⟨_, .none⟩
  | _, _, _, .bl b, r, _ => by cases r; exact ⟨_, .bool b⟩
  | _, _, _, .int i, r, _ => by obtain ⟨t, rfl⟩ := r; exact ⟨_, .int i t⟩
  | _, _, _, .str x, r, _ => by obtain ⟨t, rfl⟩ := r; exact ⟨_, .str x t⟩
  | _, _, _, .lst h hd, r, l => by
    cases r
    obtain ⟨its, rv, ⟨o, n, e, hc, _, hs⟩, _⟩ := I.list h
    obtain ⟨as, ra⟩ := DtAll.reads I hd rv (by rw [PyData.canLay0] at l; exact l)
    exact ⟨_, .list e hc hs (by simpa using ra)⟩
  | _, _, _, .tup h hd, r, l => by
    cases r
    obtain ⟨its, rv, ⟨o, e, hc, n, hs⟩, _⟩ := I.tuple h
    obtain ⟨as, ra⟩ := DtAll.reads I hd rv (by rw [PyData.canLay0] at l; exact l)
    exact ⟨_, .tuple e hc hs (by simpa using ra)⟩
  | _, _, _, .dK _, _, l => by rw [PyData.canLay0] at l; cases l
  | _, _, _, .dT _, _, l => by rw [PyData.canLay0] at l; cases l
theorem DtAll.reads (I : Inv X pins σ H s) : ∀ {vs : List V} {ds : List PyData} {us : List Value}, DtAll X.K H vs ds → Vals vs us → PyData.canLayAll0 ds = true → ∃ as, ReadsAll s.heap us ds as
  | _, _, _, .nil, r, _ => by cases r; exact ⟨_, .nil⟩
  | _, _, _, .cons h hd, r, l => by
    rw [PyData.canLayAll0, Bool.and_eq_true] at l
    cases r with
    | cons r1 rr =>
      obtain ⟨as, ra⟩ := Dt.reads I h r1 l.1
      obtain ⟨bs, rb⟩ := DtAll.reads I hd rr l.2
      exact ⟨_, .cons ra rb⟩
end
theorem Same.seqT {K : PySem.W.Frag} {a : Addr} {xs : List V} (e : Same H H') (h : SqT K H a xs) : SqT K H' a xs := by
  rcases h with (h | ⟨o, h⟩) | h
  · exact .inl (.inl (e _ _ h))
  · exact .inl (.inr ⟨o, e _ _ h⟩)
  · exact .inr h
mutual
theorem Dt.same {K : PySem.W.Frag} (e : Same H H') : ∀ {v : V} {d : PyData}, Dt K H v d → Dt K H' v d
  | _, _, .non => .non
  | _, _, .bl b => .bl b
  | _, _, .int i => .int i
  | _, _, .str x => .str x
  | _, _, .lst h hd => .lst (e.seq h) (DtAll.same e hd)
  | _, _, .tup h hd => .tup (Same.seqT e h) (DtAll.same e hd)
  | _, _, .dK h => .dK (e _ _ h)
  | _, _, .dT h => .dT (e _ _ h)
theorem DtAll.same {K : PySem.W.Frag} (e : Same H H') : ∀ {vs : List V} {ds : List PyData}, DtAll K H vs ds → DtAll K H' vs ds
  | _, _, .nil => .nil
  | _, _, .cons h hd => .cons (Dt.same e h) (DtAll.same e hd)
end
theorem DtAll.get {K : PySem.W.Frag} : ∀ {vs : List V} {ds : List PyData} {i : Nat} {v : V}, DtAll K H vs ds → vs[i]? = some v → ∃ d, ds[i]? = some d ∧ Dt K H v d
  | _, _, _, _, .nil, e => by simp at e
  | _, _, 0, _, .cons h _, e => by simp at e; subst e; exact ⟨_, rfl, h⟩
  | _, _, i + 1, v, .cons _ t, e => by
    obtain ⟨d, h1, h2⟩ := DtAll.get (i := i) (v := v) t (by simpa using e)
    exact ⟨d, by simpa using h1, h2⟩
theorem DtAll.length {K : PySem.W.Frag} : ∀ {vs : List V} {ds : List PyData}, DtAll K H vs ds → vs.length = ds.length
  | _, _, .nil => rfl
  | _, _, .cons _ t => by rw [List.length_cons, List.length_cons, DtAll.length t]
theorem DtAll.append {K : PySem.W.Frag} : ∀ {vs ws : List V} {ds es : List PyData}, DtAll K H vs ds → DtAll K H ws es → DtAll K H (vs ++ ws) (ds ++ es)
  | _, _, _, _, .nil, h => h
  | _, _, _, _, .cons h t, h' => .cons h (DtAll.append t h')
/-- == of data -/
theorem op_eqD (hu : X.A.units + 64 < cLine) : OpR X (compareOp .Eq) (fun x y H Q => ∃ dx dy, Dt X.K H x dx ∧ Dt X.K H y dy ∧ dx.canLay0 = true ∧ dy.canLay0 = true ∧ dx.depth ≤ 64 ∧ Q (.bl (PyData.eqv dx dy)) H) := by
  intro pins s σ H x y v u Q I rx ry h
  obtain ⟨dx, dy, hx, hy, lx, ly, hd, q⟩ := h
  obtain ⟨as, ra⟩ := Dt.reads I hx rx lx
  obtain ⟨bs, rb⟩ := Dt.reads I hy ry ly
  exact SeqAt.compareEq_reads ra rb lx ly (by have := Nat.min_le_left dx.depth dy.depth; omega) ⟨.bl _, H, I, rfl, q⟩
theorem op_neD (hu : X.A.units + 64 < cLine) : OpR X (compareOp .NotEq) (fun x y H Q => ∃ dx dy, Dt X.K H x dx ∧ Dt X.K H y dy ∧ dx.canLay0 = true ∧ dy.canLay0 = true ∧ dx.depth ≤ 64 ∧ Q (.bl (!PyData.eqv dx dy)) H) := by
  intro pins s σ H x y v u Q I rx ry h
  obtain ⟨dx, dy, hx, hy, lx, ly, hd, q⟩ := h
  obtain ⟨as, ra⟩ := Dt.reads I hx rx lx
  obtain ⟨bs, rb⟩ := Dt.reads I hy ry ly
  exact SeqAt.compareNe_reads ra rb lx ly (by have := Nat.min_le_left dx.depth dy.depth; omega) ⟨.bl _, H, I, rfl, q⟩
end

/-! ### the signs of a text, walked -/
def Its (x : Str) : It := ⟨fun i _ => i < x.cps.size, fun i H v H' => H' = H ∧ ∃ c, x.cps[i]? = some c ∧ v = .str ⟨#[c]⟩, fun i _ => x.cps.size ≤ i⟩
theorem turn_str {P : Program} {w : World} {K : PySem.W.Frag} {tg : Expr} (it : Addr) (x : Str) (t : Tok) : ∀ ty : String, (ty = "str_ascii_iterator" ∨ ty = "str_iterator") → Turn P w K tg (Its x) [it] it (fun i h => h.IsStrIter it ty x t i) := by
  intro ty hty
  refine ⟨by simp, ?_, ?_, ?_, ?_, ?_⟩
  · intro i h st b hb
    have e : b = it := by simpa using hb
    subst e
    obtain ⟨o, e, c, d⟩ := st
    exact ⟨o, e, fun v z => by rw [d] at z; cases z⟩
  · intro i h h' st k
    obtain ⟨o, e, c, d⟩ := st
    exact ⟨o, k it (by simp) o e, c, d⟩
  · intro X hP hw hK hc i pins s σ H E I hf st hg
    subst hP hw hK
    obtain ⟨f0, f1, f2, f3, f4, f5⟩ := hf it (by simp)
    have hi : i < x.cps.size := hg
    have hx : x.cps[i]? = some x.cps[i] := by simp [hi]
    have fin : ∀ h', h'.IsStrIter it ty x t (i + 1) → Heap.SameBut it s.heap h' → ∃ u, some (Value.str ⟨#[x.cps[i]]⟩ s.toks) = some u ∧
        wpAny (model X.prog X.w) X.A (letOwnedTupleGo tg (.ref it) u) (fun _ s2 => ∃ y H', Inv X pins σ H' s2 ∧ RelV y u ∧ (Its x).yld i H y H' ∧ s2.heap.IsStrIter it ty x t (i + 1) ∧ ∀ b ∈ [it], H' b = none) E { s with heap := h', toks := s.toks + 1 } := by
      intro h' st' sb
      have I1 : Inv X pins σ H { s with heap := h', toks := s.toks + 1 } := I.turned (fun b o hb e => (sb.2 b hb).trans e) f0 f1 f3 f4 f5
      obtain ⟨o, e, c, d⟩ := id st'
      refine ⟨_, rfl, go_of (s := { s with heap := h', toks := s.toks + 1 }) e c d ?_ ⟨.str ⟨#[x.cps[i]]⟩, H, I1, ⟨_, rfl⟩, ⟨rfl, _, hx, rfl⟩, st', fun b hb => (hf b hb).1⟩⟩
      rcases hty with rfl | rfl <;> decide
    rcases hty with rfl | rfl
    · exact wpAny_pyNext_ascii_item st hx fin
    · exact wpAny_pyNext_wide_item st hx fin
  · intro X hP hw hK hc i pins s σ H E I hf st hg
    subst hP hw hK
    obtain ⟨f0, f1, f2, f3, f4, f5⟩ := hf it (by simp)
    have hi : x.cps.size ≤ i := hg
    have hx : x.cps[i]? = none := by simp [hi]
    have fin : ∀ h', Heap.ExtBut it s.heap h' → (none : Option Value) = none ∧ Inv X pins σ H { s with heap := h' } := fun h' eb => ⟨rfl, I.turned (t' := s.toks) (fun b o hb e => eb b o hb e) f0 f1 f3 f4 f5⟩
    rcases hty with rfl | rfl
    · exact wpAny_pyNext_ascii_end (I.ok.hd hc) st hx fin
    · exact wpAny_pyNext_wide_end (I.ok.hd hc) st hx fin
  · intro A i s Q E st h
    rcases hty with rfl | rfl
    · exact wpAny_pyIter_striter_ascii st h
    · exact wpAny_pyIter_striter_wide st h
section
variable {X : Cx} {tg : Expr}
def iStr (tl : TE) : TI := fun σ H R => tl σ H fun v H1 => ∃ x, v = .str x ∧ R (Its x) H1
theorem pi_str {l : Expr} {tl : TE} (hl : PE X l tl) : PI X tg l (iStr tl) := by
  intro pins s σ H R I h
  refine thn (hl pins s σ H _ I h) fun v s1 ⟨y, H1, I1, r1, q1⟩ => ?_
  obtain ⟨x, e, q⟩ := q1
  subst e
  obtain ⟨t, rfl⟩ := r1
  have fin : ∀ ty : String, (ty = "str_ascii_iterator" ∨ ty = "str_iterator") → PIE X pins σ tg R (.ref s1.heap.objs.size) { s1 with heap := s1.heap.push { cls := .type ty, data := .fields #[.str x t, .int 0 0] } } := fun ty hty => by
    refine ⟨s1.heap.objs.size, [s1.heap.objs.size], _, _, H1, rfl, I1.kept (t' := s1.toks) fun b o e => Heap.get?_push_of_some _ e, turn_str _ x t ty hty, ⟨_, Heap.get?_push_size _ rfl, rfl, rfl⟩, fun b hb => ?_, q⟩
    have e : b = s1.heap.objs.size := by simpa using hb
    subst e
    exact I1.fpOk (Nat.le_refl _) (I1.hok.fresh (Nat.le_refl _))
  cases ha : x.cps.all (· < 128)
  · exact wpAny_pyIter_wide ha (fin _ (.inr rfl))
  · exact wpAny_pyIter_ascii ha (fin _ (.inl rfl))
end
end L2

namespace L2
open PySem PySem.Spec PyProof.Rows

/-! ### a list's comprehension -/
section
variable {prog : Program} {w : World} {A : Around} {R : Result → Shared → Prop} {s : Shared}
theorem compLoop_own {elt target iter : Expr} {ifs : List Expr} {scope : Scope} {pos : Pos} {it acc : Value} {env : Env} (I : Nat → Shared → Prop)
    (turn : ∀ n s, I n s → wpAny (model prog w) A (pyNext it) (fun r s₁ => match r with
      | none => R (.ok .next) s₁
      | some v => wpAny (model prog w) A (letOwnedTupleGo target it v) (fun _ s₁' => wpAny (model prog w) A (assign target env v) (fun _ s₂ =>
          wpAny (model prog w) A (forIn ifs true fun c r => if r = true then do let ok ← isTrue c env (eval c env); pure (ForInStep.yield ok) else pure (ForInStep.yield r)) (fun ok s₃ =>
            if ok = true then wpAny (model prog w) A (eval elt env) (fun x s₄ =>
              wpAny (model prog w) A (call (.builtin "list.append") [acc, x]) (fun _ s₅ => ∃ m, m < n ∧ I m s₅) (fun _ _ => False) s₄) (fun _ _ => False) s₃
            else ∃ m, m < n ∧ I m s₃) (fun _ _ => False) s₂) (fun _ _ => False) s₁') (fun _ _ => False) s₁) (fun _ _ => False) s)
    (n : Nat) (h : I n s) :
    codeAny (model prog w) A (.compLoop (.ListComp elt [⟨target, iter, ifs, 0⟩] scope pos) 0 it acc env) R s := by
  refine codeAny_loop rfl I (fun n s hI => ?_) n h
  show wpAny _ A ((compTurn (.ListComp elt [⟨target, iter, ifs, 0⟩] scope pos) 0 it acc env).onRaise (fun x => do noteFrame x env; theTreesLotGoes x)) _ _ s
  refine wpAny_noted ?_
  rw [compTurn_list]
  refine wpAny_bind (wpAny_standAt (wpAny_bind (wpAny_mono (turn n s hI) (fun r s₁ h₁ => ?_) fun _ _ h' => h'.elim)))
  cases r with
  | none => exact wpAny_pure h₁
  | some v =>
    refine wpAny_bind (wpAny_mono h₁ (fun _ s₁' h₁' => ?_) fun _ _ h' => h'.elim)
    refine wpAny_bind (wpAny_mono h₁' (fun _ s₂ h₂ => wpAny_bind (wpAny_mono h₂ (fun ok s₃ h₃ => ?_) fun _ _ h' => h'.elim)) fun _ _ h' => h'.elim)
    cases ok with
    | false => exact wpAny_pure ⟨rfl, h₃⟩
    | true =>
      exact wpAny_bind (wpAny_bind (wpAny_mono h₃ (fun x s₄ h₄ => wpAny_bind (wpAny_mono h₄ (fun _ s₅ h₅ => wpAny_pure (wpAny_pure ⟨rfl, h₅⟩)) fun _ _ h' => h'.elim)) fun _ _ h' => h'.elim))
end

/-- the context of a comprehension's block -/
def cxComp (X : Cx) (scope : Scope) (cl : List (Str × Addr)) (C : Addr) (N' : List Str) (fp : List Addr) (pins : List (Addr × Obj)) (s : Shared) (H : Hp) : Cx where
  prog := X.prog
  w := X.w
  K := X.K
  mg := X.mg
  base := X.base
  A := X.A
  N := N'
  s₀ := s
  H₀ := H
  env := compEnvC scope cl C X.env
  outer := X.stack
  stack := X.stack
  ex := fp
  calm := X.calm
  fn := fun _ => false
  pn := X.pn ++ pins
  xe := fun _ _ => False
/-- the cells that the block sees -/
structure Caps (X : Cx) (scope : Scope) (cl : List (Str × Addr)) (cp : List (Nat × Str)) : Prop where
  kind : scope.kind = .function
  nocell : ∀ y ∈ scope.names, y.2 ≠ .cell
  names : ∀ y ∈ scope.names, y.2 = .local → scope.names.lookup y.1 = some .local
  clos : closureFor scope X.env = pure cl
  sub : ∀ x c, cl.lookup x = some c → X.env.cells.lookup x = some c
  has : ∀ x, ((relabel scope X.env).names.lookup x = some .cell ∨ (relabel scope X.env).names.lookup x = some .free) → ∃ c, cl.lookup x = some c
  at' : ∀ p ∈ cp, X.N[p.1]? = some p.2 ∧ (X.env.scope.names.lookup p.2 = some .cell ∨ X.env.scope.names.lookup p.2 = some .free) ∧ ((relabel scope X.env).names.lookup p.2 = some .cell ∨ (relabel scope X.env).names.lookup p.2 = some .free)
def capσ (cp : List (Nat × Str)) (σ : St) : St := cp.map fun p => (σ[p.1]?).getD none
section
variable {X : Cx} {pins : List (Addr × Obj)} {σ : St} {H : Hp} {s : Shared} {scope : Scope} {cl : List (Str × Addr)} {cp : List (Nat × Str)} {fp : List Addr} {x : Str}
theorem inv_comp (I : Inv X pins σ H s) (c : Caps X scope cl cp) (hf : ∀ b ∈ fp, FpOk X pins H b) (hfo : ∀ b ∈ fp, b < s.heap.objs.size) {h' : Heap} {ty : String} {tk : Nat} {m : Str → Option Value} (hm : h'.Ns s.heap.objs.size m)
    (sb : Heap.SameBut s.heap.objs.size (s.heap.push { cls := .type ty, data := .dict #[] }) h') :
    Inv (cxComp X scope cl s.heap.objs.size (x :: cp.map (·.2)) fp pins s H) [] (none :: capσ cp σ) H { s with heap := h', toks := tk } := by
  have old : ∀ b o, s.heap.get? b = some o → h'.get? b = some o := fun b o e => (sb.2 b (Nat.ne_of_lt (Heap.lt_size e))).trans (Heap.get?_push_of_some _ e)
  have hC : H s.heap.objs.size = none := I.hok.fresh (Nat.le_refl _)
  refine ⟨⟨I.ok.mod, c.kind, I.ok.glob, I.ok.blt, Nat.le_refl _, fun y z k h1 h2 => I.ok.inj y z k (c.sub _ _ h1) (c.sub _ _ h2), c.has, fun y k z => (Bool.noConfusion z), I.ok.hd, I.ok.frames, .inl rfl, fun b hb => ?_, fun b o e => I.bs b o e, Nat.le_trans I.ok.bsz I.sz, fun b o e hb => ?_, fun b hb hz => ?_, I.stack, I.stkFree⟩,
    rfl, I.bare, Un.kept old, ⟨m, hm, fun i y v h1 h2 h3 => ?_⟩, fun y k e => ?_, hC, fun y k e => I.freeC y k (c.sub y k e), fun p hp => ?_, I.hok.kept old, ?_⟩
  · obtain ⟨f0, f1, f2, f3, f4, f5⟩ := hf b hb
    exact ⟨Nat.ne_of_lt (hfo b hb), fun y k e => f4 y k (c.sub y k e)⟩
  · obtain ⟨f0, f1, f2, f3, f4, f5⟩ := hf b hb
    rcases f3 with z | z
    · exact I.ok.noex b o e z
    · exact absurd (Nat.lt_of_lt_of_le (Heap.lt_size (I.ok.bs b o e).1) z) (Nat.lt_irrefl _)
  · obtain ⟨f0, f1, f2, f3, f4, f5⟩ := hf b hb
    rcases List.mem_cons.mp (I.stkSub b hz) with e | e
    · exact f1 e
    · exact f2 e
  · cases i with
    | zero => simp at h2
    | succ i =>
      have h1' : (cp.map (·.2))[i]? = some y := by
        have z : (x :: cp.map (·.2))[i + 1]? = some y := h1
        rw [List.getElem?_cons_succ] at z
        exact z
      have h2' : (capσ cp σ)[i]? = some (some v) := by simpa using h2
      unfold capσ at h2'
      rw [List.getElem?_map] at h1' h2'
      cases e : cp[i]? with
      | none => rw [e] at h1'; cases h1'
      | some p =>
        rw [e] at h1' h2'
        simp only [Option.map_some, Option.some.injEq] at h1' h2'
        obtain ⟨k1, k2, k3⟩ := c.at' p (List.mem_of_getElem? e)
        subst h1'
        have h2'' : σ[p.1]? = some (some v) := by
          cases q : σ[p.1]? with
          | none => rw [q] at h2'; cases h2'
          | some z => rw [q] at h2'; simpa using h2'
        obtain ⟨m0, hn0, hl0⟩ := I.loc
        obtain ⟨u, r, l⟩ := hl0 p.1 p.2 v k1 h2'' (k2.elim (fun z => .inr (.inl z)) fun z => .inr (.inr z))
        refine ⟨u, r, .inr ⟨k3, ?_⟩⟩
        rcases l with ⟨z, _⟩ | ⟨_, cc, e1, e2⟩
        · have z' : X.env.scope.names.lookup p.2 = some .local := z
          rcases k2 with k | k <;> (rw [z'] at k; cases k)
        · obtain ⟨cc', e3⟩ := c.has p.2 k3
          have e4 := c.sub _ _ e3
          rw [e1] at e4
          cases e4
          obtain ⟨o, ho, hd⟩ := e2
          exact ⟨cc, e3, o, old _ _ ho, hd⟩
  · obtain ⟨v, o, ho, hd⟩ := I.cell y k (c.sub y k e)
    exact ⟨v, o, old _ _ ho, hd⟩
  · have hp' : p ∈ X.pn ++ pins := by
      rcases List.mem_append.mp hp with z | z
      · exact z
      · cases z
    obtain ⟨e, n, ne, nf, d⟩ := I.pin p hp'
    refine ⟨old _ _ e, n, Nat.ne_of_lt (Heap.lt_size e), fun hz => ?_, d⟩
    rcases List.mem_cons.mp (I.stkSub p.1 hz) with q | q
    · exact ne q
    · exact nf q
  · show (none :: capσ cp σ).length = (x :: cp.map (·.2)).length
    simp [capσ]
/-- behind the block -/
theorem Inv.uncomp {C : Addr} {N' : List Str} {σ' : St} {H' : Hp} {s' : Shared} {h'' : Heap} (I : Inv X pins σ H s) (hC : C = s.heap.objs.size) (hf : ∀ b ∈ fp, FpOk X pins H b) (J : Inv (cxComp X scope cl C N' fp pins s H) [] σ' H' s') (sb : Heap.SameBut C s'.heap h'') :
    Inv X pins σ H' { s' with heap := h'' } := by
  have ne : ∀ b o, s.heap.get? b = some o → b ≠ C := fun b o e => by rw [hC]; exact Nat.ne_of_lt (Heap.lt_size e)
  have B : Un (frs X.stack) fp H H' s.heap s'.heap := J.base
  refine I.call' (s' := { s' with heap := h'' }) (ch := fp) (show s'.os = s.os from J.os) ⟨fun b o e n hb hx => ?_, fun b o e n hb hx => ?_, B.free, fun b o e hx => ?_, B.tups, B.frzs, B.tbls⟩ (fun b ob e => ?_) J.bare fun b hb => ?_
  · exact (sb.2 b (ne b o e)).trans (B.keep b o e n hb hx)
  · obtain ⟨sl, q⟩ := B.slot b o e n hb hx
    exact ⟨sl, (sb.2 b (ne b o e)).trans q⟩
  · obtain ⟨o', q⟩ := B.there b o e hx
    exact ⟨o', (sb.2 b (ne b o e)).trans q⟩
  · have hfree : H' C = none := J.free
    refine (J.hok b ob e).stay (fun k w' hk q => (sb.2 k ?_).trans q) (fun _ q => q) fun _ _ q => q
    rintro rfl
    rcases hk with rfl | hk
    · rw [hfree] at e; cases e
    · rw [hfree] at hk; cases hk
  · obtain ⟨f0, f1, f2, f3, f4, f5⟩ := hf b hb
    exact ⟨f3, f1, f4, f5⟩
end

/-- the tests behind the for -/
def PTs (X : Cx) (ifs : List Expr) (t : TT) : Prop :=
  ∀ (pins : List (Addr × Obj)) (s : Shared) (σ : St) (H : Hp) (Q : Bool → Hp → Prop), Inv X pins σ H s → t σ H Q →
    wpAny (model X.prog X.w) X.A (forIn ifs true fun c r => if r = true then do let ok ← isTrue c X.env (eval c X.env); pure (ForInStep.yield ok) else pure (ForInStep.yield r)) (TP X pins σ Q) X.xe s
def tYes : TT := fun _ H Q => Q true H
theorem pts_nil {X : Cx} : PTs X [] tYes := fun _ _ _ H _ I h => wpAny_tests_nil ⟨H, I, h⟩
/-- the loop of a comprehension: W by the turn and a measure; the list grows at D -/
def tLoop (cp : List (Nat × Str)) (tt : TT) (te : TE) (σ : St) (J : It) (D : Addr) (Q : VK) (H1 : Hp) : Prop :=
  ∃ W : Nat → Nat → Hp → Prop, (∃ m, W 0 m (upd H1 D (.lst []))) ∧ ∀ i m H2, W i m H2 → (J.stop i H2 ∧ Q (.ref D) H2) ∨
    (J.go i H2 ∧ ∃ (N : VK) (N' : Hp → Prop), (∀ y H5, N y H5 → ∃ ys m', H5 D = some (.lst ys) ∧ ys.length < sizeLine ∧ m' < m ∧ W (i + 1) m' (upd H5 D (.lst (ys ++ [y])))) ∧ (∀ H4, N' H4 → ∃ m', m' < m ∧ W (i + 1) m' H4) ∧
      ∀ v H3, J.yld i H2 v H3 → tt (some v :: capσ cp σ) H3 fun b H4 => if b = true then te (some v :: capσ cp σ) H4 N else N' H4)
def tComp (cp : List (Nat × Str)) (wi : TI) (tt : TT) (te : TE) : TE := fun σ H Q => wi σ H fun J H1 => ∀ D, H1 D = none → tLoop cp tt te σ J D Q H1
section
variable {X : Cx} {scope : Scope} {cl : List (Str × Addr)} {cp : List (Nat × Str)} {x : Str} {px pos : Pos} {elt iter : Expr} {ifs : List Expr} {wi : TI} {tt : TT} {te : TE}
theorem comp_core {pins : List (Addr × Obj)} {σ : St} {H2 : Hp} {s2 : Shared} {it : Addr} {fp : List Addr} {tn : Nat → Heap → Prop} {J : It} {Q : VK} {R : Addr → Result → Shared → Prop} {E : Value → Shared → Prop} (c : Caps X scope cl cp) (hcalm : X.calm = true) (hx : scope.names.lookup x = some .local) (hnd : (x :: cp.map (·.2)).Nodup)
    (ht : ∀ C fp pins s H, PTs (cxComp X scope cl C (x :: cp.map (·.2)) fp pins s H) ifs tt) (he : ∀ C fp pins s H, PE (cxComp X scope cl C (x :: cp.map (·.2)) fp pins s H) elt te)
    (I2 : Inv X pins σ H2 s2) (T : Turn X.prog X.w X.K (.Name x px) J fp it tn) (st2 : tn 0 s2.heap) (f2 : ∀ b ∈ fp, FpOk X pins H2 b) (q : tLoop cp tt te σ J s2.heap.objs.size Q H2)
    (hR : ∀ (C : Addr) (H' : Hp) (s' : Shared), (∃ m, s'.heap.Ns C m) → X.s₀.heap.objs.size ≤ C → H' C = none → C ≠ X.env.locals → (∀ x c, X.env.cells.lookup x = some c → c ≠ C) → (∀ p ∈ X.pn ++ pins, p.1 ≠ C) → (∀ h'', Heap.SameBut C s'.heap h'' → Inv X pins σ H' { s' with heap := h'' }) → Q (.ref s2.heap.objs.size) H' → R C (.ok .next) s') :
    wpAny (model X.prog X.w) X.A (newList []) (fun acc s₃ => wpAny (model X.prog X.w) X.A (newFunctionEnv scope X.env.globals cl [] X.env.qual none .none (some X.env)) (fun cenv s₄ =>
      acc = .ref s2.heap.objs.size ∧ codeAny (model X.prog X.w) X.A (.compStart (.ListComp elt [⟨.Name x px, iter, ifs, 0⟩] scope pos) 0 (.ref it) acc { cenv with scope := relabel scope X.env }) (R cenv.locals) s₄) E s₃) E s2 := by
  obtain ⟨W, ⟨m0, w0⟩, turn⟩ := q
  refine wpAny_newObj_type ?_
  have I3 : Inv X pins σ (upd H2 s2.heap.objs.size (.lst [])) { s2 with heap := s2.heap.push { cls := .type "list", dict := none, data := .seq ([] : List Value).toArray } } :=
    I2.lnew (t' := s2.toks) (ys := []) (its := []) .nil (Nat.zero_le _)
  have fpo : ∀ b ∈ fp, b < s2.heap.objs.size := fun b hb => by
    obtain ⟨o, e, _⟩ := T.obj _ _ st2 b hb
    exact Heap.lt_size e
  have f3 : ∀ b ∈ fp, FpOk X pins (upd H2 s2.heap.objs.size (.lst [])) b := fun b hb => ⟨by rw [upd_ne (Nat.ne_of_lt (fpo b hb))]; exact (f2 b hb).1, (f2 b hb).2⟩
  generalize hs3 : ({ s2 with heap := s2.heap.push { cls := .type "list", dict := none, data := .seq ([] : List Value).toArray } } : Shared) = s3 at I3
  have e3 : s3.heap = s2.heap.push { cls := .type "list", dict := none, data := .seq ([] : List Value).toArray } := by rw [← hs3]
  have sz3 : s2.heap.objs.size < s3.heap.objs.size := by rw [e3, Heap.size_push]; exact Nat.lt_succ_self _
  refine wpAny_newFunctionEnv c.nocell (by intro y hy; cases hy) (fun h₁ hns sb => ?_) c.kind
  have J3 := inv_comp (x := x) (tk := s3.toks + ([] : List (Str × Value)).length) I3 c f3 (fun b hb => Nat.lt_trans (fpo b hb) sz3) hns sb
  refine ⟨rfl, ?_⟩
  have st3 : tn 0 h₁ := T.keep _ _ _ st2 fun b hb o e => (sb.2 b (Nat.ne_of_lt (Nat.lt_trans (fpo b hb) sz3))).trans (Heap.get?_push_of_some _ (by rw [e3]; exact Heap.get?_push_of_some _ e))
  generalize hX : cxComp X scope cl s3.heap.objs.size (x :: cp.map (·.2)) fp pins s3 (upd H2 s2.heap.objs.size (.lst [])) = X' at J3
  have eA : X'.A = X.A := by rw [← hX]; rfl
  have eP : X'.prog = X.prog := by rw [← hX]; rfl
  have ew : X'.w = X.w := by rw [← hX]; rfl
  have eK : X'.K = X.K := by rw [← hX]; rfl
  have ec : X'.calm = true := by rw [← hX]; exact hcalm
  have ee : X'.env = compEnvC scope cl s3.heap.objs.size X.env := by rw [← hX]; rfl
  have ex : X'.xe = fun _ _ => False := by rw [← hX]; rfl
  have fpX : ∀ {H' : Hp}, (∀ b ∈ fp, H' b = none) → ∀ b ∈ fp, FpOk X' [] H' b := fun hn b hb => by
    obtain ⟨f0, f1, f2', f3', f4, f5⟩ := f3 b hb
    subst hX
    refine ⟨hn b hb, Nat.ne_of_lt (Nat.lt_trans (fpo b hb) sz3), fun hz => ?_, .inl hb, fun y k e => f4 y k (c.sub y k e), fun p hp => ?_⟩
    · rcases List.mem_cons.mp (I3.stkSub b hz) with e | e
      · exact f1 e
      · exact f2' e
    · rcases List.mem_append.mp hp with z | z
      · exact f5 p z
      · cases z
  have pT := ht s3.heap.objs.size fp pins s3 (upd H2 s2.heap.objs.size (.lst []))
  have pE := he s3.heap.objs.size fp pins s3 (upd H2 s2.heap.objs.size (.lst []))
  have pG : PG X' (.Name x px) (gName 0) := by
    subst hX
    exact pg_name hnd rfl (.inl (lookup_relabel_local hx)) (.inr (lookup_relabel_local hx))
  rw [hX] at pT pE
  have loop : codeAny (model X.prog X.w) X.A (.compLoop (.ListComp elt [⟨.Name x px, iter, ifs, 0⟩] scope pos) 0 (.ref it) (.ref s2.heap.objs.size) (compEnvC scope cl s3.heap.objs.size X.env)) (R s3.heap.objs.size) { s3 with heap := h₁, toks := s3.toks + ([] : List (Str × Value)).length } := by
    refine compLoop_own (fun n s' => ∃ i o H', Inv X' [] (o :: capσ cp σ) H' s' ∧ tn i s'.heap ∧ (∀ b ∈ fp, H' b = none) ∧ W i n H') ?_ m0 ⟨0, none, _, J3, st3, fun b hb => (f3 b hb).1, w0⟩
    rintro n s5 ⟨i, o, H5, J5, st5, fr5, w5⟩
    rcases turn i n H5 w5 with ⟨stop, qn⟩ | ⟨go, N, N', hN, hN', step⟩
    · have z := T.done X' eP ew eK ec i [] s5 _ H5 (fun _ _ => False) J5 (fpX fr5) st5 stop
      rw [eA] at z
      refine thn z fun r s6 ⟨hr, J6⟩ => ?_
      subst hr
      subst hX
      obtain ⟨m6, hn6, _⟩ := J6.loc
      refine hR s3.heap.objs.size H5 s6 ⟨m6, hn6⟩ I3.sz J6.free (Nat.ne_of_gt I3.lt) (fun y k e z => ?_) (fun p hp z => ?_) (fun h'' sb' => I3.uncomp rfl f3 J6 sb') qn
      · obtain ⟨v, w'⟩ := I3.cell y k e
        exact absurd w'.lt (by rw [z]; exact Nat.lt_irrefl _)
      · exact absurd (Heap.lt_size (I3.pin p hp).1) (by rw [z]; exact Nat.lt_irrefl _)
    · have z := T.item X' eP ew eK ec i [] s5 _ H5 (fun _ _ => False) J5 (fpX fr5) st5 go
      rw [eA] at z
      refine thn z fun r s6 ⟨u, hr, h6⟩ => ?_
      subst hr
      refine thn h6 fun _ s7 ⟨v, H7, J7, r7, y7, st7, fr7⟩ => ?_
      have J7' := J7.pinned (fpX fr7) (T.obj _ _ st7)
      have z8 := pG _ s7 _ H7 v u (fun σ' H' => σ' = some v :: capσ cp σ ∧ H' = H7) J7' r7 ⟨rfl, rfl⟩
      rw [eA, eP, ew, ee, ex] at z8
      refine thn z8 fun _ s8 ⟨σ8, H8, J8, e8, e8'⟩ => ?_
      subst e8 e8'
      have z9 := pT _ s8 _ H8 _ J8 (step v H8 y7)
      rw [eA, eP, ew, ee, ex] at z9
      refine thn z9 fun ok s9 ⟨H9, J9, q9⟩ => ?_
      have fin : ∀ {H' : Hp} {s' : Shared}, Inv X' ([] ++ pinsAt fp s7.heap) (some v :: capσ cp σ) H' s' → (∃ m', m' < n ∧ W (i + 1) m' H') → ∃ m, m < n ∧ ∃ i o H', Inv X' [] (o :: capσ cp σ) H' s' ∧ tn i s'.heap ∧ (∀ b ∈ fp, H' b = none) ∧ W i m H' := fun {H' s'} K' ⟨m', hm, w'⟩ => by
        refine ⟨m', hm, i + 1, some v, H', K'.unpinned, T.keep _ _ _ st7 fun b hb ob e => (K'.pin (b, ob) (List.mem_append_right _ (List.mem_append_right _ (mem_pinsAt hb e)))).1, fun b hb => ?_, w'⟩
        obtain ⟨ob, e, d⟩ := T.obj _ _ st7 b hb
        exact (K'.pin (b, ob) (List.mem_append_right _ (List.mem_append_right _ (mem_pinsAt hb e)))).2.1
      cases ok with
      | false =>
        rw [if_neg Bool.false_ne_true] at q9 ⊢
        exact fin J9 (hN' _ q9)
      | true =>
        rw [if_pos rfl] at q9 ⊢
        have z10 := pE _ s9 _ H9 _ J9 q9
        rw [eA, eP, ew, ee, ex] at z10
        refine thn z10 fun u10 s10 ⟨y, H10, J10, r10, n10⟩ => ?_
        obtain ⟨ys, m', hD, hz, hm, w'⟩ := hN y H10 n10
        have z11 := mt_append (X := X') _ s10 _ H10 (.ref s2.heap.objs.size) [y] (.ref s2.heap.objs.size) [u10] (fun _ H' => H' = upd H10 s2.heap.objs.size (.lst (ys ++ [y]))) J10 rfl (.cons r10 .nil) ⟨_, ys, y, rfl, rfl, hD, hz, rfl⟩
        rw [eA, eP, ew, ex] at z11
        refine thn z11 fun u11 s11 ⟨y', H11, J11, r11, e11⟩ => ?_
        subst e11
        exact fin J11 ⟨m', hm, w'⟩
  exact codeAny_compStart_list loop (T.self _ 0 _ _ _ st3 loop)
theorem pe_comp (c : Caps X scope cl cp) (hcalm : X.calm = true) (hx : scope.names.lookup x = some .local) (hnd : (x :: cp.map (·.2)).Nodup) (hi : PI X (.Name x px) iter wi)
    (ht : ∀ C fp pins s H, PTs (cxComp X scope cl C (x :: cp.map (·.2)) fp pins s H) ifs tt) (he : ∀ C fp pins s H, PE (cxComp X scope cl C (x :: cp.map (·.2)) fp pins s H) elt te)
    (hs : ∀ v, foldedSetIterable iter X.env v = pure v := by intro _; rfl) : PE X (.ListComp elt [⟨.Name x px, iter, ifs, 0⟩] scope pos) (tComp cp wi tt te) := by
  intro pins s σ H Q I h
  rw [eval_ListComp]
  refine wpAny_comprehension_free (use := none) (g := ⟨.Name x px, iter, ifs, 0⟩) (gs := []) (cl := cl) rfl hs c.clos c.kind c.names ?_
  refine thn (hi pins s σ H _ I h) fun v s1 h1 => thn h1 fun itv s2 h2 => ?_
  obtain ⟨it, fp, tn, J, H2, e, I2, T, st2, f2, q⟩ := h2
  subst e
  refine thn (comp_core (iter := iter) (pos := pos) (R := fun C => compPost (model X.prog X.w) X.A X.xe none (EP X pins σ Q) (.ref s2.heap.objs.size) C) c hcalm hx hnd ht he I2 T st2 f2 (q _ (I2.hok.fresh (Nat.le_refl _))) ?_) fun acc s3 h3 => thn h3 fun cenv s4 h4 => ?_
  · rintro C H' s' ⟨m, hn⟩ _ _ _ _ _ hI hq
    exact ⟨m, hn, fun h'' sb => ⟨.ref s2.heap.objs.size, H', hI h'' sb, rfl, hq⟩⟩
  · obtain ⟨e, h4⟩ := h4
    subst e
    exact h4
end
end L2

namespace L2
open PySem PySem.Spec PyProof.Rows

section
variable {X : Cx} {scope : Scope} {cl : List (Str × Addr)} {cp : List (Nat × Str)} {x : Str} {px pos : Pos} {elt iter : Expr} {ifs : List Expr} {wi : TI} {tt : TT} {te : TE}
end

/-! ### all, join -/
theorem bools_of : ∀ {bs : List Bool} {us : List Value}, Vals (bs.map V.bl) us → ∀ (i : Nat) (v : Value), us[i]? = some v → ∃ b : Bool, bs[i]? = some b ∧ v = Value.bool b
  | [], _, .nil, i, v, h => by simp at h
  | b :: bs, u :: us, .cons r t, 0, v, h => by
    simp at h
    subst h
    cases r
    exact ⟨b, rfl, rfl⟩
  | b :: bs, u :: us, .cons r t, i + 1, v, h => by
    obtain ⟨b', e1, e2⟩ := bools_of t i v (by simpa using h)
    exact ⟨b', by simpa using e1, e2⟩
theorem strs_of : ∀ {ys : List Str} {us : List Value}, Vals (ys.map V.str) us → StrsAre us ys
  | [], _, .nil => .nil
  | y :: ys, u :: us, .cons r t => by
    obtain ⟨k, rfl⟩ := r
    exact .cons y k (strs_of t)
section
variable {X : Cx}
theorem call_all (hc : X.calm = true) : CallR X (.builtin "all") (fun xs H Q => ∃ (a : Addr) (bs : List Bool), xs = [.ref a] ∧ SqL X.K H a (bs.map V.bl) ∧ Q (.bl (bs.all id)) H) := by
  intro pins s σ H xs us Q I r h
  obtain ⟨a, bs, rfl, hq, q⟩ := h
  obtain ⟨u, rfl, ru⟩ := r.one
  cases ru
  obtain ⟨its, rv, pl, hz⟩ := I.list hq
  have hl : s.heap.IsList a its.toArray := pl.isList
  have hlt : a < s.heap.objs.size := by obtain ⟨_, e, _⟩ := hl; exact Heap.lt_size e
  refine call_all_walk (wpAny_pyIter_list hl ?_)
  refine ⟨s.heap.objs.size, [s.heap.objs.size, a], [s.heap.objs.size], its.toArray.size, _, _, fun i => (bs[i]?).getD true, rfl, Walks.list (A := X.A.in1) (I.ok.hd hc) _ a (Nat.ne_of_lt hlt) its.toArray,
    ⟨⟨_, Heap.get?_push_size _ rfl, rfl, rfl⟩, hl.push _⟩, fun i v s' Q' E' hP hQ => ?_, fun h' tk hk => ?_⟩
  · obtain ⟨b, e, rfl⟩ := bools_of rv i v (by simpa using hP)
    simp only [e, Option.getD_some] at hQ
    exact wpAny_truthy_bool hQ
  · have e : ((List.range its.toArray.size).all fun i => (bs[i]?).getD true) = bs.all id := by
      have := rv.length
      rw [List.length_map] at this
      rw [List.size_toArray, ← this]
      exact PyProof.Rows.LSm.range_all bs
    rw [e]
    refine ⟨.bl _, H, I.kept (t' := tk) fun b o e' => hk b o (fun hm => ?_) (Heap.get?_push_of_some _ e'), rfl, q⟩
    rw [List.mem_singleton.mp hm] at e'
    exact Nat.lt_irrefl _ (Heap.lt_size e')
def rJoin (K : PySem.W.Frag) : V → List V → Hp → VK → Prop := fun x vs H Q => ∃ (z : Str) (a : Addr) (ys : List Str), x = .str z ∧ vs = [.ref a] ∧ SqL K H a (ys.map V.str) ∧ (ys.map (·.length)).sum + ys.length * z.length ≤ 16777216 ∧ Q (.str (Txt.join z ys)) H
theorem mt_join : MtR X "str.join" (rJoin X.K) := by
  intro pins s σ H x vs v us Q I rx rv h
  obtain ⟨z, a, ys, rfl, rfl, hq, hz, q⟩ := h
  obtain ⟨t, rfl⟩ := rx
  obtain ⟨u, rfl, ru⟩ := rv.one
  cases ru
  obtain ⟨its, r, pl, _⟩ := I.list hq
  exact join_list pl.isList (by simpa using strs_of r) hz fun t' k => ⟨.str _, H, I.tok k, ⟨_, rfl⟩, q⟩
end

/-! ### a def that is known: its promise and how it is called -/
structure Known (P : Program) (w : World) (K : PySem.W.Frag) (mg : Str → Option Value) (base : Heap) (CX : CXT) (k : Nat) (x : Str) (ps : List Str) (sp : Sp) : Prop where
  ex : ∃ f fd, FnOk P w K mg base CX k f fd ps sp ∧ mg x = some (.ref f) ∧ PySem.W.keepIn K (.ref f) = true ∧ Binds K fd ps []
section
variable {X : Cx} {CX : CXT} {k : Nat} {ps : List Str} {sp : Sp} {E : XK} {x : Str} {p pos : Pos} {e : Expr} {es : List Expr} {t : TA}
theorem pe_callN (G : Known X.prog X.w X.K X.mg X.base CX k x ps sp) (hr : Room k X.A) (hx : Passes CX X E) (ha : PA X (e :: es) t) (hg : Gl X x := by rfl) (hdb : (x == ("__debug__" : Str)) = false := by decide)
    (he : starEach (e :: es) X.env = (false, eval e X.env) :: starEach es X.env := by rfl) (hpl : (backTo pos (starEach es X.env)).any (·.1) = false := by rfl) : PE X (.Call (.Name x p) (e :: es) [] pos) (tCall sp [] E t) := by
  obtain ⟨f, fd, F, hm, hk, hb⟩ := G.ex
  exact pe_call F hr hg hm hk hb .nil hx ha hdb he hpl
end
/-! ### the forms of a comprehension that one uses: Pv by the turn, the list so far, the heap (in which it stands at D) -/
def Nxt (D : Addr) (Pv : Nat → List V → Hp → Prop) (i : Nat) (ys : List V) : VK := fun y H5 => H5 D = some (.lst ys) ∧ ys.length < sizeLine ∧ Pv (i + 1) (ys ++ [y]) (upd H5 D (.lst (ys ++ [y])))
theorem comp_it {cp : List (Nat × Str)} {te : TE} {σ : St} {J : It} {n : Nat} {D : Addr} {Q : VK} {H1 : Hp} (Pv : Nat → List V → Hp → Prop) (h0 : Pv 0 [] (upd H1 D (.lst []))) 
    (hg : ∀ i ys H, H D = some (.lst ys) → Pv i ys H → (i < n → J.go i H) ∧ (i = n → J.stop i H))
    (hs : ∀ i ys H v H', i < n → H D = some (.lst ys) → Pv i ys H → J.yld i H v H' → te (some v :: capσ cp σ) H' (Nxt D Pv i ys))
    (hd : ∀ ys H, H D = some (.lst ys) → Pv n ys H → Q (.ref D) H) : tLoop cp tYes te σ J D Q H1 := by
  refine ⟨fun i m H => m = n - i ∧ i ≤ n ∧ ∃ ys, H D = some (.lst ys) ∧ Pv i ys H, ⟨n, by simp, Nat.zero_le _, [], upd_same, h0⟩, ?_⟩
  rintro i m H ⟨rfl, hi, ys, hD, p⟩
  by_cases hlt : i < n
  · refine .inr ⟨(hg i ys H hD p).1 hlt, Nxt D Pv i ys, fun _ => False, fun y H5 ⟨h1, h2, h3⟩ => ⟨ys, n - (i + 1), h1, h2, by omega, rfl, hlt, _, upd_same, h3⟩, fun _ z => z.elim, fun v H' y => ?_⟩
    exact hs i ys H v H' hlt hD p y
  · have e : i = n := by omega
    subst e
    exact .inl ⟨(hg i ys H hD p).2 rfl, hd ys H hD p⟩
theorem comp_str {cp : List (Nat × Str)} {te : TE} {σ : St} {x : Str} {D : Addr} {Q : VK} {H1 : Hp} (Pv : Nat → List V → Hp → Prop) (h0 : Pv 0 [] (upd H1 D (.lst [])))
    (hs : ∀ i c ys H, x.cps[i]? = some c → H D = some (.lst ys) → Pv i ys H → te (some (.str ⟨#[c]⟩) :: capσ cp σ) H (Nxt D Pv i ys))
    (hd : ∀ ys H, H D = some (.lst ys) → Pv x.cps.size ys H → Q (.ref D) H) : tLoop cp tYes te σ (Its x) D Q H1 :=
  comp_it (n := x.cps.size) Pv h0 (fun i ys H _ _ => ⟨fun h => h, fun h => by subst h; exact Nat.le_refl _⟩) (fun i ys H v H' hi hD p y => by
    obtain ⟨e, c, hc, rfl⟩ := y
    subst e
    exact hs i c ys _ hc hD p) hd
end L2

namespace L2
open PySem PySem.Spec PyProof.Rows

/-! ### the kinds of plain things, isinstance of them -/
inductive Kd where
  | non | bl | int | str | lst | tup | dct
  deriving DecidableEq
def Kd.nm : Kd → String
  | .non => "NoneType" | .bl => "bool" | .int => "int" | .str => "str" | .lst => "list" | .tup => "tuple" | .dct => "dict"
theorem kit_int (K : PySem.W.Frag) (a : Kd) : PySem.W.kitOne K (.type a.nm) (.type "int") = some (decide (a = .int ∨ a = .bl)) := by cases a <;> kernel_rfl
theorem kit_bool (K : PySem.W.Frag) (a : Kd) : PySem.W.kitOne K (.type a.nm) (.type "bool") = some (decide (a = .bl)) := by cases a <;> kernel_rfl
theorem kit_str (K : PySem.W.Frag) (a : Kd) : PySem.W.kitOne K (.type a.nm) (.type "str") = some (decide (a = .str)) := by cases a <;> kernel_rfl
theorem kit_tuple (K : PySem.W.Frag) (a : Kd) : PySem.W.kitOne K (.type a.nm) (.type "tuple") = some (decide (a = .tup)) := by cases a <;> kernel_rfl
def kdD : PyData → Kd
  | .none => .non | .bool _ => .bl | .int _ => .int | .str _ => .str | .list _ => .lst | .tuple _ => .tup | .dict _ => .dct
/-- isinstance(x, T), T a built-in type -/
theorem call_isT {X : Cx} : CallR X (.builtin "isinstance") (fun xs H Q => ∃ x T d k, xs = [x, .ty T] ∧ Dt X.K H x d ∧ PySem.W.kitOne X.K (.type (kdD d).nm) (.type T) = some k ∧ Q (.bl k) H) := by
  intro pins s σ H xs us Q I r h
  obtain ⟨x, T, d, k, rfl, hd, e, q⟩ := h
  obtain ⟨u, c, rfl, r1, r2⟩ := r.two
  cases r2
  have fin : ∀ tk, EP X pins σ Q (.bool k) { s with toks := tk } := fun tk => ⟨.bl k, H, I.tok tk, rfl, q⟩
  cases hd with
  | non => cases r1; exact PySem.W.kia_one PySem.W.kitx_none I.kIn True.intro e (fun z => nomatch z) fin
  | bl b => cases r1; exact PySem.W.kia_one PySem.W.kitx_bool I.kIn True.intro e (fun z => nomatch z) fin
  | int i => obtain ⟨t, rfl⟩ := r1; exact PySem.W.kia_one PySem.W.kitx_int I.kIn True.intro e (fun z => nomatch z) fin
  | str z => obtain ⟨t, rfl⟩ := r1; exact PySem.W.kia_one PySem.W.kitx_str I.kIn True.intro e (fun z => nomatch z) fin
  | lst hq _ =>
    cases r1
    obtain ⟨its, _, ⟨o, n, eo, hc, _, _⟩, _⟩ := I.list hq
    exact PySem.W.kia_one PySem.W.kitx_list I.kIn ⟨o, eo, hc⟩ e (fun z => nomatch z) fin
  | tup hq _ =>
    cases r1
    obtain ⟨its, _, ⟨o, eo, hc, _⟩, _⟩ := I.tuple hq
    exact PySem.W.kia_one PySem.W.kitx_tuple I.kIn ⟨o, eo, hc⟩ e (fun z => nomatch z) fin
  | dK ea =>
    cases r1
    obtain ⟨_, _, vs, _, o, es, ep, h1, h2, _⟩ := I.hok _ _ ea
    exact PySem.W.kia_one PySem.W.kitx_dict I.kIn ⟨o, h1, h2.1⟩ e (fun z => nomatch z) fin
  | dT ea =>
    cases r1
    obtain ⟨_, _, zs, _, o, es, ep, h1, h2, _⟩ := I.hok _ _ ea
    exact PySem.W.kia_one PySem.W.kitx_dict I.kIn ⟨o, h1, h2.1⟩ e (fun z => nomatch z) fin

/-! ### no cell is caught -/
theorem caps0 {X : Cx} {scope : Scope} (kind : scope.kind = .function := by rfl) (plain : ∀ y ∈ scope.names, y.2 = .local ∨ y.2 = .globalImplicit := by decide) (names : ∀ y ∈ scope.names, y.2 = .local → scope.names.lookup y.1 = some .local := by decide +kernel) : Caps X scope [] [] where
  kind := kind
  nocell := fun y hy z => by rcases plain y hy with h | h <;> rw [h] at z <;> cases z
  names := names
  clos := closureFor_none fun y hy z => by rcases plain y hy with h | h <;> rw [h] at z <;> cases z
  sub := fun x c e => by cases e
  has := fun x h => by
    have hm : ∀ (k : NameKind), (relabel scope X.env).names.lookup x = some k → k = .local ∨ k = .globalImplicit := fun k e => by
      have m := PySem.mem_of_lookup e
      unfold relabel at m
      obtain ⟨⟨n, k'⟩, hy, e'⟩ := List.mem_map.mp m
      have q := plain _ hy
      have nf : (k' == NameKind.free) = false := by rcases q with h | h <;> (have h' : k' = _ := h; subst h'; rfl)
      simp only [nf, Bool.false_and, Bool.false_eq_true, if_false] at e'
      have : k' = k := congrArg (·.2) e'
      rw [← this]
      exact q
    rcases h with h | h
    · rcases hm _ h with z | z <;> cases z
    · rcases hm _ h with z | z <;> cases z
  at' := fun p hp => by cases hp

/-! ### a def of the text -/
structure Def (K : PySem.W.Frag) (mg : Str → Option Value) (x : Str) (st : Stmt) : Prop where
  ex : ∃ f fd, Fun K x x st f fd ∧ mg x = some (.ref f)
section
variable {P : Program} {w : World} {K : PySem.W.Frag} {mg : Str → Option Value} {base : Heap}
theorem top_def {h : Heap} {x : Str} {st : Stmt} {f : Addr} {oc : Value} {od an : Option Addr} {osl : Array (Option Value)} {kV doc pm cdv ct : Value} (X : K.In h) (G : h.Ns mainGlobals mg) (a : PySem.W.nsIn K mainGlobals x = some (some (.ref f)))
    (l : K.lookup f = some ⟨oc, od, .func (PySem.W.fnOf x x (defArgs st) (defBody st) (defScope st) .none kV doc pm an cdv ct), osl⟩) (c : PySem.W.codeIn K cdv x = true) (k : PySem.W.keepIn K (.ref f) = true) : Def K mg x st :=
  ⟨f, _, fun_mk l c k, PySem.W.mg_of X G a⟩
theorem Def.known {x : Str} {st : Stmt} {N ps : List Str} {k : Nat} {sp : Sp} (D : Def K mg x st) (S : FnScope N ps (defScope st))
    (hb : ∀ (kV doc pm : Value) (an : Option Addr) (cdv ct : Value) (us : List Value), us.length = ps.length → bindArgs (PySem.W.fnOf x x (defArgs st) (defBody st) (defScope st) .none kV doc pm an cdv ct) ⟨us, []⟩ = pure (ps.zip us))
    (len : ∀ vs H Q E, sp vs H Q E → vs.length = ps.length)
    (hbody : ∀ (f : Addr) (cdv : Value) (A : Around) (outer : List Env) (s : Shared) (H : Hp) (vs : List V) (Q : VK) (E : XK), Room k (A.deeper (envOfC x (defScope st) s.heap.objs.size f cdv)) → sp vs H Q E →
      ∃ t, PSs (cxOf CX0 P w K mg base N x (defScope st) f cdv A outer s H E).nox (defBody st) t ∧ t { nx := fun _ H' => Q .non H', rt := Q } (start N vs) H) : Known P w K mg base CX0 (k + 1) x ps sp := by
  obtain ⟨f, fd, F, hm⟩ := D.ex
  exact ⟨f, fd, F.ok S len fun cdv A outer s H vs Q E hr h => hbody f cdv A outer s H vs Q E hr h, hm, F.kp, F.binds hb⟩
end

/-! ### heaps that grow -/
theorem Same.new {H : Hp} {D : Addr} {o : HO} (h : H D = none) : Same H (upd H D o) := fun b u e => by rw [upd_ne (ne_of_none e h)]; exact e
/-- a new thing is turned -/
theorem Same.on {H H2 : Hp} {D : Addr} {o : HO} (e : Same H H2) (h : H D = none) : Same H (upd H2 D o) := fun b u z => by rw [upd_ne (ne_of_none z h)]; exact e b u z

/-! ### a new list, a new tuple of data -/
/-! ### texts -/
theorem join0 : ∀ zs : List Str, (Str.join "" zs).cps.toList = zs.flatMap (·.cps.toList)
  | [] => by rfl
  | [x] => by simp [Str.join]
  | x :: y :: r => by
    have ih := join0 (y :: r)
    have e : Str.join "" (x :: y :: r) = x ++ ("" : Str) ++ Str.join "" (y :: r) := rfl
    have e2 : (x ++ ("" : Str) ++ Str.join "" (y :: r)).cps = x.cps ++ ("" : Str).cps ++ (Str.join "" (y :: r)).cps := rfl
    have e3 : ("" : Str).cps = #[] := by decide +kernel
    rw [e, e2, e3, Array.append_empty, Array.toList_append, ih]
    simp only [List.flatMap_cons]
abbrev one (c : Nat) : Str := ⟨#[c]⟩
theorem flat_ones : ∀ cs : List Nat, (cs.map one).flatMap (·.cps.toList) = cs
  | [] => rfl
  | c :: r => by
    rw [List.map_cons, List.flatMap_cons, flat_ones r]
    rfl
theorem join_ones (cs : List Nat) : Txt.join ("" : Str) (cs.map one) = ⟨cs.toArray⟩ := by
  have e : (Txt.join ("" : Str) (cs.map one)).cps.toList = cs := by
    show (Builtin.Str.glued ("" : Str) (cs.map one)).cps.toList = cs
    rw [StrLaws.glued_eq_join, join0, flat_ones]
  generalize Txt.join ("" : Str) (cs.map one) = z at e
  obtain ⟨⟨l⟩⟩ := z
  have e' : l = cs := e
  rw [e']
theorem sum_ones (cs : List Nat) : ((cs.map one).map (·.length)).sum = cs.length := by
  induction cs with
  | nil => rfl
  | cons c r ih =>
    rw [List.map_cons, List.map_cons, List.sum_cons, ih, List.length_cons]
    show 1 + r.length = r.length + 1
    omega
theorem join_room {cs : List Nat} (h : cs.length ≤ 1000) : ((cs.map one).map (·.length)).sum + (cs.map one).length * ("" : Str).length ≤ 16777216 := by
  have e : ("" : Str).length = 0 := by decide +kernel
  rw [sum_ones, e, Nat.mul_zero]
  omega
theorem at_some {α : Type} (xs : List α) (i : Int) (h0 : 0 ≤ i) (h : i < xs.length) : ∃ v, atI xs i = some v ∧ xs[i.toNat]? = some v := by
  have e : i = (i.toNat : Int) := by omega
  have hl : i.toNat < xs.length := by omega
  generalize i.toNat = j at e hl
  subst e
  exact ⟨_, atI_nat (List.getElem?_eq_getElem hl), List.getElem?_eq_getElem hl⟩
theorem DtAll.pick {K : PySem.W.Frag} {H : Hp} {xs : List V} {ds : List PyData} {i : Int} (all : DtAll K H xs ds) (h0 : 0 ≤ i) (h : i < ds.length) : ∃ v d, atI xs i = some v ∧ ds[i.toNat]? = some d ∧ Dt K H v d := by
  obtain ⟨v, hat, hv⟩ := at_some xs i h0 (by rw [all.length]; exact h)
  obtain ⟨d, hd, hdt⟩ := all.get hv
  exact ⟨v, d, hat, hd, hdt⟩
theorem at_map (ns : List Int) (i : Int) (h0 : 0 ≤ i) (h : i < ns.length) : atI (ns.map V.int) i = some (V.int (ns.getD i.toNat 0)) := by
  have e : i = (i.toNat : Int) := by omega
  have hl : i.toNat < ns.length := by omega
  generalize i.toNat = j at e hl
  subst e
  refine atI_nat ?_
  rw [List.getElem?_map, List.getElem?_eq_getElem hl]
  simp [List.getD, hl]

/-! ### data of texts and ints -/
theorem lay_text {cs : List Nat} (h : ∀ c ∈ cs, c < 128) : PyData.canLay0 (.str ⟨cs.toArray⟩) = true := by
  have : ∀ c ∈ cs, c < 1114112 := fun c hc => by have := h c hc; omega
  simp [PyData.canLay0, PyData.strOk]
  exact this

theorem sl {n : Nat} (h : n ≤ 1000 := by simp) : n ≤ sizeLine := Nat.le_of_lt (small1000 h)

/-! ### names of Python's own -/
theorem b_all : bootBuiltins "all" = some (.builtin "all") := by kernel_rfl
theorem b_isinstance : bootBuiltins "isinstance" = some (.builtin "isinstance") := by kernel_rfl
theorem b_abs : bootBuiltins "abs" = some (.builtin "abs") := by kernel_rfl
theorem b_len : bootBuiltins "len" = some (.builtin "len") := by kernel_rfl
theorem b_int : bootBuiltins "int" = some (.type "int") := by kernel_rfl
theorem b_bool : bootBuiltins "bool" = some (.type "bool") := by kernel_rfl
theorem b_str : bootBuiltins "str" = some (.type "str") := by kernel_rfl
theorem b_tuple : bootBuiltins "tuple" = some (.type "tuple") := by kernel_rfl
end L2

namespace L2
open PySem PySem.Spec PyProof.Rows

/-! ### exceptions -/
/-- an exception that left a frame: its object at ea, its record at T -/
def Fly (h : Heap) (ea T : Addr) (C : Value) : Prop :=
  ∃ oe vs oT ts, h.get? ea = some oe ∧ oe.cls = C ∧ oe.dict = none ∧ oe.data = .fields vs ∧ vs[1]? = some (.ref T) ∧ T ≠ ea ∧ h.get? T = some oT ∧ oT.data = .fields ts ∧ ts[3]? = some .none
/-- what passing through the frames fs changes: the exception's own objects, the frames' slots -/
structure Flew (fs own : List Addr) (h h' : Heap) : Prop where
  keep : ∀ b o, b ∉ own → b ∉ fs → h.get? b = some o → h'.get? b = some o
  slot : ∀ b o, b ∉ own → h.get? b = some o → ∃ sl, h'.get? b = some { o with slots := sl }
theorem dict_mapFields (o : Obj) (g : Array Value → Array Value) : (o.mapFields g).dict = o.dict := by
  obtain ⟨c, d, dt, sl⟩ := o
  cases dt <;> rfl
section
variable {M : Model} {A : Around} {E : Value → Shared → Prop} {s : Shared} {base : Heap} {env : Env} {outer : List Env} {L ea T : Addr} {C : Value}
theorem entry_laid {oe : Obj} {vs : Array Value} {head : Value} {hadNext : Bool} {Q : Unit → Shared → Prop} (hfr : A.frames = some (env :: outer)) (hl : s.heap.FunFrames base (env :: outer)) (hf : env.frame = some L)
    (he : s.heap.get? ea = some oe) (hdn : oe.dict = none) (hd : oe.data = .fields vs) (hsz : 1 < vs.size)
    (k : ∀ h' T', s.heap.objs.size ≤ T' → Fly h' ea T' oe.cls → Flew (frs (env :: outer)) [ea] s.heap h' → Q () { s with heap := h' }) :
    wpAny M A (do let a ← frameOf env; let pl ← entryPlaceOf L hadNext; let b ← EntryCells.newEntry head a .none (rawInt L) .none pl; setField (.ref ea) 1 b) (fun _ s' => wpAny M A (setFlight (.ref ea) none) Q E s') E s := by
  have nfr : ea ∉ frs (env :: outer) := fun hm => by
    obtain ⟨_, o, ho, hnf⟩ := hl.mem hm
    rw [he] at ho
    cases ho
    exact hnf vs hd
  refine wpAny_bind (wpAny_frameOf_fun hfr hl hf fun g so => ?_)
  refine wpAny_bind (wpAny_entryPlaceOf fun pl hpl => ?_)
  unfold EntryCells.newEntry newFields
  refine wpAny_bind (wpAny_newObj_type ?_ (hpl.sizeOk5 _ _ _ _ _))
  have hts : 3 < ([head, .ref L, .none, rawInt L, .none] ++ (if pl.isEmpty then List.replicate 6 Value.none else pl)).toArray.size := by
    rw [List.size_toArray, List.length_append]
    exact Nat.lt_of_lt_of_le (by decide : 3 < 5) (Nat.le_add_right _ _)
  generalize ([head, .ref L, .none, rawInt L, .none] ++ (if pl.isEmpty then List.replicate 6 Value.none else pl)).toArray = ts at hts
  have g1 : g.get? ea = some oe := (so.2.1 ea nfr).trans he
  have gT : g.objs.size = s.heap.objs.size := so.1
  have neT : g.objs.size ≠ ea := Nat.ne_of_gt (Heap.lt_size g1)
  have g2 := Heap.get?_push_of_some (h := g) ({ cls := .type "traceback", dict := none, data := .fields ts } : Obj) g1
  refine wpAny_setField g2 hd hsz ?_
  have d3 := Obj.data_mapFields hd (·.setIfInBounds 1 (Value.ref g.objs.size))
  have g3 := Heap.get?_update_self (Obj.mapFields (·.setIfInBounds 1 (Value.ref g.objs.size))) g2 (Obj.isFreed_of_fields d3)
  have t3 : ((g.push ({ cls := .type "traceback", dict := none, data := .fields ts } : Obj)).update ea (Obj.mapFields (·.setIfInBounds 1 (Value.ref g.objs.size)))).get? g.objs.size = some { cls := .type "traceback", dict := none, data := .fields ts } :=
    (Heap.get?_update_other _ _ (Ne.symm neT)).trans (Heap.get?_push_size g rfl)
  unfold setFlight
  refine wpAny_bind (wpAny_field g3 d3 (x := .ref g.objs.size) (by simp [hsz]) ?_)
  rw [if_pos (show (Value.ref g.objs.size != Value.none) = true from by simp)]
  refine wpAny_setField t3 rfl hts ?_
  have d4 := Obj.data_mapFields (o := ({ cls := .type "traceback", dict := none, data := .fields ts } : Obj)) (vs := ts) rfl (·.setIfInBounds 3 ((none : Option Addr).elim Value.none fun f => rawInt f))
  refine k _ g.objs.size (by rw [gT]; exact Nat.le_refl _) ⟨_, _, _, _, (Heap.get?_update_other _ _ neT).trans g3, Obj.cls_mapFields _ _, (dict_mapFields _ _).trans hdn, d3, by simp [hsz], neT, Heap.get?_update_self _ t3 (Obj.isFreed_of_fields d4), d4, by simp [hts]⟩ ?_
  have up : ∀ b o, b ≠ ea → g.get? b = some o → (((g.push ({ cls := .type "traceback", dict := none, data := .fields ts } : Obj)).update ea (Obj.mapFields (·.setIfInBounds 1 (Value.ref g.objs.size)))).update g.objs.size (Obj.mapFields (·.setIfInBounds 3 ((none : Option Addr).elim Value.none fun f => rawInt f)))).get? b = some o := fun b o nb hb =>
    (Heap.get?_update_other _ _ (Nat.ne_of_gt (Heap.lt_size hb))).trans ((Heap.get?_update_other _ _ (Ne.symm nb)).trans (Heap.get?_push_of_some _ hb))
  refine ⟨fun b o nb nf hb => up b o (fun z => nb (by simp [z])) ((so.2.1 b nf).trans hb), fun b o nb hb => ?_⟩
  obtain ⟨sl, hs⟩ := so.2.2 b o hb
  exact ⟨sl, up b _ (fun z => nb (by simp [z])) hs⟩
/-- a new exception leaves its frame -/
theorem leave_new {oe : Obj} {vs : Array Value} {Q : Unit → Shared → Prop} (hfr : A.frames = some (env :: outer)) (hl : s.heap.FunFrames base (env :: outer)) (hf : env.frame = some L)
    (he : s.heap.get? ea = some oe) (hdn : oe.dict = none) (hd : oe.data = .fields vs) (h1 : vs[1]? = some .none)
    (k : ∀ h' T', s.heap.objs.size ≤ T' → Fly h' ea T' oe.cls → Flew (frs (env :: outer)) [ea] s.heap h' → Q () { s with heap := h' }) : wpAny M A (leaving env (.ref ea)) Q E s := by
  unfold leaving noteFrame
  simp only [hf]
  refine wpAny_bind (wpAny_bind (wpAny_field he hd h1 ?_))
  rw [if_neg (by decide)]
  exact entry_laid hfr hl hf he hdn hd (Array.getElem?_eq_some_iff.mp h1).1 k
/-- one that flies comes through the next frame -/
theorem note_fly {Q : Unit → Shared → Prop} (hfr : A.frames = some (env :: outer)) (hl : s.heap.FunFrames base (env :: outer)) (hf : env.frame = some L) (hx : Fly s.heap ea T C)
    (k : ∀ h' T', s.heap.objs.size ≤ T' → Fly h' ea T' C → Flew (frs (env :: outer)) [ea, T] s.heap h' → Q () { s with heap := h' }) :
    wpAny M A (noteFrame (.ref ea) env) (fun _ s' => wpAny M A (setFlight (.ref ea) none) Q E s') E s := by
  obtain ⟨oe, vs, oT, ts, he, hc, hdn, hd, h1, hTe, hT, hdT, h3⟩ := hx
  subst hc
  unfold noteFrame
  simp only [hf]
  refine wpAny_bind (wpAny_field he hd h1 ?_)
  rw [if_pos (show (Value.ref T != Value.none) = true from by simp)]
  refine wpAny_bind (wpAny_field hT hdT h3 ?_)
  rw [if_neg (show ¬ ((Value.none == rawInt L) = true) from by simp [rawInt])]
  refine wpAny_bind (wpAny_setField hT hdT (Array.getElem?_eq_some_iff.mp h3).1 ?_)
  have far : ∀ b, b ≠ T → (s.heap.update T (Obj.mapFields (·.setIfInBounds 3 Value.none))).get? b = s.heap.get? b := fun b nb => Heap.get?_update_other _ _ (Ne.symm nb)
  have nT : T ∉ frs (env :: outer) := fun hm => by
    obtain ⟨_, o, ho, hnf⟩ := hl.mem hm
    rw [hT] at ho
    cases ho
    exact hnf ts hdT
  have hl2 : (s.heap.update T (Obj.mapFields (·.setIfInBounds 3 Value.none))).FunFrames base (env :: outer) := hl.of_keeps fun b o hb hnf => ⟨o, (far b fun z => by
    rw [z, hT] at hb
    cases hb
    exact hnf ts hdT).trans hb, rfl⟩
  refine entry_laid (s := { s with heap := s.heap.update T (Obj.mapFields (·.setIfInBounds 3 Value.none)) }) hfr hl2 hf ((far ea (Ne.symm hTe)).trans he) hdn hd (Array.getElem?_eq_some_iff.mp h1).1 fun h' T' hT' hfly hflew => ?_
  refine k h' T' (by simpa using hT') hfly ⟨fun b o nb nf hb => hflew.keep b o (fun z => nb (by simp at z; simp [z])) nf ((far b fun z => nb (by simp [z])).trans hb), fun b o nb hb => hflew.slot b o (fun z => nb (by simp at z; simp [z])) ((far b fun z => nb (by simp [z])).trans hb)⟩
end
end L2

namespace L2
open PySem PySem.Spec PyProof.Rows

theorem ObjOk.there {P : Program} {w : World} {H : Hp} {h : Heap} {a : Addr} {o : HO} (x : ObjOk P w H h a o) : ∃ ob, h.get? a = some ob := by
  cases o with
  | lst xs => obtain ⟨_, _, _, _, e⟩ := x; exact ⟨_, e⟩
  | tup xs => obtain ⟨_, _, _, o, e, _⟩ := x; exact ⟨_, e⟩
  | dK kvs => obtain ⟨_, _, _, _, o, _, _, e, _⟩ := x; exact ⟨_, e⟩
  | dT kvs => obtain ⟨_, _, _, _, o, _, _, e, _⟩ := x; exact ⟨_, e⟩
  | set S n => obtain ⟨o, _, _, _, e, _⟩ := x; exact ⟨_, e⟩
  | ins C dx fs => obtain ⟨_, _, _, e, _⟩ := x; exact ⟨_, e⟩
  | own y => exact x
  | xd fs => obtain ⟨_, ⟨_, _, _, e, _⟩, _⟩ := x; exact ⟨_, e⟩
  | rng lo hi => obtain ⟨_, _, _, e⟩ := x; exact ⟨_, e⟩
  | frz ob u => obtain ⟨e, _⟩ := x; exact ⟨_, e⟩
  | tbl ps => exact ⟨_, x⟩
  | met f y => exact ⟨_, x⟩
  | ext φ => obtain ⟨_, e, _⟩ := x; exact e
/-- how an exception lies behind a call -/
def CXE (P : Program) (w : World) : CXT := fun outer H s E e s' => ∃ (ea T : Addr) (C : Value) (H' : Hp), e = .ref ea ∧ s'.os = s.os ∧ AllBare s'.gens ∧ Un (frs outer) [] H H' s.heap s'.heap ∧ HOk P w H' s'.heap ∧
  Fly s'.heap ea T C ∧ s.heap.get? ea = none ∧ s.heap.get? T = none ∧ H' ea = none ∧ H' T = none ∧ E C none H'
theorem cxe_none {P : Program} {w : World} {outer : List Env} {H : Hp} {s s' : Shared} {e : Value} (h : CXE P w outer H s E0 e s') : False := by
  obtain ⟨_, _, _, _, _, _, _, _, _, _, _, _, _, _, q⟩ := h
  exact q
theorem passN {P : Program} {w : World} {X : Cx} : Passes (CXE P w) X E0 := fun _ _ _ _ _ _ _ h => (cxe_none h).elim
section
variable {P : Program} {w : World} {K : PySem.W.Frag} {mg : Str → Option Value} {base : Heap} {N : List Str} {qual : Str} {scope : Scope} {f : Addr} {cd : Value} {A : Around} {outer : List Env} {s : Shared} {H : Hp} {E : XK}
abbrev bodyCx (P : Program) (w : World) (K : PySem.W.Frag) (mg : Str → Option Value) (base : Heap) (N : List Str) (qual : Str) (scope : Scope) (f : Addr) (cd : Value) (A : Around) (outer : List Env) (s : Shared) (H : Hp) (E : XK) : Cx := cxOf (CXE P w) P w K mg base N qual scope f cd A outer s H E
/-- the frames but one's own, in a body -/
theorem Flew.un {fs own : List Addr} {H0 H2 : Hp} {h0 h2 h3 : Heap} {L : Addr} {os : List Addr} (u : Un os [] H0 H2 h0 h2) (fl : Flew fs own h2 h3) (hfs : ∀ b ∈ fs, b = L ∨ b ∈ os) (hL : h0.objs.size ≤ L) (hown : ∀ b ∈ own, h0.get? b = none) : Un os [] H0 H2 h0 h3 := by
  have no : ∀ b o, h0.get? b = some o → b ∉ own := fun b o e z => by rw [hown b z] at e; cases e
  have nL : ∀ b o, h0.get? b = some o → b ≠ L := fun b o e => Nat.ne_of_lt (Nat.lt_of_lt_of_le (Heap.lt_size e) hL)
  refine ⟨fun b o e n hb hx => fl.keep b o (no b o e) (fun z => (hfs b z).elim (nL b o e) hb) (u.keep b o e n hb hx), fun b o e n hb hx => ?_, u.free, fun b o e hx => ?_, u.tups, u.frzs, u.tbls⟩
  · obtain ⟨sl, e1⟩ := u.slot b o e n hb hx
    obtain ⟨sl', e2⟩ := fl.slot b _ (no b o e) e1
    exact ⟨sl', e2⟩
  · obtain ⟨o', e1⟩ := u.there b o e hx
    obtain ⟨sl', e2⟩ := fl.slot b _ (no b o e) e1
    exact ⟨_, e2⟩
theorem Flew.hok {fs own : List Addr} {H2 : Hp} {h2 h3 : Heap} (x : HOk P w H2 h2) (fl : Flew fs own h2 h3) (hfs : ∀ b ∈ fs, H2 b = none) (hown : ∀ b ∈ own, H2 b = none) : HOk P w H2 h3 := fun b o e =>
  (x b o e).stay (fun c u hc q => fl.keep c u (fun z => by
      rcases hc with rfl | hc
      · rw [hown _ z] at e; cases e
      · rw [hown _ z] at hc; cases hc) (fun z => by
      rcases hc with rfl | hc
      · rw [hfs _ z] at e; cases e
      · rw [hfs _ z] at hc; cases hc) q) (fun _ q => q) fun _ _ q => q
theorem cxe_of {pins : List (Addr × Obj)} {σ : St} {H2 : Hp} {s2 : Shared} {h3 : Heap} {own : List Addr} {ea T3 : Addr} {C : Value} (I2 : Inv (bodyCx P w K mg base N qual scope f cd A outer s H E) pins σ H2 s2) (fly : Fly h3 ea T3 C)
    (fl : Flew (frs ((bodyCx P w K mg base N qual scope f cd A outer s H E).env :: outer)) own s2.heap h3) (hown : ∀ b ∈ own, s.heap.get? b = none ∧ H2 b = none) (hea : s.heap.get? ea = none ∧ H2 ea = none) (hT : s2.heap.objs.size ≤ T3) (q : E C none H2) :
    CXE P w outer H s E (.ref ea) { s2 with heap := h3 } := by
  have B : Un (frs outer) [] H H2 s.heap s2.heap := I2.base
  have hfs : ∀ b ∈ frs ((bodyCx P w K mg base N qual scope f cd A outer s H E).env :: outer), b = (bodyCx P w K mg base N qual scope f cd A outer s H E).env.locals ∨ b ∈ frs outer := fun b hb => List.mem_cons.mp (I2.stkSub b hb)
  refine ⟨ea, T3, C, H2, rfl, I2.os, I2.bare, fl.un B hfs (Nat.le_refl _) (fun b hb => (hown b hb).1), fl.hok I2.hok (fun b hb => I2.stkFree b hb) (fun b hb => (hown b hb).2), fly, hea.1, ?_, hea.2, I2.hok.fresh hT, q⟩
  exact Heap.get?_none_of_le (Nat.le_trans I2.sz hT)
/-- a callee's exception goes on -/
theorem passE : Passes (CXE P w) (bodyCx P w K mg base N qual scope f cd A outer s H E) E := by
  intro pins σ H1 s1 e s2 I hq
  obtain ⟨ea, T, C, H2, rfl, os, bare, un, hok, fly, n1, n2, f1, f2, q⟩ := hq
  have I2 : Inv (bodyCx P w K mg base N qual scope f cd A outer s H E) pins σ H2 s2 := I.call' os un hok bare (fun b z => absurd z (by simp))
  have old : ∀ b, s1.heap.get? b = none → s.heap.get? b = none := fun b e => by
    cases z : s.heap.get? b with
    | none => rfl
    | some o =>
      obtain ⟨o', e'⟩ := I.base.there b o z (by intro hz; cases hz)
      rw [e] at e'
      cases e'
  show wpAny (model P w) (bodyCx P w K mg base N qual scope f cd A outer s H E).A (leaving (bodyCx P w K mg base N qual scope f cd A outer s H E).env (.ref ea)) _ _ s2
  unfold leaving
  refine wpAny_bind (note_fly (base := base) I.ok.frames I2.stack rfl fly fun h3 T3 hT3 fly3 flew => ?_)
  refine cxe_of I2 fly3 flew (fun b hb => ?_) ⟨old ea n1, f1⟩ hT3 q
  simp only [List.mem_cons, List.not_mem_nil, or_false] at hb
  rcases hb with rfl | rfl
  · exact ⟨old _ n1, f1⟩
  · exact ⟨old _ n2, f2⟩
end

/-! ### raise C(..), C an own class below ValueError -/
abbrev mroV : List Value := [.type "ValueError", .type "Exception", .type "BaseException", .type "object"]
theorem ownCls_of {K : PySem.W.Frag} {h : Heap} {mg : Str → Option Value} {x : Str} {C : Addr} {bmB : List Value} {newId : String} (X : K.In h) (hm : mg x = some (.ref C)) (q : PySem.W.excIn K C bmB newId = true) : OwnCls x C bmB newId mg h := by
  refine ⟨hm, ?_⟩
  unfold PySem.W.excIn at q
  split at q
  · rename_i dd cdt sl ho
    split at q
    · rename_i C' bm k0 k1 k2 k3 n k5 hmr hs
      simp only [Bool.and_eq_true, beq_iff_eq, Bool.not_eq_true'] at q
      obtain ⟨⟨⟨⟨⟨q1, q2⟩, q3⟩, q4⟩, q5⟩, q6⟩ := q
      subst q1 q2
      obtain ⟨nm, bs, mro, ns, qn, hd, sn, sub, ab, col, del⟩ := cdt
      obtain ⟨l⟩ := sl
      dsimp only at hmr hs q3 q5 q6
      subst hmr hs q3
      exact ⟨bm, ns, nm, qn, bs, hd, sn, sub, ab, col, dd, k0, k1, k2, k3, k5, _, X _ _ ho, .of_isNs (PySem.W.isNs_of_in X q5), PySem.W.nsMap_none_of_in X q5 q6, PySem.W.tail_of_in X q4⟩
    · cases q
  · cases q
section
variable {P : Program} {w : World} {K : PySem.W.Frag} {mg : Str → Option Value} {base : Heap} {N : List Str} {qual : Str} {scope : Scope} {f : Addr} {cd : Value} {A : Around} {outer : List Env} {s : Shared} {H : Hp} {E : XK}
def tRaise (E : XK) (C : Addr) (ta : TA) : TS := fun _ σ H => ta σ H fun vs H1 => vs.length ≤ sizeLine ∧ E (.ref C) none H1
theorem ps_raise {x : Str} {np cpos pos : Pos} {C : Addr} {e : Expr} {es : List Expr} {ta : TA} (hm : mg x = some (.ref C)) (hq : PySem.W.excIn K C mroV "ValueError.__new__" = true) (ha : PA (bodyCx P w K mg base N qual scope f cd A outer s H E) (e :: es) ta)
    (hg : Gl (bodyCx P w K mg base N qual scope f cd A outer s H E) x := by rfl) (hdb : (x == ("__debug__" : Str)) = false := by decide)
    (he : starEach (e :: es) (bodyCx P w K mg base N qual scope f cd A outer s H E).env = (false, eval e (bodyCx P w K mg base N qual scope f cd A outer s H E).env) :: starEach es (bodyCx P w K mg base N qual scope f cd A outer s H E).env := by rfl)
    (hpl : (backTo cpos (starEach es (bodyCx P w K mg base N qual scope f cd A outer s H E).env)).any (·.1) = false := by rfl) :
    PS (bodyCx P w K mg base N qual scope f cd A outer s H E) (.Raise (some (.Call (.Name x np) (e :: es) [] cpos)) none pos) (tRaise E C ta) := by
  intro pins s1 σ H1 D I h
  have O := ownCls_of I.ok.mod.kin hm hq
  obtain ⟨tl, Nn, nm, q, bs, hdct, sn, sub, ab, col, dd, k0, k1, k2, k3, k5, mN, hC, hN, hni, TT'⟩ := O.obj
  refine wpAny_Raise_call_subT (C := C) (nm := nm) (q := q) (N := Nn) (bs := bs) (bm := tl) (hdct := hdct) (sn := sn) (sub := sub) (ab := ab) (col := col) (dd := dd) (k0 := k0) (k1 := k1) (k2 := k2) (k3 := k3) (k5 := k5)
    F.excBase_ValueError (mN := mN) (TT'.hasType F.excBase_ValueError.hasBase) (I.ok.hd rfl) ?_ hni ?_
  · rw [he]
    show (false || (backTo cpos (starEach es _)).any (·.1)) = false
    rw [hpl]
    rfl
  refine ld_glob I hg hm ⟨rfl, ?_⟩ hdb
  have hA := ha cpos pins s1 σ H1 _ I h
  rw [he] at hA ⊢
  refine Calls.evalArgs_plain (thn hA fun us s2 ⟨vs, H2, I2, r2, hl2, q2⟩ => ⟨rfl, by rw [← r2.length]; exact hl2, I2.bk _ _ hC, hN.keeps I2.bk, TT'.keeps I2.bk, fun h' ea hmade => ?_⟩)
  have I3 : Inv (bodyCx P w K mg base N qual scope f cd A outer s H E) pins σ H2 { s2 with heap := h' } := I2.kept (t' := s2.toks) hmade.keeps
  obtain ⟨t, ht, _, _⟩ := hmade.there
  have old : s.heap.get? ea = none := by
    cases z : s.heap.get? ea with
    | none => rfl
    | some o =>
      obtain ⟨o', e'⟩ := I2.base.there ea o z (by intro hz; cases hz)
      rw [hmade.new] at e'
      cases e'
  have fr : H2 ea = none := by
    cases z : H2 ea with
    | none => rfl
    | some o =>
      obtain ⟨oo, e'⟩ := (I2.hok ea o z).there
      rw [hmade.new] at e'
      cases e'
  show wpAny (model P w) (bodyCx P w K mg base N qual scope f cd A outer s H E).A (leaving (bodyCx P w K mg base N qual scope f cd A outer s H E).env (.ref ea)) _ _ { s2 with heap := h' }
  refine leave_new (s := { s2 with heap := h' }) (base := base) I.ok.frames I3.stack rfl ht rfl rfl rfl fun h3 T3 hT3 fly flew => ?_
  refine cxe_of I3 fly flew (fun b hb => ?_) ⟨old, fr⟩ hT3 q2
  simp only [List.mem_cons, List.not_mem_nil, or_false] at hb
  subst hb
  exact ⟨old, fr⟩
/-- a def that may raise -/
theorem Fun.okE {x qual : Str} {st : Stmt} {f : Addr} {fd : FuncData} {N ps : List Str} {k : Nat} {sp : Sp} (F : Fun K x qual st f fd) (S : FnScope N ps (defScope st)) (len : ∀ vs H Q E, sp vs H Q E → vs.length = ps.length)
    (hbody : ∀ (cdv : Value) (A : Around) (outer : List Env) (s : Shared) (H : Hp) (vs : List V) (Q : VK) (E : XK), Room k (A.deeper (envOfC qual (defScope st) s.heap.objs.size f cdv)) → sp vs H Q E →
      ∃ t, PSs (bodyCx P w K mg base N qual (defScope st) f cdv A outer s H E) (defBody st) t ∧ t { nx := fun _ H' => Q .non H', rt := Q } (start N vs) H) : FnOk P w K mg base (CXE P w) (k + 1) f fd ps sp := by
  obtain ⟨oc, od, kV, doc, pm, an, cdv, ct, osl, rfl, lk, hcd⟩ := F.ex
  exact fn_of lk hcd S len fun A outer s H vs Q E hr hsp => hbody cdv A outer s H vs Q E hr hsp
theorem Def.knownE {x : Str} {st : Stmt} {N ps : List Str} {k : Nat} {sp : Sp} (D : Def K mg x st) (S : FnScope N ps (defScope st))
    (hb : ∀ (kV doc pm : Value) (an : Option Addr) (cdv ct : Value) (us : List Value), us.length = ps.length → bindArgs (PySem.W.fnOf x x (defArgs st) (defBody st) (defScope st) .none kV doc pm an cdv ct) ⟨us, []⟩ = pure (ps.zip us))
    (len : ∀ vs H Q E, sp vs H Q E → vs.length = ps.length)
    (hbody : ∀ (f : Addr) (cdv : Value) (A : Around) (outer : List Env) (s : Shared) (H : Hp) (vs : List V) (Q : VK) (E : XK), Room k (A.deeper (envOfC x (defScope st) s.heap.objs.size f cdv)) → sp vs H Q E →
      ∃ t, PSs (bodyCx P w K mg base N x (defScope st) f cdv A outer s H E) (defBody st) t ∧ t { nx := fun _ H' => Q .non H', rt := Q } (start N vs) H) : Known P w K mg base (CXE P w) (k + 1) x ps sp := by
  obtain ⟨f, fd, F, hm⟩ := D.ex
  exact ⟨f, fd, F.okE S len fun cdv A outer s H vs Q E hr h => hbody f cdv A outer s H vs Q E hr h, hm, F.kp, F.binds hb⟩
end
end L2

namespace L2
open PySem PySem.Spec PyProof.Rows

/-! ### try .. except C as n -/
/-- a caught exception, of the class C -/
def excO (ea : Addr) (C : Value) : HO := .ext fun h => ∃ o, h.get? ea = some o ∧ o.cls = C ∧ o.dict = none ∧ PySem.W.notCls o = true
section
variable {X : Cx} {pins : List (Addr × Obj)} {σ : St} {H : Hp} {s : Shared}
/-- frames' slots and the exception's own objects have changed -/
theorem Inv.flew {own : List Addr} {h3 : Heap} {t' : Nat} (I : Inv X pins σ H s) (fl : Flew (frs X.stack) own s.heap h3)
    (hown : ∀ b ∈ own, X.s₀.heap.get? b = none ∧ H b = none ∧ b ≠ X.env.locals ∧ (∀ x c, X.env.cells.lookup x = some c → c ≠ b) ∧ ∀ p ∈ X.pn ++ pins, p.1 ≠ b) : Inv X pins σ H { s with heap := h3, toks := t' } := by
  have no : ∀ b o, X.s₀.heap.get? b = some o → b ∉ own := fun b o e z => by rw [(hown b z).1] at e; cases e
  have nL : ∀ b o, X.s₀.heap.get? b = some o → b ≠ X.env.locals := fun b o e => Nat.ne_of_lt (Nat.lt_of_lt_of_le (Heap.lt_size e) I.ok.above)
  have cellK : ∀ x c, X.env.cells.lookup x = some c → ∀ v, s.heap.IsCell c v → h3.IsCell c v := fun x c e v ⟨o, ho, hd⟩ => by
    obtain ⟨sl, q⟩ := fl.slot c o (fun z => (hown c z).2.2.2.1 x c e rfl) ho
    exact ⟨_, q, hd⟩
  refine ⟨I.ok, I.os, I.bare, ⟨fun b o e n hb hx => ?_, fun b o e n hb hx => ?_, I.base.free, fun b o e hx => ?_, I.base.tups, I.base.frzs, I.base.tbls⟩, ?_, fun x c e => ?_, I.free, I.freeC, fun p hp => ?_, fl.hok I.hok (fun b hb => I.stkFree b hb) (fun b hb => (hown b hb).2.1), I.len⟩
  · exact fl.keep b o (no b o e) (fun z => (List.mem_cons.mp (I.stkSub b z)).elim (nL b o e) hb) (I.base.keep b o e n hb hx)
  · obtain ⟨sl, e1⟩ := I.base.slot b o e n hb hx
    obtain ⟨sl', e2⟩ := fl.slot b _ (no b o e) e1
    exact ⟨sl', e2⟩
  · obtain ⟨o', e1⟩ := I.base.there b o e hx
    obtain ⟨sl', e2⟩ := fl.slot b _ (no b o e) e1
    exact ⟨_, e2⟩
  · obtain ⟨m, ⟨o, es, ep, ho, r⟩, hl⟩ := I.loc
    obtain ⟨sl, hL⟩ := fl.slot _ o (fun z => (hown _ z).2.2.1 rfl) ho
    refine ⟨m, ⟨_, es, ep, hL, r⟩, fun i x v e1 e2 e3 => ?_⟩
    obtain ⟨u, rv, l⟩ := hl i x v e1 e2 e3
    refine ⟨u, rv, ?_⟩
    rcases l with l | ⟨k, c, e, z⟩
    · exact .inl l
    · exact .inr ⟨k, c, e, cellK x c e _ z⟩
  · obtain ⟨v, z⟩ := I.cell x c e
    exact ⟨v, cellK x c e v z⟩
  · obtain ⟨e, n, ne, nf, d⟩ := I.pin p hp
    exact ⟨fl.keep _ _ (fun z => (hown _ z).2.2.2.2 p hp rfl) (fun z => (List.mem_cons.mp (I.stkSub _ z)).elim ne nf) e, n, ne, nf, d⟩
/-- an object that was not tracked is tracked -/
theorem Inv.adopt {a : Addr} {o : HO} (I : Inv X pins σ H s) (hn : H a = none) (h0 : X.s₀.heap.get? a = none) (hL : a ≠ X.env.locals) (hc : ∀ x c, X.env.cells.lookup x = some c → c ≠ a) (hp : ∀ p ∈ X.pn ++ pins, p.1 ≠ a)
    (new : ObjOk X.prog X.w (upd H a o) s.heap a o) : Inv X pins σ (upd H a o) s := by
  have ne : ∀ b u, H b = some u → b ≠ a := fun b u e => ne_of_none e hn
  refine ⟨I.ok, I.os, I.bare, ⟨I.base.keep, I.base.slot, fun b u e n hx => ?_, I.base.there, fun b xs e => ?_, fun b u xs e => ?_, fun b ps e => ?_⟩, I.loc, I.cell, ?_, fun x c e => ?_, fun p hq => ?_, fun b u e => ?_, I.len⟩
  · rw [upd_ne (fun z => by rw [z, h0] at e; cases e)]
    exact I.base.free b u e n hx
  · have q := I.base.tups b xs e
    rw [upd_ne (ne _ _ q)]
    exact q
  · have q := I.base.frzs b u xs e
    rw [upd_ne (ne _ _ q)]
    exact q
  · obtain ⟨more, q⟩ := I.base.tbls b ps e
    exact ⟨more, by rw [upd_ne (ne _ _ q)]; exact q⟩
  · rw [upd_ne (Ne.symm hL)]
    exact I.free
  · rw [upd_ne (hc x c e)]
    exact I.freeC x c e
  · obtain ⟨e, n, r⟩ := I.pin p hq
    exact ⟨e, by rw [upd_ne (hp p hq)]; exact n, r⟩
  · by_cases hb : b = a
    · subst hb
      rw [upd_same] at e
      cases e
      exact new
    · rw [upd_ne hb] at e
      exact (I.hok b u e).stay (fun _ _ _ q => q) (fun c q => by rw [upd_ne (ne _ _ q)]; exact q) fun c xs q => by rw [upd_ne (ne _ _ q)]; exact q
/-- a local name goes -/
theorem Inv.unname {j : Nat} {n : Str} {h' : Heap} {m : Str → Option Value} {v : Option Value} {t' : Nat} (I : Inv X pins σ H s) (hN : X.N.Nodup) (hj : X.N[j]? = some n) (hm : s.heap.Ns X.env.locals m)
    (hl : ∀ (i : Nat) (x : Str) (v : V), X.N[i]? = some x → σ[i]? = some (some v) → Vis X.env.scope x → ∃ u, RelV v u ∧ Look X.env s.heap m x u) (hn : h'.Ns X.env.locals (fun x => if x = n then v else m x)) (sb : Heap.SameBut X.env.locals s.heap h') :
    Inv X pins (σ.set j none) H { s with heap := h', toks := t' } := by
  have hjσ : j < σ.length := by rw [I.len]; exact (List.getElem?_eq_some_iff.mp hj).1
  have nL : ∀ b o, X.s₀.heap.get? b = some o → b ≠ X.env.locals := fun b o e => Nat.ne_of_lt (Nat.lt_of_lt_of_le (Heap.lt_size e) I.ok.above)
  refine ⟨I.ok, I.os, I.bare, ⟨fun b o e n hb hx => (sb.2 b (nL b o e)).trans (I.base.keep b o e n hb hx), fun b o e n hb hx => ?_, I.base.free, fun b o e hx => ?_, I.base.tups, I.base.frzs, I.base.tbls⟩, ⟨_, hn, fun i y w' e1 e2 e3 => ?_⟩, fun y c e => ?_, I.free, I.freeC, fun p hp => ?_, fun b ob e => ?_, by simpa using I.len⟩
  · obtain ⟨sl, e1⟩ := I.base.slot b o e n hb hx
    exact ⟨sl, (sb.2 b (nL b o e)).trans e1⟩
  · obtain ⟨o', e1⟩ := I.base.there b o e hx
    exact ⟨o', (sb.2 b (nL b o e)).trans e1⟩
  · by_cases hi : i = j
    · subst hi
      rw [List.getElem?_set_self hjσ] at e2
      cases e2
    · rw [List.getElem?_set_ne (Ne.symm hi)] at e2
      obtain ⟨u, r, q⟩ := hl i y w' e1 e2 e3
      refine ⟨u, r, ?_⟩
      rcases q with ⟨k, e⟩ | ⟨k, c, e, z⟩
      · refine .inl ⟨k, ?_⟩
        have : y ≠ n := fun e => hi (nodup_ix hN e1 (e ▸ hj))
        simp [this, e]
      · exact .inr ⟨k, c, e, z.sameBut sb (I.cne y c e)⟩
  · obtain ⟨v', z⟩ := I.cell y c e
    exact ⟨v', z.sameBut sb (I.cne y c e)⟩
  · obtain ⟨e, n, ne, nf, d⟩ := I.pin p hp
    exact ⟨(sb.2 p.1 ne).trans e, n, ne, nf, d⟩
  · obtain ⟨oL, _, _, hoL, _⟩ := id hm
    refine (I.hok b ob e).stay (fun c w' hc q => (sb.2 c ?_).trans q) (fun _ q => q) fun _ _ q => q
    rintro rfl
    rcases hc with rfl | hc
    · rw [I.free] at e; cases e
    · rw [I.free] at hc; cases hc
end
/-- within an except suite -/
abbrev Cx.inEx (X : Cx) (ea : Addr) : Cx := { X with A := X.A.mark (some (.ref ea)), calm := false, xe := fun _ _ => False }
abbrev Cx.pinned (X : Cx) (pn : List (Addr × Obj)) (E1 : Value → Shared → Prop) : Cx := { X with pn := pn, xe := E1 }
section
variable {X : Cx} {pins : List (Addr × Obj)} {σ : St} {H : Hp} {s : Shared}
theorem Inv.inEx (I : Inv X pins σ H s) (ea : Addr) : Inv (X.inEx ea) pins σ H s :=
  ⟨⟨I.ok.mod, I.ok.kind, I.ok.glob, I.ok.blt, I.ok.above, I.ok.inj, I.ok.has, I.ok.cab, fun z => Bool.noConfusion z, I.ok.frames, I.ok.stk, I.ok.exf, I.ok.bs, I.ok.bsz, I.ok.noex, I.ok.exfs, I.ok.funs, I.ok.frf⟩, I.os, I.bare, I.base, I.loc, I.cell, I.free, I.freeC, I.pin, I.hok, I.len⟩
theorem Inv.outEx {ea : Addr} (ok : X.Ok) (I : Inv (X.inEx ea) pins σ H s) : Inv X pins σ H s := ⟨ok, I.os, I.bare, I.base, I.loc, I.cell, I.free, I.freeC, I.pin, I.hok, I.len⟩
theorem Inv.pinnedIn (I : Inv X pins σ H s) (E1 : Value → Shared → Prop) : Inv (X.pinned (X.pn ++ pins) E1) [] σ H s :=
  ⟨⟨I.ok.mod, I.ok.kind, I.ok.glob, I.ok.blt, I.ok.above, I.ok.inj, I.ok.has, I.ok.cab, I.ok.hd, I.ok.frames, I.ok.stk, I.ok.exf, I.ok.bs, I.ok.bsz, I.ok.noex, I.ok.exfs, I.ok.funs, I.ok.frf⟩, I.os, I.bare, I.base, I.loc, I.cell, I.free, I.freeC,
    fun p hp => I.pin p (by simpa using hp), I.hok, I.len⟩
theorem Inv.pinnedOut {pins' : List (Addr × Obj)} {E1 : Value → Shared → Prop} (ok : X.Ok) (I : Inv (X.pinned (X.pn ++ pins) E1) pins' σ H s) : Inv X pins σ H s :=
  ⟨ok, I.os, I.bare, I.base, I.loc, I.cell, I.free, I.freeC, fun p hp => I.pin p (List.mem_append_left _ hp), I.hok, I.len⟩
end
def Ends.less (D : Ends) (j : Nat) : Ends where
  nx := fun σ H => D.nx (σ.set j none) H
  rt := D.rt
  bk := fun σ H => D.bk (σ.set j none) H
  ct := fun σ H => D.ct (σ.set j none) H
/-- what is wanted of an exception in the suite of a try -/
def eTry (K : PySem.W.Frag) (B : Addr) (m j : Nat) (th : TS) (D : Ends) : XK := fun C _ H' => PySem.W.exmOne K C (.ref B) = some true ∧ ∀ ea, H' ea = none → th (D.less j) ((List.replicate m none).set j (some (.ref ea))) (upd H' ea (excO ea C))
def tTry (K : PySem.W.Frag) (B : Addr) (m j : Nat) (tb : XK → TS) (th : TS) : TS := fun D σ H => tb (eTry K B m j th D) D σ H
theorem ps_try {X : Cx} {body suite : List Stmt} {b₀ : Stmt} {x n : Str} {np hpos pos : Pos} {B : Addr} {tb : XK → TS} {th : TS} {j : Nat} (hex : X.ex = []) (hst : X.stack = X.env :: X.outer) (hfr : X.env.frame = some X.env.locals) (hN : X.N.Nodup) (hj : X.N[j]? = some n)
    (hn : X.env.scope.names.lookup n = some .local) (hm : X.mg x = some (.ref B)) (hb : ∀ pn E' E1, Passes (CXE X.prog X.w) (X.pinned pn E1) E' → PSs (X.pinned pn E1) body (tb E')) (hh : ∀ ea, PSs (X.inEx ea) (b₀ :: suite) th)
    (hg : Gl X x := by rfl) (hdb : (x == ("__debug__" : Str)) = false := by decide) :
    PS X (.Try body [.ExceptHandler (some (.Name x np)) (some n) (b₀ :: suite) hpos] [] [] pos) (tTry X.K B X.N.length j tb th) := by
  intro pins s σ H D I h
  have pass : Passes (CXE X.prog X.w) (X.pinned (X.pn ++ pins) (fun e s1 => wpAny (model X.prog X.w) X.A (noteFrame e X.env) (fun _ s2 => wpAny (model X.prog X.w) X.A (setFlight e none) (fun _ s3 =>
      wpAny (model X.prog X.w) X.A (handleBy e X.env [.ExceptHandler (some (.Name x np)) (some n) (b₀ :: suite) hpos]) (SP X pins D) X.xe s3) X.xe s2) X.xe s1)) (eTry X.K B X.N.length j th D) := by
    intro pins' σ' H1 s1 e s2 I1 hq
    obtain ⟨ea, T, C, H2, rfl, os, bare, un, hok, fly, n1, n2, f1, f2, hx, q⟩ := hq
    have I1' : Inv X pins (List.replicate X.N.length none) H1 s1 := (I1.pinnedOut I.ok).weak (by rw [List.length_replicate, I1.len]) fun i v e => by
      rw [List.getElem?_replicate] at e
      split at e <;> cases e
    have I2 : Inv X pins (List.replicate X.N.length none) H2 s2 := I1'.call' os un hok bare (fun b z => absurd z (by simp))
    have own : ∀ b, s1.heap.get? b = none → H2 b = none → X.s₀.heap.get? b = none ∧ H2 b = none ∧ b ≠ X.env.locals ∧ (∀ x c, X.env.cells.lookup x = some c → c ≠ b) ∧ ∀ p ∈ X.pn ++ pins, p.1 ≠ b := fun b e hb => by
      refine ⟨?_, hb, fun z => ?_, fun y c hc z => ?_, fun p hp z => ?_⟩
      · cases z : X.s₀.heap.get? b with
        | none => rfl
        | some o =>
          obtain ⟨o', e'⟩ := I1'.base.there b o z (by rw [hex]; intro hz; cases hz)
          rw [e] at e'
          cases e'
      · obtain ⟨m, ⟨o, _, _, ho, _⟩, _⟩ := I1'.loc
        rw [← z, e] at ho
        cases ho
      · obtain ⟨v, o, ho, _⟩ := I1'.cell y c hc
        rw [z, e] at ho
        cases ho
      · have ho := (I1'.pin p hp).1
        rw [z, e] at ho
        cases ho
    have st2 : s2.heap.FunFrames X.base (X.env :: X.outer) := hst ▸ I2.stack
    have fr2 : X.A.frames = some (X.env :: X.outer) := hst ▸ I.ok.frames
    refine note_fly (base := X.base) fr2 st2 hfr fly fun h3 T3 hT3 fly3 flew => ?_
    have I3 : Inv X pins (List.replicate X.N.length none) H2 { s2 with heap := h3 } := I2.flew (t' := s2.toks) (hst ▸ flew) fun b hb => by
      simp only [List.mem_cons, List.not_mem_nil, or_false] at hb
      rcases hb with rfl | rfl
      · exact own _ n1 f1
      · exact own _ n2 f2
    obtain ⟨oe, vs, oT, ts, he, hcl, hdn, hd, h1, hTe, hT, hdT, h3'⟩ := fly3
    refine wpAny_handleBy_cons (codeAny_handlers_test ?_) (by intro z; cases z)
    refine ld_glob (X := X.inEx ea) (I3.inEx ea) hg hm ?_ hdb
    have LT : PySem.W.Looks (model X.prog X.w) h3 (typeOf (.ref ea)) C := hcl ▸ (PySem.W.Looks.ld he).andThen .now
    have LX := PySem.W.exm_one (M := model X.prog X.w) I3.kIn LT hx
    refine LX _ _ _ { s2 with heap := h3 } (fun _ _ z => z) ?_
    show codeAny _ _ _ _ _
    refine codeAny_handlers_suite_as ?_
    -- setFlight
    unfold setFlight
    refine wpAny_bind (wpAny_field (s := { s2 with heap := h3 }) he hd h1 ?_)
    rw [if_pos (show (Value.ref T3 != Value.none) = true from by simp)]
    refine wpAny_setField (s := { s2 with heap := h3 }) hT hdT (Array.getElem?_eq_some_iff.mp h3').1 ?_
    have far : ∀ b, b ≠ T3 → (h3.update T3 (Obj.mapFields (·.setIfInBounds 3 ((none : Option Addr).elim Value.none fun f => rawInt f)))).get? b = h3.get? b := fun b nb => Heap.get?_update_other _ _ (Ne.symm nb)
    have hfT : H2 T3 = none := I2.hok.fresh hT3
    have oT3 : T3 ≠ X.env.locals := Nat.ne_of_gt (Nat.lt_of_lt_of_le I2.lt hT3)
    have I4 : Inv X pins (List.replicate X.N.length none) H2 { s2 with heap := h3.update T3 (Obj.mapFields (·.setIfInBounds 3 ((none : Option Addr).elim Value.none fun f => rawInt f))) } :=
      I3.turned (t' := s2.toks) (fun b o nb e => (far b nb).trans e) hfT oT3 (.inr (Nat.le_trans I2.sz hT3)) (fun y c hc z => by
        obtain ⟨v, w'⟩ := I2.cell y c hc
        exact absurd w'.lt (by rw [z]; exact Nat.not_lt.mpr hT3)) (fun p hp z => absurd (Heap.lt_size (I2.pin p hp).1) (by rw [z]; exact Nat.not_lt.mpr hT3))
    obtain ⟨o0, o1, o2, o3, o4⟩ := own ea n1 f1
    have he4 := (far ea (Ne.symm hTe)).trans he
    have I5 : Inv X pins (List.replicate X.N.length none) (upd H2 ea (excO ea C)) _ := I4.adopt o1 o0 o2 o3 o4 ⟨⟨oe, he4, hcl, hdn, by unfold PySem.W.notCls; rw [hd]⟩, ⟨oe, he4⟩, fun a b ⟨o, e1, e2⟩ k => ⟨o, k o e1, e2⟩⟩
    refine store_ok (v := .ref ea) I5 hN hj (.inl hn) rfl (fun s6 I6 => ?_) (.inr hn)
    have run := hh ea pins s6 _ _ (D.less j) (I6.inEx ea) (q ea f1)
    refine wpAny_mono run (fun fl s7 q7 => ?_) fun _ _ z => z.elim
    have fin : ∀ {σ7 : St} {H7 : Hp} {R : Unit → Shared → Prop}, Inv (X.inEx ea) pins σ7 H7 s7 → (∀ s8, Inv X pins (σ7.set j none) H7 s8 → R () s8) → wpAny (model X.prog X.w) X.A (do bindName X.env n .none; unbindBehindTheSuite X.env n hpos) R X.xe s7 := fun {σ7 H7 R} I7 k => by
      have I7' := I7.outEx I.ok
      obtain ⟨m, hm7, hl7⟩ := I7'.loc
      refine wpAny_nameGoes_keeps (show X.env.scope.names.lookup n = some .local from hn) hm7 (by rw [I.ok.kind]; rfl) fun h8 v hn8 sb8 => ?_
      exact k _ (I7'.unname hN hj hm7 hl7 hn8 sb8)
    cases fl with
    | next => obtain ⟨σ7, H7, I7, n7⟩ := q7; exact fin I7 fun s8 I8 => ⟨_, H7, I8, n7⟩
    | brk => obtain ⟨σ7, H7, I7, n7⟩ := q7; exact fin I7 fun s8 I8 => ⟨_, H7, I8, n7⟩
    | cont => obtain ⟨σ7, H7, I7, n7⟩ := q7; exact fin I7 fun s8 I8 => ⟨_, H7, I8, n7⟩
    | ret u => obtain ⟨v7, σ7, H7, I7, r7, n7⟩ := q7; exact fin I7 fun s8 I8 => ⟨v7, _, H7, I8, r7, n7⟩
  have run := hb (X.pn ++ pins) (eTry X.K B X.N.length j th D) _ pass [] s σ H D (I.pinnedIn _) h
  refine wpAny_Try_except (wpAny_mono run (fun fl s1 q1 => ?_) fun e s1 q1 => q1)
  cases fl with
  | next => obtain ⟨σ1, H1, I1, n1⟩ := q1; exact wpAny_execs_nil ⟨σ1, H1, I1.pinnedOut I.ok, n1⟩
  | brk => obtain ⟨σ1, H1, I1, n1⟩ := q1; exact ⟨σ1, H1, I1.pinnedOut I.ok, n1⟩
  | cont => obtain ⟨σ1, H1, I1, n1⟩ := q1; exact ⟨σ1, H1, I1.pinnedOut I.ok, n1⟩
  | ret u => obtain ⟨v1, σ1, H1, I1, r1, n1⟩ := q1; exact ⟨v1, σ1, H1, I1.pinnedOut I.ok, r1, n1⟩
/-! ### isinstance of a caught exception -/
structure ExcK (K : PySem.W.Frag) (C : Addr) : Prop where
  hga : PySem.W.findIn K (.ref C) "__getattribute__" = some (some (.builtin "BaseException.__getattribute__"))
  hk : PySem.W.findIn K (.ref C) "__getattr__" = some none
  hc : ∃ cd, PySem.W.clsIn K C = some cd
  ha : PySem.W.findIn K (.ref C) "__class__" = some (some (.builtin "object.__class__"))
  hn : PySem.W.specialIn K (.builtin "object.__class__") "__get__" = some (some (.builtin "getset_descriptor.__get__"))
  ht : PySem.W.takesIn K (.builtin "object.__class__") = some true
  hm : PySem.W.mroIn K C (.type "object") = some true
  hb : PySem.W.mroIn K C (.type "BaseException") = some true
/-- the class of a caught exception, asked by its own __getattribute__ -/
theorem exc_class {prog : Program} {w : World} {A : Around} {E : Value → Shared → Prop} {s : Shared} {K : PySem.W.Frag} {x C : Addr} {ox : Obj} {Q : Option Value → Shared → Prop} (k : ExcK K C) (X : K.In s.heap) (I : PySem.W.InstAt s.heap x ox C none)
    (h : Q (some (.ref C)) { s with toks := s.toks + 1 }) : wpAny (model prog w) A (getAttr? (.ref x) "__class__") Q E s := by
  obtain ⟨hh, g, d, t, os⟩ := s
  obtain ⟨cd, hc⟩ := k.hc
  have hf : PySem.W.findObj K C none "__class__" = some (.bind (.builtin "getset_descriptor.__get__") (.builtin "object.__class__")) := by
    show (PySem.W.clsIn K C).bind _ = _
    rw [hc, Option.bind_some, k.ha, Option.bind_some]
    simp [k.hn, k.ht]
  have L0 := I.type (M := model prog w)
  have L1 := PySem.W.looks_findIn (M := model prog w) X k.hga
  have L2 := PySem.W.looks_findIn (M := model prog w) X k.hk
  have L3 := PySem.W.looks_mroIn (M := model prog w) X k.hb
  have L4 := PySem.W.looks_find (M := model prog w) X I hf
  unfold getAttr? getAttrBy? getAttrBy
  refine wpAny_bind (wpAny_mkText (wpAny_bind (wpAny_attempt (wpAny_holding (wpAny_bind (L0.at (wpAny_bind (L1.at ?_))))))))
  show wpAny _ _ (getAttrByItsOwn _ _ _ _ _ _) _ _ _
  unfold getAttrByItsOwn
  refine wpAny_bind ?_
  show wpAny _ _ (typeLookup (.ref C) "__getattr__") _ _ _
  refine L2.at (wpAny_bind (wpAny_attempt (wpAny_holding ?_)))
  show wpAny _ _ (boundAndCalled _ _ _) _ _ _
  unfold boundAndCalled
  rw [F.excAttr_ValueError.ga.bind (.ref x)]
  refine wpAny_bind (wpAny_pure (wpAny_call ?_))
  refine codeAny_call_builtin F.excAttr_ValueError.ga.plain F.entry_bexc_ga ?_
  have hk : builtinKind "BaseException.__getattribute__" = some .slot := by decide +kernel
  have hsp : splitId "BaseException.__getattribute__" = some ("BaseException", "__getattribute__") := by decide +kernel
  have L5 : PySem.W.Looks (model prog w) hh (isInstance (.ref x) (.type "BaseException")) true := L0.andThen L3
  have ha := F.args_bexc_ga (.ref x) (.str "__class__" t)
  have key : ∀ (Q2 : Unit → Shared → Prop) (E2 : Value → Shared → Prop) (A2 : Around), Q2 () ⟨hh, g, d, t + 1, os⟩ → wpAny (model prog w) A2 (checkBuiltinCall "BaseException.__getattribute__" ⟨[.ref x, .str "__class__" t], []⟩) Q2 E2 ⟨hh, g, d, t + 1, os⟩ := by
    intro Q2 E2 A2 q
    have z := @PySem.W.check_slot (model prog w) A2 E2 ⟨hh, g, d, t + 1, os⟩ _ _ _ (.ref x) [.str "__class__" t] [] Q2 hk hsp L5 ha q
    exact z
  refine key _ _ _ ?_
  unfold Builtin.«object.__getattribute__»
  refine wpAny_bind (wpAny_pure (wpAny_bind (wpAny_pure (wpAny_bind (L0.at (wpAny_bind (L4.at ?_)))))))
  refine wpAny_bind (wpAny_holding (wpAny_call ?_))
  exact PySem.W.class_get (s := ⟨hh, g, d, t + 1, os⟩) (ox := ox) (od := none) X I k.hm (wpAny_pure (PySem.W.handed_on rfl (wpAny_pure h)))
theorem kitx_exc {K : PySem.W.Frag} {x C : Addr} (k : ExcK K C) : PySem.W.KitX K (.ref x) (.ref C) (fun h => ∃ ox, PySem.W.InstAt h x ox C none) where
  ty := fun _ _ _ ⟨_, I⟩ => I.type
  it := fun _ _ X _ => by
    obtain ⟨cd, hc⟩ := k.hc
    unfold PySem.W.clsIn at hc
    split at hc
    · rename_i ho
      intro A' Q' E' s' kk q
      unfold isType loadHead
      exact wpAny_bind (wpAny_loadPart (kk _ _ (X _ _ ho)) (wpAny_pure q))
    · cases hc
  ne := fun h tp dd its n sl X htp => by
    obtain ⟨cd, hc⟩ := k.hc
    refine Bool.eq_false_iff.mpr fun q => ?_
    have e : C = tp := Value.ref.inj (beq_iff_eq.mp q)
    subst e
    unfold PySem.W.clsIn at hc
    split at hc
    · rename_i ho
      have z := (X _ _ ho).symm.trans htp
      cases z
    · cases hc
  ca := fun {prog w A E Q s} X ⟨ox, I⟩ h => exc_class k X I h
theorem call_isX {X : Cx} : CallR X (.builtin "isinstance") (fun xs H Q => ∃ ea C D cv k, xs = [.ref ea, D] ∧ H ea = some (excO ea (.ref C)) ∧ ExcK X.K C ∧ ((∃ D', D = .ref D' ∧ cv = Value.ref D') ∨ ∃ T, D = .ty T ∧ cv = Value.type T) ∧ PySem.W.kitOne X.K (.ref C) cv = some k ∧ Q (.bl k) H) := by
  intro pins s σ H xs us Q I r h
  obtain ⟨ea, C, D, cv, k, rfl, hea, hk, hD, e, q⟩ := h
  obtain ⟨u, c, rfl, r1, r2⟩ := r.two
  cases r1
  obtain ⟨⟨o, h1, h2, h3, h4⟩, _⟩ := I.hok _ _ hea
  have ec : c = cv := by
    rcases hD with ⟨D', rfl, rfl⟩ | ⟨T, rfl, rfl⟩ <;> exact r2
  subst ec
  refine PySem.W.kia_one (kitx_exc hk) I.kIn ⟨o, h1, h2, h4, ?_⟩ e (fun z => nomatch z) fun tk => ⟨.bl k, H, I.tok tk, rfl, q⟩
  rw [h3]
  trivial
end L2

namespace L2
open PySem PySem.Spec PyProof.Rows
/-! ### a slice of a text -/
theorem sl_str {X : Cx} : SlR X (fun x lo hi H Q => ∃ z, x = .str z ∧ z.length ≤ sizeLine ∧ Q (.str (Txt.slice z lo hi)) H) := by
  intro pins s σ H x v vl vu lo hi sl Q I rx hs pl pu h
  obtain ⟨z, rfl, hz, q⟩ := h
  obtain ⟨t, rfl⟩ := rx
  have part : ∀ {u : Value} {o : Option Int}, IsPart u o → ∃ l : Option (Int × Tok), partValue l = u ∧ l.map (·.1) = o := fun p => by
    cases p with
    | none => exact ⟨none, rfl, rfl⟩
    | int i t => exact ⟨some (i, t), rfl, rfl⟩
  obtain ⟨l, rfl, rfl⟩ := part pl
  obtain ⟨u, rfl, rfl⟩ := part pu
  exact ⟨"str", _, F.slot_str_getitem.lookup, typeIs_str _ _ _, wpAny_getItem_str_slice (l := l) (u := u) (st := none) hs rfl
    (post_val_or_str ⟨Nat.le_trans (Txt.slice_le z _ _) hz, fun t' k => ⟨.str _, H, I.tok k, ⟨_, rfl⟩, q⟩⟩)⟩
theorem b_ValueError : bootBuiltins "ValueError" = some (.type "ValueError") := by kernel_rfl
end L2

namespace L2
open PySem PySem.Spec PyProof.Rows
/-! ### list(range(n)), list(d) -/
section
variable {X : Cx}
end
/-! ### methods and classes, by what they promise -/
structure KnownM (P : Program) (w : World) (K : PySem.W.Frag) (mg : Str → Option Value) (base : Heap) (CX : CXT) (k : Nat) (C : Addr) (m : Str) (ps : List Str) (sp : Sp) : Prop where
  ex : ∃ f fd, FnOk P w K mg base CX k f fd ps sp ∧ Meth K C m f ∧ Binds K fd ps []
structure KnownI (P : Program) (w : World) (K : PySem.W.Frag) (mg : Str → Option Value) (base : Heap) (CX : CXT) (k : Nat) (C : Addr) (ps : List Str) (sp : Sp) : Prop where
  ex : ∃ f fd, FnOk P w K mg base CX k f fd ps sp ∧ Mk K C f ∧ Binds K fd ps []
structure Mth (K : PySem.W.Frag) (C : Addr) (m qual : Str) (st : Stmt) : Prop where
  ex : ∃ f fd, Fun K m qual st f fd ∧ PySem.W.findIn K (.ref C) m = some (some (.ref f)) ∧ PySem.W.isFn K (.ref f) = true
section
variable {P : Program} {w : World} {K : PySem.W.Frag} {mg : Str → Option Value} {base : Heap} {C : Addr}
end
section
variable {X : Cx} {CX : CXT} {k : Nat} {C : Addr} {ps : List Str} {sp : Sp} {E : XK} {x m : Str} {p pos apos : Pos} {e o : Expr} {es : List Expr} {t : TA} {ta : TE}
end
end L2

namespace L2
open PySem PySem.Spec PyProof.Rows
/-! ### what a comprehension catches -/
end L2

namespace L2
open PySem PySem.Spec PyProof.Rows PySem.Builtin PySem.Builtin.Str
/-! ### what a slice of a text is -/
theorem slice_mem {x : Str} {lo hi : Option Int} {c : Nat} (h : c ∈ (Txt.slice x lo hi).cps.toList) : c ∈ x.cps.toList := by
  unfold Txt.slice at h
  split at h
  · exact h
  · simp only [List.mem_filterMap] at h
    obtain ⟨i, _, e⟩ := h
    rw [← Array.getElem?_toList] at e
    exact List.mem_of_getElem? e
end L2

namespace L2
open PySem PySem.Spec PyProof.Rows
/-! ### for over a dict: it stands still while it is walked -/
section
variable {X : Cx} {pins : List (Addr × Obj)} {σ : St} {H : Hp} {s : Shared} {d : Addr}
end
section
variable {X : Cx} {tg : Expr}
end
end L2

namespace L2
open PySem PySem.Spec PyProof.Rows
/-! ### list.insert -/
section
variable {X : Cx}
/-! ### dict(d) -/
/-! ### d != e, where both hold the same things -/
end
/-! ### for k, v in d.items() -/
section
variable {X : Cx} {elts : List Expr} {x1 : Nat} {tpos apos pos : Pos}
end
/-! ### xs != [], xs[::-1], what is never come to -/
section
variable {X : Cx} {e st : Expr} {te : TE} {ts : TO} {p2 pos : Pos}
theorem ps_dead {st : Stmt} : PS X st (fun _ _ _ => False) := fun _ _ _ _ _ _ h => h.elim
end
end L2

namespace L2
open PySem PySem.Spec PyProof.Rows
/-! ### lambdas: the table of the code that makes them is tracked by what is true of it -/
/-- what the base tells of the code that makes lambdas -/
structure Maker (mg : Str → Option Value) (base : Heap) (c P : Addr) : Prop where
  hd : PySem.W.CodeHd base c P
  bt : base.BuiltinsAt mg P
section
variable {X : Cx}
end
/-! ### the head, with tables -/
/-- a def whose code's table stands in the written part -/
structure TabOf (q : Program) (K : PySem.W.Frag) (z : Addr × Addr) : Prop where
  ex : ∃ x : Str, ((recsOf q).find? (fun e => e.name == x)).isSome = true ∧ PySem.W.tabIn K x = some z
end L2

namespace L2
open PySem PySem.Spec PyProof.Rows
/-! ### C.m(x, ..): a method called through its class -/
/-- what the written part tells of a class whose method m is read from it -/
structure ClsM (K : PySem.W.Frag) (C : Addr) (m : Str) : Prop where
  ga : PySem.W.specialIn K (.ref C) "__getattribute__" = some (some (.builtin "type.__getattribute__"))
  ex : ∃ (mc : Value) (f : Addr), PySem.W.readsIn K C mc = true ∧ PySem.W.findCls K (.ref C) mc m = some (.val (.ref f)) ∧ PySem.W.findIn K (.ref C) m = some (some (.ref f))
section
variable {X : Cx} {CX : CXT} {k : Nat} {C : Addr} {ps : List Str} {sp : Sp} {E : XK} {x m : Str} {p pos apos : Pos} {e o : Expr} {es : List Expr} {t : TA} {ta : TE}
end
end L2
namespace L2
open PySem PySem.Spec PyProof.Rows
/-! ### a def that makes lambdas: its code's table -/
structure DefT (K : PySem.W.Frag) (mg : Str → Option Value) (x : Str) (st : Stmt) (z : Addr × Addr) : Prop where
  ex : ∃ f fd, Fun K x x st f fd ∧ mg x = some (.ref f) ∧ fd.code = .ref z.1
  tab : PySem.W.tabIn K x = some z
section
variable {P : Program} {w : World} {K : PySem.W.Frag} {mg : Str → Option Value} {base : Heap}
end
end L2

namespace L2
open PySem PySem.Spec PyProof.Rows
/-! ### text.index(text) -/
end L2

namespace L2
open PySem PySem.Spec PyProof.Rows
/-! ### x in a list, by the data -/
section
variable {X : Cx}
end
/-! ### spots: pairs of texts -/
end L2

namespace L2
open PySem PySem.Spec PyProof.Rows
/-! ### lambdas that are called -/
/-- a thing that is known to the object, and nothing more -/
def Fz (o : Obj) : HO := .frz o (.ext fun _ => True)
section
variable {X : Cx}
end
end L2

namespace L2
open PySem PySem.Spec PyProof.Rows
/-! ### the maker's cells, lent to those that it calls -/
abbrev Lend := Addr → Option Obj
section
variable {P : Program} {w : World} {H H' : Hp} {h h' : Heap} {f : Lend} {fs : List Addr}
end
structure Lent (X : Cx) (σ : St) (H : Hp) (f : Lend) : Prop where
  free : ∀ b o, f b = some o → H b = none
  cell : ∀ x c, X.env.cells.lookup x = some c → ∃ o v, f c = some o ∧ o.data = .cell v
  val : ∀ (i : Nat) x v, X.N[i]? = some x → σ[i]? = some (some v) → X.env.scope.names.lookup x = some .cell → ∃ c o u, X.env.cells.lookup x = some c ∧ f c = some o ∧ o.data = .cell (some u) ∧ RelV v u
  inj : ∀ x y c, X.env.cells.lookup x = some c → X.env.cells.lookup y = some c → x = y
section
variable {X : Cx} {k : Nat} {C : Addr} {ps : List Str} {sp : Sp} {x m : Str} {p pos apos : Pos} {e o : Expr} {es : List Expr} {t : TA} {ta : TE}
end
/-! ### a lambda runs -/
structure LamFn (P : Program) (w : World) (K : PySem.W.Frag) (mg : Str → Option Value) (base : Heap) (k : Nat) (fa : Addr) (sp : Sp) : Prop where
  fn : ∀ vs H Q E, sp vs H Q E → ∃ c d fd sl, H fa = some (Fz ⟨c, d, .func fd, sl⟩)
  run : ∀ (A : Around) (outer : List Env) (s : Shared) (H : Hp) (us : List Value) (vs : List V) (Q : VK) (E : XK), Room k A → Env0 P w K mg base A outer s H → Vals vs us → sp vs H Q E →
    codeAny (model P w) A (.call (.ref fa) ⟨us, []⟩) (CR CX0 outer P w H s Q E) s
section
variable {X : Cx} {k : Nat} {x : Str} {p pos : Pos} {e : Expr} {es : List Expr} {t : TA}
end
end L2

namespace L2
open PySem PySem.Spec PyProof.Rows
/-! ### what a lambda promises -/
/-! ### the head, with tables of code that is called -/
end L2

namespace L2
open PySem PySem.Spec PyProof.Rows
/-! ### o.f(..), f a field of the instance: a lambda -/
section
variable {X : Cx} {k : Nat} {m : Str} {p pos apos : Pos} {e o : Expr} {es : List Expr} {ta : TE} {t : TA}
end
/-! ### a def that returns a closure: its cells stay, known to the object -/
structure EndsR where
  nx : St → Hp → Prop
  rt : V → St → Hp → Prop
abbrev TSR := EndsR → St → Hp → Prop
section
variable {X : Cx} {st : Stmt} {rest : List Stmt} {t u : TSR} {e : Expr} {te : TE} {pos : Pos}
end
end L2

namespace L2
open PySem PySem.Spec PyProof.Rows
section
variable {P : Program} {w : World} {K : PySem.W.Frag} {mg : Str → Option Value} {base : Heap} {N : List Str} {qual : Str} {scope : Scope} {f : Addr} {cd : Value} {A : Around} {outer : List Env} {s : Shared} {H : Hp} {E : XK}
end
end L2

namespace L2
open PySem PySem.Spec PyProof.Rows
/-! ### isinstance with a tuple of own classes -/
end L2

namespace L2
open PySem PySem.Spec PyProof.Rows
/-! ### rules laid in boxes: what is in them stays closed while the parts are fitted -/
structure PEw (X : Cx) (e : Expr) (t : TE) : Prop where
  run : PE X e t
structure PAw (X : Cx) (es : List Expr) (t : TA) : Prop where
  run : PA X es t
structure PTw (X : Cx) (e : Expr) (t : TT) : Prop where
  run : PT X e t
structure PSw (X : Cx) (st : Stmt) (t : TS) : Prop where
  run : PS X st t
structure PSsw (X : Cx) (st : List Stmt) (t : TS) : Prop where
  run : PSs X st t
section
variable {X : Cx} {es : List Expr} {te : TE} {t u : TA}
theorem paw_nil : PAw X [] tNil := ⟨pa_nil⟩
theorem paw_t {elts : List Expr} {k : Nat} {pos : Pos} (ha : PEw X (.Tuple elts k pos) te) (hr : PAw X es t) : PAw X (.Tuple elts k pos :: es) (tCons te t) := ⟨pa_cons ha.run hr.run rfl⟩
theorem paw_k {c : Const} {k : Nat} {pos : Pos} (ha : PEw X (.Constant c k pos) te) (hr : PAw X es t) : PAw X (.Constant c k pos :: es) (tCons te t) := ⟨pa_cons ha.run hr.run rfl⟩
theorem paw_b {a b : Expr} {op : Operator} {pos : Pos} (ha : PEw X (.BinOp a op b pos) te) (hr : PAw X es t) : PAw X (.BinOp a op b pos :: es) (tCons te t) := ⟨pa_cons ha.run hr.run rfl⟩
theorem paw_n {x : Str} {pos : Pos} (ha : PEw X (.Name x pos) te) (hr : PAw X es t) : PAw X (.Name x pos :: es) (tCons te t) := ⟨pa_cons ha.run hr.run rfl⟩
theorem pew_lst {pos : Pos} (h : PAw X es t) : PEw X (.List es pos) (tLst t) := ⟨pe_lst h.run⟩
theorem pew_str {x j} {pos : Pos} : PEw X (.Constant (.str x) j pos) (tC (.str x)) := ⟨pe_str⟩
theorem pew_non {j} {pos : Pos} : PEw X (.Constant .none j pos) (tC .non) := ⟨pe_non⟩
theorem pew_op {op : Operator} {r : R2} {a b : Expr} {ta tb : TE} {pos : Pos} (ho : OpR X (binaryOp op) r) (ha : PEw X a ta) (hb : PEw X b tb) : PEw X (.BinOp a op b pos) (tOp r ta tb) := ⟨pe_op ho ha.run hb.run⟩
end
section
variable {X : Cx} {st : Stmt} {rest : List Stmt} {t u : TS} {pos : Pos}
theorem psw_set {i : Nat} {x : Str} {e : Expr} {te : TE} {pos' : Pos} (hN : X.N.Nodup) (hi : X.N[i]? = some x) (hx : Loc X.env.scope x) (he : PEw X e te) (hs : swapsWith e (some (.Name x pos')) pos.line X.env = pure false := by rfl) (hf : X.fn x = true ∨ X.env.scope.names.lookup x = some .local := by first | exact .inl rfl | exact .inr rfl | assumption) :
    PSw X (.Assign [.Name x pos'] e pos) (tAsg te (gName i)) := ⟨ps_set hN hi hx he.run hs hf⟩
theorem pssw_cons (h1 : PSw X st t) (h2 : PSsw X rest u) : PSsw X (st :: rest) (tSeq t u) := ⟨pss_cons h1.run h2.run⟩
theorem pssw_one (h1 : PSw X st t) : PSsw X [st] t := ⟨pss_one h1.run⟩
end
end L2

namespace L2
open PySem PySem.Spec PyProof.Rows
/-! ### text.startswith(text), text.upper(), int(text) -/
theorem mt_starts {X : Cx} : MtR X "str.startswith" (fun x xs H Q => ∃ z y : Str, x = .str z ∧ xs = [.str y] ∧ Q (.bl (Txt.startswith z y)) H) := by
  intro pins s σ H x vs v us Q I rx rv h
  obtain ⟨z, y, rfl, rfl, q⟩ := h
  obtain ⟨t, rfl⟩ := rx
  obtain ⟨u, rfl, ru⟩ := rv.one
  obtain ⟨t', rfl⟩ := ru
  exact call_gives F.slot_str_startswith (typeIs_str _ _ _) F.entry_str_startswith (F.args_str_startswith_2 _ _) (gives_str_startswith z y t t') ⟨.bl (Txt.startswith z y), H, I, rfl, q⟩
theorem mt_upper {X : Cx} : MtR X "str.upper" (fun x xs H Q => ∃ z : Str, x = .str z ∧ xs = [] ∧ Builtin.Str.tooLong (Txt.upper z).length = false ∧ Q (.str (Txt.upper z)) H) := by
  intro pins s σ H x vs v us Q I rx rv h
  obtain ⟨z, rfl, rfl, hf, q⟩ := h
  obtain ⟨t, rfl⟩ := rx
  cases rv
  exact SC.upper hf ⟨.str (Txt.upper z), H, I.tok _, ⟨_, rfl⟩, q⟩
theorem call_int_text {X : Cx} : CallR X (.type "int") (fun xs H Q => ∃ (x : Str) (n : Int), xs = [.str x] ∧ PySem.intText? x = some n ∧ x.length ≤ 640 ∧ Q (.int n) H) := by
  intro pins s σ H xs us Q I r h
  obtain ⟨x, n, rfl, hn, hl, q⟩ := h
  obtain ⟨u, rfl, t, rfl⟩ := vals1 r
  exact PySem.W.KIN.call_text hn hl ⟨.int n, H, I.tok _, ⟨_, rfl⟩, q⟩
/-! ### what these texts are -/
theorem str_ext {a b : Str} (h : a.cps.toList = b.cps.toList) : a = b := by
  obtain ⟨a⟩ := a
  obtain ⟨b⟩ := b
  exact congrArg Str.mk (Array.toList_inj.mp h)
theorem len_list (a : Str) : a.length = a.cps.toList.length := by
  show a.cps.size = _
  rw [Array.length_toList]
theorem cat_list (a b : Str) : (a ++ b).cps.toList = a.cps.toList ++ b.cps.toList := by
  show (a.cps ++ b.cps).toList = _
  rw [Array.toList_append]
theorem slice_list {x : Str} {a b : Nat} (hab : a ≤ b) (hb : b ≤ x.length) : (Txt.slice x (some (a : Int)) (some (b : Int))).cps.toList = (x.cps.toList.drop a).take (b - a) := by
  unfold Txt.slice
  split
  · rename_i h
    rw [StrLaws.strSliceIndices_plain hab hb] at h
    have hl : x.cps.toList.length = x.length := by rw [Array.length_toList]; rfl
    have e : b - a = x.length := by simpa using h
    have ea : a = 0 := by omega
    rw [ea, List.drop_zero, List.take_of_length_le (by omega)]
  · show (List.toArray _).toList = _
    rw [List.toList_toArray, StrLaws.sliced_plain x hab hb]
theorem slice_end {x : Str} {a : Nat} : Txt.slice x (some (a : Int)) none = Txt.slice x (some (a : Int)) (some (x.length : Int)) := by
  have e : Builtin.Str.strSliceIndices (some (a : Int)) none 1 x.length = Builtin.Str.strSliceIndices (some (a : Int)) (some (x.length : Int)) 1 x.length := by
    have e1 : max (0 : Int) (min (x.length : Int) (x.length : Int)) = (x.length : Int) := by omega
    have e2 : ¬ ((x.length : Int) < 0) := by omega
    simp [Builtin.Str.strSliceIndices, e1, e2]
  unfold Txt.slice
  rw [e]
theorem slice1_list (z : Str) (h : 1 ≤ z.length) : (Txt.slice z (some (1 : Int)) none).cps.toList = z.cps.toList.drop 1 := by
  have e : Txt.slice z (some (1 : Int)) none = Txt.slice z (some ((1 : Nat) : Int)) (some (z.length : Int)) := slice_end (a := 1)
  have hl : z.cps.toList.length = z.length := by rw [Array.length_toList]; rfl
  rw [e, slice_list h (Nat.le_refl _), List.take_of_length_le (by rw [List.length_drop, hl]; exact Nat.le_refl _)]
theorem starts_one (z : Str) (c : Nat) : Txt.startswith z ⟨#[c]⟩ = decide (z.cps.toList.head? = some c) := by
  obtain ⟨l⟩ := z
  obtain ⟨l⟩ := l
  show (decide (0 + 1 ≤ l.length) && (l.toArray.extract 0 (0 + 1) == #[c])) = decide (l.head? = some c)
  cases l with
  | nil => rfl
  | cons x xs =>
    by_cases h : x = c
    · subst h
      simp
    · simp [h]
end L2

namespace My
open PySem L2
def top (i : Nat) : Stmt := PySem.Challenge.pw_lazycols_k51_values_written.main.body.getD i (.Pass ⟨0, 0, 0, 0⟩)
abbrev s_is_name : Stmt := top 19
abbrev s_is_fault : Stmt := top 20
abbrev s_fault : Stmt := top 21
abbrev s_writes_number : Stmt := top 25
abbrev s_show_value : Stmt := top 27
abbrev s_read_value : Stmt := top 28
abbrev s_law_cell : Stmt := top 30
abbrev s_law_word : Stmt := top 31
abbrev s_law_value : Stmt := top 32
abbrev s_law_digits : Stmt := top 33
abbrev s_law_bad : Stmt := top 34
abbrev s_law_refused : Stmt := top 35
abbrev s_law : Stmt := top 36
/-- where the refusals stand -/
structure Ad where
  ColsError : Addr
  NoName : Addr
  NoValue : Addr
  NoTable : Addr
  NoColumn : Addr
  NoPlace : Addr
  NoSize : Addr
  NoText : Addr
  NoRow : Addr
  NoBack : Addr
  TooMuch : Addr
  Ruled : Addr
  Ring : Addr
  Nobody : Addr
  Several : Addr
structure Excs (K : PySem.W.Frag) (mg : Str → Option Value) (c : Ad) : Prop where
  c_ColsError : mg "ColsError" = some (.ref c.ColsError)
  c_NoName : mg "NoName" = some (.ref c.NoName)
  c_NoValue : mg "NoValue" = some (.ref c.NoValue)
  c_NoTable : mg "NoTable" = some (.ref c.NoTable)
  c_NoColumn : mg "NoColumn" = some (.ref c.NoColumn)
  c_NoPlace : mg "NoPlace" = some (.ref c.NoPlace)
  c_NoSize : mg "NoSize" = some (.ref c.NoSize)
  c_NoText : mg "NoText" = some (.ref c.NoText)
  c_NoRow : mg "NoRow" = some (.ref c.NoRow)
  c_NoBack : mg "NoBack" = some (.ref c.NoBack)
  c_TooMuch : mg "TooMuch" = some (.ref c.TooMuch)
  c_Ruled : mg "Ruled" = some (.ref c.Ruled)
  c_Ring : mg "Ring" = some (.ref c.Ring)
  c_Nobody : mg "Nobody" = some (.ref c.Nobody)
  c_Several : mg "Several" = some (.ref c.Several)
  x_NoName : PySem.W.excIn K c.NoName mroV "ValueError.__new__" = true
  x_NoValue : PySem.W.excIn K c.NoValue mroV "ValueError.__new__" = true
  k_NoValue : ExcK K c.NoValue
  v_NoValue : PySem.W.kitOne K (.ref c.NoValue) (.type "ValueError") = some true
  i_NoValue_ColsError : PySem.W.kitOne K (.ref c.NoValue) (.ref c.ColsError) = some true
  e_NoValue_ColsError : PySem.W.exmOne K (.ref c.NoValue) (.ref c.ColsError) = some true
  i_NoValue_NoName : PySem.W.kitOne K (.ref c.NoValue) (.ref c.NoName) = some false
  i_NoValue_NoValue : PySem.W.kitOne K (.ref c.NoValue) (.ref c.NoValue) = some true
  i_NoValue_NoTable : PySem.W.kitOne K (.ref c.NoValue) (.ref c.NoTable) = some false
  i_NoValue_NoColumn : PySem.W.kitOne K (.ref c.NoValue) (.ref c.NoColumn) = some false
  i_NoValue_NoPlace : PySem.W.kitOne K (.ref c.NoValue) (.ref c.NoPlace) = some false
  i_NoValue_NoSize : PySem.W.kitOne K (.ref c.NoValue) (.ref c.NoSize) = some false
  i_NoValue_NoText : PySem.W.kitOne K (.ref c.NoValue) (.ref c.NoText) = some false
  i_NoValue_NoRow : PySem.W.kitOne K (.ref c.NoValue) (.ref c.NoRow) = some false
  i_NoValue_NoBack : PySem.W.kitOne K (.ref c.NoValue) (.ref c.NoBack) = some false
  i_NoValue_TooMuch : PySem.W.kitOne K (.ref c.NoValue) (.ref c.TooMuch) = some false
  i_NoValue_Ruled : PySem.W.kitOne K (.ref c.NoValue) (.ref c.Ruled) = some false
  i_NoValue_Ring : PySem.W.kitOne K (.ref c.NoValue) (.ref c.Ring) = some false
  i_NoValue_Nobody : PySem.W.kitOne K (.ref c.NoValue) (.ref c.Nobody) = some false
  i_NoValue_Several : PySem.W.kitOne K (.ref c.NoValue) (.ref c.Several) = some false
structure Tops (K : PySem.W.Frag) (mg : Str → Option Value) : Prop where
  len : mg "len" = none
  isinstance : mg "isinstance" = none
  int : mg "int" = none
  bool : mg "bool" = none
  str : mg "str" = none
  all : mg "all" = none
  range : mg "range" = none
  abs : mg "abs" = none
  list : mg "list" = none
  tuple : mg "tuple" = none
  ValueError : mg "ValueError" = none
  g_LETTERS : ∃ t, mg "LETTERS" = some (.str ("abcdefghijklmnopqrstuvwxyz" : Str) t)
  g_MOST_LETTERS : ∃ t, mg "MOST_LETTERS" = some (.int 8 t)
  g_FIGURES : ∃ t, mg "FIGURES" = some (.str ("0123456789" : Str) t)
  g_MOST_FIGURES : ∃ t, mg "MOST_FIGURES" = some (.int 60 t)
  d_is_name : Def K mg "is_name" s_is_name
  d_is_fault : Def K mg "is_fault" s_is_fault
  d_fault : Def K mg "fault" s_fault
  d_writes_number : Def K mg "writes_number" s_writes_number
  d_show_value : Def K mg "show_value" s_show_value
  d_read_value : Def K mg "read_value" s_read_value
  d_law_cell : Def K mg "_law_cell" s_law_cell
  d_law_word : Def K mg "_law_word" s_law_word
  d_law_value : Def K mg "_law_value" s_law_value
  d_law_digits : Def K mg "_law_digits" s_law_digits
  d_law_bad : Def K mg "_law_bad" s_law_bad
  d_law_refused : Def K mg "_law_refused" s_law_refused
  d_law : Def K mg "law" s_law
  exc : ∃ c : Ad, Excs K mg c
end My

namespace My
open PySem L2
abbrev letters : Str := "abcdefghijklmnopqrstuvwxyz"
def inL (c : Nat) : Bool := !(Builtin.Str.occurrences letters ⟨#[c]⟩ 0 letters.length 1).isEmpty
def nameS (t : Str) : Bool := decide ((1 : Int) ≤ t.length) && decide ((t.length : Int) ≤ 8) && t.cps.toList.all inL
def nameD : PyData → Bool
  | .str t => nameS t
  | _ => false
def faultD : PyData → Bool
  | .tuple [.str z, d] => decide (z = "fault") && nameD d
  | _ => false
/-- a text is short; the texts in a tuple are -/
def shortS (d : PyData) : Prop := ∀ t, d = .str t → t.length ≤ 1000
def shortD (d : PyData) : Prop := ∀ ds, d = .tuple ds → ∀ e ∈ ds, shortS e
theorem shortS_str {t : Str} (h : t.length ≤ 1000) : shortS (.str t) := fun z e => by cases e; exact h
theorem shortS_not {d : PyData} (h : kdD d ≠ .str) : shortS d := fun z e => by subst e; exact absurd rfl h
theorem shortD_not {d : PyData} (h : kdD d ≠ .tup) : shortD d := fun z e => by subst e; exact absurd rfl h
theorem shortD_tup {ds : List PyData} (h : ∀ e ∈ ds, shortS e) : shortD (.tuple ds) := fun z e => by cases e; exact h
section
variable {P : Program} {w : World} {K : PySem.W.Frag} {mg : Str → Option Value} {base : Heap}
def spName (K : PySem.W.Frag) : Sp := fun vs H Q _ => ∃ x d, vs = [x] ∧ Dt K H x d ∧ shortS d ∧ ∀ H', Same H H' → Q (.bl (nameD d)) H'
theorem sc_is_name : FnScope ["thing"] ["thing"] (defScope s_is_name) := ⟨rfl, rfl, rfl, by decide +kernel, rfl, by decide +kernel, by decide +kernel⟩
theorem k_is_name (T : Tops K mg) : Known P w K mg base CX0 1 "is_name" ["thing"] (spName K) := by
  refine T.d_is_name.known sc_is_name (fun _ _ _ _ _ _ us hl => match us, hl with | [_], _ => rfl) (fun vs H Q E h => ?_) (fun f cdv A outer s H vs Q E hr h => ?_)
  · obtain ⟨x, a, rfl, _⟩ := h
    rfl
  · obtain ⟨x, d, rfl, hd, hsh, q⟩ := h
    refine ⟨_, (pss_cons (ps_if (PW.pt (pw_or (pt_not (pt_val (pe_callB call_isT rfl T.isinstance b_isinstance (pa_cons (pv 0) (pa_cons (pe_ty T.str b_str) pa_nil))) (fun _ => rfl))) (pw_or1 (pt_not (pt_chain op_le op_le pe_int (pe_callB call_len rfl T.len b_len (pa_cons (pv 0) pa_nil)) (pe_gI T.g_MOST_LETTERS)))))) (pss_one (ps_ret pe_bl)) pss_nil)
      (pss_one (ps_ret (pe_callB (call_all rfl) rfl T.all b_all (pa_cons (pe_comp caps0 rfl rfl (by decide) (pi_str (pv 0)) (fun _ _ _ _ _ => pts_nil) (fun _ _ _ _ _ => (pe_cmpR op_in_str (pv 0) (pe_gS T.g_LETTERS) (by with_unfolding_all rfl)))) pa_nil))))), ?_⟩
    refine ⟨_, rfl, x, "str", d, _, rfl, hd, kit_str K _, _, rfl, ?_⟩
    by_cases hk : kdD d = .str
    · obtain ⟨t, rfl⟩ : ∃ t, d = .str t := by cases d <;> simp [kdD] at hk ⊢
      cases hd
      have ht : t.length ≤ 1000 := hsh t rfl
      refine iteF ?_
      refine ⟨_, rfl, _, _, rfl, ⟨sl ht, rfl⟩, _, _, rfl, rfl, _, rfl, ?_⟩
      refine ite2 (fun h1 => ?_) (fun h1 => ?_)
      · refine ⟨_, _, rfl, rfl, _, rfl, ?_⟩
        refine ite2 (fun h2 => ?_) (fun h2 => ?_)
        · have e : nameD (.str t) = false := by
            show nameS t = false
            unfold nameS
            have : decide ((t.length : Int) ≤ 8) = false := by simpa using h2
            rw [this, Bool.and_false, Bool.false_and]
          rw [← e]
          exact q H (Same.refl H)
        · have h8 : t.cps.size ≤ 8 := by
            have : (t.length : Int) ≤ 8 := by simpa using h2
            show t.length ≤ 8
            omega
          refine ⟨_, rfl, t, rfl, fun D hD => ?_⟩
          refine comp_str (x := t) (fun i ys H2 => ys = (t.cps.toList.take i).map (fun c => V.bl (inL c)) ∧ Same H H2) ⟨rfl, Same.new hD⟩ ?_ ?_
          · rintro i c ys H2 hc h2D ⟨rfl, s2⟩
            have hi : i < t.cps.size := (Array.getElem?_eq_some_iff.mp hc).1
            refine ⟨_, rfl, _, _, rfl, rfl, h2D, ?_, ?_, s2.on hD⟩
            · rw [List.length_map, List.length_take, Array.length_toList]
              exact small1000 (by omega)
            · rw [List.take_add_one, List.map_append, Array.getElem?_toList, hc]
              rfl
          · rintro ys H2 h2D ⟨rfl, s2⟩
            refine ⟨D, t.cps.toList.map inL, rfl, SqL.of ?_, ?_⟩
            · rw [h2D, List.take_of_length_le (by simp), List.map_map]
              rfl
            · have e : nameD (.str t) = (t.cps.toList.map inL).all id := by
                show nameS t = _
                unfold nameS
                have e1 : decide ((1 : Int) ≤ t.length) = true := h1
                have e2 : decide ((t.length : Int) ≤ 8) = true := by simpa using h2
                rw [e1, e2, Bool.true_and, Bool.true_and, List.all_map]
                rfl
              rw [← e]
              exact q H2 s2
      · refine ⟨_, rfl, ?_⟩
        refine iteT ?_
        have e : nameD (.str t) = false := by
          show nameS t = false
          unfold nameS
          have : decide ((1 : Int) ≤ t.length) = false := by simpa using h1
          rw [this, Bool.false_and, Bool.false_and]
        rw [← e]
        exact q H (Same.refl H)
    · rw [decide_eq_false hk]
      refine iteT (iteT ?_)
      have e : nameD d = false := by cases d <;> simp [kdD] at hk <;> rfl
      rw [← e]
      exact q H (Same.refl H)
def spFault (K : PySem.W.Frag) : Sp := fun vs H Q _ => ∃ x d, vs = [x] ∧ Dt K H x d ∧ shortD d ∧ ∀ H', Same H H' → Q (.bl (faultD d)) H'
theorem sc_is_fault : FnScope ["thing"] ["thing"] (defScope s_is_fault) := ⟨rfl, rfl, rfl, by decide +kernel, rfl, by decide +kernel, by decide +kernel⟩
theorem faultD_len {ds : List PyData} (h : ds.length ≠ 2) : faultD (.tuple ds) = false := by
  match ds, h with
  | [], _ => rfl
  | [a], _ => cases a <;> rfl
  | [a, b], h => exact absurd rfl h
  | a :: b :: c :: r, _ => cases a <;> rfl
theorem k_is_fault (T : Tops K mg) : Known P w K mg base CX0 2 "is_fault" ["thing"] (spFault K) := by
  have G_is_name : Known P w K mg base CX0 1 "is_name" ["thing"] (spName K) := k_is_name T
  refine T.d_is_fault.known sc_is_fault (fun _ _ _ _ _ _ us hl => match us, hl with | [_], _ => rfl) (fun vs H Q E h => ?_) (fun f cdv A outer s H vs Q E hr h => ?_)
  · obtain ⟨x, a, rfl, _⟩ := h
    rfl
  · obtain ⟨x, d, rfl, hd, hsh, q⟩ := h
    refine ⟨_, (pss_cons (ps_if (PW.pt (pw_or (pt_not (pt_val (pe_callB call_isT rfl T.isinstance b_isinstance (pa_cons (pv 0) (pa_cons (pe_ty T.tuple b_tuple) pa_nil))) (fun _ => rfl))) (pw_or1 (pt_cmpR op_ne (pe_callB call_len rfl T.len b_len (pa_cons (pv 0) pa_nil)) pe_int (nomark _))))) (pss_one (ps_ret pe_bl)) pss_nil)
      (pss_one (ps_ret (pe_and (pe_callB call_isT rfl T.isinstance b_isinstance (pa_cons (pe_ix ix_tup (pv 0) pe_int (fun _ _ => rfl)) (pa_cons (pe_ty T.str b_str) pa_nil))) (pe_and (pe_cmpR op_eq (pe_ix ix_tup (pv 0) pe_int (fun _ _ => rfl)) pe_str (nomark _)) (pe_one (pe_callN G_is_name (hr.mono (by decide)) pass0 (pa_cons (pe_ix ix_tup (pv 0) pe_int (fun _ _ => rfl)) pa_nil)))))))), ?_⟩
    refine ⟨_, rfl, x, "tuple", d, _, rfl, hd, kit_tuple K _, _, rfl, ?_⟩
    by_cases hk : kdD d = .tup
    · obtain ⟨ds, rfl⟩ : ∃ ds, d = .tuple ds := by cases d <;> simp [kdD] at hk ⊢
      cases hd with
      | @tup a xs _ hq hall =>
        refine iteF ?_
        refine ⟨_, rfl, _, _, rfl, .inr ⟨_, hq, rfl⟩, rfl, _, rfl, ?_⟩
        have hl := hall.length
        refine ite2 (fun h1 => ?_) (fun h1 => ?_)
        · have h1' : xs.length ≠ 2 := by
            intro z
            rw [z] at h1
            exact absurd h1 (by decide)
          have e := faultD_len (ds := ds) (by rw [← hl]; exact h1')
          rw [← e]
          exact q H (Same.refl H)
        · have h1' : xs.length = 2 := by
            have z : ¬ (!decide (V.int (xs.length : Int) = V.int 2)) = true := h1
            have z2 : (xs.length : Int) = 2 := by simpa using z
            omega
          match xs, ds, hall, h1', hl with
          | [y, z], _, .cons (d := d1) h2 (.cons (d := d2) h3 .nil), _, _ =>
            have a0 : atI [y, z] 0 = some y := rfl
            have a1 : atI [y, z] 1 = some z := rfl
            refine ⟨_, rfl, _, _, _, _, rfl, rfl, hq, a0, y, "str", d1, _, rfl, h2, kit_str K _, _, rfl, ?_⟩
            refine ite2 (fun h4 => ?_) (fun h4 => ?_)
            · obtain ⟨t, rfl⟩ : ∃ t, d1 = .str t := by cases d1 <;> simp [kdD] at h4 ⊢
              cases h2
              refine ⟨_, rfl, _, _, _, _, rfl, rfl, hq, a0, rfl, _, rfl, ?_⟩
              refine ite2 (fun h5 => ?_) (fun h5 => ?_)
              · have h5' : t = "fault" := by
                  have z5 : V.str t = V.str "fault" := by simpa using h5
                  exact V.str.inj z5
                refine ⟨_, rfl, _, _, _, _, rfl, rfl, hq, a1, z, d2, rfl, h3, hsh _ rfl _ (List.mem_cons_of_mem _ List.mem_cons_self), fun H' s' => ?_⟩
                · have e : faultD (.tuple [.str t, d2]) = nameD d2 := by
                    show (decide (t = "fault") && nameD d2) = nameD d2
                    rw [decide_eq_true h5', Bool.true_and]
                  rw [← e]
                  exact q H' s'
              · have h5' : t ≠ "fault" := fun z5 => h5 (by rw [z5]; rfl)
                have e : faultD (.tuple [.str t, d2]) = false := by
                  show (decide (t = "fault") && nameD d2) = false
                  rw [decide_eq_false h5', Bool.false_and]
                show Q (.bl false) H
                rw [← e]
                exact q H (Same.refl H)
            · have e : faultD (.tuple [d1, d2]) = false := by cases d1 <;> simp [kdD] at h4 <;> rfl
              show Q (.bl false) H
              rw [← e]
              exact q H (Same.refl H)
    · rw [decide_eq_false hk]
      refine iteT (iteT ?_)
      have e : faultD d = false := by cases d <;> simp [kdD] at hk <;> rfl
      rw [← e]
      exact q H (Same.refl H)
end
end My

namespace My
open PySem L2
def cellZ (ns : List Int) (k : Int) : Int := if k < ns.length then ns.getD k.toNat 0 else ((if 0 < (ns.length : Int) then ns.getD (k % ns.length).toNat 0 % 2147483647 else 41) + k * k + 5) * (48271 + 16807 * k) % 2147483629
section
variable {P : Program} {w : World} {K : PySem.W.Frag} {mg : Str → Option Value} {base : Heap}
def spCell (K : PySem.W.Frag) : Sp := fun vs H Q _ => ∃ (a : Addr) (ns : List Int) (k : Int), vs = [.ref a, .int k] ∧ SqL K H a (ns.map V.int) ∧ ns.length ≤ 63 ∧ 0 ≤ k ∧ k ≤ 1000000 ∧ Q (.int (cellZ ns k)) H
theorem sc_law_cell : FnScope ["_law_script", "_law_k", "_law_seed"] ["_law_script", "_law_k"] (defScope s_law_cell) := ⟨rfl, rfl, rfl, by decide +kernel, rfl, by decide +kernel, by decide +kernel⟩
theorem k_law_cell (T : Tops K mg) : Known P w K mg base CX0 1 "_law_cell" ["_law_script", "_law_k"] (spCell K) := by
  refine T.d_law_cell.known sc_law_cell (fun _ _ _ _ _ _ us hl => match us, hl with | [_, _], _ => rfl) (fun vs H Q E h => ?_) (fun f cdv A outer s H vs Q E hr h => ?_)
  · obtain ⟨a, ns, k, rfl, _⟩ := h
    rfl
  · obtain ⟨a, ns, k, rfl, hS, hl, h0, h6, q⟩ := h
    refine ⟨_, (pss_cons (ps_if (pt_cmpR op_lt (pv 1) (pe_callB call_len rfl T.len b_len (pa_cons (pv 0) pa_nil)) (nomark _)) (pss_one (ps_ret (pe_ix ix_list (pv 0) (pv 1) (fun _ _ => rfl)))) pss_nil)
      (pss_cons (ps_set (i := 2) sc_law_cell.nd rfl (Or.inl rfl) pe_int)
      (pss_cons (ps_if (pt_cmpR op_gt (pe_callB call_len rfl T.len b_len (pa_cons (pv 0) pa_nil)) pe_int (nomark _)) (pss_one (ps_set (i := 2) sc_law_cell.nd rfl (Or.inl rfl) (pe_op op_mod (pe_ix ix_list (pv 0) (pe_op op_mod (pv 1) (pe_callB call_len rfl T.len b_len (pa_cons (pv 0) pa_nil))) (fun _ _ => rfl)) pe_int))) pss_nil)
      (pss_one (ps_ret (pe_op op_mod (pe_op op_mul (pe_op op_add (pe_op op_add (pv 2) (pe_op op_mul (pv 1) (pv 1))) pe_int) (pe_op op_add pe_int (pe_op op_mul pe_int (pv 1)))) pe_int)))))), ?_⟩
    have el : ((ns.map V.int).length : Int) = (ns.length : Int) := by rw [List.length_map]
    refine ⟨_, rfl, _, rfl, _, _, rfl, .inl ⟨_, hS, rfl⟩, _, _, rfl, rfl, _, rfl, ?_⟩
    rw [el]
    refine ite2 (fun h1 => ?_) (fun h1 => ?_)
    · have h1' : k < ns.length := by simpa using h1
      refine ⟨_, rfl, _, rfl, a, _, k, _, rfl, rfl, hS, at_map ns k h0 h1', ?_⟩
      have e : cellZ ns k = ns.getD k.toNat 0 := by unfold cellZ; rw [if_pos h1']
      rw [← e]
      exact q
    · have h1' : ¬ k < ns.length := by simpa using h1
      refine ⟨_, rfl, _, _, rfl, .inl ⟨_, hS, rfl⟩, _, _, rfl, rfl, _, rfl, ?_⟩
      rw [el]
      have fin : ∀ seed : Int, cellZ ns k = (seed + k * k + 5) * (48271 + 16807 * k) % 2147483629 →
          tRet (tOp (rI (fun _ j => 0 < j) fun i j => .int (i % j)) (tOp (rI CMul fun i j => .int (i * j)) (tOp (rI0 fun i j => .int (i + j)) (tOp (rI0 fun i j => .int (i + j)) (tVar 2) (tOp (rI CMul fun i j => .int (i * j)) (tVar 1) (tVar 1))) (tC (.int 5))) (tOp (rI0 fun i j => .int (i + j)) (tC (.int 48271)) (tOp (rI CMul fun i j => .int (i * j)) (tC (.int 16807)) (tVar 1)))) (tC (.int 2147483629)))
            { nx := fun _ H' => Q .non H', rt := Q } [some (.ref a), some (.int k), some (.int seed)] H := fun seed e => by
        refine ⟨_, rfl, _, rfl, _, rfl, _, _, rfl, rfl, .inl ⟨by omega, by omega⟩, _, _, rfl, rfl, _, _, rfl, rfl, _, rfl, _, _, rfl, rfl, .inl ⟨by decide, by decide⟩, _, _, rfl, rfl, _, _, rfl, rfl, .inr ⟨by omega, by omega⟩, _, _, rfl, rfl, (show (0 : Int) < 2147483629 by decide), ?_⟩
        show Q (.int ((seed + k * k + 5) * (48271 + 16807 * k) % 2147483629)) H
        rw [← e]
        exact q
      refine ite2 (fun h2 => ?_) (fun h2 => ?_)
      · have h2' : 0 < (ns.length : Int) := by simpa using h2
        have hm := Int.emod_nonneg k (Int.ne_of_gt h2')
        have hm' := Int.emod_lt_of_pos k h2'
        refine ⟨_, rfl, _, rfl, _, rfl, _, _, rfl, .inl ⟨_, hS, rfl⟩, _, _, rfl, rfl, by rw [el]; exact h2', a, _, _, _, rfl, rfl, hS, by rw [el]; exact at_map ns _ hm hm', _, _, rfl, rfl, (show (0 : Int) < 2147483647 by decide), ?_⟩
        refine fin _ ?_
        unfold cellZ
        rw [if_neg h1', if_pos h2']
      · have h2' : ¬ 0 < (ns.length : Int) := by simpa using h2
        refine fin 41 ?_
        unfold cellZ
        rw [if_neg h1', if_neg h2']
theorem let_lt : ∀ c ∈ letters.cps.toList, c < 128 := by decide +kernel
theorem let_in : ∀ c ∈ letters.cps.toList, inL c = true := by decide +kernel
theorem let_len : letters.cps.toList.length = 26 := by decide +kernel
/-- a word of small letters -/
def Word (cs : List Nat) : Prop := 1 ≤ cs.length ∧ cs.length ≤ 8 ∧ ∀ c ∈ cs, c ∈ letters.cps.toList
theorem Word.name {cs : List Nat} (h : Word cs) : nameS ⟨cs.toArray⟩ = true := by
  obtain ⟨h1, h2, h3⟩ := h
  have e : (⟨cs.toArray⟩ : Str).length = cs.length := by show cs.toArray.size = _; simp
  unfold nameS
  rw [e]
  have a1 : decide ((1 : Int) ≤ cs.length) = true := by simp; omega
  have a2 : decide ((cs.length : Int) ≤ 8) = true := by simp; omega
  have a3 : cs.toArray.toList.all inL = true := by
    rw [List.all_eq_true]
    intro c hc
    exact let_in c (h3 c (by simpa using hc))
  rw [a1, a2]
  exact a3
theorem Word.short {cs : List Nat} (h : Word cs) : (⟨cs.toArray⟩ : Str).length ≤ 8 := by
  show cs.toArray.size ≤ 8
  rw [List.size_toArray]
  exact h.2.1
end
end My

namespace My
open PySem L2
/-! ### texts by their signs -/
abbrev figT : Str := "0123456789"
def inF (c : Nat) : Bool := !(Builtin.Str.occurrences figT ⟨#[c]⟩ 0 figT.length 1).isEmpty
theorem inF_lt : ∀ c, c < 128 → inF c = (decide (48 ≤ c) && decide (c ≤ 57)) := by decide +kernel
theorem inL_lt : ∀ c, c < 128 → inL c = (decide (97 ≤ c) && decide (c ≤ 122)) := by decide +kernel
def okF (ds : List Nat) : Bool := decide ((1 : Int) ≤ (ds.length : Int)) && decide ((ds.length : Int) ≤ 60) && ds.all inF
def numL (cs : List Nat) : Bool := if cs.head? = some 45 then okF (cs.drop 1) && !decide ((cs.drop 1).head? = some 48) else okF cs && (decide (cs = [48]) || !decide (cs.head? = some 48))
theorem nameS_len {z : Str} (h : nameS z = true) : z.length ≤ 8 := by
  unfold nameS at h
  simp only [Bool.and_eq_true, decide_eq_true_eq] at h
  omega
/-- no value is written so -/
def refL (cs : List Nat) : Prop := numL cs = false ∧ ∀ ws, cs = 33 :: ws → nameS ⟨ws.toArray⟩ = false
theorem okF_no {ds : List Nat} {c : Nat} (h : c ∈ ds) (hc : inF c = false) : okF ds = false := by
  have : ds.all inF = false := List.all_eq_false.mpr ⟨c, h, by rw [hc]; decide⟩
  unfold okF
  rw [this, Bool.and_false]
theorem ref_sign {cs : List Nat} {c : Nat} (h : c ∈ cs) (hc : inF c = false) (h45 : c ≠ 45) (h33 : cs.head? ≠ some 33) : refL cs := by
  refine ⟨?_, fun ws e => absurd (by rw [e]; rfl) h33⟩
  unfold numL
  split
  · rename_i h1
    cases cs with
    | nil => cases h
    | cons d ds =>
      cases h1
      have : c ∈ ds := by
        rcases List.mem_cons.mp h with h | h
        · exact absurd h h45
        · exact h
      rw [show (List.drop 1 (45 :: ds)) = ds from rfl, okF_no this hc, Bool.false_and]
  · rw [okF_no h hc, Bool.false_and]
theorem ref_bang {ws : List Nat} (h : nameS ⟨ws.toArray⟩ = false) : refL (33 :: ws) := by
  refine ⟨?_, fun vs e => by cases e; exact h⟩
  unfold numL
  rw [if_neg (by simp), okF_no (c := 33) (by simp) (by decide +kernel), Bool.false_and]
theorem name_no {ws : List Nat} {c : Nat} (h : c ∈ ws) (hc : inL c = false) : nameS ⟨ws.toArray⟩ = false := by
  unfold nameS
  have : (⟨ws.toArray⟩ : Str).cps.toList.all inL = false := List.all_eq_false.mpr ⟨c, by simpa using h, by rw [hc]; decide⟩
  rw [this, Bool.and_false]
theorem name_long {ws : List Nat} (h : 8 < ws.length) : nameS ⟨ws.toArray⟩ = false := by
  unfold nameS
  have e : (⟨ws.toArray⟩ : Str).length = ws.length := by show ws.toArray.size = _; simp
  have : decide (((⟨ws.toArray⟩ : Str).length : Int) ≤ 8) = false := by rw [e]; simp; omega
  rw [this, Bool.and_false, Bool.false_and]
/-- figures of a number over 0 -/
def Fig (ds : List Nat) : Prop := 1 ≤ ds.length ∧ ds.length ≤ 60 ∧ (∀ c ∈ ds, 48 ≤ c ∧ c ≤ 57) ∧ ds.head? ≠ some 48
theorem Fig.ok {ds : List Nat} (h : Fig ds) : okF ds = true := by
  obtain ⟨h1, h2, h3, _⟩ := h
  unfold okF
  have a : ds.all inF = true := List.all_eq_true.mpr fun c hc => by
    obtain ⟨g1, g2⟩ := h3 c hc
    rw [inF_lt c (by omega), decide_eq_true g1, decide_eq_true g2]
    rfl
  rw [a, decide_eq_true (by omega), decide_eq_true (by omega)]
  rfl
theorem Fig.head {ds : List Nat} (h : Fig ds) : ∃ c r, ds = c :: r ∧ 49 ≤ c ∧ c ≤ 57 := by
  obtain ⟨h1, h2, h3, h4⟩ := h
  cases ds with
  | nil => simp at h1
  | cons c r =>
    obtain ⟨g1, g2⟩ := h3 c (by simp)
    have : c ≠ 48 := fun e => h4 (by rw [e]; rfl)
    exact ⟨c, r, rfl, by omega, g2⟩
theorem Fig.num {ds : List Nat} (h : Fig ds) : numL ds = true := by
  obtain ⟨c, r, e, g1, g2⟩ := h.head
  unfold numL
  rw [if_neg (by rw [e]; simp; omega), h.ok, decide_eq_false h.2.2.2]
  simp
theorem Fig.neg {ds : List Nat} (h : Fig ds) : numL (45 :: ds) = true := by
  unfold numL
  rw [if_pos (show (45 :: ds).head? = some 45 from rfl), show (List.drop 1 (45 :: ds)) = ds from rfl, h.ok, decide_eq_false h.2.2.2]
  rfl
theorem num_zero : numL [48] = true := by decide +kernel
/-! ### the figures of a number -/
open PySem.NumText
def digL (n : Nat) : List Nat := if n = 0 then [] else (Nat.toDigits 10 n).map Char.toNat
theorem digL_step {n : Nat} (h : 0 < n) : digL n = digL (n / 10) ++ [48 + n % 10] := by
  have hd : ∀ d : Nat, d < 10 → [(Nat.digitChar d).toNat] = [48 + d] := by decide
  unfold digL
  rw [if_neg (by omega)]
  by_cases hn : n < 10
  · rw [if_pos (by omega), Nat.toDigits_of_lt_base hn, Nat.mod_eq_of_lt hn]
    exact hd n hn
  · rw [if_neg (by omega)]
    have hm : n % 10 < 10 := Nat.mod_lt n (by decide)
    have t : Nat.toDigits 10 (n / 10) ++ Nat.toDigits 10 (n % 10) = Nat.toDigits 10 (10 * (n / 10) + n % 10) := Nat.toDigits_append_toDigits (by decide) (by omega) hm
    rw [Nat.div_add_mod] at t
    rw [← t, List.map_append, Nat.toDigits_of_lt_base hm]
    congr 1
    exact hd _ hm
theorem digL_fig : ∀ (k n : Nat), 0 < n → n < 10 ^ k → 1 ≤ (digL n).length ∧ (digL n).length ≤ k ∧ (∀ c ∈ digL n, 48 ≤ c ∧ c ≤ 57) ∧ (digL n).head? ≠ some 48 ∧ digitsVal (digL n) = n
  | 0, n, h0, h1 => by simp at h1; omega
  | k + 1, n, h0, h1 => by
    have hm : n % 10 < 10 := Nat.mod_lt n (by decide)
    rw [digL_step h0]
    by_cases hn : n / 10 = 0
    · rw [hn, show digL 0 = [] from rfl]
      have e : n % 10 = n := Nat.mod_eq_of_lt (by omega)
      rw [e]
      refine ⟨by simp, by simp, fun c hc => by simp at hc; omega, by simp; omega, ?_⟩
      show 0 * 10 + (48 + n - 48) = n
      omega
    · have hlt : n / 10 < 10 ^ k := by
        rw [Nat.pow_succ] at h1
        omega
      obtain ⟨g1, g2, g3, g4, g5⟩ := digL_fig k (n / 10) (by omega) hlt
      refine ⟨by simp, by simp; omega, fun c hc => ?_, ?_, ?_⟩
      · rcases List.mem_append.mp hc with h | h
        · exact g3 c h
        · simp at h; omega
      · cases e : digL (n / 10) with
        | nil => rw [e] at g1; simp at g1
        | cons c r => rw [e] at g4; simpa using g4
      · rw [digitsVal_snoc, g5]
        omega
theorem fig_of {n : Nat} (h0 : 0 < n) (h1 : n < 10 ^ 60) : Fig (digL n) := by
  obtain ⟨g1, g2, g3, g4, _⟩ := digL_fig 60 n h0 h1
  exact ⟨g1, g2, g3, g4⟩
/-- how a whole number is written -/
def wrL (i : Int) : List Nat := if i = 0 then [48] else if i < 0 then 45 :: digL i.natAbs else digL i.natAbs
theorem wr_toString (i : Int) : (PySem.Str.ofString (toString i)).cps.toList = wrL i := by
  unfold wrL
  by_cases h0 : i = 0
  · subst h0
    decide +kernel
  · rw [if_neg h0]
    cases i with
    | ofNat m =>
      have hm : m ≠ 0 := fun e => h0 (by rw [e]; rfl)
      rw [if_neg (by simp)]
      have e : (Int.ofNat m).natAbs = m := rfl
      rw [e]
      unfold digL
      rw [if_neg hm]
      exact PySem.W.KIN.signs_num m
    | negSucc m =>
      rw [if_pos (Int.negSucc_lt_zero m)]
      have e : (Int.negSucc m).natAbs = m + 1 := rfl
      rw [e]
      unfold digL
      rw [if_neg (by omega), PyProof.Rows.signs_ofString]
      show ("-" ++ Nat.repr (m + 1)).toList.map Char.toNat = _
      rw [String.toList_append, List.map_append, Nat.toList_repr]
      rfl
theorem wr_num {i : Int} (h1 : -(10 ^ 60) < i) (h2 : i < 10 ^ 60) : numL (wrL i) = true := by
  have hn : i ≠ 0 → i.natAbs < 10 ^ 60 := fun _ => by omega
  unfold wrL
  split
  · exact num_zero
  · rename_i h0
    split
    · exact (fig_of (by omega) (hn h0)).neg
    · exact (fig_of (by omega) (hn h0)).num
end My

namespace My
open PySem L2
section
variable {P : Program} {w : World} {K : PySem.W.Frag} {mg : Str → Option Value} {base : Heap}
def spWrites : Sp := fun vs H Q _ => ∃ z : Str, vs = [.str z] ∧ z.length ≤ 1000 ∧ ∀ H', Same H H' → Q (.bl (numL z.cps.toList)) H'
theorem sc_writes_number : FnScope ["word", "figures"] ["word"] (defScope s_writes_number) := ⟨rfl, rfl, rfl, by decide +kernel, rfl, by decide +kernel, by decide +kernel⟩
theorem str_eq_list (z : Str) (cs : List Nat) : decide (V.str z = V.str ⟨cs.toArray⟩) = decide (z.cps.toList = cs) := by
  by_cases h : z.cps.toList = cs
  · rw [decide_eq_true h]
    refine decide_eq_true (congrArg V.str (str_ext ?_))
    rw [h]
  · rw [decide_eq_false h]
    exact decide_eq_false fun e => h (by rw [V.str.inj e])
theorem k_writes_number (T : Tops K mg) : Known P w K mg base CX0 1 "writes_number" ["word"] spWrites := by
  refine T.d_writes_number.known sc_writes_number (fun _ _ _ _ _ _ us hl => match us, hl with | [_], _ => rfl) (fun vs H Q E h => ?_) (fun f cdv A outer s H vs Q E hr h => ?_)
  · obtain ⟨z, rfl, _⟩ := h
    rfl
  · obtain ⟨z, rfl, hz, q⟩ := h
    have rest : ∃ t, PSs (cxOf CX0 P w K mg base ["word", "figures"] "writes_number" (defScope s_writes_number) f cdv A outer s H E).nox ((defBody s_writes_number).drop 1) t ∧
        ∀ y : Str, y.length ≤ 1000 → numL z.cps.toList = (okF y.cps.toList && (decide (z.cps.toList = [48]) || !decide (y.cps.toList.head? = some 48))) → t { nx := fun _ H' => Q .non H', rt := Q } [some (.str z), some (.str y)] H := by
      refine ⟨_, (pss_cons (ps_if (PW.pt (pw_or (pt_not (pt_chain op_le op_le pe_int (pe_callB call_len rfl T.len b_len (pa_cons (pv 1) pa_nil)) (pe_gI T.g_MOST_FIGURES))) (pw_or1 (pt_not (pt_val (pe_callB (call_all rfl) rfl T.all b_all (pa_cons (pe_comp caps0 rfl rfl (by decide) (pi_str (pv 1)) (fun _ _ _ _ _ => pts_nil) (fun _ _ _ _ _ => (pe_cmpR op_in_str (pv 0) (pe_gS T.g_FIGURES) (by with_unfolding_all rfl)))) pa_nil)) (fun _ => rfl)))))) (pss_one (ps_ret pe_bl)) pss_nil)
        (pss_one (ps_ret (pe_or (pe_cmpR op_eq (pv 0) pe_str (nomark _)) (pe_one (pe_cmpR op_ne (pe_ix ix_str (pv 1) pe_int (fun _ _ => rfl)) pe_str (nomark _))))))), fun t ht e => ?_⟩
      have no : okF t.cps.toList = false → ∀ H', Same H H' → Q (.bl false) H' := fun h H' s' => by
        have := q H' s'
        rw [e, h, Bool.false_and] at this
        exact this
      have el : (t.cps.toList.length : Int) = (t.length : Int) := by rw [len_list]
      refine ⟨_, rfl, _, _, rfl, ⟨sl ht, rfl⟩, _, _, rfl, rfl, _, rfl, ?_⟩
      refine ite2 (fun h1 => ?_) (fun h1 => ?_)
      · refine ⟨_, _, rfl, rfl, _, rfl, ?_⟩
        refine ite2 (fun h2 => ?_) (fun h2 => ?_)
        · refine no ?_ H (Same.refl H)
          unfold okF
          rw [el]
          have : decide ((t.length : Int) ≤ 60) = false := by simpa using h2
          rw [this, Bool.and_false, Bool.false_and]
        · have h8 : t.cps.size ≤ 60 := by
            have : (t.length : Int) ≤ 60 := by simpa using h2
            show t.length ≤ 60
            omega
          refine ⟨_, rfl, t, rfl, fun D hD => ?_⟩
          refine comp_str (x := t) (fun i ys H2 => ys = (t.cps.toList.take i).map (fun c => V.bl (inF c)) ∧ Same H H2) ⟨rfl, Same.new hD⟩ ?_ ?_
          · rintro i c ys H2 hc h2D ⟨rfl, s2⟩
            have hi : i < t.cps.size := (Array.getElem?_eq_some_iff.mp hc).1
            refine ⟨_, rfl, _, _, rfl, rfl, h2D, ?_, ?_, s2.on hD⟩
            · rw [List.length_map, List.length_take, Array.length_toList]
              exact small1000 (by omega)
            · rw [List.take_add_one, List.map_append, Array.getElem?_toList, hc]
              rfl
          · rintro ys H2 h2D ⟨rfl, s2⟩
            refine ⟨D, t.cps.toList.map inF, rfl, SqL.of ?_, ?_⟩
            · rw [h2D, List.take_of_length_le (by simp), List.map_map]
              rfl
            · have ek : okF t.cps.toList = (t.cps.toList.map inF).all id := by
                unfold okF
                rw [el]
                have e1 : decide ((1 : Int) ≤ t.length) = true := h1
                have e2 : decide ((t.length : Int) ≤ 60) = true := by simpa using h2
                rw [e1, e2, Bool.true_and, Bool.true_and, List.all_map]
                rfl
              rw [← ek]
              refine ⟨_, rfl, ite2 (fun h3 => ?_) (fun h3 => ?_)⟩
              · exact no (by simpa using h3) H2 s2
              · have h3 : okF t.cps.toList = true := by simpa using h3
                have hne : 1 ≤ t.cps.toList.length := by
                  have : (1 : Int) ≤ (t.length : Int) := by simpa using h1
                  omega
                obtain ⟨c, r, hc⟩ : ∃ c r, t.cps.toList = c :: r := by
                  cases hh : t.cps.toList with
                  | nil => rw [hh] at hne; simp at hne
                  | cons c r => exact ⟨c, r, rfl⟩
                have qq := q H2 s2
                rw [e, h3, Bool.true_and] at qq
                refine ⟨_, rfl, rfl, _, rfl, ?_⟩
                have e48 : decide (V.str z = V.str ("0" : Str)) = decide (z.cps.toList = [48]) := str_eq_list z [48]
                rw [e48]
                refine ite2 (fun h4 => ?_) (fun h4 => ?_)
                · rw [h4, Bool.true_or] at qq
                  exact qq
                · have h4 : decide (z.cps.toList = [48]) = false := by simpa using h4
                  rw [h4, Bool.false_or] at qq
                  refine ⟨_, rfl, t, 0, c, rfl, rfl, sl ht, ?_, rfl, ?_⟩
                  · rw [hc]; exact atI_nat (j := 0) rfl
                  · have e49 : decide (V.str ⟨#[c]⟩ = V.str ("0" : Str)) = decide (t.cps.toList.head? = some 48) := by
                      rw [hc]
                      by_cases h : c = 48
                      · rw [h, decide_eq_true (show (48 :: r).head? = some 48 from rfl)]
                        decide +kernel
                      · rw [decide_eq_false (p := (c :: r).head? = some 48) (by simpa using h)]
                        refine decide_eq_false fun e => h ?_
                        have := congrArg (fun s : Str => s.cps.toList) (V.str.inj e)
                        have e' : ([c] : List Nat) = [48] := this
                        simpa using e'
                    rw [← e49] at qq
                    exact qq
      · refine ⟨_, rfl, ?_⟩
        refine iteT ?_
        refine no ?_ H (Same.refl H)
        unfold okF
        rw [el]
        have : decide ((1 : Int) ≤ t.length) = false := by simpa using h1
        rw [this, Bool.false_and, Bool.false_and]
    obtain ⟨t, ht, qt⟩ := rest
    refine ⟨_, pss_cons (ps_set (i := 1) sc_writes_number.nd rfl (Or.inl rfl) (pe_ifExp (pt_val (pe_bm PySem.F.plainAttrs_str PySem.F.slot_str_startswith PySem.F.type_str_startswith mt_starts (pv 0) (pa_cons pe_str pa_nil)) (fun _ => rfl)) (pe_slice sl_str (pv 0) (po_some pe_int) po_none) (pv 0))) ht, ?_⟩
    refine ⟨_, rfl, rfl, z, "-", rfl, rfl, _, rfl, ?_⟩
    have e45 : Txt.startswith z ("-" : Str) = decide (z.cps.toList.head? = some 45) := starts_one z 45
    rw [e45]
    refine ite2 (fun h => ?_) (fun h => ?_)
    · have h : z.cps.toList.head? = some 45 := of_decide_eq_true h
      have h1 : 1 ≤ z.length := by
        rw [len_list]
        cases hh : z.cps.toList with
        | nil => rw [hh] at h; cases h
        | cons c r => simp
      refine ⟨_, rfl, 1, rfl, z, rfl, sl hz, qt _ ?_ ?_⟩
      · exact Nat.le_trans (Txt.slice_le z _ _) hz
      · rw [slice1_list z h1]
        unfold numL
        have h48 : decide (z.cps.toList = [48]) = false := decide_eq_false fun e => by rw [e] at h; cases h
        rw [if_pos h, h48, Bool.false_or]
    · have h : ¬ z.cps.toList.head? = some 45 := fun e => h (decide_eq_true e)
      refine ⟨_, rfl, qt z hz ?_⟩
      unfold numL
      rw [if_neg h]
/-! ### a fault, a value's text -/
def spFlt : Sp := fun vs H Q _ => ∃ z : Str, vs = [.str z] ∧ nameS z = true ∧ z.length ≤ 8 ∧ ∀ H' p, Same H H' → H' p = some (.tup [.str "fault", .str z]) → Q (.ref p) H'
theorem sc_fault : FnScope ["word"] ["word"] (defScope s_fault) := ⟨rfl, rfl, rfl, by decide +kernel, rfl, by decide +kernel, by decide +kernel⟩
theorem k_fault (T : Tops K mg) : Known P w K mg base CX0 2 "fault" ["word"] spFlt := by
  have G_is_name : Known P w K mg base CX0 1 "is_name" ["thing"] (spName K) := k_is_name T
  refine T.d_fault.known sc_fault (fun _ _ _ _ _ _ us hl => match us, hl with | [_], _ => rfl) (fun vs H Q E h => ?_) (fun f cdv A outer s H vs Q E hr h => ?_)
  · obtain ⟨z, rfl, _⟩ := h
    rfl
  · obtain ⟨z, rfl, hn, h8, q⟩ := h
    refine ⟨_, (pss_cons (ps_if (pt_not (pt_val (pe_callN G_is_name (hr.mono (by decide)) pass0 (pa_cons (pv 0) pa_nil)) (fun _ => rfl))) (pss_one ps_dead) pss_nil)
      (pss_one (ps_ret (pe_tup (pa_cons pe_str (pa_cons (pv 0) pa_nil)))))), ?_⟩
    refine ⟨_, rfl, _, .str z, rfl, .str z, shortS_str (by omega), fun H' s' => ⟨_, rfl, ?_⟩⟩
    rw [show nameD (.str z) = nameS z from rfl, hn]
    refine iteF ⟨_, rfl, sl, fun p hp => q _ p (s'.trans (Same.new hp)) upd_same⟩
def spShow (K : PySem.W.Frag) : Sp := fun vs H Q _ => (∃ i : Int, vs = [.int i] ∧ -(10 ^ 60) < i ∧ i < 10 ^ 60 ∧ ∀ H', Same H H' → ∀ z : Str, z.cps.toList = wrL i → Q (.str z) H') ∨
  ∃ (p : Addr) (z : Str), vs = [.ref p] ∧ H p = some (.tup [.str "fault", .str z]) ∧ nameS z = true ∧ z.length ≤ 8 ∧ ∀ H', Same H H' → Q (.str ("!" ++ z)) H'
theorem sc_show_value : FnScope ["value"] ["value"] (defScope s_show_value) := ⟨rfl, rfl, rfl, by decide +kernel, rfl, by decide +kernel, by decide +kernel⟩
theorem k_show_value (T : Tops K mg) : Known P w K mg base CX0 3 "show_value" ["value"] (spShow K) := by
  have G_is_fault : Known P w K mg base CX0 2 "is_fault" ["thing"] (spFault K) := k_is_fault T
  refine T.d_show_value.known sc_show_value (fun _ _ _ _ _ _ us hl => match us, hl with | [_], _ => rfl) (fun vs H Q E h => ?_) (fun f cdv A outer s H vs Q E hr h => ?_)
  · rcases h with ⟨i, rfl, _⟩ | ⟨p, z, rfl, _⟩ <;> rfl
  · refine ⟨_, (pss_cons (ps_if (pt_val (pe_callN G_is_fault (hr.mono (by decide)) pass0 (pa_cons (pv 0) pa_nil)) (fun _ => rfl)) (pss_one (ps_ret (pe_op op_add_str pe_str (pe_ix ix_tup (pv 0) pe_int (fun _ _ => rfl))))) pss_nil)
      (pss_one (ps_ret (pe_callTy call_str_int rfl T.str b_str (pa_cons (pv 0) pa_nil))))), ?_⟩
    rcases h with ⟨i, rfl, h1, h2, q⟩ | ⟨p, z, rfl, hp, hn, h8, q⟩
    · refine ⟨_, rfl, _, .int i, rfl, .int i, shortD_not (by intro z; cases z), fun H' s' => ⟨_, rfl, iteF ?_⟩⟩
      refine ⟨_, rfl, i, rfl, ?_, q H' s' _ (wr_toString i)⟩
      have hb : i.natAbs < 2 ^ 1920 := Nat.lt_trans (show i.natAbs < 10 ^ 60 by omega) (by decide +kernel)
      by_cases h0 : i.natAbs = 0
      · rw [h0]; decide
      · exact (Nat.log2_lt h0).mpr hb
    · refine ⟨_, rfl, _, .tuple [.str "fault", .str z], rfl, .tup (SqT.of hp) (.cons (.str _) (.cons (.str _) .nil)), shortD_tup (fun e he => ?_), fun H' s' => ⟨_, rfl, ?_⟩⟩
      · simp only [List.mem_cons, List.not_mem_nil, or_false] at he
        rcases he with rfl | rfl
        · exact shortS_str (by decide +kernel)
        · exact shortS_str (by omega)
      · have e : faultD (.tuple [.str "fault", .str z]) = true := by
          show (decide (("fault" : Str) = "fault") && nameS z) = true
          rw [hn]
          decide
        rw [e]
        refine iteT ⟨_, rfl, p, _, 1, .str z, rfl, rfl, SqT.of (s' _ _ hp), rfl, ?_⟩
        exact ⟨_, _, rfl, rfl, by
          have : ("!" : Str).length = 1 := by decide +kernel
          exact sl (by omega), q H' s'⟩
/-! ### a value read -/
def spRead (K : PySem.W.Frag) (c : Ad) : Sp := fun vs H Q E => ∃ x d, vs = [x] ∧ Dt K H x d ∧ shortS d ∧
  ((∃ (z : Str) (n : Int), d = .str z ∧ numL z.cps.toList = true ∧ z.length ≤ 640 ∧ PySem.intText? z = some n ∧ ∀ H', Same H H' → Q (.int n) H') ∨
   (∃ (z y : Str), d = .str z ∧ numL z.cps.toList = false ∧ z.cps.toList = 33 :: y.cps.toList ∧ nameS y = true ∧ ∀ H' p, Same H H' → H' p = some (.tup [.str "fault", .str y]) → Q (.ref p) H') ∨
   ((∀ z, d = .str z → refL z.cps.toList) ∧ ∀ H', Same H H' → E (.ref c.NoValue) none H'))
theorem sc_read_value : FnScope ["text"] ["text"] (defScope s_read_value) := ⟨rfl, rfl, rfl, by decide +kernel, rfl, by decide +kernel, by decide +kernel⟩
theorem k_read_value (T : Tops K mg) {c : Ad} (X : Excs K mg c) : Known P w K mg base (CXE P w) 3 "read_value" ["text"] (spRead K c) := by
  have G_is_name : Known P w K mg base CX0 1 "is_name" ["thing"] (spName K) := k_is_name T
  have G_fault : Known P w K mg base CX0 2 "fault" ["word"] spFlt := k_fault T
  have G_writes_number : Known P w K mg base CX0 1 "writes_number" ["word"] spWrites := k_writes_number T
  refine T.d_read_value.knownE sc_read_value (fun _ _ _ _ _ _ us hl => match us, hl with | [_], _ => rfl) (fun vs H Q E h => ?_) (fun f cdv A outer s H vs Q E hr h => ?_)
  · obtain ⟨x, d, rfl, _⟩ := h
    rfl
  · obtain ⟨x, d, rfl, hd, hsh, hq⟩ := h
    refine ⟨_, (pss_cons (ps_if (PW.pt (pw_and (pt_val (pe_callB call_isT rfl T.isinstance b_isinstance (pa_cons (pv 0) (pa_cons (pe_ty T.str b_str) pa_nil))) (fun _ => rfl)) (pw_and1 (pt_val (pe_callN G_writes_number (hr.mono (by decide)) pass0 (pa_cons (pv 0) pa_nil)) (fun _ => rfl))))) (pss_one (ps_ret (pe_callTy call_int_text rfl T.int b_int (pa_cons (pv 0) pa_nil)))) pss_nil)
      (pss_cons (ps_if (PW.pt (pw_and (pt_val (pe_callB call_isT rfl T.isinstance b_isinstance (pa_cons (pv 0) (pa_cons (pe_ty T.str b_str) pa_nil))) (fun _ => rfl)) (pw_and (pt_val (pe_bm PySem.F.plainAttrs_str PySem.F.slot_str_startswith PySem.F.type_str_startswith mt_starts (pv 0) (pa_cons pe_str pa_nil)) (fun _ => rfl)) (pw_and1 (pt_val (pe_callN G_is_name (hr.mono (by decide)) pass0 (pa_cons (pe_slice sl_str (pv 0) (po_some pe_int) po_none) pa_nil)) (fun _ => rfl)))))) (pss_one (ps_ret (pe_callN G_fault (hr.mono (by decide)) pass0 (pa_cons (pe_slice sl_str (pv 0) (po_some pe_int) po_none) pa_nil)))) pss_nil)
      (pss_one (ps_raise X.c_NoValue X.x_NoValue (pa_cons pe_str pa_nil))))), ?_⟩
    refine ⟨_, rfl, x, "str", d, _, rfl, hd, kit_str K _, _, rfl, ?_⟩
    by_cases hk : kdD d = .str
    · obtain ⟨z, rfl⟩ : ∃ z, d = .str z := by cases d <;> simp [kdD] at hk ⊢
      cases hd
      have hz : z.length ≤ 1000 := hsh z rfl
      refine iteT ⟨_, rfl, z, rfl, hz, fun H1 s1 => ⟨_, rfl, ?_⟩⟩
      rcases hq with ⟨z', n, e, hn, hl, hi, q⟩ | ⟨z', y, e, hn, hy, hny, q⟩ | ⟨hr', q⟩
      · cases e
        rw [hn]
        exact iteT ⟨_, rfl, z, n, rfl, hi, hl, q H1 s1⟩
      · cases e
        rw [hn]
        refine iteF ⟨_, rfl, _, "str", .str z, _, rfl, .str z, kit_str K _, _, rfl, iteT ?_⟩
        have e33 : Txt.startswith z ("!" : Str) = decide (z.cps.toList.head? = some 33) := starts_one z 33
        have h1 : 1 ≤ z.length := by rw [len_list, hy]; simp
        have ey : Txt.slice z (some (1 : Int)) none = y := str_ext (by rw [slice1_list z h1, hy]; rfl)
        refine ⟨_, rfl, rfl, z, "!", rfl, rfl, _, rfl, ?_⟩
        rw [e33, hy]
        refine iteT ⟨_, rfl, 1, rfl, z, rfl, sl hz, ?_⟩
        rw [ey]
        refine ⟨_, .str y, rfl, .str y, shortS_str (by have := nameS_len hny; omega), fun H2 s2 => ⟨_, rfl, ?_⟩⟩
        rw [show nameD (.str y) = nameS y from rfl, hny]
        refine iteT ⟨_, rfl, 1, rfl, z, rfl, sl hz, ?_⟩
        rw [ey]
        exact ⟨y, rfl, hny, nameS_len hny, fun H3 p s3 hp => q H3 p ((s1.trans s2).trans s3) hp⟩
      · obtain ⟨hn, hb⟩ := hr' z rfl
        rw [hn]
        refine iteF ⟨_, rfl, _, "str", .str z, _, rfl, .str z, kit_str K _, _, rfl, iteT ?_⟩
        have e33 : Txt.startswith z ("!" : Str) = decide (z.cps.toList.head? = some 33) := starts_one z 33
        refine ⟨_, rfl, rfl, z, "!", rfl, rfl, _, rfl, ?_⟩
        rw [e33]
        refine ite2 (fun h => ?_) (fun h => ?_)
        · have h : z.cps.toList.head? = some 33 := of_decide_eq_true h
          obtain ⟨ws, hw⟩ : ∃ ws, z.cps.toList = 33 :: ws := by
            cases hh : z.cps.toList with
            | nil => rw [hh] at h; cases h
            | cons c r => rw [hh] at h; cases h; exact ⟨r, rfl⟩
          have h1 : 1 ≤ z.length := by rw [len_list, hw]; simp
          have ey : Txt.slice z (some (1 : Int)) none = ⟨ws.toArray⟩ := str_ext (by rw [slice1_list z h1, hw]; simp)
          refine ⟨_, rfl, 1, rfl, z, rfl, sl hz, ?_⟩
          rw [ey]
          refine ⟨_, .str ⟨ws.toArray⟩, rfl, .str _, shortS_str ?_, fun H2 s2 => ⟨_, rfl, ?_⟩⟩
          · show ws.toArray.size ≤ 1000
            have := len_list z
            rw [hw] at this
            simp at this ⊢
            omega
          · rw [show nameD (.str ⟨ws.toArray⟩) = nameS ⟨ws.toArray⟩ from rfl, hb ws hw]
            exact iteF ⟨sl, q H2 (s1.trans s2)⟩
        · exact ⟨sl, q H1 s1⟩
    · rw [decide_eq_false hk]
      refine iteF ?_
      refine iteF ?_
      refine ⟨_, rfl, x, "str", d, _, rfl, hd, kit_str K _, _, rfl, ?_⟩
      rw [decide_eq_false hk]
      refine iteF (iteF ?_)
      rcases hq with ⟨z', n, e, _⟩ | ⟨z', y, e, _⟩ | ⟨_, q⟩
      · subst e; exact absurd rfl hk
      · subst e; exact absurd rfl hk
      · exact ⟨sl, q H (Same.refl H)⟩
end
end My

namespace My
open PySem L2
abbrev F60 : Int := 10 ^ (60 : Int).toNat
section
variable {P : Program} {w : World} {K : PySem.W.Frag} {mg : Str → Option Value} {base : Heap}
def spRefd (K : PySem.W.Frag) : Sp := fun vs H Q _ => ∃ x d, vs = [x] ∧ Dt K H x d ∧ shortS d ∧ (∀ z, d = .str z → refL z.cps.toList) ∧ ∀ H', Same H H' → Q (.bl true) H'
theorem sc_law_refused : FnScope ["_law_text", "_law_caught", "e"] ["_law_text"] (defScope s_law_refused) := ⟨rfl, rfl, rfl, by decide +kernel, rfl, by decide +kernel, by decide +kernel⟩
theorem k_law_refused (T : Tops K mg) {c : Ad} (X : Excs K mg c) : Known P w K mg base CX0 4 "_law_refused" ["_law_text"] (spRefd K) := by
  have G_read_value : Known P w K mg base (CXE P w) 3 "read_value" ["text"] (spRead K c) := k_read_value T X
  refine T.d_law_refused.known sc_law_refused (fun _ _ _ _ _ _ us hl => match us, hl with | [_], _ => rfl) (fun vs H Q E h => ?_) (fun f cdv A outer s H vs Q E hr h => ?_)
  · obtain ⟨x, d, rfl, _⟩ := h
    rfl
  · obtain ⟨x, d, rfl, hd, hsh, hn, q⟩ := h
    refine ⟨_, (pss_cons (ps_set (i := 1) sc_law_refused.nd rfl (Or.inl rfl) pe_non)
      (pss_cons (ps_try (j := 2) rfl rfl rfl sc_law_refused.nd rfl rfl X.c_ColsError (fun pn E' E1 hp => pss_one (ps_expr (pe_callN G_read_value (hr.mono (by decide)) hp (pa_cons (pv 0) pa_nil)))) (fun ea => pss_one (ps_set (i := 1) sc_law_refused.nd rfl (Or.inl rfl) (pv 2))))
      (pss_cons (ps_if (PW.pt (pw_or (pt_val (pe_callB call_isX rfl T.isinstance b_isinstance (pa_cons (pv 1) (pa_cons (pe_gR X.c_Nobody) pa_nil))) (fun _ => rfl)) (pw_or (pt_val (pe_callB call_isX rfl T.isinstance b_isinstance (pa_cons (pv 1) (pa_cons (pe_gR X.c_NoBack) pa_nil))) (fun _ => rfl)) (pw_or1 (pt_val (pe_callB call_isX rfl T.isinstance b_isinstance (pa_cons (pv 1) (pa_cons (pe_gR X.c_NoColumn) pa_nil))) (fun _ => rfl)))))) (pss_one (ps_ret pe_bl)) pss_nil)
      (pss_cons (ps_if (PW.pt (pw_or (pt_val (pe_callB call_isX rfl T.isinstance b_isinstance (pa_cons (pv 1) (pa_cons (pe_gR X.c_NoPlace) pa_nil))) (fun _ => rfl)) (pw_or (pt_val (pe_callB call_isX rfl T.isinstance b_isinstance (pa_cons (pv 1) (pa_cons (pe_gR X.c_NoRow) pa_nil))) (fun _ => rfl)) (pw_or1 (pt_val (pe_callB call_isX rfl T.isinstance b_isinstance (pa_cons (pv 1) (pa_cons (pe_gR X.c_NoSize) pa_nil))) (fun _ => rfl)))))) (pss_one (ps_ret pe_bl)) pss_nil)
      (pss_cons (ps_if (PW.pt (pw_or (pt_val (pe_callB call_isX rfl T.isinstance b_isinstance (pa_cons (pv 1) (pa_cons (pe_gR X.c_NoTable) pa_nil))) (fun _ => rfl)) (pw_or (pt_val (pe_callB call_isX rfl T.isinstance b_isinstance (pa_cons (pv 1) (pa_cons (pe_gR X.c_NoText) pa_nil))) (fun _ => rfl)) (pw_or1 (pt_val (pe_callB call_isX rfl T.isinstance b_isinstance (pa_cons (pv 1) (pa_cons (pe_gR X.c_NoName) pa_nil))) (fun _ => rfl)))))) (pss_one (ps_ret pe_bl)) pss_nil)
      (pss_cons (ps_if (PW.pt (pw_or (pt_val (pe_callB call_isX rfl T.isinstance b_isinstance (pa_cons (pv 1) (pa_cons (pe_gR X.c_Ring) pa_nil))) (fun _ => rfl)) (pw_or (pt_val (pe_callB call_isX rfl T.isinstance b_isinstance (pa_cons (pv 1) (pa_cons (pe_gR X.c_Ruled) pa_nil))) (fun _ => rfl)) (pw_or1 (pt_val (pe_callB call_isX rfl T.isinstance b_isinstance (pa_cons (pv 1) (pa_cons (pe_gR X.c_Several) pa_nil))) (fun _ => rfl)))))) (pss_one (ps_ret pe_bl)) pss_nil)
      (pss_one (ps_ret (pe_and (pe_callB call_isX rfl T.isinstance b_isinstance (pa_cons (pv 1) (pa_cons (pe_gR X.c_NoValue) pa_nil))) (pe_and (pe_callB call_isX rfl T.isinstance b_isinstance (pa_cons (pv 1) (pa_cons (pe_ty T.ValueError b_ValueError) pa_nil))) (pe_one (pe_not (pe_callB call_isX rfl T.isinstance b_isinstance (pa_cons (pv 1) (pa_cons (pe_gR X.c_TooMuch) pa_nil))))))))))))))), ?_⟩
    refine ⟨_, rfl, x, d, rfl, hd, hsh, .inr (.inr ⟨hn, fun H' s' => ⟨X.e_NoValue_ColsError, fun ea hea => ⟨_, rfl, ?_⟩⟩⟩)⟩
    have he : (upd H' ea (excO ea (.ref c.NoValue))) ea = some (excO ea (.ref c.NoValue)) := upd_same
    refine ⟨_, rfl, ea, c.NoValue, _, _, _, rfl, he, X.k_NoValue, .inl ⟨_, rfl, rfl⟩, X.i_NoValue_Nobody, _, rfl, iteF ?_⟩
    refine ⟨_, rfl, ea, c.NoValue, _, _, _, rfl, he, X.k_NoValue, .inl ⟨_, rfl, rfl⟩, X.i_NoValue_NoBack, _, rfl, iteF ?_⟩
    refine ⟨_, rfl, ea, c.NoValue, _, _, _, rfl, he, X.k_NoValue, .inl ⟨_, rfl, rfl⟩, X.i_NoValue_NoColumn, _, rfl, iteF ?_⟩
    refine ⟨_, rfl, ea, c.NoValue, _, _, _, rfl, he, X.k_NoValue, .inl ⟨_, rfl, rfl⟩, X.i_NoValue_NoPlace, _, rfl, iteF ?_⟩
    refine ⟨_, rfl, ea, c.NoValue, _, _, _, rfl, he, X.k_NoValue, .inl ⟨_, rfl, rfl⟩, X.i_NoValue_NoRow, _, rfl, iteF ?_⟩
    refine ⟨_, rfl, ea, c.NoValue, _, _, _, rfl, he, X.k_NoValue, .inl ⟨_, rfl, rfl⟩, X.i_NoValue_NoSize, _, rfl, iteF ?_⟩
    refine ⟨_, rfl, ea, c.NoValue, _, _, _, rfl, he, X.k_NoValue, .inl ⟨_, rfl, rfl⟩, X.i_NoValue_NoTable, _, rfl, iteF ?_⟩
    refine ⟨_, rfl, ea, c.NoValue, _, _, _, rfl, he, X.k_NoValue, .inl ⟨_, rfl, rfl⟩, X.i_NoValue_NoText, _, rfl, iteF ?_⟩
    refine ⟨_, rfl, ea, c.NoValue, _, _, _, rfl, he, X.k_NoValue, .inl ⟨_, rfl, rfl⟩, X.i_NoValue_NoName, _, rfl, iteF ?_⟩
    refine ⟨_, rfl, ea, c.NoValue, _, _, _, rfl, he, X.k_NoValue, .inl ⟨_, rfl, rfl⟩, X.i_NoValue_Ring, _, rfl, iteF ?_⟩
    refine ⟨_, rfl, ea, c.NoValue, _, _, _, rfl, he, X.k_NoValue, .inl ⟨_, rfl, rfl⟩, X.i_NoValue_Ruled, _, rfl, iteF ?_⟩
    refine ⟨_, rfl, ea, c.NoValue, _, _, _, rfl, he, X.k_NoValue, .inl ⟨_, rfl, rfl⟩, X.i_NoValue_Several, _, rfl, iteF ?_⟩
    refine ⟨_, rfl, ea, c.NoValue, _, _, _, rfl, he, X.k_NoValue, .inl ⟨_, rfl, rfl⟩, X.i_NoValue_NoValue, _, rfl, iteT ?_⟩
    refine ⟨_, rfl, ea, c.NoValue, _, _, _, rfl, he, X.k_NoValue, .inr ⟨_, rfl, rfl⟩, X.v_NoValue, _, rfl, iteT ?_⟩
    refine ⟨_, rfl, ea, c.NoValue, _, _, _, rfl, he, X.k_NoValue, .inl ⟨_, rfl, rfl⟩, X.i_NoValue_TooMuch, _, rfl, ?_⟩
    exact q _ (s'.trans (Same.new hea))
/-! ### a word -/
def spWord (K : PySem.W.Frag) : Sp := fun vs H Q _ => ∃ (a : Addr) (ns : List Int), vs = [.ref a] ∧ SqL K H a (ns.map V.int) ∧ ns.length ≤ 63 ∧ ∀ H' cs, Same H H' → Word cs → Q (.str ⟨cs.toArray⟩) H'
theorem sc_law_word : FnScope ["_law_script", "_law_some", "_law_k"] ["_law_script"] (defScope s_law_word) := ⟨rfl, rfl, rfl, by decide +kernel, rfl, by decide +kernel, by decide +kernel⟩
theorem k_law_word (T : Tops K mg) : Known P w K mg base CX0 2 "_law_word" ["_law_script"] (spWord K) := by
  have G_law_cell : Known P w K mg base CX0 1 "_law_cell" ["_law_script", "_law_k"] (spCell K) := k_law_cell T
  refine T.d_law_word.known sc_law_word (fun _ _ _ _ _ _ us hl => match us, hl with | [_], _ => rfl) (fun vs H Q E h => ?_) (fun f cdv A outer s H vs Q E hr h => ?_)
  · obtain ⟨a, ns, rfl, _⟩ := h
    rfl
  · obtain ⟨a, ns, rfl, hS, hl, q⟩ := h
    refine ⟨_, (pss_cons (ps_set (i := 1) sc_law_word.nd rfl (Or.inl rfl) (pe_lst pa_nil))
      (pss_cons (ps_for PassesOwn.never rfl (pi_range1 rfl T.range (pa_cons (pe_op op_add pe_int (pe_op op_mod (pe_callN G_law_cell (hr.mono (by decide)) pass0 (pa_cons (pv 0) (pa_cons pe_int pa_nil))) pe_int)) pa_nil)) (pg_name (i := 2) sc_law_word.nd rfl (Or.inl rfl)) (pss_one (ps_expr (pe_bm PySem.F.plainAttrs_list PySem.F.slot_list_append PySem.F.type_list_append mt_append (pv 1) (pa_cons (pe_ix ix_str pe_str (pe_op op_mod (pe_op op_fdiv (pe_callN G_law_cell (hr.mono (by decide)) pass0 (pa_cons (pv 0) (pa_cons (pe_op op_add pe_int (pv 2)) pa_nil))) pe_int) pe_int) (fun _ _ => rfl)) pa_nil)))))
      (pss_one (ps_ret (pe_bm PySem.F.plainAttrs_str PySem.F.slot_str_join PySem.F.type_str_join mt_join pe_str (pa_cons (pv 1) pa_nil)))))), ?_⟩
    refine ⟨sl, fun p hp => ?_⟩
    have s1 : Same H (upd H p (.lst [])) := Same.new hp
    have hm0 := Int.emod_nonneg (cellZ ns 2) (show (8 : Int) ≠ 0 by decide)
    have hm1 := Int.emod_lt_of_pos (cellZ ns 2) (show (0 : Int) < 8 by decide)
    refine ⟨_, rfl, a, ns, 2, rfl, s1.seq hS, hl, by decide, by decide, _, _, rfl, rfl, (show (0 : Int) < 8 by decide), _, _, rfl, rfl, _, rfl, by omega, by omega, ?_⟩
    generalize cellZ ns 2 % 8 = n at hm0 hm1 ⊢
    refine for_range (lo := 0) (n := (1 + n).toNat) (fun i σ H2 => ∃ (cs : List Nat) (o : Option V), σ = [some (.ref a), some (.ref p), o] ∧ Same H H2 ∧ H2 p = some (.lst ((cs.map one).map V.str)) ∧ cs.length = i ∧ ∀ c ∈ cs, c ∈ letters.cps.toList) ⟨[], none, rfl, s1, upd_same, rfl, fun _ h => by cases h⟩ ?_ ?_
    · rintro i σ H2 hi ⟨cs, o, rfl, s2, h2, hc, hin⟩
      have hk0 : (0 : Int) ≤ 6 + (0 + (i : Int)) := by omega
      have hk1 : 6 + (0 + (i : Int)) ≤ 1000000 := by omega
      have hd0 := Int.emod_nonneg (cellZ ns (6 + (0 + (i : Int))) / 3) (show (26 : Int) ≠ 0 by decide)
      have hd1 := Int.emod_lt_of_pos (cellZ ns (6 + (0 + (i : Int))) / 3) (show (0 : Int) < 26 by decide)
      obtain ⟨c, hat, hcm⟩ := at_some letters.cps.toList (cellZ ns (6 + (0 + (i : Int))) / 3 % 26) hd0 (by rw [let_len]; exact hd1)
      refine ⟨_, rfl, .inl ⟨rfl, _, SqL.of h2⟩, _, rfl, _, rfl, _, _, rfl, rfl, a, ns, _, rfl, s2.seq hS, hl, hk0, hk1, _, _, rfl, rfl, ⟨by decide, by decide⟩, _, _, rfl, rfl, (show (0 : Int) < 26 by decide), letters, _, c, rfl, rfl, (by decide +kernel), hat, p, _, _, rfl, rfl, h2, ?_, ?_⟩
      · rw [List.length_map, List.length_map, hc]
        exact small1000 (by omega)
      · refine ⟨cs ++ [c], _, rfl, s2.on hp, ?_, by rw [List.length_append, hc]; rfl, fun z hz => ?_⟩
        · rw [upd_same, List.map_append, List.map_append]
          rfl
        · rcases List.mem_append.mp hz with hz | hz
          · exact hin z hz
          · rw [List.mem_singleton.mp hz]
            exact List.mem_of_getElem? hcm
    · rintro σ H2 ⟨cs, o, rfl, s2, h2, hc, hin⟩
      refine ⟨rfl, _, rfl, _, p, cs.map one, rfl, rfl, SqL.of h2, join_room (by omega), ?_⟩
      rw [join_ones]
      exact q H2 cs s2 ⟨by omega, by omega, hin⟩
/-! ### a value -/
def Val51 (H : Hp) (y : Str) (v : V) : Prop := (∃ i : Int, v = .int i ∧ -F60 < i ∧ i < F60) ∨ ∃ p, v = .ref p ∧ H p = some (.tup [.str "fault", .str y])
def spVal (K : PySem.W.Frag) : Sp := fun vs H Q _ => ∃ (a : Addr) (ns : List Int) (y : Str), vs = [.ref a, .str y] ∧ SqL K H a (ns.map V.int) ∧ ns.length ≤ 63 ∧ ∀ H' v, Same H H' → Val51 H' y v → Q v H'
theorem sc_law_value : FnScope ["_law_script", "_law_word_here", "_law_cell_here", "_law_far", "_law_way"] ["_law_script", "_law_word_here"] (defScope s_law_value) := ⟨rfl, rfl, rfl, by decide +kernel, rfl, by decide +kernel, by decide +kernel⟩
theorem k_law_value (T : Tops K mg) : Known P w K mg base CX0 2 "_law_value" ["_law_script", "_law_word_here"] (spVal K) := by
  have G_law_cell : Known P w K mg base CX0 1 "_law_cell" ["_law_script", "_law_k"] (spCell K) := k_law_cell T
  refine T.d_law_value.known sc_law_value (fun _ _ _ _ _ _ us hl => match us, hl with | [_, _], _ => rfl) (fun vs H Q E h => ?_) (fun f cdv A outer s H vs Q E hr h => ?_)
  · obtain ⟨a, ns, y, rfl, _⟩ := h
    rfl
  · obtain ⟨a, ns, y, rfl, hS, hl, q⟩ := h
    refine ⟨_, (pss_cons (ps_set (i := 2) sc_law_value.nd rfl (Or.inl rfl) (pe_callN G_law_cell (hr.mono (by decide)) pass0 (pa_cons (pv 0) (pa_cons pe_int pa_nil))))
      (pss_cons (ps_set (i := 3) sc_law_value.nd rfl (Or.inl rfl) (pe_op op_sub (pe_op op_pow pe_int pe_int) pe_int))
      (pss_cons (ps_set (i := 4) sc_law_value.nd rfl (Or.inl rfl) (pe_op op_mod (pe_callN G_law_cell (hr.mono (by decide)) pass0 (pa_cons (pv 0) (pa_cons pe_int pa_nil))) pe_int))
      (pss_cons (ps_if (pt_cmpR op_eq (pv 4) pe_int (nomark _)) (pss_one (ps_ret (pe_tup (pa_cons pe_str (pa_cons (pv 1) pa_nil))))) pss_nil)
      (pss_cons (ps_if (pt_cmpR op_eq (pv 4) pe_int (nomark _)) (pss_one (ps_ret (pe_op op_mod (pv 2) pe_int))) pss_nil)
      (pss_cons (ps_if (pt_cmpR op_eq (pv 4) pe_int (nomark _)) (pss_one (ps_ret (pe_op op_sub (pe_op op_mod (pv 2) pe_int) pe_int))) pss_nil)
      (pss_cons (ps_if (pt_cmpR op_eq (pv 4) pe_int (nomark _)) (pss_one (ps_ret (pe_ix ix_list (pe_lst (pa_cons (pv 3) (pa_cons (pe_op op_sub pe_int (pv 3)) (pa_cons pe_int pa_nil)))) (pe_op op_mod (pv 2) pe_int) (fun _ _ => rfl)))) pss_nil)
      (pss_one (ps_ret (pe_op op_sub (pe_op op_mod (pv 2) (pe_op op_add (pe_op op_mul pe_int (pv 3)) pe_int)) (pv 3))))))))))), ?_⟩
    refine ⟨_, rfl, a, ns, 0, rfl, hS, hl, by decide, by decide, ?_⟩
    refine ⟨_, _, rfl, rfl, ⟨by decide, by decide, by decide⟩, _, _, rfl, rfl, ?_⟩
    refine ⟨_, rfl, a, ns, 1, rfl, hS, hl, by decide, by decide, _, _, rfl, rfl, (show (0 : Int) < 6 by decide), ?_⟩
    generalize cellZ ns 0 = x
    have big : (1999999999 : Int) < F60 := by decide +kernel
    have m3 := Int.emod_nonneg x (show (3 : Int) ≠ 0 by decide)
    have m3' := Int.emod_lt_of_pos x (show (0 : Int) < 3 by decide)
    have m10 := Int.emod_nonneg x (show (10 : Int) ≠ 0 by decide)
    have m10' := Int.emod_lt_of_pos x (show (0 : Int) < 10 by decide)
    have m9 := Int.emod_nonneg x (show (1999999999 : Int) ≠ 0 by decide)
    have m9' := Int.emod_lt_of_pos x (show (0 : Int) < 1999999999 by decide)
    have mF := Int.emod_nonneg x (show 2 * (F60 - 1) + 1 ≠ 0 by decide +kernel)
    have mF' := Int.emod_lt_of_pos x (show 0 < 2 * (F60 - 1) + 1 by decide +kernel)
    refine ⟨_, rfl, rfl, _, rfl, ite2 (fun _ => ?_) (fun _ => ?_)⟩
    · exact ⟨_, rfl, sl, fun p hp => q _ _ (Same.new hp) (.inr ⟨p, rfl, upd_same⟩)⟩
    refine ⟨_, rfl, rfl, _, rfl, ite2 (fun _ => ?_) (fun _ => ?_)⟩
    · refine ⟨_, rfl, _, _, rfl, rfl, (show (0 : Int) < 10 by decide), q H _ (Same.refl H) (.inl ⟨_, rfl, ?_, ?_⟩)⟩ <;> (generalize F60 = F at *; omega)
    refine ⟨_, rfl, rfl, _, rfl, ite2 (fun _ => ?_) (fun _ => ?_)⟩
    · refine ⟨_, rfl, _, _, rfl, rfl, (show (0 : Int) < 1999999999 by decide), _, _, rfl, rfl, q H _ (Same.refl H) (.inl ⟨_, rfl, ?_, ?_⟩)⟩ <;> (generalize F60 = F at *; omega)
    refine ⟨_, rfl, rfl, _, rfl, ite2 (fun _ => ?_) (fun _ => ?_)⟩
    · refine ⟨_, rfl, _, rfl, _, _, rfl, rfl, sl, fun l hl' => ?_⟩
      have s1 := Same.new (o := .lst [.int (F60 - 1), .int (0 - (F60 - 1)), .int 0]) hl'
      have hv : ∃ i, atI [V.int (F60 - 1), .int (0 - (F60 - 1)), .int 0] (x % 3) = some (.int i) ∧ -F60 < i ∧ i < F60 := by
        have : x % 3 = 0 ∨ x % 3 = 1 ∨ x % 3 = 2 := by omega
        rcases this with e | e | e <;> rw [e]
        · exact ⟨F60 - 1, rfl, by generalize F60 = F at *; omega, by generalize F60 = F at *; omega⟩
        · exact ⟨0 - (F60 - 1), rfl, by generalize F60 = F at *; omega, by generalize F60 = F at *; omega⟩
        · exact ⟨0, rfl, by generalize F60 = F at *; omega, by generalize F60 = F at *; omega⟩
      obtain ⟨i, hat, i1, i2⟩ := hv
      exact ⟨_, rfl, _, _, rfl, rfl, (show (0 : Int) < 3 by decide), l, _, _, _, rfl, rfl, SqL.of upd_same, hat, q _ _ s1 (.inl ⟨i, rfl, i1, i2⟩)⟩
    · refine ⟨_, rfl, _, rfl, _, _, rfl, rfl, .inl ⟨by decide, by decide⟩, _, _, rfl, rfl, _, _, rfl, rfl, (show 0 < 2 * (F60 - 1) + 1 by decide +kernel), _, rfl, _, _, rfl, rfl, q H _ (Same.refl H) (.inl ⟨_, rfl, (show -F60 < x % (2 * (F60 - 1) + 1) - (F60 - 1) from ?_), (show x % (2 * (F60 - 1) + 1) - (F60 - 1) < F60 from ?_)⟩)⟩ <;> (generalize F60 = F at *; omega)
/-! ### the figures, told by hand -/
def spDigits : Sp := fun vs H Q _ => ∃ i : Int, vs = [.int i] ∧ -F60 < i ∧ i < F60 ∧ ∀ z : Str, z.cps.toList = wrL i → Q (.str z) H
theorem sc_law_digits : FnScope ["_law_number", "_law_figures", "_law_left"] ["_law_number"] (defScope s_law_digits) := ⟨rfl, rfl, rfl, by decide +kernel, rfl, by decide +kernel, by decide +kernel⟩
theorem fig_at {n : Nat} (h : n < 10) : atI figT.cps.toList (n : Int) = some (48 + n) := by
  have : ∀ n : Nat, n < 10 → atI figT.cps.toList (n : Int) = some (48 + n) := by decide +kernel
  exact this n h
theorem k_law_digits (T : Tops K mg) : Known P w K mg base CX0 1 "_law_digits" ["_law_number"] spDigits := by
  refine T.d_law_digits.known sc_law_digits (fun _ _ _ _ _ _ us hl => match us, hl with | [_], _ => rfl) (fun vs H Q E h => ?_) (fun f cdv A outer s H vs Q E hr h => ?_)
  · obtain ⟨i, rfl, _⟩ := h
    rfl
  · obtain ⟨i, rfl, i1, i2, q⟩ := h
    refine ⟨_, (pss_cons (ps_set (i := 1) sc_law_digits.nd rfl (Or.inl rfl) pe_str)
      (pss_cons (ps_set (i := 2) sc_law_digits.nd rfl (Or.inl rfl) (pe_callB call_abs rfl T.abs b_abs (pa_cons (pv 0) pa_nil)))
      (pss_cons (ps_while PassesOwn.never (pt_cmpR op_gt (pv 2) pe_int (nomark _)) (pss_cons (ps_set (i := 1) sc_law_digits.nd rfl (Or.inl rfl) (pe_op op_add_str (pe_ix ix_str pe_str (pe_op op_mod (pv 2) pe_int) (fun _ _ => rfl)) (pv 1))) (pss_one (ps_set (i := 2) sc_law_digits.nd rfl (Or.inl rfl) (pe_op op_fdiv (pv 2) pe_int)))))
      (pss_cons (ps_if (pt_cmpR op_eq (pv 1) pe_str (nomark _)) (pss_one (ps_ret pe_str)) pss_nil)
      (pss_cons (ps_if (pt_cmpR op_lt (pv 0) pe_int (nomark _)) (pss_one (ps_ret (pe_op op_add_str pe_str (pv 1)))) pss_nil)
      (pss_one (ps_ret (pv 1)))))))), ?_⟩
    refine ⟨_, rfl, i, rfl, ?_⟩
    have ab : (if i < 0 then -i else i) = (i.natAbs : Int) := by split <;> omega
    rw [ab]
    have dl : (digL i.natAbs).length ≤ 60 := by
      by_cases h0 : i.natAbs = 0
      · rw [h0]; decide
      · refine (digL_fig 60 i.natAbs (by omega) ?_).2.1
        have e : F60 = ((10 ^ 60 : Nat) : Int) := by decide +kernel
        rw [e] at i1 i2
        generalize (10 ^ 60 : Nat) = F at *
        omega
    refine ⟨fun m σ H' => H' = H ∧ ∃ z : Str, σ = [some (.int i), some (.str z), some (.int (m : Int))] ∧ digL i.natAbs = digL m ++ z.cps.toList, ⟨i.natAbs, rfl, "", rfl, by rw [show ("" : Str).cps.toList = [] by decide +kernel, List.append_nil]⟩, ?_⟩
    rintro m σ H' ⟨rfl, z, rfl, hz⟩
    have zl : z.length ≤ 60 := by
      rw [len_list]
      have := congrArg List.length hz
      rw [List.length_append] at this
      omega
    refine ⟨_, rfl, _, _, rfl, rfl, _, rfl, ite2 (fun g => ?_) (fun g => ?_)⟩
    · have g : 0 < m := by
        have : (0 : Int) < (m : Int) := by simpa using g
        omega
      have hm : m % 10 < 10 := Nat.mod_lt m (by decide)
      refine ⟨fun σ' H'' => H'' = H' ∧ ∃ z' : Str, σ' = [some (.int i), some (.str z'), some (.int ((m / 10 : Nat) : Int))] ∧ digL i.natAbs = digL (m / 10) ++ z'.cps.toList, fun σ' H'' h => ⟨m / 10, by omega, h⟩, ?_⟩
      have em : (m : Int) % 10 = ((m % 10 : Nat) : Int) := rfl
      have ed : (m : Int) / 10 = ((m / 10 : Nat) : Int) := rfl
      refine ⟨_, rfl, _, _, rfl, rfl, (show (0 : Int) < 10 by decide), figT, _, _, rfl, rfl, (by decide +kernel), fig_at hm, _, rfl, _, _, rfl, rfl, ?_, ?_⟩
      · show (⟨#[48 + m % 10]⟩ : Str).length + z.length ≤ sizeLine
        exact sl (by show 1 + z.length ≤ 1000; omega)
      · refine ⟨_, rfl, _, _, rfl, rfl, ⟨by decide, by decide⟩, rfl, _, rfl, ?_⟩
        rw [hz, digL_step g, List.append_assoc, cat_list]
        rfl
    · have g : m = 0 := by
        have : ¬ (0 : Int) < (m : Int) := by simpa using g
        omega
      subst g
      have hz : digL i.natAbs = z.cps.toList := hz
      refine ⟨_, rfl, rfl, _, rfl, ?_⟩
      have e0 : decide (V.str z = V.str ("" : Str)) = decide (z.cps.toList = []) := str_eq_list z []
      rw [e0]
      refine ite2 (fun g => ?_) (fun g => ?_)
      · have g : z.cps.toList = [] := of_decide_eq_true g
        refine q _ ?_
        have : i = 0 := by
          by_cases h0 : i = 0
          · exact h0
          · rw [g] at hz
            have := digL_step (n := i.natAbs) (by omega)
            rw [hz] at this
            simp at this
        rw [this]
        rfl
      · have g : z.cps.toList ≠ [] := fun e => g (decide_eq_true e)
        have h0 : i ≠ 0 := fun e => g (by rw [← hz, e]; rfl)
        refine ⟨_, rfl, _, _, rfl, rfl, _, rfl, ite2 (fun g1 => ?_) (fun g1 => ?_)⟩
        · have g1 : i < 0 := by simpa using g1
          refine ⟨_, rfl, _, _, rfl, rfl, ?_, q _ ?_⟩
          · show ("-" : Str).length + z.length ≤ sizeLine
            exact sl (by rw [show ("-" : Str).length = 1 by decide +kernel]; omega)
          · rw [cat_list, ← hz]
            unfold wrL
            rw [if_neg h0, if_pos g1]
            rfl
        · have g1 : ¬ i < 0 := by simpa using g1
          refine ⟨_, rfl, q _ ?_⟩
          rw [← hz]
          unfold wrL
          rw [if_neg h0, if_neg g1]
end
end My

namespace My
open PySem L2
theorem cat_room {a b : Str} (ha : a.length ≤ 200) (hb : b.length ≤ 200) : a.length + b.length ≤ sizeLine := sl (by omega)
theorem cat_len (a b : Str) : (a ++ b).length = a.length + b.length := by
  rw [len_list, cat_list, List.length_append, ← len_list, ← len_list]
theorem ref_const {cs : List Nat} (h : numL cs = false) (h33 : cs.head? ≠ some 33) : refL cs := ⟨h, fun ws e => absurd (by rw [e]; rfl) h33⟩
theorem ref_in {cs : List Nat} {c : Nat} (h : c ∈ cs) (hc : inF c = false) (h45 : c ≠ 45) (h33 : 33 ∉ cs) : refL cs := ref_sign h hc h45 (fun e => h33 (List.mem_of_mem_head? e))
theorem upper_list : ∀ cs : List Nat, (∀ c ∈ cs, 97 ≤ c ∧ c ≤ 122) → (Txt.upper ⟨cs.toArray⟩).cps.toList = cs.map (· - 32)
  | [], _ => by decide +kernel
  | c :: cs, h => by
    obtain ⟨g1, g2⟩ := h c (by simp)
    have e : (⟨(c :: cs).toArray⟩ : Str) = ⟨#[c]⟩ ++ ⟨cs.toArray⟩ := str_ext (by rw [cat_list]; simp)
    rw [e, PySem.W.KOpn.upper_app, PySem.W.KOpn.upper_one (by omega), cat_list, upper_list cs fun d hd => h d (by simp [hd]), if_pos ⟨g1, g2⟩]
    rfl
theorem let_rng : ∀ c ∈ letters.cps.toList, 97 ≤ c ∧ c ≤ 122 := by decide +kernel
theorem mul9_len (y : Str) (h : 1 ≤ y.length) : (Txt.mul y 9).length = 9 * y.length := by
  have h0 : (y.length == 0) = false := by simp; omega
  have e : Txt.mul y 9 = ⟨(List.replicate 9 y.cps).foldl (· ++ ·) #[]⟩ := by
    unfold Txt.mul
    rw [if_neg (by decide), h0]
    rfl
  rw [e]
  show ((List.replicate 9 y.cps).foldl (· ++ ·) #[]).size = 9 * y.cps.size
  simp [List.replicate, Array.size_append]
  omega
def badS (told y : Str) : List Str := ((["", "-", "!", "-0", "0" ++ told, "-0" ++ told, "+" ++ told, told ++ " ", " " ++ told, told ++ "a", "--" ++ told] : List Str) ++ ([Txt.slice told none (some 1) ++ "_" ++ told, told ++ ".0", "!" ++ told, "! " ++ y, "!" ++ y ++ " ", y] : List Str)) ++ (["!" ++ Txt.upper y, "!" ++ Txt.mul y 9, Txt.mul "1" 61, "-" ++ Txt.mul "9" 61] : List Str)
theorem slice_short (x : Str) {lo hi : Option Int} {n : Nat} (h : x.length ≤ n) : (Txt.slice x lo hi).length ≤ n := Nat.le_trans (Txt.slice_le x _ _) h
theorem bad_ok {told : Str} {cs : List Nat} (hf : Fig told.cps.toList) (hw : Word cs) {z : Str} (h : z ∈ badS told ⟨cs.toArray⟩) : z.length ≤ 1000 ∧ refL z.cps.toList := by
  have tl : told.length ≤ 60 := by rw [len_list]; exact hf.2.1
  have yl : (⟨cs.toArray⟩ : Str).length ≤ 8 := hw.short
  have y1 : 1 ≤ (⟨cs.toArray⟩ : Str).length := by show 1 ≤ cs.toArray.size; simpa using hw.1
  have yc : (⟨cs.toArray⟩ : Str).cps.toList = cs := by simp
  have lr : ∀ c ∈ cs, 97 ≤ c ∧ c ≤ 122 := fun c hc => let_rng c (hw.2.2 c hc)
  have dig : ∀ c ∈ told.cps.toList, 48 ≤ c ∧ c ≤ 57 := hf.2.2.1
  obtain ⟨d0, dr, hd, g49, g57⟩ := hf.head
  obtain ⟨c0, cr, hc0⟩ : ∃ c r, cs = c :: r := by
    have := hw.1
    cases cs with
    | nil => simp at this
    | cons c r => exact ⟨c, r, rfl⟩
  have ul := upper_list cs lr
  have ulen : (Txt.upper ⟨cs.toArray⟩).length ≤ 8 := by rw [len_list, ul, List.length_map]; exact hw.2.1
  have k1 : ∀ s : Str, s.cps.size = s.length := fun _ => rfl
  unfold badS at h
  simp only [List.mem_append, List.mem_cons, List.not_mem_nil, or_false] at h
  rcases h with ((rfl | rfl | rfl | rfl | rfl | rfl | rfl | rfl | rfl | rfl | rfl) | (rfl | rfl | rfl | rfl | rfl | rfl)) | (rfl | rfl | rfl | rfl)
  · exact ⟨by decide +kernel, ref_const (by decide +kernel) (by decide +kernel)⟩
  · exact ⟨by decide +kernel, ref_const (by decide +kernel) (by decide +kernel)⟩
  · exact ⟨by decide +kernel, ref_bang (ws := []) (by decide +kernel)⟩
  · exact ⟨by decide +kernel, ref_const (by decide +kernel) (by decide +kernel)⟩
  · -- '0' + told
    refine ⟨by rw [cat_len, show ("0" : Str).length = 1 by decide +kernel]; omega, ?_⟩
    rw [cat_list, show ("0" : Str).cps.toList = [48] by decide +kernel, hd]
    refine ref_const ?_ (by simp)
    unfold numL
    simp
  · refine ⟨by rw [cat_len, show ("-0" : Str).length = 2 by decide +kernel]; omega, ?_⟩
    rw [cat_list, show ("-0" : Str).cps.toList = [45, 48] by decide +kernel]
    refine ref_const ?_ (by simp)
    unfold numL
    simp
  · refine ⟨by rw [cat_len, show ("+" : Str).length = 1 by decide +kernel]; omega, ?_⟩
    rw [cat_list, show ("+" : Str).cps.toList = [43] by decide +kernel]
    refine ref_in (c := 43) (by simp) (by decide +kernel) (by decide) fun m => ?_
    rcases List.mem_append.mp m with m | m
    · simp at m
    · have := dig _ m; omega
  · refine ⟨by rw [cat_len, show (" " : Str).length = 1 by decide +kernel]; omega, ?_⟩
    rw [cat_list, show (" " : Str).cps.toList = [32] by decide +kernel]
    refine ref_in (c := 32) (by simp) (by decide +kernel) (by decide) fun m => ?_
    rcases List.mem_append.mp m with m | m
    · have := dig _ m; omega
    · simp at m
  · refine ⟨by rw [cat_len, show (" " : Str).length = 1 by decide +kernel]; omega, ?_⟩
    rw [cat_list, show (" " : Str).cps.toList = [32] by decide +kernel]
    refine ref_in (c := 32) (by simp) (by decide +kernel) (by decide) fun m => ?_
    rcases List.mem_append.mp m with m | m
    · simp at m
    · have := dig _ m; omega
  · refine ⟨by rw [cat_len, show ("a" : Str).length = 1 by decide +kernel]; omega, ?_⟩
    rw [cat_list, show ("a" : Str).cps.toList = [97] by decide +kernel]
    refine ref_in (c := 97) (by simp) (by decide +kernel) (by decide) fun m => ?_
    rcases List.mem_append.mp m with m | m
    · have := dig _ m; omega
    · simp at m
  · refine ⟨by rw [cat_len, show ("--" : Str).length = 2 by decide +kernel]; omega, ?_⟩
    rw [cat_list, show ("--" : Str).cps.toList = [45, 45] by decide +kernel]
    refine ref_const ?_ (by simp)
    unfold numL
    rw [if_pos (by rfl), okF_no (c := 45) (by simp) (by decide +kernel), Bool.false_and]
  · have sl1 := slice_short told (lo := none) (hi := some 1) tl
    refine ⟨by rw [cat_len, cat_len, show ("_" : Str).length = 1 by decide +kernel]; omega, ?_⟩
    rw [cat_list, cat_list, show ("_" : Str).cps.toList = [95] by decide +kernel]
    refine ref_in (c := 95) (by simp) (by decide +kernel) (by decide) fun m => ?_
    rcases List.mem_append.mp m with m | m
    · rcases List.mem_append.mp m with m | m
      · have := dig _ (slice_mem m); omega
      · simp at m
    · have := dig _ m; omega
  · refine ⟨by rw [cat_len, show (".0" : Str).length = 2 by decide +kernel]; omega, ?_⟩
    rw [cat_list, show (".0" : Str).cps.toList = [46, 48] by decide +kernel]
    refine ref_in (c := 46) (by simp) (by decide +kernel) (by decide) fun m => ?_
    rcases List.mem_append.mp m with m | m
    · have := dig _ m; omega
    · simp at m
  · refine ⟨by rw [cat_len, show ("!" : Str).length = 1 by decide +kernel]; omega, ?_⟩
    rw [cat_list, show ("!" : Str).cps.toList = [33] by decide +kernel]
    refine ref_bang (name_no (c := d0) (by rw [hd]; simp) ?_)
    rw [inL_lt d0 (by omega), decide_eq_false (by omega)]
    rfl
  · refine ⟨by rw [cat_len, show ("! " : Str).length = 2 by decide +kernel]; omega, ?_⟩
    rw [cat_list, show ("! " : Str).cps.toList = [33, 32] by decide +kernel]
    exact ref_bang (name_no (c := 32) (by simp) (by decide +kernel))
  · refine ⟨by rw [cat_len, cat_len, show ("!" : Str).length = 1 by decide +kernel, show (" " : Str).length = 1 by decide +kernel]; omega, ?_⟩
    rw [cat_list, cat_list, show ("!" : Str).cps.toList = [33] by decide +kernel, show (" " : Str).cps.toList = [32] by decide +kernel]
    exact ref_bang (ws := (⟨cs.toArray⟩ : Str).cps.toList ++ [32]) (name_no (c := 32) (by simp) (by decide +kernel))
  · refine ⟨by omega, ?_⟩
    rw [yc]
    obtain ⟨b1, b2⟩ := lr c0 (by rw [hc0]; simp)
    refine ref_in (c := c0) (by rw [hc0]; simp) ?_ (by omega) fun m => ?_
    · rw [inF_lt c0 (by omega), decide_eq_false (p := c0 ≤ 57) (by omega), Bool.and_false]
    · have := lr _ m; omega
  · refine ⟨by rw [cat_len, show ("!" : Str).length = 1 by decide +kernel]; omega, ?_⟩
    rw [cat_list, show ("!" : Str).cps.toList = [33] by decide +kernel, ul]
    obtain ⟨b1, b2⟩ := lr c0 (by rw [hc0]; simp)
    refine ref_bang (name_no (c := c0 - 32) (by rw [hc0]; simp) ?_)
    rw [inL_lt (c0 - 32) (by omega), decide_eq_false (by omega)]
    rfl
  · have ml := mul9_len ⟨cs.toArray⟩ y1
    refine ⟨by rw [cat_len, show ("!" : Str).length = 1 by decide +kernel]; omega, ?_⟩
    rw [cat_list, show ("!" : Str).cps.toList = [33] by decide +kernel]
    exact ref_bang (name_long (by show 8 < (Txt.mul ⟨cs.toArray⟩ 9).cps.toList.length; rw [← len_list]; omega))
  · exact ⟨by decide +kernel, ref_const (by decide +kernel) (by decide +kernel)⟩
  · exact ⟨by decide +kernel, ref_const (by decide +kernel) (by decide +kernel)⟩
section
variable {P : Program} {w : World} {K : PySem.W.Frag} {mg : Str → Option Value} {base : Heap}
def spBad (K : PySem.W.Frag) : Sp := fun vs H Q _ => ∃ (a : Addr) (ns : List Int) (cs : List Nat), vs = [.ref a, .str ⟨cs.toArray⟩] ∧ SqL K H a (ns.map V.int) ∧ ns.length ≤ 63 ∧ Word cs ∧ ∀ H' v d, Same H H' → Dt K H' v d → shortS d → (∀ z, d = .str z → refL z.cps.toList) → Q v H'
theorem sc_law_bad : FnScope ["_law_script", "_law_word_here", "_law_number", "_law_told", "_law_some"] ["_law_script", "_law_word_here"] (defScope s_law_bad) := ⟨rfl, rfl, rfl, by decide +kernel, rfl, by decide +kernel, by decide +kernel⟩
theorem dt_map (H : Hp) : ∀ zs : List Str, DtAll K H (zs.map V.str) (zs.map PyData.str)
  | [] => .nil
  | z :: zs => .cons (.str z) (dt_map H zs)
theorem k_law_bad (T : Tops K mg) : Known P w K mg base CX0 2 "_law_bad" ["_law_script", "_law_word_here"] (spBad K) := by
  have G_law_cell : Known P w K mg base CX0 1 "_law_cell" ["_law_script", "_law_k"] (spCell K) := k_law_cell T
  refine T.d_law_bad.known sc_law_bad (fun _ _ _ _ _ _ us hl => match us, hl with | [_, _], _ => rfl) (fun vs H Q E h => ?_) (fun f cdv A outer s H vs Q E hr h => ?_)
  · obtain ⟨a, ns, cs, rfl, _⟩ := h
    rfl
  · obtain ⟨a, ns, cs, rfl, hS, hl, hw, q⟩ := h
    refine ⟨_, PSsw.run (pssw_cons (PSw.mk (ps_set (i := 2) sc_law_bad.nd rfl (Or.inl rfl) (pe_op op_add pe_int (pe_op op_mod (pe_callN G_law_cell (hr.mono (by decide)) pass0 (pa_cons (pv 0) (pa_cons pe_int pa_nil))) (pe_op op_pow pe_int pe_int)))))
      (pssw_cons (PSw.mk (ps_set (i := 3) sc_law_bad.nd rfl (Or.inl rfl) (pe_callTy call_str_int rfl T.str b_str (pa_cons (pv 2) pa_nil))))
      (pssw_cons (psw_set (i := 4) sc_law_bad.nd rfl (Or.inl rfl) (pew_lst (paw_k pew_str (paw_k pew_str (paw_k pew_str (paw_k pew_str (paw_b (PEw.mk (pe_op op_add_str pe_str (pv 3))) (paw_b (PEw.mk (pe_op op_add_str pe_str (pv 3))) (paw_b (PEw.mk (pe_op op_add_str pe_str (pv 3))) (paw_b (PEw.mk (pe_op op_add_str (pv 3) pe_str)) (paw_b (PEw.mk (pe_op op_add_str pe_str (pv 3))) (paw_b (PEw.mk (pe_op op_add_str (pv 3) pe_str)) (paw_b (PEw.mk (pe_op op_add_str pe_str (pv 3))) paw_nil)))))))))))))
      (pssw_cons (psw_set (i := 4) sc_law_bad.nd rfl (Or.inl rfl) (pew_op op_cat (PEw.mk (pv 4)) (pew_lst (paw_b (PEw.mk (pe_op op_add_str (pe_op op_add_str (pe_slice sl_str (pv 3) po_none (po_some pe_int)) pe_str) (pv 3))) (paw_b (PEw.mk (pe_op op_add_str (pv 3) pe_str)) (paw_b (PEw.mk (pe_op op_add_str pe_str (pv 3))) (paw_b (PEw.mk (pe_op op_add_str pe_str (pv 1))) (paw_b (PEw.mk (pe_op op_add_str (pe_op op_add_str pe_str (pv 1)) pe_str)) (paw_n (PEw.mk (pv 1)) paw_nil)))))))))
      (pssw_cons (psw_set (i := 4) sc_law_bad.nd rfl (Or.inl rfl) (pew_op op_cat (PEw.mk (pv 4)) (pew_lst (paw_b (PEw.mk (pe_op op_add_str pe_str (pe_bm0 PySem.F.plainAttrs_str PySem.F.slot_str_upper PySem.F.type_str_upper mt_upper (pv 1)))) (paw_b (PEw.mk (pe_op op_add_str pe_str (pe_op op_mul_str (pv 1) pe_int))) (paw_b (PEw.mk (pe_op op_mul_str pe_str pe_int)) (paw_b (PEw.mk (pe_op op_add_str pe_str (pe_op op_mul_str pe_str pe_int))) (paw_k pew_non (paw_n (PEw.mk (pv 2)) (paw_t (PEw.mk (pe_tup (pa_cons pe_str (pa_cons (pv 1) pa_nil)))) paw_nil))))))))))
      (pssw_one (PSw.mk (ps_ret (pe_ix ix_list (pv 4) (pe_op op_mod (pe_callN G_law_cell (hr.mono (by decide)) pass0 (pa_cons (pv 0) (pa_cons pe_int pa_nil))) pe_int) (fun _ _ => rfl)))))))))), ?_⟩
    refine ⟨_, rfl, a, ns, 4, rfl, hS, hl, by decide, by decide, _, _, rfl, rfl, ⟨by decide, by decide, by decide⟩, _, _, rfl, rfl, (show (0 : Int) < 10 ^ (59 : Int).toNat by decide +kernel), _, _, rfl, rfl, ?_⟩
    have n0 := Int.emod_nonneg (cellZ ns 4) (show (10 : Int) ^ (59 : Int).toNat ≠ 0 by decide +kernel)
    have n1 := Int.emod_lt_of_pos (cellZ ns 4) (show (0 : Int) < 10 ^ (59 : Int).toNat by decide +kernel)
    generalize cellZ ns 4 % 10 ^ (59 : Int).toNat = x at n0 n1 ⊢
    have nb : (1 + x).natAbs < 10 ^ 60 := by
      have e : (10 : Int) ^ (59 : Int).toNat + 1 ≤ ((10 ^ 60 : Nat) : Int) := by decide +kernel
      generalize (10 : Int) ^ (59 : Int).toNat = F at *
      generalize (10 ^ 60 : Nat) = G at *
      omega
    have np : 0 < (1 + x).natAbs := by omega
    refine ⟨_, rfl, 1 + x, rfl, ?_, ?_⟩
    · exact (Nat.log2_lt (by omega)).mpr (Nat.lt_trans nb (by decide +kernel))
    have tw := wr_toString (1 + x)
    have tf : Fig (PySem.Str.ofString (toString (1 + x))).cps.toList := by
      rw [tw]
      unfold wrL
      rw [if_neg (by omega), if_neg (by omega)]
      exact fig_of np nb
    change tSeq _ _ _ [_, _, _, some (.str (PySem.Str.ofString (toString (1 + x)))), _] _
    generalize PySem.Str.ofString (toString (1 + x)) = told at tf ⊢
    clear tw
    have tl : told.length ≤ 60 := by rw [len_list]; exact tf.2.1
    have yl : (⟨cs.toArray⟩ : Str).length ≤ 8 := hw.short
    have lr : ∀ c ∈ cs, 97 ≤ c ∧ c ≤ 122 := fun c hc => let_rng c (hw.2.2 c hc)
    have y1 : 1 ≤ (⟨cs.toArray⟩ : Str).length := by show 1 ≤ cs.toArray.size; simpa using hw.1
    have ulen : (Txt.upper ⟨cs.toArray⟩).length ≤ 8 := by rw [len_list, upper_list cs lr, List.length_map]; exact hw.2.1
    have mlen : (Txt.mul ⟨cs.toArray⟩ 9).length ≤ 72 := by rw [mul9_len _ y1]; omega
    generalize hy : (⟨cs.toArray⟩ : Str) = y at *
    have t2 : told.length ≤ 200 := by omega
    have y2 : y.length ≤ 200 := by omega
    have c1 : ∀ {a : Str}, a.length ≤ 200 → a.length ≤ 200 := fun h => h
    refine ⟨_, rfl, _, _, rfl, rfl, cat_room (by decide +kernel) t2, _, rfl, _, _, rfl, rfl, cat_room (by decide +kernel) t2, _, rfl, _, _, rfl, rfl, cat_room (by decide +kernel) t2, _, rfl, _, _, rfl, rfl, cat_room t2 (by decide +kernel), _, rfl, _, _, rfl, rfl, cat_room (by decide +kernel) t2, _, rfl, _, _, rfl, rfl, cat_room t2 (by decide +kernel), _, rfl, _, _, rfl, rfl, cat_room (by decide +kernel) t2, sl, fun l1 hl1 => ?_⟩
    have u1 := Same.new (o := .lst ((["", "-", "!", "-0", "0" ++ told, "-0" ++ told, "+" ++ told, told ++ " ", " " ++ told, told ++ "a", "--" ++ told] : List Str).map V.str)) hl1
    refine ⟨_, rfl, _, rfl, 1, rfl, told, rfl, sl (by omega), _, _, rfl, rfl, cat_room (slice_short told t2) (by decide +kernel), _, rfl, _, _, rfl, rfl, cat_room ?_ t2, _, rfl, _, _, rfl, rfl, cat_room t2 (by decide +kernel), _, rfl, _, _, rfl, rfl, cat_room (by decide +kernel) t2, _, rfl, _, _, rfl, rfl, cat_room (by decide +kernel) y2, _, rfl, _, _, rfl, rfl, cat_room (by decide +kernel) y2, _, _, rfl, rfl, cat_room ?_ (by decide +kernel), _, rfl, sl, fun l2 hl2 => ?_⟩
    · rw [cat_len, show ("_" : Str).length = 1 by decide +kernel]
      have := slice_short told (lo := none) (hi := some 1) tl
      omega
    · rw [cat_len, show ("!" : Str).length = 1 by decide +kernel]
      omega
    have u2 := Same.new (o := .lst (([Txt.slice told none (some 1) ++ "_" ++ told, told ++ ".0", "!" ++ told, "! " ++ y, "!" ++ y ++ " ", y] : List Str).map V.str)) hl2
    refine ⟨l1, l2, _, _, rfl, rfl, u2 _ _ upd_same, upd_same, sl, fun l3 hl3 => ?_⟩
    have u3 := Same.new (o := .lst (((["", "-", "!", "-0", "0" ++ told, "-0" ++ told, "+" ++ told, told ++ " ", " " ++ told, told ++ "a", "--" ++ told] : List Str).map V.str) ++ (([Txt.slice told none (some 1) ++ "_" ++ told, told ++ ".0", "!" ++ told, "! " ++ y, "!" ++ y ++ " ", y] : List Str).map V.str))) hl3
    refine ⟨_, rfl, _, rfl, rfl, y, rfl, rfl, ?_, _, _, rfl, rfl, cat_room (by decide +kernel) (by omega), _, rfl, _, _, rfl, rfl, by omega, by decide, by decide, _, _, rfl, rfl, cat_room (by decide +kernel) (by omega), _, _, rfl, rfl, by decide +kernel, by decide, by decide, _, _, rfl, rfl, by decide +kernel, by decide, by decide, _, _, rfl, rfl, cat_room (by decide +kernel) (by decide +kernel), _, rfl, _, rfl, sl, fun p hp => ⟨sl, fun l4 hl4 => ?_⟩⟩
    · show decide ((Txt.upper y).length > sizeLine) = false
      exact decide_eq_false (by have := small1000 (n := (Txt.upper y).length) (by omega); omega)
    have u4 := Same.new (o := .tup [.str ("fault" : Str), .str y]) hp
    have u5 := Same.new (o := .lst ((["!" ++ Txt.upper y, "!" ++ Txt.mul y 9, Txt.mul "1" 61, "-" ++ Txt.mul "9" 61] : List Str).map V.str ++ [.non, .int (1 + x), .ref p])) hl4
    refine ⟨l3, l4, _, _, rfl, rfl, (u4.trans u5) _ _ upd_same, upd_same, sl, fun l5 hl5 => ?_⟩
    have u6 := Same.new (o := .lst (((["", "-", "!", "-0", "0" ++ told, "-0" ++ told, "+" ++ told, told ++ " ", " " ++ told, told ++ "a", "--" ++ told] : List Str).map V.str ++ ([Txt.slice told none (some 1) ++ "_" ++ told, told ++ ".0", "!" ++ told, "! " ++ y, "!" ++ y ++ " ", y] : List Str).map V.str) ++ ((["!" ++ Txt.upper y, "!" ++ Txt.mul y 9, Txt.mul "1" 61, "-" ++ Txt.mul "9" 61] : List Str).map V.str ++ [.non, .int (1 + x), .ref p]))) hl5
    have sA := ((((u1.trans u2).trans u3).trans u4).trans u5).trans u6
    have m0 := Int.emod_nonneg (cellZ ns 3) (show (24 : Int) ≠ 0 by decide)
    have m1 := Int.emod_lt_of_pos (cellZ ns 3) (show (0 : Int) < 24 by decide)
    have hp' := (u5.trans u6) _ _ (upd_same (a := p) (o := .tup [.str ("fault" : Str), .str y]))
    have gl := upd_same (a := l5) (o := .lst (((["", "-", "!", "-0", "0" ++ told, "-0" ++ told, "+" ++ told, told ++ " ", " " ++ told, told ++ "a", "--" ++ told] : List Str).map V.str ++ ([Txt.slice told none (some 1) ++ "_" ++ told, told ++ ".0", "!" ++ told, "! " ++ y, "!" ++ y ++ " ", y] : List Str).map V.str) ++ ((["!" ++ Txt.upper y, "!" ++ Txt.mul y 9, Txt.mul "1" 61, "-" ++ Txt.mul "9" 61] : List Str).map V.str ++ [.non, .int (1 + x), .ref p]))) (H := upd (upd (upd (upd (upd H l1 (.lst ((["", "-", "!", "-0", "0" ++ told, "-0" ++ told, "+" ++ told, told ++ " ", " " ++ told, told ++ "a", "--" ++ told] : List Str).map V.str))) l2 (.lst (([Txt.slice told none (some 1) ++ "_" ++ told, told ++ ".0", "!" ++ told, "! " ++ y, "!" ++ y ++ " ", y] : List Str).map V.str))) l3 (.lst ((["", "-", "!", "-0", "0" ++ told, "-0" ++ told, "+" ++ told, told ++ " ", " " ++ told, told ++ "a", "--" ++ told] : List Str).map V.str ++ ([Txt.slice told none (some 1) ++ "_" ++ told, told ++ ".0", "!" ++ told, "! " ++ y, "!" ++ y ++ " ", y] : List Str).map V.str))) p (.tup [.str ("fault" : Str), .str y])) l4 (.lst ((["!" ++ Txt.upper y, "!" ++ Txt.mul y 9, Txt.mul "1" 61, "-" ++ Txt.mul "9" 61] : List Str).map V.str ++ [.non, .int (1 + x), .ref p])))
    have key : ∀ HF : Hp, Same H HF → HF p = some (.tup [.str ("fault" : Str), .str y]) → HF l5 = some (.lst (((["", "-", "!", "-0", "0" ++ told, "-0" ++ told, "+" ++ told, told ++ " ", " " ++ told, told ++ "a", "--" ++ told] : List Str).map V.str ++ ([Txt.slice told none (some 1) ++ "_" ++ told, told ++ ".0", "!" ++ told, "! " ++ y, "!" ++ y ++ " ", y] : List Str).map V.str) ++ ((["!" ++ Txt.upper y, "!" ++ Txt.mul y 9, Txt.mul "1" 61, "-" ++ Txt.mul "9" 61] : List Str).map V.str ++ [.non, .int (1 + x), .ref p]))) →
        ∃ v, atI (((["", "-", "!", "-0", "0" ++ told, "-0" ++ told, "+" ++ told, told ++ " ", " " ++ told, told ++ "a", "--" ++ told] : List Str).map V.str ++ ([Txt.slice told none (some 1) ++ "_" ++ told, told ++ ".0", "!" ++ told, "! " ++ y, "!" ++ y ++ " ", y] : List Str).map V.str) ++ ((["!" ++ Txt.upper y, "!" ++ Txt.mul y 9, Txt.mul "1" 61, "-" ++ Txt.mul "9" 61] : List Str).map V.str ++ [.non, .int (1 + x), .ref p])) (cellZ ns 3 % 24) = some v ∧ Q v HF := fun HF sF hpF hlF => by
      have all : DtAll K HF _ (((["", "-", "!", "-0", "0" ++ told, "-0" ++ told, "+" ++ told, told ++ " ", " " ++ told, told ++ "a", "--" ++ told] : List Str).map PyData.str ++ ([Txt.slice told none (some 1) ++ "_" ++ told, told ++ ".0", "!" ++ told, "! " ++ y, "!" ++ y ++ " ", y] : List Str).map PyData.str) ++ ((["!" ++ Txt.upper y, "!" ++ Txt.mul y 9, Txt.mul "1" 61, "-" ++ Txt.mul "9" 61] : List Str).map PyData.str ++ [.none, .int (1 + x), .tuple [.str "fault", .str y]])) :=
        DtAll.append (DtAll.append (dt_map HF _) (dt_map HF _)) (DtAll.append (dt_map HF _) (.cons .non (.cons (.int _) (.cons (.tup (SqT.of hpF) (.cons (.str _) (.cons (.str _) .nil))) .nil))))
      obtain ⟨v, d, hat, hdm, hd⟩ := all.pick m0 m1
      have hm := List.mem_of_getElem? hdm
      have ok : ∀ z, z ∈ badS told y → z.length ≤ 1000 ∧ refL z.cps.toList := fun z hz => bad_ok tf hw (by rw [hy]; exact hz)
      have fin : ∀ z, d = .str z → z ∈ badS told y → Q v HF := fun z e hz => by
        subst e
        obtain ⟨o1, o2⟩ := ok z hz
        exact q HF v _ sF hd (shortS_str o1) fun z' e' => by cases e'; exact o2
      refine ⟨v, hat, ?_⟩
      rcases List.mem_append.mp hm with h | h
      · rcases List.mem_append.mp h with h | h
        · obtain ⟨z, hz, rfl⟩ := List.mem_map.mp h
          exact fin z rfl (List.mem_append_left _ (List.mem_append_left _ hz))
        · obtain ⟨z, hz, rfl⟩ := List.mem_map.mp h
          exact fin z rfl (List.mem_append_left _ (List.mem_append_right _ hz))
      · rcases List.mem_append.mp h with h | h
        · obtain ⟨z, hz, rfl⟩ := List.mem_map.mp h
          exact fin z rfl (List.mem_append_right _ hz)
        · simp only [List.mem_cons, List.not_mem_nil, or_false] at h
          rcases h with rfl | rfl | rfl <;> exact q HF v _ sF hd (shortS_not (by intro z; cases z)) (fun z e => by cases e)
    obtain ⟨v, hat, qv⟩ := key _ sA hp' gl
    exact ⟨_, rfl, _, rfl, a, ns, 3, rfl, sA.seq hS, hl, by decide, by decide, _, _, rfl, rfl, (show (0 : Int) < 24 by decide), l5, _, _, v, rfl, rfl, SqL.of gl, hat, qv⟩
end
end My

namespace My
open PySem L2
open PySem.NumText in
theorem wr_reads {i : Int} {z : Str} (h1 : -F60 < i) (h2 : i < F60) (hz : z.cps.toList = wrL i) : PySem.intText? z = some i ∧ z.length ≤ 61 := by
  have e : F60 = ((10 ^ 60 : Nat) : Int) := by decide +kernel
  have nb : i.natAbs < 10 ^ 60 := by
    rw [e] at h1 h2
    generalize (10 ^ 60 : Nat) = F at *
    omega
  have zl := len_list z
  unfold wrL at hz
  by_cases h0 : i = 0
  · rw [if_pos h0] at hz
    have hl : z.length = 1 := by rw [zl, hz]; rfl
    refine ⟨?_, by omega⟩
    have := intText_digits (x := z) (by rw [hz]; intro c hc; simp at hc; omega) (by rw [hz]; simp) (by omega)
    rw [this, hz, h0]
    rfl
  · rw [if_neg h0] at hz
    obtain ⟨g1, g2, g3, g4, g5⟩ := digL_fig 60 i.natAbs (by omega) nb
    by_cases hn : i < 0
    · rw [if_pos hn] at hz
      have hl : z.length = (digL i.natAbs).length + 1 := by rw [zl, hz]; rfl
      refine ⟨?_, by omega⟩
      have := intText_neg (x := z) hz g3 (by intro e; rw [e] at g1; simp at g1) (by omega)
      rw [this, g5]
      congr 1
      omega
    · rw [if_neg hn] at hz
      have hl : z.length = (digL i.natAbs).length := by rw [zl, hz]
      refine ⟨?_, by omega⟩
      have := intText_digits (x := z) (by rw [hz]; exact g3) (by rw [hz]; intro e; rw [e] at g1; simp at g1) (by omega)
      rw [this, hz, g5]
      congr 1
      omega
theorem lay_fault {cs : List Nat} (hw : Word cs) : (PyData.tuple [.str "fault", .str ⟨cs.toArray⟩]).canLay0 = true := by
  have f : PyData.canLay0 (.str "fault") = true := by decide +kernel
  rw [PyData.canLay0, PyData.canLayAll0, PyData.canLayAll0, PyData.canLayAll0, f, lay_text fun c hc => let_lt c (hw.2.2 c hc)]
  rfl
section
variable {P : Program} {w : World} {K : PySem.W.Frag} {mg : Str → Option Value} {base : Heap}
def spLaw (K : PySem.W.Frag) : Sp := fun vs H Q _ => ∃ (a : Addr) (ns : List Int), vs = [.ref a] ∧ SqL K H a (ns.map V.int) ∧ ns.length ≤ 63 ∧ ∀ H', Q (.bl true) H'
theorem sc_law : FnScope ["_law_script", "_law_word_here", "_law_value_here", "_law_due", "_law_text", "_law_found"] ["_law_script"] (defScope s_law) := ⟨rfl, rfl, rfl, by decide +kernel, rfl, by decide +kernel, by decide +kernel⟩
theorem ok_law (T : Tops K mg) {f : Addr} {fd : FuncData} (F : Fun K "law" "law" s_law f fd) : FnOk P w K mg base CX0 10 f fd ["_law_script"] (spLaw K) := by
  obtain ⟨c, X⟩ := T.exc
  have G_law_word : Known P w K mg base CX0 2 "_law_word" ["_law_script"] (spWord K) := k_law_word T
  have G_law_value : Known P w K mg base CX0 2 "_law_value" ["_law_script", "_law_word_here"] (spVal K) := k_law_value T
  have G_law_digits : Known P w K mg base CX0 1 "_law_digits" ["_law_number"] spDigits := k_law_digits T
  have G_show_value : Known P w K mg base CX0 3 "show_value" ["value"] (spShow K) := k_show_value T
  have G_read_value : Known P w K mg base (CXE P w) 3 "read_value" ["text"] (spRead K c) := k_read_value T X
  have G_law_bad : Known P w K mg base CX0 2 "_law_bad" ["_law_script", "_law_word_here"] (spBad K) := k_law_bad T
  have G_law_refused : Known P w K mg base CX0 4 "_law_refused" ["_law_text"] (spRefd K) := k_law_refused T X
  refine F.ok sc_law (fun vs H Q E h => ?_) (fun cdv A outer s H vs Q E hr h => ?_)
  · obtain ⟨a, ns, rfl, _⟩ := h
    rfl
  · obtain ⟨a, ns, rfl, hS, hl, q⟩ := h
    have rest : ∃ t, PSs (cxOf CX0 P w K mg base ["_law_script", "_law_word_here", "_law_value_here", "_law_due", "_law_text", "_law_found"] "law" (defScope s_law) f cdv A outer s H E).nox ((defBody s_law).drop 4) t ∧
        ∀ (H1 : Hp) (cs : List Nat) (v : V) (z : Str), Same H H1 → Word cs → ((∃ i : Int, v = .int i ∧ -F60 < i ∧ i < F60 ∧ z.cps.toList = wrL i) ∨ ∃ p, v = .ref p ∧ H1 p = some (.tup [.str "fault", .str ⟨cs.toArray⟩]) ∧ z = "!" ++ ⟨cs.toArray⟩) →
          t { nx := fun _ H' => Q .non H', rt := Q } [some (.ref a), some (.str ⟨cs.toArray⟩), some v, some (.str z), none, none] H1 := by
      refine ⟨_, (pss_cons (ps_set (i := 4) sc_law.nd rfl (Or.inl rfl) (pe_callN G_show_value (hr.mono (by decide)) pass0 (pa_cons (pv 2) pa_nil)))
      (pss_cons (ps_if (PW.pt (pw_or (pt_not (pt_val (pe_callB call_isT rfl T.isinstance b_isinstance (pa_cons (pv 4) (pa_cons (pe_ty T.str b_str) pa_nil))) (fun _ => rfl))) (pw_or1 (pt_cmpR op_ne (pv 4) (pv 3) (nomark _))))) (pss_one (ps_ret pe_bl)) pss_nil)
      (pss_cons (ps_set (i := 5) sc_law.nd rfl (Or.inl rfl) (pe_callN G_read_value (hr.mono (by decide)) passN (pa_cons (pv 3) pa_nil)))
      (pss_cons (ps_if (PW.pt (pw_or (pt_val (pe_callB call_isT rfl T.isinstance b_isinstance (pa_cons (pv 5) (pa_cons (pe_ty T.bool b_bool) pa_nil))) (fun _ => rfl)) (pw_or (pt_cmpR op_ne (pe_callB call_isT rfl T.isinstance b_isinstance (pa_cons (pv 5) (pa_cons (pe_ty T.int b_int) pa_nil))) (pe_callB call_isT rfl T.isinstance b_isinstance (pa_cons (pv 2) (pa_cons (pe_ty T.int b_int) pa_nil))) (nomark _)) (pw_or1 (pt_cmpR (op_neD hr.units) (pv 5) (pv 2) (nomark _)))))) (pss_one (ps_ret pe_bl)) pss_nil)
      (pss_one (ps_ret (pe_and (pe_callN G_law_refused (hr.mono (by decide)) pass0 (pa_cons (pe_callN G_law_bad (hr.mono (by decide)) pass0 (pa_cons (pv 0) (pa_cons (pv 1) pa_nil))) pa_nil)) (pe_one (pe_cmpR (op_eqD hr.units) (pe_callN G_read_value (hr.mono (by decide)) passN (pa_cons (pv 3) pa_nil)) (pv 2) (nomark _)))))))))), fun H1 cs v z s1 hw hv => ?_⟩
      have nw := hw.name
      have yl := hw.short
      have zl : z.length ≤ 100 := by
        rcases hv with ⟨i, _, h1, h2, hz⟩ | ⟨p, _, _, rfl⟩
        · have := (wr_reads h1 h2 hz).2; omega
        · rw [cat_len, show ("!" : Str).length = 1 by decide +kernel]; omega
      rcases hv with ⟨i, rfl, h1, h2, hz⟩ | ⟨p, rfl, hp, rfl⟩
      · obtain ⟨hrd, _⟩ := wr_reads h1 h2 hz
        have hnum : numL z.cps.toList = true := by
          rw [hz]
          have e : F60 = 10 ^ 60 := rfl
          exact wr_num h1 h2
        refine ⟨_, rfl, .inl ⟨i, rfl, h1, h2, fun H2 s2 z' hz' => ?_⟩⟩
        have ez : z' = z := str_ext (by rw [hz', hz])
        subst ez
        refine ⟨_, rfl, _, "str", .str z', _, rfl, .str z', kit_str K _, _, rfl, iteF ⟨_, rfl, _, rfl, rfl, _, rfl, iteNS rfl ?_⟩⟩
        refine ⟨_, rfl, _, .str z', rfl, .str z', shortS_str (by omega), .inl ⟨z', i, rfl, hnum, by omega, hrd, fun H3 s3 => ?_⟩⟩
        refine ⟨_, rfl, _, "bool", .int i, _, rfl, .int i, kit_bool K _, _, rfl, iteF ?_⟩
        refine ⟨_, rfl, _, "int", .int i, _, rfl, .int i, kit_int K _, _, rfl, _, "int", .int i, _, rfl, .int i, kit_int K _, rfl, _, rfl, iteNS rfl ?_⟩
        refine ⟨_, rfl, _, rfl, .int i, .int i, .int i, .int i, rfl, rfl, (by show 0 ≤ 64; decide), _, rfl, ?_⟩
        rw [SeqAt.eqv_refl _ (show (PyData.int i).canLay0 = true from rfl)]
        refine iteF ?_
        have s123 := (s1.trans s2).trans s3
        refine ⟨_, rfl, _, rfl, a, ns, cs, rfl, s123.seq hS, hl, hw, fun H4 v4 d4 s4 hd4 sh4 hr4 => ⟨v4, d4, rfl, hd4, sh4, hr4, fun H5 s5 => ⟨_, rfl, iteT ?_⟩⟩⟩
        refine ⟨_, rfl, _, .str z', rfl, .str z', shortS_str (by omega), .inl ⟨z', i, rfl, hnum, by omega, hrd, fun H6 s6 => ?_⟩⟩
        refine ⟨_, rfl, .int i, .int i, .int i, .int i, rfl, rfl, (by show 0 ≤ 64; decide), ?_⟩
        rw [SeqAt.eqv_refl _ (show (PyData.int i).canLay0 = true from rfl)]
        exact q _
      · have hzl : (("!" : Str) ++ ⟨cs.toArray⟩).cps.toList = 33 :: (⟨cs.toArray⟩ : Str).cps.toList := by rw [cat_list, show ("!" : Str).cps.toList = [33] by decide +kernel]; rfl
        have hnum : numL (("!" : Str) ++ ⟨cs.toArray⟩).cps.toList = false := by
          rw [hzl]
          unfold numL
          rw [if_neg (by simp), okF_no (c := 33) (by simp) (by decide +kernel), Bool.false_and]
        generalize hy : (⟨cs.toArray⟩ : Str) = y at *
        have lay : (PyData.tuple [.str "fault", .str y]).canLay0 = true := by
          rw [← hy]
          exact lay_fault hw
        have dep : (PyData.tuple [.str "fault", .str y]).depth ≤ 64 := by
          show 1 ≤ 64
          decide
        have dt : ∀ {H' : Hp} {p' : Addr}, H' p' = some (.tup [.str ("fault" : Str), .str y]) → Dt K H' (.ref p') (.tuple [.str "fault", .str y]) := fun h => .tup (SqT.of h) (.cons (.str _) (.cons (.str _) .nil))
        refine ⟨_, rfl, .inr ⟨p, y, rfl, hp, nw, yl, fun H2 s2 => ?_⟩⟩
        refine ⟨_, rfl, _, "str", .str _, _, rfl, .str _, kit_str K _, _, rfl, iteF ⟨_, rfl, _, rfl, rfl, _, rfl, iteNS rfl ?_⟩⟩
        refine ⟨_, rfl, _, .str _, rfl, .str _, shortS_str (by omega), .inr (.inl ⟨_, y, rfl, hnum, hzl, nw, fun H3 p3 s3 hp3 => ?_⟩)⟩
        have hp' := (s2.trans s3) _ _ hp
        refine ⟨_, rfl, _, "bool", _, _, rfl, dt hp3, kit_bool K _, _, rfl, iteF ?_⟩
        refine ⟨_, rfl, _, "int", _, _, rfl, dt hp3, kit_int K _, _, rfl, _, "int", _, _, rfl, dt hp', kit_int K _, rfl, _, rfl, iteNS rfl ?_⟩
        refine ⟨_, rfl, _, rfl, _, _, dt hp3, dt hp', lay, lay, dep, _, rfl, ?_⟩
        rw [SeqAt.eqv_refl _ lay]
        refine iteF ?_
        have s123 := (s1.trans s2).trans s3
        refine ⟨_, rfl, _, rfl, a, ns, cs, congrArg (fun t => [V.ref a, V.str t]) hy.symm, s123.seq hS, hl, hw, fun H4 v4 d4 s4 hd4 sh4 hr4 => ⟨v4, d4, rfl, hd4, sh4, hr4, fun H5 s5 => ⟨_, rfl, iteT ?_⟩⟩⟩
        refine ⟨_, rfl, _, .str _, rfl, .str _, shortS_str (by omega), .inr (.inl ⟨_, y, rfl, hnum, hzl, nw, fun H6 p6 s6 hp6 => ?_⟩)⟩
        refine ⟨_, rfl, _, _, dt hp6, dt (((s4.trans s5).trans s6) _ _ hp'), lay, lay, dep, ?_⟩
        rw [SeqAt.eqv_refl _ lay]
        exact q _
    obtain ⟨t2, ht2, q2⟩ := rest
    refine ⟨_, (pss_cons (ps_set (i := 1) sc_law.nd rfl (Or.inl rfl) (pe_callN G_law_word (hr.mono (by decide)) pass0 (pa_cons (pv 0) pa_nil)))
      (pss_cons (ps_set (i := 2) sc_law.nd rfl (Or.inl rfl) (pe_callN G_law_value (hr.mono (by decide)) pass0 (pa_cons (pv 0) (pa_cons (pv 1) pa_nil))))
      (pss_cons (ps_set (i := 3) sc_law.nd rfl (Or.inl rfl) (pe_op op_add_str pe_str (pv 1)))
      (pss_cons (ps_if (pt_val (pe_callB call_isT rfl T.isinstance b_isinstance (pa_cons (pv 2) (pa_cons (pe_ty T.int b_int) pa_nil))) (fun _ => rfl)) (pss_one (ps_set (i := 3) sc_law.nd rfl (Or.inl rfl) (pe_callN G_law_digits (hr.mono (by decide)) pass0 (pa_cons (pv 2) pa_nil)))) pss_nil)
      ht2)))), ?_⟩
    refine ⟨_, rfl, a, ns, rfl, hS, hl, fun H1 cs s1 hw => ⟨_, rfl, _, rfl, a, ns, ⟨cs.toArray⟩, rfl, s1.seq hS, hl, fun H2 v s2 hv => ?_⟩⟩
    have yl := hw.short
    refine ⟨_, rfl, _, _, rfl, rfl, sl (by rw [show ("!" : Str).length = 1 by decide +kernel]; omega), ?_⟩
    have s12 := s1.trans s2
    rcases hv with ⟨i, rfl, h1, h2⟩ | ⟨p, rfl, hp⟩
    · refine ⟨_, rfl, _, "int", .int i, _, rfl, .int i, kit_int K _, _, rfl, iteT ?_⟩
      exact ⟨_, rfl, i, rfl, h1, h2, fun z hz => q2 H2 cs _ z s12 hw (.inl ⟨i, rfl, h1, h2, hz⟩)⟩
    · refine ⟨_, rfl, _, "int", .tuple [.str "fault", .str ⟨cs.toArray⟩], _, rfl, .tup (SqT.of hp) (.cons (.str _) (.cons (.str _) .nil)), kit_int K _, _, rfl, iteF ?_⟩
      exact q2 H2 cs _ _ s12 hw (.inr ⟨p, rfl, hp, rfl⟩)
end
end My

namespace My
open PySem L2
theorem tops_mk {K : PySem.W.Frag} {h : Heap} {mg : Str → Option Value} (X : K.In h) (G : h.Ns mainGlobals mg)
    (n_len : PySem.W.nsIn K mainGlobals "len" = some none)
    (n_isinstance : PySem.W.nsIn K mainGlobals "isinstance" = some none)
    (n_int : PySem.W.nsIn K mainGlobals "int" = some none)
    (n_bool : PySem.W.nsIn K mainGlobals "bool" = some none)
    (n_str : PySem.W.nsIn K mainGlobals "str" = some none)
    (n_all : PySem.W.nsIn K mainGlobals "all" = some none)
    (n_range : PySem.W.nsIn K mainGlobals "range" = some none)
    (n_abs : PySem.W.nsIn K mainGlobals "abs" = some none)
    (n_list : PySem.W.nsIn K mainGlobals "list" = some none)
    (n_tuple : PySem.W.nsIn K mainGlobals "tuple" = some none)
    (n_ValueError : PySem.W.nsIn K mainGlobals "ValueError" = some none)
    {t_LETTERS : Tok} (i_LETTERS : PySem.W.nsIn K mainGlobals "LETTERS" = some (some (.str ("abcdefghijklmnopqrstuvwxyz" : Str) t_LETTERS)))
    {t_MOST_LETTERS : Tok} (i_MOST_LETTERS : PySem.W.nsIn K mainGlobals "MOST_LETTERS" = some (some (.int 8 t_MOST_LETTERS)))
    {t_FIGURES : Tok} (i_FIGURES : PySem.W.nsIn K mainGlobals "FIGURES" = some (some (.str ("0123456789" : Str) t_FIGURES)))
    {t_MOST_FIGURES : Tok} (i_MOST_FIGURES : PySem.W.nsIn K mainGlobals "MOST_FIGURES" = some (some (.int 60 t_MOST_FIGURES)))
    {f_is_name : Addr} {oc_is_name kV_is_name doc_is_name pm_is_name ct_is_name : Value} {cd_is_name : Value} {od_is_name an_is_name : Option Addr} {sl_is_name : Array (Option Value)} (a_is_name : PySem.W.nsIn K mainGlobals "is_name" = some (some (.ref f_is_name)))
    (l_is_name : K.lookup f_is_name = some ⟨oc_is_name, od_is_name, .func (PySem.W.fnOf "is_name" "is_name" (defArgs s_is_name) (defBody s_is_name) (defScope s_is_name) .none kV_is_name doc_is_name pm_is_name an_is_name cd_is_name ct_is_name), sl_is_name⟩)
    (c_is_name : PySem.W.codeIn K cd_is_name "is_name" = true) (k_is_name : PySem.W.keepIn K (.ref f_is_name) = true)
    {f_is_fault : Addr} {oc_is_fault kV_is_fault doc_is_fault pm_is_fault ct_is_fault : Value} {cd_is_fault : Value} {od_is_fault an_is_fault : Option Addr} {sl_is_fault : Array (Option Value)} (a_is_fault : PySem.W.nsIn K mainGlobals "is_fault" = some (some (.ref f_is_fault)))
    (l_is_fault : K.lookup f_is_fault = some ⟨oc_is_fault, od_is_fault, .func (PySem.W.fnOf "is_fault" "is_fault" (defArgs s_is_fault) (defBody s_is_fault) (defScope s_is_fault) .none kV_is_fault doc_is_fault pm_is_fault an_is_fault cd_is_fault ct_is_fault), sl_is_fault⟩)
    (c_is_fault : PySem.W.codeIn K cd_is_fault "is_fault" = true) (k_is_fault : PySem.W.keepIn K (.ref f_is_fault) = true)
    {f_fault : Addr} {oc_fault kV_fault doc_fault pm_fault ct_fault : Value} {cd_fault : Value} {od_fault an_fault : Option Addr} {sl_fault : Array (Option Value)} (a_fault : PySem.W.nsIn K mainGlobals "fault" = some (some (.ref f_fault)))
    (l_fault : K.lookup f_fault = some ⟨oc_fault, od_fault, .func (PySem.W.fnOf "fault" "fault" (defArgs s_fault) (defBody s_fault) (defScope s_fault) .none kV_fault doc_fault pm_fault an_fault cd_fault ct_fault), sl_fault⟩)
    (c_fault : PySem.W.codeIn K cd_fault "fault" = true) (k_fault : PySem.W.keepIn K (.ref f_fault) = true)
    {f_writes_number : Addr} {oc_writes_number kV_writes_number doc_writes_number pm_writes_number ct_writes_number : Value} {cd_writes_number : Value} {od_writes_number an_writes_number : Option Addr} {sl_writes_number : Array (Option Value)} (a_writes_number : PySem.W.nsIn K mainGlobals "writes_number" = some (some (.ref f_writes_number)))
    (l_writes_number : K.lookup f_writes_number = some ⟨oc_writes_number, od_writes_number, .func (PySem.W.fnOf "writes_number" "writes_number" (defArgs s_writes_number) (defBody s_writes_number) (defScope s_writes_number) .none kV_writes_number doc_writes_number pm_writes_number an_writes_number cd_writes_number ct_writes_number), sl_writes_number⟩)
    (c_writes_number : PySem.W.codeIn K cd_writes_number "writes_number" = true) (k_writes_number : PySem.W.keepIn K (.ref f_writes_number) = true)
    {f_show_value : Addr} {oc_show_value kV_show_value doc_show_value pm_show_value ct_show_value : Value} {cd_show_value : Value} {od_show_value an_show_value : Option Addr} {sl_show_value : Array (Option Value)} (a_show_value : PySem.W.nsIn K mainGlobals "show_value" = some (some (.ref f_show_value)))
    (l_show_value : K.lookup f_show_value = some ⟨oc_show_value, od_show_value, .func (PySem.W.fnOf "show_value" "show_value" (defArgs s_show_value) (defBody s_show_value) (defScope s_show_value) .none kV_show_value doc_show_value pm_show_value an_show_value cd_show_value ct_show_value), sl_show_value⟩)
    (c_show_value : PySem.W.codeIn K cd_show_value "show_value" = true) (k_show_value : PySem.W.keepIn K (.ref f_show_value) = true)
    {f_read_value : Addr} {oc_read_value kV_read_value doc_read_value pm_read_value ct_read_value : Value} {cd_read_value : Value} {od_read_value an_read_value : Option Addr} {sl_read_value : Array (Option Value)} (a_read_value : PySem.W.nsIn K mainGlobals "read_value" = some (some (.ref f_read_value)))
    (l_read_value : K.lookup f_read_value = some ⟨oc_read_value, od_read_value, .func (PySem.W.fnOf "read_value" "read_value" (defArgs s_read_value) (defBody s_read_value) (defScope s_read_value) .none kV_read_value doc_read_value pm_read_value an_read_value cd_read_value ct_read_value), sl_read_value⟩)
    (c_read_value : PySem.W.codeIn K cd_read_value "read_value" = true) (k_read_value : PySem.W.keepIn K (.ref f_read_value) = true)
    {f_law_cell : Addr} {oc_law_cell kV_law_cell doc_law_cell pm_law_cell ct_law_cell : Value} {cd_law_cell : Value} {od_law_cell an_law_cell : Option Addr} {sl_law_cell : Array (Option Value)} (a_law_cell : PySem.W.nsIn K mainGlobals "_law_cell" = some (some (.ref f_law_cell)))
    (l_law_cell : K.lookup f_law_cell = some ⟨oc_law_cell, od_law_cell, .func (PySem.W.fnOf "_law_cell" "_law_cell" (defArgs s_law_cell) (defBody s_law_cell) (defScope s_law_cell) .none kV_law_cell doc_law_cell pm_law_cell an_law_cell cd_law_cell ct_law_cell), sl_law_cell⟩)
    (c_law_cell : PySem.W.codeIn K cd_law_cell "_law_cell" = true) (k_law_cell : PySem.W.keepIn K (.ref f_law_cell) = true)
    {f_law_word : Addr} {oc_law_word kV_law_word doc_law_word pm_law_word ct_law_word : Value} {cd_law_word : Value} {od_law_word an_law_word : Option Addr} {sl_law_word : Array (Option Value)} (a_law_word : PySem.W.nsIn K mainGlobals "_law_word" = some (some (.ref f_law_word)))
    (l_law_word : K.lookup f_law_word = some ⟨oc_law_word, od_law_word, .func (PySem.W.fnOf "_law_word" "_law_word" (defArgs s_law_word) (defBody s_law_word) (defScope s_law_word) .none kV_law_word doc_law_word pm_law_word an_law_word cd_law_word ct_law_word), sl_law_word⟩)
    (c_law_word : PySem.W.codeIn K cd_law_word "_law_word" = true) (k_law_word : PySem.W.keepIn K (.ref f_law_word) = true)
    {f_law_value : Addr} {oc_law_value kV_law_value doc_law_value pm_law_value ct_law_value : Value} {cd_law_value : Value} {od_law_value an_law_value : Option Addr} {sl_law_value : Array (Option Value)} (a_law_value : PySem.W.nsIn K mainGlobals "_law_value" = some (some (.ref f_law_value)))
    (l_law_value : K.lookup f_law_value = some ⟨oc_law_value, od_law_value, .func (PySem.W.fnOf "_law_value" "_law_value" (defArgs s_law_value) (defBody s_law_value) (defScope s_law_value) .none kV_law_value doc_law_value pm_law_value an_law_value cd_law_value ct_law_value), sl_law_value⟩)
    (c_law_value : PySem.W.codeIn K cd_law_value "_law_value" = true) (k_law_value : PySem.W.keepIn K (.ref f_law_value) = true)
    {f_law_digits : Addr} {oc_law_digits kV_law_digits doc_law_digits pm_law_digits ct_law_digits : Value} {cd_law_digits : Value} {od_law_digits an_law_digits : Option Addr} {sl_law_digits : Array (Option Value)} (a_law_digits : PySem.W.nsIn K mainGlobals "_law_digits" = some (some (.ref f_law_digits)))
    (l_law_digits : K.lookup f_law_digits = some ⟨oc_law_digits, od_law_digits, .func (PySem.W.fnOf "_law_digits" "_law_digits" (defArgs s_law_digits) (defBody s_law_digits) (defScope s_law_digits) .none kV_law_digits doc_law_digits pm_law_digits an_law_digits cd_law_digits ct_law_digits), sl_law_digits⟩)
    (c_law_digits : PySem.W.codeIn K cd_law_digits "_law_digits" = true) (k_law_digits : PySem.W.keepIn K (.ref f_law_digits) = true)
    {f_law_bad : Addr} {oc_law_bad kV_law_bad doc_law_bad pm_law_bad ct_law_bad : Value} {cd_law_bad : Value} {od_law_bad an_law_bad : Option Addr} {sl_law_bad : Array (Option Value)} (a_law_bad : PySem.W.nsIn K mainGlobals "_law_bad" = some (some (.ref f_law_bad)))
    (l_law_bad : K.lookup f_law_bad = some ⟨oc_law_bad, od_law_bad, .func (PySem.W.fnOf "_law_bad" "_law_bad" (defArgs s_law_bad) (defBody s_law_bad) (defScope s_law_bad) .none kV_law_bad doc_law_bad pm_law_bad an_law_bad cd_law_bad ct_law_bad), sl_law_bad⟩)
    (c_law_bad : PySem.W.codeIn K cd_law_bad "_law_bad" = true) (k_law_bad : PySem.W.keepIn K (.ref f_law_bad) = true)
    {f_law_refused : Addr} {oc_law_refused kV_law_refused doc_law_refused pm_law_refused ct_law_refused : Value} {cd_law_refused : Value} {od_law_refused an_law_refused : Option Addr} {sl_law_refused : Array (Option Value)} (a_law_refused : PySem.W.nsIn K mainGlobals "_law_refused" = some (some (.ref f_law_refused)))
    (l_law_refused : K.lookup f_law_refused = some ⟨oc_law_refused, od_law_refused, .func (PySem.W.fnOf "_law_refused" "_law_refused" (defArgs s_law_refused) (defBody s_law_refused) (defScope s_law_refused) .none kV_law_refused doc_law_refused pm_law_refused an_law_refused cd_law_refused ct_law_refused), sl_law_refused⟩)
    (c_law_refused : PySem.W.codeIn K cd_law_refused "_law_refused" = true) (k_law_refused : PySem.W.keepIn K (.ref f_law_refused) = true)
    {f_law : Addr} {oc_law kV_law doc_law pm_law ct_law : Value} {cd_law : Value} {od_law an_law : Option Addr} {sl_law : Array (Option Value)} (a_law : PySem.W.nsIn K mainGlobals "law" = some (some (.ref f_law)))
    (l_law : K.lookup f_law = some ⟨oc_law, od_law, .func (PySem.W.fnOf "law" "law" (defArgs s_law) (defBody s_law) (defScope s_law) .none kV_law doc_law pm_law an_law cd_law ct_law), sl_law⟩)
    (c_law : PySem.W.codeIn K cd_law "law" = true) (k_law : PySem.W.keepIn K (.ref f_law) = true)
    {C_ColsError : Addr} (q_ColsError : PySem.W.nsIn K mainGlobals "ColsError" = some (some (.ref C_ColsError)))
    {C_NoName : Addr} (q_NoName : PySem.W.nsIn K mainGlobals "NoName" = some (some (.ref C_NoName)))
    {C_NoValue : Addr} (q_NoValue : PySem.W.nsIn K mainGlobals "NoValue" = some (some (.ref C_NoValue)))
    {C_NoTable : Addr} (q_NoTable : PySem.W.nsIn K mainGlobals "NoTable" = some (some (.ref C_NoTable)))
    {C_NoColumn : Addr} (q_NoColumn : PySem.W.nsIn K mainGlobals "NoColumn" = some (some (.ref C_NoColumn)))
    {C_NoPlace : Addr} (q_NoPlace : PySem.W.nsIn K mainGlobals "NoPlace" = some (some (.ref C_NoPlace)))
    {C_NoSize : Addr} (q_NoSize : PySem.W.nsIn K mainGlobals "NoSize" = some (some (.ref C_NoSize)))
    {C_NoText : Addr} (q_NoText : PySem.W.nsIn K mainGlobals "NoText" = some (some (.ref C_NoText)))
    {C_NoRow : Addr} (q_NoRow : PySem.W.nsIn K mainGlobals "NoRow" = some (some (.ref C_NoRow)))
    {C_NoBack : Addr} (q_NoBack : PySem.W.nsIn K mainGlobals "NoBack" = some (some (.ref C_NoBack)))
    {C_TooMuch : Addr} (q_TooMuch : PySem.W.nsIn K mainGlobals "TooMuch" = some (some (.ref C_TooMuch)))
    {C_Ruled : Addr} (q_Ruled : PySem.W.nsIn K mainGlobals "Ruled" = some (some (.ref C_Ruled)))
    {C_Ring : Addr} (q_Ring : PySem.W.nsIn K mainGlobals "Ring" = some (some (.ref C_Ring)))
    {C_Nobody : Addr} (q_Nobody : PySem.W.nsIn K mainGlobals "Nobody" = some (some (.ref C_Nobody)))
    {C_Several : Addr} (q_Several : PySem.W.nsIn K mainGlobals "Several" = some (some (.ref C_Several)))
    (x_NoName : PySem.W.excIn K C_NoName mroV "ValueError.__new__" = true)
    (x_NoValue : PySem.W.excIn K C_NoValue mroV "ValueError.__new__" = true) (v_NoValue : PySem.W.kitOne K (.ref C_NoValue) (.type "ValueError") = some true)
    (wa_NoValue : PySem.W.findIn K (.ref C_NoValue) "__getattribute__" = some (some (.builtin "BaseException.__getattribute__")))
    (wb_NoValue : PySem.W.findIn K (.ref C_NoValue) "__getattr__" = some none)
    (wd_NoValue : PySem.W.findIn K (.ref C_NoValue) "__class__" = some (some (.builtin "object.__class__")))
    (we_NoValue : PySem.W.mroIn K C_NoValue (.type "object") = some true)
    (wf_NoValue : PySem.W.mroIn K C_NoValue (.type "BaseException") = some true)
    {cd_NoValue : ClassData} (wc_NoValue : PySem.W.clsIn K C_NoValue = some cd_NoValue)
    (i_NoValue_ColsError : PySem.W.kitOne K (.ref C_NoValue) (.ref C_ColsError) = some true)
    (e_NoValue_ColsError : PySem.W.exmOne K (.ref C_NoValue) (.ref C_ColsError) = some true)
    (i_NoValue_NoName : PySem.W.kitOne K (.ref C_NoValue) (.ref C_NoName) = some false)
    (i_NoValue_NoValue : PySem.W.kitOne K (.ref C_NoValue) (.ref C_NoValue) = some true)
    (i_NoValue_NoTable : PySem.W.kitOne K (.ref C_NoValue) (.ref C_NoTable) = some false)
    (i_NoValue_NoColumn : PySem.W.kitOne K (.ref C_NoValue) (.ref C_NoColumn) = some false)
    (i_NoValue_NoPlace : PySem.W.kitOne K (.ref C_NoValue) (.ref C_NoPlace) = some false)
    (i_NoValue_NoSize : PySem.W.kitOne K (.ref C_NoValue) (.ref C_NoSize) = some false)
    (i_NoValue_NoText : PySem.W.kitOne K (.ref C_NoValue) (.ref C_NoText) = some false)
    (i_NoValue_NoRow : PySem.W.kitOne K (.ref C_NoValue) (.ref C_NoRow) = some false)
    (i_NoValue_NoBack : PySem.W.kitOne K (.ref C_NoValue) (.ref C_NoBack) = some false)
    (i_NoValue_TooMuch : PySem.W.kitOne K (.ref C_NoValue) (.ref C_TooMuch) = some false)
    (i_NoValue_Ruled : PySem.W.kitOne K (.ref C_NoValue) (.ref C_Ruled) = some false)
    (i_NoValue_Ring : PySem.W.kitOne K (.ref C_NoValue) (.ref C_Ring) = some false)
    (i_NoValue_Nobody : PySem.W.kitOne K (.ref C_NoValue) (.ref C_Nobody) = some false)
    (i_NoValue_Several : PySem.W.kitOne K (.ref C_NoValue) (.ref C_Several) = some false)
    (w4 : PySem.W.specialIn K (.builtin "object.__class__") "__get__" = some (some (.builtin "getset_descriptor.__get__"))) (w5 : PySem.W.takesIn K (.builtin "object.__class__") = some true) : Tops K mg where
  len := PySem.W.mg_none_of X G n_len
  isinstance := PySem.W.mg_none_of X G n_isinstance
  int := PySem.W.mg_none_of X G n_int
  bool := PySem.W.mg_none_of X G n_bool
  str := PySem.W.mg_none_of X G n_str
  all := PySem.W.mg_none_of X G n_all
  range := PySem.W.mg_none_of X G n_range
  abs := PySem.W.mg_none_of X G n_abs
  list := PySem.W.mg_none_of X G n_list
  tuple := PySem.W.mg_none_of X G n_tuple
  ValueError := PySem.W.mg_none_of X G n_ValueError
  g_LETTERS := ⟨_, PySem.W.mg_of X G i_LETTERS⟩
  g_MOST_LETTERS := ⟨_, PySem.W.mg_of X G i_MOST_LETTERS⟩
  g_FIGURES := ⟨_, PySem.W.mg_of X G i_FIGURES⟩
  g_MOST_FIGURES := ⟨_, PySem.W.mg_of X G i_MOST_FIGURES⟩
  d_is_name := top_def X G a_is_name l_is_name c_is_name k_is_name
  d_is_fault := top_def X G a_is_fault l_is_fault c_is_fault k_is_fault
  d_fault := top_def X G a_fault l_fault c_fault k_fault
  d_writes_number := top_def X G a_writes_number l_writes_number c_writes_number k_writes_number
  d_show_value := top_def X G a_show_value l_show_value c_show_value k_show_value
  d_read_value := top_def X G a_read_value l_read_value c_read_value k_read_value
  d_law_cell := top_def X G a_law_cell l_law_cell c_law_cell k_law_cell
  d_law_word := top_def X G a_law_word l_law_word c_law_word k_law_word
  d_law_value := top_def X G a_law_value l_law_value c_law_value k_law_value
  d_law_digits := top_def X G a_law_digits l_law_digits c_law_digits k_law_digits
  d_law_bad := top_def X G a_law_bad l_law_bad c_law_bad k_law_bad
  d_law_refused := top_def X G a_law_refused l_law_refused c_law_refused k_law_refused
  d_law := top_def X G a_law l_law c_law k_law
  exc := ⟨⟨C_ColsError, C_NoName, C_NoValue, C_NoTable, C_NoColumn, C_NoPlace, C_NoSize, C_NoText, C_NoRow, C_NoBack, C_TooMuch, C_Ruled, C_Ring, C_Nobody, C_Several⟩, { c_ColsError := PySem.W.mg_of X G q_ColsError, c_NoName := PySem.W.mg_of X G q_NoName, c_NoValue := PySem.W.mg_of X G q_NoValue, c_NoTable := PySem.W.mg_of X G q_NoTable, c_NoColumn := PySem.W.mg_of X G q_NoColumn, c_NoPlace := PySem.W.mg_of X G q_NoPlace, c_NoSize := PySem.W.mg_of X G q_NoSize, c_NoText := PySem.W.mg_of X G q_NoText, c_NoRow := PySem.W.mg_of X G q_NoRow, c_NoBack := PySem.W.mg_of X G q_NoBack, c_TooMuch := PySem.W.mg_of X G q_TooMuch, c_Ruled := PySem.W.mg_of X G q_Ruled, c_Ring := PySem.W.mg_of X G q_Ring, c_Nobody := PySem.W.mg_of X G q_Nobody, c_Several := PySem.W.mg_of X G q_Several, x_NoName := x_NoName, x_NoValue := x_NoValue, v_NoValue := v_NoValue, k_NoValue := ⟨wa_NoValue, wb_NoValue, ⟨_, wc_NoValue⟩, wd_NoValue, w4, w5, we_NoValue, wf_NoValue⟩, i_NoValue_ColsError := i_NoValue_ColsError, e_NoValue_ColsError := e_NoValue_ColsError, i_NoValue_NoName := i_NoValue_NoName, i_NoValue_NoValue := i_NoValue_NoValue, i_NoValue_NoTable := i_NoValue_NoTable, i_NoValue_NoColumn := i_NoValue_NoColumn, i_NoValue_NoPlace := i_NoValue_NoPlace, i_NoValue_NoSize := i_NoValue_NoSize, i_NoValue_NoText := i_NoValue_NoText, i_NoValue_NoRow := i_NoValue_NoRow, i_NoValue_NoBack := i_NoValue_NoBack, i_NoValue_TooMuch := i_NoValue_TooMuch, i_NoValue_Ruled := i_NoValue_Ruled, i_NoValue_Ring := i_NoValue_Ring, i_NoValue_Nobody := i_NoValue_Nobody, i_NoValue_Several := i_NoValue_Several }⟩
theorem walk {l : PySem.W.OpenLaw} {q : Program} {loose : List Str} {XP : (Str → Option Value) → Heap → Prop} {YP : World → Heap → Prop} {d : DefRec} {K : Params → PySem.W.Frag} (hn : l.most = some 63) (hdf : d.params.defaults = []) (hdn : d.name = "law")
    (hY : ∀ (w : World) (h : Heap), YP w h → (K w.params).In h)
    (F : ∀ (w : World) (mg : Str → Option Value) (h : Heap), (K w.params).In h → h.Ns mainGlobals mg → Tops (K w.params) mg) :
    PySem.W.WalkO q loose XP YP l.row.toRowW d [] (fun f vs => PySem.call f vs) :=
  L2.walk_of (n := 63) (k := 10) (x := "_law_script") (CX := fun _ => CX0) (sp := fun w => spLaw (K w.params)) hn (by decide) hdf ⟨rfl, by decide, by decide⟩ hY
    (fun w mg fa h KX G hmg => by
      have T := F w mg h KX G
      obtain ⟨f, fd, F4, hm⟩ := T.d_law.ex
      rw [hdn] at hmg
      have e := hmg.symm.trans hm
      cases e
      refine ⟨fd, fun s u => ?_, fun base kb nb => ?_⟩
      · obtain ⟨oc, od, kV, doc, pm, an, cdv, ct, osl, rfl, _⟩ := F4.ex
        exact .of_eq rfl
      · exact ok_law T F4)
    (fun _ _ a ns hl _ hS => ⟨a, ns, rfl, hS, hl, fun _ => rfl⟩) fun _ _ _ _ _ z => z
end My
def PySem.W.Fast.tw13802644428642274562 : Unit := ()
def PySem.W.Fast.tw17760558900699705594 : Unit := ()
def PySem.W.Fast.tw17912717010171674863 : Unit := ()
def PySem.W.Fast.tw15840003020656479640 : Unit := ()
def PySem.W.Fast.tw7613335889862503498 : Unit := ()
def PySem.W.Fast.tw4344540837858746737 : Unit := ()
def PySem.W.Fast.tw17606803246756967618 : Unit := ()
def PySem.W.Fast.tw6594761650730220259 : Unit := ()
def PySem.W.Fast.tw12143434712218575765 : Unit := ()
def PySem.W.Fast.tw14307309645427084818 : Unit := ()
def PySem.W.Fast.tw1708020136979499689 : Unit := ()
def PySem.W.Fast.tw8227587864755556810 : Unit := ()
def PySem.W.Fast.tw16664251257672854047 : Unit := ()
def PySem.W.Fast.tw582895896977356536 : Unit := ()
def PySem.W.Fast.tw16306958260819830430 : Unit := ()
def PySem.W.Fast.tw8719824027852627602 : Unit := ()
def PySem.W.Fast.tw8212310657063746756 : Unit := ()
def PySem.W.Fast.tw18155914406146096575 : Unit := ()
def PySem.W.Fast.tw6196671305211118959 : Unit := ()
def PySem.W.Fast.tw18053446671195263610 : Unit := ()
def PySem.W.Fast.tw1029741552504860219 : Unit := ()
def PySem.W.Fast.tw14200512255759534136 : Unit := ()
def PySem.W.Fast.tw13236435693579324956 : Unit := ()
def PySem.W.Fast.tw15907021819075550236 : Unit := ()
def PySem.W.Fast.tw2753802924019814278 : Unit := ()
def PySem.W.Fast.tw11779255297449666295 : Unit := ()
def PySem.W.Fast.tw5978551829347954893 : Unit := ()
def PySem.W.Fast.tw3527564334281705748 : Unit := ()
def PySem.W.Fast.tw4554186093897767977 : Unit := ()
def PySem.W.Fast.tw1393688173494003095 : Unit := ()
def PySem.W.Fast.tw4562802747009622386 : Unit := ()
def PySem.W.Fast.tw218573481993638280 : Unit := ()
def PySem.W.Fast.tw12361205761892990841 : Unit := ()
def PySem.W.Fast.tw8291553537575873946 : Unit := ()
def PySem.W.Fast.tw860925476201821177 : Unit := ()
def PySem.W.Fast.tw3144143743464489620 : Unit := ()
def PySem.W.Fast.tw10146630735269290425 : Unit := ()
def PySem.W.Fast.tw6213839656713460596 : Unit := ()
def PySem.W.Fast.tw12792381459107119604 : Unit := ()
def PySem.W.Fast.tw3284512886281001123 : Unit := ()
def PySem.W.Fast.tw18198405839982476579 : Unit := ()
def PySem.W.Fast.tw16934147993518188960 : Unit := ()
def PySem.W.Fast.tw15143860734133817178 : Unit := ()
def PySem.W.Fast.tw12111745727643372180 : Unit := ()
def PySem.W.Fast.tw1290356044615373487 : Unit := ()
def PySem.W.Fast.tw11012265081550358244 : Unit := ()
def PySem.W.Fast.tw4117000776547147137 : Unit := ()
def PySem.W.Fast.tw8053521987044979823 : Unit := ()
def PySem.W.Fast.tw9776593047621077363 : Unit := ()
def PySem.W.Fast.tw16003693762745684946 : Unit := ()
def PySem.W.Fast.tw5677775972833281562 : Unit := ()
def PySem.W.Fast.tw8995421256920893319 : Unit := ()
def PySem.W.Fast.tw2118009520394533225 : Unit := ()
def PySem.W.Fast.tw2689579019783240762 : Unit := ()
def PySem.W.Fast.tw14488153864798841738 : Unit := ()
def PySem.W.Fast.tw4308386844417001902 : Unit := ()
def PySem.W.Fast.tw14056269292877101099 : Unit := ()
def PySem.W.Fast.tw5121180297820283840 : Unit := ()
def PySem.W.Fast.tw1791703710853310951 : Unit := ()
def PySem.W.Fast.tw16776902742916738125 : Unit := ()
def PySem.W.Fast.tw9802558118768416951 : Unit := ()
def PySem.W.Fast.tw8063609778403745926 : Unit := ()
def PySem.W.Fast.tw3582009297891204248 : Unit := ()
def PySem.W.Fast.tw17910085494974011161 : Unit := ()
def PySem.W.Fast.tw17895916985837814164 : Unit := ()
def PySem.W.Fast.tw14108520705234477448 : Unit := ()
def PySem.W.Fast.tw12865362818886440787 : Unit := ()
def PySem.W.Fast.tw14604944260096467938 : Unit := ()
def PySem.W.Fast.tw12915265931040297763 : Unit := ()
def PySem.W.Fast.tw15629362349849204546 : Unit := ()
def PySem.W.Fast.tw5896711238039769313 : Unit := ()
def PySem.W.Fast.tw312144955262060104 : Unit := ()
def PySem.W.Fast.tw4007410529312535413 : Unit := ()
def PySem.W.Fast.tw9149206723132942427 : Unit := ()
def PySem.W.Fast.tw3998754036873577096 : Unit := ()
def PySem.W.Fast.tw17898390006053437876 : Unit := ()
def PySem.W.Fast.tw18437939616230036943 : Unit := ()
def PySem.W.Fast.tw10130070874096287182 : Unit := ()
def PySem.W.Fast.tw5082032216612361813 : Unit := ()
def PySem.W.Fast.tw5125070390896144443 : Unit := ()
def PySem.W.Fast.tw4045865365153168175 : Unit := ()
def PySem.W.Fast.tw12918113636013392710 : Unit := ()
def PySem.W.Fast.tw11735235088486479988 : Unit := ()
def PySem.W.Fast.tw17105109280044516285 : Unit := ()
def PySem.W.Fast.tw17638764208059224048 : Unit := ()
def PySem.W.Fast.tw13326468020402193060 : Unit := ()
def PySem.W.Fast.tw9700569957582596676 : Unit := ()
def PySem.W.Fast.tw318593221230683310 : Unit := ()
def PySem.W.Fast.tw16633121799752662897 : Unit := ()
def PySem.W.Fast.tw13859807931312382380 : Unit := ()
def PySem.W.Fast.tw16396927781002921369 : Unit := ()
def PySem.W.Fast.tw8192827024053849243 : Unit := ()
def PySem.W.Fast.tw10103860663468349702 : Unit := ()
def PySem.W.Fast.tw15281169043336396820 : Unit := ()
def PySem.W.Fast.tw2172205876345143775 : Unit := ()
def PySem.W.Fast.tw12491020756438385660 : Unit := ()
def PySem.W.Fast.tw6130640962998682621 : Unit := ()
def PySem.W.Fast.tw527249229591155399 : Unit := ()
def PySem.W.Fast.tw2370403952730169151 : Unit := ()
def PySem.W.Fast.tw9920718193897529390 : Unit := ()
def PySem.W.Fast.tw55345786053950666 : Unit := ()
def PySem.W.Fast.tw5461844280105995673 : Unit := ()
def PySem.W.Fast.tw1852676560267040307 : Unit := ()
def PySem.W.Fast.tw14570870955192999229 : Unit := ()
def PySem.W.Fast.tw18401142155433781620 : Unit := ()
def PySem.W.Fast.tw10220260616492879029 : Unit := ()
def PySem.W.Fast.tw6423957984790133283 : Unit := ()
def PySem.W.Fast.tw7844284881905360803 : Unit := ()
def PySem.W.Fast.tw5277420447537536408 : Unit := ()
def PySem.W.Fast.tw17865922386187226639 : Unit := ()
def PySem.W.Fast.tw3865842148523084566 : Unit := ()
def PySem.W.Fast.tw11426704536773234900 : Unit := ()
def PySem.W.Fast.tw8443645938152012136 : Unit := ()
def PySem.W.Fast.tw7511945085326615929 : Unit := ()
def PySem.W.Fast.tw14825551722588386276 : Unit := ()
def PySem.W.Fast.tw6517724942452509492 : Unit := ()
def PySem.W.Fast.tw4846976308885510094 : Unit := ()
def PySem.W.Fast.tw11236723064679849782 : Unit := ()
def PySem.W.Fast.tw6741287887362837184 : Unit := ()
def PySem.W.Fast.tw17609835843519207834 : Unit := ()
def PySem.W.Fast.tw2529964677585617304 : Unit := ()
def PySem.W.Fast.tw9845653375518334290 : Unit := ()
def PySem.W.Fast.tw1550599700625128500 : Unit := ()
def PySem.W.Fast.tw7981040965000471893 : Unit := ()
def PySem.W.Fast.tw1401052402690087667 : Unit := ()
def PySem.W.Fast.tw15177432735838610320 : Unit := ()
def PySem.W.Fast.tw13292315284153192261 : Unit := ()
def PySem.W.Fast.tw12039830652489582314 : Unit := ()
def PySem.W.Fast.tw699699205312714140 : Unit := ()
def PySem.W.Fast.tw14142816171429471584 : Unit := ()
def PySem.W.Fast.tw5920221758336079429 : Unit := ()
def PySem.W.Fast.tw14706044034668198770 : Unit := ()
def PySem.W.Fast.tw12571765002018327510 : Unit := ()
def PySem.W.Fast.tw12207408365808741119 : Unit := ()
def PySem.W.Fast.tw15706220185858762499 : Unit := ()
def PySem.W.Fast.tw18025290935676184204 : Unit := ()
def PySem.W.Fast.tw9801024819743315001 : Unit := ()
def PySem.W.Fast.tw3012926244828079666 : Unit := ()
def PySem.W.Fast.tw3054704799633088008 : Unit := ()
def PySem.W.Fast.tw846829931363085134 : Unit := ()
def PySem.W.Fast.tw15554640253842761510 : Unit := ()
def PySem.W.Fast.tw13004774149493953560 : Unit := ()
def PySem.W.Fast.tw11719846838674557605 : Unit := ()
def PySem.W.Fast.tw13510464987288537097 : Unit := ()
def PySem.W.Fast.tw7164414595373968691 : Unit := ()
def PySem.W.Fast.tw9378394442831639977 : Unit := ()
def PySem.W.Fast.tw1021362578462704969 : Unit := ()
def PySem.W.Fast.tw2312617001850218208 : Unit := ()
def PySem.W.Fast.tw8518203185634090995 : Unit := ()
def PySem.W.Fast.tw3196188450212401931 : Unit := ()
def PySem.W.Fast.tw16543559435514291226 : Unit := ()
def PySem.W.Fast.tw6858431627893039133 : Unit := ()
def PySem.W.Fast.tw167492602623882181 : Unit := ()
def PySem.W.Fast.tw7134058338793525055 : Unit := ()
def PySem.W.Fast.tw7319608452944441284 : Unit := ()
def PySem.W.Fast.tw7800830358455243213 : Unit := ()
def PySem.W.Fast.tw8723007543659133824 : Unit := ()
def PySem.W.Fast.tw10510374170314595787 : Unit := ()
def PySem.W.Fast.tw7169819361341119305 : Unit := ()
def PySem.W.Fast.tw15770143253857163212 : Unit := ()
def PySem.W.Fast.tw11313808652141255580 : Unit := ()
def PySem.W.Fast.tw7698414491583192339 : Unit := ()
def PySem.W.Fast.tw6583290806596304780 : Unit := ()
def PySem.W.Fast.tw14498234547563530749 : Unit := ()
def PySem.W.Fast.tw2192797246731897135 : Unit := ()
def PySem.W.Fast.tw2381948690653637923 : Unit := ()
def PySem.W.Fast.tw15305806364258028091 : Unit := ()
def PySem.W.Fast.tw12609178055668890568 : Unit := ()
def PySem.W.Fast.tw8795485748762447580 : Unit := ()
def PySem.W.Fast.tw7558882639614259309 : Unit := ()
def PySem.W.Fast.tw7214106692515113323 : Unit := ()
def PySem.W.Fast.tw9161300974614667809 : Unit := ()
def PySem.W.Fast.tw15205063551835318024 : Unit := ()
def PySem.W.Fast.tw2878484132934323634 : Unit := ()
def PySem.W.Fast.tw18179101546097036645 : Unit := ()
def PySem.W.Fast.tw15868238330351752338 : Unit := ()
def PySem.W.Fast.tw4639862977896308383 : Unit := ()
def PySem.W.Fast.tw900764091340437902 : Unit := ()
def PySem.W.Fast.tw7320116102669676749 : Unit := ()
def PySem.W.Fast.tw17730364685907392695 : Unit := ()
def PySem.W.Fast.tw11151380192567749275 : Unit := ()
def PySem.W.Fast.tw7952101682717754687 : Unit := ()
def PySem.W.Fast.tw2646361304322206638 : Unit := ()
def PySem.W.Fast.tw6653075435584404730 : Unit := ()
def PySem.W.Fast.tw12800240010239689525 : Unit := ()
def PySem.W.Fast.tw3401071236714930559 : Unit := ()
def PySem.W.Fast.tw16169043853063786705 : Unit := ()
def PySem.W.Fast.tw17425164296675956395 : Unit := ()
def PySem.W.Fast.tw1951369083020304889 : Unit := ()
def PySem.W.Fast.tw13510283489783699773 : Unit := ()
def PySem.W.Fast.tw17184514532748252859 : Unit := ()
def PySem.W.Fast.tw9098155686625796526 : Unit := ()
def PySem.W.Fast.tw14233273311154374634 : Unit := ()
def PySem.W.Fast.tw2139537210961554978 : Unit := ()
def PySem.W.Fast.tw10901081266045027198 : Unit := ()
def PySem.W.Fast.tw7919035051111251374 : Unit := ()
def PySem.W.Fast.tw15276355060958530036 : Unit := ()
def PySem.W.Fast.tw11297787418177488299 : Unit := ()
def PySem.W.Fast.tw8440778680731533532 : Unit := ()
def PySem.W.Fast.tw8975048888601421212 : Unit := ()
def PySem.W.Fast.tw16743595254984718884 : Unit := ()
def PySem.W.Fast.tw8045707576312934288 : Unit := ()
def PySem.W.Fast.tw13737727795413473401 : Unit := ()
def PySem.W.Fast.tw6568956440441359539 : Unit := ()
def PySem.W.Fast.tw8538919639204514626 : Unit := ()
def PySem.W.Fast.tw9208736821766383887 : Unit := ()
def PySem.W.Fast.tw10729938363019817809 : Unit := ()
def PySem.W.Fast.tw5000214666149255571 : Unit := ()
def PySem.W.Fast.tw7334460513114560932 : Unit := ()
def PySem.W.Fast.tw13232057089356743641 : Unit := ()
def PySem.W.Fast.tw7080606568982330028 : Unit := ()
def PySem.W.Fast.tw16808885552957625900 : Unit := ()
def PySem.W.Fast.tw16662524455308645890 : Unit := ()
def PySem.W.Fast.tw12450107158014084782 : Unit := ()
def PySem.W.Fast.tw15607749140869986060 : Unit := ()
def PySem.W.Fast.tw7477899342576328188 : Unit := ()
def PySem.W.Fast.tw4827670706187950008 : Unit := ()
def PySem.W.Fast.tw14020972172700712576 : Unit := ()
def PySem.W.Fast.tw15181810367727935485 : Unit := ()
def PySem.W.Fast.tw12003831578299015794 : Unit := ()
def PySem.W.Fast.tw5158915667207865332 : Unit := ()
def PySem.W.Fast.tw15146135453971297363 : Unit := ()
def PySem.W.Fast.tw2557087233934906555 : Unit := ()
def PySem.W.Fast.tw11258306786724550908 : Unit := ()
def PySem.W.Fast.tw5461999348108175920 : Unit := ()
def PySem.W.Fast.tw13005163389786231738 : Unit := ()
def PySem.W.Fast.tw11919684765056041426 : Unit := ()
def PySem.W.Fast.tw9627873728668259770 : Unit := ()
def PySem.W.Fast.tw13491022358948539130 : Unit := ()
def PySem.W.Fast.tw18174064955125269646 : Unit := ()
def PySem.W.Fast.tw13114515359616139130 : Unit := ()
def PySem.W.Fast.tw11190612753343625599 : Unit := ()
def PySem.W.Fast.tw6883964963588802400 : Unit := ()
def PySem.W.Fast.tw5730398543683014539 : Unit := ()
def PySem.W.Fast.tw15501788867463453317 : Unit := ()
def PySem.W.Fast.tw7880213144476184188 : Unit := ()
def PySem.W.Fast.tw2735611732827798146 : Unit := ()
def PySem.W.Fast.tw8930600363694181940 : Unit := ()
def PySem.W.Fast.tw6895254174540762311 : Unit := ()
def PySem.W.Fast.tw10832340453046742964 : Unit := ()
def PySem.W.Fast.tw9528072987440620293 : Unit := ()
def PySem.W.Fast.tw1015997407406887731 : Unit := ()
def PySem.W.Fast.tw3866491970188628575 : Unit := ()
def PySem.W.Fast.tw7576117560522962817 : Unit := ()
def PySem.W.Fast.tw2432453224597319577 : Unit := ()
def PySem.W.Fast.tw7139947827597137704 : Unit := ()
def PySem.W.Fast.tw12138860640201807583 : Unit := ()
def PySem.W.Fast.tw5874337443137140325 : Unit := ()
def PySem.W.Fast.tw10419806136238951959 : Unit := ()
def PySem.W.Fast.tw10355094656023205007 : Unit := ()
def PySem.W.Fast.tw14487393444762632912 : Unit := ()
def PySem.W.Fast.tw17230609623132101162 : Unit := ()
def PySem.W.Fast.tw9453656287553986011 : Unit := ()
def PySem.W.Fast.tw9668315652352605805 : Unit := ()
def PySem.W.Fast.tw16915818666043802398 : Unit := ()
def PySem.W.Fast.tw9773370222218096779 : Unit := ()
def PySem.W.Fast.tw11961199523091234107 : Unit := ()
def PySem.W.Fast.tw5779995654893976711 : Unit := ()
def PySem.W.Fast.tw14506557344390313208 : Unit := ()
def PySem.W.Fast.tw9627854397446323876 : Unit := ()
def PySem.W.Fast.tw3034727522521805081 : Unit := ()
def PySem.W.Fast.tw8267875540202835427 : Unit := ()
def PySem.W.Fast.tw17709055073102300335 : Unit := ()
def PySem.W.Fast.tw8934281745056656926 : Unit := ()
def PySem.W.Fast.tw5705003495921773186 : Unit := ()
def PySem.W.Fast.tw11983077985674670714 : Unit := ()
def PySem.W.Fast.tw12071736616681100072 : Unit := ()
def PySem.W.Fast.tw7189024875715468782 : Unit := ()
def PySem.W.Fast.tw7855788467433666400 : Unit := ()
def PySem.W.Fast.tw10885692426105293921 : Unit := ()
def PySem.W.Fast.tw12027249201215745260 : Unit := ()
def PySem.W.Fast.tw16628272318326049607 : Unit := ()
def PySem.W.Fast.tw7931691211847515286 : Unit := ()
def PySem.W.Fast.tw14685569449841995253 : Unit := ()
def PySem.W.Fast.tw10072708814443322730 : Unit := ()
def PySem.W.Fast.tw13977191770695288223 : Unit := ()
def PySem.W.Fast.tw6737874938714738487 : Unit := ()
def PySem.W.Fast.tw14698269340406001520 : Unit := ()
def PySem.W.Fast.tw16478849213575296705 : Unit := ()
def PySem.W.Fast.tw2384737276451504175 : Unit := ()
def PySem.W.Fast.tw16385389746493209268 : Unit := ()
def PySem.W.Fast.tw12694817714033915077 : Unit := ()
def PySem.W.Fast.tw4730577874350425793 : Unit := ()
def PySem.W.Fast.tw2008463181469339578 : Unit := ()
def PySem.W.Fast.tw17666574913977791674 : Unit := ()
def PySem.W.Fast.tw16970503667762377619 : Unit := ()
def PySem.W.Fast.tw12534979632165639314 : Unit := ()
def PySem.W.Fast.tw10683544686682130300 : Unit := ()
def PySem.W.Fast.tw3464752147589206103 : Unit := ()
def PySem.W.Fast.tw1787341281784850714 : Unit := ()
def PySem.W.Fast.tw10146046901771993064 : Unit := ()
def PySem.W.Fast.tw18065182745877291803 : Unit := ()
def PySem.W.Fast.tw3851825754993407920 : Unit := ()
def PySem.W.Fast.tw814939996707290666 : Unit := ()
def PySem.W.Fast.tw7322949734133505589 : Unit := ()
def PySem.W.Fast.tw505475669448356468 : Unit := ()
def PySem.W.Fast.tw13037883333528333027 : Unit := ()
def PySem.W.Fast.tw6694912390457249441 : Unit := ()
def PySem.W.Fast.tw2453449537544382523 : Unit := ()
def PySem.W.Fast.tw6691810614259329222 : Unit := ()
def PySem.W.Fast.tw16893184241503696938 : Unit := ()
def PySem.W.Fast.tw1090782705729035651 : Unit := ()
def PySem.W.Fast.tw4011556156538337005 : Unit := ()
def PySem.W.Fast.tw9366277152572831038 : Unit := ()
def PySem.W.Fast.tw4734705340525921465 : Unit := ()
def PySem.W.Fast.tw5893716387261281131 : Unit := ()
def PySem.W.Fast.tw2624428725424340612 : Unit := ()
def PySem.W.Fast.tw921713615466119937 : Unit := ()
def PySem.W.Fast.tw3711337028718505259 : Unit := ()
def PySem.W.Fast.tw15794212835095943790 : Unit := ()
def PySem.W.Fast.tw145131015736003506 : Unit := ()
def PySem.W.Fast.tw10998875565321920300 : Unit := ()
def PySem.W.Fast.tw22980899878692241 : Unit := ()
def PySem.W.Fast.tw9264747470963155041 : Unit := ()
def PySem.W.Fast.tw3122406549119434338 : Unit := ()
def PySem.W.Fast.tw12623208981698434590 : Unit := ()
def PySem.W.Fast.tw5080247839428699363 : Unit := ()
def PySem.W.Fast.tw17692702801317878019 : Unit := ()
def PySem.W.Fast.tw11854728414615988355 : Unit := ()
open PySem PySem.W PyProof.Rows
set_option maxRecDepth 100000 in
set_option maxHeartbeats 0 in
theorem PySem.Challenge.cw_lazycols_k51_values_written_holds : PySem.Challenge.rw_lazycols_k51_values_written.Holds := by
  w_on; o_law; k_head; (case hw => w_witness2)
  k_fill
  refine My.walk (l := PySem.Challenge.rw_lazycols_k51_values_written) rfl rfl rfl (fun w h Y => PySem.W.kIn_of Y) ?F
  case F =>
    intro w mg h KX G
    refine' My.tops_mk KX G ?n_len ?n_isinstance ?n_int ?n_bool ?n_str ?n_all ?n_range ?n_abs ?n_list ?n_tuple ?n_ValueError ?i_LETTERS ?i_MOST_LETTERS ?i_FIGURES ?i_MOST_FIGURES ?a_is_name ?l_is_name ?c_is_name ?k_is_name ?a_is_fault ?l_is_fault ?c_is_fault ?k_is_fault ?a_fault ?l_fault ?c_fault ?k_fault ?a_writes_number ?l_writes_number ?c_writes_number ?k_writes_number ?a_show_value ?l_show_value ?c_show_value ?k_show_value ?a_read_value ?l_read_value ?c_read_value ?k_read_value ?a_law_cell ?l_law_cell ?c_law_cell ?k_law_cell ?a_law_word ?l_law_word ?c_law_word ?k_law_word ?a_law_value ?l_law_value ?c_law_value ?k_law_value ?a_law_digits ?l_law_digits ?c_law_digits ?k_law_digits ?a_law_bad ?l_law_bad ?c_law_bad ?k_law_bad ?a_law_refused ?l_law_refused ?c_law_refused ?k_law_refused ?a_law ?l_law ?c_law ?k_law ?q_ColsError ?q_NoName ?q_NoValue ?q_NoTable ?q_NoColumn ?q_NoPlace ?q_NoSize ?q_NoText ?q_NoRow ?q_NoBack ?q_TooMuch ?q_Ruled ?q_Ring ?q_Nobody ?q_Several ?x_NoName ?x_NoValue ?v_NoValue ?wa_NoValue ?wb_NoValue ?wd_NoValue ?we_NoValue ?wf_NoValue ?wc_NoValue ?i_NoValue_ColsError ?e_NoValue_ColsError ?i_NoValue_NoName ?i_NoValue_NoValue ?i_NoValue_NoTable ?i_NoValue_NoColumn ?i_NoValue_NoPlace ?i_NoValue_NoSize ?i_NoValue_NoText ?i_NoValue_NoRow ?i_NoValue_NoBack ?i_NoValue_TooMuch ?i_NoValue_Ruled ?i_NoValue_Ring ?i_NoValue_Nobody ?i_NoValue_Several ?w4 ?w5
    (case n_len => k_is)
    (case n_isinstance => k_is)
    (case n_int => k_is)
    (case n_bool => k_is)
    (case n_str => k_is)
    (case n_all => k_is)
    (case n_range => k_is)
    (case n_abs => k_is)
    (case n_list => k_is)
    (case n_tuple => k_is)
    (case n_ValueError => k_is)
    (case i_LETTERS => k_is)
    (case i_MOST_LETTERS => k_is)
    (case i_FIGURES => k_is)
    (case i_MOST_FIGURES => k_is)
    (case a_is_name => k_is)
    (case l_is_name => k_is)
    (case c_is_name => k_is)
    (case k_is_name => k_is)
    (case a_is_fault => k_is)
    (case l_is_fault => k_is)
    (case c_is_fault => k_is)
    (case k_is_fault => k_is)
    (case a_fault => k_is)
    (case l_fault => k_is)
    (case c_fault => k_is)
    (case k_fault => k_is)
    (case a_writes_number => k_is)
    (case l_writes_number => k_is)
    (case c_writes_number => k_is)
    (case k_writes_number => k_is)
    (case a_show_value => k_is)
    (case l_show_value => k_is)
    (case c_show_value => k_is)
    (case k_show_value => k_is)
    (case a_read_value => k_is)
    (case l_read_value => k_is)
    (case c_read_value => k_is)
    (case k_read_value => k_is)
    (case a_law_cell => k_is)
    (case l_law_cell => k_is)
    (case c_law_cell => k_is)
    (case k_law_cell => k_is)
    (case a_law_word => k_is)
    (case l_law_word => k_is)
    (case c_law_word => k_is)
    (case k_law_word => k_is)
    (case a_law_value => k_is)
    (case l_law_value => k_is)
    (case c_law_value => k_is)
    (case k_law_value => k_is)
    (case a_law_digits => k_is)
    (case l_law_digits => k_is)
    (case c_law_digits => k_is)
    (case k_law_digits => k_is)
    (case a_law_bad => k_is)
    (case l_law_bad => k_is)
    (case c_law_bad => k_is)
    (case k_law_bad => k_is)
    (case a_law_refused => k_is)
    (case l_law_refused => k_is)
    (case c_law_refused => k_is)
    (case k_law_refused => k_is)
    (case a_law => k_is)
    (case l_law => k_is)
    (case c_law => k_is)
    (case k_law => k_is)
    (case q_ColsError => k_is)
    (case q_NoName => k_is)
    (case q_NoValue => k_is)
    (case q_NoTable => k_is)
    (case q_NoColumn => k_is)
    (case q_NoPlace => k_is)
    (case q_NoSize => k_is)
    (case q_NoText => k_is)
    (case q_NoRow => k_is)
    (case q_NoBack => k_is)
    (case q_TooMuch => k_is)
    (case q_Ruled => k_is)
    (case q_Ring => k_is)
    (case q_Nobody => k_is)
    (case q_Several => k_is)
    (case x_NoName => k_exc)
    (case x_NoValue => k_exc)
    (case v_NoValue => kit_is)
    (case wa_NoValue => k_is)
    (case wb_NoValue => k_is)
    (case wd_NoValue => k_is)
    (case we_NoValue => k_is)
    (case wf_NoValue => k_is)
    (case wc_NoValue => k_is)
    (case i_NoValue_ColsError => kit_is)
    (case e_NoValue_ColsError => kts_exm)
    (case i_NoValue_NoName => kit_is)
    (case i_NoValue_NoValue => kit_is)
    (case i_NoValue_NoTable => kit_is)
    (case i_NoValue_NoColumn => kit_is)
    (case i_NoValue_NoPlace => kit_is)
    (case i_NoValue_NoSize => kit_is)
    (case i_NoValue_NoText => kit_is)
    (case i_NoValue_NoRow => kit_is)
    (case i_NoValue_NoBack => kit_is)
    (case i_NoValue_TooMuch => kit_is)
    (case i_NoValue_Ruled => kit_is)
    (case i_NoValue_Ring => kit_is)
    (case i_NoValue_Nobody => kit_is)
    (case i_NoValue_Several => kit_is)
    (case w4 => k_is)
    (case w5 => k_is)
