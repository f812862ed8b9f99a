import PyProof.Rows.All
import Wide.All
import OpenK.AllK
import Wide.FinOn
import PyProof.EqAt
import PyProof.EqKinds
import PyProof.TupleCall
import Lean
import PySem.Challenge.RW_lazycols_k57_whole_rules_of_texts
set_option Elab.async false
set_option linter.all false
set_option maxRecDepth 100000
set_option maxHeartbeats 4000000
set_option genSizeOfSpec false
namespace L2
open PySem PySem.Spec PyProof.Rows
abbrev Key := Sum Int Str
def c3b : Key -> Value -> Bool
 | .inl k, v => Value.isInt k v
 | .inr x, v => Value.isStrOf x v
def keyH (w : World) : Key -> Int
 | .inl k => hashInt k
 | .inr x => hashStr w x
theorem a1u : ∀ {k : Key} {v : Value}, c3b k v = true -> (∃ i t, k = Sum.inl i /\ v = Value.int i t) ∨ (∃ x t, k = Sum.inr x /\ v = Value.str x t)
 | .inl i, v, h => by
  obtain ⟨t, e⟩ := Value.isInt_shape (k := i) (v := v) h
  exact .inl ⟨i, t, rfl, e⟩
 | .inr x, v, h => by
  obtain ⟨t, e⟩ := Value.isStrOf_shape (x := x) (v := v) h
  exact .inr ⟨x, t, rfl, e⟩
theorem c36 (i : Int) (t : Tok) : c3b (.inl i) (.int i t) = true := by simp [c3b, Value.isInt]
theorem c3Y (x : Str) (t : Tok) : c3b (.inr x) (.str x t) = true := by simp [c3b, Value.isStrOf]
theorem c9n (a b : Int) : decide ((Sum.inl a : Key) = Sum.inl b) = (a == b) := by
 by_cases e : a = b
 ·subst e; simp
 ·have h : ¬ (Sum.inl a : Key) = Sum.inl b := fun q => e (Sum.inl.inj q)
  rw [decide_eq_false h]
  exact (beq_eq_false_iff_ne.mpr e).symm
theorem c8t (a b : Str) : decide ((Sum.inr a : Key) = Sum.inr b) = decide (a = b) := by
 by_cases e : a = b
 ·subst e; simp
 ·have h : ¬ (Sum.inr a : Key) = Sum.inr b := fun q => e (Sum.inr.inj q)
  rw [decide_eq_false h, decide_eq_false e]
theorem c9M (a : Int) (b : Str) : decide ((Sum.inl a : Key) = Sum.inr b) = false := decide_eq_false (fun q => nomatch q)
theorem c9r (a : Str) (b : Int) : decide ((Sum.inr a : Key) = Sum.inl b) = false := decide_eq_false (fun q => nomatch q)
def a0T (prog : Program) (w : World) : PySem.KeyKind prog w Key where
 is := c3b
 hash := keyH w
 inj := fun v a b ha hb => by
  rcases a1u ha with ⟨i, t, rfl, rfl⟩ | ⟨x, t, rfl, rfl⟩
  ·rcases a1u hb with ⟨j, u, rfl, e⟩ | ⟨y, u, rfl, e⟩
   ·injection e with e1 _; rw [e1]
   ·exact nomatch e
  ·rcases a1u hb with ⟨j, u, rfl, e⟩ | ⟨y, u, rfl, e⟩
   ·exact nomatch e
   ·injection e with e1 _; rw [e1]
 byValue := fun k v h => by
  rcases a1u h with ⟨i, t, rfl, rfl⟩ | ⟨x, t, rfl, rfl⟩ <;> rfl
 pyHash := fun hv h => by
  rcases a1u hv with ⟨i, t, rfl, rfl⟩ | ⟨x, t, rfl, rfl⟩
  ·exact wpAny_pyHash_int h
  ·exact wpAny_pyHash_str h
 eqBool := fun hu hv h => by
  rcases a1u hu with ⟨i, t, rfl, rfl⟩ | ⟨x, t, rfl, rfl⟩
  ·rcases a1u hv with ⟨j, u, rfl, rfl⟩ | ⟨y, u, rfl, rfl⟩
   ·rw [c9n] at h; exact wpAny_eqBool_int h
   ·rw [c9M] at h; exact SeqAt.EqAt.int_str i t y u _ _ _ _ h
  ·rcases a1u hv with ⟨j, u, rfl, rfl⟩ | ⟨y, u, rfl, rfl⟩
   ·rw [c9r] at h; exact SeqAt.EqAt.str_int x t j u _ _ _ _ h
   ·rw [c8t] at h; exact wpAny_eqBool_str h
 «strs» := fun k x t v h => by
  rcases a1u h with ⟨i, u, rfl, e⟩ | ⟨y, u, rfl, e⟩
  ·exact nomatch e
  ·injection e with e1 _
   subst e1
   cases v <;> rfl
theorem b9g (prog : Program) (w : World) (i : Int) (t : Tok) : (a0T prog w).is (.inl i) (.int i t) = true := c36 i t
theorem c0X (prog : Program) (w : World) (x : Str) (t : Tok) : (a0T prog w).is (.inr x) (.str x t) = true := c3Y x t
end L2
namespace L2
open PySem PySem.Spec PyProof.Rows
inductive V where
 | non | bl (b : Bool) | int (i : Int) | str (x : Str) | byt (b : Array UInt8) | flt (b : UInt64) | ref (a : Addr) | ty (n : String)
 deriving DecidableEq
def RelV : V -> Value -> Prop
 | .non, u => u = Value.none
 | .bl b, u => u = Value.bool b
 | .int i, u => ∃ t, u = Value.int i t
 | .str x, u => ∃ t, u = Value.str x t
 | .byt b, u => ∃ t, u = Value.bytes b t
 | .flt b, u => ∃ t, u = Value.float b t
 | .ref a, u => u = Value.ref a
 | .ty n, u => u = Value.type n
abbrev Vals : List V -> List Value -> Prop := Paired RelV
theorem Vals.length {xs : List V} {us : List Value} (r : Vals xs us) : xs.length = us.length := Paired.length r
theorem Vals.get : ∀ {xs : List V} {us : List Value} {i : Nat} {x : V}, Vals xs us -> xs[i]? = some x -> ∃ u, us[i]? = some u /\ RelV x u
 | _, _, _, _, .nil, e => by simp at e
 | _, _, 0, _, .cons r _, e => by simp at e; subst e; exact ⟨_, rfl, r⟩
 | _, _, i + 1, x, .cons _ t, e => by
  obtain ⟨u, h1, h2⟩ := Vals.get (i := i) (x := x) t (by simpa using e)
  exact ⟨u, by simpa using h1, h2⟩
theorem Vals.append : ∀ {xs ys : List V} {us ws : List Value}, Vals xs us -> Vals ys ws -> Vals (xs ++ ys) (us ++ ws)
 | _, _, _, _, .nil, s => s
 | _, _, _, _, .cons r t, s => .cons r (Vals.append t s)
theorem Vals.take : ∀ {xs : List V} {us : List Value} (n : Nat), Vals xs us -> Vals (xs.take n) (us.take n)
 | _, _, 0, _ => .nil
 | _, _, _ + 1, .nil => .nil
 | _, _, n + 1, .cons r t => .cons r (Vals.take n t)
theorem Vals.drop : ∀ {xs : List V} {us : List Value} (n : Nat), Vals xs us -> Vals (xs.drop n) (us.drop n)
 | _, _, 0, r => r
 | _, _, _ + 1, .nil => .nil
 | _, _, n + 1, .cons _ t => Vals.drop n t
def RelO : Option V -> Option Value -> Prop
 | some v, some u => RelV v u
 | none, none => True
 | _, _ => False
def KV {κ : Type} : List (κ × V) -> List (κ × Value) -> Prop := Paired fun (p : κ × V) (q : κ × Value) => p.1 = q.1 /\ RelV p.2 q.2
def kV : Key -> V
 | .inl i => .int i
 | .inr x => .str x
inductive HO where
 | lst (xs : List V)
 | tup (xs : List V)
 | dK (kvs : List (Key × V)) | dT (kvs : List (List Key × V))
 | set (S : Int -> Bool) (n : Nat)
 | ins (C dx : Addr) (fs : List (Str × V))
 | own (x : Addr)
 | xd (fs : List (Str × V))
 | met (f x : Addr)
 | rng (lo hi : Int)
 | frz (o : Obj) (u : HO)
 | tbl (ps : Array Value)
 | ext (φ : Heap -> Prop)
abbrev Hp := Addr -> Option HO
def upd (H : Hp) (a : Addr) (o : HO) : Hp := fun b => if b = a then some o else H b
theorem a0d {H : Hp} {a : Addr} {o : HO} : upd H a o a = some o := by unfold upd; rw [if_pos rfl]
theorem a0m {H : Hp} {a b : Addr} {o : HO} (h : b ≠ a) : upd H a o b = H b := by unfold upd; rw [if_neg h]
theorem c2Y {H : Hp} {a b : Addr} {o u : HO} (h : H a = some o) (h' : H b = some u) (d : o ≠ u) : a ≠ b := by
 intro e; subst e; rw [h] at h'; exact d (Option.some.inj h')
theorem a0k {H : Hp} {a b : Addr} {o : HO} (h : H a = some o) (h' : H b = none) : a ≠ b := by
 intro e; subst e; rw [h] at h'; cases h'
section
variable (P : Program) (w : World)
def a2X (H : Hp) (h : Heap) (a : Addr) : HO -> Prop
 | .lst xs => xs.length <= sizeLine /\ ∃ (its : List Value) (n : Nat), Vals xs its /\ h.get? a = some { cls := .type "list", data := .seq its.toArray n }
 | .tup xs => xs.length <= sizeLine /\ ∃ its : List Value, Vals xs its /\ IsTup h a its.toArray
 | .dK kvs => kvs.length <= sizeLine /\ (a == sysModules) = false /\ ∃ vs, KV kvs vs /\ h.DictOf (a0T P w) a vs
 | .dT kvs => kvs.length <= sizeLine /\ (a == sysModules) = false /\ ∃ xs : List (List Key × Addr × Value),
  Paired (fun (p : List Key × V) (q : List Key × Addr × Value) => p.1 = q.1 /\ H q.2.1 = some (.tup (p.1.map kV)) /\ RelV p.2 q.2.2) kvs xs /\
  ∃ o es ep, h.get? a = some o /\ o.ExactDict /\ o.data = .dict es ep /\ es.toList = xs.map (entryOfKey (tupleKind (a0T P w))) /\ (xs.map (·.1)).Nodup
 | .set S n => h.SetOf (intKind P w) a S n
 | .ins C dx fs => H dx = some (.own a) /\ fs.length <= 1000 /\ dx ≠ a /\ h.get? a = some (PySem.W.instObj C dx) /\
  ∃ mA, h.Ns1 dx mA /\ (∀ f, RelO (fs.lookup f) (mA f)) /\ PySem.Within mA (fs.map (·.1))
 | .own _ => ∃ o, h.get? a = some o
 | .xd fs => ∃ mA, h.Ns1 a mA /\ ∀ f, RelO (fs.lookup f) (mA f)
 | .rng lo hi => ∃ t u v, h.get? a = some { cls := .type "range", data := .fields #[.int lo t, .int hi u, .int 1 v] }
 | .frz o u => h.get? a = some o /\ a2X H h a u
 | .tbl ps => h.get? a = some { cls := .none, data := .fields ps }
 | .met f x => h.get? a = some (PySem.W.methodObj (.ref f) (.ref x))
 | .ext φ => φ h /\ (∃ o, h.get? a = some o) /\ ∀ h1 h2 : Heap, φ h1 -> (∀ o, h1.get? a = some o -> h2.get? a = some o) -> φ h2
def HOk (H : Hp) (h : Heap) : Prop := ∀ a o, H a = some o -> a2X P w H h a o
end
section
variable {P : Program} {w : World} {H H' : Hp} {h h' : Heap} {a : Addr} {o : HO}
theorem a2X.lt (x : a2X P w H h a o) : a < h.objs.size := by
 cases o with
 | lst xs => obtain ⟨_, _, _, _, e⟩ := x; exact Heap.lt_size e
 | tup xs => obtain ⟨_, _, _, p⟩ := x; exact p.lt
 | dK kvs => obtain ⟨_, _, _, _, o, _, _, e, _⟩ := x; exact Heap.lt_size e
 | dT kvs => obtain ⟨_, _, _, _, o, _, _, e, _⟩ := x; exact Heap.lt_size e
 | set S n => obtain ⟨o, _, _, _, e, _⟩ := x; exact Heap.lt_size e
 | ins C dx fs => obtain ⟨_, _, _, e, _⟩ := x; exact Heap.lt_size e
 | own y => obtain ⟨_, e⟩ := x; exact Heap.lt_size e
 | xd fs => obtain ⟨_, ⟨_, _, _, e, _⟩, _⟩ := x; exact Heap.lt_size e
 | rng lo hi => obtain ⟨_, _, _, e⟩ := x; exact Heap.lt_size e
 | frz ob u => obtain ⟨e, _⟩ := x; exact Heap.lt_size e
 | tbl ps => exact Heap.lt_size (show h.get? a = some _ from x)
 | met f y => exact Heap.lt_size (show h.get? a = some _ from x)
 | ext φ => obtain ⟨_, ⟨_, e⟩, _⟩ := x; exact Heap.lt_size e
theorem Paired.mapP {α β : Type} {F G : α -> β -> Prop} : ∀ {l₁ : List α} {l₂ : List β}, Paired F l₁ l₂ -> (∀ a b, F a b -> G a b) -> Paired G l₁ l₂
 | _, _, .nil, _ => .nil
 | _, _, .cons r t, f => .cons (f _ _ r) (Paired.mapP t f)
theorem a2X.stay (x : a2X P w H h a o) (k : ∀ b u, (b = a ∨ H b = some (.own a)) -> h.get? b = some u -> h'.get? b = some u)
 (ho : ∀ b, H b = some (.own a) -> H' b = some (.own a)) (ht : ∀ b xs, H b = some (.tup xs) -> H' b = some (.tup xs)) : a2X P w H' h' a o := by
 induction o with
 | lst xs => obtain ⟨z, its, n, r, e⟩ := x; exact ⟨z, its, n, r, k _ _ (.inl rfl) e⟩
 | tup xs => obtain ⟨z, its, r, ob, e, c⟩ := x; exact ⟨z, its, r, ob, k _ _ (.inl rfl) e, c⟩
 | dK kvs => obtain ⟨z, y, vs, r, ob, es, ep, e, c⟩ := x; exact ⟨z, y, vs, r, ob, es, ep, k _ _ (.inl rfl) e, c⟩
 | dT kvs =>
  obtain ⟨z, y, xs, r, ob, es, ep, e, c⟩ := x
  exact ⟨z, y, xs, Paired.mapP r fun p q z => ⟨z.1, ht _ _ z.2.1, z.2.2⟩, ob, es, ep, k _ _ (.inl rfl) e, c⟩
 | set S n => obtain ⟨ob, es, ep, t, e, c⟩ := x; exact ⟨ob, es, ep, t, k _ _ (.inl rfl) e, c⟩
 | ins C dx fs =>
  obtain ⟨d, z, ne, e, mA, ⟨od, es, ep, e2, c⟩, r⟩ := x
  exact ⟨ho _ d, z, ne, k _ _ (.inl rfl) e, mA, ⟨od, es, ep, k _ _ (.inr d) e2, c⟩, r⟩
 | own y => obtain ⟨ob, e⟩ := x; exact ⟨ob, k _ _ (.inl rfl) e⟩
 | xd fs => obtain ⟨mA, ⟨od, es, ep, e, c⟩, r⟩ := x; exact ⟨mA, ⟨od, es, ep, k _ _ (.inl rfl) e, c⟩, r⟩
 | rng lo hi => obtain ⟨t, u, v, e⟩ := x; exact ⟨t, u, v, k _ _ (.inl rfl) e⟩
 | frz ob u ih => obtain ⟨e, q⟩ := x; exact ⟨k _ _ (.inl rfl) e, ih q⟩
 | tbl ps =>
  have e : h.get? a = some { cls := .none, data := .fields ps } := x
  show h'.get? a = some { cls := .none, data := .fields ps }
  exact k a _ (.inl rfl) e
 | met f y =>
  have e : h.get? a = some (PySem.W.methodObj (.ref f) (.ref y)) := x
  show h'.get? a = some (PySem.W.methodObj (.ref f) (.ref y))
  exact k a _ (.inl rfl) e
 | ext φ => obtain ⟨p, ⟨o, e⟩, st⟩ := x; exact ⟨st _ _ p fun o q => k _ _ (.inl rfl) q, ⟨o, k _ _ (.inl rfl) e⟩, st⟩
theorem HOk.lt (x : HOk P w H h) (e : H a = some o) : a < h.objs.size := (x a o e).lt
theorem HOk.fresh (x : HOk P w H h) (e : h.objs.size <= a) : H a = none := by
 cases q : H a with
 | none => rfl
 | some u => exact absurd (Nat.lt_of_lt_of_le (x.lt q) e) (Nat.lt_irrefl _)
theorem HOk.kept (x : HOk P w H h) (k : ∀ b u, h.get? b = some u -> h'.get? b = some u) : HOk P w H h' := fun a o e =>
 (x a o e).stay (fun b u _ q => k b u q) (fun _ q => q) fun _ _ q => q
theorem HOk.laid (x : HOk P w H h) (k : ∀ b u, h.get? b = some u -> h'.get? b = some u) (hp : h.objs.size <= a) (new : a2X P w (upd H a o) h' a o) : HOk P w (upd H a o) h' := fun b u e => by
 have hn := x.fresh hp
 by_cases hb : b = a
 ·subst hb; rw [a0d] at e; cases e; exact new
 ·rw [a0m hb] at e
  exact (x b u e).stay (fun c v _ q => k c v q) (fun c q => by rw [a0m (a0k q hn)]; exact q) fun c xs q => by rw [a0m (a0k q hn)]; exact q
end
def Rd (H : Hp) (a : Addr) (u : HO) : Prop := H a = some u ∨ ∃ o, H a = some (.frz o u)
theorem Rd.ok {P : Program} {w : World} {H : Hp} {h : Heap} {a : Addr} {u : HO} (r : Rd H a u) (x : HOk P w H h) : a2X P w H h a u := by
 rcases r with r | ⟨o, r⟩
 ·exact x a u r
 ·obtain ⟨_, q⟩ := x a _ r
  exact q
def Mut : Option HO -> Prop
 | some (.lst _) => True
 | some (.dK _) => True
 | some (.dT _) => True
 | some (.set _ _) => True
 | some (.ins _ _ _) => True
 | some (.ext _) => True
 | _ => False
section
variable {P : Program} {w : World} {H : Hp} {h h' : Heap} {x e : Addr} {o' : HO}
theorem HOk.write (ok : HOk P w H h) (mu : Mut (H x)) (he : e = x ∨ H e = some (.own x)) (k : ∀ b u, b ≠ e -> h.get? b = some u -> h'.get? b = some u) (heo : ∃ u, h'.get? e = some u)
 (new : a2X P w (upd H x o') h' x o') : HOk P w (upd H x o') h' := fun b u q => by
 have nown : ∀ c y, H c = some (.own y) -> c ≠ x := fun c y r z => by subst z; rw [r] at mu; exact mu
 have ntup : ∀ c xs, H c = some (.tup xs) -> c ≠ x := fun c xs r z => by subst z; rw [r] at mu; exact mu
 by_cases hb : b = x
 ·subst hb; rw [a0d] at q; cases q; exact new
 ·rw [a0m hb] at q
  by_cases hbe : b = e
  ·have q' : H b = some (.own x) := by
    rcases he with z | z
    ·exact absurd (hbe.trans z) hb
    ·rw [hbe]; exact z
   rw [q] at q'; cases q'
   obtain ⟨v, hv⟩ := heo
   exact ⟨v, by rw [hbe]; exact hv⟩
  ·refine (ok b u q).stay (fun c v hc r => k c v ?_ r) (fun c r => by rw [a0m (nown c b r)]; exact r) fun c xs r => by rw [a0m (ntup c xs r)]; exact r
   rcases hc with rfl | hc
   ·exact hbe
   ·rintro rfl
    rcases he with z | z
    ·exact nown c b hc z
    ·rw [hc] at z; cases z; exact hb rfl
end
structure Un (fs ex : List Addr) (H H' : Hp) (h h' : Heap) : Prop where
 keep : ∀ b o, h.get? b = some o -> H b = none -> b ∉ fs -> b ∉ ex -> h'.get? b = some o
 slot : ∀ b o, h.get? b = some o -> H b = none -> b ∈ fs -> b ∉ ex -> ∃ sl, h'.get? b = some { o with slots := sl }
 free : ∀ b o, h.get? b = some o -> H b = none -> b ∉ ex -> H' b = none
 there : ∀ b o, h.get? b = some o -> b ∉ ex -> ∃ o', h'.get? b = some o'
 tups : ∀ b xs, H b = some (.tup xs) -> H' b = some (.tup xs)
 frzs : ∀ b o u, H b = some (.frz o u) -> H' b = some (.frz o u)
 tbls : ∀ b ps, H b = some (.tbl ps) -> ∃ more, H' b = some (.tbl (ps ++ more))
section
variable {fs fs' ex ex' : List Addr} {H H1 H2 : Hp} {h h1 h2 h' : Heap} {a x e : Addr} {o : HO}
theorem Un.any (u : Un fs ex H H1 h h1) {b : Addr} {ob : Obj} (q : h.get? b = some ob) (n : H b = none) (hx : b ∉ ex) : ∃ sl, h1.get? b = some { ob with slots := sl } := by
 by_cases hb : b ∈ fs
 ·exact u.slot b ob q n hb hx
 ·exact ⟨ob.slots, u.keep b ob q n hb hx⟩
theorem Un.kept (k : ∀ b u, h.get? b = some u -> h'.get? b = some u) : Un fs ex H H h h' :=
 ⟨fun b ob q _ _ _ => k b ob q, fun b ob q _ _ _ => ⟨ob.slots, k b ob q⟩, fun _ _ _ n _ => n, fun b ob q _ => ⟨ob, k b ob q⟩, fun _ _ q => q, fun _ _ _ q => q, fun _ ps q => ⟨#[], by rw [q]; simp⟩⟩
theorem Un.refl : Un fs ex H H h h := Un.kept fun _ _ q => q
theorem Un.laid (k : ∀ b u, h.get? b = some u -> h'.get? b = some u) (hp : h.objs.size <= a) (hn : H a = none) : Un fs ex H (upd H a o) h h' where
 keep := fun b u q _ _ _ => k b u q
 slot := fun b u q _ _ _ => ⟨u.slots, k b u q⟩
 free := fun b u q n _ => by rw [a0m (Nat.ne_of_lt (Nat.lt_of_lt_of_le (Heap.lt_size q) hp))]; exact n
 there := fun b u q _ => ⟨u, k b u q⟩
 tups := fun b xs q => by rw [a0m (a0k q hn)]; exact q
 frzs := fun b u xs q => by rw [a0m (a0k q hn)]; exact q
 tbls := fun b ps q => ⟨#[], by rw [a0m (a0k q hn), q]; simp⟩
theorem Un.write (mu : Mut (H x)) (he : e = x ∨ H e = some (.own x)) (k : ∀ b u, b ≠ e -> h.get? b = some u -> h'.get? b = some u) (heo : ∃ u, h'.get? e = some u) : Un fs ex H (upd H x o) h h' := by
 have hx : ∀ b, H b = none -> b ≠ x := fun b n z => by subst z; rw [n] at mu; exact mu
 have hb : ∀ b, H b = none -> b ≠ e := fun b n z => by
  subst z
  rcases he with r | r
  ·exact hx b n r
  ·rw [n] at r; cases r
 have hm : ∀ b u, H b = some u -> ¬ Mut (some u) -> b ≠ x := fun b u q nm z => by subst z; rw [q] at mu; exact nm mu
 refine ⟨fun b u q n _ _ => k b u (hb b n) q, fun b u q n _ _ => ⟨u.slots, k b u (hb b n) q⟩, fun b u q n _ => by rw [a0m (hx b n)]; exact n, fun b u q _ => ?_,
  fun b xs q => by rw [a0m (hm b _ q fun z => z)]; exact q, fun b u xs q => by rw [a0m (hm b _ q fun z => z)]; exact q, fun b ps q => ⟨#[], by rw [a0m (hm b _ q fun z => z), q]; simp⟩⟩
 by_cases hbe : b = e
 ·subst hbe; exact heo
 ·exact ⟨u, k b u hbe q⟩
end
def trk (h : Heap) (H : Hp) : List Addr := (List.range h.objs.size).filter fun a => (H a).isSome
def hidT (h : Heap) (H : Hp) : Heap := PySem.W.hideAll h (trk h H)
theorem c4u (h : Heap) (H : Hp) : (hidT h H).objs.size = h.objs.size := PySem.W.hideAll_size _ _
theorem c6v {h : Heap} {H : Hp} {b : Addr} {o : Obj} (e : h.get? b = some o) (n : H b = none) : (hidT h H).get? b = some o :=
 PySem.W.hideAll_get _ e fun hm => by
  have q : (H b).isSome = true := (List.mem_filter.mp hm).2
  rw [n] at q; simp at q
theorem c79 {h : Heap} {H : Hp} {b : Addr} {o : Obj} (e : (hidT h H).get? b = some o) : h.get? b = some o /\ H b = none := by
 have e' : h.get? b = some o := PySem.W.of_hideAll (trk h H) e
 refine ⟨e', ?_⟩
 cases q : H b with
 | none => rfl
 | some x =>
  have hm : b ∈ trk h H := List.mem_filter.mpr ⟨List.mem_range.mpr (Heap.lt_size e'), by simp [q]⟩
  have z : (hidT h H).get? b = none := PySem.W.hideAll_none (trk h H) hm
  rw [z] at e; cases e
def c7N (g h : Heap) (L : Addr) : List (Addr × Obj) := (List.range h.objs.size).filterMap fun a => if a = L ∨ (g.get? a).isSome = true then none else (h.get? a).map fun o => (a, o)
def rest (g h : Heap) (L d : Addr) : List (Addr × Obj) := (c7N g h L).filter fun p => decide (p.1 ≠ d)
end L2
namespace L2
open PySem PySem.Spec PyProof.Rows
structure Mod (K : PySem.W.Frag) (mg : Str -> Option Value) (base : Heap) : Prop where
 kin : K.In base
 glob : base.Ns mainGlobals mg
 blt : ∃ mb, base.Ns builtinsNs mb /\ ∀ x : Str, x ≠ "__name__" -> mb x = bootBuiltins x
 nolimit : base.NoLimit
structure Cx where
 prog : Program
 w : World
 K : PySem.W.Frag
 mg : Str -> Option Value
 base : Heap
 A : Around
 N : List Str
 s₀ : Shared
 H₀ : Hp
 env : Env
 outer : List Env
 stack : List Env
 ex : List Addr
 fn : Str -> Bool
 calm : Bool
 pn : List (Addr × Obj)
 xe : Value -> Shared -> Prop
def frs (l : List Env) : List Addr := l.filterMap (·.frame)
abbrev Cx.fs (X : Cx) : List Addr := frs X.outer
def Vis (sc : Scope) (x : Str) : Prop := sc.names.lookup x = some .local ∨ sc.names.lookup x = some .cell ∨ sc.names.lookup x = some .free
def Loc (sc : Scope) (x : Str) : Prop := sc.names.lookup x = some .local ∨ sc.names.lookup x = some .cell
def Look (env : Env) (h : Heap) (m : Str -> Option Value) (x : Str) (u : Value) : Prop :=
 (env.kindOf x = some .local /\ m x = some u) ∨ ((env.kindOf x = some .cell ∨ env.kindOf x = some .free) /\ ∃ c, env.cells.lookup x = some c /\ h.IsCell c (some u))
structure Cx.Ok (X : Cx) : Prop where
 mod : Mod X.K X.mg X.base
 kind : X.env.scope.kind = .function
 glob : X.env.globals = mainGlobals
 blt : X.env.builtins = builtinsNs
 above : X.s₀.heap.objs.size <= X.env.locals
 inj : ∀ x y c, X.env.cells.lookup x = some c -> X.env.cells.lookup y = some c -> x = y
 has : ∀ x, (X.env.kindOf x = some .cell ∨ X.env.kindOf x = some .free) -> ∃ c, X.env.cells.lookup x = some c
 cab : ∀ x c, X.fn x = true -> X.env.cells.lookup x = some c -> X.s₀.heap.objs.size <= c
 hd : X.calm = true -> X.A.handled = none
 frames : X.A.frames = some X.stack
 stk : X.stack = X.outer ∨ (X.stack = X.env :: X.outer /\ X.env.frame = some X.env.locals)
 exf : ∀ b ∈ X.ex, b ≠ X.env.locals /\ ∀ x c, X.env.cells.lookup x = some c -> c ≠ b
 bs : ∀ b o, X.base.get? b = some o -> X.s₀.heap.get? b = some o /\ X.H₀ b = none
 bsz : X.base.objs.size <= X.s₀.heap.objs.size
 noex : ∀ b o, X.base.get? b = some o -> b ∉ X.ex
 exfs : ∀ b ∈ X.ex, b ∉ X.fs
 funs : X.s₀.heap.FunFrames X.base X.outer
 frf : ∀ b ∈ X.fs, X.H₀ b = none
structure Inv (X : Cx) (pins : List (Addr × Obj)) (σ : List (Option V)) (H : Hp) (s : Shared) : Prop where
 ok : X.Ok
 os : s.os = X.s₀.os
 bare : AllBare s.gens
 base : Un X.fs X.ex X.H₀ H X.s₀.heap s.heap
 loc : ∃ m, s.heap.Ns X.env.locals m /\ ∀ (i : Nat) (x : Str) (v : V), X.N[i]? = some x -> σ[i]? = some (some v) -> Vis X.env.scope x -> ∃ u, RelV v u /\ Look X.env s.heap m x u
 cell : ∀ x c, X.env.cells.lookup x = some c -> ∃ v, s.heap.IsCell c v
 free : H X.env.locals = none
 freeC : ∀ x c, X.env.cells.lookup x = some c -> H c = none
 pin : ∀ p ∈ X.pn ++ pins, s.heap.get? p.1 = some p.2 /\ H p.1 = none /\ p.1 ≠ X.env.locals /\ p.1 ∉ X.fs /\ ∀ v, p.2.data ≠ .cell v
 hok : HOk X.prog X.w H s.heap
 len : σ.length = X.N.length
section
variable {X : Cx} {pins : List (Addr × Obj)} {σ : List (Option V)} {H H' : Hp} {s : Shared} {h' : Heap}
theorem Cx.Ok.nofr (ok : X.Ok) {b : Addr} {o : Obj} (e : X.base.get? b = some o) : b ∉ X.fs := fun hb => by
 have := (ok.funs.mem hb).1
 rw [e] at this; cases this
theorem Inv.bs (I : Inv X pins σ H s) : ∀ b o, X.base.get? b = some o -> s.heap.get? b = some o /\ H b = none := fun b o e =>
 ⟨I.base.keep b o (I.ok.bs b o e).1 (I.ok.bs b o e).2 (I.ok.nofr e) (I.ok.noex b o e), I.base.free b o (I.ok.bs b o e).1 (I.ok.bs b o e).2 (I.ok.noex b o e)⟩
theorem Inv.bk (I : Inv X pins σ H s) : ∀ b o, X.base.get? b = some o -> s.heap.get? b = some o := fun b o e => (I.bs b o e).1
theorem Inv.mod (I : Inv X pins σ H s) : Mod X.K X.mg X.base := I.ok.mod
theorem Inv.kIn (I : Inv X pins σ H s) : X.K.In s.heap := I.ok.mod.kin.keeps I.bk
theorem Inv.lt (I : Inv X pins σ H s) : X.env.locals < s.heap.objs.size := let ⟨_, hn, _⟩ := I.loc; hn.lt
theorem Inv.sz (I : Inv X pins σ H s) : X.s₀.heap.objs.size <= s.heap.objs.size := Nat.le_trans I.ok.above (Nat.le_of_lt I.lt)
theorem Inv.nofs (I : Inv X pins σ H s) {a : Addr} (h : s.heap.objs.size <= a) : a ∉ X.fs := fun hb => by
 obtain ⟨_, o, ho, _⟩ := I.ok.funs.mem hb
 exact absurd (Nat.lt_of_lt_of_le (Heap.lt_size ho) (Nat.le_trans I.sz h)) (Nat.lt_irrefl _)
theorem Inv.cne (I : Inv X pins σ H s) : ∀ x c, X.env.cells.lookup x = some c -> c ≠ X.env.locals := fun x c e z => by
 obtain ⟨v, o, ho, hd⟩ := I.cell x c e
 obtain ⟨m, ⟨o', es, ep, ho', hd', _⟩, _⟩ := I.loc
 rw [z, ho'] at ho; cases ho; rw [hd'] at hd; cases hd
theorem Inv.funs (I : Inv X pins σ H s) : s.heap.FunFrames X.base X.outer := by
 have all : ∀ (l : List Env), (∀ b ∈ frs l, b ∈ X.fs) -> X.s₀.heap.FunFrames X.base l -> s.heap.FunFrames X.base l := by
  intro l
  induction l with
  | nil => intro _ _; trivial
  | cons env r ih =>
   intro hs hl
   obtain ⟨hk, ⟨L, o, hf, hn, ho, hd⟩, hr⟩ := hl
   have hL : L ∈ X.fs := hs L (by unfold frs; rw [List.filterMap_cons, hf]; exact List.mem_cons_self)
   obtain ⟨sl, e⟩ := I.base.slot L o ho (I.ok.frf L hL) hL fun z => I.ok.exfs L z hL
   exact ⟨hk, ⟨L, _, hf, hn, e, hd⟩, ih (fun b hb => hs b (by unfold frs; rw [List.filterMap_cons, hf]; exact List.mem_cons_of_mem _ hb)) hr⟩
 exact all X.outer (fun _ hb => hb) I.ok.funs
theorem Inv.stack (I : Inv X pins σ H s) : s.heap.FunFrames X.base X.stack := by
 rcases I.ok.stk with e | ⟨e, hf⟩
 ·rw [e]; exact I.funs
 ·rw [e]
  obtain ⟨m, hn, _⟩ := I.loc
  refine .cons (by rw [I.ok.kind]; decide) hf hn ?_ I.funs
  exact Heap.get?_none_of_le (Nat.le_trans I.ok.bsz I.ok.above)
theorem Inv.stkSub (I : Inv X pins σ H s) : ∀ b ∈ frs X.stack, b ∈ X.env.locals :: X.fs := fun b hb => by
 rcases I.ok.stk with e | ⟨e, hf⟩
 ·rw [e] at hb; exact List.mem_cons_of_mem _ hb
 ·rw [e] at hb
  unfold frs at hb
  rw [List.filterMap_cons, hf] at hb
  exact hb
theorem Inv.stkFree (I : Inv X pins σ H s) : ∀ b ∈ frs X.stack, H b = none := fun b hb => by
 rcases List.mem_cons.mp (I.stkSub b hb) with e | hb
 ·rw [e]; exact I.free
 ·obtain ⟨_, o, ho, _⟩ := I.ok.funs.mem hb
  exact I.base.free b o ho (I.ok.frf b hb) fun z => I.ok.exfs b z hb
theorem Inv.step {g' : Array GenState} {t' : Nat} {d' : Drawn} {ch : List Addr} (I : Inv X pins σ H s)
 (hch : ∀ b ∈ ch, (b ∈ X.ex ∨ X.s₀.heap.objs.size <= b) /\ b ≠ X.env.locals /\ (∀ x c, X.env.cells.lookup x = some c -> c ≠ b) /\ ∀ p ∈ X.pn ++ pins, p.1 ≠ b)
 (keep : ∀ b o, b ≠ X.env.locals -> b ∉ X.fs -> b ∉ ch -> s.heap.get? b = some o -> H b = none -> h'.get? b = some o)
 (slot : ∀ b o, b ≠ X.env.locals -> b ∈ X.fs -> b ∉ ch -> s.heap.get? b = some o -> H b = none -> ∃ sl, h'.get? b = some { o with slots := sl }) (free : ∀ b o, b ∉ ch -> s.heap.get? b = some o -> H b = none -> H' b = none)
 (there : ∀ b o, b ∉ ch -> s.heap.get? b = some o -> ∃ o', h'.get? b = some o')
 (tups : ∀ b xs, H b = some (.tup xs) -> H' b = some (.tup xs)) (frzs : ∀ b o u, H b = some (.frz o u) -> H' b = some (.frz o u)) (tbls : ∀ b ps, H b = some (.tbl ps) -> ∃ more, H' b = some (.tbl (ps ++ more)))
 (ns : ∀ m, s.heap.Ns X.env.locals m -> h'.Ns X.env.locals m) (hok : HOk X.prog X.w H' h') (hg : AllBare g') :
 Inv X pins σ H' { s with heap := h', gens := g', drawn := d', toks := t' } := by
 have neL : ∀ b o, X.s₀.heap.get? b = some o -> b ≠ X.env.locals := fun b o e => Nat.ne_of_lt (Nat.lt_of_lt_of_le (Heap.lt_size e) I.ok.above)
 have neC : ∀ b o, X.s₀.heap.get? b = some o -> b ∉ X.ex -> b ∉ ch := fun b o e hx hb => by
  rcases (hch b hb).1 with z | z
  ·exact hx z
  ·exact absurd (Nat.lt_of_lt_of_le (Heap.lt_size e) z) (Nat.lt_irrefl _)
 have cellK : ∀ x c, X.env.cells.lookup x = some c -> ∀ v, s.heap.IsCell c v -> h'.IsCell c v := fun x c e v ⟨o, ho, hd⟩ => by
  have nch : c ∉ ch := fun z => (hch c z).2.2.1 x c e rfl
  by_cases hc : c ∈ X.fs
  ·obtain ⟨sl, q⟩ := slot c o (I.cne x c e) hc nch ho (I.freeC x c e)
   exact ⟨_, q, hd⟩
  ·exact ⟨o, keep c o (I.cne x c e) hc nch ho (I.freeC x c e), hd⟩
 refine ⟨I.ok, I.os, hg, ⟨fun b o e n hb hx => ?_, fun b o e n hb hx => ?_, fun b o e n hx => ?_, fun b o e hx => ?_, fun b xs e => tups b xs (I.base.tups b xs e), fun b o xs e => frzs b o xs (I.base.frzs b o xs e), fun b ps e => ?_⟩, ?_, fun x c e => ?_, ?_, fun x c e => ?_, fun p hp => ?_, hok, I.len⟩
 ·exact keep b o (neL b o e) hb (neC b o e hx) (I.base.keep b o e n hb hx) (I.base.free b o e n hx)
 ·obtain ⟨sl, e1⟩ := I.base.slot b o e n hb hx
  obtain ⟨sl', e2⟩ := slot b _ (neL b o e) hb (neC b o e hx) e1 (I.base.free b o e n hx)
  exact ⟨sl', e2⟩
 ·obtain ⟨o', e1⟩ := I.base.there b o e hx
  exact free b o' (neC b o e hx) e1 (I.base.free b o e n hx)
 ·obtain ⟨o', e1⟩ := I.base.there b o e hx
  exact there b o' (neC b o e hx) e1
 ·obtain ⟨m1, e1⟩ := I.base.tbls b ps e
  obtain ⟨m2, e2⟩ := tbls b _ e1
  exact ⟨m1 ++ m2, by rw [e2, Array.append_assoc]⟩
 ·obtain ⟨m, hn, hl⟩ := I.loc
  refine ⟨m, ns m hn, fun i x v e1 e2 e3 => ?_⟩
  obtain ⟨u, r, l⟩ := hl i x v e1 e2 e3
  refine ⟨u, r, ?_⟩
  rcases l with l | ⟨k, c, e, z⟩
  ·exact .inl l
  ·exact .inr ⟨k, c, e, cellK x c e _ z⟩
 ·obtain ⟨v, z⟩ := I.cell x c e
  exact ⟨v, cellK x c e v z⟩
 ·obtain ⟨m, ⟨o, _, _, ho, _⟩, _⟩ := I.loc
  exact free _ o (fun z => (hch _ z).2.1 rfl) ho I.free
 ·obtain ⟨v, o, ho, hd⟩ := I.cell x c e
  exact free c o (fun z => (hch c z).2.2.1 x c e rfl) ho (I.freeC x c e)
 ·obtain ⟨e, n, ne, nf, d⟩ := I.pin p hp
  have nch : p.1 ∉ ch := fun z => (hch p.1 z).2.2.2 p hp rfl
  exact ⟨keep p.1 p.2 ne nf nch e n, free p.1 p.2 nch e n, ne, nf, d⟩
theorem Inv.un {t' : Nat} (I : Inv X pins σ H s) (u : Un X.fs [] H H' s.heap h') (hok : HOk X.prog X.w H' h') : Inv X pins σ H' { s with heap := h', toks := t' } := by
 obtain ⟨m, ⟨o, es, ep, ho, r⟩, _⟩ := id I.loc
 obtain ⟨sl, hL⟩ := u.any ho I.free (by simp)
 exact I.step (g' := s.gens) (d' := s.drawn) (ch := []) (fun _ z => nomatch z) (fun b o _ hb _ e n => u.keep b o e n hb (by simp)) (fun b o _ hb _ e n => u.slot b o e n hb (by simp)) (fun b o _ e n => u.free b o e n (by simp)) (fun b o _ e => u.there b o e (by simp)) u.tups u.frzs u.tbls (fun m' hm => by
  obtain ⟨o', es', ep', ho', r'⟩ := hm
  rw [ho] at ho'; cases ho'
  exact ⟨_, es', ep', hL, r'⟩) hok I.bare
theorem Inv.call {g' : Array GenState} {t' : Nat} {d' : Drawn} {ch : List Addr} (I : Inv X pins σ H s) (u : Un (frs X.stack) ch H H' s.heap h') (hok : HOk X.prog X.w H' h') (hg : AllBare g')
 (hch : ∀ b ∈ ch, (b ∈ X.ex ∨ X.s₀.heap.objs.size <= b) /\ b ≠ X.env.locals /\ (∀ x c, X.env.cells.lookup x = some c -> c ≠ b) /\ ∀ p ∈ X.pn ++ pins, p.1 ≠ b) :
 Inv X pins σ H' { s with heap := h', gens := g', drawn := d', toks := t' } := by
 obtain ⟨m, ⟨o, es, ep, ho, r⟩, _⟩ := id I.loc
 obtain ⟨sl, hL⟩ := u.any ho I.free fun z => (hch _ z).2.1 rfl
 exact I.step (ch := ch) hch (fun b o hL hb hc e n => u.keep b o e n (fun z => (List.mem_cons.mp (I.stkSub b z)).elim hL hb) hc) (fun b o _ _ hc e n => u.any e n hc) (fun b o hc e n => u.free b o e n hc) (fun b o hc e => u.there b o e hc) u.tups u.frzs u.tbls (fun m' hm => by
  obtain ⟨o', es', ep', ho', r'⟩ := hm
  rw [ho] at ho'; cases ho'
  exact ⟨_, es', ep', hL, r'⟩) hok hg
theorem Inv.turned {t' : Nat} {it : Addr} (I : Inv X pins σ H s) (k : ∀ b o, b ≠ it -> s.heap.get? b = some o -> h'.get? b = some o) (hn : H it = none) (hL : it ≠ X.env.locals)
 (h1 : it ∈ X.ex ∨ X.s₀.heap.objs.size <= it) (h2 : ∀ x c, X.env.cells.lookup x = some c -> c ≠ it) (h3 : ∀ p ∈ X.pn ++ pins, p.1 ≠ it) : Inv X pins σ H { s with heap := h', toks := t' } := by
 have nit : ∀ b u, H b = some u -> b ≠ it := fun b u e z => by rw [z, hn] at e; cases e
 refine I.step (g' := s.gens) (d' := s.drawn) (ch := [it]) (fun b hb => ?_) (fun b o _ _ hc e _ => k b o (fun z => hc (by simp [z])) e) (fun b o _ _ hc e _ => ⟨o.slots, k b o (fun z => hc (by simp [z])) e⟩) (fun _ _ _ _ n => n)
  (fun b o hc e => ⟨o, k b o (fun z => hc (by simp [z])) e⟩) (fun _ _ e => e) (fun _ _ _ e => e) (fun b ps e => ⟨#[], by rw [e]; simp⟩) (fun m hm => ?_) (fun b u e => ?_) I.bare
 ·have e : b = it := by simpa using hb
  subst e
  exact ⟨h1, hL, h2, h3⟩
 ·obtain ⟨o, es, ep, ho, r⟩ := hm
  exact ⟨o, es, ep, k _ o (Ne.symm hL) ho, r⟩
 ·refine (I.hok b u e).stay (fun c v hc q => k c v ?_ q) (fun _ q => q) fun _ _ q => q
  rcases hc with z | z
  ·rw [z]; exact nit b u e
  ·exact nit c _ z
theorem Inv.tok (I : Inv X pins σ H s) (t : Nat) : Inv X pins σ H { s with toks := t } := I.un (h' := s.heap) (t' := t) Un.refl I.hok
theorem Inv.kept {t' : Nat} (I : Inv X pins σ H s) (k : ∀ b u, s.heap.get? b = some u -> h'.get? b = some u) : Inv X pins σ H { s with heap := h', toks := t' } := I.un (Un.kept k) (I.hok.kept k)
theorem Inv.laid {a : Addr} {o : HO} {t' : Nat} (I : Inv X pins σ H s) (k : ∀ b u, s.heap.get? b = some u -> h'.get? b = some u) (hp : s.heap.objs.size <= a) (new : a2X X.prog X.w (upd H a o) h' a o) :
 Inv X pins σ (upd H a o) { s with heap := h', toks := t' } := I.un (Un.laid k hp (I.hok.fresh hp)) (I.hok.laid k hp new)
theorem Inv.write {x e : Addr} {o : HO} {t' : Nat} (I : Inv X pins σ H s) (mu : Mut (H x)) (he : e = x ∨ H e = some (.own x)) (k : ∀ b u, b ≠ e -> s.heap.get? b = some u -> h'.get? b = some u) (heo : ∃ u, h'.get? e = some u)
 (new : a2X X.prog X.w (upd H x o) h' x o) : Inv X pins σ (upd H x o) { s with heap := h', toks := t' } := I.un (Un.write mu he k heo) (I.hok.write mu he k heo new)
theorem Inv.pins_of {pins' : List (Addr × Obj)} (I : Inv X pins σ H s) (h : ∀ p ∈ pins', s.heap.get? p.1 = some p.2 /\ H p.1 = none /\ p.1 ≠ X.env.locals /\ p.1 ∉ X.fs /\ ∀ v, p.2.data ≠ .cell v) : Inv X pins' σ H s :=
 ⟨I.ok, I.os, I.bare, I.base, I.loc, I.cell, I.free, I.freeC, fun p hp => (List.mem_append.mp hp).elim (fun z => I.pin p (List.mem_append_left _ z)) (h p), I.hok, I.len⟩
theorem c2f {N : List Str} (hN : N.Nodup) {i j : Nat} {x : Str} (a : N[i]? = some x) (b : N[j]? = some x) : i = j := by
 obtain ⟨h1, e1⟩ := List.getElem?_eq_some_iff.mp a
 obtain ⟨h2, e2⟩ := List.getElem?_eq_some_iff.mp b
 exact (List.getElem_inj hN).mp (e1.trans e2.symm)
theorem b7q {M : Model} {A : Around} {E : Value -> Shared -> Prop} {i : Nat} {x : Str} {v : V} {u : Value} {Q : Unit -> Shared -> Prop} (I : Inv X pins σ H s) (hN : X.N.Nodup) (hi : X.N[i]? = some x) (hx : Loc X.env.scope x) (r : RelV v u)
 (h : ∀ s', Inv X pins (σ.set i (some v)) H s' -> (∃ a, Heap.SameBut a s.heap s'.heap /\ (a = X.env.locals ∨ X.env.cells.lookup x = some a)) -> Q () s') (hf : X.fn x = true ∨ X.env.scope.names.lookup x = some .local := by first | exact .inl rfl | exact .inr rfl | assumption) : wpAny M A (storeName X.env x u) Q E s := by
 obtain ⟨m, hn, hl⟩ := id I.loc
 have hcls : (X.env.scope.kind == .class || (X.env.scope.kind == .module && X.env.locals != X.env.globals)) = false := by rw [I.ok.kind]; rfl
 have hiσ : i < σ.length := by rw [I.len]; exact (List.getElem?_eq_some_iff.mp hi).1
 have cne := I.cne
 have tracked : ∀ {a : Addr} {h' : Heap}, (∃ o, s.heap.get? a = some o /\ H a = none) -> Heap.SameBut a s.heap h' -> HOk X.prog X.w H h' := fun {a h'} ha hs b ob e => by
  obtain ⟨_, _, hfree⟩ := ha
  refine (I.hok b ob e).stay (fun c w' hc q => (hs.2 c ?_).trans q) (fun _ q => q) fun _ _ q => q
  rintro rfl
  rcases hc with rfl | hc
  ·rw [hfree] at e; cases e
  ·rw [hfree] at hc; cases hc
 rcases hx with hk | hk
 ·refine wpAny_storeName_local hk hn (fun h' hn' hs => ?_) hcls
  obtain ⟨oL, _, _, hoL, _⟩ := id hn
  refine h _ ⟨I.ok, I.os, I.bare, ⟨fun b o e n hb hx => ?_, fun b o e n hb hx => ?_, I.base.free, fun b o e hx => ?_, I.base.tups, I.base.frzs, I.base.tbls⟩, ⟨_, hn', fun j y v' e1 e2 e3 => ?_⟩, fun y c e => ?_, I.free, I.freeC, fun p hp => ?_, tracked ⟨oL, hoL, I.free⟩ hs, by simpa using I.len⟩ ⟨_, hs, .inl rfl⟩
  ·exact (hs.2 b (Nat.ne_of_lt (Nat.lt_of_lt_of_le (Heap.lt_size e) I.ok.above))).trans (I.base.keep b o e n hb hx)
  ·obtain ⟨sl, e1⟩ := I.base.slot b o e n hb hx
   exact ⟨sl, (hs.2 b (Nat.ne_of_lt (Nat.lt_of_lt_of_le (Heap.lt_size e) I.ok.above))).trans e1⟩
  ·obtain ⟨o', e1⟩ := I.base.there b o e hx
   exact ⟨o', (hs.2 b (Nat.ne_of_lt (Nat.lt_of_lt_of_le (Heap.lt_size e) I.ok.above))).trans e1⟩
  ·by_cases hj : j = i
   ·subst hj
    rw [hi] at e1; cases e1
    rw [List.getElem?_set_self hiσ] at e2
    cases e2
    exact ⟨u, r, .inl ⟨hk, by simp⟩⟩
   ·rw [List.getElem?_set_ne (Ne.symm hj)] at e2
    obtain ⟨u', r', q⟩ := hl j y v' e1 e2 e3
    refine ⟨u', r', ?_⟩
    rcases q with ⟨k, e⟩ | ⟨k, c, e, z⟩
    ·refine .inl ⟨k, ?_⟩
     have : y ≠ x := fun e => hj (c2f hN e1 (e ▸ hi))
     simp [this, e]
    ·exact .inr ⟨k, c, e, z.sameBut hs (cne y c e)⟩
  ·obtain ⟨w', z⟩ := I.cell y c e
   exact ⟨w', z.sameBut hs (cne y c e)⟩
  ·obtain ⟨e, n, ne, nf, d⟩ := I.pin p hp
   exact ⟨(hs.2 p.1 ne).trans e, n, ne, nf, d⟩
 ·have hfn : X.fn x = true := by
   rcases hf with z | z
   ·exact z
   ·rw [z] at hk; cases hk
  obtain ⟨c, hc⟩ := I.ok.has x (.inl hk)
  obtain ⟨w', z⟩ := I.cell x c hc
  refine wpAny_storeName_cell I.ok.kind hk hc z (fun h' hc' hs => ?_)
  obtain ⟨oc, hoc, hocd⟩ := id z
  refine h { s with heap := h' } ⟨I.ok, I.os, I.bare, ⟨fun b o e n hb hx => ?_, fun b o e n hb hx => ?_, I.base.free, fun b o e hx => ?_, I.base.tups, I.base.frzs, I.base.tbls⟩, ⟨m, hn.sameBut hs (Ne.symm (cne x c hc)), fun j y v' e1 e2 e3 => ?_⟩, fun y c' e => ?_, I.free, I.freeC, fun p hp => ?_, tracked ⟨oc, hoc, I.freeC x c hc⟩ hs, by simpa using I.len⟩ ⟨c, hs, .inr hc⟩
  ·exact (hs.2 b (Nat.ne_of_lt (Nat.lt_of_lt_of_le (Heap.lt_size e) (I.ok.cab x c hfn hc)))).trans (I.base.keep b o e n hb hx)
  ·obtain ⟨sl, e1⟩ := I.base.slot b o e n hb hx
   exact ⟨sl, (hs.2 b (Nat.ne_of_lt (Nat.lt_of_lt_of_le (Heap.lt_size e) (I.ok.cab x c hfn hc)))).trans e1⟩
  ·obtain ⟨o', e1⟩ := I.base.there b o e hx
   exact ⟨o', (hs.2 b (Nat.ne_of_lt (Nat.lt_of_lt_of_le (Heap.lt_size e) (I.ok.cab x c hfn hc)))).trans e1⟩
  ·by_cases hj : j = i
   ·subst hj
    rw [hi] at e1; cases e1
    rw [List.getElem?_set_self hiσ] at e2
    cases e2
    exact ⟨u, r, .inr ⟨.inl hk, c, hc, hc'⟩⟩
   ·rw [List.getElem?_set_ne (Ne.symm hj)] at e2
    obtain ⟨u', r', q⟩ := hl j y v' e1 e2 e3
    refine ⟨u', r', ?_⟩
    rcases q with q | ⟨k, c', e, z'⟩
    ·exact .inl q
    ·refine .inr ⟨k, c', e, z'.sameBut hs ?_⟩
     rintro rfl
     exact hj (c2f hN e1 (I.ok.inj _ _ _ e hc ▸ hi))
  ·by_cases hcc : c' = c
   ·subst hcc; exact ⟨_, hc'⟩
   ·obtain ⟨w2, z2⟩ := I.cell y c' e
    exact ⟨w2, z2.sameBut hs hcc⟩
  ·obtain ⟨e, n, ne, nf, d⟩ := I.pin p hp
   refine ⟨(hs.2 p.1 ?_).trans e, n, ne, nf, d⟩
   intro q
   rw [q, hoc] at e
   have q' : oc = p.2 := Option.some.inj e
   exact d w' (by rw [<- q']; exact hocd)
theorem b5q {M : Model} {A : Around} {E : Value -> Shared -> Prop} {i : Nat} {x : Str} {v : V} {u : Value} {Q : Unit -> Shared -> Prop} (I : Inv X pins σ H s) (hN : X.N.Nodup) (hi : X.N[i]? = some x) (hx : Loc X.env.scope x) (r : RelV v u)
 (h : ∀ s', Inv X pins (σ.set i (some v)) H s' -> Q () s') (hf : X.fn x = true ∨ X.env.scope.names.lookup x = some .local := by first | exact .inl rfl | exact .inr rfl | assumption) : wpAny M A (storeName X.env x u) Q E s :=
 b7q I hN hi hx r (fun s' I' _ => h s' I') hf
theorem Inv.call' {s' : Shared} {ch : List Addr} (I : Inv X pins σ H s) (ho : s'.os = s.os) (u : Un (frs X.stack) ch H H' s.heap s'.heap) (hok : HOk X.prog X.w H' s'.heap) (hg : AllBare s'.gens)
 (hch : ∀ b ∈ ch, (b ∈ X.ex ∨ X.s₀.heap.objs.size <= b) /\ b ≠ X.env.locals /\ (∀ x c, X.env.cells.lookup x = some c -> c ≠ b) /\ ∀ p ∈ X.pn ++ pins, p.1 ≠ b) : Inv X pins σ H' s' := by
 obtain ⟨h', g', d', t', o'⟩ := s'
 have e : o' = s.os := ho
 subst e
 exact I.call (g' := g') (t' := t') (d' := d') u hok hg hch
end
abbrev XK := Value -> Option Addr -> Hp -> Prop
abbrev St := List (Option V)
abbrev VK := V -> Hp -> Prop
abbrev TE := St -> Hp -> VK -> Prop
abbrev TT := St -> Hp -> (Bool -> Hp -> Prop) -> Prop
abbrev TA := St -> Hp -> (List V -> Hp -> Prop) -> Prop
structure Ends where
 nx : St -> Hp -> Prop
 rt : VK
 bk : St -> Hp -> Prop := fun _ _ => False
 ct : St -> Hp -> Prop := fun _ _ => False
abbrev TS := Ends -> St -> Hp -> Prop
def EP (X : Cx) (pins : List (Addr × Obj)) (σ : St) (Q : VK) (u : Value) (s' : Shared) : Prop := ∃ v H', Inv X pins σ H' s' /\ RelV v u /\ Q v H'
def TP (X : Cx) (pins : List (Addr × Obj)) (σ : St) (Q : Bool -> Hp -> Prop) (b : Bool) (s' : Shared) : Prop := ∃ H', Inv X pins σ H' s' /\ Q b H'
def AP (X : Cx) (pins : List (Addr × Obj)) (σ : St) (Q : List V -> Hp -> Prop) (us : List Value) (s' : Shared) : Prop := ∃ vs H', Inv X pins σ H' s' /\ Vals vs us /\ Q vs H'
def SP (X : Cx) (pins : List (Addr × Obj)) (D : Ends) (f : Flow) (s' : Shared) : Prop :=
 match f with
 | .next => ∃ σ' H', Inv X pins σ' H' s' /\ D.nx σ' H'
 | .brk => ∃ σ' H', Inv X pins σ' H' s' /\ D.bk σ' H'
 | .cont => ∃ σ' H', Inv X pins σ' H' s' /\ D.ct σ' H'
 | .ret u => ∃ v σ' H', Inv X pins σ' H' s' /\ RelV v u /\ D.rt v H'
def PE (X : Cx) (e : Expr) (t : TE) : Prop :=
 ∀ (pins : List (Addr × Obj)) (s : Shared) (σ : St) (H : Hp) (Q : VK), Inv X pins σ H s -> t σ H Q -> wpAny (model X.prog X.w) X.A (eval e X.env) (EP X pins σ Q) X.xe s
def PT (X : Cx) (e : Expr) (t : TT) : Prop :=
 ∀ (pins : List (Addr × Obj)) (s : Shared) (σ : St) (H : Hp) (Q : Bool -> Hp -> Prop), Inv X pins σ H s -> t σ H Q -> wpAny (model X.prog X.w) X.A (isTrue e X.env (eval e X.env)) (TP X pins σ Q) X.xe s
def PW (X : Cx) (e : Expr) (t : TT) : Prop :=
 ∀ (whole : Sem Value) (pins : List (Addr × Obj)) (s : Shared) (σ : St) (H : Hp) (Q : Bool -> Hp -> Prop), Inv X pins σ H s -> t σ H Q -> wpAny (model X.prog X.w) X.A (isTrue e X.env whole) (TP X pins σ Q) X.xe s
theorem PW.pt {X : Cx} {e : Expr} {t : TT} (h : PW X e t) : PT X e t := h _
def PA (X : Cx) (es : List Expr) (t : TA) : Prop :=
 ∀ (pos : Pos) (pins : List (Addr × Obj)) (s : Shared) (σ : St) (H : Hp) (Q : List V -> Hp -> Prop), Inv X pins σ H s -> t σ H Q -> wpAny (model X.prog X.w) X.A (spliced (backTo pos (starEach es X.env))) (AP X pins σ Q) X.xe s
def PS (X : Cx) (st : Stmt) (t : TS) : Prop :=
 ∀ (pins : List (Addr × Obj)) (s : Shared) (σ : St) (H : Hp) (D : Ends), Inv X pins σ H s -> t D σ H -> wpAny (model X.prog X.w) X.A (exec st X.env) (SP X pins D) X.xe s
def PSs (X : Cx) (st : List Stmt) (t : TS) : Prop :=
 ∀ (pins : List (Addr × Obj)) (s : Shared) (σ : St) (H : Hp) (D : Ends), Inv X pins σ H s -> t D σ H -> wpAny (model X.prog X.w) X.A (execs st X.env) (SP X pins D) X.xe s
theorem thn {α : Type} {t : Sem α} {Q Q' : α -> Shared -> Prop} {M : Model} {A : Around} {E : Value -> Shared -> Prop} {s : Shared} (h : wpAny M A t Q E s) (hQ : ∀ a s, Q a s -> Q' a s) : wpAny M A t Q' E s := wpAny_mono h hQ fun _ _ x => x
end L2
namespace L2
open PySem PySem.Spec PyProof.Rows
section
variable {X : Cx}
theorem bin {a b : Expr} {ta tb : TE} (ha : PE X a ta) (hb : PE X b tb) {pins : List (Addr × Obj)} {s : Shared} {σ : St} {H : Hp} {R : V -> V -> Hp -> Prop} (I : Inv X pins σ H s) (h : ta σ H fun x H1 => tb σ H1 fun y H2 => R x y H2)
 {α : Type} {Q : α -> Shared -> Prop} {f : Value -> Value -> Sem α}
 (hf : ∀ v u s2 x y H2, Inv X pins σ H2 s2 -> RelV x v -> RelV y u -> R x y H2 -> wpAny (model X.prog X.w) X.A (f v u) Q X.xe s2) :
 wpAny (model X.prog X.w) X.A (eval a X.env) (fun v s₁ => wpAny (model X.prog X.w) X.A (eval b X.env) (fun u s₂ => wpAny (model X.prog X.w) X.A (f v u) Q X.xe s₂) X.xe s₁) X.xe s := by
 refine thn (ha pins s σ H _ I h) fun v s1 ⟨x, H1, I1, r1, q1⟩ => ?_
 refine thn (hb pins s1 σ H1 _ I1 q1) fun u s2 ⟨y, H2, I2, r2, q2⟩ => ?_
 exact hf v u s2 x y H2 I2 r1 r2 q2
def tVar (i : Nat) : TE := fun σ H Q => ∃ v, σ[i]? = some (some v) /\ Q v H
def tC (v : V) : TE := fun _ H Q => Q v H
theorem c62 {i : Nat} {x : Str} {pos : Pos} (hN : X.N[i]? = some x) (hv : Vis X.env.scope x) (hd : (x == ("__debug__" : Str)) = false := by decide) (hcd : (x == ("__classdict__" : Str)) = false := by decide) : PE X (.Name x pos) (tVar i) := by
 intro pins s σ H Q I h
 obtain ⟨v, e, h⟩ := h
 obtain ⟨m, hn, hl⟩ := I.loc
 obtain ⟨u, r, l⟩ := hl i x v hN e hv
 have fin : EP X pins σ Q u s := ⟨v, H, I, r, h⟩
 rcases l with ⟨hk, hm⟩ | ⟨hk, c, hc, hcell⟩
 ·exact wpAny_Name (wpAny_loadName_local I.ok.kind hk hn hm fin) hd
 ·rcases hk with hk | hk
  ·exact wpAny_Name (wpAny_loadName_cell I.ok.kind hk hc hcell fin) hd
  ·exact wpAny_Name (wpAny_loadName_free I.ok.kind hk hc hcell fin hcd) hd
theorem a0i {i j pos} : PE X (.Constant (.int i) j pos) (tC (.int i)) := fun _ _ _ H _ I h => wpAny_Constant_int ⟨.int i, H, I.tok _, ⟨_, rfl⟩, h⟩
theorem b62 {b j pos} : PE X (.Constant (.bool b) j pos) (tC (.bl b)) := fun _ _ _ H _ I h => Constant_bool ⟨.bl b, H, I, rfl, h⟩
theorem a0u {x j pos} : PE X (.Constant (.str x) j pos) (tC (.str x)) := fun _ _ _ H _ I h => Calls.Constant_str ⟨.str x, H, I.tok _, ⟨_, rfl⟩, h⟩
def Gl (X : Cx) (x : Str) : Prop := X.env.kindOf x = some .globalImplicit
theorem c0t {E : Value -> Shared -> Prop} {pins : List (Addr × Obj)} {s : Shared} {σ : St} {H : Hp} {x : Str} {u : Value} {pos : Pos} {Q : Value -> Shared -> Prop} (I : Inv X pins σ H s) (hg : Gl X x) (hm : X.mg x = some u) (h : Q u s)
 (hd : (x == ("__debug__" : Str)) = false := by decide) : wpAny (model X.prog X.w) X.A (eval (.Name x pos) X.env) Q E s :=
 Calls.Name_function_global I.ok.kind hg (Calls.loadGlobal_global (by rw [I.ok.glob]; exact I.mod.glob.keeps I.bk) hm h) hd
theorem b1Y {E : Value -> Shared -> Prop} {pins : List (Addr × Obj)} {s : Shared} {σ : St} {H : Hp} {x : Str} {u : Value} {pos : Pos} {Q : Value -> Shared -> Prop} (I : Inv X pins σ H s) (hg : Gl X x) (hm : X.mg x = none) (hv : bootBuiltins x = some u) (h : Q u s)
 (hn : x ≠ "__name__" := by decide) (hd : (x == ("__debug__" : Str)) = false := by decide) : wpAny (model X.prog X.w) X.A (eval (.Name x pos) X.env) Q E s := by
 obtain ⟨mb, h1, h2⟩ := I.mod.blt
 exact Calls.Name_function_global I.ok.kind hg (Calls.loadGlobal_builtin (by rw [I.ok.glob]; exact I.mod.glob.keeps I.bk) hm (by rw [I.ok.blt]; exact h1.keeps I.bk) ((h2 x hn).trans hv) h) hd
theorem c0W {x : Str} {v : V} {u : Value} {pos : Pos} (hg : Gl X x) (hm : X.mg x = some u) (r : RelV v u) (hd : (x == ("__debug__" : Str)) = false := by decide) : PE X (.Name x pos) (tC v) :=
 fun _ _ _ H _ I h => c0t I hg hm ⟨v, H, I, r, h⟩ hd
theorem c7l {x : Str} {v : V} {u : Value} {pos : Pos} (hg : Gl X x) (hm : X.mg x = none) (hv : bootBuiltins x = some u) (r : RelV v u) (hn : x ≠ "__name__" := by decide) (hd : (x == ("__debug__" : Str)) = false := by decide) : PE X (.Name x pos) (tC v) :=
 fun _ _ _ H _ I h => b1Y I hg hm hv ⟨v, H, I, r, h⟩ hn hd
variable {a b : Expr} {ta tb : TE} {pos : Pos}
def PC (X : Cx) (op : CmpOp) (a b : Expr) (t : TE) : Prop :=
 ∀ (pins : List (Addr × Obj)) (s : Shared) (σ : St) (H : Hp) (Q : VK), Inv X pins σ H s -> t σ H Q ->
  wpAny (model X.prog X.w) X.A (eval a X.env) (fun v s₁ => wpAny (model X.prog X.w) X.A (eval b X.env) (fun u s₂ => wpAny (model X.prog X.w) X.A (compareOp op v u) (EP X pins σ Q) X.xe s₂) X.xe s₁) X.xe s
theorem c2g (b : Expr) {op : CmpOp} (h : op ≠ .In) (h2 : op ≠ .NotIn) : behindInMarks op b = false := by
 have e1 : (op == CmpOp.In) = false := by cases op <;> first | rfl | exact absurd rfl h
 have e2 : (op == CmpOp.NotIn) = false := by cases op <;> first | rfl | exact absurd rfl h2
 cases b <;> simp [behindInMarks, e1, e2]
def tB (t : TE) : TT := fun σ H Q => t σ H fun x H1 => ∃ c, x = .bl c /\ Q c H1
theorem c3J {op : CmpOp} {t : TE} (h : PC X op a b t) (h1 : behindInMarks op b = false := by first | exact c2g _ (by decide) (by decide) | rfl) : PE X (.Compare a [op] [b] pos) t := fun pins s σ H Q I hw => wpAny_Compare1 (h pins s σ H Q I hw) h1
theorem pt_cmp {op : CmpOp} {t : TE} (h : PC X op a b t) (h1 : behindInMarks op b = false := by first | exact c2g _ (by decide) (by decide) | rfl) : PT X (.Compare a [op] [b] pos) (tB t) := by
 intro pins s σ H Q I hw
 refine wpAny_isTrue_Compare1 (thn (h pins s σ H _ I hw) fun v s1 h1 => thn h1 fun u s2 h2 => thn h2 fun c s3 ⟨x, H1, I1, r1, q1⟩ => ?_) h1
 obtain ⟨d, rfl, q⟩ := q1
 cases r1
 exact wpAny_truthy_bool ⟨H1, I1, q⟩
theorem a05 {e : Expr} {t : TE} (h : PE X e t) (he : ∀ whole, isTrue e X.env whole = (do let v <- whole; standAt e.pos; holding [v] (truthy v)) := by intro _; rfl) : PT X e (tB t) := by
 intro pins s σ H Q I hw
 refine isTrue_plain (thn (h pins s σ H _ I hw) fun v s1 ⟨x, H1, I1, r1, q1⟩ => ?_) (he _)
 obtain ⟨d, rfl, q⟩ := q1
 cases r1
 exact wpAny_truthy_bool ⟨H1, I1, q⟩
variable {tA tB' : TT} {rest : List Expr}
def tAnd (t u : TT) : TT := fun σ H Q => t σ H fun c H1 => if c = true then u σ H1 Q else Q false H1
def tOr (t u : TT) : TT := fun σ H Q => t σ H fun c H1 => if c = true then Q true H1 else u σ H1 Q
def tNot (t : TT) : TT := fun σ H Q => t σ H fun c H1 => Q (!c) H1
theorem c3W (ha : PT X a tA) : PW X (.BoolOp .And [a] pos) tA := by
 intro wh pins s σ H Q I h
 refine isTrue_and (thn (ha pins s σ H Q I h) fun c s1 e => ?_)
 cases c with
 | true => exact isTrue_and_nil e
 | false => exact e
theorem b4q (ha : PT X a tA) : PW X (.BoolOp .Or [a] pos) tA := by
 intro wh pins s σ H Q I h
 refine isTrue_or (thn (ha pins s σ H Q I h) fun c s1 e => ?_)
 cases c with
 | false => exact isTrue_or_nil e
 | true => exact e
theorem c6O (ha : PT X a tA) (hb : PW X (.BoolOp .And (b :: rest) pos) tB') : PW X (.BoolOp .And (a :: b :: rest) pos) (tAnd tA tB') := by
 intro wh pins s σ H Q I h
 refine isTrue_and (thn (ha pins s σ H _ I h) fun c s1 ⟨H1, I1, q1⟩ => ?_)
 cases c with
 | true => exact hb wh pins s1 σ H1 Q I1 q1
 | false => exact ⟨H1, I1, q1⟩
theorem b9E (ha : PT X a tA) (hb : PW X (.BoolOp .Or (b :: rest) pos) tB') : PW X (.BoolOp .Or (a :: b :: rest) pos) (tOr tA tB') := by
 intro wh pins s σ H Q I h
 refine isTrue_or (thn (ha pins s σ H _ I h) fun c s1 ⟨H1, I1, q1⟩ => ?_)
 cases c with
 | true => exact ⟨H1, I1, q1⟩
 | false => exact hb wh pins s1 σ H1 Q I1 q1
theorem a9c (ha : PT X a tA) : PT X (.UnaryOp .Not a pos) (tNot tA) := by
 intro pins s σ H Q I h
 exact isTrue_not (ha pins s σ H (fun c H1 => Q (!c) H1) I h)
def d0g (ta tb : TE) : TE := fun σ H Q => ta σ H fun x H1 => ∃ c, x = .bl c /\ if c = true then tb σ H1 Q else Q (.bl false) H1
def tOrV (ta tb : TE) : TE := fun σ H Q => ta σ H fun x H1 => ∃ c, x = .bl c /\ if c = true then Q (.bl true) H1 else tb σ H1 Q
def c9W (ta : TE) : TE := fun σ H Q => ta σ H fun x H1 => ∃ c, x = .bl c /\ Q (.bl (!c)) H1
theorem a95 {op} {t : TE} (h : PE X a t) : PE X (.BoolOp op [a] pos) t := fun pins s σ H Q I hw => BoolOp_one (h pins s σ H Q I hw)
theorem b1q (ha : PE X a ta) (hb : PE X (.BoolOp .And (b :: rest) pos) tb) : PE X (.BoolOp .And (a :: b :: rest) pos) (d0g ta tb) := by
 intro pins s σ H Q I h
 refine BoolOp_and (thn (ha pins s σ H _ I h) fun v s1 ⟨x, H1, I1, r1, q1⟩ => ?_)
 obtain ⟨c, rfl, q1⟩ := q1
 cases r1
 refine wpAny_truthy_bool ?_
 cases c with
 | true => exact hb pins s1 σ H1 Q I1 q1
 | false => exact ⟨.bl false, H1, I1, rfl, q1⟩
theorem c9u (ha : PE X a ta) (hb : PE X (.BoolOp .Or (b :: rest) pos) tb) : PE X (.BoolOp .Or (a :: b :: rest) pos) (tOrV ta tb) := by
 intro pins s σ H Q I h
 refine BoolOp_or (thn (ha pins s σ H _ I h) fun v s1 ⟨x, H1, I1, r1, q1⟩ => ?_)
 obtain ⟨c, rfl, q1⟩ := q1
 cases r1
 refine wpAny_truthy_bool ?_
 cases c with
 | false => exact hb pins s1 σ H1 Q I1 q1
 | true => exact ⟨.bl true, H1, I1, rfl, q1⟩
theorem c9J (ha : PE X a ta) : PE X (.UnaryOp .Not a pos) (c9W ta) := by
 intro pins s σ H Q I h
 refine UnaryOp_ (thn (ha pins s σ H _ I h) fun v s1 ⟨x, H1, I1, r1, q1⟩ => ?_)
 obtain ⟨c, rfl, q1⟩ := q1
 cases r1
 exact not_of (wpAny_truthy_bool ⟨.bl (!c), H1, I1, rfl, q1⟩)
def tIf (t : TT) (ta tb : TE) : TE := fun σ H Q => t σ H fun c H1 => if c = true then ta σ H1 Q else tb σ H1 Q
theorem b6I {c : Expr} (hc : PT X c tA) (ha : PE X a ta) (hb : PE X b tb) : PE X (.IfExp c a b pos) (tIf tA ta tb) := by
 intro pins s σ H Q I h
 refine wpAny_IfExp (thn (hc pins s σ H _ I h) fun d s1 ⟨H1, I1, q1⟩ => ?_)
 cases d with
 | true => exact ha pins s1 σ H1 Q I1 q1
 | false => exact hb pins s1 σ H1 Q I1 q1
end
end L2
namespace L2
open PySem PySem.Spec PyProof.Rows
def SqL (K : PySem.W.Frag) (H : Hp) (a : Addr) (xs : List V) : Prop :=
 Rd H a (.lst xs) ∨
  ∃ (o : Obj) (its : Array Value) (n : Nat), K.lookup a = some o /\ o.cls = .type "list" /\ o.dict = none /\ o.data = .seq its n /\ its.size <= sizeLine /\ Vals xs its.toList
def SqT (K : PySem.W.Frag) (H : Hp) (a : Addr) (xs : List V) : Prop :=
 Rd H a (.tup xs) ∨
  ∃ (o : Obj) (its : Array Value) (n : Nat), K.lookup a = some o /\ o.cls = .type "tuple" /\ o.data = .seq its n /\ its.size <= sizeLine /\ Vals xs its.toList
def absV : Value -> Option V
 | .none => some .non
 | .bool b => some (.bl b)
 | .int i _ => some (.int i)
 | .str x _ => some (.str x)
 | .bytes b _ => some (.byt b)
 | .float b _ => some (.flt b)
 | .ref a => some (.ref a)
 | .type n => some (.ty n)
 | _ => none
theorem RelV.abs {x : V} {u : Value} (r : RelV x u) : absV u = some x := by
 cases x with
 | non => cases r; rfl
 | bl _ => cases r; rfl
 | int _ => obtain ⟨t, rfl⟩ := r; rfl
 | str _ => obtain ⟨t, rfl⟩ := r; rfl
 | byt _ => obtain ⟨t, rfl⟩ := r; rfl
 | flt _ => obtain ⟨t, rfl⟩ := r; rfl
 | ref _ => cases r; rfl
 | ty _ => cases r; rfl
theorem RelV.inj {x y : V} {u : Value} (r : RelV x u) (q : RelV y u) : x = y := Option.some.inj (r.abs.symm.trans q.abs)
theorem Vals.inj : ∀ {xs ys : List V} {us : List Value}, Vals xs us -> Vals ys us -> xs = ys
 | _, _, _, .nil, .nil => rfl
 | _, _, _, .cons r t, .cons r' t' => by rw [r.inj r', Vals.inj t t']
section
variable {X : Cx} {pins : List (Addr × Obj)} {σ : St} {H : Hp} {s : Shared} {a : Addr} {xs ys : List V}
theorem SqL.of {K : PySem.W.Frag} (h : H a = some (.lst xs)) : SqL K H a xs := .inl (.inl h)
theorem SqT.of {K : PySem.W.Frag} (h : H a = some (.tup xs)) : SqT K H a xs := .inl (.inl h)
theorem Inv.list (I : Inv X pins σ H s) (h : SqL X.K H a xs) : ∃ its : List Value, Vals xs its /\ PlainL s.heap a its.toArray /\ xs.length <= sizeLine := by
 rcases h with h | ⟨o, its, n, hk, hc, hd, hs, hz, r⟩
 ·obtain ⟨z, its, n, r, e⟩ := h.ok I.hok
  exact ⟨its, r, ⟨_, n, e, rfl, rfl, rfl⟩, z⟩
 ·refine ⟨its.toList, r, ⟨o, n, I.kIn a o hk, hc, hd, by simpa using hs⟩, ?_⟩
  have e := r.length
  simp only [Array.length_toList] at e
  omega
theorem Inv.tuple (I : Inv X pins σ H s) (h : SqT X.K H a xs) : ∃ its : List Value, Vals xs its /\ IsTup s.heap a its.toArray /\ xs.length <= sizeLine := by
 rcases h with h | ⟨o, its, n, hk, hc, hs, hz, r⟩
 ·obtain ⟨z, its, r, p⟩ := h.ok I.hok
  exact ⟨its, r, p, z⟩
 ·refine ⟨its.toList, r, ⟨o, I.kIn a o hk, hc, n, by simpa using hs⟩, ?_⟩
  have e := r.length
  simp only [Array.length_toList] at e
  omega
theorem Inv.list_inj (I : Inv X pins σ H s) (h : SqL X.K H a xs) (h' : SqL X.K H a ys) : xs = ys := by
 obtain ⟨its, r, ⟨o, n, e, _, _, d⟩, _⟩ := I.list h
 obtain ⟨its', r', ⟨o', n', e', _, _, d'⟩, _⟩ := I.list h'
 rw [e] at e'; cases e'
 rw [d] at d'
 injection d' with d1 _
 have : its = its' := by simpa using congrArg Array.toList d1
 subst this
 exact r.inj r'
end
abbrev Cx.wish (X : Cx) (E : Value -> Shared -> Prop) : Cx := { X with xe := E }
abbrev Cx.nox (X : Cx) : Cx := X.wish fun _ _ => False
theorem Cx.Ok.wish {X : Cx} (ok : X.Ok) (E : Value -> Shared -> Prop) : (X.wish E).Ok :=
 ⟨ok.mod, ok.kind, ok.glob, ok.blt, ok.above, ok.inj, ok.has, ok.cab, ok.hd, ok.frames, ok.stk, ok.exf, ok.bs, ok.bsz, ok.noex, ok.exfs, ok.funs, ok.frf⟩
theorem Cx.Ok.unwish {X : Cx} {E : Value -> Shared -> Prop} (ok : (X.wish E).Ok) : X.Ok :=
 ⟨ok.mod, ok.kind, ok.glob, ok.blt, ok.above, ok.inj, ok.has, ok.cab, ok.hd, ok.frames, ok.stk, ok.exf, ok.bs, ok.bsz, ok.noex, ok.exfs, ok.funs, ok.frf⟩
section
variable {X : Cx} {pins : List (Addr × Obj)} {σ : St} {H : Hp} {s : Shared} {E : Value -> Shared -> Prop}
theorem Inv.wish (I : Inv X pins σ H s) (E : Value -> Shared -> Prop) : Inv (X.wish E) pins σ H s := ⟨I.ok.wish E, I.os, I.bare, I.base, I.loc, I.cell, I.free, I.freeC, I.pin, I.hok, I.len⟩
theorem Inv.unwish (I : Inv (X.wish E) pins σ H s) : Inv X pins σ H s := ⟨I.ok.unwish, I.os, I.bare, I.base, I.loc, I.cell, I.free, I.freeC, I.pin, I.hok, I.len⟩
theorem SP.unwish {D : Ends} {f : Flow} {s' : Shared} (h : SP (X.wish E) pins D f s') : SP X pins D f s' := by
 cases f with
 | next => obtain ⟨σ', H', I, q⟩ := h; exact ⟨σ', H', I.unwish, q⟩
 | brk => obtain ⟨σ', H', I, q⟩ := h; exact ⟨σ', H', I.unwish, q⟩
 | cont => obtain ⟨σ', H', I, q⟩ := h; exact ⟨σ', H', I.unwish, q⟩
 | ret u => obtain ⟨v, σ', H', I, r, q⟩ := h; exact ⟨v, σ', H', I.unwish, r, q⟩
theorem PSs.nox {st : List Stmt} {t : TS} (h : PSs X.nox st t) : PSs X st t := fun pins s σ H D I hw =>
 wpAny_mono (h pins s σ H D (I.wish _) hw) (fun _ _ q => q.unwish) fun _ _ z => False.elim z
end
section
variable {X : Cx} {st : Stmt} {rest : List Stmt} {t u : TS} {e : Expr} {te : TE} {pos : Pos}
def c8I : TS := fun D σ H => D.nx σ H
def tSeq (t u : TS) : TS := fun D σ H => t { D with nx := u D } σ H
theorem a0p : PSs X [] c8I := fun _ _ σ H _ I h => wpAny_execs_nil ⟨σ, H, I, h⟩
theorem a0e (h1 : PS X st t) (h2 : PSs X rest u) : PSs X (st :: rest) (tSeq t u) := by
 intro pins s σ H D I h
 refine wpAny_execs_cons (thn (h1 pins s σ H { D with nx := u D } I h) fun f s1 q => ?_)
 cases f with
 | next =>
  obtain ⟨σ', H', I', q⟩ := q
  exact h2 pins s1 σ' H' D I' q
 | ret v => exact q
 | brk => exact q
 | cont => exact q
theorem a0g (h1 : PS X st t) : PSs X [st] t := by
 intro pins s σ H D I h
 refine wpAny_execs_cons (thn (h1 pins s σ H D I h) fun f s1 q => ?_)
 cases f with
 | next => exact wpAny_execs_nil q
 | ret v => exact q
 | brk => exact q
 | cont => exact q
theorem Inv.quiet {pins : List (Addr × Obj)} {σ : St} {H : Hp} {s : Shared} (I : Inv X pins σ H s) : interactive X.env = false := by simp [interactive, I.ok.kind]
def c99 (te : TE) : TS := fun D σ H => te σ H fun _ H1 => D.nx σ H1
theorem a0F (he : PE X e te) (hs : swapsWith e none pos.line X.env = pure false := by rfl) : PS X (.Expr e pos) (c99 te) := by
 intro pins s σ H D I h
 exact wpAny_Expr_any (thn (he pins s σ H _ I h) fun v s1 ⟨x, H1, I1, r1, q1⟩ => ⟨σ, H1, I1, q1⟩) I.quiet hs
def tRet (te : TE) : TS := fun D σ H => te σ H D.rt
theorem a0l (he : PE X e te) : PS X (.Return (some e) pos) (tRet te) := by
 intro pins s σ H D I h
 exact wpAny_Return_some (thn (he pins s σ H _ I h) fun v s1 ⟨x, H1, I1, r1, q1⟩ => ⟨x, σ, H1, I1, r1, q1⟩)
def tIfS (c : TT) (t u : TS) : TS := fun D σ H => c σ H fun b H1 => if b = true then t D σ H1 else u D σ H1
theorem a0J {c : Expr} {a b : List Stmt} {tc : TT} (hc : PT X c tc) (ha : PSs X a t) (hb : PSs X b u) : PS X (.If c a b pos) (tIfS tc t u) := by
 intro pins s σ H D I h
 refine wpAny_If (thn (hc pins s σ H _ I h) fun d s1 ⟨H1, I1, q1⟩ => ?_)
 cases d with
 | true => exact ha pins s1 σ H1 D I1 q1
 | false => exact hb pins s1 σ H1 D I1 q1
end
abbrev TG := V -> St -> Hp -> (St -> Hp -> Prop) -> Prop
abbrev TGs := List V -> St -> Hp -> (St -> Hp -> Prop) -> Prop
def PG (X : Cx) (target : Expr) (t : TG) : Prop :=
 ∀ (pins : List (Addr × Obj)) (s : Shared) (σ : St) (H : Hp) (v : V) (u : Value) (Q : St -> Hp -> Prop), Inv X pins σ H s -> RelV v u -> t v σ H Q ->
  wpAny (model X.prog X.w) X.A (assign target X.env u) (fun _ s' => ∃ σ' H', Inv X pins σ' H' s' /\ Q σ' H') X.xe s
def PGs (X : Cx) (ts : List Expr) (t : TGs) : Prop :=
 ∀ (pins : List (Addr × Obj)) (s : Shared) (σ : St) (H : Hp) (vs : List V) (us : List Value) (Q : St -> Hp -> Prop), Inv X pins σ H s -> Vals vs us -> t vs σ H Q ->
  wpAny (model X.prog X.w) X.A (assignInOrder ((assignEach ts X.env).map (·.2)) us) (fun _ s' => ∃ σ' H', Inv X pins σ' H' s' /\ Q σ' H') X.xe s
section
variable {X : Cx} {pos : Pos}
def c4f (i : Nat) : TG := fun v σ H Q => Q (σ.set i (some v)) H
theorem a0Q {i : Nat} {x : Str} (hN : X.N.Nodup) (hi : X.N[i]? = some x) (hx : Loc X.env.scope x) (hf : X.fn x = true ∨ X.env.scope.names.lookup x = some .local := by first | exact .inl rfl | exact .inr rfl | assumption) : PG X (.Name x pos) (c4f i) := by
 intro pins s σ H v u Q I r h
 exact wpAny_assign_Name (b5q I hN hi hx r (fun s' I' => ⟨_, H, I', h⟩) hf)
def gNil : TGs := fun vs σ H Q => vs = [] /\ Q σ H
def c90 (t : TG) (u : TGs) : TGs := fun vs σ H Q => ∃ v r, vs = v :: r /\ t v σ H fun σ' H' => u r σ' H' Q
theorem c0c : PGs X [] gNil := by
 intro pins s σ H vs us Q I r h
 obtain ⟨e, h⟩ := h
 subst e
 cases r
 exact assignInOrder_nil ⟨σ, H, I, h⟩
theorem a2m {e : Expr} {es : List Expr} {t : TG} {u : TGs} (h1 : PG X e t) (h2 : PGs X es u)
 (hs : (assignEach (e :: es) X.env).map (·.2) = assign e X.env :: (assignEach es X.env).map (·.2) := by rfl) : PGs X (e :: es) (c90 t u) := by
 intro pins s σ H vs us Q I r h
 obtain ⟨v, vr, e1, h⟩ := h
 subst e1
 cases r with
 | cons r rr =>
  rw [hs]
  refine assignInOrder_cons (thn (h1 pins s σ H _ _ _ I r h) fun _ s1 ⟨σ1, H1, I1, q1⟩ => ?_)
  exact h2 pins s1 σ1 H1 _ _ Q I1 rr q1
def gTup (K : PySem.W.Frag) (n : Nat) (t : TGs) : TG := fun v σ H Q => ∃ a xs, v = .ref a /\ SqT K H a xs /\ xs.length = n /\ t xs σ H Q
theorem c37 {es : List Expr} {k : Nat} {t : TGs} {n : Nat} (hc : X.calm = true) (h : PGs X es t)
 (hn : (assignEach es X.env).length = n := by rfl) (hst : (assignEach es X.env).findIdx? (·.1) = none := by rfl) : PG X (.Tuple es k pos) (gTup X.K n t) := by
 intro pins s σ H v u Q I r hw
 obtain ⟨a, xs, e1, hq, hl, hw⟩ := hw
 subst e1
 cases r
 obtain ⟨its, rv, ht, hz⟩ := I.tuple hq
 refine assign_Tuple_tuple (I.ok.hd hc) ht (by simp [hn, <- hl, rv.length]) hst fun h' hx => ?_
 have I1 : Inv X pins σ H { s with heap := h' } := I.kept (t' := s.toks) fun b o e => hx b o (Nat.ne_of_lt (Heap.lt_size e)) e
 exact h pins _ σ H xs _ Q I1 (by simpa using rv) hw
def tAsg (te : TE) (g : TG) : TS := fun D σ H => te σ H fun x H1 => g x σ H1 D.nx
theorem c6N {tg e : Expr} {te : TE} {g : TG} (he : PE X e te) (hg : PG X tg g) (hs : swapsWithSole [tg] e pos.line X.env = pure false := by rfl) (hw : swappedStores [tg] e X.env = pure none := by rfl)
 (h1 : (assignEach [tg] X.env).map (·.2) = [assign tg X.env] := by rfl) : PS X (.Assign [tg] e pos) (tAsg te g) := by
 intro pins s σ H D I h
 refine wpAny_Assign_stores (thn (he pins s σ H _ I h) fun v s1 ⟨x, H1, I1, r1, q1⟩ => ?_) hs hw
 rw [h1]
 exact thn (hg pins s1 σ H1 x v _ I1 r1 q1) fun _ s2 q => q
theorem a0B {i : Nat} {x : Str} {e : Expr} {te : TE} {pos' : Pos} (hN : X.N.Nodup) (hi : X.N[i]? = some x) (hx : Loc X.env.scope x) (he : PE X e te) (hs : swapsWith e (some (.Name x pos')) pos.line X.env = pure false := by rfl) (hf : X.fn x = true ∨ X.env.scope.names.lookup x = some .local := by first | exact .inl rfl | exact .inr rfl | assumption) :
 PS X (.Assign [.Name x pos'] e pos) (tAsg te (c4f i)) := by
 intro pins s σ H D I h
 refine wpAny_Assign_Name (thn (he pins s σ H _ I h) fun v s1 ⟨y, H1, I1, r1, q1⟩ => ?_) hs
 exact b5q I1 hN hi hx r1 (fun s2 I2 => ⟨_, H1, I2, q1⟩) hf
end
section
variable {X : Cx} {pos : Pos}
end
structure It where
 go : Nat -> Hp -> Prop
 yld : Nat -> Hp -> V -> Hp -> Prop
 stop : Nat -> Hp -> Prop
def FpOk (X : Cx) (pins : List (Addr × Obj)) (H : Hp) (b : Addr) : Prop :=
 H b = none /\ b ≠ X.env.locals /\ b ∉ X.fs /\ (b ∈ X.ex ∨ X.s₀.heap.objs.size <= b) /\ (∀ x c, X.env.cells.lookup x = some c -> c ≠ b) /\ ∀ p ∈ X.pn ++ pins, p.1 ≠ b
theorem Inv.fpOk {X : Cx} {pins : List (Addr × Obj)} {σ : St} {H H' : Hp} {s : Shared} {b : Addr} (I : Inv X pins σ H s) (hb : s.heap.objs.size <= b) (hn : H' b = none) : FpOk X pins H' b := by
 refine ⟨hn, Nat.ne_of_gt (Nat.lt_of_lt_of_le I.lt hb), I.nofs hb, .inr (Nat.le_trans I.sz hb), fun x c e z => ?_, fun p hp z => ?_⟩
 ·obtain ⟨v, q⟩ := I.cell x c e
  exact absurd (Nat.lt_of_lt_of_le q.lt (by rw [z]; exact hb)) (Nat.lt_irrefl _)
 ·exact absurd (Nat.lt_of_lt_of_le (Heap.lt_size (I.pin p hp).1) (by rw [z]; exact hb)) (Nat.lt_irrefl _)
structure Turn (P : Program) (w : World) (K : PySem.W.Frag) (tg : Expr) (J : It) (fp : List Addr) (it : Addr) (tn : Nat -> Heap -> Prop) : Prop where
 mem : it ∈ fp
 obj : ∀ i h, tn i h -> ∀ b ∈ fp, ∃ o, h.get? b = some o /\ ∀ v, o.data ≠ .cell v
 keep : ∀ i h h', tn i h -> (∀ b ∈ fp, ∀ o, h.get? b = some o -> h'.get? b = some o) -> tn i h'
 item : ∀ (X : Cx), X.prog = P -> X.w = w -> X.K = K -> X.calm = true -> ∀ (i : Nat) (pins : List (Addr × Obj)) (s : Shared) (σ : St) (H : Hp) (E : Value -> Shared -> Prop), Inv X pins σ H s -> (∀ b ∈ fp, FpOk X pins H b) -> tn i s.heap -> J.go i H ->
  wpAny (model P w) X.A (pyNext (.ref it)) (fun r s1 => ∃ u, r = some u /\
   wpAny (model P w) X.A (letOwnedTupleGo tg (.ref it) u) (fun _ s2 => ∃ x H', Inv X pins σ H' s2 /\ RelV x u /\ J.yld i H x H' /\ tn (i + 1) s2.heap /\ ∀ b ∈ fp, H' b = none) E s1) E s
 done : ∀ (X : Cx), X.prog = P -> X.w = w -> X.K = K -> X.calm = true -> ∀ (i : Nat) (pins : List (Addr × Obj)) (s : Shared) (σ : St) (H : Hp) (E : Value -> Shared -> Prop), Inv X pins σ H s -> (∀ b ∈ fp, FpOk X pins H b) -> tn i s.heap -> J.stop i H ->
  wpAny (model P w) X.A (pyNext (.ref it)) (fun r s1 => r = none /\ Inv X pins σ H s1) E s
 self : ∀ (A : Around) (i : Nat) (s : Shared) (Q : Value -> Shared -> Prop) (E : Value -> Shared -> Prop), tn i s.heap -> Q (.ref it) s -> wpAny (model P w) A (pyIter (.ref it)) Q E s
abbrev TI := St -> Hp -> (It -> Hp -> Prop) -> Prop
def PIE (X : Cx) (pins : List (Addr × Obj)) (σ : St) (tg : Expr) (R : It -> Hp -> Prop) (itv : Value) (s2 : Shared) : Prop :=
 ∃ (it : Addr) (fp : List Addr) (tn : Nat -> Heap -> Prop) (J : It) (H' : Hp), itv = .ref it /\ Inv X pins σ H' s2 /\ Turn X.prog X.w X.K tg J fp it tn /\ tn 0 s2.heap /\ (∀ b ∈ fp, FpOk X pins H' b) /\ R J H'
def PI (X : Cx) (tg iter : Expr) (wi : TI) : Prop :=
 ∀ (pins : List (Addr × Obj)) (s : Shared) (σ : St) (H : Hp) (R : It -> Hp -> Prop), Inv X pins σ H s -> wi σ H R ->
  wpAny (model X.prog X.w) X.A (eval iter X.env) (fun v s1 => wpAny (model X.prog X.w) X.A (pyIter v) (PIE X pins σ tg R) X.xe s1) X.xe s
theorem c5O {M : Model} {A : Around} {E : Value -> Shared -> Prop} {s : Shared} {tg : Expr} {it : Addr} {u : Value} {o : Obj} {n : String} {vs : Array Value} {Q : Unit -> Shared -> Prop} (ho : s.heap.get? it = some o) (hc : o.cls = .type n) (hd : o.data = .fields vs)
 (hn : ["enumerate", "zip", "dict_itemiterator", "dict_reverseitemiterator", "odict_iterator", "itertools.zip_longest", "itertools.pairwise"].contains n = false) (hQ : Q () s) : wpAny M A (letOwnedTupleGo tg (.ref it) u) Q E s := by
 unfold letOwnedTupleGo
 cases tg <;> first
  | exact wpAny_pure hQ
  | (cases u <;> first
   | exact wpAny_pure hQ
   | (refine wpAny_bind (wpAny_load ho ?_)
      rw [hc, hd]
      show wpAny M A (if (["enumerate", "zip", "dict_itemiterator", "dict_reverseitemiterator", "odict_iterator", "itertools.zip_longest", "itertools.pairwise"].contains n && vs[0]? == some (rawInt _)) = true then _ else _) Q E s
      rw [if_neg (by intro h; rw [hn, Bool.false_and] at h; cases h)]
      exact wpAny_pure hQ))
def Itl (K : PySem.W.Frag) (a : Addr) : It :=
 ⟨fun i H => ∃ xs x, SqL K H a xs /\ xs[i]? = some x, fun i H x H' => H' = H /\ ∀ xs, SqL K H a xs -> xs[i]? = some x, fun i H => ∃ xs, SqL K H a xs /\ xs.length <= i⟩
def Itr (lo : Int) (n : Nat) : It := ⟨fun i _ => i < n, fun i H x H' => H' = H /\ x = .int (lo + i), fun i _ => n <= i⟩
theorem c48 {P : Program} {w : World} {K : PySem.W.Frag} {tg : Expr} (a it : Addr) : Turn P w K tg (Itl K a) [it] it (fun i h => h.IsListIter it a i) where
 mem := by simp
 obj := fun i h st b hb => by
  have e : b = it := by simpa using hb
  subst e
  obtain ⟨o, e, c, d⟩ := st
  exact ⟨o, e, fun v z => by rw [d] at z; cases z⟩
 keep := fun i h h' st k => st.at fun o e => k it (by simp) o e
 item := by
  intro X hP hw hK hc i pins s σ H E I hf st hg
  subst hP hw hK
  obtain ⟨xs, x, hq, hx⟩ := hg
  obtain ⟨its, rv, p, hz⟩ := I.list hq
  obtain ⟨u, hu, ru⟩ := rv.get hx
  obtain ⟨f0, f1, f2, f3, f4, f5⟩ := hf it (by simp)
  refine wpAny_pyNext_list_item st p.isList (x := u) (by simpa using hu) fun h' st' sb => ?_
  have I1 : Inv X pins σ H { s with heap := h' } := I.turned (t' := s.toks) (fun b o hb e => (sb.2 b hb).trans e) f0 f1 f3 f4 f5
  obtain ⟨o, e, c, d⟩ := id st'
  exact ⟨u, rfl, c5O (s := { s with heap := h' }) e c d (by decide) ⟨x, H, I1, ru, ⟨rfl, fun ys hy => by rw [I.list_inj hy hq]; exact hx⟩, st', fun b hb => (hf b hb).1⟩⟩
 done := by
  intro X hP hw hK hc i pins s σ H E I hf st hg
  subst hP hw hK
  obtain ⟨xs, hq, hx⟩ := hg
  obtain ⟨its, rv, p, hz⟩ := I.list hq
  obtain ⟨f0, f1, f2, f3, f4, f5⟩ := hf it (by simp)
  have hl := rv.length
  exact wpAny_pyNext_list_end (I.ok.hd hc) st p.isList (by simp; omega) fun h' eb => ⟨rfl, I.turned (t' := s.toks) (fun b o hb e => eb b o hb e) f0 f1 f3 f4 f5⟩
 self := fun _ _ _ _ _ st h => wpAny_pyIter_listiter st h
theorem c2W {P : Program} {w : World} {K : PySem.W.Frag} {tg : Expr} (it : Addr) (lo : Int) (n : Nat) : Turn P w K tg (Itr lo n) [it] it (fun i h => IsRangeIter h it (lo + (i : Nat) * 1) ((n : Int) - (i : Nat)) 1) where
 mem := by simp
 obj := fun i h st b hb => by
  have e : b = it := by simpa using hb
  subst e
  exact ⟨_, st, fun v z => by
   have z' : Data.fields _ = Data.cell v := z
   cases z'⟩
 keep := fun i h h' st k => k it (by simp) _ st
 item := by
  intro X hP hw hK hc i pins s σ H E I hf st hg
  subst hP hw hK
  obtain ⟨f0, f1, f2, f3, f4, f5⟩ := hf it (by simp)
  have W := Walks.range (prog := X.prog) (w := X.w) (I.ok.hd hc) it lo 1 n
  refine W.item i s _ _ hg st fun v h' tk hv st' kk => ?_
  obtain ⟨t, rfl⟩ := hv
  have I1 : Inv X pins σ H { s with heap := h', toks := tk } := I.turned (fun b o hb e => kk b o (by simpa using hb) e) f0 f1 f3 f4 f5
  refine ⟨_, rfl, c5O (s := { s with heap := h', toks := tk }) (n := "range_iterator") st' rfl rfl (by decide) ⟨.int (lo + i), H, I1, ⟨t, ?_⟩, ⟨rfl, rfl⟩, st', fun b hb => (hf b hb).1⟩⟩
  rw [Int.mul_one]
 done := by
  intro X hP hw hK hc i pins s σ H E I hf st hg
  subst hP hw hK
  obtain ⟨f0, f1, f2, f3, f4, f5⟩ := hf it (by simp)
  exact wpAny_pyNext_range_end (I.ok.hd hc) st (by have : n <= i := hg; omega) fun h' eb => ⟨rfl, I.turned (t' := s.toks) (fun b o hb e => eb b o hb e) f0 f1 f3 f4 f5⟩
 self := fun _ _ _ _ _ st h => wpAny_pyIter_rangeiter st h
end L2
namespace L2
open PySem PySem.Spec PyProof.Rows
section
variable {X : Cx} {tg : Expr}
def c9X (K : PySem.W.Frag) (tl : TE) : TI := fun σ H R => tl σ H fun x H1 => ∃ a, x = .ref a /\ (∃ xs, SqL K H1 a xs) /\ R (Itl K a) H1
theorem a2F {l : Expr} {tl : TE} (hl : PE X l tl) : PI X tg l (c9X X.K tl) := by
 intro pins s σ H R I h
 refine thn (hl pins s σ H _ I h) fun v s1 ⟨x, H1, I1, r1, q1⟩ => ?_
 obtain ⟨a, e, ⟨xs, hq⟩, q⟩ := q1
 subst e
 cases r1
 obtain ⟨its, rv, p, hz⟩ := I1.list hq
 refine wpAny_pyIter_list p.isList ?_
 refine ⟨s1.heap.objs.size, [s1.heap.objs.size], _, _, H1, rfl, I1.kept (t' := s1.toks) fun b o e => Heap.get?_push_of_some _ e, c48 a _, ⟨_, Heap.get?_push_size _ rfl, rfl, rfl⟩, fun b hb => ?_, q⟩
 have e : b = s1.heap.objs.size := by simpa using hb
 subst e
 exact I1.fpOk (Nat.le_refl _) (I1.hok.fresh (Nat.le_refl _))
theorem c5T {pins : List (Addr × Obj)} {σ : St} {H : Hp} {s : Shared} {R : It -> Hp -> Prop} {E : Value -> Shared -> Prop} {lo hi : Int} {t u v : Tok} {tk : Nat} (I : Inv X pins σ H s) (h1 : -(2 ^ 62) <= lo) (h2 : lo < 2 ^ 62) (h3 : -(2 ^ 62) <= hi) (h4 : hi < 2 ^ 62)
 (q : R (Itr lo (hi - lo).toNat) H) : wpAny (model X.prog X.w) X.A (pyIter (.ref s.heap.objs.size)) (PIE X pins σ tg R) E { s with heap := s.heap.push { cls := .type "range", data := .fields #[.int lo t, .int hi u, .int 1 v] }, toks := tk } := by
 refine wpAny_pyIter_range (IsRange.new ..) (small_one h1 h2 h3 h4) ?_
 have I1 : Inv X pins σ H { s with heap := s.heap.push { cls := .type "range", data := .fields #[.int lo t, .int hi u, .int 1 v] }, toks := tk } := I.kept fun b o e => Heap.get?_push_of_some _ e
 refine ⟨(s.heap.push { cls := .type "range", data := .fields #[.int lo t, .int hi u, .int 1 v] }).objs.size, [(s.heap.push { cls := .type "range", data := .fields #[.int lo t, .int hi u, .int 1 v] }).objs.size], _, _, H, rfl,
  I1.kept (t' := tk) fun b o e => Heap.get?_push_of_some _ e, c2W _ lo (hi - lo).toNat, ?_, fun b hb => ?_, q⟩
 ·have e1 : lo + ((0 : Nat) : Int) * 1 = lo := by simp
  have e2 : (((hi - lo).toNat : Nat) : Int) - ((0 : Nat) : Int) = Builtin.Range.rangeSize lo hi 1 := by rw [rangeSize_one]; split <;> omega
  show IsRangeIter _ _ (lo + ((0 : Nat) : Int) * 1) ((((hi - lo).toNat : Nat) : Int) - ((0 : Nat) : Int)) 1
  rw [e1, e2]
  exact Heap.get?_push_size _ rfl
 ·have e : b = (s.heap.push { cls := .type "range", data := .fields #[.int lo t, .int hi u, .int 1 v] }).objs.size := by simpa using hb
  subst e
  exact I1.fpOk (Nat.le_refl _) (I1.hok.fresh (Nat.le_refl _))
def c91 (ta : TA) : TI := fun σ H R => ta σ H fun vs H1 => ∃ j : Int, vs = [.int j] /\ -(2 ^ 62) <= j /\ j < 2 ^ 62 /\ R (Itr 0 j.toNat) H1
theorem a3H {a : Expr} {ta : TA} {p pos : Pos} (hg : Gl X "range") (hm : X.mg "range" = none) (ha : PA X [a] ta) (hs : starEach [a] X.env = [(false, eval a X.env)] := by rfl) : PI X tg (.Call (.Name "range" p) [a] [] pos) (c91 ta) := by
 intro pins s σ H R I h
 refine Call_ (b1Y I hg hm boot_range (PyProof.Rows.callWith_type1 (thn (ha pos pins s σ H _ I h) fun us s1 ⟨vs, H1, I1, r1, q1⟩ => ?_) hs rfl))
 obtain ⟨j, e, q1, q2, q⟩ := q1
 subst e
 cases r1 with
 | cons r rr =>
  cases rr
  obtain ⟨t, rfl⟩ := r
  exact call_range_1 (c5T I1 (by omega) (by omega) q1 q2 (by simpa using q))
def tFor (wi : TI) (g : TG) (tb : TS) : TS := fun D σ H => wi σ H fun J H1 => ∃ W : Nat -> Nat -> St -> Hp -> Prop, (∃ m, W 0 m σ H1) /\ ∀ i m σ H, W i m σ H ->
 (J.stop i H /\ D.nx σ H) ∨ (J.go i H /\ ∃ N : St -> Hp -> Prop, (∀ σ' H', N σ' H' -> ∃ m', m' < m /\ W (i + 1) m' σ' H') /\ ∀ x H', J.yld i H x H' -> g x σ H' fun σ2 H2 => tb { D with nx := N, ct := N, bk := D.nx } σ2 H2)
def b6T (fp : List Addr) (h : Heap) : List (Addr × Obj) := fp.filterMap fun b => (h.get? b).map fun o => (b, o)
theorem a7s {fp : List Addr} {h : Heap} {b : Addr} {o : Obj} (hb : b ∈ fp) (e : h.get? b = some o) : (b, o) ∈ b6T fp h := List.mem_filterMap.mpr ⟨b, hb, by rw [e]; rfl⟩
theorem c4h {fp : List Addr} {h : Heap} {p : Addr × Obj} (hp : p ∈ b6T fp h) : p.1 ∈ fp /\ h.get? p.1 = some p.2 := by
 obtain ⟨b, hb, e⟩ := List.mem_filterMap.mp hp
 cases q : h.get? b with
 | none => rw [q] at e; cases e
 | some o =>
  rw [q] at e
  have e' : (b, o) = p := Option.some.inj e
  subst e'
  exact ⟨hb, q⟩
theorem Inv.pinned {pins : List (Addr × Obj)} {σ : St} {H : Hp} {s : Shared} {fp : List Addr} (I : Inv X pins σ H s) (hf : ∀ b ∈ fp, FpOk X pins H b) (ho : ∀ b ∈ fp, ∃ o, s.heap.get? b = some o /\ ∀ v, o.data ≠ .cell v) : Inv X (pins ++ b6T fp s.heap) σ H s :=
 I.pins_of fun p hp => (List.mem_append.mp hp).elim (fun z => I.pin p (List.mem_append_right _ z)) fun z => by
  obtain ⟨hb, e⟩ := c4h z
  obtain ⟨f0, f1, f2, _⟩ := hf p.1 hb
  obtain ⟨o, e', d⟩ := ho p.1 hb
  rw [e] at e'; cases e'
  exact ⟨e, f0, f1, f2, d⟩
theorem Inv.unpinned {pins pl : List (Addr × Obj)} {σ : St} {H : Hp} {s : Shared} (I : Inv X (pins ++ pl) σ H s) : Inv X pins σ H s := I.pins_of fun p hp => I.pin p (List.mem_append_right _ (List.mem_append_left _ hp))
theorem a4m {iter : Expr} {body : List Stmt} {wi : TI} {g : TG} {tb : TS} {pos : Pos} (hp : PassesOwn (model X.prog X.w) X.A X.env X.xe) (hc : X.calm = true) (hi : PI X tg iter wi) (hg : PG X tg g) (hb : PSs X body tb)
 (hs : ∀ x, foldedSetIterable iter X.env x = pure x := by intro _; rfl) : PS X (.For tg iter body [] pos) (tFor wi g tb) := by
 intro pins s σ H D I h
 refine wpAny_For (thn (hi pins s σ H _ I h) fun v s1 h1 => thn h1 fun itv s2 h2 => ?_) hs
 obtain ⟨it, fp, tn, J, H2, e, I2, T, st2, f2, W, ⟨m0, w0⟩, turn⟩ := h2
 subst e
 have stat : ∀ {H' : Hp}, (∀ b ∈ fp, H' b = none) -> ∀ b ∈ fp, FpOk X pins H' b := fun hn b hb => ⟨hn b hb, (f2 b hb).2⟩
 refine codeAny_forLoop_any (fun n s' => ∃ i σ' H', Inv X pins σ' H' s' /\ tn i s'.heap /\ (∀ b ∈ fp, H' b = none) /\ W i n σ' H') ?_ m0 ⟨0, σ, H2, I2, st2, fun b hb => (f2 b hb).1, w0⟩
 rintro n s3 ⟨i, σ3, H3, I3, st3, fr3, w3⟩
 rcases turn i n σ3 H3 w3 with ⟨stop, qn⟩ | ⟨go, N, hN, step⟩
 ·refine wpAny_passesOwn hp (thn (T.done X rfl rfl rfl hc i pins s3 σ3 H3 X.xe I3 (stat fr3) st3 stop) fun r s4 ⟨hr, I4⟩ => ?_)
  subst hr
  exact wpAny_execs_nil ⟨σ3, H3, I4, qn⟩
 ·refine wpAny_passesOwn hp (thn (T.item X rfl rfl rfl hc i pins s3 σ3 H3 X.xe I3 (stat fr3) st3 go) fun r s4 ⟨u, hr, h4⟩ => ?_)
  subst hr
  refine wpAny_passesOwn hp (thn h4 fun _ s5 ⟨x, H5, I5, r5, y5, st5, fr5⟩ => ?_)
  have I5' := I5.pinned (stat fr5) (T.obj _ _ st5)
  refine wpAny_passesOwn hp (thn (hg _ s5 σ3 H5 x u _ I5' r5 (step x H5 y5)) fun _ s6 ⟨σ6, H6, I6, q6⟩ => ?_)
  refine wpAny_passesOwn hp (thn (hb _ s6 σ6 H6 _ I6 q6) fun f s7 q7 => ?_)
  have again : ∀ {σ7 : St} {H7 : Hp}, Inv X (pins ++ b6T fp s5.heap) σ7 H7 s7 -> N σ7 H7 -> ∃ m, m < n /\ ∃ i σ' H', Inv X pins σ' H' s7 /\ tn i s7.heap /\ (∀ b ∈ fp, H' b = none) /\ W i m σ' H' := fun {σ7 H7} I7 n7 => by
   obtain ⟨m', hm, w7⟩ := hN σ7 H7 n7
   refine ⟨m', hm, i + 1, σ7, H7, I7.unpinned, T.keep _ _ _ st5 fun b hb o e => (I7.pin (b, o) (List.mem_append_right _ (List.mem_append_right _ (a7s hb e)))).1, fun b hb => ?_, w7⟩
   obtain ⟨o, e, d⟩ := T.obj _ _ st5 b hb
   exact (I7.pin (b, o) (List.mem_append_right _ (List.mem_append_right _ (a7s hb e)))).2.1
  cases f with
  | next => obtain ⟨σ7, H7, I7, n7⟩ := q7; exact again I7 n7
  | cont => obtain ⟨σ7, H7, I7, n7⟩ := q7; exact again I7 n7
  | brk => obtain ⟨σ7, H7, I7, q7⟩ := q7; exact ⟨σ7, H7, I7.unpinned, q7⟩
  | ret v => obtain ⟨x7, σ7, H7, I7, r7, q7⟩ := q7; exact ⟨x7, σ7, H7, I7.unpinned, r7, q7⟩
end
theorem a4r {K : PySem.W.Frag} {a : Addr} {xs : List V} {g : TG} {tb : TS} {D : Ends} {σ : St} {H : Hp} (Pv : Nat -> St -> Hp -> Prop) (h0 : Pv 0 σ H) (hl : ∀ i σ H, i <= xs.length -> Pv i σ H -> SqL K H a xs)
 (hs : ∀ i x σ H, xs[i]? = some x -> Pv i σ H -> g x σ H fun σ2 H2 => tb { D with nx := Pv (i + 1), ct := Pv (i + 1), bk := D.nx } σ2 H2) (hd : ∀ σ H, Pv xs.length σ H -> D.nx σ H) :
 ∃ W : Nat -> Nat -> St -> Hp -> Prop, (∃ m, W 0 m σ H) /\ ∀ i m σ H, W i m σ H ->
  ((Itl K a).stop i H /\ D.nx σ H) ∨ ((Itl K a).go i H /\ ∃ N : St -> Hp -> Prop, (∀ σ' H', N σ' H' -> ∃ m', m' < m /\ W (i + 1) m' σ' H') /\ ∀ x H', (Itl K a).yld i H x H' -> g x σ H' fun σ2 H2 => tb { D with nx := N, ct := N, bk := D.nx } σ2 H2) := by
 refine ⟨fun i m σ H => m = xs.length - i /\ i <= xs.length /\ Pv i σ H, ⟨xs.length, by simp, Nat.zero_le _, h0⟩, ?_⟩
 rintro i m σ H ⟨rfl, hi, p⟩
 have q := hl i σ H hi p
 by_cases hlt : i < xs.length
 ·refine .inr ⟨⟨xs, xs[i], q, by simp [hlt]⟩, Pv (i + 1), fun σ' H' p' => ⟨xs.length - (i + 1), by omega, rfl, hlt, p'⟩, fun x H' y => ?_⟩
  obtain ⟨e, y⟩ := y
  subst e
  exact hs i x σ _ (y xs q) p
 ·have e : i = xs.length := by omega
  subst e
  exact .inl ⟨⟨xs, q, Nat.le_refl _⟩, hd σ H p⟩
theorem a5g {lo : Int} {n : Nat} {g : TG} {tb : TS} {D : Ends} {σ : St} {H : Hp} (Pv : Nat -> St -> Hp -> Prop) (h0 : Pv 0 σ H)
 (hs : ∀ i σ H, i < n -> Pv i σ H -> g (.int (lo + i)) σ H fun σ2 H2 => tb { D with nx := Pv (i + 1), ct := Pv (i + 1), bk := D.nx } σ2 H2) (hd : ∀ σ H, Pv n σ H -> D.nx σ H) :
 ∃ W : Nat -> Nat -> St -> Hp -> Prop, (∃ m, W 0 m σ H) /\ ∀ i m σ H, W i m σ H ->
  ((Itr lo n).stop i H /\ D.nx σ H) ∨ ((Itr lo n).go i H /\ ∃ N : St -> Hp -> Prop, (∀ σ' H', N σ' H' -> ∃ m', m' < m /\ W (i + 1) m' σ' H') /\ ∀ x H', (Itr lo n).yld i H x H' -> g x σ H' fun σ2 H2 => tb { D with nx := N, ct := N, bk := D.nx } σ2 H2) := by
 refine ⟨fun i m σ H => m = n - i /\ i <= n /\ Pv i σ H, ⟨n, by simp, Nat.zero_le _, h0⟩, ?_⟩
 rintro i m σ H ⟨rfl, hi, p⟩
 by_cases hlt : i < n
 ·refine .inr ⟨hlt, Pv (i + 1), fun σ' H' p' => ⟨n - (i + 1), by omega, rfl, hlt, p'⟩, fun x H' y => ?_⟩
  obtain ⟨e, y⟩ := y
  subst e y
  exact hs i σ _ hlt p
 ·have e : i = n := by omega
  subst e
  exact .inl ⟨Nat.le_refl _, hd σ H p⟩
end L2
namespace L2
open PySem PySem.Spec PyProof.Rows
abbrev R2 := V -> V -> Hp -> VK -> Prop
def OpR (X : Cx) (f : Value -> Value -> Sem Value) (r : R2) : Prop :=
 ∀ (pins : List (Addr × Obj)) (s : Shared) (σ : St) (H : Hp) (x y : V) (v u : Value) (Q : VK), Inv X pins σ H s -> RelV x v -> RelV y u -> r x y H Q ->
  wpAny (model X.prog X.w) X.A (f v u) (EP X pins σ Q) X.xe s
def a8g (X : Cx) (f : Value) (r : List V -> Hp -> VK -> Prop) : Prop :=
 ∀ (pins : List (Addr × Obj)) (s : Shared) (σ : St) (H : Hp) (xs : List V) (us : List Value) (Q : VK), Inv X pins σ H s -> Vals xs us -> r xs H Q ->
  wpAny (model X.prog X.w) X.A (call f us) (EP X pins σ Q) X.xe s
def TruR (X : Cx) (r : V -> Hp -> (Bool -> Hp -> Prop) -> Prop) : Prop :=
 ∀ (pins : List (Addr × Obj)) (s : Shared) (σ : St) (H : Hp) (x : V) (v : Value) (Q : Bool -> Hp -> Prop), Inv X pins σ H s -> RelV x v -> r x H Q ->
  wpAny (model X.prog X.w) X.A (truthy v) (TP X pins σ Q) X.xe s
def tOp (r : R2) (ta tb : TE) : TE := fun σ H Q => ta σ H fun x H1 => tb σ H1 fun y H2 => r x y H2 Q
def rI (C : Int -> Int -> Prop) (g : Int -> Int -> V) : R2 := fun x y H Q => ∃ i j, x = .int i /\ y = .int j /\ C i j /\ Q (g i j) H
def rI0 (g : Int -> Int -> V) : R2 := fun x y H Q => ∃ i j, x = .int i /\ y = .int j /\ Q (g i j) H
section
variable {X : Cx} {a b c : Expr} {ta tb tc : TE} {pos : Pos}
theorem binT (ha : PE X a ta) (hb : PE X b tb) {pins : List (Addr × Obj)} {s : Shared} {σ : St} {H : Hp} {R : V -> V -> Hp -> Prop} (I : Inv X pins σ H s)
 (h : ta σ H fun x H1 => tb σ H1 fun y H2 => R x y H2) {Q : Value -> Shared -> Prop} {f : Value -> Value -> Sem Value}
 (hf : ∀ v u s2 x y H2, Inv X pins σ H2 s2 -> RelV x v -> RelV y u -> R x y H2 -> wpAny (model X.prog X.w) X.A (f v u) Q X.xe s2) :
 wpAny (model X.prog X.w) X.A (eval a X.env) (fun v s₁ => wpAny (model X.prog X.w) X.A (eval b X.env) (fun u s₂ => wpAny (model X.prog X.w) X.A (f v u) Q X.xe s₂) X.xe s₁) X.xe s := by
 refine thn (ha pins s σ H _ I h) fun v s1 ⟨x, H1, I1, r1, q1⟩ => ?_
 refine thn (hb pins s1 σ H1 _ I1 q1) fun u s2 ⟨y, H2, I2, r2, q2⟩ => ?_
 exact hf v u s2 x y H2 I2 r1 r2 q2
theorem a0E {op : Operator} {r : R2} (ho : OpR X (binaryOp op) r) (ha : PE X a ta) (hb : PE X b tb) : PE X (.BinOp a op b pos) (tOp r ta tb) := by
 intro pins s σ H Q I h
 exact wpAny_BinOp (binT ha hb I h fun v u s2 x y H2 I2 rx ry q => ho pins s2 σ H2 x y v u Q I2 rx ry q)
theorem opI {f : Value -> Value -> Sem Value} {C : Int -> Int -> Prop} {g : Int -> Int -> Int}
 (rule : ∀ (i j : Int) (t u : Tok) (s : Shared) (Q : Value -> Shared -> Prop) (E : Value -> Shared -> Prop), C i j -> Q (.int (g i j) s.toks) { s with toks := s.toks + 1 } -> wpAny (model X.prog X.w) X.A (f (.int i t) (.int j u)) Q E s) :
 OpR X f (rI C fun i j => .int (g i j)) := by
 intro pins s σ H x y v u Q I rx ry h
 obtain ⟨i, j, rfl, rfl, hc, q⟩ := h
 obtain ⟨t, rfl⟩ := rx
 obtain ⟨t', rfl⟩ := ry
 exact rule i j t t' s _ _ hc ⟨.int (g i j), H, I.tok _, ⟨_, rfl⟩, q⟩
theorem opI0 {f : Value -> Value -> Sem Value} {g : Int -> Int -> Int}
 (rule : ∀ (i j : Int) (t u : Tok) (s : Shared) (Q : Value -> Shared -> Prop) (E : Value -> Shared -> Prop), Q (.int (g i j) s.toks) { s with toks := s.toks + 1 } -> wpAny (model X.prog X.w) X.A (f (.int i t) (.int j u)) Q E s) :
 OpR X f (rI0 fun i j => .int (g i j)) := by
 intro pins s σ H x y v u Q I rx ry h
 obtain ⟨i, j, rfl, rfl, q⟩ := h
 obtain ⟨t, rfl⟩ := rx
 obtain ⟨t', rfl⟩ := ry
 exact rule i j t t' s _ _ ⟨.int (g i j), H, I.tok _, ⟨_, rfl⟩, q⟩
theorem opB0 {f : Value -> Value -> Sem Value} {g : Int -> Int -> Bool}
 (rule : ∀ (i j : Int) (t u : Tok) (s : Shared) (Q : Value -> Shared -> Prop) (E : Value -> Shared -> Prop), Q (.bool (g i j)) s -> wpAny (model X.prog X.w) X.A (f (.int i t) (.int j u)) Q E s) :
 OpR X f (rI0 fun i j => .bl (g i j)) := by
 intro pins s σ H x y v u Q I rx ry h
 obtain ⟨i, j, rfl, rfl, q⟩ := h
 obtain ⟨t, rfl⟩ := rx
 obtain ⟨t', rfl⟩ := ry
 exact rule i j t t' s _ _ ⟨.bl (g i j), H, I, rfl, q⟩
def CDiv (i j : Int) : Prop := 0 < j /\ j < 1073741824
def CPow (i j : Int) : Prop := 0 <= j /\ j <= 1000000 /\ i.natAbs < 2 ^ 64
def CMul (i j : Int) : Prop := (-(2 ^ 64) < i /\ i < 2 ^ 64) ∨ (-(2 ^ 64) < j /\ j < 2 ^ 64)
theorem CMul.ok {i j : Int} (h : CMul i j) : IntMulOk i j := by
 rcases h with ⟨h1, h2⟩ | ⟨h1, h2⟩
 ·exact .of_left (intBits_le_64 h1 h2)
 ·exact .of_right (intBits_le_64 h1 h2)
theorem a2D : OpR X (binaryOp .Add) (rI0 fun i j => .int (i + j)) := opI0 fun _ _ _ _ _ _ _ q => add_int q
theorem a80 : OpR X (binaryOp .Sub) (rI0 fun i j => .int (i - j)) := opI0 fun _ _ _ _ _ _ _ q => sub_int q
theorem b4j : OpR X (binaryOp .Mult) (rI CMul fun i j => .int (i * j)) := opI fun _ _ _ _ _ _ _ hc q => mul_int q hc.ok
theorem b1j : OpR X (binaryOp .FloorDiv) (rI CDiv fun i j => .int (i / j)) := opI fun i j _ _ _ _ _ hc q => by
 have h1 : (0 : Int) < j := hc.1
 have h2 : j < 1073741824 := hc.2
 exact floordiv_int (by omega) (by rw [Int.fdiv_eq_ediv_of_nonneg i (by omega)]; exact q) (.inl (PyProof.noPylong_small (by omega)))
theorem a14 : OpR X (binaryOp .Mod) (rI (fun _ j => 0 < j) fun i j => .int (i % j)) := opI fun i j _ _ _ _ _ hc q => by
 have h1 : (0 : Int) < j := hc
 exact mod_int' (by omega) (by rw [Int.fmod_eq_emod_of_nonneg i (by omega)]; exact q)
theorem c4V : OpR X (binaryOp .Mod) (rI (fun _ j => j ≠ 0) fun i j => .int (i.fmod j)) := opI fun _ _ _ _ _ _ _ hc q => mod_int' hc q
theorem c1S : OpR X (binaryOp .Pow) (rI CPow fun i j => .int (i ^ j.toNat)) := opI fun _ _ _ _ _ _ _ hc q => pow_int_small hc.1 hc.2.1 hc.2.2 q
end
def scal : V -> V -> Bool
 | .non, .non => true | .non, .int _ => true | .int _, .non => true | .non, .bl _ => true | .bl _, .non => true | .non, .str _ => true | .str _, .non => true
 | .int _, .int _ => true | .bl _, .bl _ => true | .str _, .str _ => true | .byt _, .byt _ => true
 | .int _, .str _ => true | .str _, .int _ => true | .bl _, .str _ => true | .str _, .bl _ => true
 | _, _ => false
def rEq : R2 := fun x y H Q => scal x y = true /\ Q (.bl (decide (x = y))) H
def rNe : R2 := fun x y H Q => scal x y = true /\ Q (.bl (!decide (x = y))) H
theorem c4Y {i j : Int} : decide (V.int i = V.int j) = (i == j) := by
 rw [Bool.eq_iff_iff]
 simp
theorem c6W {i j : Bool} : decide (V.bl i = V.bl j) = (i == j) := by
 rw [Bool.eq_iff_iff]
 simp
theorem c49 {i j : Str} : decide (V.str i = V.str j) = (i == j) := by
 rw [Bool.eq_iff_iff]
 simp
theorem c31 {i j : Array UInt8} : decide (V.byt i = V.byt j) = (i.toList == j.toList) := by
 rw [Bool.eq_iff_iff]
 cases i
 cases j
 simp
section
variable {X : Cx} {a b c : Expr} {ta tb tc : TE} {pos : Pos}
theorem a01 {pins : List (Addr × Obj)} {σ : St} {H : Hp} {s : Shared} {Q : VK} {k k' : Bool} (I : Inv X pins σ H s) (q : Q (.bl k) H) (e : k = k') : EP X pins σ Q (.bool k') s := by
 subst e
 exact ⟨.bl k, H, I, rfl, q⟩
theorem a1Y : OpR X (compareOp .Eq) rEq := by
 intro pins s σ H x y v u Q I rx ry h
 obtain ⟨hs, q⟩ := h
 cases x with
 | non =>
  cases rx
  cases y with
  | non => cases ry; exact PySem.EqNone.eq_none_none (a01 I q (by simp))
  | bl j => cases ry; exact PySem.EqNone.eq_none_bool (a01 I q (by simp))
  | int j => obtain ⟨t', rfl⟩ := ry; exact PySem.EqNone.eq_none_int (a01 I q (by simp))
  | str j => obtain ⟨t', rfl⟩ := ry; exact PySem.EqNone.eq_none_str (a01 I q (by simp))
  | _ => exact absurd (show false = true from hs) Bool.false_ne_true
 | bl i =>
  cases rx
  cases y with
  | non => cases ry; exact PySem.EqNone.eq_bool_none (a01 I q (by simp))
  | bl j => cases ry; exact eq_bool (a01 I q c6W)
  | str j => obtain ⟨t', rfl⟩ := ry; exact PySem.EqMixed.eq_bool_str (a01 I q (by simp))
  | _ => exact absurd (show false = true from hs) Bool.false_ne_true
 | int i =>
  obtain ⟨t, rfl⟩ := rx
  cases y with
  | non => cases ry; exact PySem.EqNone.eq_int_none (a01 I q (by simp))
  | int j => obtain ⟨t', rfl⟩ := ry; exact eq_int (a01 I q c4Y)
  | str j => obtain ⟨t', rfl⟩ := ry; exact PySem.EqMixed.eq_int_str (a01 I q (by simp))
  | _ => exact absurd (show false = true from hs) Bool.false_ne_true
 | str i =>
  obtain ⟨t, rfl⟩ := rx
  cases y with
  | non => cases ry; exact PySem.EqNone.eq_str_none (a01 I q (by simp))
  | bl j => cases ry; exact PySem.EqMixed.eq_str_bool (a01 I q (by simp))
  | int j => obtain ⟨t', rfl⟩ := ry; exact PySem.EqMixed.eq_str_int (a01 I q (by simp))
  | str j => obtain ⟨t', rfl⟩ := ry; exact eq_str (a01 I q c49)
  | _ => exact absurd (show false = true from hs) Bool.false_ne_true
 | byt i =>
  obtain ⟨t, rfl⟩ := rx
  cases y with
  | byt j => obtain ⟨t', rfl⟩ := ry; exact PySem.W.eq_bytes (a01 I q c31)
  | _ => exact absurd (show false = true from hs) Bool.false_ne_true
 | _ => cases y <;> exact absurd (show false = true from hs) Bool.false_ne_true
theorem c8j : OpR X (compareOp .NotEq) rNe := by
 intro pins s σ H x y v u Q I rx ry h
 obtain ⟨hs, q⟩ := h
 cases x with
 | non =>
  cases rx
  cases y with
  | non => cases ry; exact PySem.EqNone.ne_none_none (a01 I q (by simp))
  | bl j => cases ry; exact PySem.EqNone.ne_none_bool (a01 I q (by simp))
  | int j => obtain ⟨t', rfl⟩ := ry; exact PySem.EqNone.ne_none_int (a01 I q (by simp))
  | str j => obtain ⟨t', rfl⟩ := ry; exact PySem.EqNone.ne_none_str (a01 I q (by simp))
  | _ => exact absurd (show false = true from hs) Bool.false_ne_true
 | bl i =>
  cases rx
  cases y with
  | non => cases ry; exact PySem.EqNone.ne_bool_none (a01 I q (by simp))
  | bl j => cases ry; exact ne_bool (a01 I q (congrArg not c6W))
  | str j => obtain ⟨t', rfl⟩ := ry; exact PySem.EqMixed.ne_bool_str (a01 I q (by simp))
  | _ => exact absurd (show false = true from hs) Bool.false_ne_true
 | int i =>
  obtain ⟨t, rfl⟩ := rx
  cases y with
  | non => cases ry; exact PySem.EqNone.ne_int_none (a01 I q (by simp))
  | int j => obtain ⟨t', rfl⟩ := ry; exact ne_int (a01 I q (congrArg not c4Y))
  | str j => obtain ⟨t', rfl⟩ := ry; exact PySem.EqMixed.ne_int_str (a01 I q (by simp))
  | _ => exact absurd (show false = true from hs) Bool.false_ne_true
 | str i =>
  obtain ⟨t, rfl⟩ := rx
  cases y with
  | non => cases ry; exact PySem.EqNone.ne_str_none (a01 I q (by simp))
  | bl j => cases ry; exact PySem.EqMixed.ne_str_bool (a01 I q (by simp))
  | int j => obtain ⟨t', rfl⟩ := ry; exact PySem.EqMixed.ne_str_int (a01 I q (by simp))
  | str j => obtain ⟨t', rfl⟩ := ry; exact ne_str (a01 I q (congrArg not c49))
  | _ => exact absurd (show false = true from hs) Bool.false_ne_true
 | byt i =>
  obtain ⟨t, rfl⟩ := rx
  cases y with
  | byt j => obtain ⟨t', rfl⟩ := ry; exact PySem.W.ne_bytes (a01 I q (congrArg not c31))
  | _ => exact absurd (show false = true from hs) Bool.false_ne_true
 | _ => cases y <;> exact absurd (show false = true from hs) Bool.false_ne_true
theorem c58 : OpR X (compareOp .Lt) (rI0 fun i j => .bl (decide (i < j))) := opB0 fun _ _ _ _ _ _ _ q => lt_int q
theorem c3X : OpR X (compareOp .LtE) (rI0 fun i j => .bl (decide (i <= j))) := opB0 fun _ _ _ _ _ _ _ q => le_int q
theorem c2q : OpR X (compareOp .Gt) (rI0 fun i j => .bl (decide (j < i))) := opB0 fun _ _ _ _ _ _ _ q => gt_int q
theorem c9Q : OpR X (compareOp .GtE) (rI0 fun i j => .bl (decide (j <= i))) := opB0 fun _ _ _ _ _ _ _ q => ge_int q
theorem b1T : OpR X (compareOp .In) (fun x y H Q => ∃ i j, x = .str i /\ y = .str j /\ Q (.bl (!(Builtin.Str.occurrences j i 0 j.length 1).isEmpty)) H) := by
 intro pins s σ H x y v u Q I rx ry h
 obtain ⟨i, j, rfl, rfl, q⟩ := h
 obtain ⟨t, rfl⟩ := rx
 obtain ⟨t', rfl⟩ := ry
 exact in_str (a01 I q rfl)
theorem a0A (b : Expr) {op : CmpOp} (h : op ≠ .In := by decide) (h2 : op ≠ .NotIn := by decide) : behindInMarks op b = false := by
 have e1 : (op == CmpOp.In) = false := by cases op <;> first | rfl | exact absurd rfl h
 have e2 : (op == CmpOp.NotIn) = false := by cases op <;> first | rfl | exact absurd rfl h2
 cases b <;> simp [behindInMarks, e1, e2]
theorem a2B {op : CmpOp} {r : R2} (ho : OpR X (compareOp op) r) (ha : PE X a ta) (hb : PE X b tb) (hm : behindInMarks op b = false) : PE X (.Compare a [op] [b] pos) (tOp r ta tb) := by
 intro pins s σ H Q I h
 exact wpAny_Compare1 (binT ha hb I h fun v u s2 x y H2 I2 rx ry q => ho pins s2 σ H2 x y v u Q I2 rx ry q) hm
def c6m (t : TE) : TT := fun σ H Q => t σ H fun x H' => ∃ k, x = .bl k /\ Q k H'
theorem a0v {op : CmpOp} {r : R2} (ho : OpR X (compareOp op) r) (ha : PE X a ta) (hb : PE X b tb) (hm : behindInMarks op b = false) : PT X (.Compare a [op] [b] pos) (c6m (tOp r ta tb)) := by
 intro pins s σ H Q I h
 refine wpAny_isTrue_Compare1 (thn (ha pins s σ H _ I h) fun v s1 ⟨x, H1, I1, r1, q1⟩ => thn (hb pins s1 σ H1 _ I1 q1) fun u s2 ⟨y, H2, I2, r2, q2⟩ =>
  thn (ho pins s2 σ H2 x y v u _ I2 r1 r2 q2) fun c s3 ⟨z, H3, I3, r3, k, e, q3⟩ => ?_) hm
 subst e
 cases r3
 exact wpAny_truthy_bool ⟨H3, I3, q3⟩
def c9K (r r' : R2) (ta tb tc : TE) : TE := fun σ H Q => ta σ H fun x H1 => tb σ H1 fun y H2 => r x y H2 fun z H3 => ∃ k, z = .bl k /\
 (if k = true then tc σ H3 fun w' H4 => r' y w' H4 Q else Q (.bl false) H3)
theorem c1V {op op' : CmpOp} {r r' : R2} (ho : OpR X (compareOp op) r) (ho' : OpR X (compareOp op') r') (ha : PE X a ta) (hb : PE X b tb) (hc : PE X c tc)
 (hm : lastMarks [op, op'] [b, c] = false := by with_unfolding_all rfl) : PT X (.Compare a [op, op'] [b, c] pos) (c6m (c9K r r' ta tb tc)) := by
 intro pins s σ H Q I h
 refine isTrue_chain (thn (ha pins s σ H _ I h) fun v s1 ⟨x, H1, I1, r1, q1⟩ => test_link (thn (hb pins s1 σ H1 _ I1 q1) fun u s2 ⟨y, H2, I2, r2, q2⟩ =>
  thn (ho pins s2 σ H2 x y v u _ I2 r1 r2 q2) fun d s3 ⟨z, H3, I3, r3, k, e, q3⟩ => ?_)) hm
 subst e
 cases r3
 refine wpAny_truthy_bool ?_
 cases k with
 | false =>
  obtain ⟨k', e', q'⟩ := q3
  cases e'
  exact ite_ff ⟨H3, I3, q'⟩
 | true =>
  refine ite_tt (test_last (thn (hc pins s3 σ H3 _ I3 q3) fun w' s4 ⟨z', H4, I4, r4, q4⟩ => thn (ho' pins s4 σ H4 y z' u w' _ I4 r2 r4 q4) fun d' s5 ⟨z2, H5, I5, r5, k2, e2, q5⟩ => ?_))
  subst e2
  cases r5
  exact wpAny_truthy_bool ⟨H5, I5, q5⟩
def TruV (K : PySem.W.Frag) (x : V) (H : Hp) (k : Bool) : Prop :=
 match x with
 | .non => k = false
 | .bl b => k = b
 | .int i => k = (i != 0)
 | .str y => y.length <= sizeLine /\ k = ((y.length : Int) != 0)
 | .byt y => y.size <= sizeLine /\ k = ((y.size : Int) != 0)
 | .ref p => (∃ xs, SqL K H p xs /\ k = !xs.isEmpty) ∨ (∃ xs, SqT K H p xs /\ k = !xs.isEmpty) ∨ ∃ kvs, H p = some (.dK kvs) /\ k = !kvs.isEmpty
 | _ => False
theorem c2n {κ : Type} {kvs : List (κ × V)} {vs : List (κ × Value)} (r : KV kvs vs) : (!vs.isEmpty) = !kvs.isEmpty := by
 cases r <;> rfl
theorem b4d {xs : List V} {its : List Value} (r : Vals xs its) : (!its.toArray.isEmpty) = !xs.isEmpty := by
 cases r <;> simp
theorem b8L : (sizeLine : Nat) < 2 ^ 63 := by rw [sizeLine_eq]; decide
theorem tru_ok : TruR X (fun x H Q => ∃ k, TruV X.K x H k /\ Q k H) := by
 intro pins s σ H x v Q I rx h
 obtain ⟨k, e, q⟩ := h
 have hl := b8L
 have hs : sizeLine = 16777216 := sizeLine_eq
 cases x with
 | non =>
  cases rx
  have e' : k = false := e
  subst e'
  exact truthy_none ⟨H, I, q⟩
 | bl b =>
  cases rx
  have e' : k = b := e
  subst e'
  exact wpAny_truthy_bool ⟨H, I, q⟩
 | int i =>
  obtain ⟨t, rfl⟩ := rx
  have e' : k = (i != 0) := e
  subst e'
  exact PySem.P.truthy_int ⟨H, I, q⟩
 | str y =>
  obtain ⟨t, rfl⟩ := rx
  obtain ⟨hy, e'⟩ : y.length <= sizeLine /\ k = ((y.length : Int) != 0) := e
  subst e'
  exact PySem.P.truthy_str (by omega) ⟨H, I.tok _, q⟩
 | byt y =>
  obtain ⟨t, rfl⟩ := rx
  obtain ⟨hy, e'⟩ : y.size <= sizeLine /\ k = ((y.size : Int) != 0) := e
  subst e'
  exact PySem.W.truthy_bytes (by omega) ⟨H, I.tok _, q⟩
 | ref p =>
  cases rx
  have e' : (∃ xs, SqL X.K H p xs /\ k = !xs.isEmpty) ∨ (∃ xs, SqT X.K H p xs /\ k = !xs.isEmpty) ∨ ∃ kvs, H p = some (.dK kvs) /\ k = !kvs.isEmpty := e
  rcases e' with ⟨xs, hx, e'⟩ | ⟨xs, hx, e'⟩ | ⟨kvs, hx, e'⟩
  ·subst e'
   obtain ⟨its, r, pl, hz⟩ := I.list hx
   have hlen := r.length
   exact wpAny_truthy_list pl.isList (by simp only [List.size_toArray]; omega) ⟨H, I.tok _, by rw [b4d r]; exact q⟩
  ·subst e'
   obtain ⟨its, r, pl, hz⟩ := I.tuple hx
   have hlen := r.length
   exact truthy_tuple pl (by simp only [List.size_toArray]; omega) ⟨H, I.tok _, by rw [b4d r]; exact q⟩
  ·subst e'
   obtain ⟨hz, hS, vs, r, m⟩ : kvs.length <= sizeLine /\ (p == sysModules) = false /\ ∃ vs, KV kvs vs /\ s.heap.DictOf (a0T X.prog X.w) p vs := I.hok p _ hx
   have hlen : kvs.length = vs.length := Paired.length r
   exact wpAny_truthy_dict hS m (by omega) ⟨H, I.tok _, by rw [c2n r]; exact q⟩
 | _ => exact (show False from e).elim
theorem b3o {x : V} {us : List Value} (r : Vals [x] us) : ∃ u, us = [u] /\ RelV x u := by
 cases r with
 | cons r1 r2 => cases r2; exact ⟨_, rfl, r1⟩
theorem c7K {x y : V} {us : List Value} (r : Vals [x, y] us) : ∃ u w', us = [u, w'] /\ RelV x u /\ RelV y w' := by
 cases r with
 | cons r1 r2 =>
  cases r2 with
  | cons r3 r4 => cases r4; exact ⟨_, _, rfl, r1, r3⟩
theorem b5B : a8g X (.builtin "abs") (fun xs H Q => ∃ i, xs = [.int i] /\ Q (.int (if i < 0 then -i else i)) H) := by
 intro pins s σ H xs us Q I r h
 obtain ⟨i, rfl, q⟩ := h
 obtain ⟨u, rfl, t, rfl⟩ := b3o r
 exact call_abs_int fun u tk => ⟨.int (if i < 0 then -i else i), H, I.tok _, ⟨_, rfl⟩, q⟩
theorem c3O (hc : X.calm = true) : a8g X (.builtin "max") (fun xs H Q => ∃ i j, xs = [.int i, .int j] /\ Q (.int (if j > i then j else i)) H) := by
 intro pins s σ H xs us Q I r h
 obtain ⟨i, j, rfl, q⟩ := h
 obtain ⟨u, w', rfl, ⟨t, rfl⟩, ⟨t', rfl⟩⟩ := c7K r
 refine max_two_ints (I.ok.hd hc) fun h' tk k => ⟨_, H, I.kept k, ?_, q⟩
 by_cases hj : j > i
 ·rw [if_pos hj, if_pos hj]; exact ⟨_, rfl⟩
 ·rw [if_neg hj, if_neg hj]; exact ⟨_, rfl⟩
theorem c3A (hc : X.calm = true) : a8g X (.builtin "min") (fun xs H Q => ∃ i j, xs = [.int i, .int j] /\ Q (.int (if j < i then j else i)) H) := by
 intro pins s σ H xs us Q I r h
 obtain ⟨i, j, rfl, q⟩ := h
 obtain ⟨u, w', rfl, ⟨t, rfl⟩, ⟨t', rfl⟩⟩ := c7K r
 refine min_two_ints (I.ok.hd hc) fun h' tk k => ⟨_, H, I.kept k, ?_, q⟩
 by_cases hj : j < i
 ·rw [if_pos hj, if_pos hj]; exact ⟨_, rfl⟩
 ·rw [if_neg hj, if_neg hj]; exact ⟨_, rfl⟩
theorem b66 : a8g X (.type "int") (fun xs H Q => (∃ i, xs = [.int i] /\ Q (.int i) H) ∨ ∃ k, xs = [.bl k] /\ Q (.int (if k then 1 else 0)) H) := by
 intro pins s σ H xs us Q I r h
 rcases h with ⟨i, rfl, q⟩ | ⟨k, rfl, q⟩
 ·obtain ⟨u, rfl, t, rfl⟩ := b3o r
  exact call_int_int ⟨.int i, H, I, ⟨_, rfl⟩, q⟩
 ·obtain ⟨u, rfl, r1⟩ := b3o r
  cases r1
  exact call_int_bool ⟨.int (if k then 1 else 0), H, I.tok _, ⟨_, rfl⟩, q⟩
theorem a7d : a8g X (.type "str") (fun xs H Q => ∃ i, xs = [.int i] /\ i.natAbs.log2 < 1920 /\ Q (.str (toString i)) H) := by
 intro pins s σ H xs us Q I r h
 obtain ⟨i, rfl, hz, q⟩ := h
 obtain ⟨u, rfl, t, rfl⟩ := b3o r
 exact PySem.P.str_of_int hz ⟨.str _, H, I.tok _, ⟨_, rfl⟩, q⟩
def LenV (K : PySem.W.Frag) (x : V) (H : Hp) (n : Nat) : Prop :=
 match x with
 | .str y => y.length <= sizeLine /\ n = y.length
 | .byt y => y.size <= sizeLine /\ n = y.size
 | .ref p => (∃ xs, SqL K H p xs /\ n = xs.length) ∨ ∃ xs, SqT K H p xs /\ n = xs.length
 | _ => False
theorem a1f : a8g X (.builtin "len") (fun xs H Q => ∃ x n, xs = [x] /\ LenV X.K x H n /\ Q (.int n) H) := by
 intro pins s σ H xs us Q I r h
 obtain ⟨x, n, rfl, e, q⟩ := h
 obtain ⟨u, rfl, rx⟩ := b3o r
 have hl := b8L
 have hs : sizeLine = 16777216 := sizeLine_eq
 cases x with
 | str y =>
  obtain ⟨t, rfl⟩ := rx
  obtain ⟨hy, e'⟩ : y.length <= sizeLine /\ n = y.length := e
  subst e'
  exact len_str (by omega) ⟨.int _, H, I.tok _, ⟨_, rfl⟩, q⟩
 | byt y =>
  obtain ⟨t, rfl⟩ := rx
  obtain ⟨hy, e'⟩ : y.size <= sizeLine /\ n = y.size := e
  subst e'
  exact PySem.W.len_bytes (by omega) ⟨.int _, H, I.tok _, ⟨_, rfl⟩, q⟩
 | ref p =>
  cases rx
  have e' : (∃ xs, SqL X.K H p xs /\ n = xs.length) ∨ ∃ xs, SqT X.K H p xs /\ n = xs.length := e
  rcases e' with ⟨xs, hx, e'⟩ | ⟨xs, hx, e'⟩
  ·subst e'
   obtain ⟨its, r', pl, hz⟩ := I.list hx
   have hlen := r'.length
   exact Calls.call_len_list pl.isList (by simp only [List.size_toArray]; omega) ⟨.int xs.length, H, I.tok _, ⟨_, by simp only [List.size_toArray]; rw [hlen]⟩, q⟩
  ·subst e'
   obtain ⟨its, r', pl, hz⟩ := I.tuple hx
   have hlen := r'.length
   exact len_tuple pl (by simp only [List.size_toArray]; omega) ⟨.int xs.length, H, I.tok _, ⟨_, by simp only [List.size_toArray]; rw [hlen]⟩, q⟩
 | _ => exact (show False from e).elim
end
end L2
namespace L2
open PySem PySem.Spec PyProof.Rows
structure ObjM (h : Heap) (x dx C : Addr) (mA : Str -> Option Value) : Prop where
 obj : h.get? x = some (PySem.W.instObj C dx)
 ns : h.Ns1 dx mA
 ne : dx ≠ x
theorem c42 {h : Heap} {dx : Addr} {mA : Str -> Option Value} (n : h.Ns1 dx mA) : ∃ od, h.get? dx = some od /\ ∀ name, PySem.W.lookIn name od = some (mA name) := by
 obtain ⟨o, es, ep, ho, hd, hk, _, hm⟩ := n
 refine ⟨o, ho, fun name => ?_⟩
 have e := hm name
 unfold nsFind findBy at e
 rw [<- Array.find?_toList] at e
 unfold PySem.W.lookIn
 rw [hd]
 dsimp only
 split
 ·rename_i y q
  rw [q] at e
  exact congrArg some e
 ·rename_i q
  rw [q] at e
  have a : es.toList.any (·.refKey) = false := by
   rw [List.any_eq_false]
   intro y hy
   obtain ⟨z, t, hkey⟩ := hk y (Array.mem_toList_iff.mp hy)
   simp [DictEntry.refKey, hkey]
  have a' : ¬ es.toList.any (·.refKey) = true := by rw [a]; exact Bool.false_ne_true
  rw [if_neg a']
  exact congrArg some e
theorem ObjM.look {h : Heap} {x dx C : Addr} {mA : Str -> Option Value} (I : ObjM h x dx C mA) : ∃ od, PySem.W.InstAt h x (PySem.W.instObj C dx) C (some od) /\ ∀ name, PySem.W.lookIn name od = some (mA name) :=
 let ⟨od, ho, hl⟩ := c42 I.ns
 ⟨od, ⟨I.obj, rfl, rfl, ho⟩, hl⟩
section
variable {prog : Program} {w : World} {A : Around} {E : Value -> Shared -> Prop} {s : Shared} {K : PySem.W.Frag} {x dx C f : Addr} {mA : Str -> Option Value} {name : Str} {v : Value}
theorem c7a {expr : Bool} {Q : Value -> Shared -> Prop} (X : K.In s.heap) (I : ObjM s.heap x dx C mA) (hg : PySem.W.plainGet K C name = true) (hh : PySem.W.hasDictIn K C = true)
 (ha : PySem.W.findIn K (.ref C) name = some none) (hv : mA name = some v) (hv' : PySem.W.handedIn v = true) (h : Q v { s with toks := s.toks + 1 }) :
 wpAny (model prog w) A (getAttr (.ref x) name expr) Q E s := by
 obtain ⟨od, J, hl⟩ := I.look
 exact PySem.W.get_value X J (PySem.W.plainGet_of hg).1 (PySem.W.findObj_own hh ha rfl (by rw [hl, hv])) hv' h
theorem c5Y {pl : Sem Bool} {Q : Value × List Value -> Shared -> Prop} (X : K.In s.heap) (I : ObjM s.heap x dx C mA) (hg : PySem.W.plainGet K C name = true)
 (hf : PySem.W.findIn K (.ref C) name = some (some (.ref f))) (ht : PySem.W.isFn K (.ref f) = true) (hv : mA name = none) (h : Q (.ref f, [.ref x]) s) :
 wpAny (model prog w) A (getMethod (.ref x) name pl) Q E s := by
 obtain ⟨od, J, hl⟩ := I.look
 exact PySem.W.method_fn X J (PySem.W.plainGet_of hg).1 (PySem.W.plainGet_of hg).2 hf (beq_iff_eq.mp ht) (by show (PySem.W.lookIn name od).map (·.isSome) = some false; rw [hl, hv]; rfl) h
theorem c77 {ns : List Str} {Q : Unit -> Shared -> Prop} (X : K.In s.heap) (I : ObjM s.heap x dx C mA)
 (hs : PySem.W.findIn K (.ref C) "__setattr__" = some (some (.builtin "object.__setattr__"))) (hp : PySem.W.plainOver K C = true) (ht : PySem.W.takerIn K C name = some none) (hh : PySem.W.hasDictIn K C = true)
 (hw : PySem.Within mA ns) (hsz : ns.length <= sizeLine)
 (h : ∀ h', ObjM h' x dx C (fun y => if y = name then some v else mA y) -> Heap.SameBut dx s.heap h' -> Q () { s with heap := h', toks := s.toks + 2 }) :
 wpAny (model prog w) A (setAttr (.ref x) name v) Q E s := by
 obtain ⟨od, J, hl⟩ := I.look
 refine PySem.W.set_plain X J hs (PySem.W.osa_open (s := { s with toks := s.toks + 1 }) (r := none) X J hp ht fun b => ?_)
 obtain ⟨cd, hc, hd'⟩ := PySem.W.any_some hh
 have hx : s.heap.get? x = some ⟨.ref C, some dx, .plain, #[]⟩ := I.obj
 refine wpAny_bind (wpAny_pure (wpAny_bind (wpAny_bind (wpAny_loadPart hx (wpAny_bind (PySem.W.Looks.here (s := { s with toks := s.toks + 1 }) (PySem.W.looks_clsIn X hc) ?_))))))
 rw [hd']
 refine wpAny_pure (a := some dx) (wpAny_bind (wpAny_pure (wpAny_bind ?_)))
 refine wpAny_nsSet1 (s := { s with toks := s.toks + 1 }) I.ns fun h' hn2 hs2 => ?_
 obtain ⟨oD, esD, epD, hoD, hdD, hcD⟩ := hn2.count (PySem.Within.cons name v hw)
 refine wpAny_bind (wpAny_lookBehind hoD (by rw [hdD]; exact pastItsLine_dict (Nat.le_trans hcD (by rw [List.length_cons]; omega))) ?_)
 exact wpAny_pure (h _ ⟨(hs2.2 _ (Ne.symm I.ne)).trans I.obj, hn2, I.ne⟩ hs2)
theorem c55 {R : Result -> Shared -> Prop} {vs : List Value} {kw : List (Str × Value)} (X : K.In s.heap) (hm : PySem.W.makesIn K C = true)
 (hi : PySem.W.findIn K (.ref C) "__init__" = some (some (.ref f))) (hf : PySem.W.typeIn K (.ref f) = some (.type "function"))
 (h : codeAny (model prog w) (A.under (.builtin "type.__call__" ⟨.ref C :: vs, kw⟩)) (.call (.ref f) ⟨.ref (s.heap.objs.size + 1) :: vs, kw⟩) (PySem.W.InitBack (s.heap.objs.size + 1) R)
  { s with heap := (s.heap.push PySem.W.emptyDict).push (PySem.W.instObj C s.heap.objs.size) }) :
 codeAny (model prog w) A (.call (.ref C) ⟨vs, kw⟩) R s := by
 obtain ⟨hh, g, d, t, os⟩ := s
 exact PySem.W.make_core (PySem.W.makes_of X hm) (PySem.W.looks_findIn X hi) (fun self => PySem.W.bind_fn X self hf) (.inl rfl) h
end
def putF (f : Str) (v : V) : List (Str × V) -> List (Str × V)
 | [] => [(f, v)]
 | (g, x) :: r => if g = f then (g, v) :: r else (g, x) :: putF f v r
theorem a0f (f g : Str) (v : V) : ∀ fs : List (Str × V), (putF f v fs).lookup g = if g = f then some v else fs.lookup g
 | [] => by
  show List.lookup g [(f, v)] = _
  by_cases h : g = f
  ·have hb : (g == f) = true := beq_iff_eq.mpr h
   simp only [List.lookup, hb, if_pos h]
  ·have hb : (g == f) = false := beq_eq_false_iff_ne.mpr h
   simp only [List.lookup, hb, if_neg h]
 | (k, x) :: r => by
  have ih := a0f f g v r
  rw [show putF f v ((k, x) :: r) = (if k = f then (k, v) :: r else (k, x) :: putF f v r) from rfl]
  by_cases hk : k = f
  ·rw [if_pos hk]
   by_cases h : g = k
   ·have hb : (g == k) = true := beq_iff_eq.mpr h
    simp only [List.lookup, hb, if_pos (h.trans hk)]
   ·have hb : (g == k) = false := beq_eq_false_iff_ne.mpr h
    simp only [List.lookup, hb, if_neg (fun e : g = f => h (e.trans hk.symm))]
  ·rw [if_neg hk]
   by_cases h : g = k
   ·have hb : (g == k) = true := beq_iff_eq.mpr h
    simp only [List.lookup, hb, if_neg (fun e : g = f => hk (h.symm.trans e))]
   ·have hb : (g == k) = false := beq_eq_false_iff_ne.mpr h
    simp only [List.lookup, hb]
    exact ih
theorem b1i (f : Str) (v : V) : ∀ fs : List (Str × V), f ∈ (putF f v fs).map (·.1) /\ ∀ g, g ∈ fs.map (·.1) -> g ∈ (putF f v fs).map (·.1)
 | [] => ⟨by simp [putF], fun g h => by simp at h⟩
 | (k, x) :: r => by
  obtain ⟨i1, i2⟩ := b1i f v r
  rw [show putF f v ((k, x) :: r) = (if k = f then (k, v) :: r else (k, x) :: putF f v r) from rfl]
  by_cases hk : k = f
  ·rw [if_pos hk]
   subst hk
   exact ⟨by simp, fun g h => by simpa using h⟩
  ·rw [if_neg hk]
   refine ⟨?_, fun g h => ?_⟩
   ·rw [List.map_cons]
    exact List.mem_cons_of_mem _ i1
   ·rw [List.map_cons] at h ⊢
    rcases List.mem_cons.mp h with e | e
    ·exact List.mem_cons.mpr (.inl e)
    ·exact List.mem_cons_of_mem _ (i2 g e)
theorem b1D (f : Str) (v : V) : ∀ fs : List (Str × V), (putF f v fs).length <= fs.length + 1
 | [] => by simp [putF]
 | (k, x) :: r => by
  have ih := b1D f v r
  rw [show putF f v ((k, x) :: r) = (if k = f then (k, v) :: r else (k, x) :: putF f v r) from rfl]
  by_cases hk : k = f
  ·rw [if_pos hk, List.length_cons, List.length_cons]; omega
  ·rw [if_neg hk, List.length_cons, List.length_cons]; omega
theorem RelO.some_of {v : V} {o : Option Value} (r : RelO (some v) o) : ∃ u, o = some u /\ RelV v u := by
 cases o with
 | none => exact (show False from r).elim
 | some u => exact ⟨u, rfl, r⟩
theorem RelO.none_of {o : Option Value} (r : RelO none o) : o = none := by
 cases o with
 | none => rfl
 | some u => exact (show False from r).elim
theorem c4M {v : V} {u : Value} (r : RelV v u) : PySem.W.handedIn u = true := by
 cases v with
 | non => cases (show u = Value.none from r); rfl
 | bl b => cases (show u = Value.bool b from r); rfl
 | int i => obtain ⟨t, e⟩ := (show ∃ t, u = Value.int i t from r); cases e; rfl
 | str x => obtain ⟨t, e⟩ := (show ∃ t, u = Value.str x t from r); cases e; rfl
 | byt b => obtain ⟨t, e⟩ := (show ∃ t, u = Value.bytes b t from r); cases e; rfl
 | flt b => obtain ⟨t, e⟩ := (show ∃ t, u = Value.float b t from r); cases e; rfl
 | ref a => cases (show u = Value.ref a from r); rfl
 | ty n => cases (show u = Value.type n from r); rfl
section
variable {P : Program} {w : World} {H H' : Hp} {h h' : Heap} {a C dx : Addr} {fs fs' : List (Str × V)}
theorem b2K (hok : HOk P w H h) (e : H a = some (.ins C dx fs)) : ∃ mA, ObjM h a dx C mA /\ (∀ f, RelO (fs.lookup f) (mA f)) /\ PySem.Within mA (fs.map (·.1)) /\ fs.length <= 1000 /\ H dx = some (.own a) := by
 obtain ⟨d, z, ne, ob, mA, n, r, q⟩ := (show a2X P w H h a (.ins C dx fs) from hok a _ e)
 exact ⟨mA, ⟨ob, n, ne⟩, r, q, z, d⟩
end
structure Cls (K : PySem.W.Frag) (C : Addr) : Prop where
 pg : PySem.W.plainGet K C Str.empty = true
 hd : PySem.W.hasDictIn K C = true
 po : PySem.W.plainOver K C = true
 sa : PySem.W.findIn K (.ref C) "__setattr__" = some (some (.builtin "object.__setattr__"))
theorem Cls.get {K : PySem.W.Frag} {C : Addr} (c : Cls K C) (f : Str) : PySem.W.plainGet K C f = true := c.pg
def a1m (K : PySem.W.Frag) (C : Addr) (f : Str) : Prop := PySem.W.findIn K (.ref C) f = some none
theorem a1m.taker {K : PySem.W.Frag} {C : Addr} {f : Str} (n : a1m K C f) : PySem.W.takerIn K C f = some none := by
 unfold PySem.W.takerIn
 rw [show PySem.W.findIn K (.ref C) f = some none from n]
 rfl
structure Con (K : PySem.W.Frag) (C : Addr) (f : Str) (v : V) (u : Value) : Prop where
 at_ : PySem.W.findIn K (.ref C) f = some (some u)
 rel : RelV v u
 get : PySem.W.specialIn K u "__get__" = some none
 cp : PySem.W.copiedNames.contains f = false
structure Meth (K : PySem.W.Frag) (C : Addr) (m : Str) (f : Addr) : Prop where
 at_ : PySem.W.findIn K (.ref C) m = some (some (.ref f))
 fn : PySem.W.isFn K (.ref f) = true
 kp : PySem.W.keepIn K (.ref f) = true
section
variable {X : Cx} {pins : List (Addr × Obj)} {σ : St} {H : Hp} {s : Shared} {a C dx : Addr} {fs : List (Str × V)} {f : Str} {v : V} {A : Around} {E : Value -> Shared -> Prop}
theorem a9v {b : Bool} {Q : Value -> Shared -> Prop} (I : Inv X pins σ H s) (e : H a = some (.ins C dx fs)) (c : Cls X.K C) (n : a1m X.K C f) (l : fs.lookup f = some v)
 (h : ∀ u s', Inv X pins σ H s' -> RelV v u -> Q u s') : wpAny (model X.prog X.w) A (getAttr (.ref a) f b) Q E s := by
 obtain ⟨mA, O, r, _, _, _⟩ := b2K I.hok e
 obtain ⟨u, hu, ru⟩ := RelO.some_of (v := v) (o := mA f) (by rw [<- l]; exact r f)
 exact c7a I.kIn O (c.get f) c.hd n hu (c4M ru) (h u _ (I.tok _) ru)
theorem b4h {m : Str} {g : Addr} {pl : Sem Bool} {Q : Value × List Value -> Shared -> Prop} (I : Inv X pins σ H s) (e : H a = some (.ins C dx fs)) (c : Cls X.K C) (k : Meth X.K C m g) (l : fs.lookup m = none)
 (h : Q (.ref g, [.ref a]) s) : wpAny (model X.prog X.w) A (getMethod (.ref a) m pl) Q E s := by
 obtain ⟨mA, O, r, _, _, _⟩ := b2K I.hok e
 have hn : mA m = none := RelO.none_of (by rw [<- l]; exact r m)
 exact c5Y I.kIn O (c.get m) k.at_ k.fn hn h
theorem c2I {y : V} {u : Value} {Q : Unit -> Shared -> Prop} (I : Inv X pins σ H s) (e : H a = some (.ins C dx fs)) (c : Cls X.K C) (n : a1m X.K C f) (hl : fs.length < 1000) (ry : RelV y u)
 (h : ∀ s', Inv X pins σ (upd H a (.ins C dx (putF f y fs))) s' -> Q () s') : wpAny (model X.prog X.w) A (setAttr (.ref a) f u) Q E s := by
 obtain ⟨mA, O, r, wi, _, ho⟩ := b2K I.hok e
 have hz : (fs.map (·.1)).length <= sizeLine := by rw [List.length_map, sizeLine_eq]; omega
 refine c77 I.kIn O c.sa c.po n.taker c.hd wi hz fun h' O' sb => h _ ?_
 have hd : ∃ o, h'.get? dx = some o := let ⟨o, _, _, e', _⟩ := O'.ns; ⟨o, e'⟩
 refine I.write (x := a) (e := dx) (by rw [e]; exact True.intro) (.inr ho) (fun b q hb z => (sb.2 b hb).trans z) hd ?_
 refine ⟨by rw [a0m O.ne]; exact ho, ?_, O.ne, O'.obj, _, O'.ns, fun g => ?_, fun g hg => ?_⟩
 ·have := b1D f y fs; omega
 ·show RelO ((putF f y fs).lookup g) (if g = f then some u else mA g)
  rw [a0f]
  by_cases q : g = f
  ·rw [if_pos q, if_pos q]; exact ry
  ·rw [if_neg q, if_neg q]; exact r g
 ·by_cases q : g = f
  ·rw [q]; exact (b1i f y fs).1
  ·refine (b1i f y fs).2 g (wi g fun z => hg ?_)
   show (if g = f then some u else mA g) = none
   rw [if_neg q]; exact z
theorem Inv.made (I : Inv X pins σ H s) : Inv X pins σ (upd (upd H s.heap.objs.size (.own (s.heap.objs.size + 1))) (s.heap.objs.size + 1) (.ins C s.heap.objs.size []))
 { s with heap := (s.heap.push PySem.W.emptyDict).push (PySem.W.instObj C s.heap.objs.size) } := by
 have e1 : (s.heap.push PySem.W.emptyDict).get? s.heap.objs.size = some PySem.W.emptyDict := Heap.get?_push_size s.heap rfl
 have e2 : ((s.heap.push PySem.W.emptyDict).push (PySem.W.instObj C s.heap.objs.size)).get? (s.heap.objs.size + 1) = some (PySem.W.instObj C s.heap.objs.size) := by
  have := Heap.get?_push_size (s.heap.push PySem.W.emptyDict) (o := PySem.W.instObj C s.heap.objs.size) rfl
  rwa [Heap.size_push] at this
 have e3 : (s.heap.push PySem.W.emptyDict).Ns s.heap.objs.size (fun _ => none) := ⟨PySem.W.emptyDict, #[], _, e1, rfl, (fun e he => absurd he (by simp)), fun _ => rfl⟩
 have I1 := I.laid (a := s.heap.objs.size) (o := .own (s.heap.objs.size + 1)) (h' := s.heap.push PySem.W.emptyDict) (t' := s.toks) (fun b u q => Heap.get?_push_of_some _ q) (Nat.le_refl _) ⟨_, e1⟩
 refine I1.laid (a := s.heap.objs.size + 1) (o := .ins C s.heap.objs.size []) (t' := s.toks) (fun b u q => Heap.get?_push_of_some _ q) (Nat.le_of_eq (Heap.size_push _ _)) ?_
 have ne : s.heap.objs.size ≠ s.heap.objs.size + 1 := Nat.ne_of_lt (Nat.lt_succ_self _)
 refine ⟨by rw [a0m ne, a0d], Nat.zero_le _, ne, e2, fun _ => none, (Heap.Ns1.of_empty e3).at fun o q => Heap.get?_push_of_some _ q, fun _ => True.intro, fun y hy => absurd rfl hy⟩
theorem c7q {prog : Program} {w : World} {env : Env} {e : Expr} {f : Str} {pos : Pos} {s : Shared} {Q : Value -> Shared -> Prop} (hb : attributeBase e f env (eval e env) = eval e env)
 (h : wpAny (model prog w) A (eval e env) (fun o s₁ => wpAny (model prog w) A (getAttr o f true) Q E s₁) E s) : wpAny (model prog w) A (eval (.Attribute e f pos) env) Q E s :=
 Attribute_any_ h (by rw [arm_eval_Attribute, hb])
end
def tFld (K : PySem.W.Frag) (ta : TE) (f : Str) : TE := fun σ H Q => ta σ H fun x H1 => ∃ a C dx fs v, x = .ref a /\ H1 a = some (.ins C dx fs) /\ Cls K C /\ a1m K C f /\ fs.lookup f = some v /\ Q v H1
def sFld (K : PySem.W.Frag) (ta tv : TE) (f : Str) : TS := fun D σ H => tv σ H fun y H1 => ta σ H1 fun x H2 => ∃ a C dx fs, x = .ref a /\ H2 a = some (.ins C dx fs) /\ Cls K C /\ a1m K C f /\ fs.length < 1000 /\
 D.nx σ (upd H2 a (.ins C dx (putF f y fs)))
section
variable {X : Cx} {o e value : Expr} {f : Str} {pos pos' tpos : Pos} {ta tv : TE}
theorem a5u (he : PE X e ta) (hb : attributeBase e f X.env (eval e X.env) = eval e X.env) : PE X (.Attribute e f pos) (tFld X.K ta f) := by
 intro pins s σ H Q I h
 refine c7q hb (thn (he pins s σ H _ I h) fun u s1 ⟨x, H1, I1, rx, a, C, dx, fs, v, ex, ea, c, n, l, q⟩ => ?_)
 subst ex
 obtain rfl : u = Value.ref a := rx
 exact a9v I1 ea c n l fun u' s2 I2 ru => ⟨v, H1, I2, ru, q⟩
theorem a6U (ha : PE X o ta) (hv : PE X value tv) (hs : swapsWith value (some (.Attribute o f pos')) pos.line X.env = pure false) : PS X (.Assign [.Attribute o f pos'] value pos) (sFld X.K ta tv f) := by
 intro pins s σ H D I h
 refine plainObj_wpAny_Assign_Attribute (thn (hv pins s σ H _ I h) fun u s1 ⟨y, H1, I1, ry, q⟩ => thn (ha pins s1 σ H1 _ I1 q) fun ov s2 ⟨x, H2, I2, rx, a, C, dx, fs, ex, ea, c, n, l, q2⟩ => ?_) hs
 subst ex
 obtain rfl : ov = Value.ref a := rx
 exact c2I I2 ea c n l ry fun s3 I3 => ⟨σ, _, I3, q2⟩
end
section
variable {X : Cx} {pins : List (Addr × Obj)} {σ : St} {H : Hp} {s : Shared} {A : Around} {E : Value -> Shared -> Prop} {Q : Value -> Shared -> Prop} {c : Value} {b : Bool}
inductive TyOf (K : PySem.W.Frag) (H : Hp) : V -> Value -> Prop where
 | non : TyOf K H .non (.type "NoneType")
 | bl (x : Bool) : TyOf K H (.bl x) (.type "bool")
 | int (i : Int) : TyOf K H (.int i) (.type "int")
 | str (x : Str) : TyOf K H (.str x) (.type "str")
 | flt (x : UInt64) : TyOf K H (.flt x) (.type "float")
 | lst {a : Addr} {xs : List V} (e : H a = some (.lst xs)) : TyOf K H (.ref a) (.type "list")
 | frz {a : Addr} {o : Obj} {xs : List V} (e : H a = some (.frz o (.lst xs))) : TyOf K H (.ref a) (.type "list")
 | tup {a : Addr} {xs : List V} (e : H a = some (.tup xs)) : TyOf K H (.ref a) (.type "tuple")
 | dK {a : Addr} {kvs : List (Key × V)} (e : H a = some (.dK kvs)) : TyOf K H (.ref a) (.type "dict")
 | dT {a : Addr} {kvs : List (List Key × V)} (e : H a = some (.dT kvs)) : TyOf K H (.ref a) (.type "dict")
 | ins {a C dx : Addr} {fs : List (Str × V)} (e : H a = some (.ins C dx fs)) (cl : Cls K C) (ha : PySem.W.findIn K (.ref C) "__class__" = some (some (.builtin "object.__class__")))
  (hn : PySem.W.specialIn K (.builtin "object.__class__") "__get__" = some (some (.builtin "getset_descriptor.__get__"))) (htk : PySem.W.takesIn K (.builtin "object.__class__") = some true)
  (hm : PySem.W.mroIn K C (.type "object") = some true) : TyOf K H (.ref a) (.ref C)
end
end L2
namespace L2
open PySem PySem.Spec PyProof.Rows
structure Room (k : Nat) (A : Around) : Prop where
 hd : A.handled = none
 dp : A.depth + 3 * k + 5 < recursionLimit
 un : A.units + 16 * k + 200 < cLine
theorem Room.mono {j k : Nat} {A : Around} (r : Room k A) (h : j <= k) : Room j A := ⟨r.hd, by have := r.dp; omega, by have := r.un; omega⟩
theorem Room.deeper {k : Nat} {A : Around} (r : Room (k + 1) A) (env : Env) : Room k (A.deeper env) :=
 ⟨r.hd, by have := r.dp; show A.depth + 1 + 3 * k + 5 < _; omega, by have := r.un; show A.units + 3 + 16 * k + 200 < _; omega⟩
theorem c2M {A : Around} {C : Addr} {us : List Value} {kw : List (Str × Value)} : (A.under (.builtin "type.__call__" ⟨.ref C :: us, kw⟩)).depth = A.depth + 1 := by
 first | rfl | simp [Around.under, Code.weight, Code.isCreation, Code.isGuard, Code.isCaller, Code.frames, Code.isFrame, guardIds]
theorem c2J {A : Around} {C : Addr} {us : List Value} {kw : List (Str × Value)} : (A.under (.builtin "type.__call__" ⟨.ref C :: us, kw⟩)).units = A.units + 1 := by
 first | rfl | simp [Around.under, Code.cUnits, Code.frames, Code.isFrame]
theorem Room.make {k : Nat} {A : Around} (r : Room (k + 1) A) (C : Addr) (us : List Value) (kw : List (Str × Value)) : Room k (A.under (.builtin "type.__call__" ⟨.ref C :: us, kw⟩)) :=
 ⟨r.hd, by have := r.dp; rw [c2M]; omega, by have := r.un; rw [c2J]; omega⟩
theorem Room.depth {k : Nat} {A : Around} (r : Room k A) : A.depth < recursionLimit := by have := r.dp; omega
theorem Room.units {k : Nat} {A : Around} (r : Room k A) : A.units + 64 < cLine := by have := r.un; omega
def tNil : TA := fun _ H Q => Q [] H
def a8j (ta : TE) (tr : TA) : TA := fun σ H Q => ta σ H fun x H1 => tr σ H1 fun xs H2 => Q (x :: xs) H2
section
variable {X : Cx} {e : Expr} {es : List Expr} {te : TE} {t : TA} {pos : Pos}
theorem a0c : PA X [] tNil := fun _ _ _ _ H Q I h => Calls.spliced_nil ⟨[], H, I, .nil, h⟩
theorem a0a (ha : PE X e te) (hr : PA X es t) (hs : starEach (e :: es) X.env = (false, eval e X.env) :: starEach es X.env := by rfl) : PA X (e :: es) (a8j te t) := by
 intro pos pins s σ H Q I h
 rw [hs]
 show wpAny _ _ (spliced ((false, eval e X.env) :: backTo pos (starEach es X.env))) _ _ s
 refine Calls.spliced_cons (thn (ha pins s σ H _ I h) fun u s1 ⟨x, H1, I1, r1, q1⟩ => ?_)
 exact thn (hr pos pins s1 σ H1 _ I1 q1) fun us s2 ⟨xs, H2, I2, r2, q2⟩ => ⟨x :: xs, H2, I2, .cons r1 r2, q2⟩
def tTup (t : TA) : TE := fun σ H Q => t σ H fun xs H1 => xs.length <= sizeLine /\ ∀ p, H1 p = none -> Q (.ref p) (upd H1 p (.tup xs))
def tLst (t : TA) : TE := fun σ H Q => t σ H fun xs H1 => xs.length <= sizeLine /\ ∀ p, H1 p = none -> Q (.ref p) (upd H1 p (.lst xs))
theorem a16 {x1} (h : PA X es t) : PE X (.Tuple es x1 pos) (tTup t) := by
 intro pins s σ H Q I hq
 refine wpAny_Tuple_spliced (thn (h pos pins s σ H _ I hq) fun us s1 ⟨xs, H1, I1, r, z, q⟩ => ⟨by rw [<- r.length]; exact z, ?_⟩)
 have hf : H1 s1.heap.objs.size = none := I1.hok.fresh (Nat.le_refl _)
 refine ⟨.ref s1.heap.objs.size, upd H1 s1.heap.objs.size (.tup xs), I1.laid (t' := s1.toks) (fun b u e => Heap.get?_push_of_some _ e) (Nat.le_refl _) ?_, rfl, q _ hf⟩
 exact ⟨z, us, r, ⟨_, Heap.get?_push_size _ rfl, rfl, _, rfl⟩⟩
theorem a1G (h : PA X es t) : PE X (.List es pos) (tLst t) := by
 intro pins s σ H Q I hq
 refine wpAny_List_spliced (thn (h pos pins s σ H _ I hq) fun us s1 ⟨xs, H1, I1, r, z, q⟩ => ⟨by rw [<- r.length]; exact z, ?_⟩)
 have hf : H1 s1.heap.objs.size = none := I1.hok.fresh (Nat.le_refl _)
 refine ⟨.ref s1.heap.objs.size, upd H1 s1.heap.objs.size (.lst xs), I1.laid (t' := s1.toks) (fun b u e => Heap.get?_push_of_some _ e) (Nat.le_refl _) ?_, rfl, q _ hf⟩
 exact ⟨z, us, 0, r, Heap.get?_push_size _ rfl⟩
end
abbrev Sp := List V -> Hp -> VK -> XK -> Prop
abbrev CXT := List Env -> Hp -> Shared -> XK -> Value -> Shared -> Prop
structure Env0 (P : Program) (w : World) (K : PySem.W.Frag) (mg : Str -> Option Value) (base : Heap) (A : Around) (outer : List Env) (s : Shared) (H : Hp) : Prop where
 frames : A.frames = some outer
 mod : Mod K mg base
 bs : ∀ b o, base.get? b = some o -> s.heap.get? b = some o /\ H b = none
 bsz : base.objs.size <= s.heap.objs.size
 funs : s.heap.FunFrames base outer
 frf : ∀ b ∈ frs outer, H b = none
 hok : HOk P w H s.heap
 bare : AllBare s.gens
def CE (outer : List Env) (P : Program) (w : World) (H : Hp) (s : Shared) (Q : VK) (u : Value) (s' : Shared) : Prop :=
 ∃ v H', s'.os = s.os /\ AllBare s'.gens /\ Un (frs outer) [] H H' s.heap s'.heap /\ HOk P w H' s'.heap /\ RelV v u /\ Q v H'
def CR (CX : CXT) (outer : List Env) (P : Program) (w : World) (H : Hp) (s : Shared) (Q : VK) (E : XK) (r : Result) (s' : Shared) : Prop :=
 match r with
 | .ok (.ret u) => CE outer P w H s Q u s'
 | .ok _ => False
 | .error e => CX outer H s E e s'
structure FnOk (P : Program) (w : World) (K : PySem.W.Frag) (mg : Str -> Option Value) (base : Heap) (CX : CXT) (k : Nat) (f : Addr) (fd : FuncData) (ps : List Str) (sp : Sp) : Prop where
 len : ∀ vs H Q E, sp vs H Q E -> vs.length = ps.length
 run : ∀ (A : Around) (outer : List Env) (s : Shared) (H : Hp) (args : Args) (us : List Value) (vs : List V) (Q : VK) (E : XK), Room k A -> Env0 P w K mg base A outer s H -> BindsTo s fd args (ps.zip us) -> Vals vs us -> sp vs H Q E ->
  codeAny (model P w) A (.call (.ref f) args) (CR CX outer P w H s Q E) s
theorem FnOk.mono {P : Program} {w : World} {K : PySem.W.Frag} {mg : Str -> Option Value} {base : Heap} {CX : CXT} {j k : Nat} {f : Addr} {fd : FuncData} {ps : List Str} {sp : Sp} (F : FnOk P w K mg base CX j f fd ps sp) (h : j <= k) :
 FnOk P w K mg base CX k f fd ps sp := ⟨F.len, fun A outer s H args us vs Q E hr => F.run A outer s H args us vs Q E (hr.mono h)⟩
theorem Env0.make {P : Program} {w : World} {K : PySem.W.Frag} {mg : Str -> Option Value} {base : Heap} {A : Around} {outer : List Env} {s : Shared} {H : Hp} (e : Env0 P w K mg base A outer s H) (C : Addr) (us : List Value) (kw : List (Str × Value)) :
 Env0 P w K mg base (A.under (.builtin "type.__call__" ⟨.ref C :: us, kw⟩)) outer s H := ⟨by first | exact e.frames | (simpa [Around.under, Code.envs, Code.isFrame, pushEnvs] using e.frames), e.mod, e.bs, e.bsz, e.funs, e.frf, e.hok, e.bare⟩
section
variable {X : Cx} {pins : List (Addr × Obj)} {σ : St} {H : Hp} {s s' : Shared}
theorem Inv.env0 (I : Inv X pins σ H s) : Env0 X.prog X.w X.K X.mg X.base X.A X.stack s H :=
 ⟨I.ok.frames, I.ok.mod, I.bs, Nat.le_trans I.ok.bsz I.sz, I.stack, I.stkFree, I.hok, I.bare⟩
theorem Inv.after {Q : VK} {u : Value} (I : Inv X pins σ H s) (h : CE X.stack X.prog X.w H s Q u s') : EP X pins σ Q u s' := by
 obtain ⟨v, H', os, bare, un, hok, r, q⟩ := h
 obtain ⟨hh, g, d, t, os'⟩ := s'
 obtain rfl : os' = s.os := os
 exact ⟨v, H', I.call (h' := hh) (g' := g) (d' := d) (t' := t) (ch := []) un hok bare (fun b z => absurd z (by simp)), r, q⟩
end
def b6S (sp : Sp) (dvs : List V) (E : XK) (t : TA) : TE := fun σ H Q => t σ H fun vs H1 => sp (vs ++ dvs) H1 Q E
def c83 (C : Addr) (sp : Sp) (dvs : List V) (E : XK) (t : TA) : TE := fun σ H Q => t σ H fun vs H1 => ∀ x dx, H1 x = none -> H1 dx = none -> dx ≠ x ->
 sp (.ref x :: (vs ++ dvs)) (upd (upd H1 dx (.own x)) x (.ins C dx [])) (fun v H2 => v = .non /\ Q (.ref x) H2) E
def b2z (K : PySem.W.Frag) (fd : FuncData) (ps : List Str) (ds : List Value) : Prop :=
 ∀ (s : Shared) (us : List Value), K.In s.heap -> (us ++ ds).length = ps.length -> BindsTo s fd ⟨us, []⟩ (ps.zip (us ++ ds))
theorem b2z.all {K : PySem.W.Frag} {fd : FuncData} {ps : List Str} (h : ∀ us : List Value, us.length = ps.length -> bindArgs fd ⟨us, []⟩ = pure (ps.zip us)) : b2z K fd ps [] := fun s us _ hl => by
 rw [List.append_nil] at hl ⊢
 exact .of_eq (h us hl)
def a7M (CX : CXT) (X : Cx) (E : XK) : Prop := ∀ (pins : List (Addr × Obj)) (σ : St) (H : Hp) (s : Shared) (e : Value) (s' : Shared), Inv X pins σ H s -> CX X.stack H s E e s' -> X.xe e s'
section
variable {X : Cx} {CX : CXT} {k : Nat} {f C : Addr} {fd : FuncData} {ps : List Str} {sp : Sp} {dvs : List V} {ds : List Value} {E : XK} {x m : Str} {p pos apos : Pos} {e o : Expr} {es : List Expr} {ta : TE} {t : TA}
theorem c16 {pins : List (Addr × Obj)} {σ : St} {H : Hp} {s : Shared} {Q : VK} {us : List Value} {vs : List V} (F : FnOk X.prog X.w X.K X.mg X.base CX k f fd ps sp) (hr : Room k X.A) (hb : b2z X.K fd ps ds) (hd : Vals dvs ds) (hx : a7M CX X E)
 (I : Inv X pins σ H s) (r : Vals vs us) (h : sp (vs ++ dvs) H Q E) : wpAny (model X.prog X.w) X.A (call (.ref f) us) (EP X pins σ Q) X.xe s := by
 have r2 : Vals (vs ++ dvs) (us ++ ds) := r.append hd
 have hl : (us ++ ds).length = ps.length := by rw [<- r2.length]; exact F.len _ _ _ _ h
 refine wpAny_call (codeAny_mono (F.run X.A X.stack s H ⟨us, []⟩ (us ++ ds) (vs ++ dvs) Q E hr I.env0 (hb s us I.kIn hl) r2 h) fun r s' hq => ?_)
 cases r with
 | error e => exact hx pins σ H s e s' I hq
 | ok fl =>
  cases fl with
  | ret u => exact I.after hq
  | next => exact False.elim hq
  | brk => exact False.elim hq
  | cont => exact False.elim hq
theorem c7c (F : FnOk X.prog X.w X.K X.mg X.base CX k f fd ps sp) (hr : Room k X.A) (hg : Gl X x) (hm : X.mg x = some (.ref f)) (hk : PySem.W.keepIn X.K (.ref f) = true) (hb : b2z X.K fd ps ds) (hd : Vals dvs ds) (hx : a7M CX X E)
 (ha : PA X (e :: es) t) (hdb : (x == ("__debug__" : Str)) = false := by decide) (he : starEach (e :: es) X.env = (false, eval e X.env) :: starEach es X.env := by rfl) (hpl : (backTo pos (starEach es X.env)).any (·.1) = false := by rfl) :
 PE X (.Call (.Name x p) (e :: es) [] pos) (b6S sp dvs E t) := by
 intro pins s σ H Q I h
 refine wpAny_Call_Name_kw (c0t I hg hm ?_ hdb)
 refine PySem.W.callWith_K (h₀ := X.base) I.ok.mod.kin hk (thn (ha pos pins s σ H _ I h) fun us s1 ⟨vs, H1, I1, r, q⟩ => ⟨I1.kIn, ?_⟩) he hpl
 exact c16 F hr hb hd hx I1 r q
structure Mk (K : PySem.W.Frag) (C f : Addr) : Prop where
 makes : PySem.W.makesIn K C = true
 init : PySem.W.findIn K (.ref C) "__init__" = some (some (.ref f))
 fn : PySem.W.isFn K (.ref f) = true
 kp : PySem.W.keepIn K (.ref C) = true
theorem c6H {pins : List (Addr × Obj)} {σ : St} {H : Hp} {s : Shared} {Q : VK} {us : List Value} {vs : List V} (M : Mk X.K C f) (F : FnOk X.prog X.w X.K X.mg X.base CX k f fd ps sp) (hr : Room (k + 1) X.A) (hb : b2z X.K fd ps ds) (hd : Vals dvs ds)
 (hx : a7M CX X E) (I : Inv X pins σ H s) (r : Vals vs us)
 (h : ∀ x dx, H x = none -> H dx = none -> dx ≠ x -> sp (.ref x :: (vs ++ dvs)) (upd (upd H dx (.own x)) x (.ins C dx [])) (fun v H2 => v = .non /\ Q (.ref x) H2) E) :
 wpAny (model X.prog X.w) X.A (call (.ref C) us) (EP X pins σ Q) X.xe s := by
 have hq := h (s.heap.objs.size + 1) s.heap.objs.size (I.hok.fresh (Nat.le_succ _)) (I.hok.fresh (Nat.le_refl _)) (Nat.ne_of_lt (Nat.lt_succ_self _))
 have I2 := Inv.made (C := C) I
 have r2 : Vals (V.ref (s.heap.objs.size + 1) :: (vs ++ dvs)) (Value.ref (s.heap.objs.size + 1) :: (us ++ ds)) := .cons rfl (r.append hd)
 have hl : (Value.ref (s.heap.objs.size + 1) :: us ++ ds).length = ps.length := by
  have e := r2.length
  rw [F.len _ _ _ _ hq] at e
  exact e.symm
 refine wpAny_call (c55 (f := f) I.kIn M.makes M.init (beq_iff_eq.mp M.fn) (codeAny_mono (F.run _ X.stack _ _ ⟨Value.ref (s.heap.objs.size + 1) :: us, []⟩ (Value.ref (s.heap.objs.size + 1) :: (us ++ ds)) _ _ E (hr.make C us [])
  (I2.env0.make C us []) (hb _ (Value.ref (s.heap.objs.size + 1) :: us) I2.kIn hl) r2 hq) fun r s' hq' => ?_))
 cases r with
 | error e => exact hx pins σ _ _ e s' I2 hq'
 | ok fl =>
  cases fl with
  | ret u =>
   obtain ⟨v, H', I3, rv, ev, q3⟩ := I2.after hq'
   subst ev
   exact ⟨rv, ⟨V.ref (s.heap.objs.size + 1), H', I3, rfl, q3⟩⟩
  | next => exact False.elim hq'
  | brk => exact False.elim hq'
  | cont => exact False.elim hq'
theorem c78 (M : Mk X.K C f) (F : FnOk X.prog X.w X.K X.mg X.base CX k f fd ps sp) (hr : Room (k + 1) X.A) (hg : Gl X x) (hm : X.mg x = some (.ref C)) (hb : b2z X.K fd ps ds) (hd : Vals dvs ds) (hx : a7M CX X E)
 (ha : PA X (e :: es) t) (hdb : (x == ("__debug__" : Str)) = false := by decide) (he : starEach (e :: es) X.env = (false, eval e X.env) :: starEach es X.env := by rfl) (hpl : (backTo pos (starEach es X.env)).any (·.1) = false := by rfl) :
 PE X (.Call (.Name x p) (e :: es) [] pos) (c83 C sp dvs E t) := by
 intro pins s σ H Q I h
 refine wpAny_Call_Name_kw (c0t I hg hm ?_ hdb)
 refine PySem.W.callWith_K (h₀ := X.base) I.ok.mod.kin M.kp (thn (ha pos pins s σ H _ I h) fun us s1 ⟨vs, H1, I1, r, q⟩ => ⟨I1.kIn, ?_⟩) he hpl
 exact c6H M F hr hb hd hx I1 r q
end
section
variable {X : Cx} {CX : CXT} {k : Nat} {f C : Addr} {fd : FuncData} {ps ks : List Str} {sp : Sp} {E : XK} {x m : Str} {p pos apos kpos : Pos} {e o : Expr} {es : List Expr} {kws : List Keyword} {te ta : TE} {t tk : TA} {nm : Option Str}
structure KBinds (K : PySem.W.Frag) (fd : FuncData) (ps ks : List Str) (g : List Value -> List Value -> List Value) (gV : List V -> List V -> List V) : Prop where
 to : ∀ (s : Shared) (us ws : List Value), K.In s.heap -> (g us ws).length = ps.length -> BindsTo s fd ⟨us, ks.zip ws⟩ (ps.zip (g us ws))
 rel : ∀ {vs : List V} {us : List Value} {zs : List V} {ws : List Value}, Vals vs us -> Vals zs ws -> Vals (gV vs zs) (g us ws)
variable {g : List Value -> List Value -> List Value} {gV : List V -> List V -> List V}
end
structure a0o (N P : List Str) (sc : Scope) : Prop where
 kind : sc.kind = .function
 co : sc.isCoroutine = false
 gen : sc.isGenerator = false
 nd : N.Nodup
 pre : N.take P.length = P
 par : ∀ x ∈ P, sc.names.lookup x = some .local ∨ sc.names.lookup x = some .cell
 nofree : ∀ y ∈ sc.names, y.2 ≠ .free
theorem b7o {kindOf : Str -> Option NameKind} {x : Str} : ∀ {binds : List (Str × Value)} {m : Str -> Option Value}, (∀ v, (x, v) ∉ binds) -> bindL kindOf binds m x = m x
 | [], _, _ => rfl
 | (n, v) :: r, m, h => by
  unfold bindL
  rw [b7o fun w hw => h w (List.mem_cons_of_mem _ hw)]
  split
  ·have : x ≠ n := by rintro rfl; exact h v List.mem_cons_self
   simp [this]
  ·rfl
theorem b7n {kindOf : Str -> Option NameKind} {x : Str} : ∀ {binds : List (Str × Value)} {m : Str -> Option Value}, (∀ v, (x, v) ∉ binds) -> bindC kindOf binds m x = m x
 | [], _, _ => rfl
 | (n, v) :: r, m, h => by
  unfold bindC
  rw [b7n fun w hw => h w (List.mem_cons_of_mem _ hw)]
  split
  ·rfl
  ·have : x ≠ n := by rintro rfl; exact h v List.mem_cons_self
   simp [this]
theorem b7D {kindOf : Str -> Option NameKind} {x : Str} {v : Value} : ∀ {P : List Str} {vs : List Value} {i : Nat} {m : Str -> Option Value}, P.Nodup -> P[i]? = some x -> vs[i]? = some v -> kindOf x = some .local ->
 bindL kindOf (P.zip vs) m x = some v
 | [], _, _, _, _, h, _, _ => by simp at h
 | _ :: _, [], _, _, _, _, h, _ => by simp at h
 | p :: P, w :: vs, 0, m, nd, h1, h2, hk => by
  simp at h1 h2; subst h1; subst h2
  show bindL kindOf ((p, w) :: P.zip vs) m p = _
  unfold bindL
  rw [b7o fun v hv => (List.nodup_cons.mp nd).1 (List.of_mem_zip hv).1, if_pos hk]
  simp
 | p :: P, w :: vs, i + 1, m, nd, h1, h2, hk => by
  show bindL kindOf ((p, w) :: P.zip vs) m x = _
  unfold bindL
  exact b7D (i := i) (List.nodup_cons.mp nd).2 (by simpa using h1) (by simpa using h2) hk
theorem b7x {kindOf : Str -> Option NameKind} {x : Str} {v : Value} : ∀ {P : List Str} {vs : List Value} {i : Nat} {m : Str -> Option Value}, P.Nodup -> P[i]? = some x -> vs[i]? = some v -> kindOf x ≠ some .local ->
 bindC kindOf (P.zip vs) m x = some v
 | [], _, _, _, _, h, _, _ => by simp at h
 | _ :: _, [], _, _, _, _, h, _ => by simp at h
 | p :: P, w :: vs, 0, m, nd, h1, h2, hk => by
  simp at h1 h2; subst h1; subst h2
  show bindC kindOf ((p, w) :: P.zip vs) m p = _
  unfold bindC
  rw [b7n fun v hv => (List.nodup_cons.mp nd).1 (List.of_mem_zip hv).1, if_neg hk]
  simp
 | p :: P, w :: vs, i + 1, m, nd, h1, h2, hk => by
  show bindC kindOf ((p, w) :: P.zip vs) m x = _
  unfold bindC
  exact b7x (i := i) (List.nodup_cons.mp nd).2 (by simpa using h1) (by simpa using h2) hk
def a6A (N : List Str) (vs : List V) : St := vs.map some ++ List.replicate (N.length - vs.length) none
def cxOf (CX : CXT) (P : Program) (w : World) (K : PySem.W.Frag) (mg : Str -> Option Value) (base : Heap) (N : List Str) (qual : Str) (scope : Scope) (f : Addr) (cd : Value) (A : Around) (outer : List Env) (s : Shared) (H : Hp) (E : XK) : Cx where
 prog := P
 w := w
 K := K
 mg := mg
 base := base
 A := A.deeper (envOfC qual scope s.heap.objs.size f cd)
 N := N
 s₀ := s
 H₀ := H
 env := envOfC qual scope s.heap.objs.size f cd
 outer := outer
 stack := envOfC qual scope s.heap.objs.size f cd :: outer
 ex := []
 calm := true
 fn := fun _ => true
 pn := []
 xe := fun e s' => wpAny (model P w) (A.deeper (envOfC qual scope s.heap.objs.size f cd)) (leaving (envOfC qual scope s.heap.objs.size f cd) e) (fun _ s'' => CX outer H s E e s'') (fun e' s'' => CX outer H s E e' s'') s'
theorem c1w {sc : Scope} {n : Nat} {x : Str} (h : sc.names.lookup x = some .cell) : ∃ c, (cellsFrom n sc.names []).lookup x = some c := by
 have q := PySem.W.cellsFrom_some sc.names n [] (.inl h)
 exact Option.isSome_iff_exists.mp q
theorem b7w {CX : CXT} {P : Program} {w : World} {K : PySem.W.Frag} {mg : Str -> Option Value} {base : Heap} {N ps : List Str} {qual : Str} {scope : Scope} {f : Addr} {cd : Value} {A : Around} {outer : List Env} {s s1 : Shared} {H : Hp} {E : XK} {us : List Value} {vs : List V}
 (S : a0o N ps scope) (hd : A.handled = none) (e0 : Env0 P w K mg base A outer s H) (hl : vs.length = ps.length) (r : Vals vs us)
 (x : InCallC s s.heap.objs.size (bindL (envOfC qual scope s.heap.objs.size f cd).kindOf (ps.zip us) fun _ => none) (cellsFrom (s.heap.objs.size + 1) scope.names []) (bindC (envOfC qual scope s.heap.objs.size f cd).kindOf (ps.zip us) fun _ => none) s1) :
 Inv (cxOf CX P w K mg base N qual scope f cd A outer s H E) [] (a6A N vs) H s1 := by
 have hpl : ps.length <= N.length := by have := congrArg List.length S.pre; rw [List.length_take] at this; omega
 obtain ⟨h1, tk, rfl, hk⟩ := x.done
 have noA : ∀ b : Addr, b ∉ (cxOf CX P w K mg base N qual scope f cd A outer s H E).ex := fun b z => absurd (show b ∈ ([] : List Addr) from z) (by simp)
 refine ⟨⟨e0.mod, S.kind, rfl, rfl, Nat.le_refl _, fun y z c h1 h2 => ?_, fun y hy => ?_, fun y c _ h => ?_, fun _ => hd, Around.frames_deeper e0.frames, .inr ⟨rfl, rfl⟩, fun b z => absurd z (noA b), e0.bs, e0.bsz, fun b _ _ => noA b, fun b z => absurd z (noA b), e0.funs, e0.frf⟩,
  rfl, e0.bare, Un.kept hk, ⟨_, x.toInCall.ns, fun i y v h1 h2 h3 => ?_⟩, fun y c h => ⟨_, x.cell y c h⟩, e0.hok.fresh (Nat.le_refl _), fun y c h => ?_, fun p hp => absurd (show p ∈ ([] : List (Addr × Obj)) from hp) (by simp), e0.hok.kept hk, ?_⟩
 ·exact name_of_addr x.apart (PySem.mem_of_lookup h1) (PySem.mem_of_lookup h2)
 ·have hy : scope.names.lookup y = some .cell ∨ scope.names.lookup y = some .free := hy
  rcases hy with hy | hy
  ·exact c1w hy
  ·exact absurd rfl (S.nofree _ (PySem.mem_of_lookup hy))
 ·exact Nat.le_of_lt (x.above y c (PySem.mem_of_lookup h))
 ·have hi : i < vs.length := by
   unfold a6A at h2
   by_cases hi : i < vs.length
   ·exact hi
   ·rw [List.getElem?_append_right (by simpa using hi)] at h2
    rw [List.getElem?_replicate] at h2
    split at h2 <;> cases h2
  have ha : vs[i]? = some v := by
   unfold a6A at h2
   rw [List.getElem?_append_left (by simpa using hi), List.getElem?_map] at h2
   cases e : vs[i]? with
   | none => rw [e] at h2; cases h2
   | some a => rw [e] at h2; cases h2; rfl
  obtain ⟨u, hu, rv⟩ := r.get ha
  have hp : ps[i]? = some y := by
   rw [<- S.pre, List.getElem?_take_of_lt (by omega)]; exact h1
  have ndP : ps.Nodup := by rw [<- S.pre]; exact S.nd.sublist (List.take_sublist _ _)
  refine ⟨u, rv, ?_⟩
  rcases S.par y (List.mem_of_getElem? hp) with k | k
  ·exact .inl ⟨k, b7D ndP hp hu k⟩
  ·obtain ⟨c, e⟩ := c1w (n := s.heap.objs.size + 1) k
   refine .inr ⟨.inl k, c, e, ?_⟩
   have q := x.cell y c e
   rw [b7x ndP hp hu (by show scope.names.lookup y ≠ _; rw [k]; decide)] at q
   exact q
 ·exact e0.hok.fresh (Nat.le_of_lt (x.above y c (PySem.mem_of_lookup h)))
 ·unfold a6A
  show _ = N.length
  rw [List.length_append, List.length_map, List.length_replicate]
  omega
theorem c8Z {CX : CXT} {P : Program} {w : World} {K : PySem.W.Frag} {mg : Str -> Option Value} {base : Heap} {k : Nat} {f : Addr} {name qual : Str} {params : Arguments} {body : List Stmt} {scope : Scope} {dV kV doc pm cdv ct oc : Value} {an od : Option Addr}
 {osl : Array (Option Value)} {N ps : List Str} {sp : Sp} (lk : K.lookup f = some ⟨oc, od, .func (PySem.W.fnOf name qual params body scope dV kV doc pm an cdv ct), osl⟩) (hcd : PySem.W.codeIn K cdv qual = true) (S : a0o N ps scope)
 (len : ∀ vs H Q E, sp vs H Q E -> vs.length = ps.length)
 (hbody : ∀ (A : Around) (outer : List Env) (s : Shared) (H : Hp) (vs : List V) (Q : VK) (E : XK), Room k (A.deeper (envOfC qual scope s.heap.objs.size f cdv)) -> sp vs H Q E ->
  ∃ t, PSs (cxOf CX P w K mg base N qual scope f cdv A outer s H E) body t /\ t { nx := fun _ H' => Q .non H', rt := Q } (a6A N vs) H) :
 FnOk P w K mg base CX (k + 1) f (PySem.W.fnOf name qual params body scope dV kV doc pm an cdv ct) ps sp := by
 refine ⟨len, fun A outer s H args us vs Q E hr e0 hb r hsp => ?_⟩
 have hl := len _ _ _ _ hsp
 have KX : K.In s.heap := e0.mod.kin.keeps fun b o e => (e0.bs b o e).1
 have lim : s.heap.NoLimit := e0.mod.nolimit.keeps fun b o e => (e0.bs b o e).1
 have hkind : ∀ y ∈ ps.zip us, scope.names.lookup y.1 = some .local ∨ (scope.names.lookup y.1 = some .cell /\ ((cellsFrom (s.heap.objs.size + 1) scope.names []).lookup y.1).isSome = true) := fun ⟨n, v⟩ hy => by
  rcases S.par n (List.of_mem_zip hy).1 with q | q
  ·exact .inl q
  ·exact .inr ⟨q, PySem.W.cellsFrom_some _ _ _ (.inl q)⟩
 refine codeAny_call_function hr.depth (KX _ _ lk) rfl S.co S.gen rfl (PySem.W.codeRec_of KX hcd) (hb _ _ _ _ ?_)
 refine wpAny_newFunctionEnv_cells S.kind hkind fun env he s1 x => ?_
 subst he
 refine ⟨lim.keeps x.toInCall.keep, codeAny_func ?_⟩
 obtain ⟨t, ht, hq⟩ := hbody A outer s H vs Q E (hr.deeper _) hsp
 have I : Inv (cxOf CX P w K mg base N qual scope f cdv A outer s H E) [] (a6A N vs) H s1 := b7w S hr.hd e0 hl r x
 refine wpAny_mono (ht [] s1 (a6A N vs) H _ I hq) (fun fl s' hs => ?_) fun e s' hs => hs
 have fin : ∀ {σ' : St} {H' : Hp} {v : V} {u : Value}, Inv (cxOf CX P w K mg base N qual scope f cdv A outer s H E) [] σ' H' s' -> RelV v u -> Q v H' -> CE outer P w H s Q u s' :=
  fun {σ' H' v u} J rv q => ⟨v, H', J.os, J.bare, J.base, J.hok, rv, q⟩
 cases fl with
 | ret u =>
  obtain ⟨v, σ', H', J, rv, q⟩ := hs
  exact fin J rv q
 | next =>
  obtain ⟨σ', H', J, q⟩ := hs
  exact fin (v := V.non) (u := Value.none) J rfl q
 | brk =>
  obtain ⟨_, _, _, q⟩ := hs
  exact False.elim q
 | cont =>
  obtain ⟨_, _, _, q⟩ := hs
  exact False.elim q
end L2
namespace L2
open PySem PySem.Spec PyProof.Rows
section
variable {X : Cx} {x : Str} {p pos : Pos} {e : Expr} {es : List Expr} {t : TA} {id T : String} {r : List V -> Hp -> VK -> Prop}
def tCB (r : List V -> Hp -> VK -> Prop) (t : TA) : TE := fun σ H Q => t σ H fun vs H1 => r vs H1 Q
theorem a0r (hc : a8g X (.builtin id) r) (hg : Gl X x) (hm : X.mg x = none) (hv : bootBuiltins x = some (.builtin id)) (ha : PA X (e :: es) t) (hn : x ≠ "__name__" := by decide) (hdb : (x == ("__debug__" : Str)) = false := by decide)
 (he : starEach (e :: es) X.env = (false, eval e X.env) :: starEach es X.env := by rfl) (hpl : (backTo pos (starEach es X.env)).any (·.1) = false := by rfl) : PE X (.Call (.Name x p) (e :: es) [] pos) (tCB r t) := by
 intro pins s σ H Q I h
 refine wpAny_Call_Name_kw (b1Y I hg hm hv ?_ hn hdb)
 exact PyProof.Rows.callWith_builtin1 (thn (ha pos pins s σ H _ I h) fun us s1 ⟨vs, H1, I1, r1, q1⟩ => hc pins s1 σ H1 vs us Q I1 r1 q1) he hpl
theorem a1H (hc : a8g X (.type T) r) (hg : Gl X x) (hm : X.mg x = none) (hv : bootBuiltins x = some (.type T)) (ha : PA X (e :: es) t) (hn : x ≠ "__name__" := by decide) (hdb : (x == ("__debug__" : Str)) = false := by decide)
 (he : starEach (e :: es) X.env = (false, eval e X.env) :: starEach es X.env := by rfl) (hpl : (backTo pos (starEach es X.env)).any (·.1) = false := by rfl) : PE X (.Call (.Name x p) (e :: es) [] pos) (tCB r t) := by
 intro pins s σ H Q I h
 refine wpAny_Call_Name_kw (b1Y I hg hm hv ?_ hn hdb)
 exact PyProof.Rows.callWith_type1 (thn (ha pos pins s σ H _ I h) fun us s1 ⟨vs, H1, I1, r1, q1⟩ => hc pins s1 σ H1 vs us Q I1 r1 q1) he hpl
end
end L2
namespace HT
open PySem PyProof.Rows
section
open PySem.SeqAt
open PySem.AutoSeq1 (wpAny_loadPart')
open PySem.MeetsSeq PySem.MeetsSeq2 PySem.MeetsSeq3
end
section
variable {prog : Program} {w : World} {A : Around} {E : Value -> Shared -> Prop} {s : Shared}
def sIx (n d : Nat) : Option Int -> Nat
 | none => d
 | some v => if v < 0 then (v + (n : Int)).toNat else min v.toNat n
theorem sIx_none (n d : Nat) : sIx n d none = d := rfl
theorem sIx_nat (n d k : Nat) : sIx n d (some (k : Int)) = min k n := by
 show (if (k : Int) < 0 then ((k : Int) + (n : Int)).toNat else min (k : Int).toNat n) = min k n
 rw [if_neg (by omega), Int.toNat_natCast]
theorem c8B (n d : Nat) (hd : d <= n) (o : Option Int) : sIx n d o <= n := by
 cases o with
 | none => exact hd
 | some v =>
  show (if v < 0 then (v + (n : Int)).toNat else min v.toNat n) <= n
  by_cases hv : v < 0
  ·rw [if_pos hv]; omega
  ·rw [if_neg hv]; exact Nat.min_le_right _ _
theorem c3N (v : Int) (n d : Nat) : (if v < 0 then max (v + (n : Int)) 0 else min v (n : Int)) = ((sIx n d (some v) : Nat) : Int) := by
 show (if v < 0 then max (v + (n : Int)) 0 else min v (n : Int)) = (((if v < 0 then (v + (n : Int)).toNat else min v.toNat n) : Nat) : Int)
 by_cases hv : v < 0
 ·simp only [if_pos hv]; omega
 ·simp only [if_neg hv]; omega
theorem c3k (lo hi : Option Int) (n : Nat) : Builtin.Slice.sliceAdjust lo hi 1 (n : Int) = (((sIx n 0 lo : Nat) : Int), ((sIx n n hi : Nat) : Int)) := by
 have h1 : ¬ ((1 : Int) < 0) := by omega
 unfold Builtin.Slice.sliceAdjust
 simp only [h1, if_false]
 refine Prod.ext ?_ ?_
 ·cases lo with
  | none => rfl
  | some v => exact c3N v n 0
 ·cases hi with
  | none => rfl
  | some v => exact c3N v n n
theorem c2O (i j : Nat) : Builtin.Slice.slicePlaces (i : Int) (j : Int) 1 = j - i := by
 unfold Builtin.Slice.slicePlaces
 have h1 : (1 : Int) > 0 := by omega
 simp only [h1, if_true, Int.ediv_one]
 split <;> omega
theorem b4m {v : Value} {o : Option Int} {Q : Option Int -> Shared -> Prop} (p : IsPart v o) (h : Q o s) : wpAny (model prog w) A (Builtin.Slice.slicePartIndex v) Q E s := by
 cases p with
 | none => exact slicePart_none h
 | int i t => exact slicePart_int h
theorem b0x {sl : Addr} {vl vu : Value} {lo hi : Option Int} {n : Nat} {Q : Int × Int × Nat -> Shared -> Prop} (hs : s.heap.IsSliceOf sl vl vu .none) (pl : IsPart vl lo) (pu : IsPart vu hi)
 (h : Q (((sIx n 0 lo : Nat) : Int), 1, sIx n n hi - sIx n 0 lo) s) : wpAny (model prog w) A (Builtin.Slice.sliceApplied (.ref sl) (pure (n : Int))) Q E s := by
 obtain ⟨os, hos, hcs, hds⟩ := id hs
 unfold Builtin.Slice.sliceApplied Builtin.Slice.sliceFields
 refine wpAny_bind (wpAny_bind (wpAny_field hos hds (x := vl) rfl (wpAny_bind (wpAny_field hos hds (x := vu) rfl (wpAny_bind (wpAny_field hos hds (x := .none) rfl (wpAny_pure ?_)))))))
 refine wpAny_bind (slicePart_none ?_)
 show wpAny _ _ (if ((1 : Int) == 0) = true then _ else _) _ _ s
 rw [if_neg (by decide)]
 refine wpAny_bind (b4m pl (wpAny_bind (b4m pu (wpAny_bind (wpAny_pure ?_)))))
 show wpAny _ _ (match Builtin.Slice.sliceAdjust lo hi 1 (n : Int) with | (lo, hi) => pure (lo, (1 : Int), Builtin.Slice.slicePlaces lo hi 1)) _ _ s
 rw [c3k lo hi n]
 show wpAny _ _ (pure (((sIx n 0 lo : Nat) : Int), (1 : Int), Builtin.Slice.slicePlaces ((sIx n 0 lo : Nat) : Int) ((sIx n n hi : Nat) : Int) 1)) _ _ s
 rw [c2O]
 exact wpAny_pure h
theorem c6z (xs : Array Value) (i k : Nat) : ((List.range k).filterMap fun (m : Nat) => xs[((i : Int) + (m : Int) * 1).toNat]?).toArray = ((xs.toList.drop i).take k).toArray := by
 have e : (fun (m : Nat) => xs[((i : Int) + (m : Int) * 1).toNat]?) = fun m => xs[i + m]? := by
  funext m
  have : ((i : Int) + (m : Int) * 1).toNat = i + m := by omega
  rw [this]
 rw [e]
 have := pick_run xs i k
 rw [List.filterMap_map] at this
 have e2 : ((fun x => xs[x]?) ∘ fun x => i + x) = fun m => xs[i + m]? := rfl
 rw [e2] at this
 rw [this]
theorem getItem_tuple_cut {t sl : Addr} {items : Array Value} {vl vu : Value} {lo hi : Option Int} {Q : Value -> Shared -> Prop} (ht : IsTup s.heap t items) (hs : s.heap.IsSliceOf sl vl vu .none) (pl : IsPart vl lo) (pu : IsPart vu hi)
 (hw : ¬ (sIx items.size 0 lo = 0 /\ sIx items.size items.size hi = items.size))
 (h : Q (.ref s.heap.objs.size) { s with heap := s.heap.push { cls := .type "tuple", data := .seq ((items.toList.drop (sIx items.size 0 lo)).take (sIx items.size items.size hi - sIx items.size 0 lo)).toArray } })
 (hsz : items.size <= sizeLine) : wpAny (model prog w) A (getItem (.ref t) (.ref sl)) Q E s := by
 have htake : sizeOk (.seq ((items.toList.drop (sIx items.size 0 lo)).take (sIx items.size items.size hi - sIx items.size 0 lo)).toArray) := by
  show ((items.toList.drop (sIx items.size 0 lo)).take (sIx items.size items.size hi - sIx items.size 0 lo)).toArray.size <= sizeLine
  rw [List.size_toArray, List.length_take, List.length_drop, Array.length_toList]
  omega
 have hj : sIx items.size items.size hi <= items.size := c8B _ _ (Nat.le_refl _) hi
 obtain ⟨os, hos, hcs, hds⟩ := id hs
 have hTs : s.TypeIs (.ref sl) "slice" := ⟨os, hos, hcs⟩
 unfold getItem
 try with_reducible refine wpAny_holding ?_
 first | refine wpAny_bind (wpAny_pure ?_) | skip
 refine wpAny_bind (wpAny_sequenceKey ht.typeIs (by decide) ?_)
 refine wpAny_bind (wpAny_callSpecial?_slot (name := Str.ofString "__getitem__") ht.typeIs PyProof.Rows.slot_tuple_getitem
  (wpAny_call_entry PyProof.Rows.slot_tuple_getitem ht.typeIs entry_tuple_getitem ?_ (args_tuple_getitem _ _)))
 show wpAny _ _ (Builtin.Tuple.tupleItemsOf (.ref t) >>= _) _ _ s
 refine wpAny_bind (tupleItemsOf_ ht ?_)
 refine wpAny_bind (wpAny_typeOf hTs ?_)
 rw [if_pos (by decide)]
 refine wpAny_bind (b0x hs pl pu ?_)
 have hno : ¬ ((((sIx items.size 0 lo : Nat) : Int) == 0 && (1 : Int) == 1 && (sIx items.size items.size hi - sIx items.size 0 lo) == items.size) = true) := by
  intro q
  rw [Bool.and_eq_true, Bool.and_eq_true] at q
  have q1 : ((sIx items.size 0 lo : Nat) : Int) = 0 := eq_of_beq q.1.1
  have q2 : sIx items.size items.size hi - sIx items.size 0 lo = items.size := eq_of_beq q.2
  exact hw ⟨by omega, by omega⟩
 show wpAny _ _ (if (((sIx items.size 0 lo : Nat) : Int) == 0 && (1 : Int) == 1 && (sIx items.size items.size hi - sIx items.size 0 lo) == items.size) = true then _ else _) _ _ s
 rw [if_neg hno, c6z]
 first
  | exact wpAny_bind (m := Builtin.Tuple.tupleExact _) (wpAny_newObj_type (wpAny_pure ⟨_, rfl, wpAny_pure h⟩) htake)
  | exact wpAny_bind (m := Builtin.Tuple.tupleExact _) (wpAny_newObj_type (wpAny_bind (wpAny_pure (wpAny_pure ⟨_, rfl, wpAny_pure h⟩))) htake)
  | exact wpAny_bind (wpAny_bind (m := Builtin.Tuple.tupleExact _) (wpAny_newObj_type (wpAny_pure (wpAny_pure ⟨_, rfl, wpAny_pure h⟩)) htake))
  | exact wpAny_bind (wpAny_bind (m := Builtin.Tuple.tupleExact _) (wpAny_newObj_type (wpAny_pure ⟨_, rfl, wpAny_pure h⟩) htake))
end
end HT
namespace L2
open PySem PySem.Spec PyProof.Rows
abbrev TO := St -> Hp -> (Option Int -> Hp -> Prop) -> Prop
def PO (X : Cx) (e : Option Expr) (t : TO) : Prop :=
 ∀ (pins : List (Addr × Obj)) (s : Shared) (σ : St) (H : Hp) (Q : Option Int -> Hp -> Prop), Inv X pins σ H s -> t σ H Q ->
  wpAny (model X.prog X.w) X.A (evalPart e X.env) (fun u s' => ∃ o H', Inv X pins σ H' s' /\ IsPart u o /\ Q o H') X.xe s
def c68 : TO := fun _ H Q => Q none H
def c9U (t : TE) : TO := fun σ H Q => t σ H fun x H1 => ∃ i, x = .int i /\ Q (some i) H1
theorem a9C {ns : List Int} : ∀ {us : List Value}, Vals (ns.map V.int) us -> IntsAre us ns := by
 induction ns with
 | nil => intro us r; rw [List.map_nil] at r; cases r; exact .nil
 | cons n ns ih =>
  intro us r
  rw [List.map_cons] at r
  cases r with
  | cons r1 r2 =>
   obtain ⟨t, e⟩ := r1
   subst e
   exact .cons n t (ih r2)
section
variable {X : Cx} {e : Expr} {te : TE} {lo hi : Option Expr} {tl th : TO} {pos p2 : Pos}
theorem a6a : PO X none c68 := by
 intro pins s σ H Q I h
 rw [evalPart_none]
 exact wpAny_pure ⟨none, H, I, .none, h⟩
theorem a53 (h : PE X e te) : PO X (some e) (c9U te) := by
 intro pins s σ H Q I hw
 rw [evalPart_some]
 refine thn (h pins s σ H _ I hw) fun u s1 ⟨x, H1, I1, r1, q1⟩ => ?_
 obtain ⟨i, rfl, q⟩ := q1
 obtain ⟨t, rfl⟩ := r1
 exact ⟨some i, H1, I1, .int i t, q⟩
def SlR (X : Cx) (r : V -> Option Int -> Option Int -> Hp -> VK -> Prop) : Prop :=
 ∀ (pins : List (Addr × Obj)) (s : Shared) (σ : St) (H : Hp) (x : V) (v vl vu : Value) (lo hi : Option Int) (sl : Addr) (Q : VK), Inv X pins σ H s -> RelV x v -> s.heap.IsSliceOf sl vl vu .none -> IsPart vl lo -> IsPart vu hi -> r x lo hi H Q ->
  ∃ T id, typeLookup (.type T) "__getitem__" = pure (some (.builtin id)) /\ s.TypeIs v T /\ wpAny (model X.prog X.w) X.A (getItem v (.ref sl)) (EP X pins σ Q) X.xe s
def tSl (r : V -> Option Int -> Option Int -> Hp -> VK -> Prop) (te : TE) (tl th : TO) : TE := fun σ H Q => te σ H fun x H1 => tl σ H1 fun l H2 => th σ H2 fun u H3 => r x l u H3 Q
theorem a3t {r : V -> Option Int -> Option Int -> Hp -> VK -> Prop} (hr : SlR X r) (he : PE X e te) (hl : PO X lo tl) (hu : PO X hi th) : PE X (.Subscript e (.Slice lo hi none p2) pos) (tSl r te tl th) := by
 intro pins s σ H Q I h
 refine Subscript_ (thn (he pins s σ H _ I h) fun v s1 ⟨x, H1, I1, r1, q1⟩ => ?_)
 refine wpAny_Slice (thn (hl pins s1 σ H1 _ I1 q1) fun vl s2 ⟨l, H2, I2, pl, q2⟩ => thn (hu pins s2 σ H2 _ I2 q2) fun vu s3 ⟨u, H3, I3, pu, q3⟩ => ?_)
 rw [evalPart_none]
 refine wpAny_pure ?_
 have I4 : Inv X pins σ H3 { s3 with heap := s3.heap.push { cls := .type "slice", data := .fields #[vl, vu, .none] } } := I3.kept (t' := s3.toks) fun b ob q => Heap.get?_push_of_some _ q
 obtain ⟨T, id, hT, ht, hg⟩ := hr pins { s3 with heap := s3.heap.push { cls := .type "slice", data := .fields #[vl, vu, .none] } } σ H3 x v vl vu l u s3.heap.objs.size Q I4 r1 (Heap.IsSliceOf.new ..) pl pu q3
 show wpAny (model X.prog X.w) X.A (subscriptTail e (.Slice lo hi none p2) v (.ref s3.heap.objs.size)) (EP X pins σ Q) X.xe { s3 with heap := s3.heap.push { cls := .type "slice", data := .fields #[vl, vu, .none] } }
 exact tail_any (ops := [.ref s3.heap.objs.size, v]) ht hT hg (by with_unfolding_all rfl)
def cutV (xs : List V) (lo hi : Option Int) : List V := (xs.drop (HT.sIx xs.length 0 lo)).take (HT.sIx xs.length xs.length hi - HT.sIx xs.length 0 lo)
theorem b1X (xs : List V) (lo hi : Option Int) : (cutV xs lo hi).length <= xs.length := by
 unfold cutV
 rw [List.length_take, List.length_drop]
 omega
def rSlT (K : PySem.W.Frag) : V -> Option Int -> Option Int -> Hp -> VK -> Prop := fun x lo hi H Q => ∃ a xs, x = .ref a /\ SqT K H a xs /\
 ¬ (HT.sIx xs.length 0 lo = 0 /\ HT.sIx xs.length xs.length hi = xs.length) /\ ∀ p, H p = none -> Q (.ref p) (upd H p (.tup (cutV xs lo hi)))
theorem c61 : SlR X (rSlT X.K) := by
 intro pins s σ H x v vl vu lo hi sl Q I rx hs pl pu h
 obtain ⟨a, xs, rfl, hx, hw, q⟩ := h
 cases rx
 obtain ⟨its, r, ht, hz⟩ := I.tuple hx
 have hlen : its.toArray.size = xs.length := by rw [List.size_toArray]; exact r.length.symm
 refine ⟨"tuple", _, PyProof.Rows.slot_tuple_getitem.lookup, ht.typeIs, ?_⟩
 refine HT.getItem_tuple_cut ht hs pl pu (by rw [hlen]; exact hw) ?_ (by rw [hlen]; exact hz)
 rw [hlen]
 refine ⟨.ref s.heap.objs.size, _, I.laid (t' := s.toks) (o := .tup (cutV xs lo hi)) (fun b ob q => Heap.get?_push_of_some _ q) (Nat.le_refl _) ?_, rfl, q _ (I.hok.fresh (Nat.le_refl _))⟩
 exact ⟨Nat.le_trans (b1X xs lo hi) hz, _, (r.drop (HT.sIx xs.length 0 lo)).take (HT.sIx xs.length xs.length hi - HT.sIx xs.length 0 lo), IsTup.new _ _⟩
end
end L2
namespace L2
open PySem PySem.Spec PyProof.Rows
def ixN (n : Nat) (i : Int) : Option Nat := if 0 <= i then (if i < n then some i.toNat else none) else if -(n : Int) <= i then some (i + n).toNat else none
def atI {α : Type} (xs : List α) (i : Int) : Option α := (ixN xs.length i).bind fun j => xs[j]?
theorem c7C {n : Nat} {i : Int} {j : Nat} (h : ixN n i = some j) : seqIndex? i n = some j /\ j < n /\ -(n : Int) <= i /\ i < n := by
 unfold ixN at h
 by_cases h0 : 0 <= i
 ·rw [if_pos h0] at h
  by_cases h1 : i < n
  ·rw [if_pos h1] at h
   have e : i.toNat = j := Option.some.inj h
   exact ⟨by rw [seqIndex_of h0 h1, e], by omega, by omega, h1⟩
  ·rw [if_neg h1] at h; cases h
 ·rw [if_neg h0] at h
  by_cases h1 : -(n : Int) <= i
  ·rw [if_pos h1] at h
   have e : (i + n).toNat = j := Option.some.inj h
   exact ⟨by rw [seqIndex_neg (by omega) h1, e], by omega, h1, by omega⟩
  ·rw [if_neg h1] at h; cases h
theorem c1r {α : Type} {xs : List α} {i : Int} {v : α} (h : atI xs i = some v) : ∃ j, seqIndex? i xs.length = some j /\ xs[j]? = some v /\ j < xs.length /\ -(xs.length : Int) <= i /\ i < xs.length := by
 unfold atI at h
 cases e : ixN xs.length i with
 | none => rw [e] at h; cases h
 | some j =>
  rw [e] at h
  obtain ⟨h1, h2, h3, h4⟩ := c7C e
  exact ⟨j, h1, h, h2, h3, h4⟩
theorem c1a {α : Type} {xs : List α} {j : Nat} {v : α} (h : xs[j]? = some v) : atI xs (j : Int) = some v := by
 have hj : j < xs.length := (List.getElem?_eq_some_iff.mp h).1
 have e : ixN xs.length (j : Int) = some j := by
  unfold ixN
  rw [if_pos (by omega), if_pos (by omega)]; simp
 unfold atI; rw [e]; exact h
def c4q (b : Expr) : Prop := ∀ o i, subscripted b false o i = operate [o, i] (getItem o i)
def IxR (X : Cx) (r : R2) : Prop :=
 ∀ (value slice : Expr) (pins : List (Addr × Obj)) (s : Shared) (σ : St) (H : Hp) (x y : V) (v u : Value) (Q : VK), Inv X pins σ H s -> RelV x v -> RelV y u -> r x y H Q ->
  subscripted slice false v u = operate [v, u] (getItem v u) -> wpAny (model X.prog X.w) X.A (subscriptTail value slice v u) (EP X pins σ Q) X.xe s
def MtR (X : Cx) (id : String) (r : V -> List V -> Hp -> VK -> Prop) : Prop :=
 ∀ (pins : List (Addr × Obj)) (s : Shared) (σ : St) (H : Hp) (x : V) (xs : List V) (v : Value) (us : List Value) (Q : VK), Inv X pins σ H s -> RelV x v -> Vals xs us -> r x xs H Q ->
  wpAny (model X.prog X.w) X.A (call (.builtin id) (v :: us)) (EP X pins σ Q) X.xe s
section
variable {X : Cx} {a b : Expr} {ta tb : TE} {pos : Pos}
theorem a0z {r : R2} (hr : IxR X r) (ha : PE X a ta) (hb : PE X b tb) (hs : c4q b) : PE X (.Subscript a b pos) (tOp r ta tb) := by
 intro pins s σ H Q I h
 exact Subscript_ (binT ha hb I h fun v u s2 x y H2 I2 rx ry q => hr a b pins s2 σ H2 x y v u Q I2 rx ry q (hs _ _))
def rIxL (K : PySem.W.Frag) : R2 := fun x y H Q => ∃ p xs i v, x = .ref p /\ y = .int i /\ SqL K H p xs /\ atI xs i = some v /\ Q v H
def rIxT (K : PySem.W.Frag) : R2 := fun x y H Q => ∃ p xs i v, x = .ref p /\ y = .int i /\ SqT K H p xs /\ atI xs i = some v /\ Q v H
def rIxS : R2 := fun x y H Q => ∃ z i c, x = .str z /\ y = .int i /\ z.length <= sizeLine /\ atI z.cps.toList i = some c /\ Q (.str ⟨#[c]⟩) H
theorem a0s : IxR X (rIxL X.K) := by
 intro value slice pins s σ H x y v u Q I rx ry h hs
 obtain ⟨p, xs, i, z, rfl, rfl, hq, he, q⟩ := h
 cases rx
 obtain ⟨t, rfl⟩ := ry
 obtain ⟨its, r, pl, hz⟩ := I.list hq
 obtain ⟨j, h1, h2, h3, h4, h5⟩ := c1r he
 obtain ⟨w, ew, rw'⟩ := r.get h2
 have hl := r.length
 have hn := b8L
 have fin : EP X pins σ Q w s := ⟨z, H, I, rw', q⟩
 by_cases h0 : 0 <= i
 ·have hj : i.toNat = j := by
   rw [seqIndex_of h0 h5] at h1
   exact Option.some.inj h1
  exact item_listR pl.isList h0 (by omega) (by rw [hj]; simpa using ew) fin hs
 ·have hj : (i + (its.toArray.size : Int)).toNat = j := by
   rw [seqIndex_neg (by omega) h4] at h1
   rw [List.size_toArray, <- hl]
   exact Option.some.inj h1
  exact subscriptTail_builtinR (x := w) pl.isList.typeIs slot_list_getitem.lookup
   (wpAny_getItem_list_neg (Q := fun r s' => r = w /\ EP X pins σ Q r s') pl.isList (by omega) (by rw [List.size_toArray] <;> omega) (by omega) (by rw [hj]; simpa using ew) ⟨rfl, fin⟩) hs
theorem a1z : IxR X (rIxT X.K) := by
 intro value slice pins s σ H x y v u Q I rx ry h hs
 obtain ⟨p, xs, i, z, rfl, rfl, hq, he, q⟩ := h
 cases rx
 obtain ⟨t, rfl⟩ := ry
 obtain ⟨its, r, pl, hz⟩ := I.tuple hq
 obtain ⟨j, h1, h2, h3, h4, h5⟩ := c1r he
 obtain ⟨w, ew, rw'⟩ := r.get h2
 have hl := r.length
 have hn := b8L
 have fin : EP X pins σ Q w s := ⟨z, H, I, rw', q⟩
 exact subscriptTail_builtinR (x := w) pl.typeIs slot_tuple_getitem.lookup
  (getItem_tuple (j := j) (Q := fun r s' => r = w /\ EP X pins σ Q r s') pl (by omega) (by omega) (by rw [List.size_toArray, <- hl]; exact h1) (by simpa using ew) ⟨rfl, fin⟩) hs
theorem c3v : IxR X rIxS := by
 intro value slice pins s σ H x y v u Q I rx ry h hs
 obtain ⟨z, i, c, rfl, rfl, hz, he, q⟩ := h
 obtain ⟨t, rfl⟩ := rx
 obtain ⟨t', rfl⟩ := ry
 obtain ⟨j, h1, h2, h3, h4, h5⟩ := c1r he
 have hl : z.cps.toList.length = z.length := by simp [Str.length]
 rw [hl] at h1 h4 h5
 have hn := b8L
 exact tail_any (typeIs_str s z t) slot_str_getitem.lookup (getItem_str (c := c) (by
  have e1 : decide (i < -(2 ^ 63 : Int)) = false := decide_eq_false (by omega)
  have e2 : decide (i >= 2 ^ 63) = false := decide_eq_false (by omega)
  rw [e1, e2, Bool.or_false]) (by rw [h1]; simpa using h2) ⟨.str ⟨#[c]⟩, H, I.tok _, ⟨_, rfl⟩, q⟩) hs
theorem b83 (lo hi : Option Int) (n : Nat) : (sliceBounds lo hi none n).1 = ((HT.sIx n 0 lo : Nat) : Int) /\ (sliceBounds lo hi none n).2.1 = ((HT.sIx n n hi : Nat) : Int) /\ (sliceBounds lo hi none n).2.2 = 1 := by
 refine ⟨?_, ?_, rfl⟩
 ·cases lo with
  | none => simp [sliceBounds, HT.sIx]
  | some i =>
   simp only [sliceBounds, HT.sIx, Option.getD_none, show (1 : Int) > 0 by decide, if_true]
   by_cases h : i < 0
   ·simp only [h, if_true] <;> omega
   ·simp only [h, if_false] <;> omega
 ·cases hi with
  | none => simp [sliceBounds, HT.sIx]
  | some i =>
   simp only [sliceBounds, HT.sIx, Option.getD_none, show (1 : Int) > 0 by decide, if_true]
   by_cases h : i < 0
   ·simp only [h, if_true] <;> omega
   ·simp only [h, if_false] <;> omega
theorem b6Q (its : List Value) (lo hi : Option Int) : slicePick its.toArray lo hi none = ((its.drop (HT.sIx its.length 0 lo)).take (HT.sIx its.length its.length hi - HT.sIx its.length 0 lo)).toArray := by
 obtain ⟨h1, h2, h3⟩ := b83 lo hi its.toArray.size
 unfold slicePick
 rw [h1, h2, h3]
 simp only [sliceRange_one, pick_run, List.size_toArray] <;> rfl
def rSlL (K : PySem.W.Frag) : V -> Option Int -> Option Int -> Hp -> VK -> Prop := fun x lo hi H Q => ∃ a xs, x = .ref a /\ SqL K H a xs /\ ∀ p, H p = none -> Q (.ref p) (upd H p (.lst (cutV xs lo hi)))
theorem a9L : SlR X (rSlL X.K) := by
 intro pins s σ H x v vl vu lo hi sl Q I rx hs pl pu h
 obtain ⟨a, xs, rfl, hx, q⟩ := h
 cases rx
 obtain ⟨its, r, ht, hz⟩ := I.list hx
 have hlen := r.length
 refine ⟨"list", _, slot_list_getitem.lookup, ht.isList.typeIs, ?_⟩
 refine wpAny_getItem_list_slice ht.isList hs pl pu .none (by simp) ?_ (by rw [List.size_toArray] <;> omega)
 rw [b6Q, <- hlen]
 refine ⟨.ref s.heap.objs.size, _, I.laid (t' := s.toks) (o := .lst (cutV xs lo hi)) (fun b ob q => Heap.get?_push_of_some _ q) (Nat.le_refl _) ?_, rfl, q _ (I.hok.fresh (Nat.le_refl _))⟩
 exact ⟨Nat.le_trans (b1X xs lo hi) hz, _, 0, (r.drop (HT.sIx xs.length 0 lo)).take (HT.sIx xs.length xs.length hi - HT.sIx xs.length 0 lo), Heap.get?_push_size _ rfl⟩
def b6n : V -> Bool
 | .non => true
 | .bl _ => true
 | .int _ => true
 | .str _ => true
 | _ => false
def eqV : V -> V -> Bool
 | .non, .non => true
 | .bl a, .bl b => a == b
 | .bl a, .int b => (if a then 1 else 0) == b
 | .int a, .bl b => a == (if b then 1 else 0)
 | .int a, .int b => a == b
 | .str a, .str b => a == b
 | _, _ => false
theorem c9D {A : Around} {s : Shared} {y x : V} {u v : Value} (ry : RelV y u) (rx : RelV x v) (fy : b6n y = true) (fx : b6n x = true) : SeqAt.EqAt A s u v (eqV y x) := by
 cases y with
 | non =>
  cases ry
  cases x with
  | non => cases rx; exact SeqAt.EqAt.same _
  | bl b => cases rx; exact SeqAt.EqAt.none_bool b
  | int b => obtain ⟨t, rfl⟩ := rx; exact SeqAt.EqAt.none_int b t
  | str b => obtain ⟨t, rfl⟩ := rx; exact SeqAt.EqAt.none_str b t
  | _ => exact absurd (show false = true from fx) Bool.false_ne_true
 | bl a =>
  cases ry
  cases x with
  | non => cases rx; exact SeqAt.EqAt.bool_none a
  | bl b => cases rx; exact SeqAt.EqAt.bool_bool a b
  | int b => obtain ⟨t, rfl⟩ := rx; exact SeqAt.EqAt.bool_int a b t
  | str b => obtain ⟨t, rfl⟩ := rx; exact SeqAt.EqAt.bool_str a b t
  | _ => exact absurd (show false = true from fx) Bool.false_ne_true
 | int a =>
  obtain ⟨t', rfl⟩ := ry
  cases x with
  | non => cases rx; exact SeqAt.EqAt.int_none a t'
  | bl b => cases rx; exact SeqAt.EqAt.int_bool a t' b
  | int b => obtain ⟨t, rfl⟩ := rx; exact SeqAt.EqAt.int_int a t' b t
  | str b => obtain ⟨t, rfl⟩ := rx; exact SeqAt.EqAt.int_str a t' b t
  | _ => exact absurd (show false = true from fx) Bool.false_ne_true
 | str a =>
  obtain ⟨t', rfl⟩ := ry
  cases x with
  | non => cases rx; exact SeqAt.EqAt.str_none a t'
  | bl b => cases rx; exact SeqAt.EqAt.str_bool a t' b
  | int b => obtain ⟨t, rfl⟩ := rx; exact SeqAt.EqAt.str_int a t' b t
  | str b => obtain ⟨t, rfl⟩ := rx; exact SeqAt.EqAt.str_str a t' b t
  | _ => exact absurd (show false = true from fx) Bool.false_ne_true
 | _ => exact absurd (show false = true from fy) Bool.false_ne_true
def eqU (x : V) (u : Value) : Bool := match u with
 | .none => eqV .non x
 | .bool b => eqV (.bl b) x
 | .int i _ => eqV (.int i) x
 | .str z _ => eqV (.str z) x
 | _ => false
theorem c6Y {x y : V} {u : Value} (r : RelV y u) (f : b6n y = true) : eqU x u = eqV y x := by
 cases y with
 | non => cases r; rfl
 | bl b => cases r; rfl
 | int i => obtain ⟨t, rfl⟩ := r; rfl
 | str z => obtain ⟨t, rfl⟩ := r; rfl
 | _ => exact absurd (show false = true from f) Bool.false_ne_true
theorem b1Z {x : V} : ∀ {xs : List V} {us : List Value}, Vals xs us -> xs.all b6n = true -> us.any (eqU x) = xs.any fun y => eqV y x
 | _, _, .nil, _ => rfl
 | y :: xs, u :: us, .cons r t, f => by
  rw [List.all_cons, Bool.and_eq_true] at f
  rw [List.any_cons, List.any_cons, c6Y r f.1, b1Z t f.2]
theorem a8W {A : Around} {s : Shared} {x : V} {v : Value} (rx : RelV x v) (fx : b6n x = true) : ∀ {xs : List V} {us : List Value}, Vals xs us -> xs.all b6n = true -> ∀ u ∈ us, SeqAt.EqAt A s u v (eqU x u)
 | _, _, .nil, _ => fun u hu => by cases hu
 | y :: xs, u :: us, .cons r t, f => fun u' hu => by
  rw [List.all_cons, Bool.and_eq_true] at f
  rcases List.mem_cons.mp hu with rfl | hu
  ·rw [c6Y r f.1]; exact c9D r rx f.1 fx
  ·exact a8W rx fx t f.2 u' hu
def inV (x : V) (xs : List V) : Bool := xs.any fun y => eqV y x
def rIn (K : PySem.W.Frag) (neg : Bool) : R2 := fun x y H Q => ∃ p xs, y = .ref p /\ (SqL K H p xs ∨ SqT K H p xs) /\ b6n x = true /\ xs.all b6n = true /\ Q (.bl (if neg then !inV x xs else inV x xs)) H
theorem b2H : OpR X (compareOp .In) (rIn X.K false) := by
 intro pins s σ H x y v u Q I rx ry h
 obtain ⟨p, xs, rfl, hq, fx, fs, q⟩ := h
 cases ry
 rcases hq with hq | hq
 ·obtain ⟨its, r, pl, hz⟩ := I.list hq
  refine SeqAt.in_listAt (eqU x) pl.isList (fun w hw => a8W rx fx r fs w (by simpa using hw)) ⟨.bl _, H, I, rfl, ?_⟩
  rw [show its.toArray.any (eqU x) = its.any (eqU x) by simp, b1Z r fs]
  exact q
 ·obtain ⟨its, r, pl, hz⟩ := I.tuple hq
  refine SeqAt.in_tupleAt (eqU x) pl (fun w hw => a8W rx fx r fs w (by simpa using hw)) ⟨.bl _, H, I, rfl, ?_⟩
  rw [show its.toArray.any (eqU x) = its.any (eqU x) by simp, b1Z r fs]
  exact q
theorem a91 : OpR X (compareOp .NotIn) (rIn X.K true) := by
 intro pins s σ H x y v u Q I rx ry h
 obtain ⟨p, xs, rfl, hq, fx, fs, q⟩ := h
 cases ry
 rcases hq with hq | hq
 ·obtain ⟨its, r, pl, hz⟩ := I.list hq
  refine SeqAt.notIn_listAt (eqU x) pl.isList (fun w hw => a8W rx fx r fs w (by simpa using hw)) ⟨.bl _, H, I, rfl, ?_⟩
  rw [show its.toArray.any (eqU x) = its.any (eqU x) by simp, b1Z r fs]
  exact q
 ·obtain ⟨its, r, pl, hz⟩ := I.tuple hq
  refine SeqAt.notIn_tupleAt (eqU x) pl (fun w hw => a8W rx fx r fs w (by simpa using hw)) ⟨.bl _, H, I, rfl, ?_⟩
  rw [show its.toArray.any (eqU x) = its.any (eqU x) by simp, b1Z r fs]
  exact q
theorem a6D : a8g X (.type "list") (fun xs H Q => ∃ p ys, xs = [.ref p] /\ (SqL X.K H p ys ∨ SqT X.K H p ys) /\ ∀ l, H l = none -> Q (.ref l) (upd H l (.lst ys))) := by
 intro pins s σ H xs us Q I r h
 obtain ⟨p, ys, rfl, hq, q⟩ := h
 obtain ⟨u, rfl, rx⟩ := b3o r
 cases rx
 have fin : ∀ (its : List Value), Vals ys its -> ys.length <= sizeLine -> ∀ (h' : Heap) (c' : Nat), (∀ b o', s.heap.get? b = some o' -> h'.get? b = some o') ->
  h'.get? s.heap.objs.size = some { cls := .type "list", dict := none, data := .seq its.toArray c', slots := #[] } -> EP X pins σ Q (.ref s.heap.objs.size) { s with heap := h' } := fun its r' hz h' c' kp e =>
  ⟨.ref s.heap.objs.size, _, I.laid (t' := s.toks) kp (Nat.le_refl _) (show a2X X.prog X.w _ h' _ (.lst ys) from ⟨hz, its, c', r', e⟩), rfl, q _ (I.hok.fresh (Nat.le_refl _))⟩
 rcases hq with hq | hq
 ·obtain ⟨its, r', pl, hz⟩ := I.list hq
  have hlen := r'.length
  obtain ⟨o, ho, hc, n, hd⟩ := pl.isList
  exact call_list_seq p (.inl rfl) ho hc hd (fun h' c' kp e => fin its r' hz h' c' kp e) (by simp only [List.size_toArray] <;> omega)
 ·obtain ⟨its, r', pl, hz⟩ := I.tuple hq
  have hlen := r'.length
  obtain ⟨o, ho, hc, n, hd⟩ := pl
  exact call_list_seq p (.inr rfl) ho hc hd (fun h' c' kp e => fin its r' hz h' c' kp e) (by simp only [List.size_toArray] <;> omega)
def tyV (K : PySem.W.Frag) (T : String) (x : V) (H : Hp) : Prop := match x with
 | .str _ => T = "str"
 | .int _ => T = "int"
 | .ref p => (T = "list" /\ ∃ xs, SqL K H p xs) ∨ (T = "tuple" /\ ∃ o, K.lookup p = some o /\ o.cls = .type "tuple" /\ o.dict = none) ∨
  (T = "dict" /\ ((∃ kvs, H p = some (.dK kvs)) ∨ ∃ kvs, H p = some (.dT kvs))) ∨ (T = "set" /\ ∃ S n, H p = some (.set S n))
 | _ => False
theorem c6R {pins : List (Addr × Obj)} {σ : St} {H : Hp} {s : Shared} {T : String} {x : V} {v : Value} (I : Inv X pins σ H s) (r : RelV x v) (ty : tyV X.K T x H) :
 s.TypeIs v T /\ ∀ a, v = .ref a -> ∃ ob, s.heap.get? a = some ob /\ ob.dict = none := by
 cases x with
 | str z =>
  obtain ⟨t, rfl⟩ := r
  cases (show T = "str" from ty)
  exact ⟨typeIs_str s z t, fun _ e => nomatch e⟩
 | int i =>
  obtain ⟨t, rfl⟩ := r
  cases (show T = "int" from ty)
  exact ⟨typeIs_int s i t, fun _ e => nomatch e⟩
 | ref p =>
  cases r
  rcases ty with ⟨rfl, xs, hq⟩ | ⟨rfl, o, hk, hc, hd⟩ | ⟨rfl, hk⟩ | ⟨rfl, S, n, hk⟩
  ·obtain ⟨its, _, pl, _⟩ := I.list hq
   refine ⟨pl.isList.typeIs, fun a e => ?_⟩
   cases e
   obtain ⟨o, n, e, c, hd, _⟩ := pl
   exact ⟨o, e, hd⟩
  ·refine ⟨⟨o, I.kIn p o hk, hc⟩, fun a e => ?_⟩
   cases e
   exact ⟨o, I.kIn _ o hk, hd⟩
  ·have z : ∃ o, s.heap.get? p = some o /\ o.ExactDict := by
    rcases hk with ⟨kvs, hk⟩ | ⟨kvs, hk⟩
    ·obtain ⟨_, _, _, _, o, _, _, e, ex, _⟩ := I.hok p _ hk
     exact ⟨o, e, ex⟩
    ·obtain ⟨_, _, _, _, o, _, _, e, ex, _⟩ := I.hok p _ hk
     exact ⟨o, e, ex⟩
   obtain ⟨o, e, ex⟩ := z
   refine ⟨⟨o, e, ex.1⟩, fun a e2 => ?_⟩
   cases e2
   exact ⟨o, e, ex.2.1⟩
  ·obtain ⟨o, _, _, _, e, ex, _⟩ := I.hok p _ hk
   refine ⟨⟨o, e, ex.1⟩, fun a e2 => ?_⟩
   cases e2
   exact ⟨o, e, ex.2.1⟩
 | _ => exact False.elim ty
def tBM0 (K : PySem.W.Frag) (T : String) (r : V -> List V -> Hp -> VK -> Prop) (to : TE) : TE := fun σ H Q => to σ H fun x H1 => tyV K T x H1 /\ r x [] H1 Q
def tBM (K : PySem.W.Frag) (T : String) (r : V -> List V -> Hp -> VK -> Prop) (to : TE) (t : TA) : TE := fun σ H Q => to σ H fun x H1 => tyV K T x H1 /\ t σ H1 fun xs H2 => r x xs H2 Q
variable {o e : Expr} {es : List Expr} {to : TE} {t : TA} {name : Str} {apos cpos : Pos} {T id : String} {r : V -> List V -> Hp -> VK -> Prop}
theorem c6Q (pa : PlainAttrs T) (slot : Slot T name id) (hty : typeOf (.builtin id) = pure (.type "method_descriptor")) (hm : MtR X id r) (ho : PE X o to)
 (hbase : attributeBase o name X.env (eval o X.env) = eval o X.env := by rfl) (hline : (apos.endLine == cpos.line) = true := by rfl) : PE X (.Call (.Attribute o name apos) [] [] cpos) (tBM0 X.K T r to) := by
 intro pins s σ H Q I h
 refine wpAny_Call_method0_late hbase hline (thn (ho pins s σ H _ I h) fun v s1 ⟨x, H1, I1, r1, ty, q1⟩ => ?_)
 obtain ⟨h1, h2⟩ := c6R I1 r1 ty
 exact ⟨T, id, pa, slot, hty, h1, h2, Calls.callWith_builtin rfl (PySem.evalArgs_none (hm pins s1 σ H1 x [] v [] Q I1 r1 .nil q1))⟩
theorem a9Q (pa : PlainAttrs T) (slot : Slot T name id) (hty : typeOf (.builtin id) = pure (.type "method_descriptor")) (hm : MtR X id r) (ho : PE X o to) (ha : PA X (e :: es) t)
 (hbase : attributeBase o name X.env (eval o X.env) = eval o X.env := by rfl)
 (hfew : ((backTo cpos (starEach (e :: es) X.env)).all (fun x => !x.1) && (backToKw cpos (keywordEach [] X.env)).all (fun x => x.1.isSome)
  && decide ((e :: es).length + ([] : List Keyword).length + (if ([] : List Keyword).isEmpty then 0 else 1) < 30)) = true := by rfl)
 (hline : (apos.endLine == cpos.line) = true := by rfl) (hs : starEach (e :: es) X.env = (false, eval e X.env) :: starEach es X.env := by rfl) (hplain : (backTo cpos (starEach es X.env)).any (·.1) = false := by rfl) :
 PE X (.Call (.Attribute o name apos) (e :: es) [] cpos) (tBM X.K T r to t) := by
 intro pins s σ H Q I h
 refine wpAny_Call_method_late hbase hfew hline rfl (thn (ho pins s σ H _ I h) fun v s1 ⟨x, H1, I1, r1, ty, q1⟩ => ?_)
 obtain ⟨h1, h2⟩ := c6R I1 r1 ty
 refine ⟨T, id, pa, slot, hty, h1, h2, ?_⟩
 have hA := ha cpos pins s1 σ H1 _ I1 q1
 rw [hs] at hA ⊢
 refine Calls.callWith_builtin (by show (false || (backTo cpos (starEach es X.env)).any (·.1)) = false; rw [hplain] <;> rfl) (Calls.evalArgs_plain ?_)
 exact thn hA fun us s2 ⟨vs, H2, I2, r2, q2⟩ => hm pins s2 σ H2 x vs v us Q I2 r1 r2 q2
end
end L2
namespace L2
open PySem PySem.Spec PyProof.Rows
def MtM (X : Cx) (id : String) (r : V -> List V -> Hp -> VK -> Prop) : Prop :=
 ∀ (pins : List (Addr × Obj)) (s : Shared) (σ : St) (H : Hp) (x : V) (xs : List V) (v : Value) (us : List Value) (Q : VK), Inv X pins σ H s -> RelV x v -> Vals xs us -> r x xs H Q ->
  wpAny (model X.prog X.w) X.A (call (.builtin id) (v :: us)) (EP X pins σ Q) X.xe s
theorem Vals.one : ∀ {x : V} {us : List Value}, Vals [x] us -> ∃ u, us = [u] /\ RelV x u
 | _, _, .cons r .nil => ⟨_, rfl, r⟩
theorem Vals.two : ∀ {x y : V} {us : List Value}, Vals [x, y] us -> ∃ u v, us = [u, v] /\ RelV x u /\ RelV y v
 | _, _, _, .cons r (.cons q .nil) => ⟨_, _, rfl, r, q⟩
theorem Vals.zero : ∀ {us : List Value}, Vals [] us -> us = []
 | _, .nil => rfl
theorem Vals.dropLast {xs : List V} {us : List Value} (h : Vals xs us) : Vals xs.dropLast us.dropLast := by
 induction h with
 | nil => exact .nil
 | cons r t ih =>
  cases t with
  | nil => exact .nil
  | cons q t' => exact .cons r ih
theorem c2R {α : Type} (l : List α) : l.eraseIdx (l.length - 1) = l.dropLast := by
 induction l with
 | nil => rfl
 | cons a r ih =>
  cases r with
  | nil => rfl
  | cons b r =>
   have e : (a :: b :: r).length - 1 = ((b :: r).length - 1) + 1 := by
    have h1 : (a :: b :: r).length = r.length + 2 := rfl
    have h2 : (b :: r).length = r.length + 1 := rfl
    omega
   rw [e, List.eraseIdx_cons_succ, ih]
   all_goals rfl
section
variable {X : Cx} {pins : List (Addr × Obj)} {σ : St} {H : Hp} {s : Shared} {l b : Addr} {xs ys zs : List V}
theorem Inv.lset {its its' : List Value} {n : Nat} {f : Array Value -> Array Value} {t' : Nat} (I : Inv X pins σ H s) (hH : H l = some (.lst xs))
 (e : s.heap.get? l = some { cls := .type "list", data := .seq its.toArray n }) (hf : f its.toArray = its'.toArray) (hv : Vals ys its') (hz : ys.length <= sizeLine) :
 Inv X pins σ (upd H l (.lst ys)) { s with heap := s.heap.update l (Obj.mapSeq f), toks := t' } := by
 have q := PySem.IsL.update e f
 rw [hf] at q
 refine I.write (x := l) (e := l) (by rw [hH]; exact trivial) (.inl rfl) (fun b' u hb hu => (Heap.get?_update_other s.heap (Obj.mapSeq f) (Ne.symm hb)).trans hu) ⟨_, q⟩ ?_
 exact ⟨hz, its', _, hv, q⟩
theorem Inv.lnew {its : List Value} {t' : Nat} (I : Inv X pins σ H s) (hv : Vals ys its) (hz : ys.length <= sizeLine) :
 Inv X pins σ (upd H s.heap.objs.size (.lst ys)) { s with heap := s.heap.push { cls := .type "list", data := .seq its.toArray }, toks := t' } :=
 I.laid (fun _ _ q => Heap.get?_push_of_some _ q) (Nat.le_refl _) ⟨hz, its, 0, hv, Heap.get?_push_size _ rfl⟩
theorem Inv.fresh (I : Inv X pins σ H s) : H s.heap.objs.size = none := I.hok.fresh (Nat.le_refl _)
theorem Inv.lstM (I : Inv X pins σ H s) (hH : H l = some (.lst xs)) : xs.length <= sizeLine /\ ∃ (its : List Value) (n : Nat), Vals xs its /\ xs.length = its.length /\ s.heap.get? l = some { cls := .type "list", data := .seq its.toArray n } := by
 obtain ⟨z, its, n, r, e⟩ := I.hok l _ hH
 exact ⟨z, its, n, r, r.length, e⟩
theorem c5U {n : Nat} (h : n <= sizeLine) : Builtin.List.listTooLong n = false := by
 unfold Builtin.List.listTooLong
 exact decide_eq_false (by omega)
end
section
variable {X : Cx}
def c7n : V -> List V -> Hp -> VK -> Prop := fun x vs H Q => ∃ l xs y, x = .ref l /\ vs = [y] /\ H l = some (.lst xs) /\ xs.length < sizeLine /\ Q .non (upd H l (.lst (xs ++ [y])))
theorem a17 : MtM X "list.append" c7n := by
 intro pins s σ H x vs v us Q I rx rv h
 obtain ⟨l, xs, y, rfl, rfl, hH, hz, q⟩ := h
 cases rx
 obtain ⟨u, rfl, ru⟩ := rv.one
 obtain ⟨z, its, n, r, hl, e⟩ := I.lstM hH
 refine call_meets F.slot_list_append ⟨_, e, rfl⟩ F.entry_list_append (F.args_list_append_2 _ _) (PySem.list_append l its.toArray n u (by rw [List.size_toArray]; omega)) ⟨e, ?_⟩
 refine ⟨.non, _, I.lset (its' := its ++ [u]) hH e (by simp) (r.append (.cons ru .nil)) ?_, rfl, q⟩
 rw [List.length_append, List.length_singleton]
 omega
def c8k : V -> List V -> Hp -> VK -> Prop := fun x vs H Q => ∃ l b xs zs, x = .ref l /\ vs = [.ref b] /\ H l = some (.lst xs) /\ H b = some (.lst zs) /\ xs.length + zs.length <= sizeLine /\ Q .non (upd H l (.lst (xs ++ zs)))
theorem mt_extend : MtM X "list.extend" c8k := by
 intro pins s σ H x vs v us Q I rx rv h
 obtain ⟨l, b, xs, zs, rfl, rfl, hH, hB, hz, q⟩ := h
 cases rx
 obtain ⟨u, rfl, ru⟩ := rv.one
 cases ru
 obtain ⟨z, its, n, r, hl, e⟩ := I.lstM hH
 obtain ⟨z2, its2, n2, r2, hl2, e2⟩ := I.lstM hB
 have hsz : its.toArray.size + its2.toArray.size <= sizeLine := by rw [List.size_toArray, List.size_toArray]; omega
 have hlong : ¬ (!its.toArray.isEmpty && Builtin.List.listTooLong (its.toArray.size + its2.toArray.size)) = true := by
  rw [c5U hsz, Bool.and_false]
  exact Bool.false_ne_true
 refine call_meets F.slot_list_extend ⟨_, e, rfl⟩ F.entry_list_extend (F.args_list_extend_2 _ _)
  (AutoSeq1.list_extend_list_list_0 l its.toArray n b its2.toArray n2 hlong (by rw [List.size_toArray]; omega) (by omega)) ⟨e, e2, ?_⟩
 refine ⟨.non, _, I.lset (its' := its ++ its2) hH e (by simp) (r.append r2) ?_, rfl, q⟩
 rw [List.length_append]
 omega
def rPop : V -> List V -> Hp -> VK -> Prop := fun x vs H Q => ∃ l xs y, x = .ref l /\ vs = [] /\ H l = some (.lst xs) /\ xs[xs.length - 1]? = some y /\ Q y (upd H l (.lst xs.dropLast))
theorem c60 : MtM X "list.pop" rPop := by
 intro pins s σ H x vs v us Q I rx rv h
 obtain ⟨l, xs, y, rfl, rfl, hH, hy, q⟩ := h
 cases rx
 have hus := rv.zero
 subst hus
 obtain ⟨z, its, n, r, hl, e⟩ := I.lstM hH
 obtain ⟨u, hu, ru⟩ := r.get hy
 have hy' : its.toArray[its.toArray.size - 1]? = some u := by
  show its.toArray[its.length - 1]? = some u
  rw [<- Array.getElem?_toList, <- hl]
  exact hu
 refine call_meets F.slot_list_pop ⟨_, e, rfl⟩ F.entry_list_pop (F.args_list_pop_1 _) (MeetsSeq.list_pop_last l its.toArray n u hy' (by rw [List.size_toArray]; omega)) ⟨e, ?_⟩
 refine ⟨y, _, I.lset (its' := its.dropLast) hH e ?_ r.dropLast ?_, ru, q⟩
 ·show its.toArray.eraseIdxIfInBounds (its.toArray.size - 1) = its.dropLast.toArray
  rw [List.size_toArray, List.eraseIdxIfInBounds_toArray, c2R]
 ·rw [List.length_dropLast]
  omega
def rCat : R2 := fun x y H Q => ∃ l b xs zs, x = .ref l /\ y = .ref b /\ H l = some (.lst xs) /\ H b = some (.lst zs) /\ xs.length + zs.length <= sizeLine /\ ∀ p, H p = none -> Q (.ref p) (upd H p (.lst (xs ++ zs)))
theorem c4T : OpR X (binaryOp .Add) rCat := by
 intro pins s σ H x y v u Q I rx ry h
 obtain ⟨l, b, xs, zs, rfl, rfl, hH, hB, hz, q⟩ := h
 cases rx
 cases ry
 obtain ⟨z, its, n, r, hl, e⟩ := I.lstM hH
 obtain ⟨z2, its2, n2, r2, hl2, e2⟩ := I.lstM hB
 refine PySem.P.add_list e e2 ?_ (by rw [List.size_toArray, List.size_toArray]; omega)
 have ea : its.toArray ++ its2.toArray = (its ++ its2).toArray := by simp
 rw [ea]
 exact ⟨.ref _, _, I.lnew (t' := s.toks) (r.append r2) (by rw [List.length_append]; omega), rfl, q _ I.fresh⟩
end
section
variable {prog : Program} {w : World} {A : Around} {E : Value -> Shared -> Prop} {s : Shared}
set_option maxRecDepth 100000 in
end
section
variable {X : Cx}
end
end L2
namespace L2
open PySem PySem.Spec PyProof.Rows
section
variable {κ : Type} [DecidableEq κ]
def valV (kvs : List (κ × V)) (k : κ) : Option V := (kvs.find? fun kv => decide (kv.1 = k)).map (·.2)
def putK (kvs : List (κ × V)) (k : κ) (v : V) : List (κ × V) :=
 if (kvs.any fun kv => decide (kv.1 = k)) = true then kvs.map (fun kv => if kv.1 = k then (kv.1, v) else kv) else kvs ++ [(k, v)]
theorem b5X {p : κ × V} {r : List (κ × V)} {k : κ} (e : p.1 = k) : valV (p :: r) k = some p.2 := by simp [valV, List.find?_cons, e]
theorem b6P {p : κ × V} {r : List (κ × V)} {k : κ} (e : ¬ p.1 = k) : valV (p :: r) k = valV r k := by simp [valV, List.find?_cons, e]
theorem c1x (k : κ) : ∀ kvs : List (κ × V), (kvs.any fun kv => decide (kv.1 = k)) = (valV kvs k).isSome
 | [] => rfl
 | p :: r => by
  rw [List.any_cons]
  by_cases e : p.1 = k
  ·simp only [b5X e, decide_eq_true e, Bool.true_or, Option.isSome_some]
  ·rw [b6P e, decide_eq_false e, Bool.false_or]; exact c1x k r
theorem a8D (kvs : List (κ × V)) (k : κ) (v : V) : (putK kvs k v).length <= kvs.length + 1 := by
 unfold putK
 split
 ·rw [List.length_map]; omega
 ·rw [List.length_append, List.length_cons, List.length_nil]; omega
theorem RelO.isSome_eq {o : Option V} {u : Option Value} (r : RelO o u) : o.isSome = u.isSome := by
 cases o with
 | none => cases u with
  | none => rfl
  | some _ => exact (show False from r).elim
 | some _ => cases u with
  | none => exact (show False from r).elim
  | some _ => rfl
theorem RelO.getD {o : Option V} {u : Option Value} {d : V} {d' : Value} (r : RelO o u) (rd : RelV d d') : RelV (o.getD d) (u.getD d') := by
 cases o with
 | none => cases u with
  | none => exact rd
  | some _ => exact (show False from r).elim
 | some _ => cases u with
  | none => exact (show False from r).elim
  | some _ => exact r
theorem KV.val {kvs : List (κ × V)} {vs : List (κ × Value)} (r : KV kvs vs) (k : κ) : RelO (valV kvs k) (valueAt vs k) := by
 unfold KV at r
 induction r with
 | nil => exact True.intro
 | @cons p q ps qs h t ih =>
  obtain ⟨h1, h2⟩ := h
  by_cases e : p.1 = k
  ·have e' : q.1 = k := h1.symm.trans e
   have b : valueAt (q :: qs) k = some q.2 := by simp [valueAt, List.find?_cons, e']
   rw [b5X e, b]; exact h2
  ·have e' : ¬ q.1 = k := fun z => e (h1.trans z)
   have b : valueAt (q :: qs) k = valueAt qs k := by simp [valueAt, List.find?_cons, e']
   rw [b6P e, b]; exact ih
theorem KV.any {kvs : List (κ × V)} {vs : List (κ × Value)} (r : KV kvs vs) (k : κ) : (kvs.any fun kv => decide (kv.1 = k)) = vs.any fun kv => decide (kv.1 = k) := by
 unfold KV at r
 induction r with
 | nil => rfl
 | cons h t ih => rw [List.any_cons, List.any_cons, ih, h.1]
theorem KV.repl {kvs : List (κ × V)} {vs : List (κ × Value)} (r : KV kvs vs) (k : κ) {y : V} {u : Value} (ry : RelV y u) :
 KV (kvs.map fun kv => if kv.1 = k then (kv.1, y) else kv) (vs.map fun kv => if kv.1 = k then (kv.1, u) else kv) := by
 unfold KV at r ⊢
 induction r with
 | nil => exact .nil
 | @cons p q ps qs h t ih =>
  rw [List.map_cons, List.map_cons]
  refine .cons ?_ ih
  obtain ⟨h1, h2⟩ := h
  by_cases e : p.1 = k
  ·rw [if_pos e, if_pos (h1.symm.trans e)]; exact ⟨h1, ry⟩
  ·rw [if_neg e, if_neg (fun z => e (h1.trans z))]; exact ⟨h1, h2⟩
theorem KV.put {kvs : List (κ × V)} {vs : List (κ × Value)} (r : KV kvs vs) (k : κ) {y : V} {u : Value} (ry : RelV y u) : KV (putK kvs k y) (stored vs k u) := by
 unfold putK stored
 rw [r.any k]
 by_cases e : (vs.any fun kv => decide (kv.1 = k)) = true
 ·rw [if_pos e, if_pos e]; exact r.repl k ry
 ·rw [if_neg e, if_neg e]; exact Paired.snoc r ⟨rfl, ry⟩
theorem KV.length {kvs : List (κ × V)} {vs : List (κ × Value)} (r : KV kvs vs) : kvs.length = vs.length := Paired.length r
end
theorem c3c {P : Program} {w : World} {k : Key} {u : Value} (r : RelV (kV k) u) : (a0T P w).is k u = true := by
 cases k with
 | inl i => obtain ⟨t, e⟩ := (show ∃ t, u = Value.int i t from r); subst e; exact b9g P w i t
 | inr x => obtain ⟨t, e⟩ := (show ∃ t, u = Value.str x t from r); subst e; exact c0X P w x t
theorem b7B {P : Program} {w : World} : ∀ {ks : List Key} {us : List Value}, Vals (ks.map kV) us -> ItemsAre (a0T P w) ks us
 | [], _, r => by rw [List.map_nil] at r; cases r; exact .nil
 | k :: ks, _, r => by
  rw [List.map_cons] at r
  cases r with
  | cons h t => exact .cons (c3c h) (b7B t)
abbrev KT (H : Hp) : List (List Key × V) -> List (List Key × Addr × Value) -> Prop := Paired fun p q => p.1 = q.1 /\ H q.2.1 = some (.tup (p.1.map kV)) /\ RelV p.2 q.2.2
theorem KT.val {H : Hp} {kvs : List (List Key × V)} {xs : List (List Key × Addr × Value)} (r : KT H kvs xs) (k : List Key) : RelO (valV kvs k) ((atKey xs k).map (·.2)) := by
 induction r with
 | nil => exact True.intro
 | @cons p q ps qs h t ih =>
  obtain ⟨h1, _, h2⟩ := h
  by_cases e : p.1 = k
  ·have e' : q.1 = k := h1.symm.trans e
   have b : atKey (q :: qs) k = some q.2 := by simp [atKey, List.find?_cons, e']
   rw [b5X e, b]; exact h2
  ·have e' : ¬ q.1 = k := fun z => e (h1.trans z)
   have b : atKey (q :: qs) k = atKey qs k := by simp [atKey, List.find?_cons, e']
   rw [b6P e, b]; exact ih
theorem KT.repl {H : Hp} {kvs : List (List Key × V)} {xs : List (List Key × Addr × Value)} (r : KT H kvs xs) (k : List Key) {y : V} {u : Value} (ry : RelV y u) :
 KT H (kvs.map fun kv => if kv.1 = k then (kv.1, y) else kv) (xs.map (putAt k u)) := by
 induction r with
 | nil => exact .nil
 | @cons p q ps qs h t ih =>
  rw [List.map_cons, List.map_cons]
  refine .cons ?_ ih
  obtain ⟨h1, h2, h3⟩ := h
  unfold putAt
  by_cases e : p.1 = k
  ·rw [if_pos e, if_pos (h1.symm.trans e)]; exact ⟨h1, h2, ry⟩
  ·rw [if_neg e, if_neg (fun z => e (h1.trans z))]; exact ⟨h1, h2, h3⟩
theorem KT.put {H : Hp} {kvs : List (List Key × V)} {xs : List (List Key × Addr × Value)} (r : KT H kvs xs) (k : List Key) {b : Addr} {y : V} {u : Value} (hb : H b = some (.tup (k.map kV))) (ry : RelV y u) :
 KT H (putK kvs k y) (storedH xs k b u) := by
 have e : (kvs.any fun kv => decide (kv.1 = k)) = (atKey xs k).isSome := by
  rw [c1x, (r.val k).isSome_eq, Option.isSome_map]
 unfold putK storedH
 rw [e]
 by_cases q : (atKey xs k).isSome = true
 ·rw [if_pos q, if_pos q]; exact r.repl k ry
 ·rw [if_neg q, if_neg q]; exact Paired.snoc r ⟨rfl, hb, ry⟩
theorem KT.keeps {H H' : Hp} {kvs : List (List Key × V)} {xs : List (List Key × Addr × Value)} (r : KT H kvs xs) (ht : ∀ b ys, H b = some (.tup ys) -> H' b = some (.tup ys)) : KT H' kvs xs :=
 Paired.mapP r fun _ _ z => ⟨z.1, ht _ _ z.2.1, z.2.2⟩
section
variable {P : Program} {w : World} {H : Hp} {h : Heap} {a : Addr}
theorem c80 {u : HO} (ok : HOk P w H h) (e : Rd H a u) : a2X P w H h a u := e.ok ok
theorem c3y {kvs : List (Key × V)} (ok : HOk P w H h) (e : Rd H a (.dK kvs)) : kvs.length <= sizeLine /\ (a == sysModules) = false /\ ∃ vs, KV kvs vs /\ h.DictOf (a0T P w) a vs :=
 show a2X P w H h a (.dK kvs) from c80 ok e
theorem c8K {kvs : List (Key × V)} (ok : HOk P w H h) (e : H a = some (.dK kvs)) : kvs.length <= sizeLine /\ (a == sysModules) = false /\ ∃ vs, KV kvs vs /\ h.DictOf (a0T P w) a vs := c3y ok (.inl e)
theorem c14 {ks : List Key} (ok : HOk P w H h) (e : H a = some (.tup (ks.map kV))) : (tupleKind (a0T P w)).is h ks a := by
 obtain ⟨_, its, r, o, h1, h2, n, h3⟩ := (show a2X P w H h a (.tup (ks.map kV)) from ok a _ e)
 exact ⟨o, its.toArray, n, h1, h2, h3, by simpa using b7B r⟩
theorem c3z {kvs : List (List Key × V)} (ok : HOk P w H h) (e : Rd H a (.dT kvs)) : kvs.length <= sizeLine /\ (a == sysModules) = false /\
 ∃ xs, KT H kvs xs /\ h.DictOfH (tupleKind (a0T P w)) a xs := by
 obtain ⟨z, y, xs, r, o, es, ep, h1, h2, h3, h4, h5⟩ := (show a2X P w H h a (.dT kvs) from c80 ok e)
 refine ⟨z, y, xs, r, o, es, ep, h1, h2, h3, h4, fun x hx => ?_, h5⟩
 have all : ∀ {l : List (List Key × V)} {m : List (List Key × Addr × Value)}, KT H l m -> ∀ x ∈ m, (tupleKind (a0T P w)).is h x.1 x.2.1 := by
  intro l m q
  induction q with
  | nil => intro x hx; exact nomatch hx
  | @cons p q ps qs hq t ih =>
   intro x hx
   rcases List.mem_cons.mp hx with e | hx
   ·subst e
    exact c14 ok (by rw [<- hq.1]; exact hq.2.1)
   ·exact ih x hx
 exact all r x hx
theorem c9Y {kvs : List (List Key × V)} (ok : HOk P w H h) (e : H a = some (.dT kvs)) : kvs.length <= sizeLine /\ (a == sysModules) = false /\
 ∃ xs, KT H kvs xs /\ h.DictOfH (tupleKind (a0T P w)) a xs := c3z ok (.inl e)
end
def DGet (H : Hp) (a : Addr) (y : V) (r : Option V) : Prop :=
 (∃ kvs k, Rd H a (.dK kvs) /\ y = kV k /\ r = valV kvs k) ∨ ∃ kvs k b, Rd H a (.dT kvs) /\ y = .ref b /\ H b = some (.tup (k.map kV)) /\ r = valV kvs k
def DPut (H : Hp) (a : Addr) (y v : V) (H' : Hp) : Prop :=
 (∃ kvs k, H a = some (.dK kvs) /\ y = kV k /\ kvs.length < sizeLine /\ H' = upd H a (.dK (putK kvs k v))) ∨
 ∃ kvs k b, H a = some (.dT kvs) /\ y = .ref b /\ H b = some (.tup (k.map kV)) /\ kvs.length < sizeLine /\ H' = upd H a (.dT (putK kvs k v))
theorem DGet.k {H : Hp} {a : Addr} {kvs : List (Key × V)} {k : Key} (e : H a = some (.dK kvs)) : DGet H a (kV k) (valV kvs k) := .inl ⟨kvs, k, .inl e, rfl, rfl⟩
theorem DPut.k {H : Hp} {a : Addr} {kvs : List (Key × V)} {k : Key} {v : V} (e : H a = some (.dK kvs)) (hl : kvs.length < sizeLine) : DPut H a (kV k) v (upd H a (.dK (putK kvs k v))) := .inl ⟨kvs, k, e, rfl, hl, rfl⟩
section
variable {X : Cx} {pins : List (Addr × Obj)} {σ : St} {H : Hp} {s : Shared} {a : Addr} {y v : V} {u r : Value} {o : Option V} {A : Around} {E : Value -> Shared -> Prop}
theorem Inv.big (I : Inv X pins σ H s) : sysModules < s.heap.objs.size := by
 have h : mainGlobals < s.heap.objs.size := (I.mod.glob.keeps I.bk).lt
 exact Nat.lt_trans (by decide) h
theorem c3C {Q : Value -> Shared -> Prop} (hu : A.units + 1 < cLine) (I : Inv X pins σ H s) (g : DGet H a y (some v)) (ry : RelV y u) (h : ∀ w' s', Inv X pins σ H s' -> RelV v w' -> Q w' s') :
 wpAny (model X.prog X.w) A (getItem (.ref a) u) Q E s := by
 rcases g with ⟨kvs, k, e, ey, l⟩ | ⟨kvs, k, b, e, ey, eb, l⟩
 ·subst ey
  obtain ⟨z, hd, vs, rel, dd⟩ := c3y I.hok e
  obtain ⟨w', hw, rw'⟩ := RelO.some_of (v := v) (o := valueAt vs k) (by rw [l]; exact rel.val k)
  exact wpAny_getItem_of (c3c ry) dd.mapOf hw (h w' _ (I.tok _) rw')
 ·subst ey
  cases (show u = Value.ref b from ry)
  obtain ⟨z, hd, xs, rel, dd⟩ := c3z I.hok e
  obtain ⟨w', hw, rw'⟩ := RelO.some_of (v := v) (o := (atKey xs k).map (·.2)) (by rw [l]; exact rel.val k)
  obtain ⟨p, hp, hp2⟩ := Option.map_eq_some_iff.mp hw
  refine wpAny_getItem_heap (tupleKind_room_in1 hu) (c14 I.hok eb) dd hp ?_
  rw [hp2]
  exact h w' _ (I.tok _) rw'
theorem c1m {h' : Heap} {t' : Nat} {ob : HO} (I : Inv X pins σ H s) (mu : Mut (H a)) (hs : Heap.SameBut a s.heap h') (he : ∃ q, h'.get? a = some q) (new : a2X X.prog X.w (upd H a ob) h' a ob) :
 Inv X pins σ (upd H a ob) { s with heap := h', toks := t' } :=
 I.write (x := a) (e := a) mu (.inl rfl) (fun b q hb z => (hs.2 b hb).trans z) he new
theorem c6L {P : Program} {w : World} {H' : Hp} {h' : Heap} {kvs : List (Key × V)} {vs : List (Key × Value)} (z : kvs.length <= sizeLine) (hd : (a == sysModules) = false) (rel : KV kvs vs) (dd : h'.DictOf (a0T P w) a vs) :
 a2X P w H' h' a (.dK kvs) := ⟨z, hd, vs, rel, dd⟩
theorem c4R {H' : Hp} {Q : Unit -> Shared -> Prop} (hu : A.units + 1 < cLine) (I : Inv X pins σ H s) (g : DPut H a y v H') (ry : RelV y u) (rv : RelV v r) (h : ∀ s', Inv X pins σ H' s' -> Q () s') :
 wpAny (model X.prog X.w) A (setItem (.ref a) u r) Q E s := by
 rcases g with ⟨kvs, k, e, ey, l, eH⟩ | ⟨kvs, k, b, e, ey, eb, l, eH⟩
 ·subst ey eH
  obtain ⟨z, hd, vs, rel, dd⟩ := c8K I.hok e
  have hz : vs.length <= sizeLine := by rw [<- rel.length]; exact z
  have hl : (putK kvs k v).length <= sizeLine := by have := a8D kvs k v; omega
  refine wpAny_setItem_pairs (hsz := hz) (c3c ry) dd fun h' dd' hs => h _ ?_
  have he : ∃ q, h'.get? a = some q := let ⟨q, _, _, hq, _⟩ := dd'; ⟨q, hq⟩
  exact c1m I (by rw [e]; exact True.intro) hs he (c6L hl hd (rel.put k rv) dd')
 ·subst ey eH
  cases (show u = Value.ref b from ry)
  obtain ⟨z, hd, xs, rel, dd⟩ := c9Y I.hok e
  have hz : xs.length <= sizeLine := by rw [<- Paired.length rel]; exact z
  have hl : (putK kvs k v).length <= sizeLine := by have := a8D kvs k v; omega
  refine wpAny_setItem_heap (hsz := hz) (tupleKind_room_in1 hu) (c14 I.hok eb) dd fun h' dd' hs => h _ ?_
  obtain ⟨q, es, ep, hq, h2, h3, h4, _, h5⟩ := dd'
  refine c1m I (by rw [e]; exact True.intro) hs ⟨q, hq⟩ ⟨hl, hd, _, (rel.put k eb rv).keeps fun c ys ec => ?_, q, es, ep, hq, h2, h3, h4, h5⟩
  rw [a0m (c2Y ec e (fun z => nomatch z))]
  exact ec
end
section
variable {X : Cx} {pins : List (Addr × Obj)} {σ : St} {H : Hp} {s : Shared} {a : Addr} {kvs : List (Key × V)} {k : Key} {u : Value} {A : Around} {E : Value -> Shared -> Prop}
end
def NoSl (i : Expr) : Prop := ∀ ov iv, subscripted i false ov iv = operate [ov, iv] (getItem ov iv)
theorem c3x {prog : Program} {w : World} {A : Around} {E : Value -> Shared -> Prop} {s : Shared} {env : Env} {value slice : Expr} {pos : Pos} {T id : String} {Q : Value -> Shared -> Prop}
 (hl : typeLookup (.type T) "__getitem__" = pure (some (.builtin id))) (hs : NoSl slice)
 (h : wpAny (model prog w) A (eval value env) (fun o s₁ => wpAny (model prog w) A (eval slice env) (fun i s₂ => s₂.TypeIs o T /\ wpAny (model prog w) A (getItem o i) Q E s₂) E s₁) E s) :
 wpAny (model prog w) A (eval (.Subscript value slice pos) env) Q E s := by
 refine Subscript_ (wpAny_mono h (fun o s₁ h₁ => wpAny_mono h₁ (fun i s₂ h₂ => ?_) fun _ _ x => x) fun _ _ x => x)
 obtain ⟨hT, h₂⟩ := h₂
 unfold subscriptTail
 refine wpAny_bind ?_
 rw [getitemInPython_of_ne hT.not_modules]
 refine wpAny_bind (wpAny_specialOf hT hl ?_)
 have fin : wpAny (model prog w) A (subscripted slice false o i) (fun r s₃ => wpAny (model prog w) A (letTemporaryGo value o r >>= fun _ => pure r) Q E s₃) E s₂ := by
  rw [hs o i]
  exact wpAny_operating (wpAny_mono h₂ (fun r s₃ h₃ => wpAny_bind (wpAny_letTemporaryGo (wpAny_pure h₃))) fun _ _ x => x)
 first
  | exact wpAny_pure (wpAny_bind fin)
  | exact wpAny_bind (wpAny_pure (wpAny_bind fin))
  | exact wpAny_bind fin
theorem b9k {X : Cx} {pins : List (Addr × Obj)} {σ : St} {H : Hp} {s : Shared} {a : Addr} {y : V} {o : Option V} (I : Inv X pins σ H s) (g : DGet H a y o) : s.TypeIs (.ref a) "dict" := by
 rcases g with ⟨kvs, k, e, _, _⟩ | ⟨kvs, k, b, e, _, _, _⟩
 ·obtain ⟨_, _, vs, _, dd⟩ := c3y I.hok e
  exact dd.typeIs
 ·obtain ⟨_, _, xs, _, dd⟩ := c3z I.hok e
  exact dd.typeIs
def d0i (td ty : TE) : TE := fun σ H Q => td σ H fun x H1 => ty σ H1 fun y H2 => ∃ a v, x = .ref a /\ DGet H2 a y (some v) /\ Q v H2
def d0e (td ty tv : TE) : TS := fun D σ H => tv σ H fun v H1 => td σ H1 fun x H2 => ty σ H2 fun y H3 => ∃ a H4, x = .ref a /\ DPut H3 a y v H4 /\ D.nx σ H4
section
variable {X : Cx} {o i e value : Expr} {pos pos' tpos : Pos} {td ty tv : TE}
theorem a0R (hu : X.A.units + 1 < cLine) (ho : PE X o td) (hi : PE X i ty) (hs : NoSl i) : PE X (.Subscript o i pos) (d0i td ty) := by
 intro pins s σ H Q I h
 refine c3x PySem.F.slot_dict_getitem.lookup hs (thn (ho pins s σ H _ I h) fun u s1 ⟨x, H1, I1, rx, q1⟩ => thn (hi pins s1 σ H1 _ I1 q1) fun iv s2 ⟨y, H2, I2, ry, a, v, ex, g, q2⟩ => ?_)
 subst ex
 obtain rfl : u = Value.ref a := rx
 exact ⟨b9k I2 g, c3C hu I2 g ry fun w' s3 I3 rw' => ⟨v, H2, I3, rw', q2⟩⟩
theorem c0Q (hu : X.A.units + 1 < cLine) (ho : PE X o td) (hi : PE X i ty) (hv : PE X value tv) (hs : swapsWith value (some (.Subscript o i pos')) pos.line X.env = pure false) :
 PS X (.Assign [.Subscript o i pos'] value pos) (d0e td ty tv) := by
 intro pins s σ H D I h
 refine wpAny_Assign_Subscript (thn (hv pins s σ H _ I h) fun r s1 ⟨v, H1, I1, rv, q1⟩ => thn (ho pins s1 σ H1 _ I1 q1) fun u s2 ⟨x, H2, I2, rx, q2⟩ => thn (hi pins s2 σ H2 _ I2 q2) fun iv s3 ⟨y, H3, I3, ry, a, H4, ex, g, q3⟩ => ?_) hs
 subst ex
 obtain rfl : u = Value.ref a := rx
 exact c4R hu I3 g ry rv fun s4 I4 => ⟨σ, H4, I4, q3⟩
end
theorem c1Y {P : Program} {w : World} {H : Hp} (h : Heap) (hb : sysModules < h.objs.size) : a2X P w H (h.push { cls := .type "dict", data := .dict #[] }) h.objs.size (.dK []) :=
 ⟨Nat.zero_le _, beq_eq_false_iff_ne.mpr (Ne.symm (Nat.ne_of_lt hb)), [], .nil, Heap.DictOf.new h⟩
def c8G : TE := fun _ H Q => ∀ p, H p = none -> Q (.ref p) (upd H p (.dK []))
section
variable {X : Cx} {pos : Pos}
theorem c5V : PE X (.Dict [] [] pos) c8G := fun pins s σ H Q I h =>
 wpAny_Dict_empty ⟨.ref s.heap.objs.size, _, I.laid (a := s.heap.objs.size) (o := .dK []) (t' := s.toks) (fun _ _ q => Heap.get?_push_of_some _ q) (Nat.le_refl _) (c1Y s.heap I.big), rfl, h _ (I.hok.fresh (Nat.le_refl _))⟩
end
def c3t : List (TE × TE) -> St -> Hp -> (List (V × V) -> Hp -> Prop) -> Prop
 | [], _, H, Q => Q [] H
 | (tk, tv) :: r, σ, H, Q => tk σ H fun x H1 => tv σ H1 fun y H2 => c3t r σ H2 fun ps H3 => Q ((x, y) :: ps) H3
abbrev VV : List (V × V) -> List (Value × Value) -> Prop := Paired fun p q => RelV p.1 q.1 /\ RelV p.2 q.2
def PPs (X : Cx) (pos : Pos) (keys : List (Option Expr)) (values : List Expr) (trs : List (TE × TE)) : Prop :=
 ∀ (pins : List (Addr × Obj)) (s : Shared) (σ : St) (H : Hp) (Q : List (V × V) -> Hp -> Prop), Inv X pins σ H s -> c3t trs σ H Q ->
  wpAny (model X.prog X.w) X.A (evalPairs (pairTrees keys values X.env pos)) (fun vs s' => ∃ ps H', Inv X pins σ H' s' /\ VV ps vs /\ Q ps H') X.xe s
theorem c5d {X : Cx} {pos : Pos} : PPs X pos [] [] [] := fun pins s σ H Q I h => pairTrees_nil_walk ⟨[], H, I, .nil, h⟩
theorem a4x {X : Cx} {pos : Pos} {k v : Expr} {ks : List (Option Expr)} {vs : List Expr} {tk tv : TE} {trs : List (TE × TE)} (hk : PE X k tk) (hv : PE X v tv) (hr : PPs X pos ks vs trs) :
 PPs X pos (some k :: ks) (v :: vs) ((tk, tv) :: trs) := fun pins s σ H Q I h =>
 pairTrees_cons_walk (thn (hk pins s σ H _ I h) fun u s1 ⟨x, H1, I1, rx, q1⟩ => thn (hv pins s1 σ H1 _ I1 q1) fun w2 s2 ⟨y, H2, I2, ry, q2⟩ =>
  thn (hr pins s2 σ H2 _ I2 q2) fun ws s3 ⟨ps, H3, I3, rel, q3⟩ => ⟨(x, y) :: ps, H3, I3, .cons ⟨rx, ry⟩ rel, q3⟩)
def a3k (kvs more : List (Key × V)) : List (Key × V) := more.foldl (fun acc kv => putK acc kv.1 kv.2) kvs
theorem KV.merge : ∀ {more : List (Key × V)} {rs : List (Key × Value)} {kvs : List (Key × V)} {vs : List (Key × Value)}, KV more rs -> KV kvs vs -> KV (a3k kvs more) (merged vs rs) := by
 intro more rs kvs vs r
 unfold KV at r
 induction r generalizing kvs vs with
 | nil => intro q; exact q
 | @cons p q ps qs h t ih =>
  intro r0
  have e : KV (putK kvs p.1 p.2) (stored vs q.1 q.2) := by
   have := r0.put p.1 h.2
   rw [<- h.1]; exact this
  exact ih e
theorem a8R : ∀ (more kvs : List (Key × V)), (a3k kvs more).length <= kvs.length + more.length
 | [], kvs => by show kvs.length <= kvs.length + 0; omega
 | p :: r, kvs => by
  have h1 := a8R r (putK kvs p.1 p.2)
  have h2 := a8D kvs p.1 p.2
  show (a3k (putK kvs p.1 p.2) r).length <= _
  rw [List.length_cons]; omega
theorem b4o {P : Program} {w : World} : ∀ {kvs : List (Key × V)} {ws : List (Value × Value)}, VV (kvs.map fun kv => (kV kv.1, kv.2)) ws -> ∃ rs, Carries (a0T P w) ws rs /\ KV kvs rs
 | [], _, r => by rw [List.map_nil] at r; cases r; exact ⟨[], True.intro, .nil⟩
 | p :: kvs, _, r => by
  rw [List.map_cons] at r
  cases r with
  | @cons a b as bs h t =>
   obtain ⟨rs, c, q⟩ := b4o (P := P) (w := w) t
   obtain ⟨b1, b2⟩ := b
   exact ⟨(p.1, b2) :: rs, ⟨c3c h.1, rfl, c⟩, .cons ⟨rfl, h.2⟩ q⟩
def c94 (trs : List (TE × TE)) : TE := fun σ H Q => ∀ p, H p = none -> c3t trs σ (upd H p (.dK [])) fun ps H2 => H2 p = some (.dK []) /\ ∃ kvs : List (Key × V), ps = kvs.map (fun kv => (kV kv.1, kv.2)) /\ kvs.length <= 15 /\ Q (.ref p) (upd H2 p (.dK (a3k [] kvs)))
theorem c40 {X : Cx} {pos : Pos} {keys : List (Option Expr)} {values : List Expr} {trs : List (TE × TE)} (h : PPs X pos keys values trs) (hall : keys.all (·.isSome) = true) (hl : keys.length = values.length) (h0 : keys ≠ [])
 (h15 : keys.length <= 15) : PE X (.Dict keys values pos) (c94 trs) := by
 intro pins s σ H Q I q
 have hn := I.hok.fresh (Nat.le_refl s.heap.objs.size)
 have I1 := I.laid (a := s.heap.objs.size) (o := .dK []) (h' := s.heap.push { cls := .type "dict", data := .dict #[] }) (t' := s.toks) (fun _ _ q => Heap.get?_push_of_some _ q) (Nat.le_refl _) (c1Y s.heap I.big)
 refine wpAny_Dict_walk (knd := a0T X.prog X.w) hall hl h0 h15 (thn (h pins _ σ _ _ I1 (q _ hn)) fun ws s2 ⟨ps, H2, I2, rel, e, kvs, ep, lk, q2⟩ => ?_)
 subst ep
 obtain ⟨rs, c, rk⟩ := b4o (P := X.prog) (w := X.w) rel
 obtain ⟨z, hd, vs0, r0, dd⟩ := c8K I2.hok e
 cases r0
 refine ⟨rs, c, dd, fun h' dd' hs => ⟨.ref s.heap.objs.size, _, ?_, rfl, q2⟩⟩
 have hz : (a3k [] kvs).length <= sizeLine := by
  have h1 := a8R kvs []
  rw [List.length_nil] at h1
  rw [sizeLine_eq]; omega
 have he : ∃ q, h'.get? s.heap.objs.size = some q := let ⟨q, _, _, hq, _⟩ := dd'; ⟨q, hq⟩
 exact c1m I2 (by rw [e]; exact True.intro) hs he (c6L hz hd (rk.merge .nil) dd')
structure M1 (X : Cx) (o : Expr) (m : Str) (apos : Pos) (e : Expr) (cpos : Pos) : Prop where
 base : attributeBase o m X.env (eval o X.env) = eval o X.env
 few : ((backTo cpos (starEach [e] X.env)).all (fun x => !x.1) && (backToKw cpos (keywordEach [] X.env)).all (fun x => x.1.isSome)
  && decide (([e] : List Expr).length + ([] : List Keyword).length + (if ([] : List Keyword).isEmpty then 0 else 1) < 30)) = true
 line : (apos.endLine == cpos.line) = true
 trees : backTo cpos (starEach [e] X.env) = [(false, eval e X.env)]
structure M2 (X : Cx) (o : Expr) (m : Str) (apos : Pos) (e f : Expr) (cpos : Pos) : Prop where
 base : attributeBase o m X.env (eval o X.env) = eval o X.env
 few : ((backTo cpos (starEach [e, f] X.env)).all (fun x => !x.1) && (backToKw cpos (keywordEach [] X.env)).all (fun x => x.1.isSome)
  && decide (([e, f] : List Expr).length + ([] : List Keyword).length + (if ([] : List Keyword).isEmpty then 0 else 1) < 30)) = true
 line : (apos.endLine == cpos.line) = true
 trees : backTo cpos (starEach [e, f] X.env) = [(false, eval e X.env), (false, eval f X.env)]
def IsD (H : Hp) (a : Addr) : Prop := (∃ kvs, Rd H a (.dK kvs)) ∨ ∃ kvs, Rd H a (.dT kvs)
theorem c87 {X : Cx} {pins : List (Addr × Obj)} {σ : St} {H : Hp} {s : Shared} {a : Addr} (I : Inv X pins σ H s) (d : IsD H a) :
 s.TypeIs (.ref a) "dict" /\ (∀ b, Value.ref a = .ref b -> ∃ ob, s.heap.get? b = some ob /\ ob.dict = none) /\ (a == sysModules) = false := by
 rcases d with ⟨kvs, e⟩ | ⟨kvs, e⟩
 ·obtain ⟨_, hd, vs, _, dd⟩ := c3y I.hok e
  refine ⟨dd.typeIs, fun b q => ?_, hd⟩
  cases q
  obtain ⟨ob, _, _, h1, h2, _⟩ := dd
  exact ⟨ob, h1, h2.2.1⟩
 ·obtain ⟨_, hd, xs, _, dd⟩ := c3z I.hok e
  refine ⟨dd.typeIs, fun b q => ?_, hd⟩
  cases q
  obtain ⟨ob, _, _, h1, h2, _⟩ := dd
  exact ⟨ob, h1, h2.2.1⟩
section
variable {X : Cx} {pins : List (Addr × Obj)} {σ : St} {H : Hp} {s : Shared} {a : Addr} {y d : V} {u r : Value} {o : Option V} {A : Around} {E : Value -> Shared -> Prop}
theorem c8Q {Q : Value -> Shared -> Prop} (hu : A.units + 1 < cLine) (I : Inv X pins σ H s) (g : DGet H a y o) (ry : RelV y u) (rd : RelV d r) (h : ∀ w' s', Inv X pins σ H s' -> RelV (o.getD d) w' -> Q w' s') :
 wpAny (model X.prog X.w) A (call (.builtin "dict.get") [.ref a, u, r]) Q E s := by
 rcases g with ⟨kvs, k, e, ey, l⟩ | ⟨kvs, k, b, e, ey, eb, l⟩
 ·subst ey
  obtain ⟨z, hd, vs, rel, dd⟩ := c3y I.hok e
  refine call_meetsIn PySem.F.slot_dict_get dd.typeIs PySem.F.entry_dict_get (PySem.F.args_dict_get_3 _ _ _) (meets_dict_get_default (a0T X.prog X.w) a (c3c ry) hd r) ⟨_, dd.mapOf, h _ _ (I.tok _) ?_⟩
  rw [l]
  exact (rel.val k).getD rd
 ·subst ey
  cases (show u = Value.ref b from ry)
  obtain ⟨z, hd, xs, rel, dd⟩ := c3z I.hok e
  refine call_meetsIn PySem.F.slot_dict_get dd.typeIs PySem.F.entry_dict_get (PySem.F.args_dict_get_3 _ _ _) (meetsH_dict_get_default (tupleKind (a0T X.prog X.w)) a b hd r) ⟨tupleKind_room_in1 hu, k, xs, c14 I.hok eb, dd, h _ _ (I.tok _) ?_⟩
  rw [l]
  exact (rel.val k).getD rd
end
def c81 (td ty tx : TE) : TE := fun σ H Q => td σ H fun x H1 => ∃ a, x = .ref a /\ IsD H1 a /\ ty σ H1 fun y H2 => tx σ H2 fun z H3 => ∃ o, DGet H3 a y o /\ Q (o.getD z) H3
section
variable {X : Cx} {o e f : Expr} {apos cpos : Pos} {td ty tx : TE}
theorem c6n (hu : X.A.units + 1 < cLine) (ho : PE X o td) (he : PE X e ty) (hf : PE X f tx) (m : M2 X o "get" apos e f cpos) : PE X (.Call (.Attribute o "get" apos) [e, f] [] cpos) (c81 td ty tx) := by
 intro pins s σ H Q I h
 refine wpAny_Call_method m.base m.few m.line PySem.F.plainAttrs_dict PySem.F.slot_dict_get PySem.F.type_dict_get (thn (ho pins s σ H _ I h) fun u s1 ⟨x, H1, I1, rx, a, ex, d, q1⟩ => ?_)
 subst ex
 obtain rfl : u = Value.ref a := rx
 obtain ⟨t1, t2, _⟩ := c87 I1 d
 refine ⟨t1, t2, ?_⟩
 rw [m.trees]
 refine Calls.callWith_builtin rfl (Calls.evalArgs_plain (Calls.spliced_cons (thn (he pins s1 σ H1 _ I1 q1) fun iv s2 ⟨y, H2, I2, ry, q2⟩ =>
  Calls.spliced_cons (thn (hf pins s2 σ H2 _ I2 q2) fun fv s3 ⟨z, H3, I3, rz, ov, g, q3⟩ => Calls.spliced_nil ?_))))
 exact c8Q hu I3 g ry rz fun w' s4 I4 rw' => ⟨_, H3, I4, rw', q3⟩
end
section
variable {X : Cx} {pins : List (Addr × Obj)} {σ : St} {H : Hp} {s : Shared} {a : Addr} {kvs : List (Key × V)} {A : Around} {E : Value -> Shared -> Prop}
end
section
variable {X : Cx} {pins : List (Addr × Obj)} {σ : St} {H : Hp} {s : Shared} {a : Addr} {y : V} {u : Value} {A : Around} {E : Value -> Shared -> Prop}
end
end L2
namespace Att
open PySem PySem.W PySem.Calls PyProof.Rows
theorem b1g {P : Params} {h : Heap} : ∀ (ns : List Int) (vs : List Value), WellAll P h vs (ns.map WData.int) -> IntsAre vs ns := by
 intro ns
 induction ns with
 | nil =>
  intro vs w
  rw [List.map_nil] at w
  cases w
  exact .nil
 | cons n ns ih =>
  intro vs w
  rw [List.map_cons] at w
  cases w with
  | cons a b =>
   cases a
   exact .cons _ _ (ih _ b)
theorem c4I {l : OpenLaw} {n : Nat} (hn : l.most = some n) {P : Params} {h : Heap} {args : List WData} {vals : List Value}
 (hpre : l.row.toRowW.claim.pre args = true) (hwl : WellAll P h vals args) :
 ∃ a vs ns, vals = [Value.ref a] /\ args = [WData.list (ns.map WData.int)] /\ h.get? a = some { cls := .type "list", data := .seq vs.toArray } /\ IntsAre vs ns /\ ns.length <= n := by
 have hsh : WShape.hasAll [] args [.list .int] = true := (pre_splitW hpre).1
 have hc : l.pre.holds [] { args := args } = true := (pre_splitW hpre).2
 obtain ⟨d, r, rfl, h1, h2⟩ := hasAllW_cons hsh
 obtain rfl := hasAllW_nil h2
 obtain ⟨xs, rfl, h3⟩ := hasW_list h1
 obtain ⟨ns, rfl⟩ := items_int h3
 have hlen : ns.length <= n := by
  unfold OpenLaw.pre at hc
  have h4 : (WTm.not (.lt (.lit (.int (n : Int))) (.len (.arg 0)))).holds [] { args := [.list (ns.map .int)] } = true := by
   have h4 := (holds_andW hc).1
   rw [hn] at h4
   exact h4
  have h5 := condW_of h4 (w_not (w_lt w_lit (w_len_list (w_arg rfl))))
  rw [List.length_map] at h5
  refine Nat.le_of_not_lt fun q => ?_
  have q' : (n : Int) < ((ns.length : Nat) : Int) := by omega
  first
   | (rw [decide_eq_true q'] at h5; exact absurd h5 (by decide))
   | (simp at h5; omega)
 cases hwl with
 | cons w1 w2 =>
  cases w2
  cases w1 with
  | list ho hall => exact ⟨_, _, ns, rfl, rfl, ho, b1g ns _ hall, hlen⟩
theorem c4v (l : OpenLaw) (args : List WData) : l.row.toRowW.claim.post args (.bool true) args = true :=
 postW_of (r := l.row.toRowW) (X := (true == true))
  (show WShape.has [] (.bool true) .bool = true by first | rfl | decide | simp [WShape.has, WShape.arms, WShape.armsAll])
  (show (WTm.eq .res (.lit (.bool true))).value [] { args := args, res := some (.bool true), after := args } = some (.bool (true == true)) from w_eq_bool (w_res rfl) w_lit) rfl
theorem attach_call {l : OpenLaw} {n : Nat} {q : Program} {loose : List Str} {XP : (Str -> Option Value) -> Heap -> Prop} {YP : World -> Heap -> Prop} {d : DefRec}
 (hn : l.most = some n) (hdf : d.params.defaults = [])
 (call : ∀ (w : World) (s₀ s₁ : Shared) (mg mb : Str -> Option Value) (fa : Addr) (o : Obj) (pm cd doc : Value) (a : Addr) (vs : List Value) (ns : List Int),
  Ground q loose [] XP w s₀ mg mb s₁.heap -> YP w s₁.heap ->
  s₁.heap.get? fa = some o -> o.data = .func (docDef d.name d.params d.body d.scope pm cd doc) -> s₁.heap.CodeRec cd d.name -> mg d.name = some (.ref fa) ->
  s₁.heap.get? a = some { cls := .type "list", data := .seq vs.toArray } -> IntsAre vs ns -> ns.length <= n -> s₁.gens = #[] ->
  codeAny (model l.prog w) callerA (.call (.ref fa) ⟨[.ref a], []⟩) (fun r s' => r = .ok (.ret (.bool true)) /\ OldK s₁.heap s'.heap /\ s'.os = s₁.os /\ AllBare s'.gens) s₁) :
 WalkO q loose XP YP l.row.toRowW d [] (fun f vs => PySem.call f vs) := by
 intro w s₀ s₁ mg mb G Y fa o pm cd doc dV kV ho hd hcd hD hmg hg args vals as hpre hlay hrd hwl hlo
 obtain rfl : dV = .none := Dflts.none hD hdf
 obtain rfl : kV = .none := Dflts.noKw hD
 obtain ⟨a, vs, ns, rfl, rfl, hobj, hints, hlen⟩ := c4I hn hpre hwl
 refine enter_call (codeAny_mono (call w s₀ s₁ mg mb fa o pm cd doc a vs ns G Y ho (fd_plain hd) hcd hmg hobj hints hlen hg) fun r s' hq => ?_)
 obtain ⟨rfl, h2, h3, h4⟩ := hq
 exact ⟨.inl ⟨.bool true, .bool true, [], rfl, fun _ => rfl, .bool true, c4v l _, fun _ => ⟨List.Pairwise.nil, fun _ hm => (nomatch hm)⟩⟩, h2, h3, h4⟩
section
variable {prog : Program} {w : World} {A : Around} {E : Value -> Shared -> Prop} {s : Shared} {K : Frag}
def ledger (h : Heap) (L d : Addr) : List (Addr × Obj) := (List.range h.objs.size).filterMap fun a => if a = L ∨ a = d then none else (h.get? a).map fun o => (a, o)
end
end Att
namespace L2
open PySem PySem.Spec PyProof.Rows
theorem b7X : ∀ {vs : List Value} {ns : List Int}, IntsAre vs ns -> Vals (ns.map V.int) vs
 | _, _, .nil => .nil
 | _, _, .cons n t h => .cons ⟨t, rfl⟩ (b7X h)
end L2
namespace L2
open PySem PySem.Spec PyProof.Rows
end L2
namespace L2
open PySem PySem.Spec PyProof.Rows
def a0n (s : Stmt) : Arguments := match s with
 | .FunctionDef _ a _ _ _ _ _ _ _ _ => a
 | _ => { posonlyargs := [], args := [], vararg := none, kwonlyargs := [], kw_defaults := [], kwarg := none, defaults := [] }
def a0j (s : Stmt) : List Stmt := match s with
 | .FunctionDef _ _ b _ _ _ _ _ _ _ => b
 | _ => []
def a0b (s : Stmt) : Scope := match s with
 | .FunctionDef _ _ _ _ _ _ sc _ _ _ => sc
 | _ => { kind := .function, names := [], isGenerator := false, isCoroutine := false }
abbrev CX0 : CXT := fun _ _ _ _ _ _ => False
abbrev E0 : XK := fun _ _ _ => False
theorem a0t {X : Cx} : a7M CX0 X E0 := fun _ _ _ _ _ _ _ h => h.elim
structure Fun (K : PySem.W.Frag) (x qual : Str) (st : Stmt) (f : Addr) (fd : FuncData) : Prop where
 ex : ∃ (oc : Value) (od : Option Addr) (kV doc pm : Value) (an : Option Addr) (cdv ct : Value) (osl : Array (Option Value)),
  fd = PySem.W.fnOf x qual (a0n st) (a0j st) (a0b st) .none kV doc pm an cdv ct /\ K.lookup f = some ⟨oc, od, .func fd, osl⟩ /\ PySem.W.codeIn K cdv qual = true
 kp : PySem.W.keepIn K (.ref f) = true
section
variable {P : Program} {w : World} {K : PySem.W.Frag} {mg : Str -> Option Value} {base : Heap}
theorem Fun.ok {x qual : Str} {st : Stmt} {f : Addr} {fd : FuncData} {N ps : List Str} {k : Nat} {sp : Sp} (F : Fun K x qual st f fd) (S : a0o N ps (a0b st)) (len : ∀ vs H Q E, sp vs H Q E -> vs.length = ps.length)
 (hbody : ∀ (cdv : Value) (A : Around) (outer : List Env) (s : Shared) (H : Hp) (vs : List V) (Q : VK) (E : XK), Room k (A.deeper (envOfC qual (a0b st) s.heap.objs.size f cdv)) -> sp vs H Q E ->
  ∃ t, PSs (cxOf CX0 P w K mg base N qual (a0b st) f cdv A outer s H E).nox (a0j st) t /\ t { nx := fun _ H' => Q .non H', rt := Q } (a6A N vs) H) : FnOk P w K mg base CX0 (k + 1) f fd ps sp := by
 obtain ⟨oc, od, kV, doc, pm, an, cdv, ct, osl, rfl, lk, hcd⟩ := F.ex
 refine c8Z lk hcd S len fun A outer s H vs Q E hr hsp => ?_
 obtain ⟨t, h, q⟩ := hbody cdv A outer s H vs Q E hr hsp
 exact ⟨t, h.nox, q⟩
theorem Fun.binds {x qual : Str} {st : Stmt} {f : Addr} {fd : FuncData} {ps : List Str} (F : Fun K x qual st f fd)
 (h : ∀ (kV doc pm : Value) (an : Option Addr) (cdv ct : Value) (us : List Value), us.length = ps.length -> bindArgs (PySem.W.fnOf x qual (a0n st) (a0j st) (a0b st) .none kV doc pm an cdv ct) ⟨us, []⟩ = pure (ps.zip us)) : b2z K fd ps [] := by
 obtain ⟨oc, od, kV, doc, pm, an, cdv, ct, osl, rfl, lk, hcd⟩ := F.ex
 exact .all (h kV doc pm an cdv ct)
theorem c4g {x qual : Str} {st : Stmt} {f : Addr} {oc : Value} {od an : Option Addr} {osl : Array (Option Value)} {kV doc pm cdv ct : Value} (l : K.lookup f = some ⟨oc, od, .func (PySem.W.fnOf x qual (a0n st) (a0j st) (a0b st) .none kV doc pm an cdv ct), osl⟩)
 (c : PySem.W.codeIn K cdv qual = true) (k : PySem.W.keepIn K (.ref f) = true) : Fun K x qual st f (PySem.W.fnOf x qual (a0n st) (a0j st) (a0b st) .none kV doc pm an cdv ct) := ⟨⟨oc, od, kV, doc, pm, an, cdv, ct, osl, rfl, l, c⟩, k⟩
end
theorem c4A {A : Around} {k : Nat} (hr : Room k A) : A.units + 1 < cLine := Nat.lt_of_le_of_lt (Nat.add_le_add_left (by decide : 1 <= 64) _) hr.units
theorem a0U {n : Nat} (h : n <= 1000) : n < sizeLine := Nat.lt_of_le_of_lt h (by decide)
section
variable {X : Cx}
theorem pv (i : Nat) {x : Str} {pos : Pos} (hN : X.N[i]? = some x := by rfl) (hv : Vis X.env.scope x := by first | exact Or.inl rfl | exact Or.inr (Or.inl rfl) | exact Or.inr (Or.inr rfl)) (hd : (x == ("__debug__" : Str)) = false := by decide)
 (hcd : (x == ("__classdict__" : Str)) = false := by decide) : PE X (.Name x pos) (tVar i) := c62 hN hv hd hcd
end
theorem iteF {A B : Prop} (h : B) : if false = true then A else B := by
 rw [if_neg Bool.false_ne_true]
 exact h
theorem iteT {A B : Prop} (h : A) : if true = true then A else B := by
 rw [if_pos rfl]
 exact h
theorem ite2 {c A B : Prop} [Decidable c] (h1 : c -> A) (h2 : ¬ c -> B) : if c then A else B := by
 by_cases h : c
 ·rw [if_pos h]
  exact h1 h
 ·rw [if_neg h]
  exact h2 h
theorem c9e {c A B : Prop} [Decidable c] (hc : c) (h : B) : if (!decide c) = true then A else B := by
 rw [decide_eq_true hc]
 exact iteF h
def Same (H H' : Hp) : Prop := ∀ b o, H b = some o -> H' b = some o
theorem Same.refl (H : Hp) : Same H H := fun _ _ h => h
theorem Same.trans {H H1 H2 : Hp} (a : Same H H1) (b : Same H1 H2) : Same H H2 := fun c o h => b c o (a c o h)
theorem Same.seq {K : PySem.W.Frag} {H H' : Hp} {a : Addr} {xs : List V} (e : Same H H') (h : SqL K H a xs) : SqL K H' a xs := by
 rcases h with (h | ⟨o, h⟩) | h
 ·exact .inl (.inl (e _ _ h))
 ·exact .inl (.inr ⟨o, e _ _ h⟩)
 ·exact .inr h
section
variable {κ : Type} [DecidableEq κ]
end
end L2
namespace L2
open PySem PySem.Spec PyProof.Rows
section
variable {X : Cx} {a b c : Expr} {ta tb tc : TE} {pos : Pos}
theorem c4l {x : Str} {i : Int} (h : ∃ t, X.mg x = some (.int i t)) (hg : Gl X x := by rfl) (hd : (x == ("__debug__" : Str)) = false := by decide) : PE X (.Name x pos) (tC (.int i)) := by
 obtain ⟨t, h⟩ := h
 exact c0W hg h ⟨t, rfl⟩ hd
theorem c5u {x z : Str} (h : ∃ t, X.mg x = some (.str z t)) (hg : Gl X x := by rfl) (hd : (x == ("__debug__" : Str)) = false := by decide) : PE X (.Name x pos) (tC (.str z)) := by
 obtain ⟨t, h⟩ := h
 exact c0W hg h ⟨t, rfl⟩ hd
theorem a7a {x : Str} {f : Addr} (h : X.mg x = some (.ref f)) (hg : Gl X x := by rfl) (hd : (x == ("__debug__" : Str)) = false := by decide) : PE X (.Name x pos) (tC (.ref f)) := c0W hg h rfl hd
theorem a5E {x : Str} {T : String} (hm : X.mg x = none) (hv : bootBuiltins x = some (.type T)) (hg : Gl X x := by rfl) (hn : x ≠ "__name__" := by decide) (hd : (x == ("__debug__" : Str)) = false := by decide) : PE X (.Name x pos) (tC (.ty T)) := c7l hg hm hv rfl hn hd
end
mutual
inductive Dt (K : PySem.W.Frag) (H : Hp) : V -> PyData -> Prop where
 | non : Dt K H .non .none
 | bl (b : Bool) : Dt K H (.bl b) (.bool b)
 | int (i : Int) : Dt K H (.int i) (.int i)
 | str (x : Str) : Dt K H (.str x) (.str x)
 | lst {a : Addr} {xs : List V} {ds : List PyData} : SqL K H a xs -> a1R K H xs ds -> Dt K H (.ref a) (.list ds)
 | tup {a : Addr} {xs : List V} {ds : List PyData} : SqT K H a xs -> a1R K H xs ds -> Dt K H (.ref a) (.tuple ds)
 | dK {a : Addr} {kvs : List (Key × V)} : H a = some (.dK kvs) -> Dt K H (.ref a) (.dict [])
 | dT {a : Addr} {kvs : List (List Key × V)} : H a = some (.dT kvs) -> Dt K H (.ref a) (.dict [])
inductive a1R (K : PySem.W.Frag) (H : Hp) : List V -> List PyData -> Prop where
 | nil : a1R K H [] []
 | cons {v : V} {d : PyData} {vs : List V} {ds : List PyData} : Dt K H v d -> a1R K H vs ds -> a1R K H (v :: vs) (d :: ds)
end
section
variable {X : Cx} {pins : List (Addr × Obj)} {σ : St} {H H' : Hp} {s : Shared}
mutual
theorem Dt.reads (I : Inv X pins σ H s) : ∀ {v : V} {d : PyData} {u : Value}, Dt X.K H v d -> RelV v u -> d.canLay0 = true -> ∃ as, Reads s.heap u d as
 | _, _, _, .non, r, _ => by cases r; exact ⟨_, .none⟩
 | _, _, _, .bl b, r, _ => by cases r; exact ⟨_, .bool b⟩
 | _, _, _, .int i, r, _ => by obtain ⟨t, rfl⟩ := r; exact ⟨_, .int i t⟩
 | _, _, _, .str x, r, _ => by obtain ⟨t, rfl⟩ := r; exact ⟨_, .str x t⟩
 | _, _, _, .lst h hd, r, l => by
  cases r
  obtain ⟨its, rv, ⟨o, n, e, hc, _, hs⟩, _⟩ := I.list h
  obtain ⟨as, ra⟩ := a1R.reads I hd rv (by rw [PyData.canLay0] at l; exact l)
  exact ⟨_, .list e hc hs (by simpa using ra)⟩
 | _, _, _, .tup h hd, r, l => by
  cases r
  obtain ⟨its, rv, ⟨o, e, hc, n, hs⟩, _⟩ := I.tuple h
  obtain ⟨as, ra⟩ := a1R.reads I hd rv (by rw [PyData.canLay0] at l; exact l)
  exact ⟨_, .tuple e hc hs (by simpa using ra)⟩
 | _, _, _, .dK _, _, l => by rw [PyData.canLay0] at l; cases l
 | _, _, _, .dT _, _, l => by rw [PyData.canLay0] at l; cases l
theorem a1R.reads (I : Inv X pins σ H s) : ∀ {vs : List V} {ds : List PyData} {us : List Value}, a1R X.K H vs ds -> Vals vs us -> PyData.canLayAll0 ds = true -> ∃ as, ReadsAll s.heap us ds as
 | _, _, _, .nil, r, _ => by cases r; exact ⟨_, .nil⟩
 | _, _, _, .cons h hd, r, l => by
  rw [PyData.canLayAll0, Bool.and_eq_true] at l
  cases r with
  | cons r1 rr =>
   obtain ⟨as, ra⟩ := Dt.reads I h r1 l.1
   obtain ⟨bs, rb⟩ := a1R.reads I hd rr l.2
   exact ⟨_, .cons ra rb⟩
end
theorem Same.seqT {K : PySem.W.Frag} {a : Addr} {xs : List V} (e : Same H H') (h : SqT K H a xs) : SqT K H' a xs := by
 rcases h with (h | ⟨o, h⟩) | h
 ·exact .inl (.inl (e _ _ h))
 ·exact .inl (.inr ⟨o, e _ _ h⟩)
 ·exact .inr h
mutual
theorem Dt.same {K : PySem.W.Frag} (e : Same H H') : ∀ {v : V} {d : PyData}, Dt K H v d -> Dt K H' v d
 | _, _, .non => .non
 | _, _, .bl b => .bl b
 | _, _, .int i => .int i
 | _, _, .str x => .str x
 | _, _, .lst h hd => .lst (e.seq h) (a1R.same e hd)
 | _, _, .tup h hd => .tup (Same.seqT e h) (a1R.same e hd)
 | _, _, .dK h => .dK (e _ _ h)
 | _, _, .dT h => .dT (e _ _ h)
theorem a1R.same {K : PySem.W.Frag} (e : Same H H') : ∀ {vs : List V} {ds : List PyData}, a1R K H vs ds -> a1R K H' vs ds
 | _, _, .nil => .nil
 | _, _, .cons h hd => .cons (Dt.same e h) (a1R.same e hd)
end
theorem a1R.get {K : PySem.W.Frag} : ∀ {vs : List V} {ds : List PyData} {i : Nat} {v : V}, a1R K H vs ds -> vs[i]? = some v -> ∃ d, ds[i]? = some d /\ Dt K H v d
 | _, _, _, _, .nil, e => by simp at e
 | _, _, 0, _, .cons h _, e => by simp at e; subst e; exact ⟨_, rfl, h⟩
 | _, _, i + 1, v, .cons _ t, e => by
  obtain ⟨d, h1, h2⟩ := a1R.get (i := i) (v := v) t (by simpa using e)
  exact ⟨d, by simpa using h1, h2⟩
theorem a1R.length {K : PySem.W.Frag} : ∀ {vs : List V} {ds : List PyData}, a1R K H vs ds -> vs.length = ds.length
 | _, _, .nil => rfl
 | _, _, .cons _ t => by rw [List.length_cons, List.length_cons, a1R.length t]
theorem c2d (hu : X.A.units + 64 < cLine) : OpR X (compareOp .Eq) (fun x y H Q => ∃ dx dy, Dt X.K H x dx /\ Dt X.K H y dy /\ dx.canLay0 = true /\ dy.canLay0 = true /\ dx.depth <= 64 /\ Q (.bl (PyData.eqv dx dy)) H) := by
 intro pins s σ H x y v u Q I rx ry h
 obtain ⟨dx, dy, hx, hy, lx, ly, hd, q⟩ := h
 obtain ⟨as, ra⟩ := Dt.reads I hx rx lx
 obtain ⟨bs, rb⟩ := Dt.reads I hy ry ly
 exact SeqAt.compareEq_reads ra rb lx ly (by have := Nat.min_le_left dx.depth dy.depth; omega) ⟨.bl _, H, I, rfl, q⟩
theorem c9P (hu : X.A.units + 64 < cLine) : OpR X (compareOp .NotEq) (fun x y H Q => ∃ dx dy, Dt X.K H x dx /\ Dt X.K H y dy /\ dx.canLay0 = true /\ dy.canLay0 = true /\ dx.depth <= 64 /\ Q (.bl (!PyData.eqv dx dy)) H) := by
 intro pins s σ H x y v u Q I rx ry h
 obtain ⟨dx, dy, hx, hy, lx, ly, hd, q⟩ := h
 obtain ⟨as, ra⟩ := Dt.reads I hx rx lx
 obtain ⟨bs, rb⟩ := Dt.reads I hy ry ly
 exact SeqAt.compareNe_reads ra rb lx ly (by have := Nat.min_le_left dx.depth dy.depth; omega) ⟨.bl _, H, I, rfl, q⟩
end
def Its (x : Str) : It := ⟨fun i _ => i < x.cps.size, fun i H v H' => H' = H /\ ∃ c, x.cps[i]? = some c /\ v = .str ⟨#[c]⟩, fun i _ => x.cps.size <= i⟩
theorem c53 {P : Program} {w : World} {K : PySem.W.Frag} {tg : Expr} (it : Addr) (x : Str) (t : Tok) : ∀ ty : String, (ty = "str_ascii_iterator" ∨ ty = "str_iterator") -> Turn P w K tg (Its x) [it] it (fun i h => h.IsStrIter it ty x t i) := by
 intro ty hty
 refine ⟨by simp, ?_, ?_, ?_, ?_, ?_⟩
 ·intro i h st b hb
  have e : b = it := by simpa using hb
  subst e
  obtain ⟨o, e, c, d⟩ := st
  exact ⟨o, e, fun v z => by rw [d] at z; cases z⟩
 ·intro i h h' st k
  obtain ⟨o, e, c, d⟩ := st
  exact ⟨o, k it (by simp) o e, c, d⟩
 ·intro X hP hw hK hc i pins s σ H E I hf st hg
  subst hP hw hK
  obtain ⟨f0, f1, f2, f3, f4, f5⟩ := hf it (by simp)
  have hi : i < x.cps.size := hg
  have hx : x.cps[i]? = some x.cps[i] := by simp [hi]
  have fin : ∀ h', h'.IsStrIter it ty x t (i + 1) -> Heap.SameBut it s.heap h' -> ∃ u, some (Value.str ⟨#[x.cps[i]]⟩ s.toks) = some u /\
   wpAny (model X.prog X.w) X.A (letOwnedTupleGo tg (.ref it) u) (fun _ s2 => ∃ y H', Inv X pins σ H' s2 /\ RelV y u /\ (Its x).yld i H y H' /\ s2.heap.IsStrIter it ty x t (i + 1) /\ ∀ b ∈ [it], H' b = none) E { s with heap := h', toks := s.toks + 1 } := by
   intro h' st' sb
   have I1 : Inv X pins σ H { s with heap := h', toks := s.toks + 1 } := I.turned (fun b o hb e => (sb.2 b hb).trans e) f0 f1 f3 f4 f5
   obtain ⟨o, e, c, d⟩ := id st'
   refine ⟨_, rfl, c5O (s := { s with heap := h', toks := s.toks + 1 }) e c d ?_ ⟨.str ⟨#[x.cps[i]]⟩, H, I1, ⟨_, rfl⟩, ⟨rfl, _, hx, rfl⟩, st', fun b hb => (hf b hb).1⟩⟩
   rcases hty with rfl | rfl <;> decide
  rcases hty with rfl | rfl
  ·exact wpAny_pyNext_ascii_item st hx fin
  ·exact wpAny_pyNext_wide_item st hx fin
 ·intro X hP hw hK hc i pins s σ H E I hf st hg
  subst hP hw hK
  obtain ⟨f0, f1, f2, f3, f4, f5⟩ := hf it (by simp)
  have hi : x.cps.size <= i := hg
  have hx : x.cps[i]? = none := by simp [hi]
  have fin : ∀ h', Heap.ExtBut it s.heap h' -> (none : Option Value) = none /\ Inv X pins σ H { s with heap := h' } := fun h' eb => ⟨rfl, I.turned (t' := s.toks) (fun b o hb e => eb b o hb e) f0 f1 f3 f4 f5⟩
  rcases hty with rfl | rfl
  ·exact wpAny_pyNext_ascii_end (I.ok.hd hc) st hx fin
  ·exact wpAny_pyNext_wide_end (I.ok.hd hc) st hx fin
 ·intro A i s Q E st h
  rcases hty with rfl | rfl
  ·exact wpAny_pyIter_striter_ascii st h
  ·exact wpAny_pyIter_striter_wide st h
section
variable {X : Cx} {tg : Expr}
def iStr (tl : TE) : TI := fun σ H R => tl σ H fun v H1 => ∃ x, v = .str x /\ R (Its x) H1
theorem c6U {l : Expr} {tl : TE} (hl : PE X l tl) : PI X tg l (iStr tl) := by
 intro pins s σ H R I h
 refine thn (hl pins s σ H _ I h) fun v s1 ⟨y, H1, I1, r1, q1⟩ => ?_
 obtain ⟨x, e, q⟩ := q1
 subst e
 obtain ⟨t, rfl⟩ := r1
 have fin : ∀ ty : String, (ty = "str_ascii_iterator" ∨ ty = "str_iterator") -> PIE X pins σ tg R (.ref s1.heap.objs.size) { s1 with heap := s1.heap.push { cls := .type ty, data := .fields #[.str x t, .int 0 0] } } := fun ty hty => by
  refine ⟨s1.heap.objs.size, [s1.heap.objs.size], _, _, H1, rfl, I1.kept (t' := s1.toks) fun b o e => Heap.get?_push_of_some _ e, c53 _ x t ty hty, ⟨_, Heap.get?_push_size _ rfl, rfl, rfl⟩, fun b hb => ?_, q⟩
  have e : b = s1.heap.objs.size := by simpa using hb
  subst e
  exact I1.fpOk (Nat.le_refl _) (I1.hok.fresh (Nat.le_refl _))
 cases ha : x.cps.all (· < 128)
 ·exact wpAny_pyIter_wide ha (fin _ (.inr rfl))
 ·exact wpAny_pyIter_ascii ha (fin _ (.inl rfl))
end
end L2
namespace L2
open PySem PySem.Spec PyProof.Rows
section
variable {prog : Program} {w : World} {A : Around} {R : Result -> Shared -> Prop} {s : Shared}
theorem b7R {elt target iter : Expr} {ifs : List Expr} {scope : Scope} {pos : Pos} {it acc : Value} {env : Env} (I : Nat -> Shared -> Prop)
 (turn : ∀ n s, I n s -> wpAny (model prog w) A (pyNext it) (fun r s₁ => match r with
  | none => R (.ok .next) s₁
  | some v => wpAny (model prog w) A (letOwnedTupleGo target it v) (fun _ s₁' => wpAny (model prog w) A (assign target env v) (fun _ s₂ =>
   wpAny (model prog w) A (forIn ifs true fun c r => if r = true then do let ok <- isTrue c env (eval c env); pure (ForInStep.yield ok) else pure (ForInStep.yield r)) (fun ok s₃ =>
    if ok = true then wpAny (model prog w) A (eval elt env) (fun x s₄ =>
     wpAny (model prog w) A (call (.builtin "list.append") [acc, x]) (fun _ s₅ => ∃ m, m < n /\ I m s₅) (fun _ _ => False) s₄) (fun _ _ => False) s₃
    else ∃ m, m < n /\ I m s₃) (fun _ _ => False) s₂) (fun _ _ => False) s₁') (fun _ _ => False) s₁) (fun _ _ => False) s)
 (n : Nat) (h : I n s) :
 codeAny (model prog w) A (.compLoop (.ListComp elt [⟨target, iter, ifs, 0⟩] scope pos) 0 it acc env) R s := by
 refine codeAny_loop rfl I (fun n s hI => ?_) n h
 show wpAny _ A ((compTurn (.ListComp elt [⟨target, iter, ifs, 0⟩] scope pos) 0 it acc env).onRaise (fun x => do noteFrame x env; theTreesLotGoes x)) _ _ s
 refine wpAny_noted ?_
 rw [compTurn_list]
 refine wpAny_bind (wpAny_standAt (wpAny_bind (wpAny_mono (turn n s hI) (fun r s₁ h₁ => ?_) fun _ _ h' => h'.elim)))
 cases r with
 | none => exact wpAny_pure h₁
 | some v =>
  refine wpAny_bind (wpAny_mono h₁ (fun _ s₁' h₁' => ?_) fun _ _ h' => h'.elim)
  refine wpAny_bind (wpAny_mono h₁' (fun _ s₂ h₂ => wpAny_bind (wpAny_mono h₂ (fun ok s₃ h₃ => ?_) fun _ _ h' => h'.elim)) fun _ _ h' => h'.elim)
  cases ok with
  | false => exact wpAny_pure ⟨rfl, h₃⟩
  | true =>
   exact wpAny_bind (wpAny_bind (wpAny_mono h₃ (fun x s₄ h₄ => wpAny_bind (wpAny_mono h₄ (fun _ s₅ h₅ => wpAny_pure (wpAny_pure ⟨rfl, h₅⟩)) fun _ _ h' => h'.elim)) fun _ _ h' => h'.elim))
end
def a8Y (X : Cx) (scope : Scope) (cl : List (Str × Addr)) (C : Addr) (N' : List Str) (fp : List Addr) (pins : List (Addr × Obj)) (s : Shared) (H : Hp) : Cx where
 prog := X.prog
 w := X.w
 K := X.K
 mg := X.mg
 base := X.base
 A := X.A
 N := N'
 s₀ := s
 H₀ := H
 env := compEnvC scope cl C X.env
 outer := X.stack
 stack := X.stack
 ex := fp
 calm := X.calm
 fn := fun _ => false
 pn := X.pn ++ pins
 xe := fun _ _ => False
structure Caps (X : Cx) (scope : Scope) (cl : List (Str × Addr)) (cp : List (Nat × Str)) : Prop where
 kind : scope.kind = .function
 nocell : ∀ y ∈ scope.names, y.2 ≠ .cell
 names : ∀ y ∈ scope.names, y.2 = .local -> scope.names.lookup y.1 = some .local
 clos : closureFor scope X.env = pure cl
 sub : ∀ x c, cl.lookup x = some c -> X.env.cells.lookup x = some c
 has : ∀ x, ((relabel scope X.env).names.lookup x = some .cell ∨ (relabel scope X.env).names.lookup x = some .free) -> ∃ c, cl.lookup x = some c
 at' : ∀ p ∈ cp, X.N[p.1]? = some p.2 /\ (X.env.scope.names.lookup p.2 = some .cell ∨ X.env.scope.names.lookup p.2 = some .free) /\ ((relabel scope X.env).names.lookup p.2 = some .cell ∨ (relabel scope X.env).names.lookup p.2 = some .free)
def capσ (cp : List (Nat × Str)) (σ : St) : St := cp.map fun p => (σ[p.1]?).getD none
section
variable {X : Cx} {pins : List (Addr × Obj)} {σ : St} {H : Hp} {s : Shared} {scope : Scope} {cl : List (Str × Addr)} {cp : List (Nat × Str)} {fp : List Addr} {x : Str}
theorem c6A (I : Inv X pins σ H s) (c : Caps X scope cl cp) (hf : ∀ b ∈ fp, FpOk X pins H b) (hfo : ∀ b ∈ fp, b < s.heap.objs.size) {h' : Heap} {ty : String} {tk : Nat} {m : Str -> Option Value} (hm : h'.Ns s.heap.objs.size m)
 (sb : Heap.SameBut s.heap.objs.size (s.heap.push { cls := .type ty, data := .dict #[] }) h') :
 Inv (a8Y X scope cl s.heap.objs.size (x :: cp.map (·.2)) fp pins s H) [] (none :: capσ cp σ) H { s with heap := h', toks := tk } := by
 have old : ∀ b o, s.heap.get? b = some o -> h'.get? b = some o := fun b o e => (sb.2 b (Nat.ne_of_lt (Heap.lt_size e))).trans (Heap.get?_push_of_some _ e)
 have hC : H s.heap.objs.size = none := I.hok.fresh (Nat.le_refl _)
 refine ⟨⟨I.ok.mod, c.kind, I.ok.glob, I.ok.blt, Nat.le_refl _, fun y z k h1 h2 => I.ok.inj y z k (c.sub _ _ h1) (c.sub _ _ h2), c.has, fun y k z => (Bool.noConfusion z), I.ok.hd, I.ok.frames, .inl rfl, fun b hb => ?_, fun b o e => I.bs b o e, Nat.le_trans I.ok.bsz I.sz, fun b o e hb => ?_, fun b hb hz => ?_, I.stack, I.stkFree⟩,
  rfl, I.bare, Un.kept old, ⟨m, hm, fun i y v h1 h2 h3 => ?_⟩, fun y k e => ?_, hC, fun y k e => I.freeC y k (c.sub y k e), fun p hp => ?_, I.hok.kept old, ?_⟩
 ·obtain ⟨f0, f1, f2, f3, f4, f5⟩ := hf b hb
  exact ⟨Nat.ne_of_lt (hfo b hb), fun y k e => f4 y k (c.sub y k e)⟩
 ·obtain ⟨f0, f1, f2, f3, f4, f5⟩ := hf b hb
  rcases f3 with z | z
  ·exact I.ok.noex b o e z
  ·exact absurd (Nat.lt_of_lt_of_le (Heap.lt_size (I.ok.bs b o e).1) z) (Nat.lt_irrefl _)
 ·obtain ⟨f0, f1, f2, f3, f4, f5⟩ := hf b hb
  rcases List.mem_cons.mp (I.stkSub b hz) with e | e
  ·exact f1 e
  ·exact f2 e
 ·cases i with
  | zero => simp at h2
  | succ i =>
   have h1' : (cp.map (·.2))[i]? = some y := by
    have z : (x :: cp.map (·.2))[i + 1]? = some y := h1
    rw [List.getElem?_cons_succ] at z
    exact z
   have h2' : (capσ cp σ)[i]? = some (some v) := by simpa using h2
   unfold capσ at h2'
   rw [List.getElem?_map] at h1' h2'
   cases e : cp[i]? with
   | none => rw [e] at h1'; cases h1'
   | some p =>
    rw [e] at h1' h2'
    simp only [Option.map_some, Option.some.injEq] at h1' h2'
    obtain ⟨k1, k2, k3⟩ := c.at' p (List.mem_of_getElem? e)
    subst h1'
    have h2'' : σ[p.1]? = some (some v) := by
     cases q : σ[p.1]? with
     | none => rw [q] at h2'; cases h2'
     | some z => rw [q] at h2'; simpa using h2'
    obtain ⟨m0, hn0, hl0⟩ := I.loc
    obtain ⟨u, r, l⟩ := hl0 p.1 p.2 v k1 h2'' (k2.elim (fun z => .inr (.inl z)) fun z => .inr (.inr z))
    refine ⟨u, r, .inr ⟨k3, ?_⟩⟩
    rcases l with ⟨z, _⟩ | ⟨_, cc, e1, e2⟩
    ·have z' : X.env.scope.names.lookup p.2 = some .local := z
     rcases k2 with k | k <;> (rw [z'] at k; cases k)
    ·obtain ⟨cc', e3⟩ := c.has p.2 k3
     have e4 := c.sub _ _ e3
     rw [e1] at e4
     cases e4
     obtain ⟨o, ho, hd⟩ := e2
     exact ⟨cc, e3, o, old _ _ ho, hd⟩
 ·obtain ⟨v, o, ho, hd⟩ := I.cell y k (c.sub y k e)
  exact ⟨v, o, old _ _ ho, hd⟩
 ·have hp' : p ∈ X.pn ++ pins := by
   rcases List.mem_append.mp hp with z | z
   ·exact z
   ·cases z
  obtain ⟨e, n, ne, nf, d⟩ := I.pin p hp'
  refine ⟨old _ _ e, n, Nat.ne_of_lt (Heap.lt_size e), fun hz => ?_, d⟩
  rcases List.mem_cons.mp (I.stkSub p.1 hz) with q | q
  ·exact ne q
  ·exact nf q
 ·show (none :: capσ cp σ).length = (x :: cp.map (·.2)).length
  simp [capσ]
theorem Inv.uncomp {C : Addr} {N' : List Str} {σ' : St} {H' : Hp} {s' : Shared} {h'' : Heap} (I : Inv X pins σ H s) (hC : C = s.heap.objs.size) (hf : ∀ b ∈ fp, FpOk X pins H b) (J : Inv (a8Y X scope cl C N' fp pins s H) [] σ' H' s') (sb : Heap.SameBut C s'.heap h'') :
 Inv X pins σ H' { s' with heap := h'' } := by
 have ne : ∀ b o, s.heap.get? b = some o -> b ≠ C := fun b o e => by rw [hC]; exact Nat.ne_of_lt (Heap.lt_size e)
 have B : Un (frs X.stack) fp H H' s.heap s'.heap := J.base
 refine I.call' (s' := { s' with heap := h'' }) (ch := fp) (show s'.os = s.os from J.os) ⟨fun b o e n hb hx => ?_, fun b o e n hb hx => ?_, B.free, fun b o e hx => ?_, B.tups, B.frzs, B.tbls⟩ (fun b ob e => ?_) J.bare fun b hb => ?_
 ·exact (sb.2 b (ne b o e)).trans (B.keep b o e n hb hx)
 ·obtain ⟨sl, q⟩ := B.slot b o e n hb hx
  exact ⟨sl, (sb.2 b (ne b o e)).trans q⟩
 ·obtain ⟨o', q⟩ := B.there b o e hx
  exact ⟨o', (sb.2 b (ne b o e)).trans q⟩
 ·have hfree : H' C = none := J.free
  refine (J.hok b ob e).stay (fun k w' hk q => (sb.2 k ?_).trans q) (fun _ q => q) fun _ _ q => q
  rintro rfl
  rcases hk with rfl | hk
  ·rw [hfree] at e; cases e
  ·rw [hfree] at hk; cases hk
 ·obtain ⟨f0, f1, f2, f3, f4, f5⟩ := hf b hb
  exact ⟨f3, f1, f4, f5⟩
end
def PTs (X : Cx) (ifs : List Expr) (t : TT) : Prop :=
 ∀ (pins : List (Addr × Obj)) (s : Shared) (σ : St) (H : Hp) (Q : Bool -> Hp -> Prop), Inv X pins σ H s -> t σ H Q ->
  wpAny (model X.prog X.w) X.A (forIn ifs true fun c r => if r = true then do let ok <- isTrue c X.env (eval c X.env); pure (ForInStep.yield ok) else pure (ForInStep.yield r)) (TP X pins σ Q) X.xe s
def tYes : TT := fun _ H Q => Q true H
theorem a9z {X : Cx} : PTs X [] tYes := fun _ _ _ H _ I h => wpAny_tests_nil ⟨H, I, h⟩
theorem c5a {X : Cx} {c : Expr} {t : TT} (h : PT X c t) : PTs X [c] t := fun pins s σ H Q I q => wpAny_tests_one (h pins s σ H Q I q)
def b69 (cp : List (Nat × Str)) (tt : TT) (te : TE) (σ : St) (J : It) (D : Addr) (Q : VK) (H1 : Hp) : Prop :=
 ∃ W : Nat -> Nat -> Hp -> Prop, (∃ m, W 0 m (upd H1 D (.lst []))) /\ ∀ i m H2, W i m H2 -> (J.stop i H2 /\ Q (.ref D) H2) ∨
  (J.go i H2 /\ ∃ (N : VK) (N' : Hp -> Prop), (∀ y H5, N y H5 -> ∃ ys m', H5 D = some (.lst ys) /\ ys.length < sizeLine /\ m' < m /\ W (i + 1) m' (upd H5 D (.lst (ys ++ [y])))) /\ (∀ H4, N' H4 -> ∃ m', m' < m /\ W (i + 1) m' H4) /\
   ∀ v H3, J.yld i H2 v H3 -> tt (some v :: capσ cp σ) H3 fun b H4 => if b = true then te (some v :: capσ cp σ) H4 N else N' H4)
def c9t (cp : List (Nat × Str)) (wi : TI) (tt : TT) (te : TE) : TE := fun σ H Q => wi σ H fun J H1 => ∀ D, H1 D = none -> b69 cp tt te σ J D Q H1
section
variable {X : Cx} {scope : Scope} {cl : List (Str × Addr)} {cp : List (Nat × Str)} {x : Str} {px pos : Pos} {elt iter : Expr} {ifs : List Expr} {wi : TI} {tt : TT} {te : TE}
theorem b8T {pins : List (Addr × Obj)} {σ : St} {H2 : Hp} {s2 : Shared} {it : Addr} {fp : List Addr} {tn : Nat -> Heap -> Prop} {J : It} {Q : VK} {R : Addr -> Result -> Shared -> Prop} {E : Value -> Shared -> Prop} (c : Caps X scope cl cp) (hcalm : X.calm = true) (hx : scope.names.lookup x = some .local) (hnd : (x :: cp.map (·.2)).Nodup)
 (ht : ∀ C fp pins s H, PTs (a8Y X scope cl C (x :: cp.map (·.2)) fp pins s H) ifs tt) (he : ∀ C fp pins s H, PE (a8Y X scope cl C (x :: cp.map (·.2)) fp pins s H) elt te)
 (I2 : Inv X pins σ H2 s2) (T : Turn X.prog X.w X.K (.Name x px) J fp it tn) (st2 : tn 0 s2.heap) (f2 : ∀ b ∈ fp, FpOk X pins H2 b) (q : b69 cp tt te σ J s2.heap.objs.size Q H2)
 (hR : ∀ (C : Addr) (H' : Hp) (s' : Shared), (∃ m, s'.heap.Ns C m) -> X.s₀.heap.objs.size <= C -> H' C = none -> C ≠ X.env.locals -> (∀ x c, X.env.cells.lookup x = some c -> c ≠ C) -> (∀ p ∈ X.pn ++ pins, p.1 ≠ C) -> (∀ h'', Heap.SameBut C s'.heap h'' -> Inv X pins σ H' { s' with heap := h'' }) -> Q (.ref s2.heap.objs.size) H' -> R C (.ok .next) s') :
 wpAny (model X.prog X.w) X.A (newList []) (fun acc s₃ => wpAny (model X.prog X.w) X.A (newFunctionEnv scope X.env.globals cl [] X.env.qual none .none (some X.env)) (fun cenv s₄ =>
  acc = .ref s2.heap.objs.size /\ codeAny (model X.prog X.w) X.A (.compStart (.ListComp elt [⟨.Name x px, iter, ifs, 0⟩] scope pos) 0 (.ref it) acc { cenv with scope := relabel scope X.env }) (R cenv.locals) s₄) E s₃) E s2 := by
 obtain ⟨W, ⟨m0, w0⟩, turn⟩ := q
 refine wpAny_newObj_type ?_
 have I3 : Inv X pins σ (upd H2 s2.heap.objs.size (.lst [])) { s2 with heap := s2.heap.push { cls := .type "list", dict := none, data := .seq ([] : List Value).toArray } } :=
  I2.lnew (t' := s2.toks) (ys := []) (its := []) .nil (Nat.zero_le _)
 have fpo : ∀ b ∈ fp, b < s2.heap.objs.size := fun b hb => by
  obtain ⟨o, e, _⟩ := T.obj _ _ st2 b hb
  exact Heap.lt_size e
 have f3 : ∀ b ∈ fp, FpOk X pins (upd H2 s2.heap.objs.size (.lst [])) b := fun b hb => ⟨by rw [a0m (Nat.ne_of_lt (fpo b hb))]; exact (f2 b hb).1, (f2 b hb).2⟩
 generalize hs3 : ({ s2 with heap := s2.heap.push { cls := .type "list", dict := none, data := .seq ([] : List Value).toArray } } : Shared) = s3 at I3
 have e3 : s3.heap = s2.heap.push { cls := .type "list", dict := none, data := .seq ([] : List Value).toArray } := by rw [<- hs3]
 have sz3 : s2.heap.objs.size < s3.heap.objs.size := by rw [e3, Heap.size_push]; exact Nat.lt_succ_self _
 refine wpAny_newFunctionEnv c.nocell (by intro y hy; cases hy) (fun h₁ hns sb => ?_) c.kind
 have J3 := c6A (x := x) (tk := s3.toks + ([] : List (Str × Value)).length) I3 c f3 (fun b hb => Nat.lt_trans (fpo b hb) sz3) hns sb
 refine ⟨rfl, ?_⟩
 have st3 : tn 0 h₁ := T.keep _ _ _ st2 fun b hb o e => (sb.2 b (Nat.ne_of_lt (Nat.lt_trans (fpo b hb) sz3))).trans (Heap.get?_push_of_some _ (by rw [e3]; exact Heap.get?_push_of_some _ e))
 generalize hX : a8Y X scope cl s3.heap.objs.size (x :: cp.map (·.2)) fp pins s3 (upd H2 s2.heap.objs.size (.lst [])) = X' at J3
 have eA : X'.A = X.A := by rw [<- hX]; rfl
 have eP : X'.prog = X.prog := by rw [<- hX]; rfl
 have ew : X'.w = X.w := by rw [<- hX]; rfl
 have eK : X'.K = X.K := by rw [<- hX]; rfl
 have ec : X'.calm = true := by rw [<- hX]; exact hcalm
 have ee : X'.env = compEnvC scope cl s3.heap.objs.size X.env := by rw [<- hX]; rfl
 have ex : X'.xe = fun _ _ => False := by rw [<- hX]; rfl
 have fpX : ∀ {H' : Hp}, (∀ b ∈ fp, H' b = none) -> ∀ b ∈ fp, FpOk X' [] H' b := fun hn b hb => by
  obtain ⟨f0, f1, f2', f3', f4, f5⟩ := f3 b hb
  subst hX
  refine ⟨hn b hb, Nat.ne_of_lt (Nat.lt_trans (fpo b hb) sz3), fun hz => ?_, .inl hb, fun y k e => f4 y k (c.sub y k e), fun p hp => ?_⟩
  ·rcases List.mem_cons.mp (I3.stkSub b hz) with e | e
   ·exact f1 e
   ·exact f2' e
  ·rcases List.mem_append.mp hp with z | z
   ·exact f5 p z
   ·cases z
 have pT := ht s3.heap.objs.size fp pins s3 (upd H2 s2.heap.objs.size (.lst []))
 have pE := he s3.heap.objs.size fp pins s3 (upd H2 s2.heap.objs.size (.lst []))
 have pG : PG X' (.Name x px) (c4f 0) := by
  subst hX
  exact a0Q hnd rfl (.inl (lookup_relabel_local hx)) (.inr (lookup_relabel_local hx))
 rw [hX] at pT pE
 have loop : codeAny (model X.prog X.w) X.A (.compLoop (.ListComp elt [⟨.Name x px, iter, ifs, 0⟩] scope pos) 0 (.ref it) (.ref s2.heap.objs.size) (compEnvC scope cl s3.heap.objs.size X.env)) (R s3.heap.objs.size) { s3 with heap := h₁, toks := s3.toks + ([] : List (Str × Value)).length } := by
  refine b7R (fun n s' => ∃ i o H', Inv X' [] (o :: capσ cp σ) H' s' /\ tn i s'.heap /\ (∀ b ∈ fp, H' b = none) /\ W i n H') ?_ m0 ⟨0, none, _, J3, st3, fun b hb => (f3 b hb).1, w0⟩
  rintro n s5 ⟨i, o, H5, J5, st5, fr5, w5⟩
  rcases turn i n H5 w5 with ⟨stop, qn⟩ | ⟨go, N, N', hN, hN', step⟩
  ·have z := T.done X' eP ew eK ec i [] s5 _ H5 (fun _ _ => False) J5 (fpX fr5) st5 stop
   rw [eA] at z
   refine thn z fun r s6 ⟨hr, J6⟩ => ?_
   subst hr
   subst hX
   obtain ⟨m6, hn6, _⟩ := J6.loc
   refine hR s3.heap.objs.size H5 s6 ⟨m6, hn6⟩ I3.sz J6.free (Nat.ne_of_gt I3.lt) (fun y k e z => ?_) (fun p hp z => ?_) (fun h'' sb' => I3.uncomp rfl f3 J6 sb') qn
   ·obtain ⟨v, w'⟩ := I3.cell y k e
    exact absurd w'.lt (by rw [z]; exact Nat.lt_irrefl _)
   ·exact absurd (Heap.lt_size (I3.pin p hp).1) (by rw [z]; exact Nat.lt_irrefl _)
  ·have z := T.item X' eP ew eK ec i [] s5 _ H5 (fun _ _ => False) J5 (fpX fr5) st5 go
   rw [eA] at z
   refine thn z fun r s6 ⟨u, hr, h6⟩ => ?_
   subst hr
   refine thn h6 fun _ s7 ⟨v, H7, J7, r7, y7, st7, fr7⟩ => ?_
   have J7' := J7.pinned (fpX fr7) (T.obj _ _ st7)
   have z8 := pG _ s7 _ H7 v u (fun σ' H' => σ' = some v :: capσ cp σ /\ H' = H7) J7' r7 ⟨rfl, rfl⟩
   rw [eA, eP, ew, ee, ex] at z8
   refine thn z8 fun _ s8 ⟨σ8, H8, J8, e8, e8'⟩ => ?_
   subst e8 e8'
   have z9 := pT _ s8 _ H8 _ J8 (step v H8 y7)
   rw [eA, eP, ew, ee, ex] at z9
   refine thn z9 fun ok s9 ⟨H9, J9, q9⟩ => ?_
   have fin : ∀ {H' : Hp} {s' : Shared}, Inv X' ([] ++ b6T fp s7.heap) (some v :: capσ cp σ) H' s' -> (∃ m', m' < n /\ W (i + 1) m' H') -> ∃ m, m < n /\ ∃ i o H', Inv X' [] (o :: capσ cp σ) H' s' /\ tn i s'.heap /\ (∀ b ∈ fp, H' b = none) /\ W i m H' := fun {H' s'} K' ⟨m', hm, w'⟩ => by
    refine ⟨m', hm, i + 1, some v, H', K'.unpinned, T.keep _ _ _ st7 fun b hb ob e => (K'.pin (b, ob) (List.mem_append_right _ (List.mem_append_right _ (a7s hb e)))).1, fun b hb => ?_, w'⟩
    obtain ⟨ob, e, d⟩ := T.obj _ _ st7 b hb
    exact (K'.pin (b, ob) (List.mem_append_right _ (List.mem_append_right _ (a7s hb e)))).2.1
   cases ok with
   | false =>
    rw [if_neg Bool.false_ne_true] at q9 ⊢
    exact fin J9 (hN' _ q9)
   | true =>
    rw [if_pos rfl] at q9 ⊢
    have z10 := pE _ s9 _ H9 _ J9 q9
    rw [eA, eP, ew, ee, ex] at z10
    refine thn z10 fun u10 s10 ⟨y, H10, J10, r10, n10⟩ => ?_
    obtain ⟨ys, m', hD, hz, hm, w'⟩ := hN y H10 n10
    have z11 := a17 (X := X') _ s10 _ H10 (.ref s2.heap.objs.size) [y] (.ref s2.heap.objs.size) [u10] (fun _ H' => H' = upd H10 s2.heap.objs.size (.lst (ys ++ [y]))) J10 rfl (.cons r10 .nil) ⟨_, ys, y, rfl, rfl, hD, hz, rfl⟩
    rw [eA, eP, ew, ex] at z11
    refine thn z11 fun u11 s11 ⟨y', H11, J11, r11, e11⟩ => ?_
    subst e11
    exact fin J11 ⟨m', hm, w'⟩
 exact codeAny_compStart_list loop (T.self _ 0 _ _ _ st3 loop)
theorem a9O (c : Caps X scope cl cp) (hcalm : X.calm = true) (hx : scope.names.lookup x = some .local) (hnd : (x :: cp.map (·.2)).Nodup) (hi : PI X (.Name x px) iter wi)
 (ht : ∀ C fp pins s H, PTs (a8Y X scope cl C (x :: cp.map (·.2)) fp pins s H) ifs tt) (he : ∀ C fp pins s H, PE (a8Y X scope cl C (x :: cp.map (·.2)) fp pins s H) elt te)
 (hs : ∀ v, foldedSetIterable iter X.env v = pure v := by intro _; rfl) : PE X (.ListComp elt [⟨.Name x px, iter, ifs, 0⟩] scope pos) (c9t cp wi tt te) := by
 intro pins s σ H Q I h
 rw [eval_ListComp]
 refine wpAny_comprehension_free (use := none) (g := ⟨.Name x px, iter, ifs, 0⟩) (gs := []) (cl := cl) rfl hs c.clos c.kind c.names ?_
 refine thn (hi pins s σ H _ I h) fun v s1 h1 => thn h1 fun itv s2 h2 => ?_
 obtain ⟨it, fp, tn, J, H2, e, I2, T, st2, f2, q⟩ := h2
 subst e
 refine thn (b8T (iter := iter) (pos := pos) (R := fun C => compPost (model X.prog X.w) X.A X.xe none (EP X pins σ Q) (.ref s2.heap.objs.size) C) c hcalm hx hnd ht he I2 T st2 f2 (q _ (I2.hok.fresh (Nat.le_refl _))) ?_) fun acc s3 h3 => thn h3 fun cenv s4 h4 => ?_
 ·rintro C H' s' ⟨m, hn⟩ _ _ _ _ _ hI hq
  exact ⟨m, hn, fun h'' sb => ⟨.ref s2.heap.objs.size, H', hI h'' sb, rfl, hq⟩⟩
 ·obtain ⟨e, h4⟩ := h4
  subst e
  exact h4
end
end L2
namespace L2
open PySem PySem.Spec PyProof.Rows
section
variable {X : Cx} {scope : Scope} {cl : List (Str × Addr)} {cp : List (Nat × Str)} {x : Str} {px pos : Pos} {elt iter : Expr} {ifs : List Expr} {wi : TI} {tt : TT} {te : TE}
theorem b4s {i : Nat} {y : Str} {py : Pos} {pos' : Pos} (hN : X.N.Nodup) (hi' : X.N[i]? = some y) (hy : X.env.scope.names.lookup y = some .local) (c : Caps X scope cl cp) (hcalm : X.calm = true) (hx : scope.names.lookup x = some .local) (hnd : (x :: cp.map (·.2)).Nodup) (hi : PI X (.Name x px) iter wi)
 (ht : ∀ C fp pins s H, PTs (a8Y X scope cl C (x :: cp.map (·.2)) fp pins s H) ifs tt) (he : ∀ C fp pins s H, PE (a8Y X scope cl C (x :: cp.map (·.2)) fp pins s H) elt te)
 (hsw : swapsWith (.ListComp elt [⟨.Name x px, iter, ifs, 0⟩] scope pos) (some (.Name y py)) pos'.line X.env = pure true)
 (hs : ∀ v, foldedSetIterable iter X.env v = pure v := by intro _; rfl) : PS X (.Assign [.Name y py] (.ListComp elt [⟨.Name x px, iter, ifs, 0⟩] scope pos) pos') (tAsg (c9t cp wi tt te) (c4f i)) := by
 intro pins s σ H D I h
 rw [exec_Assign_Name_used _ _ _ _ hsw]
 refine wpAny_bind (wpAny_standAt (wpAny_bind (wpAny_bind ?_)))
 refine wpAny_comprehension_free (use := some (assign (.Name y py) X.env)) (g := ⟨.Name x px, iter, ifs, 0⟩) (gs := []) (cl := cl) rfl hs c.clos c.kind c.names ?_
 refine thn (hi pins s σ H _ I h) fun v s1 h1 => thn h1 fun itv s2 h2 => ?_
 obtain ⟨it, fp, tn, J, H2, e, I2, T, st2, f2, q⟩ := h2
 subst e
 refine thn (b8T (iter := iter) (pos := pos) (R := fun C => compPost (model X.prog X.w) X.A X.xe (some (assign (.Name y py) X.env)) (fun _ s' => wpAny (model X.prog X.w) X.A (pure ()) (fun _ s' => wpAny (model X.prog X.w) X.A (pure Flow.next) (SP X pins D) X.xe s') X.xe s') (.ref s2.heap.objs.size) C) c hcalm hx hnd ht he I2 T st2 f2 (q _ (I2.hok.fresh (Nat.le_refl _))) ?_) fun acc s3 h3 => thn h3 fun cenv s4 h4 => ?_
 ·rintro C H' s' ⟨m, hn⟩ hC0 hCn hCL hCc hCp hI hq
  have I' : Inv X pins σ H' s' := hI s'.heap (Heap.SameBut.refl ..)
  refine wpAny_assign_Name (b7q (v := .ref s2.heap.objs.size) I' hN hi' (.inl hy) rfl (fun s'' I'' hb => ?_) (.inr hy))
  obtain ⟨a, sb, ha⟩ := hb
  have hne : C ≠ a := by
   rcases ha with z | z
   ·rw [z]; exact hCL
   ·exact fun e => hCc y a z e.symm
  refine ⟨m, hn.sameBut sb hne, fun h'' sb'' => wpAny_pure (wpAny_pure ⟨_, H', ?_, hq⟩)⟩
  exact I''.turned (t' := s''.toks) (fun b o hb e => (sb''.2 b hb).trans e) hCn hCL (.inr hC0) hCc hCp
 ·obtain ⟨e, h4⟩ := h4
  subst e
  exact h4
end
theorem c1y : ∀ {bs : List Bool} {us : List Value}, Vals (bs.map V.bl) us -> ∀ (i : Nat) (v : Value), us[i]? = some v -> ∃ b : Bool, bs[i]? = some b /\ v = Value.bool b
 | [], _, .nil, i, v, h => by simp at h
 | b :: bs, u :: us, .cons r t, 0, v, h => by
  simp at h
  subst h
  cases r
  exact ⟨b, rfl, rfl⟩
 | b :: bs, u :: us, .cons r t, i + 1, v, h => by
  obtain ⟨b', e1, e2⟩ := c1y t i v (by simpa using h)
  exact ⟨b', by simpa using e1, e2⟩
theorem c3P : ∀ {ys : List Str} {us : List Value}, Vals (ys.map V.str) us -> StrsAre us ys
 | [], _, .nil => .nil
 | y :: ys, u :: us, .cons r t => by
  obtain ⟨k, rfl⟩ := r
  exact .cons y k (c3P t)
section
variable {X : Cx}
theorem c18 (hc : X.calm = true) : a8g X (.builtin "all") (fun xs H Q => ∃ (a : Addr) (bs : List Bool), xs = [.ref a] /\ SqL X.K H a (bs.map V.bl) /\ Q (.bl (bs.all id)) H) := by
 intro pins s σ H xs us Q I r h
 obtain ⟨a, bs, rfl, hq, q⟩ := h
 obtain ⟨u, rfl, ru⟩ := r.one
 cases ru
 obtain ⟨its, rv, pl, hz⟩ := I.list hq
 have hl : s.heap.IsList a its.toArray := pl.isList
 have hlt : a < s.heap.objs.size := by obtain ⟨_, e, _⟩ := hl; exact Heap.lt_size e
 refine call_all_walk (wpAny_pyIter_list hl ?_)
 refine ⟨s.heap.objs.size, [s.heap.objs.size, a], [s.heap.objs.size], its.toArray.size, _, _, fun i => (bs[i]?).getD true, rfl, Walks.list (A := X.A.in1) (I.ok.hd hc) _ a (Nat.ne_of_lt hlt) its.toArray,
  ⟨⟨_, Heap.get?_push_size _ rfl, rfl, rfl⟩, hl.push _⟩, fun i v s' Q' E' hP hQ => ?_, fun h' tk hk => ?_⟩
 ·obtain ⟨b, e, rfl⟩ := c1y rv i v (by simpa using hP)
  simp only [e, Option.getD_some] at hQ
  exact wpAny_truthy_bool hQ
 ·have e : ((List.range its.toArray.size).all fun i => (bs[i]?).getD true) = bs.all id := by
   have := rv.length
   rw [List.length_map] at this
   rw [List.size_toArray, <- this]
   exact PyProof.Rows.LSm.range_all bs
  rw [e]
  refine ⟨.bl _, H, I.kept (t' := tk) fun b o e' => hk b o (fun hm => ?_) (Heap.get?_push_of_some _ e'), rfl, q⟩
  rw [List.mem_singleton.mp hm] at e'
  exact Nat.lt_irrefl _ (Heap.lt_size e')
def c9N (K : PySem.W.Frag) : V -> List V -> Hp -> VK -> Prop := fun x vs H Q => ∃ (z : Str) (a : Addr) (ys : List Str), x = .str z /\ vs = [.ref a] /\ SqL K H a (ys.map V.str) /\ (ys.map (·.length)).sum + ys.length * z.length <= 16777216 /\ Q (.str (Txt.join z ys)) H
theorem c7f : MtR X "str.join" (c9N X.K) := by
 intro pins s σ H x vs v us Q I rx rv h
 obtain ⟨z, a, ys, rfl, rfl, hq, hz, q⟩ := h
 obtain ⟨t, rfl⟩ := rx
 obtain ⟨u, rfl, ru⟩ := rv.one
 cases ru
 obtain ⟨its, r, pl, _⟩ := I.list hq
 exact join_list pl.isList (by simpa using c3P r) hz fun t' k => ⟨.str _, H, I.tok k, ⟨_, rfl⟩, q⟩
end
structure a0q (P : Program) (w : World) (K : PySem.W.Frag) (mg : Str -> Option Value) (base : Heap) (CX : CXT) (k : Nat) (x : Str) (ps : List Str) (sp : Sp) : Prop where
 ex : ∃ f fd, FnOk P w K mg base CX k f fd ps sp /\ mg x = some (.ref f) /\ PySem.W.keepIn K (.ref f) = true /\ b2z K fd ps []
section
variable {X : Cx} {CX : CXT} {k : Nat} {ps : List Str} {sp : Sp} {E : XK} {x : Str} {p pos : Pos} {e : Expr} {es : List Expr} {t : TA}
theorem a0h (G : a0q X.prog X.w X.K X.mg X.base CX k x ps sp) (hr : Room k X.A) (hx : a7M CX X E) (ha : PA X (e :: es) t) (hg : Gl X x := by rfl) (hdb : (x == ("__debug__" : Str)) = false := by decide)
 (he : starEach (e :: es) X.env = (false, eval e X.env) :: starEach es X.env := by rfl) (hpl : (backTo pos (starEach es X.env)).any (·.1) = false := by rfl) : PE X (.Call (.Name x p) (e :: es) [] pos) (b6S sp [] E t) := by
 obtain ⟨f, fd, F, hm, hk, hb⟩ := G.ex
 exact c7c F hr hg hm hk hb .nil hx ha hdb he hpl
end
def Nxt (D : Addr) (Pv : Nat -> List V -> Hp -> Prop) (i : Nat) (ys : List V) : VK := fun y H5 => H5 D = some (.lst ys) /\ ys.length < sizeLine /\ Pv (i + 1) (ys ++ [y]) (upd H5 D (.lst (ys ++ [y])))
theorem c1j {cp : List (Nat × Str)} {te : TE} {σ : St} {J : It} {n : Nat} {D : Addr} {Q : VK} {H1 : Hp} (Pv : Nat -> List V -> Hp -> Prop) (h0 : Pv 0 [] (upd H1 D (.lst [])))
 (hg : ∀ i ys H, H D = some (.lst ys) -> Pv i ys H -> (i < n -> J.go i H) /\ (i = n -> J.stop i H))
 (hs : ∀ i ys H v H', i < n -> H D = some (.lst ys) -> Pv i ys H -> J.yld i H v H' -> te (some v :: capσ cp σ) H' (Nxt D Pv i ys))
 (hd : ∀ ys H, H D = some (.lst ys) -> Pv n ys H -> Q (.ref D) H) : b69 cp tYes te σ J D Q H1 := by
 refine ⟨fun i m H => m = n - i /\ i <= n /\ ∃ ys, H D = some (.lst ys) /\ Pv i ys H, ⟨n, by simp, Nat.zero_le _, [], a0d, h0⟩, ?_⟩
 rintro i m H ⟨rfl, hi, ys, hD, p⟩
 by_cases hlt : i < n
 ·refine .inr ⟨(hg i ys H hD p).1 hlt, Nxt D Pv i ys, fun _ => False, fun y H5 ⟨h1, h2, h3⟩ => ⟨ys, n - (i + 1), h1, h2, by omega, rfl, hlt, _, a0d, h3⟩, fun _ z => z.elim, fun v H' y => ?_⟩
  exact hs i ys H v H' hlt hD p y
 ·have e : i = n := by omega
  subst e
  exact .inl ⟨(hg i ys H hD p).2 rfl, hd ys H hD p⟩
theorem c2y {cp : List (Nat × Str)} {te : TE} {σ : St} {lo : Int} {n : Nat} {D : Addr} {Q : VK} {H1 : Hp} (Pv : Nat -> List V -> Hp -> Prop) (h0 : Pv 0 [] (upd H1 D (.lst [])))
 (hs : ∀ i ys H, i < n -> H D = some (.lst ys) -> Pv i ys H -> te (some (.int (lo + i)) :: capσ cp σ) H (Nxt D Pv i ys))
 (hd : ∀ ys H, H D = some (.lst ys) -> Pv n ys H -> Q (.ref D) H) : b69 cp tYes te σ (Itr lo n) D Q H1 :=
 c1j (n := n) Pv h0 (fun i ys H _ _ => ⟨fun h => h, fun h => by subst h; exact Nat.le_refl _⟩) (fun i ys H v H' hi hD p y => by
  obtain ⟨e, rfl⟩ := y
  subst e
  exact hs i ys _ hi hD p) hd
theorem c1U {cp : List (Nat × Str)} {te : TE} {σ : St} {x : Str} {D : Addr} {Q : VK} {H1 : Hp} (Pv : Nat -> List V -> Hp -> Prop) (h0 : Pv 0 [] (upd H1 D (.lst [])))
 (hs : ∀ i c ys H, x.cps[i]? = some c -> H D = some (.lst ys) -> Pv i ys H -> te (some (.str ⟨#[c]⟩) :: capσ cp σ) H (Nxt D Pv i ys))
 (hd : ∀ ys H, H D = some (.lst ys) -> Pv x.cps.size ys H -> Q (.ref D) H) : b69 cp tYes te σ (Its x) D Q H1 :=
 c1j (n := x.cps.size) Pv h0 (fun i ys H _ _ => ⟨fun h => h, fun h => by subst h; exact Nat.le_refl _⟩) (fun i ys H v H' hi hD p y => by
  obtain ⟨e, c, hc, rfl⟩ := y
  subst e
  exact hs i c ys _ hc hD p) hd
theorem c3u {K : PySem.W.Frag} {cp : List (Nat × Str)} {te : TE} {σ : St} {a : Addr} {xs : List V} {D : Addr} {Q : VK} {H1 : Hp} (Pv : Nat -> List V -> Hp -> Prop) (h0 : Pv 0 [] (upd H1 D (.lst [])))
 (hl : ∀ i ys H, H D = some (.lst ys) -> Pv i ys H -> SqL K H a xs)
 (hs : ∀ i x ys H, xs[i]? = some x -> H D = some (.lst ys) -> Pv i ys H -> te (some x :: capσ cp σ) H (Nxt D Pv i ys))
 (hd : ∀ ys H, H D = some (.lst ys) -> Pv xs.length ys H -> Q (.ref D) H) : b69 cp tYes te σ (Itl K a) D Q H1 :=
 c1j (n := xs.length) Pv h0 (fun i ys H hD p => ⟨fun h => ⟨xs, xs[i], hl i ys H hD p, by simp [h]⟩, fun h => by subst h; exact ⟨xs, hl _ ys H hD p, Nat.le_refl _⟩⟩) (fun i ys H v H' hi hD p y => by
  obtain ⟨e, y⟩ := y
  subst e
  exact hs i v ys _ (y xs (hl i ys _ hD p)) hD p) hd
end L2
namespace L2
open PySem PySem.Spec PyProof.Rows
inductive Kd where
 | non | bl | int | str | lst | tup | dct
 deriving DecidableEq
def Kd.nm : Kd -> String
 | .non => "NoneType" | .bl => "bool" | .int => "int" | .str => "str" | .lst => "list" | .tup => "tuple" | .dct => "dict"
theorem c7B (K : PySem.W.Frag) (a : Kd) : PySem.W.kitOne K (.type a.nm) (.type "int") = some (decide (a = .int ∨ a = .bl)) := by cases a <;> kernel_rfl
theorem c1F (K : PySem.W.Frag) (a : Kd) : PySem.W.kitOne K (.type a.nm) (.type "bool") = some (decide (a = .bl)) := by cases a <;> kernel_rfl
theorem b5p (K : PySem.W.Frag) (a : Kd) : PySem.W.kitOne K (.type a.nm) (.type "str") = some (decide (a = .str)) := by cases a <;> kernel_rfl
theorem c5N (K : PySem.W.Frag) (a : Kd) : PySem.W.kitOne K (.type a.nm) (.type "list") = some (decide (a = .lst)) := by cases a <;> kernel_rfl
theorem a1h (K : PySem.W.Frag) (a : Kd) : PySem.W.kitOne K (.type a.nm) (.type "tuple") = some (decide (a = .tup)) := by cases a <;> kernel_rfl
def kdD : PyData -> Kd
 | .none => .non | .bool _ => .bl | .int _ => .int | .str _ => .str | .list _ => .lst | .tuple _ => .tup | .dict _ => .dct
theorem a0Y {X : Cx} : a8g X (.builtin "isinstance") (fun xs H Q => ∃ x T d k, xs = [x, .ty T] /\ Dt X.K H x d /\ PySem.W.kitOne X.K (.type (kdD d).nm) (.type T) = some k /\ Q (.bl k) H) := by
 intro pins s σ H xs us Q I r h
 obtain ⟨x, T, d, k, rfl, hd, e, q⟩ := h
 obtain ⟨u, c, rfl, r1, r2⟩ := r.two
 cases r2
 have fin : ∀ tk, EP X pins σ Q (.bool k) { s with toks := tk } := fun tk => ⟨.bl k, H, I.tok tk, rfl, q⟩
 cases hd with
 | non => cases r1; exact PySem.W.kia_one PySem.W.kitx_none I.kIn True.intro e (fun z => nomatch z) fin
 | bl b => cases r1; exact PySem.W.kia_one PySem.W.kitx_bool I.kIn True.intro e (fun z => nomatch z) fin
 | int i => obtain ⟨t, rfl⟩ := r1; exact PySem.W.kia_one PySem.W.kitx_int I.kIn True.intro e (fun z => nomatch z) fin
 | str z => obtain ⟨t, rfl⟩ := r1; exact PySem.W.kia_one PySem.W.kitx_str I.kIn True.intro e (fun z => nomatch z) fin
 | lst hq _ =>
  cases r1
  obtain ⟨its, _, ⟨o, n, eo, hc, _, _⟩, _⟩ := I.list hq
  exact PySem.W.kia_one PySem.W.kitx_list I.kIn ⟨o, eo, hc⟩ e (fun z => nomatch z) fin
 | tup hq _ =>
  cases r1
  obtain ⟨its, _, ⟨o, eo, hc, _⟩, _⟩ := I.tuple hq
  exact PySem.W.kia_one PySem.W.kitx_tuple I.kIn ⟨o, eo, hc⟩ e (fun z => nomatch z) fin
 | dK ea =>
  cases r1
  obtain ⟨_, _, vs, _, o, es, ep, h1, h2, _⟩ := I.hok _ _ ea
  exact PySem.W.kia_one PySem.W.kitx_dict I.kIn ⟨o, h1, h2.1⟩ e (fun z => nomatch z) fin
 | dT ea =>
  cases r1
  obtain ⟨_, _, zs, _, o, es, ep, h1, h2, _⟩ := I.hok _ _ ea
  exact PySem.W.kia_one PySem.W.kitx_dict I.kIn ⟨o, h1, h2.1⟩ e (fun z => nomatch z) fin
theorem c8a {X : Cx} {scope : Scope} (kind : scope.kind = .function := by rfl) (plain : ∀ y ∈ scope.names, y.2 = .local ∨ y.2 = .globalImplicit := by decide) (names : ∀ y ∈ scope.names, y.2 = .local -> scope.names.lookup y.1 = some .local := by decide +kernel) : Caps X scope [] [] where
 kind := kind
 nocell := fun y hy z => by rcases plain y hy with h | h <;> rw [h] at z <;> cases z
 names := names
 clos := closureFor_none fun y hy z => by rcases plain y hy with h | h <;> rw [h] at z <;> cases z
 sub := fun x c e => by cases e
 has := fun x h => by
  have hm : ∀ (k : NameKind), (relabel scope X.env).names.lookup x = some k -> k = .local ∨ k = .globalImplicit := fun k e => by
   have m := PySem.mem_of_lookup e
   unfold relabel at m
   obtain ⟨⟨n, k'⟩, hy, e'⟩ := List.mem_map.mp m
   have q := plain _ hy
   have nf : (k' == NameKind.free) = false := by rcases q with h | h <;> (have h' : k' = _ := h; subst h'; rfl)
   simp only [nf, Bool.false_and, Bool.false_eq_true, if_false] at e'
   have : k' = k := congrArg (·.2) e'
   rw [<- this]
   exact q
  rcases h with h | h
  ·rcases hm _ h with z | z <;> cases z
  ·rcases hm _ h with z | z <;> cases z
 at' := fun p hp => by cases hp
structure Def (K : PySem.W.Frag) (mg : Str -> Option Value) (x : Str) (st : Stmt) : Prop where
 ex : ∃ f fd, Fun K x x st f fd /\ mg x = some (.ref f)
section
variable {P : Program} {w : World} {K : PySem.W.Frag} {mg : Str -> Option Value} {base : Heap}
theorem a0y {h : Heap} {x : Str} {st : Stmt} {f : Addr} {oc : Value} {od an : Option Addr} {osl : Array (Option Value)} {kV doc pm cdv ct : Value} (X : K.In h) (G : h.Ns mainGlobals mg) (a : PySem.W.nsIn K mainGlobals x = some (some (.ref f)))
 (l : K.lookup f = some ⟨oc, od, .func (PySem.W.fnOf x x (a0n st) (a0j st) (a0b st) .none kV doc pm an cdv ct), osl⟩) (c : PySem.W.codeIn K cdv x = true) (k : PySem.W.keepIn K (.ref f) = true) : Def K mg x st :=
 ⟨f, _, c4g l c k, PySem.W.mg_of X G a⟩
theorem Def.known {x : Str} {st : Stmt} {N ps : List Str} {k : Nat} {sp : Sp} (D : Def K mg x st) (S : a0o N ps (a0b st))
 (hb : ∀ (kV doc pm : Value) (an : Option Addr) (cdv ct : Value) (us : List Value), us.length = ps.length -> bindArgs (PySem.W.fnOf x x (a0n st) (a0j st) (a0b st) .none kV doc pm an cdv ct) ⟨us, []⟩ = pure (ps.zip us))
 (len : ∀ vs H Q E, sp vs H Q E -> vs.length = ps.length)
 (hbody : ∀ (f : Addr) (cdv : Value) (A : Around) (outer : List Env) (s : Shared) (H : Hp) (vs : List V) (Q : VK) (E : XK), Room k (A.deeper (envOfC x (a0b st) s.heap.objs.size f cdv)) -> sp vs H Q E ->
  ∃ t, PSs (cxOf CX0 P w K mg base N x (a0b st) f cdv A outer s H E).nox (a0j st) t /\ t { nx := fun _ H' => Q .non H', rt := Q } (a6A N vs) H) : a0q P w K mg base CX0 (k + 1) x ps sp := by
 obtain ⟨f, fd, F, hm⟩ := D.ex
 exact ⟨f, fd, F.ok S len fun cdv A outer s H vs Q E hr h => hbody f cdv A outer s H vs Q E hr h, hm, F.kp, F.binds hb⟩
end
theorem Same.new {H : Hp} {D : Addr} {o : HO} (h : H D = none) : Same H (upd H D o) := fun b u e => by rw [a0m (a0k e h)]; exact e
theorem Same.on {H H2 : Hp} {D : Addr} {o : HO} (e : Same H H2) (h : H D = none) : Same H (upd H2 D o) := fun b u z => by rw [a0m (a0k z h)]; exact e b u z
abbrev one (c : Nat) : Str := ⟨#[c]⟩
theorem c0O {α : Type} (xs : List α) (i : Int) (h0 : 0 <= i) (h : i < xs.length) : ∃ v, atI xs i = some v /\ xs[i.toNat]? = some v := by
 have e : i = (i.toNat : Int) := by omega
 have hl : i.toNat < xs.length := by omega
 generalize i.toNat = j at e hl
 subst e
 exact ⟨_, c1a (List.getElem?_eq_getElem hl), List.getElem?_eq_getElem hl⟩
theorem c6K (ns : List Int) (i : Int) (h0 : 0 <= i) (h : i < ns.length) : atI (ns.map V.int) i = some (V.int (ns.getD i.toNat 0)) := by
 have e : i = (i.toNat : Int) := by omega
 have hl : i.toNat < ns.length := by omega
 generalize i.toNat = j at e hl
 subst e
 refine c1a ?_
 rw [List.getElem?_map, List.getElem?_eq_getElem hl]
 simp [List.getD, hl]
theorem b5r {K : PySem.W.Frag} {H : Hp} : ∀ zs : List Str, a1R K H (zs.map V.str) (zs.map PyData.str)
 | [] => .nil
 | z :: r => .cons (.str z) (b5r r)
theorem c6w {cs : List Nat} (h : ∀ c ∈ cs, c < 128) : PyData.canLay0 (.str ⟨cs.toArray⟩) = true := by
 have : ∀ c ∈ cs, c < 1114112 := fun c hc => by have := h c hc; omega
 simp [PyData.canLay0, PyData.strOk]
 exact this
theorem sl {n : Nat} (h : n <= 1000 := by simp) : n <= sizeLine := Nat.le_of_lt (a0U h)
theorem c9R : bootBuiltins "all" = some (.builtin "all") := by kernel_rfl
theorem a0w : bootBuiltins "isinstance" = some (.builtin "isinstance") := by kernel_rfl
theorem c8d : bootBuiltins "abs" = some (.builtin "abs") := by kernel_rfl
theorem a6M : bootBuiltins "len" = some (.builtin "len") := by kernel_rfl
theorem c27 : bootBuiltins "int" = some (.type "int") := by kernel_rfl
theorem c6M : bootBuiltins "bool" = some (.type "bool") := by kernel_rfl
theorem c0d : bootBuiltins "str" = some (.type "str") := by kernel_rfl
theorem c1O : bootBuiltins "list" = some (.type "list") := by kernel_rfl
theorem a3L : bootBuiltins "tuple" = some (.type "tuple") := by kernel_rfl
theorem c8x : bootBuiltins "dict" = some (.type "dict") := by kernel_rfl
end L2
namespace L2
open PySem PySem.Spec PyProof.Rows
structure Flew (fs own : List Addr) (h h' : Heap) : Prop where
 keep : ∀ b o, b ∉ own -> b ∉ fs -> h.get? b = some o -> h'.get? b = some o
 slot : ∀ b o, b ∉ own -> h.get? b = some o -> ∃ sl, h'.get? b = some { o with slots := sl }
section
variable {M : Model} {A : Around} {E : Value -> Shared -> Prop} {s : Shared} {base : Heap} {env : Env} {outer : List Env} {L ea T : Addr} {C : Value}
end
end L2
namespace L2
open PySem PySem.Spec PyProof.Rows
section
variable {P : Program} {w : World} {K : PySem.W.Frag} {mg : Str -> Option Value} {base : Heap} {N : List Str} {qual : Str} {scope : Scope} {f : Addr} {cd : Value} {A : Around} {outer : List Env} {s : Shared} {H : Hp} {E : XK}
end
section
variable {P : Program} {w : World} {K : PySem.W.Frag} {mg : Str -> Option Value} {base : Heap} {N : List Str} {qual : Str} {scope : Scope} {f : Addr} {cd : Value} {A : Around} {outer : List Env} {s : Shared} {H : Hp} {E : XK}
end
end L2
namespace L2
open PySem PySem.Spec PyProof.Rows
section
variable {X : Cx} {pins : List (Addr × Obj)} {σ : St} {H : Hp} {s : Shared}
end
section
variable {X : Cx} {pins : List (Addr × Obj)} {σ : St} {H : Hp} {s : Shared}
end
structure ExcK (K : PySem.W.Frag) (C : Addr) : Prop where
 hga : PySem.W.findIn K (.ref C) "__getattribute__" = some (some (.builtin "BaseException.__getattribute__"))
 hk : PySem.W.findIn K (.ref C) "__getattr__" = some none
 hc : ∃ cd, PySem.W.clsIn K C = some cd
 ha : PySem.W.findIn K (.ref C) "__class__" = some (some (.builtin "object.__class__"))
 hn : PySem.W.specialIn K (.builtin "object.__class__") "__get__" = some (some (.builtin "getset_descriptor.__get__"))
 ht : PySem.W.takesIn K (.builtin "object.__class__") = some true
 hm : PySem.W.mroIn K C (.type "object") = some true
 hb : PySem.W.mroIn K C (.type "BaseException") = some true
end L2
namespace L2
open PySem PySem.Spec PyProof.Rows
theorem c8H {X : Cx} : SlR X (fun x lo hi H Q => ∃ z, x = .str z /\ z.length <= sizeLine /\ Q (.str (Txt.slice z lo hi)) H) := by
 intro pins s σ H x v vl vu lo hi sl Q I rx hs pl pu h
 obtain ⟨z, rfl, hz, q⟩ := h
 obtain ⟨t, rfl⟩ := rx
 have part : ∀ {u : Value} {o : Option Int}, IsPart u o -> ∃ l : Option (Int × Tok), partValue l = u /\ l.map (·.1) = o := fun p => by
  cases p with
  | none => exact ⟨none, rfl, rfl⟩
  | int i t => exact ⟨some (i, t), rfl, rfl⟩
 obtain ⟨l, rfl, rfl⟩ := part pl
 obtain ⟨u, rfl, rfl⟩ := part pu
 exact ⟨"str", _, F.slot_str_getitem.lookup, typeIs_str _ _ _, wpAny_getItem_str_slice (l := l) (u := u) (st := none) hs rfl
  (post_val_or_str ⟨Nat.le_trans (Txt.slice_le z _ _) hz, fun t' k => ⟨.str _, H, I.tok k, ⟨_, rfl⟩, q⟩⟩)⟩
end L2
namespace L2
open PySem PySem.Spec PyProof.Rows
section
variable {X : Cx}
end
def b0J (s : Stmt) (j : Nat) : Stmt := match s with
 | .ClassDef _ _ _ body _ _ _ _ _ _ _ => body.getD j (.Pass ⟨0, 0, 0, 0⟩)
 | _ => .Pass ⟨0, 0, 0, 0⟩
structure a1B (P : Program) (w : World) (K : PySem.W.Frag) (mg : Str -> Option Value) (base : Heap) (CX : CXT) (k : Nat) (C : Addr) (m : Str) (ps : List Str) (sp : Sp) : Prop where
 ex : ∃ f fd, FnOk P w K mg base CX k f fd ps sp /\ Meth K C m f /\ b2z K fd ps []
structure a6h (P : Program) (w : World) (K : PySem.W.Frag) (mg : Str -> Option Value) (base : Heap) (CX : CXT) (k : Nat) (C : Addr) (ps : List Str) (sp : Sp) : Prop where
 ex : ∃ f fd, FnOk P w K mg base CX k f fd ps sp /\ Mk K C f /\ b2z K fd ps []
structure Mth (K : PySem.W.Frag) (C : Addr) (m qual : Str) (st : Stmt) : Prop where
 ex : ∃ f fd, Fun K m qual st f fd /\ PySem.W.findIn K (.ref C) m = some (some (.ref f)) /\ PySem.W.isFn K (.ref f) = true
section
variable {P : Program} {w : World} {K : PySem.W.Frag} {mg : Str -> Option Value} {base : Heap} {C : Addr}
theorem a2Y {m qual : Str} {st : Stmt} {f : Addr} {oc : Value} {od an : Option Addr} {osl : Array (Option Value)} {kV doc pm cdv ct : Value} (a : PySem.W.findIn K (.ref C) m = some (some (.ref f))) (i : PySem.W.isFn K (.ref f) = true)
 (l : K.lookup f = some ⟨oc, od, .func (PySem.W.fnOf m qual (a0n st) (a0j st) (a0b st) .none kV doc pm an cdv ct), osl⟩) (c : PySem.W.codeIn K cdv qual = true) (k : PySem.W.keepIn K (.ref f) = true) : Mth K C m qual st :=
 ⟨f, _, c4g l c k, a, i⟩
theorem Mth.known {m qual : Str} {st : Stmt} {N ps : List Str} {k : Nat} {sp : Sp} (D : Mth K C m qual st) (S : a0o N ps (a0b st))
 (hb : ∀ (kV doc pm : Value) (an : Option Addr) (cdv ct : Value) (us : List Value), us.length = ps.length -> bindArgs (PySem.W.fnOf m qual (a0n st) (a0j st) (a0b st) .none kV doc pm an cdv ct) ⟨us, []⟩ = pure (ps.zip us))
 (len : ∀ vs H Q E, sp vs H Q E -> vs.length = ps.length)
 (hbody : ∀ (f : Addr) (cdv : Value) (A : Around) (outer : List Env) (s : Shared) (H : Hp) (vs : List V) (Q : VK) (E : XK), Room k (A.deeper (envOfC qual (a0b st) s.heap.objs.size f cdv)) -> sp vs H Q E ->
  ∃ t, PSs (cxOf CX0 P w K mg base N qual (a0b st) f cdv A outer s H E).nox (a0j st) t /\ t { nx := fun _ H' => Q .non H', rt := Q } (a6A N vs) H) : a1B P w K mg base CX0 (k + 1) C m ps sp := by
 obtain ⟨f, fd, F, ha, hi⟩ := D.ex
 exact ⟨f, fd, F.ok S len fun cdv A outer s H vs Q E hr h => hbody f cdv A outer s H vs Q E hr h, ⟨ha, hi, F.kp⟩, F.binds hb⟩
theorem a1B.init {CX : CXT} {k : Nat} {ps : List Str} {sp : Sp} (G : a1B P w K mg base CX k C "__init__" ps sp) (mk : PySem.W.makesIn K C = true) (kc : PySem.W.keepIn K (.ref C) = true) : a6h P w K mg base CX k C ps sp := by
 obtain ⟨f, fd, F, hm, hb⟩ := G.ex
 exact ⟨f, fd, F, ⟨mk, hm.at_, hm.fn, kc⟩, hb⟩
end
section
variable {X : Cx} {CX : CXT} {k : Nat} {C : Addr} {ps : List Str} {sp : Sp} {E : XK} {x m : Str} {p pos apos : Pos} {e o : Expr} {es : List Expr} {t : TA} {ta : TE}
theorem a87 (G : a6h X.prog X.w X.K X.mg X.base CX k C ps sp) (hr : Room (k + 1) X.A) (hm : X.mg x = some (.ref C)) (hx : a7M CX X E)
 (ha : PA X (e :: es) t) (hg : Gl X x := by rfl) (hdb : (x == ("__debug__" : Str)) = false := by decide) (he : starEach (e :: es) X.env = (false, eval e X.env) :: starEach es X.env := by rfl) (hpl : (backTo pos (starEach es X.env)).any (·.1) = false := by rfl) :
 PE X (.Call (.Name x p) (e :: es) [] pos) (c83 C sp [] E t) := by
 obtain ⟨f, fd, F, M, hb⟩ := G.ex
 exact c78 M F hr hg hm hb .nil hx ha hdb he hpl
end
end L2
namespace L2
open PySem PySem.Spec PyProof.Rows
def a06 (cells : List (Str × Addr)) : List (Str × NameKind) -> List (Str × Addr) -> List (Str × Addr)
 | [], acc => acc
 | (n, k) :: r, acc => a06 cells r (if k == .free then (n, (cells.lookup n).getD 0) :: acc else acc)
theorem a4n {env : Env} : ∀ {names : List (Str × NameKind)} {acc : List (Str × Addr)}, (∀ y ∈ names, y.2 = .free -> ∃ c, env.cells.lookup y.1 = some c) ->
 (forIn names acc fun (x : Str × NameKind) (cs : List (Str × Addr)) => (do
  let (name, kind) := x
  if kind == NameKind.free then (do let a <- cellOf env name; pure (ForInStep.yield ((name, a) :: cs))) else pure (ForInStep.yield cs) : Sem (ForInStep (List (Str × Addr))))) = pure (a06 env.cells names acc)
 | [], acc, _ => rfl
 | (n, k) :: r, acc, h => by
  rw [List.forIn_cons]
  by_cases hk : (k == NameKind.free) = true
  ·obtain ⟨c, hc⟩ := h (n, k) List.mem_cons_self (by simpa using hk)
   have e : cellOf env n = pure c := by unfold cellOf; rw [show env.cells.lookup n = some c from hc]
   have ih := a4n (env := env) (names := r) (acc := (n, c) :: acc) fun y hy => h y (List.mem_cons_of_mem _ hy)
   show (do let r <- (if k == NameKind.free then (do let a <- cellOf env n; pure (ForInStep.yield ((n, a) :: acc))) else pure (ForInStep.yield acc) : Sem (ForInStep (List (Str × Addr)))); _) = _
   rw [if_pos hk, e, pure_bind, pure_bind]
   refine Eq.trans ih ?_
   show _ = pure (a06 env.cells r (if (k == NameKind.free) = true then (n, (env.cells.lookup n).getD 0) :: acc else acc))
   rw [if_pos hk, show env.cells.lookup n = some c from hc]
   rfl
  ·have ih := a4n (env := env) (names := r) (acc := acc) fun y hy => h y (List.mem_cons_of_mem _ hy)
   show (do let r <- (if k == NameKind.free then (do let a <- cellOf env n; pure (ForInStep.yield ((n, a) :: acc))) else pure (ForInStep.yield acc) : Sem (ForInStep (List (Str × Addr)))); _) = _
   rw [if_neg hk, pure_bind]
   refine Eq.trans ih ?_
   show _ = pure (a06 env.cells r (if (k == NameKind.free) = true then (n, (env.cells.lookup n).getD 0) :: acc else acc))
   rw [if_neg hk]
theorem a7q {cells : List (Str × Addr)} : ∀ {names : List (Str × NameKind)} {acc : List (Str × Addr)}, (∀ y ∈ names, y.2 = .free -> ∃ c, cells.lookup y.1 = some c) -> (∀ x c, acc.lookup x = some c -> cells.lookup x = some c) ->
 ∀ x c, (a06 cells names acc).lookup x = some c -> cells.lookup x = some c
 | [], _, _, h => h
 | (n, k) :: r, acc, hf, h => by
  refine a7q (names := r) (fun y hy => hf y (List.mem_cons_of_mem _ hy)) ?_
  intro x c e
  by_cases hk : (k == NameKind.free) = true
  ·obtain ⟨c', hc⟩ := hf (n, k) List.mem_cons_self (by simpa using hk)
   have hc' : cells.lookup n = some c' := hc
   rw [if_pos hk, hc', List.lookup_cons] at e
   by_cases hx : (x == n) = true
   ·rw [hx] at e
    cases e
    have : x = n := by simpa using hx
    rw [this]
    exact hc'
   ·rw [show (x == n) = false by simpa using hx] at e
    exact h x c e
  ·rw [if_neg hk] at e
   exact h x c e
theorem b1w {cells : List (Str × Addr)} : ∀ {names : List (Str × NameKind)} {acc : List (Str × Addr)} {x : Str}, (∃ c, acc.lookup x = some c) -> ∃ c, (a06 cells names acc).lookup x = some c
 | [], _, _, h => h
 | (n, k) :: r, acc, x, ⟨c, h⟩ => by
  refine b1w (names := r) ?_
  by_cases hk : (k == NameKind.free) = true
  ·rw [if_pos hk, List.lookup_cons]
   cases hx : x == n with
   | true => exact ⟨_, rfl⟩
   | false => exact ⟨c, h⟩
  ·rw [if_neg hk]
   exact ⟨c, h⟩
theorem a2J {cells : List (Str × Addr)} : ∀ {names : List (Str × NameKind)} {acc : List (Str × Addr)} {x : Str}, (x, NameKind.free) ∈ names -> ∃ c, (a06 cells names acc).lookup x = some c
 | (n, k) :: r, acc, x, h => by
  rcases List.mem_cons.mp h with e | h
  ·cases e
   refine b1w (names := r) ⟨(cells.lookup n).getD 0, ?_⟩
   rw [if_pos (by rfl), List.lookup_cons, beq_self_eq_true]
  ·exact a2J (names := r) h
theorem a94 {env : Env} : ∀ {names : List (Str × NameKind)} {x : Str}, names.lookup x = some .free ->
 (names.map fun (n, k) => if (k == NameKind.free && env.scope.kind == .function && env.kindOf n == some .cell) then (n, NameKind.cell) else (n, k)).lookup x = some .cell ∨
 (names.map fun (n, k) => if (k == NameKind.free && env.scope.kind == .function && env.kindOf n == some .cell) then (n, NameKind.cell) else (n, k)).lookup x = some .free
 | [], _, h => by simp at h
 | (n, k) :: r, x, h => by
  have ih := @a94 env r x
  rw [List.lookup_cons] at h
  rw [List.map_cons]
  cases hx : x == n with
  | true =>
   rw [hx] at h
   cases h
   by_cases hc : (NameKind.free == NameKind.free && env.scope.kind == .function && env.kindOf n == some .cell) = true
   ·simp only [hc, if_true, List.lookup_cons, hx]
    exact .inl trivial
   ·simp only [hc, if_false, List.lookup_cons, hx, Bool.false_eq_true]
    exact .inr trivial
  | false =>
   rw [hx] at h
   by_cases hc : (k == NameKind.free && env.scope.kind == .function && env.kindOf n == some .cell) = true
   ·simp only [hc, if_true, List.lookup_cons, hx]
    exact ih h
   ·simp only [hc, if_false, List.lookup_cons, hx, Bool.false_eq_true]
    exact ih h
theorem a4O {X : Cx} {scope : Scope} {cp : List (Nat × Str)} {sc : Scope} {N : List Str} (hcell : ∀ x, X.env.scope.names.lookup x = some .cell -> ∃ c, X.env.cells.lookup x = some c) (hs : X.env.scope = sc := by rfl) (hN : X.N = N := by rfl)
 (kind : scope.kind = .function := by rfl) (plain : ∀ y ∈ scope.names, y.2 ≠ .cell := by decide) (names : ∀ y ∈ scope.names, y.2 = .local -> scope.names.lookup y.1 = some .local := by decide +kernel)
 (free : ∀ y ∈ scope.names, y.2 = .free -> sc.names.lookup y.1 = some .cell := by decide +kernel) (at' : ∀ p ∈ cp, N[p.1]? = some p.2 /\ sc.names.lookup p.2 = some .cell /\ scope.names.lookup p.2 = some .free := by decide +kernel) :
 Caps X scope (a06 X.env.cells scope.names []) cp := by
 subst hs hN
 have hf : ∀ y ∈ scope.names, y.2 = .free -> ∃ c, X.env.cells.lookup y.1 = some c := fun y hy e => hcell _ (free y hy e)
 refine ⟨kind, plain, names, ?_, a7q hf (fun x c e => by cases e), fun x h => ?_, fun p hp => ?_⟩
 ·show closureFor scope X.env = _
  simp only [closureFor]
  have := a4n (env := X.env) (acc := []) hf
  exact (congrArg (fun z => z >>= fun r => pure r) this).trans (pure_bind _ _)
 ·have hm : ∀ k, (relabel scope X.env).names.lookup x = some k -> (k = .cell ∨ k = .free) -> (x, NameKind.free) ∈ scope.names := fun k e hk => by
   have m := PySem.mem_of_lookup e
   unfold relabel at m
   obtain ⟨⟨n, k'⟩, hy, e'⟩ := List.mem_map.mp m
   have nc := plain _ hy
   by_cases hc : (k' == NameKind.free && X.env.scope.kind == .function && X.env.kindOf n == some .cell) = true
   ·simp only [hc, if_true] at e'
    have e1 : n = x := congrArg (·.1) e'
    have : k' = .free := by simp only [Bool.and_eq_true, beq_iff_eq] at hc; exact hc.1.1
    subst e1 this
    exact hy
   ·simp only [hc, if_false, Bool.false_eq_true] at e'
    have e1 : n = x := congrArg (·.1) e'
    have e2 : k' = k := congrArg (·.2) e'
    subst e1 e2
    rcases hk with z | z
    ·exact absurd z nc
    ·subst z; exact hy
  rcases h with h | h
  ·exact a2J (hm _ h (.inl rfl))
  ·exact a2J (hm _ h (.inr rfl))
 ·obtain ⟨h1, h2, h3⟩ := at' p hp
  exact ⟨h1, .inl h2, a94 h3⟩
end L2
namespace L2
open PySem PySem.Spec PyProof.Rows PySem.Builtin PySem.Builtin.Str
end L2
namespace L2
open PySem PySem.Spec PyProof.Rows
def NoF (X : Cx) (d : Addr) : Prop := (∀ xs, X.H₀ d ≠ some (.tup xs)) /\ (∀ o u, X.H₀ d ≠ some (.frz o u)) /\ ∀ ps, X.H₀ d ≠ some (.tbl ps)
section
variable {X : Cx} {pins : List (Addr × Obj)} {σ : St} {H : Hp} {s : Shared} {d : Addr}
end
section
variable {X : Cx} {tg : Expr}
end
end L2
namespace L2
open PySem PySem.Spec PyProof.Rows
section
variable {X : Cx}
end
section
variable {X : Cx} {elts : List Expr} {x1 : Nat} {tpos apos pos : Pos}
end
section
variable {X : Cx} {e st : Expr} {te : TE} {ts : TO} {p2 pos : Pos}
theorem b42 {st : Stmt} : PS X st (fun _ _ _ => False) := fun _ _ _ _ _ _ h => h.elim
end
end L2
namespace L2
open PySem PySem.Spec PyProof.Rows
structure a5Y (mg : Str -> Option Value) (base : Heap) (c P : Addr) : Prop where
 hd : PySem.W.CodeHd base c P
 bt : base.BuiltinsAt mg P
section
variable {X : Cx}
theorem b1K : ∀ {xs : List Value} {l c : Nat} {a : Addr}, TriplesOk xs -> TriplesOk (xs ++ [rawInt l, rawInt c, .ref a])
 | [], _, _, _, _ => trivial
 | .int _ _ :: .int _ _ :: _ :: rest, _, _, _, t => b1K (xs := rest) t
theorem a6s {ps : Array Value} {l c : Nat} {a : Addr} (t : TriplesOk ps.toList) : TriplesOk (ps ++ #[rawInt l, rawInt c, .ref a]).toList := by
 rw [Array.toList_append]
 exact b1K t
end
structure d0k (q : Program) (K : PySem.W.Frag) (z : Addr × Addr) : Prop where
 ex : ∃ x : Str, ((recsOf q).find? (fun e => e.name == x)).isSome = true /\ PySem.W.tabIn K x = some z
theorem d0a {K : PySem.W.Frag} {h : Heap} {a : Addr} {ps : Array Value} (hK : PySem.W.noTabs K = true) (X : K.In h) (e : h.get? a = some (PySem.W.tabObj ps)) : K.lookup a = none := by
 cases q : K.lookup a with
 | none => rfl
 | some o =>
  have e2 := X a o q
  rw [e] at e2
  cases e2
  have h2 := List.all_eq_true.mp hK (a, _) (PySem.W.mem_of_lookupK q)
  exact absurd (show false = true from h2) Bool.false_ne_true
end L2
namespace L2
open PySem PySem.Spec PyProof.Rows
structure ClsM (K : PySem.W.Frag) (C : Addr) (m : Str) : Prop where
 ga : PySem.W.specialIn K (.ref C) "__getattribute__" = some (some (.builtin "type.__getattribute__"))
 ex : ∃ (mc : Value) (f : Addr), PySem.W.readsIn K C mc = true /\ PySem.W.findCls K (.ref C) mc m = some (.val (.ref f)) /\ PySem.W.findIn K (.ref C) m = some (some (.ref f))
section
variable {X : Cx} {CX : CXT} {k : Nat} {C : Addr} {ps : List Str} {sp : Sp} {E : XK} {x m : Str} {p pos apos : Pos} {e o : Expr} {es : List Expr} {t : TA} {ta : TE}
theorem b2w {pl : Sem Bool} (he : PE X o (tC (.ref C))) (c : ClsM X.K C m) (G : a1B X.prog X.w X.K X.mg X.base CX k C m ps sp) (hr : Room k X.A) (hx : a7M CX X E) (ha : PA X (e :: es) t)
 (hst : starEach (e :: es) X.env = (false, eval e X.env) :: starEach es X.env := by rfl) (hpl : (backTo pos (starEach es X.env)).any (·.1) = false := by rfl)
 (ht : eval (.Call (.Attribute o m apos) (e :: es) [] pos) X.env = (do
  let ov <- eval o X.env
  standAt apos.atName
  let (f, first) <- holding [ov] (getMethod ov m pl)
  callWith pos f first (backTo pos (starEach (e :: es) X.env)) (backToKw pos (keywordEach [] X.env))) := by rfl) :
 PE X (.Call (.Attribute o m apos) (e :: es) [] pos) (b6S sp [] E t) := by
 obtain ⟨f, fd, F, hm, hb⟩ := G.ex
 intro pins s σ H Q I h
 refine PySem.W.methodCall_KW (pl := pl) (thn (he pins s σ H (fun v H1 => v = .ref C /\ H1 = H) I ⟨rfl, rfl⟩) fun u s1 ⟨x, H1, I1, rx, q⟩ => ?_) ht
 obtain ⟨rfl, rfl⟩ := q
 obtain rfl : u = Value.ref C := rx
 obtain ⟨mc, f', h1, h2, h3⟩ := c.ex
 have e1 := hm.at_
 rw [h3] at e1
 cases e1
 refine PySem.W.method_cls I1.kIn c.ga (PySem.W.cls_value I1.kIn h1 h2 rfl ?_)
 refine PySem.W.callWith_K (first := []) (h₀ := X.base) I.ok.mod.kin hm.kp (thn (ha pos pins _ σ _ _ (I1.tok _) h) fun us s2 ⟨vs, H2, I2, r, q2⟩ => ⟨I2.kIn, ?_⟩) hst hpl
 exact c16 (us := us) (vs := vs) F hr hb .nil hx I2 r q2
end
end L2
namespace L2
open PySem PySem.Spec PyProof.Rows
structure DefT (K : PySem.W.Frag) (mg : Str -> Option Value) (x : Str) (st : Stmt) (z : Addr × Addr) : Prop where
 ex : ∃ f fd, Fun K x x st f fd /\ mg x = some (.ref f) /\ fd.code = .ref z.1
 tab : PySem.W.tabIn K x = some z
section
variable {P : Program} {w : World} {K : PySem.W.Frag} {mg : Str -> Option Value} {base : Heap}
theorem c9c {x : Str} {f c p : Addr} {oc wo : Value} {od wd : Option Addr} {fd : FuncData} {osl ws : Array (Option Value)} {vs : Array Value} (a : PySem.W.nsIn K mainGlobals x = some (some (.ref f)))
 (l : K.lookup f = some ⟨oc, od, .func fd, osl⟩) (hc : fd.code = .ref c) (w : K.lookup c = some ⟨wo, wd, .fields vs, ws⟩) (h : vs[11]? = some (.ref p)) : PySem.W.tabIn K x = some (c, p) := by
 unfold PySem.W.tabIn
 rw [a]
 dsimp only
 rw [l]
 dsimp only
 rw [hc]
 dsimp only
 rw [w]
 dsimp only
 rw [h]
theorem b00 {h : Heap} {x : Str} {st : Stmt} {f c p : Addr} {oc wo : Value} {od an wd : Option Addr} {osl ws : Array (Option Value)} {kV doc pm ct : Value} {vs : Array Value} (X : K.In h) (G : h.Ns mainGlobals mg) (a : PySem.W.nsIn K mainGlobals x = some (some (.ref f)))
 (l : K.lookup f = some ⟨oc, od, .func (PySem.W.fnOf x x (a0n st) (a0j st) (a0b st) .none kV doc pm an (.ref c) ct), osl⟩) (hc : PySem.W.codeIn K (.ref c) x = true) (k : PySem.W.keepIn K (.ref f) = true)
 (w : K.lookup c = some ⟨wo, wd, .fields vs, ws⟩) (t : vs[11]? = some (.ref p)) : DefT K mg x st (c, p) :=
 ⟨⟨f, _, c4g l hc k, PySem.W.mg_of X G a, rfl⟩, c9c a l rfl w t⟩
end
end L2
namespace L2
open PySem PySem.Spec PyProof.Rows
end L2
namespace L2
open PySem PySem.Spec PyProof.Rows
section
variable {X : Cx}
theorem op_inD (hu : X.A.units + 64 < cLine) : OpR X (compareOp .In) (fun x y H Q => ∃ d ds, Dt X.K H x d /\ Dt X.K H y (.list ds) /\ d.canLay0 = true /\ (PyData.list ds).canLay0 = true /\ d.depth <= 62 /\ Q (.bl (ds.any fun z => PyData.eqv z d)) H) := by
 intro pins s σ H x y v u Q I rx ry h
 obtain ⟨d, ds, hx, hy, lx, ly, hd, q⟩ := h
 obtain ⟨as, ra⟩ := Dt.reads I hx rx lx
 obtain ⟨bs, rb⟩ := Dt.reads I hy ry ly
 exact SeqAt.in_list_reads rb ra ly lx (by have := Nat.min_le_right (PyData.depthAll ds) d.depth; omega) ⟨.bl _, H, I, rfl, q⟩
theorem c3G (hu : X.A.units + 64 < cLine) : OpR X (compareOp .NotIn) (fun x y H Q => ∃ d ds, Dt X.K H x d /\ Dt X.K H y (.list ds) /\ d.canLay0 = true /\ (PyData.list ds).canLay0 = true /\ d.depth <= 62 /\ Q (.bl (!ds.any fun z => PyData.eqv z d)) H) := by
 intro pins s σ H x y v u Q I rx ry h
 obtain ⟨d, ds, hx, hy, lx, ly, hd, q⟩ := h
 obtain ⟨as, ra⟩ := Dt.reads I hx rx lx
 obtain ⟨bs, rb⟩ := Dt.reads I hy ry ly
 exact SeqAt.notIn_list_reads rb ra ly lx (by have := Nat.min_le_right (PyData.depthAll ds) d.depth; omega) ⟨.bl _, H, I, rfl, q⟩
end
abbrev spD (p : Str × Str) : PyData := .tuple [.str p.1, .str p.2]
theorem c7m (p q : Str × Str) : PyData.eqv (spD p) (spD q) = decide (p = q) := by
 obtain ⟨a, b⟩ := p
 obtain ⟨c, d⟩ := q
 show (a == c && (b == d && true)) = decide ((a, b) = (c, d))
 rw [Bool.and_true]
 by_cases h1 : a = c
 ·by_cases h2 : b = d
  ·subst h1; subst h2
   simp
  ·rw [decide_eq_false (fun e => h2 (Prod.mk.inj e).2), beq_eq_false_iff_ne.mpr h2, Bool.and_false]
 ·rw [decide_eq_false (fun e => h1 (Prod.mk.inj e).1), beq_eq_false_iff_ne.mpr h1, Bool.false_and]
theorem c41 (p : Str × Str) : ∀ ps : List (Str × Str), ((ps.map spD).any fun z => PyData.eqv z (spD p)) = decide (p ∈ ps)
 | [] => rfl
 | q :: ps => by
  rw [List.map_cons, List.any_cons, c41 p ps, c7m]
  by_cases h : p = q
  ·subst h; simp
  ·rw [decide_eq_false (fun e => h e.symm), Bool.false_or]
   simp [h]
def a2T (ps : List (Str × Str)) : List (Str × Str) := ps.foldl (fun acc p => if p ∈ acc then acc else acc ++ [p]) []
theorem b9G (ps : List (Str × Str)) (p : Str × Str) : a2T (ps ++ [p]) = if p ∈ a2T ps then a2T ps else a2T ps ++ [p] := by
 unfold a2T
 rw [List.foldl_append]
 rfl
theorem c47 : ∀ ps : List (Str × Str), (a2T ps).length <= ps.length := by
 suffices h : ∀ (ps acc : List (Str × Str)), (ps.foldl (fun acc p => if p ∈ acc then acc else acc ++ [p]) acc).length <= acc.length + ps.length by
  intro ps
  have := h ps []
  simpa [a2T] using this
 intro ps
 induction ps with
 | nil => intro acc; simp
 | cons p ps ih =>
  intro acc
  rw [List.foldl_cons]
  refine Nat.le_trans (ih _) ?_
  split
  ·simp
  ·simp; omega
theorem b4n : ∀ {ps : List (Str × Str)} {p : Str × Str}, p ∈ a2T ps -> p ∈ ps := by
 suffices h : ∀ (ps acc : List (Str × Str)) (p : Str × Str), p ∈ ps.foldl (fun acc p => if p ∈ acc then acc else acc ++ [p]) acc -> p ∈ acc ∨ p ∈ ps by
  intro ps p hp
  rcases h ps [] p hp with h | h
  ·cases h
  ·exact h
 intro ps
 induction ps with
 | nil => intro acc p h; exact .inl h
 | cons q ps ih =>
  intro acc p h
  rw [List.foldl_cons] at h
  rcases ih _ p h with h | h
  ·split at h
   ·exact .inl h
   ·rcases List.mem_append.mp h with h | h
    ·exact .inl h
    ·exact .inr (by rw [List.mem_singleton.mp h]; exact List.mem_cons_self)
  ·exact .inr (List.mem_cons_of_mem _ h)
end L2
namespace L2
open PySem PySem.Spec PyProof.Rows
def Fz (o : Obj) : HO := .frz o (.ext fun _ => True)
theorem c5F {P : Program} {w : World} {H : Hp} {h : Heap} {a : Addr} {o : Obj} (e : h.get? a = some o) : a2X P w H h a (Fz o) := ⟨e, trivial, ⟨o, e⟩, fun _ _ _ _ => trivial⟩
theorem a4l {P : Program} {w : World} {H : Hp} {h : Heap} {a : Addr} {o : Obj} (x : HOk P w H h) (e : H a = some (Fz o)) : h.get? a = some o := (x a _ e).1
def c5A (q : Str) (o : Obj) : Prop := ∃ vs t, o.data = .fields vs /\ vs[1]? = some (.str q t)
def TabC (P : Addr) (S : List Addr) : HO := .ext fun h => ∃ ps : Array Value, h.get? P = some (PySem.W.tabObj ps) /\ TriplesOk ps.toList /\ ∀ pos cv, codeAmong pos ps.toList = some cv -> ∃ c ∈ S, cv = .ref c
def a3A (q : Str) (H : Hp) (P : Addr) : Prop := ∃ S, H P = some (TabC P S) /\ ∀ c ∈ S, ∃ o, H c = some (Fz o) /\ c5A q o
def b5e (q : Str) (params : Arguments) (body : Expr) (scope : Scope) (clos : List (Str × Addr)) (H : Hp) (fa : Addr) : Prop :=
 ∃ pm c ctv o, H fa = some (Fz (PySem.W.kla_obj "<lambda>" q params body scope clos pm c ctv)) /\ H c = some (Fz o) /\ c5A q o
theorem c0q {P : Program} {w : World} {H : Hp} {h : Heap} {a : Addr} {ps : Array Value} {S : List Addr} (e : h.get? a = some (PySem.W.tabObj ps)) (t : TriplesOk ps.toList) (c : ∀ pos cv, codeAmong pos ps.toList = some cv -> ∃ c ∈ S, cv = .ref c) : a2X P w H h a (TabC a S) :=
 ⟨⟨ps, e, t, c⟩, ⟨_, e⟩, fun h1 h2 ⟨qs, e1, t1⟩ k => ⟨qs, k _ e1, t1⟩⟩
theorem b8A {pos : Pos} {l c : Nat} {a : Addr} {cv : Value} : ∀ {xs : List Value}, TriplesOk xs -> codeAmong pos (xs ++ [rawInt l, rawInt c, .ref a]) = some cv -> codeAmong pos xs = some cv ∨ cv = .ref a
 | [], _, h => by
  right
  simp only [List.nil_append, rawInt, codeAmong] at h
  split at h
  ·exact (Option.some.inj h).symm
  ·cases h
 | .int x _ :: .int y _ :: z :: rest, t, h => by
  simp only [List.cons_append, codeAmong] at h ⊢
  split at h
  ·rename_i e
   rw [if_pos e]
   exact .inl h
  ·rename_i e
   rw [if_neg e]
   exact b8A (xs := rest) t h
theorem c1J {P : Program} {w : World} {H : Hp} {h : Heap} {c : Addr} {o : Obj} (x : HOk P w H h) (hn : H c = none) (e : h.get? c = some o) : HOk P w (upd H c (Fz o)) h := fun b u q => by
 by_cases hb : b = c
 ·subst hb; rw [a0d] at q; cases q; exact c5F e
 ·rw [a0m hb] at q
  exact (x b u q).stay (fun _ _ _ z => z) (fun d z => by rw [a0m (a0k z hn)]; exact z) fun d xs z => by rw [a0m (a0k z hn)]; exact z
def a7z (P : Addr) (H H' : Hp) : Prop := ∀ b o, b ≠ P -> H b = some o -> H' b = some o
def c97 (P : Addr) (q : Str) (params : Arguments) (body : Expr) (scope : Scope) (clos : List (Str × Addr)) : TE := fun _ H Q => a3A q H P /\ ∀ a H', H a = none -> a7z P H H' -> a3A q H' P -> b5e q params body scope clos H' a -> Q (.ref a) H'
section
variable {X : Cx}
theorem b9m {params : Arguments} {body : Expr} {scope : Scope} {pos : Pos} {c P : Addr} {clos : List (Str × Addr)} (M : a5Y X.mg X.base c P) (hc : X.env.code = .ref c) (hcl : closureFor scope X.env = pure clos) (hdef : defaultsOf params X.env = ([], [])) :
 PE X (.Lambda params body scope pos) (c97 P (X.env.qual ++ "<lambda>") params body scope clos) := by
 intro pins s σ H Q I h
 obtain ⟨⟨S, hP, hS⟩, q⟩ := h
 obtain ⟨⟨ps, e, t, tc⟩, _, _⟩ := I.hok P _ hP
 have hg : s.heap.Ns mainGlobals X.mg := I.mod.glob.keeps I.bk
 have C := M.hd.keeps I.bk
 have hb : s.heap.BuiltinsAt X.mg P := let ⟨bm, o, b1, b2, b3, b4, b5, r⟩ := M.bt; ⟨bm, o, b1, b2, b3, b4, I.bk _ _ b5, r⟩
 have hgP : mainGlobals ≠ P := fun z => by
  obtain ⟨o, es, ep, e1, hd, _⟩ := hg
  rw [z, e] at e1; cases e1; cases hd
 refine PySem.W.kla_eval hdef ?_
 cases hf : codeAmong pos ps.toList with
 | none =>
  refine PySem.W.kla_makeFunction (mg := X.mg) hcl I.ok.glob hg hc C e t hf hgP hb fun c' ctv h' tk hx hge hlt hrec htb => ?_
  obtain ⟨c1, oc, vs, tq, ec, goc, doc, dq⟩ := hrec
  obtain rfl : c' = c1 := by cases ec; rfl
  have nP : ∀ b, H b = none -> b ≠ P := fun b n z => by rw [z, hP] at n; cases n
  have hPlt : P < s.heap.objs.size := Heap.lt_size e
  have goc' : (h'.push (PySem.W.kla_obj "<lambda>" (X.env.qual ++ "<lambda>") params body scope clos ((X.mg "__name__").getD .none) c' ctv)).get? c' = some oc := Heap.get?_push_of_some _ goc
  have cP : c' ≠ P := Nat.ne_of_gt (Nat.lt_of_lt_of_le hPlt hge)
  have aP : h'.objs.size ≠ P := Nat.ne_of_gt (Nat.lt_of_lt_of_le hPlt (Nat.le_of_lt (Nat.lt_of_le_of_lt hge hlt)))
  have ac : h'.objs.size ≠ c' := Nat.ne_of_gt hlt
  have fr : ∀ b, s.heap.objs.size <= b -> H b = none := fun b z => I.hok.fresh z
  have hk : ∀ b u, b ≠ P -> s.heap.get? b = some u -> (h'.push (PySem.W.kla_obj "<lambda>" (X.env.qual ++ "<lambda>") params body scope clos ((X.mg "__name__").getD .none) c' ctv)).get? b = some u := fun b u nb eb => Heap.get?_push_of_some _ (hx b u nb eb)
  have hok1 : HOk X.prog X.w (upd H P (TabC P (c' :: S))) (h'.push (PySem.W.kla_obj "<lambda>" (X.env.qual ++ "<lambda>") params body scope clos ((X.mg "__name__").getD .none) c' ctv)) :=
   I.hok.write (x := P) (e := P) (by rw [hP]; trivial) (.inl rfl) hk ⟨_, Heap.get?_push_of_some _ htb⟩ (c0q (Heap.get?_push_of_some _ htb) (a6s t) fun pos cv z => by
    rw [Array.toList_append] at z
    rcases b8A t z with z | z
    ·obtain ⟨d, hd, r⟩ := tc pos cv z
     exact ⟨d, List.mem_cons_of_mem _ hd, r⟩
    ·exact ⟨c', List.mem_cons_self, z⟩)
  have n1 : upd H P (TabC P (c' :: S)) c' = none := by rw [a0m cP]; exact fr _ hge
  have hok2 := c1J hok1 n1 goc'
  have n2 : upd (upd H P (TabC P (c' :: S))) c' (Fz oc) h'.objs.size = none := by rw [a0m ac, a0m aP]; exact fr _ (Nat.le_of_lt (Nat.lt_of_le_of_lt hge hlt))
  have hok3 := c1J hok2 n2 (Heap.get?_push_size _ rfl)
  have sm : ∀ b, b ≠ P -> H b ≠ none -> upd (upd (upd H P (TabC P (c' :: S))) c' (Fz oc)) h'.objs.size (Fz (PySem.W.kla_obj "<lambda>" (X.env.qual ++ "<lambda>") params body scope clos ((X.mg "__name__").getD .none) c' ctv)) b = H b := fun b z1 z2 => by
   have y1 : b ≠ h'.objs.size := fun z => z2 (by rw [z]; exact fr _ (Nat.le_of_lt (Nat.lt_of_le_of_lt hge hlt)))
   have y2 : b ≠ c' := fun z => z2 (by rw [z]; exact fr _ hge)
   rw [a0m y1, a0m y2, a0m z1]
  have sv : ∀ b o, b ≠ P -> H b = some o -> upd (upd (upd H P (TabC P (c' :: S))) c' (Fz oc)) h'.objs.size (Fz (PySem.W.kla_obj "<lambda>" (X.env.qual ++ "<lambda>") params body scope clos ((X.mg "__name__").getD .none) c' ctv)) b = some o := fun b o z1 z2 => by
   rw [sm b z1 (by rw [z2]; intro z; cases z)]; exact z2
  have J := I.step (h' := h'.push (PySem.W.kla_obj "<lambda>" (X.env.qual ++ "<lambda>") params body scope clos ((X.mg "__name__").getD .none) c' ctv)) (g' := s.gens) (t' := tk) (d' := s.drawn) (ch := []) (fun _ z => nomatch z)
   (fun b o _ _ _ eb n => hk b o (nP b n) eb) (fun b o _ _ _ eb n => ⟨o.slots, hk b o (nP b n) eb⟩)
   (fun b o _ eb n => by rw [a0m (Nat.ne_of_lt (Nat.lt_of_lt_of_le (Heap.lt_size eb) (Nat.le_of_lt (Nat.lt_of_le_of_lt hge hlt)))), a0m (Nat.ne_of_lt (Nat.lt_of_lt_of_le (Heap.lt_size eb) hge)), a0m (nP b n)]; exact n)
   (fun b o _ eb => by
    by_cases z : b = P
    ·subst z; exact ⟨_, Heap.get?_push_of_some _ htb⟩
    ·exact ⟨o, hk b o z eb⟩)
   (fun b xs z => sv b _ (fun y => by rw [y, hP] at z; cases z) z) (fun b o u z => sv b _ (fun y => by rw [y, hP] at z; cases z) z) (fun b ps z => ⟨#[], by rw [sv b _ (fun y => by rw [y, hP] at z; cases z) z]; simp⟩)
   (fun m ⟨o, es, ep, ho, r⟩ => ⟨o, es, ep, hk _ o (nP _ I.free) ho, r⟩) hok3 I.bare
  refine ⟨.ref h'.objs.size, _, J, rfl, q _ _ (fr _ (Nat.le_of_lt (Nat.lt_of_le_of_lt hge hlt))) (fun b o z1 z2 => sv b o z1 z2) ⟨c' :: S, ?_, fun d hd => ?_⟩ ⟨_, c', ctv, oc, a0d, ?_, vs, tq, doc, dq⟩⟩
  ·rw [a0m (Ne.symm aP), a0m (Ne.symm cP), a0d]
  ·rcases List.mem_cons.mp hd with rfl | hd
   ·exact ⟨oc, by rw [a0m (Ne.symm ac), a0d], vs, tq, doc, dq⟩
   ·obtain ⟨o, e1, e2⟩ := hS d hd
    exact ⟨o, sv d _ (fun y => by rw [y, hP] at e1; cases e1) e1, e2⟩
  ·rw [a0m (Ne.symm ac), a0d]
 | some cv =>
  obtain ⟨d, hd, rfl⟩ := tc _ _ hf
  obtain ⟨od, e1, e2⟩ := hS d hd
  refine PySem.W.kla_makeFunctionHit (mg := X.mg) hcl I.ok.glob hg hc C e t hf hb fun ctv h' tk hk hsz => ?_
  have fr : H h'.objs.size = none := I.hok.fresh hsz
  have sv : ∀ b o, H b = some o -> upd H h'.objs.size (Fz (PySem.W.kla_obj "<lambda>" (X.env.qual ++ "<lambda>") params body scope clos ((X.mg "__name__").getD .none) d ctv)) b = some o := fun b o z => by
   rw [a0m (a0k z fr)]; exact z
  refine ⟨.ref h'.objs.size, _, I.laid (a := h'.objs.size) (o := Fz (PySem.W.kla_obj "<lambda>" (X.env.qual ++ "<lambda>") params body scope clos ((X.mg "__name__").getD .none) d ctv)) (fun b o eb => Heap.get?_push_of_some _ (hk b o eb)) hsz (c5F (Heap.get?_push_size _ rfl)), rfl,
   q _ _ fr (fun b o _ z => sv b o z) ⟨S, sv _ _ hP, fun d' hd' => ?_⟩ ⟨_, d, ctv, od, a0d, sv _ _ e1, e2⟩⟩
  obtain ⟨o, e3, e4⟩ := hS d' hd'
  exact ⟨o, sv _ _ e3, e4⟩
end
end L2
namespace L2
open PySem PySem.Spec PyProof.Rows
abbrev Lend := Addr -> Option Obj
def lend (f : Lend) (H : Hp) : Hp := fun b => match f b with
 | some o => some (Fz o)
 | none => H b
def unl (f : Lend) (H : Hp) : Hp := fun b => match f b with
 | some _ => none
 | none => H b
theorem a3f {f : Lend} {H : Hp} {b : Addr} {o : Obj} (e : f b = some o) : lend f H b = some (Fz o) := by unfold lend; rw [e]
theorem a0N {f : Lend} {H : Hp} {b : Addr} (e : f b = none) : lend f H b = H b := by unfold lend; rw [e]
theorem a7F {f : Lend} {H : Hp} {b : Addr} {o : Obj} (e : f b = some o) : unl f H b = none := by unfold unl; rw [e]
theorem a1C {f : Lend} {H : Hp} {b : Addr} (e : f b = none) : unl f H b = H b := by unfold unl; rw [e]
section
variable {P : Program} {w : World} {H H' : Hp} {h h' : Heap} {f : Lend} {fs : List Addr}
theorem b4F (x : HOk P w H h) (hf : ∀ b o, f b = some o -> H b = none /\ h.get? b = some o) : HOk P w (lend f H) h := fun b u q => by
 have keep : ∀ c v, H c = some v -> lend f H c = some v := fun c v z => by
  cases e : f c with
  | none => rw [a0N e]; exact z
  | some o => rw [(hf c o e).1] at z; cases z
 cases e : f b with
 | none =>
  rw [a0N e] at q
  exact (x b u q).stay (fun _ _ _ z => z) (fun c z => keep c _ z) fun c xs z => keep c _ z
 | some o =>
  rw [a3f e] at q
  cases q
  exact c5F (hf b o e).2
theorem c02 (x : HOk P w H h) (hf : ∀ b o, f b = some o -> H b = some (Fz o)) : HOk P w (unl f H) h := fun b u q => by
 cases e : f b with
 | some o => rw [a7F e] at q; cases q
 | none =>
  rw [a1C e] at q
  refine (x b u q).stay (fun _ _ _ z => z) (fun c z => ?_) fun c xs z => ?_
  ·cases e2 : f c with
   | none => rw [a1C e2]; exact z
   | some o => rw [hf c o e2] at z; cases z
  ·cases e2 : f c with
   | none => rw [a1C e2]; exact z
   | some o => rw [hf c o e2] at z; cases z
theorem c7Y (hf : ∀ b o, f b = some o -> H b = none /\ h.get? b = some o) (u : Un fs [] (lend f H) H' h h') (hok : HOk P w H' h') : Un fs [] H (unl f H') h h' /\ HOk P w (unl f H') h' := by
 have at' : ∀ b o, f b = some o -> H' b = some (Fz o) := fun b o e => u.frzs b o _ (a3f e)
 have nf : ∀ b v, H b = some v -> f b = none := fun b v z => by
  cases e : f b with
  | none => rfl
  | some o => rw [(hf b o e).1] at z; cases z
 refine ⟨⟨fun b o e n hb hx => ?_, fun b o e n hb hx => ?_, fun b o e n hx => ?_, fun b o e hx => u.there b o e hx, fun b xs z => ?_, fun b o v z => ?_, fun b ps z => ?_⟩, c02 hok at'⟩
 ·cases e2 : f b with
  | none => exact u.keep b o e (by rw [a0N e2]; exact n) hb hx
  | some o2 =>
   have := (hf b o2 e2).2
   rw [e] at this
   cases this
   exact a4l hok (at' b o e2)
 ·cases e2 : f b with
  | none => exact u.slot b o e (by rw [a0N e2]; exact n) hb hx
  | some o2 =>
   have := (hf b o2 e2).2
   rw [e] at this
   cases this
   exact ⟨o.slots, a4l hok (at' b o e2)⟩
 ·cases e2 : f b with
  | none => rw [a1C e2]; exact u.free b o e (by rw [a0N e2]; exact n) hx
  | some o2 => exact a7F e2
 ·rw [a1C (nf b _ z)]; exact u.tups b xs (by rw [a0N (nf b _ z)]; exact z)
 ·rw [a1C (nf b _ z)]; exact u.frzs b o v (by rw [a0N (nf b _ z)]; exact z)
 ·rw [a1C (nf b _ z)]; exact u.tbls b ps (by rw [a0N (nf b _ z)]; exact z)
theorem c3s (hf : ∀ b o, f b = some o -> H b = some (Fz o)) (hok0 : HOk P w H h) (hfs : ∀ b ∈ fs, H b = none) (u : Un fs [] (unl f H) H' h h') (hok : HOk P w H' h') : Un fs [] H (lend f H') h h' /\ HOk P w (lend f H') h' := by
 have fr : ∀ b o, f b = some o -> H' b = none /\ h'.get? b = some o := fun b o e => by
  have g := a4l hok0 (hf b o e)
  exact ⟨u.free b o g (a7F e) (by simp), u.keep b o g (a7F e) (fun z => by have := hfs b z; rw [hf b o e] at this; cases this) (by simp)⟩
 have nf : ∀ b, H b = none -> f b = none := fun b z => by
  cases e : f b with
  | none => rfl
  | some o => rw [hf b o e] at z; cases z
 have nz : ∀ b v, H b = some v -> (∀ o, v ≠ Fz o) -> f b = none := fun b v z ne => by
  cases e : f b with
  | none => rfl
  | some o => rw [hf b o e] at z; exact absurd (Option.some.inj z).symm (ne o)
 refine ⟨⟨fun b o e n hb hx => u.keep b o e (by rw [a1C (nf b n)]; exact n) hb hx, fun b o e n hb hx => u.slot b o e (by rw [a1C (nf b n)]; exact n) hb hx, fun b o e n hx => ?_, fun b o e hx => u.there b o e hx, fun b xs z => ?_, fun b o v z => ?_, fun b ps z => ?_⟩, b4F hok fr⟩
 ·rw [a0N (nf b n)]; exact u.free b o e (by rw [a1C (nf b n)]; exact n) hx
 ·have e := nz b _ z (fun o q => by cases q)
  rw [a0N e]; exact u.tups b xs (by rw [a1C e]; exact z)
 ·cases e : f b with
  | none => rw [a0N e]; exact u.frzs b o v (by rw [a1C e]; exact z)
  | some o2 => rw [a3f e, <- hf b o2 e]; exact z
 ·have e := nz b _ z (fun o q => by cases q)
  rw [a0N e]; exact u.tbls b ps (by rw [a1C e]; exact z)
end
structure Lent (X : Cx) (σ : St) (H : Hp) (f : Lend) : Prop where
 free : ∀ b o, f b = some o -> H b = none
 cell : ∀ x c, X.env.cells.lookup x = some c -> ∃ o v, f c = some o /\ o.data = .cell v
 val : ∀ (i : Nat) x v, X.N[i]? = some x -> σ[i]? = some (some v) -> X.env.scope.names.lookup x = some .cell -> ∃ c o u, X.env.cells.lookup x = some c /\ f c = some o /\ o.data = .cell (some u) /\ RelV v u
 inj : ∀ x y c, X.env.cells.lookup x = some c -> X.env.cells.lookup y = some c -> x = y
theorem c72 {X : Cx} {pins : List (Addr × Obj)} {σ : St} {H : Hp} {s : Shared} (I : Inv X pins σ H s) (hfn : ∀ x, X.fn x = true) : ∃ f : Lend, Lent X σ H f /\ (∀ b o, f b = some o -> H b = none /\ s.heap.get? b = some o /\ X.base.get? b = none /\ b ∉ frs X.stack) := by
 classical
 let f : Lend := fun b => if (∃ x, X.env.cells.lookup x = some b) then s.heap.get? b else none
 have fe : ∀ {b o}, f b = some o -> (∃ x, X.env.cells.lookup x = some b) /\ s.heap.get? b = some o := fun {b o} e => by
  by_cases z : ∃ x, X.env.cells.lookup x = some b
  ·exact ⟨z, by rw [show f b = s.heap.get? b from if_pos z] at e; exact e⟩
  ·rw [show f b = none from if_neg z] at e; cases e
 have ff : ∀ {x c}, X.env.cells.lookup x = some c -> f c = s.heap.get? c := fun {x c} e => if_pos ⟨x, e⟩
 refine ⟨f, ⟨fun b o e => ?_, fun x c e => ?_, fun i x v e1 e2 e3 => ?_, I.ok.inj⟩, fun b o e => ?_⟩
 ·obtain ⟨⟨x, z⟩, _⟩ := fe e
  exact I.freeC x b z
 ·obtain ⟨v, o, ho, hd⟩ := I.cell x c e
  exact ⟨o, v, by rw [ff e]; exact ho, hd⟩
 ·obtain ⟨m, _, hl⟩ := I.loc
  obtain ⟨u, r, l⟩ := hl i x v e1 e2 (.inr (.inl e3))
  rcases l with ⟨k, _⟩ | ⟨_, c, ec, o, ho, hd⟩
  ·have k' : X.env.scope.names.lookup x = some .local := k
   rw [e3] at k'; cases k'
  ·exact ⟨c, o, u, ec, by rw [ff ec]; exact ho, hd, r⟩
 ·obtain ⟨⟨x, z⟩, g⟩ := fe e
  refine ⟨I.freeC x b z, g, ?_, fun hb => ?_⟩
  ·exact Heap.get?_none_of_le (Nat.le_trans I.ok.bsz (I.ok.cab x b (hfn x) z))
  ·rcases List.mem_cons.mp (I.stkSub b hb) with e2 | hb
   ·exact I.cne x b z e2
   ·obtain ⟨_, ob, ho, _⟩ := I.ok.funs.mem hb
    exact absurd (Nat.lt_of_lt_of_le (Heap.lt_size ho) (I.ok.cab x b (hfn x) z)) (Nat.lt_irrefl _)
theorem c5r {X : Cx} {k : Nat} {fa : Addr} {fd : FuncData} {ps : List Str} {sp : Sp} {pins : List (Addr × Obj)} {σ : St} {H : Hp} {s : Shared} {Q : VK} {us : List Value} {vs : List V} (hfn : ∀ x, X.fn x = true) (F : FnOk X.prog X.w X.K X.mg X.base CX0 k fa fd ps sp) (hr : Room k X.A) (hb : b2z X.K fd ps [])
 (I : Inv X pins σ H s) (r : Vals vs us) (h : ∀ f, Lent X σ H f -> sp vs (lend f H) (fun v H' => Q v (unl f H')) E0) : wpAny (model X.prog X.w) X.A (call (.ref fa) us) (EP X pins σ Q) X.xe s := by
 obtain ⟨f, L, hf⟩ := c72 I hfn
 have q := h f L
 have hl : (us ++ []).length = ps.length := by rw [List.append_nil, <- r.length]; exact F.len _ _ _ _ q
 have e0 : Env0 X.prog X.w X.K X.mg X.base X.A X.stack s (lend f H) := by
  have e := I.env0
  refine ⟨e.frames, e.mod, fun b o z => ⟨(e.bs b o z).1, ?_⟩, e.bsz, e.funs, fun b z => ?_, b4F e.hok fun b o z => ⟨(hf b o z).1, (hf b o z).2.1⟩, e.bare⟩
  ·cases q2 : f b with
   | none => rw [a0N q2]; exact (e.bs b o z).2
   | some ob => rw [(hf b ob q2).2.2.1] at z; cases z
  ·cases q2 : f b with
   | none => rw [a0N q2]; exact e.frf b z
   | some ob => exact absurd z (hf b ob q2).2.2.2
 have bd := hb s us I.kIn hl
 rw [List.append_nil] at bd
 refine wpAny_call (codeAny_mono (F.run X.A X.stack s (lend f H) ⟨us, []⟩ us vs _ E0 hr e0 bd r q) fun r s' hq => ?_)
 cases r with
 | error e => exact False.elim hq
 | ok fl =>
  cases fl with
  | ret u =>
   obtain ⟨v, H', os, bare, un, hok, rv, qv⟩ := hq
   obtain ⟨u1, u2⟩ := c7Y (fun b o z => ⟨(hf b o z).1, (hf b o z).2.1⟩) un hok
   exact I.after ⟨v, _, os, bare, u1, u2, rv, qv⟩
  | next => exact False.elim hq
  | brk => exact False.elim hq
  | cont => exact False.elim hq
section
variable {X : Cx} {k : Nat} {C : Addr} {ps : List Str} {sp : Sp} {x m : Str} {p pos apos : Pos} {e o : Expr} {es : List Expr} {t : TA} {ta : TE}
end
structure a3n (P : Program) (w : World) (K : PySem.W.Frag) (mg : Str -> Option Value) (base : Heap) (k : Nat) (fa : Addr) (sp : Sp) : Prop where
 fn : ∀ vs H Q E, sp vs H Q E -> ∃ c d fd sl, H fa = some (Fz ⟨c, d, .func fd, sl⟩)
 run : ∀ (A : Around) (outer : List Env) (s : Shared) (H : Hp) (us : List Value) (vs : List V) (Q : VK) (E : XK), Room k A -> Env0 P w K mg base A outer s H -> Vals vs us -> sp vs H Q E ->
  codeAny (model P w) A (.call (.ref fa) ⟨us, []⟩) (CR CX0 outer P w H s Q E) s
theorem a3n.imp {P : Program} {w : World} {K : PySem.W.Frag} {mg : Str -> Option Value} {base : Heap} {k : Nat} {fa : Addr} {sp sp' : Sp} (F : a3n P w K mg base k fa sp) (h : ∀ vs H Q E, sp' vs H Q E -> sp vs H Q E) : a3n P w K mg base k fa sp' :=
 ⟨fun vs H Q E z => F.fn vs H Q E (h _ _ _ _ z), fun A outer s H us vs Q E hr e0 r z => F.run A outer s H us vs Q E hr e0 r (h _ _ _ _ z)⟩
def c9f (P : Program) (w : World) (K : PySem.W.Frag) (mg : Str -> Option Value) (base : Heap) (k : Nat) (i : Nat) (t : TA) : TE := fun σ H Q => ∃ fa sp, σ[i]? = some (some (.ref fa)) /\ a3n P w K mg base k fa sp /\ t σ H fun vs H1 => sp vs H1 Q E0
section
variable {X : Cx} {k : Nat} {x : Str} {p pos : Pos} {e : Expr} {es : List Expr} {t : TA}
theorem a3z (i : Nat) (hr : Room k X.A) (ha : PA X (e :: es) t) (hN : X.N[i]? = some x := by rfl) (hv : Vis X.env.scope x := by first | exact Or.inl rfl | exact Or.inr (Or.inl rfl) | exact Or.inr (Or.inr rfl)) (hd : (x == ("__debug__" : Str)) = false := by decide)
 (hcd : (x == ("__classdict__" : Str)) = false := by decide) (he : starEach (e :: es) X.env = (false, eval e X.env) :: starEach es X.env := by rfl) (hpl : (backTo pos (starEach es X.env)).any (·.1) = false := by rfl) :
 PE X (.Call (.Name x p) (e :: es) [] pos) (c9f X.prog X.w X.K X.mg X.base k i t) := by
 intro pins s σ H Q I h
 obtain ⟨fa, sp, e1, F, h⟩ := h
 refine wpAny_Call_Name_kw (thn (c62 hN hv hd hcd pins s σ H (fun v H1 => v = .ref fa /\ H1 = H) I ⟨_, e1, rfl, rfl⟩) fun u s1 ⟨v, H1, I1, rv, q⟩ => ?_)
 obtain ⟨rfl, rfl⟩ := q
 obtain rfl : u = Value.ref fa := rv
 show wpAny _ _ (callWith pos (.ref fa) [] (backTo pos (starEach (e :: es) X.env)) []) _ _ _
 rw [he]
 refine PySem.W.callWith_of (P := fun h => ∃ c d fd sl, h.get? fa = some ⟨c, d, .func fd, sl⟩) (by show ((false || (backTo pos (starEach es X.env)).any (·.1)) || false) = false; rw [hpl]; rfl)
  (fun h ⟨c, d, fd, sl, z⟩ => ⟨.frame, .inl rfl, (PySem.W.Looks.ld (part := none) z).andThen .now⟩) (PySem.Calls.evalArgs_plain ?_)
 have ha' := ha pos pins s1 σ H1 _ I1 h
 rw [he] at ha'
 refine thn ha' fun us s2 ⟨vs, H2, I2, r, q2⟩ => ?_
 obtain ⟨c, d, fd, sl, z⟩ := F.fn _ _ _ _ q2
 refine ⟨⟨c, d, fd, sl, a4l I2.hok z⟩, ?_⟩
 refine wpAny_call (codeAny_mono (F.run X.A X.stack s2 H2 us vs Q E0 hr I2.env0 r q2) fun r s' hq => ?_)
 cases r with
 | error e => exact False.elim hq
 | ok fl =>
  cases fl with
  | ret u => exact I2.after hq
  | next => exact False.elim hq
  | brk => exact False.elim hq
  | cont => exact False.elim hq
end
end L2
namespace L2
open PySem PySem.Spec PyProof.Rows
theorem b37 {α : Type} {x : Str} {u : α} : ∀ {l : List (Str × α)}, (l.map (·.1)).Nodup -> (x, u) ∈ l -> l.lookup x = some u
 | (y, v) :: r, nd, h => by
  rw [List.map_cons, List.nodup_cons] at nd
  rw [List.lookup_cons]
  rcases List.mem_cons.mp h with e | h2
  ·cases e; rw [beq_self_eq_true]
  ·have : (x == y) = false := by
    cases z : x == y with
    | false => rfl
    | true =>
     have : x = y := by simpa using z
     subst this
     exact absurd (show x ∈ r.map (·.1) from List.mem_map.mpr ⟨(x, u), h2, rfl⟩) nd.1
   rw [this]
   exact b37 nd.2 h2
theorem c3V {ps : List Str} {us : List Value} {i : Nat} {x : Str} {u : Value} (nd : ps.Nodup) (hl : us.length = ps.length) (h1 : ps[i]? = some x) (h2 : us[i]? = some u) : (ps.zip us).reverse.lookup x = some u := by
 refine b37 ?_ ?_
 ·rw [List.map_reverse]
  refine List.pairwise_reverse.mpr ?_
  rw [List.map_fst_zip (by omega)]
  exact nd.imp Ne.symm
 ·rw [List.mem_reverse]
  have : (ps.zip us)[i]? = some (x, u) := by rw [List.getElem?_zip_eq_some]; exact ⟨h1, h2⟩
  exact List.mem_of_getElem? this
def b28 (P : Program) (w : World) (K : PySem.W.Frag) (mg : Str -> Option Value) (base : Heap) (N : List Str) (q : Str) (scope : Scope) (fa : Addr) (cd : Value) (clos : List (Str × Addr)) (A : Around) (outer : List Env) (s : Shared) (H : Hp) : Cx where
 prog := P
 w := w
 K := K
 mg := mg
 base := base
 A := A.deeper (PySem.W.envX q scope s.heap.objs.size fa cd clos)
 N := N
 s₀ := s
 H₀ := H
 env := PySem.W.envX q scope s.heap.objs.size fa cd clos
 outer := outer
 stack := PySem.W.envX q scope s.heap.objs.size fa cd clos :: outer
 ex := []
 calm := true
 fn := fun _ => false
 pn := []
 xe := fun _ _ => False
def c6g (fa : Addr) (f : Lend) (q : Str) (params : Arguments) (body : Expr) (scope : Scope) (clos : List (Str × Addr)) (n : Nat) (spB : List V -> Hp -> VK -> Prop) : Sp := fun vs H Q _ =>
 vs.length = n /\ b5e q params body scope clos H fa /\ (∀ b o, f b = some o -> H b = some (Fz o)) /\ spB vs (unl f H) fun v H' => (∀ b o, f b = some o -> H' b = none) -> Q v (lend f H')
theorem c9v {X : Cx} {σ : St} {H₁ : Hp} {f : Lend} {q : Str} {params : Arguments} {body : Expr} {scope : Scope} {fa : Addr} {ps : List Str} {cp : List (Nat × Str)} {cv : List V} {k : Nat} {spB : List V -> Hp -> VK -> Prop} (L : Lent X σ H₁ f)
 (hcell : ∀ x, X.env.scope.names.lookup x = some .cell -> ∃ c, X.env.cells.lookup x = some c)
 (hcv : cp.map (fun p => σ[p.1]?) = cv.map fun v => some (some v))
 (hcp : ∀ p ∈ cp, X.N[p.1]? = some p.2 /\ X.env.scope.names.lookup p.2 = some .cell /\ scope.names.lookup p.2 = some .free)
 (free : ∀ y ∈ scope.names, y.2 = .free -> X.env.scope.names.lookup y.1 = some .cell)
 (kind : scope.kind = .function) (co : scope.isCoroutine = false) (gen : scope.isGenerator = false) (nocell : ∀ y ∈ scope.names, y.2 ≠ .cell) (par : ∀ x ∈ ps, scope.names.lookup x = some .local) (nd : (ps ++ cp.map (·.2)).Nodup)
 (hb : ∀ (pm ctv : Value) (c : Addr) (clos : List (Str × Addr)) (us : List Value), us.length = ps.length -> bindArgs (PySem.W.kla_fn "<lambda>" q params body scope clos pm (.ref c) ctv) ⟨us, []⟩ = pure (ps.zip us))
 (hbody : ∀ (cd : Value) (A : Around) (outer : List Env) (s : Shared) (H : Hp) (vs : List V) (Q : VK), Room k (A.deeper (PySem.W.envX q scope s.heap.objs.size fa cd (a06 X.env.cells scope.names []))) -> spB vs H Q ->
  ∃ t, PE (b28 X.prog X.w X.K X.mg X.base (ps ++ cp.map (·.2)) q scope fa cd (a06 X.env.cells scope.names []) A outer s H) body t /\ t ((vs ++ cv).map some) H Q) :
 a3n X.prog X.w X.K X.mg X.base (k + 1) fa (c6g fa f q params body scope (a06 X.env.cells scope.names []) ps.length spB) := by
 have sub := a7q (cells := X.env.cells) (names := scope.names) (acc := []) (fun y hy e => hcell _ (free y hy e)) (fun x c e => by cases e)
 refine ⟨fun vs H Q E ⟨_, ⟨pm, c, ctv, o, e1, _⟩, _⟩ => ⟨_, _, _, _, e1⟩, fun A outer s H us vs Q E hr e0 r ⟨hl, ⟨pm, c, ctv, o, e1, e2, ws, tq, e3, e4⟩, hf, hsp⟩ => ?_⟩
 have hus : us.length = ps.length := by rw [<- r.length]; exact hl
 have hcd : s.heap.CodeRec (.ref c) q := ⟨c, o, ws, tq, rfl, a4l e0.hok e2, e3, e4⟩
 have lim : s.heap.NoLimit := e0.mod.nolimit.keeps fun b o e => (e0.bs b o e).1
 refine PySem.W.kla_callFunE hr.depth (a4l e0.hok e1) rfl co gen rfl hcd ?_
 rw [hb pm ctv c _ us hus]
 refine wpAny_pure (wpAny_newFunctionEnv nocell (fun y hy => par y.1 (List.of_mem_zip hy).1) (fun h₁ hns hsb => ⟨lim.fresh _ hsb, ?_⟩) kind)
 show codeAny _ _ (.expr body (PySem.W.envX q scope s.heap.objs.size fa (.ref c) (a06 X.env.cells scope.names []))) _ _
 have hk : ∀ b o, s.heap.get? b = some o -> h₁.get? b = some o := fun b o e => hsb.extBut b o (Nat.ne_of_lt (Heap.lt_size e)) (Heap.get?_push_of_some _ e)
 obtain ⟨t, ht, hq⟩ := hbody (.ref c) A outer s (unl f H) vs _ (hr.deeper _) hsp
 have hok' : HOk X.prog X.w (unl f H) s.heap := c02 e0.hok hf
 have hl2 : (vs ++ cv).length = (ps ++ cp.map (·.2)).length := by
  rw [List.length_append, List.length_append, List.length_map, hl]
  have := congrArg List.length hcv
  rw [List.length_map, List.length_map] at this
  omega
 have cl : ∀ x c, (a06 X.env.cells scope.names []).lookup x = some c -> ∃ o v, f c = some o /\ o.data = .cell v /\ h₁.get? c = some o := fun x c e => by
  obtain ⟨o, v, h1, h2⟩ := L.cell x c (sub x c e)
  exact ⟨o, v, h1, h2, hk _ _ (a4l e0.hok (hf c o h1))⟩
 have unN : ∀ b, H b = none -> unl f H b = none := fun b z => by
  cases e : f b with
  | none => rw [a1C e]; exact z
  | some o => exact a7F e
 have I : Inv (b28 X.prog X.w X.K X.mg X.base (ps ++ cp.map (·.2)) q scope fa (.ref c) (a06 X.env.cells scope.names []) A outer s (unl f H)) [] ((vs ++ cv).map some) (unl f H) { s with heap := h₁, toks := s.toks + (ps.zip us).length } := by
  have noA : ∀ b : Addr, b ∉ (b28 X.prog X.w X.K X.mg X.base (ps ++ cp.map (·.2)) q scope fa (.ref c) (a06 X.env.cells scope.names []) A outer s (unl f H)).ex := fun b z => absurd (show b ∈ ([] : List Addr) from z) (by simp)
  refine ⟨⟨e0.mod, kind, rfl, rfl, Nat.le_refl _, fun y z c h1 h2 => L.inj y z c (sub _ _ h1) (sub _ _ h2), fun y hy => ?_, (fun y c z _ => by cases z), fun _ => hr.hd, Around.frames_deeper e0.frames, .inr ⟨rfl, rfl⟩, fun b z => absurd z (noA b), fun b o z => ⟨(e0.bs b o z).1, unN b (e0.bs b o z).2⟩, e0.bsz, fun b _ _ => noA b, fun b z => absurd z (noA b), e0.funs, fun b z => unN b (e0.frf b z)⟩,
   rfl, e0.bare, Un.kept hk, ⟨_, hns, fun i y v h1 h2 h3 => ?_⟩, fun y c h => ?_, hok'.fresh (Nat.le_refl _), fun y c h => ?_, fun p hp => absurd (show p ∈ ([] : List (Addr × Obj)) from hp) (by simp), hok'.kept hk, by rw [List.length_map]; exact hl2⟩
  ·have hy' : scope.names.lookup y = some .cell ∨ scope.names.lookup y = some .free := hy
   rcases hy' with hy' | hy'
   ·exact absurd rfl (nocell _ (PySem.mem_of_lookup hy'))
   ·exact a2J (PySem.mem_of_lookup hy')
  ·rw [List.getElem?_map] at h2
   have h2' : (vs ++ cv)[i]? = some v := by
    cases z : (vs ++ cv)[i]? with
    | none => rw [z] at h2; cases h2
    | some v' => rw [z] at h2; cases h2; rfl
   by_cases hi : i < ps.length
   ·have h1' : ps[i]? = some y := by
     have : (ps ++ cp.map (·.2))[i]? = some y := h1
     rw [List.getElem?_append_left hi] at this
     exact this
    rw [List.getElem?_append_left (by omega)] at h2'
    obtain ⟨u, hu, ru⟩ := r.get h2'
    exact ⟨u, ru, .inl ⟨par y (List.mem_of_getElem? h1'), c3V (List.nodup_append.mp nd).1 hus h1' hu⟩⟩
   ·have h1' : (cp.map (·.2))[i - ps.length]? = some y := by
     have : (ps ++ cp.map (·.2))[i]? = some y := h1
     rw [List.getElem?_append_right (by omega)] at this
     exact this
    rw [List.getElem?_append_right (by omega), hl] at h2'
    rw [List.getElem?_map] at h1'
    cases hp : cp[i - ps.length]? with
    | none => rw [hp] at h1'; cases h1'
    | some p =>
     rw [hp] at h1'
     cases h1'
     have h4 : σ[p.1]? = some (some v) := by
      have := congrArg (fun l => l[i - ps.length]?) hcv
      simp only [List.getElem?_map, hp, h2', Option.map_some] at this
      exact Option.some.inj this
     obtain ⟨g1, g2, g3⟩ := hcp p (List.mem_of_getElem? hp)
     obtain ⟨c', o', u, k1, k2, k3, k4⟩ := L.val p.1 p.2 v g1 h4 g2
     obtain ⟨c2, k5⟩ := a2J (cells := X.env.cells) (acc := []) (PySem.mem_of_lookup g3)
     have k6 := sub _ _ k5
     rw [k1] at k6
     cases k6
     exact ⟨u, k4, .inr ⟨.inr g3, c', k5, o', hk _ _ (a4l e0.hok (hf c' o' k2)), k3⟩⟩
  ·obtain ⟨o, v, _, z1, z2⟩ := cl y c h
   exact ⟨v, o, z2, z1⟩
  ·obtain ⟨o, v, z, _⟩ := cl y c h
   exact a7F z
 refine PySem.W.kla_codeExpr (wpAny_mono (ht [] _ _ _ _ I hq) (fun u s' ⟨v, H', J, rv, qv⟩ => ?_) fun e s' hs => False.elim hs)
 obtain ⟨u1, u2⟩ := c3s hf e0.hok e0.frf (show Un (frs outer) [] (unl f H) H' s.heap s'.heap from J.base) J.hok
 exact ⟨v, lend f H', J.os, J.bare, u1, u2, rv, qv fun b o e => J.base.free b o (a4l e0.hok (hf b o e)) (a7F e) (by simp [b28])⟩
abbrev b2F (tabs : List (Addr × Addr)) (H : Hp) : Prop := ∀ z ∈ tabs, H z.2 = some (TabC z.2 [])
abbrev b2u (tabs : List (Addr × Addr)) (H : Hp) : Prop := ∀ z ∈ tabs, ∃ S, H z.2 = some (TabC z.2 S)
theorem c3R {P : Program} {w : World} {K : PySem.W.Frag} {mg mb : Str -> Option Value} {CX : CXT} {k : Nat} {fa a : Addr} {fd : FuncData} {x : Str} {sp : Sp} {s₁ : Shared} {vs : List Value} {ns : List Int} {tabs : List (Addr × Addr)}
 (KX : K.In s₁.heap) (hns : s₁.heap.Ns mainGlobals mg) (hb : s₁.heap.Ns builtinsNs mb) (hbb : ∀ x : Str, x ≠ "__name__" -> mb x = bootBuiltins x) (hlim : s₁.heap.NoLimit) (hg : s₁.gens = #[])
 (ha : s₁.heap.get? a = some { cls := .type "list", data := .seq vs.toArray }) (hi : IntsAre vs ns) (hl : ns.length <= sizeLine) (hr : Room k callerA)
 (hT : ∀ z ∈ tabs, PySem.W.CodeHd s₁.heap z.1 z.2 /\ s₁.heap.get? z.2 = some (PySem.W.tabObj #[]) /\ K.lookup z.2 = none)
 (hbm : ∃ bm ob, mg "__builtins__" = some (.ref bm) /\ bm ≠ builtinsNs /\ s₁.heap.get? bm = some ob /\ ob.cls = .type "module" /\ ob.dict = some builtinsNs /\ ob.data = .plain)
 (F : ∀ base : Heap, K.In base -> base.Ns mainGlobals mg -> (∀ z ∈ tabs, a5Y mg base z.1 z.2) -> FnOk P w K mg base CX k fa fd [x] sp) (hbind : ∀ (s : Shared) (u : Value), BindsTo s fd ⟨[u], []⟩ [(x, u)])
 (hsp : ∀ H : Hp, b2F tabs H -> SqL K H a (ns.map V.int) -> sp [.ref a] H (fun v H' => v = .bl true /\ b2u tabs H') fun _ _ _ => False)
 (hCX : ∀ H e s', CX [] H s₁ (fun _ _ _ => False) e s' -> False) :
 codeAny (model P w) callerA (.call (.ref fa) ⟨[.ref a], []⟩) (fun r s' => r = .ok (.ret (.bool true)) /\ OldK s₁.heap s'.heap /\ s'.os = s₁.os /\ AllBare s'.gens) s₁ := by
 have rv := b7X hi
 have lenV := hi.length
 have neT : ∀ z ∈ tabs, z.2 ≠ a := fun z hz e => by
  have e1 := (hT z hz).2.1
  rw [e, ha] at e1
  cases e1
 have core : ∀ H : Hp, b2F tabs H -> (∀ b, H b = none ∨ (b = a /\ K.lookup a = none /\ ∃ o xs, H b = some (.frz o (.lst xs))) ∨ ∃ z ∈ tabs, b = z.2) -> SqL K H a (ns.map V.int) -> HOk P w H s₁.heap ->
  codeAny (model P w) callerA (.call (.ref fa) ⟨[.ref a], []⟩) (fun r s' => r = .ok (.ret (.bool true)) /\ OldK s₁.heap s'.heap /\ s'.os = s₁.os /\ AllBare s'.gens) s₁ := by
  intro H hTb hO hS hok
  have base_of : ∀ {b : Addr} {o : Obj}, s₁.heap.get? b = some o -> H b = none -> (hidT s₁.heap H).get? b = some o := fun e n => c6v e n
  have free : ∀ {b : Addr} {o : Obj}, s₁.heap.get? b = some o -> o ≠ { cls := .type "list", data := .seq vs.toArray } -> o ≠ PySem.W.tabObj #[] -> H b = none := fun {b o} e n1 n2 => by
   rcases hO b with z | ⟨rfl, _, _⟩ | ⟨z, hz, rfl⟩
   ·exact z
   ·rw [ha] at e; exact absurd (Option.some.inj e).symm n1
   ·rw [(hT z hz).2.1] at e; exact absurd (Option.some.inj e).symm n2
  have noA : ∀ {b : Addr} {o : Obj} {es : Array DictEntry} {ep : Nat}, s₁.heap.get? b = some o -> o.data = .dict es ep -> H b = none := fun {b o es ep} e d =>
   free e (fun z => by rw [z] at d; cases d) (fun z => by rw [z] at d; cases d)
  have nsK : ∀ {b : Addr} {m : Str -> Option Value}, s₁.heap.Ns b m -> (hidT s₁.heap H).Ns b m := fun {b m} ⟨o, es, ep, e, d, r⟩ => ⟨o, es, ep, base_of e (noA e d), d, r⟩
  have hKb : K.In (hidT s₁.heap H) := fun b o e => base_of (KX b o e) (by
   rcases hO b with z | ⟨rfl, z, _⟩ | ⟨z, hz, rfl⟩
   ·exact z
   ·rw [z] at e; cases e
   ·rw [(hT z hz).2.2] at e; cases e)
  have hM : Mod K mg (hidT s₁.heap H) := ⟨hKb, nsK hns, ⟨mb, nsK hb, hbb⟩, let ⟨mc, h1, h2⟩ := hlim; ⟨mc, nsK h1, h2⟩⟩
  have e0 : Env0 P w K mg (hidT s₁.heap H) callerA [] s₁ H := ⟨rfl, hM, fun b o e => c79 e, Nat.le_of_eq (c4u _ _), trivial, fun b hb => absurd (show b ∈ ([] : List Addr) from hb) (by simp), hok, .of_eq hg⟩
  have hMk : ∀ z ∈ tabs, a5Y mg (hidT s₁.heap H) z.1 z.2 := fun z hz => by
   obtain ⟨⟨o, ws, file, tf, flags, tg, inF, text, tt, e1, e2, r⟩, e3, _⟩ := hT z hz
   obtain ⟨bm, ob, b1, b2, b3, b4, b5, b6⟩ := hbm
   refine ⟨⟨o, ws, file, tf, flags, tg, inF, text, tt, base_of e1 (free e1 (fun q => by rw [q] at e2; exact absurd (Value.type.inj e2) (by decide)) (fun q => by rw [q] at e2; cases e2)), e2, r⟩, bm, ob, b1, b2, fun q => ?_, fun q => ?_, base_of b3 (free b3 (fun q => by rw [q] at b4; exact absurd (Value.type.inj b4) (by decide)) (fun q => by rw [q] at b4; cases b4)), b4, b5, b6⟩
   ·obtain ⟨o', es, ep, e', d', _⟩ := hns
    rw [q, e'] at b3; cases b3; rw [d'] at b6; cases b6
   ·rw [q, e3] at b3; cases b3; cases b4
  refine codeAny_mono ((F _ hKb (nsK hns) hMk).run callerA [] s₁ H ⟨[.ref a], []⟩ [.ref a] [.ref a] _ _ hr e0 (hbind s₁ (.ref a)) (.cons rfl .nil) (hsp H hTb hS)) fun r s' h => ?_
  cases r with
  | error e => exact (hCX H e s' h).elim
  | ok fl =>
   cases fl with
   | next => exact False.elim h
   | brk => exact False.elim h
   | cont => exact False.elim h
   | ret u =>
    obtain ⟨v, H', os, bare, un, hok', r', q⟩ := h
    obtain ⟨q', hT'⟩ : v = .bl true /\ b2u tabs H' := q
    subst q'
    obtain rfl : u = Value.bool true := r'
    refine ⟨rfl, ⟨fun b o e => ?_, fun b o e => un.there b o e (by simp)⟩, os, bare⟩
    rcases hO b with z | ⟨rfl, _, ob, xs, z⟩ | ⟨z, hz, rfl⟩
    ·exact .inl (un.keep b o e z (by intro z; exact absurd (show b ∈ ([] : List Addr) from z) (by simp)) (by simp))
    ·have z2 := un.frzs b ob _ z
     obtain ⟨e1, _⟩ := hok b _ z
     obtain ⟨e2, _⟩ := hok' b _ z2
     rw [e] at e1; cases e1
     exact .inl e2
    ·obtain ⟨S4, z4⟩ := hT' z hz
     obtain ⟨⟨ps, e4, _⟩, _⟩ := hok' z.2 _ z4
     have e3 := (hT z hz).2.1
     rw [e3] at e
     cases e
     exact .inr (.inl ⟨((hT z hz).1.tab e3).isCodeTable, rfl, #[], ps, rfl, by rw [e4, Array.empty_append]⟩)
 have hTok : ∀ (H : Hp) (z : Addr × Addr), z ∈ tabs -> a2X P w H s₁.heap z.2 (TabC z.2 []) := fun H z hz => c0q (hT z hz).2.1 trivial fun pos cv e => by cases e
 classical
 let Ht : Hp := fun b => if b ∈ tabs.map (·.2) then some (TabC b []) else none
 have hHt : b2F tabs Ht := fun z hz => if_pos (List.mem_map_of_mem hz)
 have ofHt : ∀ b u, Ht b = some u -> ∃ z ∈ tabs, b = z.2 /\ u = TabC z.2 [] := fun b u e => by
  by_cases hb : b ∈ tabs.map (·.2)
  ·have e' := (if_pos hb).symm.trans e
   obtain ⟨z, hz, rfl⟩ := List.mem_map.mp hb
   exact ⟨z, hz, rfl, (Option.some.inj e').symm⟩
  ·have e' := (if_neg hb).symm.trans e
   cases e'
 cases hk : K.lookup a with
 | some o =>
  have e := KX a o hk
  rw [ha] at e
  cases e
  refine core Ht hHt (fun b => ?_) (.inr ⟨_, vs.toArray, _, hk, rfl, rfl, rfl, by rw [List.size_toArray, lenV]; exact hl, by simpa using rv⟩) (fun b u z => ?_)
  ·cases q : Ht b with
   | none => exact .inl rfl
   | some u => obtain ⟨z, hz, e, _⟩ := ofHt b u q; exact .inr (.inr ⟨z, hz, e⟩)
  ·obtain ⟨y, hy, rfl, rfl⟩ := ofHt b u z
   exact hTok _ y hy
 | none =>
  refine core (fun b => if b = a then some (.frz { cls := .type "list", data := .seq vs.toArray } (.lst (ns.map V.int))) else Ht b) (fun z hz => ?_) (fun b => ?_) (.inl (.inr ⟨{ cls := .type "list", data := .seq vs.toArray }, if_pos rfl⟩)) (fun b u z => ?_)
  ·exact (if_neg (neT z hz)).trans (hHt z hz)
  ·by_cases hb : b = a
   ·exact .inr (.inl ⟨hb, hk, _, _, if_pos hb⟩)
   ·cases q : Ht b with
    | none => exact .inl (if_neg hb)
    | some u => obtain ⟨z, hz, e, _⟩ := ofHt b u q; exact .inr (.inr ⟨z, hz, e⟩)
  ·by_cases hb : b = a
   ·have z' := (if_pos hb).symm.trans z
    cases z'
    subst hb
    exact ⟨ha, by rw [List.length_map]; exact hl, vs, _, rv, ha⟩
   ·have z' := (if_neg hb).symm.trans z
    obtain ⟨y, hy, rfl, rfl⟩ := ofHt b u z'
    exact hTok _ y hy
theorem c50 {l : PySem.W.OpenLaw} {n k : Nat} {q : Program} {loose : List Str} {XP : (Str -> Option Value) -> Heap -> Prop} {YP : World -> Heap -> Prop} {d : DefRec} {K : Params -> PySem.W.Frag} {CX : World -> CXT} {sp : World -> List (Addr × Addr) -> Sp} {x : Str}
 (hn : l.most = some n) (hn2 : n <= sizeLine) (hdf : d.params.defaults = []) (hr : Room k callerA)
 (hY : ∀ (w : World) (h : Heap), YP w h -> (K w.params).In h)
 (F : ∀ (w : World) (mg : Str -> Option Value) (fa : Addr) (h : Heap), (K w.params).In h -> h.Ns mainGlobals mg -> mg d.name = some (.ref fa) ->
  PySem.W.noTabs (K w.params) = true /\ ∃ tabs : List (Addr × Addr), (∀ z ∈ tabs, d0k q (K w.params) z) /\ ∃ fd : FuncData, (∀ (s : Shared) (u : Value), BindsTo s fd ⟨[u], []⟩ [(x, u)]) /\
   ∀ base : Heap, (K w.params).In base -> base.Ns mainGlobals mg -> (∀ z ∈ tabs, a5Y mg base z.1 z.2) -> FnOk l.prog w (K w.params) mg base (CX w) k fa fd [x] (sp w tabs))
 (hsp : ∀ (w : World) (tabs : List (Addr × Addr)) (H : Hp) (a : Addr) (ns : List Int), ns.length <= n -> b2F tabs H -> SqL (K w.params) H a (ns.map V.int) -> sp w tabs [.ref a] H (fun v H' => v = .bl true /\ b2u tabs H') fun _ _ _ => False)
 (hCX : ∀ (w : World) (H : Hp) (s : Shared) (e : Value) (s' : Shared), CX w [] H s (fun _ _ _ => False) e s' -> False) :
 PySem.W.WalkO q loose XP YP l.row.toRowW d [] (fun f vs => PySem.call f vs) := by
 refine Att.attach_call hn hdf fun w s₀ s₁ mg mb fa o pm cd doc a vs ns G Y ho hd hcd hmg hobj hints hlen hg => ?_
 have KX := hY w _ Y
 obtain ⟨hnT, tabs, hTb, fd, hb, hF⟩ := F w mg fa _ KX G.T.g hmg
 refine c3R KX G.T.g G.T.b G.T.builtins G.T.nolimit hg hobj hints (Nat.le_trans hlen hn2) hr (fun z hz => ?_) G.T.bmain hF hb (fun H hO hS => hsp w tabs H a ns hlen hO hS) fun H e s' => hCX w H s₁ e s'
 obtain ⟨y, h1, h2⟩ := (hTb z hz).ex
 obtain ⟨d', h1⟩ := Option.isSome_iff_exists.mp h1
 obtain ⟨t1, t2⟩ := PySem.W.tab_of G.T KX h1 h2
 exact ⟨t1, t2, d0a hnT KX t2⟩
end L2
namespace L2
open PySem PySem.Spec PyProof.Rows
def c8q (P : Program) (w : World) (K : PySem.W.Frag) (mg : Str -> Option Value) (base : Heap) (k : Nat) (m : Str) (ta : TE) (t : TA) : TE := fun σ H Q => ta σ H fun x H1 => ∃ a C dx fs fa sp, x = .ref a /\ H1 a = some (.ins C dx fs) /\ Cls K C /\ a1m K C m /\ fs.lookup m = some (.ref fa) /\ a3n P w K mg base k fa sp /\ t σ H1 fun vs H2 => sp vs H2 Q E0
section
variable {X : Cx} {k : Nat} {m : Str} {p pos apos : Pos} {e o : Expr} {es : List Expr} {ta : TE} {t : TA}
theorem c5H {pl : Sem Bool} (he : PE X o ta) (hr : Room k X.A) (ha : PA X (e :: es) t)
 (hst : starEach (e :: es) X.env = (false, eval e X.env) :: starEach es X.env := by rfl) (hpl : (backTo pos (starEach es X.env)).any (·.1) = false := by rfl)
 (ht : eval (.Call (.Attribute o m apos) (e :: es) [] pos) X.env = (do
  let ov <- eval o X.env
  standAt apos.atName
  let (f, first) <- holding [ov] (getMethod ov m pl)
  callWith pos f first (backTo pos (starEach (e :: es) X.env)) (backToKw pos (keywordEach [] X.env))) := by rfl) :
 PE X (.Call (.Attribute o m apos) (e :: es) [] pos) (c8q X.prog X.w X.K X.mg X.base k m ta t) := by
 intro pins s σ H Q I h
 refine PySem.W.methodCall_KW (pl := pl) (thn (he pins s σ H _ I h) fun u s1 ⟨x, H1, I1, rx, a, C, dx, fs, fa, sp, ex, ea, c, n, l, F, q⟩ => ?_) ht
 subst ex
 obtain rfl : u = Value.ref a := rx
 obtain ⟨mA, O, _, _, _, _⟩ := b2K I1.hok ea
 obtain ⟨od, J, _⟩ := O.look
 refine PySem.W.method_usual (r := none) I1.kIn J (PySem.W.plainGet_of (c.get m)).1 (PySem.W.plainGet_of (c.get m)).2 n rfl ?_
 refine a9v I1 ea c n l fun u2 s2 I2 ru => ?_
 obtain rfl : u2 = Value.ref fa := ru
 show wpAny _ _ (callWith pos (.ref fa) [] (backTo pos (starEach (e :: es) X.env)) []) _ _ _
 rw [hst]
 refine PySem.W.callWith_of (P := fun h => ∃ c d fd sl, h.get? fa = some ⟨c, d, .func fd, sl⟩) (by show ((false || (backTo pos (starEach es X.env)).any (·.1)) || false) = false; rw [hpl]; rfl)
  (fun h ⟨c, d, fd, sl, z⟩ => ⟨.frame, .inl rfl, (PySem.W.Looks.ld (part := none) z).andThen .now⟩) (PySem.Calls.evalArgs_plain ?_)
 have ha' := ha pos pins s2 σ H1 _ I2 q
 rw [hst] at ha'
 refine thn ha' fun us s3 ⟨vs, H2, I3, r, q2⟩ => ?_
 obtain ⟨c, d, fd, sl, z⟩ := F.fn _ _ _ _ q2
 refine ⟨⟨c, d, fd, sl, a4l I3.hok z⟩, ?_⟩
 refine wpAny_call (codeAny_mono (F.run X.A X.stack s3 H2 us vs Q E0 hr I3.env0 r q2) fun r s' hq => ?_)
 cases r with
 | error e => exact False.elim hq
 | ok fl =>
  cases fl with
  | ret u => exact I3.after hq
  | next => exact False.elim hq
  | brk => exact False.elim hq
  | cont => exact False.elim hq
end
structure c5R where
 nx : St -> Hp -> Prop
 rt : V -> St -> Hp -> Prop
abbrev TSR := c5R -> St -> Hp -> Prop
def SPR (X : Cx) (pins : List (Addr × Obj)) (D : c5R) (f : Flow) (s' : Shared) : Prop :=
 match f with
 | .next => ∃ σ' H', Inv X pins σ' H' s' /\ D.nx σ' H'
 | .ret u => ∃ v σ' H', Inv X pins σ' H' s' /\ RelV v u /\ D.rt v σ' H'
 | _ => False
def PSR (X : Cx) (st : Stmt) (t : TSR) : Prop :=
 ∀ (pins : List (Addr × Obj)) (s : Shared) (σ : St) (H : Hp) (D : c5R), Inv X pins σ H s -> t D σ H -> wpAny (model X.prog X.w) X.A (exec st X.env) (SPR X pins D) X.xe s
def PSRs (X : Cx) (st : List Stmt) (t : TSR) : Prop :=
 ∀ (pins : List (Addr × Obj)) (s : Shared) (σ : St) (H : Hp) (D : c5R), Inv X pins σ H s -> t D σ H -> wpAny (model X.prog X.w) X.A (execs st X.env) (SPR X pins D) X.xe s
section
variable {X : Cx} {st : Stmt} {rest : List Stmt} {t u : TSR} {e : Expr} {te : TE} {pos : Pos}
def rSeq (t u : TSR) : TSR := fun D σ H => t { D with nx := u D } σ H
def rOf (t : TS) : TSR := fun D σ H => t { nx := D.nx, rt := fun _ _ => False } σ H
def rRet (te : TE) : TSR := fun D σ H => te σ H fun v H1 => D.rt v σ H1
theorem a8K (h1 : PSR X st t) (h2 : PSRs X rest u) : PSRs X (st :: rest) (rSeq t u) := by
 intro pins s σ H D I h
 refine wpAny_execs_cons (thn (h1 pins s σ H { D with nx := u D } I h) fun f s1 q => ?_)
 cases f with
 | next =>
  obtain ⟨σ', H', I', q⟩ := q
  exact h2 pins s1 σ' H' D I' q
 | ret v => exact q
 | brk => exact q
 | cont => exact q
theorem c0f (h1 : PSR X st t) : PSRs X [st] t := by
 intro pins s σ H D I h
 refine wpAny_execs_cons (thn (h1 pins s σ H D I h) fun f s1 q => ?_)
 cases f with
 | next => exact wpAny_execs_nil q
 | ret v => exact q
 | brk => exact q
 | cont => exact q
theorem b8R {t : TS} (h1 : PS X st t) : PSR X st (rOf t) := by
 intro pins s σ H D I h
 refine thn (h1 pins s σ H _ I h) fun f s1 q => ?_
 cases f with
 | next => exact q
 | ret v =>
  obtain ⟨_, _, _, _, _, z⟩ := q
  exact False.elim z
 | brk =>
  obtain ⟨_, _, _, z⟩ := q
  exact z
 | cont =>
  obtain ⟨_, _, _, z⟩ := q
  exact z
theorem c1b (he : PE X e te) : PSR X (.Return (some e) pos) (rRet te) := by
 intro pins s σ H D I h
 exact wpAny_Return_some (thn (he pins s σ H _ I h) fun v s1 ⟨x, H1, I1, r1, q1⟩ => ⟨x, σ, H1, I1, r1, q1⟩)
end
theorem c5x {X : Cx} {pins : List (Addr × Obj)} {σ : St} {H : Hp} {s : Shared} (I : Inv X pins σ H s) : ∃ f : Lend, Lent X σ H f /\ (∀ b o, f b = some o -> H b = none /\ s.heap.get? b = some o /\ ∃ x, X.env.cells.lookup x = some b) := by
 classical
 let f : Lend := fun b => if (∃ x, X.env.cells.lookup x = some b) then s.heap.get? b else none
 have fe : ∀ {b o}, f b = some o -> (∃ x, X.env.cells.lookup x = some b) /\ s.heap.get? b = some o := fun {b o} e => by
  by_cases z : ∃ x, X.env.cells.lookup x = some b
  ·exact ⟨z, by rw [show f b = s.heap.get? b from if_pos z] at e; exact e⟩
  ·rw [show f b = none from if_neg z] at e; cases e
 have ff : ∀ {x c}, X.env.cells.lookup x = some c -> f c = s.heap.get? c := fun {x c} e => if_pos ⟨x, e⟩
 refine ⟨f, ⟨fun b o e => ?_, fun x c e => ?_, fun i x v e1 e2 e3 => ?_, I.ok.inj⟩, fun b o e => ?_⟩
 ·obtain ⟨⟨x, z⟩, _⟩ := fe e
  exact I.freeC x b z
 ·obtain ⟨v, o, ho, hd⟩ := I.cell x c e
  exact ⟨o, v, by rw [ff e]; exact ho, hd⟩
 ·obtain ⟨m, _, hl⟩ := I.loc
  obtain ⟨u, r, l⟩ := hl i x v e1 e2 (.inr (.inl e3))
  rcases l with ⟨k, _⟩ | ⟨_, c, ec, o, ho, hd⟩
  ·have k' : X.env.scope.names.lookup x = some .local := k
   rw [e3] at k'; cases k'
  ·exact ⟨c, o, u, ec, by rw [ff ec]; exact ho, hd, r⟩
 ·obtain ⟨⟨x, z⟩, g⟩ := fe e
  exact ⟨I.freeC x b z, g, x, z⟩
theorem c8C {P : Program} {w : World} {K : PySem.W.Frag} {mg : Str -> Option Value} {base : Heap} {k : Nat} {f : Addr} {name qual : Str} {params : Arguments} {body : List Stmt} {scope : Scope} {dV kV doc pm cdv ct oc : Value} {an od : Option Addr}
 {osl : Array (Option Value)} {N ps : List Str} {sp : Sp} (lk : K.lookup f = some ⟨oc, od, .func (PySem.W.fnOf name qual params body scope dV kV doc pm an cdv ct), osl⟩) (hcd : PySem.W.codeIn K cdv qual = true) (S : a0o N ps scope)
 (len : ∀ vs H Q E, sp vs H Q E -> vs.length = ps.length)
 (hbody : ∀ (A : Around) (outer : List Env) (s : Shared) (H : Hp) (vs : List V) (Q : VK) (E : XK), Room k (A.deeper (envOfC qual scope s.heap.objs.size f cdv)) -> sp vs H Q E ->
  ∃ t, PSRs (cxOf CX0 P w K mg base N qual scope f cdv A outer s H E).nox body t /\ t { nx := fun _ _ => False, rt := fun v σ H' => ∀ g, Lent (cxOf CX0 P w K mg base N qual scope f cdv A outer s H E).nox σ H' g -> Q v (lend g H') } (a6A N vs) H) :
 FnOk P w K mg base CX0 (k + 1) f (PySem.W.fnOf name qual params body scope dV kV doc pm an cdv ct) ps sp := by
 refine ⟨len, fun A outer s H args us vs Q E hr e0 hb r hsp => ?_⟩
 have hl := len _ _ _ _ hsp
 have KX : K.In s.heap := e0.mod.kin.keeps fun b o e => (e0.bs b o e).1
 have lim : s.heap.NoLimit := e0.mod.nolimit.keeps fun b o e => (e0.bs b o e).1
 have hkind : ∀ y ∈ ps.zip us, scope.names.lookup y.1 = some .local ∨ (scope.names.lookup y.1 = some .cell /\ ((cellsFrom (s.heap.objs.size + 1) scope.names []).lookup y.1).isSome = true) := fun ⟨n, v⟩ hy => by
  rcases S.par n (List.of_mem_zip hy).1 with q | q
  ·exact .inl q
  ·exact .inr ⟨q, PySem.W.cellsFrom_some _ _ _ (.inl q)⟩
 refine codeAny_call_function hr.depth (KX _ _ lk) rfl S.co S.gen rfl (PySem.W.codeRec_of KX hcd) (hb _ _ _ _ ?_)
 refine wpAny_newFunctionEnv_cells S.kind hkind fun env he s1 x => ?_
 subst he
 refine ⟨lim.keeps x.toInCall.keep, codeAny_func ?_⟩
 obtain ⟨t, ht, hq⟩ := hbody A outer s H vs Q E (hr.deeper _) hsp
 have I0 : Inv (cxOf CX0 P w K mg base N qual scope f cdv A outer s H E) [] (a6A N vs) H s1 := b7w S hr.hd e0 hl r x
 have I : Inv (cxOf CX0 P w K mg base N qual scope f cdv A outer s H E).nox [] (a6A N vs) H s1 := ⟨⟨I0.ok.mod, I0.ok.kind, I0.ok.glob, I0.ok.blt, I0.ok.above, I0.ok.inj, I0.ok.has, I0.ok.cab, I0.ok.hd, I0.ok.frames, I0.ok.stk, I0.ok.exf, I0.ok.bs, I0.ok.bsz, I0.ok.noex, I0.ok.exfs, I0.ok.funs, I0.ok.frf⟩, I0.os, I0.bare, I0.base, I0.loc, I0.cell, I0.free, I0.freeC, I0.pin, I0.hok, I0.len⟩
 refine wpAny_mono (ht [] s1 (a6A N vs) H _ I hq) (fun fl s' hs => ?_) fun e s' hs => False.elim hs
 cases fl with
 | ret u =>
  obtain ⟨v, σ', H', J, rv, q⟩ := hs
  obtain ⟨g, L, hg⟩ := c5x J
  have hnew : ∀ b o, s.heap.get? b = some o -> g b = none := fun b o e => by
   cases z : g b with
   | none => rfl
   | some ob =>
    exfalso
    obtain ⟨x', hx'⟩ : ∃ y, (cxOf CX0 P w K mg base N qual scope f cdv A outer s H E).nox.env.cells.lookup y = some b := (hg b ob z).2.2
    exact absurd (Nat.lt_of_lt_of_le (Heap.lt_size e) (J.ok.cab x' b rfl hx')) (Nat.lt_irrefl _)
  have hB : Un (frs outer) [] H H' s.heap s'.heap := J.base
  refine ⟨v, lend g H', J.os, J.bare, ⟨hB.keep, hB.slot, fun b o e n hx => ?_, hB.there, fun b xs z => ?_, fun b o xs z => ?_, fun b ps z => ?_⟩, b4F J.hok fun b o z => ⟨(hg b o z).1, (hg b o z).2.1⟩, rv, q g L⟩
  ·rw [a0N (hnew b o e)]
   exact hB.free b o e n hx
  ·have := hB.tups b xs z
   cases y : g b with
   | none => rw [a0N y]; exact this
   | some ob => rw [(hg b ob y).1] at this; cases this
  ·have := hB.frzs b o xs z
   cases y : g b with
   | none => rw [a0N y]; exact this
   | some ob => rw [(hg b ob y).1] at this; cases this
  ·obtain ⟨more, this⟩ := hB.tbls b ps z
   refine ⟨more, ?_⟩
   cases y : g b with
   | none => rw [a0N y]; exact this
   | some ob => rw [(hg b ob y).1] at this; cases this
 | next =>
  obtain ⟨_, _, _, q⟩ := hs
  exact False.elim q
 | brk => exact False.elim hs
 | cont => exact False.elim hs
theorem DefT.knownR {P : Program} {w : World} {K : PySem.W.Frag} {mg : Str -> Option Value} {base : Heap} {x : Str} {st : Stmt} {N ps : List Str} {k : Nat} {sp : Sp} {z : Addr × Addr} (D : DefT K mg x st z) (S : a0o N ps (a0b st))
 (hb : ∀ (kV doc pm : Value) (an : Option Addr) (cdv ct : Value) (us : List Value), us.length = ps.length -> bindArgs (PySem.W.fnOf x x (a0n st) (a0j st) (a0b st) .none kV doc pm an cdv ct) ⟨us, []⟩ = pure (ps.zip us))
 (len : ∀ vs H Q E, sp vs H Q E -> vs.length = ps.length)
 (hbody : ∀ (f : Addr) (A : Around) (outer : List Env) (s : Shared) (H : Hp) (vs : List V) (Q : VK) (E : XK), Room k (A.deeper (envOfC x (a0b st) s.heap.objs.size f (.ref z.1))) -> sp vs H Q E ->
  ∃ t, PSRs (cxOf CX0 P w K mg base N x (a0b st) f (.ref z.1) A outer s H E).nox (a0j st) t /\ t { nx := fun _ _ => False, rt := fun v σ H' => ∀ g, Lent (cxOf CX0 P w K mg base N x (a0b st) f (.ref z.1) A outer s H E).nox σ H' g -> Q v (lend g H') } (a6A N vs) H) : a0q P w K mg base CX0 (k + 1) x ps sp := by
 obtain ⟨f, fd, F, hm, hc⟩ := D.ex
 refine ⟨f, fd, ?_, hm, F.kp, F.binds hb⟩
 obtain ⟨oc, od, kV, doc, pm, an, cdv, ct, osl, rfl, lk, hcd⟩ := F.ex
 have e : cdv = .ref z.1 := hc
 subst e
 exact c8C lk hcd S len fun A outer s H vs Q E hr hsp => hbody f A outer s H vs Q E hr hsp
end L2
namespace L2
open PySem PySem.Spec PyProof.Rows
section
variable {P : Program} {w : World} {K : PySem.W.Frag} {mg : Str -> Option Value} {base : Heap} {N : List Str} {qual : Str} {scope : Scope} {f : Addr} {cd : Value} {A : Around} {outer : List Env} {s : Shared} {H : Hp} {E : XK}
end
end L2
namespace L2
open PySem PySem.Spec PyProof.Rows
end L2
namespace L2
open PySem PySem.Spec PyProof.Rows
structure PEw (X : Cx) (e : Expr) (t : TE) : Prop where
 run : PE X e t
structure PAw (X : Cx) (es : List Expr) (t : TA) : Prop where
 run : PA X es t
structure PTw (X : Cx) (e : Expr) (t : TT) : Prop where
 run : PT X e t
structure PSw (X : Cx) (st : Stmt) (t : TS) : Prop where
 run : PS X st t
structure PSsw (X : Cx) (st : List Stmt) (t : TS) : Prop where
 run : PSs X st t
section
variable {X : Cx} {es : List Expr} {te : TE} {t u : TA}
theorem a1U : PAw X [] tNil := ⟨a0c⟩
theorem c4d {elts : List Expr} {k : Nat} {pos : Pos} (ha : PEw X (.Tuple elts k pos) te) (hr : PAw X es t) : PAw X (.Tuple elts k pos :: es) (a8j te t) := ⟨a0a ha.run hr.run rfl⟩
theorem a7x {c : Const} {k : Nat} {pos : Pos} (ha : PEw X (.Constant c k pos) te) (hr : PAw X es t) : PAw X (.Constant c k pos :: es) (a8j te t) := ⟨a0a ha.run hr.run rfl⟩
theorem b7g {f : Expr} {as : List Expr} {kw : List Keyword} {pos : Pos} (ha : PEw X (.Call f as kw pos) te) (hr : PAw X es t) : PAw X (.Call f as kw pos :: es) (a8j te t) := ⟨a0a ha.run hr.run rfl⟩
theorem a2n {x : Str} {pos : Pos} (ha : PEw X (.Name x pos) te) (hr : PAw X es t) : PAw X (.Name x pos :: es) (a8j te t) := ⟨a0a ha.run hr.run rfl⟩
theorem a4U {k : Nat} {pos : Pos} (h : PAw X es t) : PEw X (.Tuple es k pos) (tTup t) := ⟨a16 h.run⟩
theorem c8h {pos : Pos} (h : PAw X es t) : PEw X (.List es pos) (tLst t) := ⟨a1G h.run⟩
theorem a1Q {x j} {pos : Pos} : PEw X (.Constant (.str x) j pos) (tC (.str x)) := ⟨a0u⟩
end
section
variable {X : Cx} {st : Stmt} {rest : List Stmt} {t u : TS} {pos : Pos}
theorem c7W {i : Nat} {x : Str} {e : Expr} {te : TE} {pos' : Pos} (hN : X.N.Nodup) (hi : X.N[i]? = some x) (hx : Loc X.env.scope x) (he : PEw X e te) (hs : swapsWith e (some (.Name x pos')) pos.line X.env = pure false := by rfl) (hf : X.fn x = true ∨ X.env.scope.names.lookup x = some .local := by first | exact .inl rfl | exact .inr rfl | assumption) :
 PSw X (.Assign [.Name x pos'] e pos) (tAsg te (c4f i)) := ⟨a0B hN hi hx he.run hs hf⟩
theorem a1v (h1 : PSw X st t) (h2 : PSsw X rest u) : PSsw X (st :: rest) (tSeq t u) := ⟨a0e h1.run h2.run⟩
theorem a8X (h1 : PSw X st t) : PSsw X [st] t := ⟨a0g h1.run⟩
theorem b0Z : PSsw X [] c8I := ⟨a0p⟩
theorem b1k {e : Expr} {te : TE} (he : PEw X e te) : PSw X (.Return (some e) pos) (tRet te) := ⟨a0l he.run⟩
end
end L2
namespace L2
open PySem PySem.Spec PyProof.Rows
theorem c3U {X : Cx} : MtR X "str.startswith" (fun x xs H Q => ∃ z y : Str, x = .str z /\ xs = [.str y] /\ Q (.bl (Txt.startswith z y)) H) := by
 intro pins s σ H x vs v us Q I rx rv h
 obtain ⟨z, y, rfl, rfl, q⟩ := h
 obtain ⟨t, rfl⟩ := rx
 obtain ⟨u, rfl, ru⟩ := rv.one
 obtain ⟨t', rfl⟩ := ru
 exact call_gives F.slot_str_startswith (typeIs_str _ _ _) F.entry_str_startswith (F.args_str_startswith_2 _ _) (gives_str_startswith z y t t') ⟨.bl (Txt.startswith z y), H, I, rfl, q⟩
theorem a5T {X : Cx} : a8g X (.type "int") (fun xs H Q => ∃ (x : Str) (n : Int), xs = [.str x] /\ PySem.intText? x = some n /\ x.length <= 640 /\ Q (.int n) H) := by
 intro pins s σ H xs us Q I r h
 obtain ⟨x, n, rfl, hn, hl, q⟩ := h
 obtain ⟨u, rfl, t, rfl⟩ := b3o r
 exact PySem.W.KIN.call_text hn hl ⟨.int n, H, I.tok _, ⟨_, rfl⟩, q⟩
theorem c33 {a b : Str} (h : a.cps.toList = b.cps.toList) : a = b := by
 obtain ⟨a⟩ := a
 obtain ⟨b⟩ := b
 exact congrArg Str.mk (Array.toList_inj.mp h)
theorem b5c (a : Str) : a.length = a.cps.toList.length := by
 show a.cps.size = _
 rw [Array.length_toList]
theorem c2L {x : Str} {a b : Nat} (hab : a <= b) (hb : b <= x.length) : (Txt.slice x (some (a : Int)) (some (b : Int))).cps.toList = (x.cps.toList.drop a).take (b - a) := by
 unfold Txt.slice
 split
 ·rename_i h
  rw [StrLaws.strSliceIndices_plain hab hb] at h
  have hl : x.cps.toList.length = x.length := by rw [Array.length_toList]; rfl
  have e : b - a = x.length := by simpa using h
  have ea : a = 0 := by omega
  rw [ea, List.drop_zero, List.take_of_length_le (by omega)]
 ·show (List.toArray _).toList = _
  rw [List.toList_toArray, StrLaws.sliced_plain x hab hb]
theorem c3K {x : Str} {a : Nat} : Txt.slice x (some (a : Int)) none = Txt.slice x (some (a : Int)) (some (x.length : Int)) := by
 have e : Builtin.Str.strSliceIndices (some (a : Int)) none 1 x.length = Builtin.Str.strSliceIndices (some (a : Int)) (some (x.length : Int)) 1 x.length := by
  have e1 : max (0 : Int) (min (x.length : Int) (x.length : Int)) = (x.length : Int) := by omega
  have e2 : ¬ ((x.length : Int) < 0) := by omega
  simp [Builtin.Str.strSliceIndices, e1, e2]
 unfold Txt.slice
 rw [e]
theorem c1f (z : Str) (h : 1 <= z.length) : (Txt.slice z (some (1 : Int)) none).cps.toList = z.cps.toList.drop 1 := by
 have e : Txt.slice z (some (1 : Int)) none = Txt.slice z (some ((1 : Nat) : Int)) (some (z.length : Int)) := c3K (a := 1)
 have hl : z.cps.toList.length = z.length := by rw [Array.length_toList]; rfl
 rw [e, c2L h (Nat.le_refl _), List.take_of_length_le (by rw [List.length_drop, hl]; exact Nat.le_refl _)]
theorem c20 (z : Str) (c : Nat) : Txt.startswith z ⟨#[c]⟩ = decide (z.cps.toList.head? = some c) := by
 obtain ⟨l⟩ := z
 obtain ⟨l⟩ := l
 show (decide (0 + 1 <= l.length) && (l.toArray.extract 0 (0 + 1) == #[c])) = decide (l.head? = some c)
 cases l with
 | nil => rfl
 | cons x xs =>
  by_cases h : x = c
  ·subst h
   simp
  ·simp [h]
end L2
namespace L2
open PySem PySem.Spec PyProof.Rows
section
variable {prog : Program} {w : World} {A : Around} {E : Value -> Shared -> Prop} {s : Shared} {it d : Addr} {i n ep : Nat} {od : Obj} {es : Array DictEntry}
end
section
variable {X : Cx} {pins : List (Addr × Obj)} {σ : St} {H : Hp} {s : Shared} {d : Addr}
end
section
variable {X : Cx} {tg : Expr}
end
end L2
namespace L2
open PySem PySem.Spec PyProof.Rows
def c9I (R : Addr -> Sp -> Prop) (m : Str) (E : XK) (ta : TE) (t : TA) : TE := fun σ H Q => ta σ H fun x H1 => ∃ C sp a dx fs, R C sp /\ x = .ref a /\ H1 a = some (.ins C dx fs) /\ fs.lookup m = none /\ t σ H1 fun vs H2 => sp (x :: vs) H2 Q E
def c7J (X : Cx) (R : Addr -> Sp -> Prop) (m : Str) (ta : TE) (t : TA) : TE := fun σ H Q => ta σ H fun x H1 => ∃ C sp a dx fs, R C sp /\ x = .ref a /\ H1 a = some (.ins C dx fs) /\ fs.lookup m = none /\
 t σ H1 fun vs H2 => ∀ f, Lent X σ H2 f -> sp (x :: vs) (lend f H2) (fun v H' => Q v (unl f H')) E0
section
variable {X : Cx} {CX : CXT} {k : Nat} {R : Addr -> Sp -> Prop} {ps : List Str} {E : XK} {m : Str} {pos apos : Pos} {e o : Expr} {es : List Expr} {t : TA} {ta : TE}
theorem c5J {pl : Sem Bool} (he : PE X o ta) (hR : ∀ C sp, R C sp -> Cls X.K C /\ a1B X.prog X.w X.K X.mg X.base CX k C m ps sp) (hr : Room k X.A) (hx : a7M CX X E) (ha : PA X (e :: es) t)
 (hst : starEach (e :: es) X.env = (false, eval e X.env) :: starEach es X.env := by rfl) (hpl : (backTo pos (starEach es X.env)).any (·.1) = false := by rfl)
 (ht : eval (.Call (.Attribute o m apos) (e :: es) [] pos) X.env = (do
  let ov <- eval o X.env
  standAt apos.atName
  let (f, first) <- holding [ov] (getMethod ov m pl)
  callWith pos f first (backTo pos (starEach (e :: es) X.env)) (backToKw pos (keywordEach [] X.env))) := by rfl) :
 PE X (.Call (.Attribute o m apos) (e :: es) [] pos) (c9I R m E ta t) := by
 intro pins s σ H Q I h
 refine PySem.W.methodCall_KW (pl := pl) (thn (he pins s σ H _ I h) fun u s1 ⟨x, H1, I1, rx, C, sp, a, dx, fs, hC, ex, ea, l, q⟩ => ?_) ht
 obtain ⟨c, G⟩ := hR C sp hC
 obtain ⟨f, fd, F, hm, hb⟩ := G.ex
 subst ex
 obtain rfl : u = Value.ref a := rx
 refine b4h I1 ea c hm l ?_
 refine PySem.W.callWith_K (first := [.ref a]) (h₀ := X.base) I.ok.mod.kin hm.kp (thn (ha pos pins s1 σ H1 _ I1 q) fun us s2 ⟨vs, H2, I2, r, q2⟩ => ⟨I2.kIn, ?_⟩) hst hpl
 exact c16 (us := .ref a :: us) (vs := .ref a :: vs) F hr hb .nil hx I2 (.cons rfl r) (by rw [List.append_nil]; exact q2)
theorem c4a {pl : Sem Bool} (he : PE X o ta) (hR : ∀ C sp, R C sp -> Cls X.K C /\ a1B X.prog X.w X.K X.mg X.base CX0 k C m ps sp) (hr : Room k X.A) (ha : PA X (e :: es) t) (hfn : ∀ x, X.fn x = true := by exact fun _ => rfl)
 (hst : starEach (e :: es) X.env = (false, eval e X.env) :: starEach es X.env := by rfl) (hpl : (backTo pos (starEach es X.env)).any (·.1) = false := by rfl)
 (ht : eval (.Call (.Attribute o m apos) (e :: es) [] pos) X.env = (do
  let ov <- eval o X.env
  standAt apos.atName
  let (f, first) <- holding [ov] (getMethod ov m pl)
  callWith pos f first (backTo pos (starEach (e :: es) X.env)) (backToKw pos (keywordEach [] X.env))) := by rfl) :
 PE X (.Call (.Attribute o m apos) (e :: es) [] pos) (c7J X R m ta t) := by
 intro pins s σ H Q I h
 refine PySem.W.methodCall_KW (pl := pl) (thn (he pins s σ H _ I h) fun u s1 ⟨x, H1, I1, rx, C, sp, a, dx, fs, hC, ex, ea, l, q⟩ => ?_) ht
 obtain ⟨c, G⟩ := hR C sp hC
 obtain ⟨f, fd, F, hm, hb⟩ := G.ex
 subst ex
 obtain rfl : u = Value.ref a := rx
 refine b4h I1 ea c hm l ?_
 refine PySem.W.callWith_K (first := [.ref a]) (h₀ := X.base) I.ok.mod.kin hm.kp (thn (ha pos pins s1 σ H1 _ I1 q) fun us s2 ⟨vs, H2, I2, r, q2⟩ => ⟨I2.kIn, ?_⟩) hst hpl
 exact c5r (us := .ref a :: us) (vs := .ref a :: vs) hfn F hr hb I2 (.cons rfl r) q2
end
theorem a1B.le {P : Program} {w : World} {K : PySem.W.Frag} {mg : Str -> Option Value} {base : Heap} {CX : CXT} {j k : Nat} {C : Addr} {m : Str} {ps : List Str} {sp : Sp} (G : a1B P w K mg base CX j C m ps sp) (h : j <= k) : a1B P w K mg base CX k C m ps sp := by
 obtain ⟨f, fd, F, hm, hb⟩ := G.ex
 exact ⟨f, fd, F.mono h, hm, hb⟩
end L2
namespace L2
open PySem PySem.Spec PyProof.Rows
section
variable {prog : Program} {w : World} {A : Around} {s : Shared}
end
section
variable {X : Cx} {e : Expr} {te : TE} {x x' : Str} {p p' pos pos' : Pos}
end
section
variable {X : Cx}
end
section
variable {prog : Program} {w : World} {K : Type} [DecidableEq K] {knd : HeapKind prog w K} {A : Around} {E : Value -> Shared -> Prop} {s : Shared}
end
section
variable {X : Cx}
end
end L2
namespace L2
open PySem PySem.Spec PyProof.Rows
section
variable {X : Cx} {pins : List (Addr × Obj)} {σ : St} {A : Around} {E : Value -> Shared -> Prop} {a : Addr}
end
structure PPw (X : Cx) (pos : Pos) (keys : List (Option Expr)) (values : List Expr) (trs : List (TE × TE)) : Prop where
 run : PPs X pos keys values trs
section
variable {X : Cx} {pos : Pos} {keys : List (Option Expr)} {values : List Expr} {trs : List (TE × TE)} {k v : Expr} {tk tv : TE}
end
theorem boxS {X : Cx} {st : List Stmt} {D : Ends} {σ : St} {H : Hp} (h : ∃ t, PSsw X st t /\ t D σ H) : ∃ t, PSs X st t /\ t D σ H := let ⟨t, h1, h2⟩ := h; ⟨t, h1.run, h2⟩
end L2
namespace L2
open PySem PySem.Spec PyProof.Rows
section
variable {X : Cx} {st : Stmt} {t u : TS}
end
end L2
namespace L2
open PySem PySem.Spec PyProof.Rows
section
variable {X : Cx}
end
end L2
namespace L2
open PySem PySem.Spec PyProof.Rows
theorem b9A {M : Model} {A : Around} {E : Value -> Shared -> Prop} {s : Shared} {a : Addr} {Q : Option Obj -> Shared -> Prop} (h : Q (s.heap.get? a) s) : wpAny M A (loadIfAlive a) Q E s := fun Γ p _ => by
 unfold loadIfAlive
 rw [Sem.wp_loadIfAlive]
 exact h
section
variable {prog : Program} {w : World} {A : Around} {E : Value -> Shared -> Prop} {s : Shared}
end
end L2
namespace L2
open PySem PySem.Spec PyProof.Rows
theorem a7c : entryFor table "dict.update.loop" = some Builtin.«dict.update.loop» := entryFor_of_tree (by kernel_rfl)
theorem a2o : plainId "dict.update.loop" = true := by decide +kernel
section
variable {prog : Program} {w : World} {A : Around} {R : Result -> Shared -> Prop}
end
section
variable {prog : Program} {w : World} {A : Around} {E : Value -> Shared -> Prop} {s : Shared}
end
section
variable {X : Cx} {e : Expr} {te : TE} {x x' : Str} {p p' pos pos' : Pos}
end
end L2
namespace L2
open PySem PySem.Spec PyProof.Rows
structure b9V (P : Params) (K : PySem.W.Frag) (p : Addr) : Prop where
 ex : ∃ (es : Array DictEntry) (n : Nat), K.lookup p = some ⟨.type "dict", none, .dict es n, #[]⟩ /\ PySem.W.KeysLit P es.toList
 lo : (p == sysModules) = false
def d0c (K : PySem.W.Frag) (to ty : TE) : TE := fun σ H Q => to σ H fun x H1 => ty σ H1 fun y H2 => ∃ p z f, x = .ref p /\ y = .str z /\ PySem.W.nsIn K p z = some (some (.ref f)) /\ Q (.ref f) H2
def tKIn (K : PySem.W.Frag) (ty to : TE) : TE := fun σ H Q => ty σ H fun y H1 => to σ H1 fun x H2 => ∃ p z r, x = .ref p /\ y = .str z /\ PySem.W.nsIn K p z = some r /\ Q (.bl r.isSome) H2
section
variable {X : Cx} {i o : Expr} {to ty : TE} {pos : Pos}
theorem c0o {p : Addr} (D : b9V X.w.params X.K p) (ho : PE X o (tC (.ref p))) (hi : PE X i ty) (hs : NoSl i) : PE X (.Subscript o i pos) (d0c X.K (tC (.ref p)) ty) := by
 intro pins s σ H Q I h
 obtain ⟨es, n, hl, hk⟩ := D.ex
 refine c3x PySem.F.slot_dict_getitem.lookup hs (thn (ho pins s σ H (fun x H1 => x = .ref p /\ ty σ H1 fun y H2 => ∃ p z f, x = .ref p /\ y = .str z /\ PySem.W.nsIn X.K p z = some (some (.ref f)) /\ Q (.ref f) H2) I ⟨rfl, h⟩) fun u s1 ⟨x, H1, I1, rx, ex, q1⟩ => thn (hi pins s1 σ H1 _ I1 q1) fun iv s2 ⟨y, H2, I2, ry, p', z, f, ex', ey, e, q2⟩ => ?_)
 subst ex
 cases ex'
 subst ey
 obtain rfl : u = Value.ref p := rx
 obtain ⟨t, rfl⟩ := ry
 have hm := PySem.W.mapOf_K (prog := X.prog) (w := X.w) I2.kIn hl hk
 exact ⟨hm.typeIs, wpAny_getItem_of (PySem.strKind_is X.prog X.w z t) hm (PySem.W.find_K hl e) ⟨.ref f, H2, I2.tok _, rfl, q2⟩⟩
theorem c4G {p : Addr} (D : b9V X.w.params X.K p) (hi : PE X i ty) (ho : PE X o (tC (.ref p))) : PC X .In i o (tKIn X.K ty (tC (.ref p))) := by
 intro pins s σ H Q I h
 obtain ⟨es, n, hl, hk⟩ := D.ex
 refine thn (hi pins s σ H _ I h) fun iv s1 ⟨y, H1, I1, ry, q1⟩ => thn (ho pins s1 σ H1 (fun x H2 => x = .ref p /\ ∃ p z r, x = .ref p /\ y = .str z /\ PySem.W.nsIn X.K p z = some r /\ Q (.bl r.isSome) H2) I1 ⟨rfl, q1⟩) fun u s2 ⟨x, H2, I2, rx, ex, p', z, r, ex', ey, e, q2⟩ => ?_
 subst ex
 cases ex'
 subst ey
 obtain rfl : u = Value.ref p := rx
 obtain ⟨t, rfl⟩ := ry
 refine wpAny_in_of (PySem.strKind_is X.prog X.w z t) D.lo (PySem.W.mapOf_K (prog := X.prog) (w := X.w) I2.kIn hl hk) ?_
 rw [PySem.W.find_K hl e]
 exact ⟨.bl r.isSome, H2, I2.tok _, rfl, q2⟩
end
theorem b8m (o i : Expr) (p : Pos) (args : List Expr) (keywords : List Keyword) (pos : Pos) (env : Env) : eval (.Call (.Subscript o i p) args keywords pos) env = (do
 callWith pos (<- eval (.Subscript o i p) env) [] (backTo pos (starEach args env)) (backToKw pos (keywordEach keywords env))) := rfl
def c9C (mg : Str -> Option Value) (x : Str) (sp : Sp) (E : XK) (tf : TE) (t : TA) : TE := fun σ H Q => tf σ H fun y H1 => ∃ f, y = .ref f /\ mg x = some (.ref f) /\ t σ H1 fun vs H2 => sp (vs ++ []) H2 Q E
section
variable {X : Cx} {CX : CXT} {k : Nat} {ps : List Str} {sp : Sp} {E : XK} {x : Str} {p pos : Pos} {o i e : Expr} {es : List Expr} {tf : TE} {t : TA}
theorem c10 (G : a0q X.prog X.w X.K X.mg X.base CX k x ps sp) (hr : Room k X.A) (hx : a7M CX X E) (hf : PE X (.Subscript o i p) tf) (ha : PA X (e :: es) t)
 (he : starEach (e :: es) X.env = (false, eval e X.env) :: starEach es X.env := by rfl) (hpl : (backTo pos (starEach es X.env)).any (·.1) = false := by rfl) : PE X (.Call (.Subscript o i p) (e :: es) [] pos) (c9C X.mg x sp E tf t) := by
 obtain ⟨f, fd, F, hm, hk, hb⟩ := G.ex
 intro pins s σ H Q I h
 rw [b8m]
 refine wpAny_bind (thn (hf pins s σ H _ I h) fun u s1 ⟨y, H1, I1, ry, f', ey, hm', q⟩ => ?_)
 subst ey
 rw [hm] at hm'
 cases hm'
 obtain rfl : u = Value.ref f := ry
 refine PySem.W.callWith_K (h₀ := X.base) I1.ok.mod.kin hk (thn (ha pos pins s1 σ H1 _ I1 q) fun us s2 ⟨vs, H2, I2, r, q2⟩ => ⟨I2.kIn, ?_⟩) he hpl
 exact c16 F hr hb .nil hx I2 r q2
end
theorem a7K : ∀ l : List (Str × Tok), Vals ((l.map (·.1)).map V.str) (strValues l)
 | [] => .nil
 | q :: r => .cons ⟨q.2, rfl⟩ (a7K r)
end L2
namespace L2
open PySem PySem.Spec PyProof.Rows
section
variable {X : Cx}
theorem c4B (hc : X.calm = true) : a8g X (.builtin "sum") (fun xs H Q => ∃ (p : Addr) (zs : List Int), xs = [.ref p] /\ SqL X.K H p (zs.map V.int) /\ Q (.int (zs.sum)) H) := by
 intro pins s σ H xs us Q I r h
 obtain ⟨p, zs, rfl, hp, q⟩ := h
 obtain ⟨u, rfl, rx⟩ := b3o r
 cases rx
 obtain ⟨its, r', pl, hz⟩ := I.list hp
 have hi := a9C r'
 obtain ⟨xs, e⟩ := hi.allInts.items
 have hns : zs = xs.toList.map (·.1) := by rw [<- hi.numsOf, <- nums_intItems, <- e]
 have hl := pl.isList
 rw [e] at hl
 refine sum_intListG (I.ok.hd hc) hl fun h' tk t' hk => ⟨.int zs.sum, H, I.kept hk, ?_, q⟩
 rw [preSum_eq, List.take_of_length_le (by simp), <- hns]
 exact ⟨_, rfl⟩
theorem c46 (hc : X.calm = true) : a8g X (.builtin "max") (fun xs H Q => ∃ (p : Addr) (zs : List Int), xs = [.ref p] /\ SqL X.K H p (zs.map V.int) /\ 0 < zs.length /\ ∀ M, M ∈ zs -> (∀ a ∈ zs, a <= M) -> Q (.int M) H) := by
 intro pins s σ H xs us Q I r h
 obtain ⟨p, zs, rfl, hp, hne, q⟩ := h
 obtain ⟨u, rfl, rx⟩ := b3o r
 cases rx
 obtain ⟨its, r', pl, hz⟩ := I.list hp
 have hi := a9C r'
 obtain ⟨xs, e⟩ := hi.allInts.items
 have hns : zs = xs.toList.map (·.1) := by rw [<- hi.numsOf, <- nums_intItems, <- e]
 have hl := pl.isList
 rw [e] at hl
 have hsz : 0 < xs.size := by
  have h3 := hne; rw [hns, List.length_map, Array.length_toList] at h3; exact h3
 refine max_intList (I.ok.hd hc) hl hsz fun v h' tk hv hk => ?_
 obtain ⟨t, rfl⟩ := intItems_at hv
 obtain ⟨h1, h2⟩ := argBest_gt (numAt xs) (xs.size - 1)
 refine ⟨.int _, H, I.kept hk, ⟨t, rfl⟩, q _ ?_ fun a ha => ?_⟩
 ·rw [hns, numAt_eq]; exact getD_mem (by rw [List.length_map, Array.length_toList]; omega)
 ·rw [hns] at ha
  obtain ⟨j, hj, rfl⟩ := mem_getD ha
  rw [List.length_map, Array.length_toList] at hj
  rw [<- numAt_eq]; exact h2 j (by omega)
theorem c3w (hc : X.calm = true) : a8g X (.builtin "min") (fun xs H Q => ∃ (p : Addr) (zs : List Int), xs = [.ref p] /\ SqL X.K H p (zs.map V.int) /\ 0 < zs.length /\ ∀ M, M ∈ zs -> (∀ a ∈ zs, M <= a) -> Q (.int M) H) := by
 intro pins s σ H xs us Q I r h
 obtain ⟨p, zs, rfl, hp, hne, q⟩ := h
 obtain ⟨u, rfl, rx⟩ := b3o r
 cases rx
 obtain ⟨its, r', pl, hz⟩ := I.list hp
 have hi := a9C r'
 obtain ⟨xs, e⟩ := hi.allInts.items
 have hns : zs = xs.toList.map (·.1) := by rw [<- hi.numsOf, <- nums_intItems, <- e]
 have hl := pl.isList
 rw [e] at hl
 have hsz : 0 < xs.size := by
  have h3 := hne; rw [hns, List.length_map, Array.length_toList] at h3; exact h3
 refine min_intList (I.ok.hd hc) hl hsz fun v h' tk hv hk => ?_
 obtain ⟨t, rfl⟩ := intItems_at hv
 obtain ⟨h1, h2⟩ := argBest_lt (numAt xs) (xs.size - 1)
 refine ⟨.int _, H, I.kept hk, ⟨t, rfl⟩, q _ ?_ fun a ha => ?_⟩
 ·rw [hns, numAt_eq]; exact getD_mem (by rw [List.length_map, Array.length_toList]; omega)
 ·rw [hns] at ha
  obtain ⟨j, hj, rfl⟩ := mem_getD ha
  rw [List.length_map, Array.length_toList] at hj
  rw [<- numAt_eq]; exact h2 j (by omega)
end
structure FnV (P : Program) (w : World) (K : PySem.W.Frag) (mg : Str -> Option Value) (base : Heap) (k : Nat) (fa : Addr) (sp : Sp) : Prop where
 kp : PySem.W.keepIn K (.ref fa) = true
 run : ∀ (A : Around) (outer : List Env) (s : Shared) (H : Hp) (us : List Value) (vs : List V) (Q : VK) (E : XK), Room k A -> Env0 P w K mg base A outer s H -> K.In s.heap -> Vals vs us -> sp vs H Q E ->
  codeAny (model P w) A (.call (.ref fa) ⟨us, []⟩) (CR CX0 outer P w H s Q E) s
theorem a0q.fnv {P : Program} {w : World} {K : PySem.W.Frag} {mg : Str -> Option Value} {base : Heap} {k : Nat} {x : Str} {ps : List Str} {sp : Sp} (G : a0q P w K mg base CX0 k x ps sp) : ∃ f, mg x = some (.ref f) /\ FnV P w K mg base k f sp := by
 obtain ⟨f, fd, F, hm, hk, hb⟩ := G.ex
 refine ⟨f, hm, hk, fun A outer s H us vs Q E hr e0 kin r q => ?_⟩
 have hl : us.length = ps.length := by rw [<- r.length]; exact F.len vs H Q E q
 have := hb s us kin (by rw [List.append_nil]; exact hl)
 rw [List.append_nil] at this
 exact F.run A outer s H ⟨us, []⟩ us vs Q E hr e0 this r q
def c9p (P : Program) (w : World) (K : PySem.W.Frag) (mg : Str -> Option Value) (base : Heap) (k : Nat) (m : Str) (ta : TE) (t : TA) : TE := fun σ H Q => ta σ H fun x H1 => ∃ a C dx fs fa sp, x = .ref a /\ H1 a = some (.ins C dx fs) /\ Cls K C /\ a1m K C m /\ fs.lookup m = some (.ref fa) /\ FnV P w K mg base k fa sp /\ t σ H1 fun vs H2 => sp vs H2 Q E0
section
variable {X : Cx} {k : Nat} {m : Str} {p pos apos : Pos} {e o : Expr} {es : List Expr} {ta : TE} {t : TA}
theorem c5B {pl : Sem Bool} (he : PE X o ta) (hr : Room k X.A) (ha : PA X (e :: es) t)
 (hst : starEach (e :: es) X.env = (false, eval e X.env) :: starEach es X.env := by rfl) (hpl : (backTo pos (starEach es X.env)).any (·.1) = false := by rfl)
 (ht : eval (.Call (.Attribute o m apos) (e :: es) [] pos) X.env = (do
  let ov <- eval o X.env
  standAt apos.atName
  let (f, first) <- holding [ov] (getMethod ov m pl)
  callWith pos f first (backTo pos (starEach (e :: es) X.env)) (backToKw pos (keywordEach [] X.env))) := by rfl) :
 PE X (.Call (.Attribute o m apos) (e :: es) [] pos) (c9p X.prog X.w X.K X.mg X.base k m ta t) := by
 intro pins s σ H Q I h
 refine PySem.W.methodCall_KW (pl := pl) (thn (he pins s σ H _ I h) fun u s1 ⟨x, H1, I1, rx, a, C, dx, fs, fa, sp, ex, ea, c, n, l, F, q⟩ => ?_) ht
 subst ex
 obtain rfl : u = Value.ref a := rx
 obtain ⟨mA, O, _, _, _, _⟩ := b2K I1.hok ea
 obtain ⟨od, J, _⟩ := O.look
 refine PySem.W.method_usual (r := none) I1.kIn J (PySem.W.plainGet_of (c.get m)).1 (PySem.W.plainGet_of (c.get m)).2 n rfl ?_
 refine a9v I1 ea c n l fun u2 s2 I2 ru => ?_
 obtain rfl : u2 = Value.ref fa := ru
 refine PySem.W.callWith_K (h₀ := X.base) I2.ok.mod.kin F.kp (thn (ha pos pins s2 σ H1 _ I2 q) fun us s3 ⟨vs, H2, I3, r, q2⟩ => ⟨I3.kIn, ?_⟩) hst hpl
 refine wpAny_call (codeAny_mono (F.run X.A X.stack s3 H2 us vs Q E0 hr I3.env0 I3.kIn r q2) fun r s' hq => ?_)
 cases r with
 | error e => exact False.elim hq
 | ok fl =>
  cases fl with
  | ret u => exact I3.after hq
  | next => exact False.elim hq
  | brk => exact False.elim hq
  | cont => exact False.elim hq
end
end L2
namespace L2
open PySem PySem.Spec PyProof.Rows
def TabQ (P : Addr) (S : List (Nat × Nat × Addr)) : HO := .ext fun h => ∃ ps : Array Value, h.get? P = some (PySem.W.tabObj ps) /\ TriplesOk ps.toList /\ ∀ pos cv, codeAmong pos ps.toList = some cv -> ∃ c, (pos.line, pos.col, c) ∈ S /\ cv = .ref c
theorem c4r {P : Program} {w : World} {H : Hp} {h : Heap} {a : Addr} {ps : Array Value} {S : List (Nat × Nat × Addr)} (e : h.get? a = some (PySem.W.tabObj ps)) (t : TriplesOk ps.toList) (c : ∀ pos cv, codeAmong pos ps.toList = some cv -> ∃ c, (pos.line, pos.col, c) ∈ S /\ cv = .ref c) : a2X P w H h a (TabQ a S) :=
 ⟨⟨ps, e, t, c⟩, ⟨_, e⟩, fun h1 h2 ⟨qs, e1, t1⟩ k => ⟨qs, k _ e1, t1⟩⟩
theorem b6M {pos : Pos} {l c : Nat} {a : Addr} {cv : Value} : ∀ {xs : List Value}, TriplesOk xs -> codeAmong pos (xs ++ [rawInt l, rawInt c, .ref a]) = some cv -> codeAmong pos xs = some cv ∨ (cv = .ref a /\ pos.line = l /\ pos.col = c)
 | [], _, h => by
  right
  simp only [List.nil_append, rawInt, codeAmong] at h
  split at h
  ·rename_i e
   rw [Bool.and_eq_true, beq_iff_eq, beq_iff_eq] at e
   exact ⟨(Option.some.inj h).symm, by omega, by omega⟩
  ·cases h
 | .int x _ :: .int y _ :: z :: rest, t, h => by
  simp only [List.cons_append, codeAmong] at h ⊢
  split at h
  ·rename_i e
   rw [if_pos e]
   exact .inl h
  ·rename_i e
   rw [if_neg e]
   exact b6M (xs := rest) t h
def c06 (q name : Str) (params : Arguments) (body : List Stmt) (scope : Scope) (clos : List (Str × Addr)) (H : Hp) (fa : Addr) : Prop :=
 ∃ doc pm c ctv o, H fa = some (Fz (PySem.W.fnMade name q params body scope clos doc pm c ctv)) /\ H c = some (Fz o) /\ c5A q o
section
variable {X : Cx} {pins : List (Addr × Obj)} {σ : St} {H : Hp} {s : Shared} {P : Addr}
theorem c3S {φ : Heap -> Prop} {h' : Heap} {tk : Nat} {c' : Addr} {oc fo oP : Obj} {nt : HO} (I : Inv X pins σ H s) (hP : H P = some (.ext φ)) (e : s.heap.get? P = some oP) (hx : Heap.ExtBut P s.heap h') (hge : s.heap.objs.size <= c') (hlt : c' < h'.objs.size) (goc : h'.get? c' = some oc) (htb : ∃ o, h'.get? P = some o) (hfo : fo.isFreed = false)
 (ntk : a2X X.prog X.w (upd H P nt) (h'.push fo) P nt) :
 Inv X pins σ (upd (upd (upd H P nt) c' (Fz oc)) h'.objs.size (Fz fo)) { s with heap := h'.push fo, toks := tk } /\ H h'.objs.size = none /\ H c' = none /\ c' ≠ P /\ h'.objs.size ≠ P /\ h'.objs.size ≠ c' /\
  ∀ b o, b ≠ P -> H b = some o -> upd (upd (upd H P nt) c' (Fz oc)) h'.objs.size (Fz fo) b = some o := by
 have nP : ∀ b, H b = none -> b ≠ P := fun b n z => by rw [z, hP] at n; cases n
 have hPlt : P < s.heap.objs.size := Heap.lt_size e
 have goc' : (h'.push fo).get? c' = some oc := Heap.get?_push_of_some _ goc
 have cP : c' ≠ P := Nat.ne_of_gt (Nat.lt_of_lt_of_le hPlt hge)
 have aP : h'.objs.size ≠ P := Nat.ne_of_gt (Nat.lt_of_lt_of_le hPlt (Nat.le_of_lt (Nat.lt_of_le_of_lt hge hlt)))
 have ac : h'.objs.size ≠ c' := Nat.ne_of_gt hlt
 have fr : ∀ b, s.heap.objs.size <= b -> H b = none := fun b z => I.hok.fresh z
 have hk : ∀ b u, b ≠ P -> s.heap.get? b = some u -> (h'.push fo).get? b = some u := fun b u nb eb => Heap.get?_push_of_some _ (hx b u nb eb)
 obtain ⟨oP', htb⟩ := htb
 have hok1 : HOk X.prog X.w (upd H P nt) (h'.push fo) := I.hok.write (x := P) (e := P) (by rw [hP]; trivial) (.inl rfl) hk ⟨_, Heap.get?_push_of_some _ htb⟩ ntk
 have n1 : upd H P nt c' = none := by rw [a0m cP]; exact fr _ hge
 have hok2 := c1J hok1 n1 goc'
 have n2 : upd (upd H P nt) c' (Fz oc) h'.objs.size = none := by rw [a0m ac, a0m aP]; exact fr _ (Nat.le_of_lt (Nat.lt_of_le_of_lt hge hlt))
 have hok3 := c1J hok2 n2 (Heap.get?_push_size _ hfo)
 have sm : ∀ b, b ≠ P -> H b ≠ none -> upd (upd (upd H P nt) c' (Fz oc)) h'.objs.size (Fz fo) b = H b := fun b z1 z2 => by
  have y1 : b ≠ h'.objs.size := fun z => z2 (by rw [z]; exact fr _ (Nat.le_of_lt (Nat.lt_of_le_of_lt hge hlt)))
  have y2 : b ≠ c' := fun z => z2 (by rw [z]; exact fr _ hge)
  rw [a0m y1, a0m y2, a0m z1]
 have sv : ∀ b o, b ≠ P -> H b = some o -> upd (upd (upd H P nt) c' (Fz oc)) h'.objs.size (Fz fo) b = some o := fun b o z1 z2 => by
  rw [sm b z1 (by rw [z2]; intro z; cases z)]; exact z2
 have J := I.step (h' := h'.push fo) (g' := s.gens) (t' := tk) (d' := s.drawn) (ch := []) (fun _ z => nomatch z)
  (fun b o _ _ _ eb n => hk b o (nP b n) eb) (fun b o _ _ _ eb n => ⟨o.slots, hk b o (nP b n) eb⟩)
  (fun b o _ eb n => by rw [a0m (Nat.ne_of_lt (Nat.lt_of_lt_of_le (Heap.lt_size eb) (Nat.le_of_lt (Nat.lt_of_le_of_lt hge hlt)))), a0m (Nat.ne_of_lt (Nat.lt_of_lt_of_le (Heap.lt_size eb) hge)), a0m (nP b n)]; exact n)
  (fun b o _ eb => by
   by_cases z : b = P
   ·subst z; exact ⟨_, Heap.get?_push_of_some _ htb⟩
   ·exact ⟨o, hk b o z eb⟩)
  (fun b xs z => sv b _ (fun y => by rw [y, hP] at z; cases z) z) (fun b o u z => sv b _ (fun y => by rw [y, hP] at z; cases z) z) (fun b ps z => ⟨#[], by rw [sv b _ (fun y => by rw [y, hP] at z; cases z) z]; simp⟩)
  (fun m ⟨o, es, ep, ho, r⟩ => ⟨o, es, ep, hk _ o (nP _ I.free) ho, r⟩) hok3 I.bare
 exact ⟨J, fr _ (Nat.le_of_lt (Nat.lt_of_le_of_lt hge hlt)), fr _ hge, cP, aP, ac, sv⟩
end
def c9Z (P : Addr) (pos : Pos) (i : Nat) (q name : Str) (params : Arguments) (body : List Stmt) (scope : Scope) (clos : List (Str × Addr)) : TS := fun D σ H => H P = some (TabC P []) /\
 ∀ a c H', H a = none -> a7z P H H' -> H' P = some (TabQ P [(pos.line, pos.col, c)]) -> c06 q name params body scope clos H' a -> D.nx (σ.set i (some (.ref a))) H'
section
variable {X : Cx}
theorem c7M {name : Str} {params : Arguments} {body : List Stmt} {scope : Scope} {pos : Pos} {c P : Addr} {clos : List (Str × Addr)} {i : Nat} (M : a5Y X.mg X.base c P) (hc : X.env.code = .ref c) (hcl : closureFor scope X.env = pure clos) (hd0 : params.defaults = []) (hk0 : params.kw_defaults = []) (ha : annTrees params none X.env = [])
 (hN : X.N.Nodup) (hi : X.N[i]? = some name) (hx : Loc X.env.scope name) (hf : X.fn name = true ∨ X.env.scope.names.lookup name = some .local) :
 PS X (.FunctionDef name params body [] none [] scope none name pos) (c9Z P pos i (qualnameIn X.env name name) name params body scope clos) := by
 intro pins s σ H D I h
 obtain ⟨hP, q⟩ := h
 obtain ⟨⟨ps, e, t, tc⟩, _, _⟩ := I.hok P _ hP
 have hg : s.heap.Ns mainGlobals X.mg := I.mod.glob.keeps I.bk
 have C := M.hd.keeps I.bk
 have hb : s.heap.BuiltinsAt X.mg P := let ⟨bm, o, b1, b2, b3, b4, b5, r⟩ := M.bt; ⟨bm, o, b1, b2, b3, b4, I.bk _ _ b5, r⟩
 have hgP : mainGlobals ≠ P := fun z => by
  obtain ⟨o, es, ep, e1, hd, _⟩ := hg
  rw [z, e] at e1; cases e1; cases hd
 have hf0 : ∀ p, codeAmong p ps.toList = none := fun p => by
  cases hz : codeAmong p ps.toList with
  | none => rfl
  | some cv => obtain ⟨d, hd, _⟩ := tc _ _ hz; cases hd
 refine PySem.W.nestDef_K hd0 hk0 ha ?_
 refine PySem.W.makeFunction_K (mg := X.mg) hcl I.ok.glob hg hc C e t (hf0 pos) hgP hb fun c' ctv doc h' tk hx' hge hlt hrec htb => ?_
 obtain ⟨c1, oc, vs, tq, ec, goc, doc', dq⟩ := hrec
 obtain rfl : c' = c1 := by cases ec; rfl
 obtain ⟨J, f1, f2, cP, aP, ac, sv⟩ := c3S (tk := tk) (nt := TabQ P [(pos.line, pos.col, c')]) (fo := PySem.W.fnMade name (qualnameIn X.env name name) params body scope clos doc ((X.mg "__name__").getD .none) c' ctv) I hP e hx' hge hlt goc ⟨_, htb⟩ rfl
  (c4r (Heap.get?_push_of_some _ htb) (a6s t) fun p cv z => by
   rw [Array.toList_append] at z
   rcases b6M t z with z | ⟨z, z1, z2⟩
   ·rw [hf0] at z; cases z
   ·exact ⟨c', by rw [z1, z2]; exact List.mem_cons_self, z⟩)
 refine b5q J hN hi hx (show RelV (.ref h'.objs.size) (.ref h'.objs.size) from rfl) (fun s2 I2 => ⟨_, _, I2, q _ c' _ f1 (fun b o z1 z2 => sv b o z1 z2) ?_ ⟨doc, _, c', ctv, oc, a0d, ?_, vs, tq, doc', dq⟩⟩) hf
 ·rw [a0m (Ne.symm aP), a0m (Ne.symm cP), a0d]
 ·rw [a0m (Ne.symm ac), a0d]
end
end L2
namespace L2
open PySem PySem.Spec PyProof.Rows
def c7A (fa : Addr) (f : Lend) (q name : Str) (params : Arguments) (body : List Stmt) (scope : Scope) (clos : List (Str × Addr)) (n : Nat) (spB : List V -> Hp -> VK -> Prop) : Sp := fun vs H Q _ =>
 vs.length = n /\ c06 q name params body scope clos H fa /\ (∀ b o, f b = some o -> H b = some (Fz o)) /\ spB vs (unl f H) fun v H' => (∀ b o, f b = some o -> H' b = none) -> Q v (lend f H')
theorem c9k {X : Cx} {σ : St} {H₁ : Hp} {f : Lend} {q name : Str} {params : Arguments} {body : List Stmt} {scope : Scope} {fa : Addr} {ps : List Str} {cp : List (Nat × Str)} {cv : List V} {k : Nat} {spB : List V -> Hp -> VK -> Prop} (L : Lent X σ H₁ f)
 (hcell : ∀ x, X.env.scope.names.lookup x = some .cell -> ∃ c, X.env.cells.lookup x = some c)
 (hcv : cp.map (fun p => σ[p.1]?) = cv.map fun v => some (some v))
 (hcp : ∀ p ∈ cp, X.N[p.1]? = some p.2 /\ X.env.scope.names.lookup p.2 = some .cell /\ scope.names.lookup p.2 = some .free)
 (free : ∀ y ∈ scope.names, y.2 = .free -> X.env.scope.names.lookup y.1 = some .cell)
 (kind : scope.kind = .function) (co : scope.isCoroutine = false) (gen : scope.isGenerator = false) (nocell : ∀ y ∈ scope.names, y.2 ≠ .cell) (par : ∀ x ∈ ps, scope.names.lookup x = some .local) (nd : (ps ++ cp.map (·.2)).Nodup)
 (hb : ∀ (doc pm ctv : Value) (c : Addr) (clos : List (Str × Addr)) (us : List Value), us.length = ps.length -> bindArgs (PySem.W.fnX name q params body scope clos .none .none doc pm none (.ref c) ctv) ⟨us, []⟩ = pure (ps.zip us))
 (hbody : ∀ (cd : Value) (A : Around) (outer : List Env) (s : Shared) (H : Hp) (vs : List V) (Q : VK), Room k (A.deeper (PySem.W.envX q scope s.heap.objs.size fa cd (a06 X.env.cells scope.names []))) -> spB vs H Q ->
  ∃ t, PSs (b28 X.prog X.w X.K X.mg X.base (ps ++ cp.map (·.2)) q scope fa cd (a06 X.env.cells scope.names []) A outer s H) body t /\ t { nx := fun _ _ => False, rt := Q } ((vs ++ cv).map some) H) :
 a3n X.prog X.w X.K X.mg X.base (k + 1) fa (c7A fa f q name params body scope (a06 X.env.cells scope.names []) ps.length spB) := by
 have sub := a7q (cells := X.env.cells) (names := scope.names) (acc := []) (fun y hy e => hcell _ (free y hy e)) (fun x c e => by cases e)
 refine ⟨fun vs H Q E ⟨_, ⟨doc, pm, c, ctv, o, e1, _⟩, _⟩ => ⟨_, _, _, _, e1⟩, fun A outer s H us vs Q E hr e0 r ⟨hl, ⟨doc, pm, c, ctv, o, e1, e2, ws, tq, e3, e4⟩, hf, hsp⟩ => ?_⟩
 have hus : us.length = ps.length := by rw [<- r.length]; exact hl
 have hcd : s.heap.CodeRec (.ref c) q := ⟨c, o, ws, tq, rfl, a4l e0.hok e2, e3, e4⟩
 have lim : s.heap.NoLimit := e0.mod.nolimit.keeps fun b o e => (e0.bs b o e).1
 refine codeAny_call_function hr.depth (a4l e0.hok e1) rfl co gen rfl hcd ?_
 rw [hb doc pm ctv c _ us hus]
 refine wpAny_pure (wpAny_newFunctionEnv nocell (fun y hy => par y.1 (List.of_mem_zip hy).1) (fun h₁ hns hsb => ⟨lim.fresh _ hsb, ?_⟩) kind)
 show codeAny _ _ (.func body (PySem.W.envX q scope s.heap.objs.size fa (.ref c) (a06 X.env.cells scope.names []))) _ _
 have hk : ∀ b o, s.heap.get? b = some o -> h₁.get? b = some o := fun b o e => hsb.extBut b o (Nat.ne_of_lt (Heap.lt_size e)) (Heap.get?_push_of_some _ e)
 obtain ⟨t, ht, hq⟩ := hbody (.ref c) A outer s (unl f H) vs _ (hr.deeper _) hsp
 have hok' : HOk X.prog X.w (unl f H) s.heap := c02 e0.hok hf
 have hl2 : (vs ++ cv).length = (ps ++ cp.map (·.2)).length := by
  rw [List.length_append, List.length_append, List.length_map, hl]
  have := congrArg List.length hcv
  rw [List.length_map, List.length_map] at this
  omega
 have cl : ∀ x c, (a06 X.env.cells scope.names []).lookup x = some c -> ∃ o v, f c = some o /\ o.data = .cell v /\ h₁.get? c = some o := fun x c e => by
  obtain ⟨o, v, h1, h2⟩ := L.cell x c (sub x c e)
  exact ⟨o, v, h1, h2, hk _ _ (a4l e0.hok (hf c o h1))⟩
 have unN : ∀ b, H b = none -> unl f H b = none := fun b z => by
  cases e : f b with
  | none => rw [a1C e]; exact z
  | some o => exact a7F e
 have I : Inv (b28 X.prog X.w X.K X.mg X.base (ps ++ cp.map (·.2)) q scope fa (.ref c) (a06 X.env.cells scope.names []) A outer s (unl f H)) [] ((vs ++ cv).map some) (unl f H) { s with heap := h₁, toks := s.toks + (ps.zip us).length } := by
  have noA : ∀ b : Addr, b ∉ (b28 X.prog X.w X.K X.mg X.base (ps ++ cp.map (·.2)) q scope fa (.ref c) (a06 X.env.cells scope.names []) A outer s (unl f H)).ex := fun b z => absurd (show b ∈ ([] : List Addr) from z) (by simp)
  refine ⟨⟨e0.mod, kind, rfl, rfl, Nat.le_refl _, fun y z c h1 h2 => L.inj y z c (sub _ _ h1) (sub _ _ h2), fun y hy => ?_, (fun y c z _ => by cases z), fun _ => hr.hd, Around.frames_deeper e0.frames, .inr ⟨rfl, rfl⟩, fun b z => absurd z (noA b), fun b o z => ⟨(e0.bs b o z).1, unN b (e0.bs b o z).2⟩, e0.bsz, fun b _ _ => noA b, fun b z => absurd z (noA b), e0.funs, fun b z => unN b (e0.frf b z)⟩,
   rfl, e0.bare, Un.kept hk, ⟨_, hns, fun i y v h1 h2 h3 => ?_⟩, fun y c h => ?_, hok'.fresh (Nat.le_refl _), fun y c h => ?_, fun p hp => absurd (show p ∈ ([] : List (Addr × Obj)) from hp) (by simp), hok'.kept hk, by rw [List.length_map]; exact hl2⟩
  ·have hy' : scope.names.lookup y = some .cell ∨ scope.names.lookup y = some .free := hy
   rcases hy' with hy' | hy'
   ·exact absurd rfl (nocell _ (PySem.mem_of_lookup hy'))
   ·exact a2J (PySem.mem_of_lookup hy')
  ·rw [List.getElem?_map] at h2
   have h2' : (vs ++ cv)[i]? = some v := by
    cases z : (vs ++ cv)[i]? with
    | none => rw [z] at h2; cases h2
    | some v' => rw [z] at h2; cases h2; rfl
   by_cases hi : i < ps.length
   ·have h1' : ps[i]? = some y := by
     have : (ps ++ cp.map (·.2))[i]? = some y := h1
     rw [List.getElem?_append_left hi] at this
     exact this
    rw [List.getElem?_append_left (by omega)] at h2'
    obtain ⟨u, hu, ru⟩ := r.get h2'
    exact ⟨u, ru, .inl ⟨par y (List.mem_of_getElem? h1'), c3V (List.nodup_append.mp nd).1 hus h1' hu⟩⟩
   ·have h1' : (cp.map (·.2))[i - ps.length]? = some y := by
     have : (ps ++ cp.map (·.2))[i]? = some y := h1
     rw [List.getElem?_append_right (by omega)] at this
     exact this
    rw [List.getElem?_append_right (by omega), hl] at h2'
    rw [List.getElem?_map] at h1'
    cases hp : cp[i - ps.length]? with
    | none => rw [hp] at h1'; cases h1'
    | some p =>
     rw [hp] at h1'
     cases h1'
     have h4 : σ[p.1]? = some (some v) := by
      have := congrArg (fun l => l[i - ps.length]?) hcv
      simp only [List.getElem?_map, hp, h2', Option.map_some] at this
      exact Option.some.inj this
     obtain ⟨g1, g2, g3⟩ := hcp p (List.mem_of_getElem? hp)
     obtain ⟨c', o', u, k1, k2, k3, k4⟩ := L.val p.1 p.2 v g1 h4 g2
     obtain ⟨c2, k5⟩ := a2J (cells := X.env.cells) (acc := []) (PySem.mem_of_lookup g3)
     have k6 := sub _ _ k5
     rw [k1] at k6
     cases k6
     exact ⟨u, k4, .inr ⟨.inr g3, c', k5, o', hk _ _ (a4l e0.hok (hf c' o' k2)), k3⟩⟩
  ·obtain ⟨o, v, _, z1, z2⟩ := cl y c h
   exact ⟨v, o, z2, z1⟩
  ·obtain ⟨o, v, z, _⟩ := cl y c h
   exact a7F z
 refine codeAny_func (wpAny_mono (ht [] _ _ _ _ I hq) (fun fl s' hs => ?_) fun e s' hs => False.elim hs)
 cases fl with
 | ret u =>
  obtain ⟨v, σ', H', J, rv, qv⟩ := hs
  obtain ⟨u1, u2⟩ := c3s hf e0.hok e0.frf (show Un (frs outer) [] (unl f H) H' s.heap s'.heap from J.base) J.hok
  exact ⟨v, lend f H', J.os, J.bare, u1, u2, rv, qv fun b o e => J.base.free b o (a4l e0.hok (hf b o e)) (a7F e) (by simp [b28])⟩
 | next =>
  obtain ⟨_, _, _, q⟩ := hs
  exact False.elim q
 | brk =>
  obtain ⟨_, _, _, q⟩ := hs
  exact False.elim q
 | cont =>
  obtain ⟨_, _, _, q⟩ := hs
  exact False.elim q
end L2
namespace L2
open PySem PySem.Spec PyProof.Rows
open PySem.StrLaws PySem.Builtin.Str in
theorem a9K (x : Str) (c limit : Nat) : ∀ (n a : Nat) (st : Array Nat × Nat), st.snd <= a -> st.fst.size + n <= limit -> (forIn (List.range' a n) st (occBody x ⟨#[c]⟩ x.length limit)).run.fst.toList = st.fst.toList ++ (List.range' a n).filter (fun i => x.cps.toList[i]? == some c)
 | 0, a, st, _, _ => by simp
 | n + 1, a, st, h1, h2 => by
  rw [List.range'_succ, List.forIn_cons]
  unfold occBody
  have one := subAt_one x c a
  by_cases hc : x.cps.toList[a]? = some c
  ·obtain ⟨g1, g2⟩ := one.mpr hc
   rw [if_pos ⟨⟨⟨by omega, h1⟩, g1⟩, g2⟩]
   have ih := a9K x c limit n (a + 1) (st.fst.push a, a + (⟨#[c]⟩ : Str).length) (by show a + 1 <= a + 1; omega) (by simp; omega)
   refine ih.trans ?_
   rw [List.filter_cons, hc]
   simp
  ·rw [if_neg (fun z => hc (one.mp ⟨z.1.2, z.2⟩))]
   have ih := a9K x c limit n (a + 1) (st.fst, st.snd) (by show st.snd <= a + 1; omega) (by show st.fst.size + n <= limit; omega)
   refine ih.trans ?_
   rw [List.filter_cons]
   have : (x.cps.toList[a]? == some c) = false := by
    cases z : x.cps.toList[a]? == some c with
    | false => rfl
    | true => exact absurd (by simpa using z) hc
   rw [this]
   simp
def a7A (c : Nat) (l : List Nat) : List Nat := (List.range' 0 (l.length + 1)).filter (fun i => l[i]? == some c)
theorem c6j (x : Str) (c : Nat) : Builtin.Str.occurrences x ⟨#[c]⟩ 0 x.length (x.length + 1) = a7A c x.cps.toList := by
 rw [StrLaws.occ_eq]
 have h := a9K x c (x.length + 1) (x.length + 1 - 0) 0 (#[], 0) (Nat.le_refl _) (by show 0 + (x.length + 1 - 0) <= x.length + 1; omega)
 refine h.trans ?_
 unfold a7A
 have : x.cps.toList.length = x.length := by simp [Str.length]
 rw [this]
 simp
theorem b8t {c : Nat} {l : List Nat} (h : c ∉ l) : a7A c l = [] := by
 unfold a7A
 rw [List.filter_eq_nil_iff]
 intro i _ z
 exact h (List.mem_of_getElem? (by simpa using z))
theorem c3r {c : Nat} {w r : List Nat} (h : c ∉ w) : a7A c (w ++ c :: r) = w.length :: (a7A c r).map (· + (w.length + 1)) := by
 unfold a7A
 have e1 : List.range' 0 ((w ++ c :: r).length + 1) = List.range' 0 w.length ++ (w.length :: List.range' (w.length + 1) (r.length + 1)) := by
  have : (w ++ c :: r).length + 1 = w.length + (1 + (r.length + 1)) := by rw [List.length_append, List.length_cons]; omega
  rw [this, <- List.range'_append_1, Nat.zero_add, Nat.add_comm 1, List.range'_succ]
 rw [e1, List.filter_append]
 have e2 : (List.range' 0 w.length).filter (fun i => (w ++ c :: r)[i]? == some c) = [] := by
  rw [List.filter_eq_nil_iff]
  intro i hi z
  have hi' : i < w.length := by simpa using hi
  rw [List.getElem?_append_left hi'] at z
  exact h (List.mem_of_getElem? (by simpa using z))
 rw [e2, List.nil_append, List.filter_cons]
 have e3 : ((w ++ c :: r)[w.length]? == some c) = true := by
  rw [List.getElem?_append_right (Nat.le_refl _), Nat.sub_self]
  simp
 rw [e3, if_pos rfl]
 have e4 : List.range' (w.length + 1) (r.length + 1) = (List.range' 0 (r.length + 1)).map (· + (w.length + 1)) := by
  have e5 : (fun x : Nat => x + (w.length + 1)) = fun x => w.length + 1 + x := funext fun x => Nat.add_comm _ _
  rw [e5, List.map_add_range']
 rw [e4, List.filter_map]
 congr 2
 refine List.filter_congr fun i _ => ?_
 show ((w ++ c :: r)[i + (w.length + 1)]? == some c) = _
 rw [List.getElem?_append_right (by omega), show i + (w.length + 1) - w.length = i + 1 by omega, List.getElem?_cons_succ]
def b0f (c : Nat) (x : Str) : List Str := Builtin.Str.partsBetween x (a7A c x.cps.toList) 1
theorem b2e (x : Str) : Builtin.Str.partsBetween x [] 1 = [x] := by
 simp [Builtin.Str.partsBetween, Builtin.Str.strSub, Str.length]
theorem c7w (x : Str) : 1 <= Builtin.Str.strKind x := by
 unfold Builtin.Str.strKind
 split
 ·exact Nat.le_refl _
 ·split <;> omega
theorem c6u {c : Nat} (hc : c < 256) (x : Str) : Txt.split x ⟨#[c]⟩ = b0f c x := by
 unfold Txt.split b0f
 rw [c6j]
 have hk : Builtin.Str.strKind ⟨#[c]⟩ = 1 := by
  unfold Builtin.Str.strKind
  rw [if_pos (by simp [hc])]
 split
 ·rename_i h
  have h0 : x.length = 0 := by
   rw [hk] at h
   have := c7w x
   rw [Bool.or_eq_true, decide_eq_true_eq, decide_eq_true_eq] at h
   rcases h with h | h
   ·have h' : x.length < 1 := h
    omega
   ·omega
  have e : x.cps.toList = [] := by
   have : x.cps.toList.length = 0 := by simpa [Str.length] using h0
   exact List.length_eq_zero_iff.mp this
  rw [e, b8t (by simp), b2e]
 ·split
  ·rename_i h
   have : a7A c x.cps.toList = [] := by simpa using h
   rw [this, b2e]
  ·rfl
theorem c0C {c : Nat} {x : Str} (h : c ∉ x.cps.toList) : b0f c x = [x] := by
 unfold b0f
 rw [b8t h, b2e]
theorem b9r (x r : Str) (k : Nat) (hx : x.cps.toList.drop k = r.cps.toList) (hl : x.length = r.length + k) (w : Nat) : ∀ (cuts : List Nat) (a : Nat),
 (((a + k) :: (cuts.map (· + k)).map (· + w)).zip (cuts.map (· + k) ++ [x.length])).map (fun p => Builtin.Str.strSub x p.1 p.2) = ((a :: cuts.map (· + w)).zip (cuts ++ [r.length])).map (fun p => Builtin.Str.strSub r p.1 p.2) := by
 have one : ∀ i j, Builtin.Str.strSub x (i + k) (j + k) = Builtin.Str.strSub r i j := fun i j => by
  unfold Builtin.Str.strSub
  congr 1
  apply Array.toList_inj.mp
  rw [Array.toList_extract, Array.toList_extract, List.extract_eq_take_drop, List.extract_eq_take_drop, <- hx, List.drop_drop]
  congr 1
  ·omega
  ·congr 1; omega
 intro cuts
 induction cuts with
 | nil =>
  intro a
  simp only [List.map_nil, List.nil_append, List.zip_cons_cons, List.zip_nil_right, List.map_cons]
  rw [hl, one]
 | cons q cuts ih =>
  intro a
  simp only [List.map_cons, List.cons_append, List.zip_cons_cons]
  rw [one]
  have := ih (q + w)
  have e : q + k + w = q + w + k := by omega
  rw [e]
  rw [<- this]
theorem c1s {c : Nat} {w r : Str} (h : c ∉ w.cps.toList) : b0f c (w ++ ⟨#[c]⟩ ++ r) = w :: b0f c r := by
 have el : (w ++ ⟨#[c]⟩ ++ r).cps.toList = w.cps.toList ++ c :: r.cps.toList := by
  show (w.cps ++ #[c] ++ r.cps).toList = _
  rw [Array.toList_append, Array.toList_append]
  simp
 have ew : w.cps.toList.length = w.length := by simp [Str.length]
 have en : (w ++ ⟨#[c]⟩ ++ r).length = r.length + (w.length + 1) := by
  have := congrArg List.length el
  have e1 : (w ++ ⟨#[c]⟩ ++ r).cps.toList.length = (w ++ ⟨#[c]⟩ ++ r).length := by simp [Str.length]
  have e2 : r.cps.toList.length = r.length := by simp [Str.length]
  rw [e1, List.length_append, List.length_cons, ew, e2] at this
  omega
 unfold b0f
 rw [el, c3r h, ew]
 unfold Builtin.Str.partsBetween
 simp only [List.map_cons, List.cons_append, List.zip_cons_cons, List.map_cons]
 congr 1
 ·unfold Builtin.Str.strSub
  cases w with
  | mk wc =>
   congr 1
   apply Array.toList_inj.mp
   rw [Array.toList_extract, List.extract_eq_take_drop, el]
   show List.take ((⟨wc⟩ : Str).length - 0) (List.drop 0 (wc.toList ++ c :: r.cps.toList)) = wc.toList
   have : (⟨wc⟩ : Str).length = wc.toList.length := by simp [Str.length]
   rw [List.drop_zero, Nat.sub_zero, this]
   simp
 ·have := b9r (w ++ ⟨#[c]⟩ ++ r) r (w.length + 1) (by rw [el, <- ew, List.drop_append]; simp) en 1 (a7A c r.cps.toList) 0
  rw [Nat.zero_add] at this
  exact this
end L2
namespace L2
open PySem PySem.Spec PyProof.Rows
def c43 (h : Heap) (z TI TO i1 i2 : Addr) : Prop := IsZip h z TI TO .none ∨ ∃ (b : Bool) (a : Addr) (o : Obj), h.get? z = some { cls := .type "zip", dict := none, data := .fields #[rawInt a, .bool b, .bool false, .ref TI, .ref TO], slots := #[] } /\ h.get? a = some o /\ a ≠ z /\ a ≠ TO /\ a ≠ i1 /\ a ≠ i2 /\ o.cls = .type "tuple"
section
variable {prog : Program} {w : World} {A : Around} {E : Value -> Shared -> Prop} {s : Shared}
theorem c3o {z a TI TO : Addr} {b : Bool} {oa : Obj} {Q : Bool -> Shared -> Prop} (hz : s.heap.get? z = some { cls := .type "zip", dict := none, data := .fields #[rawInt a, .bool b, .bool false, .ref TI, .ref TO], slots := #[] }) (ha : s.heap.get? a = some oa)
 (hQ : ∀ h' b', h'.get? z = some { cls := .type "zip", dict := none, data := .fields #[rawInt a, .bool b', .bool false, .ref TI, .ref TO], slots := #[] } -> Heap.SameBut z s.heap h' -> Q false { s with heap := h' }) : wpAny (model prog w) A (Builtin.SmallTypes.ownedTupleIsFree (.ref z)) Q E s := by
 unfold Builtin.SmallTypes.ownedTupleIsFree
 refine wpAny_bind (wpAny_field hz rfl (x := rawInt a) rfl ?_)
 show wpAny _ _ (loadIfAlive ((a : Int).toNat) >>= _) _ _ _
 refine wpAny_bind (b9A ?_)
 rw [Int.toNat_natCast]
 show wpAny _ _ (if (s.heap.get? a).isNone = true then _ else _) _ _ _
 rw [ha, if_neg (by simp)]
 refine wpAny_bind (wpAny_field hz rfl (x := .bool b) rfl ?_)
 cases b with
 | true =>
  rw [if_neg (by decide)]
  exact wpAny_pure (hQ s.heap true hz ⟨rfl, fun _ _ => rfl⟩)
 | false =>
  rw [if_pos (by decide)]
  refine wpAny_bind (wpAny_setField_rec hz (by simp) fun h₅ he₅ hs₅ => ?_)
  exact wpAny_pure (hQ h₅ true he₅ hs₅)
theorem c54 {z TI TO i1 i2 l1 l2 : Addr} {k : Nat} {xs ys : Array Value} {x y : Value} {Q : Option Value -> Shared -> Prop} (D : ZipApart z TI TO i1 i2 l1 l2)
 (hz : c43 s.heap z TI TO i1 i2) (hTI : IsPair s.heap TI (.ref i1) (.ref i2)) (hTO : ∃ a b, IsPair s.heap TO a b)
 (h1 : s.heap.IsListIter i1 l1 k) (h2 : s.heap.IsListIter i2 l2 k) (hl1 : s.heap.IsList l1 xs) (hl2 : s.heap.IsList l2 ys) (hx : xs[k]? = some x) (hy : ys[k]? = some y)
 (hQ : ∀ h', c43 h' z TI TO i1 i2 -> (∃ a b, IsPair h' TO a b) -> h'.IsListIter i1 l1 (k + 1) -> h'.IsListIter i2 l2 (k + 1) -> IsPair h' s.heap.objs.size x y ->
  (∀ c o, c ≠ z -> c ≠ TO -> c ≠ i1 -> c ≠ i2 -> s.heap.get? c = some o -> h'.get? c = some o) -> Q (some (.ref s.heap.objs.size)) { s with heap := h' }) :
 wpAny (model prog w) A (pyNext (.ref z)) Q E s := by
 obtain ⟨ta, tb, hTO⟩ := hTO
 have lt : ∀ {c o}, s.heap.get? c = some o -> s.heap.objs.size ≠ c := fun e => Nat.ne_of_gt (Heap.lt_size e)
 have ltI1 : s.heap.objs.size ≠ i1 := by obtain ⟨_, e, _⟩ := h1; exact lt e
 have ltI2 : s.heap.objs.size ≠ i2 := by obtain ⟨_, e, _⟩ := h2; exact lt e
 rcases hz with hz | ⟨b, a, oa, hz, ha, a1, a2, a3, a4, a5⟩
 ·exact wpAny_pyNext_zip_item D hz hTI hTO h1 h2 hl1 hl2 hx hy fun h' b1 b2 b3 b4 b5 b6 hk => hQ h' (.inr ⟨false, _, _, b1, b5, lt hz, lt hTO, ltI1, ltI2, rfl⟩) ⟨_, _, b2⟩ b3 b4 b5 hk
 ·have hT : s.TypeIs (.ref z) "zip" := ⟨_, hz, rfl⟩
  unfold pyNext
  refine wpAny_bind (wpAny_attempt (wpAny_callSpecial?_slot (name := Str.ofString "__next__") hT F.slot_zip_next (wpAny_call_entry F.slot_zip_next hT F.entry_zip_next ?_ (F.args_zip_next_1 _))))
  show wpAny _ _ (field (.ref z) 2 >>= _) _ _ _
  refine wpAny_bind (wpAny_field hz rfl (x := .bool false) rfl ?_)
  show wpAny _ _ (field (.ref z) 3 >>= _) _ _ _
  refine wpAny_bind (wpAny_field hz rfl (x := .ref TI) rfl ?_)
  refine wpAny_bind (wpAny_seqItems hTI rfl ?_)
  show wpAny _ _ (Builtin.SmallTypes.ownedTupleIsFree (.ref z) >>= _) _ _ _
  refine wpAny_bind (c3o hz ha fun h₀ b' hz₀ hs₀ => ?_)
  rw [if_neg (by decide)]
  show wpAny _ _ (forIn (#[Value.ref i1, Value.ref i2] : Array Value) _ _ >>= _) _ _ _
  rw [<- Array.forIn_toList]
  refine wpAny_bind ?_
  simp only [List.forIn_cons, List.forIn_nil]
  refine wpAny_bind (wpAny_bind (wpAny_holding ?_))
  show wpAny _ _ (Builtin.SmallTypes.nextOf (.ref i1) >>= _) _ _ _
  refine wpAny_bind (wpAny_nextOf_list_item (h1.extBut hs₀.extBut D.i1z) (hl1.extBut hs₀.extBut D.l1z) hx fun h₂ h1₂ hs₂ => wpAny_pure (wpAny_pure ?_))
  refine wpAny_bind (wpAny_bind (wpAny_holding ?_))
  show wpAny _ _ (Builtin.SmallTypes.nextOf (.ref i2) >>= _) _ _ _
  refine wpAny_bind (wpAny_nextOf_list_item ((h2.extBut hs₀.extBut D.i2z).extBut hs₂.extBut D.i12.symm) ((hl2.extBut hs₀.extBut D.l2z).extBut hs₂.extBut D.l2i1) hy fun h₄ h2₄ hs₄ => wpAny_pure (wpAny_pure (wpAny_pure ?_)))
  show wpAny _ _ (newTuple [x, y] >>= _) _ _ _
  refine wpAny_bind (wpAny_newTuple ?_)
  have hsz : h₄.objs.size = s.heap.objs.size := by rw [hs₄.1, hs₂.1, hs₀.1]
  have up : ∀ c o, c ≠ z -> c ≠ i1 -> c ≠ i2 -> s.heap.get? c = some o -> (h₄.push { cls := .type "tuple", data := .seq #[x, y] }).get? c = some o := fun c o c1 c3 c4 e => Heap.get?_push_of_some _ (hs₄.extBut _ _ c4 (hs₂.extBut _ _ c3 (hs₀.extBut _ _ c1 e)))
  refine wpAny_pure ⟨_, rfl, wpAny_pure ?_⟩
  show Q (some (.ref h₄.objs.size)) _
  have hT₄ : IsPair (h₄.push { cls := .type "tuple", data := .seq #[x, y] }) h₄.objs.size x y := Heap.get?_push_size _ rfl
  rw [hsz] at hT₄ ⊢
  refine hQ _ (.inr ⟨b', a, oa, Heap.get?_push_of_some _ (hs₄.extBut _ _ D.i2z.symm (hs₂.extBut _ _ D.i1z.symm hz₀)), up _ _ a1 a3 a4 ha, a1, a2, a3, a4, a5⟩) ⟨_, _, up _ _ D.TOz D.TOi1 D.TOi2 hTO⟩ ?_ ?_ hT₄ fun c o c1 _ c3 c4 e => up c o c1 c3 c4 e
  ·exact (h1₂.extBut hs₄.extBut D.i12).at fun o e => Heap.get?_push_of_some _ e
  ·exact h2₄.at fun o e => Heap.get?_push_of_some _ e
theorem c7V {z TI TO i1 i2 l1 l2 : Addr} {k : Nat} {xs ys : Array Value} {Q : Option Value -> Shared -> Prop} (hh : A.handled = none) (D : ZipApart z TI TO i1 i2 l1 l2)
 (hz : c43 s.heap z TI TO i1 i2) (hTI : IsPair s.heap TI (.ref i1) (.ref i2)) (hTO : ∃ a b, IsPair s.heap TO a b)
 (h1 : s.heap.IsListIter i1 l1 k) (h2 : s.heap.IsListIter i2 l2 k) (hl1 : s.heap.IsList l1 xs) (hl2 : s.heap.IsList l2 ys) (hx : xs[k]? = none)
 (hQ : ∀ h', (∀ c o, c ≠ z -> c ≠ TO -> c ≠ i1 -> c ≠ i2 -> s.heap.get? c = some o -> h'.get? c = some o) -> Q none { s with heap := h' }) : wpAny (model prog w) A (pyNext (.ref z)) Q E s := by
 obtain ⟨ta, tb, hTO⟩ := hTO
 rcases hz with hz | ⟨b, a, oa, hz, ha, a1, a2, a3, a4, a5⟩
 ·exact wpAny_pyNext_zip_end hh D hz hTI hTO h1 h2 hl1 hl2 (.inl hx) hQ
 ·have hT : s.TypeIs (.ref z) "zip" := ⟨_, hz, rfl⟩
  unfold pyNext
  refine wpAny_bind (wpAny_attempt (wpAny_callSpecial?_slot (name := Str.ofString "__next__") hT F.slot_zip_next (wpAny_call_entry F.slot_zip_next hT F.entry_zip_next ?_ (F.args_zip_next_1 _))))
  show wpAny _ _ (field (.ref z) 2 >>= _) _ _ _
  refine wpAny_bind (wpAny_field hz rfl (x := .bool false) rfl ?_)
  show wpAny _ _ (field (.ref z) 3 >>= _) _ _ _
  refine wpAny_bind (wpAny_field hz rfl (x := .ref TI) rfl ?_)
  refine wpAny_bind (wpAny_seqItems hTI rfl ?_)
  show wpAny _ _ (Builtin.SmallTypes.ownedTupleIsFree (.ref z) >>= _) _ _ _
  refine wpAny_bind (c3o hz ha fun h₀ b' hz₀ hs₀ => ?_)
  rw [if_neg (by decide)]
  show wpAny _ _ (forIn (#[Value.ref i1, Value.ref i2] : Array Value) _ _ >>= _) _ _ _
  rw [<- Array.forIn_toList]
  refine wpAny_bind ?_
  simp only [List.forIn_cons, List.forIn_nil]
  refine wpAny_bind (wpAny_bind (wpAny_holding ?_))
  show wpAny _ _ (Builtin.SmallTypes.nextOf (.ref i1) >>= _) _ _ _
  refine wpAny_bind (wpAny_nextOf_list_end hh (h1.extBut hs₀.extBut D.i1z) (hl1.extBut hs₀.extBut D.l1z) hx fun h₂ e hs₂ he => ?_)
  obtain ⟨o, ho, hc⟩ := he
  refine wpAny_bind (wpAny_isInstance (T := "StopIteration") (b := true) ⟨o, ho, hc⟩ isSubtype_stop ?_)
  exact wpAny_pure (hQ _ fun c o c1 _ c3 _ e => hs₂ _ _ c3 (hs₀.extBut _ _ c1 e))
end
theorem b8X : entryFor table "zip.__getattribute__" = some Builtin.«object.__getattribute__» :=
 entryFor_alias (id' := "object.__getattribute__") (by kernel_rfl) (by first | rfl | decide +kernel) (by decide +kernel) (by kernel_rfl)
theorem b0I : typeLookup (.type "zip") "__getattr__" = pure none := by rw [typeLookup_type, builtinLookup_eq_fast]; kernel_rfl
theorem b4y : typeLookup (.type "zip") "keys" = pure none := by rw [typeLookup_type, builtinLookup_eq_fast]; kernel_rfl
theorem b8M (a : Addr) (f : Array Value) (u : Tok) :
 Meets (Builtin.«object.__getattribute__» ⟨[.ref a, .str "keys" u], []⟩) (fun A R s => s.heap.get? a = some { cls := .type "zip", dict := none, data := .fields f, slots := #[] } /\ raisesAttr (.ref a) "keys" A R s) :=
 Meets.of_wp fun prog w A R s hs => by
  obtain ⟨hp, g, d, tk, os⟩ := s
  obtain ⟨ho, hs⟩ := hs
  have hT : (⟨hp, g, d, tk, os⟩ : Shared).TypeIs (.ref a) "zip" := ⟨_, ho, rfl⟩
  have hm := b4y
  unfold Builtin.«object.__getattribute__»
  repeat (any_goals (first | assumption | wp_step))
  exact wpAny_raiseAttrError hs.1 hs.2 (attrMsg_fits (by decide +kernel) (by size_fits))
theorem c2F {prog : Program} {w : World} {A : Around} {E : Value -> Shared -> Prop} {s : Shared} {a : Addr} {f : Array Value} {Q : Option Value -> Shared -> Prop} (hA : A.handled = none) (ho : s.heap.get? a = some { cls := .type "zip", dict := none, data := .fields f, slots := #[] })
 (h : ∀ h' tk, (∀ b o, s.heap.get? b = some o -> h'.get? b = some o) -> Q none { s with heap := h', toks := tk }) : wpAny (model prog w) A (getAttr? (.ref a) "keys") Q E s := by
 obtain ⟨hp, g, d, tk, os⟩ := s
 have hT : (⟨hp, g, d, tk, os⟩ : Shared).TypeIs (.ref a) "zip" := ⟨_, ho, rfl⟩
 have hT1 : ∀ t', (⟨hp, g, d, t', os⟩ : Shared).TypeIs (.ref a) "zip" := fun t' => ⟨_, ho, rfl⟩
 have f1 := sub_AttributeError
 have f3 := F.slot_zip_getattribute.lookup
 have f4 := F.slot_zip_getattribute.bind (.ref a)
 have f5 := b0I
 unfold getAttr? getAttrBy? getAttrBy
 repeat (any_goals (first | assumption | exact hT1 _ | ((with_reducible show wpAny _ _ (call (Value.builtin "zip.__getattribute__") _ _) _ _ _); refine call_meets F.slot_zip_getattribute (hT1 _) b8X (F.args_zip_getattribute_2 _ _) (b8M a f _) ⟨ho, hA, fun h' tk' e hx => ?_⟩) | wp_step))
 obtain ⟨t', u', he⟩ := hx.there
 show wpAny _ _ (getattributeRaised _ _ _ _ _ _ _) _ _ _
 unfold getattributeRaised
 repeat (any_goals (first | assumption | wp_step))
 exact h h' tk' hx.keeps
end L2
namespace L2
open PySem PySem.Spec PyProof.Rows
def zipP {α : Type} (zs : List Str) (ys : List α) (n : Nat) : List (Key × α) := ((zs.zip ys).take n).map fun p => ((.inr p.1 : Key), p.2)
theorem b1r {α : Type} {zs : List Str} {ys : List α} {n : Nat} {z : Str} {y : α} (h1 : zs[n]? = some z) (h2 : ys[n]? = some y) : zipP zs ys (n + 1) = zipP zs ys n ++ [((.inr z : Key), y)] := by
 unfold zipP
 have : (zs.zip ys)[n]? = some (z, y) := by rw [List.getElem?_zip_eq_some]; exact ⟨h1, h2⟩
 rw [List.take_add_one, this, List.map_append]
 rfl
theorem c1K {α : Type} (zs : List Str) (ys : List α) (n : Nat) : (zipP zs ys n).length <= n := by
 unfold zipP
 rw [List.length_map, List.length_take]
 exact Nat.min_le_left _ _
theorem c6E {α : Type} {zs : List Str} {ys : List α} {n : Nat} {z : Str} (nd : zs.Nodup) (h1 : zs[n]? = some z) : ∀ kv ∈ zipP zs ys n, kv.1 ≠ (.inr z : Key) := by
 intro kv h e
 unfold zipP at h
 obtain ⟨p, hp, rfl⟩ := List.mem_map.mp h
 have e' : p.1 = z := Sum.inr.inj e
 obtain ⟨i, hi⟩ := List.getElem?_of_mem hp
 rw [List.getElem?_take] at hi
 split at hi
 ·rename_i hlt
  have h3 : zs[i]? = some p.1 := (List.getElem?_zip_eq_some.mp hi).1
  rw [e'] at h3
  have hn : n < zs.length := (List.getElem?_eq_some_iff.mp h1).1
  have hi' : i < zs.length := (List.getElem?_eq_some_iff.mp h3).1
  have := (List.getElem?_inj hi' nd).mp (h3.trans h1.symm)
  omega
 ·cases hi
section
variable {prog : Program} {w : World} {A : Around} {R : Result -> Shared -> Prop}
theorem c5S (hh : A.handled = none) {z TI TO i1 i2 l1 l2 d : Addr} {zs : List Str} {ks ys : List Value} (D : ZipApart z TI TO i1 i2 l1 l2) (hd0 : d ≠ z /\ d ≠ TI /\ d ≠ TO /\ d ≠ i1 /\ d ≠ i2 /\ d ≠ l1 /\ d ≠ l2) (hk : ∀ (i : Nat) (zt : Str), zs[i]? = some zt -> ∃ t, ks[i]? = some (Value.str zt t)) (hlk : ks.length = zs.length) (hly : ys.length = zs.length) (nd : zs.Nodup) (hsz : zs.length <= sizeLine) :
 ∀ (k i : Nat) (s : Shared), zs.length - i = k -> i <= zs.length -> c43 s.heap z TI TO i1 i2 -> IsPair s.heap TI (.ref i1) (.ref i2) -> (∃ a b, IsPair s.heap TO a b) -> s.heap.IsListIter i1 l1 i -> s.heap.IsListIter i2 l2 i -> s.heap.IsList l1 ks.toArray -> s.heap.IsList l2 ys.toArray -> s.heap.DictOf (a0T prog w) d (zipP zs ys i) ->
  (∀ h' tk, h'.DictOf (a0T prog w) d (zipP zs ys zs.length) -> (∀ b o, b ≠ z -> b ≠ TO -> b ≠ i1 -> b ≠ i2 -> b ≠ d -> s.heap.get? b = some o -> h'.get? b = some o) -> R (.ok (.ret .none)) { s with heap := h', toks := tk }) ->
  codeAny (model prog w) A (.builtin "dict.update.loop" ⟨[.ref d, .ref z, rawInt i, .none], []⟩) R s := by
 obtain ⟨dz, dTI, dTO, di1, di2, dl1, dl2⟩ := hd0
 intro k
 induction k with
 | zero =>
  intro i s hk' hi he hTI hTO hit1 hit2 hl1 hl2 hd hR
  have hin : i = zs.length := by omega
  subst hin
  refine codeAny_builtin a7c ?_
  rw [Around.under_plainId a2o _]
  show wpAny _ A.in1 (pyNext (.ref z) >>= _) _ _ s
  refine wpAny_bind (c7V hh D he hTI hTO hit1 hit2 hl1 hl2 (by simp [hlk]) fun h' hx => ?_)
  show wpAny _ A.in1 (Builtin.Dict.addKeywords d [] >>= _) _ _ _
  refine wpAny_bind (wpAny_pure ?_)
  refine wpAny_pure (hR h' s.toks ?_ fun b o h1 h2 h3 h4 _ x => hx b o h1 h2 h3 h4 x)
  obtain ⟨o, es, ep, ho, r⟩ := hd
  exact ⟨o, es, ep, hx d o dz dTO di1 di2 ho, r⟩
 | succ k ih =>
  intro i s hk' hi he hTI hTO hit1 hit2 hl1 hl2 hd hR
  have hlt : i < zs.length := by omega
  obtain ⟨zt, hzt⟩ : ∃ zt, zs[i]? = some zt := ⟨_, List.getElem?_eq_getElem hlt⟩
  obtain ⟨t, hkt⟩ := hk i zt hzt
  obtain ⟨y, hy⟩ : ∃ y, ys[i]? = some y := ⟨_, List.getElem?_eq_getElem (by omega)⟩
  refine codeAny_builtin a7c ?_
  rw [Around.under_plainId a2o _]
  show wpAny _ A.in1 (pyNext (.ref z) >>= _) _ _ s
  refine wpAny_bind (c54 D he hTI hTO hit1 hit2 hl1 hl2 (by simpa using hkt) (by simpa using hy) fun h' he' hTO' hit1' hit2' ht hk' => ?_)
  show wpAny _ A.in1 (holding [Value.ref s.heap.objs.size] _ >>= _) _ _ _
  refine wpAny_bind (wpAny_holding ?_)
  refine wpAny_bind (wpAny_tryCatch ?_)
  unfold Builtin.Dict.pairItems
  refine wpAny_bind (wpAny_typeOf (T := "tuple") (s := { s with heap := h' }) ⟨_, ht, rfl⟩ ?_)
  rw [if_pos (by decide)]
  refine wpAny_bind (wpAny_seqItems (s := { s with heap := h' }) ht rfl ?_)
  refine wpAny_pure ?_
  show wpAny _ A.in1 (holding [Value.str zt t, y] (dictSet d (Value.str zt t) y)) _ _ _
  have ltd : d < s.heap.objs.size := let ⟨_, _, _, ho, _⟩ := hd; Heap.lt_size ho
  have hd' : h'.DictOf (a0T prog w) d (zipP zs ys i) := by
   obtain ⟨o, es, ep, ho, r⟩ := hd
   exact ⟨o, es, ep, hk' d o dz dTO di1 di2 ho, r⟩
  refine wpAny_holding (wpAny_dictSet_pairs (s := { s with heap := h' }) (hsz := Nat.le_trans (c1K _ _ _) (by omega)) (knd := a0T prog w) (k := (.inr zt : Key)) (c3c (k := (.inr zt : Key)) ⟨t, rfl⟩) hd' fun h2 hd2 hs2 => ?_)
  have e1 : stored (zipP zs ys i) (.inr zt : Key) y = zipP zs ys (i + 1) := by
   rw [b1r hzt hy]
   unfold stored
   rw [if_neg]
   intro hany
   obtain ⟨kv, h1, h2⟩ := List.any_eq_true.mp hany
   exact c6E nd hzt kv h1 (of_decide_eq_true h2)
  rw [e1] at hd2
  have oth : ∀ b o, b ≠ z -> b ≠ TO -> b ≠ i1 -> b ≠ i2 -> b ≠ d -> s.heap.get? b = some o -> h2.get? b = some o := fun b o h1 h2 h3 h4 h5 x => (hs2.2 b h5).trans (hk' b o h1 h2 h3 h4 x)
  have he2 : c43 h2 z TI TO i1 i2 := by
   rcases he' with he' | ⟨b, a, oa, he', ha, a1, a2, a3, a4, hta⟩
   ·exact .inl ((hs2.2 z dz.symm).trans he')
   ·refine .inr ⟨b, a, oa, (hs2.2 z dz.symm).trans he', (hs2.2 a (fun y => ?_)).trans ha, a1, a2, a3, a4, hta⟩
    subst y
    obtain ⟨o, es, ep, ho, hc, _⟩ := hd'
    rw [ho] at ha
    cases ha
    have := hc.1
    rw [hta] at this
    exact absurd this (by decide)
  have hc : ((i : Int) + 1) = ((i + 1 : Nat) : Int) := by push_cast; rfl
  obtain ⟨ta, tb, hTO'⟩ := hTO'
  show wpAny _ A.in1 (again _) _ _ _
  refine wpAny_pure ⟨plainId_quiet a2o _, ?_⟩
  show codeAny _ A (.builtin "dict.update.loop" ⟨[.ref d, .ref z, rawInt ((i : Int) + 1), .none], []⟩) R _
  rw [hc]
  exact ih (i + 1) _ (by omega) hlt he2 (oth _ _ D.TIz D.TITO D.TIi1 D.TIi2 dTI.symm hTI) ⟨ta, tb, (hs2.2 TO dTO.symm).trans hTO'⟩ (hit1'.at fun o x => (hs2.2 i1 di1.symm).trans x) (hit2'.at fun o x => (hs2.2 i2 di2.symm).trans x)
   (hl1.at fun o x => oth l1 o D.l1z D.l1TO D.l1i1 D.l1i2 dl1.symm x) (hl2.at fun o x => oth l2 o D.l2z D.l2TO D.l2i1 D.l2i2 dl2.symm x) hd2 fun h3 tk3 hd3 hk3 => hR h3 tk3 hd3 fun b o h1 h2 h3' h4 h5 x => hk3 b o h1 h2 h3' h4 h5 (oth b o h1 h2 h3' h4 h5 x)
end
section
variable {prog : Program} {w : World} {A : Around} {E : Value -> Shared -> Prop} {s : Shared}
theorem c52 {Q : Value -> Shared -> Prop} (hh : A.handled = none) {z TI TO i1 i2 l1 l2 : Addr} {zs : List Str} {ks ys : List Value} (D : ZipApart z TI TO i1 i2 l1 l2) (hk : ∀ (i : Nat) (zt : Str), zs[i]? = some zt -> ∃ t, ks[i]? = some (Value.str zt t)) (hlk : ks.length = zs.length) (hly : ys.length = zs.length) (nd : zs.Nodup) (hsz : zs.length <= sizeLine)
 (he : IsZip s.heap z TI TO .none) (hTI : IsPair s.heap TI (.ref i1) (.ref i2)) (hTO : IsPair s.heap TO .none .none) (hit1 : s.heap.IsListIter i1 l1 0) (hit2 : s.heap.IsListIter i2 l2 0) (hl1 : s.heap.IsList l1 ks.toArray) (hl2 : s.heap.IsList l2 ys.toArray)
 (hQ : ∀ h' tk, h'.DictOf (a0T prog w) s.heap.objs.size (zipP zs ys zs.length) -> (∀ b o, b ≠ z -> b ≠ TO -> b ≠ i1 -> b ≠ i2 -> s.heap.get? b = some o -> h'.get? b = some o) -> Q (.ref s.heap.objs.size) { s with heap := h', toks := tk }) :
 wpAny (model prog w) A (call (.type "dict") [.ref z]) Q E s := by
 refine callType_codes (Q₁ := fun obj s₁ => obj = .ref s.heap.objs.size /\ s₁ = { s with heap := s.heap.push { cls := .type "dict", data := .dict #[] } }) F.kt_called_dict (F.kt_typeCall_dict_1 _) F.entry_dict_init (kt_code_dict_new _ ⟨rfl, rfl⟩) ?_
 rintro obj s₁ ⟨rfl, rfl⟩
 have hnew : (s.heap.push { cls := .type "dict", data := .dict #[] }).DictOf (a0T prog w) s.heap.objs.size [] := Heap.DictOf.new s.heap
 have he1 : IsZip (s.heap.push { cls := .type "dict", data := .dict #[] }) z TI TO .none := Heap.get?_push_of_some _ he
 have lt : ∀ {c o}, s.heap.get? c = some o -> s.heap.objs.size ≠ c := fun e => Nat.ne_of_gt (Heap.lt_size e)
 have q1 : s.heap.objs.size ≠ i1 := by obtain ⟨_, e, _⟩ := hit1; exact lt e
 have q2 : s.heap.objs.size ≠ i2 := by obtain ⟨_, e, _⟩ := hit2; exact lt e
 have q3 : s.heap.objs.size ≠ l1 := by obtain ⟨_, e, _⟩ := hl1; exact lt e
 have q4 : s.heap.objs.size ≠ l2 := by obtain ⟨_, e, _⟩ := hl2; exact lt e
 refine ⟨hnew.typeIs, F.args_dict_init_2 _ _, ?_⟩
 unfold Builtin.«dict.__init__»
 refine wpAny_bind ?_
 unfold Builtin.Dict.selfAndRest
 refine wpAny_bind (wpAny_notOrdered_dict hnew.typeIs ?_)
 show wpAny _ _ (pure (s.heap.objs.size, [Value.ref z])) _ _ _
 refine wpAny_pure ?_
 show wpAny _ _ (Builtin.Dict.updateFrom "dict.__init__" s.heap.objs.size (.ref z) [] .none) _ _ _
 unfold Builtin.Dict.updateFrom
 refine wpAny_bind (wpAny_typeOf (T := "zip") ⟨_, he1, rfl⟩ ?_)
 rw [if_pos (by decide)]
 refine wpAny_bind (c2F (s := { s with heap := s.heap.push { cls := .type "dict", data := .dict #[] } }) hh he1 fun h1 tk1 hk1 => ?_)
 rw [if_pos (by decide)]
 refine wpAny_bind (wpAny_rule ?_)
 have he2 : IsZip h1 z TI TO .none := hk1 _ _ he1
 have hk2 : ∀ b o, s.heap.get? b = some o -> h1.get? b = some o := fun b o x => hk1 b o (Heap.get?_push_of_some _ x)
 refine wpAny_bind (wpAny_pyIter_zip (s := { s with heap := h1, toks := tk1 }) he2 ?_)
 have hd1 : h1.DictOf (a0T prog w) s.heap.objs.size (zipP zs ys 0) := by
  obtain ⟨o, es, ep, ho, r⟩ := hnew
  exact ⟨o, es, ep, hk1 _ _ ho, r⟩
 refine wpAny_pure ⟨plainId_quiet a2o _, ?_⟩
 refine c5S (A := A.in1) hh D ⟨lt he, lt hTI, lt hTO, q1, q2, q3, q4⟩ hk hlk hly nd hsz zs.length 0 { s with heap := h1, toks := tk1 } rfl (Nat.zero_le _) (.inl he2) (hk2 _ _ hTI) ⟨_, _, hk2 _ _ hTO⟩ (hit1.at fun o x => hk2 _ _ x) (hit2.at fun o x => hk2 _ _ x) (hl1.at fun o x => hk2 _ _ x) (hl2.at fun o x => hk2 _ _ x) hd1 fun h3 tk3 hd3 hk3 => ?_
 exact ⟨rfl, hQ h3 tk3 hd3 fun b o h1 h2 h3 h4 x => hk3 b o h1 h2 h3 h4 (Nat.ne_of_lt (Heap.lt_size x)) (hk2 b o x)⟩
end
theorem c6T : (1000 : Nat) <= sizeLine := by decide
def c5Z (K : PySem.W.Frag) (ta : TA) : TE := fun σ H Q => ta σ H fun vs H1 => ∃ p q zs ys, vs = [.ref p, .ref q] /\ SqL K H1 p (zs.map V.str) /\ SqL K H1 q ys /\ ys.length = zs.length /\ zs.length <= 1000 /\ zs.Nodup /\ ∀ d, H1 d = none -> Q (.ref d) (upd H1 d (.dK (zipP zs ys zs.length)))
theorem KV.zipP {zs : List Str} {ys : List V} {its : List Value} (r : Vals ys its) : ∀ n : Nat, KV (L2.zipP zs ys n) (L2.zipP zs its n)
 | 0 => .nil
 | n + 1 => by
  have ih := KV.zipP (zs := zs) r n
  have app : ∀ {a c : List (Key × V)} {b d : List (Key × Value)}, KV a b -> KV c d -> KV (a ++ c) (b ++ d) := by
   intro a c b d h1 h2
   unfold KV at h1 h2 ⊢
   induction h1 with
   | nil => exact h2
   | cons r t ih => exact .cons r ih
  cases e1 : zs[n]? with
  | none =>
   have q : zs.length <= n := List.getElem?_eq_none_iff.mp e1
   have w1 : ∀ {α : Type} (us : List α), L2.zipP zs us (n + 1) = L2.zipP zs us n := fun us => by
    unfold L2.zipP
    rw [List.take_of_length_le (by rw [List.length_zip]; omega), List.take_of_length_le (by rw [List.length_zip]; omega)]
   rw [w1, w1]; exact ih
  | some z =>
   cases e : ys[n]? with
   | none =>
    have h1 := List.getElem?_eq_none_iff.mp e
    have w1 : ∀ {α : Type} (us : List α), us.length = ys.length -> L2.zipP zs us (n + 1) = L2.zipP zs us n := fun us hu => by
     unfold L2.zipP
     rw [List.take_of_length_le (by rw [List.length_zip]; omega), List.take_of_length_le (by rw [List.length_zip]; omega)]
    rw [w1 ys rfl, w1 its r.length.symm]; exact ih
   | some v =>
    obtain ⟨u, e2, ru⟩ := Vals.get r e
    rw [b1r e1 e, b1r e1 e2]
    exact app ih (.cons ⟨rfl, ru⟩ .nil)
section
variable {X : Cx} {e1 e2 : Expr} {ta : TA} {x x' : Str} {p p' pos pos' : Pos}
theorem c21 (hc : X.calm = true) (ha : PA X [e1, e2] ta) (hg : Gl X x) (hm : X.mg x = none) (hv : bootBuiltins x = some (.type "dict")) (hg' : Gl X x') (hm' : X.mg x' = none) (hv' : bootBuiltins x' = some (.type "zip"))
 (hn : x ≠ "__name__" := by decide) (hdb : (x == ("__debug__" : Str)) = false := by decide) (hn' : x' ≠ "__name__" := by decide) (hdb' : (x' == ("__debug__" : Str)) = false := by decide)
 (hs : starEach [e1, e2] X.env = [(false, eval e1 X.env), (false, eval e2 X.env)] := by rfl) (hs2 : starEach [e2] X.env = [(false, eval e2 X.env)] := by rfl) (h2 : starEach [.Call (.Name x' p') [e1, e2] [] pos'] X.env = [(false, eval (.Call (.Name x' p') [e1, e2] [] pos') X.env)] := by rfl) :
 PE X (.Call (.Name x p) [.Call (.Name x' p') [e1, e2] [] pos'] [] pos) (c5Z X.K ta) := by
 intro pins s σ H Q I h
 refine wpAny_Call_Name_kw (b1Y I hg hm hv ?_ hn hdb)
 refine PyProof.Rows.callWith_type1 ?_ h2 rfl
 rw [h2]
 refine Calls.spliced_cons ?_
 refine wpAny_Call_Name_kw (b1Y I hg' hm' hv' ?_ hn' hdb')
 refine PyProof.Rows.callWith_type1 (thn (ha pos' pins s σ H _ I h) fun us s1 ⟨vs, H1, I1, r1, q1⟩ => ?_) (by rw [hs, hs2]) (by rw [hs2]; rfl)
 obtain ⟨p1, p2, zs, ys, ex, hq1, hq2, hly, hlz, nd, k⟩ := q1
 subst ex
 obtain ⟨u1, u2, rfl, ru1, ru2⟩ := c7K r1
 cases ru1
 cases ru2
 obtain ⟨ks, rk, pl1, hz1⟩ := I1.list hq1
 obtain ⟨its, r', pl2, hz2⟩ := I1.list hq2
 have hlk : ks.length = zs.length := by rw [<- rk.length, List.length_map]
 have hli := r'.length
 refine call_zip_2 pl1.isList pl2.isList fun ha' hz hTI hTO hit1 hit2 hsza hka => ?_
 refine Calls.spliced_nil ?_
 have lt1 : p1 < s1.heap.objs.size := by obtain ⟨o, ho, _⟩ := pl1.isList; exact Heap.lt_size ho
 have lt2 : p2 < s1.heap.objs.size := by obtain ⟨o, ho, _⟩ := pl2.isList; exact Heap.lt_size ho
 have I2 : Inv X pins σ H1 { s1 with heap := ha' } := I1.kept (t' := s1.toks) hka
 have hkk : ∀ (i : Nat) (zt : Str), zs[i]? = some zt -> ∃ t, ks[i]? = some (Value.str zt t) := fun i zt hi => by
  have : (zs.map V.str)[i]? = some (V.str zt) := by rw [List.getElem?_map, hi]; rfl
  obtain ⟨u, e, ru⟩ := Vals.get rk this
  obtain ⟨t, rfl⟩ := ru
  exact ⟨t, e⟩
 refine c52 (s := { s1 with heap := ha' }) (zs := zs) (ks := ks) (ys := its) (I2.ok.hd hc) (zipApart_new lt1 lt2) hkk hlk (by omega) nd (Nat.le_trans hlz c6T) hz hTI hTO hit1 hit2 (pl1.isList.at fun o e => hka p1 o e) (pl2.isList.at fun o e => hka p2 o e) fun h' tk hd hk => ?_
 obtain ⟨od, es, ep, hod, hrest⟩ := hd
 have hk0 : ∀ b o, s1.heap.get? b = some o -> h'.get? b = some o := fun b o x => by
  exact hk b o (Nat.ne_of_lt (Nat.lt_add_right 4 (Heap.lt_size x))) (Nat.ne_of_lt (Nat.lt_add_right 3 (Heap.lt_size x))) (Nat.ne_of_lt (Heap.lt_size x)) (Nat.ne_of_lt (Nat.lt_add_right 1 (Heap.lt_size x))) (hka b o x)
 refine ⟨.ref ha'.objs.size, _, I1.laid (t' := tk) (a := ha'.objs.size) (o := .dK (zipP zs ys zs.length)) hk0 (by show s1.heap.objs.size <= ha'.objs.size; omega) ?_, rfl, k _ (I2.hok.fresh (Nat.le_refl _))⟩
 have hnl := c1K zs ys zs.length
 refine ⟨Nat.le_trans hnl (Nat.le_trans hlz c6T), beq_eq_false_iff_ne.mpr (Nat.ne_of_gt (Nat.lt_of_lt_of_le I1.big (by omega))), zipP zs its zs.length, KV.zipP r' _, od, es, ep, hod, hrest⟩
end
theorem d0m : bootBuiltins "zip" = some (.type "zip") := by kernel_rfl
end L2
namespace L2
open PySem PySem.Spec PyProof.Rows
def Itv (K : PySem.W.Frag) (a : Addr) (n : Nat) : It :=
 ⟨fun i H => i < n /\ ∃ xs, SqL K H a xs /\ xs.length = n, fun i H x H' => H' = H /\ ∀ xs, SqL K H a xs -> xs[n - 1 - i]? = some x, fun i H => i = n /\ ∃ xs, SqL K H a xs /\ xs.length = n⟩
theorem c5y {P : Program} {w : World} {K : PySem.W.Frag} {tg : Expr} (a it : Addr) (n : Nat) : Turn P w K tg (Itv K a n) [it] it (fun i h => h.IsRevIter it a ((n : Int) - 1 - (i : Int))) where
 mem := by simp
 obj := fun i h st b hb => by
  have e : b = it := by simpa using hb
  subst e
  obtain ⟨o, e, c, d⟩ := st
  exact ⟨o, e, fun v z => by rw [d] at z; cases z⟩
 keep := fun i h h' st k => st.at fun o e => k it (by simp) o e
 item := by
  intro X hP hw hK hc i pins s σ H E I hf st hg
  subst hP hw hK
  obtain ⟨hlt, xs, hq, hn⟩ := hg
  obtain ⟨its, rv, p, hz⟩ := I.list hq
  have hx : xs[n - 1 - i]? = some (xs[n - 1 - i]'(by omega)) := List.getElem?_eq_getElem (by omega)
  obtain ⟨u, hu, ru⟩ := rv.get hx
  obtain ⟨f0, f1, f2, f3, f4, f5⟩ := hf it (by simp)
  have e : (n : Int) - 1 - (i : Int) = ((n - 1 - i : Nat) : Int) := by omega
  rw [e] at st
  refine wpAny_pyNext_rev_item st p.isList (x := u) (by simpa using hu) fun h' st' sb => ?_
  have e2 : ((n - 1 - i : Nat) : Int) - 1 = (n : Int) - 1 - ((i + 1 : Nat) : Int) := by omega
  rw [e2] at st'
  have I1 : Inv X pins σ H { s with heap := h' } := I.turned (t' := s.toks) (fun b o hb e => (sb.2 b hb).trans e) f0 f1 f3 f4 f5
  obtain ⟨o, e, c, d⟩ := id st'
  exact ⟨u, rfl, c5O (s := { s with heap := h' }) e c d (by decide) ⟨_, H, I1, ru, ⟨rfl, fun ys hy => by rw [I.list_inj hy hq]; exact hx⟩, st', fun b hb => (hf b hb).1⟩⟩
 done := by
  intro X hP hw hK hc i pins s σ H E I hf st hg
  subst hP hw hK
  obtain ⟨hi, xs, hq, hn⟩ := hg
  subst hi
  obtain ⟨f0, f1, f2, f3, f4, f5⟩ := hf it (by simp)
  have e : (i : Int) - 1 - (i : Int) = -1 := by omega
  rw [e] at st
  exact wpAny_pyNext_rev_end (I.ok.hd hc) st fun h' eb => ⟨rfl, I.turned (t' := s.toks) (fun b o hb e => eb b o hb e) f0 f1 f3 f4 f5⟩
 self := fun _ _ _ _ _ st h => wpAny_pyIter_revIter st h
def iRev (K : PySem.W.Frag) (tl : TE) : TI := fun σ H R => tl σ H fun x H1 => ∃ a xs, x = .ref a /\ SqL K H1 a xs /\ R (Itv K a xs.length) H1
section
variable {X : Cx} {tg e : Expr} {te : TE} {x' : Str} {p' pos' : Pos}
theorem c9s (he : PE X e te) (hg' : Gl X x') (hm' : X.mg x' = none) (hv' : bootBuiltins x' = some (.type "reversed")) (hn' : x' ≠ "__name__" := by decide) (hdb' : (x' == ("__debug__" : Str)) = false := by decide) (h1 : starEach [e] X.env = [(false, eval e X.env)] := by rfl) :
 PI X tg (.Call (.Name x' p') [e] [] pos') (iRev X.K te) := by
 intro pins s σ H R I h
 refine wpAny_Call_Name_kw (b1Y I hg' hm' hv' ?_ hn' hdb')
 refine PyProof.Rows.callWith_type1 ?_ h1 rfl
 rw [h1]
 refine Calls.spliced_cons (thn (he pins s σ H _ I h) fun u s1 ⟨v, H1, I1, rv, q, ys, ex, hq, k⟩ => ?_)
 subst ex
 cases rv
 refine Calls.spliced_nil ?_
 obtain ⟨its, r', pl, hz⟩ := I1.list hq
 have hlen := r'.length
 refine call_reversed_list pl.isList ?_
 have hsz : its.toArray.size = its.length := by simp
 have kp1 : ∀ b o, s1.heap.get? b = some o -> (s1.heap.push (revObj q ((its.toArray.size : Int) - 1))).get? b = some o := fun b o e => Heap.get?_push_of_some _ e
 have hD : (s1.heap.push (revObj q ((its.toArray.size : Int) - 1))).get? s1.heap.objs.size = some (revObj q ((its.toArray.size : Int) - 1)) := Heap.get?_push_size _ rfl
 have hit : (s1.heap.push (revObj q ((its.toArray.size : Int) - 1))).IsRevIter s1.heap.objs.size q ((its.toArray.size : Int) - 1) := ⟨_, hD, rfl, rfl⟩
 refine wpAny_pyIter_revIter (s := { s1 with heap := s1.heap.push (revObj q ((its.toArray.size : Int) - 1)) }) hit ?_
 refine ⟨s1.heap.objs.size, [s1.heap.objs.size], _, _, H1, rfl, I1.kept (t' := s1.toks) kp1, c5y q _ ys.length, ?_, fun b hb => ?_, k⟩
 ·have e : (ys.length : Int) - 1 - ((0 : Nat) : Int) = (its.toArray.size : Int) - 1 := by rw [hsz]; omega
  show Heap.IsRevIter _ _ _ _
  rw [e]
  exact hit
 ·have e : b = s1.heap.objs.size := by simpa using hb
  subst e
  exact I1.fpOk (Nat.le_refl _) (I1.hok.fresh (Nat.le_refl _))
end
theorem c7i {K : PySem.W.Frag} {a : Addr} {xs : List V} {g : TG} {tb : TS} {D : Ends} {σ : St} {H : Hp} (Pv : Nat -> St -> Hp -> Prop) (h0 : Pv 0 σ H) (hl : ∀ i σ H, i <= xs.length -> Pv i σ H -> SqL K H a xs)
 (hs : ∀ i x σ H, xs.reverse[i]? = some x -> Pv i σ H -> g x σ H fun σ2 H2 => tb { D with nx := Pv (i + 1), ct := Pv (i + 1), bk := D.nx } σ2 H2) (hd : ∀ σ H, Pv xs.length σ H -> D.nx σ H) :
 ∃ W : Nat -> Nat -> St -> Hp -> Prop, (∃ m, W 0 m σ H) /\ ∀ i m σ H, W i m σ H ->
  ((Itv K a xs.length).stop i H /\ D.nx σ H) ∨ ((Itv K a xs.length).go i H /\ ∃ N : St -> Hp -> Prop, (∀ σ' H', N σ' H' -> ∃ m', m' < m /\ W (i + 1) m' σ' H') /\ ∀ x H', (Itv K a xs.length).yld i H x H' -> g x σ H' fun σ2 H2 => tb { D with nx := N, ct := N, bk := D.nx } σ2 H2) := by
 refine ⟨fun i m σ H => m = xs.length - i /\ i <= xs.length /\ Pv i σ H, ⟨xs.length, by simp, Nat.zero_le _, h0⟩, ?_⟩
 rintro i m σ H ⟨rfl, hi, p⟩
 have q := hl i σ H hi p
 by_cases hlt : i < xs.length
 ·refine .inr ⟨⟨hlt, xs, q, rfl⟩, Pv (i + 1), fun σ' H' p' => ⟨xs.length - (i + 1), by omega, rfl, hlt, p'⟩, fun x H' y => ?_⟩
  obtain ⟨e, y⟩ := y
  subst e
  exact hs i x σ _ (by rw [List.getElem?_reverse hlt]; exact y xs q) p
 ·have e : i = xs.length := by omega
  subst e
  exact .inl ⟨⟨rfl, xs, q, rfl⟩, hd σ H p⟩
theorem c0U : bootBuiltins "reversed" = some (.type "reversed") := by kernel_rfl
theorem a9H (z : Str) : ∀ zs : List Str, inV (.str z) (zs.map V.str) = decide (z ∈ zs)
 | [] => rfl
 | y :: r => by
  have ih := a9H z r
  unfold inV at ih ⊢
  rw [List.map_cons, List.any_cons, ih]
  have e : eqV (.str y) (.str z) = decide (y = z) := by
   by_cases h : y = z <;> simp [eqV, h]
  rw [e, <- Bool.decide_or]
  congr 1
  rw [List.mem_cons]
  exact propext ⟨fun h => h.imp Eq.symm id, fun h => h.imp Eq.symm id⟩
theorem a5i : ∀ zs : List Str, (zs.map V.str).all b6n = true
 | [] => rfl
 | y :: r => by
  rw [List.map_cons, List.all_cons, a5i r]
  rfl
end L2
namespace L2
open PySem PySem.Spec PyProof.Rows
section
variable {X : Cx}
def Bg (i : Int) : Prop := i.natAbs < 2 ^ 4000
theorem Bg.bits {i : Int} (h : Bg i) : Builtin.Int.intBits i <= 2 ^ 20 := Nat.le_trans (PyProof.Rows.intBits_le (k := 4000) h) (by decide)
theorem c34 : OpR X (binaryOp .Mult) (rI (fun i j => Bg i /\ Bg j) fun i j => .int (i * j)) := opI fun _ _ _ _ _ _ _ hc q => mul_int q (IntMulOk.of_bits hc.1.bits hc.2.bits)
theorem Bg.log {i : Int} (h : Bg i) : i.natAbs.log2 < 9000 := by
 by_cases h0 : i.natAbs = 0
 ·rw [h0]; decide
 ·exact Nat.lt_of_lt_of_le ((Nat.log2_lt h0).mpr h) (by decide)
theorem c2b : OpR X (binaryOp .FloorDiv) (rI (fun _ j => j ≠ 0 /\ Bg j) fun i j => .int (i.fdiv j)) := opI fun _ _ _ _ _ _ _ hc q => floordiv_int hc.1 q (.inl (PyProof.noPylong_of_log2 hc.2.log))
end
def c7b : V -> List V -> Hp -> VK -> Prop := fun x xs H Q => ∃ (z y : Str), x = .str z /\ xs = [.str y] /\ (y.length == 0) = false /\ z.length <= 9000 /\ ∀ p, H p = none -> Q (.ref p) (upd H p (.lst ((Txt.split z y).map V.str)))
theorem b8E {X : Cx} : MtR X "str.split" c7b := by
 intro pins s σ H x vs v us Q I rx rv h
 obtain ⟨z, y, rfl, rfl, hy, hz, q⟩ := h
 obtain ⟨t, rfl⟩ := rx
 obtain ⟨u, rfl, ru⟩ := rv.one
 obtain ⟨t', rfl⟩ := ru
 have hszl : (9010 : Nat) <= sizeLine := by decide
 have fin : ∀ (l : List (Str × Tok)) (tk : Nat), l.map (·.1) = Txt.split z y -> l.length <= sizeLine -> EP X pins σ Q (.ref s.heap.objs.size) { s with heap := s.heap.push { cls := .type "list", data := .seq (strValues l).toArray }, toks := tk } := fun l tk el hl => by
  refine ⟨.ref s.heap.objs.size, _, I.laid (t' := tk) (o := .lst ((Txt.split z y).map V.str)) (fun b o e => Heap.get?_push_of_some _ e) (Nat.le_refl _) ?_, rfl, q _ (I.hok.fresh (Nat.le_refl _))⟩
  rw [<- el]
  exact ⟨by rw [List.length_map, List.length_map]; exact hl, strValues l, _, a7K l, Heap.get?_push_size _ rfl⟩
 have hn : (Builtin.Str.partsBetween z (Builtin.Str.occurrences z y 0 z.length (z.length + 1)) y.length).length <= sizeLine := by
  have e1 := StrLaws.occ_length_le z y 0 z.length (z.length + 1)
  rw [length_partsBetween]; omega
 cases h1 : (decide (z.length < y.length) || decide (Builtin.Str.strKind z < Builtin.Str.strKind y))
 ·cases hf : (Builtin.Str.occurrences z y 0 z.length (z.length + 1)).isEmpty
  ·refine call_meets F.slot_str_split (typeIs_str _ _ _) F.entry_str_split (F.args_str_split_2 _ _) (meets_str_split_sep z y t t' h1 hy hf (by omega) hn) ?_
   show wants (EP X pins σ Q) X.xe _ { s with toks := _, heap := s.heap.push { cls := .type "list", data := .seq (strsFrom s.toks (Builtin.Str.partsBetween z (Builtin.Str.occurrences z y 0 z.length (z.length + 1)) y.length)).toArray } }
   rw [strsFrom_eq]
   exact fin (PySem.numbered s.toks _) _ ((numbered_texts _ _).trans ((if_neg (ne_true_of_eq_false h1)).trans (if_neg (ne_true_of_eq_false hf))).symm) (by
    have := congrArg List.length (numbered_texts s.toks (Builtin.Str.partsBetween z (Builtin.Str.occurrences z y 0 z.length (z.length + 1)) y.length))
    rw [List.length_map] at this
    omega)
  ·exact call_meets F.slot_str_split (typeIs_str _ _ _) F.entry_str_split (F.args_str_split_2 _ _) (meets_str_split_not_found z y t t' h1 hy hf)
    (fin [(z, t)] s.toks ((if_neg (ne_true_of_eq_false h1)).trans (if_pos hf)).symm (by show 1 <= sizeLine; omega))
 ·exact call_meets F.slot_str_split (typeIs_str _ _ _) F.entry_str_split (F.args_str_split_2 _ _) (meets_str_split_cannot_occur z y t t' h1)
   (fin [(z, t)] s.toks (if_pos h1).symm (by show 1 <= sizeLine; omega))
end L2
namespace L2
open PySem PySem.Spec PyProof.Rows
end L2
namespace L2
open PySem PySem.Spec PyProof.Rows
def TabW (P : Addr) (pos : Pos) (q : Str) (H : Hp) : Prop := ∃ S, H P = some (TabQ P S) /\ ∀ x ∈ S, x.1 = pos.line -> x.2.1 = pos.col -> ∃ o, H x.2.2 = some (Fz o) /\ c5A q o
def d0l (P : Addr) (pos : Pos) (q : Str) (params : Arguments) (body : Expr) (scope : Scope) (clos : List (Str × Addr)) : TE := fun _ H Q => TabW P pos q H /\
 ∀ a H', H a = none -> a7z P H H' -> TabW P pos q H' -> b5e q params body scope clos H' a -> Q (.ref a) H'
section
variable {X : Cx}
theorem c7S {params : Arguments} {body : Expr} {scope : Scope} {pos : Pos} {c P : Addr} {clos : List (Str × Addr)} (M : a5Y X.mg X.base c P) (hc : X.env.code = .ref c) (hcl : closureFor scope X.env = pure clos) (hdef : defaultsOf params X.env = ([], [])) :
 PE X (.Lambda params body scope pos) (d0l P pos (X.env.qual ++ "<lambda>") params body scope clos) := by
 intro pins s σ H Q I h
 obtain ⟨⟨S, hP, hS⟩, q⟩ := h
 obtain ⟨⟨ps, e, t, tc⟩, _, _⟩ := I.hok P _ hP
 have hg : s.heap.Ns mainGlobals X.mg := I.mod.glob.keeps I.bk
 have C := M.hd.keeps I.bk
 have hb : s.heap.BuiltinsAt X.mg P := let ⟨bm, o, b1, b2, b3, b4, b5, r⟩ := M.bt; ⟨bm, o, b1, b2, b3, b4, I.bk _ _ b5, r⟩
 have hgP : mainGlobals ≠ P := fun z => by
  obtain ⟨o, es, ep, e1, hd, _⟩ := hg
  rw [z, e] at e1; cases e1; cases hd
 refine PySem.W.kla_eval hdef ?_
 cases hf : codeAmong pos ps.toList with
 | none =>
  refine PySem.W.kla_makeFunction (mg := X.mg) hcl I.ok.glob hg hc C e t hf hgP hb fun c' ctv h' tk hx hge hlt hrec htb => ?_
  obtain ⟨c1, oc, vs, tq, ec, goc, doc', dq⟩ := hrec
  obtain rfl : c' = c1 := by cases ec; rfl
  obtain ⟨J, f1, f2, cP, aP, ac, sv⟩ := c3S (tk := tk) (nt := TabQ P ((pos.line, pos.col, c') :: S)) (fo := PySem.W.kla_obj "<lambda>" (X.env.qual ++ "<lambda>") params body scope clos ((X.mg "__name__").getD .none) c' ctv) I hP e hx hge hlt goc ⟨_, htb⟩ rfl
   (c4r (Heap.get?_push_of_some _ htb) (a6s t) fun p cv z => by
    rw [Array.toList_append] at z
    rcases b6M t z with z | ⟨z, z1, z2⟩
    ·obtain ⟨d, hd, r⟩ := tc p cv z
     exact ⟨d, List.mem_cons_of_mem _ hd, r⟩
    ·exact ⟨c', by rw [z1, z2]; exact List.mem_cons_self, z⟩)
  refine ⟨.ref h'.objs.size, _, J, rfl, q _ _ f1 (fun b o z1 z2 => sv b o z1 z2) ⟨(pos.line, pos.col, c') :: S, ?_, fun x hx h1 h2 => ?_⟩ ⟨_, c', ctv, oc, a0d, ?_, vs, tq, doc', dq⟩⟩
  ·rw [a0m (Ne.symm aP), a0m (Ne.symm cP), a0d]
  ·rcases List.mem_cons.mp hx with rfl | hx
   ·exact ⟨oc, by rw [a0m (Ne.symm ac), a0d], vs, tq, doc', dq⟩
   ·obtain ⟨o, e1, e2⟩ := hS x hx h1 h2
    exact ⟨o, sv _ _ (fun y => by rw [y, hP] at e1; cases e1) e1, e2⟩
  ·rw [a0m (Ne.symm ac), a0d]
 | some cv =>
  obtain ⟨d, hd, rfl⟩ := tc _ _ hf
  obtain ⟨od, e1, e2⟩ := hS _ hd rfl rfl
  refine PySem.W.kla_makeFunctionHit (mg := X.mg) hcl I.ok.glob hg hc C e t hf hb fun ctv h' tk hk hsz => ?_
  have fr : H h'.objs.size = none := I.hok.fresh hsz
  have sv : ∀ b o, H b = some o -> upd H h'.objs.size (Fz (PySem.W.kla_obj "<lambda>" (X.env.qual ++ "<lambda>") params body scope clos ((X.mg "__name__").getD .none) d ctv)) b = some o := fun b o z => by
   rw [a0m (a0k z fr)]; exact z
  refine ⟨.ref h'.objs.size, _, I.laid (a := h'.objs.size) (o := Fz (PySem.W.kla_obj "<lambda>" (X.env.qual ++ "<lambda>") params body scope clos ((X.mg "__name__").getD .none) d ctv)) (fun b o eb => Heap.get?_push_of_some _ (hk b o eb)) hsz (c5F (Heap.get?_push_size _ rfl)), rfl,
   q _ _ fr (fun b o _ z => sv b o z) ⟨S, sv _ _ hP, fun d' hd' h1 h2 => ?_⟩ ⟨_, d, ctv, od, a0d, sv _ _ e1, e2⟩⟩
  obtain ⟨o, e3, e4⟩ := hS d' hd' h1 h2
  exact ⟨o, sv _ _ e3, e4⟩
def tBlK (P : Addr) (b : Bool) : TE := fun _ H Q => ∃ S, H P = some (TabQ P S) /\ Q (.bl b) (upd H P (TabC P (S.map (·.2.2))))
theorem c9i {b : Bool} {j : Nat} {pos : Pos} (P : Addr) : PE X (.Constant (.bool b) j pos) (tBlK P b) := by
 intro pins s σ H Q I h
 obtain ⟨S, hP, q⟩ := h
 obtain ⟨⟨ps, e, t, tc⟩, _, _⟩ := I.hok P _ hP
 have I' : Inv X pins σ (upd H P (TabC P (S.map (·.2.2)))) s := I.write (x := P) (e := P) (t' := s.toks) (by rw [hP]; trivial) (.inl rfl) (fun b u _ z => z) ⟨_, e⟩ (c0q e t fun pos cv z => by
  obtain ⟨c, hc, r⟩ := tc pos cv z
  exact ⟨c, List.mem_map.mpr ⟨_, hc, rfl⟩, r⟩)
 exact b62 pins s σ _ Q I' q
end
end L2
namespace My
open PySem L2
def top (i : Nat) : Stmt := PySem.Challenge.pw_lazycols_k57_whole_rules_of_texts.main.body.getD i (.Pass ⟨0, 0, 0, 0⟩)
abbrev a5k : Stmt := top 10
abbrev a3N : Stmt := top 11
abbrev a7b : Stmt := top 12
abbrev a5m : Stmt := top 13
abbrev a5f : Stmt := top 14
abbrev a7i : Stmt := top 15
abbrev a20 : Stmt := top 19
abbrev a1K : Stmt := top 20
abbrev a4k : Stmt := top 21
abbrev a1W : Stmt := top 22
abbrev a04 : Stmt := top 32
abbrev a13 : Stmt := top 38
abbrev a5n : Stmt := top 39
abbrev a7g : Stmt := top 40
abbrev a5t : Stmt := top 41
abbrev a8T : Stmt := top 42
abbrev a4g : Stmt := top 43
abbrev a8M : Stmt := top 46
abbrev a64 : Stmt := top 47
abbrev a5e : Stmt := top 48
abbrev a5o : Stmt := top 49
abbrev a1D : Stmt := top 51
abbrev a2q : Stmt := top 52
abbrev a1o : Stmt := top 53
abbrev a0C : Stmt := top 54
abbrev a2W : Stmt := top 55
abbrev a27 : Stmt := top 56
abbrev a3a : Stmt := top 57
abbrev a0G : Stmt := top 58
abbrev a0P : Stmt := top 59
abbrev a1N : Stmt := top 61
abbrev a5h : Stmt := top 63
abbrev a3S : Stmt := top 64
abbrev a1F : Stmt := top 65
abbrev a3O : Stmt := top 66
abbrev a2c : Stmt := top 67
abbrev a2d : Stmt := top 68
abbrev a2U : Stmt := top 69
abbrev a6Q : Stmt := top 70
abbrev a2f : Stmt := top 71
abbrev a3q : Stmt := top 72
abbrev a3Q : Stmt := b0J (top 23) 0
abbrev a0I : Stmt := b0J (top 23) 1
abbrev a25 : Stmt := b0J (top 24) 0
abbrev a00 : Stmt := b0J (top 24) 2
abbrev a21 : Stmt := b0J (top 25) 0
abbrev a0Z : Stmt := b0J (top 25) 2
abbrev a2S : Stmt := b0J (top 26) 0
abbrev a10 : Stmt := b0J (top 26) 2
abbrev a2u : Stmt := b0J (top 27) 0
abbrev a0S : Stmt := b0J (top 27) 2
abbrev a4i : Stmt := b0J (top 28) 0
abbrev a2v : Stmt := b0J (top 28) 2
structure a9R (K : PySem.W.Frag) (mg : Str -> Option Value) (C : Addr) : Prop where
 c : mg "Rule" = some (.ref C)
 cl : Cls K C
 mks : PySem.W.makesIn K C = true
 kc : PySem.W.keepIn K (.ref C) = true
 hc : PySem.W.findIn K (.ref C) "__class__" = some (some (.builtin "object.__class__"))
 n_function : a1m K C "function"
 m_init : Mth K C "__init__" "Rule.__init__" a3Q
 v_init : ClsM K C "__init__"
 m_reckon : Mth K C "reckon" "Rule.reckon" a0I
structure b64 (K : PySem.W.Frag) (mg : Str -> Option Value) (C : Addr) : Prop where
 c : mg "Cells" = some (.ref C)
 cl : Cls K C
 mks : PySem.W.makesIn K C = true
 kc : PySem.W.keepIn K (.ref C) = true
 hc : PySem.W.findIn K (.ref C) "__class__" = some (some (.builtin "object.__class__"))
 n_function : a1m K C "function"
 n_names : a1m K C "names"
 m_init : Mth K C "__init__" "Cells.__init__" a25
 m_gather : Mth K C "gather" "Cells.gather" a00
 m_reckon : Mth K C "reckon" "Rule.reckon" a0I
structure b7k (K : PySem.W.Frag) (mg : Str -> Option Value) (C : Addr) : Prop where
 c : mg "Above" = some (.ref C)
 cl : Cls K C
 mks : PySem.W.makesIn K C = true
 kc : PySem.W.keepIn K (.ref C) = true
 hc : PySem.W.findIn K (.ref C) "__class__" = some (some (.builtin "object.__class__"))
 n_function : a1m K C "function"
 n_names : a1m K C "names"
 n_first : a1m K C "first"
 m_init : Mth K C "__init__" "Above.__init__" a21
 m_gather : Mth K C "gather" "Above.gather" a0Z
 m_reckon : Mth K C "reckon" "Rule.reckon" a0I
structure b4l (K : PySem.W.Frag) (mg : Str -> Option Value) (C : Addr) : Prop where
 c : mg "Group" = some (.ref C)
 cl : Cls K C
 mks : PySem.W.makesIn K C = true
 kc : PySem.W.keepIn K (.ref C) = true
 hc : PySem.W.findIn K (.ref C) "__class__" = some (some (.builtin "object.__class__"))
 n_function : a1m K C "function"
 n_key : a1m K C "key"
 n_name : a1m K C "name"
 m_init : Mth K C "__init__" "Group.__init__" a2S
 m_gather : Mth K C "gather" "Group.gather" a10
 m_reckon : Mth K C "reckon" "Rule.reckon" a0I
structure b2P (K : PySem.W.Frag) (mg : Str -> Option Value) (C : Addr) : Prop where
 c : mg "Lookup" = some (.ref C)
 cl : Cls K C
 mks : PySem.W.makesIn K C = true
 kc : PySem.W.keepIn K (.ref C) = true
 hc : PySem.W.findIn K (.ref C) "__class__" = some (some (.builtin "object.__class__"))
 n_function : a1m K C "function"
 n_key : a1m K C "key"
 n_other : a1m K C "other"
 n_theirs : a1m K C "theirs"
 n_names : a1m K C "names"
 m_init : Mth K C "__init__" "Lookup.__init__" a2u
 m_gather : Mth K C "gather" "Lookup.gather" a0S
 m_reckon : Mth K C "reckon" "Rule.reckon" a0I
structure c5e (K : PySem.W.Frag) (mg : Str -> Option Value) (C : Addr) : Prop where
 c : mg "Mend" = some (.ref C)
 cl : Cls K C
 mks : PySem.W.makesIn K C = true
 kc : PySem.W.keepIn K (.ref C) = true
 hc : PySem.W.findIn K (.ref C) "__class__" = some (some (.builtin "object.__class__"))
 n_function : a1m K C "function"
 n_name : a1m K C "name"
 m_init : Mth K C "__init__" "Mend.__init__" a4i
 m_gather : Mth K C "gather" "Mend.gather" a2v
 m_reckon : Mth K C "reckon" "Rule.reckon" a0I
structure Tops (K : PySem.W.Frag) (mg : Str -> Option Value) : Prop where
 len : mg "len" = none
 isinstance : mg "isinstance" = none
 int : mg "int" = none
 bool : mg "bool" = none
 str : mg "str" = none
 all : mg "all" = none
 range : mg "range" = none
 abs : mg "abs" = none
 list : mg "list" = none
 tuple : mg "tuple" = none
 dict : mg "dict" = none
 max : mg "max" = none
 min : mg "min" = none
 sum : mg "sum" = none
 reversed : mg "reversed" = none
 zip : mg "zip" = none
 ValueError : mg "ValueError" = none
 g_LETTERS : ∃ t, mg "LETTERS" = some (.str ("abcdefghijklmnopqrstuvwxyz" : Str) t)
 g_MOST_LETTERS : ∃ t, mg "MOST_LETTERS" = some (.int 8 t)
 g_ODD : ∃ p, mg "ODD" = some (.ref p) /\ ∀ H, SqT K H p [V.str ("fault" : Str), V.str ("odd" : Str)]
 g_MOST_NAMES : ∃ t, mg "MOST_NAMES" = some (.int 6 t)
 g_LACKS : ∃ p, mg "LACKS" = some (.ref p) /\ ∀ H, SqT K H p [V.str ("fault" : Str), V.str ("lacks" : Str)]
 g_FIGURES : ∃ t, mg "FIGURES" = some (.str ("0123456789" : Str) t)
 g_MOST_FIGURES : ∃ t, mg "MOST_FIGURES" = some (.int 60 t)
 g_MOST_WORDS : ∃ t, mg "MOST_WORDS" = some (.int 24 t)
 g_SIGNS : ∃ p, mg "SIGNS" = some (.ref p) /\ ∀ H, SqT K H p [V.str ("+" : Str), V.str ("-" : Str), V.str ("*" : Str), V.str ("/" : Str), V.str (":" : Str), V.str ("<" : Str), V.str ("=" : Str)]
 g_NOUGHT : ∃ p, mg "NOUGHT" = some (.ref p) /\ ∀ H, SqT K H p [V.str ("fault" : Str), V.str ("nought" : Str)]
 g_GREAT : ∃ p, mg "GREAT" = some (.ref p) /\ ∀ H, SqT K H p [V.str ("fault" : Str), V.str ("great" : Str)]
 g_UP : ∃ t, mg "UP" = some (.str ("up" : Str) t)
 d_is_whole : Def K mg "is_whole" a5k
 d_is_number : Def K mg "is_number" a3N
 d_is_name : Def K mg "is_name" a7b
 d_is_fault : Def K mg "is_fault" a5m
 d_is_value : Def K mg "is_value" a5f
 d_settled : Def K mg "settled" a7i
 d_check_name : Def K mg "check_name" a20
 d_checked_names : Def K mg "checked_names" a1K
 d_each_once : Def K mg "each_once" a4k
 d_look_in_turn : Def K mg "look_in_turn" a1W
 d_writes_number : Def K mg "writes_number" a04
 d_is_reckoning : Def K mg "is_reckoning" a13
 d_names_in : Def K mg "names_in" a5n
 d_bounded : Def K mg "bounded" a7g
 d_reckoned : Def K mg "reckoned" a5t
 d_joined : Def K mg "joined" a8T
 d_number_of : Def K mg "number_of" a4g
 d_sum_of : Def K mg "sum_of" a8M
 d_most_of : Def K mg "most_of" a64
 d_least_of : Def K mg "least_of" a5e
 d_how_many : Def K mg "how_many" a5o
 d_refuse_unless : Def K mg "refuse_unless" a1D
 d_check_names : Def K mg "check_names" a2q
 d_columns_in : Def K mg "columns_in" a1o
 d_function_of : Def K mg "function_of" a0C
 d_read_cells : Def K mg "read_cells" a2W
 d_read_above : Def K mg "read_above" a27
 d_read_group : Def K mg "read_group" a3a
 d_read_lookup : Def K mg "read_lookup" a0G
 d_read_mend : Def K mg "read_mend" a0P
 d_read_rule : Def K mg "read_rule" a1N
 d_law_cell : Def K mg "_law_cell" a5h
 d_law_value : Def K mg "_law_value" a3S
 d_law_signed : Def K mg "_law_signed" a1F
 d_law_three : Def K mg "_law_three" a3O
 d_law_above : Def K mg "_law_above" a2c
 d_law_group : Def K mg "_law_group" a2d
 d_law_lookup : Def K mg "_law_lookup" a2U
 d_law_due : Def K mg "_law_due" a6Q
 d_law_drawn : Def K mg "_law_drawn" a2f
 d_law : Def K mg "law" a3q
 bs : ∃ z_function_of z_read_lookup z_read_mend z_law : Addr × Addr, DefT K mg "function_of" a0C z_function_of /\ DefT K mg "read_lookup" a0G z_read_lookup /\ DefT K mg "read_mend" a0P z_read_mend /\ DefT K mg "law" a3q z_law /\ z_function_of.2 ≠ z_read_lookup.2 /\ z_function_of.2 ≠ z_read_mend.2 /\ z_function_of.2 ≠ z_law.2 /\ z_read_lookup.2 ≠ z_read_mend.2 /\ z_read_lookup.2 ≠ z_law.2 /\ z_read_mend.2 ≠ z_law.2
 notabs : PySem.W.noTabs K = true
 t_Rule : ∃ C, a9R K mg C
 t_Cells : ∃ C, b64 K mg C
 t_Above : ∃ C, b7k K mg C
 t_Group : ∃ C, b4l K mg C
 t_Lookup : ∃ C, b2P K mg C
 t_Mend : ∃ C, c5e K mg C
structure Dcs (PP : Params) (K : PySem.W.Frag) (mg : Str -> Option Value) : Prop where
 g_OF_GROUPS : ∃ p, mg "OF_GROUPS" = some (.ref p) /\ b9V PP K p /\ (∃ f, mg "sum_of" = some (.ref f) /\ PySem.W.nsIn K p "sum" = some (some (.ref f))) /\ (∃ f, mg "most_of" = some (.ref f) /\ PySem.W.nsIn K p "most" = some (some (.ref f))) /\ (∃ f, mg "least_of" = some (.ref f) /\ PySem.W.nsIn K p "least" = some (some (.ref f))) /\ (∃ f, mg "how_many" = some (.ref f) /\ PySem.W.nsIn K p "many" = some (some (.ref f)))
 g_KINDS : ∃ p, mg "KINDS" = some (.ref p) /\ b9V PP K p /\ (∃ f, mg "read_cells" = some (.ref f) /\ PySem.W.nsIn K p "cells" = some (some (.ref f))) /\ (∃ f, mg "read_above" = some (.ref f) /\ PySem.W.nsIn K p "above" = some (some (.ref f))) /\ (∃ f, mg "read_group" = some (.ref f) /\ PySem.W.nsIn K p "group" = some (some (.ref f))) /\ (∃ f, mg "read_lookup" = some (.ref f) /\ PySem.W.nsIn K p "lookup" = some (some (.ref f))) /\ (∃ f, mg "read_mend" = some (.ref f) /\ PySem.W.nsIn K p "mend" = some (some (.ref f)))
end My
namespace My
open PySem L2
abbrev b2R : Str := "abcdefghijklmnopqrstuvwxyz"
def inL (c : Nat) : Bool := !(Builtin.Str.occurrences b2R ⟨#[c]⟩ 0 b2R.length 1).isEmpty
def a07 (t : Str) : Bool := decide ((1 : Int) <= t.length) && decide ((t.length : Int) <= 8) && t.cps.toList.all inL
def b10 : PyData -> Bool
 | .int _ => true
 | _ => false
def numD : PyData -> Bool
 | .int i => decide ((if i < 0 then -i else i) < 10 ^ (60 : Int).toNat)
 | _ => false
def a55 : PyData -> Bool
 | .str t => a07 t
 | _ => false
def a5s : PyData -> Bool
 | .tuple [.str z, d] => decide (z = "fault") && a55 d
 | _ => false
def a4w (d : PyData) : Bool := numD d || a5s d
def c1G (d : PyData) : Prop := ∀ t, d = .str t -> t.length <= 1000
def a3l (d : PyData) : Prop := ∀ ds, d = .tuple ds -> ∀ e ∈ ds, c1G e
theorem a1l {t : Str} (h : t.length <= 1000) : c1G (.str t) := fun z e => by cases e; exact h
theorem b38 {d : PyData} (h : kdD d ≠ .tup) : a3l d := fun z e => by subst e; exact absurd rfl h
theorem a9t {ds : List PyData} (h : ∀ e ∈ ds, c1G e) : a3l (.tuple ds) := fun z e => by cases e; exact h
section
variable {P : Program} {w : World} {K : PySem.W.Frag} {mg : Str -> Option Value} {base : Heap}
def c3M (K : PySem.W.Frag) : Sp := fun vs H Q _ => ∃ x d, vs = [x] /\ Dt K H x d /\ Q (.bl (b10 d)) H
theorem b9K : a0o ["thing"] ["thing"] (a0b a5k) := ⟨rfl, rfl, rfl, by decide +kernel, rfl, by decide +kernel, by decide +kernel⟩
theorem a5j (T : Tops K mg) : a0q P w K mg base CX0 1 "is_whole" ["thing"] (c3M K) := by
 refine T.d_is_whole.known b9K (fun _ _ _ _ _ _ us hl => match us, hl with | [_], _ => rfl) (fun vs H Q E h => ?_) (fun f cdv A outer s H vs Q E hr h => ?_)
 ·obtain ⟨x, a, rfl, _⟩ := h
  rfl
 ·obtain ⟨x, d, rfl, hd, q⟩ := h
  refine ⟨_, (a0g (a0l (b1q (a0r a0Y rfl T.isinstance a0w (a0a (pv 0) (a0a (a5E T.int c27) a0c))) (a95 (c9J (a0r a0Y rfl T.isinstance a0w (a0a (pv 0) (a0a (a5E T.bool c6M) a0c)))))))), ?_⟩
  refine ⟨_, rfl, x, "int", d, _, rfl, hd, c7B K _, _, rfl, ?_⟩
  refine ite2 (fun h1 => ?_) (fun h1 => ?_)
  ·refine ⟨_, rfl, x, "bool", d, _, rfl, hd, c1F K _, _, rfl, ?_⟩
   have e : (!decide (kdD d = Kd.bl)) = b10 d := by cases d <;> simp [kdD, b10] at h1 ⊢
   show Q (.bl (!decide (kdD d = Kd.bl))) H
   rw [e]
   exact q
  ·have e : false = b10 d := by cases d <;> simp [kdD, b10] at h1 ⊢
   show Q (.bl false) H
   rw [e]
   exact q
def b0d (K : PySem.W.Frag) : Sp := fun vs H Q _ => ∃ x d, vs = [x] /\ Dt K H x d /\ c1G d /\ ∀ H', Same H H' -> Q (.bl (a55 d)) H'
theorem c2U : a0o ["thing"] ["thing"] (a0b a7b) := ⟨rfl, rfl, rfl, by decide +kernel, rfl, by decide +kernel, by decide +kernel⟩
theorem a1X (T : Tops K mg) : a0q P w K mg base CX0 1 "is_name" ["thing"] (b0d K) := by
 refine T.d_is_name.known c2U (fun _ _ _ _ _ _ us hl => match us, hl with | [_], _ => rfl) (fun vs H Q E h => ?_) (fun f cdv A outer s H vs Q E hr h => ?_)
 ·obtain ⟨x, a, rfl, _⟩ := h
  rfl
 ·obtain ⟨x, d, rfl, hd, hsh, q⟩ := h
  refine ⟨_, (a0e (a0J (PW.pt (b9E (a9c (a05 (a0r a0Y rfl T.isinstance a0w (a0a (pv 0) (a0a (a5E T.str c0d) a0c))) (fun _ => rfl))) (b4q (a9c (c1V c3X c3X a0i (a0r a1f rfl T.len a6M (a0a (pv 0) a0c)) (c4l T.g_MOST_LETTERS)))))) (a0g (a0l b62)) a0p)
   (a0g (a0l (a0r (c18 rfl) rfl T.all c9R (a0a (a9O c8a rfl rfl (by decide) (c6U (pv 0)) (fun _ _ _ _ _ => a9z) (fun _ _ _ _ _ => (a2B b1T (pv 0) (c5u T.g_LETTERS) (by with_unfolding_all rfl)))) a0c))))), ?_⟩
  refine ⟨_, rfl, x, "str", d, _, rfl, hd, b5p K _, _, rfl, ?_⟩
  by_cases hk : kdD d = .str
  ·obtain ⟨t, rfl⟩ : ∃ t, d = .str t := by cases d <;> simp [kdD] at hk ⊢
   cases hd
   have ht : t.length <= 1000 := hsh t rfl
   refine iteF ?_
   refine ⟨_, rfl, _, _, rfl, ⟨sl ht, rfl⟩, _, _, rfl, rfl, _, rfl, ?_⟩
   refine ite2 (fun h1 => ?_) (fun h1 => ?_)
   ·refine ⟨_, _, rfl, rfl, _, rfl, ?_⟩
    refine ite2 (fun h2 => ?_) (fun h2 => ?_)
    ·have e : a55 (.str t) = false := by
      show a07 t = false
      unfold a07
      have : decide ((t.length : Int) <= 8) = false := by simpa using h2
      rw [this, Bool.and_false, Bool.false_and]
     rw [<- e]
     exact q H (Same.refl H)
    ·have h8 : t.cps.size <= 8 := by
      have : (t.length : Int) <= 8 := by simpa using h2
      show t.length <= 8
      omega
     refine ⟨_, rfl, t, rfl, fun D hD => ?_⟩
     refine c1U (x := t) (fun i ys H2 => ys = (t.cps.toList.take i).map (fun c => V.bl (inL c)) /\ Same H H2) ⟨rfl, Same.new hD⟩ ?_ ?_
     ·rintro i c ys H2 hc h2D ⟨rfl, s2⟩
      have hi : i < t.cps.size := (Array.getElem?_eq_some_iff.mp hc).1
      refine ⟨_, rfl, _, _, rfl, rfl, h2D, ?_, ?_, s2.on hD⟩
      ·rw [List.length_map, List.length_take, Array.length_toList]
       exact a0U (by omega)
      ·rw [List.take_add_one, List.map_append, Array.getElem?_toList, hc]
       rfl
     ·rintro ys H2 h2D ⟨rfl, s2⟩
      refine ⟨D, t.cps.toList.map inL, rfl, SqL.of ?_, ?_⟩
      ·rw [h2D, List.take_of_length_le (by simp), List.map_map]
       rfl
      ·have e : a55 (.str t) = (t.cps.toList.map inL).all id := by
        show a07 t = _
        unfold a07
        have e1 : decide ((1 : Int) <= t.length) = true := h1
        have e2 : decide ((t.length : Int) <= 8) = true := by simpa using h2
        rw [e1, e2, Bool.true_and, Bool.true_and, List.all_map]
        rfl
       rw [<- e]
       exact q H2 s2
   ·refine ⟨_, rfl, ?_⟩
    refine iteT ?_
    have e : a55 (.str t) = false := by
     show a07 t = false
     unfold a07
     have : decide ((1 : Int) <= t.length) = false := by simpa using h1
     rw [this, Bool.false_and, Bool.false_and]
    rw [<- e]
    exact q H (Same.refl H)
  ·rw [decide_eq_false hk]
   refine iteT (iteT ?_)
   have e : a55 d = false := by cases d <;> simp [kdD] at hk <;> rfl
   rw [<- e]
   exact q H (Same.refl H)
def b04 (K : PySem.W.Frag) : Sp := fun vs H Q _ => ∃ x d, vs = [x] /\ Dt K H x d /\ Q (.bl (numD d)) H
theorem b8P : a0o ["thing"] ["thing"] (a0b a3N) := ⟨rfl, rfl, rfl, by decide +kernel, rfl, by decide +kernel, by decide +kernel⟩
theorem a2b (T : Tops K mg) : a0q P w K mg base CX0 2 "is_number" ["thing"] (b04 K) := by
 have G_is_whole : a0q P w K mg base CX0 1 "is_whole" ["thing"] (c3M K) := a5j T
 refine T.d_is_number.known b8P (fun _ _ _ _ _ _ us hl => match us, hl with | [_], _ => rfl) (fun vs H Q E h => ?_) (fun f cdv A outer s H vs Q E hr h => ?_)
 ·obtain ⟨x, a, rfl, _⟩ := h
  rfl
 ·obtain ⟨x, d, rfl, hd, q⟩ := h
  refine ⟨_, (a0g (a0l (b1q (a0h G_is_whole (hr.mono (by decide)) a0t (a0a (pv 0) a0c)) (a95 (a2B c58 (a0r b5B rfl T.abs c8d (a0a (pv 0) a0c)) (a0E c1S a0i a0i) (a0A _)))))), ?_⟩
  refine ⟨_, rfl, x, d, rfl, hd, _, rfl, ?_⟩
  refine ite2 (fun h1 => ?_) (fun h1 => ?_)
  ·obtain ⟨i, rfl⟩ : ∃ i, d = .int i := by cases d <;> simp [b10] at h1 ⊢
   cases hd
   exact ⟨_, rfl, i, rfl, _, _, rfl, rfl, ⟨by decide, by decide, by decide⟩, _, _, rfl, rfl, q⟩
  ·have e : numD d = false := by cases d <;> simp [b10] at h1 <;> rfl
   show Q (.bl false) H
   rw [<- e]
   exact q
def a76 (K : PySem.W.Frag) : Sp := fun vs H Q _ => ∃ x d, vs = [x] /\ Dt K H x d /\ a3l d /\ ∀ H', Same H H' -> Q (.bl (a5s d)) H'
theorem c09 : a0o ["thing"] ["thing"] (a0b a5m) := ⟨rfl, rfl, rfl, by decide +kernel, rfl, by decide +kernel, by decide +kernel⟩
theorem c2V {ds : List PyData} (h : ds.length ≠ 2) : a5s (.tuple ds) = false := by
 match ds, h with
 | [], _ => rfl
 | [a], _ => cases a <;> rfl
 | [a, b], h => exact absurd rfl h
 | a :: b :: c :: r, _ => cases a <;> rfl
theorem a1x (T : Tops K mg) : a0q P w K mg base CX0 2 "is_fault" ["thing"] (a76 K) := by
 have G_is_name : a0q P w K mg base CX0 1 "is_name" ["thing"] (b0d K) := a1X T
 refine T.d_is_fault.known c09 (fun _ _ _ _ _ _ us hl => match us, hl with | [_], _ => rfl) (fun vs H Q E h => ?_) (fun f cdv A outer s H vs Q E hr h => ?_)
 ·obtain ⟨x, a, rfl, _⟩ := h
  rfl
 ·obtain ⟨x, d, rfl, hd, hsh, q⟩ := h
  refine ⟨_, (a0e (a0J (PW.pt (b9E (a9c (a05 (a0r a0Y rfl T.isinstance a0w (a0a (pv 0) (a0a (a5E T.tuple a3L) a0c))) (fun _ => rfl))) (b4q (a0v c8j (a0r a1f rfl T.len a6M (a0a (pv 0) a0c)) a0i (a0A _))))) (a0g (a0l b62)) a0p)
   (a0g (a0l (b1q (a0r a0Y rfl T.isinstance a0w (a0a (a0z a1z (pv 0) a0i (fun _ _ => rfl)) (a0a (a5E T.str c0d) a0c))) (b1q (a2B a1Y (a0z a1z (pv 0) a0i (fun _ _ => rfl)) a0u (a0A _)) (a95 (a0h G_is_name (hr.mono (by decide)) a0t (a0a (a0z a1z (pv 0) a0i (fun _ _ => rfl)) a0c)))))))), ?_⟩
  refine ⟨_, rfl, x, "tuple", d, _, rfl, hd, a1h K _, _, rfl, ?_⟩
  by_cases hk : kdD d = .tup
  ·obtain ⟨ds, rfl⟩ : ∃ ds, d = .tuple ds := by cases d <;> simp [kdD] at hk ⊢
   cases hd with
   | @tup a xs _ hq hall =>
    refine iteF ?_
    refine ⟨_, rfl, _, _, rfl, .inr ⟨_, hq, rfl⟩, rfl, _, rfl, ?_⟩
    have hl := hall.length
    refine ite2 (fun h1 => ?_) (fun h1 => ?_)
    ·have h1' : xs.length ≠ 2 := by
      intro z
      rw [z] at h1
      exact absurd h1 (by decide)
     have e := c2V (ds := ds) (by rw [<- hl]; exact h1')
     rw [<- e]
     exact q H (Same.refl H)
    ·have h1' : xs.length = 2 := by
      have z : ¬ (!decide (V.int (xs.length : Int) = V.int 2)) = true := h1
      have z2 : (xs.length : Int) = 2 := by simpa using z
      omega
     match xs, ds, hall, h1', hl with
     | [y, z], _, .cons (d := d1) h2 (.cons (d := d2) h3 .nil), _, _ =>
      have a0 : atI [y, z] 0 = some y := rfl
      have a1 : atI [y, z] 1 = some z := rfl
      refine ⟨_, rfl, _, _, _, _, rfl, rfl, hq, a0, y, "str", d1, _, rfl, h2, b5p K _, _, rfl, ?_⟩
      refine ite2 (fun h4 => ?_) (fun h4 => ?_)
      ·obtain ⟨t, rfl⟩ : ∃ t, d1 = .str t := by cases d1 <;> simp [kdD] at h4 ⊢
       cases h2
       refine ⟨_, rfl, _, _, _, _, rfl, rfl, hq, a0, rfl, _, rfl, ?_⟩
       refine ite2 (fun h5 => ?_) (fun h5 => ?_)
       ·have h5' : t = "fault" := by
         have z5 : V.str t = V.str "fault" := by simpa using h5
         exact V.str.inj z5
        refine ⟨_, rfl, _, _, _, _, rfl, rfl, hq, a1, z, d2, rfl, h3, hsh _ rfl _ (List.mem_cons_of_mem _ List.mem_cons_self), fun H' s' => ?_⟩
        ·have e : a5s (.tuple [.str t, d2]) = a55 d2 := by
          show (decide (t = "fault") && a55 d2) = a55 d2
          rw [decide_eq_true h5', Bool.true_and]
         rw [<- e]
         exact q H' s'
       ·have h5' : t ≠ "fault" := fun z5 => h5 (by rw [z5]; rfl)
        have e : a5s (.tuple [.str t, d2]) = false := by
         show (decide (t = "fault") && a55 d2) = false
         rw [decide_eq_false h5', Bool.false_and]
        show Q (.bl false) H
        rw [<- e]
        exact q H (Same.refl H)
      ·have e : a5s (.tuple [d1, d2]) = false := by cases d1 <;> simp [kdD] at h4 <;> rfl
       show Q (.bl false) H
       rw [<- e]
       exact q H (Same.refl H)
  ·rw [decide_eq_false hk]
   refine iteT (iteT ?_)
   have e : a5s d = false := by cases d <;> simp [kdD] at hk <;> rfl
   rw [<- e]
   exact q H (Same.refl H)
def c3B (K : PySem.W.Frag) : Sp := fun vs H Q _ => ∃ x d, vs = [x] /\ Dt K H x d /\ a3l d /\ ∀ H', Same H H' -> Q (.bl (a4w d)) H'
theorem b9U : a0o ["thing"] ["thing"] (a0b a5f) := ⟨rfl, rfl, rfl, by decide +kernel, rfl, by decide +kernel, by decide +kernel⟩
theorem a5r (T : Tops K mg) : a0q P w K mg base CX0 3 "is_value" ["thing"] (c3B K) := by
 have G_is_number : a0q P w K mg base CX0 2 "is_number" ["thing"] (b04 K) := a2b T
 have G_is_fault : a0q P w K mg base CX0 2 "is_fault" ["thing"] (a76 K) := a1x T
 refine T.d_is_value.known b9U (fun _ _ _ _ _ _ us hl => match us, hl with | [_], _ => rfl) (fun vs H Q E h => ?_) (fun f cdv A outer s H vs Q E hr h => ?_)
 ·obtain ⟨x, a, rfl, _⟩ := h
  rfl
 ·obtain ⟨x, d, rfl, hd, hsh, q⟩ := h
  refine ⟨_, (a0g (a0l (c9u (a0h G_is_number (hr.mono (by decide)) a0t (a0a (pv 0) a0c)) (a95 (a0h G_is_fault (hr.mono (by decide)) a0t (a0a (pv 0) a0c)))))), ?_⟩
  refine ⟨_, rfl, x, d, rfl, hd, _, rfl, ?_⟩
  refine ite2 (fun h1 => ?_) (fun h1 => ?_)
  ·have e : a4w d = true := by unfold a4w; rw [h1, Bool.true_or]
   show Q (.bl true) H
   rw [<- e]
   exact q H (Same.refl H)
  ·refine ⟨_, rfl, x, d, rfl, hd, hsh, fun H' s' => ?_⟩
   have e : a4w d = a5s d := by
    unfold a4w
    have : numD d = false := by simpa using h1
    rw [this, Bool.false_or]
   rw [<- e]
   exact q H' s'
end
end My
namespace My
open PySem L2
def a5x (ns : List Int) (k : Int) : Int := if k < ns.length then ns.getD k.toNat 0 else ((if 0 < (ns.length : Int) then ns.getD (k % ns.length).toNat 0 % 2147483647 else 41) + k * k + 5) * (48271 + 16807 * k) % 2147483629
section
variable {P : Program} {w : World} {K : PySem.W.Frag} {mg : Str -> Option Value} {base : Heap}
def c2h (K : PySem.W.Frag) : Sp := fun vs H Q _ => ∃ (a : Addr) (ns : List Int) (k : Int), vs = [.ref a, .int k] /\ SqL K H a (ns.map V.int) /\ ns.length <= 63 /\ 0 <= k /\ k <= 1000000 /\ Q (.int (a5x ns k)) H
theorem a8w : a0o ["_law_script", "_law_k", "_law_seed"] ["_law_script", "_law_k"] (a0b a5h) := ⟨rfl, rfl, rfl, by decide +kernel, rfl, by decide +kernel, by decide +kernel⟩
theorem a3E (T : Tops K mg) : a0q P w K mg base CX0 1 "_law_cell" ["_law_script", "_law_k"] (c2h K) := by
 refine T.d_law_cell.known a8w (fun _ _ _ _ _ _ us hl => match us, hl with | [_, _], _ => rfl) (fun vs H Q E h => ?_) (fun f cdv A outer s H vs Q E hr h => ?_)
 ·obtain ⟨a, ns, k, rfl, _⟩ := h
  rfl
 ·obtain ⟨a, ns, k, rfl, hS, hl, h0, h6, q⟩ := h
  refine ⟨_, (a0e (a0J (a0v c58 (pv 1) (a0r a1f rfl T.len a6M (a0a (pv 0) a0c)) (a0A _)) (a0g (a0l (a0z a0s (pv 0) (pv 1) (fun _ _ => rfl)))) a0p)
   (a0e (a0B (i := 2) a8w.nd rfl (Or.inl rfl) a0i)
   (a0e (a0J (a0v c2q (a0r a1f rfl T.len a6M (a0a (pv 0) a0c)) a0i (a0A _)) (a0g (a0B (i := 2) a8w.nd rfl (Or.inl rfl) (a0E a14 (a0z a0s (pv 0) (a0E a14 (pv 1) (a0r a1f rfl T.len a6M (a0a (pv 0) a0c))) (fun _ _ => rfl)) a0i))) a0p)
   (a0g (a0l (a0E a14 (a0E b4j (a0E a2D (a0E a2D (pv 2) (a0E b4j (pv 1) (pv 1))) a0i) (a0E a2D a0i (a0E b4j a0i (pv 1)))) a0i)))))), ?_⟩
  have el : ((ns.map V.int).length : Int) = (ns.length : Int) := by rw [List.length_map]
  refine ⟨_, rfl, _, rfl, _, _, rfl, .inl ⟨_, hS, rfl⟩, _, _, rfl, rfl, _, rfl, ?_⟩
  rw [el]
  refine ite2 (fun h1 => ?_) (fun h1 => ?_)
  ·have h1' : k < ns.length := by simpa using h1
   refine ⟨_, rfl, _, rfl, a, _, k, _, rfl, rfl, hS, c6K ns k h0 h1', ?_⟩
   have e : a5x ns k = ns.getD k.toNat 0 := by unfold a5x; rw [if_pos h1']
   rw [<- e]
   exact q
  ·have h1' : ¬ k < ns.length := by simpa using h1
   refine ⟨_, rfl, _, _, rfl, .inl ⟨_, hS, rfl⟩, _, _, rfl, rfl, _, rfl, ?_⟩
   rw [el]
   have fin : ∀ seed : Int, a5x ns k = (seed + k * k + 5) * (48271 + 16807 * k) % 2147483629 ->
    tRet (tOp (rI (fun _ j => 0 < j) fun i j => .int (i % j)) (tOp (rI CMul fun i j => .int (i * j)) (tOp (rI0 fun i j => .int (i + j)) (tOp (rI0 fun i j => .int (i + j)) (tVar 2) (tOp (rI CMul fun i j => .int (i * j)) (tVar 1) (tVar 1))) (tC (.int 5))) (tOp (rI0 fun i j => .int (i + j)) (tC (.int 48271)) (tOp (rI CMul fun i j => .int (i * j)) (tC (.int 16807)) (tVar 1)))) (tC (.int 2147483629)))
     { nx := fun _ H' => Q .non H', rt := Q } [some (.ref a), some (.int k), some (.int seed)] H := fun seed e => by
    refine ⟨_, rfl, _, rfl, _, rfl, _, _, rfl, rfl, .inl ⟨by omega, by omega⟩, _, _, rfl, rfl, _, _, rfl, rfl, _, rfl, _, _, rfl, rfl, .inl ⟨by decide, by decide⟩, _, _, rfl, rfl, _, _, rfl, rfl, .inr ⟨by omega, by omega⟩, _, _, rfl, rfl, (show (0 : Int) < 2147483629 by decide), ?_⟩
    show Q (.int ((seed + k * k + 5) * (48271 + 16807 * k) % 2147483629)) H
    rw [<- e]
    exact q
   refine ite2 (fun h2 => ?_) (fun h2 => ?_)
   ·have h2' : 0 < (ns.length : Int) := by simpa using h2
    have hm := Int.emod_nonneg k (Int.ne_of_gt h2')
    have hm' := Int.emod_lt_of_pos k h2'
    refine ⟨_, rfl, _, rfl, _, rfl, _, _, rfl, .inl ⟨_, hS, rfl⟩, _, _, rfl, rfl, by rw [el]; exact h2', a, _, _, _, rfl, rfl, hS, by rw [el]; exact c6K ns _ hm hm', _, _, rfl, rfl, (show (0 : Int) < 2147483647 by decide), ?_⟩
    refine fin _ ?_
    unfold a5x
    rw [if_neg h1', if_pos h2']
   ·have h2' : ¬ 0 < (ns.length : Int) := by simpa using h2
    refine fin 41 ?_
    unfold a5x
    rw [if_neg h1', if_neg h2']
end
end My
namespace My
open PySem L2
def Nl (t : Str) : Prop := 1 <= t.length /\ t.length <= 8 /\ ∀ c ∈ t.cps.toList, c ∈ b2R.cps.toList
end My
namespace My
open PySem L2
theorem Nl.name {t : Str} (h : Nl t) : a07 t = true := by
 unfold a07
 have a1 : decide ((1 : Int) <= t.length) = true := by rw [decide_eq_true_eq]; have := h.1; omega
 have a2 : decide ((t.length : Int) <= 8) = true := by rw [decide_eq_true_eq]; have := h.2.1; omega
 have a3 : t.cps.toList.all inL = true := by
  rw [List.all_eq_true]
  intro c hc
  have : ∀ c ∈ b2R.cps.toList, inL c = true := by decide +kernel
  exact this c (h.2.2 c hc)
 rw [a1, a2, a3]
 rfl
theorem Nl.lay {z : Str} (h : Nl z) : PyData.canLay0 (.str z) = true := by
 obtain ⟨⟨l⟩⟩ := z
 have : ∀ c ∈ b2R.cps.toList, c < 128 := by decide +kernel
 exact c6w fun c hc => this c (h.2.2 c hc)
theorem c5i {p : Str × Str} (h1 : Nl p.1) (h2 : Nl p.2) : (spD p).canLay0 = true := by
 show PyData.canLayAll0 [.str p.1, .str p.2] = true
 show (PyData.canLay0 (.str p.1) && (PyData.canLay0 (.str p.2) && true)) = true
 rw [h1.lay, h2.lay]
 rfl
def c9F (K : PySem.W.Frag) (H : Hp) (xs : List V) (ps : List (Str × Str)) : Prop := a1R K H xs (ps.map spD) /\ ∀ p ∈ ps, Nl p.1 /\ Nl p.2
theorem b9e : ∀ {ps : List (Str × Str)}, (∀ p ∈ ps, Nl p.1 /\ Nl p.2) -> (PyData.list (ps.map spD)).canLay0 = true
 | [], _ => rfl
 | p :: ps, h => by
  show ((spD p).canLay0 && PyData.canLayAll0 (ps.map spD)) = true
  have e : PyData.canLayAll0 (ps.map spD) = true := b9e fun q hq => h q (List.mem_cons_of_mem _ hq)
  rw [e, c5i (h p List.mem_cons_self).1 (h p List.mem_cons_self).2]
  rfl
theorem a1R.snoc {K : PySem.W.Frag} {H : Hp} : ∀ {xs : List V} {ds : List PyData} {x : V} {d : PyData}, a1R K H xs ds -> Dt K H x d -> a1R K H (xs ++ [x]) (ds ++ [d])
 | _, _, _, _, .nil, h => .cons h .nil
 | _, _, _, _, .cons h t, q => .cons h (a1R.snoc t q)
section
variable {P : Program} {w : World} {K : PySem.W.Frag} {mg : Str -> Option Value} {base : Heap}
def b2t : Sp := fun vs H Q _ => ∃ z : Str, vs = [.str z] /\ Nl z /\ ∀ H', Same H H' -> Q .non H'
theorem b5n : a0o ["name"] ["name"] (a0b a20) := ⟨rfl, rfl, rfl, by decide +kernel, rfl, by decide +kernel, by decide +kernel⟩
theorem a1n (T : Tops K mg) : a0q P w K mg base CX0 2 "check_name" ["name"] b2t := by
 have G_is_name : a0q P w K mg base CX0 1 "is_name" ["thing"] (b0d K) := a1X T
 refine T.d_check_name.known b5n (fun _ _ _ _ _ _ us hl => match us, hl with | [_], _ => rfl) (fun vs H Q E h => ?_) (fun f cdv A outer s H vs Q E hr h => ?_)
 ·obtain ⟨z, rfl, _⟩ := h
  rfl
 ·obtain ⟨z, rfl, hz, q⟩ := h
  refine ⟨_, (a0g (a0J (a9c (a05 (a0h G_is_name (hr.mono (by decide)) a0t (a0a (pv 0) a0c)) (fun _ => rfl))) (a0g b42) a0p)), ?_⟩
  have h8 := hz.2.1
  refine ⟨_, rfl, _, _, rfl, .str z, a1l (by omega), fun H' s' => ⟨_, rfl, ?_⟩⟩
  rw [show a55 (.str z) = true from hz.name]
  exact iteF (q H' s')
def b07 (K : PySem.W.Frag) : Sp := fun vs H Q _ => ∃ (a : Addr) (zs : List Str), vs = [.ref a] /\ SqL K H a (zs.map V.str) /\ zs.length <= 6 /\ (∀ z ∈ zs, Nl z) /\ ∀ H' l, Same H H' -> H l = none -> H' l = some (.lst (zs.map V.str)) -> Q (.ref l) H'
theorem b5r {K : PySem.W.Frag} {H : Hp} : ∀ zs : List Str, a1R K H (zs.map V.str) (zs.map PyData.str)
 | [] => .nil
 | z :: zs => .cons (.str z) (b5r zs)
theorem a6e : a0o ["names", "name"] ["names"] (a0b a1K) := ⟨rfl, rfl, rfl, by decide +kernel, rfl, by decide +kernel, by decide +kernel⟩
theorem a02 (T : Tops K mg) : a0q P w K mg base CX0 3 "checked_names" ["names"] (b07 K) := by
 have G_check_name : a0q P w K mg base CX0 2 "check_name" ["name"] b2t := a1n T
 refine T.d_checked_names.known a6e (fun _ _ _ _ _ _ us hl => match us, hl with | [_], _ => rfl) (fun vs H Q E h => ?_) (fun f cdv A outer s H vs Q E hr h => ?_)
 ·obtain ⟨a, zs, rfl, _⟩ := h
  rfl
 ·obtain ⟨a, zs, rfl, hq, h6, hz, q⟩ := h
  refine ⟨_, (a0e (a0J (PW.pt (b9E (a9c (a05 (a0r a0Y rfl T.isinstance a0w (a0a (pv 0) (a0a (a5E T.list c1O) a0c))) (fun _ => rfl))) (b4q (a0v c2q (a0r a1f rfl T.len a6M (a0a (pv 0) a0c)) (c4l T.g_MOST_NAMES) (a0A _))))) (a0g b42) a0p)
   (a0e (a4m PassesOwn.never rfl (a2F (pv 0)) (a0Q (i := 1) a6e.nd rfl (Or.inl rfl)) (a0g (a0F (a0h G_check_name (hr.mono (by decide)) a0t (a0a (pv 1) a0c)))))
   (a0g (a0l (a1H a6D rfl T.list c1O (a0a (pv 0) a0c)))))), ?_⟩
  refine ⟨_, rfl, _, "list", _, _, rfl, Dt.lst hq (b5r zs), c5N K _, _, rfl, iteF ?_⟩
  refine ⟨_, rfl, _, _, rfl, .inl ⟨_, hq, rfl⟩, _, _, rfl, rfl, _, rfl, ?_⟩
  rw [List.length_map, decide_eq_false (by omega)]
  refine iteF ?_
  refine ⟨_, rfl, a, rfl, ⟨_, hq⟩, ?_⟩
  refine a4r (K := K) (a := a) (xs := zs.map V.str) (fun i σ H2 => ∃ o, σ = [some (.ref a), o] /\ Same H H2) ⟨_, rfl, Same.refl H⟩ (fun i σ H2 _ ⟨_, _, s2⟩ => s2.seq hq) ?_ ?_
  ·rintro i x σ H2 hx ⟨o, rfl, s2⟩
   rw [List.getElem?_map] at hx
   cases e : zs[i]? with
   | none => rw [e] at hx; cases hx
   | some z =>
    rw [e] at hx
    cases hx
    exact ⟨_, rfl, z, rfl, hz z (List.mem_of_getElem? e), fun H3 s3 => ⟨_, rfl, s2.trans s3⟩⟩
  ·rintro σ H2 ⟨o, rfl, s2⟩
   refine ⟨_, rfl, a, _, rfl, .inl (s2.seq hq), fun l hl => ?_⟩
   have hl' : H l = none := by
    cases e : H l with
    | none => rfl
    | some u => rw [s2 _ _ e] at hl; cases hl
   exact q _ l (s2.trans (Same.new hl)) hl' a0d
def c82 (K : PySem.W.Frag) : Sp := fun vs H Q _ => ∃ (a : Addr) (xs : List V) (ps : List (Str × Str)), vs = [.ref a] /\ SqL K H a xs /\ c9F K H xs ps /\ ps.length <= 100 /\
 ∀ H' l ys, Same H H' -> H l = none -> H' l = some (.lst ys) -> c9F K H' ys (a2T ps) -> Q (.ref l) H'
theorem a2g : a0o ["spots", "found", "spot"] ["spots"] (a0b a4k) := ⟨rfl, rfl, rfl, by decide +kernel, rfl, by decide +kernel, by decide +kernel⟩
theorem a59 (T : Tops K mg) : a0q P w K mg base CX0 2 "each_once" ["spots"] (c82 K) := by
 refine T.d_each_once.known a2g (fun _ _ _ _ _ _ us hl => match us, hl with | [_], _ => rfl) (fun vs H Q E h => ?_) (fun f cdv A outer s H vs Q E hr h => ?_)
 ·obtain ⟨a, xs, ps, rfl, _⟩ := h
  rfl
 ·obtain ⟨a, xs, ps, rfl, hq, hsp, h100, q⟩ := h
  refine ⟨_, (a0e (a0B (i := 1) a2g.nd rfl (Or.inl rfl) (a1G a0c))
   (a0e (a4m PassesOwn.never rfl (a2F (pv 0)) (a0Q (i := 2) a2g.nd rfl (Or.inl rfl)) (a0g (a0J (a0v (c3G hr.units) (pv 2) (pv 1) (by with_unfolding_all rfl)) (a0g (a0F (a9Q PySem.F.plainAttrs_list PySem.F.slot_list_append PySem.F.type_list_append a17 (pv 1) (a0a (pv 2) a0c)))) a0p)))
   (a0g (a0l (pv 1))))), ?_⟩
  have hlx : xs.length = ps.length := by rw [hsp.1.length, List.length_map]
  refine ⟨sl, fun l hl => ?_⟩
  refine ⟨_, rfl, a, rfl, ⟨_, (Same.new hl).seq hq⟩, ?_⟩
  refine a4r (K := K) (a := a) (xs := xs) (fun i σ H2 => ∃ o ys, σ = [some (.ref a), some (.ref l), o] /\ Same H H2 /\ H2 l = some (.lst ys) /\ a1R K H ys ((a2T (ps.take i)).map spD)) ⟨_, [], rfl, Same.new hl, a0d, .nil⟩ (fun i σ H2 _ ⟨_, _, _, s2, _⟩ => s2.seq hq) ?_ ?_
  ·rintro i x σ H2 hx ⟨o, ys, rfl, s2, h2, hd⟩
   obtain ⟨d, hd1, hd2⟩ := hsp.1.get hx
   rw [List.getElem?_map] at hd1
   cases e : ps[i]? with
   | none => rw [e] at hd1; cases hd1
   | some p =>
    rw [e] at hd1
    cases hd1
    have hp := List.mem_of_getElem? e
    have hle : ((a2T (ps.take i)).map spD).length = ys.length := hd.length.symm
    rw [List.length_map] at hle
    have hyl : ys.length <= 100 := by
     have h3 := c47 (ps.take i)
     rw [List.length_take] at h3
     omega
    have lay2 : (PyData.list ((a2T (ps.take i)).map spD)).canLay0 = true := b9e fun p' hp' => hsp.2 p' (List.mem_of_mem_take (b4n hp'))
    have et : a2T (ps.take (i + 1)) = if p ∈ a2T (ps.take i) then a2T (ps.take i) else a2T (ps.take i) ++ [p] := by
     rw [List.take_add_one, e]
     exact b9G _ _
    refine ⟨_, rfl, _, rfl, spD p, _, hd2.same s2, Dt.lst (SqL.of h2) (a1R.same s2 hd), c5i (hsp.2 p hp).1 (hsp.2 p hp).2, lay2, (show max 0 (max 0 0) + 1 <= 62 by decide), _, rfl, ?_⟩
    rw [c41]
    by_cases hm : p ∈ a2T (ps.take i)
    ·rw [decide_eq_true hm]
     rw [if_pos hm] at et
     exact iteF ⟨_, ys, rfl, s2, h2, by rw [et]; exact hd⟩
    ·rw [decide_eq_false hm]
     rw [if_neg hm] at et
     refine iteT ?_
     refine ⟨_, rfl, .inl ⟨rfl, _, SqL.of h2⟩, _, rfl, l, _, _, rfl, rfl, h2, a0U (by omega), ?_⟩
     have s3 : Same H (upd H2 l (.lst (ys ++ [x]))) := s2.on hl
     refine ⟨_, ys ++ [x], rfl, s3, a0d, ?_⟩
     rw [et, List.map_append]
     exact a1R.snoc hd hd2
  ·rintro σ H2 ⟨o, ys, rfl, s2, h2, hd⟩
   refine ⟨_, rfl, q H2 l ys s2 hl h2 ⟨?_, fun p hp => hsp.2 p (b4n hp)⟩⟩
   rw [hlx, List.take_length] at hd
   exact a1R.same s2 hd
end
end My
namespace My
open PySem L2
def But (p : Addr) (H H' : Hp) : Prop := ∀ b o, b ≠ p -> H b = some o -> H' b = some o
theorem But.of {p : Addr} {H H' : Hp} (s : Same H H') : But p H H' := fun b o _ e => s b o e
theorem But.trans {p : Addr} {H H1 H2 : Hp} (a : But p H H1) (b : But p H1 H2) : But p H H2 := fun c o n e => b c o n (a c o n e)
theorem But.upd {p : Addr} {H : Hp} {o : HO} : But p H (upd H p o) := fun b u n e => by rw [a0m n]; exact e
theorem c7x {K : PySem.W.Frag} {H : Hp} {a D : Addr} {xs ys : List V} {o : HO} (hD : H D = some (.lst ys)) (h : SqT K H a xs) : SqT K (upd H D o) a xs := by
 rcases h with (h | ⟨o', h⟩) | h
 ·exact .inl (.inl (by rw [a0m (c2Y h hD (fun z => by cases z))]; exact h))
 ·exact .inl (.inr ⟨o', by rw [a0m (c2Y h hD (fun z => by cases z))]; exact h⟩)
 ·exact .inr h
theorem a5w {H H' : Hp} {l : Addr} (s : Same H H') (h : H' l = none) : H l = none := by
 cases e : H l with
 | none => rfl
 | some u => rw [s _ _ e] at h; cases h
section
variable {P : Program} {w : World} {K : PySem.W.Frag} {mg : Str -> Option Value} {base : Heap}
def a9x (K : PySem.W.Frag) : Sp := fun vs H Q _ => ∃ (p C dx : Addr) (fs : List (Str × V)) (v : V), vs = [.ref p, v] /\ H p = some (.ins C dx fs) /\ Cls K C /\ a1m K C "function" /\ fs.length < 1000 /\ Q .non (upd H p (.ins C dx (putF "function" v fs)))
theorem b8f : a0o ["self", "function"] ["self", "function"] (a0b a3Q) := ⟨rfl, rfl, rfl, by decide +kernel, rfl, by decide +kernel, by decide +kernel⟩
theorem a1p (T : Tops K mg) {C : Addr} (Y : a9R K mg C) : a1B P w K mg base CX0 1 C "__init__" ["self", "function"] (a9x K) := by
 refine Y.m_init.known b8f (fun _ _ _ _ _ _ us hl => match us, hl with | [_, _], _ => rfl) (fun vs H Q E h => ?_) (fun f cdv A outer s H vs Q E hr h => ?_)
 ·obtain ⟨p, C', dx, fs, v, rfl, _⟩ := h
  rfl
 ·obtain ⟨p, C', dx, fs, v, rfl, hp, hC, hN, hl, q⟩ := h
  refine ⟨_, (a0g (a6U (pv 0) (pv 1) rfl)), ?_⟩
  exact ⟨_, rfl, _, rfl, p, C', dx, fs, rfl, hp, hC, hN, hl, q⟩
def b2b (K : PySem.W.Frag) (p : Addr) : Sp := fun vs H Q _ => ∃ x d, vs = [x] /\ Dt K H x d /\ a3l d /\ ∀ H', Same H H' -> Q (if a4w d then x else .ref p) H'
theorem c3f : a0o ["thing"] ["thing"] (a0b a7i) := ⟨rfl, rfl, rfl, by decide +kernel, rfl, by decide +kernel, by decide +kernel⟩
theorem a5l (T : Tops K mg) {p : Addr} (hp : mg "ODD" = some (.ref p)) : a0q P w K mg base CX0 4 "settled" ["thing"] (b2b K p) := by
 have G_is_value : a0q P w K mg base CX0 3 "is_value" ["thing"] (c3B K) := a5r T
 refine T.d_settled.known c3f (fun _ _ _ _ _ _ us hl => match us, hl with | [_], _ => rfl) (fun vs H Q E h => ?_) (fun f cdv A outer s H vs Q E hr h => ?_)
 ·obtain ⟨x, d, rfl, _⟩ := h
  rfl
 ·obtain ⟨x, d, rfl, hd, hsh, q⟩ := h
  refine ⟨_, (a0e (a0J (a05 (a0h G_is_value (hr.mono (by decide)) a0t (a0a (pv 0) a0c)) (fun _ => rfl)) (a0g (a0l (pv 0))) a0p)
   (a0g (a0l (a7a hp)))), ?_⟩
  refine ⟨_, rfl, x, d, rfl, hd, hsh, fun H' s' => ⟨_, rfl, ?_⟩⟩
  have q' := q H' s'
  refine ite2 (fun h1 => ?_) (fun h1 => ?_)
  ·rw [if_pos h1] at q'
   exact ⟨_, rfl, q'⟩
  ·rw [if_neg h1] at q'
   exact q'
theorem b9X {K : PySem.W.Frag} {H H' : Hp} {p a : Addr} {xs : List V} (b : But p H H') (hp : ∃ C dx fs, H p = some (.ins C dx fs)) (h : SqL K H a xs) : SqL K H' a xs := by
 have na : ∀ u, H a = some u -> (∀ C dx fs, u ≠ .ins C dx fs) -> a ≠ p := fun u e n z => by
  obtain ⟨C, dx, fs, e'⟩ := hp
  rw [<- z, e] at e'
  exact n _ _ _ (Option.some.inj e')
 rcases h with (h | ⟨o, h⟩) | h
 ·exact .inl (.inl (b _ _ (na _ h (fun _ _ _ z => by cases z)) h))
 ·exact .inl (.inr ⟨o, b _ _ (na _ h (fun _ _ _ z => by cases z)) h⟩)
 ·exact .inr h
def Flds (fs : List (Str × V)) (v : V) : Prop := fs.lookup ("leans" : Str) = none /\ fs.lookup ("gather" : Str) = none /\ fs.lookup ("reckon" : Str) = none /\ fs.lookup ("function" : Str) = some v
theorem a2V {H H' : Hp} {x dx C : Addr} (hx : H x = none) (hdx : H dx = none) (bt : But x (upd (upd H dx (.own x)) x (.ins C dx [])) H') : Same H H' := fun b o e => by
 refine bt b o (a0k e hx) ?_
 rw [a0m (a0k e hx), a0m (a0k e hdx)]
 exact e
end
end My
namespace L2
open PySem PySem.Spec PyProof.Rows
theorem Fun.okT {P : Program} {w : World} {K : PySem.W.Frag} {mg : Str -> Option Value} {base : Heap} {x qual : Str} {st : Stmt} {f c : Addr} {fd : FuncData} {N ps : List Str} {k : Nat} {sp : Sp} (F : Fun K x qual st f fd) (hc : fd.code = .ref c) (S : a0o N ps (a0b st)) (len : ∀ vs H Q E, sp vs H Q E -> vs.length = ps.length)
 (hbody : ∀ (A : Around) (outer : List Env) (s : Shared) (H : Hp) (vs : List V) (Q : VK) (E : XK), Room k (A.deeper (envOfC qual (a0b st) s.heap.objs.size f (.ref c))) -> sp vs H Q E ->
  ∃ t, PSs (cxOf CX0 P w K mg base N qual (a0b st) f (.ref c) A outer s H E).nox (a0j st) t /\ t { nx := fun _ H' => Q .non H', rt := Q } (a6A N vs) H) : FnOk P w K mg base CX0 (k + 1) f fd ps sp := by
 obtain ⟨oc, od, kV, doc, pm, an, cdv, ct, osl, rfl, lk, hcd⟩ := F.ex
 have e : cdv = .ref c := hc
 subst e
 refine c8Z lk hcd S len fun A outer s H vs Q E hr hsp => ?_
 obtain ⟨t, h, q⟩ := hbody A outer s H vs Q E hr hsp
 exact ⟨t, h.nox, q⟩
end L2
namespace My
open PySem L2
def Keep (H H' : Hp) : Prop := ∀ b o, (∀ xs, o ≠ .lst xs) -> H b = some o -> H' b = some o
theorem Keep.of {H H' : Hp} (s : Same H H') : Keep H H' := fun b o _ e => s b o e
theorem Keep.trans {H H1 H2 : Hp} (a : Keep H H1) (b : Keep H1 H2) : Keep H H2 := fun c o n e => b c o n (a c o n e)
theorem Keep.lst {H : Hp} {l : Addr} {xs ys : List V} (h : H l = some (.lst xs)) : Keep H (upd H l (.lst ys)) := fun b o n e => by
 rw [a0m (c2Y e h (n xs))]
 exact e
theorem Keep.but {H H' : Hp} {l : Addr} {xs : List V} (s : But l H H') (h : H l = some (.lst xs)) : Keep H H' := fun b o n e => s b o (c2Y e h (n xs)) e
theorem c9o {H H' : Hp} {l : Addr} (s : Same H H') (h : H' l = none) : H l = none := by
 cases e : H l with
 | none => rfl
 | some o => rw [s l o e] at h; cases h
def WV (H : Hp) (v : V) : Prop := (∃ i, v = .int i) ∨ ∃ a z, v = .ref a /\ H a = some (.tup [.str ("fault" : Str), .str z]) /\ Nl z
theorem WV.keep {H H' : Hp} {v : V} (s : Keep H H') (h : WV H v) : WV H' v := by
 rcases h with ⟨i, e⟩ | ⟨a, z, e1, e2, e3⟩
 ·exact .inl ⟨i, e⟩
 ·exact .inr ⟨a, z, e1, s _ _ (fun xs q => by cases q) e2, e3⟩
abbrev a0O := Str × Str × Int
def Nts (H : Hp) : List V -> List a0O -> Prop := Paired fun v z => ∃ a, v = .ref a /\ H a = some (.tup [.str z.1, .str z.2.1, .int z.2.2])
theorem Nts.keep {H H' : Hp} (s : Keep H H') : ∀ {vs : List V} {ns : List a0O}, Nts H vs ns -> Nts H' vs ns
 | _, _, .nil => .nil
 | _, _, .cons ⟨a, e1, e2⟩ t => .cons ⟨a, e1, s _ _ (fun xs q => by cases q) e2⟩ (Nts.keep s t)
theorem Nts.snoc {H : Hp} {v : V} {z : a0O} (h : ∃ a, v = .ref a /\ H a = some (.tup [.str z.1, .str z.2.1, .int z.2.2])) : ∀ {vs : List V} {ns : List a0O}, Nts H vs ns -> Nts H (vs ++ [v]) (ns ++ [z])
 | _, _, .nil => .cons h .nil
 | _, _, .cons r t => .cons r (Nts.snoc h t)
theorem Nts.length {H : Hp} {vs : List V} {ns : List a0O} (h : Nts H vs ns) : vs.length = ns.length := Paired.length h
abbrev Vw := a0O -> Option V
abbrev Mn := Str -> Option Nat
def a2l : V -> Bool
 | .ref _ => true
 | _ => false
def a0x (vw : Vw) (z : a0O) : V := (vw z).getD .non
theorem a0W {vw : Vw} {z : a0O} {v : V} (h : vw z = some v) : a0x vw z = v := by unfold a0x; rw [h]; rfl
def b0m (vw : Vw) (H : Hp) (t c : Str) (m : Nat) : Prop := ∀ p : Nat, p < m -> ∃ v, vw (t, c, (p : Int)) = some v /\ WV H v
theorem b0m.keep {vw : Vw} {H H' : Hp} {t c : Str} {m : Nat} (s : Keep H H') (h : b0m vw H t c m) : b0m vw H' t c m := fun p hp => let ⟨v, e, q⟩ := h p hp; ⟨v, e, q.keep s⟩
def LkS (nl : Addr) (ns : List a0O) (H : Hp) : Prop := ∃ as, H nl = some (.lst as)
theorem LkS.keep {nl : Addr} {ns : List a0O} {H H' : Hp} (s : Keep H H') (e : ∀ xs, H nl = some (.lst xs) -> H' nl = some (.lst xs)) (h : LkS nl ns H) : LkS nl ns H' := by
 obtain ⟨as, h3⟩ := h
 exact ⟨as, e _ h3⟩
theorem LkS.same {nl : Addr} {ns : List a0O} {H H' : Hp} (s : Same H H') (h : LkS nl ns H) : LkS nl ns H' := h.keep (Keep.of s) fun xs e => s _ _ e
theorem LkS.list {nl : Addr} {ns : List a0O} {H : Hp} (h : LkS nl ns H) : ∃ as, H nl = some (.lst as) := h
def spLk (H0 : Hp) (nl : Addr) (vw : Vw) : Sp := fun vs H Q _ => ∃ (t c : Str) (p : Int) (v : V) (ns : List a0O), vs = [.str t, .str c, .int p] /\ But nl H0 H /\ LkS nl ns H /\ ns.length < 900 /\ vw (t, c, p) = some v /\
 ∀ H', But nl H H' -> LkS nl (ns ++ [(t, c, p)]) H' -> Q v H'
def spMn (H0 : Hp) (nl : Addr) (mn : Mn) : Sp := fun vs H Q _ => ∃ (t : Str) (m : Nat), vs = [.str t] /\ But nl H0 H /\ mn t = some m /\ ∀ H', Same H H' -> Q (.int (m : Int)) H'
inductive Res where
 | val (v : V)
 | call (xs : List V)
def b4H (H H' : Hp) (fv : V) : Res -> Prop
 | .val v => ∃ a, fv = .ref a /\ H' a = some (.tup [.str ("value" : Str), v])
 | .call xs => ∃ a l, fv = .ref a /\ H' a = some (.tup [.str ("call" : Str), .ref l]) /\ H' l = some (.lst xs) /\ H l = none
def c56 (P : Program) (w : World) (K : PySem.W.Frag) (mg : Str -> Option Value) (base : Heap) {Rl : Type} (at' : Hp -> Addr -> Rl -> Prop) (gat : Vw -> Mn -> Rl -> Str -> Str -> Nat -> List a0O × Res)
 (ok : Hp -> Vw -> Mn -> Rl -> Str -> Str -> Nat -> Prop) : Sp := fun vs H Q _ => ∃ (self look many nl : Addr) (t c : Str) (p : Nat) (vw : Vw) (mn : Mn) (rl : Rl),
 vs = [.ref self, .ref look, .ref many, .str t, .str c, .int (p : Int)] /\ at' H self rl /\ ok H vw mn rl t c p /\ a3n P w K mg base 2 look (spLk H nl vw) /\ a3n P w K mg base 2 many (spMn H nl mn) /\ LkS nl [] H /\
 ∀ H' fv, But nl H H' -> LkS nl (gat vw mn rl t c p).1 H' -> b4H H H' fv (gat vw mn rl t c p).2 -> Q fv H'
def a2C (H H' : Hp) : Prop := ∀ b o, (∀ φ, o ≠ .ext φ) -> H b = some o -> H' b = some o
theorem a2C.of {H H' : Hp} (s : Same H H') : a2C H H' := fun b o _ e => s b o e
theorem a2C.trans {H H1 H2 : Hp} (a : a2C H H1) (b : a2C H1 H2) : a2C H H2 := fun c o n e => b c o n (a c o n e)
theorem a2C.tab {H H' : Hp} {P : Addr} {q : Str} (t : a3A q H P) (s : a7z P H H') : a2C H H' := fun b o n e => by
 obtain ⟨S, h, _⟩ := t
 exact s b o (fun z => by rw [z, h] at e; exact n _ (Option.some.inj e).symm) e
theorem c1M {X : Cx} {σ : St} {H₁ : Hp} {f : Lend} {q : Str} {params : Arguments} {body : Expr} {scope : Scope} {fa : Addr} {ps : List Str} {cp : List (Nat × Str)} {cv : List V} {k : Nat} {spB : List V -> Hp -> VK -> Prop} {sc : Scope} {N : List Str} (la : b5e q params body scope (a06 X.env.cells scope.names []) H₁ fa) (L : Lent X σ H₁ f)
 (hcell : ∀ x, X.env.scope.names.lookup x = some .cell -> ∃ c, X.env.cells.lookup x = some c)
 (hcv : cp.map (fun p => σ[p.1]?) = cv.map fun v => some (some v))
 (hb : ∀ (pm ctv : Value) (c : Addr) (clos : List (Str × Addr)) (us : List Value), us.length = ps.length -> bindArgs (PySem.W.kla_fn "<lambda>" q params body scope clos pm (.ref c) ctv) ⟨us, []⟩ = pure (ps.zip us))
 (hbody : ∀ (cd : Value) (A : Around) (outer : List Env) (s : Shared) (H : Hp) (vs : List V) (Q : VK), Room k (A.deeper (PySem.W.envX q scope s.heap.objs.size fa cd (a06 X.env.cells scope.names []))) -> spB vs H Q ->
  ∃ t, PE (b28 X.prog X.w X.K X.mg X.base (ps ++ cp.map (·.2)) q scope fa cd (a06 X.env.cells scope.names []) A outer s H) body t /\ t ((vs ++ cv).map some) H Q)
 (hs : X.env.scope = sc := by rfl) (hN : X.N = N := by rfl)
 (hcp : ∀ p ∈ cp, N[p.1]? = some p.2 /\ sc.names.lookup p.2 = some .cell /\ scope.names.lookup p.2 = some .free := by decide +kernel)
 (free : ∀ y ∈ scope.names, y.2 = .free -> sc.names.lookup y.1 = some .cell := by decide +kernel)
 (kind : scope.kind = .function := by rfl) (co : scope.isCoroutine = false := by rfl) (gen : scope.isGenerator = false := by rfl) (nocell : ∀ y ∈ scope.names, y.2 ≠ .cell := by decide +kernel) (par : ∀ x ∈ ps, scope.names.lookup x = some .local := by decide +kernel) (nd : (ps ++ cp.map (·.2)).Nodup := by decide +kernel) :
 a3n X.prog X.w X.K X.mg X.base (k + 1) fa (c6g fa f q params body scope (a06 X.env.cells scope.names []) ps.length spB) := by
 subst hs hN
 exact c9v L hcell hcv hcp free kind co gen nocell par nd hb hbody
theorem c9a {X : Cx} {σ : St} {H₁ : Hp} {f : Lend} {q name : Str} {params : Arguments} {body : List Stmt} {scope : Scope} {fa : Addr} {ps : List Str} {cp : List (Nat × Str)} {cv : List V} {k : Nat} {spB : List V -> Hp -> VK -> Prop} {sc : Scope} {N : List Str} (la : c06 q name params body scope (a06 X.env.cells scope.names []) H₁ fa) (L : Lent X σ H₁ f)
 (hcell : ∀ x, X.env.scope.names.lookup x = some .cell -> ∃ c, X.env.cells.lookup x = some c)
 (hcv : cp.map (fun p => σ[p.1]?) = cv.map fun v => some (some v))
 (hb : ∀ (doc pm ctv : Value) (c : Addr) (clos : List (Str × Addr)) (us : List Value), us.length = ps.length -> bindArgs (PySem.W.fnX name q params body scope clos .none .none doc pm none (.ref c) ctv) ⟨us, []⟩ = pure (ps.zip us))
 (hbody : ∀ (cd : Value) (A : Around) (outer : List Env) (s : Shared) (H : Hp) (vs : List V) (Q : VK), Room k (A.deeper (PySem.W.envX q scope s.heap.objs.size fa cd (a06 X.env.cells scope.names []))) -> spB vs H Q ->
  ∃ t, PSs (b28 X.prog X.w X.K X.mg X.base (ps ++ cp.map (·.2)) q scope fa cd (a06 X.env.cells scope.names []) A outer s H) body t /\ t { nx := fun _ _ => False, rt := Q } ((vs ++ cv).map some) H)
 (hs : X.env.scope = sc := by rfl) (hN : X.N = N := by rfl)
 (hcp : ∀ p ∈ cp, N[p.1]? = some p.2 /\ sc.names.lookup p.2 = some .cell /\ scope.names.lookup p.2 = some .free := by decide +kernel)
 (free : ∀ y ∈ scope.names, y.2 = .free -> sc.names.lookup y.1 = some .cell := by decide +kernel)
 (kind : scope.kind = .function := by rfl) (co : scope.isCoroutine = false := by rfl) (gen : scope.isGenerator = false := by rfl) (nocell : ∀ y ∈ scope.names, y.2 ≠ .cell := by decide +kernel) (par : ∀ x ∈ ps, scope.names.lookup x = some .local := by decide +kernel) (nd : (ps ++ cp.map (·.2)).Nodup := by decide +kernel) :
 a3n X.prog X.w X.K X.mg X.base (k + 1) fa (c7A fa f q name params body scope (a06 X.env.cells scope.names []) ps.length spB) := by
 subst hs hN
 exact c9k L hcell hcv hcp free kind co gen nocell par nd hb hbody
theorem Nts.at {H : Hp} : ∀ {vs : List V} {ns : List a0O} {i : Nat} {v : V}, Nts H vs ns -> vs[i]? = some v -> ∃ z, ns[i]? = some z /\ ∃ a, v = .ref a /\ H a = some (.tup [.str z.1, .str z.2.1, .int z.2.2])
 | _, _, _, _, .nil, e => by simp at e
 | _, _, 0, _, .cons r _, e => by simp at e; subst e; exact ⟨_, rfl, r⟩
 | _, _, i + 1, v, .cons _ t, e => by
  obtain ⟨z, h1, h2⟩ := Nts.at (i := i) (v := v) t (by simpa using e)
  exact ⟨z, by simpa using h1, h2⟩
theorem a0M {q : Str} {H H' : Hp} {P : Addr} (s : Same H H') (h : a3A q H P) : a3A q H' P := by
 obtain ⟨S, e, r⟩ := h
 exact ⟨S, s _ _ e, fun c hc => let ⟨o, e1, e2⟩ := r c hc; ⟨o, s _ _ e1, e2⟩⟩
theorem a3R {q : Str} {params : Arguments} {body : Expr} {scope : Scope} {clos : List (Str × Addr)} {H H' : Hp} {fa : Addr} (s : a2C H H') (h : b5e q params body scope clos H fa) : b5e q params body scope clos H' fa := by
 obtain ⟨pm, c, ctv, o, e1, e2, e3⟩ := h
 exact ⟨pm, c, ctv, o, s _ _ (fun φ z => by cases z) e1, s _ _ (fun φ z => by cases z) e2, e3⟩
def c5m (G : Hp) (nl : Addr) (vw : Vw) : List V -> Hp -> VK -> Prop := fun vs H Q => ∃ (t c : Str) (p : Int) (v : V), vs = [.str t, .str c, .int p] /\ But nl G H /\ (∃ as, H nl = some (.lst as)) /\ vw (t, c, p) = some v /\ ∀ H', Same H H' -> Q v H'
def c5b (G : Hp) (nl : Addr) (mn : Mn) : List V -> Hp -> VK -> Prop := fun vs H Q => ∃ (t : Str) (m : Nat), vs = [.str t] /\ But nl G H /\ mn t = some m /\ ∀ H', Same H H' -> Q (.int (m : Int)) H'
theorem c4H {f : Lend} {G H : Hp} {nl : Addr} (hf : ∀ b o, f b = some o -> G b = none) (b : But nl (lend f G) H) : But nl G (unl f H) := fun c o n e => by
 have e2 : f c = none := by
  cases e3 : f c with
  | none => rfl
  | some ob => rw [hf c ob e3] at e; cases e
 rw [a1C e2]
 exact b c o n (by rw [a0N e2]; exact e)
theorem c8o {P : Program} {w : World} {K : PySem.W.Frag} {mg : Str -> Option Value} {base : Heap} {k : Nat} {q name : Str} {params : Arguments} {body : List Stmt} {scope : Scope} {clos : List (Str × Addr)} {fa : Addr} {f : Lend} {G : Hp} {nl : Addr} {vw : Vw} (hf : ∀ b o, f b = some o -> G b = none) (hn : f nl = none) (la : c06 q name params body scope clos G fa) (hnl : ∃ as, G nl = some (.lst as))
 (F : a3n P w K mg base k fa (c7A fa f q name params body scope clos 3 (c5m G nl vw))) : a3n P w K mg base k fa (spLk (lend f G) nl vw) := by
 refine F.imp fun vs H Q E h => ?_
 obtain ⟨t, c, p, v, ns, rfl, b0, ⟨as, hn'⟩, hlen, hv, qq⟩ := h
 obtain ⟨as0, hn0⟩ := hnl
 have lf : ∀ b o, f b = some o -> H b = some (Fz o) := fun b o e => b0 b _ (fun z => by rw [z, hn] at e; cases e) (a3f e)
 have kp0 : a2C G H ∨ True := .inr trivial
 have la' : c06 q name params body scope clos H fa := by
  obtain ⟨doc, pm, c, ctv, o, e1, e2, e3⟩ := la
  have up : ∀ b u, G b = some (Fz u) -> H b = some (Fz u) := fun b u e => by
   refine b0 b _ (fun z => by rw [z, hn0] at e; cases e) ?_
   cases e4 : f b with
   | none => rw [a0N e4]; exact e
   | some ob => rw [hf b ob e4] at e; cases e
  exact ⟨doc, pm, c, ctv, o, up _ _ e1, up _ _ e2, e3⟩
 refine ⟨rfl, la', lf, t, c, p, v, rfl, c4H hf b0, ⟨as, by rw [a1C hn]; exact hn'⟩, hv, fun H' s' fr => ?_⟩
 have sm : Same H (lend f H') := fun b o e => by
  cases e2 : f b with
  | none => rw [a0N e2]; exact s' b o (by rw [a1C e2]; exact e)
  | some ob =>
   rw [lf b ob e2] at e
   rw [a3f e2]; exact e
 exact qq _ (But.of sm) ⟨as, sm _ _ hn'⟩
theorem c75 {P : Program} {w : World} {K : PySem.W.Frag} {mg : Str -> Option Value} {base : Heap} {k : Nat} {q : Str} {params : Arguments} {body : Expr} {scope : Scope} {clos : List (Str × Addr)} {fa : Addr} {f : Lend} {G : Hp} {nl : Addr} {mn : Mn} (hf : ∀ b o, f b = some o -> G b = none) (hn : f nl = none) (la : b5e q params body scope clos G fa) (hnl : ∃ as, G nl = some (.lst as))
 (F : a3n P w K mg base k fa (c6g fa f q params body scope clos 1 (c5b G nl mn))) : a3n P w K mg base k fa (spMn (lend f G) nl mn) := by
 refine F.imp fun vs H Q E h => ?_
 obtain ⟨t, m, rfl, b0, hv, qq⟩ := h
 obtain ⟨as0, hn0⟩ := hnl
 have lf : ∀ b o, f b = some o -> H b = some (Fz o) := fun b o e => b0 b _ (fun z => by rw [z, hn] at e; cases e) (a3f e)
 have la' : b5e q params body scope clos H fa := by
  obtain ⟨pm, c, ctv, o, e1, e2, e3⟩ := la
  have up : ∀ b u, G b = some (Fz u) -> H b = some (Fz u) := fun b u e => by
   refine b0 b _ (fun z => by rw [z, hn0] at e; cases e) ?_
   cases e4 : f b with
   | none => rw [a0N e4]; exact e
   | some ob => rw [hf b ob e4] at e; cases e
  exact ⟨pm, c, ctv, o, up _ _ e1, up _ _ e2, e3⟩
 refine ⟨rfl, la', lf, t, m, rfl, c4H hf b0, hv, fun H' s' fr => ?_⟩
 refine qq _ (fun b o e => ?_)
 cases e2 : f b with
 | none => rw [a0N e2]; exact s' b o (by rw [a1C e2]; exact e)
 | some ob =>
  rw [lf b ob e2] at e
  rw [a3f e2]; exact e
theorem b4p {K : PySem.W.Frag} {cp : List (Nat × Str)} {tt : TT} {te : TE} {σ : St} {a : Addr} {xs : List V} {D : Addr} {Q : VK} {H1 : Hp} (Pv : Nat -> List V -> Hp -> Prop) (h0 : Pv 0 [] (upd H1 D (.lst [])))
 (hl : ∀ i ys H, H D = some (.lst ys) -> Pv i ys H -> SqL K H a xs)
 (hs : ∀ i x ys H, xs[i]? = some x -> H D = some (.lst ys) -> Pv i ys H -> tt (some x :: capσ cp σ) H fun b H4 => if b = true then te (some x :: capσ cp σ) H4 (Nxt D Pv i ys) else ∃ ys', H4 D = some (.lst ys') /\ Pv (i + 1) ys' H4)
 (hd : ∀ ys H, H D = some (.lst ys) -> Pv xs.length ys H -> Q (.ref D) H) : b69 cp tt te σ (Itl K a) D Q H1 := by
 refine ⟨fun i m H => m = xs.length - i /\ i <= xs.length /\ ∃ ys, H D = some (.lst ys) /\ Pv i ys H, ⟨xs.length, by simp, Nat.zero_le _, [], a0d, h0⟩, ?_⟩
 rintro i m H ⟨rfl, hi, ys, hD, p⟩
 by_cases hlt : i < xs.length
 ·refine .inr ⟨⟨xs, xs[i], hl i ys H hD p, by simp [hlt]⟩, Nxt D Pv i ys, fun H4 => ∃ ys', H4 D = some (.lst ys') /\ Pv (i + 1) ys' H4, fun y H5 ⟨h1, h2, h3⟩ => ⟨ys, xs.length - (i + 1), h1, h2, by omega, rfl, hlt, _, a0d, h3⟩, fun H4 ⟨ys', h1, h2⟩ => ⟨xs.length - (i + 1), by omega, rfl, hlt, ys', h1, h2⟩, fun v H' y => ?_⟩
  obtain ⟨e, y⟩ := y
  subst e
  exact hs i v ys _ (y xs (hl i ys _ hD p)) hD p
 ·have e : i = xs.length := by omega
  subst e
  exact .inl ⟨⟨xs, hl _ ys H hD p, Nat.le_refl _⟩, hd ys H hD p⟩
section
variable {K : PySem.W.Frag}
theorem WV.dt {H : Hp} {v : V} (h : WV H v) : ∃ d, Dt K H v d /\ d.canLay0 = true /\ d.depth <= 64 /\ PyData.eqv d d = true /\ a3l d /\ ((∃ i, v = .int i /\ d = .int i) ∨ ∃ a z, v = .ref a /\ H a = some (.tup [.str ("fault" : Str), .str z]) /\ d = .tuple [.str "fault", .str z] /\ a5s d = true) := by
 rcases h with ⟨i, rfl⟩ | ⟨a, z, rfl, h2, h3⟩
 ·exact ⟨.int i, .int i, rfl, (show 0 <= 64 by decide), (by simp [PyData.eqv]), b38 (by intro z; cases z), .inl ⟨i, rfl, rfl⟩⟩
 ·have lz := Nl.lay h3
  refine ⟨.tuple [.str "fault", .str z], .tup (SqT.of h2) (.cons (.str _) (.cons (.str _) .nil)), ?_, (show 1 <= 64 by decide), ?_, a9t ?_, .inr ⟨a, z, rfl, h2, rfl, ?_⟩⟩
  ·have l1 : PyData.canLay0 (.str ("fault" : Str)) = true := by decide +kernel
   simp only [PyData.canLay0, PyData.canLayAll0, Bool.and_true, Bool.and_eq_true] at l1 lz ⊢
   exact ⟨l1, lz⟩
  ·simp [PyData.eqv, PyData.eqvAll]
  ·intro e he
   simp only [List.mem_cons, List.not_mem_nil, or_false] at he
   rcases he with rfl | rfl
   ·exact a1l (by decide)
   ·exact a1l (by have := h3.2.1; omega)
  ·show (decide (("fault" : Str) = "fault") && a55 (.str z)) = true
   rw [decide_eq_true rfl, Bool.true_and]
   exact Nl.name h3
end
def a3g (val : a0O -> V) (own : V) (t k n : Str) : List Nat -> List V -> List a0O × Res
 | [], acc => ([], .call acc)
 | r :: rs, acc =>
  if val (t, k, (r : Int)) = own then
   (if a2l (val (t, n, (r : Int))) then ([(t, k, (r : Int)), (t, n, (r : Int))], .val (val (t, n, (r : Int))))
    else ((t, k, (r : Int)) :: (t, n, (r : Int)) :: (a3g val own t k n rs (acc ++ [val (t, n, (r : Int))])).1, (a3g val own t k n rs (acc ++ [val (t, n, (r : Int))])).2))
  else ((t, k, (r : Int)) :: (a3g val own t k n rs acc).1, (a3g val own t k n rs acc).2)
def a1y (val : a0O -> V) (own : V) (t k n : Str) (rs : List Nat) : List a0O := rs.flatMap fun (r : Nat) => if val (t, k, (r : Int)) = own then [(t, k, (r : Int)), (t, n, (r : Int))] else [(t, k, (r : Int))]
def a4v (val : a0O -> V) (own : V) (t k n : Str) (rs : List Nat) : List V := rs.flatMap fun (r : Nat) => if val (t, k, (r : Int)) = own then [val (t, n, (r : Int))] else []
def NoF (val : a0O -> V) (own : V) (t k n : Str) (rs : List Nat) : Prop := ∀ r ∈ rs, val (t, k, (r : Int)) = own -> a2l (val (t, n, (r : Int))) = false
section
variable {val : a0O -> V} {own : V} {t k n : Str}
theorem b4r {r : Nat} {rs : List Nat} {acc : List V} : a3g val own t k n (r :: rs) acc = if val (t, k, (r : Int)) = own then
 (if a2l (val (t, n, (r : Int))) then ([(t, k, (r : Int)), (t, n, (r : Int))], .val (val (t, n, (r : Int))))
  else ((t, k, (r : Int)) :: (t, n, (r : Int)) :: (a3g val own t k n rs (acc ++ [val (t, n, (r : Int))])).1, (a3g val own t k n rs (acc ++ [val (t, n, (r : Int))])).2))
 else ((t, k, (r : Int)) :: (a3g val own t k n rs acc).1, (a3g val own t k n rs acc).2) := rfl
theorem a98 {r : Nat} {rs : List Nat} : a1y val own t k n (r :: rs) = (if val (t, k, (r : Int)) = own then [(t, k, (r : Int)), (t, n, (r : Int))] else [(t, k, (r : Int))]) ++ a1y val own t k n rs := by
 unfold a1y; rw [List.flatMap_cons]
theorem b1z {r : Nat} {rs : List Nat} : a4v val own t k n (r :: rs) = (if val (t, k, (r : Int)) = own then [val (t, n, (r : Int))] else []) ++ a4v val own t k n rs := by
 unfold a4v; rw [List.flatMap_cons]
theorem c0M : ∀ {xs ys : List Nat} {acc : List V}, NoF val own t k n xs -> a3g val own t k n (xs ++ ys) acc = (a1y val own t k n xs ++ (a3g val own t k n ys (acc ++ a4v val own t k n xs)).1, (a3g val own t k n ys (acc ++ a4v val own t k n xs)).2)
 | [], ys, acc, _ => by simp [a1y, a4v]
 | x :: xs, ys, acc, h => by
  have hx := h x List.mem_cons_self
  have ih : ∀ acc, _ := fun acc => c0M (xs := xs) (ys := ys) (acc := acc) fun r hr => h r (List.mem_cons_of_mem _ hr)
  rw [List.cons_append]
  rw [b4r, a98, b1z]
  by_cases e : val (t, k, (x : Int)) = own
  ·rw [if_pos e, if_pos e, if_pos e, hx e, if_neg Bool.false_ne_true, ih]
   simp [List.append_assoc]
  ·rw [if_neg e, if_neg e, if_neg e, ih]
   simp
theorem c7v {rs : List Nat} (h : NoF val own t k n rs) : a3g val own t k n rs [] = (a1y val own t k n rs, .call (a4v val own t k n rs)) := by
 have := c0M (xs := rs) (ys := []) (acc := []) h
 rw [List.append_nil] at this
 rw [this]
 simp [a3g]
theorem c9G {m i : Nat} (hi : i < m) (h : NoF val own t k n (List.range i)) (e : val (t, k, (i : Int)) = own) (hr : a2l (val (t, n, (i : Int))) = true) :
 a3g val own t k n (List.range m) [] = (a1y val own t k n (List.range i) ++ [(t, k, (i : Int)), (t, n, (i : Int))], .val (val (t, n, (i : Int)))) := by
 have e1 : List.range m = List.range i ++ (i :: (List.range m).drop (i + 1)) := by
  have h1 : (List.range m).drop i = (List.range m)[i]'(by simpa using hi) :: (List.range m).drop (i + 1) := List.drop_eq_getElem_cons (by simpa using hi)
  have h2 : (List.range m).take i = List.range i := by rw [List.take_range]; congr 1; omega
  rw [List.getElem_range] at h1
  conv => lhs; rw [<- List.take_append_drop i (List.range m), h1, h2]
 have := c0M (xs := List.range i) (ys := i :: (List.range m).drop (i + 1)) (acc := []) h
 rw [<- e1] at this
 rw [this]
 simp only [a3g, e, hr, if_true]
theorem b8F {i : Nat} : a1y val own t k n (List.range (i + 1)) = a1y val own t k n (List.range i) ++ (if val (t, k, (i : Int)) = own then [(t, k, (i : Int)), (t, n, (i : Int))] else [(t, k, (i : Int))]) := by
 unfold a1y
 rw [List.range_succ, List.flatMap_append]
 simp
theorem c11 {i : Nat} : a4v val own t k n (List.range (i + 1)) = a4v val own t k n (List.range i) ++ (if val (t, k, (i : Int)) = own then [val (t, n, (i : Int))] else []) := by
 unfold a4v
 rw [List.range_succ, List.flatMap_append]
 simp
theorem c1T {i : Nat} (h : NoF val own t k n (List.range i)) (g : val (t, k, (i : Int)) = own -> a2l (val (t, n, (i : Int))) = false) : NoF val own t k n (List.range (i + 1)) := fun r hr => by
 rw [List.range_succ] at hr
 rcases List.mem_append.mp hr with hr | hr
 ·exact h r hr
 ·rw [List.mem_singleton.mp hr]; exact g
theorem c1C : ∀ rs : List Nat, (a1y val own t k n rs).length <= 2 * rs.length
 | [] => by simp [a1y]
 | r :: rs => by
  have := c1C rs
  rw [a98, List.length_append, List.length_cons]
  split
  ·show 2 + _ <= _; omega
  ·show 1 + _ <= _; omega
theorem c4W : ∀ rs : List Nat, (a4v val own t k n rs).length <= rs.length
 | [] => by simp [a4v]
 | r :: rs => by
  have := c4W rs
  rw [b1z, List.length_append, List.length_cons]
  split
  ·show 1 + _ <= _; omega
  ·show 0 + _ <= _; omega
end
theorem c5q {K : PySem.W.Frag} {H : Hp} {v : V} {i : Int} (h : WV H v) : ∃ d, Dt K H v d /\ d.canLay0 = true /\ d.depth <= 64 /\ PyData.eqv d (.int i) = decide (v = .int i) := by
 obtain ⟨d, hd, ly, dp, _, _, kind⟩ := h.dt (K := K)
 refine ⟨d, hd, ly, dp, ?_⟩
 rcases kind with ⟨j, rfl, rfl⟩ | ⟨a, z, rfl, _, rfl, _⟩
 ·by_cases e : j = i
  ·subst e; simp [PyData.eqv]
  ·rw [decide_eq_false (fun z => e (V.int.inj z))]
   simp [PyData.eqv, e]
 ·rw [decide_eq_false (fun z => by cases z)]
  rfl
end My
namespace My
open PySem L2
abbrev figT : Str := "0123456789"
def inF (c : Nat) : Bool := !(Builtin.Str.occurrences figT ⟨#[c]⟩ 0 figT.length 1).isEmpty
theorem c8y : ∀ c, c < 128 -> inF c = (decide (48 <= c) && decide (c <= 57)) := by decide +kernel
theorem c8P : ∀ c, c < 128 -> inL c = (decide (97 <= c) && decide (c <= 122)) := by decide +kernel
def okF (ds : List Nat) : Bool := decide ((1 : Int) <= (ds.length : Int)) && decide ((ds.length : Int) <= 60) && ds.all inF
def numL (cs : List Nat) : Bool := if cs.head? = some 45 then okF (cs.drop 1) && !decide ((cs.drop 1).head? = some 48) else okF cs && (decide (cs = [48]) || !decide (cs.head? = some 48))
theorem c71 {ws : List Nat} {c : Nat} (h : c ∈ ws) (hc : inL c = false) : a07 ⟨ws.toArray⟩ = false := by
 unfold a07
 have : (⟨ws.toArray⟩ : Str).cps.toList.all inL = false := List.all_eq_false.mpr ⟨c, by simpa using h, by rw [hc]; decide⟩
 rw [this, Bool.and_false]
def Fig (ds : List Nat) : Prop := 1 <= ds.length /\ ds.length <= 60 /\ (∀ c ∈ ds, 48 <= c /\ c <= 57) /\ ds.head? ≠ some 48
theorem Fig.ok {ds : List Nat} (h : Fig ds) : okF ds = true := by
 obtain ⟨h1, h2, h3, _⟩ := h
 unfold okF
 have a : ds.all inF = true := List.all_eq_true.mpr fun c hc => by
  obtain ⟨g1, g2⟩ := h3 c hc
  rw [c8y c (by omega), decide_eq_true g1, decide_eq_true g2]
  rfl
 rw [a, decide_eq_true (by omega), decide_eq_true (by omega)]
 rfl
theorem Fig.head {ds : List Nat} (h : Fig ds) : ∃ c r, ds = c :: r /\ 49 <= c /\ c <= 57 := by
 obtain ⟨h1, h2, h3, h4⟩ := h
 cases ds with
 | nil => simp at h1
 | cons c r =>
  obtain ⟨g1, g2⟩ := h3 c (by simp)
  have : c ≠ 48 := fun e => h4 (by rw [e]; rfl)
  exact ⟨c, r, rfl, by omega, g2⟩
theorem Fig.num {ds : List Nat} (h : Fig ds) : numL ds = true := by
 obtain ⟨c, r, e, g1, g2⟩ := h.head
 unfold numL
 rw [if_neg (by rw [e]; simp; omega), h.ok, decide_eq_false h.2.2.2]
 simp
theorem Fig.neg {ds : List Nat} (h : Fig ds) : numL (45 :: ds) = true := by
 unfold numL
 rw [if_pos (show (45 :: ds).head? = some 45 from rfl), show (List.drop 1 (45 :: ds)) = ds from rfl, h.ok, decide_eq_false h.2.2.2]
 rfl
theorem c6p : numL [48] = true := by decide +kernel
open PySem.NumText
def digL (n : Nat) : List Nat := if n = 0 then [] else (Nat.toDigits 10 n).map Char.toNat
theorem c4E {n : Nat} (h : 0 < n) : digL n = digL (n / 10) ++ [48 + n % 10] := by
 have hd : ∀ d : Nat, d < 10 -> [(Nat.digitChar d).toNat] = [48 + d] := by decide
 unfold digL
 rw [if_neg (by omega)]
 by_cases hn : n < 10
 ·rw [if_pos (by omega), Nat.toDigits_of_lt_base hn, Nat.mod_eq_of_lt hn]
  exact hd n hn
 ·rw [if_neg (by omega)]
  have hm : n % 10 < 10 := Nat.mod_lt n (by decide)
  have t : Nat.toDigits 10 (n / 10) ++ Nat.toDigits 10 (n % 10) = Nat.toDigits 10 (10 * (n / 10) + n % 10) := Nat.toDigits_append_toDigits (by decide) (by omega) hm
  rw [Nat.div_add_mod] at t
  rw [<- t, List.map_append, Nat.toDigits_of_lt_base hm]
  congr 1
  exact hd _ hm
theorem b03 : ∀ (k n : Nat), 0 < n -> n < 10 ^ k -> 1 <= (digL n).length /\ (digL n).length <= k /\ (∀ c ∈ digL n, 48 <= c /\ c <= 57) /\ (digL n).head? ≠ some 48 /\ digitsVal (digL n) = n
 | 0, n, h0, h1 => by simp at h1; omega
 | k + 1, n, h0, h1 => by
  have hm : n % 10 < 10 := Nat.mod_lt n (by decide)
  rw [c4E h0]
  by_cases hn : n / 10 = 0
  ·rw [hn, show digL 0 = [] from rfl]
   have e : n % 10 = n := Nat.mod_eq_of_lt (by omega)
   rw [e]
   refine ⟨by simp, by simp, fun c hc => by simp at hc; omega, by simp; omega, ?_⟩
   show 0 * 10 + (48 + n - 48) = n
   omega
  ·have hlt : n / 10 < 10 ^ k := by
    rw [Nat.pow_succ] at h1
    omega
   obtain ⟨g1, g2, g3, g4, g5⟩ := b03 k (n / 10) (by omega) hlt
   refine ⟨by simp, by simp; omega, fun c hc => ?_, ?_, ?_⟩
   ·rcases List.mem_append.mp hc with h | h
    ·exact g3 c h
    ·simp at h; omega
   ·cases e : digL (n / 10) with
    | nil => rw [e] at g1; simp at g1
    | cons c r => rw [e] at g4; simpa using g4
   ·rw [digitsVal_snoc, g5]
    omega
theorem c6S {n : Nat} (h0 : 0 < n) (h1 : n < 10 ^ 60) : Fig (digL n) := by
 obtain ⟨g1, g2, g3, g4, _⟩ := b03 60 n h0 h1
 exact ⟨g1, g2, g3, g4⟩
def wrL (i : Int) : List Nat := if i = 0 then [48] else if i < 0 then 45 :: digL i.natAbs else digL i.natAbs
theorem c1h (i : Int) : (PySem.Str.ofString (toString i)).cps.toList = wrL i := by
 unfold wrL
 by_cases h0 : i = 0
 ·subst h0
  decide +kernel
 ·rw [if_neg h0]
  cases i with
  | ofNat m =>
   have hm : m ≠ 0 := fun e => h0 (by rw [e]; rfl)
   rw [if_neg (by simp)]
   have e : (Int.ofNat m).natAbs = m := rfl
   rw [e]
   unfold digL
   rw [if_neg hm]
   exact PySem.W.KIN.signs_num m
  | negSucc m =>
   rw [if_pos (Int.negSucc_lt_zero m)]
   have e : (Int.negSucc m).natAbs = m + 1 := rfl
   rw [e]
   unfold digL
   rw [if_neg (by omega), PyProof.Rows.signs_ofString]
   show ("-" ++ Nat.repr (m + 1)).toList.map Char.toNat = _
   rw [String.toList_append, List.map_append, Nat.toList_repr]
   rfl
theorem c8D {i : Int} (h1 : -(10 ^ 60) < i) (h2 : i < 10 ^ 60) : numL (wrL i) = true := by
 have hn : i ≠ 0 -> i.natAbs < 10 ^ 60 := fun _ => by omega
 unfold wrL
 split
 ·exact c6p
 ·rename_i h0
  split
  ·exact (c6S (by omega) (hn h0)).neg
  ·exact (c6S (by omega) (hn h0)).num
end My
namespace My
open PySem L2
section
variable {P : Program} {w : World} {K : PySem.W.Frag} {mg : Str -> Option Value} {base : Heap}
def b06 : Sp := fun vs H Q _ => ∃ z : Str, vs = [.str z] /\ z.length <= 1000 /\ ∀ H', Same H H' -> Q (.bl (numL z.cps.toList)) H'
theorem a6f : a0o ["word", "figures"] ["word"] (a0b a04) := ⟨rfl, rfl, rfl, by decide +kernel, rfl, by decide +kernel, by decide +kernel⟩
theorem b9x (z : Str) (cs : List Nat) : decide (V.str z = V.str ⟨cs.toArray⟩) = decide (z.cps.toList = cs) := by
 by_cases h : z.cps.toList = cs
 ·rw [decide_eq_true h]
  refine decide_eq_true (congrArg V.str (c33 ?_))
  rw [h]
 ·rw [decide_eq_false h]
  exact decide_eq_false fun e => h (by rw [V.str.inj e])
theorem a03 (T : Tops K mg) : a0q P w K mg base CX0 1 "writes_number" ["word"] b06 := by
 refine T.d_writes_number.known a6f (fun _ _ _ _ _ _ us hl => match us, hl with | [_], _ => rfl) (fun vs H Q E h => ?_) (fun f cdv A outer s H vs Q E hr h => ?_)
 ·obtain ⟨z, rfl, _⟩ := h
  rfl
 ·obtain ⟨z, rfl, hz, q⟩ := h
  have rest : ∃ t, PSs (cxOf CX0 P w K mg base ["word", "figures"] "writes_number" (a0b a04) f cdv A outer s H E).nox ((a0j a04).drop 1) t /\
   ∀ y : Str, y.length <= 1000 -> numL z.cps.toList = (okF y.cps.toList && (decide (z.cps.toList = [48]) || !decide (y.cps.toList.head? = some 48))) -> t { nx := fun _ H' => Q .non H', rt := Q } [some (.str z), some (.str y)] H := by
   refine ⟨_, (a0e (a0J (PW.pt (b9E (a9c (c1V c3X c3X a0i (a0r a1f rfl T.len a6M (a0a (pv 1) a0c)) (c4l T.g_MOST_FIGURES))) (b4q (a9c (a05 (a0r (c18 rfl) rfl T.all c9R (a0a (a9O c8a rfl rfl (by decide) (c6U (pv 1)) (fun _ _ _ _ _ => a9z) (fun _ _ _ _ _ => (a2B b1T (pv 0) (c5u T.g_FIGURES) (by with_unfolding_all rfl)))) a0c)) (fun _ => rfl)))))) (a0g (a0l b62)) a0p)
    (a0g (a0l (c9u (a2B a1Y (pv 0) a0u (a0A _)) (a95 (a2B c8j (a0z c3v (pv 1) a0i (fun _ _ => rfl)) a0u (a0A _))))))), fun t ht e => ?_⟩
   have no : okF t.cps.toList = false -> ∀ H', Same H H' -> Q (.bl false) H' := fun h H' s' => by
    have := q H' s'
    rw [e, h, Bool.false_and] at this
    exact this
   have el : (t.cps.toList.length : Int) = (t.length : Int) := by rw [b5c]
   refine ⟨_, rfl, _, _, rfl, ⟨sl ht, rfl⟩, _, _, rfl, rfl, _, rfl, ?_⟩
   refine ite2 (fun h1 => ?_) (fun h1 => ?_)
   ·refine ⟨_, _, rfl, rfl, _, rfl, ?_⟩
    refine ite2 (fun h2 => ?_) (fun h2 => ?_)
    ·refine no ?_ H (Same.refl H)
     unfold okF
     rw [el]
     have : decide ((t.length : Int) <= 60) = false := by simpa using h2
     rw [this, Bool.and_false, Bool.false_and]
    ·have h8 : t.cps.size <= 60 := by
      have : (t.length : Int) <= 60 := by simpa using h2
      show t.length <= 60
      omega
     refine ⟨_, rfl, t, rfl, fun D hD => ?_⟩
     refine c1U (x := t) (fun i ys H2 => ys = (t.cps.toList.take i).map (fun c => V.bl (inF c)) /\ Same H H2) ⟨rfl, Same.new hD⟩ ?_ ?_
     ·rintro i c ys H2 hc h2D ⟨rfl, s2⟩
      have hi : i < t.cps.size := (Array.getElem?_eq_some_iff.mp hc).1
      refine ⟨_, rfl, _, _, rfl, rfl, h2D, ?_, ?_, s2.on hD⟩
      ·rw [List.length_map, List.length_take, Array.length_toList]
       exact a0U (by omega)
      ·rw [List.take_add_one, List.map_append, Array.getElem?_toList, hc]
       rfl
     ·rintro ys H2 h2D ⟨rfl, s2⟩
      refine ⟨D, t.cps.toList.map inF, rfl, SqL.of ?_, ?_⟩
      ·rw [h2D, List.take_of_length_le (by simp), List.map_map]
       rfl
      ·have ek : okF t.cps.toList = (t.cps.toList.map inF).all id := by
        unfold okF
        rw [el]
        have e1 : decide ((1 : Int) <= t.length) = true := h1
        have e2 : decide ((t.length : Int) <= 60) = true := by simpa using h2
        rw [e1, e2, Bool.true_and, Bool.true_and, List.all_map]
        rfl
       rw [<- ek]
       refine ⟨_, rfl, ite2 (fun h3 => ?_) (fun h3 => ?_)⟩
       ·exact no (by simpa using h3) H2 s2
       ·have h3 : okF t.cps.toList = true := by simpa using h3
        have hne : 1 <= t.cps.toList.length := by
         have : (1 : Int) <= (t.length : Int) := by simpa using h1
         omega
        obtain ⟨c, r, hc⟩ : ∃ c r, t.cps.toList = c :: r := by
         cases hh : t.cps.toList with
         | nil => rw [hh] at hne; simp at hne
         | cons c r => exact ⟨c, r, rfl⟩
        have qq := q H2 s2
        rw [e, h3, Bool.true_and] at qq
        refine ⟨_, rfl, rfl, _, rfl, ?_⟩
        have e48 : decide (V.str z = V.str ("0" : Str)) = decide (z.cps.toList = [48]) := b9x z [48]
        rw [e48]
        refine ite2 (fun h4 => ?_) (fun h4 => ?_)
        ·rw [h4, Bool.true_or] at qq
         exact qq
        ·have h4 : decide (z.cps.toList = [48]) = false := by simpa using h4
         rw [h4, Bool.false_or] at qq
         refine ⟨_, rfl, t, 0, c, rfl, rfl, sl ht, ?_, rfl, ?_⟩
         ·rw [hc]; exact c1a (j := 0) rfl
         ·have e49 : decide (V.str ⟨#[c]⟩ = V.str ("0" : Str)) = decide (t.cps.toList.head? = some 48) := by
           rw [hc]
           by_cases h : c = 48
           ·rw [h, decide_eq_true (show (48 :: r).head? = some 48 from rfl)]
            decide +kernel
           ·rw [decide_eq_false (p := (c :: r).head? = some 48) (by simpa using h)]
            refine decide_eq_false fun e => h ?_
            have := congrArg (fun s : Str => s.cps.toList) (V.str.inj e)
            have e' : ([c] : List Nat) = [48] := this
            simpa using e'
          rw [<- e49] at qq
          exact qq
   ·refine ⟨_, rfl, ?_⟩
    refine iteT ?_
    refine no ?_ H (Same.refl H)
    unfold okF
    rw [el]
    have : decide ((1 : Int) <= t.length) = false := by simpa using h1
    rw [this, Bool.false_and, Bool.false_and]
  obtain ⟨t, ht, qt⟩ := rest
  refine ⟨_, a0e (a0B (i := 1) a6f.nd rfl (Or.inl rfl) (b6I (a05 (a9Q PySem.F.plainAttrs_str PySem.F.slot_str_startswith PySem.F.type_str_startswith c3U (pv 0) (a0a a0u a0c)) (fun _ => rfl)) (a3t c8H (pv 0) (a53 a0i) a6a) (pv 0))) ht, ?_⟩
  refine ⟨_, rfl, rfl, z, "-", rfl, rfl, _, rfl, ?_⟩
  have e45 : Txt.startswith z ("-" : Str) = decide (z.cps.toList.head? = some 45) := c20 z 45
  rw [e45]
  refine ite2 (fun h => ?_) (fun h => ?_)
  ·have h : z.cps.toList.head? = some 45 := of_decide_eq_true h
   have h1 : 1 <= z.length := by
    rw [b5c]
    cases hh : z.cps.toList with
    | nil => rw [hh] at h; cases h
    | cons c r => simp
   refine ⟨_, rfl, 1, rfl, z, rfl, sl hz, qt _ ?_ ?_⟩
   ·exact Nat.le_trans (Txt.slice_le z _ _) hz
   ·rw [c1f z h1]
    unfold numL
    have h48 : decide (z.cps.toList = [48]) = false := decide_eq_false fun e => by rw [e] at h; cases h
    rw [if_pos h, h48, Bool.false_or]
  ·have h : ¬ z.cps.toList.head? = some 45 := fun e => h (decide_eq_true e)
   refine ⟨_, rfl, qt z hz ?_⟩
   unfold numL
   rw [if_neg h]
end
end My
namespace My
open PySem L2
abbrev F60 : Int := 10 ^ (60 : Int).toNat
theorem c1q : (0 : Int) < F60 := by decide +kernel
theorem c8M {n : Int} (h1 : -F60 < n) (h2 : n < F60) : n.natAbs.log2 < 1920 := by
 have hb : n.natAbs < 2 ^ 1920 := by
  have e : F60 = ((10 ^ 60 : Nat) : Int) := by decide +kernel
  have e2 : (10 ^ 60 : Nat) < 2 ^ 1920 := by decide +kernel
  rw [e] at h1 h2
  omega
 by_cases h0 : n.natAbs = 0
 ·rw [h0]; decide
 ·exact (Nat.log2_lt h0).mpr hb
theorem c59 {n : Int} (h : F60 <= n ∨ n <= -F60) : numD (.int n) = false := by
 have pos := c1q
 show decide ((if n < 0 then -n else n) < F60) = false
 generalize F60 = F at *
 rw [decide_eq_false_iff_not]
 split <;> omega
theorem b6Z {n : Int} (h1 : -F60 < n) (h2 : n < F60) : numD (.int n) = true := by
 show decide ((if n < 0 then -n else n) < F60) = true
 generalize F60 = F at *
 rw [decide_eq_true_eq]
 split <;> omega
theorem d0n : bootBuiltins "sum" = some (.builtin "sum") := by kernel_rfl
theorem c8N : bootBuiltins "max" = some (.builtin "max") := by kernel_rfl
theorem c9q : bootBuiltins "min" = some (.builtin "min") := by kernel_rfl
def bnd (F : Int) (n : Int) : Prop := -F < n /\ n < F
theorem a47 {n : Int} (h : bnd F60 n) : numD (.int n) = true := b6Z h.1 h.2
theorem b52 {n : Int} (h : ¬ bnd F60 n) : numD (.int n) = false := c59 (by
 unfold bnd at h
 generalize F60 = F at *
 omega)
theorem c5I {i : Int} {z : Str} (h1 : -F60 < i) (h2 : i < F60) (hz : z.cps.toList = wrL i) : PySem.intText? z = some i /\ z.length <= 61 := by
 have e : F60 = ((10 ^ 60 : Nat) : Int) := by decide +kernel
 have nb : i.natAbs < 10 ^ 60 := by
  rw [e] at h1 h2
  generalize (10 ^ 60 : Nat) = F at *
  omega
 have zl := b5c z
 unfold wrL at hz
 by_cases h0 : i = 0
 ·rw [if_pos h0] at hz
  have hl : z.length = 1 := by rw [zl, hz]; rfl
  refine ⟨?_, by omega⟩
  have := intText_digits (x := z) (by rw [hz]; intro c hc; simp at hc; omega) (by rw [hz]; simp) (by omega)
  rw [this, hz, h0]
  rfl
 ·rw [if_neg h0] at hz
  obtain ⟨g1, g2, g3, g4, g5⟩ := b03 60 i.natAbs (by omega) nb
  by_cases hn : i < 0
  ·rw [if_pos hn] at hz
   have hl : z.length = (digL i.natAbs).length + 1 := by rw [zl, hz]; rfl
   refine ⟨?_, by omega⟩
   have := intText_neg (x := z) hz g3 (by intro e; rw [e] at g1; simp at g1) (by omega)
   rw [this, g5]
   congr 1
   omega
  ·rw [if_neg hn] at hz
   have hl : z.length = (digL i.natAbs).length := by rw [zl, hz]
   refine ⟨?_, by omega⟩
   have := intText_digits (x := z) (by rw [hz]; exact g3) (by rw [hz]; intro e; rw [e] at g1; simp at g1) (by omega)
   rw [this, hz, g5]
   congr 1
   omega
theorem a84 {n : Int} : a3l (.int n) := b38 (by intro z; cases z)
theorem b8D {n : Int} (h : numD (.int n) = true) : a4w (.int n) = true := by
 show (numD (.int n) || a5s (.int n)) = true
 rw [h]; rfl
end My
namespace My
open PySem L2
abbrev sgns : List Str := ["+", "-", "*", "/", ":", "<", "="]
def NumW (z : Str) (i : Int) : Prop := bnd F60 i /\ z.cps.toList = wrL i
def Opd (z : Str) : Prop := Nl z ∨ ∃ i, NumW z i
theorem b39 : ∀ z ∈ sgns, a07 z = false /\ z.length = 1 /\ (32 : Nat) ∉ z.cps.toList /\ ∀ c ∈ z.cps.toList, c = 43 ∨ c = 45 ∨ c = 42 ∨ c = 47 ∨ c = 58 ∨ c = 60 ∨ c = 61 := by decide +kernel
theorem NumW.num {z : Str} {i : Int} (h : NumW z i) : numL z.cps.toList = true := by
 rw [h.2]
 have e : F60 = 10 ^ 60 := by decide +kernel
 exact c8D (by rw [<- e]; exact h.1.1) (by rw [<- e]; exact h.1.2)
theorem NumW.reads {z : Str} {i : Int} (h : NumW z i) : PySem.intText? z = some i /\ z.length <= 61 := c5I h.1.1 h.1.2 h.2
theorem b4I {i : Int} (h : bnd F60 i) : (∀ c ∈ wrL i, c = 45 ∨ (48 <= c /\ c <= 57)) /\ ∃ d ∈ wrL i, 48 <= d /\ d <= 57 := by
 have e : F60 = ((10 ^ 60 : Nat) : Int) := by decide +kernel
 have nb : i.natAbs < 10 ^ 60 := by
  have h1 := h.1
  have h2 := h.2
  rw [e] at h1 h2
  generalize (10 ^ 60 : Nat) = F at *
  omega
 unfold wrL
 by_cases h0 : i = 0
 ·rw [if_pos h0]
  exact ⟨fun c hc => by rw [List.mem_singleton.mp hc]; exact .inr ⟨by decide, by decide⟩, 48, by simp, by decide, by decide⟩
 ·rw [if_neg h0]
  obtain ⟨g1, _, g3, _, _⟩ := b03 60 i.natAbs (by omega) nb
  obtain ⟨d, hd⟩ : ∃ d, d ∈ digL i.natAbs := List.exists_mem_of_length_pos (by omega)
  by_cases hn : i < 0
  ·rw [if_pos hn]
   refine ⟨fun c hc => ?_, d, List.mem_cons_of_mem _ hd, g3 d hd⟩
   rcases List.mem_cons.mp hc with e | hc
   ·exact .inl e
   ·exact .inr (g3 c hc)
  ·rw [if_neg hn]
   exact ⟨fun c hc => .inr (g3 c hc), d, hd, g3 d hd⟩
theorem NumW.nn {z : Str} {i : Int} (h : NumW z i) : a07 z = false := by
 obtain ⟨_, d, hd, h1, h2⟩ := b4I h.1
 have e : z = ⟨(wrL i).toArray⟩ := c33 (by rw [h.2])
 rw [e]
 refine c71 hd ?_
 rw [c8P d (by omega)]
 have : ¬ 97 <= d := by omega
 rw [decide_eq_false this, Bool.false_and]
theorem NumW.ns {z : Str} {i : Int} (h : NumW z i) : z ∉ sgns := fun m => by
 obtain ⟨_, d, hd, h1, h2⟩ := b4I h.1
 rw [<- h.2] at hd
 have := (b39 z m).2.2.2 d hd
 omega
theorem NumW.nb {z : Str} {i : Int} (h : NumW z i) : (32 : Nat) ∉ z.cps.toList := fun m => by
 rw [h.2] at m
 rcases (b4I h.1).1 32 m with e | ⟨e, _⟩
 ·exact absurd e (by decide)
 ·exact absurd e (by decide)
theorem Nl.is {z : Str} (h : Nl z) : a07 z = true := h.name
theorem Nl.ns {z : Str} (h : Nl z) : z ∉ sgns := fun m => by
 have := (b39 z m).1
 rw [h.is] at this
 cases this
theorem Opd.ns {z : Str} (h : Opd z) : z ∉ sgns := by
 rcases h with h | ⟨i, h⟩
 ·exact h.ns
 ·exact h.ns
theorem Opd.len {z : Str} (h : Opd z) : z.length <= 61 := by
 rcases h with h | ⟨i, h⟩
 ·have := h.2.1; omega
 ·exact h.reads.2
def Pre : List Str -> Nat -> Nat -> Prop
 | [], n, m => n = m
 | z :: r, n, m => 0 < n /\ ((z ∈ sgns /\ Pre r (n + 1) m) ∨ (Opd z /\ Pre r (n - 1) m))
theorem Pre.all : ∀ {zs : List Str} {n m : Nat}, Pre zs n m -> ∀ z ∈ zs, z ∈ sgns ∨ Opd z
 | [], _, _, _, z, hz => by cases hz
 | y :: r, n, m, h, z, hz => by
  rcases List.mem_cons.mp hz with rfl | hz
  ·exact h.2.imp (fun q => q.1) (fun q => q.1)
  ·rcases h.2 with q | q
   ·exact Pre.all q.2 z hz
   ·exact Pre.all q.2 z hz
abbrev c0G : PyData := .tuple [.str "fault", .str "great"]
abbrev b2m : PyData := .tuple [.str "fault", .str "nought"]
def opZ (s : Str) (x y : Int) : Int := if s = "+" then x + y else if s = "-" then x - y else if s = "*" then x * y else if s = "/" then x.fdiv y else if s = ":" then x.fmod y else if s = "<" then (if x < y then 1 else 0) else (if x = y then 1 else 0)
def bndD (n : Int) : PyData := if numD (.int n) then .int n else c0G
def a6Z (s : Str) : PyData -> PyData -> PyData
 | .int x, .int y => if (s = "/" ∨ s = ":") /\ y = 0 then b2m else bndD (opZ s x y)
 | .int _, b => b
 | a, _ => a
def Rv (d : PyData) : Prop := (∃ i, d = .int i /\ bnd F60 i) ∨ d = c0G ∨ d = b2m
theorem c64 {n : Int} (h : numD (.int n) = true) : bnd F60 n := by
 by_cases c : bnd F60 n
 ·exact c
 ·rw [b52 c] at h; cases h
theorem Rv.bnd {n : Int} : Rv (bndD n) := by
 unfold bndD
 by_cases h : numD (.int n) = true
 ·rw [if_pos h]; exact .inl ⟨n, rfl, c64 h⟩
 ·rw [if_neg h]; exact .inr (.inl rfl)
theorem Rv.join {s : Str} {a b : PyData} (ha : Rv a) (hb : Rv b) : Rv (a6Z s a b) := by
 rcases ha with ⟨i, rfl, hi⟩ | rfl | rfl
 ·rcases hb with ⟨j, rfl, hj⟩ | rfl | rfl
  ·show Rv (if (s = "/" ∨ s = ":") /\ j = 0 then b2m else bndD (opZ s i j))
   split
   ·exact .inr (.inr rfl)
   ·exact Rv.bnd
  ·exact .inr (.inl rfl)
  ·exact .inr (.inr rfl)
 ·exact .inr (.inl rfl)
 ·exact .inr (.inr rfl)
structure RvF (d : PyData) : Prop where
 lay : d.canLay0 = true
 dep : d.depth <= 62
 sh : a3l d
 val : a4w d = true
 eq : PyData.eqv d d = true
theorem a8p (y : Str) (h : y.length <= 1000) : a3l (.tuple [.str "fault", .str y]) := a9t (by
 intro e he
 simp only [List.mem_cons, List.not_mem_nil, or_false] at he
 rcases he with rfl | rfl
 ·exact a1l (by decide)
 ·exact a1l h)
def b3E (env : Str -> Int) (z : Str) : Int := if a07 z = true then env z else (PySem.intText? z).getD 0
def a2H (env : Str -> Int) (z : Str) (q : List PyData) : List PyData := if z ∈ sgns then (match q with
 | a :: b :: q => a6Z z a b :: q
 | q => q) else .int (b3E env z) :: q
def a1A (env : Str -> Int) : List Str -> List PyData
 | [] => []
 | z :: r => a2H env z (a1A env r)
theorem b2g {env : Str -> Int} : ∀ {zs : List Str} {n : Nat}, Pre zs n 0 -> (∀ z ∈ zs, Nl z -> bnd F60 (env z)) -> (a1A env zs).length = n /\ ∀ d ∈ a1A env zs, Rv d
 | [], n, h, _ => by
  have e : n = 0 := h
  subst e
  exact ⟨rfl, fun d hd => by cases hd⟩
 | z :: r, n, h, hb => by
  obtain ⟨h0, h⟩ := h
  rcases h with ⟨hz, h⟩ | ⟨hz, h⟩
  ·obtain ⟨l, q⟩ := b2g h fun z hz => hb z (List.mem_cons_of_mem _ hz)
   show (a2H env z (a1A env r)).length = n /\ ∀ d ∈ a2H env z (a1A env r), Rv d
   unfold a2H
   rw [if_pos hz]
   match hp : a1A env r, l, q with
   | [], l, _ => simp at l
   | [_], l, _ => simp at l; omega
   | a :: b :: t, l, q =>
    refine ⟨by simp at l ⊢; omega, fun d hd => ?_⟩
    rcases List.mem_cons.mp hd with rfl | hd
    ·exact Rv.join (q a (by simp)) (q b (by simp))
    ·exact q d (by simp [hd])
  ·obtain ⟨l, q⟩ := b2g h fun z hz => hb z (List.mem_cons_of_mem _ hz)
   show (a2H env z (a1A env r)).length = n /\ ∀ d ∈ a2H env z (a1A env r), Rv d
   unfold a2H
   rw [if_neg hz.ns]
   refine ⟨by rw [List.length_cons, l]; omega, fun d hd => ?_⟩
   rcases List.mem_cons.mp hd with rfl | hd
   ·refine .inl ⟨_, rfl, ?_⟩
    unfold b3E
    rcases hz with hz | ⟨i, hz⟩
    ·rw [if_pos hz.is]; exact hb z List.mem_cons_self hz
    ·rw [hz.nn, if_neg Bool.false_ne_true, hz.reads.1]; exact hz.1
   ·exact q d hd
def a1q (zs : List Str) : List Str := zs.foldl (fun acc z => if z ∈ acc then acc else acc ++ [z]) []
theorem b4f (zs : List Str) (z : Str) : a1q (zs ++ [z]) = if z ∈ a1q zs then a1q zs else a1q zs ++ [z] := by
 unfold a1q
 rw [List.foldl_append]
 rfl
theorem b5L {zs : List Str} : ∀ i, i <= zs.length -> (a1q (zs.take i)).Nodup /\ (∀ z, z ∈ a1q (zs.take i) ↔ z ∈ zs.take i) /\ (a1q (zs.take i)).length <= i
 | 0, _ => ⟨by simp [a1q], fun z => by simp [a1q], by simp [a1q]⟩
 | i + 1, h => by
  obtain ⟨h1, h2, h3⟩ := b5L (zs := zs) i (by omega)
  have hz : zs[i]? = some zs[i] := List.getElem?_eq_getElem (by omega)
  have e : zs.take (i + 1) = zs.take i ++ [zs[i]] := by rw [List.take_add_one, hz]; rfl
  rw [e, b4f]
  by_cases m : zs[i] ∈ a1q (zs.take i)
  ·rw [if_pos m]
   refine ⟨h1, fun z => ?_, by omega⟩
   rw [h2 z, List.mem_append, List.mem_singleton]
   refine ⟨.inl, fun q => ?_⟩
   rcases q with q | rfl
   ·exact q
   ·exact (h2 _).mp m
  ·rw [if_neg m]
   refine ⟨?_, fun z => ?_, by rw [List.length_append]; simp; omega⟩
   ·rw [List.nodup_append]
    refine ⟨h1, by simp, fun a ha b hb e => ?_⟩
    rw [List.mem_singleton.mp hb] at e
    exact m (e ▸ ha)
   ·rw [List.mem_append, List.mem_append, h2 z]
theorem a4e (zs : List Str) : (a1q zs).Nodup /\ (∀ z, z ∈ a1q zs ↔ z ∈ zs) /\ (a1q zs).length <= zs.length := by
 have := b5L (zs := zs) zs.length (Nat.le_refl _)
 rw [List.take_of_length_le (Nat.le_refl _)] at this
 exact this
end My
namespace My
open PySem L2
section
variable {P : Program} {w : World} {K : PySem.W.Frag} {mg : Str -> Option Value} {base : Heap}
def a3p : Sp := fun vs H Q _ => vs = [.bl true] /\ Q .non H
theorem b0M : a0o ["holds"] ["holds"] (a0b a1D) := ⟨rfl, rfl, rfl, by decide +kernel, rfl, by decide +kernel, by decide +kernel⟩
theorem a0D (T : Tops K mg) : a0q P w K mg base CX0 1 "refuse_unless" ["holds"] a3p := by
 refine T.d_refuse_unless.known b0M (fun _ _ _ _ _ _ us hl => match us, hl with | [_], _ => rfl) (fun vs H Q E h => ?_) (fun f cdv A outer s H vs Q E hr h => ?_)
 ·obtain ⟨rfl, _⟩ := h
  rfl
 ·obtain ⟨rfl, q⟩ := h
  refine ⟨_, (a0g (a0J (a9c (a05 (pv 0) (fun _ => rfl))) (a0g b42) a0p)), ?_⟩
  exact ⟨_, rfl, _, rfl, iteF q⟩
def a7u (K : PySem.W.Frag) : Sp := fun vs H Q _ => ∃ (a : Addr) (zs : List Str), vs = [.ref a] /\ SqL K H a (zs.map V.str) /\ (∀ z ∈ zs, Nl z) /\ ∀ H', Same H H' -> Q .non H'
theorem a7I : a0o ["words", "word"] ["words"] (a0b a2q) := ⟨rfl, rfl, rfl, by decide +kernel, rfl, by decide +kernel, by decide +kernel⟩
theorem a1t (T : Tops K mg) : a0q P w K mg base CX0 2 "check_names" ["words"] (a7u K) := by
 have G_is_name : a0q P w K mg base CX0 1 "is_name" ["thing"] (b0d K) := a1X T
 have G_refuse_unless : a0q P w K mg base CX0 1 "refuse_unless" ["holds"] a3p := a0D T
 refine T.d_check_names.known a7I (fun _ _ _ _ _ _ us hl => match us, hl with | [_], _ => rfl) (fun vs H Q E h => ?_) (fun f cdv A outer s H vs Q E hr h => ?_)
 ·obtain ⟨a, zs, rfl, _⟩ := h
  rfl
 ·obtain ⟨a, zs, rfl, hq, hz, q⟩ := h
  refine ⟨_, (a0g (a4m PassesOwn.never rfl (a2F (pv 0)) (a0Q (i := 1) a7I.nd rfl (Or.inl rfl)) (a0g (a0F (a0h G_refuse_unless (hr.mono (by decide)) a0t (a0a (a0h G_is_name (hr.mono (by decide)) a0t (a0a (pv 1) a0c)) a0c)))))), ?_⟩
  refine ⟨_, rfl, a, rfl, ⟨_, hq⟩, ?_⟩
  refine a4r (K := K) (a := a) (xs := zs.map V.str) (fun i σ H2 => ∃ o, σ = [some (.ref a), o] /\ Same H H2) ⟨_, rfl, Same.refl _⟩ (fun i σ H2 _ ⟨_, _, s2⟩ => s2.seq hq) ?_ ?_
  ·rintro i x σ H2 hx ⟨o, rfl, s2⟩
   rw [List.getElem?_map] at hx
   cases e : zs[i]? with
   | none => rw [e] at hx; cases hx
   | some z =>
    rw [e] at hx
    cases hx
    have hzm := hz z (List.mem_of_getElem? e)
    have h8 := hzm.2.1
    refine ⟨_, rfl, _, _, rfl, .str z, a1l (by omega), fun H3 s3 => ?_⟩
    rw [show a55 (.str z) = true from hzm.name]
    exact ⟨rfl, _, rfl, s2.trans s3⟩
  ·rintro σ H2 ⟨o, rfl, s2⟩
   exact q _ s2
end
end My
namespace My
open PySem L2
theorem b8e {zs : List Str} {i : Nat} {x : V} (h : (zs.map V.str)[i]? = some x) : ∃ z, zs[i]? = some z /\ x = .str z := by
 rw [List.getElem?_map] at h
 cases e : zs[i]? with
 | none => rw [e] at h; cases h
 | some z => rw [e] at h; cases h; exact ⟨z, rfl, rfl⟩
theorem a42 {α : Type} {zs : List α} {i : Nat} {z : α} (h : zs[i]? = some z) : zs.drop i = z :: zs.drop (i + 1) := by
 have hi := (List.getElem?_eq_some_iff.mp h).1
 rw [List.drop_eq_getElem_cons hi, (List.getElem?_eq_some_iff.mp h).2]
section
variable {P : Program} {w : World} {K : PySem.W.Frag} {mg : Str -> Option Value} {base : Heap}
def c63 (K : PySem.W.Frag) : Sp := fun vs H Q _ => ∃ (a : Addr) (zs : List Str), vs = [.ref a] /\ SqL K H a (zs.map V.str) /\ zs.length <= 24 /\ Pre zs 1 0 /\ ∀ H', Same H H' -> Q (.bl true) H'
theorem a1E : a0o ["words", "lacking", "word"] ["words"] (a0b a13) := ⟨rfl, rfl, rfl, by decide +kernel, rfl, by decide +kernel, by decide +kernel⟩
theorem a15 (T : Tops K mg) : a0q P w K mg base CX0 2 "is_reckoning" ["words"] (c63 K) := by
 have G_is_name : a0q P w K mg base CX0 1 "is_name" ["thing"] (b0d K) := a1X T
 have G_writes_number : a0q P w K mg base CX0 1 "writes_number" ["word"] b06 := a03 T
 obtain ⟨tW, hW⟩ := T.g_MOST_WORDS
 obtain ⟨pS, hS, hSq⟩ := T.g_SIGNS
 refine T.d_is_reckoning.known a1E (fun _ _ _ _ _ _ us hl => match us, hl with | [_], _ => rfl) (fun vs H Q E h => ?_) (fun f cdv A outer s H vs Q E hr h => ?_)
 ·obtain ⟨a, zs, rfl, _⟩ := h
  rfl
 ·obtain ⟨a, zs, rfl, hq, h24, hP, q⟩ := h
  refine ⟨_, (a0e (a0J (a0v c2q (a0r a1f rfl T.len a6M (a0a (pv 0) a0c)) (c4l T.g_MOST_WORDS) (a0A _)) (a0g (a0l b62)) a0p)
   (a0e (a0B (i := 1) a1E.nd rfl (Or.inl rfl) a0i)
   (a0e (a4m PassesOwn.never rfl (a2F (pv 0)) (a0Q (i := 2) a1E.nd rfl (Or.inl rfl)) (a0e (a0J (a0v a1Y (pv 1) a0i (a0A _)) (a0g (a0l b62)) a0p)
   (a0g (a0J (a0v b2H (pv 2) (a7a hS) (by with_unfolding_all rfl)) (a0g (a0B (i := 1) a1E.nd rfl (Or.inl rfl) (a0E a2D (pv 1) a0i))) (a0g (a0J (PW.pt (b9E (a05 (a0h G_is_name (hr.mono (by decide)) a0t (a0a (pv 2) a0c)) (fun _ => rfl)) (b4q (a05 (a0h G_writes_number (hr.mono (by decide)) a0t (a0a (pv 2) a0c)) (fun _ => rfl))))) (a0g (a0B (i := 1) a1E.nd rfl (Or.inl rfl) (a0E a80 (pv 1) a0i))) (a0g (a0l b62))))))))
   (a0g (a0l (a2B a1Y (pv 1) a0i (a0A _))))))), ?_⟩
  refine ⟨_, rfl, _, _, rfl, .inl ⟨_, hq, rfl⟩, _, _, rfl, rfl, _, rfl, ?_⟩
  refine ite2 (fun h => ?_) (fun _ => ?_)
  ·exfalso
   have := of_decide_eq_true h
   rw [List.length_map] at this
   omega
  refine ⟨_, rfl, a, rfl, ⟨_, hq⟩, ?_⟩
  refine a4r (K := K) (a := a) (xs := zs.map V.str) (fun i σ H2 => ∃ (o : Option V) (m : Nat), σ = [some (.ref a), some (.int (m : Int)), o] /\ Same H H2 /\ Pre (zs.drop i) m 0) ⟨_, 1, rfl, Same.refl _, hP⟩ (fun i σ H2 _ ⟨_, _, _, s2, _⟩ => s2.seq hq) ?_ ?_
  ·rintro i x σ H2 hx ⟨o, m, rfl, s2, hp⟩
   obtain ⟨z, hz, rfl⟩ := b8e hx
   rw [a42 hz] at hp
   obtain ⟨h0, hp⟩ := hp
   refine ⟨_, rfl, rfl, _, rfl, ?_⟩
   refine ite2 (fun h => ?_) (fun _ => ?_)
   ·exfalso
    have := V.int.inj (of_decide_eq_true h)
    omega
   refine ⟨_, rfl, pS, sgns.map V.str, rfl, .inr (hSq H2), rfl, a5i sgns, _, rfl, ?_⟩
   rw [show (if false = true then !inV (.str z) (sgns.map V.str) else inV (.str z) (sgns.map V.str)) = decide (z ∈ sgns) by rw [if_neg Bool.false_ne_true, a9H]]
   refine ite2 (fun h => ?_) (fun h => ?_)
   ·have h : z ∈ sgns := of_decide_eq_true h
    rcases hp with ⟨_, hp⟩ | ⟨hp, _⟩
    ·refine ⟨_, rfl, _, _, rfl, rfl, ?_⟩
     exact ⟨_, m + 1, rfl, s2, hp⟩
    ·exact absurd h hp.ns
   ·have h : z ∉ sgns := fun y => h (decide_eq_true y)
    rcases hp with ⟨hp, _⟩ | ⟨hz', hp⟩
    ·exact absurd hp h
    ·have hl := hz'.len
     refine ⟨_, rfl, _, .str z, rfl, .str z, a1l (by omega), fun H3 s3 => ⟨_, rfl, ?_⟩⟩
     have fin : ∀ H4, Same H2 H4 -> ∃ (o : Option V) (m' : Nat), ([some (.ref a), some (.int ((m : Int) - 1)), some (.str z)] : St) = [some (.ref a), some (.int (m' : Int)), o] /\ Same H H4 /\ Pre (zs.drop (i + 1)) m' 0 := fun H4 s4 =>
      ⟨_, m - 1, by rw [show ((m - 1 : Nat) : Int) = (m : Int) - 1 by omega], s2.trans s4, hp⟩
     rcases hz' with hz' | ⟨j, hz'⟩
     ·rw [show a55 (.str z) = true from hz'.is]
      exact iteT ⟨_, rfl, _, _, rfl, rfl, fin H3 s3⟩
     ·rw [show a55 (.str z) = false from hz'.nn]
      refine iteF ⟨_, rfl, z, rfl, by omega, fun H4 s4 => ⟨_, rfl, ?_⟩⟩
      rw [hz'.num]
      exact iteT ⟨_, rfl, _, _, rfl, rfl, fin H4 (s3.trans s4)⟩
  ·rintro σ H2 ⟨o, m, rfl, s2, hp⟩
   rw [List.length_map, List.drop_length] at hp
   have e : m = 0 := hp
   subst e
   exact ⟨_, rfl, rfl, q _ s2⟩
def c38 (K : PySem.W.Frag) : Sp := fun vs H Q _ => ∃ (a : Addr) (zs : List Str), vs = [.ref a] /\ SqL K H a (zs.map V.str) /\ zs.length <= 100 /\ ∀ H' l, Same H H' -> H l = none -> H' l = some (.lst ((a1q zs).map V.str)) -> Q (.ref l) H'
theorem b8b (T : Tops K mg) : a0q P w K mg base CX0 1 "each_once" ["spots"] (c38 K) := by
 refine T.d_each_once.known a2g (fun _ _ _ _ _ _ us hl => match us, hl with | [_], _ => rfl) (fun vs H Q E h => ?_) (fun f cdv A outer s H vs Q E hr h => ?_)
 ·obtain ⟨a, zs, rfl, _⟩ := h
  rfl
 ·obtain ⟨a, zs, rfl, hq, h100, q⟩ := h
  refine ⟨_, (a0e (a0B (i := 1) a2g.nd rfl (Or.inl rfl) (a1G a0c))
   (a0e (a4m PassesOwn.never rfl (a2F (pv 0)) (a0Q (i := 2) a2g.nd rfl (Or.inl rfl)) (a0g (a0J (a0v a91 (pv 2) (pv 1) (by with_unfolding_all rfl)) (a0g (a0F (a9Q PySem.F.plainAttrs_list PySem.F.slot_list_append PySem.F.type_list_append a17 (pv 1) (a0a (pv 2) a0c)))) a0p)))
   (a0g (a0l (pv 1))))), ?_⟩
  refine ⟨sl, fun l hl => ?_⟩
  refine ⟨_, rfl, a, rfl, ⟨_, (Same.new hl).seq hq⟩, ?_⟩
  refine a4r (K := K) (a := a) (xs := zs.map V.str) (fun i σ H2 => ∃ o, σ = [some (.ref a), some (.ref l), o] /\ Same H H2 /\ H2 l = some (.lst ((a1q (zs.take i)).map V.str))) ⟨_, rfl, Same.new hl, a0d⟩ (fun i σ H2 _ ⟨_, _, s2, _⟩ => s2.seq hq) ?_ ?_
  ·rintro i x σ H2 hx ⟨o, rfl, s2, h2⟩
   obtain ⟨z, hz, rfl⟩ := b8e hx
   have hi : i < zs.length := (List.getElem?_eq_some_iff.mp hz).1
   have htk : zs.take (i + 1) = zs.take i ++ [z] := by rw [List.take_add_one, hz]; rfl
   have hlen := (b5L (zs := zs) i (by omega)).2.2
   refine ⟨_, rfl, _, rfl, l, _, rfl, .inl (SqL.of h2), rfl, a5i _, _, rfl, ?_⟩
   rw [show (if true = true then !inV (.str z) ((a1q (zs.take i)).map V.str) else inV (.str z) ((a1q (zs.take i)).map V.str)) = !decide (z ∈ a1q (zs.take i)) by rw [if_pos rfl, a9H]]
   rw [htk, b4f]
   by_cases m : z ∈ a1q (zs.take i)
   ·rw [if_pos m]
    exact c9e m ⟨_, rfl, s2, h2⟩
   ·rw [if_neg m, decide_eq_false m]
    refine iteT ⟨_, rfl, .inl ⟨rfl, _, SqL.of h2⟩, _, rfl, l, _, _, rfl, rfl, h2, a0U (by rw [List.length_map]; omega), ?_⟩
    refine ⟨_, rfl, fun b o e => ?_, ?_⟩
    ·rw [a0m (a0k e hl)]
     exact s2 _ _ e
    ·rw [List.map_append]
     exact a0d
  ·rintro σ H2 ⟨o, rfl, s2, h2⟩
   rw [List.length_map, List.take_of_length_le (Nat.le_refl _)] at h2
   exact ⟨_, rfl, q _ l s2 hl h2⟩
def b6X (K : PySem.W.Frag) : Sp := fun vs H Q _ => ∃ (a : Addr) (zs : List Str), vs = [.ref a] /\ SqL K H a (zs.map V.str) /\ zs.length <= 24 /\ (∀ z ∈ zs, z.length <= 1000) /\ ∀ H' l, Same H H' -> H l = none -> H' l = some (.lst ((a1q (zs.filter a07)).map V.str)) -> Q (.ref l) H'
theorem b92 : a0o ["words"] ["words"] (a0b a5n) := ⟨rfl, rfl, rfl, by decide +kernel, rfl, by decide +kernel, by decide +kernel⟩
theorem a5z (T : Tops K mg) : a0q P w K mg base CX0 2 "names_in" ["words"] (b6X K) := by
 have G_is_name : a0q P w K mg base CX0 1 "is_name" ["thing"] (b0d K) := a1X T
 have G_each_once : a0q P w K mg base CX0 1 "each_once" ["spots"] (c38 K) := b8b T
 refine T.d_names_in.known b92 (fun _ _ _ _ _ _ us hl => match us, hl with | [_], _ => rfl) (fun vs H Q E h => ?_) (fun f cdv A outer s H vs Q E hr h => ?_)
 ·obtain ⟨a, zs, rfl, _⟩ := h
  rfl
 ·obtain ⟨a, zs, rfl, hq, h24, hlen, q⟩ := h
  refine ⟨_, (a0g (a0l (a0h G_each_once (hr.mono (by decide)) a0t (a0a (a9O (tt := c6m (b6S (b0d K) [] E0 (a8j (tVar 0) tNil))) c8a rfl rfl (by decide) (a2F (pv 0)) (fun _ _ _ _ _ => (c5a (a05 (a0h G_is_name (hr.mono (by decide)) a0t (a0a (pv 0) a0c)) (fun _ => rfl)))) (fun _ _ _ _ _ => (pv 0))) a0c)))), ?_⟩
  refine ⟨_, rfl, a, rfl, ⟨_, hq⟩, fun D hD => ?_⟩
  refine b4p (K := K) (a := a) (xs := zs.map V.str) (fun i ys H2 => Same H H2 /\ ys = ((zs.take i).filter a07).map V.str) ⟨Same.new hD, rfl⟩ (fun i ys H2 _ ⟨s2, _⟩ => s2.seq hq) ?_ ?_
  ·rintro i x ys H2 hx h2D ⟨s2, rfl⟩
   obtain ⟨z, hz, rfl⟩ := b8e hx
   have htk : zs.take (i + 1) = zs.take i ++ [z] := by rw [List.take_add_one, hz]; rfl
   refine ⟨_, rfl, _, .str z, rfl, .str z, a1l (hlen z (List.mem_of_getElem? hz)), fun H3 s3 => ⟨_, rfl, ?_⟩⟩
   rw [show a55 (.str z) = a07 z from rfl]
   cases hn : a07 z with
   | true =>
    refine iteT ⟨_, rfl, s3 _ _ h2D, a0U ?_, (s2.trans s3).on hD, ?_⟩
    ·rw [List.length_map]
     refine Nat.le_trans (List.length_filter_le _ _) ?_
     rw [List.length_take]
     omega
    ·show _ = ((zs.take (i + 1)).filter a07).map V.str
     rw [htk, List.filter_append, List.map_append]
     simp [hn]
   | false =>
    refine iteF ⟨_, s3 _ _ h2D, s2.trans s3, ?_⟩
    rw [htk, List.filter_append, List.map_append]
    simp [hn]
  ·rintro ys H2 h2D ⟨s2, rfl⟩
   rw [List.length_map, List.take_of_length_le (Nat.le_refl _)] at h2D
   refine ⟨D, _, rfl, SqL.of h2D, Nat.le_trans (List.length_filter_le _ _) (by omega), fun H3 l s3 hl h3 => q H3 l (s2.trans s3) (a5w s2 hl) h3⟩
abbrev Ncol : List Str := ["words", "others", "names"]
def b1l (K : PySem.W.Frag) : Sp := fun vs H Q _ => ∃ (a b : Addr) (zs os : List Str), vs = [.ref a, .ref b] /\ SqL K H a (zs.map V.str) /\ SqL K H b (os.map V.str) /\ zs.length <= 24 /\ Pre zs 1 0 /\ ((a1q (zs.filter a07)).filter fun z => decide (z ∉ os)).length <= 6 /\
 ∀ H' l, Same H H' -> H l = none -> H' l = some (.lst (((a1q (zs.filter a07)).filter fun z => decide (z ∉ os)).map V.str)) -> Q (.ref l) H'
theorem a9b : a0o Ncol ["words", "others"] (a0b a1o) := ⟨rfl, rfl, rfl, by decide +kernel, rfl, by decide +kernel, by decide +kernel⟩
theorem a2k (T : Tops K mg) : a0q P w K mg base CX0 3 "columns_in" ["words", "others"] (b1l K) := by
 have G_refuse_unless : a0q P w K mg base CX0 1 "refuse_unless" ["holds"] a3p := a0D T
 have G_is_reckoning : a0q P w K mg base CX0 2 "is_reckoning" ["words"] (c63 K) := a15 T
 have G_names_in : a0q P w K mg base CX0 2 "names_in" ["words"] (b6X K) := a5z T
 refine T.d_columns_in.known a9b (fun _ _ _ _ _ _ us hl => match us, hl with | [_, _], _ => rfl) (fun vs H Q E h => ?_) (fun f cdv A outer s H vs Q E hr h => ?_)
 ·obtain ⟨a, b, zs, os, rfl, _⟩ := h
  rfl
 ·obtain ⟨a, b, zs, os, rfl, hq, hb, h24, hP, h6, q⟩ := h
  have hcl : ∀ x, (cxOf CX0 P w K mg base Ncol "columns_in" (a0b a1o) f cdv A outer s H E).nox.env.scope.names.lookup x = some .cell -> ∃ c, (cxOf CX0 P w K mg base Ncol "columns_in" (a0b a1o) f cdv A outer s H E).nox.env.cells.lookup x = some c := fun x hx => Option.isSome_iff_exists.mp (PySem.W.cellsFrom_some _ _ _ (.inl hx))
  refine ⟨_, (a0e (a0F (a0h G_refuse_unless (hr.mono (by decide)) a0t (a0a (a0h G_is_reckoning (hr.mono (by decide)) a0t (a0a (pv 0) a0c)) a0c)))
   (a0e (b4s (tt := c6m (tOp (rIn K true) (tVar 0) (tVar 1))) (i := 2) a9b.nd rfl rfl (a4O (sc := a0b a1o) (N := Ncol) (cp := [(1, "others")]) hcl) rfl rfl (by decide) (a2F (a0h G_names_in (hr.mono (by decide)) a0t (a0a (pv 0) a0c))) (fun _ _ _ _ _ => (c5a (a0v a91 (pv 0) (pv 1) (by with_unfolding_all rfl)))) (fun _ _ _ _ _ => (pv 0)) rfl)
   (a0e (a0F (a0h G_refuse_unless (hr.mono (by decide)) a0t (a0a (a2B c3X (a0r a1f rfl T.len a6M (a0a (pv 2) a0c)) (c4l T.g_MOST_NAMES) (a0A _)) a0c)))
   (a0g (a0l (pv 2)))))), ?_⟩
  refine ⟨_, rfl, a, zs, rfl, hq, h24, hP, fun H1 s1 => ⟨rfl, ?_⟩⟩
  have hzl : ∀ z ∈ zs, z.length <= 1000 := fun z hz => by
   rcases hP.all z hz with h | h
   ·have := (b39 z h).2.1; omega
   ·have := h.len; omega
  refine ⟨_, rfl, a, zs, rfl, s1.seq hq, h24, hzl, fun H2 l2 s2 hl2 h2 => ?_⟩
  have s02 := s1.trans s2
  have ol := (a4e (zs.filter a07)).2.2
  have fl := List.length_filter_le a07 zs
  refine ⟨l2, rfl, ⟨_, SqL.of h2⟩, fun D hD => ?_⟩
  refine b4p (K := K) (a := l2) (xs := (a1q (zs.filter a07)).map V.str) (fun i ys H3 => Same H2 H3 /\ ys = (((a1q (zs.filter a07)).take i).filter fun z => decide (z ∉ os)).map V.str) ⟨Same.new hD, rfl⟩ (fun i ys H3 _ ⟨s3, _⟩ => SqL.of (s3 _ _ h2)) ?_ ?_
  ·rintro i x ys H3 hx h3D ⟨s3, rfl⟩
   obtain ⟨z, hz, rfl⟩ := b8e hx
   have htk : (a1q (zs.filter a07)).take (i + 1) = (a1q (zs.filter a07)).take i ++ [z] := by rw [List.take_add_one, hz]; rfl
   refine ⟨_, rfl, _, rfl, b, _, rfl, .inl ((s02.trans s3).seq hb), rfl, a5i os, _, rfl, ?_⟩
   rw [show (if true = true then !inV (.str z) (os.map V.str) else inV (.str z) (os.map V.str)) = !decide (z ∈ os) by rw [if_pos rfl, a9H]]
   by_cases m : z ∈ os
   ·refine c9e m ⟨_, h3D, s3, ?_⟩
    rw [htk, List.filter_append, List.map_append]
    simp [m]
   ·rw [decide_eq_false m]
    refine iteT ⟨_, rfl, h3D, a0U ?_, s3.on hD, ?_⟩
    ·rw [List.length_map]
     refine Nat.le_trans (List.length_filter_le _ _) ?_
     rw [List.length_take]
     omega
    ·show _ = (((a1q (zs.filter a07)).take (i + 1)).filter fun z => decide (z ∉ os)).map V.str
     rw [htk, List.filter_append, List.map_append]
     simp [m]
  ·rintro ys H3 h3D ⟨s3, rfl⟩
   rw [List.length_map, List.take_of_length_le (Nat.le_refl _)] at h3D
   refine ⟨_, rfl, _, _, rfl, .inl ⟨_, SqL.of h3D, rfl⟩, _, _, rfl, rfl, ?_, _, rfl, ?_⟩
   ·rw [List.length_map]
    exact congrArg (fun b => [V.bl b]) (decide_eq_true (by omega))
   ·exact q _ D (s02.trans s3) (a5w s02 hD) h3D
end
end My
namespace My
open PySem L2
theorem c1n {i : Int} (h : bnd F60 i) : Bg i := by
 have e : F60 = ((10 ^ 60 : Nat) : Int) := by decide +kernel
 have e2 : (10 ^ 60 : Nat) < 2 ^ 4000 := by decide +kernel
 have h1 := h.1
 have h2 := h.2
 rw [e] at h1 h2
 unfold Bg
 generalize (2 ^ 4000 : Nat) = G at e2 ⊢
 generalize (10 ^ 60 : Nat) = F at *
 omega
def PvV (K : PySem.W.Frag) (H : Hp) (v : V) (d : PyData) : Prop := (∃ i, v = .int i /\ d = .int i /\ bnd F60 i) ∨ ∃ a y, v = .ref a /\ SqT K H a [.str ("fault" : Str), .str y] /\ d = .tuple [.str "fault", .str y] /\ (y = "great" ∨ y = "nought")
theorem PvV.dt {K : PySem.W.Frag} {H : Hp} {v : V} {d : PyData} (h : PvV K H v d) : Dt K H v d := by
 rcases h with ⟨i, rfl, rfl, _⟩ | ⟨a, y, rfl, hq, rfl, _⟩
 ·exact .int i
 ·exact .tup hq (.cons (.str _) (.cons (.str _) .nil))
theorem PvV.rv {K : PySem.W.Frag} {H : Hp} {v : V} {d : PyData} (h : PvV K H v d) : Rv d := by
 rcases h with ⟨i, rfl, rfl, hb⟩ | ⟨a, y, rfl, hq, rfl, rfl | rfl⟩
 ·exact .inl ⟨i, rfl, hb⟩
 ·exact .inr (.inl rfl)
 ·exact .inr (.inr rfl)
theorem PvV.of {K : PySem.W.Frag} {H : Hp} {v : V} {d : PyData} (r : Rv d) (h : Dt K H v d) : PvV K H v d := by
 have tp : ∀ y : Str, Dt K H v (.tuple [.str "fault", .str y]) -> ∃ a, v = .ref a /\ SqT K H a [.str ("fault" : Str), .str y] := fun y h => by
  cases h with
  | @tup a xs _ hq hall =>
   cases hall with
   | cons h1 t1 =>
    cases t1 with
    | cons h2 t2 =>
     cases t2
     cases h1
     cases h2
     exact ⟨a, rfl, hq⟩
 rcases r with ⟨i, rfl, hb⟩ | rfl | rfl
 ·cases h
  exact .inl ⟨i, rfl, rfl, hb⟩
 ·obtain ⟨a, e, hq⟩ := tp _ h
  exact .inr ⟨a, _, e, hq, rfl, .inl rfl⟩
 ·obtain ⟨a, e, hq⟩ := tp _ h
  exact .inr ⟨a, _, e, hq, rfl, .inr rfl⟩
theorem PvV.same {K : PySem.W.Frag} {H H' : Hp} {v : V} {d : PyData} (s : Same H H') (h : PvV K H v d) : PvV K H' v d := PvV.of h.rv (h.dt.same s)
theorem PvV.upd {K : PySem.W.Frag} {H : Hp} {D : Addr} {ys : List V} {o : HO} {v : V} {d : PyData} (hD : H D = some (.lst ys)) (h : PvV K H v d) : PvV K (upd H D o) v d := by
 rcases h with h | ⟨a, y, e, hq, r⟩
 ·exact .inl h
 ·exact .inr ⟨a, y, e, c7x hD hq, r⟩
def Pile (K : PySem.W.Frag) (H : Hp) (vs : List V) (ds : List PyData) : Prop := Paired (PvV K H) vs ds.reverse
theorem Paired.imp2 {α β : Type} {R S : α -> β -> Prop} (h : ∀ a b, R a b -> S a b) : ∀ {xs : List α} {ys : List β}, Paired R xs ys -> Paired S xs ys
 | _, _, .nil => .nil
 | _, _, .cons r t => .cons (h _ _ r) (Paired.imp2 h t)
theorem Paired.app {α β : Type} {R : α -> β -> Prop} : ∀ {xs xs' : List α} {ys ys' : List β}, Paired R xs ys -> Paired R xs' ys' -> Paired R (xs ++ xs') (ys ++ ys')
 | _, _, _, _, .nil, h => h
 | _, _, _, _, .cons r t, h => .cons r (Paired.app t h)
theorem Paired.split {α β : Type} {R : α -> β -> Prop} : ∀ {xs : List α} {ys zs : List β}, Paired R xs (ys ++ zs) -> ∃ us vs, xs = us ++ vs /\ Paired R us ys /\ Paired R vs zs
 | xs, [], zs, h => ⟨[], xs, rfl, .nil, h⟩
 | _, y :: ys, zs, .cons r t => by
  obtain ⟨us, vs, e, h1, h2⟩ := Paired.split (ys := ys) t
  exact ⟨_ :: us, vs, by rw [e]; rfl, .cons r h1, h2⟩
theorem Pile.push {K : PySem.W.Frag} {H : Hp} {vs : List V} {ds : List PyData} {v : V} {d : PyData} (h : Pile K H vs ds) (hv : PvV K H v d) : Pile K H (vs ++ [v]) (d :: ds) := by
 unfold Pile at h ⊢
 rw [List.reverse_cons]
 exact Paired.app h (.cons hv .nil)
theorem Pile.pop {K : PySem.W.Frag} {H : Hp} {vs : List V} {ds : List PyData} {d : PyData} (h : Pile K H vs (d :: ds)) : ∃ us v, vs = us ++ [v] /\ PvV K H v d /\ Pile K H us ds := by
 unfold Pile at h ⊢
 rw [List.reverse_cons] at h
 obtain ⟨us, ws, e, h1, h2⟩ := Paired.split h
 cases h2 with
 | cons r t =>
  cases t
  exact ⟨us, _, e, r, h1⟩
theorem Pile.same {K : PySem.W.Frag} {H H' : Hp} {vs : List V} {ds : List PyData} (s : Same H H') (h : Pile K H vs ds) : Pile K H' vs ds := Paired.imp2 (fun _ _ q => q.same s) h
theorem Pile.upd {K : PySem.W.Frag} {H : Hp} {D : Addr} {ys : List V} {o : HO} {vs : List V} {ds : List PyData} (hD : H D = some (.lst ys)) (h : Pile K H vs ds) : Pile K (upd H D o) vs ds := Paired.imp2 (fun _ _ q => q.upd hD) h
theorem b08 {us : List V} {v : V} : (us ++ [v])[(us ++ [v]).length - 1]? = some v /\ (us ++ [v]).dropLast = us := by
 refine ⟨?_, by simp⟩
 rw [List.length_append]
 simp
section
variable {P : Program} {w : World} {K : PySem.W.Frag} {mg : Str -> Option Value} {base : Heap}
def a8G (p : Addr) : Sp := fun vs H Q _ => ∃ n : Int, vs = [.int n] /\ Q (if numD (.int n) then .int n else .ref p) H
theorem c3a : a0o ["number"] ["number"] (a0b a7g) := ⟨rfl, rfl, rfl, by decide +kernel, rfl, by decide +kernel, by decide +kernel⟩
theorem a5y (T : Tops K mg) {p : Addr} (hp : mg "GREAT" = some (.ref p)) : a0q P w K mg base CX0 3 "bounded" ["number"] (a8G p) := by
 have G_is_number : a0q P w K mg base CX0 2 "is_number" ["thing"] (b04 K) := a2b T
 refine T.d_bounded.known c3a (fun _ _ _ _ _ _ us hl => match us, hl with | [_], _ => rfl) (fun vs H Q E h => ?_) (fun f cdv A outer s H vs Q E hr h => ?_)
 ·obtain ⟨n, rfl, _⟩ := h
  rfl
 ·obtain ⟨n, rfl, q⟩ := h
  refine ⟨_, (a0e (a0J (a05 (a0h G_is_number (hr.mono (by decide)) a0t (a0a (pv 0) a0c)) (fun _ => rfl)) (a0g (a0l (pv 0))) a0p)
   (a0g (a0l (a7a hp)))), ?_⟩
  refine ⟨_, rfl, _, _, rfl, .int n, _, rfl, ?_⟩
  refine ite2 (fun h1 => ?_) (fun h1 => ?_)
  ·rw [if_pos h1] at q
   exact ⟨_, rfl, q⟩
  ·rw [if_neg h1] at q
   exact q
def c1k : Sp := fun vs H Q _ => ∃ (s : Str) (x y : Int), vs = [.str s, .int x, .int y] /\ Bg x /\ Bg y /\ ((s = "/" ∨ s = ":") -> y ≠ 0) /\ Q (.int (opZ s x y)) H
theorem b8p : a0o ["sign", "one", "other"] ["sign", "one", "other"] (a0b a4g) := ⟨rfl, rfl, rfl, by decide +kernel, rfl, by decide +kernel, by decide +kernel⟩
theorem a37 (T : Tops K mg) : a0q P w K mg base CX0 1 "number_of" ["sign", "one", "other"] c1k := by
 refine T.d_number_of.known b8p (fun _ _ _ _ _ _ us hl => match us, hl with | [_, _, _], _ => rfl) (fun vs H Q E h => ?_) (fun f cdv A outer s H vs Q E hr h => ?_)
 ·obtain ⟨sg, x, y, rfl, _⟩ := h
  rfl
 ·obtain ⟨sg, x, y, rfl, bx, yb, hy, q⟩ := h
  refine ⟨_, (a0e (a0J (a0v a1Y (pv 0) a0u (a0A _)) (a0g (a0l (a0E a2D (pv 1) (pv 2)))) a0p)
   (a0e (a0J (a0v a1Y (pv 0) a0u (a0A _)) (a0g (a0l (a0E a80 (pv 1) (pv 2)))) a0p)
   (a0e (a0J (a0v a1Y (pv 0) a0u (a0A _)) (a0g (a0l (a0E c34 (pv 1) (pv 2)))) a0p)
   (a0e (a0J (a0v a1Y (pv 0) a0u (a0A _)) (a0g (a0l (a0E c2b (pv 1) (pv 2)))) a0p)
   (a0e (a0J (a0v a1Y (pv 0) a0u (a0A _)) (a0g (a0l (a0E c4V (pv 1) (pv 2)))) a0p)
   (a0e (a0J (a0v a1Y (pv 0) a0u (a0A _)) (a0g (a0l (b6I (a0v c58 (pv 1) (pv 2) (a0A _)) a0i a0i))) a0p)
   (a0g (a0l (b6I (a0v a1Y (pv 1) (pv 2) (a0A _)) a0i a0i))))))))), ?_⟩
  unfold opZ at q
  refine ⟨_, rfl, rfl, _, rfl, ite2 (fun h => ?_) (fun h => ?_)⟩
  ·rw [if_pos (V.str.inj (of_decide_eq_true h))] at q
   exact ⟨_, rfl, _, rfl, _, _, rfl, rfl, q⟩
  rw [if_neg (fun e => h (decide_eq_true (congrArg V.str e)))] at q
  clear h
  refine ⟨_, rfl, rfl, _, rfl, ite2 (fun h => ?_) (fun h => ?_)⟩
  ·rw [if_pos (V.str.inj (of_decide_eq_true h))] at q
   exact ⟨_, rfl, _, rfl, _, _, rfl, rfl, q⟩
  rw [if_neg (fun e => h (decide_eq_true (congrArg V.str e)))] at q
  clear h
  refine ⟨_, rfl, rfl, _, rfl, ite2 (fun h => ?_) (fun h => ?_)⟩
  ·rw [if_pos (V.str.inj (of_decide_eq_true h))] at q
   exact ⟨_, rfl, _, rfl, _, _, rfl, rfl, ⟨bx, yb⟩, q⟩
  rw [if_neg (fun e => h (decide_eq_true (congrArg V.str e)))] at q
  clear h
  refine ⟨_, rfl, rfl, _, rfl, ite2 (fun h => ?_) (fun h => ?_)⟩
  ·have e := V.str.inj (of_decide_eq_true h)
   rw [if_pos e] at q
   exact ⟨_, rfl, _, rfl, _, _, rfl, rfl, ⟨hy (.inl e), yb⟩, q⟩
  rw [if_neg (fun e => h (decide_eq_true (congrArg V.str e)))] at q
  clear h
  refine ⟨_, rfl, rfl, _, rfl, ite2 (fun h => ?_) (fun h => ?_)⟩
  ·have e := V.str.inj (of_decide_eq_true h)
   rw [if_pos e] at q
   exact ⟨_, rfl, _, rfl, _, _, rfl, rfl, hy (.inr e), q⟩
  rw [if_neg (fun e => h (decide_eq_true (congrArg V.str e)))] at q
  clear h
  refine ⟨_, rfl, rfl, _, rfl, ite2 (fun h => ?_) (fun h => ?_)⟩
  ·rw [if_pos (V.str.inj (of_decide_eq_true h))] at q
   refine ⟨_, rfl, _, rfl, _, _, rfl, rfl, _, rfl, ite2 (fun h => ?_) (fun h => ?_)⟩
   ·rw [if_pos (of_decide_eq_true h)] at q
    exact q
   ·rw [if_neg (fun e => h (decide_eq_true e))] at q
    exact q
  rw [if_neg (fun e => h (decide_eq_true (congrArg V.str e)))] at q
  clear h
  refine ⟨_, rfl, _, rfl, rfl, _, rfl, ite2 (fun h => ?_) (fun h => ?_)⟩
  ·rw [if_pos (V.int.inj (of_decide_eq_true h))] at q
   exact q
  ·rw [if_neg (fun e => h (decide_eq_true (congrArg V.int e)))] at q
   exact q
def c6P (K : PySem.W.Frag) : Sp := fun vs H Q _ => ∃ (s : Str) (v1 v2 : V) (d1 d2 : PyData), vs = [.str s, v1, v2] /\ PvV K H v1 d1 /\ PvV K H v2 d2 /\ ∀ H' v, Same H H' -> PvV K H' v (a6Z s d1 d2) -> Q v H'
theorem c4j : a0o ["sign", "one", "other"] ["sign", "one", "other"] (a0b a8T) := ⟨rfl, rfl, rfl, by decide +kernel, rfl, by decide +kernel, by decide +kernel⟩
theorem c1Q {y : Str} (h : y = "great" ∨ y = "nought") : a5s (.tuple [.str "fault", .str y]) = true /\ a3l (.tuple [.str "fault", .str y]) := by
 rcases h with rfl | rfl
 ·exact ⟨by decide +kernel, a8p _ (by decide)⟩
 ·exact ⟨by decide +kernel, a8p _ (by decide)⟩
theorem a8N (T : Tops K mg) : a0q P w K mg base CX0 4 "joined" ["sign", "one", "other"] (c6P K) := by
 obtain ⟨pG, hpG, hG⟩ := T.g_GREAT
 obtain ⟨pN, hpN, hN⟩ := T.g_NOUGHT
 have G_is_fault : a0q P w K mg base CX0 2 "is_fault" ["thing"] (a76 K) := a1x T
 have G_number_of : a0q P w K mg base CX0 1 "number_of" ["sign", "one", "other"] c1k := a37 T
 have G_bounded : a0q P w K mg base CX0 3 "bounded" ["number"] (a8G pG) := a5y T hpG
 refine T.d_joined.known c4j (fun _ _ _ _ _ _ us hl => match us, hl with | [_, _, _], _ => rfl) (fun vs H Q E h => ?_) (fun f cdv A outer s H vs Q E hr h => ?_)
 ·obtain ⟨sg, v1, v2, d1, d2, rfl, _⟩ := h
  rfl
 ·obtain ⟨sg, v1, v2, d1, d2, rfl, h1, h2, q⟩ := h
  refine ⟨_, (a0e (a0J (a05 (a0h G_is_fault (hr.mono (by decide)) a0t (a0a (pv 1) a0c)) (fun _ => rfl)) (a0g (a0l (pv 1))) a0p)
   (a0e (a0J (a05 (a0h G_is_fault (hr.mono (by decide)) a0t (a0a (pv 2) a0c)) (fun _ => rfl)) (a0g (a0l (pv 2))) a0p)
   (a0e (a0J (PW.pt (c6O (a0v b2H (pv 0) (a16 (a0a a0u (a0a a0u a0c))) (by with_unfolding_all rfl)) (c3W (a0v a1Y (pv 2) a0i (a0A _))))) (a0g (a0l (a7a hpN))) a0p)
   (a0g (a0l (a0h G_bounded (hr.mono (by decide)) a0t (a0a (a0h G_number_of (hr.mono (by decide)) a0t (a0a (pv 0) (a0a (pv 1) (a0a (pv 2) a0c)))) a0c))))))), ?_⟩
  rcases h1 with ⟨x, rfl, rfl, bx⟩ | ⟨a, y, rfl, hq, rfl, hy⟩
  ·refine ⟨_, rfl, _, .int x, rfl, .int x, a84, fun H1 s1 => ⟨_, rfl, iteF ?_⟩⟩
   have h2' := h2.same s1
   rcases h2' with ⟨y, rfl, rfl, yb⟩ | ⟨a, y, rfl, hq, rfl, hy⟩
   ·refine ⟨_, rfl, _, .int y, rfl, .int y, a84, fun H2 s2 => ⟨_, rfl, iteF ?_⟩⟩
    refine ⟨_, rfl, sl, fun t1 ht1 => ?_⟩
    have s3 := Same.new (o := .tup [.str "/", .str ":"]) ht1
    have s03 := (s1.trans s2).trans s3
    refine ⟨t1, (["/", ":"] : List Str).map V.str, rfl, .inr (SqT.of a0d), rfl, a5i _, _, rfl, ?_⟩
    rw [show (if false = true then !inV (.str sg) ((["/", ":"] : List Str).map V.str) else inV (.str sg) ((["/", ":"] : List Str).map V.str)) = decide (sg ∈ (["/", ":"] : List Str)) by rw [if_neg Bool.false_ne_true, a9H]]
    have em : sg ∈ (["/", ":"] : List Str) ↔ (sg = "/" ∨ sg = ":") := by simp
    have rest : ¬ ((sg = "/" ∨ sg = ":") /\ y = 0) -> ∀ H4, Same H H4 -> tRet (b6S (a8G pG) [] E0 (a8j (b6S c1k [] E0 (a8j (tVar 0) (a8j (tVar 1) (a8j (tVar 2) tNil)))) tNil)) { nx := fun _ H' => Q .non H', rt := Q } [some (.str sg), some (.int x), some (.int y)] H4 := fun hno H4 s4 => by
     refine ⟨_, rfl, _, rfl, _, rfl, sg, x, y, rfl, c1n bx, c1n yb, fun e z => hno ⟨e, z⟩, _, rfl, ?_⟩
     refine q H4 _ s4 ?_
     show PvV K H4 _ (if (sg = "/" ∨ sg = ":") /\ y = 0 then b2m else bndD (opZ sg x y))
     rw [if_neg hno]
     unfold bndD
     by_cases hb : numD (.int (opZ sg x y)) = true
     ·rw [if_pos hb, if_pos hb]
      exact .inl ⟨_, rfl, rfl, c64 hb⟩
     ·rw [if_neg hb, if_neg hb]
      exact .inr ⟨pG, _, rfl, hG H4, rfl, .inl rfl⟩
    refine ite2 (fun h => ?_) (fun h => ?_)
    ·have hs := em.mp (of_decide_eq_true h)
     refine ⟨_, rfl, rfl, _, rfl, ite2 (fun h => ?_) (fun h => ?_)⟩
     ·have hy0 : y = 0 := V.int.inj (of_decide_eq_true h)
      refine q _ _ s03 ?_
      show PvV K _ _ (if (sg = "/" ∨ sg = ":") /\ y = 0 then b2m else bndD (opZ sg x y))
      rw [if_pos ⟨hs, hy0⟩]
      exact .inr ⟨pN, _, rfl, hN _, rfl, .inr rfl⟩
     ·exact rest (fun z => h (decide_eq_true (congrArg V.int z.2))) _ s03
    ·exact rest (fun z => h (decide_eq_true (em.mpr z.1))) _ s03
   ·obtain ⟨f1, f2⟩ := c1Q hy
    refine ⟨_, rfl, _, _, rfl, .tup hq (.cons (.str _) (.cons (.str _) .nil)), f2, fun H2 s2 => ⟨_, rfl, ?_⟩⟩
    rw [f1]
    exact iteT ⟨_, rfl, q _ _ (s1.trans s2) (.inr ⟨a, y, rfl, s2.seqT hq, rfl, hy⟩)⟩
  ·obtain ⟨f1, f2⟩ := c1Q hy
   refine ⟨_, rfl, _, _, rfl, .tup hq (.cons (.str _) (.cons (.str _) .nil)), f2, fun H1 s1 => ⟨_, rfl, ?_⟩⟩
   rw [f1]
   exact iteT ⟨_, rfl, q _ _ s1 (.inr ⟨a, y, rfl, s1.seqT hq, rfl, hy⟩)⟩
def a26 (kvs : List (Key × V)) (z : Str) : Int := match valV kvs (.inr z) with
 | some (.int i) => i
 | _ => 0
theorem a5Z {kvs : List (Key × V)} {z : Str} {i : Int} (h : valV kvs (.inr z) = some (.int i)) : a26 kvs z = i := by unfold a26; rw [h]
def c9m (kvs : List (Key × V)) (zs : List Str) : Prop := ∀ z ∈ zs, Nl z -> ∃ i, valV kvs (.inr z) = some (.int i) /\ bnd F60 i
def c1l (kvs : List (Key × V)) (zs : List Str) : PyData := (a1A (a26 kvs) zs).headD .none
def c6X (K : PySem.W.Frag) : Sp := fun vs H Q _ => ∃ (a d : Addr) (zs : List Str) (kvs : List (Key × V)), vs = [.ref a, .ref d] /\ SqL K H a (zs.map V.str) /\ H d = some (.dK kvs) /\ zs.length <= 100 /\ Pre zs 1 0 /\ c9m kvs zs /\ ∀ H' v, Same H H' -> PvV K H' v (c1l kvs zs) -> Q v H'
abbrev Nrk : List Str := ["words", "numbers", "waiting", "word", "one", "other"]
theorem a3Z : a0o Nrk ["words", "numbers"] (a0b a5t) := ⟨rfl, rfl, rfl, by decide +kernel, rfl, by decide +kernel, by decide +kernel⟩
theorem b41 : ∀ {zs : List Str} {n m : Nat} (i : Nat), Pre zs n m -> ∃ k, Pre (zs.drop i) k m
 | zs, n, m, 0, h => ⟨n, h⟩
 | [], n, m, i + 1, h => ⟨n, h⟩
 | z :: r, n, m, i + 1, h => by
  rcases h.2 with q | q
  ·exact b41 i q.2
  ·exact b41 i q.2
theorem a5q (T : Tops K mg) : a0q P w K mg base CX0 5 "reckoned" ["words", "numbers"] (c6X K) := by
 have G_is_name : a0q P w K mg base CX0 1 "is_name" ["thing"] (b0d K) := a1X T
 have G_joined : a0q P w K mg base CX0 4 "joined" ["sign", "one", "other"] (c6P K) := a8N T
 obtain ⟨pS, hS, hSq⟩ := T.g_SIGNS
 refine T.d_reckoned.known a3Z (fun _ _ _ _ _ _ us hl => match us, hl with | [_, _], _ => rfl) (fun vs H Q E h => ?_) (fun f cdv A outer s H vs Q E hr h => ?_)
 ·obtain ⟨a, d, zs, kvs, rfl, _⟩ := h
  rfl
 ·obtain ⟨a, d, zs, kvs, rfl, hq, hd, hl, hP, hE, q⟩ := h
  have hu := c4A hr
  refine ⟨_, (a0e (a0B (i := 2) a3Z.nd rfl (Or.inl rfl) (a1G a0c))
   (a0e (a4m PassesOwn.never rfl (c9s (pv 0) rfl T.reversed c0U) (a0Q (i := 3) a3Z.nd rfl (Or.inl rfl)) (a0g (a0J (a0v b2H (pv 3) (a7a hS) (by with_unfolding_all rfl)) (a0e (a0B (i := 4) a3Z.nd rfl (Or.inl rfl) (c6Q PySem.F.plainAttrs_list PySem.F.slot_list_pop PySem.F.type_list_pop c60 (pv 2)))
   (a0e (a0B (i := 5) a3Z.nd rfl (Or.inl rfl) (c6Q PySem.F.plainAttrs_list PySem.F.slot_list_pop PySem.F.type_list_pop c60 (pv 2)))
   (a0g (a0F (a9Q PySem.F.plainAttrs_list PySem.F.slot_list_append PySem.F.type_list_append a17 (pv 2) (a0a (a0h G_joined (hr.mono (by decide)) a0t (a0a (pv 3) (a0a (pv 4) (a0a (pv 5) a0c)))) a0c)))))) (a0g (a0J (a05 (a0h G_is_name (hr.mono (by decide)) a0t (a0a (pv 3) a0c)) (fun _ => rfl)) (a0g (a0F (a9Q PySem.F.plainAttrs_list PySem.F.slot_list_append PySem.F.type_list_append a17 (pv 2) (a0a (a0R hu (pv 1) (pv 3) (fun _ _ => rfl)) a0c)))) (a0g (a0F (a9Q PySem.F.plainAttrs_list PySem.F.slot_list_append PySem.F.type_list_append a17 (pv 2) (a0a (a1H a5T rfl T.int c27 (a0a (pv 3) a0c)) a0c)))))))))
   (a0g (a0l (a0z a0s (pv 2) a0i (fun _ _ => rfl)))))), ?_⟩
  refine ⟨sl, fun wl hwl => ?_⟩
  have s1 := Same.new (o := .lst []) hwl
  refine ⟨_, rfl, a, _, rfl, s1.seq hq, ?_⟩
  have hlz : (zs.map V.str).length = zs.length := List.length_map ..
  refine c7i (K := K) (a := a) (xs := zs.map V.str) (fun i σ H2 => ∃ o3 o4 o5 vs, σ = [some (.ref a), some (.ref d), some (.ref wl), o3, o4, o5] /\ Same H H2 /\ H2 wl = some (.lst vs) /\ Pile K H2 vs (a1A (a26 kvs) (zs.drop (zs.length - i))))
   ⟨_, _, _, [], rfl, s1, a0d, by rw [Nat.sub_zero, List.drop_length]; exact .nil⟩ (fun i σ H2 _ ⟨_, _, _, _, _, s2, _⟩ => s2.seq hq) ?_ ?_
  ·rintro i x σ H2 hx ⟨o3, o4, o5, vs, rfl, s2, h2, hp⟩
   rw [<- List.map_reverse] at hx
   obtain ⟨z, hz, rfl⟩ := b8e hx
   have hi : i < zs.length := by
    have := (List.getElem?_eq_some_iff.mp hz).1
    rw [List.length_reverse] at this
    exact this
   rw [List.getElem?_reverse hi] at hz
   have hzm := List.mem_of_getElem? hz
   have ed : zs.drop (zs.length - (i + 1)) = z :: zs.drop (zs.length - i) := by
    have e1 : zs.length - (i + 1) = zs.length - 1 - i := by omega
    have e2 : zs.length - i = zs.length - 1 - i + 1 := by omega
    rw [e1, e2, a42 hz]
   have hpl : (a1A (a26 kvs) (zs.drop (zs.length - (i + 1)))) = a2H (a26 kvs) z (a1A (a26 kvs) (zs.drop (zs.length - i))) := by rw [ed]; rfl
   obtain ⟨k, hk⟩ := b41 (zs.length - (i + 1)) hP
   rw [ed] at hk
   have hbn : ∀ y ∈ zs, Nl y -> bnd F60 (a26 kvs y) := fun y hy ny => by
    obtain ⟨j, e, b⟩ := hE y hy ny
    rw [a5Z e]
    exact b
   have hlv : vs.length <= i := by
    have e1 : vs.length = (a1A (a26 kvs) (zs.drop (zs.length - i))).length := by
     have := Paired.length hp
     rw [List.length_reverse] at this
     exact this
    have : ∀ ys : List Str, (a1A (a26 kvs) ys).length <= ys.length := by
     intro ys
     induction ys with
     | nil => exact Nat.le_refl _
     | cons y r ih =>
      show (a2H _ y (a1A _ r)).length <= r.length + 1
      unfold a2H
      split
      ·split
       ·rename_i e
        rw [e] at ih
        simp at ih ⊢
        omega
       ·omega
      ·simp; omega
    have := this (zs.drop (zs.length - i))
    rw [List.length_drop] at this
    omega
   refine ⟨_, rfl, pS, sgns.map V.str, rfl, .inr (hSq H2), rfl, a5i sgns, _, rfl, ?_⟩
   rw [show (if false = true then !inV (.str z) (sgns.map V.str) else inV (.str z) (sgns.map V.str)) = decide (z ∈ sgns) by rw [if_neg Bool.false_ne_true, a9H]]
   refine ite2 (fun h => ?_) (fun h => ?_)
   ·have hz' : z ∈ sgns := of_decide_eq_true h
    rcases hk.2 with ⟨_, hk⟩ | ⟨hk, _⟩
    ·have h0 := hk
     obtain ⟨pl, _⟩ := b2g hk fun y hy => hbn y (List.mem_of_mem_drop hy)
     have k0 := ‹Pre (z :: zs.drop (zs.length - i)) k 0›.1
     match hpo : a1A (a26 kvs) (zs.drop (zs.length - i)), pl, hp with
     | [], pl, _ => simp at pl
     | [_], pl, _ => simp at pl; omega
     | d1 :: d2 :: t, _, hp =>
      obtain ⟨us1, v1, rfl, hv1, hp1⟩ := Pile.pop hp
      obtain ⟨us, v2, rfl, hv2, hp2⟩ := Pile.pop hp1
      refine ⟨_, rfl, .inl ⟨rfl, _, SqL.of h2⟩, wl, _, v1, rfl, rfl, h2, b08.1, ?_⟩
      rw [b08.2]
      have g1 : upd H2 wl (.lst (us ++ [v2])) wl = some (.lst (us ++ [v2])) := a0d
      refine ⟨_, rfl, .inl ⟨rfl, _, SqL.of g1⟩, wl, _, v2, rfl, rfl, g1, b08.1, ?_⟩
      rw [b08.2]
      have g2 : upd (upd H2 wl (.lst (us ++ [v2]))) wl (.lst us) wl = some (.lst us) := a0d
      have s3 : Same H (upd (upd H2 wl (.lst (us ++ [v2]))) wl (.lst us)) := fun b o e => by
       rw [a0m (a0k e hwl), a0m (a0k e hwl)]
       exact s2 _ _ e
      have w1 := (hv1.upd (o := .lst (us ++ [v2])) h2).upd (o := .lst us) g1
      have w2 := (hv2.upd (o := .lst (us ++ [v2])) h2).upd (o := .lst us) g1
      have w3 := (hp2.upd (o := .lst (us ++ [v2])) h2).upd (o := .lst us) g1
      generalize upd (upd H2 wl (.lst (us ++ [v2]))) wl (.lst us) = H3 at g2 s3 w1 w2 w3 ⊢
      refine ⟨_, rfl, .inl ⟨rfl, _, SqL.of g2⟩, _, rfl, _, rfl, _, rfl, z, v1, v2, d1, d2, rfl, w1, w2, fun H4 v s4 hv => ?_⟩
      have g4 := s4 _ _ g2
      refine ⟨wl, _, _, rfl, rfl, g4, a0U (by simp at hlv; omega), ?_⟩
      refine ⟨_, _, _, _, rfl, fun b o e => ?_, a0d, ?_⟩
      ·rw [a0m (a0k e hwl)]
       exact s4 _ _ (s3 _ _ e)
      ·rw [hpl, hpo]
       unfold a2H
       rw [if_pos hz']
       exact ((w3.same s4).push hv).upd g4
    ·exact absurd hz' hk.ns
   ·have hz' : z ∉ sgns := fun y => h (decide_eq_true y)
    rcases hk.2 with ⟨hk, _⟩ | ⟨ho, _⟩
    ·exact absurd hk hz'
    ·have hl1 := ho.len
     have est : a2H (a26 kvs) z (a1A (a26 kvs) (zs.drop (zs.length - i))) = .int (b3E (a26 kvs) z) :: a1A (a26 kvs) (zs.drop (zs.length - i)) := by
      unfold a2H
      rw [if_neg hz']
     have fin : ∀ (H4 : Hp) (j : Int), Same H2 H4 -> b3E (a26 kvs) z = j -> bnd F60 j -> ∃ (o3 o4' o5' : Option V) (vs' : List V), ([some (.ref a), some (.ref d), some (.ref wl), some (.str z), o4, o5] : St) = [some (.ref a), some (.ref d), some (.ref wl), o3, o4', o5'] /\ Same H (upd H4 wl (.lst (vs ++ [.int j]))) /\ upd H4 wl (.lst (vs ++ [.int j])) wl = some (.lst vs') /\ Pile K (upd H4 wl (.lst (vs ++ [.int j]))) vs' (a1A (a26 kvs) (zs.drop (zs.length - (i + 1)))) := fun H4 j s4 ej bj => by
      refine ⟨_, _, _, _, rfl, fun b o e => ?_, a0d, ?_⟩
      ·rw [a0m (a0k e hwl)]
       exact s4 _ _ (s2 _ _ e)
      ·rw [hpl, est, ej]
       exact ((hp.same s4).push (.inl ⟨j, rfl, rfl, bj⟩)).upd (s4 _ _ h2)
     refine ⟨_, rfl, _, .str z, rfl, .str z, a1l (by omega), fun H3 s3 => ⟨_, rfl, ?_⟩⟩
     rcases ho with ho | ⟨j, ho⟩
     ·rw [show a55 (.str z) = true from ho.is]
      obtain ⟨j, ej, bj⟩ := hE z hzm ho
      have ew : b3E (a26 kvs) z = j := by unfold b3E; rw [if_pos ho.is, a5Z ej]
      refine iteT ⟨_, rfl, .inl ⟨rfl, _, SqL.of (s3 _ _ h2)⟩, _, rfl, _, rfl, d, _, rfl, ej ▸ DGet.k (k := Sum.inr z) ((s2.trans s3) _ _ hd), wl, _, _, rfl, rfl, s3 _ _ h2, a0U (by omega), ?_⟩
      exact fin H3 j s3 ew bj
     ·rw [show a55 (.str z) = false from ho.nn]
      have ew : b3E (a26 kvs) z = j := by unfold b3E; rw [ho.nn, if_neg Bool.false_ne_true, ho.reads.1]; rfl
      refine iteF ⟨_, rfl, .inl ⟨rfl, _, SqL.of (s3 _ _ h2)⟩, _, rfl, z, j, rfl, ho.reads.1, by omega, wl, _, _, rfl, rfl, s3 _ _ h2, a0U (by omega), ?_⟩
      exact fin H3 j s3 ew ho.1
  ·rintro σ H2 ⟨o3, o4, o5, vs, rfl, s2, h2, hp⟩
   rw [hlz, Nat.sub_self, List.drop_zero] at hp
   have hbn : ∀ y ∈ zs, Nl y -> bnd F60 (a26 kvs y) := fun y hy ny => by
    obtain ⟨j, e, b⟩ := hE y hy ny
    rw [a5Z e]
    exact b
   obtain ⟨pl, _⟩ := b2g hP hbn
   match hpo : a1A (a26 kvs) zs, pl, hp with
   | [d1], _, hp =>
    obtain ⟨us, v, e, hv, hp1⟩ := Pile.pop hp
    have eu : us = [] := by
     have := Paired.length hp1
     simpa using this
    subst eu e
    refine ⟨_, rfl, wl, _, _, _, rfl, rfl, SqL.of h2, rfl, q _ _ s2 ?_⟩
    unfold c1l
    rw [hpo]
    exact hv
   | [], pl, _ => simp at pl
   | _ :: _ :: _, pl, _ => simp at pl
end
end My
namespace My
open PySem L2
section
variable {P : Program} {w : World} {K : PySem.W.Frag} {mg : Str -> Option Value} {base : Heap}
def c6a (kd : Str) (sp : Sp) : Sp := fun vs H Q _ => ∃ (z : Str) (ws : List Str), vs = [.str z] /\ z.length <= 9000 /\ Txt.split z " " = kd :: ws /\ ∀ H1 c, Same H H1 -> H c = none -> H1 c = some (.lst (ws.map V.str)) -> sp [.ref c] H1 Q E0
theorem a4o : a0o ["text", "words"] ["text"] (a0b a1N) := ⟨rfl, rfl, rfl, by decide +kernel, rfl, by decide +kernel, by decide +kernel⟩
theorem cut1 (kd : Str) (ws : List Str) : cutV ((kd :: ws).map V.str) (some 1) none = ws.map V.str := by
 unfold cutV
 rw [show HT.sIx ((kd :: ws).map V.str).length 0 (some 1) = 1 from (HT.sIx_nat _ _ 1).trans (by simp), HT.sIx_none]
 simp [List.take_of_length_le]
theorem b2Z {α : Type} (x : α) (r : List α) : atI (x :: r) 0 = some x := by
 obtain ⟨v, h1, h2⟩ := c0O (x :: r) 0 (by decide) (by simp)
 rw [h1]
 simpa using h2.symm
theorem a5L (T : Tops K mg) {pK g : Addr} (hK : mg "KINDS" = some (.ref pK)) (DK : b9V w.params K pK) {kd x : Str} {n : Nat} {sp : Sp} (hn : 1 <= n) (G : a0q P w K mg base CX0 n x ["words"] sp) (hg : mg x = some (.ref g)) (hkg : PySem.W.nsIn K pK kd = some (some (.ref g))) :
 a0q P w K mg base CX0 (n + 1) "read_rule" ["text"] (c6a kd sp) := by
 have G_refuse_unless : a0q P w K mg base CX0 1 "refuse_unless" ["holds"] a3p := a0D T
 refine T.d_read_rule.known a4o (fun _ _ _ _ _ _ us hl => match us, hl with | [_], _ => rfl) (fun vs H Q E h => ?_) (fun f cdv A outer s H vs Q E hr h => ?_)
 ·obtain ⟨z, ws, rfl, _⟩ := h
  rfl
 ·obtain ⟨z, ws, rfl, hz, hsp, q⟩ := h
  refine ⟨_, (a0e (a0F (a0h G_refuse_unless (hr.mono hn) a0t (a0a (a0r a0Y rfl T.isinstance a0w (a0a (pv 0) (a0a (a5E T.str c0d) a0c))) a0c)))
   (a0e (a0B (i := 1) a4o.nd rfl (Or.inl rfl) (a9Q PySem.F.plainAttrs_str PySem.F.slot_str_split PySem.F.type_str_split b8E (pv 0) (a0a a0u a0c)))
   (a0e (a0F (a0h G_refuse_unless (hr.mono hn) a0t (a0a (c3J (c4G DK (a0z a0s (pv 1) a0i (fun _ _ => rfl)) (a7a hK)) (by with_unfolding_all rfl)) a0c)))
   (a0g (a0l (c10 G hr a0t (c0o DK (a7a hK) (a0z a0s (pv 1) a0i (fun _ _ => rfl)) (fun _ _ => rfl)) (a0a (a3t a9L (pv 1) (a53 a0i) a6a) a0c))))))), ?_⟩
  refine ⟨_, rfl, _, "str", .str z, _, rfl, .str z, b5p K _, rfl, ?_⟩
  refine ⟨_, rfl, rfl, z, " ", rfl, rfl, by decide, hz, fun l hl => ?_⟩
  rw [hsp]
  have s1 := Same.new (o := .lst ((kd :: ws).map V.str)) hl
  have h1 : upd H l (.lst ((kd :: ws).map V.str)) l = some (.lst ((kd :: ws).map V.str)) := a0d
  generalize upd H l (.lst ((kd :: ws).map V.str)) = H1 at s1 h1 ⊢
  have e0 : atI ((kd :: ws).map V.str) 0 = some (.str kd) := b2Z _ _
  refine ⟨_, rfl, l, _, _, _, rfl, rfl, SqL.of h1, e0, pK, kd, _, rfl, rfl, hkg, rfl, ?_⟩
  refine ⟨_, rfl, l, _, _, _, rfl, rfl, SqL.of h1, e0, pK, kd, g, rfl, rfl, hkg, g, rfl, hg, ?_⟩
  refine ⟨_, rfl, _, rfl, l, _, rfl, SqL.of h1, fun c hc => ?_⟩
  have s2 := Same.new (o := .lst (cutV ((kd :: ws).map V.str) (some 1) none)) hc
  exact q _ c (s1.trans s2) (a5w s1 hc) (by rw [cut1]; exact a0d)
end
end My
namespace My
open PySem L2
def b85 (W : List Addr) (H H' : Hp) : Prop := ∀ b o, ((b ∈ W /\ ∃ xs, o = HO.lst xs) ∨ ∃ u, o = Fz u) -> H b = some o -> H' b = some o
theorem b85.of {W : List Addr} {H H' : Hp} (s : Same H H') : b85 W H H' := fun b o _ e => s b o e
def c7G (W : List Addr) (LP : Hp -> Prop) : Prop := ∀ H H', b85 W H H' -> LP H -> LP H'
def LPof (q : Str) (params : Arguments) (body : Expr) (scope : Scope) (clos : List (Str × Addr)) (fa : Addr) (f : Lend) : Hp -> Prop := fun H => b5e q params body scope clos H fa /\ ∀ b o, f b = some o -> H b = some (Fz o)
theorem c4S {W : List Addr} {q : Str} {params : Arguments} {body : Expr} {scope : Scope} {clos : List (Str × Addr)} {fa : Addr} {f : Lend} : c7G W (LPof q params body scope clos fa f) := fun H H' s ⟨⟨pm, c, ctv, o, e1, e2, e3⟩, h⟩ =>
 ⟨⟨pm, c, ctv, o, s _ _ (.inr ⟨_, rfl⟩) e1, s _ _ (.inr ⟨_, rfl⟩) e2, e3⟩, fun b o e => s _ _ (.inr ⟨_, rfl⟩) (h b o e)⟩
def spLf (K : PySem.W.Frag) (LP : Hp -> Prop) (pre : List Int -> Prop) (g : List Int -> PyData) : Sp := fun vs H Q _ => ∃ (l : Addr) (is : List Int), vs = [.ref l] /\ LP H /\ H l = some (.lst (is.map V.int)) /\ is.length <= 100 /\ pre is /\ ∀ H' v, Same H H' -> Dt K H' v (g is) -> Q v H'
def Holds (ls : List (Addr × List V)) (H : Hp) : Prop := ∀ p ∈ ls, H p.1 = some (.lst p.2)
def spBf (K : PySem.W.Frag) (ls : List (Addr × List V)) (pre : List Int -> Prop) (g : List Int -> PyData) : List V -> Hp -> VK -> Prop := fun vs H Q => ∃ (l : Addr) (is : List Int), vs = [.ref l] /\ Holds ls H /\ H l = some (.lst (is.map V.int)) /\ is.length <= 100 /\ pre is /\ ∀ H' v, Same H H' -> Dt K H' v (g is) -> Q v H'
theorem c4C {P : Program} {w : World} {K : PySem.W.Frag} {mg : Str -> Option Value} {base : Heap} {k : Nat} {q : Str} {params : Arguments} {body : Expr} {scope : Scope} {clos : List (Str × Addr)} {fa : Addr} {f : Lend} {ls : List (Addr × List V)} {pre : List Int -> Prop} {g : List Int -> PyData}
 (F : a3n P w K mg base k fa (c6g fa f q params body scope clos 1 (spBf K ls pre g))) : a3n P w K mg base k fa (spLf K (fun H => LPof q params body scope clos fa f H /\ Holds ls H) pre g) := by
 refine F.imp fun vs H Q E h => ?_
 obtain ⟨l, is, rfl, ⟨⟨la, lf⟩, hls⟩, hl, h1, h2, qq⟩ := h
 have fl : ∀ b xs, H b = some (.lst xs) -> f b = none := fun b xs hb => by
  cases e : f b with
  | none => rfl
  | some o => rw [lf b o e] at hb; cases hb
 refine ⟨rfl, la, lf, l, is, rfl, fun p hp => by rw [a1C (fl _ _ (hls p hp))]; exact hls p hp, by rw [a1C (fl _ _ hl)]; exact hl, h1, h2, fun H' v s' hd fr => ?_⟩
 have sL : Same H' (lend f H') := fun b o e => by
  cases e2 : f b with
  | none => rw [a0N e2]; exact e
  | some ob => rw [fr b ob e2] at e; cases e
 refine qq _ v (fun b o e => ?_) (hd.same sL)
 cases e2 : f b with
 | none => rw [a0N e2]; exact s' b o (by rw [a1C e2]; exact e)
 | some ob =>
  rw [lf b ob e2] at e
  rw [a3f e2]; exact e
theorem a9q {ls : List (Addr × List V)} {q : Str} {params : Arguments} {body : Expr} {scope : Scope} {clos : List (Str × Addr)} {fa : Addr} {f : Lend} : c7G (ls.map (·.1)) (fun H => LPof q params body scope clos fa f H /\ Holds ls H) := fun H H' s ⟨h1, h2⟩ =>
 ⟨c4S _ _ s h1, fun p hp => s _ _ (.inl ⟨List.mem_map_of_mem hp, _, rfl⟩) (h2 p hp)⟩
def FnAt (P : Program) (w : World) (K : PySem.W.Frag) (mg : Str -> Option Value) (base : Heap) (k : Nat) (W : List Addr) (H : Hp) (fa : Addr) (pre : List Int -> Prop) (g : List Int -> PyData) : Prop := ∃ LP, a3n P w K mg base k fa (spLf K LP pre g) /\ LP H /\ c7G W LP
theorem FnAt.keep {P : Program} {w : World} {K : PySem.W.Frag} {mg : Str -> Option Value} {base : Heap} {k : Nat} {W : List Addr} {H H' : Hp} {fa : Addr} {pre : List Int -> Prop} {g : List Int -> PyData} (s : b85 W H H') (h : FnAt P w K mg base k W H fa pre g) : FnAt P w K mg base k W H' fa pre g := by
 obtain ⟨LP, h1, h2, h3⟩ := h
 exact ⟨LP, h1, h3 _ _ s h2, h3⟩
structure RC (K : PySem.W.Frag) (mg : Str -> Option Value) (C : Addr) : Prop where
 cl : Cls K C
 n_function : a1m K C "function"
 m_reckon : Mth K C "reckon" "Rule.reckon" a0I
section
variable {P : Program} {w : World} {K : PySem.W.Frag} {mg : Str -> Option Value} {base : Heap}
def a7f (P : Program) (w : World) (K : PySem.W.Frag) (mg : Str -> Option Value) (base : Heap) (k : Nat) (C : Addr) : Sp := fun vs H Q _ => ∃ (p a fa dx : Addr) (W : List Addr) (fs : List (Str × V)) (pre : List Int -> Prop) (g : List Int -> PyData) (is : List Int), vs = [.ref p, .ref a] /\ H p = some (.ins C dx fs) /\ fs.lookup ("function" : Str) = some (.ref fa) /\ FnAt P w K mg base k W H fa pre g /\ SqL K H a (is.map V.int) /\ is.length <= 100 /\ pre is /\ a3l (g is) /\ a4w (g is) = true /\
 ∀ H' v, Same H H' -> Dt K H' v (g is) -> Q v H'
theorem b2j : a0o ["self", "some"] ["self", "some"] (a0b a0I) := ⟨rfl, rfl, rfl, by decide +kernel, rfl, by decide +kernel, by decide +kernel⟩
theorem a9d (T : Tops K mg) {C : Addr} (Y : RC K mg C) {k : Nat} (hk : 4 <= k) : a1B P w K mg base CX0 (k + 1) C "reckon" ["self", "some"] (a7f P w K mg base k C) := by
 obtain ⟨pO, hpO, hO⟩ := T.g_ODD
 have G_settled : a0q P w K mg base CX0 4 "settled" ["thing"] (b2b K pO) := a5l T hpO
 refine Y.m_reckon.known b2j (fun _ _ _ _ _ _ us hl => match us, hl with | [_, _], _ => rfl) (fun vs H Q E h => ?_) (fun f cdv A outer s H vs Q E hr h => ?_)
 ·obtain ⟨p, a, fa, dx, W, fs, pre, g, is, rfl, _⟩ := h
  rfl
 ·obtain ⟨p, a, fa, dx, W, fs, pre, g, is, rfl, hp, hf, ⟨LP, F, lp, st⟩, hq, l1, hpre, sh, vd, q⟩ := h
  refine ⟨_, (a0g (a0l (a0h G_settled (hr.mono hk) a0t (a0a (c5H (k := k) (pv 0) hr (a0a (a1H a6D rfl T.list c1O (a0a (pv 1) a0c)) a0c)) a0c)))), ?_⟩
  refine ⟨_, rfl, p, C, dx, fs, fa, _, rfl, hp, Y.cl, Y.n_function, hf, F, _, rfl, a, _, rfl, .inl hq, fun xl hxl => ?_⟩
  have s1 := Same.new (o := .lst (is.map V.int)) hxl
  refine ⟨xl, is, rfl, st _ _ (b85.of s1) lp, a0d, l1, hpre, fun H3 v s3 hd => ?_⟩
  refine ⟨v, _, rfl, hd, sh, fun H4 s4 => ?_⟩
  rw [if_pos vd]
  exact q H4 v ((s1.trans s3).trans s4) (hd.same s4)
end
end My
namespace My
open PySem L2
def a7C (val : a0O -> V) : List a0O -> List V -> List a0O × Res
 | [], acc => ([], .call acc)
 | z :: r, acc => if a2l (val z) then ([z], .val (val z)) else (z :: (a7C val r (acc ++ [val z])).1, (a7C val r (acc ++ [val z])).2)
def a1j (vw : Vw) (zs : List a0O) : List a0O × Res := a7C (a0x vw) zs []
theorem a9Y {val : a0O -> V} : ∀ {xs ys : List a0O} {acc : List V}, (∀ z ∈ xs, a2l (val z) = false) -> a7C val (xs ++ ys) acc = (xs ++ (a7C val ys (acc ++ xs.map val)).1, (a7C val ys (acc ++ xs.map val)).2)
 | [], ys, acc, _ => by simp
 | x :: xs, ys, acc, h => by
  rw [List.cons_append]
  show (if a2l (val x) then _ else _) = _
  rw [h x List.mem_cons_self, if_neg Bool.false_ne_true, a9Y (xs := xs) fun z hz => h z (List.mem_cons_of_mem _ hz)]
  simp [List.append_assoc]
theorem c5t {vw : Vw} {zs : List a0O} (h : ∀ z ∈ zs, a2l (a0x vw z) = false) : a1j vw zs = (zs, .call (zs.map (a0x vw))) := by
 have := a9Y (val := a0x vw) (xs := zs) (ys := []) (acc := []) h
 rw [List.append_nil] at this
 unfold a1j
 rw [this]
 simp [a7C]
theorem c7e {vw : Vw} {zs : List a0O} {i : Nat} {z : a0O} (hz : zs[i]? = some z) (h : ∀ y ∈ zs.take i, a2l (a0x vw y) = false) (hr : a2l (a0x vw z) = true) : a1j vw zs = (zs.take (i + 1), .val (a0x vw z)) := by
 have hi := (List.getElem?_eq_some_iff.mp hz).1
 have e : zs = zs.take i ++ (z :: zs.drop (i + 1)) := by
  have h1 : zs.drop i = zs[i] :: zs.drop (i + 1) := List.drop_eq_getElem_cons hi
  rw [(List.getElem?_eq_some_iff.mp hz).2] at h1
  rw [<- h1, List.take_append_drop]
 have := a9Y (val := a0x vw) (xs := zs.take i) (ys := z :: zs.drop (i + 1)) (acc := []) h
 unfold a1j
 rw [<- e] at this
 rw [this]
 simp only [a7C, hr, if_true]
 rw [List.take_add_one, hz]
 rfl
def b0G (vw : Vw) (H : Hp) (zs : List a0O) : Prop := ∀ z ∈ zs, ∃ v, vw z = some v /\ WV H v
theorem b0G.keep {vw : Vw} {H H' : Hp} {zs : List a0O} (s : Keep H H') (h : b0G vw H zs) : b0G vw H' zs := fun z hz => let ⟨v, e, q⟩ := h z hz; ⟨v, e, q.keep s⟩
section
variable {P : Program} {w : World} {K : PySem.W.Frag} {mg : Str -> Option Value} {base : Heap}
def c1A (P : Program) (w : World) (K : PySem.W.Frag) (mg : Str -> Option Value) (base : Heap) : Sp := fun vs H Q _ => ∃ (look cl nl : Addr) (H0 : Hp) (vw : Vw) (cv : List V) (zs ns : List a0O), vs = [.ref look, .ref cl] /\ a3n P w K mg base 2 look (spLk H0 nl vw) /\ But nl H0 H /\ LkS nl ns H /\ H cl = some (.lst cv) /\ cl ≠ nl /\ Nts H cv zs /\ b0G vw H zs /\ ns.length + zs.length <= 800 /\
 ∀ H' fv, But nl H H' -> LkS nl (ns ++ (a1j vw zs).1) H' -> b4H H H' fv (a1j vw zs).2 -> Q fv H'
abbrev c98 : List Str := ["look", "cells", "numbers", "table", "column", "place", "value"]
theorem a1k : a0o c98 ["look", "cells"] (a0b a1W) := ⟨rfl, rfl, rfl, by decide +kernel, rfl, by decide +kernel, by decide +kernel⟩
theorem a1i (T : Tops K mg) : a0q P w K mg base CX0 3 "look_in_turn" ["look", "cells"] (c1A P w K mg base) := by
 have G_is_fault : a0q P w K mg base CX0 2 "is_fault" ["thing"] (a76 K) := a1x T
 refine T.d_look_in_turn.known a1k (fun _ _ _ _ _ _ us hl => match us, hl with | [_, _], _ => rfl) (fun vs H Q E h => ?_) (fun f cdv A outer s H vs Q E hr h => ?_)
 ·obtain ⟨look, cl, nl, H0, vw, cv, zs, ns, rfl, _⟩ := h
  rfl
 ·obtain ⟨look, cl, nl, H0, vw, cv, zs, ns, rfl, F1, b0, lk, hc, hcn, hN, hT, hlen, q⟩ := h
  refine ⟨_, (a0e (a0B (i := 2) a1k.nd rfl (Or.inl rfl) (a1G a0c))
   (a0e (a4m PassesOwn.never rfl (a2F (pv 1)) (c37 rfl (a2m (a0Q (i := 3) a1k.nd rfl (Or.inl rfl)) (a2m (a0Q (i := 4) a1k.nd rfl (Or.inl rfl)) (a2m (a0Q (i := 5) a1k.nd rfl (Or.inl rfl)) c0c)))) (a0e (a0B (i := 6) a1k.nd rfl (Or.inl rfl) (a3z 0 hr (a0a (pv 3) (a0a (pv 4) (a0a (pv 5) a0c)))))
   (a0e (a0J (a05 (a0h G_is_fault (hr.mono (by decide)) a0t (a0a (pv 6) a0c)) (fun _ => rfl)) (a0g (a0l (a16 (a0a a0u (a0a (pv 6) a0c))))) a0p)
   (a0g (a0F (a9Q PySem.F.plainAttrs_list PySem.F.slot_list_append PySem.F.type_list_append a17 (pv 2) (a0a (pv 6) a0c)))))))
   (a0g (a0l (a16 (a0a a0u (a0a (pv 2) a0c))))))), ?_⟩
  refine ⟨sl, fun nm hnm => ?_⟩
  have s1 := Same.new (o := .lst []) hnm
  obtain ⟨as0, hn0⟩ := lk.list
  have nnm : nl ≠ nm := a0k hn0 hnm
  have ncm : cl ≠ nm := a0k hc hnm
  refine ⟨_, rfl, cl, rfl, ⟨_, SqL.of (s1 _ _ hc)⟩, ?_⟩
  refine a4r (K := K) (a := cl) (xs := cv) (fun i σ H2 => ∃ o3 o4 o5 o6, σ = [some (.ref look), some (.ref cl), some (.ref nm), o3, o4, o5, o6] /\ But nl H H2 /\ LkS nl (ns ++ zs.take i) H2 /\ H2 nm = some (.lst ((zs.take i).map (a0x vw))) /\ ∀ z ∈ zs.take i, a2l (a0x vw z) = false)
   ⟨_, _, _, _, rfl, But.of s1, by rw [List.take_zero, List.append_nil]; exact lk.same s1, a0d, fun z hz => by simp at hz⟩ (fun i σ H2 _ ⟨_, _, _, _, _, b, _⟩ => SqL.of (b _ _ hcn hc)) ?_ ?_
  ·rintro i x σ H2 hx ⟨o3, o4, o5, o6, rfl, b2, lk2, h2, hr2⟩
   obtain ⟨z, hz, a, rfl, ha⟩ := Nts.at hN hx
   have hzm : z ∈ zs := List.mem_of_getElem? hz
   have hi : i < zs.length := (List.getElem?_eq_some_iff.mp hz).1
   have htk : zs.take (i + 1) = zs.take i ++ [z] := by rw [List.take_add_one, hz]; rfl
   have kp2 := Keep.but b2 hn0
   have ha2 := kp2 _ _ (fun xs q => by cases q) ha
   obtain ⟨v, hv, hW⟩ := (hT.keep kp2) z hzm
   have ev := a0W hv
   refine ⟨a, _, rfl, SqT.of ha2, rfl, _, _, rfl, _, _, rfl, _, _, rfl, rfl, ?_⟩
   refine ⟨look, _, rfl, F1, _, rfl, _, rfl, _, rfl, z.1, z.2.1, z.2.2, v, ns ++ zs.take i, rfl, b0.trans b2, lk2, by rw [List.length_append, List.length_take]; omega, hv, fun H3 b3 lk3 => ?_⟩
   obtain ⟨as2, hn2⟩ := lk2.list
   have kp3 := Keep.but b3 hn2
   have hW3 := hW.keep kp3
   have h3 := b3 _ _ (Ne.symm nnm) h2
   obtain ⟨d, hd, _, _, _, hsh, kind⟩ := hW3.dt (K := K)
   refine ⟨_, rfl, v, d, rfl, hd, hsh, fun H4 s4 => ⟨_, rfl, ?_⟩⟩
   have lk4 := lk3.same s4
   have b4 := (b2.trans b3).trans (But.of s4)
   have lk4' : LkS nl (ns ++ zs.take (i + 1)) H4 := by rw [htk, <- List.append_assoc]; exact lk4
   rcases kind with ⟨j, rfl, rfl⟩ | ⟨b, y, rfl, hz', rfl, hf⟩
   ·refine iteF ?_
    have h4 := s4 _ _ h3
    refine ⟨_, rfl, .inl ⟨rfl, _, SqL.of h4⟩, _, rfl, nm, _, _, rfl, rfl, h4, a0U (by rw [List.length_map, List.length_take]; omega), ?_⟩
    have e5 : (zs.take (i + 1)).map (a0x vw) = (zs.take i).map (a0x vw) ++ [.int j] := by rw [htk, List.map_append, List.map_cons, ev]; rfl
    refine ⟨_, _, _, _, rfl, fun b o nb e => ?_, ?_, by rw [e5]; exact a0d, fun y hy => ?_⟩
    ·rw [a0m (a0k e hnm)]
     exact b4 b o nb e
    ·exact lk4'.keep (Keep.lst h4) fun xs e => by rw [a0m nnm]; exact e
    ·rw [htk] at hy
     rcases List.mem_append.mp hy with hy | hy
     ·exact hr2 y hy
     ·rw [List.mem_singleton.mp hy, ev]; rfl
   ·rw [hf]
    refine iteT ⟨_, rfl, sl, fun p hp => ?_⟩
    have s5 := Same.new (o := .tup [.str ("value" : Str), .ref b]) hp
    have et := c7e hz hr2 (by rw [ev]; rfl)
    rw [et, ev] at q
    exact q _ _ (b4.trans (But.of s5)) (lk4'.same s5) ⟨p, rfl, a0d⟩
  ·rintro σ H2 ⟨o3, o4, o5, o6, rfl, b2, lk2, h2, hr2⟩
   rw [hN.length, List.take_of_length_le (Nat.le_refl _)] at lk2 h2 hr2
   refine ⟨_, rfl, sl, fun p hp => ?_⟩
   have s5 := Same.new (o := .tup [.str ("call" : Str), .ref nm]) hp
   rw [c5t hr2] at q
   exact q _ _ (b2.trans (But.of s5)) (lk2.same s5) ⟨p, nm, rfl, a0d, s5 _ _ h2, hnm⟩
theorem a8s {cp : List (Nat × Str)} {σ : St} {H : Hp} {r D : Addr} {t : Str} {p : Int} {zs : List Str} {te : TE} {Q : VK} (hD : H D = none) (h4 : H r = some (.lst (zs.map V.str))) (h6 : zs.length <= 100)
 (hte : ∀ (z : Str) (H2 : Hp) (q : VK), Same H H2 -> (∀ tp, H2 tp = none -> q (.ref tp) (upd H2 tp (.tup [.str t, .str z, .int p]))) -> te (some (.str z) :: capσ cp σ) H2 q)
 (hq : ∀ ys H2, H2 D = some (.lst ys) -> Same H H2 -> Nts H2 ys (zs.map fun z => (t, z, p)) -> Q (.ref D) H2) : b69 cp tYes te σ (Itl K r) D Q H := by
 refine c3u (K := K) (a := r) (xs := zs.map V.str) (fun i ys H2 => Same H H2 /\ Nts H2 ys ((zs.take i).map fun z => (t, z, p))) ⟨Same.new hD, .nil⟩ (fun i ys H2 _ ⟨s2, _⟩ => SqL.of (s2 _ _ h4)) ?_ ?_
 ·rintro i x ys H2 hx h2D ⟨s2, hd⟩
  rw [List.getElem?_map] at hx
  cases e : zs[i]? with
  | none => rw [e] at hx; cases hx
  | some z =>
   rw [e] at hx
   cases hx
   have hi : i < zs.length := (List.getElem?_eq_some_iff.mp e).1
   have hyl : ys.length <= 100 := by
    have := hd.length
    rw [List.length_map, List.length_take] at this
    omega
   refine hte z H2 _ s2 fun tp htp => ?_
   have s3 : Same H2 (upd H2 tp (.tup [.str t, .str z, .int p])) := Same.new htp
   have h3D := s3 _ _ h2D
   refine ⟨h3D, a0U (by omega), (s2.trans s3).on hD, ?_⟩
   have et : (zs.take (i + 1)).map (fun z => (t, z, p)) = (zs.take i).map (fun z => (t, z, p)) ++ [(t, z, p)] := by
    rw [List.take_add_one, e, List.map_append]
    rfl
   rw [et]
   exact ((hd.keep (Keep.of s3)).keep (Keep.lst h3D)).snoc ⟨tp, rfl, Keep.lst h3D _ _ (fun xs q => by cases q) a0d⟩
 ·rintro ys H2 h2D ⟨s2, hd⟩
  rw [List.length_map, List.take_length] at hd
  exact hq ys H2 h2D s2 hd
def b4k (P : Program) (w : World) (K : PySem.W.Frag) (mg : Str -> Option Value) (base : Heap) {Rl : Type} (at' : Hp -> Addr -> Rl -> Prop) (gat : Vw -> Mn -> Rl -> Str -> Str -> Nat -> List a0O × Res)
 (ok : Hp -> Vw -> Mn -> Rl -> Str -> Str -> Nat -> Prop) : Sp := fun vs H Q _ => ∃ (self look many nl : Addr) (t c : Str) (p : Nat) (vw : Vw) (mn : Mn) (rl : Rl),
 vs = [.ref self, .ref look, .ref many, .str t, .str c, .int (p : Int)] /\ at' H self rl /\ (∀ H', But nl H H' -> at' H' self rl) /\ ok H vw mn rl t c p /\ a3n P w K mg base 2 look (spLk H nl vw) /\ a3n P w K mg base 2 many (spMn H nl mn) /\ LkS nl [] H /\
 ∀ H' fv, But nl H H' -> LkS nl (gat vw mn rl t c p).1 H' -> b4H H H' fv (gat vw mn rl t c p).2 -> Q fv H'
def a8O (mn : Mn) (t : Str) : Nat := (mn t).getD 0
theorem a8P {mn : Mn} {t : Str} {m : Nat} (h : mn t = some m) : a8O mn t = m := by unfold a8O; rw [h]; rfl
end
end My
namespace My
open PySem L2
section
variable {P : Program} {w : World} {K : PySem.W.Frag} {mg : Str -> Option Value} {base : Heap}
def AbF (C : Addr) (H : Hp) (p : Addr) (i : Int) (zs : List Str) (v : V) : Prop := ∃ dx fs r, H p = some (.ins C dx fs) /\ fs.lookup ("names" : Str) = some (.ref r) /\ fs.lookup ("first" : Str) = some (.int i) /\ Flds fs v /\ H r = some (.lst (zs.map V.str)) /\ ∀ z ∈ zs, Nl z
def c12 (K : PySem.W.Frag) (C : Addr) : Sp := fun vs H Q _ => ∃ (p dx a : Addr) (i : Int) (v : V) (zs : List Str), vs = [.ref p, .int i, .ref a, v] /\ numD (.int i) = true /\ H p = some (.ins C dx []) /\ SqL K H a (zs.map V.str) /\ zs.length <= 6 /\ (∀ z ∈ zs, Nl z) /\ ∀ H', But p H H' -> AbF C H' p i zs v -> Q .non H'
theorem b4x : a0o ["self", "first", "names", "function"] ["self", "first", "names", "function"] (a0b a21) := ⟨rfl, rfl, rfl, by decide +kernel, rfl, by decide +kernel, by decide +kernel⟩
theorem a28 (T : Tops K mg) {R C : Addr} (Z : a9R K mg R) (Y : b7k K mg C) : a6h P w K mg base CX0 4 C ["self", "first", "names", "function"] (c12 K C) := by
 have G_init : a1B P w K mg base CX0 1 R "__init__" ["self", "function"] (a9x K) := a1p T Z
 have G_checked_names : a0q P w K mg base CX0 3 "checked_names" ["names"] (b07 K) := a02 T
 have G_is_number : a0q P w K mg base CX0 2 "is_number" ["thing"] (b04 K) := a2b T
 refine (Y.m_init.known b4x (fun _ _ _ _ _ _ us hl => match us, hl with | [_, _, _, _], _ => rfl) (fun vs H Q E h => ?_) (fun f cdv A outer s H vs Q E hr h => ?_)).init Y.mks Y.kc
 ·obtain ⟨p, dx, a, i, v, zs, rfl, _⟩ := h
  rfl
 ·obtain ⟨p, dx, a, i, v, zs, rfl, hi, hp, hq, h6, hz, q⟩ := h
  refine ⟨_, (a0e (a0F (b2w (a7a Z.c) Z.v_init G_init (hr.mono (by decide)) a0t (a0a (pv 0) (a0a (pv 3) a0c))))
   (a0e (a6U (pv 0) (a0h G_checked_names (hr.mono (by decide)) a0t (a0a (pv 2) a0c)) rfl)
   (a0e (a0J (a9c (a05 (a0h G_is_number (hr.mono (by decide)) a0t (a0a (pv 1) a0c)) (fun _ => rfl))) (a0g b42) a0p)
   (a0g (a6U (pv 0) (pv 1) rfl))))), ?_⟩
  have b1 : But p H (upd H p (.ins C dx (putF "function" v []))) := But.upd
  refine ⟨_, rfl, _, rfl, p, C, dx, [], v, rfl, hp, Y.cl, Y.n_function, by decide, ?_⟩
  refine ⟨_, rfl, a, zs, rfl, b9X b1 ⟨_, _, _, hp⟩ hq, h6, hz, fun H2 l s2 hl h2 => ?_⟩
  have nlp : l ≠ p := fun z => by rw [z, a0d] at hl; cases hl
  refine ⟨_, rfl, p, C, dx, _, rfl, s2 _ _ a0d, Y.cl, Y.n_names, (by show 1 < 1000; decide), ?_⟩
  refine ⟨_, rfl, _, _, rfl, .int i, _, rfl, ?_⟩
  rw [hi]
  refine iteF ?_
  refine ⟨_, rfl, _, rfl, p, C, dx, _, rfl, a0d, Y.cl, Y.n_first, (by show 2 < 1000; decide), ?_⟩
  refine q _ (((b1.trans (But.of s2)).trans But.upd).trans But.upd) ⟨dx, _, l, a0d, ?_, ?_, ⟨?_, ?_, ?_, ?_⟩, by rw [a0m nlp, a0m nlp]; exact h2, hz⟩
  ·rw [a0f, if_neg (by decide), a0f, if_pos rfl]
  ·rw [a0f, if_pos rfl]
  ·rw [a0f, if_neg (by decide), a0f, if_neg (by decide), a0f, if_neg (by decide)]
   rfl
  ·rw [a0f, if_neg (by decide), a0f, if_neg (by decide), a0f, if_neg (by decide)]
   rfl
  ·rw [a0f, if_neg (by decide), a0f, if_neg (by decide), a0f, if_neg (by decide)]
   rfl
  ·rw [a0f, if_neg (by decide), a0f, if_neg (by decide), a0f, if_pos rfl]
end
end My
namespace My
open PySem L2
def a1s (t : Str) (p : Nat) (zs : List Str) : List a0O := zs.map fun z => (t, z, (p : Int))
theorem c1W {vw : Vw} {H : Hp} : ∀ {zs : List a0O} {is0 : List Int}, b0G vw H zs ->
 ((∃ v, (a7C (a0x vw) zs (is0.map V.int)).2 = .val v /\ WV H v) ∨ ∃ is : List Int, (a7C (a0x vw) zs (is0.map V.int)).2 = .call (is.map V.int) /\ is.length = is0.length + zs.length)
 | [], is0, _ => .inr ⟨is0, rfl, by simp⟩
 | z :: r, is0, h => by
  obtain ⟨v, hv, hw⟩ := h z List.mem_cons_self
  have e := a0W hv
  have hr := h
  show (∃ v, (if a2l (a0x vw z) then _ else _ : List a0O × Res).2 = .val v /\ WV H v) ∨ ∃ is : List Int, (if a2l (a0x vw z) then _ else _ : List a0O × Res).2 = .call (is.map V.int) /\ _
  rw [e]
  rcases hw with ⟨i, rfl⟩ | ⟨a, y, rfl, g1, g2⟩
  ·rw [show a2l (.int i) = false from rfl, if_neg Bool.false_ne_true]
   have ih := c1W (vw := vw) (H := H) (zs := r) (is0 := is0 ++ [i]) (fun y hy => h y (List.mem_cons_of_mem _ hy))
   rw [List.map_append] at ih
   rcases ih with ih | ⟨is, e1, e2⟩
   ·exact .inl ih
   ·refine .inr ⟨is, e1, ?_⟩
    rw [e2, List.length_append, List.length_cons]
    simp
    omega
  ·rw [show a2l (.ref a) = true from rfl, if_pos rfl]
   exact .inl ⟨_, rfl, .inr ⟨a, y, rfl, g1, g2⟩⟩
theorem c2z {vw : Vw} {H : Hp} {zs : List a0O} (h : b0G vw H zs) : (∃ v, (a1j vw zs).2 = .val v /\ WV H v) ∨ ∃ is : List Int, (a1j vw zs).2 = .call (is.map V.int) /\ is.length = zs.length := by
 rcases c1W (is0 := []) h with g | ⟨is, e1, e2⟩
 ·exact .inl g
 ·exact .inr ⟨is, e1, by simpa using e2⟩
theorem b4H.pre {H H1 H' : Hp} {fv : V} {r : Res} (s : Same H H1) (h : b4H H1 H' fv r) : b4H H H' fv r := by
 cases r with
 | val v => exact h
 | call xs =>
  obtain ⟨a, l, e1, e2, e3, e4⟩ := h
  exact ⟨a, l, e1, e2, e3, c9o s e4⟩
section
variable {P : Program} {w : World} {K : PySem.W.Frag} {mg : Str -> Option Value} {base : Heap}
def c2i (i : Int) (r : List a0O × Res) : List a0O × Res := (r.1, match r.2 with | .call xs => .call (.int i :: xs) | .val v => .val v)
def a3D (vw : Vw) (_ : Mn) (r : Int × List Str) (t c : Str) (p : Nat) : List a0O × Res :=
 if 0 < p then a1j vw ((t, c, (p : Int) - 1) :: a1s t p r.2) else c2i r.1 (a1j vw (a1s t p r.2))
def c3I (H : Hp) (vw : Vw) (_ : Mn) (r : Int × List Str) (t c : Str) (p : Nat) : Prop := r.2.length <= 6 /\ b0G vw H (a1s t p r.2) /\ (0 < p -> b0G vw H [(t, c, (p : Int) - 1)])
abbrev Nag : List Str := ["self", "look", "many", "table", "column", "place", "cells", "told"]
theorem a31 : a0o Nag ["self", "look", "many", "table", "column", "place"] (a0b a0Z) := ⟨rfl, rfl, rfl, by decide +kernel, rfl, by decide +kernel, by decide +kernel⟩
theorem a12 (T : Tops K mg) {C : Addr} (Y : b7k K mg C) : a1B P w K mg base CX0 4 C "gather" ["self", "look", "many", "table", "column", "place"] (b4k P w K mg base (fun H p (r : Int × List Str) => ∃ v, AbF C H p r.1 r.2 v) a3D c3I) := by
 have G_look_in_turn : a0q P w K mg base CX0 3 "look_in_turn" ["look", "cells"] (c1A P w K mg base) := a1i T
 refine Y.m_gather.known a31 (fun _ _ _ _ _ _ us hl => match us, hl with | [_, _, _, _, _, _], _ => rfl) (fun vs H Q E h => ?_) (fun f cdv A outer s H vs Q E hr h => ?_)
 ·obtain ⟨self, look, many, nl, t, c, p, vw, mn, rl, rfl, _⟩ := h
  rfl
 ·obtain ⟨self, look, many, nl, t, c, p, vw, mn, ⟨i0, zs⟩, rfl, ⟨_, dx, fs, r, hp, hn, hf, _, hr', hN⟩, _, ⟨hz6, hT, hT1⟩, F1, F2, S, q⟩ := h
  have hcl : ∀ x, (cxOf CX0 P w K mg base Nag "Above.gather" (a0b a0Z) f cdv A outer s H E).nox.env.scope.names.lookup x = some .cell -> ∃ c, (cxOf CX0 P w K mg base Nag "Above.gather" (a0b a0Z) f cdv A outer s H E).nox.env.cells.lookup x = some c := fun x hx => Option.isSome_iff_exists.mp (PySem.W.cellsFrom_some _ _ _ (.inl hx))
  refine ⟨_, (a0e (b4s (i := 6) a31.nd rfl rfl (a4O (sc := a0b a0Z) (N := Nag) (cp := [(3, "table"), (5, "place")]) hcl) rfl rfl (by decide) (a2F (a5u (pv 0) rfl)) (fun _ _ _ _ _ => a9z) (fun _ _ _ _ _ => (a16 (a0a (pv 1) (a0a (pv 0) (a0a (pv 2) a0c))))) rfl)
   (a0e (a0J (a0v c2q (pv 5) a0i (a0A _)) (a0g (a0l (a0h G_look_in_turn (hr.mono (by decide)) a0t (a0a (pv 1) (a0a (a0E c4T (a1G (a0a (a16 (a0a (pv 3) (a0a (pv 4) (a0a (a0E a80 (pv 5) a0i) a0c)))) a0c)) (pv 6)) a0c))))) a0p)
   (a0e (a0B (i := 7) a31.nd rfl (Or.inl rfl) (a0h G_look_in_turn (hr.mono (by decide)) a0t (a0a (pv 1) (a0a (pv 6) a0c))))
   (a0e (a0J (a0v a1Y (a0z a1z (pv 7) a0i (fun _ _ => rfl)) a0u (a0A _)) (a0g (a0l (pv 7))) a0p)
   (a0g (a0l (a16 (a0a a0u (a0a (a0E c4T (a1G (a0a (a5u (pv 0) rfl) a0c)) (a0z a1z (pv 7) a0i (fun _ _ => rfl))) a0c))))))))), ?_⟩
  refine ⟨_, rfl, self, C, dx, fs, _, rfl, hp, Y.cl, Y.n_names, hn, r, rfl, ⟨_, SqL.of hr'⟩, fun D hD => ?_⟩
  refine a8s (t := t) (p := (p : Int)) (zs := zs) hD hr' (by have : zs.length <= 6 := hz6; omega) (fun z H2 q2 s2 k2 => ⟨_, rfl, _, rfl, _, rfl, sl, fun tp htp => k2 tp htp⟩) (fun ys H2 h2 s2 hy => ?_)
  have hz6' : zs.length <= 6 := hz6
  have hT : b0G vw H (a1s t p zs) := hT
  have hyR : Nts H2 ys (a1s t p zs) := hy
  have hrl : (a1s t p zs).length <= 6 := by unfold a1s; rw [List.length_map]; exact hz6'
  obtain ⟨as0, hn0⟩ := S.list
  refine ⟨_, rfl, _, _, rfl, rfl, _, rfl, ?_⟩
  refine ite2 (fun g => ?_) (fun g => ?_)
  ·have hp0 : 0 < p := by have : (0 : Int) < (p : Int) := by simpa using g
                          omega
   have eg : a3D vw mn (i0, zs) t c p = a1j vw ((t, c, (p : Int) - 1) :: a1s t p zs) := by unfold a3D; rw [if_pos hp0]
   rw [eg] at q
   refine ⟨_, rfl, _, rfl, _, rfl, _, rfl, _, _, rfl, rfl, sl, fun tp htp => ⟨sl, fun l hl => ?_⟩⟩
   have s3 := Same.new (o := .tup [.str t, .str c, .int ((p : Int) - 1)]) htp
   have s4 := Same.new (o := .lst [.ref tp]) hl
   have s34 := s3.trans s4
   have hl2 := a0d (H := upd H2 tp (.tup [.str t, .str c, .int ((p : Int) - 1)])) (a := l) (o := .lst [.ref tp])
   have htp2 := s4 _ _ (a0d (H := H2) (a := tp) (o := .tup [.str t, .str c, .int ((p : Int) - 1)]))
   generalize upd (upd H2 tp (.tup [.str t, .str c, .int ((p : Int) - 1)])) l (.lst [.ref tp]) = H4 at s34 hl2 htp2 ⊢
   have hyl : ys.length <= 6 := by rw [hyR.length]; exact hrl
   refine ⟨_, rfl, l, D, _, _, rfl, rfl, hl2, s34 _ _ h2, sl (by simp; omega), fun l2 hl2' => ?_⟩
   have s5 := Same.new (o := .lst ([.ref tp] ++ ys)) hl2'
   have s2345 := s2.trans (s34.trans s5)
   have nlD : l2 ≠ nl := Ne.symm (a0k ((s2.trans s34) _ _ hn0) hl2')
   have hNc : Nts (upd H4 l2 (.lst ([.ref tp] ++ ys))) ([.ref tp] ++ ys) ((t, c, (p : Int) - 1) :: a1s t p zs) := Paired.cons (a := V.ref tp) (b := ((t, c, (p : Int) - 1) : a0O)) ⟨tp, rfl, s5 _ _ htp2⟩ (hyR.keep (Keep.of (s34.trans s5)))
   refine ⟨look, l2, nl, H, vw, [.ref tp] ++ ys, (t, c, (p : Int) - 1) :: a1s t p zs, [], rfl, F1, But.of s2345, S.same s2345, a0d, nlD, hNc, ?_, by simp; omega, fun H3 fv b3 lk3 fo3 => ?_⟩
   ·intro y hy'
    rcases List.mem_cons.mp hy' with rfl | hy'
    ·exact ((hT1 hp0).keep (Keep.of s2345)) _ (by simp)
    ·exact (hT.keep (Keep.of s2345)) y hy'
   ·exact q H3 fv ((But.of s2345).trans b3) (by rw [List.nil_append] at lk3; exact lk3) (b4H.pre s2345 fo3)
  ·have hp0 : ¬ 0 < p := fun z => g (by simpa using (show (0 : Int) < (p : Int) by omega))
   have eg : a3D vw mn (i0, zs) t c p = c2i i0 (a1j vw (a1s t p zs)) := by unfold a3D; rw [if_neg hp0]
   rw [eg] at q
   refine ⟨_, rfl, _, rfl, look, D, nl, H, vw, ys, a1s t p zs, [], rfl, F1, But.of s2, S.same s2, h2, Ne.symm (a0k hn0 hD), hyR, hT.keep (Keep.of s2), by simp; omega, fun H3 fv b3 lk3 fo3 => ?_⟩
   rw [List.nil_append] at lk3
   have bb := (But.of s2).trans b3
   have noH : ∀ l, H3 l = none -> H l = none := fun l e => by
    cases e2 : H l with
    | none => rfl
    | some o =>
     exfalso
     by_cases y : l = nl
     ·obtain ⟨as2, e3⟩ := lk3.list
      rw [y, e3] at e; cases e
     ·rw [bb l o y e2] at e; cases e
   cases e : (a1j vw (a1s t p zs)).2 with
   | val v =>
    rw [e] at fo3
    have e2 : (c2i i0 (a1j vw (a1s t p zs))).2 = .val v := by unfold c2i; rw [e]
    obtain ⟨a, rfl, ha⟩ := fo3
    have a0 : atI [V.str ("value" : Str), v] 0 = some (.str ("value" : Str)) := rfl
    refine ⟨_, rfl, _, _, _, _, rfl, rfl, SqT.of ha, a0, rfl, _, rfl, ?_⟩
    refine ite2 (fun _ => ?_) (fun g2 => absurd (by simp) g2)
    exact ⟨_, rfl, q H3 _ bb lk3 (by rw [e2]; exact ⟨a, rfl, ha⟩)⟩
   | call xs =>
    rw [e] at fo3
    have e2 : (c2i i0 (a1j vw (a1s t p zs))).2 = .call (.int i0 :: xs) := by unfold c2i; rw [e]
    obtain ⟨a, l, rfl, ha, hl, _⟩ := fo3
    have a0 : atI [V.str ("call" : Str), V.ref l] 0 = some (.str ("call" : Str)) := rfl
    have a1 : atI [V.str ("call" : Str), V.ref l] 1 = some (.ref l) := rfl
    have hp3 : H3 self = some (.ins C dx fs) := bb _ _ (c2Y hp hn0 (fun z => by cases z)) hp
    have hff : fs.lookup ("first" : Str) = some (.int i0) := hf
    have hxs : xs.length <= 6 := by
     rcases c2z hT with ⟨v, e5, _⟩ | ⟨is, e5, e6⟩
     ·rw [e5] at e; cases e
     ·rw [e5] at e; cases e; rw [List.length_map]; omega
    refine ⟨_, rfl, _, _, _, _, rfl, rfl, SqT.of ha, a0, rfl, _, rfl, ?_⟩
    refine ite2 (fun g2 => absurd g2 (by decide)) (fun _ => ?_)
    refine ⟨_, rfl, self, C, dx, fs, _, rfl, hp3, Y.cl, Y.n_first, hff, sl, fun l1 hl1 => ?_⟩
    have s6 := Same.new (o := .lst [.int i0]) hl1
    refine ⟨_, rfl, _, _, _, _, rfl, rfl, SqT.of (s6 _ _ ha), a1, l1, l, _, _, rfl, rfl, a0d, s6 _ _ hl, sl (by simp; omega), fun l2 hl2 => ?_⟩
    have s7 := Same.new (o := .lst ([.int i0] ++ xs)) hl2
    have s67 := s6.trans s7
    refine ⟨sl, fun p2 hp2' => ?_⟩
    have s8 := Same.new (o := .tup [.str ("call" : Str), .ref l2]) hp2'
    have s678 := s67.trans s8
    refine q _ _ (bb.trans (But.of s678)) (lk3.same s678) ?_
    rw [e2]
    exact ⟨p2, l2, rfl, a0d, s8 _ _ a0d, noH l2 (c9o s6 hl2)⟩
end
end My
namespace My
open PySem L2
section
variable {P : Program} {w : World} {K : PySem.W.Frag} {mg : Str -> Option Value} {base : Heap}
def CeF (C : Addr) (H : Hp) (p : Addr) (zs : List Str) (v : V) : Prop := ∃ dx fs r, H p = some (.ins C dx fs) /\ fs.lookup ("names" : Str) = some (.ref r) /\ Flds fs v /\ H r = some (.lst (zs.map V.str)) /\ ∀ z ∈ zs, Nl z
def c1P (K : PySem.W.Frag) (C : Addr) : Sp := fun vs H Q _ => ∃ (p dx a : Addr) (v : V) (zs : List Str), vs = [.ref p, .ref a, v] /\ H p = some (.ins C dx []) /\ SqL K H a (zs.map V.str) /\ zs.length <= 6 /\ (∀ z ∈ zs, Nl z) /\ ∀ H', But p H H' -> CeF C H' p zs v -> Q .non H'
theorem b5u : a0o ["self", "names", "function"] ["self", "names", "function"] (a0b a25) := ⟨rfl, rfl, rfl, by decide +kernel, rfl, by decide +kernel, by decide +kernel⟩
theorem a2Z (T : Tops K mg) {R C : Addr} (Z : a9R K mg R) (Y : b64 K mg C) : a6h P w K mg base CX0 4 C ["self", "names", "function"] (c1P K C) := by
 have G_init : a1B P w K mg base CX0 1 R "__init__" ["self", "function"] (a9x K) := a1p T Z
 have G_checked_names : a0q P w K mg base CX0 3 "checked_names" ["names"] (b07 K) := a02 T
 refine (Y.m_init.known b5u (fun _ _ _ _ _ _ us hl => match us, hl with | [_, _, _], _ => rfl) (fun vs H Q E h => ?_) (fun f cdv A outer s H vs Q E hr h => ?_)).init Y.mks Y.kc
 ·obtain ⟨p, dx, a, v, zs, rfl, _⟩ := h
  rfl
 ·obtain ⟨p, dx, a, v, zs, rfl, hp, hq, h6, hz, q⟩ := h
  refine ⟨_, (a0e (a0F (b2w (a7a Z.c) Z.v_init G_init (hr.mono (by decide)) a0t (a0a (pv 0) (a0a (pv 2) a0c))))
   (a0g (a6U (pv 0) (a0h G_checked_names (hr.mono (by decide)) a0t (a0a (pv 1) a0c)) rfl))), ?_⟩
  have b1 : But p H (upd H p (.ins C dx (putF "function" v []))) := But.upd
  refine ⟨_, rfl, _, rfl, p, C, dx, [], v, rfl, hp, Y.cl, Y.n_function, by decide, ?_⟩
  refine ⟨_, rfl, a, zs, rfl, b9X b1 ⟨_, _, _, hp⟩ hq, h6, hz, fun H2 l s2 hl h2 => ?_⟩
  have nlp : l ≠ p := fun z => by rw [z, a0d] at hl; cases hl
  refine ⟨_, rfl, p, C, dx, _, rfl, s2 _ _ a0d, Y.cl, Y.n_names, (by show 1 < 1000; decide), ?_⟩
  refine q _ ((b1.trans (But.of s2)).trans But.upd) ⟨dx, _, l, a0d, ?_, ⟨?_, ?_, ?_, ?_⟩, by rw [a0m nlp]; exact h2, hz⟩
  ·rw [a0f, if_pos rfl]
  ·rw [a0f, if_neg (by decide), a0f, if_neg (by decide)]
   rfl
  ·rw [a0f, if_neg (by decide), a0f, if_neg (by decide)]
   rfl
  ·rw [a0f, if_neg (by decide), a0f, if_neg (by decide)]
   rfl
  ·rw [a0f, if_neg (by decide), a0f, if_pos rfl]
end
end My
namespace My
open PySem L2
def lkGo (vw : Vw) (own pl : V) (o th : Str) (zs : List Str) : List Nat -> List a0O × Res
 | [] => ([], .val pl)
 | r :: rs => if a0x vw (o, th, (r : Int)) = own then ((o, th, (r : Int)) :: (a1j vw (a1s o r zs)).1, (a1j vw (a1s o r zs)).2)
  else ((o, th, (r : Int)) :: (lkGo vw own pl o th zs rs).1, (lkGo vw own pl o th zs rs).2)
def a7y (o th : Str) (rs : List Nat) : List a0O := rs.map fun (r : Nat) => (o, th, (r : Int))
section
variable {vw : Vw} {own pl : V} {o th : Str} {zs : List Str}
theorem b2x {r : Nat} {rs : List Nat} : lkGo vw own pl o th zs (r :: rs) = if a0x vw (o, th, (r : Int)) = own then ((o, th, (r : Int)) :: (a1j vw (a1s o r zs)).1, (a1j vw (a1s o r zs)).2)
 else ((o, th, (r : Int)) :: (lkGo vw own pl o th zs rs).1, (lkGo vw own pl o th zs rs).2) := rfl
theorem c5l : ∀ {xs ys : List Nat}, (∀ r ∈ xs, ¬ a0x vw (o, th, (r : Int)) = own) -> lkGo vw own pl o th zs (xs ++ ys) = (a7y o th xs ++ (lkGo vw own pl o th zs ys).1, (lkGo vw own pl o th zs ys).2)
 | [], ys, _ => by simp [a7y]
 | x :: xs, ys, h => by
  rw [List.cons_append, b2x, if_neg (h x List.mem_cons_self), c5l fun r hr => h r (List.mem_cons_of_mem _ hr)]
  simp [a7y]
theorem c8A {rs : List Nat} (h : ∀ r ∈ rs, ¬ a0x vw (o, th, (r : Int)) = own) : lkGo vw own pl o th zs rs = (a7y o th rs, .val pl) := by
 have := c5l (pl := pl) (zs := zs) (xs := rs) (ys := []) h
 rw [List.append_nil] at this
 rw [this]
 simp [lkGo]
theorem c9S {m i : Nat} (hi : i < m) (h : ∀ r ∈ List.range i, ¬ a0x vw (o, th, (r : Int)) = own) (e : a0x vw (o, th, (i : Int)) = own) :
 lkGo vw own pl o th zs (List.range m) = (a7y o th (List.range (i + 1)) ++ (a1j vw (a1s o i zs)).1, (a1j vw (a1s o i zs)).2) := by
 have e1 : List.range m = List.range i ++ (i :: (List.range m).drop (i + 1)) := by
  have h1 : (List.range m).drop i = (List.range m)[i]'(by simpa using hi) :: (List.range m).drop (i + 1) := List.drop_eq_getElem_cons (by simpa using hi)
  have h2 : (List.range m).take i = List.range i := by rw [List.take_range]; congr 1; omega
  rw [List.getElem_range] at h1
  conv => lhs; rw [<- List.take_append_drop i (List.range m), h1, h2]
 have := c5l (pl := pl) (zs := zs) (xs := List.range i) (ys := i :: (List.range m).drop (i + 1)) h
 rw [<- e1] at this
 rw [this, b2x, if_pos e]
 unfold a7y
 rw [List.range_succ, List.map_append]
 simp
end
section
variable {P : Program} {w : World} {K : PySem.W.Frag} {mg : Str -> Option Value} {base : Heap}
abbrev LkR := Str × Str × Str × List Str
def LkF (C : Addr) (H : Hp) (p : Addr) (k o th : Str) (zs : List Str) (v : V) : Prop := ∃ dx fs r, H p = some (.ins C dx fs) /\ fs.lookup ("key" : Str) = some (.str k) /\ fs.lookup ("other" : Str) = some (.str o) /\ fs.lookup ("theirs" : Str) = some (.str th) /\
 fs.lookup ("names" : Str) = some (.ref r) /\ Flds fs v /\ H r = some (.lst (zs.map V.str)) /\ Nl k /\ Nl o /\ Nl th /\ ∀ z ∈ zs, Nl z
def c8J (C : Addr) (H : Hp) (p : Addr) (r : LkR) : Prop := ∃ v, LkF C H p r.1 r.2.1 r.2.2.1 r.2.2.2 v
theorem LkF.keepC {C : Addr} {H H' : Hp} {p : Addr} {k o th : Str} {zs : List Str} {v : V} (s : a2C H H') (h : LkF C H p k o th zs v) : LkF C H' p k o th zs v := by
 obtain ⟨dx, fs, rr, h1, h2, h3, h4, h5, h6, h7, h8⟩ := h
 exact ⟨dx, fs, rr, s _ _ (fun φ z => by cases z) h1, h2, h3, h4, h5, h6, s _ _ (fun φ z => by cases z) h7, h8⟩
def b8c (K : PySem.W.Frag) (C : Addr) : Sp := fun vs H Q _ => ∃ (p dx a : Addr) (k o th : Str) (v : V) (zs : List Str), vs = [.ref p, .str k, .str o, .str th, .ref a, v] /\ H p = some (.ins C dx []) /\ Nl k /\ Nl o /\ Nl th /\ SqL K H a (zs.map V.str) /\ zs.length <= 6 /\ (∀ z ∈ zs, Nl z) /\
 ∀ H', But p H H' -> LkF C H' p k o th zs v -> Q .non H'
theorem b26 : a0o ["self", "key", "table", "theirs", "names", "function"] ["self", "key", "table", "theirs", "names", "function"] (a0b a2u) := ⟨rfl, rfl, rfl, by decide +kernel, rfl, by decide +kernel, by decide +kernel⟩
theorem a2x (T : Tops K mg) {R C : Addr} (Z : a9R K mg R) (Y : b2P K mg C) : a6h P w K mg base CX0 4 C ["self", "key", "table", "theirs", "names", "function"] (b8c K C) := by
 have G_init : a1B P w K mg base CX0 1 R "__init__" ["self", "function"] (a9x K) := a1p T Z
 have G_check_name : a0q P w K mg base CX0 2 "check_name" ["name"] b2t := a1n T
 have G_checked_names : a0q P w K mg base CX0 3 "checked_names" ["names"] (b07 K) := a02 T
 refine (Y.m_init.known b26 (fun _ _ _ _ _ _ us hl => match us, hl with | [_, _, _, _, _, _], _ => rfl) (fun vs H Q E h => ?_) (fun f cdv A outer s H vs Q E hr h => ?_)).init Y.mks Y.kc
 ·obtain ⟨p, dx, a, k, o, th, v, zs, rfl, _⟩ := h
  rfl
 ·obtain ⟨p, dx, a, k, o, th, v, zs, rfl, hp, hk, ho, ht, hq, h6, hz, q⟩ := h
  refine ⟨_, (a0e (a0F (b2w (a7a Z.c) Z.v_init G_init (hr.mono (by decide)) a0t (a0a (pv 0) (a0a (pv 5) a0c))))
   (a0e (a0F (a0h G_check_name (hr.mono (by decide)) a0t (a0a (pv 1) a0c)))
   (a0e (a0F (a0h G_check_name (hr.mono (by decide)) a0t (a0a (pv 2) a0c)))
   (a0e (a0F (a0h G_check_name (hr.mono (by decide)) a0t (a0a (pv 3) a0c)))
   (a0e (a6U (pv 0) (pv 1) rfl)
   (a0e (a6U (pv 0) (pv 2) rfl)
   (a0e (a6U (pv 0) (pv 3) rfl)
   (a0g (a6U (pv 0) (a0h G_checked_names (hr.mono (by decide)) a0t (a0a (pv 4) a0c)) rfl))))))))), ?_⟩
  have b1 : But p H (upd H p (.ins C dx (putF "function" v []))) := But.upd
  refine ⟨_, rfl, _, rfl, p, C, dx, [], v, rfl, hp, Y.cl, Y.n_function, by decide, ?_⟩
  refine ⟨_, rfl, k, rfl, hk, fun H2 s2 => ⟨_, rfl, o, rfl, ho, fun H3 s3 => ⟨_, rfl, th, rfl, ht, fun H4 s4 => ?_⟩⟩⟩
  have s24 := (s2.trans s3).trans s4
  refine ⟨_, rfl, _, rfl, p, C, dx, _, rfl, s24 _ _ a0d, Y.cl, Y.n_key, (by show 1 < 1000; decide), ?_⟩
  refine ⟨_, rfl, _, rfl, p, C, dx, _, rfl, a0d, Y.cl, Y.n_other, (by show 2 < 1000; decide), ?_⟩
  refine ⟨_, rfl, _, rfl, p, C, dx, _, rfl, a0d, Y.cl, Y.n_theirs, (by show 3 < 1000; decide), ?_⟩
  have b2 := (((b1.trans (But.of s24)).trans (But.upd (o := .ins C dx (putF "key" (.str k) (putF "function" v []))))).trans (But.upd (o := .ins C dx (putF "other" (.str o) (putF "key" (.str k) (putF "function" v [])))))).trans (But.upd (o := .ins C dx (putF "theirs" (.str th) (putF "other" (.str o) (putF "key" (.str k) (putF "function" v []))))))
  refine ⟨_, rfl, a, zs, rfl, b9X b2 ⟨_, _, _, hp⟩ hq, h6, hz, fun H5 l s5 hl h5 => ?_⟩
  have nlp : l ≠ p := fun z => by rw [z, a0d] at hl; cases hl
  refine ⟨_, rfl, p, C, dx, _, rfl, s5 _ _ a0d, Y.cl, Y.n_names, (by show 4 < 1000; decide), ?_⟩
  refine q _ ((b2.trans (But.of s5)).trans But.upd) ⟨dx, _, l, a0d, ?_, ?_, ?_, ?_, ⟨?_, ?_, ?_, ?_⟩, by rw [a0m nlp]; exact h5, hk, ho, ht, hz⟩
  ·rw [a0f, if_neg (by decide), a0f, if_neg (by decide), a0f, if_neg (by decide), a0f, if_pos rfl]
  ·rw [a0f, if_neg (by decide), a0f, if_neg (by decide), a0f, if_pos rfl]
  ·rw [a0f, if_neg (by decide), a0f, if_pos rfl]
  ·rw [a0f, if_pos rfl]
  ·rw [a0f, if_neg (by decide), a0f, if_neg (by decide), a0f, if_neg (by decide), a0f, if_neg (by decide), a0f, if_neg (by decide)]
   rfl
  ·rw [a0f, if_neg (by decide), a0f, if_neg (by decide), a0f, if_neg (by decide), a0f, if_neg (by decide), a0f, if_neg (by decide)]
   rfl
  ·rw [a0f, if_neg (by decide), a0f, if_neg (by decide), a0f, if_neg (by decide), a0f, if_neg (by decide), a0f, if_neg (by decide)]
   rfl
  ·rw [a0f, if_neg (by decide), a0f, if_neg (by decide), a0f, if_neg (by decide), a0f, if_neg (by decide), a0f, if_pos rfl]
def a2A (pl : V) (vw : Vw) (mn : Mn) (r : LkR) (t _ : Str) (p : Nat) : List a0O × Res :=
 if a2l (a0x vw (t, r.1, (p : Int))) then ([(t, r.1, (p : Int))], .val (a0x vw (t, r.1, (p : Int))))
 else ((t, r.1, (p : Int)) :: (lkGo vw (a0x vw (t, r.1, (p : Int))) pl r.2.1 r.2.2.1 r.2.2.2 (List.range (a8O mn r.2.1))).1, (lkGo vw (a0x vw (t, r.1, (p : Int))) pl r.2.1 r.2.2.1 r.2.2.2 (List.range (a8O mn r.2.1))).2)
structure OkL (H : Hp) (vw : Vw) (mn : Mn) (k o th : Str) (zs : List Str) (t : Str) (p m : Nat) : Prop where
 own : ∃ v, vw (t, k, (p : Int)) = some v /\ WV H v
 v : mn o = some m
 l : m <= 30
 ft : b0m vw H o th m
 fz : ∀ z ∈ zs, b0m vw H o z m
 z6 : zs.length <= 6
theorem OkL.there {H : Hp} {vw : Vw} {mn : Mn} {k o th : Str} {zs : List Str} {t : Str} {p m i : Nat} (h : OkL H vw mn k o th zs t p m) (hi : i < m) : b0G vw H (a1s o i zs) := fun z hz => by
 obtain ⟨u, hu, rfl⟩ := List.mem_map.mp hz
 exact h.fz u hu i hi
def c15 (H : Hp) (vw : Vw) (mn : Mn) (r : LkR) (t _ : Str) (p : Nat) : Prop := ∃ m, OkL H vw mn r.1 r.2.1 r.2.2.1 r.2.2.2 t p m
abbrev Nlg : List Str := ["self", "look", "many", "table", "column", "place", "own", "row"]
theorem a3d : a0o Nlg ["self", "look", "many", "table", "column", "place"] (a0b a0S) := ⟨rfl, rfl, rfl, by decide +kernel, rfl, by decide +kernel, by decide +kernel⟩
theorem a1J (T : Tops K mg) {C pl : Addr} (Y : b2P K mg C) (hpl : mg "LACKS" = some (.ref pl)) : a1B P w K mg base CX0 4 C "gather" ["self", "look", "many", "table", "column", "place"] (b4k P w K mg base (c8J C) (a2A (.ref pl)) c15) := by
 have G_is_fault : a0q P w K mg base CX0 2 "is_fault" ["thing"] (a76 K) := a1x T
 have G_look_in_turn : a0q P w K mg base CX0 3 "look_in_turn" ["look", "cells"] (c1A P w K mg base) := a1i T
 refine Y.m_gather.known a3d (fun _ _ _ _ _ _ us hl => match us, hl with | [_, _, _, _, _, _], _ => rfl) (fun vs H Q E h => ?_) (fun f cdv A outer s H vs Q E hr h => ?_)
 ·obtain ⟨self, look, many, nl, t, c, p, vw, mn, rl, rfl, _⟩ := h
  rfl
 ·obtain ⟨self, look, many, nl, t, c, p, vw, mn, ⟨k, o, th, zs⟩, rfl, ⟨_, dx, fs, rz, hp, hk, ho, hth, hnm, _, hrz, _⟩, hst, ⟨m, O⟩, F1, F2, S, q⟩ := h
  have hcl : ∀ x, (cxOf CX0 P w K mg base Nlg "Lookup.gather" (a0b a0S) f cdv A outer s H E).nox.env.scope.names.lookup x = some .cell -> ∃ c, (cxOf CX0 P w K mg base Nlg "Lookup.gather" (a0b a0S) f cdv A outer s H E).nox.env.cells.lookup x = some c := fun x hx => Option.isSome_iff_exists.mp (PySem.W.cellsFrom_some _ _ _ (.inl hx))
  refine ⟨_, (a0e (a0B (i := 6) a3d.nd rfl (by first | exact Or.inl rfl | exact Or.inr rfl) (a3z (k := 2) 1 (hr.mono (by decide)) (a0a (pv 3) (a0a (a5u (pv 0) rfl) (a0a (pv 5) a0c)))))
   (a0e (a0J (a05 (a0h G_is_fault (hr.mono (by decide)) a0t (a0a (pv 6) a0c)) (fun _ => rfl)) (a0g (a0l (a16 (a0a a0u (a0a (pv 6) a0c))))) a0p)
   (a0e (a4m PassesOwn.never rfl (a3H rfl T.range (a0a (a3z (k := 2) 2 (hr.mono (by decide)) (a0a (a5u (pv 0) rfl) a0c)) a0c)) (a0Q (i := 7) a3d.nd rfl (by first | exact Or.inl rfl | exact Or.inr rfl)) (a0g (a0J (a0v (c2d hr.units) (a3z (k := 2) 1 (hr.mono (by decide)) (a0a (a5u (pv 0) rfl) (a0a (a5u (pv 0) rfl) (a0a (pv 7) a0c)))) (pv 6) (a0A _)) (a0g (a0l (a0h G_look_in_turn (hr.mono (by decide)) a0t (a0a (pv 1) (a0a (a9O (te := tTup (a8j (tFld K (tVar 2) "other") (a8j (tVar 0) (a8j (tVar 1) tNil)))) (a4O (sc := a0b a0S) (N := Nlg) (cp := [(7, "row"), (0, "self")]) hcl) rfl rfl (by decide) (a2F (a5u (pv 0) rfl)) (fun _ _ _ _ _ => a9z) (fun _ _ _ _ _ => (a16 (a0a (a5u (pv 2) rfl) (a0a (pv 0) (a0a (pv 1) a0c)))))) a0c))))) a0p)))
   (a0g (a0l (a16 (a0a a0u (a0a (a7a hpl) a0c)))))))), ?_⟩
  obtain ⟨as0, hn0⟩ := S.list
  have hk' : fs.lookup ("key" : Str) = some (.str k) := hk
  have ho' : fs.lookup ("other" : Str) = some (.str o) := ho
  have hth' : fs.lookup ("theirs" : Str) = some (.str th) := hth
  have hrz' : H rz = some (.lst (zs.map V.str)) := hrz
  have O' : OkL H vw mn k o th zs t p m := O
  obtain ⟨v, hv, hW⟩ := O'.own
  have ev : a0x vw (t, k, (p : Int)) = v := a0W (z := (t, k, (p : Int))) hv
  refine ⟨look, _, rfl, F1, _, rfl, _, rfl, self, C, dx, fs, _, rfl, hp, Y.cl, Y.n_key, hk', _, rfl, t, k, (p : Int), v, [], rfl, But.of (Same.refl _), S, by decide, hv, fun H2 b2 lk2 => ?_⟩
  have hW2 := hW.keep (Keep.but b2 hn0)
  obtain ⟨d, hd, ly, dp, _, hsh, kind⟩ := hW2.dt (K := K)
  refine ⟨_, rfl, v, d, rfl, hd, hsh, fun H3 s3 => ⟨_, rfl, ?_⟩⟩
  have lk3 := lk2.same s3
  have b3 := b2.trans (But.of s3)
  rcases kind with ⟨i0, rfl, rfl⟩ | ⟨a, z, rfl, hz, rfl, hf⟩
  ·refine iteF ?_
   have eg : a2A (.ref pl) vw mn (k, o, th, zs) t c p = ((t, k, (p : Int)) :: (lkGo vw (.int i0) (.ref pl) o th zs (List.range m)).1, (lkGo vw (.int i0) (.ref pl) o th zs (List.range m)).2) := by
    unfold a2A
    rw [show a0x vw (t, (k, o, th, zs).1, (p : Int)) = .int i0 from ev, show a2l (.int i0) = false from rfl, if_neg Bool.false_ne_true, show a8O mn (k, o, th, zs).2.1 = m from a8P O'.v]
   rw [eg] at q
   have kp3 := Keep.but b3 hn0
   have hp3 := kp3 _ _ (fun xs z => by cases z) hp
   refine ⟨many, _, rfl, F2, _, rfl, self, C, dx, fs, _, rfl, hp3, Y.cl, Y.n_other, ho', o, _, rfl, b3, O'.v, fun H3b s3b => ⟨_, rfl, by have := O'.l; omega, by have := O'.l; omega, ?_⟩⟩
   replace b3 := b3.trans (But.of s3b)
   replace lk3 := lk3.same s3b
   rw [Int.toNat_natCast]
   refine a5g (lo := 0) (n := m) (fun i σ H5 => ∃ o7, σ = [some (.ref self), some (.ref look), some (.ref many), some (.str t), some (.str c), some (.int (p : Int)), some (.int i0), o7] /\ But nl H H5 /\ LkS nl ((t, k, (p : Int)) :: a7y o th (List.range i)) H5 /\ ∀ r ∈ List.range i, ¬ a0x vw (o, th, (r : Int)) = .int i0)
    ⟨_, rfl, b3, lk3, fun r hr' => by simp at hr'⟩ ?_ ?_
   ·rintro i σ H5 hi ⟨o7, rfl, b5, lk5, nf⟩
    rw [Int.zero_add]
    have kp5 := Keep.but b5 hn0
    have hp5 := kp5 _ _ (fun xs z => by cases z) hp
    have hm30 := O'.l
    have hz6 := O'.z6
    obtain ⟨u, hu, hUW⟩ := (O'.ft.keep kp5) i hi
    have eu : a0x vw (o, th, (i : Int)) = u := a0W (z := (o, th, (i : Int))) hu
    have tl1 : (a7y o th (List.range i)).length = i := by unfold a7y; rw [List.length_map, List.length_range]
    have tsu : a7y o th (List.range (i + 1)) = a7y o th (List.range i) ++ [(o, th, (i : Int))] := by unfold a7y; rw [List.range_succ, List.map_append]; rfl
    refine ⟨look, _, rfl, F1, _, rfl, self, C, dx, fs, _, rfl, hp5, Y.cl, Y.n_other, ho', _, rfl, self, C, dx, fs, _, rfl, hp5, Y.cl, Y.n_theirs, hth', _, rfl, o, th, _, u, _, rfl, b5, lk5, by rw [List.length_cons, tl1]; omega, hu, fun H6 b6 lk6 => ?_⟩
    obtain ⟨as5, hn5⟩ := lk5.list
    have kp6 := Keep.but b6 hn5
    have hU6 := hUW.keep kp6
    obtain ⟨d6, hd6, ly6, dp6, ee⟩ := c5q (K := K) (i := i0) hU6
    refine ⟨_, rfl, d6, .int i0, hd6, .int i0, ly6, rfl, dp6, _, rfl, ?_⟩
    rw [ee]
    have b56 := b5.trans b6
    have lk6' : LkS nl ((t, k, (p : Int)) :: a7y o th (List.range (i + 1))) H6 := by rw [tsu]; exact lk6
    refine ite2 (fun g => ?_) (fun g => ?_)
    ·have g' : u = .int i0 := by simpa using g
     have e7 : a0x vw (o, th, (i : Int)) = .int i0 := eu.trans g'
     have hp6 := kp6 _ _ (fun xs z => by cases z) hp5
     obtain ⟨_, dx6, fs6, rz6, hp6', _, _, _, hnm6, _, hrz6, _⟩ := hst H6 b56
     have hrz6' : H6 rz6 = some (.lst (zs.map V.str)) := hrz6
     refine ⟨_, rfl, _, rfl, self, C, dx6, fs6, _, rfl, hp6', Y.cl, Y.n_names, hnm6, rz6, rfl, ⟨_, SqL.of hrz6'⟩, fun D hD => ?_⟩
     refine a8s (t := o) (p := (i : Int)) (zs := zs) hD hrz6' (by omega) (fun z H7 q7 s7 k7 => ⟨_, rfl, self, C, dx, fs, _, rfl, s7 _ _ hp6, Y.cl, Y.n_other, ho', _, rfl, _, rfl, sl, fun tp htp => k7 tp htp⟩) (fun ys H7 h7 s7 hy => ?_)
     obtain ⟨as6, hn6⟩ := lk6.list
     have hrl : (a1s o i zs).length <= 6 := by unfold a1s; rw [List.length_map]; exact hz6
     have tl2 : (a7y o th (List.range (i + 1))).length = i + 1 := by unfold a7y; rw [List.length_map, List.length_range]
     refine ⟨look, D, nl, H, vw, ys, a1s o i zs, (t, k, (p : Int)) :: a7y o th (List.range (i + 1)), rfl, F1, b56.trans (But.of s7), lk6'.same s7, h7, Ne.symm (a0k hn6 hD), hy, (O'.there hi).keep ((kp5.trans kp6).trans (Keep.of s7)), ?_, fun H8 fv b8 lk8 fo8 => ?_⟩
     ·rw [List.length_cons, tl2]; omega
     ·have et := c9S (vw := vw) (own := .int i0) (pl := .ref pl) (o := o) (th := th) (zs := zs) hi nf e7
      rw [et] at q
      refine q H8 fv (b56.trans ((But.of s7).trans b8)) lk8 ?_
      have noH : ∀ l, H7 l = none -> H l = none := fun l e => by
       cases e2 : H l with
       | none => rfl
       | some ob =>
        exfalso
        by_cases y : l = nl
        ·rw [y, s7 _ _ hn6] at e; cases e
        ·rw [s7 _ _ (b56 l ob y e2)] at e; cases e
      cases e8 : (a1j vw (a1s o i zs)).2 with
      | val v8 => rw [e8] at fo8; exact fo8
      | call xs =>
       rw [e8] at fo8
       obtain ⟨a1, l1, g1, g2, g3, g4⟩ := fo8
       exact ⟨a1, l1, g1, g2, g3, noH l1 g4⟩
    ·have g' : ¬ a0x vw (o, th, (i : Int)) = .int i0 := fun z => g (by rw [<- eu, z]; simp)
     refine ⟨_, rfl, b56, lk6', fun r hr' => ?_⟩
     rw [List.range_succ] at hr'
     rcases List.mem_append.mp hr' with hr' | hr'
     ·exact nf r hr'
     ·rw [List.mem_singleton.mp hr']; exact g'
   ·rintro σ H5 ⟨o7, rfl, b5, lk5, nf⟩
    refine ⟨sl, fun a' ha' => ?_⟩
    have s9 := Same.new (o := .tup [.str ("value" : Str), .ref pl]) ha'
    rw [c8A nf] at q
    exact q _ _ (b5.trans (But.of s9)) (lk5.same s9) ⟨a', rfl, a0d⟩
  ·rw [hf]
   have eg : a2A (.ref pl) vw mn (k, o, th, zs) t c p = ([(t, k, (p : Int))], .val (.ref a)) := by
    unfold a2A
    rw [show a0x vw (t, (k, o, th, zs).1, (p : Int)) = .ref a from ev, show a2l (.ref a) = true from rfl, if_pos rfl]
   rw [eg] at q
   refine iteT ⟨_, rfl, sl, fun a' ha' => ?_⟩
   have s9 := Same.new (o := .tup [.str ("value" : Str), .ref a]) ha'
   exact q _ _ (b3.trans (But.of s9)) (lk3.same s9) ⟨a', rfl, a0d⟩
end
end My
namespace My
open PySem L2
section
variable {P : Program} {w : World} {K : PySem.W.Frag} {mg : Str -> Option Value} {base : Heap}
def MdF (C : Addr) (H : Hp) (p : Addr) (n : Str) (v : V) : Prop := ∃ dx fs, H p = some (.ins C dx fs) /\ fs.lookup ("name" : Str) = some (.str n) /\ Flds fs v /\ Nl n
theorem MdF.keepC {C : Addr} {H H' : Hp} {p : Addr} {n : Str} {v : V} (s : a2C H H') (h : MdF C H p n v) : MdF C H' p n v := by
 obtain ⟨dx, fs, h1, h2⟩ := h
 exact ⟨dx, fs, s _ _ (fun φ z => by cases z) h1, h2⟩
def c4X (K : PySem.W.Frag) (C : Addr) : Sp := fun vs H Q _ => ∃ (p dx : Addr) (n : Str) (v : V), vs = [.ref p, .str n, v] /\ H p = some (.ins C dx []) /\ Nl n /\ ∀ H', But p H H' -> MdF C H' p n v -> Q .non H'
theorem b8y : a0o ["self", "name", "function"] ["self", "name", "function"] (a0b a4i) := ⟨rfl, rfl, rfl, by decide +kernel, rfl, by decide +kernel, by decide +kernel⟩
theorem a4d (T : Tops K mg) {R C : Addr} (Z : a9R K mg R) (Y : c5e K mg C) : a6h P w K mg base CX0 3 C ["self", "name", "function"] (c4X K C) := by
 have G_init : a1B P w K mg base CX0 1 R "__init__" ["self", "function"] (a9x K) := a1p T Z
 have G_check_name : a0q P w K mg base CX0 2 "check_name" ["name"] b2t := a1n T
 refine (Y.m_init.known b8y (fun _ _ _ _ _ _ us hl => match us, hl with | [_, _, _], _ => rfl) (fun vs H Q E h => ?_) (fun f cdv A outer s H vs Q E hr h => ?_)).init Y.mks Y.kc
 ·obtain ⟨p, dx, n, v, rfl, _⟩ := h
  rfl
 ·obtain ⟨p, dx, n, v, rfl, hp, hn, q⟩ := h
  refine ⟨_, (a0e (a0F (b2w (a7a Z.c) Z.v_init G_init (hr.mono (by decide)) a0t (a0a (pv 0) (a0a (pv 2) a0c))))
   (a0e (a0F (a0h G_check_name (hr.mono (by decide)) a0t (a0a (pv 1) a0c)))
   (a0g (a6U (pv 0) (pv 1) rfl)))), ?_⟩
  have b1 : But p H (upd H p (.ins C dx (putF "function" v []))) := But.upd
  refine ⟨_, rfl, _, rfl, p, C, dx, [], v, rfl, hp, Y.cl, Y.n_function, by decide, ?_⟩
  refine ⟨_, rfl, n, rfl, hn, fun H2 s2 => ?_⟩
  refine ⟨_, rfl, _, rfl, p, C, dx, _, rfl, s2 _ _ a0d, Y.cl, Y.n_name, (by show 1 < 1000; decide), ?_⟩
  refine q _ ((b1.trans (But.of s2)).trans But.upd) ⟨dx, _, a0d, ?_, ⟨?_, ?_, ?_, ?_⟩, hn⟩
  ·rw [a0f, if_pos rfl]
  ·rw [a0f, if_neg (by decide), a0f, if_neg (by decide)]
   rfl
  ·rw [a0f, if_neg (by decide), a0f, if_neg (by decide)]
   rfl
  ·rw [a0f, if_neg (by decide), a0f, if_neg (by decide)]
   rfl
  ·rw [a0f, if_neg (by decide), a0f, if_pos rfl]
def b45 (v : V) : Res := if a2l v then .call [] else .val v
def b2s (vw : Vw) (_ : Mn) (n : Str) (t _ : Str) (p : Nat) : List a0O × Res := ([(t, n, (p : Int))], b45 (a0x vw (t, n, (p : Int))))
def c65 (H : Hp) (vw : Vw) (_ : Mn) (n : Str) (t _ : Str) (p : Nat) : Prop := ∃ v, vw (t, n, (p : Int)) = some v /\ WV H v
abbrev Nmg : List Str := ["self", "look", "many", "table", "column", "place", "value"]
theorem a7B : a0o Nmg ["self", "look", "many", "table", "column", "place"] (a0b a2v) := ⟨rfl, rfl, rfl, by decide +kernel, rfl, by decide +kernel, by decide +kernel⟩
theorem a2r (T : Tops K mg) {C : Addr} (Y : c5e K mg C) : a1B P w K mg base CX0 3 C "gather" ["self", "look", "many", "table", "column", "place"] (c56 P w K mg base (fun H p n => ∃ v, MdF C H p n v) b2s c65) := by
 have G_is_fault : a0q P w K mg base CX0 2 "is_fault" ["thing"] (a76 K) := a1x T
 refine Y.m_gather.known a7B (fun _ _ _ _ _ _ us hl => match us, hl with | [_, _, _, _, _, _], _ => rfl) (fun vs H Q E h => ?_) (fun f cdv A outer s H vs Q E hr h => ?_)
 ·obtain ⟨self, look, many, nl, t, c, p, vw, mn, rl, rfl, _⟩ := h
  rfl
 ·obtain ⟨self, look, many, nl, t, c, p, vw, mn, n, rfl, ⟨_, dx, fs, hp, hn, _⟩, ⟨v, hv, hW⟩, F1, F2, S, q⟩ := h
  refine ⟨_, (a0e (a0B (i := 6) a7B.nd rfl (Or.inl rfl) (a3z 1 hr (a0a (pv 3) (a0a (a5u (pv 0) rfl) (a0a (pv 5) a0c)))))
   (a0e (a0J (a05 (a0h G_is_fault (hr.mono (by decide)) a0t (a0a (pv 6) a0c)) (fun _ => rfl)) (a0g (a0l (a16 (a0a a0u (a0a (a1G a0c) a0c))))) a0p)
   (a0g (a0l (a16 (a0a a0u (a0a (pv 6) a0c))))))), ?_⟩
  obtain ⟨as0, hn0⟩ := S.list
  refine ⟨look, _, rfl, F1, _, rfl, _, rfl, self, C, dx, fs, _, rfl, hp, Y.cl, Y.n_name, hn, _, rfl, t, n, (p : Int), v, [], rfl, But.of (Same.refl _), S, by decide, hv, fun H2 b2 lk2 => ?_⟩
  have hW2 := hW.keep (Keep.but b2 hn0)
  have eg : b2s vw mn n t c p = ([(t, n, (p : Int))], b45 v) := by unfold b2s; rw [a0W hv]
  rw [eg] at q
  obtain ⟨d, hd, ly, dp, ev, hsh, kind⟩ := hW2.dt (K := K)
  refine ⟨_, rfl, v, d, rfl, hd, hsh, fun H3 s3 => ⟨_, rfl, ?_⟩⟩
  have noH : ∀ l, H3 l = none -> H l = none := fun l e => by
   cases e2 : H l with
   | none => rfl
   | some o =>
    exfalso
    by_cases y : l = nl
    ·obtain ⟨as2, e3⟩ := lk2.list
     rw [y, s3 _ _ e3] at e; cases e
    ·rw [s3 _ _ (b2 l o y e2)] at e; cases e
  rcases kind with ⟨i, rfl, rfl⟩ | ⟨a, z, rfl, hz, rfl, hf⟩
  ·refine iteF ⟨_, rfl, sl, fun a ha => ?_⟩
   have s4 := Same.new (o := .tup [.str ("value" : Str), .int i]) ha
   exact q _ _ (b2.trans (But.of (s3.trans s4))) (lk2.same (s3.trans s4)) ⟨a, rfl, a0d⟩
  ·rw [hf]
   refine iteT ⟨sl, fun l hl => ⟨sl, fun a' ha => ?_⟩⟩
   have s4 := Same.new (o := .lst []) hl
   have s5 := Same.new (o := .tup [.str ("call" : Str), .ref l]) ha
   exact q _ _ (b2.trans (But.of (s3.trans (s4.trans s5)))) (lk2.same (s3.trans (s4.trans s5))) ⟨a', l, rfl, a0d, s5 _ _ a0d, noH l hl⟩
end
end My
namespace My
open PySem L2
section
variable {P : Program} {w : World} {K : PySem.W.Frag} {mg : Str -> Option Value} {base : Heap}
def KyAt (C : Addr) (H : Hp) (p : Addr) (k n : Str) (v : V) : Prop := ∃ dx fs, H p = some (.ins C dx fs) /\ fs.lookup ("key" : Str) = some (.str k) /\ fs.lookup ("name" : Str) = some (.str n) /\ (fs.lookup ("leans" : Str) = none /\ fs.lookup ("gather" : Str) = none /\ fs.lookup ("reckon" : Str) = none /\ fs.lookup ("function" : Str) = some v) /\ Nl k /\ Nl n
def c19 (K : PySem.W.Frag) (C : Addr) : Sp := fun vs H Q _ => ∃ (p dx : Addr) (k n : Str) (v : V), vs = [.ref p, .str k, .str n, v] /\ H p = some (.ins C dx []) /\ Nl k /\ Nl n /\ ∀ H', But p H H' -> KyAt C H' p k n v -> Q .non H'
theorem b5K : a0o ["self", "key", "name", "function"] ["self", "key", "name", "function"] (a0b a2S) := ⟨rfl, rfl, rfl, by decide +kernel, rfl, by decide +kernel, by decide +kernel⟩
theorem a23 (T : Tops K mg) {R C : Addr} (Z : a9R K mg R) (Y : b4l K mg C) : a6h P w K mg base CX0 3 C ["self", "key", "name", "function"] (c19 K C) := by
 have G_init : a1B P w K mg base CX0 1 R "__init__" ["self", "function"] (a9x K) := a1p T Z
 have G_check_name : a0q P w K mg base CX0 2 "check_name" ["name"] b2t := a1n T
 refine (Y.m_init.known b5K (fun _ _ _ _ _ _ us hl => match us, hl with | [_, _, _, _], _ => rfl) (fun vs H Q E h => ?_) (fun f cdv A outer s H vs Q E hr h => ?_)).init Y.mks Y.kc
 ·obtain ⟨p, dx, k, n, v, rfl, _⟩ := h
  rfl
 ·obtain ⟨p, dx, k, n, v, rfl, hp, hk, hn, q⟩ := h
  refine ⟨_, (a0e (a0F (b2w (a7a Z.c) Z.v_init G_init (hr.mono (by decide)) a0t (a0a (pv 0) (a0a (pv 3) a0c))))
   (a0e (a0F (a0h G_check_name (hr.mono (by decide)) a0t (a0a (pv 1) a0c)))
   (a0e (a0F (a0h G_check_name (hr.mono (by decide)) a0t (a0a (pv 2) a0c)))
   (a0e (a6U (pv 0) (pv 1) rfl)
   (a0g (a6U (pv 0) (pv 2) rfl)))))), ?_⟩
  have b1 : But p H (upd H p (.ins C dx (putF "function" v []))) := But.upd
  refine ⟨_, rfl, _, rfl, p, C, dx, [], v, rfl, hp, Y.cl, Y.n_function, by decide, ?_⟩
  refine ⟨_, rfl, k, rfl, hk, fun H2 s2 => ⟨_, rfl, n, rfl, hn, fun H3 s3 => ?_⟩⟩
  have s23 := s2.trans s3
  refine ⟨_, rfl, _, rfl, p, C, dx, _, rfl, s23 _ _ a0d, Y.cl, Y.n_key, (by show 1 < 1000; decide), ?_⟩
  refine ⟨_, rfl, _, rfl, p, C, dx, _, rfl, a0d, Y.cl, Y.n_name, (by show 2 < 1000; decide), ?_⟩
  refine q _ (((b1.trans (But.of s23)).trans But.upd).trans But.upd) ⟨dx, _, a0d, ?_, ?_, ?_, hk, hn⟩
  ·rw [a0f, if_neg (by decide), a0f, if_pos rfl]
  ·rw [a0f, if_pos rfl]
  ·refine ⟨?_, ?_, ?_, ?_⟩
   ·rw [a0f, if_neg (by decide), a0f, if_neg (by decide), a0f, if_neg (by decide)]
    rfl
   ·rw [a0f, if_neg (by decide), a0f, if_neg (by decide), a0f, if_neg (by decide)]
    rfl
   ·rw [a0f, if_neg (by decide), a0f, if_neg (by decide), a0f, if_neg (by decide)]
    rfl
   ·rw [a0f, if_neg (by decide), a0f, if_neg (by decide), a0f, if_pos rfl]
end
end My
namespace My
open PySem L2
section
variable {P : Program} {w : World} {K : PySem.W.Frag} {mg : Str -> Option Value} {base : Heap}
def c8r (C : Addr) (H : Hp) (p : Addr) (r : Str × Str) : Prop := ∃ v, KyAt C H p r.1 r.2 v
def a3B (vw : Vw) (mn : Mn) (r : Str × Str) (t _ : Str) (p : Nat) : List a0O × Res :=
 if a2l (a0x vw (t, r.1, (p : Int))) then ([(t, r.1, (p : Int))], .val (a0x vw (t, r.1, (p : Int))))
 else ((t, r.1, (p : Int)) :: (a3g (a0x vw) (a0x vw (t, r.1, (p : Int))) t r.1 r.2 (List.range (a8O mn t)) []).1, (a3g (a0x vw) (a0x vw (t, r.1, (p : Int))) t r.1 r.2 (List.range (a8O mn t)) []).2)
structure OkG (H : Hp) (vw : Vw) (mn : Mn) (k n t : Str) (p m : Nat) : Prop where
 v : mn t = some m
 l : m <= 30
 p : p < m
 fk : b0m vw H t k m
 fn : b0m vw H t n m
def c3q (H : Hp) (vw : Vw) (mn : Mn) (r : Str × Str) (t _ : Str) (p : Nat) : Prop := ∃ m, OkG H vw mn r.1 r.2 t p m
abbrev Ngg : List Str := ["self", "look", "many", "table", "column", "place", "own", "numbers", "row", "value"]
theorem a1M : a0o Ngg ["self", "look", "many", "table", "column", "place"] (a0b a10) := ⟨rfl, rfl, rfl, by decide +kernel, rfl, by decide +kernel, by decide +kernel⟩
theorem a1V (T : Tops K mg) {C : Addr} (Y : b4l K mg C) : a1B P w K mg base CX0 3 C "gather" ["self", "look", "many", "table", "column", "place"] (c56 P w K mg base (c8r C) a3B c3q) := by
 have G_is_fault : a0q P w K mg base CX0 2 "is_fault" ["thing"] (a76 K) := a1x T
 refine Y.m_gather.known a1M (fun _ _ _ _ _ _ us hl => match us, hl with | [_, _, _, _, _, _], _ => rfl) (fun vs H Q E h => ?_) (fun f cdv A outer s H vs Q E hr h => ?_)
 ·obtain ⟨self, look, many, nl, t, c, p, vw, mn, rl, rfl, _⟩ := h
  rfl
 ·obtain ⟨self, look, many, nl, t, c, p, vw, mn, ⟨k, n⟩, rfl, ⟨_, dx, fs, hp, hk, hn, _, hkN, hnN⟩, ⟨m, O⟩, F1, F2, S, q⟩ := h
  refine ⟨_, (a0e (a0B (i := 6) a1M.nd rfl (Or.inl rfl) (a3z 1 hr (a0a (pv 3) (a0a (a5u (pv 0) rfl) (a0a (pv 5) a0c)))))
   (a0e (a0J (a05 (a0h G_is_fault (hr.mono (by decide)) a0t (a0a (pv 6) a0c)) (fun _ => rfl)) (a0g (a0l (a16 (a0a a0u (a0a (pv 6) a0c))))) a0p)
   (a0e (a0B (i := 7) a1M.nd rfl (Or.inl rfl) (a1G a0c))
   (a0e (a4m PassesOwn.never rfl (a3H rfl T.range (a0a (a3z 2 hr (a0a (pv 3) a0c)) a0c)) (a0Q (i := 8) a1M.nd rfl (Or.inl rfl)) (a0g (a0J (a0v (c2d hr.units) (a3z 1 hr (a0a (pv 3) (a0a (a5u (pv 0) rfl) (a0a (pv 8) a0c)))) (pv 6) (a0A _)) (a0e (a0B (i := 9) a1M.nd rfl (Or.inl rfl) (a3z 1 hr (a0a (pv 3) (a0a (a5u (pv 0) rfl) (a0a (pv 8) a0c)))))
   (a0e (a0J (a05 (a0h G_is_fault (hr.mono (by decide)) a0t (a0a (pv 9) a0c)) (fun _ => rfl)) (a0g (a0l (a16 (a0a a0u (a0a (pv 9) a0c))))) a0p)
   (a0g (a0F (a9Q PySem.F.plainAttrs_list PySem.F.slot_list_append PySem.F.type_list_append a17 (pv 7) (a0a (pv 9) a0c)))))) a0p)))
   (a0g (a0l (a16 (a0a a0u (a0a (pv 7) a0c))))))))), ?_⟩
  obtain ⟨as0, hn0⟩ := S.list
  have hk' : fs.lookup ("key" : Str) = some (.str k) := hk
  have hn' : fs.lookup ("name" : Str) = some (.str n) := hn
  obtain ⟨v, hv, hW⟩ := O.fk p O.p
  have ev : a0x vw (t, k, (p : Int)) = v := a0W (z := (t, k, (p : Int))) hv
  refine ⟨look, _, rfl, F1, _, rfl, _, rfl, self, C, dx, fs, _, rfl, hp, Y.cl, Y.n_key, hk', _, rfl, t, k, (p : Int), v, [], rfl, But.of (Same.refl _), S, by decide, hv, fun H2 b2 lk2 => ?_⟩
  have hW2 := hW.keep (Keep.but b2 hn0)
  obtain ⟨d, hd, ly, dp, _, hsh, kind⟩ := hW2.dt (K := K)
  refine ⟨_, rfl, v, d, rfl, hd, hsh, fun H3 s3 => ⟨_, rfl, ?_⟩⟩
  have lk3 := lk2.same s3
  have b3 := b2.trans (But.of s3)
  rcases kind with ⟨i0, rfl, rfl⟩ | ⟨a, z, rfl, hz, rfl, hf⟩
  ·refine iteF ⟨sl, fun nm hnm => ?_⟩
   have eg : a3B vw mn (k, n) t c p = ((t, k, (p : Int)) :: (a3g (a0x vw) (.int i0) t k n (List.range m) []).1, (a3g (a0x vw) (.int i0) t k n (List.range m) []).2) := by
    unfold a3B
    rw [show a0x vw (t, (k, n).1, (p : Int)) = .int i0 from ev, show a2l (.int i0) = false from rfl, if_neg Bool.false_ne_true, a8P O.v]
   rw [eg] at q
   have s4 := Same.new (o := .lst []) hnm
   obtain ⟨as3, hn3⟩ := lk3.list
   have nnm : nl ≠ nm := a0k hn3 hnm
   have lk4 := lk3.same s4
   have b4 := b3.trans (But.of s4)
   have hnmH : H nm = none := by
    cases e : H nm with
    | none => rfl
    | some o => exfalso; rw [b3 nm o (Ne.symm nnm) e] at hnm; cases hnm
   refine ⟨many, _, rfl, F2, _, rfl, t, _, rfl, b4, O.v, fun H4' s4' => ⟨_, rfl, by have := O.l; omega, by have := O.l; omega, ?_⟩⟩
   rw [Int.toNat_natCast]
   refine a5g (lo := 0) (n := m) (fun i σ H5 => ∃ o8 o9, σ = [some (.ref self), some (.ref look), some (.ref many), some (.str t), some (.str c), some (.int (p : Int)), some (.int i0), some (.ref nm), o8, o9] /\ But nl H H5 /\ LkS nl ((t, k, (p : Int)) :: a1y (a0x vw) (.int i0) t k n (List.range i)) H5 /\ H5 nm = some (.lst (a4v (a0x vw) (.int i0) t k n (List.range i))) /\ NoF (a0x vw) (.int i0) t k n (List.range i))
    ⟨_, _, rfl, b4.trans (But.of s4'), lk4.same s4', s4' _ _ a0d, fun r hr' => by simp at hr'⟩ ?_ ?_
   ·rintro i σ H5 hi ⟨o8, o9, rfl, b5, lk5, h5, nf⟩
    have kp5 := Keep.but b5 hn0
    have hp5 := kp5 _ _ (fun xs z => by cases z) hp
    obtain ⟨u, hu, hUW⟩ := (O.fk.keep kp5) i hi
    have eu : a0x vw (t, k, (i : Int)) = u := a0W (z := (t, k, (i : Int))) hu
    have sl1 : (a1y (a0x vw) (.int i0) t k n (List.range i)).length <= 2 * i := by have := c1C (val := a0x vw) (own := .int i0) (t := t) (k := k) (n := n) (List.range i); rw [List.length_range] at this; exact this
    have al1 : (a4v (a0x vw) (.int i0) t k n (List.range i)).length <= i := by have := c4W (val := a0x vw) (own := .int i0) (t := t) (k := k) (n := n) (List.range i); rw [List.length_range] at this; exact this
    have hm30 := O.l
    refine ⟨look, _, rfl, F1, _, rfl, _, rfl, self, C, dx, fs, _, rfl, hp5, Y.cl, Y.n_key, hk', _, rfl, t, k, _, u, _, rfl, b5, lk5, by rw [List.length_cons]; omega, by rw [Int.zero_add]; exact hu, fun H6 b6 lk6 => ?_⟩
    rw [Int.zero_add] at lk6
    obtain ⟨as5, hn5⟩ := lk5.list
    have kp6 := Keep.but b6 hn5
    have hU6 := hUW.keep kp6
    obtain ⟨d6, hd6, ly6, dp6, ee⟩ := c5q (K := K) (i := i0) hU6
    have h6 := b6 _ _ (Ne.symm nnm) h5
    refine ⟨_, rfl, d6, .int i0, hd6, .int i0, ly6, rfl, dp6, _, rfl, ?_⟩
    rw [ee]
    refine ite2 (fun g => ?_) (fun g => ?_)
    ·have g' : u = .int i0 := by simpa using g
     have e7 : a0x vw (t, k, (i : Int)) = .int i0 := eu.trans g'
     have hp6 := kp6 _ _ (fun xs z => by cases z) hp5
     obtain ⟨u2, hu2, hUW2⟩ := (O.fn.keep (kp5.trans kp6)) i hi
     have eu2 : a0x vw (t, n, (i : Int)) = u2 := a0W (z := (t, n, (i : Int))) hu2
     refine ⟨look, _, rfl, F1, _, rfl, _, rfl, self, C, dx, fs, _, rfl, hp6, Y.cl, Y.n_name, hn', _, rfl, t, n, _, u2, _, rfl, b5.trans b6, lk6, by rw [List.length_append, List.length_cons]; simp; omega, by rw [Int.zero_add]; exact hu2, fun H7 b7 lk7 => ?_⟩
     rw [Int.zero_add] at lk7
     obtain ⟨as6, hn6⟩ := lk6.list
     have kp7 := Keep.but b7 hn6
     have hU7 := hUW2.keep kp7
     obtain ⟨d7, hd7, ly7, dp7, _, hsh7, kind7⟩ := hU7.dt (K := K)
     refine ⟨_, rfl, u2, d7, rfl, hd7, hsh7, fun H8 s8 => ⟨_, rfl, ?_⟩⟩
     have h8 := s8 _ _ (b7 _ _ (Ne.symm nnm) h6)
     have lk8 := lk7.same s8
     have b8 := ((b5.trans b6).trans b7).trans (But.of s8)
     have es : (t, k, (p : Int)) :: a1y (a0x vw) (.int i0) t k n (List.range (i + 1)) = ((t, k, (p : Int)) :: a1y (a0x vw) (.int i0) t k n (List.range i)) ++ [(t, k, (i : Int))] ++ [(t, n, (i : Int))] := by
      rw [b8F, if_pos e7]
      simp
     rcases kind7 with ⟨j, rfl, rfl⟩ | ⟨b, y, rfl, hz', rfl, hf⟩
     ·refine iteF ⟨_, rfl, .inl ⟨rfl, _, SqL.of h8⟩, _, rfl, nm, _, _, rfl, rfl, h8, a0U (by omega), ?_⟩
      refine ⟨_, _, rfl, fun b o nb e => ?_, ?_, ?_, c1T nf fun _ => by rw [eu2]; rfl⟩
      ·rw [a0m (a0k e hnmH)]
       exact b8 b o nb e
      ·rw [es]
       exact lk8.keep (Keep.lst h8) fun xs e => by rw [a0m nnm]; exact e
      ·rw [c11, if_pos e7, eu2]
       exact a0d
     ·rw [hf]
      refine iteT ⟨_, rfl, sl, fun a' ha' => ?_⟩
      have s9 := Same.new (o := .tup [.str ("value" : Str), .ref b]) ha'
      have et := c9G (val := a0x vw) (own := .int i0) (t := t) (k := k) (n := n) hi nf e7 (by rw [eu2]; rfl)
      rw [et, eu2] at q
      refine q _ _ (b8.trans (But.of s9)) ?_ ⟨a', rfl, a0d⟩
      have lk9 := lk8.same s9
      rw [show (t, k, (p : Int)) :: (a1y (a0x vw) (.int i0) t k n (List.range i) ++ [(t, k, (i : Int)), (t, n, (i : Int))]) = ((t, k, (p : Int)) :: a1y (a0x vw) (.int i0) t k n (List.range i)) ++ [(t, k, (i : Int))] ++ [(t, n, (i : Int))] by simp]
      exact lk9
    ·have g' : ¬ a0x vw (t, k, (i : Int)) = .int i0 := fun z => g (by rw [<- eu, z]; simp)
     refine ⟨_, _, rfl, b5.trans b6, ?_, ?_, c1T nf fun z => absurd z g'⟩
     ·rw [b8F, if_neg g']
      exact lk6
     ·rw [c11, if_neg g', List.append_nil]
      exact h6
   ·rintro σ H5 ⟨o8, o9, rfl, b5, lk5, h5, nf⟩
    refine ⟨_, rfl, sl, fun a' ha' => ?_⟩
    have s9 := Same.new (o := .tup [.str ("call" : Str), .ref nm]) ha'
    rw [c7v nf] at q
    exact q _ _ (b5.trans (But.of s9)) (lk5.same s9) ⟨a', nm, rfl, a0d, s9 _ _ h5, hnmH⟩
  ·rw [hf]
   have eg : a3B vw mn (k, n) t c p = ([(t, k, (p : Int))], .val (.ref a)) := by
    unfold a3B
    rw [show a0x vw (t, (k, n).1, (p : Int)) = .ref a from ev, show a2l (.ref a) = true from rfl, if_pos rfl]
   rw [eg] at q
   refine iteT ⟨_, rfl, sl, fun a' ha' => ?_⟩
   have s9 := Same.new (o := .tup [.str ("value" : Str), .ref a]) ha'
   exact q _ _ (b3.trans (But.of s9)) (lk3.same s9) ⟨a', rfl, a0d⟩
end
end My
namespace My
open PySem L2
section
variable {P : Program} {w : World} {K : PySem.W.Frag} {mg : Str -> Option Value} {base : Heap}
def b4V (vw : Vw) (_ : Mn) (zs : List Str) (t _ : Str) (p : Nat) : List a0O × Res := a1j vw (a1s t p zs)
def c3Z (H : Hp) (vw : Vw) (_ : Mn) (zs : List Str) (t _ : Str) (p : Nat) : Prop := zs.length <= 6 /\ b0G vw H (a1s t p zs)
abbrev Ncg : List Str := ["self", "look", "many", "table", "column", "place"]
theorem b1M : a0o Ncg ["self", "look", "many", "table", "column", "place"] (a0b a00) := ⟨rfl, rfl, rfl, by decide +kernel, rfl, by decide +kernel, by decide +kernel⟩
theorem a1Z (T : Tops K mg) {C : Addr} (Y : b64 K mg C) : a1B P w K mg base CX0 4 C "gather" ["self", "look", "many", "table", "column", "place"] (b4k P w K mg base (fun H p (zs : List Str) => ∃ v, CeF C H p zs v) b4V c3Z) := by
 have G_look_in_turn : a0q P w K mg base CX0 3 "look_in_turn" ["look", "cells"] (c1A P w K mg base) := a1i T
 refine Y.m_gather.known b1M (fun _ _ _ _ _ _ us hl => match us, hl with | [_, _, _, _, _, _], _ => rfl) (fun vs H Q E h => ?_) (fun f cdv A outer s H vs Q E hr h => ?_)
 ·obtain ⟨self, look, many, nl, t, c, p, vw, mn, rl, rfl, _⟩ := h
  rfl
 ·obtain ⟨self, look, many, nl, t, c, p, vw, mn, zs, rfl, ⟨_, dx, fs, r, hp, hn, _, hr', hN⟩, _, ⟨hz6, hT⟩, F1, F2, S, q⟩ := h
  have hcl : ∀ x, (cxOf CX0 P w K mg base Ncg "Cells.gather" (a0b a00) f cdv A outer s H E).nox.env.scope.names.lookup x = some .cell -> ∃ c, (cxOf CX0 P w K mg base Ncg "Cells.gather" (a0b a00) f cdv A outer s H E).nox.env.cells.lookup x = some c := fun x hx => Option.isSome_iff_exists.mp (PySem.W.cellsFrom_some _ _ _ (.inl hx))
  refine ⟨_, (a0g (a0l (a0h G_look_in_turn (hr.mono (by decide)) a0t (a0a (pv 1) (a0a (a9O (a4O (sc := a0b a00) (N := Ncg) (cp := [(3, "table"), (5, "place")]) hcl) rfl rfl (by decide) (a2F (a5u (pv 0) rfl)) (fun _ _ _ _ _ => a9z) (fun _ _ _ _ _ => (a16 (a0a (pv 1) (a0a (pv 0) (a0a (pv 2) a0c)))))) a0c))))), ?_⟩
  refine ⟨_, rfl, _, rfl, self, C, dx, fs, _, rfl, hp, Y.cl, Y.n_names, hn, r, rfl, ⟨_, SqL.of hr'⟩, fun D hD => ?_⟩
  refine a8s (t := t) (p := (p : Int)) (zs := zs) hD hr' (by omega) (fun z H2 q2 s2 k2 => ⟨_, rfl, _, rfl, _, rfl, sl, fun tp htp => k2 tp htp⟩) (fun ys H2 h2 s2 hy => ?_)
  have hyR : Nts H2 ys (a1s t p zs) := hy
  have hrl : (a1s t p zs).length <= 6 := by unfold a1s; rw [List.length_map]; exact hz6
  obtain ⟨as0, hn0⟩ := S.list
  refine ⟨look, D, nl, H, vw, ys, a1s t p zs, [], rfl, F1, But.of s2, S.same s2, h2, Ne.symm (a0k hn0 hD), hyR, hT.keep (Keep.of s2), by simp; omega, fun H3 fv b3 lk3 fo3 => ?_⟩
  exact q H3 fv ((But.of s2).trans b3) (by rw [List.nil_append] at lk3; exact lk3) (b4H.pre s2 fo3)
end
end My
namespace My
open PySem L2
theorem a9m {P : Addr} {H H' : Hp} {X : Cx} {σ : St} {g : Lend} (s : a7z P H H') (L : Lent X σ H' g) : a7z P H (lend g H') := fun b o n e => by
 have e' := s b o n e
 cases e2 : g b with
 | none => rw [a0N e2]; exact e'
 | some ob => rw [L.free b ob e2] at e'; cases e'
theorem b1n {H : Hp} {X : Cx} {σ : St} {g : Lend} (L : Lent X σ H g) : Same H (lend g H) := fun b o e => by
 cases e2 : g b with
 | none => rw [a0N e2]; exact e
 | some ob => rw [L.free b ob e2] at e; cases e
theorem b7m {P : Addr} {H H' : Hp} (s : Same H H') : a7z P H H' := fun b o _ e => s b o e
theorem a4B {P : Addr} {H H1 H2 : Hp} (a : a7z P H H1) (b : a7z P H1 H2) : a7z P H H2 := fun c o n e => b c o n (a c o n e)
def a3j (zs ns : List Str) (is : List Int) : PyData := c1l (zipP ns (is.map V.int) ns.length) zs
def preN (ns : List Str) (is : List Int) : Prop := is.length = ns.length /\ ∀ i ∈ is, bnd F60 i
theorem c5Q {ns : List Str} {is : List Int} (nd : ns.Nodup) (hl : is.length = ns.length) {z : Str} (hz : z ∈ ns) : ∃ i ∈ is, valV (zipP ns (is.map V.int) ns.length) (.inr z) = some (.int i) := by
 unfold zipP
 rw [List.take_of_length_le (by rw [List.length_zip]; omega)]
 induction ns generalizing is with
 | nil => cases hz
 | cons n r ih =>
  cases is with
  | nil => simp at hl
  | cons i t =>
   have nd' := List.nodup_cons.mp nd
   rcases List.mem_cons.mp hz with rfl | hz
   ·exact ⟨i, List.mem_cons_self, by simp [valV]⟩
   ·have hne : ¬ n = z := fun e => nd'.1 (e ▸ hz)
    obtain ⟨j, hj, e⟩ := ih nd'.2 (by simpa using hl) hz
    refine ⟨j, List.mem_cons_of_mem _ hj, ?_⟩
    rw [<- e]
    unfold valV
    simp [hne]
theorem c4N {zs ns : List Str} {is : List Int} (nd : ns.Nodup) (hp : preN ns is) (h : ∀ z ∈ zs, Nl z -> z ∈ ns) : c9m (zipP ns (is.map V.int) ns.length) zs := fun z hz nz => by
 obtain ⟨i, hi, e⟩ := c5Q nd hp.1 (h z hz nz)
 exact ⟨i, e, hp.2 i hi⟩
section
variable {P : Program} {w : World} {K : PySem.W.Frag} {mg : Str -> Option Value} {base : Heap}
abbrev qFo : Str := ("function_of" : Str) ++ ".<locals>." ++ "<lambda>"
def c4J (P : Program) (w : World) (K : PySem.W.Frag) (mg : Str -> Option Value) (base : Heap) (zt : Addr) : Sp := fun vs H Q _ => ∃ (a b : Addr) (zs ns : List Str), vs = [.ref a, .ref b] /\ H a = some (.lst (zs.map V.str)) /\ H b = some (.lst (ns.map V.str)) /\ zs.length <= 24 /\ ns.length <= 24 /\ Pre zs 1 0 /\ ns.Nodup /\ (∀ z ∈ zs, Nl z -> z ∈ ns) /\ a3A qFo H zt /\
 ∀ H' fa, a7z zt H H' -> a3A qFo H' zt -> FnAt P w K mg base 6 [a, b] H' fa (preN ns) (a3j zs ns) -> Q (.ref fa) H'
theorem b3x : a0o ["words", "names"] ["words", "names"] (a0b a0C) := ⟨rfl, rfl, rfl, by decide +kernel, rfl, by decide +kernel, by decide +kernel⟩
theorem a1r (T : Tops K mg) {z : Addr × Addr} (B : DefT K mg "function_of" a0C z) (M : a5Y mg base z.1 z.2) : a0q P w K mg base CX0 1 "function_of" ["words", "names"] (c4J P w K mg base z.2) := by
 have G_reckoned : a0q P w K mg base CX0 5 "reckoned" ["words", "numbers"] (c6X K) := a5q T
 refine B.knownR b3x (fun _ _ _ _ _ _ us hl => match us, hl with | [_, _], _ => rfl) (fun vs H Q E h => ?_) (fun f A outer s H vs Q E hr h => ?_)
 ·obtain ⟨a, b, zs, ns, rfl, _⟩ := h
  rfl
 ·obtain ⟨a, b, zs, ns, rfl, ha, hb, hlz, hln, hP, nd, hsub, hT, q⟩ := h
  have hcl : ∀ x, (cxOf CX0 P w K mg base ["words", "names"] "function_of" (a0b a0C) f (.ref z.1) A outer s H E).nox.env.scope.names.lookup x = some .cell -> ∃ c, (cxOf CX0 P w K mg base ["words", "names"] "function_of" (a0b a0C) f (.ref z.1) A outer s H E).nox.env.cells.lookup x = some c := fun x hx => Option.isSome_iff_exists.mp (PySem.W.cellsFrom_some _ _ _ (.inl hx))
  refine ⟨_, c0f (c1b (b9m M rfl (a4O (sc := a0b a0C) (N := ["words", "names"]) (cp := [(0, "words"), (1, "names")]) hcl).clos rfl)), ?_⟩
  refine ⟨hT, fun fa H1 hfa s1 tb1 la => fun g L => ?_⟩
  have k1 := a2C.tab hT s1
  have sL := b1n L
  have F := c4C (c1M (sc := a0b a0C) (N := ["words", "names"]) (ps := ["numbers"]) (cp := [(0, "words"), (1, "names")]) (cv := [.ref a, .ref b]) (k := 5) (spB := spBf K [(a, zs.map V.str), (b, ns.map V.str)] (preN ns) (a3j zs ns)) la L hcl rfl (fun _ _ _ _ us hl => match us, hl with | [_], _ => rfl) (fun cd A' outer' s' H' vs Q' hr' h' => by
   obtain ⟨l', is, rfl, hls, hl', h1', h2', qq⟩ := h'
   have ea := hls (a, zs.map V.str) (by simp)
   have eb := hls (b, ns.map V.str) (by simp)
   refine ⟨_, a0h G_reckoned hr' a0t (a0a (pv 1) (a0a (c21 rfl (a0a (pv 2) (a0a (pv 0) a0c)) rfl T.dict c8x rfl T.zip d0m) a0c)), ?_⟩
   refine ⟨_, rfl, _, rfl, _, rfl, b, l', ns, _, rfl, SqL.of eb, SqL.of hl', by rw [List.length_map]; exact h2'.1, by omega, nd, fun d hd => ?_⟩
   have u1 := Same.new (o := .dK (zipP ns (is.map V.int) ns.length)) hd
   refine ⟨a, d, zs, _, rfl, SqL.of (u1 _ _ ea), a0d, by omega, hP, c4N nd h2' hsub, fun H2 v u2 hv => qq _ v (u1.trans u2) hv.dt⟩))
  refine q _ fa (a9m s1 L) (a0M sL tb1) ⟨_, F, ⟨⟨a3R (a2C.of sL) la, fun b o e => a3f e⟩, fun p hp => ?_⟩, a9q (ls := [(a, zs.map V.str), (b, ns.map V.str)])⟩
  simp only [List.mem_cons, List.not_mem_nil, or_false] at hp
  rcases hp with rfl | rfl
  ·exact sL _ _ (k1 _ _ (fun φ z => by cases z) ha)
  ·exact sL _ _ (k1 _ _ (fun φ z => by cases z) hb)
theorem c1L {zs : List Str} (hP : Pre zs 1 0) : (∀ z ∈ a1q (zs.filter a07), Nl z) /\ ∀ z ∈ zs, Nl z -> z ∈ a1q (zs.filter a07) := by
 refine ⟨fun z hz => ?_, fun z hz nz => ((a4e _).2.1 z).mpr (List.mem_filter.mpr ⟨hz, nz.is⟩)⟩
 have h1 := List.mem_filter.mp (((a4e _).2.1 z).mp hz)
 rcases hP.all z h1.1 with h | h
 ·have := (b39 z h).1
  rw [h1.2] at this
  cases this
 ·rcases h with h | ⟨i, h⟩
  ·exact h
  ·have := h.nn
   rw [h1.2] at this
   cases this
end
end My
namespace My
open PySem L2
def a4s (zs : List Str) : List Str := (a1q (zs.filter a07)).filter fun z => decide (z ∉ (["up"] : List Str))
theorem c69 {zs : List Str} (hP : Pre zs 1 0) : (∀ z ∈ a4s zs, Nl z) /\ (("up" : Str) :: a4s zs).Nodup /\ (∀ z ∈ zs, Nl z -> z ∈ ("up" : Str) :: a4s zs) /\ (a4s zs).length <= zs.length := by
 obtain ⟨h1, h2⟩ := c1L hP
 refine ⟨fun z hz => h1 z (List.mem_filter.mp hz).1, List.nodup_cons.mpr ⟨fun m => ?_, (a4e _).1.filter _⟩, fun z hz nz => ?_, ?_⟩
 ·have := (List.mem_filter.mp m).2
  simp at this
 ·by_cases e : z = "up"
  ·rw [e]; exact List.mem_cons_self
  ·exact List.mem_cons_of_mem _ (List.mem_filter.mpr ⟨h2 z hz nz, by simpa using e⟩)
 ·have a := List.length_filter_le (fun z => decide (z ∉ (["up"] : List Str))) (a1q (zs.filter a07))
  have b := (a4e (zs.filter a07)).2.2
  have c := List.length_filter_le a07 zs
  unfold a4s
  omega
section
variable {P : Program} {w : World} {K : PySem.W.Frag} {mg : Str -> Option Value} {base : Heap}
def c4p (P : Program) (w : World) (K : PySem.W.Frag) (mg : Str -> Option Value) (base : Heap) (C zt : Addr) : Sp := fun vs H Q _ => ∃ (a : Addr) (y : Str) (zs : List Str) (i : Int), vs = [.ref a] /\ H a = some (.lst ((y :: zs).map V.str)) /\ NumW y i /\ zs.length <= 24 /\ Pre zs 1 0 /\ (a4s zs).length <= 6 /\ a3A qFo H zt /\
 ∀ H' r fa W, a7z zt H H' -> a3A qFo H' zt -> AbF C H' r i (a4s zs) (.ref fa) -> FnAt P w K mg base 6 W H' fa (preN (("up" : Str) :: a4s zs)) (a3j zs (("up" : Str) :: a4s zs)) -> (∀ x ∈ W, ∃ o, H' x = some (.lst o)) -> Q (.ref r) H'
theorem a5I : a0o ["words", "reckoning", "names"] ["words"] (a0b a27) := ⟨rfl, rfl, rfl, by decide +kernel, rfl, by decide +kernel, by decide +kernel⟩
theorem a3b (T : Tops K mg) {R C : Addr} (Z : a9R K mg R) (Y : b7k K mg C) {z : Addr × Addr} (B : DefT K mg "function_of" a0C z) (M : a5Y mg base z.1 z.2) : a0q P w K mg base CX0 6 "read_above" ["words"] (c4p P w K mg base C z.2) := by
 have G_refuse_unless : a0q P w K mg base CX0 1 "refuse_unless" ["holds"] a3p := a0D T
 have G_writes_number : a0q P w K mg base CX0 1 "writes_number" ["word"] b06 := a03 T
 have G_columns_in : a0q P w K mg base CX0 3 "columns_in" ["words", "others"] (b1l K) := a2k T
 have G_function_of : a0q P w K mg base CX0 1 "function_of" ["words", "names"] (c4J P w K mg base z.2) := a1r T B M
 have GI : a6h P w K mg base CX0 4 C ["self", "first", "names", "function"] (c12 K C) := a28 T Z Y
 refine T.d_read_above.known a5I (fun _ _ _ _ _ _ us hl => match us, hl with | [_], _ => rfl) (fun vs H Q E h => ?_) (fun f cdv A outer s H vs Q E hr h => ?_)
 ·obtain ⟨a, y, zs, i, rfl, _⟩ := h
  rfl
 ·obtain ⟨a, y, zs, i, rfl, ha, hy, hlz, hP, h6, hT, q⟩ := h
  obtain ⟨cn, cd, cs, cl⟩ := c69 hP
  refine ⟨_, (a0e (a0F (a0h G_refuse_unless (hr.mono (by decide)) a0t (a0a (b1q (a2B c2q (a0r a1f rfl T.len a6M (a0a (pv 0) a0c)) a0i (a0A _)) (a95 (a0h G_writes_number (hr.mono (by decide)) a0t (a0a (a0z a0s (pv 0) a0i (fun _ _ => rfl)) a0c)))) a0c)))
   (a0e (a0B (i := 1) a5I.nd rfl (Or.inl rfl) (a3t a9L (pv 0) (a53 a0i) a6a))
   (a0e (a0B (i := 2) a5I.nd rfl (Or.inl rfl) (a0h G_columns_in (hr.mono (by decide)) a0t (a0a (pv 1) (a0a (a1G (a0a (c5u T.g_UP) a0c)) a0c))))
   (a0g (a0l (a87 GI (hr.mono (by decide)) Y.c a0t (a0a (a1H a5T rfl T.int c27 (a0a (a0z a0s (pv 0) a0i (fun _ _ => rfl)) a0c)) (a0a (pv 2) (a0a (a0h G_function_of (hr.mono (by decide)) a0t (a0a (pv 1) (a0a (a0E c4T (a1G (a0a (c5u T.g_UP) a0c)) (pv 2)) a0c))) a0c))))))))), ?_⟩
  have e0 : atI ((y :: zs).map V.str) 0 = some (.str y) := b2Z _ _
  have yl := hy.reads.2
  refine ⟨_, rfl, _, _, rfl, .inl ⟨_, SqL.of ha, rfl⟩, _, _, rfl, rfl, _, rfl, ?_⟩
  rw [show decide ((((y :: zs).map V.str).length : Int) > 0) = true from decide_eq_true (by rw [List.length_map, List.length_cons]; omega)]
  refine iteT ⟨_, rfl, a, _, _, _, rfl, rfl, SqL.of ha, e0, y, rfl, by omega, fun H1 s1 => ?_⟩
  rw [hy.num]
  have ha1 := s1 _ _ ha
  refine ⟨rfl, _, rfl, _, rfl, a, _, rfl, SqL.of ha1, fun c hc => ?_⟩
  rw [cut1]
  have s2 := Same.new (o := .lst (zs.map V.str)) hc
  have s02 := s1.trans s2
  refine ⟨_, rfl, sl, fun ul hul => ?_⟩
  have s3 := Same.new (o := .lst [.str "up"]) hul
  have s03 := s02.trans s3
  refine ⟨c, ul, zs, ["up"], rfl, SqL.of (s3 _ _ a0d), SqL.of a0d, hlz, hP, h6, fun H4 l s4 hl h4 => ?_⟩
  have s04 := s03.trans s4
  have hc4 := s4 _ _ (s3 _ _ (a0d (H := H1) (a := c) (o := .lst (zs.map V.str))))
  refine ⟨_, rfl, a, _, _, _, rfl, rfl, SqL.of (s04 _ _ ha), e0, y, i, rfl, hy.reads.1, by omega, _, rfl, _, rfl, sl, fun u2 hu2 => ?_⟩
  have s5 := Same.new (o := .lst [.str "up"]) hu2
  refine ⟨_, rfl, u2, l, _, _, rfl, rfl, a0d, s5 _ _ h4, sl (by rw [List.length_map]; show 1 + (a4s zs).length <= 1000; omega), fun b hb => ?_⟩
  have s6 := Same.new (o := .lst ([.str "up"] ++ (a4s zs).map V.str)) hb
  have s06 := s04.trans (s5.trans s6)
  have hb6 : upd (upd H4 u2 (.lst [.str "up"])) b (.lst ([.str "up"] ++ (a4s zs).map V.str)) b = some (.lst ((("up" : Str) :: a4s zs).map V.str)) := a0d
  have hc6 := s6 _ _ (s5 _ _ hc4)
  have hl6 := s6 _ _ (s5 _ _ h4)
  refine ⟨c, b, zs, _, rfl, hc6, hb6, hlz, by rw [List.length_cons]; omega, hP, cd, cs, a0M s06 hT, fun H7 fa s7 tb7 FA => ?_⟩
  have k7 := a2C.tab (a0M s06 hT) s7
  intro x dx hx hdx ne
  have h7l := k7 _ _ (fun φ z => by cases z) hl6
  refine ⟨x, dx, l, i, .ref fa, _, rfl, a47 hy.1, a0d, SqL.of (by rw [a0m (a0k h7l hx), a0m (a0k h7l hdx)]; exact h7l), h6, cn, fun H8 b8 ab => ⟨rfl, ?_⟩⟩
  have s8 := a2V hx hdx b8
  refine q _ x fa _ (a4B (b7m s06) (a4B s7 (b7m s8))) (a0M s8 tb7) ab (FA.keep (b85.of s8)) fun v hv => ?_
  simp only [List.mem_cons, List.not_mem_nil, or_false] at hv
  rcases hv with rfl | rfl
  ·exact ⟨_, s8 _ _ (k7 _ _ (fun φ z => by cases z) hc6)⟩
  ·exact ⟨_, s8 _ _ (k7 _ _ (fun φ z => by cases z) hb6)⟩
end
end My
namespace My
open PySem L2
section
variable {P : Program} {w : World} {K : PySem.W.Frag} {mg : Str -> Option Value} {base : Heap}
def c4m (P : Program) (w : World) (K : PySem.W.Frag) (mg : Str -> Option Value) (base : Heap) (C zt : Addr) : Sp := fun vs H Q _ => ∃ (a : Addr) (zs : List Str), vs = [.ref a] /\ H a = some (.lst (zs.map V.str)) /\ zs.length <= 24 /\ Pre zs 1 0 /\ (a1q (zs.filter a07)).length <= 6 /\ a3A qFo H zt /\
 ∀ H' r b fa, a7z zt H H' -> a3A qFo H' zt -> CeF C H' r (a1q (zs.filter a07)) (.ref fa) -> FnAt P w K mg base 6 [a, b] H' fa (preN (a1q (zs.filter a07))) (a3j zs (a1q (zs.filter a07))) -> (∃ o, H' b = some (.lst o)) -> Q (.ref r) H'
theorem a85 : a0o ["words", "names"] ["words"] (a0b a2W) := ⟨rfl, rfl, rfl, by decide +kernel, rfl, by decide +kernel, by decide +kernel⟩
theorem c2a (xs : List Str) : (xs.filter fun z => decide (z ∉ ([] : List Str))) = xs := by
 rw [List.filter_eq_self]
 intro z _
 simp
theorem a22 (T : Tops K mg) {R C : Addr} (Z : a9R K mg R) (Y : b64 K mg C) {z : Addr × Addr} (B : DefT K mg "function_of" a0C z) (M : a5Y mg base z.1 z.2) : a0q P w K mg base CX0 6 "read_cells" ["words"] (c4m P w K mg base C z.2) := by
 have G_columns_in : a0q P w K mg base CX0 3 "columns_in" ["words", "others"] (b1l K) := a2k T
 have G_function_of : a0q P w K mg base CX0 1 "function_of" ["words", "names"] (c4J P w K mg base z.2) := a1r T B M
 have GI : a6h P w K mg base CX0 4 C ["self", "names", "function"] (c1P K C) := a2Z T Z Y
 refine T.d_read_cells.known a85 (fun _ _ _ _ _ _ us hl => match us, hl with | [_], _ => rfl) (fun vs H Q E h => ?_) (fun f cdv A outer s H vs Q E hr h => ?_)
 ·obtain ⟨a, zs, rfl, _⟩ := h
  rfl
 ·obtain ⟨a, zs, rfl, ha, hlz, hP, h6, hT, q⟩ := h
  refine ⟨_, (a0e (a0B (i := 1) a85.nd rfl (Or.inl rfl) (a0h G_columns_in (hr.mono (by decide)) a0t (a0a (pv 0) (a0a (a1G a0c) a0c))))
   (a0g (a0l (a87 GI (hr.mono (by decide)) Y.c a0t (a0a (pv 1) (a0a (a0h G_function_of (hr.mono (by decide)) a0t (a0a (pv 0) (a0a (pv 1) a0c))) a0c)))))), ?_⟩
  refine ⟨_, rfl, sl, fun l0 hl0 => ?_⟩
  have s0 := Same.new (o := .lst []) hl0
  refine ⟨a, l0, zs, [], rfl, SqL.of (s0 _ _ ha), SqL.of a0d, hlz, hP, by rw [c2a]; exact h6, fun H1 b s1 hb h1 => ?_⟩
  rw [c2a] at h1
  have s01 := s0.trans s1
  obtain ⟨nl, sub⟩ := c1L hP
  have ol := a4e (zs.filter a07)
  have fl := List.length_filter_le a07 zs
  refine ⟨_, rfl, _, rfl, _, rfl, a, b, zs, _, rfl, s01 _ _ ha, h1, hlz, by omega, hP, ol.1, sub, a0M s01 hT, fun H2 fa s2 tb2 FA => ?_⟩
  have k2 := a2C.tab (a0M s01 hT) s2
  intro x dx hx hdx ne
  have h2b := k2 _ _ (fun φ z => by cases z) h1
  refine ⟨x, dx, b, .ref fa, _, rfl, a0d, SqL.of (by rw [a0m (a0k h2b hx), a0m (a0k h2b hdx)]; exact h2b), h6, nl, fun H3 b3 ce => ⟨rfl, ?_⟩⟩
  have s3 := a2V hx hdx b3
  exact q _ x b fa (a4B (b7m s01) (a4B s2 (b7m s3))) (a0M s3 tb2) ce (FA.keep (b85.of s3)) ⟨_, s3 _ _ h2b⟩
def c5g (K : PySem.W.Frag) (pG C : Addr) : Sp := fun vs H Q _ => ∃ (a fa : Addr) (k n wd : Str), vs = [.ref a] /\ SqL K H a [.str k, .str n, .str wd] /\ Nl k /\ Nl n /\ PySem.W.nsIn K pG wd = some (some (.ref fa)) /\
 ∀ H' r, Same H H' -> H r = none -> KyAt C H' r k n (.ref fa) -> Q (.ref r) H'
theorem b6J : a0o ["words"] ["words"] (a0b a3a) := ⟨rfl, rfl, rfl, by decide +kernel, rfl, by decide +kernel, by decide +kernel⟩
theorem a24 (T : Tops K mg) {R C pG : Addr} (Z : a9R K mg R) (Y : b4l K mg C) (hG : mg "OF_GROUPS" = some (.ref pG)) (D : b9V w.params K pG) : a0q P w K mg base CX0 5 "read_group" ["words"] (c5g K pG C) := by
 have G_refuse_unless : a0q P w K mg base CX0 1 "refuse_unless" ["holds"] a3p := a0D T
 have G_check_names : a0q P w K mg base CX0 2 "check_names" ["words"] (a7u K) := a1t T
 have GI : a6h P w K mg base CX0 3 C ["self", "key", "name", "function"] (c19 K C) := a23 T Z Y
 refine T.d_read_group.known b6J (fun _ _ _ _ _ _ us hl => match us, hl with | [_], _ => rfl) (fun vs H Q E h => ?_) (fun f cdv A outer s H vs Q E hr h => ?_)
 ·obtain ⟨a, fa, k, n, wd, rfl, _⟩ := h
  rfl
 ·obtain ⟨a, fa, k, n, wd, rfl, hq, hk, hn, hw, q⟩ := h
  refine ⟨_, (a0e (a0F (a0h G_refuse_unless (hr.mono (by decide)) a0t (a0a (b1q (a2B a1Y (a0r a1f rfl T.len a6M (a0a (pv 0) a0c)) a0i (a0A _)) (a95 (c3J (c4G D (a0z a0s (pv 0) a0i (fun _ _ => rfl)) (a7a hG)) (by with_unfolding_all rfl)))) a0c)))
   (a0e (a0F (a0h G_check_names (hr.mono (by decide)) a0t (a0a (a3t a9L (pv 0) a6a (a53 a0i)) a0c)))
   (a0g (a0l (a87 GI (hr.mono (by decide)) Y.c a0t (a0a (a0z a0s (pv 0) a0i (fun _ _ => rfl)) (a0a (a0z a0s (pv 0) a0i (fun _ _ => rfl)) (a0a (c0o D (a7a hG) (a0z a0s (pv 0) a0i (fun _ _ => rfl)) (fun _ _ => rfl)) a0c)))))))), ?_⟩
  refine ⟨_, rfl, _, _, rfl, .inl ⟨_, hq, rfl⟩, rfl, _, rfl, iteT ?_⟩
  refine ⟨_, rfl, a, _, _, _, rfl, rfl, hq, rfl, pG, wd, _, rfl, rfl, hw, rfl, ?_⟩
  refine ⟨_, rfl, _, rfl, a, _, rfl, hq, fun c hc => ?_⟩
  have s1 := Same.new (o := .lst (cutV [.str k, .str n, .str wd] none (some 2))) hc
  refine ⟨c, [k, n], rfl, SqL.of a0d, fun z hz => ?_, fun H2 s2 => ?_⟩
  ·simp only [List.mem_cons, List.not_mem_nil, or_false] at hz
   rcases hz with rfl | rfl
   ·exact hk
   ·exact hn
  have s12 := s1.trans s2
  refine ⟨_, rfl, a, _, _, _, rfl, rfl, s12.seq hq, rfl, _, rfl, a, _, _, _, rfl, rfl, s12.seq hq, rfl, _, rfl, a, _, _, _, rfl, rfl, s12.seq hq, rfl, pG, wd, fa, rfl, rfl, hw, fun x dx hx hdx ne => ?_⟩
  refine ⟨x, dx, k, n, .ref fa, rfl, a0d, hk, hn, fun H3 b3 ky => ⟨rfl, q _ x (s12.trans (a2V hx hdx b3)) (a5w s12 hx) ky⟩⟩
abbrev qRl : Str := ("read_lookup" : Str) ++ ".<locals>." ++ "<lambda>"
def c2X (is : List Int) : PyData := .int (is.getD 0 0)
def c3d (P : Program) (w : World) (K : PySem.W.Frag) (mg : Str -> Option Value) (base : Heap) (C zt : Addr) : Sp := fun vs H Q _ => ∃ (a : Addr) (k o th n : Str), vs = [.ref a] /\ H a = some (.lst [.str k, .str o, .str th, .str n]) /\ Nl k /\ Nl o /\ Nl th /\ Nl n /\ a3A qRl H zt /\
 ∀ H' r fa, a7z zt H H' -> a3A qRl H' zt -> LkF C H' r k o th [n] (.ref fa) -> FnAt P w K mg base 4 [] H' fa (fun is => 0 < is.length) c2X -> Q (.ref r) H'
theorem b32 : a0o ["words"] ["words"] (a0b a0G) := ⟨rfl, rfl, rfl, by decide +kernel, rfl, by decide +kernel, by decide +kernel⟩
theorem a1O (T : Tops K mg) {R C : Addr} (Z : a9R K mg R) (Y : b2P K mg C) {z : Addr × Addr} (B : DefT K mg "read_lookup" a0G z) (M : a5Y mg base z.1 z.2) : a0q P w K mg base CX0 6 "read_lookup" ["words"] (c3d P w K mg base C z.2) := by
 have G_refuse_unless : a0q P w K mg base CX0 1 "refuse_unless" ["holds"] a3p := a0D T
 have G_check_names : a0q P w K mg base CX0 2 "check_names" ["words"] (a7u K) := a1t T
 have GI : a6h P w K mg base CX0 4 C ["self", "key", "table", "theirs", "names", "function"] (b8c K C) := a2x T Z Y
 refine B.knownR b32 (fun _ _ _ _ _ _ us hl => match us, hl with | [_], _ => rfl) (fun vs H Q E h => ?_) (fun f A outer s H vs Q E hr h => ?_)
 ·obtain ⟨a, k, o, th, n, rfl, _⟩ := h
  rfl
 ·obtain ⟨a, k, o, th, n, rfl, ha, hk, ho, hth, hn, hT, q⟩ := h
  have hcl : ∀ x, (cxOf CX0 P w K mg base ["words"] "read_lookup" (a0b a0G) f (.ref z.1) A outer s H E).nox.env.scope.names.lookup x = some .cell -> ∃ c, (cxOf CX0 P w K mg base ["words"] "read_lookup" (a0b a0G) f (.ref z.1) A outer s H E).nox.env.cells.lookup x = some c := fun x hx => Option.isSome_iff_exists.mp (PySem.W.cellsFrom_some _ _ _ (.inl hx))
  refine ⟨_, (a8K (b8R (a0F (a0h G_refuse_unless (hr.mono (by decide)) a0t (a0a (a2B a1Y (a0r a1f rfl T.len a6M (a0a (pv 0) a0c)) a0i (a0A _)) a0c))))
   (a8K (b8R (a0F (a0h G_check_names (hr.mono (by decide)) a0t (a0a (pv 0) a0c))))
   (c0f (c1b (a87 GI (hr.mono (by decide)) Y.c a0t (a0a (a0z a0s (pv 0) a0i (fun _ _ => rfl)) (a0a (a0z a0s (pv 0) a0i (fun _ _ => rfl)) (a0a (a0z a0s (pv 0) a0i (fun _ _ => rfl)) (a0a (a1G (a0a (a0z a0s (pv 0) a0i (fun _ _ => rfl)) a0c)) (a0a (b9m M rfl (a4O (sc := a0b a0G) (N := ["words"]) (cp := []) hcl).clos rfl) a0c)))))))))), ?_⟩
  refine ⟨_, rfl, _, _, rfl, .inl ⟨_, SqL.of ha, rfl⟩, rfl, rfl, ?_⟩
  refine ⟨_, rfl, a, [k, o, th, n], rfl, SqL.of ha, fun y hy => ?_, fun H1 s1 => ?_⟩
  ·simp only [List.mem_cons, List.not_mem_nil, or_false] at hy
   rcases hy with rfl | rfl | rfl | rfl <;> assumption
  have ha1 := s1 _ _ ha
  refine ⟨_, rfl, a, _, _, _, rfl, rfl, SqL.of ha1, rfl, _, rfl, a, _, _, _, rfl, rfl, SqL.of ha1, rfl, _, rfl, a, _, _, _, rfl, rfl, SqL.of ha1, rfl, _, rfl, a, _, _, _, rfl, rfl, SqL.of ha1, rfl, sl, fun l hl => ?_⟩
  have s2 := s1.trans (Same.new (o := .lst [.str n]) hl)
  have h2 : upd H1 l (.lst [.str n]) l = some (.lst ([n].map V.str)) := a0d
  generalize upd H1 l (.lst [.str n]) = H2 at s2 h2 ⊢
  refine ⟨a0M s2 hT, fun fa H3 hfa s3 tb3 la => ?_⟩
  have tb2 := a0M s2 hT
  have k3 := a2C.tab tb2 s3
  intro x dx hx hdx ne
  refine ⟨x, dx, l, k, o, th, .ref fa, [n], rfl, a0d, hk, ho, hth, ?_, (show 1 <= 6 by decide), fun y hy => by rw [List.mem_singleton.mp hy]; exact hn, fun H4 b4 ky => ⟨rfl, fun g L => ?_⟩⟩
  ·have h3 := k3 _ _ (fun φ z => by cases z) h2
   exact SqL.of (by rw [a0m (a0k h3 hx), a0m (a0k h3 hdx)]; exact h3)
  ·have s4 := a2V hx hdx b4
   have sL := b1n L
   have la4 := a3R (a2C.of s4) la
   have F := c4C (c1M (sc := a0b a0G) (N := ["words"]) (ps := ["numbers"]) (cp := []) (cv := []) (k := 3) (spB := spBf K [] (fun is => 0 < is.length) c2X) la4 L hcl rfl (fun _ _ _ _ us hl => match us, hl with | [_], _ => rfl) (fun cd A' outer' s' H' vs Q' hr' h' => by
    obtain ⟨l', is, rfl, _, hl', h1', h2', qq⟩ := h'
    refine ⟨_, a0z a0s (pv 0) a0i (fun _ _ => rfl), ?_⟩
    cases is with
    | nil => exact absurd h2' (by decide)
    | cons i r => exact ⟨_, rfl, l', _, _, _, rfl, rfl, SqL.of hl', b2Z _ _, qq _ _ (Same.refl _) (.int _)⟩))
   refine q _ x fa (a9m (a4B (b7m s2) (a4B s3 (b7m s4))) L) (a0M sL (a0M s4 tb3)) (ky.keepC (a2C.of sL)) ⟨_, F, ⟨⟨a3R (a2C.of sL) la4, fun b o e => a3f e⟩, fun p hp => by cases hp⟩, a9q (ls := [])⟩
abbrev qRm : Str := ("read_mend" : Str) ++ ".<locals>." ++ "<lambda>"
def c5D (P : Program) (w : World) (K : PySem.W.Frag) (mg : Str -> Option Value) (base : Heap) (C zt : Addr) : Sp := fun vs H Q _ => ∃ (a : Addr) (n y : Str) (i : Int), vs = [.ref a] /\ H a = some (.lst [.str n, .str y]) /\ Nl n /\ y.length <= 640 /\ numL y.cps.toList = true /\ PySem.intText? y = some i /\ a3A qRm H zt /\
 ∀ H' r fa, a7z zt H H' -> a3A qRm H' zt -> MdF C H' r n (.ref fa) -> FnAt P w K mg base 4 [] H' fa (fun _ => True) (fun _ => .int i) -> Q (.ref r) H'
theorem b0h : a0o ["words", "number"] ["words"] (a0b a0P) := ⟨rfl, rfl, rfl, by decide +kernel, rfl, by decide +kernel, by decide +kernel⟩
theorem a2L (T : Tops K mg) {R C : Addr} (Z : a9R K mg R) (Y : c5e K mg C) {z : Addr × Addr} (B : DefT K mg "read_mend" a0P z) (M : a5Y mg base z.1 z.2) : a0q P w K mg base CX0 6 "read_mend" ["words"] (c5D P w K mg base C z.2) := by
 have G_refuse_unless : a0q P w K mg base CX0 1 "refuse_unless" ["holds"] a3p := a0D T
 have G_writes_number : a0q P w K mg base CX0 1 "writes_number" ["word"] b06 := a03 T
 have G_check_names : a0q P w K mg base CX0 2 "check_names" ["words"] (a7u K) := a1t T
 have GI : a6h P w K mg base CX0 3 C ["self", "name", "function"] (c4X K C) := a4d T Z Y
 refine B.knownR b0h (fun _ _ _ _ _ _ us hl => match us, hl with | [_], _ => rfl) (fun vs H Q E h => ?_) (fun f A outer s H vs Q E hr h => ?_)
 ·obtain ⟨a, n, y, i, rfl, _⟩ := h
  rfl
 ·obtain ⟨a, n, y, i, rfl, ha, hn, hy, hy2, hy3, hT, q⟩ := h
  have hcl : ∀ x, (cxOf CX0 P w K mg base ["words", "number"] "read_mend" (a0b a0P) f (.ref z.1) A outer s H E).nox.env.scope.names.lookup x = some .cell -> ∃ c, (cxOf CX0 P w K mg base ["words", "number"] "read_mend" (a0b a0P) f (.ref z.1) A outer s H E).nox.env.cells.lookup x = some c := fun x hx => Option.isSome_iff_exists.mp (PySem.W.cellsFrom_some _ _ _ (.inl hx))
  refine ⟨_, (a8K (b8R (a0F (a0h G_refuse_unless (hr.mono (by decide)) a0t (a0a (b1q (a2B a1Y (a0r a1f rfl T.len a6M (a0a (pv 0) a0c)) a0i (a0A _)) (a95 (a0h G_writes_number (hr.mono (by decide)) a0t (a0a (a0z a0s (pv 0) a0i (fun _ _ => rfl)) a0c)))) a0c))))
   (a8K (b8R (a0F (a0h G_check_names (hr.mono (by decide)) a0t (a0a (a3t a9L (pv 0) a6a (a53 a0i)) a0c))))
   (a8K (b8R (a0B (i := 1) b0h.nd rfl (by first | exact Or.inl rfl | exact Or.inr rfl) (a1H a5T rfl T.int c27 (a0a (a0z a0s (pv 0) a0i (fun _ _ => rfl)) a0c))))
   (c0f (c1b (a87 GI (hr.mono (by decide)) Y.c a0t (a0a (a0z a0s (pv 0) a0i (fun _ _ => rfl)) (a0a (b9m M rfl (a4O (sc := a0b a0P) (N := ["words", "number"]) (cp := [(1, "number")]) hcl).clos rfl) a0c)))))))), ?_⟩
  refine ⟨_, rfl, _, _, rfl, .inl ⟨_, SqL.of ha, rfl⟩, rfl, _, rfl, iteT ?_⟩
  refine ⟨_, rfl, a, _, _, _, rfl, rfl, SqL.of ha, rfl, y, rfl, by omega, fun H1 s1 => ?_⟩
  rw [hy2]
  have ha1 := s1 _ _ ha
  refine ⟨rfl, _, rfl, _, rfl, a, _, rfl, SqL.of ha1, fun c hc => ?_⟩
  have s2 := s1.trans (Same.new (o := .lst (cutV [.str n, .str y] none (some 1))) hc)
  refine ⟨c, [n], rfl, SqL.of a0d, fun y' hy' => by rw [List.mem_singleton.mp hy']; exact hn, fun H3 s3 => ?_⟩
  have s13 := s2.trans s3
  have ha3 := s13 _ _ ha
  refine ⟨_, rfl, a, _, _, _, rfl, rfl, SqL.of ha3, rfl, y, i, rfl, hy3, hy, ?_⟩
  refine ⟨_, rfl, a, _, _, _, rfl, rfl, SqL.of ha3, rfl, ?_⟩
  have tb3 := a0M s13 hT
  refine ⟨tb3, fun fa H4 hfa s4 tb4 la => ?_⟩
  intro x dx hx hdx ne
  refine ⟨x, dx, n, .ref fa, rfl, a0d, hn, fun H5 b5 ky => ⟨rfl, fun g L => ?_⟩⟩
  have s5 := a2V hx hdx b5
  have sL := b1n L
  have la5 := a3R (a2C.of s5) la
  have F := c4C (c1M (sc := a0b a0P) (N := ["words", "number"]) (ps := ["numbers"]) (cp := [(1, "number")]) (cv := [.int i]) (k := 3) (spB := spBf K [] (fun _ => True) (fun _ => .int i)) la5 L hcl rfl (fun _ _ _ _ us hl => match us, hl with | [_], _ => rfl) (fun cd A' outer' s' H' vs Q' hr' h' => by
   obtain ⟨l', is, rfl, _, hl', h1', h2', qq⟩ := h'
   exact ⟨_, pv 1, _, rfl, qq _ _ (Same.refl _) (.int _)⟩))
  refine q _ x fa (a9m (a4B (b7m s13) (a4B s4 (b7m s5))) L) (a0M sL (a0M s5 tb4)) (ky.keepC (a2C.of sL)) ⟨_, F, ⟨⟨a3R (a2C.of sL) la5, fun b o e => a3f e⟩, fun p hp => by cases hp⟩, a9q (ls := [])⟩
end
end My
namespace My
open PySem L2
section
variable {P : Program} {w : World} {K : PySem.W.Frag} {mg : Str -> Option Value} {base : Heap}
def spFn (K : PySem.W.Frag) (g : List Int -> PyData) : Sp := fun vs H Q _ => ∃ (l : Addr) (is : List Int), vs = [.ref l] /\ SqL K H l (is.map V.int) /\ 0 < is.length /\ is.length <= 100 /\ ∀ H' v, Same H H' -> Dt K H' v (g is) -> Q v H'
def c1X (P : Program) (w : World) (K : PySem.W.Frag) (mg : Str -> Option Value) (base : Heap) (C : Addr) : Sp := fun vs H Q _ => ∃ (p a fa dx : Addr) (fs : List (Str × V)) (g : List Int -> PyData) (is : List Int), vs = [.ref p, .ref a] /\ H p = some (.ins C dx fs) /\ fs.lookup ("function" : Str) = some (.ref fa) /\ FnV P w K mg base 4 fa (spFn K g) /\ SqL K H a (is.map V.int) /\ 0 < is.length /\ is.length <= 100 /\ a3l (g is) /\ a4w (g is) = true /\
 ∀ H' v, Same H H' -> Dt K H' v (g is) -> Q v H'
theorem b3k : a0o ["self", "some"] ["self", "some"] (a0b a0I) := ⟨rfl, rfl, rfl, by decide +kernel, rfl, by decide +kernel, by decide +kernel⟩
theorem b34 (T : Tops K mg) {C : Addr} (Y : b4l K mg C) : a1B P w K mg base CX0 5 C "reckon" ["self", "some"] (c1X P w K mg base C) := by
 obtain ⟨pO, hpO, hO⟩ := T.g_ODD
 have G_settled : a0q P w K mg base CX0 4 "settled" ["thing"] (b2b K pO) := a5l T hpO
 refine Y.m_reckon.known b3k (fun _ _ _ _ _ _ us hl => match us, hl with | [_, _], _ => rfl) (fun vs H Q E h => ?_) (fun f cdv A outer s H vs Q E hr h => ?_)
 ·obtain ⟨p, a, fa, dx, fs, g, is, rfl, _⟩ := h
  rfl
 ·obtain ⟨p, a, fa, dx, fs, g, is, rfl, hp, hf, F, hq, l0, l1, sh, vd, q⟩ := h
  refine ⟨_, (a0g (a0l (a0h G_settled (hr.mono (by decide)) a0t (a0a (c5B (k := 4) (pv 0) (hr.mono (by decide)) (a0a (a1H a6D rfl T.list c1O (a0a (pv 1) a0c)) a0c)) a0c)))), ?_⟩
  refine ⟨_, rfl, p, C, dx, fs, fa, _, rfl, hp, Y.cl, Y.n_function, hf, F, _, rfl, a, _, rfl, .inl hq, fun xl hxl => ?_⟩
  have s1 := Same.new (o := .lst (is.map V.int)) hxl
  refine ⟨xl, is, rfl, SqL.of a0d, l0, l1, fun H3 v s3 hd => ?_⟩
  refine ⟨v, _, rfl, hd, sh, fun H4 s4 => ?_⟩
  rw [if_pos vd]
  exact q H4 v ((s1.trans s3).trans s4) (hd.same s4)
end
end My
namespace My
open PySem L2
def c4t : List Int -> Int
 | [] => 0
 | i :: r => r.foldl (fun a b => if a < b then b else a) i
def b7L : List Int -> Int
 | [] => 0
 | i :: r => r.foldl (fun a b => if b < a then b else a) i
theorem b7S : ∀ (r : List Int) (i : Int), (r.foldl (fun a b => if a < b then b else a) i = i ∨ r.foldl (fun a b => if a < b then b else a) i ∈ r) /\ i <= r.foldl (fun a b => if a < b then b else a) i /\ ∀ a ∈ r, a <= r.foldl (fun a b => if a < b then b else a) i
 | [], i => ⟨.inl rfl, Int.le_refl _, fun a h => by cases h⟩
 | b :: r, i => by
  rw [List.foldl_cons]
  obtain ⟨h1, h2, h3⟩ := b7S r (if i < b then b else i)
  generalize r.foldl (fun a b => if a < b then b else a) (if i < b then b else i) = M at *
  refine ⟨?_, ?_, fun a ha => ?_⟩
  ·rcases h1 with h1 | h1
   ·split at h1
    ·exact .inr (by rw [h1]; exact List.mem_cons_self)
    ·exact .inl h1
   ·exact .inr (List.mem_cons_of_mem _ h1)
  ·split at h2 <;> omega
  ·rcases List.mem_cons.mp ha with rfl | ha
   ·split at h2 <;> omega
   ·exact h3 a ha
theorem b4c : ∀ (r : List Int) (i : Int), (r.foldl (fun a b => if b < a then b else a) i = i ∨ r.foldl (fun a b => if b < a then b else a) i ∈ r) /\ r.foldl (fun a b => if b < a then b else a) i <= i /\ ∀ a ∈ r, r.foldl (fun a b => if b < a then b else a) i <= a
 | [], i => ⟨.inl rfl, Int.le_refl _, fun a h => by cases h⟩
 | b :: r, i => by
  rw [List.foldl_cons]
  obtain ⟨h1, h2, h3⟩ := b4c r (if b < i then b else i)
  generalize r.foldl (fun a b => if b < a then b else a) (if b < i then b else i) = M at *
  refine ⟨?_, ?_, fun a ha => ?_⟩
  ·rcases h1 with h1 | h1
   ·split at h1
    ·exact .inr (by rw [h1]; exact List.mem_cons_self)
    ·exact .inl h1
   ·exact .inr (List.mem_cons_of_mem _ h1)
  ·split at h2 <;> omega
  ·rcases List.mem_cons.mp ha with rfl | ha
   ·split at h2 <;> omega
   ·exact h3 a ha
theorem b2N {is : List Int} (h : 0 < is.length) : c4t is ∈ is /\ ∀ a ∈ is, a <= c4t is := by
 cases is with
 | nil => simp at h
 | cons i r =>
  obtain ⟨h1, h2, h3⟩ := b7S r i
  refine ⟨?_, fun a ha => ?_⟩
  ·show r.foldl _ i ∈ _
   rcases h1 with h1 | h1
   ·rw [h1]; exact List.mem_cons_self
   ·exact List.mem_cons_of_mem _ h1
  ·rcases List.mem_cons.mp ha with rfl | ha
   ·exact h2
   ·exact h3 a ha
theorem a9S {is : List Int} (h : 0 < is.length) : b7L is ∈ is /\ ∀ a ∈ is, b7L is <= a := by
 cases is with
 | nil => simp at h
 | cons i r =>
  obtain ⟨h1, h2, h3⟩ := b4c r i
  refine ⟨?_, fun a ha => ?_⟩
  ·show r.foldl _ i ∈ _
   rcases h1 with h1 | h1
   ·rw [h1]; exact List.mem_cons_self
   ·exact List.mem_cons_of_mem _ h1
  ·rcases List.mem_cons.mp ha with rfl | ha
   ·exact h2
   ·exact h3 a ha
def gSum (is : List Int) : PyData := if numD (.int is.sum) then .int is.sum else c0G
def c6q (is : List Int) : PyData := .int (c4t is)
def c1Z (is : List Int) : PyData := .int (b7L is)
def c4Z (is : List Int) : PyData := .int is.length
def b8I (wd : Str) (g : List Int -> PyData) : Prop := (wd = "sum" /\ g = gSum) ∨ (wd = "most" /\ g = c6q) ∨ (wd = "least" /\ g = c1Z) ∨ (wd = "many" /\ g = c4Z)
theorem b9t : a3l c0G := a9t (by
 intro e he
 simp only [List.mem_cons, List.not_mem_nil, or_false] at he
 rcases he with rfl | rfl
 ·exact a1l (by decide)
 ·exact a1l (by decide))
theorem c0r : a4w c0G = true := by decide +kernel
theorem c4L {n : Nat} (h : n <= 1000) : numD (.int (n : Int)) = true := b6Z (by
 have : (0 : Int) < F60 := c1q
 generalize F60 = F at *
 omega) (by
 have : (1000 : Int) < F60 := by decide +kernel
 generalize F60 = F at *
 omega)
theorem c6d {wd : Str} {g : List Int -> PyData} (h : b8I wd g) {is : List Int} (l0 : 0 < is.length) (l1 : is.length <= 100) (hb : ∀ i ∈ is, bnd F60 i) : ((∃ n, g is = .int n /\ bnd F60 n) ∨ g is = c0G) /\ a3l (g is) /\ a4w (g is) = true := by
 have ofInt : ∀ n, numD (.int n) = true -> g is = .int n -> a3l (g is) /\ a4w (g is) = true := fun n hn e => by rw [e]; exact ⟨a84, b8D hn⟩
 rcases h with ⟨rfl, rfl⟩ | ⟨rfl, rfl⟩ | ⟨rfl, rfl⟩ | ⟨rfl, rfl⟩
 ·by_cases c : bnd F60 is.sum
  ·have e : gSum is = .int is.sum := if_pos (a47 c)
   exact ⟨.inl ⟨_, e, c⟩, ofInt _ (a47 c) e⟩
  ·have e : gSum is = c0G := if_neg (by rw [b52 c]; exact Bool.false_ne_true)
   exact ⟨.inr e, by rw [e]; exact ⟨b9t, c0r⟩⟩
 ·have b := hb _ (b2N l0).1
  exact ⟨.inl ⟨_, rfl, b⟩, ofInt _ (a47 b) rfl⟩
 ·have b := hb _ (a9S l0).1
  exact ⟨.inl ⟨_, rfl, b⟩, ofInt _ (a47 b) rfl⟩
 ·refine ⟨.inl ⟨_, rfl, ?_⟩, ofInt _ (c4L (by omega)) rfl⟩
  have : (1000 : Int) < F60 := by decide +kernel
  unfold bnd
  generalize F60 = F at *
  omega
section
variable {P : Program} {w : World} {K : PySem.W.Frag} {mg : Str -> Option Value} {base : Heap}
theorem c5n : a0o ["numbers"] ["numbers"] (a0b a8M) := ⟨rfl, rfl, rfl, by decide +kernel, rfl, by decide +kernel, by decide +kernel⟩
theorem a83 (T : Tops K mg) : a0q P w K mg base CX0 4 "sum_of" ["numbers"] (spFn K gSum) := by
 obtain ⟨p, hp, hO⟩ := T.g_GREAT
 have G_bounded : a0q P w K mg base CX0 3 "bounded" ["number"] (a8G p) := a5y T hp
 refine T.d_sum_of.known c5n (fun _ _ _ _ _ _ us hl => match us, hl with | [_], _ => rfl) (fun vs H Q E h => ?_) (fun f cdv A outer s H vs Q E hr h => ?_)
 ·obtain ⟨l, is, rfl, _⟩ := h
  rfl
 ·obtain ⟨l, is, rfl, hq, l0, l1, q⟩ := h
  refine ⟨_, (a0g (a0l (a0h G_bounded (hr.mono (by decide)) a0t (a0a (a0r (c4B rfl) rfl T.sum d0n (a0a (pv 0) a0c)) a0c)))), ?_⟩
  refine ⟨_, rfl, l, is, rfl, hq, _, rfl, q _ _ (Same.refl _) ?_⟩
  unfold gSum
  split
  ·exact .int _
  ·exact .tup (hO H) (.cons (.str _) (.cons (.str _) .nil))
theorem c2K : a0o ["numbers"] ["numbers"] (a0b a64) := ⟨rfl, rfl, rfl, by decide +kernel, rfl, by decide +kernel, by decide +kernel⟩
theorem a6w (T : Tops K mg) : a0q P w K mg base CX0 4 "most_of" ["numbers"] (spFn K c6q) := by
 refine T.d_most_of.known c2K (fun _ _ _ _ _ _ us hl => match us, hl with | [_], _ => rfl) (fun vs H Q E h => ?_) (fun f cdv A outer s H vs Q E hr h => ?_)
 ·obtain ⟨l, is, rfl, _⟩ := h
  rfl
 ·obtain ⟨l, is, rfl, hq, l0, l1, q⟩ := h
  refine ⟨_, (a0g (a0l (a0r (c46 rfl) rfl T.max c8N (a0a (pv 0) a0c)))), ?_⟩
  refine ⟨_, rfl, l, is, rfl, hq, l0, fun M m1 m2 => q _ _ (Same.refl _) ?_⟩
  obtain ⟨n1, n2⟩ := b2N l0
  have : M = c4t is := Int.le_antisymm (n2 M m1) (m2 _ n1)
  rw [this]
  exact .int _
theorem b9Y : a0o ["numbers"] ["numbers"] (a0b a5e) := ⟨rfl, rfl, rfl, by decide +kernel, rfl, by decide +kernel, by decide +kernel⟩
theorem a5p (T : Tops K mg) : a0q P w K mg base CX0 4 "least_of" ["numbers"] (spFn K c1Z) := by
 refine T.d_least_of.known b9Y (fun _ _ _ _ _ _ us hl => match us, hl with | [_], _ => rfl) (fun vs H Q E h => ?_) (fun f cdv A outer s H vs Q E hr h => ?_)
 ·obtain ⟨l, is, rfl, _⟩ := h
  rfl
 ·obtain ⟨l, is, rfl, hq, l0, l1, q⟩ := h
  refine ⟨_, (a0g (a0l (a0r (c3w rfl) rfl T.min c9q (a0a (pv 0) a0c)))), ?_⟩
  refine ⟨_, rfl, l, is, rfl, hq, l0, fun M m1 m2 => q _ _ (Same.refl _) ?_⟩
  obtain ⟨n1, n2⟩ := a9S l0
  have : M = b7L is := Int.le_antisymm (m2 _ n1) (n2 M m1)
  rw [this]
  exact .int _
theorem b9B : a0o ["numbers"] ["numbers"] (a0b a5o) := ⟨rfl, rfl, rfl, by decide +kernel, rfl, by decide +kernel, by decide +kernel⟩
theorem a5v (T : Tops K mg) : a0q P w K mg base CX0 4 "how_many" ["numbers"] (spFn K c4Z) := by
 refine T.d_how_many.known b9B (fun _ _ _ _ _ _ us hl => match us, hl with | [_], _ => rfl) (fun vs H Q E h => ?_) (fun f cdv A outer s H vs Q E hr h => ?_)
 ·obtain ⟨l, is, rfl, _⟩ := h
  rfl
 ·obtain ⟨l, is, rfl, hq, l0, l1, q⟩ := h
  refine ⟨_, (a0g (a0l (a0r a1f rfl T.len a6M (a0a (pv 0) a0c)))), ?_⟩
  refine ⟨_, rfl, _, _, rfl, .inl ⟨_, hq, rfl⟩, ?_⟩
  rw [List.length_map]
  exact q _ _ (Same.refl _) (.int _)
theorem c5K (T : Tops K mg) (TD : Dcs w.params K mg) {pG : Addr} (hG : mg "OF_GROUPS" = some (.ref pG)) {wd : Str} (hw : wd = "sum" ∨ wd = "most" ∨ wd = "least" ∨ wd = "many") :
 ∃ fa g, PySem.W.nsIn K pG wd = some (some (.ref fa)) /\ b8I wd g /\ FnV P w K mg base 4 fa (spFn K g) := by
 obtain ⟨p, hp, _, ⟨f0, m0, n0⟩, ⟨f1, m1, n1⟩, ⟨f2, m2, n2⟩, f3, m3, n3⟩ := TD.g_OF_GROUPS
 rw [hG] at hp
 cases hp
 have fin : ∀ {x : Str} {f : Addr} {g : List Int -> PyData}, a0q P w K mg base CX0 4 x ["numbers"] (spFn K g) -> mg x = some (.ref f) -> FnV P w K mg base 4 f (spFn K g) := fun G m => by
  obtain ⟨f', m', F⟩ := G.fnv
  rw [m] at m'
  cases m'
  exact F
 rcases hw with rfl | rfl | rfl | rfl
 ·exact ⟨f0, gSum, n0, .inl ⟨rfl, rfl⟩, fin (a83 T) m0⟩
 ·exact ⟨f1, c6q, n1, .inr (.inl ⟨rfl, rfl⟩), fin (a6w T) m1⟩
 ·exact ⟨f2, c1Z, n2, .inr (.inr (.inl ⟨rfl, rfl⟩)), fin (a5p T) m2⟩
 ·exact ⟨f3, c4Z, n3, .inr (.inr (.inr ⟨rfl, rfl⟩)), fin (a5v T) m3⟩
end
end My
set_option maxHeartbeats 1000000
namespace My
open PySem L2
def WVb (H : Hp) (v : V) : Prop := WV H v /\ ∀ i, v = .int i -> bnd F60 i
theorem WVb.int {H : Hp} {i : Int} (h : bnd F60 i) : WVb H (.int i) := ⟨.inl ⟨i, rfl⟩, fun j e => by cases e; exact h⟩
theorem c6s : ∀ z ∈ (["odd", "lacks", "a"] : List Str), Nl z := by unfold Nl; decide +kernel
theorem b9w (c : Int) {n : Int} (h : 0 < n) : 0 <= c % n /\ c % n < n := ⟨Int.emod_nonneg _ (by omega), Int.emod_lt_of_pos _ h⟩
theorem c7u {zs : List Str} {i : Int} (h0 : 0 <= i) (h : i < zs.length) : ∃ z, atI (zs.map V.str) i = some (.str z) /\ z ∈ zs := by
 obtain ⟨v, h1, h2⟩ := c0O (zs.map V.str) i h0 (by rw [List.length_map]; exact h)
 rw [List.getElem?_map] at h2
 cases e : zs[i.toNat]? with
 | none => rw [e] at h2; cases h2
 | some z => rw [e] at h2; cases h2; exact ⟨z, h1, List.mem_of_getElem? e⟩
section
variable {P : Program} {w : World} {K : PySem.W.Frag} {mg : Str -> Option Value} {base : Heap}
def c4z : Sp := fun vs H Q _ => ∃ n : Int, vs = [.int n] /\ ∀ H' v, Same H H' -> WVb H' v -> Q v H'
theorem b0g : a0o ["_law_cell_here", "_law_far"] ["_law_cell_here"] (a0b a3S) := ⟨rfl, rfl, rfl, by decide +kernel, rfl, by decide +kernel, by decide +kernel⟩
theorem a3T (T : Tops K mg) : a0q P w K mg base CX0 1 "_law_value" ["_law_cell_here"] c4z := by
 refine T.d_law_value.known b0g (fun _ _ _ _ _ _ us hl => match us, hl with | [_], _ => rfl) (fun vs H Q E h => ?_) (fun f cdv A outer s H vs Q E hr h => ?_)
 ·obtain ⟨n, rfl, _⟩ := h
  rfl
 ·obtain ⟨n, rfl, q⟩ := h
  refine ⟨_, (a0e (a0B (i := 1) b0g.nd rfl (Or.inl rfl) (a0E a80 (a0E c1S a0i a0i) a0i))
   (a0e (a0J (a0v a1Y (a0E a14 (pv 0) a0i) a0i (a0A _)) (a0g (a0l (a16 (a0a a0u (a0a (a0z a0s (a1G (a0a a0u (a0a a0u (a0a a0u a0c)))) (a0E a14 (a0E b1j (pv 0) a0i) a0i) (fun _ _ => rfl)) a0c))))) a0p)
   (a0e (a0J (a0v a1Y (a0E a14 (pv 0) a0i) a0i (a0A _)) (a0g (a0l (a0E a80 (a0E a14 (a0E b1j (pv 0) a0i) (a0E a2D (a0E b4j a0i (pv 1)) a0i)) (pv 1)))) a0p)
   (a0g (a0l (a0E a80 (a0E a14 (a0E b1j (pv 0) a0i) a0i) a0i)))))), ?_⟩
  have pos := c1q
  have big : (1000 : Int) < F60 := by decide +kernel
  refine ⟨_, _, rfl, rfl, ⟨by decide, by decide, by decide⟩, _, _, rfl, rfl, ?_⟩
  refine ⟨_, rfl, _, _, rfl, rfl, (show (0 : Int) < 7 by decide), rfl, _, rfl, ?_⟩
  refine ite2 (fun h1 => ?_) (fun h1 => ?_)
  ·refine ⟨sl, fun l hl => ?_⟩
   obtain ⟨m0, m1⟩ := b9w (n / 7) (n := 3) (by decide)
   obtain ⟨z, hz, hm⟩ := c7u (zs := ["odd", "lacks", "a"]) m0 m1
   refine ⟨_, rfl, _, _, rfl, rfl, ⟨by decide, by decide⟩, _, _, rfl, rfl, (show (0 : Int) < 3 by decide), l, _, _, _, rfl, rfl, SqL.of a0d, hz, sl, fun a ha => ?_⟩
   exact q _ _ ((Same.new hl).trans (Same.new ha)) ⟨.inr ⟨a, z, rfl, a0d, c6s z hm⟩, fun i e => by cases e⟩
  refine ⟨_, rfl, _, _, rfl, rfl, (show (0 : Int) < 7 by decide), rfl, _, rfl, ?_⟩
  refine ite2 (fun h1 => ?_) (fun h1 => ?_)
  ·refine ⟨_, rfl, _, _, rfl, rfl, ⟨by decide, by decide⟩, _, rfl, _, _, rfl, rfl, .inl ⟨by decide, by decide⟩, _, _, rfl, rfl, _, _, rfl, rfl, ?_, _, rfl, _, _, rfl, rfl, q _ _ (Same.refl _) (.int ?_)⟩
   ·show (0 : Int) < 2 * (F60 - 1) + 1
    generalize F60 = F at *
    omega
   ·show bnd F60 (n / 7 % (2 * (F60 - 1) + 1) - (F60 - 1))
    unfold bnd
    generalize F60 = F at *
    have e1 := Int.emod_nonneg (n / 7) (show (2 * (F - 1) + 1 : Int) ≠ 0 by omega)
    have e2 := Int.emod_lt_of_pos (n / 7) (show (0 : Int) < 2 * (F - 1) + 1 by omega)
    omega
  ·refine ⟨_, rfl, _, _, rfl, rfl, ⟨by decide, by decide⟩, _, _, rfl, rfl, (show (0 : Int) < 5 by decide), _, _, rfl, rfl, q _ _ (Same.refl _) (.int ?_)⟩
   show bnd F60 (n / 7 % 5 - 2)
   unfold bnd
   generalize F60 = F at *
   omega
end
end My
set_option maxHeartbeats 1000000
namespace My
open PySem L2
def Vd7 (d : PyData) : Prop := (∃ i, d = .int i /\ bnd F60 i) ∨ ∃ z, Nl z /\ d = .tuple [.str "fault", .str z]
def isT : PyData -> Bool
 | .tuple _ => true
 | _ => false
theorem Vd7.lay {d : PyData} (h : Vd7 d) : d.canLay0 = true /\ d.depth <= 64 := by
 rcases h with ⟨i, rfl, _⟩ | ⟨z, hz, rfl⟩
 ·exact ⟨rfl, (show 0 <= 64 by decide)⟩
 ·refine ⟨?_, (show 1 <= 64 by decide)⟩
  have lz := Nl.lay hz
  have l1 : PyData.canLay0 (.str ("fault" : Str)) = true := by decide +kernel
  simp only [PyData.canLay0, PyData.canLayAll0, Bool.and_true, Bool.and_eq_true] at l1 lz ⊢
  exact ⟨l1, lz⟩
theorem Vd7.isT {d : PyData} (h : Vd7 d) : decide (kdD d = .tup) = My.isT d := by
 rcases h with ⟨i, rfl, _⟩ | ⟨z, hz, rfl⟩ <;> rfl
abbrev c1D : PyData := .tuple [.str "fault", .str "lacks"]
def lkF (own : PyData) : List PyData -> List PyData -> PyData
 | t :: ts, n :: ns => if PyData.eqv t own then n else lkF own ts ns
 | _, _ => c1D
def c3j (ks ts ns : List PyData) (p : Nat) : PyData := if isT (ks.getD p .none) then ks.getD p .none else lkF (ks.getD p .none) ts ns
theorem b01 : Nl ("great" : Str) := ⟨by decide, by decide, by decide +kernel⟩
theorem b76 : Nl ("nought" : Str) := ⟨by decide, by decide, by decide +kernel⟩
theorem c1I : Nl ("lacks" : Str) := ⟨by decide, by decide, by decide +kernel⟩
def Pv7 (K : PySem.W.Frag) (H : Hp) (v : V) (d : PyData) : Prop := (∃ i, v = .int i /\ d = .int i /\ bnd F60 i) ∨ ∃ a y, v = .ref a /\ H a = some (.tup [.str ("fault" : Str), .str y]) /\ d = .tuple [.str "fault", .str y] /\ Nl y
theorem Pv7.dt {K : PySem.W.Frag} {H : Hp} {v : V} {d : PyData} (h : Pv7 K H v d) : Dt K H v d := by
 rcases h with ⟨i, rfl, rfl, _⟩ | ⟨a, y, rfl, h, rfl, _⟩
 ·exact .int i
 ·exact .tup (SqT.of h) (.cons (.str _) (.cons (.str _) .nil))
theorem Pv7.vd {K : PySem.W.Frag} {H : Hp} {v : V} {d : PyData} (h : Pv7 K H v d) : Vd7 d := by
 rcases h with ⟨i, rfl, rfl, hb⟩ | ⟨a, y, rfl, h, rfl, hy⟩
 ·exact .inl ⟨i, rfl, hb⟩
 ·exact .inr ⟨y, hy, rfl⟩
theorem Pv7.wv {K : PySem.W.Frag} {H : Hp} {v : V} {d : PyData} (h : Pv7 K H v d) : WV H v := by
 rcases h with ⟨i, rfl, rfl, hb⟩ | ⟨a, y, rfl, h, rfl, hy⟩
 ·exact .inl ⟨i, rfl⟩
 ·exact .inr ⟨a, y, rfl, h, hy⟩
theorem Pv7.keep {K : PySem.W.Frag} {H H' : Hp} {v : V} {d : PyData} (s : Keep H H') (h : Pv7 K H v d) : Pv7 K H' v d := by
 rcases h with h | ⟨a, y, rfl, h, rfl, hy⟩
 ·exact .inl h
 ·exact .inr ⟨a, y, rfl, s _ _ (fun xs e => by cases e) h, rfl, hy⟩
theorem Pv7.same {K : PySem.W.Frag} {H H' : Hp} {v : V} {d : PyData} (h : Pv7 K H v d) (s : Same H H') : Pv7 K H' v d := h.keep (Keep.of s)
theorem Pv7.num {K : PySem.W.Frag} {H : Hp} {i : Int} (h : bnd F60 i) : Pv7 K H (.int i) (.int i) := .inl ⟨i, rfl, rfl, h⟩
abbrev PvA (K : PySem.W.Frag) (H : Hp) : List V -> List PyData -> Prop := Paired (Pv7 K H)
def a88 (K : PySem.W.Frag) (H : Hp) (d : Addr) (cd : Str -> Option (List PyData)) : Prop := ∃ kvs, H d = some (.dK kvs) /\ ∀ z ds, cd z = some ds -> ∃ l xs, valV kvs (.inr z) = some (.ref l) /\ H l = some (.lst xs) /\ PvA K H xs ds
theorem a11 {xs : List V} {i : Nat} {v : V} (h : xs[i]? = some v) : atI xs (i : Int) = some v := by
 have hi := (List.getElem?_eq_some_iff.mp h).1
 obtain ⟨u, h1, h2⟩ := c0O xs (i : Int) (by omega) (by omega)
 rw [Int.toNat_natCast, h] at h2
 cases h2
 exact h1
section
variable {P : Program} {w : World} {K : PySem.W.Frag} {mg : Str -> Option Value} {base : Heap}
theorem PvA.at {H : Hp} : ∀ {xs : List V} {ds : List PyData} {i : Nat}, PvA K H xs ds -> i < ds.length -> ∃ v d, xs[i]? = some v /\ ds[i]? = some d /\ Pv7 K H v d
 | _, _, _, .nil, h => by simp at h
 | _, _, 0, .cons h _, _ => ⟨_, _, rfl, rfl, h⟩
 | _, _, i + 1, .cons _ t, h => by
  obtain ⟨v, d, h1, h2, h3⟩ := PvA.at (i := i) t (by simpa using h)
  exact ⟨v, d, by simpa using h1, by simpa using h2, h3⟩
theorem PvA.keep {H H' : Hp} (s : Keep H H') : ∀ {xs : List V} {ds : List PyData}, PvA K H xs ds -> PvA K H' xs ds
 | _, _, .nil => .nil
 | _, _, .cons h t => .cons (h.keep s) (PvA.keep s t)
theorem PvA.same {H H' : Hp} {xs : List V} {ds : List PyData} (h : PvA K H xs ds) (s : Same H H') : PvA K H' xs ds := PvA.keep (Keep.of s) h
theorem PvA.snoc {H : Hp} {v : V} {d : PyData} (h : Pv7 K H v d) : ∀ {xs : List V} {ds : List PyData}, PvA K H xs ds -> PvA K H (xs ++ [v]) (ds ++ [d])
 | _, _, .nil => .cons h .nil
 | _, _, .cons r t => .cons r (PvA.snoc h t)
def c9j (K : PySem.W.Frag) : Sp := fun vs H Q _ => ∃ (d : Addr) (p : Nat) (k th n : Str) (cd : Str -> Option (List PyData)) (ks ts ns : List PyData), vs = [.ref d, .int (p : Int), .str k, .str th, .str n] /\ a88 K H d cd /\ cd k = some ks /\ cd th = some ts /\ cd n = some ns /\ ks.length <= 30 /\ ts.length = ks.length /\ ns.length = ks.length /\ p < ks.length /\
 ∀ H' v, Same H H' -> Pv7 K H' v (c3j ks ts ns p) -> Q v H'
abbrev Nlk7 : List Str := ["_law_held", "_law_place", "_law_key", "_law_theirs", "_law_name", "_law_at"]
theorem a8I : a0o Nlk7 ["_law_held", "_law_place", "_law_key", "_law_theirs", "_law_name"] (a0b a2U) := ⟨rfl, rfl, rfl, by decide +kernel, rfl, by decide +kernel, by decide +kernel⟩
theorem a29 (T : Tops K mg) : a0q P w K mg base CX0 1 "_law_lookup" ["_law_held", "_law_place", "_law_key", "_law_theirs", "_law_name"] (c9j K) := by
 refine T.d_law_lookup.known a8I (fun _ _ _ _ _ _ us hl => match us, hl with | [_, _, _, _, _], _ => rfl) (fun vs H Q E h => ?_) (fun f cdv A outer s H vs Q E hr h => ?_)
 ·obtain ⟨d, p, k, th, n, cd, ks, ts, ns, rfl, _⟩ := h
  rfl
 ·obtain ⟨d, p, k, th, n, cd, ks, ts, ns, rfl, ⟨kvs, hd, hh⟩, hk, ht, hn, l30, lt, ln, hp, q⟩ := h
  have hu := Nat.lt_of_le_of_lt (Nat.add_le_add_left (show 1 <= 64 by decide) _) hr.units
  obtain ⟨lk, xk, vk, hlk, ak⟩ := hh k ks hk
  obtain ⟨lt', xt, vt, hlt, at'⟩ := hh th ts ht
  obtain ⟨ln', xn, vn, hln, an⟩ := hh n ns hn
  obtain ⟨vo, o, e1, e2, po⟩ := PvA.at ak hp
  have ho := po.dt
  have ov : Vd7 o := po.vd
  have eo : ks.getD p .none = o := by rw [List.getD_eq_getElem?_getD, e2]; rfl
  have dg : ∀ {z : Str} {l : Addr}, valV kvs (.inr z) = some (.ref l) -> DGet H d (.str z) (some (.ref l)) := fun {z l} hv => .inl ⟨kvs, .inr z, .inl hd, rfl, hv.symm⟩
  refine ⟨_, (a0e (a0J (a05 (a0r a0Y rfl T.isinstance a0w (a0a (a0z a0s (a0R hu (pv 0) (pv 2) (fun _ _ => rfl)) (pv 1) (fun _ _ => rfl)) (a0a (a5E T.tuple a3L) a0c))) (fun _ => rfl)) (a0g (a0l (a0z a0s (a0R hu (pv 0) (pv 2) (fun _ _ => rfl)) (pv 1) (fun _ _ => rfl)))) a0p)
   (a0e (a4m PassesOwn.never rfl (a3H rfl T.range (a0a (a0r a1f rfl T.len a6M (a0a (a0R hu (pv 0) (pv 3) (fun _ _ => rfl)) a0c)) a0c)) (a0Q (i := 5) a8I.nd rfl (Or.inl rfl)) (a0g (a0J (a0v (c2d hr.units) (a0z a0s (a0R hu (pv 0) (pv 3) (fun _ _ => rfl)) (pv 5) (fun _ _ => rfl)) (a0z a0s (a0R hu (pv 0) (pv 2) (fun _ _ => rfl)) (pv 1) (fun _ _ => rfl)) (a0A _)) (a0g (a0l (a0z a0s (a0R hu (pv 0) (pv 4) (fun _ _ => rfl)) (pv 5) (fun _ _ => rfl)))) a0p)))
   (a0g (a0l (a16 (a0a a0u (a0a a0u a0c))))))), ?_⟩
  refine ⟨_, rfl, _, rfl, d, _, rfl, dg vk, _, rfl, lk, _, _, _, rfl, rfl, SqL.of hlk, a11 e1, _, "tuple", o, _, rfl, ho, a1h K _, _, rfl, ?_⟩
  rw [ov.isT]
  refine ite2 (fun h1 => ?_) (fun h1 => ?_)
  ·refine ⟨_, rfl, _, rfl, d, _, rfl, dg vk, _, rfl, lk, _, _, _, rfl, rfl, SqL.of hlk, a11 e1, q _ _ (Same.refl H) ?_⟩
   unfold c3j
   rw [eo, if_pos h1]
   exact po
  have q : ∀ H' v, Same H H' -> Pv7 K H' v (lkF o ts ns) -> Q v H' := fun H' v s' hd' => q H' v s' (by unfold c3j; rw [eo, if_neg h1]; exact hd')
  refine ⟨_, rfl, _, rfl, d, _, rfl, dg vt, _, _, rfl, .inl ⟨_, SqL.of hlt, rfl⟩, _, rfl, ?_, ?_, ?_⟩
  ·omega
  ·have := at'.length; omega
  refine a5g (lo := 0) (n := xt.length) (fun i σ H2 => ∃ o5, σ = [some (.ref d), some (.int (p : Int)), some (.str k), some (.str th), some (.str n), o5] /\ H2 = H /\ lkF o (ts.drop i) (ns.drop i) = lkF o ts ns) ⟨_, rfl, rfl, rfl⟩ ?_ ?_
  ·rintro i σ H2 hi ⟨o5, rfl, rfl, hl⟩
   have hit : i < ts.length := by have := at'.length; omega
   obtain ⟨v1, d1, f1, f2, p3⟩ := PvA.at at' hit
   have f3 := p3.dt
   obtain ⟨v2, d2, f4, f5, f6⟩ := PvA.at (i := i) an (by omega)
   have g1 : Vd7 d1 := p3.vd
   have c1 : ts.drop i = d1 :: ts.drop (i + 1) := a42 f2
   have c2 : ns.drop i = d2 :: ns.drop (i + 1) := a42 f5
   rw [c1, c2] at hl
   have z0 : (0 : Int) + (i : Int) = (i : Int) := by omega
   refine ⟨_, rfl, _, rfl, d, _, rfl, dg vt, _, rfl, lt', _, _, _, rfl, rfl, SqL.of hlt, (by rw [z0]; exact a11 f1), _, rfl, _, rfl, d, _, rfl, dg vk, _, rfl, lk, _, _, _, rfl, rfl, SqL.of hlk, a11 e1, d1, o, f3, ho, g1.lay.1, ov.lay.1, g1.lay.2, _, rfl, ?_⟩
   refine ite2 (fun h2 => ?_) (fun h2 => ?_)
   ·refine ⟨_, rfl, _, rfl, d, _, rfl, dg vn, _, rfl, ln', _, _, _, rfl, rfl, SqL.of hln, (by rw [z0]; exact a11 f4), q _ _ (Same.refl _) ?_⟩
    rw [<- hl]
    unfold lkF
    rw [if_pos h2]
    exact f6
   ·refine ⟨_, rfl, rfl, ?_⟩
    rw [<- hl]
    conv => rhs; unfold lkF
    rw [if_neg h2]
  ·rintro σ H2 ⟨o5, rfl, rfl, hl⟩
   refine ⟨sl, fun a ha => q _ _ (Same.new ha) ?_⟩
   have e3 : ts.drop xt.length = [] := List.drop_eq_nil_of_le (by have := at'.length; omega)
   rw [e3] at hl
   rw [<- hl]
   exact .inr ⟨a, _, rfl, a0d, rfl, c1I⟩
end
end My
set_option maxHeartbeats 1000000
namespace My
open PySem L2
theorem c5z : ∀ s ∈ sgns, (!(Builtin.Str.occurrences ("/:" : Str) s 0 ("/:" : Str).length 1).isEmpty) = decide (s = "/" ∨ s = ":") := by decide +kernel
abbrev sgK (a b c d e : V) : List (Key × V) := [(.inr "+", a), (.inr "-", b), (.inr "*", c), (.inr "<", d), (.inr "=", e)]
theorem c8F (a b c d e : V) : valV (a3k [] (sgK a b c d e)) (.inr "+") = some a /\ valV (a3k [] (sgK a b c d e)) (.inr "-") = some b /\ valV (a3k [] (sgK a b c d e)) (.inr "*") = some c /\ valV (a3k [] (sgK a b c d e)) (.inr "<") = some d /\ valV (a3k [] (sgK a b c d e)) (.inr "=") = some e := ⟨rfl, rfl, rfl, rfl, rfl⟩
theorem c8T (x y : Int) : (if decide (x < y) = true then (1 : Int) else 0) = if x < y then 1 else 0 := by
 by_cases c : x < y <;> simp [c]
theorem c9A (x y : Int) : (if decide (V.int x = V.int y) = true then (1 : Int) else 0) = if x = y then 1 else 0 := by
 by_cases c : x = y
 ·subst c; simp
 ·have : ¬ V.int x = V.int y := fun z => c (V.int.inj z)
  simp [c]
section
variable {P : Program} {w : World} {K : PySem.W.Frag} {mg : Str -> Option Value} {base : Heap}
def b6o (K : PySem.W.Frag) : Sp := fun vs H Q _ => ∃ (s : Str) (v1 v2 : V) (d1 d2 : PyData), vs = [.str s, v1, v2] /\ s ∈ sgns /\ Pv7 K H v1 d1 /\ Pv7 K H v2 d2 /\ ∀ H' v, Same H H' -> Pv7 K H' v (a6Z s d1 d2) -> Q v H'
abbrev Nsg : List Str := ["_law_sign", "_law_one", "_law_other", "_law_some", "_law_found"]
theorem a2s : a0o Nsg ["_law_sign", "_law_one", "_law_other"] (a0b a1F) := ⟨rfl, rfl, rfl, by decide +kernel, rfl, by decide +kernel, by decide +kernel⟩
theorem a2h (T : Tops K mg) : a0q P w K mg base CX0 1 "_law_signed" ["_law_sign", "_law_one", "_law_other"] (b6o K) := by
 refine T.d_law_signed.known a2s (fun _ _ _ _ _ _ us hl => match us, hl with | [_, _, _], _ => rfl) (fun vs H Q E h => ?_) (fun f cdv A outer s H vs Q E hr h => ?_)
 ·obtain ⟨sg, v1, v2, d1, d2, rfl, _⟩ := h
  rfl
 ·obtain ⟨sg, v1, v2, d1, d2, rfl, hsg, h1, h2, q⟩ := h
  have hu := Nat.lt_of_le_of_lt (Nat.add_le_add_left (show 1 <= 64 by decide) _) hr.units
  have rest : ∃ t, PSs (cxOf CX0 P w K mg base Nsg "_law_signed" (a0b a1F) f cdv A outer s H E).nox ((a0j a1F).drop 7) t /\
   ∀ (W : Int) (H1 : Hp) (o1 o2 o3 : V), (∀ H' v, Same H1 H' -> Pv7 K H' v (bndD W) -> Q v H') -> t { nx := fun _ H' => Q .non H', rt := Q } [some (.str sg), some o1, some o2, some o3, some (.int W)] H1 := by
   refine ⟨_, (a0e (a0J (a0v c9Q (a0r b5B rfl T.abs c8d (a0a (pv 4) a0c)) (a0E c1S a0i a0i) (a0A _)) (a0g (a0l (a16 (a0a a0u (a0a a0u a0c))))) a0p)
    (a0g (a0l (pv 4)))), ?_⟩
   intro W H1 o1 o2 o3 k
   refine ⟨_, rfl, W, rfl, _, _, rfl, rfl, ⟨by decide, by decide, by decide⟩, _, _, rfl, rfl, _, rfl, ?_⟩
   unfold bndD at k
   by_cases cc : bnd F60 W
   ·rw [if_pos (a47 cc)] at k
    have : decide ((if W < 0 then -W else W) >= F60) = false := decide_eq_false (by
     obtain ⟨c1, c2⟩ := cc
     generalize F60 = F at *
     split <;> omega)
    rw [this]
    exact iteF ⟨_, rfl, k _ _ (Same.refl _) (.inl ⟨W, rfl, rfl, cc⟩)⟩
   ·rw [b52 cc, if_neg Bool.false_ne_true] at k
    have : decide ((if W < 0 then -W else W) >= F60) = true := decide_eq_true (by
     unfold bnd at cc
     generalize F60 = F at *
     split <;> omega)
    rw [this]
    refine iteT ⟨sl, fun t1 ht1 => ?_⟩
    exact k _ _ (Same.new ht1) (.inr ⟨t1, _, rfl, a0d, rfl, b01⟩)
  obtain ⟨tR, hR, qR⟩ := rest
  refine ⟨_, (a0e (a0J (a05 (a0r a0Y rfl T.isinstance a0w (a0a (pv 1) (a0a (a5E T.tuple a3L) a0c))) (fun _ => rfl)) (a0g (a0l (pv 1))) a0p)
   (a0e (a0J (a05 (a0r a0Y rfl T.isinstance a0w (a0a (pv 2) (a0a (a5E T.tuple a3L) a0c))) (fun _ => rfl)) (a0g (a0l (pv 2))) a0p)
   (a0e (a0J (PW.pt (c6O (a0v b1T (pv 0) a0u (by with_unfolding_all rfl)) (c3W (a0v a1Y (pv 2) a0i (a0A _))))) (a0g (a0l (a16 (a0a a0u (a0a a0u a0c))))) a0p)
   (a0e (a0B (i := 3) a2s.nd rfl (Or.inl rfl) (c40 (a4x a0u (a0E a2D (pv 1) (pv 2)) (a4x a0u (a0E a80 (pv 1) (pv 2)) (a4x a0u (a0E c34 (pv 1) (pv 2)) (a4x a0u (a1H b66 rfl T.int c27 (a0a (a2B c58 (pv 1) (pv 2) (a0A _)) a0c)) (a4x a0u (a1H b66 rfl T.int c27 (a0a (a2B a1Y (pv 1) (pv 2) (a0A _)) a0c)) c5d))))) rfl rfl (by simp) (by decide)))
   (a0e (a0B (i := 4) a2s.nd rfl (Or.inl rfl) (c6n hu (pv 3) (pv 0) a0i ⟨rfl, rfl, rfl, rfl⟩))
   (a0e (a0J (a0v a1Y (pv 0) a0u (a0A _)) (a0g (a0B (i := 4) a2s.nd rfl (Or.inl rfl) (a0E c2b (pv 1) (pv 2)))) a0p)
   (a0e (a0J (a0v a1Y (pv 0) a0u (a0A _)) (a0g (a0B (i := 4) a2s.nd rfl (Or.inl rfl) (a0E c4V (pv 1) (pv 2)))) a0p)
   hR))))))), ?_⟩
  have d1' := h1.dt
  rcases h1 with ⟨x, rfl, rfl, bx⟩ | ⟨a, y, rfl, hq, rfl, hy⟩
  ·refine ⟨_, rfl, _, "tuple", _, _, rfl, d1', a1h K _, _, rfl, iteF ?_⟩
   have d2' := h2.dt
   rcases h2 with ⟨y, rfl, rfl, yb⟩ | ⟨a, y, rfl, hq, rfl, hy⟩
   ·refine ⟨_, rfl, _, "tuple", _, _, rfl, d2', a1h K _, _, rfl, iteF ?_⟩
    refine ⟨_, rfl, _, _, rfl, rfl, _, rfl, ?_⟩
    rw [c5z sg hsg]
    have q' : ¬ ((sg = "/" ∨ sg = ":") /\ y = 0) -> ∀ W, W = opZ sg x y -> ∀ H' v, Same H H' -> Pv7 K H' v (bndD W) -> Q v H' := fun hno W hW H' v s' hv => by
     refine q H' v s' ?_
     show Pv7 K H' v (if (sg = "/" ∨ sg = ":") /\ y = 0 then b2m else bndD (opZ sg x y))
     rw [if_neg hno, <- hW]
     exact hv
    obtain ⟨g1, g2, g3, g4, g5⟩ := c8F (.int (x + y)) (.int (x - y)) (.int (x * y)) (.int (if decide (x < y) = true then 1 else 0)) (.int (if decide (V.int x = V.int y) = true then 1 else 0))
    refine ite2 (fun hs => ?_) (fun hs => ?_)
    ·have hs' := of_decide_eq_true hs
     refine ⟨_, rfl, rfl, _, rfl, ite2 (fun h0 => ?_) (fun h0 => ?_)⟩
     ·have hy0 : y = 0 := V.int.inj (of_decide_eq_true h0)
      refine ⟨sl, fun t1 ht1 => q _ _ (Same.new ht1) ?_⟩
      show Pv7 K _ _ (if (sg = "/" ∨ sg = ":") /\ y = 0 then b2m else bndD (opZ sg x y))
      rw [if_pos ⟨hs', hy0⟩]
      exact .inr ⟨t1, _, rfl, a0d, rfl, b76⟩
     ·have hy0 : y ≠ 0 := fun z => h0 (decide_eq_true (congrArg V.int z))
      have qq := q' (fun z => hy0 z.2)
      refine fun dp hdp => ⟨_, rfl, _, rfl, _, _, rfl, rfl, _, rfl, _, rfl, _, _, rfl, rfl, _, rfl, _, rfl, _, _, rfl, rfl, ⟨c1n bx, c1n yb⟩, _, rfl, _, rfl, _, _, rfl, rfl, .inr ⟨_, rfl, _, rfl, _, rfl, rfl, .inr ⟨_, rfl, a0d, sgK _ _ _ _ _, rfl, (show 5 <= 15 by decide), ?_⟩⟩⟩
      refine ⟨_, rfl, dp, rfl, .inl ⟨_, .inl a0d⟩, _, rfl, _, .inl ⟨_, .inr sg, .inl a0d, rfl, rfl⟩, ?_⟩
      have sH : Same H (upd (upd H dp (.dK [])) dp (.dK (a3k [] (sgK (.int (x + y)) (.int (x - y)) (.int (x * y)) (.int (if decide (x < y) = true then 1 else 0)) (.int (if decide (V.int x = V.int y) = true then 1 else 0)))))) := (Same.new hdp).on hdp
      rcases hs' with rfl | rfl
      ·refine ⟨_, rfl, rfl, _, rfl, ite2 (fun _ => ?_) (fun h => absurd (decide_eq_true rfl) h)⟩
       refine ⟨_, rfl, _, rfl, _, _, rfl, rfl, ⟨hy0, c1n yb⟩, ?_⟩
       refine ⟨_, rfl, rfl, _, rfl, ite2 (fun h => absurd (V.str.inj (of_decide_eq_true h)) (by decide)) (fun _ => ?_)⟩
       exact qR _ _ _ _ _ (fun H' v s' hv => qq _ rfl H' v (sH.trans s') hv)
      ·refine ⟨_, rfl, rfl, _, rfl, ite2 (fun h => absurd (V.str.inj (of_decide_eq_true h)) (by decide)) (fun _ => ?_)⟩
       refine ⟨_, rfl, rfl, _, rfl, ite2 (fun _ => ?_) (fun h => absurd (decide_eq_true rfl) h)⟩
       refine ⟨_, rfl, _, rfl, _, _, rfl, rfl, hy0, ?_⟩
       exact qR _ _ _ _ _ (fun H' v s' hv => qq _ rfl H' v (sH.trans s') hv)
    ·have hs' : ¬ (sg = "/" ∨ sg = ":") := fun z => hs (decide_eq_true z)
     have qq := q' (fun z => hs' z.1)
     refine fun dp hdp => ⟨_, rfl, _, rfl, _, _, rfl, rfl, _, rfl, _, rfl, _, _, rfl, rfl, _, rfl, _, rfl, _, _, rfl, rfl, ⟨c1n bx, c1n yb⟩, _, rfl, _, rfl, _, _, rfl, rfl, .inr ⟨_, rfl, _, rfl, _, rfl, rfl, .inr ⟨_, rfl, a0d, sgK _ _ _ _ _, rfl, (show 5 <= 15 by decide), ?_⟩⟩⟩
     refine ⟨_, rfl, dp, rfl, .inl ⟨_, .inl a0d⟩, _, rfl, _, .inl ⟨_, .inr sg, .inl a0d, rfl, rfl⟩, ?_⟩
     have sH : Same H (upd (upd H dp (.dK [])) dp (.dK (a3k [] (sgK (.int (x + y)) (.int (x - y)) (.int (x * y)) (.int (if decide (x < y) = true then 1 else 0)) (.int (if decide (V.int x = V.int y) = true then 1 else 0)))))) := (Same.new hdp).on hdp
     simp only [List.mem_cons, List.not_mem_nil, or_false] at hsg
     rcases hsg with rfl | rfl | rfl | rfl | rfl | rfl | rfl
     ·rw [g1]
      iterate 2 refine ⟨_, rfl, rfl, _, rfl, ite2 (fun h => absurd (V.str.inj (of_decide_eq_true h)) (by decide)) (fun _ => ?_)⟩
      exact qR _ _ _ _ _ (fun H' v s' hv => qq _ rfl H' v (sH.trans s') hv)
     ·rw [g2]
      iterate 2 refine ⟨_, rfl, rfl, _, rfl, ite2 (fun h => absurd (V.str.inj (of_decide_eq_true h)) (by decide)) (fun _ => ?_)⟩
      exact qR _ _ _ _ _ (fun H' v s' hv => qq _ rfl H' v (sH.trans s') hv)
     ·rw [g3]
      iterate 2 refine ⟨_, rfl, rfl, _, rfl, ite2 (fun h => absurd (V.str.inj (of_decide_eq_true h)) (by decide)) (fun _ => ?_)⟩
      exact qR _ _ _ _ _ (fun H' v s' hv => qq _ rfl H' v (sH.trans s') hv)
     ·exact absurd (.inl rfl) hs'
     ·exact absurd (.inr rfl) hs'
     ·rw [g4]
      iterate 2 refine ⟨_, rfl, rfl, _, rfl, ite2 (fun h => absurd (V.str.inj (of_decide_eq_true h)) (by decide)) (fun _ => ?_)⟩
      exact qR _ _ _ _ _ (fun H' v s' hv => qq _ (c8T x y) H' v (sH.trans s') hv)
     ·rw [g5]
      iterate 2 refine ⟨_, rfl, rfl, _, rfl, ite2 (fun h => absurd (V.str.inj (of_decide_eq_true h)) (by decide)) (fun _ => ?_)⟩
      exact qR _ _ _ _ _ (fun H' v s' hv => qq _ (c9A x y) H' v (sH.trans s') hv)
   ·refine ⟨_, rfl, _, "tuple", _, _, rfl, d2', a1h K _, _, rfl, iteT ⟨_, rfl, q _ _ (Same.refl _) (.inr ⟨a, y, rfl, hq, rfl, hy⟩)⟩⟩
  ·exact ⟨_, rfl, _, "tuple", _, _, rfl, d1', a1h K _, _, rfl, iteT ⟨_, rfl, q _ _ (Same.refl _) (.inr ⟨a, y, rfl, hq, rfl, hy⟩)⟩⟩
end
end My
set_option maxHeartbeats 1000000
namespace My
open PySem L2
def due3 (sg mk : Str) (os ts : List PyData) (num : Int) (p : Nat) : PyData :=
 if isT (os.getD p .none) then os.getD p .none else if isT (ts.getD p .none) then ts.getD p .none else a6Z sg (os.getD p .none) (a6Z mk (ts.getD p .none) (.int num))
def dueA (sg : Str) (first : Int) (os own : List PyData) (p : Nat) : PyData :=
 if isT (if 0 < p then own.getD (p - 1) .none else .int first) then (if 0 < p then own.getD (p - 1) .none else .int first) else a6Z sg (if 0 < p then own.getD (p - 1) .none else .int first) (os.getD p .none)
section
variable {P : Program} {w : World} {K : PySem.W.Frag} {mg : Str -> Option Value} {base : Heap}
def sp3 (K : PySem.W.Frag) : Sp := fun vs H Q _ => ∃ (d tp : Addr) (p : Nat) (sg o mk ot : Str) (num : Int) (cd : Str -> Option (List PyData)) (os ts : List PyData), vs = [.ref d, .int (p : Int), .ref tp] /\ SqT K H tp [.str sg, .str o, .str mk, .str ot, .int num] /\ sg ∈ sgns /\ mk ∈ sgns /\ bnd F60 num /\ a88 K H d cd /\ cd o = some os /\ cd ot = some ts /\ p < os.length /\ p < ts.length /\
 ∀ H' v, Same H H' -> Pv7 K H' v (due3 sg mk os ts num p) -> Q v H'
abbrev N3 : List Str := ["_law_held", "_law_place", "_law_parts", "_law_sign", "_law_one", "_law_mark", "_law_other", "_law_number", "_law_value_here"]
theorem a1L : a0o N3 ["_law_held", "_law_place", "_law_parts"] (a0b a3O) := ⟨rfl, rfl, rfl, by decide +kernel, rfl, by decide +kernel, by decide +kernel⟩
theorem a4j (T : Tops K mg) : a0q P w K mg base CX0 2 "_law_three" ["_law_held", "_law_place", "_law_parts"] (sp3 K) := by
 have G_law_signed : a0q P w K mg base CX0 1 "_law_signed" ["_law_sign", "_law_one", "_law_other"] (b6o K) := a2h T
 refine T.d_law_three.known a1L (fun _ _ _ _ _ _ us hl => match us, hl with | [_, _, _], _ => rfl) (fun vs H Q E h => ?_) (fun f cdv A outer s H vs Q E hr h => ?_)
 ·obtain ⟨d, tp, p, sg, o, mk, ot, num, cd, os, ts, rfl, _⟩ := h
  rfl
 ·obtain ⟨d, tp, p, sg, o, mk, ot, num, cd, os, ts, rfl, htp, hsg, hmk, hnum, ⟨kvs, hd, hh⟩, ho, hot, hp1, hp2, q⟩ := h
  have hu := Nat.lt_of_le_of_lt (Nat.add_le_add_left (show 1 <= 64 by decide) _) hr.units
  obtain ⟨lo, xo, vo, hlo, ao⟩ := hh o os ho
  obtain ⟨lt, xt, vt, hlt, at'⟩ := hh ot ts hot
  obtain ⟨w1, d1, a1, a2, p3⟩ := PvA.at ao hp1
  obtain ⟨w2, d2, b1, b2, r3⟩ := PvA.at at' hp2
  have a3 := p3.dt
  have b3 := r3.dt
  have g1 : Vd7 d1 := p3.vd
  have g2 : Vd7 d2 := r3.vd
  have e1 : os.getD p .none = d1 := by rw [List.getD_eq_getElem?_getD, a2]; rfl
  have e2 : ts.getD p .none = d2 := by rw [List.getD_eq_getElem?_getD, b2]; rfl
  have dg : ∀ {H2 : Hp} {z : Str} {l : Addr}, Same H H2 -> valV kvs (.inr z) = some (.ref l) -> DGet H2 d (.str z) (some (.ref l)) := fun {H2 z l} s2 hv => .inl ⟨kvs, .inr z, .inl (s2 _ _ hd), rfl, hv.symm⟩
  have q : ∀ H' v, Same H H' -> Pv7 K H' v (if isT d1 then d1 else if isT d2 then d2 else a6Z sg d1 (a6Z mk d2 (.int num))) -> Q v H' := fun H' v s' h' => q H' v s' (by unfold due3; rw [e1, e2]; exact h')
  refine ⟨_, (a0e (c6N (pv 2) (c37 rfl (a2m (a0Q (i := 3) a1L.nd rfl (Or.inl rfl)) (a2m (a0Q (i := 4) a1L.nd rfl (Or.inl rfl)) (a2m (a0Q (i := 5) a1L.nd rfl (Or.inl rfl)) (a2m (a0Q (i := 6) a1L.nd rfl (Or.inl rfl)) (a2m (a0Q (i := 7) a1L.nd rfl (Or.inl rfl)) c0c)))))))
   (a0e (a4m PassesOwn.never rfl (a2F (a1G (a0a (a0z a0s (a0R hu (pv 0) (pv 4) (fun _ _ => rfl)) (pv 1) (fun _ _ => rfl)) (a0a (a0z a0s (a0R hu (pv 0) (pv 6) (fun _ _ => rfl)) (pv 1) (fun _ _ => rfl)) a0c)))) (a0Q (i := 8) a1L.nd rfl (Or.inl rfl)) (a0g (a0J (a05 (a0r a0Y rfl T.isinstance a0w (a0a (pv 8) (a0a (a5E T.tuple a3L) a0c))) (fun _ => rfl)) (a0g (a0l (pv 8))) a0p)))
   (a0g (a0l (a0h G_law_signed (hr.mono (by decide)) a0t (a0a (pv 3) (a0a (a0z a0s (a0R hu (pv 0) (pv 4) (fun _ _ => rfl)) (pv 1) (fun _ _ => rfl)) (a0a (a0h G_law_signed (hr.mono (by decide)) a0t (a0a (pv 5) (a0a (a0z a0s (a0R hu (pv 0) (pv 6) (fun _ _ => rfl)) (pv 1) (fun _ _ => rfl)) (a0a (pv 7) a0c)))) a0c)))))))), ?_⟩
  refine ⟨_, rfl, tp, _, rfl, htp, rfl, _, _, rfl, _, _, rfl, _, _, rfl, _, _, rfl, _, _, rfl, rfl, ?_⟩
  refine ⟨_, rfl, _, rfl, d, _, rfl, dg (Same.refl H) vo, _, rfl, lo, _, _, _, rfl, rfl, SqL.of hlo, a11 a1, _, rfl, _, rfl, d, _, rfl, dg (Same.refl H) vt, _, rfl, lt, _, _, _, rfl, rfl, SqL.of hlt, a11 b1, sl, fun l hl => ?_⟩
  have s1 := Same.new (o := .lst [w1, w2]) hl
  have hl1 : upd H l (.lst [w1, w2]) l = some (.lst [w1, w2]) := a0d
  generalize upd H l (.lst [w1, w2]) = H1 at s1 hl1 ⊢
  refine ⟨l, rfl, ⟨_, SqL.of hl1⟩, ?_⟩
  refine a4r (K := K) (a := l) (xs := [w1, w2]) (fun i σ H2 => ∃ o8, σ = [some (.ref d), some (.int (p : Int)), some (.ref tp), some (.str sg), some (.str o), some (.str mk), some (.str ot), some (.int num), o8] /\ H2 = H1 /\ (0 < i -> isT d1 = false) /\ (1 < i -> isT d2 = false)) ⟨_, rfl, rfl, fun z => absurd z (by decide), fun z => absurd z (by decide)⟩ (fun i σ H2 _ ⟨_, _, e, _⟩ => by rw [e]; exact SqL.of hl1) ?_ ?_
  ·rintro i x σ H2 hx ⟨o8, rfl, rfl, n1, n2⟩
   match i, hx with
   | 0, hx =>
    obtain rfl : w1 = x := by simpa using hx
    refine ⟨_, rfl, _, "tuple", d1, _, rfl, a3.same s1, a1h K _, _, rfl, ?_⟩
    rw [g1.isT]
    refine ite2 (fun h => ?_) (fun h => ?_)
    ·refine ⟨_, rfl, q _ _ s1 ?_⟩
     rw [if_pos h]
     exact p3.same s1
    ·exact ⟨_, rfl, rfl, fun _ => by simpa using h, fun z => absurd z (by decide)⟩
   | 1, hx =>
    obtain rfl : w2 = x := by simpa using hx
    have f1 := n1 (by decide)
    refine ⟨_, rfl, _, "tuple", d2, _, rfl, b3.same s1, a1h K _, _, rfl, ?_⟩
    rw [g2.isT]
    refine ite2 (fun h => ?_) (fun h => ?_)
    ·refine ⟨_, rfl, q _ _ s1 ?_⟩
     rw [f1, if_neg Bool.false_ne_true, if_pos h]
     exact r3.same s1
    ·exact ⟨_, rfl, rfl, fun _ => f1, fun _ => by simpa using h⟩
   | i + 2, hx => simp at hx
  ·rintro σ H2 ⟨o8, rfl, rfl, n1, n2⟩
   have f1 := n1 (show 0 < 2 by decide)
   have f2 := n2 (show 1 < 2 by decide)
   rw [f1, f2, if_neg Bool.false_ne_true, if_neg Bool.false_ne_true] at q
   refine ⟨_, rfl, _, rfl, _, rfl, d, _, rfl, dg s1 vo, _, rfl, lo, _, _, _, rfl, rfl, SqL.of (s1 _ _ hlo), a11 a1, _, rfl, _, rfl, _, rfl, d, _, rfl, dg s1 vt, _, rfl, lt, _, _, _, rfl, rfl, SqL.of (s1 _ _ hlt), a11 b1, _, rfl, mk, w2, .int num, d2, .int num, rfl, hmk, r3.same s1, .inl ⟨num, rfl, rfl, hnum⟩, fun H3 v3 s3 hv3 => ?_⟩
   exact ⟨sg, w1, v3, d1, _, rfl, hsg, p3.same (s1.trans s3), hv3, fun H4 v4 s4 hv4 => q _ _ ((s1.trans s3).trans s4) hv4⟩
end
end My
set_option maxHeartbeats 1000000
namespace My
open PySem L2
section
variable {P : Program} {w : World} {K : PySem.W.Frag} {mg : Str -> Option Value} {base : Heap}
def c8O (K : PySem.W.Frag) : Sp := fun vs H Q _ => ∃ (d tp ol : Addr) (p : Nat) (sg o : Str) (first : Int) (cd : Str -> Option (List PyData)) (os own : List PyData) (xs : List V), vs = [.ref d, .int (p : Int), .ref tp, .ref ol] /\ SqT K H tp [.str sg, .str o, .int first] /\ sg ∈ sgns /\ bnd F60 first /\ a88 K H d cd /\ cd o = some os /\ p < os.length /\ H ol = some (.lst xs) /\ PvA K H xs own /\ p <= own.length /\
 ∀ H' v, Same H H' -> Pv7 K H' v (dueA sg first os own p) -> Q v H'
abbrev NA7 : List Str := ["_law_held", "_law_place", "_law_parts", "_law_own", "_law_sign", "_law_one", "_law_first", "_law_ahead"]
theorem a2j : a0o NA7 ["_law_held", "_law_place", "_law_parts", "_law_own"] (a0b a2c) := ⟨rfl, rfl, rfl, by decide +kernel, rfl, by decide +kernel, by decide +kernel⟩
theorem a4f (T : Tops K mg) : a0q P w K mg base CX0 2 "_law_above" ["_law_held", "_law_place", "_law_parts", "_law_own"] (c8O K) := by
 have G_law_signed : a0q P w K mg base CX0 1 "_law_signed" ["_law_sign", "_law_one", "_law_other"] (b6o K) := a2h T
 refine T.d_law_above.known a2j (fun _ _ _ _ _ _ us hl => match us, hl with | [_, _, _, _], _ => rfl) (fun vs H Q E h => ?_) (fun f cdv A outer s H vs Q E hr h => ?_)
 ·obtain ⟨d, tp, ol, p, sg, o, first, cd, os, own, xs, rfl, _⟩ := h
  rfl
 ·obtain ⟨d, tp, ol, p, sg, o, first, cd, os, own, xs, rfl, htp, hsg, hf, ⟨kvs, hd, hh⟩, ho, hp1, hol, aw, hpw, q⟩ := h
  have hu := Nat.lt_of_le_of_lt (Nat.add_le_add_left (show 1 <= 64 by decide) _) hr.units
  obtain ⟨lo, xo, vo, hlo, ao⟩ := hh o os ho
  obtain ⟨w1, d1, a1, a2, p3⟩ := PvA.at ao hp1
  have g1 : Vd7 d1 := p3.vd
  have e1 : os.getD p .none = d1 := by rw [List.getD_eq_getElem?_getD, a2]; rfl
  have dg : DGet H d (.str o) (some (.ref lo)) := .inl ⟨kvs, .inr o, .inl hd, rfl, vo.symm⟩
  have rest : ∃ t, PSs (cxOf CX0 P w K mg base NA7 "_law_above" (a0b a2c) f cdv A outer s H E).nox ((a0j a2c).drop 3) t /\
   ∀ (v0 : V) (d0 : PyData), Pv7 K H v0 d0 -> (if 0 < p then own.getD (p - 1) .none else .int first) = d0 -> t { nx := fun _ H' => Q .non H', rt := Q } [some (.ref d), some (.int (p : Int)), some (.ref tp), some (.ref ol), some (.str sg), some (.str o), some (.int first), some v0] H := by
   refine ⟨_, (a0e (a0J (a05 (a0r a0Y rfl T.isinstance a0w (a0a (pv 7) (a0a (a5E T.tuple a3L) a0c))) (fun _ => rfl)) (a0g (a0l (pv 7))) a0p)
    (a0g (a0l (a0h G_law_signed (hr.mono (by decide)) a0t (a0a (pv 4) (a0a (pv 7) (a0a (a0z a0s (a0R hu (pv 0) (pv 5) (fun _ _ => rfl)) (pv 1) (fun _ _ => rfl)) a0c))))))), ?_⟩
   intro v0 d0 p0 e0
   have h0 := p0.dt
   have g0 := p0.vd
   refine ⟨_, rfl, _, "tuple", d0, _, rfl, h0, a1h K _, _, rfl, ?_⟩
   rw [g0.isT]
   refine ite2 (fun h => ?_) (fun h => ?_)
   ·refine ⟨_, rfl, q _ _ (Same.refl H) ?_⟩
    unfold dueA
    rw [e0, if_pos h]
    exact p0
   ·refine ⟨_, rfl, _, rfl, _, rfl, _, rfl, d, _, rfl, dg, _, rfl, lo, _, _, _, rfl, rfl, SqL.of hlo, a11 a1, sg, v0, w1, d0, d1, rfl, hsg, p0, p3, fun H' v s' hv => q _ _ s' ?_⟩
    unfold dueA
    rw [e0, if_neg h, e1]
    exact hv
  obtain ⟨tR, hR, qR⟩ := rest
  refine ⟨_, (a0e (c6N (pv 2) (c37 rfl (a2m (a0Q (i := 4) a2j.nd rfl (Or.inl rfl)) (a2m (a0Q (i := 5) a2j.nd rfl (Or.inl rfl)) (a2m (a0Q (i := 6) a2j.nd rfl (Or.inl rfl)) c0c)))))
   (a0e (a0B (i := 7) a2j.nd rfl (Or.inl rfl) (pv 6))
   (a0e (a0J (a0v c2q (pv 1) a0i (a0A _)) (a0g (a0B (i := 7) a2j.nd rfl (Or.inl rfl) (a0z a0s (pv 3) (a0E a80 (pv 1) a0i) (fun _ _ => rfl)))) a0p) hR))), ?_⟩
  refine ⟨_, rfl, tp, _, rfl, htp, rfl, _, _, rfl, _, _, rfl, _, _, rfl, rfl, ?_⟩
  refine ⟨_, rfl, _, rfl, _, _, rfl, rfl, _, rfl, ?_⟩
  refine ite2 (fun h => ?_) (fun h => ?_)
  ·have hp0 : 0 < p := by have : (0 : Int) < (p : Int) := by simpa using h
                          omega
   obtain ⟨u1, c1, f1, f2, f3⟩ := PvA.at (i := p - 1) aw (by omega)
   refine ⟨_, rfl, _, rfl, _, _, rfl, rfl, ol, _, _, _, rfl, rfl, SqL.of hol, (by rw [show (p : Int) - 1 = ((p - 1 : Nat) : Int) by omega]; exact a11 f1), ?_⟩
   exact qR u1 c1 f3 (by rw [if_pos hp0, List.getD_eq_getElem?_getD, f2]; rfl)
  ·have hp0 : ¬ 0 < p := fun z => h (decide_eq_true (by show (0 : Int) < (p : Int); omega))
   exact qR _ _ (.num hf) (by rw [if_neg hp0])
end
end My
set_option maxHeartbeats 1000000
namespace My
open PySem L2
def c9V : PyData -> Int
 | .int i => i
 | _ => 0
def grF (own : PyData) : List PyData -> List PyData -> List Int -> PyData ⊕ List Int
 | k :: ks, n :: ns, acc => if PyData.eqv k own then (if isT n then .inl n else grF own ks ns (acc ++ [c9V n])) else grF own ks ns acc
 | _, _, acc => .inr acc
def grE (g : List Int -> PyData) : PyData ⊕ List Int -> PyData
 | .inl d => d
 | .inr is => g is
def c2k (g : List Int -> PyData) (ks ns : List PyData) (p : Nat) : PyData := if isT (ks.getD p .none) then ks.getD p .none else grE g (grF (ks.getD p .none) ks ns [])
theorem c3E {own k : PyData} {ks ns : List PyData} {i : Int} {acc : List Int} (h : PyData.eqv k own = true) : grF own (k :: ks) (.int i :: ns) acc = grF own ks ns (acc ++ [i]) := by
 rw [grF, if_pos h]
 exact if_neg Bool.false_ne_true
theorem c5h {own k : PyData} {ks ns : List PyData} {z : List PyData} {acc : List Int} (h : PyData.eqv k own = true) : grF own (k :: ks) (.tuple z :: ns) acc = .inl (.tuple z) := by
 rw [grF, if_pos h]
 exact if_pos rfl
theorem c66 {own k n : PyData} {ks ns : List PyData} {acc : List Int} (h : ¬ PyData.eqv k own = true) : grF own (k :: ks) (n :: ns) acc = grF own ks ns acc := by
 rw [grF, if_neg h]
theorem c3p {own : PyData} {ns : List PyData} {acc : List Int} : grF own [] ns acc = .inr acc := by
 rw [grF]
 intro a b c d e
 cases e
theorem c76 (is : List Int) (t : Nat) (h : t <= is.length) : cutV (is.map V.int) (some (t : Int)) none = (is.drop t).map V.int := by
 unfold cutV
 rw [HT.sIx_nat, HT.sIx_none, List.length_map, Nat.min_eq_left h, List.map_drop, List.take_of_length_le]
 rw [List.length_drop, List.length_map]
 exact Nat.le_refl _
def opW (wd : Str) (a b : Int) : Int := if wd = "sum" then a + b else if wd = "most" then (if b > a then b else a) else (if b < a then b else a)
abbrev wdK (a b c : V) : List (Key × V) := [(.inr "sum", a), (.inr "most", b), (.inr "least", c)]
theorem c4F (a b c : V) : valV (a3k [] (wdK a b c)) (.inr "sum") = some a /\ valV (a3k [] (wdK a b c)) (.inr "most") = some b /\ valV (a3k [] (wdK a b c)) (.inr "least") = some c := ⟨rfl, rfl, rfl⟩
theorem c84 {wd : Str} (h : wd = "sum" ∨ wd = "most" ∨ wd = "least") (a b : Int) : valV (a3k [] (wdK (.int (a + b)) (.int (if b > a then b else a)) (.int (if b < a then b else a)))) (.inr wd) = some (.int (opW wd a b)) := by
 rcases h with rfl | rfl | rfl
 ·exact (c4F _ _ _).1
 ·exact (c4F _ _ _).2.1
 ·exact (c4F _ _ _).2.2
theorem c13 : ∀ (r : List Int) (i : Int), r.foldl (opW "sum") i = i + r.sum
 | [], i => by simp
 | a :: r, i => by
  rw [List.foldl_cons, c13 r, List.sum_cons]
  show i + a + r.sum = _
  omega
theorem c39 {wd : Str} {g : List Int -> PyData} (h : b8I wd g) (hn : wd ≠ "many") {i : Int} {r : List Int} (hb : ∀ j ∈ i :: r, bnd F60 j) : g (i :: r) = bndD (r.foldl (opW wd) i) /\ (wd = "sum" ∨ wd = "most" ∨ wd = "least") := by
 rcases h with ⟨rfl, rfl⟩ | ⟨rfl, rfl⟩ | ⟨rfl, rfl⟩ | ⟨rfl, rfl⟩
 ·refine ⟨?_, .inl rfl⟩
  rw [c13]
  show (if numD (.int (i :: r).sum) then _ else _) = _
  rw [List.sum_cons]
  rfl
 ·refine ⟨?_, .inr (.inl rfl)⟩
  have e : r.foldl (opW "most") i = c4t (i :: r) := rfl
  have b := hb _ (b2N (is := i :: r) (by simp)).1
  rw [e]
  unfold bndD
  rw [if_pos (a47 b)]
  rfl
 ·refine ⟨?_, .inr (.inr rfl)⟩
  have e : r.foldl (opW "least") i = b7L (i :: r) := rfl
  have b := hb _ (a9S (is := i :: r) (by simp)).1
  rw [e]
  unfold bndD
  rw [if_pos (a47 b)]
  rfl
 ·exact absurd rfl hn
theorem c6I {wd : Str} {g : List Int -> PyData} (h : b8I wd g) {is : List Int} (l0 : 0 < is.length) (l1 : is.length <= 100) (hb : ∀ i ∈ is, bnd F60 i) : Vd7 (g is) := by
 rcases (c6d h l0 l1 hb).1 with ⟨n, e, b⟩ | e
 ·rw [e]; exact .inl ⟨n, rfl, b⟩
 ·rw [e]; exact .inr ⟨_, b01, rfl⟩
section
variable {P : Program} {w : World} {K : PySem.W.Frag} {mg : Str -> Option Value} {base : Heap}
def c9x (K : PySem.W.Frag) : Sp := fun vs H Q _ => ∃ (d : Addr) (p : Nat) (k n wd : Str) (g : List Int -> PyData) (cd : Str -> Option (List PyData)) (ks ns : List PyData), vs = [.ref d, .int (p : Int), .str k, .str n, .str wd] /\ a88 K H d cd /\ b8I wd g /\ cd k = some ks /\ cd n = some ns /\ ks.length <= 30 /\ ns.length = ks.length /\ p < ks.length /\
 ∀ H' v, Same H H' -> Pv7 K H' v (c2k g ks ns p) -> Q v H'
abbrev Ngr7 : List Str := ["_law_held", "_law_place", "_law_key", "_law_name", "_law_word", "_law_some", "_law_at", "_law_found", "_law_number"]
theorem a2i : a0o Ngr7 ["_law_held", "_law_place", "_law_key", "_law_name", "_law_word"] (a0b a2d) := ⟨rfl, rfl, rfl, by decide +kernel, rfl, by decide +kernel, by decide +kernel⟩
theorem a4a (T : Tops K mg) : a0q P w K mg base CX0 1 "_law_group" ["_law_held", "_law_place", "_law_key", "_law_name", "_law_word"] (c9x K) := by
 refine T.d_law_group.known a2i (fun _ _ _ _ _ _ us hl => match us, hl with | [_, _, _, _, _], _ => rfl) (fun vs H Q E h => ?_) (fun f cdv A outer s H vs Q E hr h => ?_)
 ·obtain ⟨d, p, k, n, wd, g, cd, ks, ns, rfl, _⟩ := h
  rfl
 ·obtain ⟨d, p, k, n, wd, g, cd, ks, ns, rfl, ⟨kvs, hd, hh⟩, hg, hk, hn, l30, ln, hp, q⟩ := h
  have hu := Nat.lt_of_le_of_lt (Nat.add_le_add_left (show 1 <= 64 by decide) _) hr.units
  have rest : ∃ t, PSs (cxOf CX0 P w K mg base Ngr7 "_law_group" (a0b a2d) f cdv A outer s H E).nox ((a0j a2d).drop 3) t /\
   ∀ (l : Addr) (is : List Int) (H1 : Hp) (o6 : Option V), H1 l = some (.lst (is.map V.int)) -> 0 < is.length -> is.length <= 30 -> (∀ i ∈ is, bnd F60 i) -> (∀ H' v, Same H1 H' -> Pv7 K H' v (g is) -> Q v H') ->
    t { nx := fun _ H' => Q .non H', rt := Q } [some (.ref d), some (.int (p : Int)), some (.str k), some (.str n), some (.str wd), some (.ref l), o6, none, none] H1 := by
   refine ⟨_, (a0e (a0J (a0v a1Y (pv 4) a0u (a0A _)) (a0g (a0l (a0r a1f rfl T.len a6M (a0a (pv 5) a0c)))) a0p)
    (a0e (a0B (i := 7) a2i.nd rfl (Or.inl rfl) (a0z a0s (pv 5) a0i (fun _ _ => rfl)))
    (a0e (a4m PassesOwn.never rfl (a2F (a3t a9L (pv 5) (a53 a0i) a6a)) (a0Q (i := 8) a2i.nd rfl (Or.inl rfl)) (a0g (a0B (i := 7) a2i.nd rfl (Or.inl rfl) (a0R hu (c40 (a4x a0u (a0E a2D (pv 7) (pv 8)) (a4x a0u (a0r (c3O rfl) rfl T.max c8N (a0a (pv 7) (a0a (pv 8) a0c))) (a4x a0u (a0r (c3A rfl) rfl T.min c9q (a0a (pv 7) (a0a (pv 8) a0c))) c5d))) rfl rfl (by simp) (by decide)) (pv 4) (fun _ _ => rfl)))))
    (a0e (a0J (a0v c9Q (a0r b5B rfl T.abs c8d (a0a (pv 7) a0c)) (a0E c1S a0i a0i) (a0A _)) (a0g (a0l (a16 (a0a a0u (a0a a0u a0c))))) a0p)
    (a0g (a0l (pv 7))))))), ?_⟩
   intro l is H1 o6 hl l0 l1 hb qq
   refine ⟨_, rfl, rfl, _, rfl, ite2 (fun hm => ?_) (fun hm => ?_)⟩
   ·have em : wd = "many" := V.str.inj (of_decide_eq_true hm)
    subst em
    have eg : g = c4Z := by
     rcases hg with ⟨e, _⟩ | ⟨e, _⟩ | ⟨e, _⟩ | ⟨_, e⟩
     ·exact absurd e (by decide)
     ·exact absurd e (by decide)
     ·exact absurd e (by decide)
     ·exact e
    subst eg
    refine ⟨_, rfl, _, _, rfl, .inl ⟨_, SqL.of hl, rfl⟩, qq _ _ (Same.refl _) ?_⟩
    rw [List.length_map]
    exact .num (by
     have : (1000 : Int) < F60 := by decide +kernel
     unfold bnd
     generalize F60 = F at *
     omega)
   ·have em : wd ≠ "many" := fun z => hm (decide_eq_true (congrArg V.str z))
    match is, hl, l0, l1, hb, qq with
    | i0 :: r, hl, l0, l1, hb, qq =>
    obtain ⟨e1, hw⟩ := c39 hg em hb
    rw [e1] at qq
    refine ⟨_, rfl, _, _, _, _, rfl, rfl, SqL.of hl, b2Z _ _, ?_⟩
    refine ⟨_, rfl, _, rfl, l, _, rfl, SqL.of hl, fun c1 hc1 => ?_⟩
    rw [show cutV ((i0 :: r).map V.int) (some 1) none = r.map V.int from c76 (i0 :: r) 1 (by simp)]
    have s2 := Same.new (o := .lst (r.map V.int)) hc1
    have h2 : upd H1 c1 (.lst (r.map V.int)) c1 = some (.lst (r.map V.int)) := a0d
    generalize upd H1 c1 (.lst (r.map V.int)) = H2 at s2 h2 ⊢
    refine ⟨c1, rfl, ⟨_, SqL.of h2⟩, ?_⟩
    refine a4r (K := K) (a := c1) (xs := r.map V.int) (fun i σ H3 => ∃ o8, σ = [some (.ref d), some (.int (p : Int)), some (.str k), some (.str n), some (.str wd), some (.ref l), o6, some (.int ((r.take i).foldl (opW wd) i0)), o8] /\ Same H2 H3) ⟨_, rfl, Same.refl _⟩ (fun i σ H3 _ ⟨_, _, s⟩ => SqL.of (s _ _ h2)) ?_ ?_
    ·rintro i x σ H3 hx ⟨o8, rfl, s3⟩
     rw [List.getElem?_map] at hx
     cases hj : r[i]? with
     | none => rw [hj] at hx; cases hx
     | some j =>
     rw [hj] at hx
     cases hx
     rw [show r.take (i + 1) = r.take i ++ [j] by rw [List.take_add_one, hj]; rfl, List.foldl_append]
     generalize (r.take i).foldl (opW wd) i0 = ac
     refine fun dp hdp => ⟨_, rfl, _, rfl, _, _, rfl, rfl, _, rfl, _, rfl, _, _, rfl, _, rfl, _, rfl, _, _, rfl, a0d, wdK _ _ _, rfl, (show 3 <= 15 by decide), ?_⟩
     refine ⟨_, rfl, dp, _, rfl, .inl ⟨_, .inr wd, .inl a0d, rfl, (c84 hw ac j).symm⟩, _, rfl, ?_⟩
     exact s3.trans ((Same.new hdp).on hdp)
    ·rintro σ H3 ⟨o8, rfl, s3⟩
     rw [List.length_map, List.take_of_length_le (Nat.le_refl _)]
     generalize r.foldl (opW wd) i0 = W at qq ⊢
     refine ⟨_, rfl, W, rfl, _, _, rfl, rfl, ⟨by decide, by decide, by decide⟩, _, _, rfl, rfl, _, rfl, ?_⟩
     unfold bndD at qq
     by_cases cc : bnd F60 W
     ·rw [if_pos (a47 cc)] at qq
      have : decide ((if W < 0 then -W else W) >= F60) = false := decide_eq_false (by
       obtain ⟨c1, c2⟩ := cc
       generalize F60 = F at *
       split <;> omega)
      rw [this]
      exact iteF ⟨_, rfl, qq _ _ (s2.trans s3) (.num cc)⟩
     ·rw [b52 cc, if_neg Bool.false_ne_true] at qq
      have : decide ((if W < 0 then -W else W) >= F60) = true := decide_eq_true (by
       unfold bnd at cc
       generalize F60 = F at *
       split <;> omega)
      rw [this]
      refine iteT ⟨sl, fun t1 ht1 => ?_⟩
      exact qq _ _ ((s2.trans s3).trans (Same.new ht1)) (.inr ⟨t1, _, rfl, a0d, rfl, b01⟩)
  obtain ⟨tR, hR, qR⟩ := rest
  obtain ⟨lk, xk, vk, hlk, ak⟩ := hh k ks hk
  obtain ⟨ln', xn, vn, hln, an⟩ := hh n ns hn
  obtain ⟨vo, o, e1, e2, po⟩ := PvA.at ak hp
  have ho := po.dt
  have ov : Vd7 o := po.vd
  have eo : ks.getD p .none = o := by rw [List.getD_eq_getElem?_getD, e2]; rfl
  have dg : ∀ {H2 : Hp} {z : Str} {l : Addr}, Same H H2 -> valV kvs (.inr z) = some (.ref l) -> DGet H2 d (.str z) (some (.ref l)) := fun {H2 z l} s2 hv => .inl ⟨kvs, .inr z, .inl (s2 _ _ hd), rfl, hv.symm⟩
  refine ⟨_, (a0e (a0J (a05 (a0r a0Y rfl T.isinstance a0w (a0a (a0z a0s (a0R hu (pv 0) (pv 2) (fun _ _ => rfl)) (pv 1) (fun _ _ => rfl)) (a0a (a5E T.tuple a3L) a0c))) (fun _ => rfl)) (a0g (a0l (a0z a0s (a0R hu (pv 0) (pv 2) (fun _ _ => rfl)) (pv 1) (fun _ _ => rfl)))) a0p)
   (a0e (a0B (i := 5) a2i.nd rfl (Or.inl rfl) (a1G a0c))
   (a0e (a4m PassesOwn.never rfl (a3H rfl T.range (a0a (a0r a1f rfl T.len a6M (a0a (a0R hu (pv 0) (pv 2) (fun _ _ => rfl)) a0c)) a0c)) (a0Q (i := 6) a2i.nd rfl (Or.inl rfl)) (a0g (a0J (a0v (c2d hr.units) (a0z a0s (a0R hu (pv 0) (pv 2) (fun _ _ => rfl)) (pv 6) (fun _ _ => rfl)) (a0z a0s (a0R hu (pv 0) (pv 2) (fun _ _ => rfl)) (pv 1) (fun _ _ => rfl)) (a0A _)) (a0e (a0J (a05 (a0r a0Y rfl T.isinstance a0w (a0a (a0z a0s (a0R hu (pv 0) (pv 3) (fun _ _ => rfl)) (pv 6) (fun _ _ => rfl)) (a0a (a5E T.tuple a3L) a0c))) (fun _ => rfl)) (a0g (a0l (a0z a0s (a0R hu (pv 0) (pv 3) (fun _ _ => rfl)) (pv 6) (fun _ _ => rfl)))) a0p)
   (a0g (a0F (a9Q PySem.F.plainAttrs_list PySem.F.slot_list_append PySem.F.type_list_append a17 (pv 5) (a0a (a0z a0s (a0R hu (pv 0) (pv 3) (fun _ _ => rfl)) (pv 6) (fun _ _ => rfl)) a0c))))) a0p)))
   hR))), ?_⟩
  refine ⟨_, rfl, _, rfl, d, _, rfl, dg (Same.refl H) vk, _, rfl, lk, _, _, _, rfl, rfl, SqL.of hlk, a11 e1, _, "tuple", o, _, rfl, ho, a1h K _, _, rfl, ?_⟩
  rw [ov.isT]
  refine ite2 (fun h1 => ?_) (fun h1 => ?_)
  ·refine ⟨_, rfl, _, rfl, d, _, rfl, dg (Same.refl H) vk, _, rfl, lk, _, _, _, rfl, rfl, SqL.of hlk, a11 e1, q _ _ (Same.refl H) ?_⟩
   unfold c2k
   rw [eo, if_pos h1]
   exact po
  have q : ∀ H' v, Same H H' -> Pv7 K H' v (grE g (grF o ks ns [])) -> Q v H' := fun H' v s' hd' => q H' v s' (by unfold c2k; rw [eo, if_neg h1]; exact hd')
  refine ⟨sl, fun l hl => ?_⟩
  have s1 := Same.new (o := .lst []) hl
  have hl1 : upd H l (.lst []) l = some (.lst []) := a0d
  generalize upd H l (.lst []) = H1 at s1 hl1 ⊢
  have lx : xk.length = ks.length := ak.length
  refine ⟨_, rfl, _, rfl, d, _, rfl, dg s1 vk, _, _, rfl, .inl ⟨_, SqL.of (s1 _ _ hlk), rfl⟩, _, rfl, ?_, ?_, ?_⟩
  ·omega
  ·omega
  refine a5g (lo := 0) (n := xk.length) (fun i σ H2 => ∃ o6 is, σ = [some (.ref d), some (.int (p : Int)), some (.str k), some (.str n), some (.str wd), some (.ref l), o6, none, none] /\ Same H H2 /\ H2 l = some (.lst (is.map V.int)) /\ is.length <= i /\ (p < i -> 0 < is.length) /\ (∀ j ∈ is, bnd F60 j) /\ grF o (ks.drop i) (ns.drop i) is = grF o ks ns []) ⟨_, [], rfl, s1, hl1, Nat.le_refl _, fun z => absurd z (Nat.not_lt_zero _), (fun j hj => by cases hj), rfl⟩ ?_ ?_
  ·rintro i σ H2 hi ⟨o6, is, rfl, s2, h2, li, lp, hb, hgr⟩
   obtain ⟨v1, d1, f1, f2, p3⟩ := PvA.at (i := i) ak (by omega)
   have f3 := p3.dt
   obtain ⟨v2, d2, f4, f5, p6⟩ := PvA.at (i := i) an (by omega)
   have f6 := p6.dt
   have g1 : Vd7 d1 := p3.vd
   have g2 : Vd7 d2 := p6.vd
   rw [a42 f2, a42 f5] at hgr
   have z0 : (0 : Int) + (i : Int) = (i : Int) := by omega
   refine ⟨_, rfl, _, rfl, d, _, rfl, dg s2 vk, _, rfl, lk, _, _, _, rfl, rfl, SqL.of (s2 _ _ hlk), (by rw [z0]; exact a11 f1), _, rfl, _, rfl, d, _, rfl, dg s2 vk, _, rfl, lk, _, _, _, rfl, rfl, SqL.of (s2 _ _ hlk), a11 e1, d1, o, f3.same s2, ho.same s2, g1.lay.1, ov.lay.1, g1.lay.2, _, rfl, ?_⟩
   refine ite2 (fun h2' => ?_) (fun h2' => ?_)
   ·refine ⟨_, rfl, _, rfl, d, _, rfl, dg s2 vn, _, rfl, ln', _, _, _, rfl, rfl, SqL.of (s2 _ _ hln), (by rw [z0]; exact a11 f4), _, "tuple", d2, _, rfl, f6.same s2, a1h K _, _, rfl, ?_⟩
    rw [g2.isT]
    rcases g2 with ⟨j, rfl, bj⟩ | ⟨z, hz, rfl⟩
    ·refine iteF ?_
     rw [c3E h2'] at hgr
     cases f6
     refine ⟨_, rfl, .inl ⟨rfl, _, SqL.of h2⟩, _, rfl, _, rfl, d, _, rfl, dg s2 vn, _, rfl, ln', _, _, _, rfl, rfl, SqL.of (s2 _ _ hln), (by rw [z0]; exact a11 f4), l, _, _, rfl, rfl, h2, a0U (by rw [List.length_map]; omega), ?_⟩
     refine ⟨_, is ++ [j], rfl, s2.on hl, (by rw [List.map_append]; exact a0d), by rw [List.length_append]; show is.length + 1 <= i + 1; omega, fun _ => by simp, fun y hy => ?_, hgr⟩
     rcases List.mem_append.mp hy with hy | hy
     ·exact hb y hy
     ·rw [List.mem_singleton.mp hy]; exact bj
    ·refine iteT ?_
     rw [c5h h2'] at hgr
     refine ⟨_, rfl, _, rfl, d, _, rfl, dg s2 vn, _, rfl, ln', _, _, _, rfl, rfl, SqL.of (s2 _ _ hln), (by rw [z0]; exact a11 f4), q _ _ s2 ?_⟩
     rw [<- hgr]
     exact p6.same s2
   ·rw [c66 h2'] at hgr
    refine ⟨_, is, rfl, s2, h2, by omega, fun hpi => ?_, hb, hgr⟩
    refine lp (Nat.lt_of_le_of_ne (by omega) fun e => h2' ?_)
    rw [<- e, e2] at f2
    cases f2
    exact SeqAt.eqv_refl _ ov.lay.1
  ·rintro σ H2 ⟨o6, is, rfl, s2, h2, li, lp, hb, hgr⟩
   rw [List.drop_eq_nil_of_le (by omega), c3p] at hgr
   refine qR l is H2 o6 h2 (lp (by omega)) (by omega) hb fun H' v s' hv => q _ _ (s2.trans s') ?_
   rw [<- hgr]
   exact hv
end
end My
set_option maxHeartbeats 1000000
namespace My
open PySem L2
theorem b02 : (" " : Str) = ⟨#[32]⟩ := by decide +kernel
theorem c1z (a b : Str) : (a ++ b).length = a.length + b.length := by
 show (a.cps ++ b.cps).size = _
 rw [Array.size_append]
 rfl
theorem c1B (x : Str) : Txt.join (" " : Str) [x] = x := by
 show Builtin.Str.glued (" " : Str) [x] = x
 rw [StrLaws.glued_eq_join]
 rfl
theorem b8i (x y : Str) (r : List Str) : Txt.join (" " : Str) (x :: y :: r) = x ++ " " ++ Txt.join (" " : Str) (y :: r) := by
 show Builtin.Str.glued (" " : Str) (x :: y :: r) = x ++ " " ++ Builtin.Str.glued (" " : Str) (y :: r)
 rw [StrLaws.glued_eq_join, StrLaws.glued_eq_join]
 rfl
theorem c1N : ∀ {zs : List Str} {m : Nat}, (∀ z ∈ zs, z.length <= m) -> (Txt.join (" " : Str) zs).length <= zs.length * (m + 1)
 | [], m, _ => by
  show (Builtin.Str.glued (" " : Str) []).length <= _
  rw [StrLaws.glued_eq_join]
  exact Nat.zero_le _
 | [x], m, h => by
  rw [c1B]
  have := h x (by simp)
  simp
  omega
 | x :: y :: r, m, h => by
  have ih := c1N (zs := y :: r) (m := m) fun z hz => h z (List.mem_cons_of_mem _ hz)
  have := h x List.mem_cons_self
  have l1 : (" " : Str).length = 1 := by decide
  rw [b8i, c1z, c1z, List.length_cons, Nat.succ_mul]
  omega
theorem b4e : ∀ {zs : List Str}, zs ≠ [] -> (∀ z ∈ zs, (32 : Nat) ∉ z.cps.toList) -> b0f 32 (Txt.join (" " : Str) zs) = zs
 | [], h, _ => absurd rfl h
 | [x], _, h => by
  rw [c1B, c0C (h x (by simp))]
 | x :: y :: r, _, h => by
  have ih := b4e (zs := y :: r) (by simp) fun z hz => h z (List.mem_cons_of_mem _ hz)
  rw [b8i, b02, c1s (h x List.mem_cons_self), <- b02, ih]
theorem c7T {zs : List Str} {m : Nat} (h : ∀ z ∈ zs, z.length <= m) : (zs.map (·.length)).sum <= zs.length * m := by
 induction zs with
 | nil => simp
 | cons z r ih =>
  rw [List.map_cons, List.sum_cons, List.length_cons, Nat.succ_mul]
  have := h z List.mem_cons_self
  have := ih fun y hy => h y (List.mem_cons_of_mem _ hy)
  omega
abbrev nm3 : List Str := ["a", "ab", "b"]
abbrev wds4 : List Str := ["sum", "most", "least", "many"]
def numS (i : Int) : Str := PySem.Str.ofString (toString i)
def sm4 (i : Int) : Prop := -4 <= i /\ i <= 4
theorem sm4.bnd {i : Int} (h : sm4 i) : My.bnd F60 i := by
 have : (1000 : Int) < F60 := by decide +kernel
 unfold sm4 at h
 unfold My.bnd
 generalize F60 = F at *
 omega
inductive DK where
 | cells (sg o mk ot : Str) (num : Int)
 | above (sg o : Str) (num : Int)
 | group (k n wd : Str)
 | lookup (k th n : Str)
 | mend (n : Str) (num : Int)
def DK.ok : DK -> Prop
 | .cells sg o mk ot num => sg ∈ sgns /\ mk ∈ sgns /\ o ∈ nm3 /\ ot ∈ nm3 /\ sm4 num
 | .above sg o num => sg ∈ sgns /\ o ∈ nm3 /\ sm4 num
 | .group k n wd => k ∈ nm3 /\ n ∈ nm3 /\ wd ∈ wds4
 | .lookup k th n => k ∈ nm3 /\ th ∈ nm3 /\ n ∈ nm3
 | .mend n num => n ∈ nm3 /\ sm4 num
def DK.vs : DK -> List V
 | .cells sg o mk ot num => [.str "cells", .str sg, .str o, .str mk, .str ot, .int num]
 | .above sg o num => [.str "above", .str sg, .str o, .int num]
 | .group k n wd => [.str "group", .str k, .str n, .str wd]
 | .lookup k th n => [.str "lookup", .str k, .str th, .str n]
 | .mend n num => [.str "mend", .str n, .int num]
def DK.kd : DK -> Str
 | .cells .. => "cells"
 | .above .. => "above"
 | .group .. => "group"
 | .lookup .. => "lookup"
 | .mend .. => "mend"
def DK.ws : DK -> List Str
 | .cells sg o mk ot num => [sg, o, mk, ot, numS num]
 | .above sg o num => [numS num, sg, "up", o]
 | .group k n wd => [k, n, wd]
 | .lookup k th n => [k, "t", th, n]
 | .mend n num => [n, numS num]
def DK.txt (dk : DK) : Str := Txt.join (" " : Str) (dk.kd :: dk.ws)
theorem a8v {i : Int} (h : sm4 i) : NumW (numS i) i := ⟨h.bnd, c1h i⟩
def Wd7 (z : Str) : Prop := (32 : Nat) ∉ z.cps.toList /\ z.length <= 61
theorem b5k : ∀ z ∈ nm3, Wd7 z := by unfold Wd7; decide +kernel
theorem c7R : ∀ z ∈ sgns, Wd7 z := by unfold Wd7; decide +kernel
theorem c96 : ∀ z ∈ wds4, Wd7 z := by unfold Wd7; decide +kernel
theorem c9H : ∀ z ∈ (["cells", "above", "group", "lookup", "mend"] : List Str), Wd7 z := by unfold Wd7; decide +kernel
theorem d0p (dk : DK) : Wd7 dk.kd := by cases dk <;> exact c9H _ (by simp [DK.kd])
theorem c9h : Wd7 "t" /\ Wd7 "up" := by unfold Wd7; decide +kernel
theorem c3Q {i : Int} (h : sm4 i) : Wd7 (numS i) := ⟨(a8v h).nb, (a8v h).reads.2⟩
theorem DK.ok.wd {dk : DK} (h : dk.ok) : ∀ z ∈ dk.kd :: dk.ws, Wd7 z := by
 intro z hz
 rcases List.mem_cons.mp hz with rfl | hz
 ·exact d0p dk
 cases dk with
 | cells sg o mk ot num =>
  obtain ⟨h1, h2, h3, h4, h5⟩ := h
  simp only [DK.ws, List.mem_cons, List.not_mem_nil, or_false] at hz
  rcases hz with rfl | rfl | rfl | rfl | rfl
  ·exact c7R _ h1
  ·exact b5k _ h3
  ·exact c7R _ h2
  ·exact b5k _ h4
  ·exact c3Q h5
 | above sg o num =>
  obtain ⟨h1, h2, h3⟩ := h
  simp only [DK.ws, List.mem_cons, List.not_mem_nil, or_false] at hz
  rcases hz with rfl | rfl | rfl | rfl
  ·exact c3Q h3
  ·exact c7R _ h1
  ·exact c9h.2
  ·exact b5k _ h2
 | group k n wd =>
  obtain ⟨h1, h2, h3⟩ := h
  simp only [DK.ws, List.mem_cons, List.not_mem_nil, or_false] at hz
  rcases hz with rfl | rfl | rfl
  ·exact b5k _ h1
  ·exact b5k _ h2
  ·exact c96 _ h3
 | lookup k th n =>
  obtain ⟨h1, h2, h3⟩ := h
  simp only [DK.ws, List.mem_cons, List.not_mem_nil, or_false] at hz
  rcases hz with rfl | rfl | rfl | rfl
  ·exact b5k _ h1
  ·exact c9h.1
  ·exact b5k _ h2
  ·exact b5k _ h3
 | mend n num =>
  obtain ⟨h1, h2⟩ := h
  simp only [DK.ws, List.mem_cons, List.not_mem_nil, or_false] at hz
  rcases hz with rfl | rfl
  ·exact b5k _ h1
  ·exact c3Q h2
theorem DK.wlen (dk : DK) : (dk.kd :: dk.ws).length <= 6 := by cases dk <;> simp [DK.ws]
theorem DK.ok.txt {dk : DK} (h : dk.ok) : dk.txt.length <= 9000 /\ Txt.split dk.txt " " = dk.kd :: dk.ws := by
 have l := c1N (zs := dk.kd :: dk.ws) (m := 61) fun z hz => (h.wd z hz).2
 have l2 := Nat.mul_le_mul_right (61 + 1) dk.wlen
 refine ⟨Nat.le_trans l (by omega), ?_⟩
 unfold DK.txt
 rw [b02, c6u (by decide), <- b02, b4e (by simp) fun z hz => (h.wd z hz).1]
theorem DK.ok.join {dk : DK} (h : dk.ok) : ((dk.kd :: dk.ws).map (·.length)).sum + (dk.kd :: dk.ws).length * (" " : Str).length <= 500 := by
 have l := c7T (zs := dk.kd :: dk.ws) (m := 61) fun z hz => (h.wd z hz).2
 have l2 := Nat.mul_le_mul_right 61 dk.wlen
 have lb : (" " : Str).length = 1 := by decide
 have l3 := dk.wlen
 rw [lb]
 omega
theorem d0j : ∀ n : Nat, n < 7 -> ∃ c, atI ("+-*/:<=" : Str).cps.toList (n : Int) = some c /\ (⟨#[c]⟩ : Str) ∈ sgns := by
 intro n hn
 match n, hn with
 | 0, _ => exact ⟨43, rfl, by decide +kernel⟩
 | 1, _ => exact ⟨45, rfl, by decide +kernel⟩
 | 2, _ => exact ⟨42, rfl, by decide +kernel⟩
 | 3, _ => exact ⟨47, rfl, by decide +kernel⟩
 | 4, _ => exact ⟨58, rfl, by decide +kernel⟩
 | 5, _ => exact ⟨60, rfl, by decide +kernel⟩
 | 6, _ => exact ⟨61, rfl, by decide +kernel⟩
 | n + 7, h => omega
theorem c9T : ∀ n : Nat, n < 3 -> ∃ z ∈ nm3, atI (nm3.map V.str) (n : Int) = some (.str z) := by
 intro n hn
 match n, hn with
 | 0, _ => exact ⟨_, by decide +kernel, rfl⟩
 | 1, _ => exact ⟨_, by decide +kernel, rfl⟩
 | 2, _ => exact ⟨_, by decide +kernel, rfl⟩
 | n + 3, h => omega
theorem d0d : ∀ n : Nat, n < 4 -> ∃ z ∈ wds4, atI (wds4.map V.str) (n : Int) = some (.str z) := by
 intro n hn
 match n, hn with
 | 0, _ => exact ⟨_, by decide +kernel, rfl⟩
 | 1, _ => exact ⟨_, by decide +kernel, rfl⟩
 | 2, _ => exact ⟨_, by decide +kernel, rfl⟩
 | 3, _ => exact ⟨_, by decide +kernel, rfl⟩
 | n + 4, h => omega
theorem b6i (c : Int) {m : Nat} (h : 0 < m) : ∃ n : Nat, n < m /\ c % (m : Int) = (n : Int) := by
 obtain ⟨h1, h2⟩ := b9w c (n := (m : Int)) (by omega)
 obtain ⟨n, e⟩ := Int.eq_ofNat_of_zero_le h1
 exact ⟨n, by omega, e⟩
section
variable {X : Cx}
theorem c1H {c : Expr} {a b : List Stmt} {tc : TT} {t u : TS} {pos : Pos} (hc : PT X c tc) (ha : PSsw X a t) (hb : PSsw X b u) : PSw X (.If c a b pos) (tIfS tc t u) := ⟨a0J hc ha.run hb.run⟩
theorem c9E {r : R2} {a b : Expr} {ta tb : TE} {pos : Pos} (hr : IxR X r) (ha : PEw X a ta) (hb : PEw X b tb) (hs : c4q b) : PEw X (.Subscript a b pos) (tOp r ta tb) := ⟨a0z hr ha.run hb.run hs⟩
theorem a89 {z : Str} {j : Nat} {p0 p1 p2 p3 : Pos} {es : List Expr} {t : TA} (h : PAw X es t) (hl : (p1.endLine == p2.line) = true := by rfl) :
 PEw X (.Call (.Attribute (.Constant (.str z) j p0) "join" p1) [.List es p3] [] p2) (tBM X.K "str" (c9N X.K) (tC (.str z)) (a8j (tLst t) tNil)) :=
 ⟨a9Q PySem.F.plainAttrs_str PySem.F.slot_str_join PySem.F.type_str_join c7f a0u (a0a (a1G h.run) a0c) rfl rfl hl rfl rfl⟩
end
section
variable {P : Program} {w : World} {K : PySem.W.Frag} {mg : Str -> Option Value} {base : Heap}
def c9y (K : PySem.W.Frag) : Sp := fun vs H Q _ => ∃ (a nl : Addr) (ns : List Int) (k : Nat), vs = [.ref a, .int (k : Int), .ref nl] /\ SqL K H a (ns.map V.int) /\ ns.length <= 63 /\ k <= 1000 /\ SqL K H nl (nm3.map V.str) /\
 ∀ H' r t (dk : DK), Same H H' -> dk.ok -> H' r = some (.tup [.ref t, .str dk.txt]) -> H' t = some (.tup dk.vs) -> Q (.ref r) H'
abbrev Ndr7 : List Str := ["_law_script", "_law_at", "_law_names", "_law_way", "_law_one", "_law_other", "_law_third", "_law_number", "_law_sign", "_law_mark", "_law_word"]
theorem a1d : a0o Ndr7 ["_law_script", "_law_at", "_law_names"] (a0b a2f) := ⟨rfl, rfl, rfl, by decide +kernel, rfl, by decide +kernel, by decide +kernel⟩
theorem a38 (T : Tops K mg) : a0q P w K mg base CX0 2 "_law_drawn" ["_law_script", "_law_at", "_law_names"] (c9y K) := by
 have G_law_cell : a0q P w K mg base CX0 1 "_law_cell" ["_law_script", "_law_k"] (c2h K) := a3E T
 refine T.d_law_drawn.known a1d (fun _ _ _ _ _ _ us hl => match us, hl with | [_, _, _], _ => rfl) (fun vs H Q E h => ?_) (fun f cdv A outer s H vs Q E hr h => ?_)
 ·obtain ⟨a, nl, ns, k, rfl, _⟩ := h
  rfl
 ·obtain ⟨a, nl, ns, k, rfl, hS, hl, hk, hnl, q⟩ := h
  have fin : ∀ (dk : DK), dk.ok -> ∀ (t l : Addr) (H1 : Hp), Same H H1 -> H1 t = some (.tup dk.vs) -> ∀ r, H1 r = none -> Q (.ref r) (upd H1 r (.tup [.ref t, .str dk.txt])) := fun dk hd t l H1 s1 ht r hr => by
   exact q _ r t dk (s1.trans (Same.new hr)) hd a0d (Same.new hr _ _ ht)
  have rest : ∃ t, PSsw (cxOf CX0 P w K mg base Ndr7 "_law_drawn" (a0b a2f) f cdv A outer s H E).nox ((a0j a2f).drop 7) t /\
   ∀ (wy : Int) (o1 o2 o3 sg mk : Str) (num : Int), o1 ∈ nm3 -> o2 ∈ nm3 -> o3 ∈ nm3 -> sg ∈ sgns -> mk ∈ sgns -> sm4 num -> t { nx := fun _ H' => Q .non H', rt := Q } [some (.ref a), some (.int (k : Int)), some (.ref nl), some (.int wy), some (.str o1), some (.str o2), some (.str o3), some (.int num), some (.str sg), some (.str mk), none] H := by
   refine ⟨_, (a1v (c1H (a0v a1Y (pv 3) a0i (a0A _)) (a8X (b1k (a4U (c4d (a4U (a7x a1Q (a2n (PEw.mk (pv 8)) (a2n (PEw.mk (pv 4)) (a2n (PEw.mk (pv 9)) (a2n (PEw.mk (pv 5)) (a2n (PEw.mk (pv 7)) a1U))))))) (b7g (a89 (a7x a1Q (a2n (PEw.mk (pv 8)) (a2n (PEw.mk (pv 4)) (a2n (PEw.mk (pv 9)) (a2n (PEw.mk (pv 5)) (b7g (PEw.mk (a1H a7d (by rfl) T.str c0d (a0a (pv 7) a0c))) a1U))))))) a1U))))) b0Z)
    (a1v (c1H (a0v a1Y (pv 3) a0i (a0A _)) (a8X (b1k (a4U (c4d (a4U (a7x a1Q (a2n (PEw.mk (pv 8)) (a2n (PEw.mk (pv 4)) (a2n (PEw.mk (pv 7)) a1U))))) (b7g (a89 (a7x a1Q (b7g (PEw.mk (a1H a7d (by rfl) T.str c0d (a0a (pv 7) a0c))) (a2n (PEw.mk (pv 8)) (a7x a1Q (a2n (PEw.mk (pv 4)) a1U)))))) a1U))))) b0Z)
    (a1v (c1H (a0v a1Y (pv 3) a0i (a0A _)) (a1v (c7W (i := 10) a1d.nd rfl (Or.inl rfl) (c9E a0s (c8h (a7x a1Q (a7x a1Q (a7x a1Q (a7x a1Q a1U))))) (PEw.mk (a0E a14 (a0h G_law_cell (hr.mono (by decide)) a0t (a0a (pv 0) (a0a (a0E a2D (pv 1) a0i) a0c))) a0i)) (fun _ _ => rfl))) (a8X (b1k (a4U (c4d (a4U (a7x a1Q (a2n (PEw.mk (pv 4)) (a2n (PEw.mk (pv 5)) (a2n (PEw.mk (pv 10)) a1U))))) (b7g (a89 (a7x a1Q (a2n (PEw.mk (pv 4)) (a2n (PEw.mk (pv 5)) (a2n (PEw.mk (pv 10)) a1U))))) a1U)))))) b0Z)
    (a1v (c1H (a0v a1Y (pv 3) a0i (a0A _)) (a8X (b1k (a4U (c4d (a4U (a7x a1Q (a2n (PEw.mk (pv 4)) (a2n (PEw.mk (pv 5)) (a2n (PEw.mk (pv 6)) a1U))))) (b7g (a89 (a7x a1Q (a2n (PEw.mk (pv 4)) (a7x a1Q (a2n (PEw.mk (pv 5)) (a2n (PEw.mk (pv 6)) a1U)))))) a1U))))) b0Z)
    (a8X (b1k (a4U (c4d (a4U (a7x a1Q (a2n (PEw.mk (pv 4)) (a2n (PEw.mk (pv 7)) a1U)))) (b7g (a89 (a7x a1Q (a2n (PEw.mk (pv 4)) (b7g (PEw.mk (a1H a7d (by rfl) T.str c0d (a0a (pv 7) a0c))) a1U)))) a1U))))))))), ?_⟩
   intro wy o1 o2 o3 sg mk num h1 h2 h3 hsg hmk hnum
   have hlog := c8M hnum.bnd.1 hnum.bnd.2
   refine ⟨_, rfl, rfl, _, rfl, ite2 (fun _ => ?_) (fun _ => ?_)⟩
   ·have ok : (DK.cells sg o1 mk o2 num).ok := ⟨hsg, hmk, h1, h2, hnum⟩
    refine ⟨_, rfl, _, rfl, _, rfl, _, rfl, _, rfl, sl, fun t ht => ?_⟩
    have s1 := Same.new (o := .tup (DK.cells sg o1 mk o2 num).vs) ht
    refine ⟨rfl, _, rfl, _, rfl, _, rfl, _, rfl, _, rfl, num, rfl, hlog, sl, fun l hl2 => ?_⟩
    have s2 := Same.new (o := .lst ((DK.kd (.cells sg o1 mk o2 num) :: DK.ws (.cells sg o1 mk o2 num)).map V.str)) hl2
    refine ⟨" ", l, DK.kd (.cells sg o1 mk o2 num) :: DK.ws (.cells sg o1 mk o2 num), rfl, rfl, SqL.of a0d, Nat.le_trans ok.join (by decide), sl, fun r hr2 => ?_⟩
    exact fin (.cells sg o1 mk o2 num) ok t l _ (s1.trans s2) (s2 _ _ a0d) r hr2
   refine ⟨_, rfl, rfl, _, rfl, ite2 (fun _ => ?_) (fun _ => ?_)⟩
   ·have ok : (DK.above sg o1 num).ok := ⟨hsg, h1, hnum⟩
    refine ⟨_, rfl, _, rfl, _, rfl, sl, fun t ht => ?_⟩
    have s1 := Same.new (o := .tup (DK.above sg o1 num).vs) ht
    refine ⟨rfl, _, rfl, num, rfl, hlog, _, rfl, _, rfl, sl, fun l hl2 => ?_⟩
    have s2 := Same.new (o := .lst ((DK.kd (.above sg o1 num) :: DK.ws (.above sg o1 num)).map V.str)) hl2
    refine ⟨" ", l, DK.kd (.above sg o1 num) :: DK.ws (.above sg o1 num), rfl, rfl, SqL.of a0d, Nat.le_trans ok.join (by decide), sl, fun r hr2 => ?_⟩
    exact fin (.above sg o1 num) ok t l _ (s1.trans s2) (s2 _ _ a0d) r hr2
   refine ⟨_, rfl, rfl, _, rfl, ite2 (fun _ => ?_) (fun _ => ?_)⟩
   ·obtain ⟨n4, hn4, e4⟩ := b6i (a5x ns ((k : Int) + 5)) (m := 4) (by decide)
    obtain ⟨wd, hwd, hat⟩ := d0d n4 hn4
    refine ⟨sl, fun wl hwl => ?_⟩
    have sw := Same.new (o := .lst (wds4.map V.str)) hwl
    refine ⟨_, rfl, _, rfl, _, _, rfl, rfl, a, ns, _, rfl, sw.seq hS, hl, by omega, by omega, _, _, rfl, rfl, (show (0 : Int) < 4 by decide), wl, _, _, _, rfl, rfl, SqL.of a0d, (by rw [show a5x ns ((k : Int) + 5) % 4 = (n4 : Int) from e4]; exact hat), ?_⟩
    have ok : (DK.group o1 o2 wd).ok := ⟨h1, h2, hwd⟩
    refine ⟨_, rfl, _, rfl, _, rfl, sl, fun t ht => ?_⟩
    have s1 := Same.new (o := .tup (DK.group o1 o2 wd).vs) ht
    refine ⟨rfl, _, rfl, _, rfl, _, rfl, sl, fun l hl2 => ?_⟩
    have s2 := Same.new (o := .lst ((DK.kd (.group o1 o2 wd) :: DK.ws (.group o1 o2 wd)).map V.str)) hl2
    refine ⟨" ", l, DK.kd (.group o1 o2 wd) :: DK.ws (.group o1 o2 wd), rfl, rfl, SqL.of a0d, Nat.le_trans ok.join (by decide), sl, fun r hr2 => ?_⟩
    exact fin (.group o1 o2 wd) ok t l _ ((sw.trans s1).trans s2) (s2 _ _ a0d) r hr2
   refine ⟨_, rfl, rfl, _, rfl, ite2 (fun _ => ?_) (fun _ => ?_)⟩
   ·have ok : (DK.lookup o1 o2 o3).ok := ⟨h1, h2, h3⟩
    refine ⟨_, rfl, _, rfl, _, rfl, sl, fun t ht => ?_⟩
    have s1 := Same.new (o := .tup (DK.lookup o1 o2 o3).vs) ht
    refine ⟨rfl, _, rfl, _, rfl, _, rfl, sl, fun l hl2 => ?_⟩
    have s2 := Same.new (o := .lst ((DK.kd (.lookup o1 o2 o3) :: DK.ws (.lookup o1 o2 o3)).map V.str)) hl2
    refine ⟨" ", l, DK.kd (.lookup o1 o2 o3) :: DK.ws (.lookup o1 o2 o3), rfl, rfl, SqL.of a0d, Nat.le_trans ok.join (by decide), sl, fun r hr2 => ?_⟩
    exact fin (.lookup o1 o2 o3) ok t l _ (s1.trans s2) (s2 _ _ a0d) r hr2
   ·have ok : (DK.mend o1 num).ok := ⟨h1, hnum⟩
    refine ⟨_, rfl, _, rfl, sl, fun t ht => ?_⟩
    have s1 := Same.new (o := .tup (DK.mend o1 num).vs) ht
    refine ⟨rfl, _, rfl, _, rfl, num, rfl, hlog, sl, fun l hl2 => ?_⟩
    have s2 := Same.new (o := .lst ((DK.kd (.mend o1 num) :: DK.ws (.mend o1 num)).map V.str)) hl2
    refine ⟨" ", l, DK.kd (.mend o1 num) :: DK.ws (.mend o1 num), rfl, rfl, SqL.of a0d, Nat.le_trans ok.join (by decide), sl, fun r hr2 => ?_⟩
    exact fin (.mend o1 num) ok t l _ (s1.trans s2) (s2 _ _ a0d) r hr2
  obtain ⟨tR, hR, qR⟩ := rest
  refine boxS ⟨_, (a1v (PSw.mk (a0B (i := 3) a1d.nd rfl (Or.inl rfl) (a0E a14 (a0h G_law_cell (hr.mono (by decide)) a0t (a0a (pv 0) (a0a (pv 1) a0c))) a0i)))
   (a1v (PSw.mk (a0B (i := 4) a1d.nd rfl (Or.inl rfl) (a0z a0s (pv 2) (a0E a14 (a0h G_law_cell (hr.mono (by decide)) a0t (a0a (pv 0) (a0a (a0E a2D (pv 1) a0i) a0c))) a0i) (fun _ _ => rfl))))
   (a1v (PSw.mk (a0B (i := 5) a1d.nd rfl (Or.inl rfl) (a0z a0s (pv 2) (a0E a14 (a0h G_law_cell (hr.mono (by decide)) a0t (a0a (pv 0) (a0a (a0E a2D (pv 1) a0i) a0c))) a0i) (fun _ _ => rfl))))
   (a1v (PSw.mk (a0B (i := 6) a1d.nd rfl (Or.inl rfl) (a0z a0s (pv 2) (a0E a14 (a0h G_law_cell (hr.mono (by decide)) a0t (a0a (pv 0) (a0a (a0E a2D (pv 1) a0i) a0c))) a0i) (fun _ _ => rfl))))
   (a1v (PSw.mk (a0B (i := 7) a1d.nd rfl (Or.inl rfl) (a0E a80 (a0E a14 (a0h G_law_cell (hr.mono (by decide)) a0t (a0a (pv 0) (a0a (a0E a2D (pv 1) a0i) a0c))) a0i) a0i)))
   (a1v (PSw.mk (a0B (i := 8) a1d.nd rfl (Or.inl rfl) (a0z c3v a0u (a0E a14 (a0h G_law_cell (hr.mono (by decide)) a0t (a0a (pv 0) (a0a (a0E a2D (pv 1) a0i) a0c))) a0i) (fun _ _ => rfl))))
   (a1v (PSw.mk (a0B (i := 9) a1d.nd rfl (Or.inl rfl) (a0z c3v a0u (a0E a14 (a0h G_law_cell (hr.mono (by decide)) a0t (a0a (pv 0) (a0a (a0E a2D (pv 1) a0i) a0c))) a0i) (fun _ _ => rfl)))) hR))))))), ?_⟩
  have c3 : ∀ j : Int, 0 <= j -> j <= 10 -> ∃ z ∈ nm3, atI (nm3.map V.str) (a5x ns ((k : Int) + j) % 3) = some (.str z) := fun j _ _ => by
   obtain ⟨n, hn, e⟩ := b6i (a5x ns ((k : Int) + j)) (m := 3) (by decide)
   rw [show a5x ns ((k : Int) + j) % 3 = (n : Int) from e]
   exact c9T n hn
  have c7 : ∀ j : Int, 0 <= j -> j <= 10 -> ∃ c, atI ("+-*/:<=" : Str).cps.toList (a5x ns ((k : Int) + j) % 7) = some c /\ (⟨#[c]⟩ : Str) ∈ sgns := fun j _ _ => by
   obtain ⟨n, hn, e⟩ := b6i (a5x ns ((k : Int) + j)) (m := 7) (by decide)
   rw [show a5x ns ((k : Int) + j) % 7 = (n : Int) from e]
   exact d0j n hn
  obtain ⟨o1, m1, e1⟩ := c3 1 (by decide) (by decide)
  obtain ⟨o2, m2, e2⟩ := c3 2 (by decide) (by decide)
  obtain ⟨o3, m3, e3⟩ := c3 3 (by decide) (by decide)
  obtain ⟨s1, g1, ms⟩ := c7 5 (by decide) (by decide)
  obtain ⟨s2, g2, mk⟩ := c7 6 (by decide) (by decide)
  have l7 : ("+-*/:<=" : Str).length <= sizeLine := sl (by decide)
  refine ⟨_, rfl, _, rfl, a, ns, _, rfl, hS, hl, by omega, by omega, _, _, rfl, rfl, (show (0 : Int) < 5 by decide), ?_⟩
  refine ⟨_, rfl, _, rfl, _, rfl, _, _, rfl, rfl, a, ns, _, rfl, hS, hl, by omega, by omega, _, _, rfl, rfl, (show (0 : Int) < 3 by decide), nl, _, _, _, rfl, rfl, hnl, e1, ?_⟩
  refine ⟨_, rfl, _, rfl, _, rfl, _, _, rfl, rfl, a, ns, _, rfl, hS, hl, by omega, by omega, _, _, rfl, rfl, (show (0 : Int) < 3 by decide), nl, _, _, _, rfl, rfl, hnl, e2, ?_⟩
  refine ⟨_, rfl, _, rfl, _, rfl, _, _, rfl, rfl, a, ns, _, rfl, hS, hl, by omega, by omega, _, _, rfl, rfl, (show (0 : Int) < 3 by decide), nl, _, _, _, rfl, rfl, hnl, e3, ?_⟩
  refine ⟨_, rfl, _, rfl, _, _, rfl, rfl, a, ns, _, rfl, hS, hl, by omega, by omega, _, _, rfl, rfl, (show (0 : Int) < 9 by decide), _, _, rfl, rfl, ?_⟩
  refine ⟨_, rfl, _, rfl, _, _, rfl, rfl, a, ns, _, rfl, hS, hl, by omega, by omega, _, _, rfl, rfl, (show (0 : Int) < 7 by decide), _, _, _, rfl, rfl, l7, g1, ?_⟩
  refine ⟨_, rfl, _, rfl, _, _, rfl, rfl, a, ns, _, rfl, hS, hl, by omega, by omega, _, _, rfl, rfl, (show (0 : Int) < 7 by decide), _, _, _, rfl, rfl, l7, g2, ?_⟩
  refine qR _ o1 o2 o3 ⟨#[s1]⟩ ⟨#[s2]⟩ (a5x ns ((k : Int) + 4) % 9 - 4) m1 m2 m3 ms mk ?_
  obtain ⟨h1, h2⟩ := b9w (a5x ns ((k : Int) + 4)) (n := 9) (by decide)
  unfold sm4
  omega
end
end My
set_option maxHeartbeats 1000000
namespace My
open PySem L2
def gOf (wd : Str) : List Int -> PyData := if wd = "sum" then gSum else if wd = "most" then c6q else if wd = "least" then c1Z else c4Z
theorem c4i {wd : Str} (h : wd ∈ wds4) : b8I wd (gOf wd) := by
 simp only [List.mem_cons, List.not_mem_nil, or_false] at h
 rcases h with rfl | rfl | rfl | rfl
 ·exact .inl ⟨rfl, rfl⟩
 ·exact .inr (.inl ⟨rfl, rfl⟩)
 ·exact .inr (.inr (.inl ⟨rfl, rfl⟩))
 ·exact .inr (.inr (.inr ⟨rfl, rfl⟩))
def dueU (cd : Str -> List PyData) (own : List PyData) (p : Nat) : DK -> PyData
 | .cells sg o mk ot num => due3 sg mk (cd o) (cd ot) num p
 | .above sg o num => dueA sg num (cd o) own p
 | .group k n wd => c2k (gOf wd) (cd k) (cd n) p
 | .lookup k th n => c3j (cd k) (cd th) (cd n) p
 | .mend n num => if isT ((cd n).getD p .none) then .int num else (cd n).getD p .none
theorem a88.same {K : PySem.W.Frag} {H H' : Hp} {d : Addr} {cd : Str -> Option (List PyData)} (h : a88 K H d cd) (s : Same H H') : a88 K H' d cd := by
 obtain ⟨kvs, h1, h2⟩ := h
 refine ⟨kvs, s _ _ h1, fun z ds hz => ?_⟩
 obtain ⟨l, xs, e1, e2, e3⟩ := h2 z ds hz
 exact ⟨l, xs, e1, s _ _ e2, e3.same s⟩
section
variable {P : Program} {w : World} {K : PySem.W.Frag} {mg : Str -> Option Value} {base : Heap}
def c6J (K : PySem.W.Frag) : Sp := fun vs H Q _ => ∃ (d tp ol : Addr) (p m : Nat) (dk : DK) (cdo : Str -> Option (List PyData)) (cd : Str -> List PyData) (own : List PyData) (xs : List V), vs = [.ref d, .int (p : Int), .ref tp, .ref ol] /\ SqT K H tp dk.vs /\ dk.ok /\ a88 K H d cdo /\ (∀ z ∈ nm3, cdo z = some (cd z) /\ (cd z).length = m) /\ m <= 30 /\ p < m /\ H ol = some (.lst xs) /\ PvA K H xs own /\ p <= own.length /\
 ∀ H' v, Same H H' -> Pv7 K H' v (dueU cd own p dk) -> Q v H'
abbrev Ndu7 : List Str := ["_law_held", "_law_place", "_law_drawn_here", "_law_own"]
theorem c3i : a0o Ndu7 Ndu7 (a0b a6Q) := ⟨rfl, rfl, rfl, by decide +kernel, rfl, by decide +kernel, by decide +kernel⟩
theorem a6V (T : Tops K mg) : a0q P w K mg base CX0 3 "_law_due" Ndu7 (c6J K) := by
 have G_law_three : a0q P w K mg base CX0 2 "_law_three" ["_law_held", "_law_place", "_law_parts"] (sp3 K) := a4j T
 have G_law_above : a0q P w K mg base CX0 2 "_law_above" ["_law_held", "_law_place", "_law_parts", "_law_own"] (c8O K) := a4f T
 have G_law_group : a0q P w K mg base CX0 1 "_law_group" ["_law_held", "_law_place", "_law_key", "_law_name", "_law_word"] (c9x K) := a4a T
 have G_law_lookup : a0q P w K mg base CX0 1 "_law_lookup" ["_law_held", "_law_place", "_law_key", "_law_theirs", "_law_name"] (c9j K) := a29 T
 refine T.d_law_due.known c3i (fun _ _ _ _ _ _ us hl => match us, hl with | [_, _, _, _], _ => rfl) (fun vs H Q E h => ?_) (fun f cdv A outer s H vs Q E hr h => ?_)
 ·obtain ⟨d, tp, ol, p, m, dk, cdo, cd, own, xs, rfl, _⟩ := h
  rfl
 ·obtain ⟨d, tp, ol, p, m, dk, cdo, cd, own, xs, rfl, htp, hok, hH, hcd, hm, hp, hol, ow, hpw, q⟩ := h
  have hu := Nat.lt_of_le_of_lt (Nat.add_le_add_left (show 1 <= 64 by decide) _) hr.units
  refine ⟨_, (a0e (a0J (a0v a1Y (a0z a1z (pv 2) a0i (fun _ _ => rfl)) a0u (a0A _)) (a0g (a0l (a0h G_law_three (hr.mono (by decide)) a0t (a0a (pv 0) (a0a (pv 1) (a0a (a3t c61 (pv 2) (a53 a0i) a6a) a0c)))))) a0p)
   (a0e (a0J (a0v a1Y (a0z a1z (pv 2) a0i (fun _ _ => rfl)) a0u (a0A _)) (a0g (a0l (a0h G_law_above (hr.mono (by decide)) a0t (a0a (pv 0) (a0a (pv 1) (a0a (a3t c61 (pv 2) (a53 a0i) a6a) (a0a (pv 3) a0c))))))) a0p)
   (a0e (a0J (a0v a1Y (a0z a1z (pv 2) a0i (fun _ _ => rfl)) a0u (a0A _)) (a0g (a0l (a0h G_law_group (hr.mono (by decide)) a0t (a0a (pv 0) (a0a (pv 1) (a0a (a0z a1z (pv 2) a0i (fun _ _ => rfl)) (a0a (a0z a1z (pv 2) a0i (fun _ _ => rfl)) (a0a (a0z a1z (pv 2) a0i (fun _ _ => rfl)) a0c)))))))) a0p)
   (a0e (a0J (a0v a1Y (a0z a1z (pv 2) a0i (fun _ _ => rfl)) a0u (a0A _)) (a0g (a0l (a0h G_law_lookup (hr.mono (by decide)) a0t (a0a (pv 0) (a0a (pv 1) (a0a (a0z a1z (pv 2) a0i (fun _ _ => rfl)) (a0a (a0z a1z (pv 2) a0i (fun _ _ => rfl)) (a0a (a0z a1z (pv 2) a0i (fun _ _ => rfl)) a0c)))))))) a0p)
   (a0e (a0J (a05 (a0r a0Y rfl T.isinstance a0w (a0a (a0z a0s (a0R hu (pv 0) (a0z a1z (pv 2) a0i (fun _ _ => rfl)) (fun _ _ => rfl)) (pv 1) (fun _ _ => rfl)) (a0a (a5E T.tuple a3L) a0c))) (fun _ => rfl)) (a0g (a0l (a0z a1z (pv 2) a0i (fun _ _ => rfl)))) a0p)
   (a0g (a0l (a0z a0s (a0R hu (pv 0) (a0z a1z (pv 2) a0i (fun _ _ => rfl)) (fun _ _ => rfl)) (pv 1) (fun _ _ => rfl))))))))), ?_⟩
  cases dk with
  | cells sg o mk ot num =>
   obtain ⟨h1, h2, h3, h4, h5⟩ := hok
   obtain ⟨c1, l1⟩ := hcd o h3
   obtain ⟨c2, l2⟩ := hcd ot h4
   refine ⟨_, rfl, tp, _, _, _, rfl, rfl, htp, rfl, rfl, _, rfl, ite2 (fun _ => ?_) (fun h => absurd (decide_eq_true rfl) h)⟩
   refine ⟨_, rfl, _, rfl, _, rfl, _, rfl, tp, _, rfl, htp, (fun z => absurd z.1 (show ¬ HT.sIx 6 0 (some 1) = 0 by decide +kernel)), fun c hc => ?_⟩
   have s1 := Same.new (o := .tup (cutV (DK.cells sg o mk ot num).vs (some 1) none)) hc
   exact ⟨d, c, p, sg, o, mk, ot, num, cdo, cd o, cd ot, rfl, SqT.of a0d, h1, h2, h5.bnd, hH.same s1, c1, c2, by omega, by omega, fun H' v s' hv => q _ _ (s1.trans s') hv⟩
  | above sg o num =>
   obtain ⟨h1, h3, h5⟩ := hok
   obtain ⟨c1, l1⟩ := hcd o h3
   refine ⟨_, rfl, tp, _, _, _, rfl, rfl, htp, rfl, rfl, _, rfl, ite2 (fun h => absurd (V.str.inj (of_decide_eq_true h)) (by decide)) (fun _ => ?_)⟩
   refine ⟨_, rfl, tp, _, _, _, rfl, rfl, htp, rfl, rfl, _, rfl, ite2 (fun _ => ?_) (fun h => absurd (decide_eq_true rfl) h)⟩
   refine ⟨_, rfl, _, rfl, _, rfl, _, rfl, tp, _, rfl, htp, (fun z => absurd z.1 (show ¬ HT.sIx 4 0 (some 1) = 0 by decide +kernel)), fun c hc => ?_⟩
   have s1 := Same.new (o := .tup (cutV (DK.above sg o num).vs (some 1) none)) hc
   exact ⟨_, rfl, d, c, ol, p, sg, o, num, cdo, cd o, own, xs, rfl, SqT.of a0d, h1, h5.bnd, hH.same s1, c1, by omega, s1 _ _ hol, ow.same s1, hpw, fun H' v s' hv => q _ _ (s1.trans s') hv⟩
  | group k n wd =>
   obtain ⟨h1, h2, h3⟩ := hok
   obtain ⟨c1, l1⟩ := hcd k h1
   obtain ⟨c2, l2⟩ := hcd n h2
   iterate 2 refine ⟨_, rfl, tp, _, _, _, rfl, rfl, htp, rfl, rfl, _, rfl, ite2 (fun h => absurd (V.str.inj (of_decide_eq_true h)) (by decide)) (fun _ => ?_)⟩
   refine ⟨_, rfl, tp, _, _, _, rfl, rfl, htp, rfl, rfl, _, rfl, ite2 (fun _ => ?_) (fun h => absurd (decide_eq_true rfl) h)⟩
   exact ⟨_, rfl, _, rfl, _, rfl, tp, _, _, _, rfl, rfl, htp, rfl, _, rfl, tp, _, _, _, rfl, rfl, htp, rfl, _, rfl, tp, _, _, _, rfl, rfl, htp, rfl, d, p, k, n, wd, gOf wd, cdo, cd k, cd n, rfl, hH, c4i h3, c1, c2, by omega, by omega, by omega, q⟩
  | lookup k th n =>
   obtain ⟨h1, h2, h3⟩ := hok
   obtain ⟨c1, l1⟩ := hcd k h1
   obtain ⟨c2, l2⟩ := hcd th h2
   obtain ⟨c3, l3⟩ := hcd n h3
   iterate 3 refine ⟨_, rfl, tp, _, _, _, rfl, rfl, htp, rfl, rfl, _, rfl, ite2 (fun h => absurd (V.str.inj (of_decide_eq_true h)) (by decide)) (fun _ => ?_)⟩
   refine ⟨_, rfl, tp, _, _, _, rfl, rfl, htp, rfl, rfl, _, rfl, ite2 (fun _ => ?_) (fun h => absurd (decide_eq_true rfl) h)⟩
   exact ⟨_, rfl, _, rfl, _, rfl, tp, _, _, _, rfl, rfl, htp, rfl, _, rfl, tp, _, _, _, rfl, rfl, htp, rfl, _, rfl, tp, _, _, _, rfl, rfl, htp, rfl, d, p, k, th, n, cdo, cd k, cd th, cd n, rfl, hH, c1, c2, c3, by omega, by omega, by omega, by omega, q⟩
  | mend n num =>
   obtain ⟨h1, h2⟩ := hok
   obtain ⟨c1, l1⟩ := hcd n h1
   iterate 4 refine ⟨_, rfl, tp, _, _, _, rfl, rfl, htp, rfl, rfl, _, rfl, ite2 (fun h => absurd (V.str.inj (of_decide_eq_true h)) (by decide)) (fun _ => ?_)⟩
   obtain ⟨kvs, hd, hh⟩ := hH
   obtain ⟨lo, xo, vo, hlo, ao⟩ := hh n (cd n) c1
   obtain ⟨w1, d1, a1, a2, p3⟩ := PvA.at (i := p) ao (by omega)
   have a3 := p3.dt
   have g1 : Vd7 d1 := p3.vd
   have e1 : (cd n).getD p .none = d1 := by rw [List.getD_eq_getElem?_getD, a2]; rfl
   have q : ∀ v, Pv7 K H v (if isT d1 then .int num else d1) -> Q v H := fun v hv => q _ _ (Same.refl H) (by
    show Pv7 K H v (if isT ((cd n).getD p .none) then .int num else (cd n).getD p .none)
    rw [e1]
    exact hv)
   have dg : DGet H d (.str n) (some (.ref lo)) := .inl ⟨kvs, .inr n, .inl hd, rfl, vo.symm⟩
   refine ⟨_, rfl, _, rfl, tp, _, _, _, rfl, rfl, htp, rfl, d, _, rfl, dg, _, rfl, lo, _, _, _, rfl, rfl, SqL.of hlo, a11 a1, _, "tuple", d1, _, rfl, a3, a1h K _, _, rfl, ?_⟩
   rw [g1.isT]
   refine ite2 (fun h => ?_) (fun h => ?_)
   ·exact ⟨_, rfl, tp, _, _, _, rfl, rfl, htp, rfl, q _ (by rw [if_pos h]; exact .num h2.bnd)⟩
   ·exact ⟨_, rfl, _, rfl, tp, _, _, _, rfl, rfl, htp, rfl, d, _, rfl, dg, _, rfl, lo, _, _, _, rfl, rfl, SqL.of hlo, a11 a1, q _ (by rw [if_neg h]; exact p3)⟩
end
end My
set_option maxHeartbeats 1000000
namespace My
open PySem L2
theorem a86 : ∀ z ∈ nm3, Nl z := by unfold Nl; decide +kernel
theorem c7Q : ∀ z ∈ nm3, z ≠ "up" := by decide +kernel
def nsC (o ot : Str) : List Str := if o = ot then [o] else [o, ot]
theorem c1R {sg o mk ot : Str} {num : Int} (h : (DK.cells sg o mk ot num).ok) : a1q ((DK.cells sg o mk ot num).ws.filter a07) = nsC o ot := by
 obtain ⟨h1, h2, h3, h4, h5⟩ := h
 have e1 := (b39 _ h1).1
 have e2 := (b39 _ h2).1
 have e3 := (a86 _ h3).is
 have e4 := (a86 _ h4).is
 have e5 := (a8v h5).nn
 have e : (DK.cells sg o mk ot num).ws.filter a07 = [o, ot] := by
  show [sg, o, mk, ot, numS num].filter a07 = [o, ot]
  rw [List.filter_cons_of_neg (by rw [e1]; exact Bool.false_ne_true), List.filter_cons_of_pos e3, List.filter_cons_of_neg (by rw [e2]; exact Bool.false_ne_true), List.filter_cons_of_pos e4, List.filter_cons_of_neg (by rw [e5]; exact Bool.false_ne_true)]
  rfl
 rw [e]
 unfold a1q nsC
 by_cases c : o = ot
 ·subst c; simp
 ·have c' : ¬ ot = o := fun z => c z.symm
  simp [c, c']
theorem c74 : ∀ sg ∈ sgns, ∀ o ∈ nm3, a4s [sg, "up", o] = [o] := by decide +kernel
theorem b8K {sg o mk ot : Str} {num : Int} (h : (DK.cells sg o mk ot num).ok) : Pre (DK.cells sg o mk ot num).ws 1 0 := by
 obtain ⟨h1, h2, h3, h4, h5⟩ := h
 exact ⟨by decide, .inl ⟨h1, by decide, .inr ⟨.inl (a86 _ h3), by decide, .inl ⟨h2, by decide, .inr ⟨.inl (a86 _ h4), by decide, .inr ⟨.inr ⟨num, a8v h5⟩, rfl⟩⟩⟩⟩⟩⟩
theorem c6V : Nl ("up" : Str) := by unfold Nl; decide +kernel
theorem b81 {sg o : Str} (h1 : sg ∈ sgns) (h3 : o ∈ nm3) : Pre [sg, "up", o] 1 0 :=
 ⟨by decide, .inl ⟨h1, by decide, .inr ⟨.inl c6V, by decide, .inr ⟨.inl (a86 _ h3), rfl⟩⟩⟩⟩
theorem c7o {o : Str} {i : Int} : a26 (zipP [o] ([i].map V.int) [o].length) o = i := a5Z (by simp [zipP, valV])
theorem b6g {o ot : Str} {i j : Int} (h : o ≠ ot) : a26 (zipP [o, ot] ([i, j].map V.int) [o, ot].length) o = i /\ a26 (zipP [o, ot] ([i, j].map V.int) [o, ot].length) ot = j :=
 ⟨a5Z (by simp [zipP, valV]), a5Z (by simp [zipP, valV, h])⟩
theorem c0n {env : Str -> Int} {s : Str} {a b : PyData} {q : List PyData} (h : s ∈ sgns) : a2H env s (a :: b :: q) = a6Z s a b :: q := by
 unfold a2H; rw [if_pos h]
theorem b6m {env : Str -> Int} {z : Str} {q : List PyData} (h : Nl z) : a2H env z q = .int (env z) :: q := by
 unfold a2H b3E; rw [if_neg h.ns, if_pos h.is]
theorem c5P {env : Str -> Int} {z : Str} {i : Int} {q : List PyData} (h : NumW z i) : a2H env z q = .int i :: q := by
 unfold a2H b3E; rw [if_neg h.ns, h.nn, if_neg Bool.false_ne_true, h.reads.1]; rfl
theorem c7D {sg o mk ot : Str} {num : Int} (h : (DK.cells sg o mk ot num).ok) {env : Str -> Int} : a1A env (DK.cells sg o mk ot num).ws = [a6Z sg (.int (env o)) (a6Z mk (.int (env ot)) (.int num))] := by
 obtain ⟨h1, h2, h3, h4, h5⟩ := h
 show a2H env sg (a2H env o (a2H env mk (a2H env ot (a2H env (numS num) [])))) = _
 rw [c5P (a8v h5), b6m (a86 _ h4), c0n h2, b6m (a86 _ h3), c0n h1]
theorem c8e {sg o : Str} (h1 : sg ∈ sgns) (h3 : o ∈ nm3) {env : Str -> Int} : a1A env [sg, "up", o] = [a6Z sg (.int (env "up")) (.int (env o))] := by
 show a2H env sg (a2H env "up" (a2H env o [])) = _
 rw [b6m (a86 _ h3), b6m c6V, c0n h1]
def preD : DK -> List Int -> Prop
 | .cells _ o _ ot _, is => preN (nsC o ot) is
 | .above _ o _, is => preN ["up", o] is
 | .group .., is => 0 < is.length /\ ∀ i ∈ is, bnd F60 i
 | .lookup .., is => 0 < is.length /\ ∀ i ∈ is, bnd F60 i
 | .mend .., _ => True
def gD : DK -> List Int -> PyData
 | .cells sg o mk ot num, is => a3j (DK.cells sg o mk ot num).ws (nsC o ot) is
 | .above sg o _, is => a3j [sg, "up", o] ["up", o] is
 | .group _ _ wd, is => gOf wd is
 | .lookup .., is => c2X is
 | .mend _ num, _ => .int num
def gatD (pl : V) (vw : Vw) (mn : Mn) (cc : Str) (p : Nat) : DK -> List a0O × Res
 | .cells _ o _ ot _ => b4V vw mn (nsC o ot) "t" cc p
 | .above _ o num => a3D vw mn (num, [o]) "t" cc p
 | .group k n _ => a3B vw mn (k, n) "t" cc p
 | .lookup k th n => a2A pl vw mn (k, "t", th, [n]) "t" cc p
 | .mend n _ => b2s vw mn n "t" cc p
theorem a2O {d : PyData} (h : Vd7 d) : a3l d /\ a4w d = true := by
 rcases h with ⟨i, rfl, hb⟩ | ⟨z, hz, rfl⟩
 ·exact ⟨a84, b8D (a47 hb)⟩
 ·have l8 := hz.2.1
  refine ⟨a8p _ (by omega), ?_⟩
  show (numD _ || a5s (.tuple [.str "fault", .str z])) = true
  rw [show a5s (.tuple [.str "fault", .str z]) = true by
   show (decide (("fault" : Str) = "fault") && a55 (.str z)) = true
   rw [decide_eq_true rfl, Bool.true_and]
   exact Nl.name hz, Bool.or_true]
section
variable {K : PySem.W.Frag} {H : Hp}
theorem Pv7.ref {v : V} {d : PyData} (h : Pv7 K H v d) : a2l v = isT d := by
 rcases h with ⟨i, rfl, rfl, _⟩ | ⟨a, y, rfl, _, rfl, _⟩ <;> rfl
theorem Pv7.int {v : V} {d : PyData} (h : Pv7 K H v d) (h0 : isT d = false) : ∃ i, v = .int i /\ d = .int i /\ bnd F60 i := by
 rcases h with h | ⟨a, y, rfl, _, rfl, _⟩
 ·exact h
 ·cases h0
theorem Pv7.eqv {v : V} {d : PyData} {i : Int} (h : Pv7 K H v d) : PyData.eqv d (.int i) = decide (v = .int i) := by
 rcases h with ⟨j, rfl, rfl, _⟩ | ⟨a, z, rfl, _, rfl, _⟩
 ·by_cases e : j = i
  ·subst e; simp [PyData.eqv]
  ·rw [decide_eq_false (fun z => e (V.int.inj z))]
   simp [PyData.eqv, e]
 ·rw [decide_eq_false (fun z => by cases z)]
  simp [PyData.eqv]
theorem Rv.vd {d : PyData} (h : Rv d) : Vd7 d := by
 rcases h with ⟨i, rfl, hi⟩ | rfl | rfl
 ·exact .inl ⟨i, rfl, hi⟩
 ·exact .inr ⟨_, b01, rfl⟩
 ·exact .inr ⟨_, b76, rfl⟩
theorem c9z {zs ns : List Str} {is : List Int} (hP : Pre zs 1 0) (nd : ns.Nodup) (hs : ∀ z ∈ zs, Nl z -> z ∈ ns) (hp : preN ns is) : Rv (a3j zs ns is) := by
 obtain ⟨l, q⟩ := b2g (env := a26 (zipP ns (is.map V.int) ns.length)) hP fun z hz nz => by
  obtain ⟨i, e, hi⟩ := c4N nd hp hs z hz nz
  rw [a5Z e]
  exact hi
 unfold a3j c1l
 match hq : a1A (a26 (zipP ns (is.map V.int) ns.length)) zs, l with
 | [d], _ => exact q d (by rw [hq]; simp)
theorem d0h {dk : DK} (h : dk.ok) {is : List Int} (h1 : is.length <= 100) (hp : preD dk is) : Vd7 (gD dk is) := by
 cases dk with
 | cells sg o mk ot num =>
  have e := c1R h
  have ol := a4e ((DK.cells sg o mk ot num).ws.filter a07)
  rw [e] at ol
  refine (c9z (b8K h) ol.1 (fun z hz nz => ?_) hp).vd
  rw [ol.2.1]
  exact List.mem_filter.mpr ⟨hz, nz.is⟩
 | above sg o num =>
  obtain ⟨h1, h3, h5⟩ := h
  refine (c9z (b81 h1 h3) (List.nodup_cons.mpr ⟨fun m => c7Q o h3 (List.mem_singleton.mp m).symm, List.nodup_cons.mpr ⟨(fun m => by cases m), List.nodup_nil⟩⟩) (fun z hz nz => ?_) hp).vd
  simp only [List.mem_cons, List.not_mem_nil, or_false] at hz ⊢
  rcases hz with rfl | hz
  ·exact absurd h1 nz.ns
  ·exact hz
 | group k n wd => exact c6I (c4i h.2.2) hp.1 h1 hp.2
 | lookup k th n =>
  refine .inl ⟨_, rfl, ?_⟩
  match is, hp with
  | i :: r, hp => exact hp.2 i (by simp)
 | mend n num => exact .inl ⟨num, rfl, h.2.bnd⟩
def RD (K : PySem.W.Frag) (H : Hp) (pre : List Int -> Prop) (g : List Int -> PyData) (d : PyData) : Res -> Prop
 | .val v => Dt K H v d /\ Vd7 d
 | .call xs => ∃ is : List Int, xs = is.map V.int /\ is.length <= 100 /\ pre is /\ g is = d
structure Wld7 (K : PySem.W.Frag) (H : Hp) (vw : Vw) (mn : Mn) (cd : Str -> List PyData) (own : List PyData) (cc : Str) (m p : Nat) : Prop where
 l : ∀ z ∈ nm3, (cd z).length = m
 c : ∀ z ∈ nm3, ∀ q, q < m -> ∃ v, vw (("t" : Str), z, ((q : Nat) : Int)) = some v /\ Pv7 K H v ((cd z).getD q .none)
 hm : mn "t" = some m
 m30 : m <= 30
 hp : p < m
 o : 0 < p -> ∃ v, vw (("t" : Str), cc, (p : Int) - 1) = some v /\ Pv7 K H v (own.getD (p - 1) .none)
theorem c73 {vw : Vw} {z : a0O} : (a1j vw [z]).2 = if a2l (a0x vw z) then .val (a0x vw z) else .call [a0x vw z] := by
 show (if a2l (a0x vw z) then _ else _ : List a0O × Res).2 = _
 split <;> rfl
theorem c88 {vw : Vw} {y z : a0O} : (a1j vw [y, z]).2 = if a2l (a0x vw y) then .val (a0x vw y) else if a2l (a0x vw z) then .val (a0x vw z) else .call [a0x vw y, a0x vw z] := by
 show (if a2l (a0x vw y) then _ else _ : List a0O × Res).2 = _
 split
 ·rfl
 ·show (if a2l (a0x vw z) then _ else _ : List a0O × Res).2 = _
  split <;> rfl
theorem c1E {s : Str} {i : Int} {d : PyData} (h : isT d = true) : a6Z s (.int i) d = d := by
 cases d <;> first | rfl | cases h
section
variable {vw : Vw} {mn : Mn} {cd : Str -> List PyData} {own : List PyData} {cc : Str} {m p : Nat} (L : Wld7 K H vw mn cd own cc m p)
include L
theorem c6y {pl : V} {sg o mk ot : Str} {num : Int} (h : (DK.cells sg o mk ot num).ok) : RD K H (preD (.cells sg o mk ot num)) (gD (.cells sg o mk ot num)) (dueU cd own p (.cells sg o mk ot num)) (gatD pl vw mn cc p (.cells sg o mk ot num)).2 := by
 obtain ⟨h1, h2, h3, h4, h5⟩ := h
 obtain ⟨v1, e1, p1⟩ := L.c o h3 p L.hp
 obtain ⟨v2, e2, p2⟩ := L.c ot h4 p L.hp
 have a1 := a0W e1
 have a2 := a0W e2
 have r1 := p1.ref
 have r2 := p2.ref
 show RD K H (preN (nsC o ot)) (a3j (DK.cells sg o mk ot num).ws (nsC o ot)) (due3 sg mk (cd o) (cd ot) num p) (a1j vw (a1s "t" p (nsC o ot))).2
 have G : ∀ {env : Str -> Int}, (a1A env (DK.cells sg o mk ot num).ws).headD .none = a6Z sg (.int (env o)) (a6Z mk (.int (env ot)) (.int num)) := by
  intro env
  rw [c7D ⟨h1, h2, h3, h4, h5⟩]
  rfl
 unfold due3
 by_cases c : o = ot
 ·subst c
  rw [show nsC o o = [o] from if_pos rfl, show a1s "t" p [o] = [(("t" : Str), o, (p : Int))] from rfl, c73, a1, r1]
  by_cases t1 : isT ((cd o).getD p .none) = true
  ·rw [if_pos t1, if_pos t1]
   exact ⟨p1.dt, p1.vd⟩
  ·obtain ⟨i, rfl, ei, bi⟩ := p1.int (by simpa using t1)
   rw [if_neg t1, if_neg t1, if_neg t1, ei]
   refine ⟨[i], rfl, by simp, ⟨rfl, fun j hj => by rw [List.mem_singleton.mp hj]; exact bi⟩, ?_⟩
   unfold a3j c1l
   rw [G, c7o]
 ·rw [show nsC o ot = [o, ot] from if_neg c, show a1s "t" p [o, ot] = [(("t" : Str), o, (p : Int)), (("t" : Str), ot, (p : Int))] from rfl, c88, a1, a2, r1, r2]
  by_cases t1 : isT ((cd o).getD p .none) = true
  ·rw [if_pos t1, if_pos t1]
   exact ⟨p1.dt, p1.vd⟩
  ·rw [if_neg t1, if_neg t1]
   by_cases t2 : isT ((cd ot).getD p .none) = true
   ·rw [if_pos t2, if_pos t2]
    exact ⟨p2.dt, p2.vd⟩
   ·obtain ⟨i, rfl, ei, bi⟩ := p1.int (by simpa using t1)
    obtain ⟨j, rfl, ej, bj⟩ := p2.int (by simpa using t2)
    rw [if_neg t2, if_neg t2, ei, ej]
    refine ⟨[i, j], rfl, by simp, ⟨rfl, fun y hy => ?_⟩, ?_⟩
    ·simp only [List.mem_cons, List.not_mem_nil, or_false] at hy
     rcases hy with rfl | rfl
     ·exact bi
     ·exact bj
    ·unfold a3j c1l
     rw [G, (b6g c).1, (b6g c).2]
theorem c6l {pl : V} {sg o : Str} {num : Int} (h : (DK.above sg o num).ok) : RD K H (preD (.above sg o num)) (gD (.above sg o num)) (dueU cd own p (.above sg o num)) (gatD pl vw mn cc p (.above sg o num)).2 := by
 obtain ⟨h1, h3, h5⟩ := h
 obtain ⟨v2, e2, p2⟩ := L.c o h3 p L.hp
 have a2 := a0W e2
 have r2 := p2.ref
 have G : ∀ {i j : Int}, a3j [sg, "up", o] ["up", o] [i, j] = a6Z sg (.int i) (.int j) := by
  intro i j
  unfold a3j c1l
  rw [c8e h1 h3, (b6g (c7Q o h3).symm).1, (b6g (c7Q o h3).symm).2]
  rfl
 have pr : ∀ {i j : Int}, bnd F60 i -> bnd F60 j -> preN ["up", o] [i, j] := fun bi bj => ⟨rfl, fun y hy => by
  simp only [List.mem_cons, List.not_mem_nil, or_false] at hy
  rcases hy with rfl | rfl
  ·exact bi
  ·exact bj⟩
 show RD K H (preN ["up", o]) (a3j [sg, "up", o] ["up", o]) (dueA sg num (cd o) own p) (a3D vw mn (num, [o]) "t" cc p).2
 unfold dueA a3D
 by_cases c : 0 < p
 ·obtain ⟨v1, e1, p1⟩ := L.o c
  have a1 := a0W e1
  have r1 := p1.ref
  rw [if_pos c, if_pos c, show a1s "t" p [o] = [(("t" : Str), o, (p : Int))] from rfl, c88, a1, a2, r1, r2]
  by_cases t1 : isT (own.getD (p - 1) .none) = true
  ·rw [if_pos t1, if_pos t1]
   exact ⟨p1.dt, p1.vd⟩
  ·rw [if_neg t1, if_neg t1]
   obtain ⟨i, rfl, ei, bi⟩ := p1.int (by simpa using t1)
   rw [ei]
   by_cases t2 : isT ((cd o).getD p .none) = true
   ·rw [if_pos t2, c1E t2]
    exact ⟨p2.dt, p2.vd⟩
   ·obtain ⟨j, rfl, ej, bj⟩ := p2.int (by simpa using t2)
    rw [if_neg t2, ej]
    exact ⟨[i, j], rfl, by simp, pr bi bj, G⟩
 ·rw [if_neg c, if_neg c, if_neg (show ¬ isT (.int num) = true from Bool.false_ne_true), show a1s "t" p (num, [o]).2 = [(("t" : Str), o, (p : Int))] from rfl]
  show RD K H _ _ _ (match (a1j vw [(("t" : Str), o, (p : Int))]).2 with | .call xs => Res.call (.int num :: xs) | .val v => .val v)
  rw [c73, a2, r2]
  by_cases t2 : isT ((cd o).getD p .none) = true
  ·rw [if_pos t2, c1E t2]
   exact ⟨p2.dt, p2.vd⟩
  ·obtain ⟨j, rfl, ej, bj⟩ := p2.int (by simpa using t2)
   rw [if_neg t2, ej]
   exact ⟨[num, j], rfl, by simp, pr h5.bnd bj, G⟩
theorem c7F {pl : V} {n : Str} {num : Int} (h : (DK.mend n num).ok) : RD K H (preD (.mend n num)) (gD (.mend n num)) (dueU cd own p (.mend n num)) (gatD pl vw mn cc p (.mend n num)).2 := by
 obtain ⟨v1, e1, p1⟩ := L.c n h.1 p L.hp
 have a1 := a0W e1
 have r1 := p1.ref
 show RD K H _ _ (if isT ((cd n).getD p .none) then .int num else (cd n).getD p .none) (b45 (a0x vw (("t" : Str), n, (p : Int))))
 unfold b45
 rw [a1, r1]
 by_cases t1 : isT ((cd n).getD p .none) = true
 ·rw [if_pos t1, if_pos t1]
  exact ⟨[], rfl, by decide, trivial, rfl⟩
 ·rw [if_neg t1, if_neg t1]
  exact ⟨p1.dt, p1.vd⟩
theorem c9L {pl : V} (hpl : Dt K H pl c1D) {th n : Str} (h2 : th ∈ nm3) (h3 : n ∈ nm3) {i0 : Int} : ∀ j i, i + j = m ->
 RD K H (fun is => 0 < is.length /\ ∀ i ∈ is, bnd F60 i) c2X (lkF (.int i0) ((cd th).drop i) ((cd n).drop i)) (lkGo vw (.int i0) pl "t" th [n] (List.range' i j)).2 := by
 intro j
 induction j with
 | zero =>
  intro i hi
  rw [List.drop_eq_nil_of_le (by rw [L.l th h2]; omega)]
  show Dt K H pl (lkF _ [] _) /\ Vd7 (lkF _ [] _)
  unfold lkF
  exact ⟨hpl, .inr ⟨_, c1I, rfl⟩⟩
 | succ j ih =>
  intro i hi
  have hi' : i < m := by omega
  obtain ⟨v1, e1, p1⟩ := L.c th h2 i hi'
  obtain ⟨v2, e2, p2⟩ := L.c n h3 i hi'
  have f1 : (cd th)[i]? = some ((cd th).getD i .none) := by
   rw [List.getD_eq_getElem?_getD, List.getElem?_eq_getElem (by rw [L.l th h2]; exact hi')]; rfl
  have f2 : (cd n)[i]? = some ((cd n).getD i .none) := by
   rw [List.getD_eq_getElem?_getD, List.getElem?_eq_getElem (by rw [L.l n h3]; exact hi')]; rfl
  rw [a42 f1, a42 f2, List.range'_succ, b2x, a0W e1]
  unfold lkF
  rw [p1.eqv]
  by_cases c : v1 = .int i0
  ·rw [if_pos c, if_pos (decide_eq_true c), show a1s "t" i [n] = [(("t" : Str), n, (i : Int))] from rfl]
   show RD K H _ _ _ (a1j vw [(("t" : Str), n, (i : Int))]).2
   rw [c73, a0W e2, p2.ref]
   by_cases t2 : isT ((cd n).getD i .none) = true
   ·rw [if_pos t2]
    exact ⟨p2.dt, p2.vd⟩
   ·obtain ⟨x, rfl, ex, bx⟩ := p2.int (by simpa using t2)
    rw [if_neg t2, ex]
    exact ⟨[x], rfl, by simp, ⟨by simp, fun y hy => by rw [List.mem_singleton.mp hy]; exact bx⟩, rfl⟩
  ·rw [if_neg c, decide_eq_false c, if_neg Bool.false_ne_true]
   exact ih (i + 1) (by omega)
theorem c44 {pl : V} (hpl : Dt K H pl c1D) {k th n : Str} (h : (DK.lookup k th n).ok) : RD K H (preD (.lookup k th n)) (gD (.lookup k th n)) (dueU cd own p (.lookup k th n)) (gatD pl vw mn cc p (.lookup k th n)).2 := by
 obtain ⟨h1, h2, h3⟩ := h
 obtain ⟨v1, e1, p1⟩ := L.c k h1 p L.hp
 have a1 := a0W e1
 have r1 := p1.ref
 show RD K H (fun is => 0 < is.length /\ ∀ i ∈ is, bnd F60 i) c2X (c3j (cd k) (cd th) (cd n) p) (a2A pl vw mn (k, "t", th, [n]) "t" cc p).2
 unfold c3j a2A
 rw [show a0x vw (("t" : Str), (k, ("t" : Str), th, [n]).1, (p : Int)) = v1 from a1, r1]
 by_cases t1 : isT ((cd k).getD p .none) = true
 ·rw [if_pos t1, if_pos t1]
  exact ⟨p1.dt, p1.vd⟩
 ·rw [if_neg t1, if_neg t1]
  obtain ⟨i0, rfl, e0, b0⟩ := p1.int (by simpa using t1)
  rw [e0]
  have := c9L L hpl h2 h3 (i0 := i0) m 0 (by omega)
  rw [<- List.range_eq_range'] at this
  show RD K H _ _ _ (lkGo vw (.int i0) pl "t" th [n] (List.range (a8O mn "t"))).2
  rw [a8P L.hm]
  exact this
theorem c8w {k n : Str} (h1 : k ∈ nm3) (h2 : n ∈ nm3) {i0 : Int} : ∀ j i (acc : List Int), i + j = m -> (∀ x ∈ acc, bnd F60 x) ->
 (∃ v d, grF (.int i0) ((cd k).drop i) ((cd n).drop i) acc = .inl d /\ (a3g (a0x vw) (.int i0) "t" k n (List.range' i j) (acc.map V.int)).2 = .val v /\ Pv7 K H v d) ∨
 ∃ is : List Int, grF (.int i0) ((cd k).drop i) ((cd n).drop i) acc = .inr is /\ (a3g (a0x vw) (.int i0) "t" k n (List.range' i j) (acc.map V.int)).2 = .call (is.map V.int) /\ (∀ x ∈ is, bnd F60 x) /\ is.length <= acc.length + j /\ acc.length <= is.length /\ (∀ q, i <= q -> q < m -> (cd k).getD q .none = .int i0 -> acc.length < is.length) := by
 intro j
 induction j with
 | zero =>
  intro i acc hi hb
  rw [List.drop_eq_nil_of_le (by rw [L.l k h1]; omega), c3p]
  exact .inr ⟨acc, rfl, rfl, hb, by omega, Nat.le_refl _, fun q h1 h2 => by omega⟩
 | succ j ih =>
  intro i acc hi hb
  have hi' : i < m := by omega
  obtain ⟨v1, e1, p1⟩ := L.c k h1 i hi'
  obtain ⟨v2, e2, p2⟩ := L.c n h2 i hi'
  have f1 : (cd k)[i]? = some ((cd k).getD i .none) := by
   rw [List.getD_eq_getElem?_getD, List.getElem?_eq_getElem (by rw [L.l k h1]; exact hi')]; rfl
  have f2 : (cd n)[i]? = some ((cd n).getD i .none) := by
   rw [List.getD_eq_getElem?_getD, List.getElem?_eq_getElem (by rw [L.l n h2]; exact hi')]; rfl
  rw [a42 f1, a42 f2, List.range'_succ, b4r, a0W e1, a0W e2]
  by_cases c : v1 = .int i0
  ·have ce : PyData.eqv ((cd k).getD i .none) (.int i0) = true := by rw [p1.eqv]; exact decide_eq_true c
   rw [if_pos c, p2.ref]
   by_cases t2 : isT ((cd n).getD i .none) = true
   ·left
    rw [if_pos t2]
    refine ⟨v2, (cd n).getD i .none, ?_, rfl, p2⟩
    rcases p2.vd with ⟨x, ex, _⟩ | ⟨z, _, ez⟩
    ·rw [ex] at t2; cases t2
    ·rw [ez, c5h ce]
   ·obtain ⟨x, rfl, ex, bx⟩ := p2.int (by simpa using t2)
    rw [if_neg t2, ex, c3E ce, show acc.map V.int ++ [V.int x] = (acc ++ [x]).map V.int by rw [List.map_append]; rfl]
    have hb' : ∀ y ∈ acc ++ [x], bnd F60 y := fun y hy => by
     rcases List.mem_append.mp hy with hy | hy
     ·exact hb y hy
     ·rw [List.mem_singleton.mp hy]; exact bx
    rcases ih (i + 1) (acc ++ [x]) (by omega) hb' with ⟨v, d, g1, g2, g3⟩ | ⟨is, g1, g2, g3, g4, g5, g6⟩
    ·exact .inl ⟨v, d, g1, g2, g3⟩
    ·rw [List.length_append] at g4 g5
     have g4 : is.length <= acc.length + 1 + j := g4
     have g5 : acc.length + 1 <= is.length := g5
     exact .inr ⟨is, g1, g2, g3, by omega, by omega, fun q _ _ _ => by omega⟩
  ·have ce : ¬ PyData.eqv ((cd k).getD i .none) (.int i0) = true := by rw [p1.eqv, decide_eq_false c]; exact Bool.false_ne_true
   rw [if_neg c, c66 ce]
   rcases ih (i + 1) acc (by omega) hb with ⟨v, d, g1, g2, g3⟩ | ⟨is, g1, g2, g3, g4, g5, g6⟩
   ·exact .inl ⟨v, d, g1, g2, g3⟩
   ·refine .inr ⟨is, g1, g2, g3, by omega, g5, fun q q1 q2 q3 => ?_⟩
    by_cases e : q = i
    ·subst e
     rw [q3] at ce
     exact absurd (by simp [PyData.eqv]) ce
    ·exact g6 q (by omega) q2 q3
theorem c6b {pl : V} {k n wd : Str} (h : (DK.group k n wd).ok) : RD K H (preD (.group k n wd)) (gD (.group k n wd)) (dueU cd own p (.group k n wd)) (gatD pl vw mn cc p (.group k n wd)).2 := by
 obtain ⟨h1, h2, h3⟩ := h
 obtain ⟨v1, e1, p1⟩ := L.c k h1 p L.hp
 have a1 := a0W e1
 have r1 := p1.ref
 show RD K H (fun is => 0 < is.length /\ ∀ i ∈ is, bnd F60 i) (gOf wd) (c2k (gOf wd) (cd k) (cd n) p) (a3B vw mn (k, n) "t" cc p).2
 unfold c2k a3B
 rw [show a0x vw (("t" : Str), (k, n).1, (p : Int)) = v1 from a1, r1]
 by_cases t1 : isT ((cd k).getD p .none) = true
 ·rw [if_pos t1, if_pos t1]
  exact ⟨p1.dt, p1.vd⟩
 ·rw [if_neg t1, if_neg t1]
  obtain ⟨i0, rfl, e0, b0⟩ := p1.int (by simpa using t1)
  rw [e0]
  have G := c8w L h1 h2 (i0 := i0) m 0 [] (by omega) (fun x hx => by cases hx)
  rw [<- List.range_eq_range'] at G
  show RD K H _ _ _ (a3g (a0x vw) (.int i0) "t" k n (List.range (a8O mn "t")) []).2
  rw [a8P L.hm]
  have m30 := L.m30
  rcases G with ⟨v, d, g1, g2, g3⟩ | ⟨is, g1, g2, g3, g4, g5, g6⟩
  ·rw [show grF (.int i0) (cd k) (cd n) [] = .inl d from g1, show (a3g (a0x vw) (.int i0) "t" k n (List.range m) []).2 = .val v from g2]
   exact ⟨g3.dt, g3.vd⟩
  ·rw [show grF (.int i0) (cd k) (cd n) [] = .inr is from g1, show (a3g (a0x vw) (.int i0) "t" k n (List.range m) []).2 = .call (is.map V.int) from g2]
   have := g6 p (by omega) L.hp e0
   simp only [List.length_nil] at g4 this
   exact ⟨is, rfl, by omega, ⟨this, g3⟩, rfl⟩
theorem c8p {pl : V} (hpl : Dt K H pl c1D) {dk : DK} (h : dk.ok) : RD K H (preD dk) (gD dk) (dueU cd own p dk) (gatD pl vw mn cc p dk).2 := by
 cases dk with
 | cells sg o mk ot num => exact c6y L h
 | above sg o num => exact c6l L h
 | group k n wd => exact c6b L h
 | lookup k th n => exact c44 L hpl h
 | mend n num => exact c7F L h
end
end
end My
set_option maxHeartbeats 1000000
namespace My
open PySem L2
def a0X (W : List Addr) (H H' : Hp) : Prop := ∀ b o, (b ∈ W ∨ ∃ u, o = Fz u) -> H b = some o -> H' b = some o
def Ft (W : List Addr) (H : Hp) : Prop := ∀ x ∈ W, (∃ C dx fs, H x = some (.ins C dx fs)) ∨ ∃ xs, H x = some (.lst xs)
theorem a0X.refl {W : List Addr} {H : Hp} : a0X W H H := fun _ _ _ e => e
theorem a0X.trans {W : List Addr} {H H1 H2 : Hp} (a : a0X W H H1) (b : a0X W H1 H2) : a0X W H H2 := fun c o n e => b c o n (a c o n e)
theorem a0X.of {W : List Addr} {H H' : Hp} (s : Same H H') : a0X W H H' := fun b o _ e => s b o e
theorem a0X.c {W : List Addr} {H H' : Hp} (F : Ft W H) (s : a2C H H') : a0X W H H' := fun b o n e => s b o (fun φ z => by
 rcases n with n | ⟨u, y⟩
 ·rcases F b n with ⟨C, dx, fs, h⟩ | ⟨xs, h⟩
  ·rw [h] at e; cases e; cases z
  ·rw [h] at e; cases e; cases z
 ·rw [y] at z; cases z) e
theorem a0X.but {W : List Addr} {H H' : Hp} {l : Addr} (hW : l ∉ W) (s : But l H H') (h : ∀ u, H l ≠ some (Fz u)) : a0X W H H' := fun b o n e => s b o (fun z => by
 rcases n with n | ⟨u, y⟩
 ·exact hW (z ▸ n)
 ·rw [z, y] at e; exact h u e) e
theorem a0X.f {W : List Addr} {H H' : Hp} (s : a0X W H H') : b85 W H H' := fun b o n e => s b o (n.imp (fun y => y.1) id) e
theorem Ft.keep {W : List Addr} {H H' : Hp} (s : a0X W H H') (F : Ft W H) : Ft W H' := fun x hx => (F x hx).imp (fun ⟨C, dx, fs, h⟩ => ⟨C, dx, fs, s _ _ (.inl hx) h⟩) (fun ⟨xs, h⟩ => ⟨xs, s _ _ (.inl hx) h⟩)
theorem Ft.no {W : List Addr} {H : Hp} (F : Ft W H) {x : Addr} (h : H x = none) : x ∉ W := fun m => by
 rcases F x m with ⟨C, dx, fs, e⟩ | ⟨xs, e⟩ <;> (rw [h] at e; cases e)
theorem FnAt.more {P : Program} {w : World} {K : PySem.W.Frag} {mg : Str -> Option Value} {base : Heap} {k : Nat} {V W : List Addr} {H : Hp} {fa : Addr} {pre : List Int -> Prop} {g : List Int -> PyData} (h : ∀ x ∈ V, x ∈ W) (f : FnAt P w K mg base k V H fa pre g) : FnAt P w K mg base k W H fa pre g := by
 obtain ⟨LP, h1, h2, h3⟩ := f
 exact ⟨LP, h1, h2, fun H1 H2 s => h3 H1 H2 fun b o n e => s b o (n.imp (fun y => ⟨h b y.1, y.2⟩) id) e⟩
theorem c4K {o ot : Str} : (nsC o ot).length <= 6 := by unfold nsC; split <;> simp
theorem c93 : Nl ("t" : Str) := by unfold Nl; decide +kernel
theorem CeF.kw {C : Addr} {H : Hp} {r : Addr} {zs : List Str} {v : V} (h : CeF C H r zs v) : ∃ rz, Ft [r, rz] H /\ ∀ W, r ∈ W -> rz ∈ W -> ∀ H', a0X W H H' -> CeF C H' r zs v := by
 obtain ⟨dx, fs, rz, h1, h2, h3, h4, h5⟩ := h
 refine ⟨rz, fun x hx => ?_, fun W m1 m2 H' s => ⟨dx, fs, rz, s _ _ (.inl m1) h1, h2, h3, s _ _ (.inl m2) h4, h5⟩⟩
 simp only [List.mem_cons, List.not_mem_nil, or_false] at hx
 rcases hx with rfl | rfl
 ·exact .inl ⟨_, _, _, h1⟩
 ·exact .inr ⟨_, h4⟩
theorem AbF.kw {C : Addr} {H : Hp} {r : Addr} {i : Int} {zs : List Str} {v : V} (h : AbF C H r i zs v) : ∃ rz, Ft [r, rz] H /\ ∀ W, r ∈ W -> rz ∈ W -> ∀ H', a0X W H H' -> AbF C H' r i zs v := by
 obtain ⟨dx, fs, rz, h1, h2, h3, h3b, h4, h5⟩ := h
 refine ⟨rz, fun x hx => ?_, fun W m1 m2 H' s => ⟨dx, fs, rz, s _ _ (.inl m1) h1, h2, h3, h3b, s _ _ (.inl m2) h4, h5⟩⟩
 simp only [List.mem_cons, List.not_mem_nil, or_false] at hx
 rcases hx with rfl | rfl
 ·exact .inl ⟨_, _, _, h1⟩
 ·exact .inr ⟨_, h4⟩
theorem LkF.kw {C : Addr} {H : Hp} {r : Addr} {k o th : Str} {zs : List Str} {v : V} (h : LkF C H r k o th zs v) : ∃ rz, Ft [r, rz] H /\ ∀ W, r ∈ W -> rz ∈ W -> ∀ H', a0X W H H' -> LkF C H' r k o th zs v := by
 obtain ⟨dx, fs, rz, h1, h2, h3, h4, h5, h6, h7, h8⟩ := h
 refine ⟨rz, fun x hx => ?_, fun W m1 m2 H' s => ⟨dx, fs, rz, s _ _ (.inl m1) h1, h2, h3, h4, h5, h6, s _ _ (.inl m2) h7, h8⟩⟩
 simp only [List.mem_cons, List.not_mem_nil, or_false] at hx
 rcases hx with rfl | rfl
 ·exact .inl ⟨_, _, _, h1⟩
 ·exact .inr ⟨_, h7⟩
theorem c4c {wd : Str} {g h : List Int -> PyData} (a : b8I wd g) (b : b8I wd h) : g = h := by
 rcases a with ⟨rfl, rfl⟩ | ⟨rfl, rfl⟩ | ⟨rfl, rfl⟩ | ⟨rfl, rfl⟩ <;> rcases b with ⟨e, rfl⟩ | ⟨e, rfl⟩ | ⟨e, rfl⟩ | ⟨e, rfl⟩ <;> first | rfl | exact absurd e (by decide)
structure C5 where
 C : Addr
 A : Addr
 G : Addr
 L : Addr
 M : Addr
section
variable {P : Program} {w : World} {K : PySem.W.Frag} {mg : Str -> Option Value} {base : Heap}
def b21 (P : Program) (w : World) (K : PySem.W.Frag) (mg : Str -> Option Value) (base : Heap) (c : C5) (W : List Addr) (H : Hp) (r : Addr) : DK -> Prop
 | .cells sg o mk ot num => ∃ fa, (∀ H', a0X W H H' -> CeF c.C H' r (nsC o ot) (.ref fa)) /\ FnAt P w K mg base 6 W H fa (preN (nsC o ot)) (a3j (DK.cells sg o mk ot num).ws (nsC o ot))
 | .above sg o num => ∃ fa, (∀ H', a0X W H H' -> AbF c.A H' r num [o] (.ref fa)) /\ FnAt P w K mg base 6 W H fa (preN ["up", o]) (a3j [sg, "up", o] ["up", o])
 | .group k n wd => ∃ fa, (∀ H', a0X W H H' -> KyAt c.G H' r k n (.ref fa)) /\ FnV P w K mg base 4 fa (spFn K (gOf wd))
 | .lookup k th n => ∃ fa, (∀ H', a0X W H H' -> LkF c.L H' r k "t" th [n] (.ref fa)) /\ FnAt P w K mg base 4 W H fa (fun is => 0 < is.length) c2X
 | .mend n num => ∃ fa, (∀ H', a0X W H H' -> MdF c.M H' r n (.ref fa)) /\ FnAt P w K mg base 4 W H fa (fun _ => True) (fun _ => .int num)
theorem b21.keep {c : C5} {W : List Addr} {H H' : Hp} {r : Addr} {dk : DK} (s : a0X W H H') (h : b21 P w K mg base c W H r dk) : b21 P w K mg base c W H' r dk := by
 cases dk with
 | cells sg o mk ot num => obtain ⟨fa, h1, h2⟩ := h; exact ⟨fa, fun H2 s2 => h1 H2 (s.trans s2), h2.keep s.f⟩
 | above sg o num => obtain ⟨fa, h1, h2⟩ := h; exact ⟨fa, fun H2 s2 => h1 H2 (s.trans s2), h2.keep s.f⟩
 | group k n wd => obtain ⟨fa, h1, h2⟩ := h; exact ⟨fa, fun H2 s2 => h1 H2 (s.trans s2), h2⟩
 | lookup k th n => obtain ⟨fa, h1, h2⟩ := h; exact ⟨fa, fun H2 s2 => h1 H2 (s.trans s2), h2.keep s.f⟩
 | mend n num => obtain ⟨fa, h1, h2⟩ := h; exact ⟨fa, fun H2 s2 => h1 H2 (s.trans s2), h2.keep s.f⟩
theorem a67 {q r : Str} {H H' : Hp} {P1 P2 : Addr} (ne : P1 ≠ P2) (s : a7z P2 H H') (t2 : a3A r H P2) (t : a3A q H P1) : a3A q H' P1 := by
 obtain ⟨S, h1, h2⟩ := t
 obtain ⟨S2, g1, _⟩ := t2
 refine ⟨S, s _ _ ne h1, fun c hc => ?_⟩
 obtain ⟨o, e1, e2⟩ := h2 c hc
 exact ⟨o, s _ _ (fun z => by rw [z, g1] at e1; cases e1) e1, e2⟩
structure Tb3 (z1 z2 z3 : Addr) (H : Hp) : Prop where
 a : a3A qFo H z1
 b : a3A qRl H z2
 c : a3A qRm H z3
theorem Tb3.same {z1 z2 z3 : Addr} {H H' : Hp} (s : Same H H') (t : Tb3 z1 z2 z3 H) : Tb3 z1 z2 z3 H' := ⟨a0M s t.a, a0M s t.b, a0M s t.c⟩
def c7s (z1 z2 z3 : Addr) (H H' : Hp) : Prop := ∀ b o, b ≠ z1 -> b ≠ z2 -> b ≠ z3 -> H b = some o -> H' b = some o
theorem c7s.keepC {z1 z2 z3 : Addr} {H H' : Hp} (t : Tb3 z1 z2 z3 H) (s : c7s z1 z2 z3 H H') : a2C H H' := fun b o n e => by
 obtain ⟨S1, g1, _⟩ := t.a
 obtain ⟨S2, g2, _⟩ := t.b
 obtain ⟨S3, g3, _⟩ := t.c
 refine s b o (fun z => ?_) (fun z => ?_) (fun z => ?_) e
 ·rw [z, g1] at e; exact n _ (Option.some.inj e).symm
 ·rw [z, g2] at e; exact n _ (Option.some.inj e).symm
 ·rw [z, g3] at e; exact n _ (Option.some.inj e).symm
def c8s (P : Program) (w : World) (K : PySem.W.Frag) (mg : Str -> Option Value) (base : Heap) (c : C5) (z1 z2 z3 : Addr) : Sp := fun vs H Q _ => ∃ dk : DK, vs = [.str dk.txt] /\ dk.ok /\ Tb3 z1 z2 z3 H /\
 ∀ H' r W, c7s z1 z2 z3 H H' -> Tb3 z1 z2 z3 H' -> Ft W H' -> b21 P w K mg base c W H' r dk -> Q (.ref r) H'
theorem b2q (T : Tops K mg) {pK g : Addr} (hK : mg "KINDS" = some (.ref pK)) (DK : b9V w.params K pK) {kd x : Str} {n : Nat} {sp : Sp} (G : a0q P w K mg base CX0 n x ["words"] sp) (hg : mg x = some (.ref g)) (hkg : PySem.W.nsIn K pK kd = some (some (.ref g)))
 {f : Addr} {cdv : Value} {A : Around} {outer : List Env} {s : Shared} {H : Hp} {Q : VK} {E : XK} (hr : Room 6 (A.deeper (PyProof.Rows.envOfC "read_rule" (a0b a1N) s.heap.objs.size f cdv))) (hn : n <= 6) {z : Str} {ws : List Str} (hz : z.length <= 9000) (hsp : Txt.split z " " = kd :: ws) (q : ∀ H1 c, Same H H1 -> H c = none -> H1 c = some (.lst (ws.map V.str)) -> sp [.ref c] H1 Q E0) :
 ∃ t, PSs (cxOf CX0 P w K mg base ["text", "words"] "read_rule" (a0b a1N) f cdv A outer s H E).nox (a0j a1N) t /\ t { nx := fun _ H' => Q .non H', rt := Q } (a6A ["text", "words"] [.str z]) H := by
 have G_refuse_unless : a0q P w K mg base CX0 1 "refuse_unless" ["holds"] a3p := a0D T
 refine ⟨_, (a0e (a0F (a0h G_refuse_unless (hr.mono (by decide)) a0t (a0a (a0r a0Y rfl T.isinstance a0w (a0a (pv 0) (a0a (a5E T.str c0d) a0c))) a0c)))
  (a0e (a0B (i := 1) a4o.nd rfl (Or.inl rfl) (a9Q PySem.F.plainAttrs_str PySem.F.slot_str_split PySem.F.type_str_split b8E (pv 0) (a0a a0u a0c)))
  (a0e (a0F (a0h G_refuse_unless (hr.mono (by decide)) a0t (a0a (c3J (c4G DK (a0z a0s (pv 1) a0i (fun _ _ => rfl)) (a7a hK)) (by with_unfolding_all rfl)) a0c)))
  (a0g (a0l (c10 G (hr.mono hn) a0t (c0o DK (a7a hK) (a0z a0s (pv 1) a0i (fun _ _ => rfl)) (fun _ _ => rfl)) (a0a (a3t a9L (pv 1) (a53 a0i) a6a) a0c))))))), ?_⟩
 refine ⟨_, rfl, _, "str", .str z, _, rfl, .str z, b5p K _, rfl, ?_⟩
 refine ⟨_, rfl, rfl, z, " ", rfl, rfl, by decide, hz, fun l hl => ?_⟩
 rw [hsp]
 have s1 := Same.new (o := .lst ((kd :: ws).map V.str)) hl
 have h1 : upd H l (.lst ((kd :: ws).map V.str)) l = some (.lst ((kd :: ws).map V.str)) := a0d
 generalize upd H l (.lst ((kd :: ws).map V.str)) = H1 at s1 h1 ⊢
 have e0 : atI ((kd :: ws).map V.str) 0 = some (.str kd) := b2Z _ _
 refine ⟨_, rfl, l, _, _, _, rfl, rfl, SqL.of h1, e0, pK, kd, _, rfl, rfl, hkg, rfl, ?_⟩
 refine ⟨_, rfl, l, _, _, _, rfl, rfl, SqL.of h1, e0, pK, kd, g, rfl, rfl, hkg, g, rfl, hg, ?_⟩
 refine ⟨_, rfl, _, rfl, l, _, rfl, SqL.of h1, fun c hc => ?_⟩
 have s2 := Same.new (o := .lst (cutV ((kd :: ws).map V.str) (some 1) none)) hc
 exact q _ c (s1.trans s2) (a5w s1 hc) (by rw [cut1]; exact a0d)
structure T5 (K : PySem.W.Frag) (mg : Str -> Option Value) (c : C5) : Prop where
 R : ∃ R, a9R K mg R
 C : b64 K mg c.C
 A : b7k K mg c.A
 G : b4l K mg c.G
 L : b2P K mg c.L
 M : c5e K mg c.M
theorem c5G (T : Tops K mg) (TD : Dcs w.params K mg) {c : C5} (Y : T5 K mg c) {z1 z2 z3 : Addr × Addr} (B1 : DefT K mg "function_of" a0C z1) (M1 : a5Y mg base z1.1 z1.2) (B2 : DefT K mg "read_lookup" a0G z2) (M2 : a5Y mg base z2.1 z2.2) (B3 : DefT K mg "read_mend" a0P z3) (M3 : a5Y mg base z3.1 z3.2)
 (n12 : z1.2 ≠ z2.2) (n13 : z1.2 ≠ z3.2) (n23 : z2.2 ≠ z3.2) : a0q P w K mg base CX0 7 "read_rule" ["text"] (c8s P w K mg base c z1.2 z2.2 z3.2) := by
 obtain ⟨R, Z⟩ := Y.R
 obtain ⟨pG, hG, DG, _⟩ := TD.g_OF_GROUPS
 obtain ⟨pK, hK, DKd, ⟨k1, m1, q1⟩, ⟨k2, m2, q2⟩, ⟨k3, m3, q3⟩, ⟨k4, m4, q4⟩, ⟨k5, m5, q5⟩⟩ := TD.g_KINDS
 refine T.d_read_rule.known a4o (fun _ _ _ _ _ _ us hl => match us, hl with | [_], _ => rfl) (fun vs H Q E h => ?_) (fun f cdv A outer s H vs Q E hr h => ?_)
 ·obtain ⟨dk, rfl, _⟩ := h
  rfl
 ·obtain ⟨dk, rfl, hok, t3, q⟩ := h
  obtain ⟨tl, ts⟩ := hok.txt
  cases dk with
  | cells sg o mk ot num =>
   have en := c1R hok
   refine b2q T hK DKd (a22 T Z Y.C B1 M1) m1 q1 hr (by decide) tl ts fun H1 cl s1 hcl h1 => ?_
   have t1 := t3.same s1
   refine ⟨cl, _, rfl, h1, (show 5 <= 24 by decide), b8K hok, (by rw [en]; exact c4K), t1.a, fun H2 r b fa s2 tb ce FA hb => ?_⟩
   rw [en] at ce FA
   obtain ⟨rz, F, ke⟩ := ce.kw
   have hl2 := (a2C.tab t1.a s2) _ _ (fun φ z => by cases z) h1
   refine q H2 r [r, rz, cl, b] (fun b o n1 n2 n3 e => s2 b o n1 (s1 b o e)) ⟨tb, a67 n12.symm s2 t1.a t1.b, a67 n13.symm s2 t1.a t1.c⟩ ?_ ⟨fa, fun H' s' => ke _ (by simp) (by simp) H' s', FA.more (by simp)⟩
   intro x hx
   simp only [List.mem_cons, List.not_mem_nil, or_false] at hx
   rcases hx with rfl | rfl | rfl | rfl
   ·exact F _ (by simp)
   ·exact F _ (by simp)
   ·exact .inr ⟨_, hl2⟩
   ·exact .inr hb
  | above sg o num =>
   obtain ⟨h1', h3, h5⟩ := hok
   have en := c74 sg h1' o h3
   refine b2q T hK DKd (a3b T Z Y.A B1 M1) m2 q2 hr (by decide) tl ts fun H1 cl s1 hcl h1 => ?_
   have t1 := t3.same s1
   refine ⟨cl, numS num, [sg, "up", o], num, rfl, h1, a8v h5, (show 3 <= 24 by decide), b81 h1' h3, (by rw [en]; simp), t1.a, fun H2 r fa W s2 tb ce FA hW => ?_⟩
   rw [en] at ce FA
   obtain ⟨rz, F, ke⟩ := ce.kw
   refine q H2 r (r :: rz :: W) (fun b o n1 n2 n3 e => s2 b o n1 (s1 b o e)) ⟨tb, a67 n12.symm s2 t1.a t1.b, a67 n13.symm s2 t1.a t1.c⟩ ?_ ⟨fa, fun H' s' => ke _ (by simp) (by simp) H' s', FA.more (fun x hx => by simp [hx])⟩
   intro x hx
   rcases List.mem_cons.mp hx with rfl | hx
   ·exact F _ (by simp)
   ·rcases List.mem_cons.mp hx with rfl | hx
    ·exact F _ (by simp)
    ·exact .inr (hW x hx)
  | group k n wd =>
   obtain ⟨h1', h2', h3⟩ := hok
   obtain ⟨fa, g, hfa, hgw, FV⟩ := c5K (P := P) (base := base) T TD hG (wd := wd) (by simpa using h3)
   have eg : g = gOf wd := c4c hgw (c4i h3)
   subst eg
   refine b2q T hK DKd (a24 T Z Y.G hG DG) m3 q3 hr (by decide) tl ts fun H1 cl s1 hcl h1 => ?_
   have t1 := t3.same s1
   refine ⟨cl, fa, k, n, wd, rfl, SqL.of h1, a86 _ h1', a86 _ h2', hfa, fun H2 r s2 hr2 ky => ?_⟩
   obtain ⟨dx, fs, g1, g2⟩ := ky
   refine q H2 r [r] (fun b o _ _ _ e => s2 b o (s1 b o e)) (t1.same s2) (fun x hx => by rw [List.mem_singleton.mp hx]; exact .inl ⟨_, _, _, g1⟩) ⟨fa, fun H' s' => ⟨dx, fs, s' _ _ (.inl (by simp)) g1, g2⟩, FV⟩
  | lookup k th n =>
   obtain ⟨h1', h2', h3⟩ := hok
   refine b2q T hK DKd (a1O T Z Y.L B2 M2) m4 q4 hr (by decide) tl ts fun H1 cl s1 hcl h1 => ?_
   have t1 := t3.same s1
   refine ⟨cl, k, "t", th, n, rfl, h1, a86 _ h1', c93, a86 _ h2', a86 _ h3, t1.b, fun H2 r fa s2 tb ce FA => ?_⟩
   obtain ⟨rz, F, ke⟩ := ce.kw
   exact q H2 r [r, rz] (fun b o n1 n2 n3 e => s2 b o n2 (s1 b o e)) ⟨a67 n12 s2 t1.b t1.a, tb, a67 n23.symm s2 t1.b t1.c⟩ F ⟨fa, fun H' s' => ke _ (by simp) (by simp) H' s', FA.more (fun x hx => by cases hx)⟩
  | mend n num =>
   obtain ⟨h1', h2'⟩ := hok
   refine b2q T hK DKd (a2L T Z Y.M B3 M3) m5 q5 hr (by decide) tl ts fun H1 cl s1 hcl h1 => ?_
   have t1 := t3.same s1
   have nw := a8v h2'
   refine ⟨cl, n, numS num, num, rfl, h1, a86 _ h1', Nat.le_trans nw.reads.2 (by decide), nw.num, nw.reads.1, t1.c, fun H2 r fa s2 tb md FA => ?_⟩
   obtain ⟨dx, fs, g1, g2⟩ := md
   exact q H2 r [r] (fun b o n1 n2 n3 e => s2 b o n3 (s1 b o e)) ⟨a67 n13 s2 t1.c t1.a, a67 n23 s2 t1.c t1.b, tb⟩ (fun x hx => by rw [List.mem_singleton.mp hx]; exact .inl ⟨_, _, _, g1⟩) ⟨fa, fun H' s' => ⟨dx, fs, s' _ _ (.inl (by simp)) g1, g2⟩, FA.more (fun x hx => by cases hx)⟩
end
end My
set_option maxHeartbeats 1000000
namespace My
open PySem L2
section
variable {P : Program} {w : World} {K : PySem.W.Frag} {mg : Str -> Option Value} {base : Heap}
abbrev c95 : List Str := ["self", "look", "many", "table", "column", "place"]
def gatR (P : Program) (w : World) (K : PySem.W.Frag) (mg : Str -> Option Value) (base : Heap) (c : C5) (pl : Addr) (C : Addr) (sp : Sp) : Prop :=
 (C = c.C /\ sp = b4k P w K mg base (fun H p (zs : List Str) => ∃ v, CeF C H p zs v) b4V c3Z) ∨
 (C = c.A /\ sp = b4k P w K mg base (fun H p (r : Int × List Str) => ∃ v, AbF C H p r.1 r.2 v) a3D c3I) ∨
 (C = c.G /\ sp = c56 P w K mg base (c8r C) a3B c3q) ∨
 (C = c.L /\ sp = b4k P w K mg base (c8J C) (a2A (.ref pl)) c15) ∨
 (C = c.M /\ sp = c56 P w K mg base (fun H p n => ∃ v, MdF C H p n v) b2s c65)
theorem c7p (T : Tops K mg) {c : C5} (Y : T5 K mg c) {pl : Addr} (hpl : mg "LACKS" = some (.ref pl)) : ∀ C sp, gatR P w K mg base c pl C sp -> Cls K C /\ a1B P w K mg base CX0 4 C "gather" c95 sp := by
 rintro C sp (⟨rfl, rfl⟩ | ⟨rfl, rfl⟩ | ⟨rfl, rfl⟩ | ⟨rfl, rfl⟩ | ⟨rfl, rfl⟩)
 ·exact ⟨Y.C.cl, a1Z T Y.C⟩
 ·exact ⟨Y.A.cl, a12 T Y.A⟩
 ·exact ⟨Y.G.cl, (a1V T Y.G).le (by decide)⟩
 ·exact ⟨Y.L.cl, a1J T Y.L hpl⟩
 ·exact ⟨Y.M.cl, (a2r T Y.M).le (by decide)⟩
theorem Wld7.row {H : Hp} {vw : Vw} {mn : Mn} {cd : Str -> List PyData} {own : List PyData} {cc : Str} {m p : Nat} (L : Wld7 K H vw mn cd own cc m p) {zs : List Str} (hz : ∀ z ∈ zs, z ∈ nm3) : b0G vw H (a1s "t" p zs) := fun y hy => by
 obtain ⟨z, h, rfl⟩ := List.mem_map.mp hy
 obtain ⟨v, e, q⟩ := L.c z (hz z h) p L.hp
 exact ⟨v, e, q.wv⟩
theorem Wld7.fill {H : Hp} {vw : Vw} {mn : Mn} {cd : Str -> List PyData} {own : List PyData} {cc : Str} {m p : Nat} (L : Wld7 K H vw mn cd own cc m p) {z : Str} (hz : z ∈ nm3) : b0m vw H "t" z m := fun q hq => by
 obtain ⟨v, e, y⟩ := L.c z hz q hq
 exact ⟨v, e, y.wv⟩
theorem c8c {o ot : Str} (h1 : o ∈ nm3) (h2 : ot ∈ nm3) : ∀ z ∈ nsC o ot, z ∈ nm3 := by
 intro z hz
 unfold nsC at hz
 split at hz
 ·rw [List.mem_singleton.mp hz]; exact h1
 ·simp only [List.mem_cons, List.not_mem_nil, or_false] at hz
  rcases hz with rfl | rfl
  ·exact h1
  ·exact h2
theorem c8m {c : C5} {pl : Addr} {W : List Addr} {H : Hp} {r : Addr} {dk : DK} (hok : dk.ok) (U : b21 P w K mg base c W H r dk) : ∃ C sp dx fs, gatR P w K mg base c pl C sp /\ H r = some (.ins C dx fs) /\ fs.lookup ("gather" : Str) = none /\
 ∀ (H2 : Hp) (look many nl : Addr) (cc : Str) (p m : Nat) (vw : Vw) (mn : Mn) (cd : Str -> List PyData) (own : List PyData) (Q : VK), b21 P w K mg base c W H2 r dk -> nl ∉ W -> Wld7 K H2 vw mn cd own cc m p ->
  a3n P w K mg base 2 look (spLk H2 nl vw) -> a3n P w K mg base 2 many (spMn H2 nl mn) -> LkS nl [] H2 -> (∀ H' fv, But nl H2 H' -> b4H H2 H' fv (gatD (.ref pl) vw mn cc p dk).2 -> Q fv H') ->
  sp [.ref r, .ref look, .ref many, .str "t", .str cc, .int (p : Int)] H2 Q E0 := by
 have bw : ∀ {H2 H' : Hp} {nl : Addr}, nl ∉ W -> LkS nl [] H2 -> But nl H2 H' -> a0X W H2 H' := fun hn hl b => a0X.but hn b (fun u z => by
  obtain ⟨as, e⟩ := hl
  rw [e] at z; cases z)
 cases dk with
 | cells sg o mk ot num =>
  obtain ⟨h1, h2, h3, h4, h5⟩ := hok
  obtain ⟨fa, u1, u2⟩ := U
  obtain ⟨dx, fs, rz, g1, g2, ⟨_, f2, _, _⟩, g4⟩ := u1 H a0X.refl
  refine ⟨c.C, _, dx, fs, .inl ⟨rfl, rfl⟩, g1, f2, fun H2 look many nl cc p m vw mn cd own Q U2 hn L F1 F2 hl q => ?_⟩
  obtain ⟨fb, v1, v2⟩ := U2
  exact ⟨r, look, many, nl, "t", cc, p, vw, mn, nsC o ot, rfl, ⟨_, v1 H2 a0X.refl⟩, fun H' b => ⟨_, v1 H' (bw hn hl b)⟩, ⟨c4K, L.row (c8c h3 h4)⟩, F1, F2, hl, fun H' fv b _ fd => q H' fv b fd⟩
 | above sg o num =>
  obtain ⟨h1, h3, h5⟩ := hok
  obtain ⟨fa, u1, u2⟩ := U
  obtain ⟨dx, fs, rz, g1, g2, g3, ⟨_, f2, _, _⟩, g4⟩ := u1 H a0X.refl
  refine ⟨c.A, _, dx, fs, .inr (.inl ⟨rfl, rfl⟩), g1, f2, fun H2 look many nl cc p m vw mn cd own Q U2 hn L F1 F2 hl q => ?_⟩
  obtain ⟨fb, v1, v2⟩ := U2
  refine ⟨r, look, many, nl, "t", cc, p, vw, mn, (num, [o]), rfl, ⟨_, v1 H2 a0X.refl⟩, fun H' b => ⟨_, v1 H' (bw hn hl b)⟩, ⟨(by simp), L.row (fun z hz => by rw [List.mem_singleton.mp hz]; exact h3), fun hp y hy => ?_⟩, F1, F2, hl, fun H' fv b _ fd => q H' fv b fd⟩
  obtain ⟨v, e, y2⟩ := L.o hp
  rw [List.mem_singleton.mp hy]
  exact ⟨v, e, y2.wv⟩
 | group k n wd =>
  obtain ⟨h1, h2, h3⟩ := hok
  obtain ⟨fa, u1, u2⟩ := U
  obtain ⟨dx, fs, g1, g2, g3, ⟨_, f2, _, _⟩, g4⟩ := u1 H a0X.refl
  refine ⟨c.G, _, dx, fs, .inr (.inr (.inl ⟨rfl, rfl⟩)), g1, f2, fun H2 look many nl cc p m vw mn cd own Q U2 hn L F1 F2 hl q => ?_⟩
  obtain ⟨fb, v1, v2⟩ := U2
  exact ⟨r, look, many, nl, "t", cc, p, vw, mn, (k, n), rfl, ⟨_, v1 H2 a0X.refl⟩, ⟨m, L.hm, L.m30, L.hp, L.fill h1, L.fill h2⟩, F1, F2, hl, fun H' fv b _ fd => q H' fv b fd⟩
 | lookup k th n =>
  obtain ⟨h1, h2, h3⟩ := hok
  obtain ⟨fa, u1, u2⟩ := U
  obtain ⟨dx, fs, rz, g1, g2, g3, g4, g5, ⟨_, f2, _, _⟩, g6⟩ := u1 H a0X.refl
  refine ⟨c.L, _, dx, fs, .inr (.inr (.inr (.inl ⟨rfl, rfl⟩))), g1, f2, fun H2 look many nl cc p m vw mn cd own Q U2 hn L F1 F2 hl q => ?_⟩
  obtain ⟨fb, v1, v2⟩ := U2
  refine ⟨r, look, many, nl, "t", cc, p, vw, mn, (k, "t", th, [n]), rfl, ⟨_, v1 H2 a0X.refl⟩, fun H' b => ⟨_, v1 H' (bw hn hl b)⟩, ⟨m, ?_, L.hm, L.m30, L.fill h2, fun z hz => by rw [List.mem_singleton.mp hz]; exact L.fill h3, by simp⟩, F1, F2, hl, fun H' fv b _ fd => q H' fv b fd⟩
  obtain ⟨v, e, y⟩ := L.c k h1 p L.hp
  exact ⟨v, e, y.wv⟩
 | mend n num =>
  obtain ⟨h1, h2⟩ := hok
  obtain ⟨fa, u1, u2⟩ := U
  obtain ⟨dx, fs, g1, g2, ⟨_, f2, _, _⟩, g4⟩ := u1 H a0X.refl
  refine ⟨c.M, _, dx, fs, .inr (.inr (.inr (.inr ⟨rfl, rfl⟩))), g1, f2, fun H2 look many nl cc p m vw mn cd own Q U2 hn L F1 F2 hl q => ?_⟩
  obtain ⟨fb, v1, v2⟩ := U2
  obtain ⟨v, e, y⟩ := L.c n h1 p L.hp
  exact ⟨r, look, many, nl, "t", cc, p, vw, mn, n, rfl, ⟨_, v1 H2 a0X.refl⟩, ⟨v, e, y.wv⟩, F1, F2, hl, fun H' fv b _ fd => q H' fv b fd⟩
def rckR (P : Program) (w : World) (K : PySem.W.Frag) (mg : Str -> Option Value) (base : Heap) (c : C5) (C : Addr) (sp : Sp) : Prop :=
 (C = c.C /\ sp = a7f P w K mg base 6 C) ∨ (C = c.A /\ sp = a7f P w K mg base 6 C) ∨ (C = c.G /\ sp = c1X P w K mg base C) ∨ (C = c.L /\ sp = a7f P w K mg base 4 C) ∨ (C = c.M /\ sp = a7f P w K mg base 4 C)
theorem c8b (T : Tops K mg) {c : C5} (Y : T5 K mg c) : ∀ C sp, rckR P w K mg base c C sp -> Cls K C /\ a1B P w K mg base CX0 7 C "reckon" ["self", "some"] sp := by
 rintro C sp (⟨rfl, rfl⟩ | ⟨rfl, rfl⟩ | ⟨rfl, rfl⟩ | ⟨rfl, rfl⟩ | ⟨rfl, rfl⟩)
 ·exact ⟨Y.C.cl, a9d T ⟨Y.C.cl, Y.C.n_function, Y.C.m_reckon⟩ (by decide)⟩
 ·exact ⟨Y.A.cl, a9d T ⟨Y.A.cl, Y.A.n_function, Y.A.m_reckon⟩ (by decide)⟩
 ·exact ⟨Y.G.cl, (b34 T Y.G).le (by decide)⟩
 ·exact ⟨Y.L.cl, (a9d T ⟨Y.L.cl, Y.L.n_function, Y.L.m_reckon⟩ (by decide)).le (by decide)⟩
 ·exact ⟨Y.M.cl, (a9d T ⟨Y.M.cl, Y.M.n_function, Y.M.m_reckon⟩ (by decide)).le (by decide)⟩
theorem c7r {c : C5} {W : List Addr} {H : Hp} {r : Addr} {dk : DK} (U : b21 P w K mg base c W H r dk) : ∃ C sp dx fs, rckR P w K mg base c C sp /\ H r = some (.ins C dx fs) /\ fs.lookup ("reckon" : Str) = none /\
 ∀ (a : Addr) (is : List Int) (Q : VK), SqL K H a (is.map V.int) -> is.length <= 100 -> preD dk is -> Vd7 (gD dk is) -> (∀ H' v, Same H H' -> Dt K H' v (gD dk is) -> Q v H') -> sp [.ref r, .ref a] H Q E0 := by
 cases dk with
 | cells sg o mk ot num =>
  obtain ⟨fa, u1, u2⟩ := U
  obtain ⟨dx, fs, rz, g1, g2, ⟨_, _, f3, f4⟩, g4⟩ := u1 H a0X.refl
  exact ⟨c.C, _, dx, fs, .inl ⟨rfl, rfl⟩, g1, f3, fun a is Q hq hl hp hv q => ⟨r, a, fa, dx, W, fs, _, _, is, rfl, g1, f4, u2, hq, hl, hp, (a2O hv).1, (a2O hv).2, q⟩⟩
 | above sg o num =>
  obtain ⟨fa, u1, u2⟩ := U
  obtain ⟨dx, fs, rz, g1, g2, g3, ⟨_, _, f3, f4⟩, g4⟩ := u1 H a0X.refl
  exact ⟨c.A, _, dx, fs, .inr (.inl ⟨rfl, rfl⟩), g1, f3, fun a is Q hq hl hp hv q => ⟨r, a, fa, dx, W, fs, _, _, is, rfl, g1, f4, u2, hq, hl, hp, (a2O hv).1, (a2O hv).2, q⟩⟩
 | group k n wd =>
  obtain ⟨fa, u1, u2⟩ := U
  obtain ⟨dx, fs, g1, g2, g3, ⟨_, _, f3, f4⟩, g4⟩ := u1 H a0X.refl
  exact ⟨c.G, _, dx, fs, .inr (.inr (.inl ⟨rfl, rfl⟩)), g1, f3, fun a is Q hq hl hp hv q => ⟨r, a, fa, dx, fs, _, is, rfl, g1, f4, u2, hq, hp.1, hl, (a2O hv).1, (a2O hv).2, q⟩⟩
 | lookup k th n =>
  obtain ⟨fa, u1, u2⟩ := U
  obtain ⟨dx, fs, rz, g1, g2, g3, g4, g5, ⟨_, _, f3, f4⟩, g6⟩ := u1 H a0X.refl
  exact ⟨c.L, _, dx, fs, .inr (.inr (.inr (.inl ⟨rfl, rfl⟩))), g1, f3, fun a is Q hq hl hp hv q => ⟨r, a, fa, dx, W, fs, _, _, is, rfl, g1, f4, u2, hq, hl, hp.1, (a2O hv).1, (a2O hv).2, q⟩⟩
 | mend n num =>
  obtain ⟨fa, u1, u2⟩ := U
  obtain ⟨dx, fs, g1, g2, ⟨_, _, f3, f4⟩, g4⟩ := u1 H a0X.refl
  exact ⟨c.M, _, dx, fs, .inr (.inr (.inr (.inr ⟨rfl, rfl⟩))), g1, f3, fun a is Q hq hl hp hv q => ⟨r, a, fa, dx, W, fs, _, _, is, rfl, g1, f4, u2, hq, hl, hp, (a2O hv).1, (a2O hv).2, q⟩⟩
end
end My
set_option maxHeartbeats 1000000
namespace My
open PySem L2
def c86 (K : PySem.W.Frag) (tabs : List (Addr × Addr)) : Sp := fun vs H Q _ => ∃ (a : Addr) (ns : List Int), vs = [.ref a] /\ SqL K H a (ns.map V.int) /\ ns.length <= 63 /\ b2F tabs H /\ ∀ H', b2u tabs H' -> Q (.bl true) H'
abbrev Nlaw : List Str := ["_law_script", "_law_many", "_law_names", "_law_held", "_law_j", "_law_drawn_here", "_law_rules", "_law_look", "_law_step", "_law_own", "_law_told", "_law_found", "_law_due_here"]
theorem a4u : a0o Nlaw ["_law_script"] (a0b a3q) := ⟨rfl, rfl, rfl, by decide +kernel, rfl, by decide +kernel, by decide +kernel⟩
theorem c5j {q : Str} {H : Hp} {P : Addr} (h : H P = some (TabC P [])) : a3A q H P := ⟨[], h, fun c hc => by cases hc⟩
theorem c8X {q : Str} {H : Hp} {P : Addr} (t : a3A q H P) : ∃ S, H P = some (TabC P S) := let ⟨S, h, _⟩ := t; ⟨S, h⟩
structure Fx57 where
 d : Addr
 dl : Addr
 rl : Addr
 q : Bool -> Addr
 t : Bool -> Addr
 r : Bool -> Addr
 l : Bool -> Addr
 W : Bool -> List Addr
 dk : Bool -> DK
 m : Nat
 cd : Str -> List PyData
 kvs : List (Key × V)
 ca : Str -> Addr
 xs : Str -> List V
def cn (b : Bool) : Str := if b then "other" else "own"
def par (i : Nat) : Bool := decide (i % 2 = 1)
def nAt (i : Nat) (b : Bool) : Nat := if b then i / 2 else (i + 1) / 2
theorem c05 (i : Nat) : nAt i (par i) = i / 2 := by
 unfold nAt par
 by_cases h : i % 2 = 1
 ·rw [decide_eq_true h]; rfl
 ·rw [decide_eq_false h]
  show (i + 1) / 2 = i / 2
  omega
theorem c6B (i : Nat) (b : Bool) : nAt (i + 1) b = if b = par i then nAt i b + 1 else nAt i b := by
 unfold nAt par
 by_cases h : i % 2 = 1
 ·rw [decide_eq_true h]
  cases b
  ·show (i + 1 + 1) / 2 = (i + 1) / 2
   omega
  ·show (i + 1) / 2 = i / 2 + 1
   omega
 ·rw [decide_eq_false h]
  cases b
  ·show (i + 1 + 1) / 2 = (i + 1) / 2 + 1
   omega
  ·show (i + 1) / 2 = i / 2
   omega
theorem c2e {α : Type} (x : Bool -> α) (i : Nat) : atI [x false, x true] ((0 + (i : Int)) % 2) = some (x (par i)) := by
 unfold par
 by_cases h : i % 2 = 1
 ·rw [decide_eq_true h, show (0 + (i : Int)) % 2 = 1 by omega]; rfl
 ·rw [decide_eq_false h, show (0 + (i : Int)) % 2 = 0 by omega]; rfl
structure a2E (P : Program) (w : World) (K : PySem.W.Frag) (mg : Str -> Option Value) (base : Heap) (c : C5) (z1 z2 z3 : Addr) (F : Fx57) (n : Bool -> Nat) (H : Hp) : Prop where
 m6 : F.m <= 6
 hd : H F.d = some (.dK F.kvs)
 kc : ∀ z ∈ nm3, valV F.kvs (.inr z) = some (.ref (F.ca z))
 kl : ∀ b, valV F.kvs (.inr (cn b)) = some (.ref (F.l b))
 hc : ∀ z ∈ nm3, H (F.ca z) = some (.lst (F.xs z)) /\ PvA K H (F.xs z) (F.cd z) /\ (F.cd z).length = F.m
 nc : ∀ z ∈ nm3, ∀ b, F.ca z ≠ F.l b
 nl : F.l false ≠ F.l true
 hl : ∀ b, ∃ xs ds, H (F.l b) = some (.lst xs) /\ PvA K H xs ds /\ ds.length = n b
 hdl : H F.dl = some (.lst [.ref (F.q false), .ref (F.q true)])
 ndl : ∀ b, F.dl ≠ F.l b
 hrl : H F.rl = some (.lst [.ref (F.r false), .ref (F.r true)])
 nrl : ∀ b, F.rl ≠ F.l b
 hq : ∀ b, H (F.q b) = some (.tup [.ref (F.t b), .str (F.dk b).txt])
 ht : ∀ b, H (F.t b) = some (.tup (F.dk b).vs)
 ok : ∀ b, (F.dk b).ok
 U : ∀ b, b21 P w K mg base c (F.W b) H (F.r b) (F.dk b)
 ft : ∀ b, Ft (F.W b) H
 nW : ∀ b b', F.l b ∉ F.W b'
 t1 : ∃ S, H z1 = some (TabC z1 S)
 t2 : ∃ S, H z2 = some (TabC z2 S)
 t3 : ∃ S, H z3 = some (TabC z3 S)
def Kp57 (z4 : Addr) (F : Fx57) (H H' : Hp) : Prop := ∀ b o, b ≠ z4 -> (∀ x, b ≠ F.l x) -> H b = some o -> H' b = some o
section
variable {P : Program} {w : World} {K : PySem.W.Frag} {mg : Str -> Option Value} {base : Heap} {c : C5} {z1 z2 z3 z4 : Addr} {F : Fx57} {n : Bool -> Nat} {H : Hp}
theorem a2E.k1 {φ : Heap -> Prop} (N : a2E P w K mg base c z1 z2 z3 F n H) (h4 : H z4 = some (.ext φ)) {H' : Hp} (k : Kp57 z4 F H H') {b : Addr} {o : HO} (h1 : ∀ φ, o ≠ .ext φ) (h2 : ∀ xs, o ≠ .lst xs) (e : H b = some o) : H' b = some o :=
 k b o (fun z => by rw [z, h4] at e; exact h1 _ (Option.some.inj e).symm) (fun x z => by
  obtain ⟨xs, ds, hx, _⟩ := N.hl x
  rw [z, hx] at e; exact h2 _ (Option.some.inj e).symm) e
theorem a2E.pv {φ : Heap -> Prop} (N : a2E P w K mg base c z1 z2 z3 F n H) (h4 : H z4 = some (.ext φ)) {H' : Hp} (k : Kp57 z4 F H H') {v : V} {d : PyData} (h : Pv7 K H v d) : Pv7 K H' v d := by
 rcases h with h | ⟨a, y, rfl, h, rfl, hy⟩
 ·exact .inl h
 ·exact .inr ⟨a, y, rfl, N.k1 h4 k (fun φ e => by cases e) (fun xs e => by cases e) h, rfl, hy⟩
theorem a2E.pva {φ : Heap -> Prop} (N : a2E P w K mg base c z1 z2 z3 F n H) (h4 : H z4 = some (.ext φ)) {H' : Hp} (k : Kp57 z4 F H H') : ∀ {xs : List V} {ds : List PyData}, PvA K H xs ds -> PvA K H' xs ds
 | _, _, .nil => .nil
 | _, _, .cons h t => .cons (N.pv h4 k h) (a2E.pva N h4 k t)
theorem a2E.kw {φ : Heap -> Prop} (N : a2E P w K mg base c z1 z2 z3 F n H) (h4 : H z4 = some (.ext φ)) {H' : Hp} (k : Kp57 z4 F H H') (b : Bool) : a0X (F.W b) H H' := fun x o hx e => by
 rcases hx with hx | ⟨u, rfl⟩
 ·refine k x o (fun z => ?_) (fun y z => N.nW y b (z ▸ hx)) e
  rcases N.ft b x hx with ⟨C, dx, fs, h⟩ | ⟨xs, h⟩
  ·rw [z, h4] at h; cases h
  ·rw [z, h4] at h; cases h
 ·exact N.k1 h4 k (fun φ e => by cases e) (fun xs e => by cases e) e
theorem a2E.next {φ : Heap -> Prop} (N : a2E P w K mg base c z1 z2 z3 F n H) (h4 : H z4 = some (.ext φ)) (n1 : z1 ≠ z4) (n2 : z2 ≠ z4) (n3 : z3 ≠ z4) {H' : Hp} (k : Kp57 z4 F H H') {n' : Bool -> Nat} (hl : ∀ b, ∃ xs ds, H' (F.l b) = some (.lst xs) /\ PvA K H' xs ds /\ ds.length = n' b) : a2E P w K mg base c z1 z2 z3 F n' H' := by
 have k1 := fun {b : Addr} {o : HO} => N.k1 h4 k (b := b) (o := o)
 have lst : ∀ {b : Addr} {xs : List V}, (∀ x, b ≠ F.l x) -> H b = some (.lst xs) -> H' b = some (.lst xs) := fun nb e => k _ _ (fun z => by rw [z, h4] at e; cases e) nb e
 have tb : ∀ {z : Addr}, z ≠ z4 -> (∃ S, H z = some (TabC z S)) -> ∃ S, H' z = some (TabC z S) := fun nz ⟨S, e⟩ => ⟨S, k _ _ nz (fun x y => by
  obtain ⟨xs, ds, hx, _⟩ := N.hl x
  rw [y, hx] at e; cases e) e⟩
 exact { m6 := N.m6, hd := k1 (fun φ e => by cases e) (fun xs e => by cases e) N.hd, kc := N.kc, kl := N.kl,
         hc := fun z hz => let ⟨e1, e2, e3⟩ := N.hc z hz; ⟨lst (N.nc z hz) e1, N.pva h4 k e2, e3⟩, nc := N.nc, nl := N.nl, hl := hl,
         hdl := lst N.ndl N.hdl, ndl := N.ndl, hrl := lst N.nrl N.hrl, nrl := N.nrl,
         hq := fun b => k1 (fun φ e => by cases e) (fun xs e => by cases e) (N.hq b), ht := fun b => k1 (fun φ e => by cases e) (fun xs e => by cases e) (N.ht b), ok := N.ok,
         U := fun b => (N.U b).keep (N.kw h4 k b), ft := fun b => (N.ft b).keep (N.kw h4 k b), nW := N.nW, t1 := tb n1 N.t1, t2 := tb n2 N.t2, t3 := tb n3 N.t3 }
theorem a2E.lists (N : a2E P w K mg base c z1 z2 z3 F n H) : ∃ (xl : Bool -> List V) (dl : Bool -> List PyData), ∀ b, H (F.l b) = some (.lst (xl b)) /\ PvA K H (xl b) (dl b) /\ (dl b).length = n b := by
 obtain ⟨x0, d0, h0⟩ := N.hl false
 obtain ⟨x1, d1, h1⟩ := N.hl true
 refine ⟨fun b => if b then x1 else x0, fun b => if b then d1 else d0, fun b => ?_⟩
 cases b
 ·exact h0
 ·exact h1
def b1I (F : Fx57) (xl : Bool -> List V) (z : Str) : Option (List V) := if z ∈ nm3 then some (F.xs z) else if z = "own" then some (xl false) else if z = "other" then some (xl true) else none
def vw57 (F : Fx57) (xl : Bool -> List V) : Vw := fun z => (b1I F xl z.2.1).bind fun xs => atI xs z.2.2
theorem d0o : ∀ b, cn b ∉ nm3 := by decide +kernel
theorem d0f : ("other" : Str) ≠ "own" := by decide
theorem c9d (xl : Bool -> List V) (b : Bool) : b1I F xl (cn b) = some (xl b) := by
 unfold b1I
 rw [if_neg (d0o b)]
 cases b
 ·exact if_pos rfl
 ·show (if ("other" : Str) = "own" then _ else _) = _
  rw [if_neg d0f]
  exact if_pos rfl
theorem a2E.at (N : a2E P w K mg base c z1 z2 z3 F n H) {xl : Bool -> List V} (hx : ∀ b, H (F.l b) = some (.lst (xl b))) {z : Str} {xs : List V} (h : b1I F xl z = some xs) : ∃ l, valV F.kvs (.inr z) = some (.ref l) /\ H l = some (.lst xs) := by
 unfold b1I at h
 by_cases c1 : z ∈ nm3
 ·rw [if_pos c1] at h
  cases h
  exact ⟨_, N.kc z c1, (N.hc z c1).1⟩
 ·rw [if_neg c1] at h
  by_cases c2 : z = "own"
  ·rw [if_pos c2] at h
   cases h
   subst c2
   exact ⟨_, N.kl false, hx false⟩
  ·rw [if_neg c2] at h
   by_cases c3 : z = "other"
   ·rw [if_pos c3] at h
    cases h
    subst c3
    exact ⟨_, N.kl true, hx true⟩
   ·rw [if_neg c3] at h
    cases h
theorem PvA.getD {xs : List V} {ds : List PyData} {i : Nat} (h : PvA K H xs ds) (hi : i < ds.length) : ∃ v, atI xs (i : Int) = some v /\ Pv7 K H v (ds.getD i .none) := by
 obtain ⟨v, d, h1, h2, h3⟩ := PvA.at h hi
 refine ⟨v, a11 h1, ?_⟩
 rw [List.getD_eq_getElem?_getD, h2]
 exact h3
theorem a2E.wld (N : a2E P w K mg base c z1 z2 z3 F n H) {xl : Bool -> List V} {dl : Bool -> List PyData} (hx : ∀ b, PvA K H (xl b) (dl b) /\ (dl b).length = n b) {b : Bool} {p : Nat} (hp : p < F.m) (hn : n b = p) : Wld7 K H (vw57 F xl) (fun _ => some F.m) F.cd (dl b) (cn b) F.m p where
 l := fun z hz => (N.hc z hz).2.2
 c := fun z hz q hq => by
  obtain ⟨_, e2, e3⟩ := N.hc z hz
  obtain ⟨v, h1, h2⟩ := PvA.getD e2 (i := q) (by omega)
  refine ⟨v, ?_, h2⟩
  show (b1I F xl z).bind _ = _
  rw [show b1I F xl z = some (F.xs z) from if_pos hz]
  exact h1
 hm := rfl
 m30 := Nat.le_trans N.m6 (by decide)
 hp := hp
 o := fun h0 => by
  obtain ⟨e2, e3⟩ := hx b
  obtain ⟨v, h1, h2⟩ := PvA.getD e2 (i := p - 1) (by omega)
  refine ⟨v, ?_, h2⟩
  show (b1I F xl (cn b)).bind _ = _
  rw [c9d]
  show atI (xl b) ((p : Int) - 1) = some v
  rw [show (p : Int) - 1 = ((p - 1 : Nat) : Int) by omega]
  exact h1
theorem a2E.held (N : a2E P w K mg base c z1 z2 z3 F n H) : a88 K H F.d (fun z => if z ∈ nm3 then some (F.cd z) else none) := by
 refine ⟨F.kvs, N.hd, fun z ds hz => ?_⟩
 by_cases c1 : z ∈ nm3
 ·have hz : (if z ∈ nm3 then some (F.cd z) else none) = some ds := hz
  rw [if_pos c1] at hz
  cases hz
  obtain ⟨e1, e2, _⟩ := N.hc z c1
  exact ⟨_, _, N.kc z c1, e1, e2⟩
 ·have hz : (if z ∈ nm3 then some (F.cd z) else none) = some ds := hz
  rw [if_neg c1] at hz
  cases hz
theorem c9B {v : V} {d : PyData} {nl : Addr} {as : List V} {H' : Hp} (hv : Vd7 d) (h : Dt K H v d) (hn : H nl = some (.lst as)) (b : But nl H H') : Dt K H' v d := by
 rcases hv with ⟨i, rfl, hb⟩ | ⟨z, hz, rfl⟩
 ·cases h
  exact .int i
 ·cases h with
  | tup hq hall =>
   cases hall with
   | cons h1 t =>
    cases h1
    cases t with
    | cons h2 t =>
     cases h2
     cases t
     refine .tup ?_ (.cons (.str _) (.cons (.str _) .nil))
     rcases hq with h | h
     ·rcases h with h | ⟨o, h⟩
      ·exact .inl (.inl (b _ _ (fun y => by rw [y, hn] at h; cases h) h))
      ·exact .inl (.inr ⟨o, b _ _ (fun y => by rw [y, hn] at h; cases h) h⟩)
     ·exact .inr h
end
end My
set_option maxHeartbeats 1000000
namespace My
open PySem L2
def forB : Stmt -> List Stmt
 | .For _ _ b _ _ => b
 | _ => []
abbrev d0b : Stmt := (a0j a3q).getD 9 (.Pass ⟨0, 0, 0, 0⟩)
theorem c4P (i : Nat) : ((0 : Int) + (i : Int)) / 2 = ((i / 2 : Nat) : Int) := by omega
theorem c7P {d : PyData} (h : Vd7 d) : decide (kdD d = .bl) = false := by
 rcases h with ⟨i, rfl, _⟩ | ⟨z, _, rfl⟩ <;> rfl
section
variable {P : Program} {w : World} {K : PySem.W.Frag} {mg : Str -> Option Value} {base : Heap}
theorem c5C (T : Tops K mg) {c : C5} {z1 z2 z3 z4 : Addr} (n1 : z1 ≠ z4) (n2 : z2 ≠ z4) (n3 : z3 ≠ z4) {f : Addr} {cdv : Value} (A : Around) (outer : List Env) (s : Shared) (H : Hp) (E : XK) (hr : Room 13 (A.deeper (PyProof.Rows.envOfC "law" (a0b a3q) s.heap.objs.size f cdv))) :
 ∃ t, PSs (cxOf CX0 P w K mg base Nlaw "law" (a0b a3q) f cdv A outer s H E).nox ((forB d0b).drop 4) t /\
  ∀ (D : Ends) (F : Fx57) (i : Nat) (H5 : Hp) (φ : Heap -> Prop) (o0 o1 o2 o4 o7 o10 o12 : Option V) (vF : V) (xl : Bool -> List V) (dl : Bool -> List PyData), a2E P w K mg base c z1 z2 z3 F (nAt i) H5 -> i < 2 * F.m -> H5 z4 = some (.ext φ) ->
   (∀ b, H5 (F.l b) = some (.lst (xl b)) /\ PvA K H5 (xl b) (dl b) /\ (dl b).length = nAt i b) -> Dt K H5 vF (dueU F.cd (dl (par i)) (i / 2) (F.dk (par i))) ->
   (∀ H8 o12, (∀ b o, (∀ x, b ≠ F.l x) -> H5 b = some o -> H8 b = some o) -> a2E P w K mg base c z1 z2 z3 F (nAt (i + 1)) H8 -> D.nx [o0, o1, o2, some (.ref F.d), o4, some (.ref F.dl), some (.ref F.rl), o7, some (.int (0 + (i : Int))), some (.str (cn (par i))), o10, some vF, o12] H8) ->
   t D [o0, o1, o2, some (.ref F.d), o4, some (.ref F.dl), some (.ref F.rl), o7, some (.int (0 + (i : Int))), some (.str (cn (par i))), o10, some vF, o12] H5 := by
 have hu := c4A hr
 have G_law_due : a0q P w K mg base CX0 3 "_law_due" Ndu7 (c6J K) := a6V T
 refine ⟨_, (a0e (a0B (i := 12) a4u.nd rfl (by first | exact Or.inl rfl | exact Or.inr rfl) (a0h G_law_due (hr.mono (by decide)) a0t (a0a (pv 3) (a0a (a0E b1j (pv 8) a0i) (a0a (a0z a1z (a0z a0s (pv 5) (a0E a14 (pv 8) a0i) (fun _ _ => rfl)) a0i (fun _ _ => rfl)) (a0a (a0R hu (pv 3) (pv 9) (fun _ _ => rfl)) a0c))))))
  (a0e (a0J (PW.pt (b9E (a05 (a0r a0Y rfl T.isinstance a0w (a0a (pv 11) (a0a (a5E T.bool c6M) a0c))) (fun _ => rfl)) (b9E (a0v c8j (a0r a0Y rfl T.isinstance a0w (a0a (pv 11) (a0a (a5E T.tuple a3L) a0c))) (a0r a0Y rfl T.isinstance a0w (a0a (pv 12) (a0a (a5E T.tuple a3L) a0c))) (a0A _)) (b4q (a0v (c9P hr.units) (pv 11) (pv 12) (a0A _)))))) (a0g (a0l b62)) a0p)
  (a0g (a0F (a9Q PySem.F.plainAttrs_list PySem.F.slot_list_append PySem.F.type_list_append a17 (a0R hu (pv 3) (pv 9) (fun _ _ => rfl)) (a0a (pv 12) a0c)))))), ?_⟩
 intro D F i H5 φ o0 o1 o2 o4 o7 o10 o12 vF xl dl N hi h4 hL hF q
 have hp : i / 2 < F.m := by omega
 have hn := c05 i
 obtain ⟨hx, hpv, hlen⟩ := hL (par i)
 have dg : ∀ {H' : Hp}, H' F.d = some (.dK F.kvs) -> DGet H' F.d (.str (cn (par i))) (some (.ref (F.l (par i)))) := fun e => .inl ⟨F.kvs, .inr (cn (par i)), .inl e, rfl, (N.kl (par i)).symm⟩
 refine ⟨_, rfl, _, rfl, _, _, rfl, rfl, ⟨by decide, by decide⟩, _, rfl, _, rfl, _, _, rfl, rfl, (show (0 : Int) < 2 by decide), F.dl, _, _, _, rfl, rfl, SqL.of N.hdl, c2e (fun b => V.ref (F.q b)) i, F.q (par i), _, _, _, rfl, rfl, SqT.of (N.hq (par i)), rfl, _, rfl, _, rfl, F.d, _, rfl, dg N.hd, ?_⟩
 refine ⟨F.d, F.t (par i), F.l (par i), i / 2, F.m, F.dk (par i), _, F.cd, dl (par i), xl (par i), by rw [<- c4P i]; rfl, SqT.of (N.ht (par i)), N.ok (par i), N.held, fun z hz => ⟨if_pos hz, (N.hc z hz).2.2⟩, Nat.le_trans N.m6 (by decide), hp, hx, hpv, by omega, fun H7 v s7 hv => ?_⟩
 have hF7 := hF.same s7
 have vd := hv.vd
 generalize dueU F.cd (dl (par i)) (i / 2) (F.dk (par i)) = dd at *
 refine ⟨_, rfl, _, "bool", dd, _, rfl, hF7, c1F K _, _, rfl, ?_⟩
 rw [c7P vd]
 refine iteF ?_
 refine ⟨_, rfl, _, "tuple", dd, _, rfl, hF7, a1h K _, _, rfl, _, "tuple", dd, _, rfl, hv.dt, a1h K _, rfl, _, rfl, ?_⟩
 rw [decide_eq_true rfl]
 refine iteF ⟨_, rfl, _, rfl, dd, dd, hF7, hv.dt, vd.lay.1, vd.lay.1, vd.lay.2, _, rfl, ?_⟩
 rw [SeqAt.eqv_refl _ vd.lay.1]
 refine iteF ?_
 have hx7 := s7 _ _ hx
 refine ⟨_, rfl, _, rfl, F.d, _, rfl, dg (s7 _ _ N.hd), .inl ⟨rfl, _, SqL.of hx7⟩, _, rfl, F.l (par i), _, _, rfl, rfl, hx7, ?_, ?_⟩
 ·have := Paired.length hpv
  have := N.m6
  exact a0U (by omega)
 ·have hb : ∀ {b : Addr} {o : HO}, (∀ x, b ≠ F.l x) -> H5 b = some o -> upd H7 (F.l (par i)) (.lst (xl (par i) ++ [v])) b = some o := fun nb e => by
   rw [a0m (nb _)]
   exact s7 _ _ e
  have kp : Keep H7 (upd H7 (F.l (par i)) (.lst (xl (par i) ++ [v]))) := Keep.lst hx7
  refine q _ _ (fun b o nb e => hb nb e) (N.next h4 n1 n2 n3 (fun b o _ nb e => hb nb e) fun b => ?_)
  obtain ⟨gx, gp, gl⟩ := hL b
  rw [c6B]
  by_cases e : b = par i
  ·subst e
   rw [if_pos rfl]
   exact ⟨xl (par i) ++ [v], dl (par i) ++ [dd], a0d, PvA.snoc (hv.keep kp) (PvA.keep kp (gp.same s7)), by rw [List.length_append, gl]; rfl⟩
  ·rw [if_neg e]
   have ne : F.l b ≠ F.l (par i) := fun z => by
    cases b with
    | false =>
     cases hpar : par i with
     | false => exact e hpar.symm
     | true => rw [hpar] at z; exact N.nl z
    | true =>
     cases hpar : par i with
     | false => rw [hpar] at z; exact N.nl z.symm
     | true => exact e hpar.symm
   exact ⟨xl b, dl b, by rw [a0m ne]; exact s7 _ _ gx, PvA.keep kp (gp.same s7), gl⟩
end
end My
set_option maxHeartbeats 1000000
namespace My
open PySem L2
abbrev c5f : Pos := ⟨393, 64, 393, 92⟩
abbrev lamQ : Str := ("law" : Str) ++ ".<locals>." ++ "<lambda>"
def c2w (H H' : Hp) : Prop := ∀ b u, H b = some (Fz u) -> H' b = some (Fz u)
theorem c7E {q name : Str} {params : Arguments} {body : List Stmt} {scope : Scope} {clos : List (Str × Addr)} {H H' : Hp} {fa : Addr} (s : c2w H H') (h : c06 q name params body scope clos H fa) : c06 q name params body scope clos H' fa := by
 obtain ⟨doc, pm, c, ctv, o, e1, e2, e3⟩ := h
 exact ⟨doc, pm, c, ctv, o, s _ _ e1, s _ _ e2, e3⟩
section
variable {P : Program} {w : World} {K : PySem.W.Frag} {mg : Str -> Option Value} {base : Heap}
theorem c70 (T : Tops K mg) {c : C5} (Y : T5 K mg c) {z1 z2 z3 z4 : Addr × Addr} (M : a5Y mg base z4.1 z4.2) (n1 : z1.2 ≠ z4.2) (n2 : z2.2 ≠ z4.2) (n3 : z3.2 ≠ z4.2) {f : Addr} (A : Around) (outer : List Env) (s : Shared) (H : Hp) (Q : VK) (E : XK) (hr : Room 13 (A.deeper (PyProof.Rows.envOfC "law" (a0b a3q) s.heap.objs.size f (.ref z4.1)))) (q : ∀ H', b2u [z1, z2, z3, z4] H' -> Q (.bl true) H') :
 ∃ t, PSs (cxOf CX0 P w K mg base Nlaw "law" (a0b a3q) f (.ref z4.1) A outer s H E).nox ((a0j a3q).drop 8) t /\
  ∀ (H6 : Hp) (F : Fx57) (o0 o2 o4 : Option V), a2E P w K mg base c z1.2 z2.2 z3.2 F (nAt 0) H6 -> H6 z4.2 = some (TabC z4.2 []) ->
   t { nx := fun _ H' => Q .non H', rt := Q } [o0, some (.int (F.m : Int)), o2, some (.ref F.d), o4, some (.ref F.dl), some (.ref F.rl), none, none, none, none, none, none] H6 := by
 have hu := c4A hr
 obtain ⟨pl, hpl, hPL⟩ := T.g_LACKS
 have hcl : ∀ x, (cxOf CX0 P w K mg base Nlaw "law" (a0b a3q) f (.ref z4.1) A outer s H E).nox.env.scope.names.lookup x = some .cell -> ∃ c, (cxOf CX0 P w K mg base Nlaw "law" (a0b a3q) f (.ref z4.1) A outer s H E).nox.env.cells.lookup x = some c := fun x hx => Option.isSome_iff_exists.mp (PySem.W.cellsFrom_some _ _ _ (.inl hx))
 obtain ⟨tE, hE, qE⟩ := c5C (w := w) (base := base) T (c := c) n1 n2 n3 (f := f) (cdv := .ref z4.1) A outer s H E hr
 refine ⟨_, (a0e (c7M (i := 7) M rfl (a4O (sc := a0b a3q) (N := Nlaw) (cp := [(3, "_law_held")]) hcl).clos rfl rfl rfl a4u.nd rfl (by first | exact Or.inl rfl | exact Or.inr rfl) (by first | exact Or.inl rfl | exact Or.inr rfl))
  (a0e (a4m PassesOwn.never rfl (a3H rfl T.range (a0a (a0E b4j a0i (pv 1)) a0c)) (a0Q (i := 8) a4u.nd rfl (by first | exact Or.inl rfl | exact Or.inr rfl)) (a0e (a0B (i := 9) a4u.nd rfl (by first | exact Or.inl rfl | exact Or.inr rfl) (a0z a0s (a1G (a0a a0u (a0a a0u a0c))) (a0E a14 (pv 8) a0i) (fun _ _ => rfl)))
   (a0e (a0B (i := 10) a4u.nd rfl (by first | exact Or.inl rfl | exact Or.inr rfl) (c4a (R := gatR P w K mg base c pl) (a0z a0s (pv 6) (a0E a14 (pv 8) a0i) (fun _ _ => rfl)) (c7p T Y hpl) (hr.mono (by decide)) (a0a (pv 7) (a0a (c7S M rfl (a4O (sc := a0b a3q) (N := Nlaw) (cp := [(1, "_law_many")]) hcl).clos rfl) (a0a a0u (a0a (pv 9) (a0a (a0E b1j (pv 8) a0i) a0c)))))))
   (a0e (a0B (i := 11) a4u.nd rfl (by first | exact Or.inl rfl | exact Or.inr rfl) (a0z a1z (pv 10) a0i (fun _ _ => rfl)))
   (a0e (a0J (a0v a1Y (a0z a1z (pv 10) a0i (fun _ _ => rfl)) a0u (a0A _)) (a0g (a0B (i := 11) a4u.nd rfl (by first | exact Or.inl rfl | exact Or.inr rfl) (c5J (R := rckR P w K mg base c) (a0z a0s (pv 6) (a0E a14 (pv 8) a0i) (fun _ _ => rfl)) (c8b T Y) (hr.mono (by decide)) a0t (a0a (a0z a1z (pv 10) a0i (fun _ _ => rfl)) a0c)))) a0p)
   hE)))))
  (a0g (a0l (c9i z4.2))))), ?_⟩
 intro H6 F o0 o2 o4 N h4
 have h4e : H6 z4.2 = some (TabC z4.2 []) := h4
 refine ⟨h4, fun fa cA HA hfa sA tA da => ?_⟩
 have kA : Kp57 z4.2 F H6 HA := fun b o n _ e => sA b o n e
 have NA := N.next h4 n1 n2 n3 kA (fun b => by
  obtain ⟨xs, ds, e1, e2, e3⟩ := N.hl b
  exact ⟨xs, ds, sA _ _ (fun z => by rw [z, h4] at e1; cases e1) e1, N.pva h4 kA e2, e3⟩)
 have m6 := N.m6
 have LOOK : ∀ {σ : St} {HB : Hp} {f' : Lend} {nl : Addr} {as : List V} {xl : Bool -> List V} {nn : Bool -> Nat}, σ[3]? = some (some (.ref F.d)) -> c2w HA HB -> Lent (cxOf CX0 P w K mg base Nlaw "law" (a0b a3q) f (.ref z4.1) A outer s H E).nox σ HB f' -> a2E P w K mg base c z1.2 z2.2 z3.2 F nn HB -> (∀ b, HB (F.l b) = some (.lst (xl b))) -> HB nl = some (.lst as) -> (∀ z xs l, b1I F xl z = some xs -> valV F.kvs (.inr z) = some (.ref l) -> l ≠ nl) ->
  a3n P w K mg base 2 fa (spLk (lend f' HB) nl (vw57 F xl)) := by
  intro σ HB f' nl as xl nn hσ kz Ln NB hx hnl hne
  have nofL : ∀ b o, HB b = some o -> f' b = none := fun b o e => by
   cases e2 : f' b with
   | none => rfl
   | some ob => rw [Ln.free b ob e2] at e; cases e
  have daB := c7E kz da
  exact c8o (Ln.free) (nofL _ _ hnl) daB ⟨_, hnl⟩ (c9a (sc := a0b a3q) (N := Nlaw) (ps := ["_law_table", "_law_column", "_law_at"]) (cp := [(3, "_law_held")]) (cv := [.ref F.d]) (k := 1) (spB := c5m HB nl (vw57 F xl)) daB Ln hcl (by simp [hσ]) (fun _ _ _ _ _ us hl => match us, hl with | [_, _, _], _ => rfl) (fun cd A' outer' s' H' vs Q' hr' h' => by
   obtain ⟨t', c', p', v', rfl, b1, b2, b4, b5⟩ := h'
   refine ⟨_, a0g (a0l (a0z a0s (a0R (c4A hr') (pv 3) (pv 1) (fun _ _ => rfl)) (pv 2) (fun _ _ => rfl))), ?_⟩
   have b4' : (b1I F xl c').bind (fun xs => atI xs p') = some v' := b4
   cases hc : b1I F xl c' with
   | none => rw [hc] at b4'; cases b4'
   | some xs =>
    rw [hc] at b4'
    obtain ⟨l, e1, e2⟩ := NB.at hx hc
    have nln := hne c' xs l hc e1
    have hdn : F.d ≠ nl := fun z => by
     have := NB.hd
     rw [z, hnl] at this
     cases this
    exact ⟨_, rfl, _, rfl, F.d, _, rfl, .inl ⟨F.kvs, .inr c', .inl (b1 _ _ hdn NB.hd), rfl, e1.symm⟩, _, rfl, l, _, _, _, rfl, rfl, SqL.of (b1 _ _ nln e2), b4', b5 _ (Same.refl _)⟩))
 refine ⟨_, rfl, _, _, rfl, rfl, ?_, _, rfl, ?_, ?_, ?_⟩
 ·exact .inl ⟨by decide, by decide⟩
 ·omega
 ·omega
 rw [show ((2 : Int) * (F.m : Int)).toNat = 2 * F.m by omega]
 refine a5g (lo := 0) (n := 2 * F.m) (fun i σ H2 => ∃ o8 o9 o10 o11 o12, σ = [o0, some (.int (F.m : Int)), o2, some (.ref F.d), o4, some (.ref F.dl), some (.ref F.rl), some (.ref fa), o8, o9, o10, o11, o12] /\ a2E P w K mg base c z1.2 z2.2 z3.2 F (nAt i) H2 /\ c2w HA H2 /\ TabW z4.2 c5f lamQ H2) ⟨_, _, _, _, _, rfl, NA, fun _ _ e => e, ⟨_, tA, ?_⟩⟩ ?_ ?_
 ·intro x hx h1
  rw [List.mem_singleton.mp hx] at h1
  exact absurd h1 (show ¬ (389 : Nat) = 393 by decide)
 ·rintro i σ H2 hi ⟨o8, o9, o10, o11, o12, rfl, N2, kz, tw⟩
  obtain ⟨xl, dl, hL⟩ := N2.lists
  have tw' := tw
  obtain ⟨S, tq, hS⟩ := tw'
  have hp : i / 2 < F.m := by omega
  refine ⟨sl, fun nl hnl => ?_⟩
  have s3 := Same.new (o := .lst [.str ("own" : Str), .str ("other" : Str)]) hnl
  have h3n : upd H2 nl (.lst [.str ("own" : Str), .str ("other" : Str)]) nl = some (.lst [.str (cn false), .str (cn true)]) := a0d
  generalize upd H2 nl (.lst [.str ("own" : Str), .str ("other" : Str)]) = H3 at s3 h3n ⊢
  refine ⟨_, rfl, _, _, rfl, rfl, (show (0 : Int) < 2 by decide), nl, _, _, _, rfl, rfl, SqL.of h3n, c2e (fun b => V.str (cn b)) i, ?_⟩
  have N3 := N2.next tq n1 n2 n3 (fun b o _ _ e => s3 b o e) (fun b => ⟨xl b, dl b, s3 _ _ (hL b).1, (hL b).2.1.same s3, (hL b).2.2⟩)
  obtain ⟨C, sp, dx, fs, gR, g1, g2, use⟩ := c8m (pl := pl) (N3.ok (par i)) (N3.U (par i))
  refine ⟨_, rfl, _, rfl, _, _, rfl, rfl, (show (0 : Int) < 2 by decide), F.rl, _, _, _, rfl, rfl, SqL.of N3.hrl, c2e (fun b => V.ref (F.r b)) i, C, sp, F.r (par i), dx, fs, gR, rfl, g1, g2, _, rfl, ⟨S, s3 _ _ tq, fun x hx h1 h2 => ?_⟩, fun fb HB hfb sB twB lb => ⟨_, rfl, _, rfl, _, _, rfl, rfl, ⟨by decide, by decide⟩, fun f' Ln => ?_⟩⟩
  ·obtain ⟨o, e1, e2⟩ := hS x hx h1 h2
   exact ⟨o, s3 _ _ e1, e2⟩
  have t3q := s3 _ _ tq
  have kB : Kp57 z4.2 F H3 HB := fun b o n _ e => sB b o n e
  have l4 : ∀ {b : Addr} {xs : List V}, H3 b = some (.lst xs) -> b ≠ z4.2 := fun e z => by rw [z, t3q] at e; cases e
  have hxB : ∀ b, HB (F.l b) = some (.lst (xl b)) := fun b => sB _ _ (l4 (s3 _ _ (hL b).1)) (s3 _ _ (hL b).1)
  have hpB : ∀ b, PvA K HB (xl b) (dl b) /\ (dl b).length = nAt i b := fun b => ⟨N3.pva t3q kB ((hL b).2.1.same s3), (hL b).2.2⟩
  have NB := N3.next t3q n1 n2 n3 kB (fun b => ⟨xl b, dl b, hxB b, (hpB b).1, (hpB b).2⟩)
  have hBn := sB _ _ (l4 h3n) h3n
  have kzB : c2w HA HB := fun b u e => sB _ _ (fun z => by
   have := kz _ _ e
   rw [z, tq] at this; cases this) (s3 _ _ (kz _ _ e))
  have nofL : ∀ b o, HB b = some o -> f' b = none := fun b o e => by
   cases e2 : f' b with
   | none => rfl
   | some ob => rw [Ln.free b ob e2] at e; cases e
  have sL : Same HB (lend f' HB) := fun b o e => by rw [a0N (nofL b o e)]; exact e
  have F1 := LOOK (xl := xl) rfl kzB Ln NB hxB hBn (fun z xs l hc hl => by
   obtain ⟨l', e1, e2⟩ := N2.at (fun b => (hL b).1) hc
   rw [hl] at e1
   cases e1
   exact a0k e2 hnl)
  have F2 := c75 (Ln.free) (nofL _ _ hBn) lb ⟨_, hBn⟩ (c1M (sc := a0b a3q) (N := Nlaw) (ps := ["_law_table"]) (cp := [(1, "_law_many")]) (cv := [.int (F.m : Int)]) (k := 1) (spB := c5b HB nl (fun _ => some F.m)) lb Ln hcl rfl (fun _ _ _ _ us hl => match us, hl with | [_], _ => rfl) (fun cd A' outer' s' H' vs Q' hr' h' => by
   obtain ⟨t', m', rfl, b1, b2, b3⟩ := h'
   cases b2
   exact ⟨_, pv 1, _, rfl, b3 _ (Same.refl _)⟩))
  obtain ⟨SB, tqB, hSB⟩ := twB
  have NL := NB.next tqB n1 n2 n3 (H' := lend f' HB) (fun b o _ _ e => sL b o e) (fun b => ⟨xl b, dl b, sL _ _ (hxB b), (hpB b).1.same sL, (hpB b).2⟩)
  have hR := c8p (pl := .ref pl) (NB.wld hpB (b := par i) hp (c05 i)) (.tup (hPL HB) (.cons (.str _) (.cons (.str _) .nil))) (N2.ok (par i))
  change sp [.ref (F.r (par i)), .ref fa, .ref fb, .str "t", .str (cn (par i)), .int ((0 + (i : Int)) / 2)] (lend f' HB) _ E0
  rw [c4P i]
  refine use (lend f' HB) fa fb nl (cn (par i)) (i / 2) F.m (vw57 F xl) (fun _ => some F.m) F.cd (dl (par i)) _ (NL.U (par i)) ((N2.ft (par i)).no hnl) (NL.wld (fun b => ⟨(hpB b).1.same sL, (hpB b).2⟩) hp (c05 i)) F1 F2 ⟨_, sL _ _ hBn⟩ (fun H4 fv b4 fd => ?_)
  have KN : ∀ b o, (∀ u, o ≠ Fz u) -> H4 b = some o -> unl f' H4 b = some o := fun b o nz e => by
   cases e2 : f' b with
   | none => rw [a1C e2]; exact e
   | some ob =>
    have nb : b ≠ nl := fun y => by rw [y, nofL nl _ hBn] at e2; cases e2
    rw [b4 b _ nb (a3f e2)] at e
    exact absurd (Option.some.inj e).symm (nz ob)
  have B5 : But nl HB (unl f' H4) := fun b o nb e => by
   have e2 := nofL b o e
   rw [a1C e2]
   exact b4 b o nb (by rw [a0N e2]; exact e)
  have n2l : ∀ {b : Addr} {o : HO}, H2 b = some o -> b ≠ nl := fun e => a0k e hnl
  have k25 : Kp57 z4.2 F H2 (unl f' H4) := fun b o n _ e => B5 _ _ (n2l e) (sB _ _ n (s3 _ _ e))
  have hL5 : ∀ b, unl f' H4 (F.l b) = some (.lst (xl b)) /\ PvA K (unl f' H4) (xl b) (dl b) /\ (dl b).length = nAt i b := fun b => ⟨B5 _ _ (n2l (hL b).1) (hxB b), N2.pva tq k25 (hL b).2.1, (hL b).2.2⟩
  have N5 := N2.next tq n1 n2 n3 k25 (fun b => ⟨xl b, dl b, hL5 b⟩)
  have lnl : ∀ {b : Addr} {o : HO}, (∀ xs, o ≠ .lst xs) -> HB b = some o -> b ≠ nl := fun n e z => by rw [z, hBn] at e; exact n _ (Option.some.inj e).symm
  have tq5 := B5 _ _ (lnl (fun xs z => by cases z) tqB) tqB
  have tw5 : TabW z4.2 c5f lamQ (unl f' H4) := ⟨SB, tq5, fun x hx h1 h2 => by
   obtain ⟨o, e1, e2⟩ := hSB x hx h1 h2
   exact ⟨o, B5 _ _ (lnl (fun xs z => by cases z) e1) e1, e2⟩⟩
  have kz5 : c2w HA (unl f' H4) := fun b u e => B5 _ _ (lnl (fun xs z => by cases z) (kzB _ _ e)) (kzB _ _ e)
  generalize (gatD (.ref pl) (vw57 F xl) (fun _ => some F.m) (cn (par i)) (i / 2) (F.dk (par i))).2 = res at hR fd
  have NEXT : ∀ {HC HD : Hp}, (∀ b o, (∀ x, b ≠ F.l x) -> HC b = some o -> HD b = some o) -> Same (unl f' H4) HC -> a2E P w K mg base c z1.2 z2.2 z3.2 F (nAt (i + 1)) HD -> a2E P w K mg base c z1.2 z2.2 z3.2 F (nAt (i + 1)) HD /\ c2w HA HD /\ TabW z4.2 c5f lamQ HD := fun {HC HD} k s5 ND => by
   have kk : ∀ {b : Addr} {o : HO}, (∀ xs, o ≠ .lst xs) -> unl f' H4 b = some o -> HD b = some o := fun {b o} n e => k b o (fun x z => by
    rw [z, (hL5 x).1] at e; exact n _ (Option.some.inj e).symm) (s5 _ _ e)
   refine ⟨ND, fun b u e => kk (fun xs z => by cases z) (kz5 _ _ e), SB, kk (fun xs z => by cases z) tq5, fun x hx h1 h2 => ?_⟩
   obtain ⟨o, e1, e2⟩ := hSB x hx h1 h2
   exact ⟨o, kk (fun xs z => by cases z) (B5 _ _ (lnl (fun xs z => by cases z) e1) e1), e2⟩
  cases res with
  | val v =>
   obtain ⟨ta, rfl, hta⟩ := fd
   have hta5 : unl f' H4 ta = some (.tup [.str ("value" : Str), v]) := KN _ _ (fun u z => by cases z) hta
   refine ⟨_, rfl, ta, _, _, _, rfl, rfl, SqT.of hta5, rfl, ?_⟩
   refine ⟨_, rfl, ta, _, _, _, rfl, rfl, SqT.of hta5, rfl, rfl, _, rfl, ite2 (fun h => absurd (V.str.inj (of_decide_eq_true h)) (by decide)) (fun _ => ?_)⟩
   exact qE _ F i _ _ o0 _ o2 o4 _ _ _ v xl dl N5 hi tq5 hL5 (c9B hR.2 hR.1 hBn B5) fun H8 o12' k8 N8 => ⟨_, _, _, _, _, rfl, NEXT k8 (Same.refl _) N8⟩
  | call xs =>
   obtain ⟨ta, lc, rfl, hta, hlc, _⟩ := fd
   obtain ⟨is, rfl, l100, hpre, eg⟩ := hR
   have hta5 : unl f' H4 ta = some (.tup [.str ("call" : Str), .ref lc]) := KN _ _ (fun u z => by cases z) hta
   have hlc5 : unl f' H4 lc = some (.lst (is.map V.int)) := KN _ _ (fun u z => by cases z) hlc
   obtain ⟨C2, sp2, dx2, fs2, rR, k1, k2, use2⟩ := c7r (N5.U (par i))
   refine ⟨_, rfl, ta, _, _, _, rfl, rfl, SqT.of hta5, rfl, ?_⟩
   refine ⟨_, rfl, ta, _, _, _, rfl, rfl, SqT.of hta5, rfl, rfl, _, rfl, ite2 (fun _ => ?_) (fun h => absurd (decide_eq_true rfl) h)⟩
   refine ⟨_, rfl, _, rfl, _, _, rfl, rfl, (show (0 : Int) < 2 by decide), F.rl, _, _, _, rfl, rfl, SqL.of N5.hrl, c2e (fun b => V.ref (F.r b)) i, C2, sp2, F.r (par i), dx2, fs2, rR, rfl, k1, k2, _, rfl, ta, _, _, _, rfl, rfl, SqT.of hta5, rfl, use2 lc is _ (SqL.of hlc5) l100 hpre (d0h (N2.ok (par i)) l100 hpre) (fun HC v sC hv => ?_)⟩
   rw [eg] at hv
   have NC := N5.next tq5 n1 n2 n3 (H' := HC) (fun b o _ _ e => sC b o e) (fun b => ⟨xl b, dl b, sC _ _ (hL5 b).1, (hL5 b).2.1.same sC, (hL5 b).2.2⟩)
   exact qE _ F i _ _ o0 _ o2 o4 _ _ _ v xl dl NC hi (sC _ _ tq5) (fun b => ⟨sC _ _ (hL5 b).1, (hL5 b).2.1.same sC, (hL5 b).2.2⟩) hv fun H8 o12' k8 N8 => ⟨_, _, _, _, _, rfl, NEXT k8 sC N8⟩
 ·rintro σ H2 ⟨o8, o9, o10, o11, o12, rfl, N2, kz, S, tw, _⟩
  refine ⟨S, tw, q _ fun y hy => ?_⟩
  have up : ∀ {z : Addr}, z ≠ z4.2 -> (∃ S, H2 z = some (TabC z S)) -> ∃ S', upd H2 z4.2 (TabC z4.2 (S.map (·.2.2))) z = some (TabC z S') := fun nz ⟨S', e⟩ => ⟨S', by rw [a0m nz]; exact e⟩
  simp only [List.mem_cons, List.not_mem_nil, or_false] at hy
  rcases hy with rfl | rfl | rfl | rfl
  ·exact up n1 N2.t1
  ·exact up n2 N2.t2
  ·exact up n3 N2.t3
  ·exact ⟨_, a0d⟩
end
end My
set_option maxHeartbeats 1000000
namespace My
open PySem L2
def kv3 (l : Nat -> Addr) (j : Nat) : List (Key × V) := (List.range j).map fun k => ((.inr (nm3.getD k "") : Key), V.ref (l k))
def setF {α : Type} (l : Nat -> α) (j : Nat) (a : α) (k : Nat) : α := if k = j then a else l k
theorem c7k (l : Nat -> Addr) (a : Addr) : ∀ j, j < 3 -> putK (kv3 l j) (.inr (nm3.getD j "")) (.ref a) = kv3 (setF l j a) (j + 1) := by
 intro j hj
 match j, hj with
 | 0, _ => rfl
 | 1, _ => rfl
 | 2, _ => rfl
 | j + 3, h => omega
theorem c8W {K : PySem.W.Frag} {H : Hp} {v : V} (h : WVb H v) : ∃ d, Pv7 K H v d := by
 obtain ⟨h1, h2⟩ := h
 rcases h1 with ⟨i, rfl⟩ | ⟨a, z, rfl, e, hz⟩
 ·exact ⟨.int i, .inl ⟨i, rfl, rfl, h2 i rfl⟩⟩
 ·exact ⟨_, .inr ⟨a, z, rfl, e, rfl, hz⟩⟩
theorem c89 : ∀ j : Nat, j < 3 -> atI (nm3.map V.str) (0 + (j : Int)) = some (.str (nm3.getD j "")) := by
 intro j hj
 match j, hj with
 | 0, _ => rfl
 | 1, _ => rfl
 | 2, _ => rfl
 | j + 3, h => omega
theorem PvA.k {K : PySem.W.Frag} {H H' : Hp} (h : ∀ a xs, H a = some (.tup xs) -> H' a = some (.tup xs)) : ∀ {xs : List V} {ds : List PyData}, PvA K H xs ds -> PvA K H' xs ds
 | _, _, .nil => .nil
 | _, _, .cons p t => .cons (by
  rcases p with p | ⟨a, y, rfl, e, rfl, hy⟩
  ·exact .inl p
  ·exact .inr ⟨a, y, rfl, h _ _ e, rfl, hy⟩) (PvA.k h t)
theorem c17 {K : PySem.W.Frag} {H H' : Hp} {a d : Addr} {xs : List V} {kvs : List (Key × V)} (h : SqL K H a xs) (hd : H d = some (.dK kvs)) (b : But d H H') : SqL K H' a xs := by
 rcases h with h | h
 ·rcases h with h | ⟨o, h⟩
  ·exact .inl (.inl (b _ _ (fun z => by rw [z, hd] at h; cases h) h))
  ·exact .inl (.inr ⟨o, b _ _ (fun z => by rw [z, hd] at h; cases h) h⟩)
 ·exact .inr h
structure c8U (K : PySem.W.Frag) (H : Hp) (m : Nat) (a : Addr) (xs : List V) (ds : List PyData) : Prop where
 h : H a = some (.lst xs)
 p : PvA K H xs ds
 l : ds.length = m
section
variable {P : Program} {w : World} {K : PySem.W.Frag} {mg : Str -> Option Value} {base : Heap}
theorem c8S (T : Tops K mg) (TD : Dcs w.params K mg) {z1 z2 z3 z4 : Addr × Addr} (B1 : DefT K mg "function_of" a0C z1) (M1 : a5Y mg base z1.1 z1.2) (B2 : DefT K mg "read_lookup" a0G z2) (M2 : a5Y mg base z2.1 z2.2) (B3 : DefT K mg "read_mend" a0P z3) (M3 : a5Y mg base z3.1 z3.2) (B4 : DefT K mg "law" a3q z4) (M4 : a5Y mg base z4.1 z4.2)
 (n12 : z1.2 ≠ z2.2) (n13 : z1.2 ≠ z3.2) (n14 : z1.2 ≠ z4.2) (n23 : z2.2 ≠ z3.2) (n24 : z2.2 ≠ z4.2) (n34 : z3.2 ≠ z4.2) {f : Addr} {fd : FuncData} (F : Fun K "law" "law" a3q f fd) (hcd : fd.code = .ref z4.1) : FnOk P w K mg base CX0 14 f fd ["_law_script"] (c86 K [z1, z2, z3, z4]) := by
 obtain ⟨R, Z⟩ := T.t_Rule
 obtain ⟨c1, Y1⟩ := T.t_Cells
 obtain ⟨c2, Y2⟩ := T.t_Above
 obtain ⟨c3, Y3⟩ := T.t_Group
 obtain ⟨c4, Y4⟩ := T.t_Lookup
 obtain ⟨c5, Y5⟩ := T.t_Mend
 have Y : T5 K mg ⟨c1, c2, c3, c4, c5⟩ := ⟨⟨R, Z⟩, Y1, Y2, Y3, Y4, Y5⟩
 generalize (⟨c1, c2, c3, c4, c5⟩ : C5) = c at Y
 have G_law_cell : a0q P w K mg base CX0 1 "_law_cell" ["_law_script", "_law_k"] (c2h K) := a3E T
 have G_law_value : a0q P w K mg base CX0 1 "_law_value" ["_law_cell_here"] c4z := a3T T
 have G_law_drawn : a0q P w K mg base CX0 2 "_law_drawn" ["_law_script", "_law_at", "_law_names"] (c9y K) := a38 T
 have G_read_rule : a0q P w K mg base CX0 7 "read_rule" ["text"] (c8s P w K mg base c z1.2 z2.2 z3.2) := c5G T TD Y B1 M1 B2 M2 B3 M3 n12 n13 n23
 refine F.okT hcd a4u (fun vs H Q E h => ?_) (fun A outer s H vs Q E hr h => ?_)
 ·obtain ⟨a, ns, rfl, _⟩ := h
  rfl
 ·obtain ⟨a, ns, rfl, hS, hl, hT, q⟩ := h
  have hu := c4A hr
  have hcl : ∀ x, (cxOf CX0 P w K mg base Nlaw "law" (a0b a3q) f (.ref z4.1) A outer s H E).nox.env.scope.names.lookup x = some .cell -> ∃ c, (cxOf CX0 P w K mg base Nlaw "law" (a0b a3q) f (.ref z4.1) A outer s H E).nox.env.cells.lookup x = some c := fun x hx => Option.isSome_iff_exists.mp (PySem.W.cellsFrom_some _ _ _ (.inl hx))
  obtain ⟨tE, hE, qE⟩ := c70 T Y (z1 := z1) (z2 := z2) (z3 := z3) M4 n14 n24 n34 (f := f) A outer s H Q E hr q
  refine ⟨_, (a0e (a0B (i := 1) a4u.nd rfl (by first | exact Or.inl rfl | exact Or.inr rfl) (a0E a2D a0i (a0E a14 (a0h G_law_cell (hr.mono (by decide)) a0t (a0a (pv 0) (a0a a0i a0c))) a0i)))
   (a0e (a0B (i := 2) a4u.nd rfl (by first | exact Or.inl rfl | exact Or.inr rfl) (a1G (a0a a0u (a0a a0u (a0a a0u a0c)))))
   (a0e (a0B (i := 3) a4u.nd rfl (by first | exact Or.inl rfl | exact Or.inr rfl) c5V)
   (a0e (a4m PassesOwn.never rfl (a3H rfl T.range (a0a a0i a0c)) (a0Q (i := 4) a4u.nd rfl (by first | exact Or.inl rfl | exact Or.inr rfl)) (a0g (c0Q hu (pv 3) (a0z a0s (pv 2) (pv 4) (fun _ _ => rfl)) (a9O (te := b6S c4z [] E0 (a8j (b6S (c2h K) [] E0 _) _)) (a4O (sc := a0b a3q) (N := Nlaw) (cp := [(0, "_law_script"), (4, "_law_j")]) hcl) rfl rfl (by decide) (a3H rfl T.range (a0a (pv 1) a0c)) (fun _ _ _ _ _ => a9z) (fun _ _ _ _ _ => (a0h G_law_value (hr.mono (by decide)) a0t (a0a (a0h G_law_cell (hr.mono (by decide)) a0t (a0a (pv 1) (a0a (a0E a2D (a0E a2D a0i (a0E b4j a0i (pv 2))) (pv 0)) a0c))) a0c)))) rfl)))
   (a0e (a0B (i := 5) a4u.nd rfl (by first | exact Or.inl rfl | exact Or.inr rfl) (a1G (a0a (a0h G_law_drawn (hr.mono (by decide)) a0t (a0a (pv 0) (a0a a0i (a0a (pv 2) a0c)))) (a0a (a0h G_law_drawn (hr.mono (by decide)) a0t (a0a (pv 0) (a0a a0i (a0a (pv 2) a0c)))) a0c))))
   (a0e (a0B (i := 6) a4u.nd rfl (by first | exact Or.inl rfl | exact Or.inr rfl) (a1G (a0a (a0h G_read_rule (hr.mono (by decide)) a0t (a0a (a0z a1z (a0z a0s (pv 5) a0i (fun _ _ => rfl)) a0i (fun _ _ => rfl)) a0c)) (a0a (a0h G_read_rule (hr.mono (by decide)) a0t (a0a (a0z a1z (a0z a0s (pv 5) a0i (fun _ _ => rfl)) a0i (fun _ _ => rfl)) a0c)) a0c))))
   (a0e (c0Q hu (pv 3) a0u (a1G a0c) rfl)
   (a0e (c0Q hu (pv 3) a0u (a1G a0c) rfl)
   hE)))))))), ?_⟩
  have t01 : H z1.2 = some (TabC z1.2 []) := hT z1 (by simp)
  have t02 : H z2.2 = some (TabC z2.2 []) := hT z2 (by simp)
  have t03 : H z3.2 = some (TabC z3.2 []) := hT z3 (by simp)
  have t04 : H z4.2 = some (TabC z4.2 []) := hT z4 (by simp)
  obtain ⟨m0, hm0, em⟩ := b6i (a5x ns 0) (m := 6) (by decide)
  refine ⟨_, rfl, a, ns, 0, rfl, hS, hl, by decide, by decide, _, _, rfl, rfl, (show (0 : Int) < 6 by decide), _, _, rfl, rfl, ?_⟩
  change tSeq _ _ _ [some (.ref a), some (.int (1 + a5x ns 0 % 6)), none, none, none, none, none, none, none, none, none, none, none] H
  rw [show (1 : Int) + a5x ns 0 % 6 = ((m0 + 1 : Nat) : Int) by rw [show a5x ns 0 % 6 = (m0 : Int) from em]; omega]
  have hm6 : m0 + 1 <= 6 := by omega
  generalize m0 + 1 = m at hm6 ⊢
  refine ⟨sl, fun nl hnl => ?_⟩
  have s1 := Same.new (o := .lst (nm3.map V.str)) hnl
  have h1 : upd H nl (.lst (nm3.map V.str)) nl = some (.lst (nm3.map V.str)) := a0d
  change tSeq _ _ _ [some (.ref a), some (.int (m : Int)), some (.ref nl), none, none, none, none, none, none, none, none, none, none] (upd H nl (.lst (nm3.map V.str)))
  generalize upd H nl (.lst (nm3.map V.str)) = H1 at s1 h1 ⊢
  refine fun d hd => ?_
  have s2 := Same.new (o := .dK []) hd
  have h2 : upd H1 d (.dK []) d = some (.dK []) := a0d
  have h2n := s2 _ _ h1
  have s02 := s1.trans s2
  have ndn : nl ≠ d := a0k h1 hd
  have hd0 : H d = none := a5w s1 hd
  generalize upd H1 d (.dK []) = H2 at s02 h2 h2n ⊢
  refine ⟨_, rfl, by decide, by decide, ?_⟩
  refine a5g (lo := 0) (n := 3) (fun j σ H3 => ∃ (o4 : Option V) (l : Nat -> Addr) (x : Nat -> List V) (y : Nat -> List PyData), σ = [some (.ref a), some (.int (m : Int)), some (.ref nl), some (.ref d), o4, none, none, none, none, none, none, none, none] /\ But d H2 H3 /\ H3 d = some (.dK (kv3 l j)) /\ ∀ k, k < j -> c8U K H3 m (l k) (x k) (y k)) ⟨_, fun _ => d, fun _ => [], fun _ => [], rfl, But.of (Same.refl _), h2, fun k hk => absurd hk (Nat.not_lt_zero _)⟩ ?_ ?_
  ·rintro j σ H3 hj ⟨o4, l, x, y, rfl, b3, h3, C3⟩
   have hS3 := c17 (s02.seq hS) h2 b3
   refine ⟨_, rfl, _, rfl, by omega, by omega, fun kl hkl => ?_⟩
   rw [Int.toNat_natCast]
   refine c2y (lo := 0) (n := m) (fun i ys H4 => Same H3 H4 /\ ys.length = i /\ ∃ ds, PvA K H4 ys ds /\ ds.length = i) ⟨Same.new hkl, rfl, [], .nil, rfl⟩ ?_ ?_
   ·rintro i ys H4 hi h4D ⟨s4, ly, ds, pv4, ld⟩
    refine ⟨_, rfl, _, rfl, _, _, rfl, rfl, .inl ⟨by decide, by decide⟩, _, _, rfl, rfl, _, rfl, _, _, rfl, rfl, a, ns, _, rfl, s4.seq hS3, hl, ?_, ?_, _, rfl, fun H5 v s5 hv => ⟨s5 _ _ h4D, a0U (by omega), (s4.trans s5).on hkl, ?_, ?_⟩⟩
    ·omega
    ·omega
    ·rw [List.length_append, ly]; rfl
    ·obtain ⟨dv, pv⟩ := c8W (K := K) hv
     have kp := Keep.lst (ys := ys ++ [v]) (s5 _ _ h4D)
     exact ⟨ds ++ [dv], PvA.snoc (pv.keep kp) (PvA.keep kp (pv4.same s5)), by rw [List.length_append, ld]; rfl⟩
   ·rintro xs H4 h4x ⟨s4, ly, ds, pv4, ld⟩
    have h4d := s4 _ _ h3
    have nkd : kl ≠ d := fun z => by rw [z, h3] at hkl; cases hkl
    have up : ∀ {b : Addr} {o : HO} {ob : HO}, b ≠ d -> H4 b = some o -> upd H4 d ob b = some o := fun nb e => by rw [a0m nb]; exact e
    have tp : ∀ {ob : HO} (a : Addr) (xs : List V), H4 a = some (.tup xs) -> upd H4 d ob a = some (.tup xs) := fun a xs e => up (fun z => by rw [z, h4d] at e; cases e) e
    refine ⟨_, rfl, _, rfl, _, rfl, nl, _, _, _, rfl, rfl, SqL.of (s4 _ _ (b3 _ _ ndn h2n)), c89 j hj, d, _, rfl, DPut.k (k := Sum.inr (nm3.getD j "")) h4d ?_, ?_⟩
    ·have : (kv3 l j).length = j := by unfold kv3; rw [List.length_map, List.length_range]
     have : (1000 : Nat) <= sizeLine := by decide
     omega
    ·rw [c7k l kl j hj]
     refine ⟨_, setF l j kl, setF x j xs, setF y j ds, rfl, (b3.trans (But.of s4)).trans But.upd, a0d, fun k hk => ?_⟩
     by_cases e : k = j
     ·subst e
      rw [show setF l k kl k = kl from if_pos rfl, show setF x k xs k = xs from if_pos rfl, show setF y k ds k = ds from if_pos rfl]
      exact ⟨up nkd h4x, PvA.k tp pv4, ld⟩
     ·rw [show setF l j kl k = l k from if_neg e, show setF x j xs k = x k from if_neg e, show setF y j ds k = y k from if_neg e]
      obtain ⟨g1, g2, g3⟩ := C3 k (by omega)
      exact ⟨up (fun z => by rw [z, h3] at g1; cases g1) (s4 _ _ g1), PvA.k tp (g2.same s4), g3⟩
  ·rintro σ H3 ⟨o4, l, x, y, rfl, b3, h3, C3⟩
   have hS3 := c17 (s02.seq hS) h2 b3
   have e3 : ∀ {z : Addr} {φ : Heap -> Prop}, H z = some (.ext φ) -> H3 z = some (.ext φ) := fun {z φ} e => b3 _ _ (fun y => by
    have := s02 _ _ e
    rw [y, h2] at this; cases this) (s02 _ _ e)
   have h3n : H3 nl = some (.lst (nm3.map V.str)) := b3 _ _ ndn h2n
   refine ⟨_, rfl, _, rfl, a, nl, ns, 1, rfl, hS3, hl, by decide, SqL.of h3n, fun H4 q1 t1 dk1 s4 ok1 hq1 ht1 => ⟨_, rfl, _, rfl, a, nl, ns, 40, rfl, s4.seq hS3, hl, by decide, SqL.of (s4 _ _ h3n), fun H5 q2 t2 dk2 s5 ok2 hq2 ht2 => ⟨sl, fun dl hdl => ?_⟩⟩⟩
   have s6 := Same.new (o := .lst [.ref q1, .ref q2]) hdl
   have h6l : upd H5 dl (.lst [.ref q1, .ref q2]) dl = some (.lst [.ref q1, .ref q2]) := a0d
   have s36 := (s4.trans s5).trans s6
   have hq16 := s6 _ _ (s5 _ _ hq1)
   have ht16 := s6 _ _ (s5 _ _ ht1)
   have hq26 := s6 _ _ hq2
   have ht26 := s6 _ _ ht2
   change tSeq _ _ _ [some (.ref a), some (.int (m : Int)), some (.ref nl), some (.ref d), o4, some (.ref dl), none, none, none, none, none, none, none] (upd H5 dl (.lst [.ref q1, .ref q2]))
   generalize upd H5 dl (.lst [.ref q1, .ref q2]) = H6 at s36 h6l hq16 ht16 hq26 ht26 ⊢
   clear s4 s5 s6 hq1 ht1 hq2 ht2 hdl
   have tb6 : Tb3 z1.2 z2.2 z3.2 H6 := ⟨c5j (s36 _ _ (e3 t01)), c5j (s36 _ _ (e3 t02)), c5j (s36 _ _ (e3 t03))⟩
   refine ⟨_, rfl, dl, _, _, _, rfl, rfl, SqL.of h6l, rfl, q1, _, _, _, rfl, rfl, SqT.of hq16, rfl, dk1, rfl, ok1, tb6, fun H7 r1 W1 s7 tb7 F1 U1 => ?_⟩
   have k67 := s7.keepC tb6
   have hq27 := k67 _ _ (fun φ z => by cases z) hq26
   refine ⟨_, rfl, dl, _, _, _, rfl, rfl, SqL.of (k67 _ _ (fun φ z => by cases z) h6l), rfl, q2, _, _, _, rfl, rfl, SqT.of hq27, rfl, dk2, rfl, ok2, tb7, fun H8 r2 W2 s8 tb8 F2 U2 => ⟨sl, fun rl hrl => ?_⟩⟩
   have k78 := s8.keepC tb7
   have w78 : a0X W1 H7 H8 := a0X.c F1 k78
   have F18 := F1.keep w78
   have U18 := U1.keep w78
   have s9 := Same.new (o := .lst [.ref r1, .ref r2]) hrl
   have h9r : upd H8 rl (.lst [.ref r1, .ref r2]) rl = some (.lst [.ref r1, .ref r2]) := a0d
   have k69 : a2C H6 (upd H8 rl (.lst [.ref r1, .ref r2])) := (k67.trans k78).trans (a2C.of s9)
   have F19 := F18.keep (a0X.of s9)
   have U19 := U18.keep (a0X.of s9)
   have F29 := F2.keep (a0X.of s9)
   have U29 := U2.keep (a0X.of s9)
   have tb9 := tb8.same s9
   have t49 : upd H8 rl (.lst [.ref r1, .ref r2]) z4.2 = some (TabC z4.2 []) := s9 _ _ (s8 _ _ n14.symm n24.symm n34.symm (s7 _ _ n14.symm n24.symm n34.symm (s36 _ _ (e3 t04))))
   change tSeq _ _ _ [some (.ref a), some (.int (m : Int)), some (.ref nl), some (.ref d), o4, some (.ref dl), some (.ref rl), none, none, none, none, none, none] (upd H8 rl (.lst [.ref r1, .ref r2]))
   generalize upd H8 rl (.lst [.ref r1, .ref r2]) = H9 at h9r k69 F19 U19 F29 U29 tb9 t49 ⊢
   have k39 : ∀ {b : Addr} {o : HO}, (∀ φ, o ≠ .ext φ) -> H3 b = some o -> H9 b = some o := fun n e => k69 _ _ n (s36 _ _ e)
   have h9d : H9 d = some (.dK (kv3 l 3)) := k39 (fun φ z => by cases z) h3
   clear s7 s8 s9 k67 k78 w78 F1 U1 F2 U2 F18 U18 tb6 tb7 tb8 hrl hq27
   refine ⟨sl, fun lo hlo => ⟨_, rfl, d, _, rfl, DPut.k (k := Sum.inr "own") (Same.new hlo _ _ h9d) (show 3 < sizeLine by decide), ?_⟩⟩
   have ndo : d ≠ lo := a0k h9d hlo
   have hAd : upd (upd H9 lo (.lst [])) d (.dK (putK (kv3 l 3) (.inr "own") (.ref lo))) d = some (.dK (putK (kv3 l 3) (.inr "own") (.ref lo))) := a0d
   have hAo : upd (upd H9 lo (.lst [])) d (.dK (putK (kv3 l 3) (.inr "own") (.ref lo))) lo = some (.lst []) := by rw [a0m ndo.symm]; exact a0d
   have u9A : ∀ b o, b ≠ d -> H9 b = some o -> upd (upd H9 lo (.lst [])) d (.dK (putK (kv3 l 3) (.inr "own") (.ref lo))) b = some o := fun b o nb e => by rw [a0m nb]; exact Same.new hlo _ _ e
   generalize upd (upd H9 lo (.lst [])) d (.dK (putK (kv3 l 3) (.inr "own") (.ref lo))) = HA at hAd hAo u9A ⊢
   refine ⟨sl, fun lt hlt => ⟨_, rfl, d, _, rfl, DPut.k (k := Sum.inr "other") (Same.new hlt _ _ hAd) (show 4 < sizeLine by decide), ?_⟩⟩
   have ndt : d ≠ lt := a0k hAd hlt
   have hCd : upd (upd HA lt (.lst [])) d (.dK (putK (putK (kv3 l 3) (.inr "own") (.ref lo)) (.inr "other") (.ref lt))) d = some (.dK (putK (putK (kv3 l 3) (.inr "own") (.ref lo)) (.inr "other") (.ref lt))) := a0d
   have hCt : upd (upd HA lt (.lst [])) d (.dK (putK (putK (kv3 l 3) (.inr "own") (.ref lo)) (.inr "other") (.ref lt))) lt = some (.lst []) := by rw [a0m ndt.symm]; exact a0d
   have uAC : ∀ b o, b ≠ d -> HA b = some o -> upd (upd HA lt (.lst [])) d (.dK (putK (putK (kv3 l 3) (.inr "own") (.ref lo)) (.inr "other") (.ref lt))) b = some o := fun b o nb e => by rw [a0m nb]; exact Same.new hlt _ _ e
   generalize upd (upd HA lt (.lst [])) d (.dK (putK (putK (kv3 l 3) (.inr "own") (.ref lo)) (.inr "other") (.ref lt))) = HC at hCd hCt uAC ⊢
   have hCo := uAC _ _ ndo.symm hAo
   have nd : ∀ {b : Addr} {o : HO}, (∀ kvs, o ≠ .dK kvs) -> H9 b = some o -> b ≠ d := fun n e z => by rw [z, h9d] at e; exact n _ (Option.some.inj e).symm
   have u9C : ∀ {b : Addr} {o : HO}, (∀ kvs, o ≠ .dK kvs) -> H9 b = some o -> HC b = some o := fun n e => uAC _ _ (nd n e) (u9A _ _ (nd n e) e)
   have ne1 : ∀ {b : Addr} {o : HO}, (∀ kvs, o ≠ .dK kvs) -> H9 b = some o -> b ≠ lo /\ b ≠ lt := fun n e => ⟨a0k e hlo, a0k (u9A _ _ (nd n e) e) hlt⟩
   have wk : ∀ {W : List Addr} {r : Addr} {dk : DK}, Ft W H9 -> b21 P w K mg base c W H9 r dk -> Ft W HC /\ b21 P w K mg base c W HC r dk /\ lo ∉ W /\ lt ∉ W := fun {W r dk} FW UW => by
    have kw : a0X W H9 HC := fun b o hb e => by
     rcases hb with hb | ⟨u, rfl⟩
     ·rcases FW b hb with ⟨C, dx, fs, h⟩ | ⟨xs, h⟩
      ·rw [h] at e; cases e; exact u9C (fun kvs z => by cases z) h
      ·rw [h] at e; cases e; exact u9C (fun kvs z => by cases z) h
     ·exact u9C (fun kvs z => by cases z) e
    refine ⟨FW.keep kw, UW.keep kw, FW.no hlo, fun m => ?_⟩
    rcases FW lt m with ⟨C, dx, fs, h⟩ | ⟨xs, h⟩
    ·exact (ne1 (fun kvs z => by cases z) h).2 rfl
    ·exact (ne1 (fun kvs z => by cases z) h).2 rfl
   obtain ⟨F1C, U1C, l1o, l1t⟩ := wk F19 U19
   obtain ⟨F2C, U2C, l2o, l2t⟩ := wk F29 U29
   have tC : ∀ {z : Addr} {q : Str}, a3A q H9 z -> ∃ S, HC z = some (TabC z S) := fun t => by
    obtain ⟨S, e⟩ := c8X t
    exact ⟨S, u9C (fun kvs z => by cases z) e⟩
   have cC : ∀ k, k < 3 -> c8U K HC m (l k) (x k) (y k) /\ l k ≠ lo /\ l k ≠ lt := fun k hk => by
    obtain ⟨g1, g2, g3⟩ := C3 k hk
    have g9 := k39 (fun φ z => by cases z) g1
    exact ⟨⟨u9C (fun kvs z => by cases z) g9, PvA.k (fun a xs e => u9C (fun kvs z => by cases z) (k39 (fun φ z => by cases z) e)) g2, g3⟩, ne1 (fun kvs z => by cases z) g9⟩
   have n0 := cC 0 (by decide)
   have n1 := cC 1 (by decide)
   have n2 := cC 2 (by decide)
   have hdl9 := k69 _ _ (fun φ z => by cases z) h6l
   have up6 : ∀ {b : Addr} {xs : List V}, H6 b = some (.tup xs) -> HC b = some (.tup xs) := fun e => u9C (fun kvs z => by cases z) (k69 _ _ (fun φ z => by cases z) e)
   refine qE HC { d := d, dl := dl, rl := rl, q := fun b => if b then q2 else q1, t := fun b => if b then t2 else t1, r := fun b => if b then r2 else r1, l := fun b => if b then lt else lo, W := fun b => if b then W2 else W1, dk := fun b => if b then dk2 else dk1, m := m, cd := fun z => if z = "a" then y 0 else if z = "ab" then y 1 else y 2, kvs := putK (putK (kv3 l 3) (.inr "own") (.ref lo)) (.inr "other") (.ref lt), ca := fun z => if z = "a" then l 0 else if z = "ab" then l 1 else l 2, xs := fun z => if z = "a" then x 0 else if z = "ab" then x 1 else x 2 } (some (.ref a)) (some (.ref nl)) o4 ?_ (u9C (fun kvs z => by cases z) t49)
   exact { m6 := hm6, hd := hCd
           kc := fun z hz => by
            simp only [List.mem_cons, List.not_mem_nil, or_false] at hz
            rcases hz with rfl | rfl | rfl <;> rfl
           kl := fun b => by cases b <;> rfl
           hc := fun z hz => by
            simp only [List.mem_cons, List.not_mem_nil, or_false] at hz
            rcases hz with rfl | rfl | rfl
            ·exact ⟨n0.1.h, n0.1.p, n0.1.l⟩
            ·exact ⟨n1.1.h, n1.1.p, n1.1.l⟩
            ·exact ⟨n2.1.h, n2.1.p, n2.1.l⟩
           nc := fun z hz b => by
            simp only [List.mem_cons, List.not_mem_nil, or_false] at hz
            rcases hz with rfl | rfl | rfl <;> cases b
            ·exact n0.2.1
            ·exact n0.2.2
            ·exact n1.2.1
            ·exact n1.2.2
            ·exact n2.2.1
            ·exact n2.2.2
           nl := a0k hAo hlt
           hl := fun b => by
            cases b
            ·exact ⟨[], [], hCo, .nil, rfl⟩
            ·exact ⟨[], [], hCt, .nil, rfl⟩
           hdl := u9C (fun kvs z => by cases z) hdl9
           ndl := fun b => by
            cases b
            ·exact (ne1 (fun kvs z => by cases z) hdl9).1
            ·exact (ne1 (fun kvs z => by cases z) hdl9).2
           hrl := u9C (fun kvs z => by cases z) h9r
           nrl := fun b => by
            cases b
            ·exact (ne1 (fun kvs z => by cases z) h9r).1
            ·exact (ne1 (fun kvs z => by cases z) h9r).2
           hq := fun b => by
            cases b
            ·exact up6 hq16
            ·exact up6 hq26
           ht := fun b => by
            cases b
            ·exact up6 ht16
            ·exact up6 ht26
           ok := fun b => by
            cases b
            ·exact ok1
            ·exact ok2
           U := fun b => by
            cases b
            ·exact U1C
            ·exact U2C
           ft := fun b => by
            cases b
            ·exact F1C
            ·exact F2C
           nW := fun b b' => by
            cases b <;> cases b'
            ·exact l1o
            ·exact l2o
            ·exact l1t
            ·exact l2t
           t1 := tC tb9.a, t2 := tC tb9.b, t3 := tC tb9.c }
end
end My
namespace My
open PySem L2
theorem c7H {PP : Params} {K : PySem.W.Frag} {h : Heap} {mg : Str -> Option Value} (X : K.In h) (G : h.Ns mainGlobals mg)
 (c7j : PySem.W.nsIn K mainGlobals "len" = some none)
 (a6z : PySem.W.nsIn K mainGlobals "isinstance" = some none)
 (c7O : PySem.W.nsIn K mainGlobals "int" = some none)
 (c4x : PySem.W.nsIn K mainGlobals "bool" = some none)
 (c7U : PySem.W.nsIn K mainGlobals "str" = some none)
 (c7d : PySem.W.nsIn K mainGlobals "all" = some none)
 (c0z : PySem.W.nsIn K mainGlobals "range" = some none)
 (c7X : PySem.W.nsIn K mainGlobals "abs" = some none)
 (c5p : PySem.W.nsIn K mainGlobals "list" = some none)
 (c0v : PySem.W.nsIn K mainGlobals "tuple" = some none)
 (c3H : PySem.W.nsIn K mainGlobals "dict" = some none)
 (c7L : PySem.W.nsIn K mainGlobals "max" = some none)
 (c8l : PySem.W.nsIn K mainGlobals "min" = some none)
 (c7y : PySem.W.nsIn K mainGlobals "sum" = some none)
 (a9s : PySem.W.nsIn K mainGlobals "reversed" = some none)
 (c7t : PySem.W.nsIn K mainGlobals "zip" = some none)
 (a7j : PySem.W.nsIn K mainGlobals "ValueError" = some none)
 {c4w : Tok} (b1d : PySem.W.nsIn K mainGlobals "LETTERS" = some (some (.str ("abcdefghijklmnopqrstuvwxyz" : Str) c4w)))
 {b3C : Tok} (a4I : PySem.W.nsIn K mainGlobals "MOST_LETTERS" = some (some (.int 8 b3C)))
 {c7g : Addr} {c9O c8L : Tok} {c85 : Option Addr} {c92 : Nat} {c8v : Array (Option Value)} (c7I : PySem.W.nsIn K mainGlobals "ODD" = some (some (.ref c7g))) (c8f : K.lookup c7g = some ⟨.type "tuple", c85, .seq #[Value.str ("fault" : Str) c9O, Value.str ("odd" : Str) c8L] c92, c8v⟩)
 {b7Y : Tok} (a6t : PySem.W.nsIn K mainGlobals "MOST_NAMES" = some (some (.int 6 b7Y)))
 {c0B : Addr} {c6i c6G : Tok} {c6F : Option Addr} {c8g : Nat} {c6C : Array (Option Value)} (c1e : PySem.W.nsIn K mainGlobals "LACKS" = some (some (.ref c0B))) (c08 : K.lookup c0B = some ⟨.type "tuple", c6F, .seq #[Value.str ("fault" : Str) c6i, Value.str ("lacks" : Str) c6G] c8g, c6C⟩)
 {c4U : Tok} (b2E : PySem.W.nsIn K mainGlobals "FIGURES" = some (some (.str ("0123456789" : Str) c4U)))
 {b3R : Tok} (a4Y : PySem.W.nsIn K mainGlobals "MOST_FIGURES" = some (some (.int 60 b3R)))
 {b80 : Tok} (a7m : PySem.W.nsIn K mainGlobals "MOST_WORDS" = some (some (.int 24 b80)))
 {b9S : Addr} {c6k c5X c5E c6e c5w c57 c5M : Tok} {c6r : Option Addr} {c8i : Nat} {c6D : Array (Option Value)} (c0J : PySem.W.nsIn K mainGlobals "SIGNS" = some (some (.ref b9S))) (c0p : K.lookup b9S = some ⟨.type "tuple", c6r, .seq #[Value.str ("+" : Str) c6k, Value.str ("-" : Str) c5X, Value.str ("*" : Str) c5E, Value.str ("/" : Str) c6e, Value.str (":" : Str) c5w, Value.str ("<" : Str) c57, Value.str ("=" : Str) c5M] c8i, c6D⟩)
 {b6s : Addr} {c5c c3D : Tok} {c3L : Option Addr} {c5W : Nat} {c5k : Array (Option Value)} (b6B : PySem.W.nsIn K mainGlobals "NOUGHT" = some (some (.ref b6s))) (b5V : K.lookup b6s = some ⟨.type "tuple", c3L, .seq #[Value.str ("fault" : Str) c5c, Value.str ("nought" : Str) c3D] c5W, c5k⟩)
 {b9L : Addr} {c51 c6o : Tok} {c6h : Option Addr} {c8n : Nat} {c5s : Array (Option Value)} (b9M : PySem.W.nsIn K mainGlobals "GREAT" = some (some (.ref b9L))) (c0k : K.lookup b9L = some ⟨.type "tuple", c6h, .seq #[Value.str ("fault" : Str) c51, Value.str ("great" : Str) c6o] c8n, c5s⟩)
 {t_UP : Tok} (i_UP : PySem.W.nsIn K mainGlobals "UP" = some (some (.str ("up" : Str) t_UP)))
 {a9T : Addr} {c1d b9n b72 c0l c0g : Value} {b2D : Value} {c1p c0D : Option Addr} {c0b : Array (Option Value)} (a9Z : PySem.W.nsIn K mainGlobals "is_whole" = some (some (.ref a9T)))
 (a9B : K.lookup a9T = some ⟨c1d, c1p, .func (PySem.W.fnOf "is_whole" "is_whole" (a0n a5k) (a0j a5k) (a0b a5k) .none b9n b72 c0l c0D b2D c0g), c0b⟩)
 (a9l : PySem.W.codeIn K b2D "is_whole" = true) (a5j : PySem.W.keepIn K (.ref a9T) = true)
 {a8f : Addr} {b7I b9b b40 b8r b89 : Value} {a96 : Value} {b63 b8a : Option Addr} {b7A : Array (Option Value)} (a7U : PySem.W.nsIn K mainGlobals "is_number" = some (some (.ref a8f)))
 (a8r : K.lookup a8f = some ⟨b7I, b63, .func (PySem.W.fnOf "is_number" "is_number" (a0n a3N) (a0j a3N) (a0b a3N) .none b9b b40 b8r b8a a96 b89), b7A⟩)
 (a8n : PySem.W.codeIn K a96 "is_number" = true) (a2b : PySem.W.keepIn K (.ref a8f) = true)
 {b17 : Addr} {c3e c2P b9v c2v c2o : Value} {b4g : Value} {c2j c2p : Option Addr} {c2E : Array (Option Value)} (b2d : PySem.W.nsIn K mainGlobals "is_name" = some (some (.ref b17)))
 (b1C : K.lookup b17 = some ⟨c3e, c2j, .func (PySem.W.fnOf "is_name" "is_name" (a0n a7b) (a0j a7b) (a0b a7b) .none c2P b9v c2v c2p b4g c2o), c2E⟩)
 (b1y : PySem.W.codeIn K b4g "is_name" = true) (a1X : PySem.W.keepIn K (.ref b17) = true)
 {a9y : Addr} {c0y c0i b7O c0Y b9Z : Value} {b1A : Value} {c0E c07 : Option Addr} {c0m : Array (Option Value)} (a9F : PySem.W.nsIn K mainGlobals "is_fault" = some (some (.ref a9y)))
 (a9J : K.lookup a9y = some ⟨c0y, c0E, .func (PySem.W.fnOf "is_fault" "is_fault" (a0n a5m) (a0j a5m) (a0b a5m) .none c0i b7O c0Y c07 b1A b9Z), c0m⟩)
 (a9X : PySem.W.codeIn K b1A "is_fault" = true) (a1x : PySem.W.keepIn K (.ref a9y) = true)
 {a9g : Addr} {b9Q c1o b6U c0I b9I : Value} {b2k : Value} {b9P b9i : Option Addr} {c0V : Array (Option Value)} (a9r : PySem.W.nsIn K mainGlobals "is_value" = some (some (.ref a9g)))
 (a9N : K.lookup a9g = some ⟨b9Q, b9P, .func (PySem.W.fnOf "is_value" "is_value" (a0n a5f) (a0j a5f) (a0b a5f) .none c1o b6U c0I b9i b2k b9I), c0V⟩)
 (a9u : PySem.W.codeIn K b2k "is_value" = true) (a5r : PySem.W.keepIn K (.ref a9g) = true)
 {b2L : Addr} {c2m c2u b9N c2D c2S : Value} {b4i : Value} {c2x c2t : Option Addr} {c3l : Array (Option Value)} (b1a : PySem.W.nsIn K mainGlobals "settled" = some (some (.ref b2L)))
 (b1P : K.lookup b2L = some ⟨c2m, c2x, .func (PySem.W.fnOf "settled" "settled" (a0n a7i) (a0j a7i) (a0b a7i) .none c2u b9N c2D c2t b4i c2S), c3l⟩)
 (b2W : PySem.W.codeIn K b4i "settled" = true) (a5l : PySem.W.keepIn K (.ref b2L) = true)
 {a6S : Addr} {b5J b48 b23 b47 b4X : Value} {a8L : Value} {b5w b5O : Option Addr} {b5h : Array (Option Value)} (a6X : PySem.W.nsIn K mainGlobals "check_name" = some (some (.ref a6S)))
 (a7o : K.lookup a6S = some ⟨b5J, b5w, .func (PySem.W.fnOf "check_name" "check_name" (a0n a20) (a0j a20) (a0b a20) .none b48 b23 b47 b5O a8L b4X), b5h⟩)
 (a6k : PySem.W.codeIn K a8L "check_name" = true) (a1n : PySem.W.keepIn K (.ref a6S) = true)
 {a4h : Addr} {b0X b0Q a9A b0o b0N : Value} {a6b : Value} {b0y b0z : Option Addr} {b0R : Array (Option Value)} (a32 : PySem.W.nsIn K mainGlobals "checked_names" = some (some (.ref a4h)))
 (a30 : K.lookup a4h = some ⟨b0X, b0y, .func (PySem.W.fnOf "checked_names" "checked_names" (a0n a1K) (a0j a1K) (a0b a1K) .none b0Q a9A b0o b0z a6b b0N), b0R⟩)
 (a39 : PySem.W.codeIn K a6b "checked_names" = true) (a02 : PySem.W.keepIn K (.ref a4h) = true)
 {a7W : Addr} {b7U b8w b5y b7l b7v : Value} {b0j : Value} {b7Z b7E : Option Addr} {b7T : Array (Option Value)} (a74 : PySem.W.nsIn K mainGlobals "each_once" = some (some (.ref a7W)))
 (a8E : K.lookup a7W = some ⟨b7U, b7Z, .func (PySem.W.fnOf "each_once" "each_once" (a0n a4k) (a0j a4k) (a0b a4k) .none b8w b5y b7l b7E b0j b7v), b7T⟩)
 (a8z : PySem.W.codeIn K b0j "each_once" = true) (a59 : PySem.W.keepIn K (.ref a7W) = true)
 {a4N : Addr} {b1U b12 b0E b18 b1F : Value} {a6y : Value} {b1c b2p : Option Addr} {b16 : Array (Option Value)} (a4P : PySem.W.nsIn K mainGlobals "look_in_turn" = some (some (.ref a4N)))
 (a5b : K.lookup a4N = some ⟨b1U, b1c, .func (PySem.W.fnOf "look_in_turn" "look_in_turn" (a0n a1W) (a0j a1W) (a0b a1W) .none b12 b0E b18 b2p a6y b1F), b16⟩)
 (a4X : PySem.W.codeIn K a6y "look_in_turn" = true) (a1i : PySem.W.keepIn K (.ref a4N) = true)
 {a36 : Addr} {b0n b0S a9w b0D b0r : Value} {a6c : Value} {b0F b0t : Option Addr} {b0s : Array (Option Value)} (a3K : PySem.W.nsIn K mainGlobals "writes_number" = some (some (.ref a36)))
 (a34 : K.lookup a36 = some ⟨b0n, b0F, .func (PySem.W.fnOf "writes_number" "writes_number" (a0n a04) (a0j a04) (a0b a04) .none b0S a9w b0D b0t a6c b0r), b0s⟩)
 (a3V : PySem.W.codeIn K a6c "writes_number" = true) (a03 : PySem.W.keepIn K (.ref a36) = true)
 {a4M : Addr} {b11 b2Q b0w b2T b2O : Value} {a6F : Value} {b2h b2J : Option Addr} {b14 : Array (Option Value)} (a4V : PySem.W.nsIn K mainGlobals "is_reckoning" = some (some (.ref a4M)))
 (a46 : K.lookup a4M = some ⟨b11, b2h, .func (PySem.W.fnOf "is_reckoning" "is_reckoning" (a0n a13) (a0j a13) (a0b a13) .none b2Q b0w b2T b2J a6F b2O), b14⟩)
 (a49 : PySem.W.codeIn K a6F "is_reckoning" = true) (a15 : PySem.W.keepIn K (.ref a4M) = true)
 {a9I : Addr} {b9y c0h b7h b97 c04 : Value} {b2c : Value} {c0u b9u : Option Addr} {c0s : Array (Option Value)} (a9W : PySem.W.nsIn K mainGlobals "names_in" = some (some (.ref a9I)))
 (a9n : K.lookup a9I = some ⟨b9y, c0u, .func (PySem.W.fnOf "names_in" "names_in" (a0n a5n) (a0j a5n) (a0b a5n) .none c0h b7h b97 b9u b2c c04), c0s⟩)
 (a90 : PySem.W.codeIn K b2c "names_in" = true) (a5z : PySem.W.keepIn K (.ref a9I) = true)
 {b1S : Addr} {c2Q c23 b9l c2G c26 : Value} {b4t : Value} {c2T c2C : Option Addr} {c2Z : Array (Option Value)} (b2G : PySem.W.nsIn K mainGlobals "bounded" = some (some (.ref b1S)))
 (b1b : K.lookup b1S = some ⟨c2Q, c2T, .func (PySem.W.fnOf "bounded" "bounded" (a0n a7g) (a0j a7g) (a0b a7g) .none c23 b9l c2G c2C b4t c26), c2Z⟩)
 (b1e : PySem.W.codeIn K b4t "bounded" = true) (a5y : PySem.W.keepIn K (.ref b1S) = true)
 {a9M : Addr} {b9J b9D b8s c0K b9T : Value} {b2C : Value} {c0A c0w : Option Addr} {b90 : Array (Option Value)} (a9p : PySem.W.nsIn K mainGlobals "reckoned" = some (some (.ref a9M)))
 (a9j : K.lookup a9M = some ⟨b9J, c0A, .func (PySem.W.fnOf "reckoned" "reckoned" (a0n a5t) (a0j a5t) (a0b a5t) .none b9D b8s c0K c0w b2C b9T), b90⟩)
 (a9h : PySem.W.codeIn K b2C "reckoned" = true) (a5q : PySem.W.keepIn K (.ref a9M) = true)
 {b5f : Addr} {c4s c30 c2B c3T c35 : Value} {b77 : Value} {c3F c4O : Option Addr} {c45 : Array (Option Value)} (b5H : PySem.W.nsIn K mainGlobals "joined" = some (some (.ref b5f)))
 (b4P : K.lookup b5f = some ⟨c4s, c3F, .func (PySem.W.fnOf "joined" "joined" (a0n a8T) (a0j a8T) (a0b a8T) .none c30 c2B c3T c4O b77 c35), c45⟩)
 (b6E : PySem.W.codeIn K b77 "joined" = true) (a8N : PySem.W.keepIn K (.ref b5f) = true)
 {a7R : Addr} {b9c b8O b5s b7d b7C : Value} {b0i : Value} {b8H b75 : Option Addr} {b8W : Array (Option Value)} (a8u : PySem.W.nsIn K mainGlobals "number_of" = some (some (.ref a7R)))
 (a7P : K.lookup a7R = some ⟨b9c, b8H, .func (PySem.W.fnOf "number_of" "number_of" (a0n a4g) (a0j a4g) (a0b a4g) .none b8O b5s b7d b75 b0i b7C), b8W⟩)
 (a7Y : PySem.W.codeIn K b0i "number_of" = true) (a37 : PySem.W.keepIn K (.ref a7R) = true)
 {b05 : Addr} {c4n c4y c2N c4Q c32 : Value} {b7b : Value} {c4D c5o : Option Addr} {c4k : Array (Option Value)} (b09 : PySem.W.nsIn K mainGlobals "sum_of" = some (some (.ref b05)))
 (b6l : K.lookup b05 = some ⟨c4n, c4D, .func (PySem.W.fnOf "sum_of" "sum_of" (a0n a8M) (a0j a8M) (a0b a8M) .none c4y c2N c4Q c5o b7b c32), c4k⟩)
 (b46 : PySem.W.codeIn K b7b "sum_of" = true) (a83 : PySem.W.keepIn K (.ref b05) = true)
 {a8Z : Addr} {c2A c2s b9j c3g c2l : Value} {b4a : Value} {c2r c2H : Option Addr} {c3n : Array (Option Value)} (a8U : PySem.W.nsIn K mainGlobals "most_of" = some (some (.ref a8Z)))
 (b1H : K.lookup a8Z = some ⟨c2A, c2r, .func (PySem.W.fnOf "most_of" "most_of" (a0n a64) (a0j a64) (a0b a64) .none c2s b9j c3g c2H b4a c2l), c3n⟩)
 (b2M : PySem.W.codeIn K b4a "most_of" = true) (a6w : PySem.W.keepIn K (.ref a8Z) = true)
 {a7v : Addr} {c0H b9z b7s c0x b95 : Value} {b1p : Value} {c1c b91 : Option Addr} {b9R : Array (Option Value)} (a7t : PySem.W.nsIn K mainGlobals "least_of" = some (some (.ref a7v)))
 (a9G : K.lookup a7v = some ⟨c0H, c1c, .func (PySem.W.fnOf "least_of" "least_of" (a0n a5e) (a0j a5e) (a0b a5e) .none b9z b7s c0x b91 b1p b95), b9R⟩)
 (a9k : PySem.W.codeIn K b1p "least_of" = true) (a5p : PySem.W.keepIn K (.ref a7v) = true)
 {a7r : Addr} {c1g c01 b73 c0T c1v : Value} {b13 : Value} {c0N b93 : Option Addr} {b9h : Array (Option Value)} (a7w : PySem.W.nsIn K mainGlobals "how_many" = some (some (.ref a7r)))
 (a9P : K.lookup a7r = some ⟨c1g, c0N, .func (PySem.W.fnOf "how_many" "how_many" (a0n a5o) (a0j a5o) (a0b a5o) .none c01 b73 c0T b93 b13 c1v), b9h⟩)
 (a9i : PySem.W.codeIn K b13 "how_many" = true) (a5v : PySem.W.keepIn K (.ref a7r) = true)
 {a3X : Addr} {b0W b0V a9U b0C b0v : Value} {a6d : Value} {b0A b0K : Option Addr} {b0H : Array (Option Value)} (a3F : PySem.W.nsIn K mainGlobals "refuse_unless" = some (some (.ref a3X)))
 (a3U : K.lookup a3X = some ⟨b0W, b0A, .func (PySem.W.fnOf "refuse_unless" "refuse_unless" (a0n a1D) (a0j a1D) (a0b a1D) .none b0V a9U b0C b0K a6d b0v), b0H⟩)
 (a35 : PySem.W.codeIn K a6d "refuse_unless" = true) (a0D : PySem.W.keepIn K (.ref a3X) = true)
 {a5D : Addr} {b30 b3i b2r b3N b3w : Value} {a7G : Value} {b3H b3A : Option Addr} {b3y : Array (Option Value)} (a5C : PySem.W.nsIn K mainGlobals "check_names" = some (some (.ref a5D)))
 (a5H : K.lookup a5D = some ⟨b30, b3H, .func (PySem.W.fnOf "check_names" "check_names" (a0n a2q) (a0j a2q) (a0b a2q) .none b3i b2r b3N b3A a7G b3w), b3y⟩)
 (a5X : PySem.W.codeIn K a7G "check_names" = true) (a1t : PySem.W.keepIn K (.ref a5D) = true)
 {a66 : Addr} {b5a b4Z b3T b58 b57 : Value} {a9e : Value} {b6G b4A : Option Addr} {b51 : Array (Option Value)} (a63 : PySem.W.nsIn K mainGlobals "columns_in" = some (some (.ref a66)))
 (a6i : K.lookup a66 = some ⟨b5a, b6G, .func (PySem.W.fnOf "columns_in" "columns_in" (a0n a1o) (a0j a1o) (a0b a1o) .none b4Z b3T b58 b4A a9e b57), b51⟩)
 (a7n : PySem.W.codeIn K a9e "columns_in" = true) (a2k : PySem.W.keepIn K (.ref a66) = true)
 {a51 : Addr} {b3P b3r b2i b3h b3V : Value} {a45 : Addr} {b3m b3U : Option Addr} {b35 : Array (Option Value)} (a3o : PySem.W.nsIn K mainGlobals "function_of" = some (some (.ref a51)))
 (a3x : K.lookup a51 = some ⟨b3P, b3m, .func (PySem.W.fnOf "function_of" "function_of" (a0n a0C) (a0j a0C) (a0b a0C) .none b3r b2i b3h b3U (.ref a45) b3V), b35⟩)
 (a3w : PySem.W.codeIn K (.ref a45) "function_of" = true) (a1r : PySem.W.keepIn K (.ref a51) = true)
 {b3l : Value} {b3t : Option Addr} {a7E : Array Value} {b3F : Array (Option Value)} {a3m : Addr} (a5V : K.lookup a45 = some ⟨b3l, b3t, .fields a7E, b3F⟩) (a5A : a7E[11]? = some (.ref a3m))
 {a4t : Addr} {b50 b6u b3q b5G b5R : Value} {a8H : Value} {b43 b4N : Option Addr} {b6j : Array (Option Value)} (a4p : PySem.W.nsIn K mainGlobals "read_cells" = some (some (.ref a4t)))
 (a7p : K.lookup a4t = some ⟨b50, b43, .func (PySem.W.fnOf "read_cells" "read_cells" (a0n a2W) (a0j a2W) (a0b a2W) .none b6u b3q b5G b4N a8H b5R), b6j⟩)
 (a6u : PySem.W.codeIn K a8H "read_cells" = true) (a22 : PySem.W.keepIn K (.ref a4t) = true)
 {a4C : Addr} {b6r b4Y b3d b4B b5t : Value} {a8J : Value} {b6K b6x : Option Addr} {b4G : Array (Option Value)} (a4F : PySem.W.nsIn K mainGlobals "read_above" = some (some (.ref a4C)))
 (a7e : K.lookup a4C = some ⟨b6r, b6K, .func (PySem.W.fnOf "read_above" "read_above" (a0n a27) (a0j a27) (a0b a27) .none b4Y b3d b4B b6x a8J b5t), b4G⟩)
 (a7l : PySem.W.codeIn K a8J "read_above" = true) (a3b : PySem.W.keepIn K (.ref a4C) = true)
 {a4y : Addr} {b6p b5o b36 b5Y b5S : Value} {a9a : Value} {b5j b6e : Option Addr} {b6z : Array (Option Value)} (a4z : PySem.W.nsIn K mainGlobals "read_group" = some (some (.ref a4y)))
 (a6v : K.lookup a4y = some ⟨b6p, b5j, .func (PySem.W.fnOf "read_group" "read_group" (a0n a3a) (a0j a3a) (a0b a3a) .none b5o b36 b5Y b6e a9a b5S), b6z⟩)
 (a6l : PySem.W.codeIn K a9a "read_group" = true) (a24 : PySem.W.keepIn K (.ref a4y) = true)
 {a3v : Addr} {b3M b3a b2Y b3Z b3Y : Value} {a4Z : Addr} {b3G b25 : Option Addr} {b3W : Array (Option Value)} (a2y : PySem.W.nsIn K mainGlobals "read_lookup" = some (some (.ref a3v)))
 (a3s : K.lookup a3v = some ⟨b3M, b3G, .func (PySem.W.fnOf "read_lookup" "read_lookup" (a0n a0G) (a0j a0G) (a0b a0G) .none b3a b2Y b3Z b25 (.ref a4Z) b3Y), b3W⟩)
 (a3y : PySem.W.codeIn K (.ref a4Z) "read_lookup" = true) (a1O : PySem.W.keepIn K (.ref a3v) = true)
 {b3L : Value} {b3J : Option Addr} {a7D : Array Value} {b3u : Array (Option Value)} {a3C : Addr} (a58 : K.lookup a4Z = some ⟨b3L, b3J, .fields a7D, b3u⟩) (a5R : a7D[11]? = some (.ref a3C))
 {a5N : Addr} {b9a b7j b49 b7i b70 : Value} {a62 : Addr} {b79 b7P : Option Addr} {b8o : Array (Option Value)} (a3P : PySem.W.nsIn K mainGlobals "read_mend" = some (some (.ref a5N)))
 (a5B : K.lookup a5N = some ⟨b9a, b79, .func (PySem.W.fnOf "read_mend" "read_mend" (a0n a0P) (a0j a0P) (a0b a0P) .none b7j b49 b7i b7P (.ref a62) b70), b8o⟩)
 (a5M : PySem.W.codeIn K (.ref a62) "read_mend" = true) (a2L : PySem.W.keepIn K (.ref a5N) = true)
 {b8U : Value} {b8S : Option Addr} {b0b : Array Value} {b7t : Array (Option Value)} {a5P : Addr} (a7O : K.lookup a62 = some ⟨b8U, b8S, .fields b0b, b7t⟩) (a8m : b0b[11]? = some (.ref a5P))
 {a8c : Addr} {b67 b60 b5Q b71 b61 : Value} {b0c : Value} {b8n b7z : Option Addr} {b8k : Array (Option Value)} (a7Z : PySem.W.nsIn K mainGlobals "read_rule" = some (some (.ref a8c)))
 (a7V : K.lookup a8c = some ⟨b67, b8n, .func (PySem.W.fnOf "read_rule" "read_rule" (a0n a1N) (a0j a1N) (a0b a1N) .none b60 b5Q b71 b7z b0c b61), b8k⟩)
 (a8q : PySem.W.codeIn K b0c "read_rule" = true) (a5L : PySem.W.keepIn K (.ref a8c) = true)
 {a9V : Addr} {b98 c0j b8v c0F c0Z : Value} {b2U : Value} {b96 c03 : Option Addr} {b99 : Array (Option Value)} (a9f : PySem.W.nsIn K mainGlobals "_law_cell" = some (some (.ref a9V)))
 (a9o : K.lookup a9V = some ⟨b98, b96, .func (PySem.W.fnOf "_law_cell" "_law_cell" (a0n a5h) (a0j a5h) (a0b a5h) .none c0j b8v c0F c03 b2U c0Z), b99⟩)
 (a9D : PySem.W.codeIn K b2U "_law_cell" = true) (a3E : PySem.W.keepIn K (.ref a9V) = true)
 {a8h : Addr} {b84 b7N b6C b6Y b78 : Value} {a93 : Value} {b8N b8g : Option Addr} {b7p : Array (Option Value)} (a72 : PySem.W.nsIn K mainGlobals "_law_value" = some (some (.ref a8h)))
 (a7X : K.lookup a8h = some ⟨b84, b8N, .func (PySem.W.fnOf "_law_value" "_law_value" (a0n a3S) (a0j a3S) (a0b a3S) .none b7N b6C b6Y b8g a93 b78), b7p⟩)
 (a8e : PySem.W.codeIn K a93 "_law_value" = true) (a3T : PySem.W.keepIn K (.ref a8h) = true)
 {a6R : Addr} {b4D b5D b3S b6k b5l : Value} {a8V : Value} {b5A b5W : Option Addr} {b6y : Array (Option Value)} (a6O : PySem.W.nsIn K mainGlobals "_law_signed" = some (some (.ref a6R)))
 (a6I : K.lookup a6R = some ⟨b4D, b5A, .func (PySem.W.fnOf "_law_signed" "_law_signed" (a0n a1F) (a0j a1F) (a0b a1F) .none b5D b3S b6k b5W a8V b5l), b6y⟩)
 (a65 : PySem.W.codeIn K a8V "_law_signed" = true) (a2h : PySem.W.keepIn K (.ref a6R) = true)
 {a8i : Addr} {b6W b7G b6c b7y b7F : Value} {a97 : Value} {b6V b7M : Option Addr} {b9f : Array (Option Value)} (a7N : PySem.W.nsIn K mainGlobals "_law_three" = some (some (.ref a8i)))
 (a7T : K.lookup a8i = some ⟨b6W, b6V, .func (PySem.W.fnOf "_law_three" "_law_three" (a0n a3O) (a0j a3O) (a0b a3O) .none b7G b6c b7y b7M a97 b7F), b9f⟩)
 (a7S : PySem.W.codeIn K a97 "_law_three" = true) (a4j : PySem.W.keepIn K (.ref a8i) = true)
 {a8A : Addr} {b7e b7V b6b b8x b88 : Value} {b0e : Value} {b7J b68 : Option Addr} {b7c : Array (Option Value)} (a77 : PySem.W.nsIn K mainGlobals "_law_above" = some (some (.ref a8A)))
 (a8o : K.lookup a8A = some ⟨b7e, b7J, .func (PySem.W.fnOf "_law_above" "_law_above" (a0n a2c) (a0j a2c) (a0b a2c) .none b7V b6b b8x b68 b0e b88), b7c⟩)
 (a8l : PySem.W.codeIn K b0e "_law_above" = true) (a4f : PySem.W.keepIn K (.ref a8A) = true)
 {a78 : Addr} {b8V b87 b5Z b8Z b9d : Value} {b0a : Value} {b8z b8C : Option Addr} {b7u : Array (Option Value)} (a8y : PySem.W.nsIn K mainGlobals "_law_group" = some (some (.ref a78)))
 (a8d : K.lookup a78 = some ⟨b8V, b8z, .func (PySem.W.fnOf "_law_group" "_law_group" (a0n a2d) (a0j a2d) (a0b a2d) .none b87 b5Z b8Z b8C b0a b9d), b7u⟩)
 (a7Q : PySem.W.codeIn K b0a "_law_group" = true) (a4a : PySem.W.keepIn K (.ref a78) = true)
 {a7k : Addr} {b5x b6f b3Q b6a b4S : Value} {a81 : Value} {b54 b4L : Option Addr} {b4u : Array (Option Value)} (a6E : PySem.W.nsIn K mainGlobals "_law_lookup" = some (some (.ref a7k)))
 (a6o : K.lookup a7k = some ⟨b5x, b54, .func (PySem.W.fnOf "_law_lookup" "_law_lookup" (a0n a2U) (a0j a2U) (a0b a2U) .none b6f b3Q b6a b4L a81 b4S), b4u⟩)
 (a6H : PySem.W.codeIn K a81 "_law_lookup" = true) (a29 : PySem.W.keepIn K (.ref a7k) = true)
 {b1u : Addr} {c3m c28 c0P c24 c3h : Value} {b4b : Value} {c25 c22 : Option Addr} {c29 : Array (Option Value)} (b2S : PySem.W.nsIn K mainGlobals "_law_due" = some (some (.ref b1u)))
 (b1s : K.lookup b1u = some ⟨c3m, c25, .func (PySem.W.fnOf "_law_due" "_law_due" (a0n a6Q) (a0j a6Q) (a0b a6Q) .none c28 c0P c24 c22 b4b c3h), c29⟩)
 (b2f : PySem.W.codeIn K b4b "_law_due" = true) (a6V : PySem.W.keepIn K (.ref b1u) = true)
 {a8x : Addr} {b65 b7a b6q b8q b82 : Value} {b0k : Value} {b7f b74 : Option Addr} {b7K : Array (Option Value)} (a71 : PySem.W.nsIn K mainGlobals "_law_drawn" = some (some (.ref a8x)))
 (a79 : K.lookup a8x = some ⟨b65, b7f, .func (PySem.W.fnOf "_law_drawn" "_law_drawn" (a0n a2f) (a0j a2f) (a0b a2f) .none b7a b6q b8q b74 b0k b82), b7K⟩)
 (a8k : PySem.W.codeIn K b0k "_law_drawn" = true) (a38 : PySem.W.keepIn K (.ref a8x) = true)
 {c7h : Addr} {c8E c9w c67 c8u c8Y : Value} {c4e : Addr} {c9b c9l : Option Addr} {c8V : Array (Option Value)} (c5v : PySem.W.nsIn K mainGlobals "law" = some (some (.ref c7h)))
 (c6x : K.lookup c7h = some ⟨c8E, c9b, .func (PySem.W.fnOf "law" "law" (a0n a3q) (a0j a3q) (a0b a3q) .none c9w c67 c8u c9l (.ref c4e) c8Y), c8V⟩)
 (c6c : PySem.W.codeIn K (.ref c4e) "law" = true) (c6f : PySem.W.keepIn K (.ref c7h) = true)
 {c9g : Value} {c8z : Option Addr} {c6Z : Array Value} {c8R : Array (Option Value)} {c6t : Addr} (c7z : K.lookup c4e = some ⟨c9g, c8z, .fields c6Z, c8R⟩) (c7Z : c6Z[11]? = some (.ref c6t))
 (a0H : a3m ≠ a3C)
 (a0K : a3m ≠ a5P)
 (a1e : a3m ≠ c6t)
 (a0L : a3C ≠ a5P)
 (a08 : a3C ≠ c6t)
 (a1w : a5P ≠ c6t)
 (notabs : PySem.W.noTabs K = true)
 {a2a : Addr} {a92 : Array DictEntry} {b7r : Nat} (a8a : PySem.W.nsIn K mainGlobals "OF_GROUPS" = some (some (.ref a2a))) (a8B : K.lookup a2a = some ⟨.type "dict", none, .dict a92 b7r, #[]⟩) (a61 : PySem.W.KeysLit PP a92.toList) (a6K : (a2a == sysModules) = false)
 (a3e : PySem.W.nsIn K a2a "sum" = some (some (.ref b05)))
 (a2N : PySem.W.nsIn K a2a "most" = some (some (.ref a8Z)))
 (a2p : PySem.W.nsIn K a2a "least" = some (some (.ref a7v)))
 (a2K : PySem.W.nsIn K a2a "many" = some (some (.ref a7r)))
 {a7h : Addr} {c2c : Array DictEntry} {c5L : Nat} (c0a : PySem.W.nsIn K mainGlobals "KINDS" = some (some (.ref a7h))) (b9O : K.lookup a7h = some ⟨.type "dict", none, .dict c2c c5L, #[]⟩) (b6w : PySem.W.KeysLit PP c2c.toList) (b5M : (a7h == sysModules) = false)
 (a4H : PySem.W.nsIn K a7h "cells" = some (some (.ref a4t)))
 (a5a : PySem.W.nsIn K a7h "above" = some (some (.ref a4C)))
 (a4R : PySem.W.nsIn K a7h "group" = some (some (.ref a4y)))
 (a3W : PySem.W.nsIn K a7h "lookup" = some (some (.ref a3v)))
 (a5Q : PySem.W.nsIn K a7h "mend" = some (some (.ref a5N)))
 {a4c : Addr} (c4o : PySem.W.nsIn K mainGlobals "Rule" = some (some (.ref a4c)))
 (c00 : PySem.W.plainGet K a4c Str.empty = true) (b9s : PySem.W.hasDictIn K a4c = true) (c0R : PySem.W.plainOver K a4c = true) (c1u : PySem.W.findIn K (.ref a4c) "__setattr__" = some (some (.builtin "object.__setattr__"))) (b9p : PySem.W.makesIn K a4c = true) (b9H : PySem.W.keepIn K (.ref a4c) = true) (c0S : PySem.W.findIn K (.ref a4c) "__class__" = some (some (.builtin "object.__class__")))
 (a3c : PySem.W.findIn K (.ref a4c) "function" = some none)
 {a3M : Addr} {b8G b8h b4O b8B b0l b8j : Value} {b86 b7W : Option Addr} {b7H : Array (Option Value)} (a5J : PySem.W.findIn K (.ref a4c) "__init__" = some (some (.ref a3M))) (a70 : PySem.W.isFn K (.ref a3M) = true)
 (a75 : K.lookup a3M = some ⟨b8G, b86, .func (PySem.W.fnOf "__init__" "Rule.__init__" (a0n a3Q) (a0j a3Q) (a0b a3Q) .none b8h b4O b8B b7W b0l b8j), b7H⟩)
 (a8F : PySem.W.codeIn K b0l "Rule.__init__" = true) (a1p : PySem.W.keepIn K (.ref a3M) = true)
 (a6p : PySem.W.specialIn K (.ref a4c) "__getattribute__" = some (some (.builtin "type.__getattribute__"))) (a6T : PySem.W.readsIn K a4c (.type "type") = true) (a6C : PySem.W.findCls K (.ref a4c) (.type "type") "__init__" = some (.val (.ref a3M)))
 {a0V : Addr} {b27 b3p b2l b31 a7L b3I : Value} {b3s b29 : Option Addr} {b3n : Array (Option Value)} (a50 : PySem.W.findIn K (.ref a4c) "reckon" = some (some (.ref a0V))) (a1c : PySem.W.isFn K (.ref a0V) = true)
 (a1b : K.lookup a0V = some ⟨b27, b3s, .func (PySem.W.fnOf "reckon" "Rule.reckon" (a0n a0I) (a0j a0I) (a0b a0I) .none b3p b2l b31 b29 a7L b3I), b3n⟩)
 (a1g : PySem.W.codeIn K a7L "Rule.reckon" = true) (a09 : PySem.W.keepIn K (.ref a0V) = true)
 {a2w : Addr} (b9F : PySem.W.nsIn K mainGlobals "Cells" = some (some (.ref a2w)))
 (b5i : PySem.W.plainGet K a2w Str.empty = true) (b4C : PySem.W.hasDictIn K a2w = true) (b5d : PySem.W.plainOver K a2w = true) (b5z : PySem.W.findIn K (.ref a2w) "__setattr__" = some (some (.builtin "object.__setattr__"))) (b6H : PySem.W.makesIn K a2w = true) (b59 : PySem.W.keepIn K (.ref a2w) = true) (b6h : PySem.W.findIn K (.ref a2w) "__class__" = some (some (.builtin "object.__class__")))
 (a2M : PySem.W.findIn K (.ref a2w) "function" = some none)
 (a5d : PySem.W.findIn K (.ref a2w) "names" = some none)
 {a4q : Addr} {b5g b6F b3z b5m a8S b6d : Value} {b4J b4E : Option Addr} {b5F : Array (Option Value)} (a6B : PySem.W.findIn K (.ref a2w) "__init__" = some (some (.ref a4q))) (a6N : PySem.W.isFn K (.ref a4q) = true)
 (a6J : K.lookup a4q = some ⟨b5g, b4J, .func (PySem.W.fnOf "__init__" "Cells.__init__" (a0n a25) (a0j a25) (a0b a25) .none b6F b3z b5m b4E a8S b6d), b5F⟩)
 (a6q : PySem.W.codeIn K a8S "Cells.__init__" = true) (a2Z : PySem.W.keepIn K (.ref a4q) = true)
 {a2P : Addr} {b2B b1t b0u b1o a6x b2I : Value} {b2n b2o : Option Addr} {b1v : Array (Option Value)} (a4J : PySem.W.findIn K (.ref a2w) "gather" = some (some (.ref a2P))) (a40 : PySem.W.isFn K (.ref a2P) = true)
 (a43 : K.lookup a2P = some ⟨b2B, b2n, .func (PySem.W.fnOf "gather" "Cells.gather" (a0n a00) (a0j a00) (a0b a00) .none b1t b0u b1o b2o a6x b2I), b1v⟩)
 (a4K : PySem.W.codeIn K a6x "Cells.gather" = true) (a1Z : PySem.W.keepIn K (.ref a2P) = true)
 (a1S : PySem.W.findIn K (.ref a2w) "reckon" = some (some (.ref a0V)))
 {a18 : Addr} (b9q : PySem.W.nsIn K mainGlobals "Above" = some (some (.ref a18)))
 (b4K : PySem.W.plainGet K a18 Str.empty = true) (b55 : PySem.W.hasDictIn K a18 = true) (b6R : PySem.W.plainOver K a18 = true) (b6v : PySem.W.findIn K (.ref a18) "__setattr__" = some (some (.builtin "object.__setattr__"))) (b44 : PySem.W.makesIn K a18 = true) (b53 : PySem.W.keepIn K (.ref a18) = true) (b6t : PySem.W.findIn K (.ref a18) "__class__" = some (some (.builtin "object.__class__")))
 (a2G : PySem.W.findIn K (.ref a18) "function" = some none)
 (a41 : PySem.W.findIn K (.ref a18) "names" = some none)
 (a5c : PySem.W.findIn K (.ref a18) "first" = some none)
 {a4E : Addr} {b5v b4z b3D b6A a82 b4T : Value} {b4U b4R : Option Addr} {b5C : Array (Option Value)} (a6j : PySem.W.findIn K (.ref a18) "__init__" = some (some (.ref a4E))) (a6n : PySem.W.isFn K (.ref a4E) = true)
 (a68 : K.lookup a4E = some ⟨b5v, b4U, .func (PySem.W.fnOf "__init__" "Above.__init__" (a0n a21) (a0j a21) (a0b a21) .none b4z b3D b6A b4R a82 b4T), b5C⟩)
 (a6P : PySem.W.codeIn K a82 "Above.__init__" = true) (a28 : PySem.W.keepIn K (.ref a4E) = true)
 {a2R : Addr} {b1L b2a b0p b1V a69 b1h : Value} {b19 b2V : Option Addr} {b2y : Array (Option Value)} (a4Q : PySem.W.findIn K (.ref a18) "gather" = some (some (.ref a2R))) (a4T : PySem.W.isFn K (.ref a2R) = true)
 (a4G : K.lookup a2R = some ⟨b1L, b19, .func (PySem.W.fnOf "gather" "Above.gather" (a0n a0Z) (a0j a0Z) (a0b a0Z) .none b2a b0p b1V b2V a69 b1h), b2y⟩)
 (a44 : PySem.W.codeIn K a69 "Above.gather" = true) (a12 : PySem.W.keepIn K (.ref a2R) = true)
 (a1T : PySem.W.findIn K (.ref a18) "reckon" = some (some (.ref a0V)))
 {a19 : Addr} (b94 : PySem.W.nsIn K mainGlobals "Group" = some (some (.ref a19)))
 (b4Q : PySem.W.plainGet K a19 Str.empty = true) (b4W : PySem.W.hasDictIn K a19 = true) (b5I : PySem.W.plainOver K a19 = true) (b5E : PySem.W.findIn K (.ref a19) "__setattr__" = some (some (.builtin "object.__setattr__"))) (b6N : PySem.W.makesIn K a19 = true) (b5T : PySem.W.keepIn K (.ref a19) = true) (b6L : PySem.W.findIn K (.ref a19) "__class__" = some (some (.builtin "object.__class__")))
 (a2I : PySem.W.findIn K (.ref a19) "function" = some none)
 (a6G : PySem.W.findIn K (.ref a19) "key" = some none)
 (a5O : PySem.W.findIn K (.ref a19) "name" = some none)
 {a4D : Addr} {b5P b4M b3f b5N a8Q b6D : Value} {b4v b5U : Option Addr} {b4w : Array (Option Value)} (a6W : PySem.W.findIn K (.ref a19) "__init__" = some (some (.ref a4D))) (a6r : PySem.W.isFn K (.ref a4D) = true)
 (a6m : K.lookup a4D = some ⟨b5P, b4v, .func (PySem.W.fnOf "__init__" "Group.__init__" (a0n a2S) (a0j a2S) (a0b a2S) .none b4M b3f b5N b5U a8Q b6D), b4w⟩)
 (a6Y : PySem.W.codeIn K a8Q "Group.__init__" = true) (a23 : PySem.W.keepIn K (.ref a4D) = true)
 {a2Q : Addr} {b1R b1m b0B b1N a60 b1x : Value} {b1E b1Q : Option Addr} {b2X : Array (Option Value)} (a48 : PySem.W.findIn K (.ref a19) "gather" = some (some (.ref a2Q))) (a4W : PySem.W.isFn K (.ref a2Q) = true)
 (a4S : K.lookup a2Q = some ⟨b1R, b1E, .func (PySem.W.fnOf "gather" "Group.gather" (a0n a10) (a0j a10) (a0b a10) .none b1m b0B b1N b1Q a60 b1x), b2X⟩)
 (a4L : PySem.W.codeIn K a60 "Group.gather" = true) (a1V : PySem.W.keepIn K (.ref a2Q) = true)
 (a1P : PySem.W.findIn K (.ref a19) "reckon" = some (some (.ref a0V)))
 {a1a : Addr} (b5b : PySem.W.nsIn K mainGlobals "Lookup" = some (some (.ref a1a)))
 (b1B : PySem.W.plainGet K a1a Str.empty = true) (b1f : PySem.W.hasDictIn K a1a = true) (b1W : PySem.W.plainOver K a1a = true) (b1O : PySem.W.findIn K (.ref a1a) "__setattr__" = some (some (.builtin "object.__setattr__"))) (b1J : PySem.W.makesIn K a1a = true) (b1G : PySem.W.keepIn K (.ref a1a) = true) (b15 : PySem.W.findIn K (.ref a1a) "__class__" = some (some (.builtin "object.__class__")))
 (a2t : PySem.W.findIn K (.ref a1a) "function" = some none)
 (a5U : PySem.W.findIn K (.ref a1a) "key" = some none)
 (a33 : PySem.W.findIn K (.ref a1a) "other" = some none)
 (a3h : PySem.W.findIn K (.ref a1a) "theirs" = some none)
 (a3G : PySem.W.findIn K (.ref a1a) "names" = some none)
 {a3r : Addr} {b3O b3B b2A b22 a7H b33 : Value} {b3v b3K : Option Addr} {b3c : Array (Option Value)} (a5K : PySem.W.findIn K (.ref a1a) "__init__" = some (some (.ref a3r))) (a54 : PySem.W.isFn K (.ref a3r) = true)
 (a5G : K.lookup a3r = some ⟨b3O, b3v, .func (PySem.W.fnOf "__init__" "Lookup.__init__" (a0n a2u) (a0j a2u) (a0b a2u) .none b3B b2A b22 b3K a7H b33), b3c⟩)
 (a56 : PySem.W.codeIn K a7H "Lookup.__init__" = true) (a2x : PySem.W.keepIn K (.ref a3r) = true)
 {a2z : Addr} {b0P b0U a9E b0O a6g b0T : Value} {b0q b0Y : Option Addr} {b0L : Array (Option Value)} (a3Y : PySem.W.findIn K (.ref a1a) "gather" = some (some (.ref a2z))) (a3J : PySem.W.isFn K (.ref a2z) = true)
 (a3I : K.lookup a2z = some ⟨b0P, b0q, .func (PySem.W.fnOf "gather" "Lookup.gather" (a0n a0S) (a0j a0S) (a0b a0S) .none b0U a9E b0O b0Y a6g b0T), b0L⟩)
 (a4b : PySem.W.codeIn K a6g "Lookup.gather" = true) (a1J : PySem.W.keepIn K (.ref a2z) = true)
 (a1I : PySem.W.findIn K (.ref a1a) "reckon" = some (some (.ref a0V)))
 {a4A : Addr} (c4b : PySem.W.nsIn K mainGlobals "Mend" = some (some (.ref a4A)))
 (b9o : PySem.W.plainGet K a4A Str.empty = true) (c1i : PySem.W.hasDictIn K a4A = true) (b9C : PySem.W.plainOver K a4A = true) (b9W : PySem.W.findIn K (.ref a4A) "__setattr__" = some (some (.builtin "object.__setattr__"))) (c0L : PySem.W.makesIn K a4A = true) (c0e : PySem.W.keepIn K (.ref a4A) = true) (c1t : PySem.W.findIn K (.ref a4A) "__class__" = some (some (.builtin "object.__class__")))
 (a3i : PySem.W.findIn K (.ref a4A) "function" = some none)
 (a6L : PySem.W.findIn K (.ref a4A) "name" = some none)
 {a5W : Addr} {b8Y b8Q b6O b8l a99 b7Q : Value} {b8J b8d : Option Addr} {b8u : Array (Option Value)} (a8b : PySem.W.findIn K (.ref a4A) "__init__" = some (some (.ref a5W))) (a8C : PySem.W.isFn K (.ref a5W) = true)
 (a8t : K.lookup a5W = some ⟨b8Y, b8J, .func (PySem.W.fnOf "__init__" "Mend.__init__" (a0n a4i) (a0j a4i) (a0b a4i) .none b8Q b6O b8l b8d a99 b7Q), b8u⟩)
 (a73 : PySem.W.codeIn K a99 "Mend.__init__" = true) (a4d : PySem.W.keepIn K (.ref a5W) = true)
 {a3u : Addr} {b24 b20 b2v b3b a7J b3X : Value} {b3j b3g : Option Addr} {b3e : Array (Option Value)} (a5S : PySem.W.findIn K (.ref a4A) "gather" = some (some (.ref a3u))) (a52 : PySem.W.isFn K (.ref a3u) = true)
 (a57 : K.lookup a3u = some ⟨b24, b3j, .func (PySem.W.fnOf "gather" "Mend.gather" (a0n a2v) (a0j a2v) (a0b a2v) .none b20 b2v b3b b3g a7J b3X), b3e⟩)
 (a5F : PySem.W.codeIn K a7J "Mend.gather" = true) (a2r : PySem.W.keepIn K (.ref a3u) = true)
 (a2e : PySem.W.findIn K (.ref a4A) "reckon" = some (some (.ref a0V))) : Tops K mg /\ Dcs PP K mg := ⟨{
 len := PySem.W.mg_none_of X G c7j,
 isinstance := PySem.W.mg_none_of X G a6z,
 int := PySem.W.mg_none_of X G c7O,
 bool := PySem.W.mg_none_of X G c4x,
 str := PySem.W.mg_none_of X G c7U,
 all := PySem.W.mg_none_of X G c7d,
 range := PySem.W.mg_none_of X G c0z,
 abs := PySem.W.mg_none_of X G c7X,
 list := PySem.W.mg_none_of X G c5p,
 tuple := PySem.W.mg_none_of X G c0v,
 dict := PySem.W.mg_none_of X G c3H,
 max := PySem.W.mg_none_of X G c7L,
 min := PySem.W.mg_none_of X G c8l,
 sum := PySem.W.mg_none_of X G c7y,
 reversed := PySem.W.mg_none_of X G a9s,
 zip := PySem.W.mg_none_of X G c7t,
 ValueError := PySem.W.mg_none_of X G a7j,
 g_LETTERS := ⟨_, PySem.W.mg_of X G b1d⟩,
 g_MOST_LETTERS := ⟨_, PySem.W.mg_of X G a4I⟩,
 g_ODD := ⟨c7g, PySem.W.mg_of X G c7I, fun H => .inr ⟨_, _, _, c8f, rfl, rfl, sl (by simp), .cons ⟨_, rfl⟩ (.cons ⟨_, rfl⟩ (.nil))⟩⟩,
 g_MOST_NAMES := ⟨_, PySem.W.mg_of X G a6t⟩,
 g_LACKS := ⟨c0B, PySem.W.mg_of X G c1e, fun H => .inr ⟨_, _, _, c08, rfl, rfl, sl (by simp), .cons ⟨_, rfl⟩ (.cons ⟨_, rfl⟩ (.nil))⟩⟩,
 g_FIGURES := ⟨_, PySem.W.mg_of X G b2E⟩,
 g_MOST_FIGURES := ⟨_, PySem.W.mg_of X G a4Y⟩,
 g_MOST_WORDS := ⟨_, PySem.W.mg_of X G a7m⟩,
 g_SIGNS := ⟨b9S, PySem.W.mg_of X G c0J, fun H => .inr ⟨_, _, _, c0p, rfl, rfl, sl (by simp), .cons ⟨_, rfl⟩ (.cons ⟨_, rfl⟩ (.cons ⟨_, rfl⟩ (.cons ⟨_, rfl⟩ (.cons ⟨_, rfl⟩ (.cons ⟨_, rfl⟩ (.cons ⟨_, rfl⟩ (.nil)))))))⟩⟩,
 g_NOUGHT := ⟨b6s, PySem.W.mg_of X G b6B, fun H => .inr ⟨_, _, _, b5V, rfl, rfl, sl (by simp), .cons ⟨_, rfl⟩ (.cons ⟨_, rfl⟩ (.nil))⟩⟩,
 g_GREAT := ⟨b9L, PySem.W.mg_of X G b9M, fun H => .inr ⟨_, _, _, c0k, rfl, rfl, sl (by simp), .cons ⟨_, rfl⟩ (.cons ⟨_, rfl⟩ (.nil))⟩⟩,
 g_UP := ⟨_, PySem.W.mg_of X G i_UP⟩,
 d_is_whole := a0y X G a9Z a9B a9l a5j,
 d_is_number := a0y X G a7U a8r a8n a2b,
 d_is_name := a0y X G b2d b1C b1y a1X,
 d_is_fault := a0y X G a9F a9J a9X a1x,
 d_is_value := a0y X G a9r a9N a9u a5r,
 d_settled := a0y X G b1a b1P b2W a5l,
 d_check_name := a0y X G a6X a7o a6k a1n,
 d_checked_names := a0y X G a32 a30 a39 a02,
 d_each_once := a0y X G a74 a8E a8z a59,
 d_look_in_turn := a0y X G a4P a5b a4X a1i,
 d_writes_number := a0y X G a3K a34 a3V a03,
 d_is_reckoning := a0y X G a4V a46 a49 a15,
 d_names_in := a0y X G a9W a9n a90 a5z,
 d_bounded := a0y X G b2G b1b b1e a5y,
 d_reckoned := a0y X G a9p a9j a9h a5q,
 d_joined := a0y X G b5H b4P b6E a8N,
 d_number_of := a0y X G a8u a7P a7Y a37,
 d_sum_of := a0y X G b09 b6l b46 a83,
 d_most_of := a0y X G a8U b1H b2M a6w,
 d_least_of := a0y X G a7t a9G a9k a5p,
 d_how_many := a0y X G a7w a9P a9i a5v,
 d_refuse_unless := a0y X G a3F a3U a35 a0D,
 d_check_names := a0y X G a5C a5H a5X a1t,
 d_columns_in := a0y X G a63 a6i a7n a2k,
 d_function_of := a0y X G a3o a3x a3w a1r,
 d_read_cells := a0y X G a4p a7p a6u a22,
 d_read_above := a0y X G a4F a7e a7l a3b,
 d_read_group := a0y X G a4z a6v a6l a24,
 d_read_lookup := a0y X G a2y a3s a3y a1O,
 d_read_mend := a0y X G a3P a5B a5M a2L,
 d_read_rule := a0y X G a7Z a7V a8q a5L,
 d_law_cell := a0y X G a9f a9o a9D a3E,
 d_law_value := a0y X G a72 a7X a8e a3T,
 d_law_signed := a0y X G a6O a6I a65 a2h,
 d_law_three := a0y X G a7N a7T a7S a4j,
 d_law_above := a0y X G a77 a8o a8l a4f,
 d_law_group := a0y X G a8y a8d a7Q a4a,
 d_law_lookup := a0y X G a6E a6o a6H a29,
 d_law_due := a0y X G b2S b1s b2f a6V,
 d_law_drawn := a0y X G a71 a79 a8k a38,
 d_law := a0y X G c5v c6x c6c c6f,
 bs := ⟨_, _, _, _, b00 X G a3o a3x a3w a1r a5V a5A, b00 X G a2y a3s a3y a1O a58 a5R, b00 X G a3P a5B a5M a2L a7O a8m, b00 X G c5v c6x c6c c6f c7z c7Z, a0H, a0K, a1e, a0L, a08, a1w⟩,
 notabs := notabs,
 t_Rule := ⟨a4c, { c := PySem.W.mg_of X G c4o, cl := ⟨c00, b9s, c0R, c1u⟩, mks := b9p, kc := b9H, hc := c0S, n_function := a3c, m_init := a2Y a5J a70 a75 a8F a1p, v_init := ⟨a6p, _, _, a6T, a6C, a5J⟩, m_reckon := a2Y a50 a1c a1b a1g a09 }⟩,
 t_Cells := ⟨a2w, { c := PySem.W.mg_of X G b9F, cl := ⟨b5i, b4C, b5d, b5z⟩, mks := b6H, kc := b59, hc := b6h, n_function := a2M, n_names := a5d, m_init := a2Y a6B a6N a6J a6q a2Z, m_gather := a2Y a4J a40 a43 a4K a1Z, m_reckon := a2Y a1S a1c a1b a1g a09 }⟩,
 t_Above := ⟨a18, { c := PySem.W.mg_of X G b9q, cl := ⟨b4K, b55, b6R, b6v⟩, mks := b44, kc := b53, hc := b6t, n_function := a2G, n_names := a41, n_first := a5c, m_init := a2Y a6j a6n a68 a6P a28, m_gather := a2Y a4Q a4T a4G a44 a12, m_reckon := a2Y a1T a1c a1b a1g a09 }⟩,
 t_Group := ⟨a19, { c := PySem.W.mg_of X G b94, cl := ⟨b4Q, b4W, b5I, b5E⟩, mks := b6N, kc := b5T, hc := b6L, n_function := a2I, n_key := a6G, n_name := a5O, m_init := a2Y a6W a6r a6m a6Y a23, m_gather := a2Y a48 a4W a4S a4L a1V, m_reckon := a2Y a1P a1c a1b a1g a09 }⟩,
 t_Lookup := ⟨a1a, { c := PySem.W.mg_of X G b5b, cl := ⟨b1B, b1f, b1W, b1O⟩, mks := b1J, kc := b1G, hc := b15, n_function := a2t, n_key := a5U, n_other := a33, n_theirs := a3h, n_names := a3G, m_init := a2Y a5K a54 a5G a56 a2x, m_gather := a2Y a3Y a3J a3I a4b a1J, m_reckon := a2Y a1I a1c a1b a1g a09 }⟩,
 t_Mend := ⟨a4A, { c := PySem.W.mg_of X G c4b, cl := ⟨b9o, c1i, b9C, b9W⟩, mks := c0L, kc := c0e, hc := c1t, n_function := a3i, n_name := a6L, m_init := a2Y a8b a8C a8t a73 a4d, m_gather := a2Y a5S a52 a57 a5F a2r, m_reckon := a2Y a2e a1c a1b a1g a09 }⟩ }, { g_OF_GROUPS := ⟨_, PySem.W.mg_of X G a8a, ⟨⟨_, _, a8B, a61⟩, a6K⟩, ⟨_, PySem.W.mg_of X G b09, a3e⟩, ⟨_, PySem.W.mg_of X G a8U, a2N⟩, ⟨_, PySem.W.mg_of X G a7t, a2p⟩, ⟨_, PySem.W.mg_of X G a7w, a2K⟩⟩, g_KINDS := ⟨_, PySem.W.mg_of X G c0a, ⟨⟨_, _, b9O, b6w⟩, b5M⟩, ⟨_, PySem.W.mg_of X G a4p, a4H⟩, ⟨_, PySem.W.mg_of X G a4F, a5a⟩, ⟨_, PySem.W.mg_of X G a4z, a4R⟩, ⟨_, PySem.W.mg_of X G a2y, a3W⟩, ⟨_, PySem.W.mg_of X G a3P, a5Q⟩⟩ }⟩
theorem walk {l : PySem.W.OpenLaw} {q : Program} {loose : List Str} {XP : (Str -> Option Value) -> Heap -> Prop} {YP : World -> Heap -> Prop} {d : DefRec} {K : Params -> PySem.W.Frag} (hn : l.most = some 63) (hdf : d.params.defaults = []) (hdn : d.name = "law")
 (hY : ∀ (w : World) (h : Heap), YP w h -> (K w.params).In h)
 (recs : ((PyProof.Rows.recsOf q).find? (fun e => e.name == ("function_of" : Str))).isSome = true /\ ((PyProof.Rows.recsOf q).find? (fun e => e.name == ("read_lookup" : Str))).isSome = true /\ ((PyProof.Rows.recsOf q).find? (fun e => e.name == ("read_mend" : Str))).isSome = true /\ ((PyProof.Rows.recsOf q).find? (fun e => e.name == ("law" : Str))).isSome = true)
 (F : ∀ (w : World) (mg : Str -> Option Value) (h : Heap), (K w.params).In h -> h.Ns mainGlobals mg -> Tops (K w.params) mg /\ Dcs w.params (K w.params) mg) :
 PySem.W.WalkO q loose XP YP l.row.toRowW d [] (fun f vs => PySem.call f vs) :=
 L2.c50 (n := 63) (k := 14) (x := "_law_script") (CX := fun _ => CX0) (sp := fun w tabs => c86 (K w.params) tabs) hn (by decide) hdf ⟨rfl, by decide, by decide⟩ hY
  (fun w mg fa h KX G hmg => by
   obtain ⟨T, TD⟩ := F w mg h KX G
   obtain ⟨z_function_of, z_read_lookup, z_read_mend, z_law, B_function_of, B_read_lookup, B_read_mend, B_law, a0H, a0K, a1e, a0L, a08, a1w⟩ := T.bs
   obtain ⟨f, fd, F4, hm, hcd⟩ := B_law.ex
   rw [hdn] at hmg
   have e := hmg.symm.trans hm
   cases e
   obtain ⟨r_function_of, r_read_lookup, r_read_mend, r_law⟩ := recs
   refine ⟨T.notabs, [z_function_of, z_read_lookup, z_read_mend, z_law], fun z hz => ?_, fd, fun s u => ?_, fun base kb nb mk => ?_⟩
   ·simp only [List.mem_cons, List.not_mem_nil, or_false] at hz
    rcases hz with rfl | rfl | rfl | rfl
    ·exact ⟨⟨_, r_function_of, B_function_of.tab⟩⟩
    ·exact ⟨⟨_, r_read_lookup, B_read_lookup.tab⟩⟩
    ·exact ⟨⟨_, r_read_mend, B_read_mend.tab⟩⟩
    ·exact ⟨⟨_, r_law, B_law.tab⟩⟩
   ·obtain ⟨oc, od, kV, doc, pm, an, cdv, ct, osl, rfl, _⟩ := F4.ex
    exact .of_eq rfl
   ·exact c8S T TD B_function_of (mk _ (by simp)) B_read_lookup (mk _ (by simp)) B_read_mend (mk _ (by simp)) B_law (mk _ (by simp)) a0H a0K a1e a0L a08 a1w F4 hcd)
  (fun _ _ _ a ns hl hT hS => ⟨a, ns, rfl, hS, hl, hT, fun _ hT' => ⟨rfl, hT'⟩⟩) fun _ _ _ _ _ z => z
end My
namespace PySem.W.Fast
def tw11046099046929482331:=0
def tw2736558535571659022:=0
def tw8258343653889526427:=0
def tw7849714005312893726:=0
def tw17508174978767313517:=0
def tw7997679686621145946:=0
def tw11745084182884180646:=0
def tw13961684512761627117:=0
def tw977292883872419863:=0
def tw16833749042823458705:=0
def tw9754194266950974161:=0
def tw10059784119651512564:=0
def tw10402211299009085638:=0
def tw10835744965881730306:=0
def tw18097670667835607976:=0
def tw6695654981046052322:=0
def tw17591155186964675242:=0
def tw10446520365593872958:=0
def tw9452992737017319924:=0
def tw14936889021131068877:=0
def tw12333552815781685118:=0
def tw13895226667877590882:=0
def tw429461039183322089:=0
def tw5431736106910419083:=0
def tw16630526527572948467:=0
def tw9645430806095411116:=0
def tw4495392413501598846:=0
def tw9928399255726520133:=0
def tw9000996989759522:=0
def tw16721426316634986007:=0
def tw5780707773796656426:=0
def tw3871926396648554435:=0
def tw2877239315283072298:=0
def tw1786681022728067831:=0
def tw3085458169203782449:=0
def tw17077640871642942992:=0
def tw17445721040962122187:=0
def tw6924866429545780374:=0
def tw1186021527436276199:=0
def tw7734794290183504765:=0
def tw6790484369888149567:=0
def tw1530123408747858256:=0
def tw10426872758020193036:=0
def tw7989758151144039020:=0
def tw1671874139141261383:=0
def tw6297944771430938116:=0
def tw1782246813019875272:=0
def tw1042644812919974817:=0
def tw10342543136283920897:=0
def tw7947928248864722372:=0
def tw9481393651108893846:=0
def tw1125699012632891965:=0
def tw11674002849026869015:=0
def tw16377496268950018972:=0
def tw2337377967909495200:=0
def tw3170330968795979231:=0
def tw16094194689501878417:=0
def tw11328963080275483831:=0
def tw9862460794737980870:=0
def tw12788529050927840030:=0
def tw4075319219548036491:=0
def tw68044859444923261:=0
def tw15080877717510548970:=0
def tw14993283001053409752:=0
def tw7886093829208034450:=0
def tw9252456070404558321:=0
def tw14257201960147762225:=0
def tw6885166458321787788:=0
def tw478241386532181199:=0
def tw16704799790479190073:=0
def tw4076994659940720160:=0
def tw13923842203316746726:=0
def tw1952909102133007422:=0
def tw1281182982923367363:=0
def tw11413407689326680882:=0
def tw8535394546272850836:=0
def tw15264716661862745974:=0
def tw4053123912732167787:=0
def tw4816417236325720494:=0
def tw296801330264800017:=0
def tw3392672193574387523:=0
def tw17117984002891346158:=0
def tw18033159993112371251:=0
def tw3177611154633981236:=0
def tw13152028725640364718:=0
def tw6444757208667416940:=0
def tw16683052950031598023:=0
def tw4822940419148128991:=0
def tw17809565949492660390:=0
def tw2405292858236795939:=0
def tw4101651170817807991:=0
def tw672588205832078119:=0
def tw12893564707904514046:=0
def tw1817798236978466834:=0
def tw294644618743138637:=0
def tw2432790391896101886:=0
def tw4113019546348726902:=0
def tw1542703381490500357:=0
def tw9870345198792144537:=0
def tw9466087363932645807:=0
def tw15830061414539483322:=0
def tw7198716915733935914:=0
def tw15068844638955943571:=0
def tw5009874558206197593:=0
def tw2833615035979873974:=0
def tw11462849794604161509:=0
def tw2695899434006860807:=0
def tw9193635740851799558:=0
def tw236178236841842291:=0
def tw17916485384511243395:=0
def tw10748428849226923039:=0
def tw7871978082663066709:=0
def tw6951073566190759968:=0
def tw8872560630283457295:=0
def tw16544444009848377355:=0
def tw15616794388033917476:=0
def tw8835506040422279525:=0
def tw10469145211672350335:=0
def tw3660280182195983695:=0
def tw8150561522309837534:=0
def tw15806468834744581606:=0
def tw3246258329194255831:=0
def tw14070941754920714693:=0
def tw11628306351073397216:=0
def tw16695353326938441957:=0
def tw11800640479093383089:=0
def tw16712105171732209465:=0
def tw14246331284272777171:=0
def tw1861737630509879170:=0
def tw2649528413557463881:=0
def tw8524160732654374797:=0
def tw1635110172646598399:=0
def tw9025066532337281272:=0
def tw4069388581816093246:=0
def tw7873356009691330627:=0
def tw8221194860023810529:=0
def tw13471585365311781313:=0
def tw15799259080678007428:=0
def tw5781693538230466760:=0
def tw8234159714232135307:=0
def tw4368127279023276622:=0
def tw8878308680433700963:=0
def tw3641729309572242635:=0
def tw3305836900173586177:=0
def tw224145208713915636:=0
def tw5782863353945814341:=0
def tw4095117624620442132:=0
def tw10266763807838962882:=0
def tw4010500505281749689:=0
def tw17630245766289757986:=0
def tw1578852018559740480:=0
def tw4404766239692870222:=0
def tw2103054935886321962:=0
def tw6451604359964267049:=0
def tw10707230677469029974:=0
def tw1285915818895974534:=0
def tw14686846474735464275:=0
def tw15581157099355933841:=0
def tw11214100133211379430:=0
def tw1526438732308171890:=0
def tw11145062041323290915:=0
def tw6417197418559953588:=0
def tw4043160248710644096:=0
def tw12545922325176092393:=0
def tw16602480548335031184:=0
def tw3395149673437464512:=0
def tw5302055577624024749:=0
def tw848207769964857907:=0
def tw245150892656522241:=0
def tw3157319133353385034:=0
def tw4930706809604586992:=0
def tw15595345390101195466:=0
def tw13519224589325159556:=0
def tw7401415483812099094:=0
def tw1331493203804073487:=0
def tw1734314109276827922:=0
def tw9631620806802409142:=0
def tw3574330143988509133:=0
def tw17615393663488609855:=0
def tw12487585434148177304:=0
def tw8818703261647595027:=0
def tw16546784639913667080:=0
def tw15763540048031295339:=0
def tw17755901228179738080:=0
def tw8630358066500310923:=0
def tw15183686266595985895:=0
def tw13405830282710291095:=0
def tw972650363394621839:=0
def tw487825475431567312:=0
def tw5159859496603954793:=0
def tw10087725916023605276:=0
def tw18382307823123775475:=0
def tw10752331027507307373:=0
def tw15575166141955649567:=0
def tw13651367421920253519:=0
def tw2256153539475540139:=0
def tw13926041346571641237:=0
def tw7197010952538213136:=0
def tw6042842958070466018:=0
def tw12162260635149193555:=0
def tw17424958469107329999:=0
def tw13992854527639012503:=0
def tw13134399792875438363:=0
def tw116108470092778782:=0
def tw13040690578100223373:=0
def tw5874178685523129621:=0
def tw2116498172474158936:=0
def tw18009998744154073474:=0
def tw15115214465576583494:=0
def tw11438972045926246986:=0
def tw10284057487123111315:=0
def tw5485745807395290026:=0
def tw10060906732256458565:=0
def tw13445456813583932432:=0
def tw12071832064404795554:=0
def tw13064260037809581439:=0
def tw2343950992864815491:=0
def tw14055621858453042256:=0
def tw9608589877428024411:=0
def tw5206864234281295225:=0
def tw12066113140567746192:=0
def tw16362197534113701062:=0
def tw11632964566313053450:=0
def tw14739560836425923131:=0
def tw4892034709487825980:=0
def tw12598271012276000793:=0
def tw3345595237696227351:=0
def tw4517445843851000697:=0
def tw4341393269039986727:=0
def tw1852394314236383093:=0
def tw8509106761991382357:=0
def tw15634150884671689152:=0
def tw111548726888655079:=0
def tw5107836764509650216:=0
def tw17198361210300578988:=0
def tw9786149835989830848:=0
def tw16525067957012270648:=0
def tw8731866665212544760:=0
def tw11185097714379008703:=0
def tw3546896879179901183:=0
def tw3162950205996450643:=0
def tw1012755878928583024:=0
def tw14958878936207585315:=0
def tw179322351229612553:=0
def tw15918032790069521925:=0
def tw7209068302430959932:=0
def tw7789497954903068384:=0
def tw11960476475928109776:=0
def tw12936231910433549895:=0
def tw10769759537358147749:=0
def tw10508355341850662590:=0
def tw6400562052855493125:=0
def tw12534365609265057583:=0
def tw6459559910540619780:=0
def tw8933164945103125276:=0
def tw1072249120222699317:=0
def tw17046774870911526968:=0
def tw7317499878566455832:=0
def tw3758638857329175711:=0
def tw14928677795670782327:=0
def tw8443800348655711392:=0
def tw7325898343757356968:=0
def tw7402095764824984720:=0
def tw12841133483023666327:=0
def tw7444613218174258325:=0
def tw11761025856411050395:=0
def tw2077683488669911327:=0
def tw13242902632599932842:=0
def tw11333853594194392635:=0
def tw16514317324239867035:=0
def tw13448068660794538253:=0
def tw1909240494861867752:=0
def tw11166488545872961857:=0
def tw8461391416380573299:=0
def tw3951044211937619094:=0
def tw9579879134108510398:=0
def tw3611699909541396821:=0
def tw9012759042708062244:=0
def tw397779601117433147:=0
def tw14892485674106568382:=0
def tw5012327146458830581:=0
def tw8338713670015836486:=0
def tw11217063515538527077:=0
def tw14000446040627404865:=0
def tw3580219987351274276:=0
def tw14571314595262204084:=0
def tw15756182744638479308:=0
def tw10110265923814737587:=0
def tw17567163930210697205:=0
def tw15887038909491208503:=0
def tw11341071907390406182:=0
def tw9356927255597831474:=0
def tw12080417043402194660:=0
def tw3600778484488501431:=0
def tw16196118436764245553:=0
def tw6803597825079827060:=0
def tw16212102638546931518:=0
def tw6087868572498965828:=0
def tw8281869354971457516:=0
def tw3111298662189378595:=0
def tw15571250041755668012:=0
def tw6383095469611046797:=0
def tw16968201610386488786:=0
def tw9870893057117291126:=0
def tw12327441006223938170:=0
def tw2202410286554557114:=0
def tw5583635741293159123:=0
def tw4260312910413680368:=0
def tw3310089788242106552:=0
def tw9229780320140377320:=0
def tw18439379300276959406:=0
def tw4734805809070104394:=0
def tw10990278650231168662:=0
def tw14359391620282636979:=0
def tw6876532685920553123:=0
def tw7076206675742298758:=0
def tw14865293122705402185:=0
def tw18327880628765346746:=0
def tw15041044623198261981:=0
def tw13587893864610342081:=0
def tw15409933576842185644:=0
def tw7658029691846170257:=0
def tw1405355218477648751:=0
def tw5452778699500096262:=0
def tw3798704276597127372:=0
def tw8178623494516010002:=0
def tw3865003539242839876:=0
def tw5821559705330532894:=0
def tw5123476107658962000:=0
def tw17061378718841472971:=0
def tw17762045445488025158:=0
def tw9049160303735361329:=0
def tw14080280259891632177:=0
def tw6470854635714164175:=0
def tw6162935768346796393:=0
def tw4833578909453411777:=0
def tw1385162521299083957:=0
def tw6622069378925594540:=0
def tw3770534880801029464:=0
def tw15884235954870509779:=0
def tw8665573972142201371:=0
def tw15212317446731936815:=0
def tw14898186398918989610:=0
def tw4432138118294852705:=0
def tw8577577005465928201:=0
def tw2974836689962396596:=0
def tw16635366395332814738:=0
def tw1359024805194774736:=0
def tw1311540260209551203:=0
def tw2206805285910145330:=0
def tw5362962433368444957:=0
def tw8522850596008604411:=0
def tw7962160508693442973:=0
def tw17357866615091459436:=0
def tw2919845740422991155:=0
def tw9411921882489210488:=0
def tw8207002853414832106:=0
def tw17127811012639786674:=0
def tw5278905011333822798:=0
def tw1972090168919672217:=0
def tw8021862858418663303:=0
def tw1106514222023712125:=0
def tw6875989242021817808:=0
def tw7734545928836053700:=0
def tw4682873634224079966:=0
def tw1396814249503020441:=0
def tw12375093892810928228:=0
def tw4035124947046473613:=0
def tw16154693908764886171:=0
def tw10316371539142106545:=0
def tw12398073218059284889:=0
def tw13977217552841450523:=0
def tw15650704703559635923:=0
def tw2600338543644519500:=0
def tw9868276351566766834:=0
def tw6882819051486800643:=0
def tw5762109160498475030:=0
def tw6663052964878084854:=0
def tw13005658781208224949:=0
def tw6701312114880462549:=0
def tw15792415364873423010:=0
def tw13826111128765154506:=0
def tw13879536078636861526:=0
def tw2794042454376308247:=0
def tw18446689416064690843:=0
def tw14455833976703501920:=0
def tw8065866636103524404:=0
def tw18123811483033936650:=0
def tw4780697028374006911:=0
def tw14085785817414016741:=0
def tw8012089981776666247:=0
def tw10340324750026783700:=0
def tw7635824817390686973:=0
def tw7971153980001716443:=0
def tw1156436247752661769:=0
def tw9505068320144960679:=0
def tw16525965461717549766:=0
def tw11901177306724840212:=0
def tw13608338564392804202:=0
def tw2238728739735419146:=0
def tw6681507750977440761:=0
def tw6227024996644274181:=0
def tw1302791705398288957:=0
def tw9919690324045874133:=0
def tw17796230687650165271:=0
def tw3059384097975095634:=0
def tw16486036118413593792:=0
def tw9674842460815657647:=0
def tw10184776809881228885:=0
def tw10854748889489073783:=0
def tw18417301102734892108:=0
def tw18445623364930897740:=0
def tw7982038627510285060:=0
def tw14859587827998350188:=0
def tw13893809476060397628:=0
def tw14372833459733852744:=0
def tw8108089724306322334:=0
def tw8800826673702737857:=0
def tw7294838887794780861:=0
def tw3345897153621690142:=0
def tw9597200389401169473:=0
def tw10795639117994397625:=0
def tw12740051181416135107:=0
def tw16646145755979371694:=0
def tw15810845217461807098:=0
def tw8988168739387638723:=0
def tw1501475379164799524:=0
def tw17018952466459572224:=0
def tw14832662058009682106:=0
def tw5810897843192277607:=0
def tw12315101731301902735:=0
def tw5691837220508773598:=0
def tw14491356432486964592:=0
def tw2357632757777017512:=0
def tw3965177413036009709:=0
def tw14193033621878877568:=0
def tw14832777366350693421:=0
def tw5734393910983858301:=0
def tw17424922312996409404:=0
def tw3532188789248931390:=0
def tw16406400645285578734:=0
def tw8856545718874539247:=0
def tw16843883486305641409:=0
def tw5076279208640106940:=0
def tw6323968083717215540:=0
def tw18319632460605607608:=0
def tw16768730122960148625:=0
def tw10969883409544982170:=0
def tw6670047039127031579:=0
def tw14389387734368242772:=0
def tw3187884499051182397:=0
def tw9924430595940813007:=0
def tw18401766131369396575:=0
def tw9801270922342388032:=0
def tw15007376888699434391:=0
def tw727935251608595692:=0
def tw15942745324712148559:=0
def tw10852820978855279880:=0
def tw3035492675171648223:=0
def tw15903241379589214478:=0
def tw4269389104062916883:=0
def tw5827727573165172271:=0
def tw813610797307955198:=0
def tw14235087987565241438:=0
def tw4412775590972221357:=0
def tw8674760120193384469:=0
def tw6271956416982151221:=0
def tw14014453279433330085:=0
def tw12327245908558276454:=0
def tw14675757205376274616:=0
def tw7808679626713312815:=0
def tw148130753442137568:=0
def tw3709560019058223161:=0
def tw8881396114679645363:=0
def tw11396150521559533145:=0
def tw2904574769400064149:=0
def tw3451749817945453761:=0
def tw5484072910447494590:=0
def tw8060858249242274106:=0
def tw1821762157622910806:=0
def tw13590086336865890742:=0
def tw8634277921237609415:=0
def tw13386464861068537575:=0
def tw18152088441755808683:=0
def tw17817126677796263824:=0
def tw17100306361093334239:=0
def tw10496256318952643672:=0
def tw8009719832657218325:=0
def tw6457665308218420372:=0
def tw14287916554721461660:=0
def tw14533942356876399548:=0
def tw17381781536752192000:=0
def tw14874687730923260556:=0
def tw5857686298711134585:=0
def tw1704211959891729250:=0
def tw15270533940933587417:=0
def tw8963646026739908358:=0
def tw18160449587623064191:=0
def tw6206652355389380726:=0
def tw15896489397110836253:=0
def tw1813767047049622343:=0
def tw16577955055869761438:=0
def tw11174632895378309226:=0
def tw14966284996131757918:=0
def tw4481769283569744318:=0
def tw15998882338971835024:=0
def tw3920078359597811280:=0
def tw16942811781785838921:=0
def tw4132141835837204944:=0
def tw6161109654242286517:=0
def tw365156245325712918:=0
def tw18431716015231613994:=0
def tw5721152292251674440:=0
def tw12710717921428064310:=0
def tw8856624113775602986:=0
def tw5452119923443797853:=0
def tw11575032570579002678:=0
def tw17179291644759073849:=0
def tw15334019964455484454:=0
def tw13287923317263407864:=0
def tw4188059463991151836:=0
def tw9544523800163920827:=0
end PySem.W.Fast
open PySem PySem.W PyProof.Rows
set_option maxRecDepth 100000 in
set_option maxHeartbeats 0 in
theorem PySem.Challenge.cw_lazycols_k57_whole_rules_of_texts_holds : PySem.Challenge.rw_lazycols_k57_whole_rules_of_texts.Holds := by
 w_on; o_law; k_head; (case hw => w_witness2)
 k_fill
 refine My.walk (l := PySem.Challenge.rw_lazycols_k57_whole_rules_of_texts) rfl rfl rfl (fun w h Y => PySem.W.km_in_of Y) ?R ?F
 case R => first | exact rfl | decide +kernel
 case F =>
  intro w mg h KX G
  refine' My.c7H (PP := w.params) KX G ?c7j ?a6z ?c7O ?c4x ?c7U ?c7d ?c0z ?c7X ?c5p ?c0v ?c3H ?c7L ?c8l ?c7y ?a9s ?c7t ?a7j ?b1d ?a4I ?c7I ?c8f ?a6t ?c1e ?c08 ?b2E ?a4Y ?a7m ?c0J ?c0p ?b6B ?b5V ?b9M ?c0k ?i_UP ?a9Z ?a9B ?a9l ?a5j ?a7U ?a8r ?a8n ?a2b ?b2d ?b1C ?b1y ?a1X ?a9F ?a9J ?a9X ?a1x ?a9r ?a9N ?a9u ?a5r ?b1a ?b1P ?b2W ?a5l ?a6X ?a7o ?a6k ?a1n ?a32 ?a30 ?a39 ?a02 ?a74 ?a8E ?a8z ?a59 ?a4P ?a5b ?a4X ?a1i ?a3K ?a34 ?a3V ?a03 ?a4V ?a46 ?a49 ?a15 ?a9W ?a9n ?a90 ?a5z ?b2G ?b1b ?b1e ?a5y ?a9p ?a9j ?a9h ?a5q ?b5H ?b4P ?b6E ?a8N ?a8u ?a7P ?a7Y ?a37 ?b09 ?b6l ?b46 ?a83 ?a8U ?b1H ?b2M ?a6w ?a7t ?a9G ?a9k ?a5p ?a7w ?a9P ?a9i ?a5v ?a3F ?a3U ?a35 ?a0D ?a5C ?a5H ?a5X ?a1t ?a63 ?a6i ?a7n ?a2k ?a3o ?a3x ?a3w ?a1r ?a5V ?a5A ?a4p ?a7p ?a6u ?a22 ?a4F ?a7e ?a7l ?a3b ?a4z ?a6v ?a6l ?a24 ?a2y ?a3s ?a3y ?a1O ?a58 ?a5R ?a3P ?a5B ?a5M ?a2L ?a7O ?a8m ?a7Z ?a7V ?a8q ?a5L ?a9f ?a9o ?a9D ?a3E ?a72 ?a7X ?a8e ?a3T ?a6O ?a6I ?a65 ?a2h ?a7N ?a7T ?a7S ?a4j ?a77 ?a8o ?a8l ?a4f ?a8y ?a8d ?a7Q ?a4a ?a6E ?a6o ?a6H ?a29 ?b2S ?b1s ?b2f ?a6V ?a71 ?a79 ?a8k ?a38 ?c5v ?c6x ?c6c ?c6f ?c7z ?c7Z ?a0H ?a0K ?a1e ?a0L ?a08 ?a1w ?notabs ?a8a ?a8B ?a61 ?a6K ?a3e ?a2N ?a2p ?a2K ?c0a ?b9O ?b6w ?b5M ?a4H ?a5a ?a4R ?a3W ?a5Q ?c4o ?c00 ?b9s ?c0R ?c1u ?b9p ?b9H ?c0S ?a3c ?a5J ?a70 ?a75 ?a8F ?a1p ?a6p ?a6T ?a6C ?a50 ?a1c ?a1b ?a1g ?a09 ?b9F ?b5i ?b4C ?b5d ?b5z ?b6H ?b59 ?b6h ?a2M ?a5d ?a6B ?a6N ?a6J ?a6q ?a2Z ?a4J ?a40 ?a43 ?a4K ?a1Z ?a1S ?b9q ?b4K ?b55 ?b6R ?b6v ?b44 ?b53 ?b6t ?a2G ?a41 ?a5c ?a6j ?a6n ?a68 ?a6P ?a28 ?a4Q ?a4T ?a4G ?a44 ?a12 ?a1T ?b94 ?b4Q ?b4W ?b5I ?b5E ?b6N ?b5T ?b6L ?a2I ?a6G ?a5O ?a6W ?a6r ?a6m ?a6Y ?a23 ?a48 ?a4W ?a4S ?a4L ?a1V ?a1P ?b5b ?b1B ?b1f ?b1W ?b1O ?b1J ?b1G ?b15 ?a2t ?a5U ?a33 ?a3h ?a3G ?a5K ?a54 ?a5G ?a56 ?a2x ?a3Y ?a3J ?a3I ?a4b ?a1J ?a1I ?c4b ?b9o ?c1i ?b9C ?b9W ?c0L ?c0e ?c1t ?a3i ?a6L ?a8b ?a8C ?a8t ?a73 ?a4d ?a5S ?a52 ?a57 ?a5F ?a2r ?a2e
  (case c7j => k_is)
  (case a6z => k_is)
  (case c7O => k_is)
  (case c4x => k_is)
  (case c7U => k_is)
  (case c7d => k_is)
  (case c0z => k_is)
  (case c7X => k_is)
  (case c5p => k_is)
  (case c0v => k_is)
  (case c3H => k_is)
  (case c7L => k_is)
  (case c8l => k_is)
  (case c7y => k_is)
  (case a9s => k_is)
  (case c7t => k_is)
  (case a7j => k_is)
  (case b1d => k_is)
  (case a4I => k_is)
  (case c7I => k_is)
  (case c8f => k_is)
  (case a6t => k_is)
  (case c1e => k_is)
  (case c08 => k_is)
  (case b2E => k_is)
  (case a4Y => k_is)
  (case a7m => k_is)
  (case c0J => k_is)
  (case c0p => k_is)
  (case b6B => k_is)
  (case b5V => k_is)
  (case b9M => k_is)
  (case c0k => k_is)
  (case i_UP => k_is)
  (case a9Z => k_is)
  (case a9B => k_is)
  (case a9l => k_is)
  (case a5j => k_is)
  (case a7U => k_is)
  (case a8r => k_is)
  (case a8n => k_is)
  (case a2b => k_is)
  (case b2d => k_is)
  (case b1C => k_is)
  (case b1y => k_is)
  (case a1X => k_is)
  (case a9F => k_is)
  (case a9J => k_is)
  (case a9X => k_is)
  (case a1x => k_is)
  (case a9r => k_is)
  (case a9N => k_is)
  (case a9u => k_is)
  (case a5r => k_is)
  (case b1a => k_is)
  (case b1P => k_is)
  (case b2W => k_is)
  (case a5l => k_is)
  (case a6X => k_is)
  (case a7o => k_is)
  (case a6k => k_is)
  (case a1n => k_is)
  (case a32 => k_is)
  (case a30 => k_is)
  (case a39 => k_is)
  (case a02 => k_is)
  (case a74 => k_is)
  (case a8E => k_is)
  (case a8z => k_is)
  (case a59 => k_is)
  (case a4P => k_is)
  (case a5b => k_is)
  (case a4X => k_is)
  (case a1i => k_is)
  (case a3K => k_is)
  (case a34 => k_is)
  (case a3V => k_is)
  (case a03 => k_is)
  (case a4V => k_is)
  (case a46 => k_is)
  (case a49 => k_is)
  (case a15 => k_is)
  (case a9W => k_is)
  (case a9n => k_is)
  (case a90 => k_is)
  (case a5z => k_is)
  (case b2G => k_is)
  (case b1b => k_is)
  (case b1e => k_is)
  (case a5y => k_is)
  (case a9p => k_is)
  (case a9j => k_is)
  (case a9h => k_is)
  (case a5q => k_is)
  (case b5H => k_is)
  (case b4P => k_is)
  (case b6E => k_is)
  (case a8N => k_is)
  (case a8u => k_is)
  (case a7P => k_is)
  (case a7Y => k_is)
  (case a37 => k_is)
  (case b09 => k_is)
  (case b6l => k_is)
  (case b46 => k_is)
  (case a83 => k_is)
  (case a8U => k_is)
  (case b1H => k_is)
  (case b2M => k_is)
  (case a6w => k_is)
  (case a7t => k_is)
  (case a9G => k_is)
  (case a9k => k_is)
  (case a5p => k_is)
  (case a7w => k_is)
  (case a9P => k_is)
  (case a9i => k_is)
  (case a5v => k_is)
  (case a3F => k_is)
  (case a3U => k_is)
  (case a35 => k_is)
  (case a0D => k_is)
  (case a5C => k_is)
  (case a5H => k_is)
  (case a5X => k_is)
  (case a1t => k_is)
  (case a63 => k_is)
  (case a6i => k_is)
  (case a7n => k_is)
  (case a2k => k_is)
  (case a3o => k_is)
  (case a3x => k_is)
  (case a3w => k_is)
  (case a1r => k_is)
  (case a5V => k_is)
  (case a5A => exact rfl)
  (case a4p => k_is)
  (case a7p => k_is)
  (case a6u => k_is)
  (case a22 => k_is)
  (case a4F => k_is)
  (case a7e => k_is)
  (case a7l => k_is)
  (case a3b => k_is)
  (case a4z => k_is)
  (case a6v => k_is)
  (case a6l => k_is)
  (case a24 => k_is)
  (case a2y => k_is)
  (case a3s => k_is)
  (case a3y => k_is)
  (case a1O => k_is)
  (case a58 => k_is)
  (case a5R => exact rfl)
  (case a3P => k_is)
  (case a5B => k_is)
  (case a5M => k_is)
  (case a2L => k_is)
  (case a7O => k_is)
  (case a8m => exact rfl)
  (case a7Z => k_is)
  (case a7V => k_is)
  (case a8q => k_is)
  (case a5L => k_is)
  (case a9f => k_is)
  (case a9o => k_is)
  (case a9D => k_is)
  (case a3E => k_is)
  (case a72 => k_is)
  (case a7X => k_is)
  (case a8e => k_is)
  (case a3T => k_is)
  (case a6O => k_is)
  (case a6I => k_is)
  (case a65 => k_is)
  (case a2h => k_is)
  (case a7N => k_is)
  (case a7T => k_is)
  (case a7S => k_is)
  (case a4j => k_is)
  (case a77 => k_is)
  (case a8o => k_is)
  (case a8l => k_is)
  (case a4f => k_is)
  (case a8y => k_is)
  (case a8d => k_is)
  (case a7Q => k_is)
  (case a4a => k_is)
  (case a6E => k_is)
  (case a6o => k_is)
  (case a6H => k_is)
  (case a29 => k_is)
  (case b2S => k_is)
  (case b1s => k_is)
  (case b2f => k_is)
  (case a6V => k_is)
  (case a71 => k_is)
  (case a79 => k_is)
  (case a8k => k_is)
  (case a38 => k_is)
  (case c5v => k_is)
  (case c6x => k_is)
  (case c6c => k_is)
  (case c6f => k_is)
  (case c7z => k_is)
  (case c7Z => exact rfl)
  (case a0H => decide)
  (case a0K => decide)
  (case a1e => decide)
  (case a0L => decide)
  (case a08 => decide)
  (case a1w => decide)
  (case notabs => kernel_rfl)
  (case a8a => k_is)
  (case a8B => k_is)
  (case a61 => k_keys)
  (case a6K => decide)
  (case a3e => k_is)
  (case a2N => k_is)
  (case a2p => k_is)
  (case a2K => k_is)
  (case c0a => k_is)
  (case b9O => k_is)
  (case b6w => k_keys)
  (case b5M => decide)
  (case a4H => k_is)
  (case a5a => k_is)
  (case a4R => k_is)
  (case a3W => k_is)
  (case a5Q => k_is)
  (case c4o => k_is)
  (case c00 => k_is)
  (case b9s => k_is)
  (case c0R => k_is)
  (case c1u => k_is)
  (case b9p => k_is)
  (case b9H => k_is)
  (case c0S => k_is)
  (case a3c => k_is)
  (case a5J => k_is)
  (case a70 => k_is)
  (case a75 => k_is)
  (case a8F => k_is)
  (case a1p => k_is)
  (case a6p => k_is)
  (case a6T => k_is)
  (case a6C => k_is)
  (case a50 => k_is)
  (case a1c => k_is)
  (case a1b => k_is)
  (case a1g => k_is)
  (case a09 => k_is)
  (case b9F => k_is)
  (case b5i => k_is)
  (case b4C => k_is)
  (case b5d => k_is)
  (case b5z => k_is)
  (case b6H => k_is)
  (case b59 => k_is)
  (case b6h => k_is)
  (case a2M => k_is)
  (case a5d => k_is)
  (case a6B => k_is)
  (case a6N => k_is)
  (case a6J => k_is)
  (case a6q => k_is)
  (case a2Z => k_is)
  (case a4J => k_is)
  (case a40 => k_is)
  (case a43 => k_is)
  (case a4K => k_is)
  (case a1Z => k_is)
  (case a1S => k_is)
  (case b9q => k_is)
  (case b4K => k_is)
  (case b55 => k_is)
  (case b6R => k_is)
  (case b6v => k_is)
  (case b44 => k_is)
  (case b53 => k_is)
  (case b6t => k_is)
  (case a2G => k_is)
  (case a41 => k_is)
  (case a5c => k_is)
  (case a6j => k_is)
  (case a6n => k_is)
  (case a68 => k_is)
  (case a6P => k_is)
  (case a28 => k_is)
  (case a4Q => k_is)
  (case a4T => k_is)
  (case a4G => k_is)
  (case a44 => k_is)
  (case a12 => k_is)
  (case a1T => k_is)
  (case b94 => k_is)
  (case b4Q => k_is)
  (case b4W => k_is)
  (case b5I => k_is)
  (case b5E => k_is)
  (case b6N => k_is)
  (case b5T => k_is)
  (case b6L => k_is)
  (case a2I => k_is)
  (case a6G => k_is)
  (case a5O => k_is)
  (case a6W => k_is)
  (case a6r => k_is)
  (case a6m => k_is)
  (case a6Y => k_is)
  (case a23 => k_is)
  (case a48 => k_is)
  (case a4W => k_is)
  (case a4S => k_is)
  (case a4L => k_is)
  (case a1V => k_is)
  (case a1P => k_is)
  (case b5b => k_is)
  (case b1B => k_is)
  (case b1f => k_is)
  (case b1W => k_is)
  (case b1O => k_is)
  (case b1J => k_is)
  (case b1G => k_is)
  (case b15 => k_is)
  (case a2t => k_is)
  (case a5U => k_is)
  (case a33 => k_is)
  (case a3h => k_is)
  (case a3G => k_is)
  (case a5K => k_is)
  (case a54 => k_is)
  (case a5G => k_is)
  (case a56 => k_is)
  (case a2x => k_is)
  (case a3Y => k_is)
  (case a3J => k_is)
  (case a3I => k_is)
  (case a4b => k_is)
  (case a1J => k_is)
  (case a1I => k_is)
  (case c4b => k_is)
  (case b9o => k_is)
  (case c1i => k_is)
  (case b9C => k_is)
  (case b9W => k_is)
  (case c0L => k_is)
  (case c0e => k_is)
  (case c1t => k_is)
  (case a3i => k_is)
  (case a6L => k_is)
  (case a8b => k_is)
  (case a8C => k_is)
  (case a8t => k_is)
  (case a73 => k_is)
  (case a4d => k_is)
  (case a5S => k_is)
  (case a52 => k_is)
  (case a57 => k_is)
  (case a5F => k_is)
  (case a2r => k_is)
  (case a2e => k_is)