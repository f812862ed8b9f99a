import PyProof.Rows.All
import Wide.All
import OpenK.AllK
import Wide.FinOn
import PyProof.EqAt
import PyProof.EqKinds
import PyProof.TupleCall
import Lean
import PySem.Challenge.RW_lazycols_k28_groups
set_option Elab.async false
set_option linter.all false
set_option maxRecDepth 100000
set_option maxHeartbeats 4000000
set_option genSizeOfSpec false
namespace L2
open PySem PySem.Spec PyProof.Rows
abbrev Key:=Sum Int Str
def c6R:Key -> Value -> Bool
 | .inl k,v => Value.isInt k v
 | .inr x,v => Value.isStrOf x v
def keyH (w:World):Key -> Int
 | .inl k => hashInt k
 | .inr x => hashStr w x
theorem a1t:∀ {k:Key} {v:Value},c6R k v = true -> (∃ i t,k = Sum.inl i /\ v = Value.int i t) ∨ (∃ x t,k = Sum.inr x /\ v = Value.str x t)
 | .inl i,v,h => by
  obtain ⟨t,e⟩:=Value.isInt_shape (k:=i) (v:=v) h
  exact .inl ⟨i,t,rfl,e⟩
 | .inr x,v,h => by
  obtain ⟨t,e⟩:=Value.isStrOf_shape (x:=x) (v:=v) h
  exact .inr ⟨x,t,rfl,e⟩
theorem c8r (i:Int) (t:Tok):c6R (.inl i) (.int i t) = true:=by simp [c6R,Value.isInt]
theorem c8D (x:Str) (t:Tok):c6R (.inr x) (.str x t) = true:=by simp [c6R,Value.isStrOf]
theorem d1G (a b:Int):decide ((Sum.inl a:Key) = Sum.inl b) = (a == b):=by
 by_cases e:a = b
 ·subst e; simp
 ·have h:¬ (Sum.inl a:Key) = Sum.inl b:=fun q => e (Sum.inl.inj q)
  rw [decide_eq_false h]
  exact (beq_eq_false_iff_ne.mpr e).symm
theorem d2d (a b:Str):decide ((Sum.inr a:Key) = Sum.inr b) = decide (a = b):=by
 by_cases e:a = b
 ·subst e; simp
 ·have h:¬ (Sum.inr a:Key) = Sum.inr b:=fun q => e (Sum.inr.inj q)
  rw [decide_eq_false h,decide_eq_false e]
theorem d1y (a:Int) (b:Str):decide ((Sum.inl a:Key) = Sum.inr b) = false:=decide_eq_false (fun q => nomatch q)
theorem d1E (a:Str) (b:Int):decide ((Sum.inr a:Key) = Sum.inl b) = false:=decide_eq_false (fun q => nomatch q)
def a1s (prog:Program) (w:World):PySem.KeyKind prog w Key where
 is:=c6R
 hash:=keyH w
 inj:=fun v a b ha hb => by
  rcases a1t ha with ⟨i,t,rfl,rfl⟩ | ⟨x,t,rfl,rfl⟩
  ·rcases a1t hb with ⟨j,u,rfl,e⟩ | ⟨y,u,rfl,e⟩
   ·injection e with e1 _; rw [e1]
   ·exact nomatch e
  ·rcases a1t hb with ⟨j,u,rfl,e⟩ | ⟨y,u,rfl,e⟩
   ·exact nomatch e
   ·injection e with e1 _; rw [e1]
 byValue:=fun k v h => by
  rcases a1t h with ⟨i,t,rfl,rfl⟩ | ⟨x,t,rfl,rfl⟩ <;> rfl
 pyHash:=fun hv h => by
  rcases a1t hv with ⟨i,t,rfl,rfl⟩ | ⟨x,t,rfl,rfl⟩
  ·exact wpAny_pyHash_int h
  ·exact wpAny_pyHash_str h
 eqBool:=fun hu hv h => by
  rcases a1t hu with ⟨i,t,rfl,rfl⟩ | ⟨x,t,rfl,rfl⟩
  ·rcases a1t hv with ⟨j,u,rfl,rfl⟩ | ⟨y,u,rfl,rfl⟩
   ·rw [d1G] at h; exact wpAny_eqBool_int h
   ·rw [d1y] at h; exact SeqAt.EqAt.int_str i t y u _ _ _ _ h
  ·rcases a1t hv with ⟨j,u,rfl,rfl⟩ | ⟨y,u,rfl,rfl⟩
   ·rw [d1E] at h; exact SeqAt.EqAt.str_int x t j u _ _ _ _ h
   ·rw [d2d] at h; exact wpAny_eqBool_str h
 «strs» := fun k x t v h => by
  rcases a1t h with ⟨i,u,rfl,e⟩ | ⟨y,u,rfl,e⟩
  ·exact nomatch e
  ·injection e with e1 _
   subst e1
   cases v <;> rfl
theorem c5Z (prog:Program) (w:World) (i:Int) (t:Tok):(a1s prog w).is (.inl i) (.int i t) = true:=c8r i t
theorem c5w (prog:Program) (w:World) (x:Str) (t:Tok):(a1s prog w).is (.inr x) (.str x t) = true:=c8D x t
end L2
namespace L2
open PySem PySem.Spec PyProof.Rows
inductive V where
 | non | bl (b:Bool) | int (i:Int) | str (x:Str) | byt (b:Array UInt8) | flt (b:UInt64) | ref (a:Addr) | ty (n:String)
 deriving DecidableEq
def RelV:V -> Value -> Prop
 | .non,u => u = Value.none
 | .bl b,u => u = Value.bool b
 | .int i,u => ∃ t,u = Value.int i t
 | .str x,u => ∃ t,u = Value.str x t
 | .byt b,u => ∃ t,u = Value.bytes b t
 | .flt b,u => ∃ t,u = Value.float b t
 | .ref a,u => u = Value.ref a
 | .ty n,u => u = Value.type n
abbrev Vals:List V -> List Value -> Prop:=Paired RelV
theorem Vals.length {xs:List V} {us:List Value} (r:Vals xs us):xs.length = us.length:=Paired.length r
theorem Vals.get:∀ {xs:List V} {us:List Value} {i:Nat} {x:V},Vals xs us -> xs[i]? = some x -> ∃ u,us[i]? = some u /\ RelV x u
 | _,_,_,_,.nil,e => by simp at e
 | _,_,0,_,.cons r _,e => by simp at e; subst e; exact ⟨_,rfl,r⟩
 | _,_,i + 1,x,.cons _ t,e => by
  obtain ⟨u,h1,h2⟩:=Vals.get (i:=i) (x:=x) t (by simpa using e)
  exact ⟨u,by simpa using h1,h2⟩
theorem Vals.set {x:V} {u:Value} (r:RelV x u):∀ {xs:List V} {us:List Value} (i:Nat),Vals xs us -> Vals (xs.set i x) (us.set i u)
 | _,_,_,.nil => .nil
 | _,_,0,.cons _ t => .cons r t
 | _,_,i + 1,.cons q t => .cons q (Vals.set r i t)
theorem Vals.append:∀ {xs ys:List V} {us ws:List Value},Vals xs us -> Vals ys ws -> Vals (xs ++ ys) (us ++ ws)
 | _,_,_,_,.nil,s => s
 | _,_,_,_,.cons r t,s => .cons r (Vals.append t s)
theorem Vals.take:∀ {xs:List V} {us:List Value} (n:Nat),Vals xs us -> Vals (xs.take n) (us.take n)
 | _,_,0,_ => .nil
 | _,_,_ + 1,.nil => .nil
 | _,_,n + 1,.cons r t => .cons r (Vals.take n t)
theorem Vals.drop:∀ {xs:List V} {us:List Value} (n:Nat),Vals xs us -> Vals (xs.drop n) (us.drop n)
 | _,_,0,r => r
 | _,_,_ + 1,.nil => .nil
 | _,_,n + 1,.cons _ t => Vals.drop n t
def RelO:Option V -> Option Value -> Prop
 | some v,some u => RelV v u
 | none,none => True
 | _,_ => False
def KV {κ:Type}:List (κ × V) -> List (κ × Value) -> Prop:=Paired fun (p:κ × V) (q:κ × Value) => p.1 = q.1 /\ RelV p.2 q.2
def kV:Key -> V
 | .inl i => .int i
 | .inr x => .str x
inductive HO where
 | lst (xs:List V)
 | tup (xs:List V)
 | dK (kvs:List (Key × V)) | dT (kvs:List (List Key × V))
 | set (S:Int -> Bool) (n:Nat)
 | ins (C dx:Addr) (fs:List (Str × V))
 | own (x:Addr)
 | xd (fs:List (Str × V))
 | met (f x:Addr)
 | rng (lo hi:Int)
 | frz (o:Obj) (u:HO)
 | tbl (ps:Array Value)
 | ext (φ:Heap -> Prop)
abbrev Hp:=Addr -> Option HO
def upd (H:Hp) (a:Addr) (o:HO):Hp:=fun b => if b = a then some o else H b
theorem a0c {H:Hp} {a:Addr} {o:HO}:upd H a o a = some o:=by unfold upd; rw [if_pos rfl]
theorem a0g {H:Hp} {a b:Addr} {o:HO} (h:b ≠ a):upd H a o b = H b:=by unfold upd; rw [if_neg h]
theorem d0u {H:Hp} {a:Addr} {o u:HO}:upd (upd H a o) a u = upd H a u:=by
 funext b; unfold upd; split <;> rfl
theorem b7C {H:Hp} {a b:Addr} {o u:HO} (h:H a = some o) (h':H b = some u) (d:o ≠ u):a ≠ b:=by
 intro e; subst e; rw [h] at h'; exact d (Option.some.inj h')
theorem a0h {H:Hp} {a b:Addr} {o:HO} (h:H a = some o) (h':H b = none):a ≠ b:=by
 intro e; subst e; rw [h] at h'; cases h'
section
variable (P:Program) (w:World)
def a17 (H:Hp) (h:Heap) (a:Addr):HO -> Prop
 | .lst xs => xs.length <= sizeLine /\ ∃ (its:List Value) (n:Nat),Vals xs its /\ h.get? a = some { cls:=.type "list", data:=.seq its.toArray n }
 | .tup xs => xs.length <= sizeLine /\ ∃ its:List Value,Vals xs its /\ IsTup h a its.toArray
 | .dK kvs => kvs.length <= sizeLine /\ (a == sysModules) = false /\ ∃ vs,KV kvs vs /\ h.DictOf (a1s P w) a vs
 | .dT kvs => kvs.length <= sizeLine /\ (a == sysModules) = false /\ ∃ xs:List (List Key × Addr × Value),
  Paired (fun (p:List Key × V) (q:List Key × Addr × Value) => p.1 = q.1 /\ H q.2.1 = some (.tup (p.1.map kV)) /\ RelV p.2 q.2.2) kvs xs /\
  ∃ o es ep,h.get? a = some o /\ o.ExactDict /\ o.data = .dict es ep /\ es.toList = xs.map (entryOfKey (tupleKind (a1s P w))) /\ (xs.map (·.1)).Nodup
 | .set S n => h.SetOf (intKind P w) a S n
 | .ins C dx fs => H dx = some (.own a) /\ fs.length <= 1000 /\ dx ≠ a /\ h.get? a = some (PySem.W.instObj C dx) /\
  ∃ mA,h.Ns1 dx mA /\ (∀ f,RelO (fs.lookup f) (mA f)) /\ PySem.Within mA (fs.map (·.1))
 | .own _ => ∃ o,h.get? a = some o
 | .xd fs => ∃ mA,h.Ns1 a mA /\ ∀ f,RelO (fs.lookup f) (mA f)
 | .rng lo hi => ∃ t u v,h.get? a = some { cls:=.type "range", data:=.fields #[.int lo t,.int hi u,.int 1 v] }
 | .frz o u => h.get? a = some o /\ a17 H h a u
 | .tbl ps => h.get? a = some { cls:=.none,data:=.fields ps }
 | .met f x => h.get? a = some (PySem.W.methodObj (.ref f) (.ref x))
 | .ext φ => φ h /\ (∃ o,h.get? a = some o) /\ ∀ h1 h2:Heap,φ h1 -> (∀ o,h1.get? a = some o -> h2.get? a = some o) -> φ h2
def HOk (H:Hp) (h:Heap):Prop:=∀ a o,H a = some o -> a17 P w H h a o
end
section
variable {P:Program} {w:World} {H H':Hp} {h h':Heap} {a:Addr} {o:HO}
theorem a17.lt (x:a17 P w H h a o):a < h.objs.size:=by
 cases o with
 | lst xs => obtain ⟨_,_,_,_,e⟩:=x; exact Heap.lt_size e
 | tup xs => obtain ⟨_,_,_,p⟩:=x; exact p.lt
 | dK kvs => obtain ⟨_,_,_,_,o,_,_,e,_⟩:=x; exact Heap.lt_size e
 | dT kvs => obtain ⟨_,_,_,_,o,_,_,e,_⟩:=x; exact Heap.lt_size e
 | set S n => obtain ⟨o,_,_,_,e,_⟩:=x; exact Heap.lt_size e
 | ins C dx fs => obtain ⟨_,_,_,e,_⟩:=x; exact Heap.lt_size e
 | own y => obtain ⟨_,e⟩:=x; exact Heap.lt_size e
 | xd fs => obtain ⟨_,⟨_,_,_,e,_⟩,_⟩:=x; exact Heap.lt_size e
 | rng lo hi => obtain ⟨_,_,_,e⟩:=x; exact Heap.lt_size e
 | frz ob u => obtain ⟨e,_⟩:=x; exact Heap.lt_size e
 | tbl ps => exact Heap.lt_size (show h.get? a = some _ from x)
 | met f y => exact Heap.lt_size (show h.get? a = some _ from x)
 | ext φ => obtain ⟨_,⟨_,e⟩,_⟩:=x; exact Heap.lt_size e
theorem Paired.mapP {α β:Type} {F G:α -> β -> Prop}:∀ {l₁:List α} {l₂:List β},Paired F l₁ l₂ -> (∀ a b,F a b -> G a b) -> Paired G l₁ l₂
 | _,_,.nil,_ => .nil
 | _,_,.cons r t,f => .cons (f _ _ r) (Paired.mapP t f)
theorem a17.stay (x:a17 P w H h a o) (k:∀ b u,(b = a ∨ H b = some (.own a)) -> h.get? b = some u -> h'.get? b = some u)
 (ho:∀ b,H b = some (.own a) -> H' b = some (.own a)) (ht:∀ b xs,H b = some (.tup xs) -> H' b = some (.tup xs)):a17 P w H' h' a o:=by
 induction o with
 | lst xs => obtain ⟨z,its,n,r,e⟩:=x; exact ⟨z,its,n,r,k _ _ (.inl rfl) e⟩
 | tup xs => obtain ⟨z,its,r,ob,e,c⟩:=x; exact ⟨z,its,r,ob,k _ _ (.inl rfl) e,c⟩
 | dK kvs => obtain ⟨z,y,vs,r,ob,es,ep,e,c⟩:=x; exact ⟨z,y,vs,r,ob,es,ep,k _ _ (.inl rfl) e,c⟩
 | dT kvs =>
  obtain ⟨z,y,xs,r,ob,es,ep,e,c⟩:=x
  exact ⟨z,y,xs,Paired.mapP r fun p q z => ⟨z.1,ht _ _ z.2.1,z.2.2⟩,ob,es,ep,k _ _ (.inl rfl) e,c⟩
 | set S n => obtain ⟨ob,es,ep,t,e,c⟩:=x; exact ⟨ob,es,ep,t,k _ _ (.inl rfl) e,c⟩
 | ins C dx fs =>
  obtain ⟨d,z,ne,e,mA,⟨od,es,ep,e2,c⟩,r⟩:=x
  exact ⟨ho _ d,z,ne,k _ _ (.inl rfl) e,mA,⟨od,es,ep,k _ _ (.inr d) e2,c⟩,r⟩
 | own y => obtain ⟨ob,e⟩:=x; exact ⟨ob,k _ _ (.inl rfl) e⟩
 | xd fs => obtain ⟨mA,⟨od,es,ep,e,c⟩,r⟩:=x; exact ⟨mA,⟨od,es,ep,k _ _ (.inl rfl) e,c⟩,r⟩
 | rng lo hi => obtain ⟨t,u,v,e⟩:=x; exact ⟨t,u,v,k _ _ (.inl rfl) e⟩
 | frz ob u ih => obtain ⟨e,q⟩:=x; exact ⟨k _ _ (.inl rfl) e,ih q⟩
 | tbl ps =>
  have e:h.get? a = some { cls:=.none,data:=.fields ps }:=x
  show h'.get? a = some { cls:=.none,data:=.fields ps }
  exact k a _ (.inl rfl) e
 | met f y =>
  have e:h.get? a = some (PySem.W.methodObj (.ref f) (.ref y)):=x
  show h'.get? a = some (PySem.W.methodObj (.ref f) (.ref y))
  exact k a _ (.inl rfl) e
 | ext φ => obtain ⟨p,⟨o,e⟩,st⟩:=x; exact ⟨st _ _ p fun o q => k _ _ (.inl rfl) q,⟨o,k _ _ (.inl rfl) e⟩,st⟩
theorem HOk.lt (x:HOk P w H h) (e:H a = some o):a < h.objs.size:=(x a o e).lt
theorem HOk.fresh (x:HOk P w H h) (e:h.objs.size <= a):H a = none:=by
 cases q:H a with
 | none => rfl
 | some u => exact absurd (Nat.lt_of_lt_of_le (x.lt q) e) (Nat.lt_irrefl _)
theorem HOk.kept (x:HOk P w H h) (k:∀ b u,h.get? b = some u -> h'.get? b = some u):HOk P w H h':=fun a o e =>
 (x a o e).stay (fun b u _ q => k b u q) (fun _ q => q) fun _ _ q => q
theorem HOk.laid (x:HOk P w H h) (k:∀ b u,h.get? b = some u -> h'.get? b = some u) (hp:h.objs.size <= a) (new:a17 P w (upd H a o) h' a o):HOk P w (upd H a o) h':=fun b u e => by
 have hn:=x.fresh hp
 by_cases hb:b = a
 ·subst hb; rw [a0c] at e; cases e; exact new
 ·rw [a0g hb] at e
  exact (x b u e).stay (fun c v _ q => k c v q) (fun c q => by rw [a0g (a0h q hn)]; exact q) fun c xs q => by rw [a0g (a0h q hn)]; exact q
end
def Rd (H:Hp) (a:Addr) (u:HO):Prop:=H a = some u ∨ ∃ o,H a = some (.frz o u)
theorem Rd.ok {P:Program} {w:World} {H:Hp} {h:Heap} {a:Addr} {u:HO} (r:Rd H a u) (x:HOk P w H h):a17 P w H h a u:=by
 rcases r with r | ⟨o,r⟩
 ·exact x a u r
 ·obtain ⟨_,q⟩:=x a _ r
  exact q
def Mut:Option HO -> Prop
 | some (.lst _) => True
 | some (.dK _) => True
 | some (.dT _) => True
 | some (.set _ _) => True
 | some (.ins _ _ _) => True
 | some (.ext _) => True
 | _ => False
section
variable {P:Program} {w:World} {H:Hp} {h h':Heap} {x e:Addr} {o':HO}
theorem HOk.write (ok:HOk P w H h) (mu:Mut (H x)) (he:e = x ∨ H e = some (.own x)) (k:∀ b u,b ≠ e -> h.get? b = some u -> h'.get? b = some u) (heo:∃ u,h'.get? e = some u)
 (new:a17 P w (upd H x o') h' x o'):HOk P w (upd H x o') h':=fun b u q => by
 have nown:∀ c y,H c = some (.own y) -> c ≠ x:=fun c y r z => by subst z; rw [r] at mu; exact mu
 have ntup:∀ c xs,H c = some (.tup xs) -> c ≠ x:=fun c xs r z => by subst z; rw [r] at mu; exact mu
 by_cases hb:b = x
 ·subst hb; rw [a0c] at q; cases q; exact new
 ·rw [a0g hb] at q
  by_cases hbe:b = e
  ·have q':H b = some (.own x):=by
    rcases he with z | z
    ·exact absurd (hbe.trans z) hb
    ·rw [hbe]; exact z
   rw [q] at q'; cases q'
   obtain ⟨v,hv⟩:=heo
   exact ⟨v,by rw [hbe]; exact hv⟩
  ·refine (ok b u q).stay (fun c v hc r => k c v ?_ r) (fun c r => by rw [a0g (nown c b r)]; exact r) fun c xs r => by rw [a0g (ntup c xs r)]; exact r
   rcases hc with rfl | hc
   ·exact hbe
   ·rintro rfl
    rcases he with z | z
    ·exact nown c b hc z
    ·rw [hc] at z; cases z; exact hb rfl
end
structure Un (fs ex:List Addr) (H H':Hp) (h h':Heap):Prop where
 keep:∀ b o,h.get? b = some o -> H b = none -> b ∉ fs -> b ∉ ex -> h'.get? b = some o
 slot:∀ b o,h.get? b = some o -> H b = none -> b ∈ fs -> b ∉ ex -> ∃ sl,h'.get? b = some { o with slots:=sl }
 free:∀ b o,h.get? b = some o -> H b = none -> b ∉ ex -> H' b = none
 there:∀ b o,h.get? b = some o -> b ∉ ex -> ∃ o',h'.get? b = some o'
 tups:∀ b xs,H b = some (.tup xs) -> H' b = some (.tup xs)
 frzs:∀ b o u,H b = some (.frz o u) -> H' b = some (.frz o u)
 tbls:∀ b ps,H b = some (.tbl ps) -> ∃ more,H' b = some (.tbl (ps ++ more))
section
variable {fs fs' ex ex':List Addr} {H H1 H2:Hp} {h h1 h2 h':Heap} {a x e:Addr} {o:HO}
theorem Un.any (u:Un fs ex H H1 h h1) {b:Addr} {ob:Obj} (q:h.get? b = some ob) (n:H b = none) (hx:b ∉ ex):∃ sl,h1.get? b = some { ob with slots:=sl }:=by
 by_cases hb:b ∈ fs
 ·exact u.slot b ob q n hb hx
 ·exact ⟨ob.slots,u.keep b ob q n hb hx⟩
theorem Un.kept (k:∀ b u,h.get? b = some u -> h'.get? b = some u):Un fs ex H H h h' :=
 ⟨fun b ob q _ _ _ => k b ob q,fun b ob q _ _ _ => ⟨ob.slots,k b ob q⟩,fun _ _ _ n _ => n,fun b ob q _ => ⟨ob,k b ob q⟩,fun _ _ q => q,fun _ _ _ q => q,fun _ ps q => ⟨#[],by rw [q]; simp⟩⟩
theorem Un.refl:Un fs ex H H h h:=Un.kept fun _ _ q => q
theorem Un.laid (k:∀ b u,h.get? b = some u -> h'.get? b = some u) (hp:h.objs.size <= a) (hn:H a = none):Un fs ex H (upd H a o) h h' where
 keep:=fun b u q _ _ _ => k b u q
 slot:=fun b u q _ _ _ => ⟨u.slots,k b u q⟩
 free:=fun b u q n _ => by rw [a0g (Nat.ne_of_lt (Nat.lt_of_lt_of_le (Heap.lt_size q) hp))]; exact n
 there:=fun b u q _ => ⟨u,k b u q⟩
 tups:=fun b xs q => by rw [a0g (a0h q hn)]; exact q
 frzs:=fun b u xs q => by rw [a0g (a0h q hn)]; exact q
 tbls:=fun b ps q => ⟨#[],by rw [a0g (a0h q hn),q]; simp⟩
theorem Un.write (mu:Mut (H x)) (he:e = x ∨ H e = some (.own x)) (k:∀ b u,b ≠ e -> h.get? b = some u -> h'.get? b = some u) (heo:∃ u,h'.get? e = some u):Un fs ex H (upd H x o) h h':=by
 have hx:∀ b,H b = none -> b ≠ x:=fun b n z => by subst z; rw [n] at mu; exact mu
 have hb:∀ b,H b = none -> b ≠ e:=fun b n z => by
  subst z
  rcases he with r | r
  ·exact hx b n r
  ·rw [n] at r; cases r
 have hm:∀ b u,H b = some u -> ¬ Mut (some u) -> b ≠ x:=fun b u q nm z => by subst z; rw [q] at mu; exact nm mu
 refine ⟨fun b u q n _ _ => k b u (hb b n) q,fun b u q n _ _ => ⟨u.slots,k b u (hb b n) q⟩,fun b u q n _ => by rw [a0g (hx b n)]; exact n,fun b u q _ => ?_,
  fun b xs q => by rw [a0g (hm b _ q fun z => z)]; exact q,fun b u xs q => by rw [a0g (hm b _ q fun z => z)]; exact q,fun b ps q => ⟨#[],by rw [a0g (hm b _ q fun z => z),q]; simp⟩⟩
 by_cases hbe:b = e
 ·subst hbe; exact heo
 ·exact ⟨u,k b u hbe q⟩
end
def trk (h:Heap) (H:Hp):List Addr:=(List.range h.objs.size).filter fun a => (H a).isSome
def hidT (h:Heap) (H:Hp):Heap:=PySem.W.hideAll h (trk h H)
theorem c7F (h:Heap) (H:Hp):(hidT h H).objs.size = h.objs.size:=PySem.W.hideAll_size _ _
theorem c9E {h:Heap} {H:Hp} {b:Addr} {o:Obj} (e:h.get? b = some o) (n:H b = none):(hidT h H).get? b = some o :=
 PySem.W.hideAll_get _ e fun hm => by
  have q:(H b).isSome = true:=(List.mem_filter.mp hm).2
  rw [n] at q; simp at q
theorem d0h {h:Heap} {H:Hp} {b:Addr} {o:Obj} (e:(hidT h H).get? b = some o):h.get? b = some o /\ H b = none:=by
 have e':h.get? b = some o:=PySem.W.of_hideAll (trk h H) e
 refine ⟨e',?_⟩
 cases q:H b with
 | none => rfl
 | some x =>
  have hm:b ∈ trk h H:=List.mem_filter.mpr ⟨List.mem_range.mpr (Heap.lt_size e'),by simp [q]⟩
  have z:(hidT h H).get? b = none:=PySem.W.hideAll_none (trk h H) hm
  rw [z] at e; cases e
def d0s (g h:Heap) (L:Addr):List (Addr × Obj):=(List.range h.objs.size).filterMap fun a => if a = L ∨ (g.get? a).isSome = true then none else (h.get? a).map fun o => (a,o)
def rest (g h:Heap) (L d:Addr):List (Addr × Obj):=(d0s g h L).filter fun p => decide (p.1 ≠ d)
end L2
namespace L2
open PySem PySem.Spec PyProof.Rows
structure Mod (K:PySem.W.Frag) (mg:Str -> Option Value) (base:Heap):Prop where
 kin:K.In base
 glob:base.Ns mainGlobals mg
 blt:∃ mb,base.Ns builtinsNs mb /\ ∀ x:Str,x ≠ "__name__" -> mb x = bootBuiltins x
 nolimit:base.NoLimit
structure Cx where
 prog:Program
 w:World
 K:PySem.W.Frag
 mg:Str -> Option Value
 base:Heap
 A:Around
 N:List Str
 s₀:Shared
 H₀:Hp
 env:Env
 outer:List Env
 stack:List Env
 ex:List Addr
 fn:Str -> Bool
 calm:Bool
 pn:List (Addr × Obj)
 xe:Value -> Shared -> Prop
def frs (l:List Env):List Addr:=l.filterMap (·.frame)
abbrev Cx.fs (X:Cx):List Addr:=frs X.outer
def Vis (sc:Scope) (x:Str):Prop:=sc.names.lookup x = some .local ∨ sc.names.lookup x = some .cell ∨ sc.names.lookup x = some .free
def Loc (sc:Scope) (x:Str):Prop:=sc.names.lookup x = some .local ∨ sc.names.lookup x = some .cell
def Look (env:Env) (h:Heap) (m:Str -> Option Value) (x:Str) (u:Value):Prop :=
 (env.kindOf x = some .local /\ m x = some u) ∨ ((env.kindOf x = some .cell ∨ env.kindOf x = some .free) /\ ∃ c,env.cells.lookup x = some c /\ h.IsCell c (some u))
structure Cx.Ok (X:Cx):Prop where
 mod:Mod X.K X.mg X.base
 kind:X.env.scope.kind = .function
 glob:X.env.globals = mainGlobals
 blt:X.env.builtins = builtinsNs
 above:X.s₀.heap.objs.size <= X.env.locals
 inj:∀ x y c,X.env.cells.lookup x = some c -> X.env.cells.lookup y = some c -> x = y
 has:∀ x,(X.env.kindOf x = some .cell ∨ X.env.kindOf x = some .free) -> ∃ c,X.env.cells.lookup x = some c
 cab:∀ x c,X.fn x = true -> X.env.cells.lookup x = some c -> X.s₀.heap.objs.size <= c
 hd:X.calm = true -> X.A.handled = none
 frames:X.A.frames = some X.stack
 stk:X.stack = X.outer ∨ (X.stack = X.env :: X.outer /\ X.env.frame = some X.env.locals)
 exf:∀ b ∈ X.ex,b ≠ X.env.locals /\ ∀ x c,X.env.cells.lookup x = some c -> c ≠ b
 bs:∀ b o,X.base.get? b = some o -> X.s₀.heap.get? b = some o /\ X.H₀ b = none
 bsz:X.base.objs.size <= X.s₀.heap.objs.size
 noex:∀ b o,X.base.get? b = some o -> b ∉ X.ex
 exfs:∀ b ∈ X.ex,b ∉ X.fs
 funs:X.s₀.heap.FunFrames X.base X.outer
 frf:∀ b ∈ X.fs,X.H₀ b = none
structure Inv (X:Cx) (pins:List (Addr × Obj)) (σ:List (Option V)) (H:Hp) (s:Shared):Prop where
 ok:X.Ok
 os:s.os = X.s₀.os
 bare:AllBare s.gens
 base:Un X.fs X.ex X.H₀ H X.s₀.heap s.heap
 loc:∃ m,s.heap.Ns X.env.locals m /\ ∀ (i:Nat) (x:Str) (v:V),X.N[i]? = some x -> σ[i]? = some (some v) -> Vis X.env.scope x -> ∃ u,RelV v u /\ Look X.env s.heap m x u
 cell:∀ x c,X.env.cells.lookup x = some c -> ∃ v,s.heap.IsCell c v
 free:H X.env.locals = none
 freeC:∀ x c,X.env.cells.lookup x = some c -> H c = none
 pin:∀ p ∈ X.pn ++ pins,s.heap.get? p.1 = some p.2 /\ H p.1 = none /\ p.1 ≠ X.env.locals /\ p.1 ∉ X.fs /\ ∀ v,p.2.data ≠ .cell v
 hok:HOk X.prog X.w H s.heap
 len:σ.length = X.N.length
section
variable {X:Cx} {pins:List (Addr × Obj)} {σ:List (Option V)} {H H':Hp} {s:Shared} {h':Heap}
theorem Cx.Ok.nofr (ok:X.Ok) {b:Addr} {o:Obj} (e:X.base.get? b = some o):b ∉ X.fs:=fun hb => by
 have:=(ok.funs.mem hb).1
 rw [e] at this; cases this
theorem Inv.bs (I:Inv X pins σ H s):∀ b o,X.base.get? b = some o -> s.heap.get? b = some o /\ H b = none:=fun b o e =>
 ⟨I.base.keep b o (I.ok.bs b o e).1 (I.ok.bs b o e).2 (I.ok.nofr e) (I.ok.noex b o e),I.base.free b o (I.ok.bs b o e).1 (I.ok.bs b o e).2 (I.ok.noex b o e)⟩
theorem Inv.bk (I:Inv X pins σ H s):∀ b o,X.base.get? b = some o -> s.heap.get? b = some o:=fun b o e => (I.bs b o e).1
theorem Inv.mod (I:Inv X pins σ H s):Mod X.K X.mg X.base:=I.ok.mod
theorem Inv.kIn (I:Inv X pins σ H s):X.K.In s.heap:=I.ok.mod.kin.keeps I.bk
theorem Inv.lt (I:Inv X pins σ H s):X.env.locals < s.heap.objs.size:=let ⟨_,hn,_⟩:=I.loc; hn.lt
theorem Inv.sz (I:Inv X pins σ H s):X.s₀.heap.objs.size <= s.heap.objs.size:=Nat.le_trans I.ok.above (Nat.le_of_lt I.lt)
theorem Inv.nofs (I:Inv X pins σ H s) {a:Addr} (h:s.heap.objs.size <= a):a ∉ X.fs:=fun hb => by
 obtain ⟨_,o,ho,_⟩:=I.ok.funs.mem hb
 exact absurd (Nat.lt_of_lt_of_le (Heap.lt_size ho) (Nat.le_trans I.sz h)) (Nat.lt_irrefl _)
theorem Inv.cne (I:Inv X pins σ H s):∀ x c,X.env.cells.lookup x = some c -> c ≠ X.env.locals:=fun x c e z => by
 obtain ⟨v,o,ho,hd⟩:=I.cell x c e
 obtain ⟨m,⟨o',es,ep,ho',hd',_⟩,_⟩:=I.loc
 rw [z,ho'] at ho; cases ho; rw [hd'] at hd; cases hd
theorem Inv.funs (I:Inv X pins σ H s):s.heap.FunFrames X.base X.outer:=by
 have all:∀ (l:List Env),(∀ b ∈ frs l,b ∈ X.fs) -> X.s₀.heap.FunFrames X.base l -> s.heap.FunFrames X.base l:=by
  intro l
  induction l with
  | nil => intro _ _; trivial
  | cons env r ih =>
   intro hs hl
   obtain ⟨hk,⟨L,o,hf,hn,ho,hd⟩,hr⟩:=hl
   have hL:L ∈ X.fs:=hs L (by unfold frs; rw [List.filterMap_cons,hf]; exact List.mem_cons_self)
   obtain ⟨sl,e⟩:=I.base.slot L o ho (I.ok.frf L hL) hL fun z => I.ok.exfs L z hL
   exact ⟨hk,⟨L,_,hf,hn,e,hd⟩,ih (fun b hb => hs b (by unfold frs; rw [List.filterMap_cons,hf]; exact List.mem_cons_of_mem _ hb)) hr⟩
 exact all X.outer (fun _ hb => hb) I.ok.funs
theorem Inv.stack (I:Inv X pins σ H s):s.heap.FunFrames X.base X.stack:=by
 rcases I.ok.stk with e | ⟨e,hf⟩
 ·rw [e]; exact I.funs
 ·rw [e]
  obtain ⟨m,hn,_⟩:=I.loc
  refine .cons (by rw [I.ok.kind]; decide) hf hn ?_ I.funs
  exact Heap.get?_none_of_le (Nat.le_trans I.ok.bsz I.ok.above)
theorem Inv.stkSub (I:Inv X pins σ H s):∀ b ∈ frs X.stack,b ∈ X.env.locals :: X.fs:=fun b hb => by
 rcases I.ok.stk with e | ⟨e,hf⟩
 ·rw [e] at hb; exact List.mem_cons_of_mem _ hb
 ·rw [e] at hb
  unfold frs at hb
  rw [List.filterMap_cons,hf] at hb
  exact hb
theorem Inv.stkFree (I:Inv X pins σ H s):∀ b ∈ frs X.stack,H b = none:=fun b hb => by
 rcases List.mem_cons.mp (I.stkSub b hb) with e | hb
 ·rw [e]; exact I.free
 ·obtain ⟨_,o,ho,_⟩:=I.ok.funs.mem hb
  exact I.base.free b o ho (I.ok.frf b hb) fun z => I.ok.exfs b z hb
theorem Inv.step {g':Array GenState} {t':Nat} {d':Drawn} {ch:List Addr} (I:Inv X pins σ H s)
 (hch:∀ b ∈ ch,(b ∈ X.ex ∨ X.s₀.heap.objs.size <= b) /\ b ≠ X.env.locals /\ (∀ x c,X.env.cells.lookup x = some c -> c ≠ b) /\ ∀ p ∈ X.pn ++ pins,p.1 ≠ b)
 (keep:∀ b o,b ≠ X.env.locals -> b ∉ X.fs -> b ∉ ch -> s.heap.get? b = some o -> H b = none -> h'.get? b = some o)
 (slot:∀ b o,b ≠ X.env.locals -> b ∈ X.fs -> b ∉ ch -> s.heap.get? b = some o -> H b = none -> ∃ sl,h'.get? b = some { o with slots:=sl }) (free:∀ b o,b ∉ ch -> s.heap.get? b = some o -> H b = none -> H' b = none)
 (there:∀ b o,b ∉ ch -> s.heap.get? b = some o -> ∃ o',h'.get? b = some o')
 (tups:∀ b xs,H b = some (.tup xs) -> H' b = some (.tup xs)) (frzs:∀ b o u,H b = some (.frz o u) -> H' b = some (.frz o u)) (tbls:∀ b ps,H b = some (.tbl ps) -> ∃ more,H' b = some (.tbl (ps ++ more)))
 (ns:∀ m,s.heap.Ns X.env.locals m -> h'.Ns X.env.locals m) (hok:HOk X.prog X.w H' h') (hg:AllBare g') :
 Inv X pins σ H' { s with heap:=h',gens:=g',drawn:=d',toks:=t' }:=by
 have neL:∀ b o,X.s₀.heap.get? b = some o -> b ≠ X.env.locals:=fun b o e => Nat.ne_of_lt (Nat.lt_of_lt_of_le (Heap.lt_size e) I.ok.above)
 have neC:∀ b o,X.s₀.heap.get? b = some o -> b ∉ X.ex -> b ∉ ch:=fun b o e hx hb => by
  rcases (hch b hb).1 with z | z
  ·exact hx z
  ·exact absurd (Nat.lt_of_lt_of_le (Heap.lt_size e) z) (Nat.lt_irrefl _)
 have a0u:∀ x c,X.env.cells.lookup x = some c -> ∀ v,s.heap.IsCell c v -> h'.IsCell c v:=fun x c e v ⟨o,ho,hd⟩ => by
  have nch:c ∉ ch:=fun z => (hch c z).2.2.1 x c e rfl
  by_cases hc:c ∈ X.fs
  ·obtain ⟨sl,q⟩:=slot c o (I.cne x c e) hc nch ho (I.freeC x c e)
   exact ⟨_,q,hd⟩
  ·exact ⟨o,keep c o (I.cne x c e) hc nch ho (I.freeC x c e),hd⟩
 refine ⟨I.ok,I.os,hg,⟨fun b o e n hb hx => ?_,fun b o e n hb hx => ?_,fun b o e n hx => ?_,fun b o e hx => ?_,fun b xs e => tups b xs (I.base.tups b xs e),fun b o xs e => frzs b o xs (I.base.frzs b o xs e),fun b ps e => ?_⟩,?_,fun x c e => ?_,?_,fun x c e => ?_,fun p hp => ?_,hok,I.len⟩
 ·exact keep b o (neL b o e) hb (neC b o e hx) (I.base.keep b o e n hb hx) (I.base.free b o e n hx)
 ·obtain ⟨sl,e1⟩:=I.base.slot b o e n hb hx
  obtain ⟨sl',e2⟩:=slot b _ (neL b o e) hb (neC b o e hx) e1 (I.base.free b o e n hx)
  exact ⟨sl',e2⟩
 ·obtain ⟨o',e1⟩:=I.base.there b o e hx
  exact free b o' (neC b o e hx) e1 (I.base.free b o e n hx)
 ·obtain ⟨o',e1⟩:=I.base.there b o e hx
  exact there b o' (neC b o e hx) e1
 ·obtain ⟨m1,e1⟩:=I.base.tbls b ps e
  obtain ⟨m2,e2⟩:=tbls b _ e1
  exact ⟨m1 ++ m2,by rw [e2,Array.append_assoc]⟩
 ·obtain ⟨m,hn,hl⟩:=I.loc
  refine ⟨m,ns m hn,fun i x v e1 e2 e3 => ?_⟩
  obtain ⟨u,r,l⟩:=hl i x v e1 e2 e3
  refine ⟨u,r,?_⟩
  rcases l with l | ⟨k,c,e,z⟩
  ·exact .inl l
  ·exact .inr ⟨k,c,e,a0u x c e _ z⟩
 ·obtain ⟨v,z⟩:=I.cell x c e
  exact ⟨v,a0u x c e v z⟩
 ·obtain ⟨m,⟨o,_,_,ho,_⟩,_⟩:=I.loc
  exact free _ o (fun z => (hch _ z).2.1 rfl) ho I.free
 ·obtain ⟨v,o,ho,hd⟩:=I.cell x c e
  exact free c o (fun z => (hch c z).2.2.1 x c e rfl) ho (I.freeC x c e)
 ·obtain ⟨e,n,ne,nf,d⟩:=I.pin p hp
  have nch:p.1 ∉ ch:=fun z => (hch p.1 z).2.2.2 p hp rfl
  exact ⟨keep p.1 p.2 ne nf nch e n,free p.1 p.2 nch e n,ne,nf,d⟩
theorem Inv.un {t':Nat} (I:Inv X pins σ H s) (u:Un X.fs [] H H' s.heap h') (hok:HOk X.prog X.w H' h'):Inv X pins σ H' { s with heap:=h',toks:=t' }:=by
 obtain ⟨m,⟨o,es,ep,ho,r⟩,_⟩:=id I.loc
 obtain ⟨sl,hL⟩:=u.any ho I.free (by simp)
 exact I.step (g':=s.gens) (d':=s.drawn) (ch:=[]) (fun _ z => nomatch z) (fun b o _ hb _ e n => u.keep b o e n hb (by simp)) (fun b o _ hb _ e n => u.slot b o e n hb (by simp)) (fun b o _ e n => u.free b o e n (by simp)) (fun b o _ e => u.there b o e (by simp)) u.tups u.frzs u.tbls (fun m' hm => by
  obtain ⟨o',es',ep',ho',r'⟩:=hm
  rw [ho] at ho'; cases ho'
  exact ⟨_,es',ep',hL,r'⟩) hok I.bare
theorem Inv.call {g':Array GenState} {t':Nat} {d':Drawn} {ch:List Addr} (I:Inv X pins σ H s) (u:Un (frs X.stack) ch H H' s.heap h') (hok:HOk X.prog X.w H' h') (hg:AllBare g')
 (hch:∀ b ∈ ch,(b ∈ X.ex ∨ X.s₀.heap.objs.size <= b) /\ b ≠ X.env.locals /\ (∀ x c,X.env.cells.lookup x = some c -> c ≠ b) /\ ∀ p ∈ X.pn ++ pins,p.1 ≠ b) :
 Inv X pins σ H' { s with heap:=h',gens:=g',drawn:=d',toks:=t' }:=by
 obtain ⟨m,⟨o,es,ep,ho,r⟩,_⟩:=id I.loc
 obtain ⟨sl,hL⟩:=u.any ho I.free fun z => (hch _ z).2.1 rfl
 exact I.step (ch:=ch) hch (fun b o hL hb hc e n => u.keep b o e n (fun z => (List.mem_cons.mp (I.stkSub b z)).elim hL hb) hc) (fun b o _ _ hc e n => u.any e n hc) (fun b o hc e n => u.free b o e n hc) (fun b o hc e => u.there b o e hc) u.tups u.frzs u.tbls (fun m' hm => by
  obtain ⟨o',es',ep',ho',r'⟩:=hm
  rw [ho] at ho'; cases ho'
  exact ⟨_,es',ep',hL,r'⟩) hok hg
theorem Inv.turned {t':Nat} {it:Addr} (I:Inv X pins σ H s) (k:∀ b o,b ≠ it -> s.heap.get? b = some o -> h'.get? b = some o) (hn:H it = none) (hL:it ≠ X.env.locals)
 (h1:it ∈ X.ex ∨ X.s₀.heap.objs.size <= it) (h2:∀ x c,X.env.cells.lookup x = some c -> c ≠ it) (h3:∀ p ∈ X.pn ++ pins,p.1 ≠ it):Inv X pins σ H { s with heap:=h',toks:=t' }:=by
 have nit:∀ b u,H b = some u -> b ≠ it:=fun b u e z => by rw [z,hn] at e; cases e
 refine I.step (g':=s.gens) (d':=s.drawn) (ch:=[it]) (fun b hb => ?_) (fun b o _ _ hc e _ => k b o (fun z => hc (by simp [z])) e) (fun b o _ _ hc e _ => ⟨o.slots,k b o (fun z => hc (by simp [z])) e⟩) (fun _ _ _ _ n => n)
  (fun b o hc e => ⟨o,k b o (fun z => hc (by simp [z])) e⟩) (fun _ _ e => e) (fun _ _ _ e => e) (fun b ps e => ⟨#[],by rw [e]; simp⟩) (fun m hm => ?_) (fun b u e => ?_) I.bare
 ·have e:b = it:=by simpa using hb
  subst e
  exact ⟨h1,hL,h2,h3⟩
 ·obtain ⟨o,es,ep,ho,r⟩:=hm
  exact ⟨o,es,ep,k _ o (Ne.symm hL) ho,r⟩
 ·refine (I.hok b u e).stay (fun c v hc q => k c v ?_ q) (fun _ q => q) fun _ _ q => q
  rcases hc with z | z
  ·rw [z]; exact nit b u e
  ·exact nit c _ z
theorem Inv.tok (I:Inv X pins σ H s) (t:Nat):Inv X pins σ H { s with toks:=t }:=I.un (h':=s.heap) (t':=t) Un.refl I.hok
theorem Inv.kept {t':Nat} (I:Inv X pins σ H s) (k:∀ b u,s.heap.get? b = some u -> h'.get? b = some u):Inv X pins σ H { s with heap:=h',toks:=t' }:=I.un (Un.kept k) (I.hok.kept k)
theorem Inv.laid {a:Addr} {o:HO} {t':Nat} (I:Inv X pins σ H s) (k:∀ b u,s.heap.get? b = some u -> h'.get? b = some u) (hp:s.heap.objs.size <= a) (new:a17 X.prog X.w (upd H a o) h' a o) :
 Inv X pins σ (upd H a o) { s with heap:=h',toks:=t' }:=I.un (Un.laid k hp (I.hok.fresh hp)) (I.hok.laid k hp new)
theorem Inv.write {x e:Addr} {o:HO} {t':Nat} (I:Inv X pins σ H s) (mu:Mut (H x)) (he:e = x ∨ H e = some (.own x)) (k:∀ b u,b ≠ e -> s.heap.get? b = some u -> h'.get? b = some u) (heo:∃ u,h'.get? e = some u)
 (new:a17 X.prog X.w (upd H x o) h' x o):Inv X pins σ (upd H x o) { s with heap:=h',toks:=t' }:=I.un (Un.write mu he k heo) (I.hok.write mu he k heo new)
theorem Inv.pins_of {pins':List (Addr × Obj)} (I:Inv X pins σ H s) (h:∀ p ∈ pins',s.heap.get? p.1 = some p.2 /\ H p.1 = none /\ p.1 ≠ X.env.locals /\ p.1 ∉ X.fs /\ ∀ v,p.2.data ≠ .cell v):Inv X pins' σ H s :=
 ⟨I.ok,I.os,I.bare,I.base,I.loc,I.cell,I.free,I.freeC,fun p hp => (List.mem_append.mp hp).elim (fun z => I.pin p (List.mem_append_left _ z)) (h p),I.hok,I.len⟩
theorem c6h {N:List Str} (hN:N.Nodup) {i j:Nat} {x:Str} (a:N[i]? = some x) (b:N[j]? = some x):i = j:=by
 obtain ⟨h1,e1⟩:=List.getElem?_eq_some_iff.mp a
 obtain ⟨h2,e2⟩:=List.getElem?_eq_some_iff.mp b
 exact (List.getElem_inj hN).mp (e1.trans e2.symm)
theorem c3F {M:Model} {A:Around} {E:Value -> Shared -> Prop} {i:Nat} {x:Str} {v:V} {u:Value} {Q:Unit -> Shared -> Prop} (I:Inv X pins σ H s) (hN:X.N.Nodup) (hi:X.N[i]? = some x) (hx:Loc X.env.scope x) (r:RelV v u)
 (h:∀ s',Inv X pins (σ.set i (some v)) H s' -> (∃ a,Heap.SameBut a s.heap s'.heap /\ (a = X.env.locals ∨ X.env.cells.lookup x = some a)) -> Q () s') (hf:X.fn x = true ∨ X.env.scope.names.lookup x = some .local:=by first | exact .inl rfl | exact .inr rfl | assumption):wpAny M A (storeName X.env x u) Q E s:=by
 obtain ⟨m,hn,hl⟩:=id I.loc
 have hcls:(X.env.scope.kind == .class || (X.env.scope.kind == .module && X.env.locals != X.env.globals)) = false:=by rw [I.ok.kind]; rfl
 have hiσ:i < σ.length:=by rw [I.len]; exact (List.getElem?_eq_some_iff.mp hi).1
 have cne:=I.cne
 have tracked:∀ {a:Addr} {h':Heap},(∃ o,s.heap.get? a = some o /\ H a = none) -> Heap.SameBut a s.heap h' -> HOk X.prog X.w H h':=fun {a h'} ha hs b ob e => by
  obtain ⟨_,_,hfree⟩:=ha
  refine (I.hok b ob e).stay (fun c w' hc q => (hs.2 c ?_).trans q) (fun _ q => q) fun _ _ q => q
  rintro rfl
  rcases hc with rfl | hc
  ·rw [hfree] at e; cases e
  ·rw [hfree] at hc; cases hc
 rcases hx with hk | hk
 ·refine wpAny_storeName_local hk hn (fun h' hn' hs => ?_) hcls
  obtain ⟨oL,_,_,hoL,_⟩:=id hn
  refine h _ ⟨I.ok,I.os,I.bare,⟨fun b o e n hb hx => ?_,fun b o e n hb hx => ?_,I.base.free,fun b o e hx => ?_,I.base.tups,I.base.frzs,I.base.tbls⟩,⟨_,hn',fun j y v' e1 e2 e3 => ?_⟩,fun y c e => ?_,I.free,I.freeC,fun p hp => ?_,tracked ⟨oL,hoL,I.free⟩ hs,by simpa using I.len⟩ ⟨_,hs,.inl rfl⟩
  ·exact (hs.2 b (Nat.ne_of_lt (Nat.lt_of_lt_of_le (Heap.lt_size e) I.ok.above))).trans (I.base.keep b o e n hb hx)
  ·obtain ⟨sl,e1⟩:=I.base.slot b o e n hb hx
   exact ⟨sl,(hs.2 b (Nat.ne_of_lt (Nat.lt_of_lt_of_le (Heap.lt_size e) I.ok.above))).trans e1⟩
  ·obtain ⟨o',e1⟩:=I.base.there b o e hx
   exact ⟨o',(hs.2 b (Nat.ne_of_lt (Nat.lt_of_lt_of_le (Heap.lt_size e) I.ok.above))).trans e1⟩
  ·by_cases hj:j = i
   ·subst hj
    rw [hi] at e1; cases e1
    rw [List.getElem?_set_self hiσ] at e2
    cases e2
    exact ⟨u,r,.inl ⟨hk,by simp⟩⟩
   ·rw [List.getElem?_set_ne (Ne.symm hj)] at e2
    obtain ⟨u',r',q⟩:=hl j y v' e1 e2 e3
    refine ⟨u',r',?_⟩
    rcases q with ⟨k,e⟩ | ⟨k,c,e,z⟩
    ·refine .inl ⟨k,?_⟩
     have:y ≠ x:=fun e => hj (c6h hN e1 (e ▸ hi))
     simp [this,e]
    ·exact .inr ⟨k,c,e,z.sameBut hs (cne y c e)⟩
  ·obtain ⟨w',z⟩:=I.cell y c e
   exact ⟨w',z.sameBut hs (cne y c e)⟩
  ·obtain ⟨e,n,ne,nf,d⟩:=I.pin p hp
   exact ⟨(hs.2 p.1 ne).trans e,n,ne,nf,d⟩
 ·have hfn:X.fn x = true:=by
   rcases hf with z | z
   ·exact z
   ·rw [z] at hk; cases hk
  obtain ⟨c,hc⟩:=I.ok.has x (.inl hk)
  obtain ⟨w',z⟩:=I.cell x c hc
  refine wpAny_storeName_cell I.ok.kind hk hc z (fun h' hc' hs => ?_)
  obtain ⟨oc,hoc,hocd⟩:=id z
  refine h { s with heap:=h' } ⟨I.ok,I.os,I.bare,⟨fun b o e n hb hx => ?_,fun b o e n hb hx => ?_,I.base.free,fun b o e hx => ?_,I.base.tups,I.base.frzs,I.base.tbls⟩,⟨m,hn.sameBut hs (Ne.symm (cne x c hc)),fun j y v' e1 e2 e3 => ?_⟩,fun y c' e => ?_,I.free,I.freeC,fun p hp => ?_,tracked ⟨oc,hoc,I.freeC x c hc⟩ hs,by simpa using I.len⟩ ⟨c,hs,.inr hc⟩
  ·exact (hs.2 b (Nat.ne_of_lt (Nat.lt_of_lt_of_le (Heap.lt_size e) (I.ok.cab x c hfn hc)))).trans (I.base.keep b o e n hb hx)
  ·obtain ⟨sl,e1⟩:=I.base.slot b o e n hb hx
   exact ⟨sl,(hs.2 b (Nat.ne_of_lt (Nat.lt_of_lt_of_le (Heap.lt_size e) (I.ok.cab x c hfn hc)))).trans e1⟩
  ·obtain ⟨o',e1⟩:=I.base.there b o e hx
   exact ⟨o',(hs.2 b (Nat.ne_of_lt (Nat.lt_of_lt_of_le (Heap.lt_size e) (I.ok.cab x c hfn hc)))).trans e1⟩
  ·by_cases hj:j = i
   ·subst hj
    rw [hi] at e1; cases e1
    rw [List.getElem?_set_self hiσ] at e2
    cases e2
    exact ⟨u,r,.inr ⟨.inl hk,c,hc,hc'⟩⟩
   ·rw [List.getElem?_set_ne (Ne.symm hj)] at e2
    obtain ⟨u',r',q⟩:=hl j y v' e1 e2 e3
    refine ⟨u',r',?_⟩
    rcases q with q | ⟨k,c',e,z'⟩
    ·exact .inl q
    ·refine .inr ⟨k,c',e,z'.sameBut hs ?_⟩
     rintro rfl
     exact hj (c6h hN e1 (I.ok.inj _ _ _ e hc ▸ hi))
  ·by_cases hcc:c' = c
   ·subst hcc; exact ⟨_,hc'⟩
   ·obtain ⟨w2,z2⟩:=I.cell y c' e
    exact ⟨w2,z2.sameBut hs hcc⟩
  ·obtain ⟨e,n,ne,nf,d⟩:=I.pin p hp
   refine ⟨(hs.2 p.1 ?_).trans e,n,ne,nf,d⟩
   intro q
   rw [q,hoc] at e
   have q':oc = p.2:=Option.some.inj e
   exact d w' (by rw [<- q']; exact hocd)
theorem c6w {M:Model} {A:Around} {E:Value -> Shared -> Prop} {i:Nat} {x:Str} {v:V} {u:Value} {Q:Unit -> Shared -> Prop} (I:Inv X pins σ H s) (hN:X.N.Nodup) (hi:X.N[i]? = some x) (hx:Loc X.env.scope x) (r:RelV v u)
 (h:∀ s',Inv X pins (σ.set i (some v)) H s' -> Q () s') (hf:X.fn x = true ∨ X.env.scope.names.lookup x = some .local:=by first | exact .inl rfl | exact .inr rfl | assumption):wpAny M A (storeName X.env x u) Q E s :=
 c3F I hN hi hx r (fun s' I' _ => h s' I') hf
theorem Inv.call' {s':Shared} {ch:List Addr} (I:Inv X pins σ H s) (ho:s'.os = s.os) (u:Un (frs X.stack) ch H H' s.heap s'.heap) (hok:HOk X.prog X.w H' s'.heap) (hg:AllBare s'.gens)
 (hch:∀ b ∈ ch,(b ∈ X.ex ∨ X.s₀.heap.objs.size <= b) /\ b ≠ X.env.locals /\ (∀ x c,X.env.cells.lookup x = some c -> c ≠ b) /\ ∀ p ∈ X.pn ++ pins,p.1 ≠ b):Inv X pins σ H' s':=by
 obtain ⟨h',g',d',t',o'⟩:=s'
 have e:o' = s.os:=ho
 subst e
 exact I.call (g':=g') (t':=t') (d':=d') u hok hg hch
end
abbrev XK:=Value -> Option Addr -> Hp -> Prop
abbrev St:=List (Option V)
abbrev VK:=V -> Hp -> Prop
abbrev TE:=St -> Hp -> VK -> Prop
abbrev TT:=St -> Hp -> (Bool -> Hp -> Prop) -> Prop
abbrev TA:=St -> Hp -> (List V -> Hp -> Prop) -> Prop
structure Ends where
 nx:St -> Hp -> Prop
 rt:VK
 bk:St -> Hp -> Prop:=fun _ _ => False
 ct:St -> Hp -> Prop:=fun _ _ => False
abbrev TS:=Ends -> St -> Hp -> Prop
def EP (X:Cx) (pins:List (Addr × Obj)) (σ:St) (Q:VK) (u:Value) (s':Shared):Prop:=∃ v H',Inv X pins σ H' s' /\ RelV v u /\ Q v H'
def TP (X:Cx) (pins:List (Addr × Obj)) (σ:St) (Q:Bool -> Hp -> Prop) (b:Bool) (s':Shared):Prop:=∃ H',Inv X pins σ H' s' /\ Q b H'
def AP (X:Cx) (pins:List (Addr × Obj)) (σ:St) (Q:List V -> Hp -> Prop) (us:List Value) (s':Shared):Prop:=∃ vs H',Inv X pins σ H' s' /\ Vals vs us /\ Q vs H'
def SP (X:Cx) (pins:List (Addr × Obj)) (D:Ends) (f:Flow) (s':Shared):Prop :=
 match f with
 | .next => ∃ σ' H',Inv X pins σ' H' s' /\ D.nx σ' H'
 | .brk => ∃ σ' H',Inv X pins σ' H' s' /\ D.bk σ' H'
 | .cont => ∃ σ' H',Inv X pins σ' H' s' /\ D.ct σ' H'
 | .ret u => ∃ v σ' H',Inv X pins σ' H' s' /\ RelV v u /\ D.rt v H'
def PE (X:Cx) (e:Expr) (t:TE):Prop :=
 ∀ (pins:List (Addr × Obj)) (s:Shared) (σ:St) (H:Hp) (Q:VK),Inv X pins σ H s -> t σ H Q -> wpAny (model X.prog X.w) X.A (eval e X.env) (EP X pins σ Q) X.xe s
def PT (X:Cx) (e:Expr) (t:TT):Prop :=
 ∀ (pins:List (Addr × Obj)) (s:Shared) (σ:St) (H:Hp) (Q:Bool -> Hp -> Prop),Inv X pins σ H s -> t σ H Q -> wpAny (model X.prog X.w) X.A (isTrue e X.env (eval e X.env)) (TP X pins σ Q) X.xe s
def PW (X:Cx) (e:Expr) (t:TT):Prop :=
 ∀ (whole:Sem Value) (pins:List (Addr × Obj)) (s:Shared) (σ:St) (H:Hp) (Q:Bool -> Hp -> Prop),Inv X pins σ H s -> t σ H Q -> wpAny (model X.prog X.w) X.A (isTrue e X.env whole) (TP X pins σ Q) X.xe s
theorem PW.pt {X:Cx} {e:Expr} {t:TT} (h:PW X e t):PT X e t:=h _
def PA (X:Cx) (es:List Expr) (t:TA):Prop :=
 ∀ (pos:Pos) (pins:List (Addr × Obj)) (s:Shared) (σ:St) (H:Hp) (Q:List V -> Hp -> Prop),Inv X pins σ H s -> t σ H Q -> wpAny (model X.prog X.w) X.A (spliced (backTo pos (starEach es X.env))) (AP X pins σ Q) X.xe s
def PS (X:Cx) (st:Stmt) (t:TS):Prop :=
 ∀ (pins:List (Addr × Obj)) (s:Shared) (σ:St) (H:Hp) (D:Ends),Inv X pins σ H s -> t D σ H -> wpAny (model X.prog X.w) X.A (exec st X.env) (SP X pins D) X.xe s
def PSs (X:Cx) (st:List Stmt) (t:TS):Prop :=
 ∀ (pins:List (Addr × Obj)) (s:Shared) (σ:St) (H:Hp) (D:Ends),Inv X pins σ H s -> t D σ H -> wpAny (model X.prog X.w) X.A (execs st X.env) (SP X pins D) X.xe s
theorem thn {α:Type} {t:Sem α} {Q Q':α -> Shared -> Prop} {M:Model} {A:Around} {E:Value -> Shared -> Prop} {s:Shared} (h:wpAny M A t Q E s) (hQ:∀ a s,Q a s -> Q' a s):wpAny M A t Q' E s:=wpAny_mono h hQ fun _ _ x => x
end L2
namespace L2
open PySem PySem.Spec PyProof.Rows
section
variable {X:Cx}
theorem bin {a b:Expr} {ta tb:TE} (ha:PE X a ta) (hb:PE X b tb) {pins:List (Addr × Obj)} {s:Shared} {σ:St} {H:Hp} {R:V -> V -> Hp -> Prop} (I:Inv X pins σ H s) (h:ta σ H fun x H1 => tb σ H1 fun y H2 => R x y H2)
 {α:Type} {Q:α -> Shared -> Prop} {f:Value -> Value -> Sem α}
 (hf:∀ v u s2 x y H2,Inv X pins σ H2 s2 -> RelV x v -> RelV y u -> R x y H2 -> wpAny (model X.prog X.w) X.A (f v u) Q X.xe s2) :
 wpAny (model X.prog X.w) X.A (eval a X.env) (fun v s₁ => wpAny (model X.prog X.w) X.A (eval b X.env) (fun u s₂ => wpAny (model X.prog X.w) X.A (f v u) Q X.xe s₂) X.xe s₁) X.xe s:=by
 refine thn (ha pins s σ H _ I h) fun v s1 ⟨x,H1,I1,r1,q1⟩ => ?_
 refine thn (hb pins s1 σ H1 _ I1 q1) fun u s2 ⟨y,H2,I2,r2,q2⟩ => ?_
 exact hf v u s2 x y H2 I2 r1 r2 q2
def tVar (i:Nat):TE:=fun σ H Q => ∃ v,σ[i]? = some (some v) /\ Q v H
def tC (v:V):TE:=fun _ H Q => Q v H
theorem c9Q {i:Nat} {x:Str} {pos:Pos} (hN:X.N[i]? = some x) (hv:Vis X.env.scope x) (hd:(x == ("__debug__" : Str)) = false:=by decide) (hcd:(x == ("__classdict__" : Str)) = false:=by decide):PE X (.Name x pos) (tVar i):=by
 intro pins s σ H Q I h
 obtain ⟨v,e,h⟩:=h
 obtain ⟨m,hn,hl⟩:=I.loc
 obtain ⟨u,r,l⟩:=hl i x v hN e hv
 have fin:EP X pins σ Q u s:=⟨v,H,I,r,h⟩
 rcases l with ⟨hk,hm⟩ | ⟨hk,c,hc,hcell⟩
 ·exact wpAny_Name (wpAny_loadName_local I.ok.kind hk hn hm fin) hd
 ·rcases hk with hk | hk
  ·exact wpAny_Name (wpAny_loadName_cell I.ok.kind hk hc hcell fin) hd
  ·exact wpAny_Name (wpAny_loadName_free I.ok.kind hk hc hcell fin hcd) hd
theorem a0p {i j pos}:PE X (.Constant (.int i) j pos) (tC (.int i)):=fun _ _ _ H _ I h => wpAny_Constant_int ⟨.int i,H,I.tok _,⟨_,rfl⟩,h⟩
theorem c6Q {b j pos}:PE X (.Constant (.bool b) j pos) (tC (.bl b)):=fun _ _ _ H _ I h => Constant_bool ⟨.bl b,H,I,rfl,h⟩
theorem a6q {j pos}:PE X (.Constant .none j pos) (tC .non):=fun _ _ _ H _ I h => Constant_none ⟨.non,H,I,rfl,h⟩
theorem a1o {x j pos}:PE X (.Constant (.str x) j pos) (tC (.str x)):=fun _ _ _ H _ I h => Calls.Constant_str ⟨.str x,H,I.tok _,⟨_,rfl⟩,h⟩
def Gl (X:Cx) (x:Str):Prop:=X.env.kindOf x = some .globalImplicit
theorem b6Y {E:Value -> Shared -> Prop} {pins:List (Addr × Obj)} {s:Shared} {σ:St} {H:Hp} {x:Str} {u:Value} {pos:Pos} {Q:Value -> Shared -> Prop} (I:Inv X pins σ H s) (hg:Gl X x) (hm:X.mg x = some u) (h:Q u s)
 (hd:(x == ("__debug__" : Str)) = false:=by decide):wpAny (model X.prog X.w) X.A (eval (.Name x pos) X.env) Q E s :=
 Calls.Name_function_global I.ok.kind hg (Calls.loadGlobal_global (by rw [I.ok.glob]; exact I.mod.glob.keeps I.bk) hm h) hd
theorem b9D {E:Value -> Shared -> Prop} {pins:List (Addr × Obj)} {s:Shared} {σ:St} {H:Hp} {x:Str} {u:Value} {pos:Pos} {Q:Value -> Shared -> Prop} (I:Inv X pins σ H s) (hg:Gl X x) (hm:X.mg x = none) (hv:bootBuiltins x = some u) (h:Q u s)
 (hn:x ≠ "__name__" := by decide) (hd:(x == ("__debug__" : Str)) = false:=by decide):wpAny (model X.prog X.w) X.A (eval (.Name x pos) X.env) Q E s:=by
 obtain ⟨mb,h1,h2⟩:=I.mod.blt
 exact Calls.Name_function_global I.ok.kind hg (Calls.loadGlobal_builtin (by rw [I.ok.glob]; exact I.mod.glob.keeps I.bk) hm (by rw [I.ok.blt]; exact h1.keeps I.bk) ((h2 x hn).trans hv) h) hd
theorem c4V {x:Str} {v:V} {u:Value} {pos:Pos} (hg:Gl X x) (hm:X.mg x = some u) (r:RelV v u) (hd:(x == ("__debug__" : Str)) = false:=by decide):PE X (.Name x pos) (tC v) :=
 fun _ _ _ H _ I h => b6Y I hg hm ⟨v,H,I,r,h⟩ hd
theorem d0t {x:Str} {v:V} {u:Value} {pos:Pos} (hg:Gl X x) (hm:X.mg x = none) (hv:bootBuiltins x = some u) (r:RelV v u) (hn:x ≠ "__name__" := by decide) (hd:(x == ("__debug__" : Str)) = false:=by decide):PE X (.Name x pos) (tC v) :=
 fun _ _ _ H _ I h => b9D I hg hm hv ⟨v,H,I,r,h⟩ hn hd
variable {a b:Expr} {ta tb:TE} {pos:Pos}
def PC (X:Cx) (op:CmpOp) (a b:Expr) (t:TE):Prop :=
 ∀ (pins:List (Addr × Obj)) (s:Shared) (σ:St) (H:Hp) (Q:VK),Inv X pins σ H s -> t σ H Q ->
  wpAny (model X.prog X.w) X.A (eval a X.env) (fun v s₁ => wpAny (model X.prog X.w) X.A (eval b X.env) (fun u s₂ => wpAny (model X.prog X.w) X.A (compareOp op v u) (EP X pins σ Q) X.xe s₂) X.xe s₁) X.xe s
theorem c6j (b:Expr) {op:CmpOp} (h:op ≠ .In) (h2:op ≠ .NotIn):behindInMarks op b = false:=by
 have e1:(op == CmpOp.In) = false:=by cases op <;> first | rfl | exact absurd rfl h
 have e2:(op == CmpOp.NotIn) = false:=by cases op <;> first | rfl | exact absurd rfl h2
 cases b <;> simp [behindInMarks,e1,e2]
def tB (t:TE):TT:=fun σ H Q => t σ H fun x H1 => ∃ c,x = .bl c /\ Q c H1
theorem c8q {op:CmpOp} {t:TE} (h:PC X op a b t) (h1:behindInMarks op b = false:=by first | exact c6j _ (by decide) (by decide) | rfl):PE X (.Compare a [op] [b] pos) t:=fun pins s σ H Q I hw => wpAny_Compare1 (h pins s σ H Q I hw) h1
theorem a7S {op:CmpOp} {t:TE} (h:PC X op a b t) (h1:behindInMarks op b = false:=by first | exact c6j _ (by decide) (by decide) | rfl):PT X (.Compare a [op] [b] pos) (tB t):=by
 intro pins s σ H Q I hw
 refine wpAny_isTrue_Compare1 (thn (h pins s σ H _ I hw) fun v s1 h1 => thn h1 fun u s2 h2 => thn h2 fun c s3 ⟨x,H1,I1,r1,q1⟩ => ?_) h1
 obtain ⟨d,rfl,q⟩:=q1
 cases r1
 exact wpAny_truthy_bool ⟨H1,I1,q⟩
theorem a1w {e:Expr} {t:TE} (h:PE X e t) (he:∀ whole,isTrue e X.env whole = (do let v <- whole; standAt e.pos; holding [v] (truthy v)):=by intro _; rfl):PT X e (tB t):=by
 intro pins s σ H Q I hw
 refine isTrue_plain (thn (h pins s σ H _ I hw) fun v s1 ⟨x,H1,I1,r1,q1⟩ => ?_) (he _)
 obtain ⟨d,rfl,q⟩:=q1
 cases r1
 exact wpAny_truthy_bool ⟨H1,I1,q⟩
variable {tA tB':TT} {rest:List Expr}
def tAnd (t u:TT):TT:=fun σ H Q => t σ H fun c H1 => if c = true then u σ H1 Q else Q false H1
def tOr (t u:TT):TT:=fun σ H Q => t σ H fun c H1 => if c = true then Q true H1 else u σ H1 Q
def tNot (t:TT):TT:=fun σ H Q => t σ H fun c H1 => Q (!c) H1
theorem b2p (ha:PT X a tA):PW X (.BoolOp .And [a] pos) tA:=by
 intro wh pins s σ H Q I h
 refine isTrue_and (thn (ha pins s σ H Q I h) fun c s1 e => ?_)
 cases c with
 | true => exact isTrue_and_nil e
 | false => exact e
theorem b3E (ha:PT X a tA):PW X (.BoolOp .Or [a] pos) tA:=by
 intro wh pins s σ H Q I h
 refine isTrue_or (thn (ha pins s σ H Q I h) fun c s1 e => ?_)
 cases c with
 | false => exact isTrue_or_nil e
 | true => exact e
theorem b74 (ha:PT X a tA) (hb:PW X (.BoolOp .And (b :: rest) pos) tB'):PW X (.BoolOp .And (a :: b :: rest) pos) (tAnd tA tB'):=by
 intro wh pins s σ H Q I h
 refine isTrue_and (thn (ha pins s σ H _ I h) fun c s1 ⟨H1,I1,q1⟩ => ?_)
 cases c with
 | true => exact hb wh pins s1 σ H1 Q I1 q1
 | false => exact ⟨H1,I1,q1⟩
theorem b85 (ha:PT X a tA) (hb:PW X (.BoolOp .Or (b :: rest) pos) tB'):PW X (.BoolOp .Or (a :: b :: rest) pos) (tOr tA tB'):=by
 intro wh pins s σ H Q I h
 refine isTrue_or (thn (ha pins s σ H _ I h) fun c s1 ⟨H1,I1,q1⟩ => ?_)
 cases c with
 | true => exact ⟨H1,I1,q1⟩
 | false => exact hb wh pins s1 σ H1 Q I1 q1
theorem a23 (ha:PT X a tA):PT X (.UnaryOp .Not a pos) (tNot tA):=by
 intro pins s σ H Q I h
 exact isTrue_not (ha pins s σ H (fun c H1 => Q (!c) H1) I h)
def d2W (ta tb:TE):TE:=fun σ H Q => ta σ H fun x H1 => ∃ c,x = .bl c /\ if c = true then tb σ H1 Q else Q (.bl false) H1
def tOrV (ta tb:TE):TE:=fun σ H Q => ta σ H fun x H1 => ∃ c,x = .bl c /\ if c = true then Q (.bl true) H1 else tb σ H1 Q
def d2X (ta:TE):TE:=fun σ H Q => ta σ H fun x H1 => ∃ c,x = .bl c /\ Q (.bl (!c)) H1
theorem b7w {op} {t:TE} (h:PE X a t):PE X (.BoolOp op [a] pos) t:=fun pins s σ H Q I hw => BoolOp_one (h pins s σ H Q I hw)
theorem b7Q (ha:PE X a ta) (hb:PE X (.BoolOp .And (b :: rest) pos) tb):PE X (.BoolOp .And (a :: b :: rest) pos) (d2W ta tb):=by
 intro pins s σ H Q I h
 refine BoolOp_and (thn (ha pins s σ H _ I h) fun v s1 ⟨x,H1,I1,r1,q1⟩ => ?_)
 obtain ⟨c,rfl,q1⟩:=q1
 cases r1
 refine wpAny_truthy_bool ?_
 cases c with
 | true => exact hb pins s1 σ H1 Q I1 q1
 | false => exact ⟨.bl false,H1,I1,rfl,q1⟩
theorem d2M (ha:PE X a ta) (hb:PE X (.BoolOp .Or (b :: rest) pos) tb):PE X (.BoolOp .Or (a :: b :: rest) pos) (tOrV ta tb):=by
 intro pins s σ H Q I h
 refine BoolOp_or (thn (ha pins s σ H _ I h) fun v s1 ⟨x,H1,I1,r1,q1⟩ => ?_)
 obtain ⟨c,rfl,q1⟩:=q1
 cases r1
 refine wpAny_truthy_bool ?_
 cases c with
 | false => exact hb pins s1 σ H1 Q I1 q1
 | true => exact ⟨.bl true,H1,I1,rfl,q1⟩
theorem d1M (ha:PE X a ta):PE X (.UnaryOp .Not a pos) (d2X ta):=by
 intro pins s σ H Q I h
 refine UnaryOp_ (thn (ha pins s σ H _ I h) fun v s1 ⟨x,H1,I1,r1,q1⟩ => ?_)
 obtain ⟨c,rfl,q1⟩:=q1
 cases r1
 exact not_of (wpAny_truthy_bool ⟨.bl (!c),H1,I1,rfl,q1⟩)
end
end L2
namespace L2
open PySem PySem.Spec PyProof.Rows
def SqL (K:PySem.W.Frag) (H:Hp) (a:Addr) (xs:List V):Prop :=
 Rd H a (.lst xs) ∨
  ∃ (o:Obj) (its:Array Value) (n:Nat),K.lookup a = some o /\ o.cls = .type "list" /\ o.dict = none /\ o.data = .seq its n /\ its.size <= sizeLine /\ Vals xs its.toList
def SqT (K:PySem.W.Frag) (H:Hp) (a:Addr) (xs:List V):Prop :=
 Rd H a (.tup xs) ∨
  ∃ (o:Obj) (its:Array Value) (n:Nat),K.lookup a = some o /\ o.cls = .type "tuple" /\ o.data = .seq its n /\ its.size <= sizeLine /\ Vals xs its.toList
def absV:Value -> Option V
 | .none => some .non
 | .bool b => some (.bl b)
 | .int i _ => some (.int i)
 | .str x _ => some (.str x)
 | .bytes b _ => some (.byt b)
 | .float b _ => some (.flt b)
 | .ref a => some (.ref a)
 | .type n => some (.ty n)
 | _ => none
theorem RelV.abs {x:V} {u:Value} (r:RelV x u):absV u = some x:=by
 cases x with
 | non => cases r; rfl
 | bl _ => cases r; rfl
 | int _ => obtain ⟨t,rfl⟩:=r; rfl
 | str _ => obtain ⟨t,rfl⟩:=r; rfl
 | byt _ => obtain ⟨t,rfl⟩:=r; rfl
 | flt _ => obtain ⟨t,rfl⟩:=r; rfl
 | ref _ => cases r; rfl
 | ty _ => cases r; rfl
theorem RelV.inj {x y:V} {u:Value} (r:RelV x u) (q:RelV y u):x = y:=Option.some.inj (r.abs.symm.trans q.abs)
theorem Vals.inj:∀ {xs ys:List V} {us:List Value},Vals xs us -> Vals ys us -> xs = ys
 | _,_,_,.nil,.nil => rfl
 | _,_,_,.cons r t,.cons r' t' => by rw [r.inj r',Vals.inj t t']
section
variable {X:Cx} {pins:List (Addr × Obj)} {σ:St} {H:Hp} {s:Shared} {a:Addr} {xs ys:List V}
theorem SqL.of {K:PySem.W.Frag} (h:H a = some (.lst xs)):SqL K H a xs:=.inl (.inl h)
theorem SqT.of {K:PySem.W.Frag} (h:H a = some (.tup xs)):SqT K H a xs:=.inl (.inl h)
theorem Inv.list (I:Inv X pins σ H s) (h:SqL X.K H a xs):∃ its:List Value,Vals xs its /\ PlainL s.heap a its.toArray /\ xs.length <= sizeLine:=by
 rcases h with h | ⟨o,its,n,hk,hc,hd,hs,hz,r⟩
 ·obtain ⟨z,its,n,r,e⟩:=h.ok I.hok
  exact ⟨its,r,⟨_,n,e,rfl,rfl,rfl⟩,z⟩
 ·refine ⟨its.toList,r,⟨o,n,I.kIn a o hk,hc,hd,by simpa using hs⟩,?_⟩
  have e:=r.length
  simp only [Array.length_toList] at e
  omega
theorem Inv.tuple (I:Inv X pins σ H s) (h:SqT X.K H a xs):∃ its:List Value,Vals xs its /\ IsTup s.heap a its.toArray /\ xs.length <= sizeLine:=by
 rcases h with h | ⟨o,its,n,hk,hc,hs,hz,r⟩
 ·obtain ⟨z,its,r,p⟩:=h.ok I.hok
  exact ⟨its,r,p,z⟩
 ·refine ⟨its.toList,r,⟨o,I.kIn a o hk,hc,n,by simpa using hs⟩,?_⟩
  have e:=r.length
  simp only [Array.length_toList] at e
  omega
theorem Inv.list_inj (I:Inv X pins σ H s) (h:SqL X.K H a xs) (h':SqL X.K H a ys):xs = ys:=by
 obtain ⟨its,r,⟨o,n,e,_,_,d⟩,_⟩:=I.list h
 obtain ⟨its',r',⟨o',n',e',_,_,d'⟩,_⟩:=I.list h'
 rw [e] at e'; cases e'
 rw [d] at d'
 injection d' with d1 _
 have:its = its':=by simpa using congrArg Array.toList d1
 subst this
 exact r.inj r'
end
abbrev Cx.wish (X:Cx) (E:Value -> Shared -> Prop):Cx:={ X with xe:=E }
abbrev Cx.nox (X:Cx):Cx:=X.wish fun _ _ => False
theorem Cx.Ok.wish {X:Cx} (ok:X.Ok) (E:Value -> Shared -> Prop):(X.wish E).Ok :=
 ⟨ok.mod,ok.kind,ok.glob,ok.blt,ok.above,ok.inj,ok.has,ok.cab,ok.hd,ok.frames,ok.stk,ok.exf,ok.bs,ok.bsz,ok.noex,ok.exfs,ok.funs,ok.frf⟩
theorem Cx.Ok.unwish {X:Cx} {E:Value -> Shared -> Prop} (ok:(X.wish E).Ok):X.Ok :=
 ⟨ok.mod,ok.kind,ok.glob,ok.blt,ok.above,ok.inj,ok.has,ok.cab,ok.hd,ok.frames,ok.stk,ok.exf,ok.bs,ok.bsz,ok.noex,ok.exfs,ok.funs,ok.frf⟩
section
variable {X:Cx} {pins:List (Addr × Obj)} {σ:St} {H:Hp} {s:Shared} {E:Value -> Shared -> Prop}
theorem Inv.wish (I:Inv X pins σ H s) (E:Value -> Shared -> Prop):Inv (X.wish E) pins σ H s:=⟨I.ok.wish E,I.os,I.bare,I.base,I.loc,I.cell,I.free,I.freeC,I.pin,I.hok,I.len⟩
theorem Inv.unwish (I:Inv (X.wish E) pins σ H s):Inv X pins σ H s:=⟨I.ok.unwish,I.os,I.bare,I.base,I.loc,I.cell,I.free,I.freeC,I.pin,I.hok,I.len⟩
theorem SP.unwish {D:Ends} {f:Flow} {s':Shared} (h:SP (X.wish E) pins D f s'):SP X pins D f s':=by
 cases f with
 | next => obtain ⟨σ',H',I,q⟩:=h; exact ⟨σ',H',I.unwish,q⟩
 | brk => obtain ⟨σ',H',I,q⟩:=h; exact ⟨σ',H',I.unwish,q⟩
 | cont => obtain ⟨σ',H',I,q⟩:=h; exact ⟨σ',H',I.unwish,q⟩
 | ret u => obtain ⟨v,σ',H',I,r,q⟩:=h; exact ⟨v,σ',H',I.unwish,r,q⟩
theorem PSs.nox {st:List Stmt} {t:TS} (h:PSs X.nox st t):PSs X st t:=fun pins s σ H D I hw =>
 wpAny_mono (h pins s σ H D (I.wish _) hw) (fun _ _ q => q.unwish) fun _ _ z => False.elim z
end
section
variable {X:Cx} {st:Stmt} {rest:List Stmt} {t u:TS} {e:Expr} {te:TE} {pos:Pos}
def d2G:TS:=fun D σ H => D.nx σ H
def tSeq (t u:TS):TS:=fun D σ H => t { D with nx:=u D } σ H
theorem a0q:PSs X [] d2G:=fun _ _ σ H _ I h => wpAny_execs_nil ⟨σ,H,I,h⟩
theorem a0d (h1:PS X st t) (h2:PSs X rest u):PSs X (st :: rest) (tSeq t u):=by
 intro pins s σ H D I h
 refine wpAny_execs_cons (thn (h1 pins s σ H { D with nx:=u D } I h) fun f s1 q => ?_)
 cases f with
 | next =>
  obtain ⟨σ',H',I',q⟩:=q
  exact h2 pins s1 σ' H' D I' q
 | ret v => exact q
 | brk => exact q
 | cont => exact q
theorem a0e (h1:PS X st t):PSs X [st] t:=by
 intro pins s σ H D I h
 refine wpAny_execs_cons (thn (h1 pins s σ H D I h) fun f s1 q => ?_)
 cases f with
 | next => exact wpAny_execs_nil q
 | ret v => exact q
 | brk => exact q
 | cont => exact q
theorem Inv.quiet {pins:List (Addr × Obj)} {σ:St} {H:Hp} {s:Shared} (I:Inv X pins σ H s):interactive X.env = false:=by simp [interactive,I.ok.kind]
def d2K (te:TE):TS:=fun D σ H => te σ H fun _ H1 => D.nx σ H1
theorem a0t (he:PE X e te) (hs:swapsWith e none pos.line X.env = pure false:=by rfl):PS X (.Expr e pos) (d2K te):=by
 intro pins s σ H D I h
 exact wpAny_Expr_any (thn (he pins s σ H _ I h) fun v s1 ⟨x,H1,I1,r1,q1⟩ => ⟨σ,H1,I1,q1⟩) I.quiet hs
def tRet (te:TE):TS:=fun D σ H => te σ H D.rt
theorem a0v (he:PE X e te):PS X (.Return (some e) pos) (tRet te):=by
 intro pins s σ H D I h
 exact wpAny_Return_some (thn (he pins s σ H _ I h) fun v s1 ⟨x,H1,I1,r1,q1⟩ => ⟨x,σ,H1,I1,r1,q1⟩)
def tIfS (c:TT) (t u:TS):TS:=fun D σ H => c σ H fun b H1 => if b = true then t D σ H1 else u D σ H1
theorem a0E {c:Expr} {a b:List Stmt} {tc:TT} (hc:PT X c tc) (ha:PSs X a t) (hb:PSs X b u):PS X (.If c a b pos) (tIfS tc t u):=by
 intro pins s σ H D I h
 refine wpAny_If (thn (hc pins s σ H _ I h) fun d s1 ⟨H1,I1,q1⟩ => ?_)
 cases d with
 | true => exact ha pins s1 σ H1 D I1 q1
 | false => exact hb pins s1 σ H1 D I1 q1
end
abbrev TG:=V -> St -> Hp -> (St -> Hp -> Prop) -> Prop
abbrev TGs:=List V -> St -> Hp -> (St -> Hp -> Prop) -> Prop
def PG (X:Cx) (target:Expr) (t:TG):Prop :=
 ∀ (pins:List (Addr × Obj)) (s:Shared) (σ:St) (H:Hp) (v:V) (u:Value) (Q:St -> Hp -> Prop),Inv X pins σ H s -> RelV v u -> t v σ H Q ->
  wpAny (model X.prog X.w) X.A (assign target X.env u) (fun _ s' => ∃ σ' H',Inv X pins σ' H' s' /\ Q σ' H') X.xe s
def PGs (X:Cx) (ts:List Expr) (t:TGs):Prop :=
 ∀ (pins:List (Addr × Obj)) (s:Shared) (σ:St) (H:Hp) (vs:List V) (us:List Value) (Q:St -> Hp -> Prop),Inv X pins σ H s -> Vals vs us -> t vs σ H Q ->
  wpAny (model X.prog X.w) X.A (assignInOrder ((assignEach ts X.env).map (·.2)) us) (fun _ s' => ∃ σ' H',Inv X pins σ' H' s' /\ Q σ' H') X.xe s
abbrev TSet:=V -> V -> V -> Hp -> (Hp -> Prop) -> Prop
def PSet (X:Cx) (t:TSet):Prop :=
 ∀ (pins:List (Addr × Obj)) (s:Shared) (σ:St) (H:Hp) (o i v:V) (ov iv u:Value) (Q:Hp -> Prop),Inv X pins σ H s -> RelV o ov -> RelV i iv -> RelV v u -> t o i v H Q ->
  wpAny (model X.prog X.w) X.A (setItem ov iv u) (fun _ s' => ∃ H',Inv X pins σ H' s' /\ Q H') X.xe s
section
variable {X:Cx} {pos:Pos}
def c7l (i:Nat):TG:=fun v σ H Q => Q (σ.set i (some v)) H
theorem a35 {i:Nat} {x:Str} (hN:X.N.Nodup) (hi:X.N[i]? = some x) (hx:Loc X.env.scope x) (hf:X.fn x = true ∨ X.env.scope.names.lookup x = some .local:=by first | exact .inl rfl | exact .inr rfl | assumption):PG X (.Name x pos) (c7l i):=by
 intro pins s σ H v u Q I r h
 exact wpAny_assign_Name (c6w I hN hi hx r (fun s' I' => ⟨_,H,I',h⟩) hf)
def gNil:TGs:=fun vs σ H Q => vs = [] /\ Q σ H
def d23 (t:TG) (u:TGs):TGs:=fun vs σ H Q => ∃ v r,vs = v :: r /\ t v σ H fun σ' H' => u r σ' H' Q
theorem d0r:PGs X [] gNil:=by
 intro pins s σ H vs us Q I r h
 obtain ⟨e,h⟩:=h
 subst e
 cases r
 exact assignInOrder_nil ⟨σ,H,I,h⟩
theorem c6F {e:Expr} {es:List Expr} {t:TG} {u:TGs} (h1:PG X e t) (h2:PGs X es u)
 (hs:(assignEach (e :: es) X.env).map (·.2) = assign e X.env :: (assignEach es X.env).map (·.2):=by rfl):PGs X (e :: es) (d23 t u):=by
 intro pins s σ H vs us Q I r h
 obtain ⟨v,vr,e1,h⟩:=h
 subst e1
 cases r with
 | cons r rr =>
  rw [hs]
  refine assignInOrder_cons (thn (h1 pins s σ H _ _ _ I r h) fun _ s1 ⟨σ1,H1,I1,q1⟩ => ?_)
  exact h2 pins s1 σ1 H1 _ _ Q I1 rr q1
def gTup (K:PySem.W.Frag) (n:Nat) (t:TGs):TG:=fun v σ H Q => ∃ a xs,v = .ref a /\ SqT K H a xs /\ xs.length = n /\ t xs σ H Q
theorem d2s {es:List Expr} {k:Nat} {t:TGs} {n:Nat} (hc:X.calm = true) (h:PGs X es t)
 (hn:(assignEach es X.env).length = n:=by rfl) (hst:(assignEach es X.env).findIdx? (·.1) = none:=by rfl):PG X (.Tuple es k pos) (gTup X.K n t):=by
 intro pins s σ H v u Q I r hw
 obtain ⟨a,xs,e1,hq,hl,hw⟩:=hw
 subst e1
 cases r
 obtain ⟨its,rv,ht,hz⟩:=I.tuple hq
 refine assign_Tuple_tuple (I.ok.hd hc) ht (by simp [hn,<- hl,rv.length]) hst fun h' hx => ?_
 have I1:Inv X pins σ H { s with heap:=h' }:=I.kept (t':=s.toks) fun b o e => hx b o (Nat.ne_of_lt (Heap.lt_size e)) e
 exact h pins _ σ H xs _ Q I1 (by simpa using rv) hw
def gSub (to ti:TE) (t:TSet):TG:=fun v σ H Q => to σ H fun o H1 => ti σ H1 fun i H2 => t o i v H2 fun H3 => Q σ H3
theorem c8y {o i:Expr} {to ti:TE} {t:TSet} (ho:PE X o to) (hi:PE X i ti) (hs:PSet X t)
 (ha:∀ v,assign (.Subscript o i pos) X.env v = (do
  let ov <- holding [v] (eval o X.env)
  let iv <- holding [v,ov] (eval i X.env)
  standAt pos
  holding [v,ov,iv] (setItem ov iv v)
  release [v,ov,iv] []):=by intro _; rfl):PG X (.Subscript o i pos) (gSub to ti t):=by
 intro pins s σ H v u Q I r h
 rw [ha]
 refine wpAny_bind (wpAny_holding (thn (ho pins s σ H _ I h) fun ov s1 ⟨x,H1,I1,r1,q1⟩ => ?_))
 refine wpAny_bind (wpAny_holding (thn (hi pins s1 σ H1 _ I1 q1) fun iv s2 ⟨y,H2,I2,r2,q2⟩ => ?_))
 refine wpAny_bind (wpAny_standAt (wpAny_bind (wpAny_holding (thn (hs pins s2 σ H2 x y v ov iv u _ I2 r1 r2 r q2) fun _ s3 ⟨H3,I3,q3⟩ => ?_))))
 exact wpAny_release ⟨σ,H3,I3,q3⟩
def tAsg (te:TE) (g:TG):TS:=fun D σ H => te σ H fun x H1 => g x σ H1 D.nx
theorem c8j {tg e:Expr} {te:TE} {g:TG} (he:PE X e te) (hg:PG X tg g) (hs:swapsWithSole [tg] e pos.line X.env = pure false:=by rfl) (hw:swappedStores [tg] e X.env = pure none:=by rfl)
 (h1:(assignEach [tg] X.env).map (·.2) = [assign tg X.env]:=by rfl):PS X (.Assign [tg] e pos) (tAsg te g):=by
 intro pins s σ H D I h
 refine wpAny_Assign_stores (thn (he pins s σ H _ I h) fun v s1 ⟨x,H1,I1,r1,q1⟩ => ?_) hs hw
 rw [h1]
 exact thn (hg pins s1 σ H1 x v _ I1 r1 q1) fun _ s2 q => q
theorem a0B {i:Nat} {x:Str} {e:Expr} {te:TE} {pos':Pos} (hN:X.N.Nodup) (hi:X.N[i]? = some x) (hx:Loc X.env.scope x) (he:PE X e te) (hs:swapsWith e (some (.Name x pos')) pos.line X.env = pure false:=by rfl) (hf:X.fn x = true ∨ X.env.scope.names.lookup x = some .local:=by first | exact .inl rfl | exact .inr rfl | assumption) :
 PS X (.Assign [.Name x pos'] e pos) (tAsg te (c7l i)):=by
 intro pins s σ H D I h
 refine wpAny_Assign_Name (thn (he pins s σ H _ I h) fun v s1 ⟨y,H1,I1,r1,q1⟩ => ?_) hs
 exact c6w I1 hN hi hx r1 (fun s2 I2 => ⟨_,H1,I2,q1⟩) hf
end
section
variable {X:Cx} {pos:Pos}
def d1q (c:TT) (tb:TS):TS:=fun D σ H => ∃ W:Nat -> St -> Hp -> Prop,(∃ m,W m σ H) /\ ∀ m σ H,W m σ H ->
 c σ H fun b H1 => if b = true then ∃ N:St -> Hp -> Prop,(∀ σ' H',N σ' H' -> ∃ m',m' < m /\ W m' σ' H') /\ tb { D with nx:=N,ct:=N,bk:=D.nx } σ H1 else D.nx σ H1
theorem c0l {c:Expr} {body:List Stmt} {tc:TT} {tb:TS} (hp:PassesOwn (model X.prog X.w) X.A X.env X.xe) (hc:PT X c tc) (hb:PSs X body tb):PS X (.While c body [] pos) (d1q tc tb):=by
 intro pins s σ H D I h
 obtain ⟨W,⟨m0,w0⟩,turn⟩:=h
 refine wpAny_While (codeAny_whileLoop (fun n s' => ∃ σ' H',Inv X pins σ' H' s' /\ W n σ' H') ?_ m0 ⟨σ,H,I,w0⟩)
 rintro n s1 ⟨σ1,H1,I1,w1⟩
 refine wpAny_passesOwn hp (thn (hc pins s1 σ1 H1 _ I1 (turn n σ1 H1 w1)) fun b s2 ⟨H2,I2,q2⟩ => ?_)
 cases b with
 | true =>
  obtain ⟨N,hN,q2⟩:=q2
  rw [if_pos rfl]
  refine wpAny_passesOwn hp (thn (hb pins s2 σ1 H2 _ I2 q2) fun f s3 q3 => ?_)
  cases f with
  | next =>
   obtain ⟨σ3,H3,I3,n3⟩:=q3
   obtain ⟨m',hm,w3⟩:=hN σ3 H3 n3
   exact ⟨m',hm,σ3,H3,I3,w3⟩
  | cont =>
   obtain ⟨σ3,H3,I3,n3⟩:=q3
   obtain ⟨m',hm,w3⟩:=hN σ3 H3 n3
   exact ⟨m',hm,σ3,H3,I3,w3⟩
  | brk => exact q3
  | ret v => exact q3
 | false =>
  rw [if_neg Bool.false_ne_true]
  exact wpAny_execs_nil ⟨σ1,H2,I2,q2⟩
end
structure It where
 go:Nat -> Hp -> Prop
 yld:Nat -> Hp -> V -> Hp -> Prop
 stop:Nat -> Hp -> Prop
def FpOk (X:Cx) (pins:List (Addr × Obj)) (H:Hp) (b:Addr):Prop :=
 H b = none /\ b ≠ X.env.locals /\ b ∉ X.fs /\ (b ∈ X.ex ∨ X.s₀.heap.objs.size <= b) /\ (∀ x c,X.env.cells.lookup x = some c -> c ≠ b) /\ ∀ p ∈ X.pn ++ pins,p.1 ≠ b
theorem Inv.fpOk {X:Cx} {pins:List (Addr × Obj)} {σ:St} {H H':Hp} {s:Shared} {b:Addr} (I:Inv X pins σ H s) (hb:s.heap.objs.size <= b) (hn:H' b = none):FpOk X pins H' b:=by
 refine ⟨hn,Nat.ne_of_gt (Nat.lt_of_lt_of_le I.lt hb),I.nofs hb,.inr (Nat.le_trans I.sz hb),fun x c e z => ?_,fun p hp z => ?_⟩
 ·obtain ⟨v,q⟩:=I.cell x c e
  exact absurd (Nat.lt_of_lt_of_le q.lt (by rw [z]; exact hb)) (Nat.lt_irrefl _)
 ·exact absurd (Nat.lt_of_lt_of_le (Heap.lt_size (I.pin p hp).1) (by rw [z]; exact hb)) (Nat.lt_irrefl _)
structure Turn (P:Program) (w:World) (K:PySem.W.Frag) (tg:Expr) (J:It) (fp:List Addr) (it:Addr) (tn:Nat -> Heap -> Prop):Prop where
 mem:it ∈ fp
 obj:∀ i h,tn i h -> ∀ b ∈ fp,∃ o,h.get? b = some o /\ ∀ v,o.data ≠ .cell v
 keep:∀ i h h',tn i h -> (∀ b ∈ fp,∀ o,h.get? b = some o -> h'.get? b = some o) -> tn i h'
 item:∀ (X:Cx),X.prog = P -> X.w = w -> X.K = K -> X.calm = true -> ∀ (i:Nat) (pins:List (Addr × Obj)) (s:Shared) (σ:St) (H:Hp) (E:Value -> Shared -> Prop),Inv X pins σ H s -> (∀ b ∈ fp,FpOk X pins H b) -> tn i s.heap -> J.go i H ->
  wpAny (model P w) X.A (pyNext (.ref it)) (fun r s1 => ∃ u,r = some u /\
   wpAny (model P w) X.A (letOwnedTupleGo tg (.ref it) u) (fun _ s2 => ∃ x H',Inv X pins σ H' s2 /\ RelV x u /\ J.yld i H x H' /\ tn (i + 1) s2.heap /\ ∀ b ∈ fp,H' b = none) E s1) E s
 done:∀ (X:Cx),X.prog = P -> X.w = w -> X.K = K -> X.calm = true -> ∀ (i:Nat) (pins:List (Addr × Obj)) (s:Shared) (σ:St) (H:Hp) (E:Value -> Shared -> Prop),Inv X pins σ H s -> (∀ b ∈ fp,FpOk X pins H b) -> tn i s.heap -> J.stop i H ->
  wpAny (model P w) X.A (pyNext (.ref it)) (fun r s1 => r = none /\ Inv X pins σ H s1) E s
 self:∀ (A:Around) (i:Nat) (s:Shared) (Q:Value -> Shared -> Prop) (E:Value -> Shared -> Prop),tn i s.heap -> Q (.ref it) s -> wpAny (model P w) A (pyIter (.ref it)) Q E s
abbrev TI:=St -> Hp -> (It -> Hp -> Prop) -> Prop
def PIE (X:Cx) (pins:List (Addr × Obj)) (σ:St) (tg:Expr) (R:It -> Hp -> Prop) (itv:Value) (s2:Shared):Prop :=
 ∃ (it:Addr) (fp:List Addr) (tn:Nat -> Heap -> Prop) (J:It) (H':Hp),itv = .ref it /\ Inv X pins σ H' s2 /\ Turn X.prog X.w X.K tg J fp it tn /\ tn 0 s2.heap /\ (∀ b ∈ fp,FpOk X pins H' b) /\ R J H'
def PI (X:Cx) (tg iter:Expr) (wi:TI):Prop :=
 ∀ (pins:List (Addr × Obj)) (s:Shared) (σ:St) (H:Hp) (R:It -> Hp -> Prop),Inv X pins σ H s -> wi σ H R ->
  wpAny (model X.prog X.w) X.A (eval iter X.env) (fun v s1 => wpAny (model X.prog X.w) X.A (pyIter v) (PIE X pins σ tg R) X.xe s1) X.xe s
theorem c9H {M:Model} {A:Around} {E:Value -> Shared -> Prop} {s:Shared} {tg:Expr} {it:Addr} {u:Value} {o:Obj} {n:String} {vs:Array Value} {Q:Unit -> Shared -> Prop} (ho:s.heap.get? it = some o) (hc:o.cls = .type n) (hd:o.data = .fields vs)
 (hn:["enumerate", "zip", "dict_itemiterator", "dict_reverseitemiterator", "odict_iterator", "itertools.zip_longest", "itertools.pairwise"].contains n = false) (hQ:Q () s):wpAny M A (letOwnedTupleGo tg (.ref it) u) Q E s:=by
 unfold letOwnedTupleGo
 cases tg <;> first
  | exact wpAny_pure hQ
  | (cases u <;> first
   | exact wpAny_pure hQ
   | (refine wpAny_bind (wpAny_load ho ?_)
      rw [hc,hd]
      show wpAny M A (if (["enumerate", "zip", "dict_itemiterator", "dict_reverseitemiterator", "odict_iterator", "itertools.zip_longest", "itertools.pairwise"].contains n && vs[0]? == some (rawInt _)) = true then _ else _) Q E s
      rw [if_neg (by intro h; rw [hn,Bool.false_and] at h; cases h)]
      exact wpAny_pure hQ))
def Itl (K:PySem.W.Frag) (a:Addr):It :=
 ⟨fun i H => ∃ xs x,SqL K H a xs /\ xs[i]? = some x,fun i H x H' => H' = H /\ ∀ xs,SqL K H a xs -> xs[i]? = some x,fun i H => ∃ xs,SqL K H a xs /\ xs.length <= i⟩
def Itr (lo:Int) (n:Nat):It:=⟨fun i _ => i < n,fun i H x H' => H' = H /\ x = .int (lo + i),fun i _ => n <= i⟩
theorem c7r {P:Program} {w:World} {K:PySem.W.Frag} {tg:Expr} (a it:Addr):Turn P w K tg (Itl K a) [it] it (fun i h => h.IsListIter it a i) where
 mem:=by simp
 obj:=fun i h st b hb => by
  have e:b = it:=by simpa using hb
  subst e
  obtain ⟨o,e,c,d⟩:=st
  exact ⟨o,e,fun v z => by rw [d] at z; cases z⟩
 keep:=fun i h h' st k => st.at fun o e => k it (by simp) o e
 item:=by
  intro X hP hw hK hc i pins s σ H E I hf st hg
  subst hP hw hK
  obtain ⟨xs,x,hq,hx⟩:=hg
  obtain ⟨its,rv,p,hz⟩:=I.list hq
  obtain ⟨u,hu,ru⟩:=rv.get hx
  obtain ⟨f0,f1,f2,f3,f4,f5⟩:=hf it (by simp)
  refine wpAny_pyNext_list_item st p.isList (x:=u) (by simpa using hu) fun h' st' sb => ?_
  have I1:Inv X pins σ H { s with heap:=h' }:=I.turned (t':=s.toks) (fun b o hb e => (sb.2 b hb).trans e) f0 f1 f3 f4 f5
  obtain ⟨o,e,c,d⟩:=id st'
  exact ⟨u,rfl,c9H (s:={ s with heap:=h' }) e c d (by decide) ⟨x,H,I1,ru,⟨rfl,fun ys hy => by rw [I.list_inj hy hq]; exact hx⟩,st',fun b hb => (hf b hb).1⟩⟩
 done:=by
  intro X hP hw hK hc i pins s σ H E I hf st hg
  subst hP hw hK
  obtain ⟨xs,hq,hx⟩:=hg
  obtain ⟨its,rv,p,hz⟩:=I.list hq
  obtain ⟨f0,f1,f2,f3,f4,f5⟩:=hf it (by simp)
  have hl:=rv.length
  exact wpAny_pyNext_list_end (I.ok.hd hc) st p.isList (by simp; omega) fun h' eb => ⟨rfl,I.turned (t':=s.toks) (fun b o hb e => eb b o hb e) f0 f1 f3 f4 f5⟩
 self:=fun _ _ _ _ _ st h => wpAny_pyIter_listiter st h
theorem c67 {P:Program} {w:World} {K:PySem.W.Frag} {tg:Expr} (it:Addr) (lo:Int) (n:Nat):Turn P w K tg (Itr lo n) [it] it (fun i h => IsRangeIter h it (lo + (i:Nat) * 1) ((n:Int) - (i:Nat)) 1) where
 mem:=by simp
 obj:=fun i h st b hb => by
  have e:b = it:=by simpa using hb
  subst e
  exact ⟨_,st,fun v z => by
   have z':Data.fields _ = Data.cell v:=z
   cases z'⟩
 keep:=fun i h h' st k => k it (by simp) _ st
 item:=by
  intro X hP hw hK hc i pins s σ H E I hf st hg
  subst hP hw hK
  obtain ⟨f0,f1,f2,f3,f4,f5⟩:=hf it (by simp)
  have W:=Walks.range (prog:=X.prog) (w:=X.w) (I.ok.hd hc) it lo 1 n
  refine W.item i s _ _ hg st fun v h' tk hv st' kk => ?_
  obtain ⟨t,rfl⟩:=hv
  have I1:Inv X pins σ H { s with heap:=h',toks:=tk }:=I.turned (fun b o hb e => kk b o (by simpa using hb) e) f0 f1 f3 f4 f5
  refine ⟨_,rfl,c9H (s:={ s with heap:=h',toks:=tk }) (n := "range_iterator") st' rfl rfl (by decide) ⟨.int (lo + i),H,I1,⟨t,?_⟩,⟨rfl,rfl⟩,st',fun b hb => (hf b hb).1⟩⟩
  rw [Int.mul_one]
 done:=by
  intro X hP hw hK hc i pins s σ H E I hf st hg
  subst hP hw hK
  obtain ⟨f0,f1,f2,f3,f4,f5⟩:=hf it (by simp)
  exact wpAny_pyNext_range_end (I.ok.hd hc) st (by have:n <= i:=hg; omega) fun h' eb => ⟨rfl,I.turned (t':=s.toks) (fun b o hb e => eb b o hb e) f0 f1 f3 f4 f5⟩
 self:=fun _ _ _ _ _ st h => wpAny_pyIter_rangeiter st h
end L2
namespace L2
open PySem PySem.Spec PyProof.Rows
section
variable {X:Cx} {tg:Expr}
def d2T (K:PySem.W.Frag) (tl:TE):TI:=fun σ H R => tl σ H fun x H1 => ∃ a,x = .ref a /\ (∃ xs,SqL K H1 a xs) /\ R (Itl K a) H1
theorem b4y {l:Expr} {tl:TE} (hl:PE X l tl):PI X tg l (d2T X.K tl):=by
 intro pins s σ H R I h
 refine thn (hl pins s σ H _ I h) fun v s1 ⟨x,H1,I1,r1,q1⟩ => ?_
 obtain ⟨a,e,⟨xs,hq⟩,q⟩:=q1
 subst e
 cases r1
 obtain ⟨its,rv,p,hz⟩:=I1.list hq
 refine wpAny_pyIter_list p.isList ?_
 refine ⟨s1.heap.objs.size,[s1.heap.objs.size],_,_,H1,rfl,I1.kept (t':=s1.toks) fun b o e => Heap.get?_push_of_some _ e,c7r a _,⟨_,Heap.get?_push_size _ rfl,rfl,rfl⟩,fun b hb => ?_,q⟩
 have e:b = s1.heap.objs.size:=by simpa using hb
 subst e
 exact I1.fpOk (Nat.le_refl _) (I1.hok.fresh (Nat.le_refl _))
theorem c9x {pins:List (Addr × Obj)} {σ:St} {H:Hp} {s:Shared} {R:It -> Hp -> Prop} {E:Value -> Shared -> Prop} {lo hi:Int} {t u v:Tok} {tk:Nat} (I:Inv X pins σ H s) (h1 : -(2 ^ 62) <= lo) (h2:lo < 2 ^ 62) (h3 : -(2 ^ 62) <= hi) (h4:hi < 2 ^ 62)
 (q:R (Itr lo (hi - lo).toNat) H):wpAny (model X.prog X.w) X.A (pyIter (.ref s.heap.objs.size)) (PIE X pins σ tg R) E { s with heap:=s.heap.push { cls:=.type "range", data:=.fields #[.int lo t,.int hi u,.int 1 v] },toks:=tk }:=by
 refine wpAny_pyIter_range (IsRange.new ..) (small_one h1 h2 h3 h4) ?_
 have I1:Inv X pins σ H { s with heap:=s.heap.push { cls:=.type "range", data:=.fields #[.int lo t,.int hi u,.int 1 v] },toks:=tk }:=I.kept fun b o e => Heap.get?_push_of_some _ e
 refine ⟨(s.heap.push { cls:=.type "range", data:=.fields #[.int lo t,.int hi u,.int 1 v] }).objs.size,[(s.heap.push { cls:=.type "range", data:=.fields #[.int lo t,.int hi u,.int 1 v] }).objs.size],_,_,H,rfl,
  I1.kept (t':=tk) fun b o e => Heap.get?_push_of_some _ e,c67 _ lo (hi - lo).toNat,?_,fun b hb => ?_,q⟩
 ·have e1:lo + ((0:Nat):Int) * 1 = lo:=by simp
  have e2:(((hi - lo).toNat:Nat):Int) - ((0:Nat):Int) = Builtin.Range.rangeSize lo hi 1:=by rw [rangeSize_one]; split <;> omega
  show IsRangeIter _ _ (lo + ((0:Nat):Int) * 1) ((((hi - lo).toNat:Nat):Int) - ((0:Nat):Int)) 1
  rw [e1,e2]
  exact Heap.get?_push_size _ rfl
 ·have e:b = (s.heap.push { cls:=.type "range", data:=.fields #[.int lo t,.int hi u,.int 1 v] }).objs.size:=by simpa using hb
  subst e
  exact I1.fpOk (Nat.le_refl _) (I1.hok.fresh (Nat.le_refl _))
def d2R (ta:TA):TI:=fun σ H R => ta σ H fun vs H1 => ∃ j:Int,vs = [.int j] /\ -(2 ^ 62) <= j /\ j < 2 ^ 62 /\ R (Itr 0 j.toNat) H1
theorem b0B {a:Expr} {ta:TA} {p pos:Pos} (hg:Gl X "range") (hm:X.mg "range" = none) (ha:PA X [a] ta) (hs:starEach [a] X.env = [(false,eval a X.env)]:=by rfl):PI X tg (.Call (.Name "range" p) [a] [] pos) (d2R ta):=by
 intro pins s σ H R I h
 refine Call_ (b9D I hg hm boot_range (PyProof.Rows.callWith_type1 (thn (ha pos pins s σ H _ I h) fun us s1 ⟨vs,H1,I1,r1,q1⟩ => ?_) hs rfl))
 obtain ⟨j,e,q1,q2,q⟩:=q1
 subst e
 cases r1 with
 | cons r rr =>
  cases rr
  obtain ⟨t,rfl⟩:=r
  exact call_range_1 (c9x I1 (by omega) (by omega) q1 q2 (by simpa using q))
def tFor (wi:TI) (g:TG) (tb:TS):TS:=fun D σ H => wi σ H fun J H1 => ∃ W:Nat -> Nat -> St -> Hp -> Prop,(∃ m,W 0 m σ H1) /\ ∀ i m σ H,W i m σ H ->
 (J.stop i H /\ D.nx σ H) ∨ (J.go i H /\ ∃ N:St -> Hp -> Prop,(∀ σ' H',N σ' H' -> ∃ m',m' < m /\ W (i + 1) m' σ' H') /\ ∀ x H',J.yld i H x H' -> g x σ H' fun σ2 H2 => tb { D with nx:=N,ct:=N,bk:=D.nx } σ2 H2)
def c4k (fp:List Addr) (h:Heap):List (Addr × Obj):=fp.filterMap fun b => (h.get? b).map fun o => (b,o)
theorem b0W {fp:List Addr} {h:Heap} {b:Addr} {o:Obj} (hb:b ∈ fp) (e:h.get? b = some o):(b,o) ∈ c4k fp h:=List.mem_filterMap.mpr ⟨b,hb,by rw [e]; rfl⟩
theorem c7L {fp:List Addr} {h:Heap} {p:Addr × Obj} (hp:p ∈ c4k fp h):p.1 ∈ fp /\ h.get? p.1 = some p.2:=by
 obtain ⟨b,hb,e⟩:=List.mem_filterMap.mp hp
 cases q:h.get? b with
 | none => rw [q] at e; cases e
 | some o =>
  rw [q] at e
  have e':(b,o) = p:=Option.some.inj e
  subst e'
  exact ⟨hb,q⟩
theorem Inv.pinned {pins:List (Addr × Obj)} {σ:St} {H:Hp} {s:Shared} {fp:List Addr} (I:Inv X pins σ H s) (hf:∀ b ∈ fp,FpOk X pins H b) (ho:∀ b ∈ fp,∃ o,s.heap.get? b = some o /\ ∀ v,o.data ≠ .cell v):Inv X (pins ++ c4k fp s.heap) σ H s :=
 I.pins_of fun p hp => (List.mem_append.mp hp).elim (fun z => I.pin p (List.mem_append_right _ z)) fun z => by
  obtain ⟨hb,e⟩:=c7L z
  obtain ⟨f0,f1,f2,_⟩:=hf p.1 hb
  obtain ⟨o,e',d⟩:=ho p.1 hb
  rw [e] at e'; cases e'
  exact ⟨e,f0,f1,f2,d⟩
theorem Inv.unpinned {pins pl:List (Addr × Obj)} {σ:St} {H:Hp} {s:Shared} (I:Inv X (pins ++ pl) σ H s):Inv X pins σ H s:=I.pins_of fun p hp => I.pin p (List.mem_append_right _ (List.mem_append_left _ hp))
theorem b1m {iter:Expr} {body:List Stmt} {wi:TI} {g:TG} {tb:TS} {pos:Pos} (hp:PassesOwn (model X.prog X.w) X.A X.env X.xe) (hc:X.calm = true) (hi:PI X tg iter wi) (hg:PG X tg g) (hb:PSs X body tb)
 (hs:∀ x,foldedSetIterable iter X.env x = pure x:=by intro _; rfl):PS X (.For tg iter body [] pos) (tFor wi g tb):=by
 intro pins s σ H D I h
 refine wpAny_For (thn (hi pins s σ H _ I h) fun v s1 h1 => thn h1 fun itv s2 h2 => ?_) hs
 obtain ⟨it,fp,tn,J,H2,e,I2,T,st2,f2,W,⟨m0,w0⟩,turn⟩:=h2
 subst e
 have stat:∀ {H':Hp},(∀ b ∈ fp,H' b = none) -> ∀ b ∈ fp,FpOk X pins H' b:=fun hn b hb => ⟨hn b hb,(f2 b hb).2⟩
 refine codeAny_forLoop_any (fun n s' => ∃ i σ' H',Inv X pins σ' H' s' /\ tn i s'.heap /\ (∀ b ∈ fp,H' b = none) /\ W i n σ' H') ?_ m0 ⟨0,σ,H2,I2,st2,fun b hb => (f2 b hb).1,w0⟩
 rintro n s3 ⟨i,σ3,H3,I3,st3,fr3,w3⟩
 rcases turn i n σ3 H3 w3 with ⟨stop,qn⟩ | ⟨go,N,hN,step⟩
 ·refine wpAny_passesOwn hp (thn (T.done X rfl rfl rfl hc i pins s3 σ3 H3 X.xe I3 (stat fr3) st3 stop) fun r s4 ⟨hr,I4⟩ => ?_)
  subst hr
  exact wpAny_execs_nil ⟨σ3,H3,I4,qn⟩
 ·refine wpAny_passesOwn hp (thn (T.item X rfl rfl rfl hc i pins s3 σ3 H3 X.xe I3 (stat fr3) st3 go) fun r s4 ⟨u,hr,h4⟩ => ?_)
  subst hr
  refine wpAny_passesOwn hp (thn h4 fun _ s5 ⟨x,H5,I5,r5,y5,st5,fr5⟩ => ?_)
  have I5':=I5.pinned (stat fr5) (T.obj _ _ st5)
  refine wpAny_passesOwn hp (thn (hg _ s5 σ3 H5 x u _ I5' r5 (step x H5 y5)) fun _ s6 ⟨σ6,H6,I6,q6⟩ => ?_)
  refine wpAny_passesOwn hp (thn (hb _ s6 σ6 H6 _ I6 q6) fun f s7 q7 => ?_)
  have again:∀ {σ7:St} {H7:Hp},Inv X (pins ++ c4k fp s5.heap) σ7 H7 s7 -> N σ7 H7 -> ∃ m,m < n /\ ∃ i σ' H',Inv X pins σ' H' s7 /\ tn i s7.heap /\ (∀ b ∈ fp,H' b = none) /\ W i m σ' H':=fun {σ7 H7} I7 n7 => by
   obtain ⟨m',hm,w7⟩:=hN σ7 H7 n7
   refine ⟨m',hm,i + 1,σ7,H7,I7.unpinned,T.keep _ _ _ st5 fun b hb o e => (I7.pin (b,o) (List.mem_append_right _ (List.mem_append_right _ (b0W hb e)))).1,fun b hb => ?_,w7⟩
   obtain ⟨o,e,d⟩:=T.obj _ _ st5 b hb
   exact (I7.pin (b,o) (List.mem_append_right _ (List.mem_append_right _ (b0W hb e)))).2.1
  cases f with
  | next => obtain ⟨σ7,H7,I7,n7⟩:=q7; exact again I7 n7
  | cont => obtain ⟨σ7,H7,I7,n7⟩:=q7; exact again I7 n7
  | brk => obtain ⟨σ7,H7,I7,q7⟩:=q7; exact ⟨σ7,H7,I7.unpinned,q7⟩
  | ret v => obtain ⟨x7,σ7,H7,I7,r7,q7⟩:=q7; exact ⟨x7,σ7,H7,I7.unpinned,r7,q7⟩
end
theorem b3w {K:PySem.W.Frag} {a:Addr} {xs:List V} {g:TG} {tb:TS} {D:Ends} {σ:St} {H:Hp} (Pv:Nat -> St -> Hp -> Prop) (h0:Pv 0 σ H) (hl:∀ i σ H,i <= xs.length -> Pv i σ H -> SqL K H a xs)
 (hs:∀ i x σ H,xs[i]? = some x -> Pv i σ H -> g x σ H fun σ2 H2 => tb { D with nx:=Pv (i + 1),ct:=Pv (i + 1),bk:=D.nx } σ2 H2) (hd:∀ σ H,Pv xs.length σ H -> D.nx σ H) :
 ∃ W:Nat -> Nat -> St -> Hp -> Prop,(∃ m,W 0 m σ H) /\ ∀ i m σ H,W i m σ H ->
  ((Itl K a).stop i H /\ D.nx σ H) ∨ ((Itl K a).go i H /\ ∃ N:St -> Hp -> Prop,(∀ σ' H',N σ' H' -> ∃ m',m' < m /\ W (i + 1) m' σ' H') /\ ∀ x H',(Itl K a).yld i H x H' -> g x σ H' fun σ2 H2 => tb { D with nx:=N,ct:=N,bk:=D.nx } σ2 H2):=by
 refine ⟨fun i m σ H => m = xs.length - i /\ i <= xs.length /\ Pv i σ H,⟨xs.length,by simp,Nat.zero_le _,h0⟩,?_⟩
 rintro i m σ H ⟨rfl,hi,p⟩
 have q:=hl i σ H hi p
 by_cases hlt:i < xs.length
 ·refine .inr ⟨⟨xs,xs[i],q,by simp [hlt]⟩,Pv (i + 1),fun σ' H' p' => ⟨xs.length - (i + 1),by omega,rfl,hlt,p'⟩,fun x H' y => ?_⟩
  obtain ⟨e,y⟩:=y
  subst e
  exact hs i x σ _ (y xs q) p
 ·have e:i = xs.length:=by omega
  subst e
  exact .inl ⟨⟨xs,q,Nat.le_refl _⟩,hd σ H p⟩
theorem b3d {lo:Int} {n:Nat} {g:TG} {tb:TS} {D:Ends} {σ:St} {H:Hp} (Pv:Nat -> St -> Hp -> Prop) (h0:Pv 0 σ H)
 (hs:∀ i σ H,i < n -> Pv i σ H -> g (.int (lo + i)) σ H fun σ2 H2 => tb { D with nx:=Pv (i + 1),ct:=Pv (i + 1),bk:=D.nx } σ2 H2) (hd:∀ σ H,Pv n σ H -> D.nx σ H) :
 ∃ W:Nat -> Nat -> St -> Hp -> Prop,(∃ m,W 0 m σ H) /\ ∀ i m σ H,W i m σ H ->
  ((Itr lo n).stop i H /\ D.nx σ H) ∨ ((Itr lo n).go i H /\ ∃ N:St -> Hp -> Prop,(∀ σ' H',N σ' H' -> ∃ m',m' < m /\ W (i + 1) m' σ' H') /\ ∀ x H',(Itr lo n).yld i H x H' -> g x σ H' fun σ2 H2 => tb { D with nx:=N,ct:=N,bk:=D.nx } σ2 H2):=by
 refine ⟨fun i m σ H => m = n - i /\ i <= n /\ Pv i σ H,⟨n,by simp,Nat.zero_le _,h0⟩,?_⟩
 rintro i m σ H ⟨rfl,hi,p⟩
 by_cases hlt:i < n
 ·refine .inr ⟨hlt,Pv (i + 1),fun σ' H' p' => ⟨n - (i + 1),by omega,rfl,hlt,p'⟩,fun x H' y => ?_⟩
  obtain ⟨e,y⟩:=y
  subst e y
  exact hs i σ _ hlt p
 ·have e:i = n:=by omega
  subst e
  exact .inl ⟨Nat.le_refl _,hd σ H p⟩
end L2
namespace L2
open PySem PySem.Spec PyProof.Rows
abbrev R2:=V -> V -> Hp -> VK -> Prop
def OpR (X:Cx) (f:Value -> Value -> Sem Value) (r:R2):Prop :=
 ∀ (pins:List (Addr × Obj)) (s:Shared) (σ:St) (H:Hp) (x y:V) (v u:Value) (Q:VK),Inv X pins σ H s -> RelV x v -> RelV y u -> r x y H Q ->
  wpAny (model X.prog X.w) X.A (f v u) (EP X pins σ Q) X.xe s
def UnR (X:Cx) (f:Value -> Sem Value) (r:V -> Hp -> VK -> Prop):Prop :=
 ∀ (pins:List (Addr × Obj)) (s:Shared) (σ:St) (H:Hp) (x:V) (v:Value) (Q:VK),Inv X pins σ H s -> RelV x v -> r x H Q ->
  wpAny (model X.prog X.w) X.A (f v) (EP X pins σ Q) X.xe s
def b4w (X:Cx) (f:Value) (r:List V -> Hp -> VK -> Prop):Prop :=
 ∀ (pins:List (Addr × Obj)) (s:Shared) (σ:St) (H:Hp) (xs:List V) (us:List Value) (Q:VK),Inv X pins σ H s -> Vals xs us -> r xs H Q ->
  wpAny (model X.prog X.w) X.A (call f us) (EP X pins σ Q) X.xe s
def TruR (X:Cx) (r:V -> Hp -> (Bool -> Hp -> Prop) -> Prop):Prop :=
 ∀ (pins:List (Addr × Obj)) (s:Shared) (σ:St) (H:Hp) (x:V) (v:Value) (Q:Bool -> Hp -> Prop),Inv X pins σ H s -> RelV x v -> r x H Q ->
  wpAny (model X.prog X.w) X.A (truthy v) (TP X pins σ Q) X.xe s
def tOp (r:R2) (ta tb:TE):TE:=fun σ H Q => ta σ H fun x H1 => tb σ H1 fun y H2 => r x y H2 Q
def tUn (r:V -> Hp -> VK -> Prop) (ta:TE):TE:=fun σ H Q => ta σ H fun x H1 => r x H1 Q
def rI (C:Int -> Int -> Prop) (g:Int -> Int -> V):R2:=fun x y H Q => ∃ i j,x = .int i /\ y = .int j /\ C i j /\ Q (g i j) H
def rI0 (g:Int -> Int -> V):R2:=fun x y H Q => ∃ i j,x = .int i /\ y = .int j /\ Q (g i j) H
def rU (g:Int -> V):V -> Hp -> VK -> Prop:=fun x H Q => ∃ i,x = .int i /\ Q (g i) H
section
variable {X:Cx} {a b c:Expr} {ta tb tc:TE} {pos:Pos}
theorem binT (ha:PE X a ta) (hb:PE X b tb) {pins:List (Addr × Obj)} {s:Shared} {σ:St} {H:Hp} {R:V -> V -> Hp -> Prop} (I:Inv X pins σ H s)
 (h:ta σ H fun x H1 => tb σ H1 fun y H2 => R x y H2) {Q:Value -> Shared -> Prop} {f:Value -> Value -> Sem Value}
 (hf:∀ v u s2 x y H2,Inv X pins σ H2 s2 -> RelV x v -> RelV y u -> R x y H2 -> wpAny (model X.prog X.w) X.A (f v u) Q X.xe s2) :
 wpAny (model X.prog X.w) X.A (eval a X.env) (fun v s₁ => wpAny (model X.prog X.w) X.A (eval b X.env) (fun u s₂ => wpAny (model X.prog X.w) X.A (f v u) Q X.xe s₂) X.xe s₁) X.xe s:=by
 refine thn (ha pins s σ H _ I h) fun v s1 ⟨x,H1,I1,r1,q1⟩ => ?_
 refine thn (hb pins s1 σ H1 _ I1 q1) fun u s2 ⟨y,H2,I2,r2,q2⟩ => ?_
 exact hf v u s2 x y H2 I2 r1 r2 q2
theorem a1p {op:Operator} {r:R2} (ho:OpR X (binaryOp op) r) (ha:PE X a ta) (hb:PE X b tb):PE X (.BinOp a op b pos) (tOp r ta tb):=by
 intro pins s σ H Q I h
 exact wpAny_BinOp (binT ha hb I h fun v u s2 x y H2 I2 rx ry q => ho pins s2 σ H2 x y v u Q I2 rx ry q)
theorem d0Y {op:UnaryOp} {r:V -> Hp -> VK -> Prop} (ho:UnR X (unaryOp op) r) (ha:PE X a ta):PE X (.UnaryOp op a pos) (tUn r ta):=by
 intro pins s σ H Q I h
 exact UnaryOp_ (thn (ha pins s σ H _ I h) fun v s1 ⟨x,H1,I1,r1,q1⟩ => ho pins s1 σ H1 x v Q I1 r1 q1)
theorem opI {f:Value -> Value -> Sem Value} {C:Int -> Int -> Prop} {g:Int -> Int -> Int}
 (rule:∀ (i j:Int) (t u:Tok) (s:Shared) (Q:Value -> Shared -> Prop) (E:Value -> Shared -> Prop),C i j -> Q (.int (g i j) s.toks) { s with toks:=s.toks + 1 } -> wpAny (model X.prog X.w) X.A (f (.int i t) (.int j u)) Q E s) :
 OpR X f (rI C fun i j => .int (g i j)):=by
 intro pins s σ H x y v u Q I rx ry h
 obtain ⟨i,j,rfl,rfl,hc,q⟩:=h
 obtain ⟨t,rfl⟩:=rx
 obtain ⟨t',rfl⟩:=ry
 exact rule i j t t' s _ _ hc ⟨.int (g i j),H,I.tok _,⟨_,rfl⟩,q⟩
theorem opI0 {f:Value -> Value -> Sem Value} {g:Int -> Int -> Int}
 (rule:∀ (i j:Int) (t u:Tok) (s:Shared) (Q:Value -> Shared -> Prop) (E:Value -> Shared -> Prop),Q (.int (g i j) s.toks) { s with toks:=s.toks + 1 } -> wpAny (model X.prog X.w) X.A (f (.int i t) (.int j u)) Q E s) :
 OpR X f (rI0 fun i j => .int (g i j)):=by
 intro pins s σ H x y v u Q I rx ry h
 obtain ⟨i,j,rfl,rfl,q⟩:=h
 obtain ⟨t,rfl⟩:=rx
 obtain ⟨t',rfl⟩:=ry
 exact rule i j t t' s _ _ ⟨.int (g i j),H,I.tok _,⟨_,rfl⟩,q⟩
theorem opB0 {f:Value -> Value -> Sem Value} {g:Int -> Int -> Bool}
 (rule:∀ (i j:Int) (t u:Tok) (s:Shared) (Q:Value -> Shared -> Prop) (E:Value -> Shared -> Prop),Q (.bool (g i j)) s -> wpAny (model X.prog X.w) X.A (f (.int i t) (.int j u)) Q E s) :
 OpR X f (rI0 fun i j => .bl (g i j)):=by
 intro pins s σ H x y v u Q I rx ry h
 obtain ⟨i,j,rfl,rfl,q⟩:=h
 obtain ⟨t,rfl⟩:=rx
 obtain ⟨t',rfl⟩:=ry
 exact rule i j t t' s _ _ ⟨.bl (g i j),H,I,rfl,q⟩
def CDiv (i j:Int):Prop:=0 < j /\ j < 1073741824
def CPow (i j:Int):Prop:=0 <= j /\ j <= 1000000 /\ i.natAbs < 2 ^ 64
def CMul (i j:Int):Prop:=(-(2 ^ 64) < i /\ i < 2 ^ 64) ∨ (-(2 ^ 64) < j /\ j < 2 ^ 64)
theorem CMul.ok {i j:Int} (h:CMul i j):IntMulOk i j:=by
 rcases h with ⟨h1,h2⟩ | ⟨h1,h2⟩
 ·exact .of_left (intBits_le_64 h1 h2)
 ·exact .of_right (intBits_le_64 h1 h2)
theorem b0k:OpR X (binaryOp .Add) (rI0 fun i j => .int (i + j)):=opI0 fun _ _ _ _ _ _ _ q => add_int q
theorem c7H:OpR X (binaryOp .Sub) (rI0 fun i j => .int (i - j)):=opI0 fun _ _ _ _ _ _ _ q => sub_int q
theorem b7M:OpR X (binaryOp .Mult) (rI CMul fun i j => .int (i * j)):=opI fun _ _ _ _ _ _ _ hc q => mul_int q hc.ok
theorem c5j:OpR X (binaryOp .FloorDiv) (rI CDiv fun i j => .int (i / j)):=opI fun i j _ _ _ _ _ hc q => by
 have h1:(0:Int) < j:=hc.1
 have h2:j < 1073741824:=hc.2
 exact floordiv_int (by omega) (by rw [Int.fdiv_eq_ediv_of_nonneg i (by omega)]; exact q) (.inl (PyProof.noPylong_small (by omega)))
theorem a5B:OpR X (binaryOp .Mod) (rI (fun _ j => 0 < j) fun i j => .int (i % j)):=opI fun i j _ _ _ _ _ hc q => by
 have h1:(0:Int) < j:=hc
 exact mod_int' (by omega) (by rw [Int.fmod_eq_emod_of_nonneg i (by omega)]; exact q)
theorem c6B:OpR X (binaryOp .Pow) (rI CPow fun i j => .int (i ^ j.toNat)):=opI fun _ _ _ _ _ _ _ hc q => pow_int_small hc.1 hc.2.1 hc.2.2 q
theorem unI {f:Value -> Sem Value} {g:Int -> Int}
 (rule:∀ (i:Int) (t:Tok) (s:Shared) (Q:Value -> Shared -> Prop) (E:Value -> Shared -> Prop),Q (.int (g i) s.toks) { s with toks:=s.toks + 1 } -> wpAny (model X.prog X.w) X.A (f (.int i t)) Q E s) :
 UnR X f (rU fun i => .int (g i)):=by
 intro pins s σ H x v Q I rx h
 obtain ⟨i,rfl,q⟩:=h
 obtain ⟨t,rfl⟩:=rx
 exact rule i t s _ _ ⟨.int (g i),H,I.tok _,⟨_,rfl⟩,q⟩
theorem c8a:UnR X (unaryOp .USub) (rU fun i => .int (-i)):=unI fun _ _ _ _ _ q => neg_int q
end
def scal:V -> V -> Bool
 | .non,.non => true | .non,.int _ => true | .int _,.non => true | .non,.bl _ => true | .bl _,.non => true | .non,.str _ => true | .str _,.non => true
 | .int _,.int _ => true | .bl _,.bl _ => true | .str _,.str _ => true | .byt _,.byt _ => true
 | .int _,.str _ => true | .str _,.int _ => true | .bl _,.str _ => true | .str _,.bl _ => true
 | _,_ => false
def rEq:R2:=fun x y H Q => scal x y = true /\ Q (.bl (decide (x = y))) H
def rNe:R2:=fun x y H Q => scal x y = true /\ Q (.bl (!decide (x = y))) H
theorem c7y {i j:Int}:decide (V.int i = V.int j) = (i == j):=by
 rw [Bool.eq_iff_iff]
 simp
theorem c9K {i j:Bool}:decide (V.bl i = V.bl j) = (i == j):=by
 rw [Bool.eq_iff_iff]
 simp
theorem c8J {i j:Str}:decide (V.str i = V.str j) = (i == j):=by
 rw [Bool.eq_iff_iff]
 simp
theorem c7N {i j:Array UInt8}:decide (V.byt i = V.byt j) = (i.toList == j.toList):=by
 rw [Bool.eq_iff_iff]
 cases i
 cases j
 simp
section
variable {X:Cx} {a b c:Expr} {ta tb tc:TE} {pos:Pos}
theorem a0Y {pins:List (Addr × Obj)} {σ:St} {H:Hp} {s:Shared} {Q:VK} {k k':Bool} (I:Inv X pins σ H s) (q:Q (.bl k) H) (e:k = k'):EP X pins σ Q (.bool k') s:=by
 subst e
 exact ⟨.bl k,H,I,rfl,q⟩
theorem c3h:OpR X (compareOp .Eq) rEq:=by
 intro pins s σ H x y v u Q I rx ry h
 obtain ⟨hs,q⟩:=h
 cases x with
 | non =>
  cases rx
  cases y with
  | non => cases ry; exact PySem.EqNone.eq_none_none (a0Y I q (by simp))
  | bl j => cases ry; exact PySem.EqNone.eq_none_bool (a0Y I q (by simp))
  | int j => obtain ⟨t',rfl⟩:=ry; exact PySem.EqNone.eq_none_int (a0Y I q (by simp))
  | str j => obtain ⟨t',rfl⟩:=ry; exact PySem.EqNone.eq_none_str (a0Y I q (by simp))
  | _ => exact absurd (show false = true from hs) Bool.false_ne_true
 | bl i =>
  cases rx
  cases y with
  | non => cases ry; exact PySem.EqNone.eq_bool_none (a0Y I q (by simp))
  | bl j => cases ry; exact eq_bool (a0Y I q c9K)
  | str j => obtain ⟨t',rfl⟩:=ry; exact PySem.EqMixed.eq_bool_str (a0Y I q (by simp))
  | _ => exact absurd (show false = true from hs) Bool.false_ne_true
 | int i =>
  obtain ⟨t,rfl⟩:=rx
  cases y with
  | non => cases ry; exact PySem.EqNone.eq_int_none (a0Y I q (by simp))
  | int j => obtain ⟨t',rfl⟩:=ry; exact eq_int (a0Y I q c7y)
  | str j => obtain ⟨t',rfl⟩:=ry; exact PySem.EqMixed.eq_int_str (a0Y I q (by simp))
  | _ => exact absurd (show false = true from hs) Bool.false_ne_true
 | str i =>
  obtain ⟨t,rfl⟩:=rx
  cases y with
  | non => cases ry; exact PySem.EqNone.eq_str_none (a0Y I q (by simp))
  | bl j => cases ry; exact PySem.EqMixed.eq_str_bool (a0Y I q (by simp))
  | int j => obtain ⟨t',rfl⟩:=ry; exact PySem.EqMixed.eq_str_int (a0Y I q (by simp))
  | str j => obtain ⟨t',rfl⟩:=ry; exact eq_str (a0Y I q c8J)
  | _ => exact absurd (show false = true from hs) Bool.false_ne_true
 | byt i =>
  obtain ⟨t,rfl⟩:=rx
  cases y with
  | byt j => obtain ⟨t',rfl⟩:=ry; exact PySem.W.eq_bytes (a0Y I q c7N)
  | _ => exact absurd (show false = true from hs) Bool.false_ne_true
 | _ => cases y <;> exact absurd (show false = true from hs) Bool.false_ne_true
theorem d1N:OpR X (compareOp .NotEq) rNe:=by
 intro pins s σ H x y v u Q I rx ry h
 obtain ⟨hs,q⟩:=h
 cases x with
 | non =>
  cases rx
  cases y with
  | non => cases ry; exact PySem.EqNone.ne_none_none (a0Y I q (by simp))
  | bl j => cases ry; exact PySem.EqNone.ne_none_bool (a0Y I q (by simp))
  | int j => obtain ⟨t',rfl⟩:=ry; exact PySem.EqNone.ne_none_int (a0Y I q (by simp))
  | str j => obtain ⟨t',rfl⟩:=ry; exact PySem.EqNone.ne_none_str (a0Y I q (by simp))
  | _ => exact absurd (show false = true from hs) Bool.false_ne_true
 | bl i =>
  cases rx
  cases y with
  | non => cases ry; exact PySem.EqNone.ne_bool_none (a0Y I q (by simp))
  | bl j => cases ry; exact ne_bool (a0Y I q (congrArg not c9K))
  | str j => obtain ⟨t',rfl⟩:=ry; exact PySem.EqMixed.ne_bool_str (a0Y I q (by simp))
  | _ => exact absurd (show false = true from hs) Bool.false_ne_true
 | int i =>
  obtain ⟨t,rfl⟩:=rx
  cases y with
  | non => cases ry; exact PySem.EqNone.ne_int_none (a0Y I q (by simp))
  | int j => obtain ⟨t',rfl⟩:=ry; exact ne_int (a0Y I q (congrArg not c7y))
  | str j => obtain ⟨t',rfl⟩:=ry; exact PySem.EqMixed.ne_int_str (a0Y I q (by simp))
  | _ => exact absurd (show false = true from hs) Bool.false_ne_true
 | str i =>
  obtain ⟨t,rfl⟩:=rx
  cases y with
  | non => cases ry; exact PySem.EqNone.ne_str_none (a0Y I q (by simp))
  | bl j => cases ry; exact PySem.EqMixed.ne_str_bool (a0Y I q (by simp))
  | int j => obtain ⟨t',rfl⟩:=ry; exact PySem.EqMixed.ne_str_int (a0Y I q (by simp))
  | str j => obtain ⟨t',rfl⟩:=ry; exact ne_str (a0Y I q (congrArg not c8J))
  | _ => exact absurd (show false = true from hs) Bool.false_ne_true
 | byt i =>
  obtain ⟨t,rfl⟩:=rx
  cases y with
  | byt j => obtain ⟨t',rfl⟩:=ry; exact PySem.W.ne_bytes (a0Y I q (congrArg not c7N))
  | _ => exact absurd (show false = true from hs) Bool.false_ne_true
 | _ => cases y <;> exact absurd (show false = true from hs) Bool.false_ne_true
theorem d2o:OpR X (compareOp .Lt) (rI0 fun i j => .bl (decide (i < j))):=opB0 fun _ _ _ _ _ _ _ q => lt_int q
theorem c8g:OpR X (compareOp .LtE) (rI0 fun i j => .bl (decide (i <= j))):=opB0 fun _ _ _ _ _ _ _ q => le_int q
theorem d21:OpR X (compareOp .Gt) (rI0 fun i j => .bl (decide (j < i))):=opB0 fun _ _ _ _ _ _ _ q => gt_int q
theorem c9n:OpR X (compareOp .GtE) (rI0 fun i j => .bl (decide (j <= i))):=opB0 fun _ _ _ _ _ _ _ q => ge_int q
theorem c8H:OpR X (compareOp .In) (fun x y H Q => ∃ i j,x = .str i /\ y = .str j /\ Q (.bl (!(Builtin.Str.occurrences j i 0 j.length 1).isEmpty)) H):=by
 intro pins s σ H x y v u Q I rx ry h
 obtain ⟨i,j,rfl,rfl,q⟩:=h
 obtain ⟨t,rfl⟩:=rx
 obtain ⟨t',rfl⟩:=ry
 exact in_str (a0Y I q rfl)
theorem b9K:OpR X (compareOp .Is) (fun x y H Q => y = .non /\ Q (.bl (decide (x = .non))) H):=by
 intro pins s σ H x y v u Q I rx ry h
 obtain ⟨rfl,q⟩:=h
 cases ry
 refine is_none_gen (a0Y I q ?_)
 cases x <;> first
  | (cases rx; rfl)
  | (obtain ⟨t,rfl⟩:=rx; rfl)
theorem d05:OpR X (compareOp .IsNot) (fun x y H Q => y = .non /\ Q (.bl (!decide (x = .non))) H):=by
 intro pins s σ H x y v u Q I rx ry h
 obtain ⟨rfl,q⟩:=h
 cases ry
 refine isnot_none_gen (a0Y I q ?_)
 cases x <;> first
  | (cases rx; rfl)
  | (obtain ⟨t,rfl⟩:=rx; rfl)
theorem a0Z (b:Expr) {op:CmpOp} (h:op ≠ .In:=by decide) (h2:op ≠ .NotIn:=by decide):behindInMarks op b = false:=by
 have e1:(op == CmpOp.In) = false:=by cases op <;> first | rfl | exact absurd rfl h
 have e2:(op == CmpOp.NotIn) = false:=by cases op <;> first | rfl | exact absurd rfl h2
 cases b <;> simp [behindInMarks,e1,e2]
theorem b4Q {op:CmpOp} {r:R2} (ho:OpR X (compareOp op) r) (ha:PE X a ta) (hb:PE X b tb) (hm:behindInMarks op b = false):PE X (.Compare a [op] [b] pos) (tOp r ta tb):=by
 intro pins s σ H Q I h
 exact wpAny_Compare1 (binT ha hb I h fun v u s2 x y H2 I2 rx ry q => ho pins s2 σ H2 x y v u Q I2 rx ry q) hm
def d2f (t:TE):TT:=fun σ H Q => t σ H fun x H' => ∃ k,x = .bl k /\ Q k H'
theorem a0A {op:CmpOp} {r:R2} (ho:OpR X (compareOp op) r) (ha:PE X a ta) (hb:PE X b tb) (hm:behindInMarks op b = false):PT X (.Compare a [op] [b] pos) (d2f (tOp r ta tb)):=by
 intro pins s σ H Q I h
 refine wpAny_isTrue_Compare1 (thn (ha pins s σ H _ I h) fun v s1 ⟨x,H1,I1,r1,q1⟩ => thn (hb pins s1 σ H1 _ I1 q1) fun u s2 ⟨y,H2,I2,r2,q2⟩ =>
  thn (ho pins s2 σ H2 x y v u _ I2 r1 r2 q2) fun c s3 ⟨z,H3,I3,r3,k,e,q3⟩ => ?_) hm
 subst e
 cases r3
 exact wpAny_truthy_bool ⟨H3,I3,q3⟩
def d1K (r r':R2) (ta tb tc:TE):TE:=fun σ H Q => ta σ H fun x H1 => tb σ H1 fun y H2 => r x y H2 fun z H3 => ∃ k,z = .bl k /\
 (if k = true then tc σ H3 fun w' H4 => r' y w' H4 Q else Q (.bl false) H3)
theorem c2m {op op':CmpOp} {r r':R2} (ho:OpR X (compareOp op) r) (ho':OpR X (compareOp op') r') (ha:PE X a ta) (hb:PE X b tb) (hc:PE X c tc)
 (hm:lastMarks [op,op'] [b,c] = false:=by with_unfolding_all rfl):PT X (.Compare a [op,op'] [b,c] pos) (d2f (d1K r r' ta tb tc)):=by
 intro pins s σ H Q I h
 refine isTrue_chain (thn (ha pins s σ H _ I h) fun v s1 ⟨x,H1,I1,r1,q1⟩ => test_link (thn (hb pins s1 σ H1 _ I1 q1) fun u s2 ⟨y,H2,I2,r2,q2⟩ =>
  thn (ho pins s2 σ H2 x y v u _ I2 r1 r2 q2) fun d s3 ⟨z,H3,I3,r3,k,e,q3⟩ => ?_)) hm
 subst e
 cases r3
 refine wpAny_truthy_bool ?_
 cases k with
 | false =>
  obtain ⟨k',e',q'⟩:=q3
  cases e'
  exact ite_ff ⟨H3,I3,q'⟩
 | true =>
  refine ite_tt (test_last (thn (hc pins s3 σ H3 _ I3 q3) fun w' s4 ⟨z',H4,I4,r4,q4⟩ => thn (ho' pins s4 σ H4 y z' u w' _ I4 r2 r4 q4) fun d' s5 ⟨z2,H5,I5,r5,k2,e2,q5⟩ => ?_))
  subst e2
  cases r5
  exact wpAny_truthy_bool ⟨H5,I5,q5⟩
def TruV (K:PySem.W.Frag) (x:V) (H:Hp) (k:Bool):Prop :=
 match x with
 | .non => k = false
 | .bl b => k = b
 | .int i => k = (i != 0)
 | .str y => y.length <= sizeLine /\ k = ((y.length:Int) != 0)
 | .byt y => y.size <= sizeLine /\ k = ((y.size:Int) != 0)
 | .ref p => (∃ xs,SqL K H p xs /\ k = !xs.isEmpty) ∨ (∃ xs,SqT K H p xs /\ k = !xs.isEmpty) ∨ ∃ kvs,H p = some (.dK kvs) /\ k = !kvs.isEmpty
 | _ => False
theorem c7a {κ:Type} {kvs:List (κ × V)} {vs:List (κ × Value)} (r:KV kvs vs):(!vs.isEmpty) = !kvs.isEmpty:=by
 cases r <;> rfl
theorem b9H {xs:List V} {its:List Value} (r:Vals xs its):(!its.toArray.isEmpty) = !xs.isEmpty:=by
 cases r <;> simp
theorem c3e:(sizeLine:Nat) < 2 ^ 63:=by rw [sizeLine_eq]; decide
theorem d1j:TruR X (fun x H Q => ∃ k,TruV X.K x H k /\ Q k H):=by
 intro pins s σ H x v Q I rx h
 obtain ⟨k,e,q⟩:=h
 have hl:=c3e
 have hs:sizeLine = 16777216:=sizeLine_eq
 cases x with
 | non =>
  cases rx
  have e':k = false:=e
  subst e'
  exact truthy_none ⟨H,I,q⟩
 | bl b =>
  cases rx
  have e':k = b:=e
  subst e'
  exact wpAny_truthy_bool ⟨H,I,q⟩
 | int i =>
  obtain ⟨t,rfl⟩:=rx
  have e':k = (i != 0):=e
  subst e'
  exact PySem.P.truthy_int ⟨H,I,q⟩
 | str y =>
  obtain ⟨t,rfl⟩:=rx
  obtain ⟨hy,e'⟩:y.length <= sizeLine /\ k = ((y.length:Int) != 0):=e
  subst e'
  exact PySem.P.truthy_str (by omega) ⟨H,I.tok _,q⟩
 | byt y =>
  obtain ⟨t,rfl⟩:=rx
  obtain ⟨hy,e'⟩:y.size <= sizeLine /\ k = ((y.size:Int) != 0):=e
  subst e'
  exact PySem.W.truthy_bytes (by omega) ⟨H,I.tok _,q⟩
 | ref p =>
  cases rx
  have e':(∃ xs,SqL X.K H p xs /\ k = !xs.isEmpty) ∨ (∃ xs,SqT X.K H p xs /\ k = !xs.isEmpty) ∨ ∃ kvs,H p = some (.dK kvs) /\ k = !kvs.isEmpty:=e
  rcases e' with ⟨xs,hx,e'⟩ | ⟨xs,hx,e'⟩ | ⟨kvs,hx,e'⟩
  ·subst e'
   obtain ⟨its,r,pl,hz⟩:=I.list hx
   have hlen:=r.length
   exact wpAny_truthy_list pl.isList (by simp only [List.size_toArray]; omega) ⟨H,I.tok _,by rw [b9H r]; exact q⟩
  ·subst e'
   obtain ⟨its,r,pl,hz⟩:=I.tuple hx
   have hlen:=r.length
   exact truthy_tuple pl (by simp only [List.size_toArray]; omega) ⟨H,I.tok _,by rw [b9H r]; exact q⟩
  ·subst e'
   obtain ⟨hz,hS,vs,r,m⟩:kvs.length <= sizeLine /\ (p == sysModules) = false /\ ∃ vs,KV kvs vs /\ s.heap.DictOf (a1s X.prog X.w) p vs:=I.hok p _ hx
   have hlen:kvs.length = vs.length:=Paired.length r
   exact wpAny_truthy_dict hS m (by omega) ⟨H,I.tok _,by rw [c7a r]; exact q⟩
 | _ => exact (show False from e).elim
theorem c6i (ha:PE X a ta) (he:∀ whole,isTrue a X.env whole = (do let v <- whole; standAt a.pos; holding [v] (truthy v))) :
 PT X a (fun σ H Q => ta σ H fun x H' => ∃ k,TruV X.K x H' k /\ Q k H'):=by
 intro pins s σ H Q I h
 exact isTrue_plain (thn (ha pins s σ H _ I h) fun v s1 ⟨x,H1,I1,r1,q1⟩ => d1j pins s1 σ H1 x v Q I1 r1 q1) (he _)
theorem c3G {x:V} {us:List Value} (r:Vals [x] us):∃ u,us = [u] /\ RelV x u:=by
 cases r with
 | cons r1 r2 => cases r2; exact ⟨_,rfl,r1⟩
theorem c6l:b4w X (.builtin "abs") (fun xs H Q => ∃ i,xs = [.int i] /\ Q (.int (if i < 0 then -i else i)) H):=by
 intro pins s σ H xs us Q I r h
 obtain ⟨i,rfl,q⟩:=h
 obtain ⟨u,rfl,t,rfl⟩:=c3G r
 exact call_abs_int fun u tk => ⟨.int (if i < 0 then -i else i),H,I.tok _,⟨_,rfl⟩,q⟩
def LenV (K:PySem.W.Frag) (x:V) (H:Hp) (n:Nat):Prop :=
 match x with
 | .str y => y.length <= sizeLine /\ n = y.length
 | .byt y => y.size <= sizeLine /\ n = y.size
 | .ref p => (∃ xs,SqL K H p xs /\ n = xs.length) ∨ ∃ xs,SqT K H p xs /\ n = xs.length
 | _ => False
theorem a4A:b4w X (.builtin "len") (fun xs H Q => ∃ x n,xs = [x] /\ LenV X.K x H n /\ Q (.int n) H):=by
 intro pins s σ H xs us Q I r h
 obtain ⟨x,n,rfl,e,q⟩:=h
 obtain ⟨u,rfl,rx⟩:=c3G r
 have hl:=c3e
 have hs:sizeLine = 16777216:=sizeLine_eq
 cases x with
 | str y =>
  obtain ⟨t,rfl⟩:=rx
  obtain ⟨hy,e'⟩:y.length <= sizeLine /\ n = y.length:=e
  subst e'
  exact len_str (by omega) ⟨.int _,H,I.tok _,⟨_,rfl⟩,q⟩
 | byt y =>
  obtain ⟨t,rfl⟩:=rx
  obtain ⟨hy,e'⟩:y.size <= sizeLine /\ n = y.size:=e
  subst e'
  exact PySem.W.len_bytes (by omega) ⟨.int _,H,I.tok _,⟨_,rfl⟩,q⟩
 | ref p =>
  cases rx
  have e':(∃ xs,SqL X.K H p xs /\ n = xs.length) ∨ ∃ xs,SqT X.K H p xs /\ n = xs.length:=e
  rcases e' with ⟨xs,hx,e'⟩ | ⟨xs,hx,e'⟩
  ·subst e'
   obtain ⟨its,r',pl,hz⟩:=I.list hx
   have hlen:=r'.length
   exact Calls.call_len_list pl.isList (by simp only [List.size_toArray]; omega) ⟨.int xs.length,H,I.tok _,⟨_,by simp only [List.size_toArray]; rw [hlen]⟩,q⟩
  ·subst e'
   obtain ⟨its,r',pl,hz⟩:=I.tuple hx
   have hlen:=r'.length
   exact len_tuple pl (by simp only [List.size_toArray]; omega) ⟨.int xs.length,H,I.tok _,⟨_,by simp only [List.size_toArray]; rw [hlen]⟩,q⟩
 | _ => exact (show False from e).elim
end
end L2
namespace L2
open PySem PySem.Spec PyProof.Rows
structure ObjM (h:Heap) (x dx C:Addr) (mA:Str -> Option Value):Prop where
 obj:h.get? x = some (PySem.W.instObj C dx)
 ns:h.Ns1 dx mA
 ne:dx ≠ x
theorem c8C {h:Heap} {dx:Addr} {mA:Str -> Option Value} (n:h.Ns1 dx mA):∃ od,h.get? dx = some od /\ ∀ name,PySem.W.lookIn name od = some (mA name):=by
 obtain ⟨o,es,ep,ho,hd,hk,_,hm⟩:=n
 refine ⟨o,ho,fun name => ?_⟩
 have e:=hm name
 unfold nsFind findBy at e
 rw [<- Array.find?_toList] at e
 unfold PySem.W.lookIn
 rw [hd]
 dsimp only
 split
 ·rename_i y q
  rw [q] at e
  exact congrArg some e
 ·rename_i q
  rw [q] at e
  have a:es.toList.any (·.refKey) = false:=by
   rw [List.any_eq_false]
   intro y hy
   obtain ⟨z,t,hkey⟩:=hk y (Array.mem_toList_iff.mp hy)
   simp [DictEntry.refKey,hkey]
  have a':¬ es.toList.any (·.refKey) = true:=by rw [a]; exact Bool.false_ne_true
  rw [if_neg a']
  exact congrArg some e
theorem ObjM.look {h:Heap} {x dx C:Addr} {mA:Str -> Option Value} (I:ObjM h x dx C mA):∃ od,PySem.W.InstAt h x (PySem.W.instObj C dx) C (some od) /\ ∀ name,PySem.W.lookIn name od = some (mA name) :=
 let ⟨od,ho,hl⟩:=c8C I.ns
 ⟨od,⟨I.obj,rfl,rfl,ho⟩,hl⟩
section
variable {prog:Program} {w:World} {A:Around} {E:Value -> Shared -> Prop} {s:Shared} {K:PySem.W.Frag} {x dx C f:Addr} {mA:Str -> Option Value} {name:Str} {v:Value}
theorem d0q {expr:Bool} {Q:Value -> Shared -> Prop} (X:K.In s.heap) (I:ObjM s.heap x dx C mA) (hg:PySem.W.plainGet K C name = true) (hh:PySem.W.hasDictIn K C = true)
 (ha:PySem.W.findIn K (.ref C) name = some none) (hv:mA name = some v) (hv':PySem.W.handedIn v = true) (h:Q v { s with toks:=s.toks + 1 }) :
 wpAny (model prog w) A (getAttr (.ref x) name expr) Q E s:=by
 obtain ⟨od,J,hl⟩:=I.look
 exact PySem.W.get_value X J (PySem.W.plainGet_of hg).1 (PySem.W.findObj_own hh ha rfl (by rw [hl,hv])) hv' h
theorem c80 {pl:Sem Bool} {Q:Value × List Value -> Shared -> Prop} (X:K.In s.heap) (I:ObjM s.heap x dx C mA) (hg:PySem.W.plainGet K C name = true)
 (hf:PySem.W.findIn K (.ref C) name = some (some (.ref f))) (ht:PySem.W.isFn K (.ref f) = true) (hv:mA name = none) (h:Q (.ref f,[.ref x]) s) :
 wpAny (model prog w) A (getMethod (.ref x) name pl) Q E s:=by
 obtain ⟨od,J,hl⟩:=I.look
 exact PySem.W.method_fn X J (PySem.W.plainGet_of hg).1 (PySem.W.plainGet_of hg).2 hf (beq_iff_eq.mp ht) (by show (PySem.W.lookIn name od).map (·.isSome) = some false; rw [hl,hv]; rfl) h
theorem d0f {ns:List Str} {Q:Unit -> Shared -> Prop} (X:K.In s.heap) (I:ObjM s.heap x dx C mA)
 (hs:PySem.W.findIn K (.ref C) "__setattr__" = some (some (.builtin "object.__setattr__"))) (hp:PySem.W.plainOver K C = true) (ht:PySem.W.takerIn K C name = some none) (hh:PySem.W.hasDictIn K C = true)
 (hw:PySem.Within mA ns) (hsz:ns.length <= sizeLine)
 (h:∀ h',ObjM h' x dx C (fun y => if y = name then some v else mA y) -> Heap.SameBut dx s.heap h' -> Q () { s with heap:=h',toks:=s.toks + 2 }) :
 wpAny (model prog w) A (setAttr (.ref x) name v) Q E s:=by
 obtain ⟨od,J,hl⟩:=I.look
 refine PySem.W.set_plain X J hs (PySem.W.osa_open (s:={ s with toks:=s.toks + 1 }) (r:=none) X J hp ht fun b => ?_)
 obtain ⟨cd,hc,hd'⟩:=PySem.W.any_some hh
 have hx:s.heap.get? x = some ⟨.ref C,some dx,.plain,#[]⟩:=I.obj
 refine wpAny_bind (wpAny_pure (wpAny_bind (wpAny_bind (wpAny_loadPart hx (wpAny_bind (PySem.W.Looks.here (s:={ s with toks:=s.toks + 1 }) (PySem.W.looks_clsIn X hc) ?_))))))
 rw [hd']
 refine wpAny_pure (a:=some dx) (wpAny_bind (wpAny_pure (wpAny_bind ?_)))
 refine wpAny_nsSet1 (s:={ s with toks:=s.toks + 1 }) I.ns fun h' hn2 hs2 => ?_
 obtain ⟨oD,esD,epD,hoD,hdD,hcD⟩:=hn2.count (PySem.Within.cons name v hw)
 refine wpAny_bind (wpAny_lookBehind hoD (by rw [hdD]; exact pastItsLine_dict (Nat.le_trans hcD (by rw [List.length_cons]; omega))) ?_)
 exact wpAny_pure (h _ ⟨(hs2.2 _ (Ne.symm I.ne)).trans I.obj,hn2,I.ne⟩ hs2)
theorem c9s {R:Result -> Shared -> Prop} {vs:List Value} {kw:List (Str × Value)} (X:K.In s.heap) (hm:PySem.W.makesIn K C = true)
 (hi:PySem.W.findIn K (.ref C) "__init__" = some (some (.ref f))) (hf:PySem.W.typeIn K (.ref f) = some (.type "function"))
 (h:codeAny (model prog w) (A.under (.builtin "type.__call__" ⟨.ref C :: vs,kw⟩)) (.call (.ref f) ⟨.ref (s.heap.objs.size + 1) :: vs,kw⟩) (PySem.W.InitBack (s.heap.objs.size + 1) R)
  { s with heap:=(s.heap.push PySem.W.emptyDict).push (PySem.W.instObj C s.heap.objs.size) }) :
 codeAny (model prog w) A (.call (.ref C) ⟨vs,kw⟩) R s:=by
 obtain ⟨hh,g,d,t,os⟩:=s
 exact PySem.W.make_core (PySem.W.makes_of X hm) (PySem.W.looks_findIn X hi) (fun self => PySem.W.bind_fn X self hf) (.inl rfl) h
end
def putF (f:Str) (v:V):List (Str × V) -> List (Str × V)
 | [] => [(f,v)]
 | (g,x) :: r => if g = f then (g,v) :: r else (g,x) :: putF f v r
theorem b7h (f g:Str) (v:V):∀ fs:List (Str × V),(putF f v fs).lookup g = if g = f then some v else fs.lookup g
 | [] => by
  show List.lookup g [(f,v)] = _
  by_cases h:g = f
  ·have hb:(g == f) = true:=beq_iff_eq.mpr h
   simp only [List.lookup,hb,if_pos h]
  ·have hb:(g == f) = false:=beq_eq_false_iff_ne.mpr h
   simp only [List.lookup,hb,if_neg h]
 | (k,x) :: r => by
  have ih:=b7h f g v r
  rw [show putF f v ((k,x) :: r) = (if k = f then (k,v) :: r else (k,x) :: putF f v r) from rfl]
  by_cases hk:k = f
  ·rw [if_pos hk]
   by_cases h:g = k
   ·have hb:(g == k) = true:=beq_iff_eq.mpr h
    simp only [List.lookup,hb,if_pos (h.trans hk)]
   ·have hb:(g == k) = false:=beq_eq_false_iff_ne.mpr h
    simp only [List.lookup,hb,if_neg (fun e:g = f => h (e.trans hk.symm))]
  ·rw [if_neg hk]
   by_cases h:g = k
   ·have hb:(g == k) = true:=beq_iff_eq.mpr h
    simp only [List.lookup,hb,if_neg (fun e:g = f => hk (h.symm.trans e))]
   ·have hb:(g == k) = false:=beq_eq_false_iff_ne.mpr h
    simp only [List.lookup,hb]
    exact ih
theorem b8e (f:Str) (v:V):∀ fs:List (Str × V),f ∈ (putF f v fs).map (·.1) /\ ∀ g,g ∈ fs.map (·.1) -> g ∈ (putF f v fs).map (·.1)
 | [] => ⟨by simp [putF],fun g h => by simp at h⟩
 | (k,x) :: r => by
  obtain ⟨i1,i2⟩:=b8e f v r
  rw [show putF f v ((k,x) :: r) = (if k = f then (k,v) :: r else (k,x) :: putF f v r) from rfl]
  by_cases hk:k = f
  ·rw [if_pos hk]
   subst hk
   exact ⟨by simp,fun g h => by simpa using h⟩
  ·rw [if_neg hk]
   refine ⟨?_,fun g h => ?_⟩
   ·rw [List.map_cons]
    exact List.mem_cons_of_mem _ i1
   ·rw [List.map_cons] at h ⊢
    rcases List.mem_cons.mp h with e | e
    ·exact List.mem_cons.mpr (.inl e)
    ·exact List.mem_cons_of_mem _ (i2 g e)
theorem b7c (f:Str) (v:V):∀ fs:List (Str × V),(putF f v fs).length <= fs.length + 1
 | [] => by simp [putF]
 | (k,x) :: r => by
  have ih:=b7c f v r
  rw [show putF f v ((k,x) :: r) = (if k = f then (k,v) :: r else (k,x) :: putF f v r) from rfl]
  by_cases hk:k = f
  ·rw [if_pos hk,List.length_cons,List.length_cons]; omega
  ·rw [if_neg hk,List.length_cons,List.length_cons]; omega
theorem RelO.some_of {v:V} {o:Option Value} (r:RelO (some v) o):∃ u,o = some u /\ RelV v u:=by
 cases o with
 | none => exact (show False from r).elim
 | some u => exact ⟨u,rfl,r⟩
theorem RelO.none_of {o:Option Value} (r:RelO none o):o = none:=by
 cases o with
 | none => rfl
 | some u => exact (show False from r).elim
theorem c7C {v:V} {u:Value} (r:RelV v u):PySem.W.handedIn u = true:=by
 cases v with
 | non => cases (show u = Value.none from r); rfl
 | bl b => cases (show u = Value.bool b from r); rfl
 | int i => obtain ⟨t,e⟩:=(show ∃ t,u = Value.int i t from r); cases e; rfl
 | str x => obtain ⟨t,e⟩:=(show ∃ t,u = Value.str x t from r); cases e; rfl
 | byt b => obtain ⟨t,e⟩:=(show ∃ t,u = Value.bytes b t from r); cases e; rfl
 | flt b => obtain ⟨t,e⟩:=(show ∃ t,u = Value.float b t from r); cases e; rfl
 | ref a => cases (show u = Value.ref a from r); rfl
 | ty n => cases (show u = Value.type n from r); rfl
section
variable {P:Program} {w:World} {H H':Hp} {h h':Heap} {a C dx:Addr} {fs fs':List (Str × V)}
theorem b7S (hok:HOk P w H h) (e:H a = some (.ins C dx fs)):∃ mA,ObjM h a dx C mA /\ (∀ f,RelO (fs.lookup f) (mA f)) /\ PySem.Within mA (fs.map (·.1)) /\ fs.length <= 1000 /\ H dx = some (.own a):=by
 obtain ⟨d,z,ne,ob,mA,n,r,q⟩:=(show a17 P w H h a (.ins C dx fs) from hok a _ e)
 exact ⟨mA,⟨ob,n,ne⟩,r,q,z,d⟩
end
structure Cls (K:PySem.W.Frag) (C:Addr):Prop where
 pg:PySem.W.plainGet K C Str.empty = true
 hd:PySem.W.hasDictIn K C = true
 po:PySem.W.plainOver K C = true
 sa:PySem.W.findIn K (.ref C) "__setattr__" = some (some (.builtin "object.__setattr__"))
theorem Cls.get {K:PySem.W.Frag} {C:Addr} (c:Cls K C) (f:Str):PySem.W.plainGet K C f = true:=c.pg
def a0F (K:PySem.W.Frag) (C:Addr) (f:Str):Prop:=PySem.W.findIn K (.ref C) f = some none
theorem a0F.taker {K:PySem.W.Frag} {C:Addr} {f:Str} (n:a0F K C f):PySem.W.takerIn K C f = some none:=by
 unfold PySem.W.takerIn
 rw [show PySem.W.findIn K (.ref C) f = some none from n]
 rfl
structure Con (K:PySem.W.Frag) (C:Addr) (f:Str) (v:V) (u:Value):Prop where
 at_:PySem.W.findIn K (.ref C) f = some (some u)
 rel:RelV v u
 get:PySem.W.specialIn K u "__get__" = some none
 cp:PySem.W.copiedNames.contains f = false
structure Meth (K:PySem.W.Frag) (C:Addr) (m:Str) (f:Addr):Prop where
 at_:PySem.W.findIn K (.ref C) m = some (some (.ref f))
 fn:PySem.W.isFn K (.ref f) = true
 kp:PySem.W.keepIn K (.ref f) = true
section
variable {X:Cx} {pins:List (Addr × Obj)} {σ:St} {H:Hp} {s:Shared} {a C dx:Addr} {fs:List (Str × V)} {f:Str} {v:V} {A:Around} {E:Value -> Shared -> Prop}
theorem b9N {b:Bool} {Q:Value -> Shared -> Prop} (I:Inv X pins σ H s) (e:H a = some (.ins C dx fs)) (c:Cls X.K C) (n:a0F X.K C f) (l:fs.lookup f = some v)
 (h:∀ u s',Inv X pins σ H s' -> RelV v u -> Q u s'):wpAny (model X.prog X.w) A (getAttr (.ref a) f b) Q E s:=by
 obtain ⟨mA,O,r,_,_,_⟩:=b7S I.hok e
 obtain ⟨u,hu,ru⟩:=RelO.some_of (v:=v) (o:=mA f) (by rw [<- l]; exact r f)
 exact d0q I.kIn O (c.get f) c.hd n hu (c7C ru) (h u _ (I.tok _) ru)
theorem b0T {m:Str} {g:Addr} {pl:Sem Bool} {Q:Value × List Value -> Shared -> Prop} (I:Inv X pins σ H s) (e:H a = some (.ins C dx fs)) (c:Cls X.K C) (k:Meth X.K C m g) (l:fs.lookup m = none)
 (h:Q (.ref g,[.ref a]) s):wpAny (model X.prog X.w) A (getMethod (.ref a) m pl) Q E s:=by
 obtain ⟨mA,O,r,_,_,_⟩:=b7S I.hok e
 have hn:mA m = none:=RelO.none_of (by rw [<- l]; exact r m)
 exact c80 I.kIn O (c.get m) k.at_ k.fn hn h
theorem c6W {y:V} {u:Value} {Q:Unit -> Shared -> Prop} (I:Inv X pins σ H s) (e:H a = some (.ins C dx fs)) (c:Cls X.K C) (n:a0F X.K C f) (hl:fs.length < 1000) (ry:RelV y u)
 (h:∀ s',Inv X pins σ (upd H a (.ins C dx (putF f y fs))) s' -> Q () s'):wpAny (model X.prog X.w) A (setAttr (.ref a) f u) Q E s:=by
 obtain ⟨mA,O,r,wi,_,ho⟩:=b7S I.hok e
 have hz:(fs.map (·.1)).length <= sizeLine:=by rw [List.length_map,sizeLine_eq]; omega
 refine d0f I.kIn O c.sa c.po n.taker c.hd wi hz fun h' O' sb => h _ ?_
 have hd:∃ o,h'.get? dx = some o:=let ⟨o,_,_,e',_⟩:=O'.ns; ⟨o,e'⟩
 refine I.write (x:=a) (e:=dx) (by rw [e]; exact True.intro) (.inr ho) (fun b q hb z => (sb.2 b hb).trans z) hd ?_
 refine ⟨by rw [a0g O.ne]; exact ho,?_,O.ne,O'.obj,_,O'.ns,fun g => ?_,fun g hg => ?_⟩
 ·have:=b7c f y fs; omega
 ·show RelO ((putF f y fs).lookup g) (if g = f then some u else mA g)
  rw [b7h]
  by_cases q:g = f
  ·rw [if_pos q,if_pos q]; exact ry
  ·rw [if_neg q,if_neg q]; exact r g
 ·by_cases q:g = f
  ·rw [q]; exact (b8e f y fs).1
  ·refine (b8e f y fs).2 g (wi g fun z => hg ?_)
   show (if g = f then some u else mA g) = none
   rw [if_neg q]; exact z
theorem Inv.made (I:Inv X pins σ H s):Inv X pins σ (upd (upd H s.heap.objs.size (.own (s.heap.objs.size + 1))) (s.heap.objs.size + 1) (.ins C s.heap.objs.size []))
 { s with heap:=(s.heap.push PySem.W.emptyDict).push (PySem.W.instObj C s.heap.objs.size) }:=by
 have e1:(s.heap.push PySem.W.emptyDict).get? s.heap.objs.size = some PySem.W.emptyDict:=Heap.get?_push_size s.heap rfl
 have e2:((s.heap.push PySem.W.emptyDict).push (PySem.W.instObj C s.heap.objs.size)).get? (s.heap.objs.size + 1) = some (PySem.W.instObj C s.heap.objs.size):=by
  have:=Heap.get?_push_size (s.heap.push PySem.W.emptyDict) (o:=PySem.W.instObj C s.heap.objs.size) rfl
  rwa [Heap.size_push] at this
 have e3:(s.heap.push PySem.W.emptyDict).Ns s.heap.objs.size (fun _ => none):=⟨PySem.W.emptyDict,#[],_,e1,rfl,(fun e he => absurd he (by simp)),fun _ => rfl⟩
 have I1:=I.laid (a:=s.heap.objs.size) (o:=.own (s.heap.objs.size + 1)) (h':=s.heap.push PySem.W.emptyDict) (t':=s.toks) (fun b u q => Heap.get?_push_of_some _ q) (Nat.le_refl _) ⟨_,e1⟩
 refine I1.laid (a:=s.heap.objs.size + 1) (o:=.ins C s.heap.objs.size []) (t':=s.toks) (fun b u q => Heap.get?_push_of_some _ q) (Nat.le_of_eq (Heap.size_push _ _)) ?_
 have ne:s.heap.objs.size ≠ s.heap.objs.size + 1:=Nat.ne_of_lt (Nat.lt_succ_self _)
 refine ⟨by rw [a0g ne,a0c],Nat.zero_le _,ne,e2,fun _ => none,(Heap.Ns1.of_empty e3).at fun o q => Heap.get?_push_of_some _ q,fun _ => True.intro,fun y hy => absurd rfl hy⟩
theorem d0l {prog:Program} {w:World} {env:Env} {e:Expr} {f:Str} {pos:Pos} {s:Shared} {Q:Value -> Shared -> Prop} (hb:attributeBase e f env (eval e env) = eval e env)
 (h:wpAny (model prog w) A (eval e env) (fun o s₁ => wpAny (model prog w) A (getAttr o f true) Q E s₁) E s):wpAny (model prog w) A (eval (.Attribute e f pos) env) Q E s :=
 Attribute_any_ h (by rw [arm_eval_Attribute,hb])
end
def tFld (K:PySem.W.Frag) (ta:TE) (f:Str):TE:=fun σ H Q => ta σ H fun x H1 => ∃ a C dx fs v,x = .ref a /\ H1 a = some (.ins C dx fs) /\ Cls K C /\ a0F K C f /\ fs.lookup f = some v /\ Q v H1
def sFld (K:PySem.W.Frag) (ta tv:TE) (f:Str):TS:=fun D σ H => tv σ H fun y H1 => ta σ H1 fun x H2 => ∃ a C dx fs,x = .ref a /\ H2 a = some (.ins C dx fs) /\ Cls K C /\ a0F K C f /\ fs.length < 1000 /\
 D.nx σ (upd H2 a (.ins C dx (putF f y fs)))
section
variable {X:Cx} {o e value:Expr} {f:Str} {pos pos' tpos:Pos} {ta tv:TE}
theorem a0n (he:PE X e ta) (hb:attributeBase e f X.env (eval e X.env) = eval e X.env):PE X (.Attribute e f pos) (tFld X.K ta f):=by
 intro pins s σ H Q I h
 refine d0l hb (thn (he pins s σ H _ I h) fun u s1 ⟨x,H1,I1,rx,a,C,dx,fs,v,ex,ea,c,n,l,q⟩ => ?_)
 subst ex
 obtain rfl:u = Value.ref a:=rx
 exact b9N I1 ea c n l fun u' s2 I2 ru => ⟨v,H1,I2,ru,q⟩
theorem a0S (ha:PE X o ta) (hv:PE X value tv) (hs:swapsWith value (some (.Attribute o f pos')) pos.line X.env = pure false):PS X (.Assign [.Attribute o f pos'] value pos) (sFld X.K ta tv f):=by
 intro pins s σ H D I h
 refine plainObj_wpAny_Assign_Attribute (thn (hv pins s σ H _ I h) fun u s1 ⟨y,H1,I1,ry,q⟩ => thn (ha pins s1 σ H1 _ I1 q) fun ov s2 ⟨x,H2,I2,rx,a,C,dx,fs,ex,ea,c,n,l,q2⟩ => ?_) hs
 subst ex
 obtain rfl:ov = Value.ref a:=rx
 exact c6W I2 ea c n l ry fun s3 I3 => ⟨σ,_,I3,q2⟩
theorem methcall_of {pl:Sem Bool} {m:Str} {apos:Pos} {args:List Expr} {pins:List (Addr × Obj)} {s:Shared} {σ:St} {H:Hp} {Q:Value -> Shared -> Prop} {te:TE} (he:PE X e te) (I:Inv X pins σ H s)
 (h:te σ H fun x H1 => ∃ a C dx fs g,x = .ref a /\ H1 a = some (.ins C dx fs) /\ Cls X.K C /\ Meth X.K C m g /\ fs.lookup m = none /\
  ∀ s1,Inv X pins σ H1 s1 -> wpAny (model X.prog X.w) X.A (callWith pos (.ref g) [.ref a] (backTo pos (starEach args X.env)) (backToKw pos (keywordEach [] X.env))) Q X.xe s1)
 (ht:eval (.Call (.Attribute e m apos) args [] pos) X.env = (do
  let ov <- eval e X.env
  standAt apos.atName
  let (f,first) <- holding [ov] (getMethod ov m pl)
  callWith pos f first (backTo pos (starEach args X.env)) (backToKw pos (keywordEach [] X.env)))) :
 wpAny (model X.prog X.w) X.A (eval (.Call (.Attribute e m apos) args [] pos) X.env) Q X.xe s:=by
 refine PySem.W.methodCall_KW (pl:=pl) (thn (he pins s σ H _ I h) fun u s1 ⟨x,H1,I1,rx,a,C,dx,fs,g,ex,ea,c,k,l,q⟩ => ?_) ht
 subst ex
 obtain rfl:u = Value.ref a:=rx
 exact b0T I1 ea c k l (q s1 I1)
end
section
variable {X:Cx} {pins:List (Addr × Obj)} {σ:St} {H:Hp} {s:Shared} {A:Around} {E:Value -> Shared -> Prop} {Q:Value -> Shared -> Prop} {c:Value} {b:Bool}
inductive TyOf (K:PySem.W.Frag) (H:Hp):V -> Value -> Prop where
 | non:TyOf K H .non (.type "NoneType")
 | bl (x:Bool):TyOf K H (.bl x) (.type "bool")
 | int (i:Int):TyOf K H (.int i) (.type "int")
 | str (x:Str):TyOf K H (.str x) (.type "str")
 | flt (x:UInt64):TyOf K H (.flt x) (.type "float")
 | lst {a:Addr} {xs:List V} (e:H a = some (.lst xs)):TyOf K H (.ref a) (.type "list")
 | frz {a:Addr} {o:Obj} {xs:List V} (e:H a = some (.frz o (.lst xs))):TyOf K H (.ref a) (.type "list")
 | tup {a:Addr} {xs:List V} (e:H a = some (.tup xs)):TyOf K H (.ref a) (.type "tuple")
 | dK {a:Addr} {kvs:List (Key × V)} (e:H a = some (.dK kvs)):TyOf K H (.ref a) (.type "dict")
 | dT {a:Addr} {kvs:List (List Key × V)} (e:H a = some (.dT kvs)):TyOf K H (.ref a) (.type "dict")
 | ins {a C dx:Addr} {fs:List (Str × V)} (e:H a = some (.ins C dx fs)) (cl:Cls K C) (ha:PySem.W.findIn K (.ref C) "__class__" = some (some (.builtin "object.__class__")))
  (hn:PySem.W.specialIn K (.builtin "object.__class__") "__get__" = some (some (.builtin "getset_descriptor.__get__"))) (htk:PySem.W.takesIn K (.builtin "object.__class__") = some true)
  (hm:PySem.W.mroIn K C (.type "object") = some true):TyOf K H (.ref a) (.ref C)
theorem c7Q {x:V} {u t:Value} (I:Inv X pins σ H s) (rx:RelV x u) (ty:TyOf X.K H x t) (e:PySem.W.kitOne X.K t c = some b) (h:∀ tk,Q (.bool b) { s with toks:=tk }) :
 wpAny (model X.prog X.w) A (call (.builtin "isinstance") [u,c]) Q E s:=by
 cases ty with
 | non => cases (show u = Value.none from rx); exact PySem.W.kia_one PySem.W.kitx_none I.kIn True.intro e (fun z => nomatch z) h
 | bl y => cases (show u = Value.bool y from rx); exact PySem.W.kia_one PySem.W.kitx_bool I.kIn True.intro e (fun z => nomatch z) h
 | int i => obtain ⟨t,q⟩:=(show ∃ t,u = Value.int i t from rx); cases q; exact PySem.W.kia_one PySem.W.kitx_int I.kIn True.intro e (fun z => nomatch z) h
 | str y => obtain ⟨t,q⟩:=(show ∃ t,u = Value.str y t from rx); cases q; exact PySem.W.kia_one PySem.W.kitx_str I.kIn True.intro e (fun z => nomatch z) h
 | flt y => obtain ⟨t,q⟩:=(show ∃ t,u = Value.float y t from rx); cases q; exact PySem.W.kia_one PySem.W.kitx_float I.kIn True.intro e (fun z => nomatch z) h
 | @lst a xs ea =>
  cases (show u = Value.ref a from rx)
  obtain ⟨_,_,n,_,h1⟩:=(show a17 X.prog X.w H s.heap a (.lst xs) from I.hok a _ ea)
  exact PySem.W.kia_one PySem.W.kitx_list I.kIn ⟨_,h1,rfl⟩ e (fun z => nomatch z) h
 | @frz a ob xs ea =>
  cases (show u = Value.ref a from rx)
  obtain ⟨_,_,_,n,_,h1⟩:=(show a17 X.prog X.w H s.heap a (.frz ob (.lst xs)) from I.hok a _ ea)
  exact PySem.W.kia_one PySem.W.kitx_list I.kIn ⟨_,h1,rfl⟩ e (fun z => nomatch z) h
 | @tup a xs ea =>
  cases (show u = Value.ref a from rx)
  obtain ⟨_,_,_,p⟩:=(show a17 X.prog X.w H s.heap a (.tup xs) from I.hok a _ ea)
  obtain ⟨o,h1,h2,_⟩:=p
  exact PySem.W.kia_one PySem.W.kitx_tuple I.kIn ⟨o,h1,h2⟩ e (fun z => nomatch z) h
 | @dK a kvs ea =>
  cases (show u = Value.ref a from rx)
  obtain ⟨_,_,vs,_,p⟩:=(show a17 X.prog X.w H s.heap a (.dK kvs) from I.hok a _ ea)
  obtain ⟨o,es,ep,h1,h2,_⟩:=p
  exact PySem.W.kia_one PySem.W.kitx_dict I.kIn ⟨o,h1,h2.1⟩ e (fun z => nomatch z) h
 | @dT a kvs ea =>
  cases (show u = Value.ref a from rx)
  obtain ⟨_,_,xs,_,o,es,ep,h1,h2,_⟩:=(show a17 X.prog X.w H s.heap a (.dT kvs) from I.hok a _ ea)
  exact PySem.W.kia_one PySem.W.kitx_dict I.kIn ⟨o,h1,h2.1⟩ e (fun z => nomatch z) h
 | @ins a C dx fs ea cl ha hn htk hm =>
  cases (show u = Value.ref a from rx)
  obtain ⟨mA,O,_⟩:=b7S I.hok ea
  obtain ⟨od,J,_⟩:=O.look
  exact PySem.W.kia_one (PySem.W.kitx_own (cl.get _) cl.hd ha hn htk hm) I.kIn J e (fun z => nomatch z) h
end
end L2
namespace L2
open PySem PySem.Spec PyProof.Rows
structure Room (k:Nat) (A:Around):Prop where
 hd:A.handled = none
 dp:A.depth + 3 * k + 5 < recursionLimit
 un:A.units + 16 * k + 200 < cLine
theorem Room.mono {j k:Nat} {A:Around} (r:Room k A) (h:j <= k):Room j A:=⟨r.hd,by have:=r.dp; omega,by have:=r.un; omega⟩
theorem Room.deeper {k:Nat} {A:Around} (r:Room (k + 1) A) (env:Env):Room k (A.deeper env) :=
 ⟨r.hd,by have:=r.dp; show A.depth + 1 + 3 * k + 5 < _; omega,by have:=r.un; show A.units + 3 + 16 * k + 200 < _; omega⟩
theorem c66 {A:Around} {C:Addr} {us:List Value} {kw:List (Str × Value)}:(A.under (.builtin "type.__call__" ⟨.ref C :: us,kw⟩)).depth = A.depth + 1:=by
 first | rfl | simp [Around.under,Code.weight,Code.isCreation,Code.isGuard,Code.isCaller,Code.frames,Code.isFrame,guardIds]
theorem c60 {A:Around} {C:Addr} {us:List Value} {kw:List (Str × Value)}:(A.under (.builtin "type.__call__" ⟨.ref C :: us,kw⟩)).units = A.units + 1:=by
 first | rfl | simp [Around.under,Code.cUnits,Code.frames,Code.isFrame]
theorem Room.make {k:Nat} {A:Around} (r:Room (k + 1) A) (C:Addr) (us:List Value) (kw:List (Str × Value)):Room k (A.under (.builtin "type.__call__" ⟨.ref C :: us,kw⟩)) :=
 ⟨r.hd,by have:=r.dp; rw [c66]; omega,by have:=r.un; rw [c60]; omega⟩
theorem Room.depth {k:Nat} {A:Around} (r:Room k A):A.depth < recursionLimit:=by have:=r.dp; omega
theorem Room.units {k:Nat} {A:Around} (r:Room k A):A.units + 64 < cLine:=by have:=r.un; omega
def tNil:TA:=fun _ H Q => Q [] H
def d2S (ta:TE) (tr:TA):TA:=fun σ H Q => ta σ H fun x H1 => tr σ H1 fun xs H2 => Q (x :: xs) H2
section
variable {X:Cx} {e:Expr} {es:List Expr} {te:TE} {t:TA} {pos:Pos}
theorem a0f:PA X [] tNil:=fun _ _ _ _ H Q I h => Calls.spliced_nil ⟨[],H,I,.nil,h⟩
theorem a0a (ha:PE X e te) (hr:PA X es t) (hs:starEach (e :: es) X.env = (false,eval e X.env) :: starEach es X.env:=by rfl):PA X (e :: es) (d2S te t):=by
 intro pos pins s σ H Q I h
 rw [hs]
 show wpAny _ _ (spliced ((false,eval e X.env) :: backTo pos (starEach es X.env))) _ _ s
 refine Calls.spliced_cons (thn (ha pins s σ H _ I h) fun u s1 ⟨x,H1,I1,r1,q1⟩ => ?_)
 exact thn (hr pos pins s1 σ H1 _ I1 q1) fun us s2 ⟨xs,H2,I2,r2,q2⟩ => ⟨x :: xs,H2,I2,.cons r1 r2,q2⟩
def tTup (t:TA):TE:=fun σ H Q => t σ H fun xs H1 => xs.length <= sizeLine /\ ∀ p,H1 p = none -> Q (.ref p) (upd H1 p (.tup xs))
def tLst (t:TA):TE:=fun σ H Q => t σ H fun xs H1 => xs.length <= sizeLine /\ ∀ p,H1 p = none -> Q (.ref p) (upd H1 p (.lst xs))
theorem a7e {x1} (h:PA X es t):PE X (.Tuple es x1 pos) (tTup t):=by
 intro pins s σ H Q I hq
 refine wpAny_Tuple_spliced (thn (h pos pins s σ H _ I hq) fun us s1 ⟨xs,H1,I1,r,z,q⟩ => ⟨by rw [<- r.length]; exact z,?_⟩)
 have hf:H1 s1.heap.objs.size = none:=I1.hok.fresh (Nat.le_refl _)
 refine ⟨.ref s1.heap.objs.size,upd H1 s1.heap.objs.size (.tup xs),I1.laid (t':=s1.toks) (fun b u e => Heap.get?_push_of_some _ e) (Nat.le_refl _) ?_,rfl,q _ hf⟩
 exact ⟨z,us,r,⟨_,Heap.get?_push_size _ rfl,rfl,_,rfl⟩⟩
theorem a2K (h:PA X es t):PE X (.List es pos) (tLst t):=by
 intro pins s σ H Q I hq
 refine wpAny_List_spliced (thn (h pos pins s σ H _ I hq) fun us s1 ⟨xs,H1,I1,r,z,q⟩ => ⟨by rw [<- r.length]; exact z,?_⟩)
 have hf:H1 s1.heap.objs.size = none:=I1.hok.fresh (Nat.le_refl _)
 refine ⟨.ref s1.heap.objs.size,upd H1 s1.heap.objs.size (.lst xs),I1.laid (t':=s1.toks) (fun b u e => Heap.get?_push_of_some _ e) (Nat.le_refl _) ?_,rfl,q _ hf⟩
 exact ⟨z,us,0,r,Heap.get?_push_size _ rfl⟩
end
abbrev Sp:=List V -> Hp -> VK -> XK -> Prop
abbrev CXT:=List Env -> Hp -> Shared -> XK -> Value -> Shared -> Prop
structure Env0 (P:Program) (w:World) (K:PySem.W.Frag) (mg:Str -> Option Value) (base:Heap) (A:Around) (outer:List Env) (s:Shared) (H:Hp):Prop where
 frames:A.frames = some outer
 mod:Mod K mg base
 bs:∀ b o,base.get? b = some o -> s.heap.get? b = some o /\ H b = none
 bsz:base.objs.size <= s.heap.objs.size
 funs:s.heap.FunFrames base outer
 frf:∀ b ∈ frs outer,H b = none
 hok:HOk P w H s.heap
 bare:AllBare s.gens
def CE (outer:List Env) (P:Program) (w:World) (H:Hp) (s:Shared) (Q:VK) (u:Value) (s':Shared):Prop :=
 ∃ v H',s'.os = s.os /\ AllBare s'.gens /\ Un (frs outer) [] H H' s.heap s'.heap /\ HOk P w H' s'.heap /\ RelV v u /\ Q v H'
def CR (CX:CXT) (outer:List Env) (P:Program) (w:World) (H:Hp) (s:Shared) (Q:VK) (E:XK) (r:Result) (s':Shared):Prop :=
 match r with
 | .ok (.ret u) => CE outer P w H s Q u s'
 | .ok _ => False
 | .error e => CX outer H s E e s'
structure FnOk (P:Program) (w:World) (K:PySem.W.Frag) (mg:Str -> Option Value) (base:Heap) (CX:CXT) (k:Nat) (f:Addr) (fd:FuncData) (ps:List Str) (sp:Sp):Prop where
 len:∀ vs H Q E,sp vs H Q E -> vs.length = ps.length
 run:∀ (A:Around) (outer:List Env) (s:Shared) (H:Hp) (args:Args) (us:List Value) (vs:List V) (Q:VK) (E:XK),Room k A -> Env0 P w K mg base A outer s H -> BindsTo s fd args (ps.zip us) -> Vals vs us -> sp vs H Q E ->
  codeAny (model P w) A (.call (.ref f) args) (CR CX outer P w H s Q E) s
theorem FnOk.mono {P:Program} {w:World} {K:PySem.W.Frag} {mg:Str -> Option Value} {base:Heap} {CX:CXT} {j k:Nat} {f:Addr} {fd:FuncData} {ps:List Str} {sp:Sp} (F:FnOk P w K mg base CX j f fd ps sp) (h:j <= k) :
 FnOk P w K mg base CX k f fd ps sp:=⟨F.len,fun A outer s H args us vs Q E hr => F.run A outer s H args us vs Q E (hr.mono h)⟩
theorem Env0.make {P:Program} {w:World} {K:PySem.W.Frag} {mg:Str -> Option Value} {base:Heap} {A:Around} {outer:List Env} {s:Shared} {H:Hp} (e:Env0 P w K mg base A outer s H) (C:Addr) (us:List Value) (kw:List (Str × Value)) :
 Env0 P w K mg base (A.under (.builtin "type.__call__" ⟨.ref C :: us,kw⟩)) outer s H:=⟨by first | exact e.frames | (simpa [Around.under,Code.envs,Code.isFrame,pushEnvs] using e.frames),e.mod,e.bs,e.bsz,e.funs,e.frf,e.hok,e.bare⟩
section
variable {X:Cx} {pins:List (Addr × Obj)} {σ:St} {H:Hp} {s s':Shared}
theorem Inv.env0 (I:Inv X pins σ H s):Env0 X.prog X.w X.K X.mg X.base X.A X.stack s H :=
 ⟨I.ok.frames,I.ok.mod,I.bs,Nat.le_trans I.ok.bsz I.sz,I.stack,I.stkFree,I.hok,I.bare⟩
theorem Inv.after {Q:VK} {u:Value} (I:Inv X pins σ H s) (h:CE X.stack X.prog X.w H s Q u s'):EP X pins σ Q u s':=by
 obtain ⟨v,H',os,bare,un,hok,r,q⟩:=h
 obtain ⟨hh,g,d,t,os'⟩:=s'
 obtain rfl:os' = s.os:=os
 exact ⟨v,H',I.call (h':=hh) (g':=g) (d':=d) (t':=t) (ch:=[]) un hok bare (fun b z => absurd z (by simp)),r,q⟩
end
def d0T (sp:Sp) (dvs:List V) (E:XK) (t:TA):TE:=fun σ H Q => t σ H fun vs H1 => sp (vs ++ dvs) H1 Q E
def c9F (C:Addr) (m:Str) (sp:Sp) (dvs:List V) (E:XK) (ta:TE) (t:TA):TE:=fun σ H Q => ta σ H fun x H1 => ∃ a dx fs,x = .ref a /\ H1 a = some (.ins C dx fs) /\ fs.lookup m = none /\
 t σ H1 fun vs H2 => sp (x :: (vs ++ dvs)) H2 Q E
def c9a (C:Addr) (sp:Sp) (dvs:List V) (E:XK) (t:TA):TE:=fun σ H Q => t σ H fun vs H1 => ∀ x dx,H1 x = none -> H1 dx = none -> dx ≠ x ->
 sp (.ref x :: (vs ++ dvs)) (upd (upd H1 dx (.own x)) x (.ins C dx [])) (fun v H2 => v = .non /\ Q (.ref x) H2) E
def b2u (K:PySem.W.Frag) (fd:FuncData) (ps:List Str) (ds:List Value):Prop :=
 ∀ (s:Shared) (us:List Value),K.In s.heap -> (us ++ ds).length = ps.length -> BindsTo s fd ⟨us,[]⟩ (ps.zip (us ++ ds))
theorem b2u.all {K:PySem.W.Frag} {fd:FuncData} {ps:List Str} (h:∀ us:List Value,us.length = ps.length -> bindArgs fd ⟨us,[]⟩ = pure (ps.zip us)):b2u K fd ps []:=fun s us _ hl => by
 rw [List.append_nil] at hl ⊢
 exact .of_eq (h us hl)
def a7p (CX:CXT) (X:Cx) (E:XK):Prop:=∀ (pins:List (Addr × Obj)) (σ:St) (H:Hp) (s:Shared) (e:Value) (s':Shared),Inv X pins σ H s -> CX X.stack H s E e s' -> X.xe e s'
section
variable {X:Cx} {CX:CXT} {k:Nat} {f C:Addr} {fd:FuncData} {ps:List Str} {sp:Sp} {dvs:List V} {ds:List Value} {E:XK} {x m:Str} {p pos apos:Pos} {e o:Expr} {es:List Expr} {ta:TE} {t:TA}
theorem c6A {pins:List (Addr × Obj)} {σ:St} {H:Hp} {s:Shared} {Q:VK} {us:List Value} {vs:List V} (F:FnOk X.prog X.w X.K X.mg X.base CX k f fd ps sp) (hr:Room k X.A) (hb:b2u X.K fd ps ds) (hd:Vals dvs ds) (hx:a7p CX X E)
 (I:Inv X pins σ H s) (r:Vals vs us) (h:sp (vs ++ dvs) H Q E):wpAny (model X.prog X.w) X.A (call (.ref f) us) (EP X pins σ Q) X.xe s:=by
 have r2:Vals (vs ++ dvs) (us ++ ds):=r.append hd
 have hl:(us ++ ds).length = ps.length:=by rw [<- r2.length]; exact F.len _ _ _ _ h
 refine wpAny_call (codeAny_mono (F.run X.A X.stack s H ⟨us,[]⟩ (us ++ ds) (vs ++ dvs) Q E hr I.env0 (hb s us I.kIn hl) r2 h) fun r s' hq => ?_)
 cases r with
 | error e => exact hx pins σ H s e s' I hq
 | ok fl =>
  cases fl with
  | ret u => exact I.after hq
  | next => exact False.elim hq
  | brk => exact False.elim hq
  | cont => exact False.elim hq
theorem d01 (F:FnOk X.prog X.w X.K X.mg X.base CX k f fd ps sp) (hr:Room k X.A) (hg:Gl X x) (hm:X.mg x = some (.ref f)) (hk:PySem.W.keepIn X.K (.ref f) = true) (hb:b2u X.K fd ps ds) (hd:Vals dvs ds) (hx:a7p CX X E)
 (ha:PA X (e :: es) t) (hdb:(x == ("__debug__" : Str)) = false:=by decide) (he:starEach (e :: es) X.env = (false,eval e X.env) :: starEach es X.env:=by rfl) (hpl:(backTo pos (starEach es X.env)).any (·.1) = false:=by rfl) :
 PE X (.Call (.Name x p) (e :: es) [] pos) (d0T sp dvs E t):=by
 intro pins s σ H Q I h
 refine wpAny_Call_Name_kw (b6Y I hg hm ?_ hdb)
 refine PySem.W.callWith_K (h₀:=X.base) I.ok.mod.kin hk (thn (ha pos pins s σ H _ I h) fun us s1 ⟨vs,H1,I1,r,q⟩ => ⟨I1.kIn,?_⟩) he hpl
 exact c6A F hr hb hd hx I1 r q
theorem c96 {pl:Sem Bool} (he:PE X o ta) (c:Cls X.K C) (hm:Meth X.K C m f) (F:FnOk X.prog X.w X.K X.mg X.base CX k f fd ps sp) (hr:Room k X.A) (hb:b2u X.K fd ps ds) (hd:Vals dvs ds) (hx:a7p CX X E) (ha:PA X (e :: es) t)
 (hst:starEach (e :: es) X.env = (false,eval e X.env) :: starEach es X.env:=by rfl) (hpl:(backTo pos (starEach es X.env)).any (·.1) = false:=by rfl)
 (ht:eval (.Call (.Attribute o m apos) (e :: es) [] pos) X.env = (do
  let ov <- eval o X.env
  standAt apos.atName
  let (f,first) <- holding [ov] (getMethod ov m pl)
  callWith pos f first (backTo pos (starEach (e :: es) X.env)) (backToKw pos (keywordEach [] X.env))):=by rfl) :
 PE X (.Call (.Attribute o m apos) (e :: es) [] pos) (c9F C m sp dvs E ta t):=by
 intro pins s σ H Q I h
 refine PySem.W.methodCall_KW (pl:=pl) (thn (he pins s σ H _ I h) fun u s1 ⟨x,H1,I1,rx,a,dx,fs,ex,ea,l,q⟩ => ?_) ht
 subst ex
 obtain rfl:u = Value.ref a:=rx
 refine b0T I1 ea c hm l ?_
 refine PySem.W.callWith_K (first:=[.ref a]) (h₀:=X.base) I.ok.mod.kin hm.kp (thn (ha pos pins s1 σ H1 _ I1 q) fun us s2 ⟨vs,H2,I2,r,q2⟩ => ⟨I2.kIn,?_⟩) hst hpl
 exact c6A (us:=.ref a :: us) (vs:=.ref a :: vs) F hr hb hd hx I2 (.cons rfl r) q2
theorem c82 {pl:Sem Bool} (he:PE X o ta) (c:Cls X.K C) (hm:Meth X.K C m f) (F:FnOk X.prog X.w X.K X.mg X.base CX k f fd ps sp) (hr:Room k X.A) (hb:b2u X.K fd ps ds) (hd:Vals dvs ds) (hx:a7p CX X E)
 (ht:eval (.Call (.Attribute o m apos) [] [] pos) X.env = (do
  let ov <- eval o X.env
  standAt apos.atName
  let (f,first) <- holding [ov] (getMethod ov m pl)
  callWith pos f first (backTo pos (starEach [] X.env)) (backToKw pos (keywordEach [] X.env))):=by rfl) :
 PE X (.Call (.Attribute o m apos) [] [] pos) (c9F C m sp dvs E ta tNil):=by
 intro pins s σ H Q I h
 refine PySem.W.methodCall_KW (pl:=pl) (thn (he pins s σ H _ I h) fun u s1 ⟨x,H1,I1,rx,a,dx,fs,ex,ea,l,q⟩ => ?_) ht
 subst ex
 obtain rfl:u = Value.ref a:=rx
 refine b0T I1 ea c hm l ?_
 exact PySem.W.callWith_K0 (first:=[.ref a]) I1.kIn hm.kp (c6A (us:=[.ref a]) (vs:=[.ref a]) F hr hb hd hx I1 (.cons rfl .nil) q)
structure Mk (K:PySem.W.Frag) (C f:Addr):Prop where
 makes:PySem.W.makesIn K C = true
 init:PySem.W.findIn K (.ref C) "__init__" = some (some (.ref f))
 fn:PySem.W.isFn K (.ref f) = true
 kp:PySem.W.keepIn K (.ref C) = true
theorem c6n {pins:List (Addr × Obj)} {σ:St} {H:Hp} {s:Shared} {Q:VK} {us:List Value} {vs:List V} (M:Mk X.K C f) (F:FnOk X.prog X.w X.K X.mg X.base CX k f fd ps sp) (hr:Room (k + 1) X.A) (hb:b2u X.K fd ps ds) (hd:Vals dvs ds)
 (hx:a7p CX X E) (I:Inv X pins σ H s) (r:Vals vs us)
 (h:∀ x dx,H x = none -> H dx = none -> dx ≠ x -> sp (.ref x :: (vs ++ dvs)) (upd (upd H dx (.own x)) x (.ins C dx [])) (fun v H2 => v = .non /\ Q (.ref x) H2) E) :
 wpAny (model X.prog X.w) X.A (call (.ref C) us) (EP X pins σ Q) X.xe s:=by
 have hq:=h (s.heap.objs.size + 1) s.heap.objs.size (I.hok.fresh (Nat.le_succ _)) (I.hok.fresh (Nat.le_refl _)) (Nat.ne_of_lt (Nat.lt_succ_self _))
 have I2:=Inv.made (C:=C) I
 have r2:Vals (V.ref (s.heap.objs.size + 1) :: (vs ++ dvs)) (Value.ref (s.heap.objs.size + 1) :: (us ++ ds)):=.cons rfl (r.append hd)
 have hl:(Value.ref (s.heap.objs.size + 1) :: us ++ ds).length = ps.length:=by
  have e:=r2.length
  rw [F.len _ _ _ _ hq] at e
  exact e.symm
 refine wpAny_call (c9s (f:=f) I.kIn M.makes M.init (beq_iff_eq.mp M.fn) (codeAny_mono (F.run _ X.stack _ _ ⟨Value.ref (s.heap.objs.size + 1) :: us,[]⟩ (Value.ref (s.heap.objs.size + 1) :: (us ++ ds)) _ _ E (hr.make C us [])
  (I2.env0.make C us []) (hb _ (Value.ref (s.heap.objs.size + 1) :: us) I2.kIn hl) r2 hq) fun r s' hq' => ?_))
 cases r with
 | error e => exact hx pins σ _ _ e s' I2 hq'
 | ok fl =>
  cases fl with
  | ret u =>
   obtain ⟨v,H',I3,rv,ev,q3⟩:=I2.after hq'
   subst ev
   exact ⟨rv,⟨V.ref (s.heap.objs.size + 1),H',I3,rfl,q3⟩⟩
  | next => exact False.elim hq'
  | brk => exact False.elim hq'
  | cont => exact False.elim hq'
theorem d0C (M:Mk X.K C f) (F:FnOk X.prog X.w X.K X.mg X.base CX k f fd ps sp) (hr:Room (k + 1) X.A) (hg:Gl X x) (hm:X.mg x = some (.ref C)) (hb:b2u X.K fd ps ds) (hd:Vals dvs ds) (hx:a7p CX X E)
 (ha:PA X (e :: es) t) (hdb:(x == ("__debug__" : Str)) = false:=by decide) (he:starEach (e :: es) X.env = (false,eval e X.env) :: starEach es X.env:=by rfl) (hpl:(backTo pos (starEach es X.env)).any (·.1) = false:=by rfl) :
 PE X (.Call (.Name x p) (e :: es) [] pos) (c9a C sp dvs E t):=by
 intro pins s σ H Q I h
 refine wpAny_Call_Name_kw (b6Y I hg hm ?_ hdb)
 refine PySem.W.callWith_K (h₀:=X.base) I.ok.mod.kin M.kp (thn (ha pos pins s σ H _ I h) fun us s1 ⟨vs,H1,I1,r,q⟩ => ⟨I1.kIn,?_⟩) he hpl
 exact c6n M F hr hb hd hx I1 r q
theorem c9b (M:Mk X.K C f) (F:FnOk X.prog X.w X.K X.mg X.base CX k f fd ps sp) (hr:Room (k + 1) X.A) (hg:Gl X x) (hm:X.mg x = some (.ref C)) (hb:b2u X.K fd ps ds) (hd:Vals dvs ds) (hx:a7p CX X E)
 (hdb:(x == ("__debug__" : Str)) = false:=by decide):PE X (.Call (.Name x p) [] [] pos) (c9a C sp dvs E tNil):=by
 intro pins s σ H Q I h
 refine wpAny_Call_Name_kw (b6Y I hg hm ?_ hdb)
 exact PySem.W.callWith_K0 I.kIn M.kp (c6n (us:=[]) M F hr hb hd hx I .nil h)
end
section
variable {X:Cx} {CX:CXT} {k:Nat} {f C:Addr} {fd:FuncData} {ps ks:List Str} {sp:Sp} {E:XK} {x m:Str} {p pos apos kpos:Pos} {e o:Expr} {es:List Expr} {kws:List Keyword} {te ta:TE} {t tk:TA} {nm:Option Str}
structure KBinds (K:PySem.W.Frag) (fd:FuncData) (ps ks:List Str) (g:List Value -> List Value -> List Value) (gV:List V -> List V -> List V):Prop where
 to:∀ (s:Shared) (us ws:List Value),K.In s.heap -> (g us ws).length = ps.length -> BindsTo s fd ⟨us,ks.zip ws⟩ (ps.zip (g us ws))
 rel:∀ {vs:List V} {us:List Value} {zs:List V} {ws:List Value},Vals vs us -> Vals zs ws -> Vals (gV vs zs) (g us ws)
variable {g:List Value -> List Value -> List Value} {gV:List V -> List V -> List V}
end
structure a0l (N P:List Str) (sc:Scope):Prop where
 kind:sc.kind = .function
 co:sc.isCoroutine = false
 gen:sc.isGenerator = false
 nd:N.Nodup
 pre:N.take P.length = P
 par:∀ x ∈ P,sc.names.lookup x = some .local ∨ sc.names.lookup x = some .cell
 nofree:∀ y ∈ sc.names,y.2 ≠ .free
theorem c3J {kindOf:Str -> Option NameKind} {x:Str}:∀ {binds:List (Str × Value)} {m:Str -> Option Value},(∀ v,(x,v) ∉ binds) -> bindL kindOf binds m x = m x
 | [],_,_ => rfl
 | (n,v) :: r,m,h => by
  unfold bindL
  rw [c3J fun w hw => h w (List.mem_cons_of_mem _ hw)]
  split
  ·have:x ≠ n:=by rintro rfl; exact h v List.mem_cons_self
   simp [this]
  ·rfl
theorem c4b {kindOf:Str -> Option NameKind} {x:Str}:∀ {binds:List (Str × Value)} {m:Str -> Option Value},(∀ v,(x,v) ∉ binds) -> bindC kindOf binds m x = m x
 | [],_,_ => rfl
 | (n,v) :: r,m,h => by
  unfold bindC
  rw [c4b fun w hw => h w (List.mem_cons_of_mem _ hw)]
  split
  ·rfl
  ·have:x ≠ n:=by rintro rfl; exact h v List.mem_cons_self
   simp [this]
theorem c3q {kindOf:Str -> Option NameKind} {x:Str} {v:Value}:∀ {P:List Str} {vs:List Value} {i:Nat} {m:Str -> Option Value},P.Nodup -> P[i]? = some x -> vs[i]? = some v -> kindOf x = some .local ->
 bindL kindOf (P.zip vs) m x = some v
 | [],_,_,_,_,h,_,_ => by simp at h
 | _ :: _,[],_,_,_,_,h,_ => by simp at h
 | p :: P,w :: vs,0,m,nd,h1,h2,hk => by
  simp at h1 h2; subst h1; subst h2
  show bindL kindOf ((p,w) :: P.zip vs) m p = _
  unfold bindL
  rw [c3J fun v hv => (List.nodup_cons.mp nd).1 (List.of_mem_zip hv).1,if_pos hk]
  simp
 | p :: P,w :: vs,i + 1,m,nd,h1,h2,hk => by
  show bindL kindOf ((p,w) :: P.zip vs) m x = _
  unfold bindL
  exact c3q (i:=i) (List.nodup_cons.mp nd).2 (by simpa using h1) (by simpa using h2) hk
theorem c4q {kindOf:Str -> Option NameKind} {x:Str} {v:Value}:∀ {P:List Str} {vs:List Value} {i:Nat} {m:Str -> Option Value},P.Nodup -> P[i]? = some x -> vs[i]? = some v -> kindOf x ≠ some .local ->
 bindC kindOf (P.zip vs) m x = some v
 | [],_,_,_,_,h,_,_ => by simp at h
 | _ :: _,[],_,_,_,_,h,_ => by simp at h
 | p :: P,w :: vs,0,m,nd,h1,h2,hk => by
  simp at h1 h2; subst h1; subst h2
  show bindC kindOf ((p,w) :: P.zip vs) m p = _
  unfold bindC
  rw [c4b fun v hv => (List.nodup_cons.mp nd).1 (List.of_mem_zip hv).1,if_neg hk]
  simp
 | p :: P,w :: vs,i + 1,m,nd,h1,h2,hk => by
  show bindC kindOf ((p,w) :: P.zip vs) m x = _
  unfold bindC
  exact c4q (i:=i) (List.nodup_cons.mp nd).2 (by simpa using h1) (by simpa using h2) hk
def start (N:List Str) (vs:List V):St:=vs.map some ++ List.replicate (N.length - vs.length) none
def cxOf (CX:CXT) (P:Program) (w:World) (K:PySem.W.Frag) (mg:Str -> Option Value) (base:Heap) (N:List Str) (qual:Str) (scope:Scope) (f:Addr) (cd:Value) (A:Around) (outer:List Env) (s:Shared) (H:Hp) (E:XK):Cx where
 prog:=P
 w:=w
 K:=K
 mg:=mg
 base:=base
 A:=A.deeper (envOfC qual scope s.heap.objs.size f cd)
 N:=N
 s₀:=s
 H₀:=H
 env:=envOfC qual scope s.heap.objs.size f cd
 outer:=outer
 stack:=envOfC qual scope s.heap.objs.size f cd :: outer
 ex:=[]
 calm:=true
 fn:=fun _ => true
 pn:=[]
 xe:=fun e s' => wpAny (model P w) (A.deeper (envOfC qual scope s.heap.objs.size f cd)) (leaving (envOfC qual scope s.heap.objs.size f cd) e) (fun _ s'' => CX outer H s E e s'') (fun e' s'' => CX outer H s E e' s'') s'
theorem c6s {sc:Scope} {n:Nat} {x:Str} (h:sc.names.lookup x = some .cell):∃ c,(cellsFrom n sc.names []).lookup x = some c:=by
 have q:=PySem.W.cellsFrom_some sc.names n [] (.inl h)
 exact Option.isSome_iff_exists.mp q
theorem c8L {CX:CXT} {P:Program} {w:World} {K:PySem.W.Frag} {mg:Str -> Option Value} {base:Heap} {N ps:List Str} {qual:Str} {scope:Scope} {f:Addr} {cd:Value} {A:Around} {outer:List Env} {s s1:Shared} {H:Hp} {E:XK} {us:List Value} {vs:List V}
 (S:a0l N ps scope) (hd:A.handled = none) (e0:Env0 P w K mg base A outer s H) (hl:vs.length = ps.length) (r:Vals vs us)
 (x:InCallC s s.heap.objs.size (bindL (envOfC qual scope s.heap.objs.size f cd).kindOf (ps.zip us) fun _ => none) (cellsFrom (s.heap.objs.size + 1) scope.names []) (bindC (envOfC qual scope s.heap.objs.size f cd).kindOf (ps.zip us) fun _ => none) s1) :
 Inv (cxOf CX P w K mg base N qual scope f cd A outer s H E) [] (start N vs) H s1:=by
 have hpl:ps.length <= N.length:=by have:=congrArg List.length S.pre; rw [List.length_take] at this; omega
 obtain ⟨h1,tk,rfl,hk⟩:=x.done
 have noA:∀ b:Addr,b ∉ (cxOf CX P w K mg base N qual scope f cd A outer s H E).ex:=fun b z => absurd (show b ∈ ([]:List Addr) from z) (by simp)
 refine ⟨⟨e0.mod,S.kind,rfl,rfl,Nat.le_refl _,fun y z c h1 h2 => ?_,fun y hy => ?_,fun y c _ h => ?_,fun _ => hd,Around.frames_deeper e0.frames,.inr ⟨rfl,rfl⟩,fun b z => absurd z (noA b),e0.bs,e0.bsz,fun b _ _ => noA b,fun b z => absurd z (noA b),e0.funs,e0.frf⟩,
  rfl,e0.bare,Un.kept hk,⟨_,x.toInCall.ns,fun i y v h1 h2 h3 => ?_⟩,fun y c h => ⟨_,x.cell y c h⟩,e0.hok.fresh (Nat.le_refl _),fun y c h => ?_,fun p hp => absurd (show p ∈ ([]:List (Addr × Obj)) from hp) (by simp),e0.hok.kept hk,?_⟩
 ·exact name_of_addr x.apart (PySem.mem_of_lookup h1) (PySem.mem_of_lookup h2)
 ·have hy:scope.names.lookup y = some .cell ∨ scope.names.lookup y = some .free:=hy
  rcases hy with hy | hy
  ·exact c6s hy
  ·exact absurd rfl (S.nofree _ (PySem.mem_of_lookup hy))
 ·exact Nat.le_of_lt (x.above y c (PySem.mem_of_lookup h))
 ·have hi:i < vs.length:=by
   unfold start at h2
   by_cases hi:i < vs.length
   ·exact hi
   ·rw [List.getElem?_append_right (by simpa using hi)] at h2
    rw [List.getElem?_replicate] at h2
    split at h2 <;> cases h2
  have ha:vs[i]? = some v:=by
   unfold start at h2
   rw [List.getElem?_append_left (by simpa using hi),List.getElem?_map] at h2
   cases e:vs[i]? with
   | none => rw [e] at h2; cases h2
   | some a => rw [e] at h2; cases h2; rfl
  obtain ⟨u,hu,rv⟩:=r.get ha
  have hp:ps[i]? = some y:=by
   rw [<- S.pre,List.getElem?_take_of_lt (by omega)]; exact h1
  have ndP:ps.Nodup:=by rw [<- S.pre]; exact S.nd.sublist (List.take_sublist _ _)
  refine ⟨u,rv,?_⟩
  rcases S.par y (List.mem_of_getElem? hp) with k | k
  ·exact .inl ⟨k,c3q ndP hp hu k⟩
  ·obtain ⟨c,e⟩:=c6s (n:=s.heap.objs.size + 1) k
   refine .inr ⟨.inl k,c,e,?_⟩
   have q:=x.cell y c e
   rw [c4q ndP hp hu (by show scope.names.lookup y ≠ _; rw [k]; decide)] at q
   exact q
 ·exact e0.hok.fresh (Nat.le_of_lt (x.above y c (PySem.mem_of_lookup h)))
 ·unfold start
  show _ = N.length
  rw [List.length_append,List.length_map,List.length_replicate]
  omega
theorem c98 {CX:CXT} {P:Program} {w:World} {K:PySem.W.Frag} {mg:Str -> Option Value} {base:Heap} {k:Nat} {f:Addr} {name qual:Str} {params:Arguments} {body:List Stmt} {scope:Scope} {dV kV doc pm cdv ct oc:Value} {an od:Option Addr}
 {osl:Array (Option Value)} {N ps:List Str} {sp:Sp} (lk:K.lookup f = some ⟨oc,od,.func (PySem.W.fnOf name qual params body scope dV kV doc pm an cdv ct),osl⟩) (hcd:PySem.W.codeIn K cdv qual = true) (S:a0l N ps scope)
 (len:∀ vs H Q E,sp vs H Q E -> vs.length = ps.length)
 (hbody:∀ (A:Around) (outer:List Env) (s:Shared) (H:Hp) (vs:List V) (Q:VK) (E:XK),Room k (A.deeper (envOfC qual scope s.heap.objs.size f cdv)) -> sp vs H Q E ->
  ∃ t,PSs (cxOf CX P w K mg base N qual scope f cdv A outer s H E) body t /\ t { nx:=fun _ H' => Q .non H',rt:=Q } (start N vs) H) :
 FnOk P w K mg base CX (k + 1) f (PySem.W.fnOf name qual params body scope dV kV doc pm an cdv ct) ps sp:=by
 refine ⟨len,fun A outer s H args us vs Q E hr e0 hb r hsp => ?_⟩
 have hl:=len _ _ _ _ hsp
 have KX:K.In s.heap:=e0.mod.kin.keeps fun b o e => (e0.bs b o e).1
 have lim:s.heap.NoLimit:=e0.mod.nolimit.keeps fun b o e => (e0.bs b o e).1
 have hkind:∀ y ∈ ps.zip us,scope.names.lookup y.1 = some .local ∨ (scope.names.lookup y.1 = some .cell /\ ((cellsFrom (s.heap.objs.size + 1) scope.names []).lookup y.1).isSome = true):=fun ⟨n,v⟩ hy => by
  rcases S.par n (List.of_mem_zip hy).1 with q | q
  ·exact .inl q
  ·exact .inr ⟨q,PySem.W.cellsFrom_some _ _ _ (.inl q)⟩
 refine codeAny_call_function hr.depth (KX _ _ lk) rfl S.co S.gen rfl (PySem.W.codeRec_of KX hcd) (hb _ _ _ _ ?_)
 refine wpAny_newFunctionEnv_cells S.kind hkind fun env he s1 x => ?_
 subst he
 refine ⟨lim.keeps x.toInCall.keep,codeAny_func ?_⟩
 obtain ⟨t,ht,hq⟩:=hbody A outer s H vs Q E (hr.deeper _) hsp
 have I:Inv (cxOf CX P w K mg base N qual scope f cdv A outer s H E) [] (start N vs) H s1:=c8L S hr.hd e0 hl r x
 refine wpAny_mono (ht [] s1 (start N vs) H _ I hq) (fun fl s' hs => ?_) fun e s' hs => hs
 have fin:∀ {σ':St} {H':Hp} {v:V} {u:Value},Inv (cxOf CX P w K mg base N qual scope f cdv A outer s H E) [] σ' H' s' -> RelV v u -> Q v H' -> CE outer P w H s Q u s' :=
  fun {σ' H' v u} J rv q => ⟨v,H',J.os,J.bare,J.base,J.hok,rv,q⟩
 cases fl with
 | ret u =>
  obtain ⟨v,σ',H',J,rv,q⟩:=hs
  exact fin J rv q
 | next =>
  obtain ⟨σ',H',J,q⟩:=hs
  exact fin (v:=V.non) (u:=Value.none) J rfl q
 | brk =>
  obtain ⟨_,_,_,q⟩:=hs
  exact False.elim q
 | cont =>
  obtain ⟨_,_,_,q⟩:=hs
  exact False.elim q
end L2
namespace L2
open PySem PySem.Spec PyProof.Rows
section
variable {X:Cx} {x:Str} {p pos:Pos} {e:Expr} {es:List Expr} {t:TA} {id T:String} {r:List V -> Hp -> VK -> Prop}
def tCB (r:List V -> Hp -> VK -> Prop) (t:TA):TE:=fun σ H Q => t σ H fun vs H1 => r vs H1 Q
theorem a0z (hc:b4w X (.builtin id) r) (hg:Gl X x) (hm:X.mg x = none) (hv:bootBuiltins x = some (.builtin id)) (ha:PA X (e :: es) t) (hn:x ≠ "__name__" := by decide) (hdb:(x == ("__debug__" : Str)) = false:=by decide)
 (he:starEach (e :: es) X.env = (false,eval e X.env) :: starEach es X.env:=by rfl) (hpl:(backTo pos (starEach es X.env)).any (·.1) = false:=by rfl):PE X (.Call (.Name x p) (e :: es) [] pos) (tCB r t):=by
 intro pins s σ H Q I h
 refine wpAny_Call_Name_kw (b9D I hg hm hv ?_ hn hdb)
 exact PyProof.Rows.callWith_builtin1 (thn (ha pos pins s σ H _ I h) fun us s1 ⟨vs,H1,I1,r1,q1⟩ => hc pins s1 σ H1 vs us Q I1 r1 q1) he hpl
theorem a71 (hc:b4w X (.type T) r) (hg:Gl X x) (hm:X.mg x = none) (hv:bootBuiltins x = some (.type T)) (ha:PA X (e :: es) t) (hn:x ≠ "__name__" := by decide) (hdb:(x == ("__debug__" : Str)) = false:=by decide)
 (he:starEach (e :: es) X.env = (false,eval e X.env) :: starEach es X.env:=by rfl) (hpl:(backTo pos (starEach es X.env)).any (·.1) = false:=by rfl):PE X (.Call (.Name x p) (e :: es) [] pos) (tCB r t):=by
 intro pins s σ H Q I h
 refine wpAny_Call_Name_kw (b9D I hg hm hv ?_ hn hdb)
 exact PyProof.Rows.callWith_type1 (thn (ha pos pins s σ H _ I h) fun us s1 ⟨vs,H1,I1,r1,q1⟩ => hc pins s1 σ H1 vs us Q I1 r1 q1) he hpl
end
end L2
namespace HT
open PySem PyProof.Rows
section
variable {prog:Program} {w:World} {A:Around} {E:Value -> Shared -> Prop} {s:Shared}
def sIx (n d:Nat):Option Int -> Nat
 | none => d
 | some v => if v < 0 then (v + (n:Int)).toNat else min v.toNat n
end
end HT
namespace L2
open PySem PySem.Spec PyProof.Rows
abbrev TO:=St -> Hp -> (Option Int -> Hp -> Prop) -> Prop
theorem b9O {ns:List Int}:∀ {us:List Value},Vals (ns.map V.int) us -> IntsAre us ns:=by
 induction ns with
 | nil => intro us r; rw [List.map_nil] at r; cases r; exact .nil
 | cons n ns ih =>
  intro us r
  rw [List.map_cons] at r
  cases r with
  | cons r1 r2 =>
   obtain ⟨t,e⟩:=r1
   subst e
   exact .cons n t (ih r2)
section
variable {X:Cx} {e:Expr} {te:TE} {lo hi:Option Expr} {tl th:TO} {pos p2:Pos}
def SlR (X:Cx) (r:V -> Option Int -> Option Int -> Hp -> VK -> Prop):Prop :=
 ∀ (pins:List (Addr × Obj)) (s:Shared) (σ:St) (H:Hp) (x:V) (v vl vu:Value) (lo hi:Option Int) (sl:Addr) (Q:VK),Inv X pins σ H s -> RelV x v -> s.heap.IsSliceOf sl vl vu .none -> IsPart vl lo -> IsPart vu hi -> r x lo hi H Q ->
  ∃ T id,typeLookup (.type T) "__getitem__" = pure (some (.builtin id)) /\ s.TypeIs v T /\ wpAny (model X.prog X.w) X.A (getItem v (.ref sl)) (EP X pins σ Q) X.xe s
theorem SlR.or {r r':V -> Option Int -> Option Int -> Hp -> VK -> Prop} (h:SlR X r) (h':SlR X r'):SlR X (fun x lo hi H Q => r x lo hi H Q ∨ r' x lo hi H Q):=by
 intro pins s σ H x v vl vu lo hi sl Q I rx hs pl pu q
 rcases q with q | q
 ·exact h pins s σ H x v vl vu lo hi sl Q I rx hs pl pu q
 ·exact h' pins s σ H x v vl vu lo hi sl Q I rx hs pl pu q
def cutV (xs:List V) (lo hi:Option Int):List V:=(xs.drop (HT.sIx xs.length 0 lo)).take (HT.sIx xs.length xs.length hi - HT.sIx xs.length 0 lo)
theorem c5U (xs:List V) (lo hi:Option Int):(cutV xs lo hi).length <= xs.length:=by
 unfold cutV
 rw [List.length_take,List.length_drop]
 omega
end
end L2
namespace L2
open PySem PySem.Spec PyProof.Rows
def ixN (n:Nat) (i:Int):Option Nat:=if 0 <= i then (if i < n then some i.toNat else none) else if -(n:Int) <= i then some (i + n).toNat else none
def atI {α:Type} (xs:List α) (i:Int):Option α:=(ixN xs.length i).bind fun j => xs[j]?
theorem c8F {n:Nat} {i:Int} {j:Nat} (h:ixN n i = some j):seqIndex? i n = some j /\ j < n /\ -(n:Int) <= i /\ i < n:=by
 unfold ixN at h
 by_cases h0:0 <= i
 ·rw [if_pos h0] at h
  by_cases h1:i < n
  ·rw [if_pos h1] at h
   have e:i.toNat = j:=Option.some.inj h
   exact ⟨by rw [seqIndex_of h0 h1,e],by omega,by omega,h1⟩
  ·rw [if_neg h1] at h; cases h
 ·rw [if_neg h0] at h
  by_cases h1 : -(n:Int) <= i
  ·rw [if_pos h1] at h
   have e:(i + n).toNat = j:=Option.some.inj h
   exact ⟨by rw [seqIndex_neg (by omega) h1,e],by omega,h1,by omega⟩
  ·rw [if_neg h1] at h; cases h
theorem c8I {α:Type} {xs:List α} {i:Int} {v:α} (h:atI xs i = some v):∃ j,seqIndex? i xs.length = some j /\ xs[j]? = some v /\ j < xs.length /\ -(xs.length:Int) <= i /\ i < xs.length:=by
 unfold atI at h
 cases e:ixN xs.length i with
 | none => rw [e] at h; cases h
 | some j =>
  rw [e] at h
  obtain ⟨h1,h2,h3,h4⟩:=c8F e
  exact ⟨j,h1,h,h2,h3,h4⟩
theorem c75 {α:Type} {xs:List α} {j:Nat} {v:α} (h:xs[j]? = some v):atI xs (j:Int) = some v:=by
 have hj:j < xs.length:=(List.getElem?_eq_some_iff.mp h).1
 have e:ixN xs.length (j:Int) = some j:=by
  unfold ixN
  rw [if_pos (by omega),if_pos (by omega)]; simp
 unfold atI; rw [e]; exact h
theorem c6k {α:Type} (xs:List α) (v:α):atI (xs ++ [v]) (-1) = some v:=by
 have hl:(xs ++ [v]).length = xs.length + 1:=by simp
 have e:ixN (xs ++ [v]).length (-1) = some xs.length:=by
  unfold ixN
  rw [hl,if_neg (by decide),if_pos (by omega)]
  congr 1
  omega
 unfold atI
 rw [e]
 show (xs ++ [v])[xs.length]? = some v
 simp
def d0y (b:Expr):Prop:=∀ o i,subscripted b false o i = operate [o,i] (getItem o i)
def IxR (X:Cx) (r:R2):Prop :=
 ∀ (value slice:Expr) (pins:List (Addr × Obj)) (s:Shared) (σ:St) (H:Hp) (x y:V) (v u:Value) (Q:VK),Inv X pins σ H s -> RelV x v -> RelV y u -> r x y H Q ->
  subscripted slice false v u = operate [v,u] (getItem v u) -> wpAny (model X.prog X.w) X.A (subscriptTail value slice v u) (EP X pins σ Q) X.xe s
def MtR (X:Cx) (id:String) (r:V -> List V -> Hp -> VK -> Prop):Prop :=
 ∀ (pins:List (Addr × Obj)) (s:Shared) (σ:St) (H:Hp) (x:V) (xs:List V) (v:Value) (us:List Value) (Q:VK),Inv X pins σ H s -> RelV x v -> Vals xs us -> r x xs H Q ->
  wpAny (model X.prog X.w) X.A (call (.builtin id) (v :: us)) (EP X pins σ Q) X.xe s
section
variable {X:Cx} {a b:Expr} {ta tb:TE} {pos:Pos}
theorem a1P {r:R2} (hr:IxR X r) (ha:PE X a ta) (hb:PE X b tb) (hs:d0y b):PE X (.Subscript a b pos) (tOp r ta tb):=by
 intro pins s σ H Q I h
 exact Subscript_ (binT ha hb I h fun v u s2 x y H2 I2 rx ry q => hr a b pins s2 σ H2 x y v u Q I2 rx ry q (hs _ _))
def rIxL (K:PySem.W.Frag):R2:=fun x y H Q => ∃ p xs i v,x = .ref p /\ y = .int i /\ SqL K H p xs /\ atI xs i = some v /\ Q v H
def rIxT (K:PySem.W.Frag):R2:=fun x y H Q => ∃ p xs i v,x = .ref p /\ y = .int i /\ SqT K H p xs /\ atI xs i = some v /\ Q v H
theorem a1T:IxR X (rIxL X.K):=by
 intro value slice pins s σ H x y v u Q I rx ry h hs
 obtain ⟨p,xs,i,z,rfl,rfl,hq,he,q⟩:=h
 cases rx
 obtain ⟨t,rfl⟩:=ry
 obtain ⟨its,r,pl,hz⟩:=I.list hq
 obtain ⟨j,h1,h2,h3,h4,h5⟩:=c8I he
 obtain ⟨w,ew,rw'⟩:=r.get h2
 have hl:=r.length
 have hn:=c3e
 have fin:EP X pins σ Q w s:=⟨z,H,I,rw',q⟩
 by_cases h0:0 <= i
 ·have hj:i.toNat = j:=by
   rw [seqIndex_of h0 h5] at h1
   exact Option.some.inj h1
  exact item_listR pl.isList h0 (by omega) (by rw [hj]; simpa using ew) fin hs
 ·have hj:(i + (its.toArray.size:Int)).toNat = j:=by
   rw [seqIndex_neg (by omega) h4] at h1
   rw [List.size_toArray,<- hl]
   exact Option.some.inj h1
  exact subscriptTail_builtinR (x:=w) pl.isList.typeIs slot_list_getitem.lookup
   (wpAny_getItem_list_neg (Q:=fun r s' => r = w /\ EP X pins σ Q r s') pl.isList (by omega) (by rw [List.size_toArray] <;> omega) (by omega) (by rw [hj]; simpa using ew) ⟨rfl,fin⟩) hs
theorem a24:IxR X (rIxT X.K):=by
 intro value slice pins s σ H x y v u Q I rx ry h hs
 obtain ⟨p,xs,i,z,rfl,rfl,hq,he,q⟩:=h
 cases rx
 obtain ⟨t,rfl⟩:=ry
 obtain ⟨its,r,pl,hz⟩:=I.tuple hq
 obtain ⟨j,h1,h2,h3,h4,h5⟩:=c8I he
 obtain ⟨w,ew,rw'⟩:=r.get h2
 have hl:=r.length
 have hn:=c3e
 have fin:EP X pins σ Q w s:=⟨z,H,I,rw',q⟩
 exact subscriptTail_builtinR (x:=w) pl.typeIs slot_tuple_getitem.lookup
  (getItem_tuple (j:=j) (Q:=fun r s' => r = w /\ EP X pins σ Q r s') pl (by omega) (by omega) (by rw [List.size_toArray,<- hl]; exact h1) (by simpa using ew) ⟨rfl,fin⟩) hs
theorem c7f (its:List Value) (n j:Nat) (u:Value):Obj.mapSeq (·.setIfInBounds j u) { cls:=.type "list", data:=.seq its.toArray n } = { cls:=.type "list", data:=.seq (its.set j u).toArray n }:=by
 simp [Obj.mapSeq]
theorem Inv.lst {pins:List (Addr × Obj)} {σ:St} {H:Hp} {s:Shared} {p:Addr} {xs:List V} (I:Inv X pins σ H s) (h:H p = some (.lst xs)) :
 ∃ (its:List Value) (n:Nat),Vals xs its /\ s.heap.get? p = some { cls:=.type "list", data:=.seq its.toArray n } /\ xs.length <= sizeLine:=by
 obtain ⟨z,its,n,r,e⟩:=I.hok p _ h
 exact ⟨its,n,r,e,z⟩
theorem Inv.lstUpd {pins:List (Addr × Obj)} {σ:St} {H:Hp} {s:Shared} {p:Addr} {xs ys:List V} {its its':List Value} {n n':Nat} {f:Obj -> Obj} (I:Inv X pins σ H s) (h:H p = some (.lst xs))
 (ho:s.heap.get? p = some { cls:=.type "list", data:=.seq its.toArray n }) (hf:f { cls:=.type "list", data:=.seq its.toArray n } = { cls:=.type "list", data:=.seq its'.toArray n' }) (r:Vals ys its') (hz:ys.length <= sizeLine) (t:Nat) :
 Inv X pins σ (upd H p (.lst ys)) { s with heap:=s.heap.update p f,toks:=t }:=by
 have e:(s.heap.update p f).get? p = some { cls:=.type "list", data:=.seq its'.toArray n' }:=by
  rw [Heap.get?_update_self f ho (by rw [hf] <;> rfl),hf]
 refine I.write (x:=p) (e:=p) (by rw [h]; trivial) (.inl rfl) (fun b u hb q => (Heap.get?_update_other _ _ (Ne.symm hb)).trans q) ⟨_,e⟩ ?_
 exact ⟨hz,its',n',r,e⟩
def d2V:V -> V -> V -> Hp -> (Hp -> Prop) -> Prop:=fun o i v H Q => ∃ p xs k j,o = .ref p /\ i = .int k /\ H p = some (.lst xs) /\ ixN xs.length k = some j /\ Q (upd H p (.lst (xs.set j v)))
theorem c1A:PSet X d2V:=by
 intro pins s σ H o i v ov iv u Q I ro ri rv h
 obtain ⟨p,xs,k,j,rfl,rfl,hp,hj,q⟩:=h
 cases ro
 obtain ⟨t,rfl⟩:=ri
 obtain ⟨its,n,r,ho,hz⟩:=I.lst hp
 obtain ⟨h1,h2,h3,h4⟩:=c8F hj
 have hl:=r.length
 have hn:=c3e
 have I':Inv X pins σ (upd H p (.lst (xs.set j v))) { s with heap:=s.heap.update p (Obj.mapSeq (·.setIfInBounds j u)) } :=
  I.lstUpd hp ho (c7f its n j u) (r.set rv j) (by rw [List.length_set]; exact hz) s.toks
 by_cases h0:0 <= k
 ·have hk:k.toNat = j:=by
   rw [seqIndex_of h0 h4] at h1
   exact Option.some.inj h1
  exact PySem.W.ki_setAt ho h0 (by omega) (by rw [List.size_toArray,<- hl]; exact h4) (by rw [hk]; exact ⟨_,I',q⟩)
 ·have hk:(k + (its.toArray.size:Int)).toNat = j:=by
   rw [seqIndex_neg (by omega) h3] at h1
   rw [List.size_toArray,<- hl]
   exact Option.some.inj h1
  exact PySem.W.ki_setBack ho (by omega) (by rw [List.size_toArray,<- hl]; exact h3) (by omega) (by rw [hk]; exact ⟨_,I',q⟩)
theorem c29 (lo hi:Option Int) (n:Nat):(sliceBounds lo hi none n).1 = ((HT.sIx n 0 lo:Nat):Int) /\ (sliceBounds lo hi none n).2.1 = ((HT.sIx n n hi:Nat):Int) /\ (sliceBounds lo hi none n).2.2 = 1:=by
 refine ⟨?_,?_,rfl⟩
 ·cases lo with
  | none => simp [sliceBounds,HT.sIx]
  | some i =>
   simp only [sliceBounds,HT.sIx,Option.getD_none,show (1:Int) > 0 by decide,if_true]
   by_cases h:i < 0
   ·simp only [h,if_true] <;> omega
   ·simp only [h,if_false] <;> omega
 ·cases hi with
  | none => simp [sliceBounds,HT.sIx]
  | some i =>
   simp only [sliceBounds,HT.sIx,Option.getD_none,show (1:Int) > 0 by decide,if_true]
   by_cases h:i < 0
   ·simp only [h,if_true] <;> omega
   ·simp only [h,if_false] <;> omega
theorem c0f (its:List Value) (lo hi:Option Int):slicePick its.toArray lo hi none = ((its.drop (HT.sIx its.length 0 lo)).take (HT.sIx its.length its.length hi - HT.sIx its.length 0 lo)).toArray:=by
 obtain ⟨h1,h2,h3⟩:=c29 lo hi its.toArray.size
 unfold slicePick
 rw [h1,h2,h3]
 simp only [sliceRange_one,pick_run,List.size_toArray] <;> rfl
def rSlL (K:PySem.W.Frag):V -> Option Int -> Option Int -> Hp -> VK -> Prop:=fun x lo hi H Q => ∃ a xs,x = .ref a /\ SqL K H a xs /\ ∀ p,H p = none -> Q (.ref p) (upd H p (.lst (cutV xs lo hi)))
theorem sl_list:SlR X (rSlL X.K):=by
 intro pins s σ H x v vl vu lo hi sl Q I rx hs pl pu h
 obtain ⟨a,xs,rfl,hx,q⟩:=h
 cases rx
 obtain ⟨its,r,ht,hz⟩:=I.list hx
 have hlen:=r.length
 refine ⟨"list", _,slot_list_getitem.lookup,ht.isList.typeIs,?_⟩
 refine wpAny_getItem_list_slice ht.isList hs pl pu .none (by simp) ?_ (by rw [List.size_toArray] <;> omega)
 rw [c0f,<- hlen]
 refine ⟨.ref s.heap.objs.size,_,I.laid (t':=s.toks) (o:=.lst (cutV xs lo hi)) (fun b ob q => Heap.get?_push_of_some _ q) (Nat.le_refl _) ?_,rfl,q _ (I.hok.fresh (Nat.le_refl _))⟩
 exact ⟨Nat.le_trans (c5U xs lo hi) hz,_,0,(r.drop (HT.sIx xs.length 0 lo)).take (HT.sIx xs.length xs.length hi - HT.sIx xs.length 0 lo),Heap.get?_push_size _ rfl⟩
def b97:V -> Bool
 | .non => true
 | .bl _ => true
 | .int _ => true
 | .str _ => true
 | _ => false
def eqV:V -> V -> Bool
 | .non,.non => true
 | .bl a,.bl b => a == b
 | .bl a,.int b => (if a then 1 else 0) == b
 | .int a,.bl b => a == (if b then 1 else 0)
 | .int a,.int b => a == b
 | .str a,.str b => a == b
 | _,_ => false
theorem d19 {A:Around} {s:Shared} {y x:V} {u v:Value} (ry:RelV y u) (rx:RelV x v) (fy:b97 y = true) (fx:b97 x = true):SeqAt.EqAt A s u v (eqV y x):=by
 cases y with
 | non =>
  cases ry
  cases x with
  | non => cases rx; exact SeqAt.EqAt.same _
  | bl b => cases rx; exact SeqAt.EqAt.none_bool b
  | int b => obtain ⟨t,rfl⟩:=rx; exact SeqAt.EqAt.none_int b t
  | str b => obtain ⟨t,rfl⟩:=rx; exact SeqAt.EqAt.none_str b t
  | _ => exact absurd (show false = true from fx) Bool.false_ne_true
 | bl a =>
  cases ry
  cases x with
  | non => cases rx; exact SeqAt.EqAt.bool_none a
  | bl b => cases rx; exact SeqAt.EqAt.bool_bool a b
  | int b => obtain ⟨t,rfl⟩:=rx; exact SeqAt.EqAt.bool_int a b t
  | str b => obtain ⟨t,rfl⟩:=rx; exact SeqAt.EqAt.bool_str a b t
  | _ => exact absurd (show false = true from fx) Bool.false_ne_true
 | int a =>
  obtain ⟨t',rfl⟩:=ry
  cases x with
  | non => cases rx; exact SeqAt.EqAt.int_none a t'
  | bl b => cases rx; exact SeqAt.EqAt.int_bool a t' b
  | int b => obtain ⟨t,rfl⟩:=rx; exact SeqAt.EqAt.int_int a t' b t
  | str b => obtain ⟨t,rfl⟩:=rx; exact SeqAt.EqAt.int_str a t' b t
  | _ => exact absurd (show false = true from fx) Bool.false_ne_true
 | str a =>
  obtain ⟨t',rfl⟩:=ry
  cases x with
  | non => cases rx; exact SeqAt.EqAt.str_none a t'
  | bl b => cases rx; exact SeqAt.EqAt.str_bool a t' b
  | int b => obtain ⟨t,rfl⟩:=rx; exact SeqAt.EqAt.str_int a t' b t
  | str b => obtain ⟨t,rfl⟩:=rx; exact SeqAt.EqAt.str_str a t' b t
  | _ => exact absurd (show false = true from fx) Bool.false_ne_true
 | _ => exact absurd (show false = true from fy) Bool.false_ne_true
def eqU (x:V) (u:Value):Bool:=match u with
 | .none => eqV .non x
 | .bool b => eqV (.bl b) x
 | .int i _ => eqV (.int i) x
 | .str z _ => eqV (.str z) x
 | _ => false
theorem c90 {x y:V} {u:Value} (r:RelV y u) (f:b97 y = true):eqU x u = eqV y x:=by
 cases y with
 | non => cases r; rfl
 | bl b => cases r; rfl
 | int i => obtain ⟨t,rfl⟩:=r; rfl
 | str z => obtain ⟨t,rfl⟩:=r; rfl
 | _ => exact absurd (show false = true from f) Bool.false_ne_true
theorem b76 {x:V}:∀ {xs:List V} {us:List Value},Vals xs us -> xs.all b97 = true -> us.any (eqU x) = xs.any fun y => eqV y x
 | _,_,.nil,_ => rfl
 | y :: xs,u :: us,.cons r t,f => by
  rw [List.all_cons,Bool.and_eq_true] at f
  rw [List.any_cons,List.any_cons,c90 r f.1,b76 t f.2]
theorem b24 {A:Around} {s:Shared} {x:V} {v:Value} (rx:RelV x v) (fx:b97 x = true):∀ {xs:List V} {us:List Value},Vals xs us -> xs.all b97 = true -> ∀ u ∈ us,SeqAt.EqAt A s u v (eqU x u)
 | _,_,.nil,_ => fun u hu => by cases hu
 | y :: xs,u :: us,.cons r t,f => fun u' hu => by
  rw [List.all_cons,Bool.and_eq_true] at f
  rcases List.mem_cons.mp hu with rfl | hu
  ·rw [c90 r f.1]; exact d19 r rx f.1 fx
  ·exact b24 rx fx t f.2 u' hu
def inV (x:V) (xs:List V):Bool:=xs.any fun y => eqV y x
def rIn (K:PySem.W.Frag) (neg:Bool):R2:=fun x y H Q => ∃ p xs,y = .ref p /\ (SqL K H p xs ∨ SqT K H p xs) /\ b97 x = true /\ xs.all b97 = true /\ Q (.bl (if neg then !inV x xs else inV x xs)) H
theorem b7e:OpR X (compareOp .In) (rIn X.K false):=by
 intro pins s σ H x y v u Q I rx ry h
 obtain ⟨p,xs,rfl,hq,fx,fs,q⟩:=h
 cases ry
 rcases hq with hq | hq
 ·obtain ⟨its,r,pl,hz⟩:=I.list hq
  refine SeqAt.in_listAt (eqU x) pl.isList (fun w hw => b24 rx fx r fs w (by simpa using hw)) ⟨.bl _,H,I,rfl,?_⟩
  rw [show its.toArray.any (eqU x) = its.any (eqU x) by simp,b76 r fs]
  exact q
 ·obtain ⟨its,r,pl,hz⟩:=I.tuple hq
  refine SeqAt.in_tupleAt (eqU x) pl (fun w hw => b24 rx fx r fs w (by simpa using hw)) ⟨.bl _,H,I,rfl,?_⟩
  rw [show its.toArray.any (eqU x) = its.any (eqU x) by simp,b76 r fs]
  exact q
theorem b0t:OpR X (compareOp .NotIn) (rIn X.K true):=by
 intro pins s σ H x y v u Q I rx ry h
 obtain ⟨p,xs,rfl,hq,fx,fs,q⟩:=h
 cases ry
 rcases hq with hq | hq
 ·obtain ⟨its,r,pl,hz⟩:=I.list hq
  refine SeqAt.notIn_listAt (eqU x) pl.isList (fun w hw => b24 rx fx r fs w (by simpa using hw)) ⟨.bl _,H,I,rfl,?_⟩
  rw [show its.toArray.any (eqU x) = its.any (eqU x) by simp,b76 r fs]
  exact q
 ·obtain ⟨its,r,pl,hz⟩:=I.tuple hq
  refine SeqAt.notIn_tupleAt (eqU x) pl (fun w hw => b24 rx fx r fs w (by simpa using hw)) ⟨.bl _,H,I,rfl,?_⟩
  rw [show its.toArray.any (eqU x) = its.any (eqU x) by simp,b76 r fs]
  exact q
theorem a7j:b4w X (.type "list") (fun xs H Q => ∃ p ys,xs = [.ref p] /\ (SqL X.K H p ys ∨ SqT X.K H p ys) /\ ∀ l,H l = none -> Q (.ref l) (upd H l (.lst ys))):=by
 intro pins s σ H xs us Q I r h
 obtain ⟨p,ys,rfl,hq,q⟩:=h
 obtain ⟨u,rfl,rx⟩:=c3G r
 cases rx
 have fin:∀ (its:List Value),Vals ys its -> ys.length <= sizeLine -> ∀ (h':Heap) (c':Nat),(∀ b o',s.heap.get? b = some o' -> h'.get? b = some o') ->
  h'.get? s.heap.objs.size = some { cls:=.type "list", dict:=none,data:=.seq its.toArray c',slots := #[] } -> EP X pins σ Q (.ref s.heap.objs.size) { s with heap:=h' }:=fun its r' hz h' c' kp e =>
  ⟨.ref s.heap.objs.size,_,I.laid (t':=s.toks) kp (Nat.le_refl _) (show a17 X.prog X.w _ h' _ (.lst ys) from ⟨hz,its,c',r',e⟩),rfl,q _ (I.hok.fresh (Nat.le_refl _))⟩
 rcases hq with hq | hq
 ·obtain ⟨its,r',pl,hz⟩:=I.list hq
  have hlen:=r'.length
  obtain ⟨o,ho,hc,n,hd⟩:=pl.isList
  exact call_list_seq p (.inl rfl) ho hc hd (fun h' c' kp e => fin its r' hz h' c' kp e) (by simp only [List.size_toArray] <;> omega)
 ·obtain ⟨its,r',pl,hz⟩:=I.tuple hq
  have hlen:=r'.length
  obtain ⟨o,ho,hc,n,hd⟩:=pl
  exact call_list_seq p (.inr rfl) ho hc hd (fun h' c' kp e => fin its r' hz h' c' kp e) (by simp only [List.size_toArray] <;> omega)
def tyV (K:PySem.W.Frag) (T:String) (x:V) (H:Hp):Prop:=match x with
 | .str _ => T = "str"
 | .int _ => T = "int"
 | .ref p => (T = "list" /\ ∃ xs,SqL K H p xs) ∨ (T = "tuple" /\ ∃ o,K.lookup p = some o /\ o.cls = .type "tuple" /\ o.dict = none) ∨
  (T = "dict" /\ ((∃ kvs,H p = some (.dK kvs)) ∨ ∃ kvs,H p = some (.dT kvs))) ∨ (T = "set" /\ ∃ S n,H p = some (.set S n))
 | _ => False
theorem c9X {pins:List (Addr × Obj)} {σ:St} {H:Hp} {s:Shared} {T:String} {x:V} {v:Value} (I:Inv X pins σ H s) (r:RelV x v) (ty:tyV X.K T x H) :
 s.TypeIs v T /\ ∀ a,v = .ref a -> ∃ ob,s.heap.get? a = some ob /\ ob.dict = none:=by
 cases x with
 | str z =>
  obtain ⟨t,rfl⟩:=r
  cases (show T = "str" from ty)
  exact ⟨typeIs_str s z t,fun _ e => nomatch e⟩
 | int i =>
  obtain ⟨t,rfl⟩:=r
  cases (show T = "int" from ty)
  exact ⟨typeIs_int s i t,fun _ e => nomatch e⟩
 | ref p =>
  cases r
  rcases ty with ⟨rfl,xs,hq⟩ | ⟨rfl,o,hk,hc,hd⟩ | ⟨rfl,hk⟩ | ⟨rfl,S,n,hk⟩
  ·obtain ⟨its,_,pl,_⟩:=I.list hq
   refine ⟨pl.isList.typeIs,fun a e => ?_⟩
   cases e
   obtain ⟨o,n,e,c,hd,_⟩:=pl
   exact ⟨o,e,hd⟩
  ·refine ⟨⟨o,I.kIn p o hk,hc⟩,fun a e => ?_⟩
   cases e
   exact ⟨o,I.kIn _ o hk,hd⟩
  ·have z:∃ o,s.heap.get? p = some o /\ o.ExactDict:=by
    rcases hk with ⟨kvs,hk⟩ | ⟨kvs,hk⟩
    ·obtain ⟨_,_,_,_,o,_,_,e,ex,_⟩:=I.hok p _ hk
     exact ⟨o,e,ex⟩
    ·obtain ⟨_,_,_,_,o,_,_,e,ex,_⟩:=I.hok p _ hk
     exact ⟨o,e,ex⟩
   obtain ⟨o,e,ex⟩:=z
   refine ⟨⟨o,e,ex.1⟩,fun a e2 => ?_⟩
   cases e2
   exact ⟨o,e,ex.2.1⟩
  ·obtain ⟨o,_,_,_,e,ex,_⟩:=I.hok p _ hk
   refine ⟨⟨o,e,ex.1⟩,fun a e2 => ?_⟩
   cases e2
   exact ⟨o,e,ex.2.1⟩
 | _ => exact False.elim ty
def tBM0 (K:PySem.W.Frag) (T:String) (r:V -> List V -> Hp -> VK -> Prop) (to:TE):TE:=fun σ H Q => to σ H fun x H1 => tyV K T x H1 /\ r x [] H1 Q
def tBM (K:PySem.W.Frag) (T:String) (r:V -> List V -> Hp -> VK -> Prop) (to:TE) (t:TA):TE:=fun σ H Q => to σ H fun x H1 => tyV K T x H1 /\ t σ H1 fun xs H2 => r x xs H2 Q
variable {o e:Expr} {es:List Expr} {to:TE} {t:TA} {name:Str} {apos cpos:Pos} {T id:String} {r:V -> List V -> Hp -> VK -> Prop}
theorem c7x (pa:PlainAttrs T) (slot:Slot T name id) (hty:typeOf (.builtin id) = pure (.type "method_descriptor")) (hm:MtR X id r) (ho:PE X o to)
 (hbase:attributeBase o name X.env (eval o X.env) = eval o X.env:=by rfl) (hline:(apos.endLine == cpos.line) = true:=by rfl):PE X (.Call (.Attribute o name apos) [] [] cpos) (tBM0 X.K T r to):=by
 intro pins s σ H Q I h
 refine wpAny_Call_method0_late hbase hline (thn (ho pins s σ H _ I h) fun v s1 ⟨x,H1,I1,r1,ty,q1⟩ => ?_)
 obtain ⟨h1,h2⟩:=c9X I1 r1 ty
 exact ⟨T,id,pa,slot,hty,h1,h2,Calls.callWith_builtin rfl (PySem.evalArgs_none (hm pins s1 σ H1 x [] v [] Q I1 r1 .nil q1))⟩
theorem b4K (pa:PlainAttrs T) (slot:Slot T name id) (hty:typeOf (.builtin id) = pure (.type "method_descriptor")) (hm:MtR X id r) (ho:PE X o to) (ha:PA X (e :: es) t)
 (hbase:attributeBase o name X.env (eval o X.env) = eval o X.env:=by rfl)
 (hfew:((backTo cpos (starEach (e :: es) X.env)).all (fun x => !x.1) && (backToKw cpos (keywordEach [] X.env)).all (fun x => x.1.isSome)
  && decide ((e :: es).length + ([]:List Keyword).length + (if ([]:List Keyword).isEmpty then 0 else 1) < 30)) = true:=by rfl)
 (hline:(apos.endLine == cpos.line) = true:=by rfl) (hs:starEach (e :: es) X.env = (false,eval e X.env) :: starEach es X.env:=by rfl) (hplain:(backTo cpos (starEach es X.env)).any (·.1) = false:=by rfl) :
 PE X (.Call (.Attribute o name apos) (e :: es) [] cpos) (tBM X.K T r to t):=by
 intro pins s σ H Q I h
 refine wpAny_Call_method_late hbase hfew hline rfl (thn (ho pins s σ H _ I h) fun v s1 ⟨x,H1,I1,r1,ty,q1⟩ => ?_)
 obtain ⟨h1,h2⟩:=c9X I1 r1 ty
 refine ⟨T,id,pa,slot,hty,h1,h2,?_⟩
 have hA:=ha cpos pins s1 σ H1 _ I1 q1
 rw [hs] at hA ⊢
 refine Calls.callWith_builtin (by show (false || (backTo cpos (starEach es X.env)).any (·.1)) = false; rw [hplain] <;> rfl) (Calls.evalArgs_plain ?_)
 exact thn hA fun us s2 ⟨vs,H2,I2,r2,q2⟩ => hm pins s2 σ H2 x vs v us Q I2 r1 r2 q2
end
end L2
namespace L2
open PySem PySem.Spec PyProof.Rows
def MtM (X:Cx) (id:String) (r:V -> List V -> Hp -> VK -> Prop):Prop :=
 ∀ (pins:List (Addr × Obj)) (s:Shared) (σ:St) (H:Hp) (x:V) (xs:List V) (v:Value) (us:List Value) (Q:VK),Inv X pins σ H s -> RelV x v -> Vals xs us -> r x xs H Q ->
  wpAny (model X.prog X.w) X.A (call (.builtin id) (v :: us)) (EP X pins σ Q) X.xe s
theorem Vals.one:∀ {x:V} {us:List Value},Vals [x] us -> ∃ u,us = [u] /\ RelV x u
 | _,_,.cons r .nil => ⟨_,rfl,r⟩
theorem Vals.two:∀ {x y:V} {us:List Value},Vals [x,y] us -> ∃ u v,us = [u,v] /\ RelV x u /\ RelV y v
 | _,_,_,.cons r (.cons q .nil) => ⟨_,_,rfl,r,q⟩
theorem Vals.zero:∀ {us:List Value},Vals [] us -> us = []
 | _,.nil => rfl
theorem Vals.dropLast {xs:List V} {us:List Value} (h:Vals xs us):Vals xs.dropLast us.dropLast:=by
 induction h with
 | nil => exact .nil
 | cons r t ih =>
  cases t with
  | nil => exact .nil
  | cons q t' => exact .cons r ih
theorem c62 {α:Type} (l:List α):l.eraseIdx (l.length - 1) = l.dropLast:=by
 induction l with
 | nil => rfl
 | cons a r ih =>
  cases r with
  | nil => rfl
  | cons b r =>
   have e:(a :: b :: r).length - 1 = ((b :: r).length - 1) + 1:=by
    have h1:(a :: b :: r).length = r.length + 2:=rfl
    have h2:(b :: r).length = r.length + 1:=rfl
    omega
   rw [e,List.eraseIdx_cons_succ,ih]
   all_goals rfl
section
variable {X:Cx} {pins:List (Addr × Obj)} {σ:St} {H:Hp} {s:Shared} {l b:Addr} {xs ys zs:List V}
theorem Inv.lset {its its':List Value} {n:Nat} {f:Array Value -> Array Value} {t':Nat} (I:Inv X pins σ H s) (hH:H l = some (.lst xs))
 (e:s.heap.get? l = some { cls:=.type "list", data:=.seq its.toArray n }) (hf:f its.toArray = its'.toArray) (hv:Vals ys its') (hz:ys.length <= sizeLine) :
 Inv X pins σ (upd H l (.lst ys)) { s with heap:=s.heap.update l (Obj.mapSeq f),toks:=t' }:=by
 have q:=PySem.IsL.update e f
 rw [hf] at q
 refine I.write (x:=l) (e:=l) (by rw [hH]; exact trivial) (.inl rfl) (fun b' u hb hu => (Heap.get?_update_other s.heap (Obj.mapSeq f) (Ne.symm hb)).trans hu) ⟨_,q⟩ ?_
 exact ⟨hz,its',_,hv,q⟩
theorem Inv.lnew {its:List Value} {t':Nat} (I:Inv X pins σ H s) (hv:Vals ys its) (hz:ys.length <= sizeLine) :
 Inv X pins σ (upd H s.heap.objs.size (.lst ys)) { s with heap:=s.heap.push { cls:=.type "list", data:=.seq its.toArray },toks:=t' } :=
 I.laid (fun _ _ q => Heap.get?_push_of_some _ q) (Nat.le_refl _) ⟨hz,its,0,hv,Heap.get?_push_size _ rfl⟩
theorem Inv.lstM (I:Inv X pins σ H s) (hH:H l = some (.lst xs)):xs.length <= sizeLine /\ ∃ (its:List Value) (n:Nat),Vals xs its /\ xs.length = its.length /\ s.heap.get? l = some { cls:=.type "list", data:=.seq its.toArray n }:=by
 obtain ⟨z,its,n,r,e⟩:=I.hok l _ hH
 exact ⟨z,its,n,r,r.length,e⟩
end
section
variable {X:Cx}
def d0w:V -> List V -> Hp -> VK -> Prop:=fun x vs H Q => ∃ l xs y,x = .ref l /\ vs = [y] /\ H l = some (.lst xs) /\ xs.length < sizeLine /\ Q .non (upd H l (.lst (xs ++ [y])))
theorem a1k:MtM X "list.append" d0w:=by
 intro pins s σ H x vs v us Q I rx rv h
 obtain ⟨l,xs,y,rfl,rfl,hH,hz,q⟩:=h
 cases rx
 obtain ⟨u,rfl,ru⟩:=rv.one
 obtain ⟨z,its,n,r,hl,e⟩:=I.lstM hH
 refine call_meets F.slot_list_append ⟨_,e,rfl⟩ F.entry_list_append (F.args_list_append_2 _ _) (PySem.list_append l its.toArray n u (by rw [List.size_toArray]; omega)) ⟨e,?_⟩
 refine ⟨.non,_,I.lset (its':=its ++ [u]) hH e (by simp) (r.append (.cons ru .nil)) ?_,rfl,q⟩
 rw [List.length_append,List.length_singleton]
 omega
def rPop:V -> List V -> Hp -> VK -> Prop:=fun x vs H Q => ∃ l xs y,x = .ref l /\ vs = [] /\ H l = some (.lst xs) /\ xs[xs.length - 1]? = some y /\ Q y (upd H l (.lst xs.dropLast))
theorem d1s:MtM X "list.pop" rPop:=by
 intro pins s σ H x vs v us Q I rx rv h
 obtain ⟨l,xs,y,rfl,rfl,hH,hy,q⟩:=h
 cases rx
 have hus:=rv.zero
 subst hus
 obtain ⟨z,its,n,r,hl,e⟩:=I.lstM hH
 obtain ⟨u,hu,ru⟩:=r.get hy
 have hy':its.toArray[its.toArray.size - 1]? = some u:=by
  show its.toArray[its.length - 1]? = some u
  rw [<- Array.getElem?_toList,<- hl]
  exact hu
 refine call_meets F.slot_list_pop ⟨_,e,rfl⟩ F.entry_list_pop (F.args_list_pop_1 _) (MeetsSeq.list_pop_last l its.toArray n u hy' (by rw [List.size_toArray]; omega)) ⟨e,?_⟩
 refine ⟨y,_,I.lset (its':=its.dropLast) hH e ?_ r.dropLast ?_,ru,q⟩
 ·show its.toArray.eraseIdxIfInBounds (its.toArray.size - 1) = its.dropLast.toArray
  rw [List.size_toArray,List.eraseIdxIfInBounds_toArray,c62]
 ·rw [List.length_dropLast]
  omega
def d1I:V -> List V -> Hp -> VK -> Prop:=fun x vs H Q => ∃ l xs,x = .ref l /\ vs = [] /\ H l = some (.lst xs) /\ Q .non (upd H l (.lst []))
theorem c6o:MtM X "list.clear" d1I:=by
 intro pins s σ H x vs v us Q I rx rv h
 obtain ⟨l,xs,rfl,rfl,hH,q⟩:=h
 cases rx
 have hus:=rv.zero
 subst hus
 obtain ⟨z,its,n,r,hl,e⟩:=I.lstM hH
 refine call_meets F.slot_list_clear ⟨_,e,rfl⟩ F.entry_list_clear (F.args_list_clear_1 _) (AutoSeq1.list_clear_list_0 l its.toArray n (by rw [List.size_toArray]; omega)) ⟨e,?_⟩
 exact ⟨.non,_,I.lset (its':=[]) (ys:=[]) hH e rfl .nil (Nat.zero_le _),rfl,q⟩
end
end L2
namespace L2
open PySem PySem.Spec PyProof.Rows
section
variable {κ:Type} [DecidableEq κ]
def valV (kvs:List (κ × V)) (k:κ):Option V:=(kvs.find? fun kv => decide (kv.1 = k)).map (·.2)
def putK (kvs:List (κ × V)) (k:κ) (v:V):List (κ × V) :=
 if (kvs.any fun kv => decide (kv.1 = k)) = true then kvs.map (fun kv => if kv.1 = k then (kv.1,v) else kv) else kvs ++ [(k,v)]
theorem a3W {p:κ × V} {r:List (κ × V)} {k:κ} (e:p.1 = k):valV (p :: r) k = some p.2:=by simp [valV,List.find?_cons,e]
theorem a3T {p:κ × V} {r:List (κ × V)} {k:κ} (e:¬ p.1 = k):valV (p :: r) k = valV r k:=by simp [valV,List.find?_cons,e]
theorem a7r (k:κ):∀ kvs:List (κ × V),(kvs.any fun kv => decide (kv.1 = k)) = (valV kvs k).isSome
 | [] => rfl
 | p :: r => by
  rw [List.any_cons]
  by_cases e:p.1 = k
  ·simp only [a3W e,decide_eq_true e,Bool.true_or,Option.isSome_some]
  ·rw [a3T e,decide_eq_false e,Bool.false_or]; exact a7r k r
theorem c6G (k j:κ) (y:V):∀ kvs:List (κ × V),valV (kvs.map fun kv => if kv.1 = k then (kv.1,y) else kv) j = (valV kvs j).map fun x => if j = k then y else x
 | [] => rfl
 | p :: r => by
  have ih:=c6G k j y r
  rw [List.map_cons]
  by_cases h:p.1 = k
  ·rw [if_pos h]
   by_cases e:p.1 = j
   ·rw [a3W (p:=(p.1,y)) e,a3W e,Option.map_some,if_pos (e.symm.trans h)]
   ·rw [a3T (p:=(p.1,y)) e,a3T e,ih]
  ·rw [if_neg h]
   by_cases e:p.1 = j
   ·rw [a3W (p:=p) e,a3W e,Option.map_some,if_neg (fun z => h (e.trans z))]
   ·rw [a3T (p:=p) e,a3T e,ih]
theorem c3P (k j:κ) (y:V):∀ kvs:List (κ × V),valV kvs k = none -> valV (kvs ++ [(k,y)]) j = if j = k then some y else valV kvs j
 | [],_ => by
  by_cases e:k = j
  ·rw [if_pos e.symm]; exact a3W (p:=(k,y)) e
  ·rw [if_neg (fun z => e z.symm)]; exact a3T (p:=(k,y)) e
 | p :: r,hn => by
  rw [List.cons_append]
  have hk:¬ p.1 = k:=fun z => by rw [a3W z] at hn; cases hn
  rw [a3T hk] at hn
  have ih:=c3P k j y r hn
  by_cases e:p.1 = j
  ·rw [a3W e,a3W e,if_neg (fun z => hk (e.trans z))]
  ·rw [a3T e,a3T e,ih]
theorem a08 (kvs:List (κ × V)) (k j:κ) (y:V):valV (putK kvs k y) j = if j = k then some y else valV kvs j:=by
 unfold putK
 by_cases a:(kvs.any fun kv => decide (kv.1 = k)) = true
 ·rw [if_pos a,c6G]
  rw [a7r] at a
  by_cases e:j = k
  ·obtain ⟨x,hx⟩:=Option.isSome_iff_exists.mp a
   rw [if_pos e,e,hx,Option.map_some,if_pos rfl]
  ·rw [if_neg e]
   cases valV kvs j with
   | none => rfl
   | some x => rw [Option.map_some,if_neg e]
 ·rw [if_neg a]
  refine c3P k j y kvs ?_
  rw [a7r] at a
  cases q:valV kvs k with
  | none => rfl
  | some x => rw [q] at a; exact (a rfl).elim
theorem a52 (kvs:List (κ × V)) (k:κ) (v:V):(putK kvs k v).length <= kvs.length + 1:=by
 unfold putK
 split
 ·rw [List.length_map]; omega
 ·rw [List.length_append,List.length_cons,List.length_nil]; omega
theorem c2P {kvs:List (κ × V)} {k:κ} (v:V) (h:valV kvs k = none):putK kvs k v = kvs ++ [(k,v)]:=by
 unfold putK
 rw [a7r,h]
 exact if_neg (by decide)
theorem RelO.isSome_eq {o:Option V} {u:Option Value} (r:RelO o u):o.isSome = u.isSome:=by
 cases o with
 | none => cases u with
  | none => rfl
  | some _ => exact (show False from r).elim
 | some _ => cases u with
  | none => exact (show False from r).elim
  | some _ => rfl
theorem RelO.getD {o:Option V} {u:Option Value} {d:V} {d':Value} (r:RelO o u) (rd:RelV d d'):RelV (o.getD d) (u.getD d'):=by
 cases o with
 | none => cases u with
  | none => exact rd
  | some _ => exact (show False from r).elim
 | some _ => cases u with
  | none => exact (show False from r).elim
  | some _ => exact r
theorem KV.val {kvs:List (κ × V)} {vs:List (κ × Value)} (r:KV kvs vs) (k:κ):RelO (valV kvs k) (valueAt vs k):=by
 unfold KV at r
 induction r with
 | nil => exact True.intro
 | @cons p q ps qs h t ih =>
  obtain ⟨h1,h2⟩:=h
  by_cases e:p.1 = k
  ·have e':q.1 = k:=h1.symm.trans e
   have b:valueAt (q :: qs) k = some q.2:=by simp [valueAt,List.find?_cons,e']
   rw [a3W e,b]; exact h2
  ·have e':¬ q.1 = k:=fun z => e (h1.trans z)
   have b:valueAt (q :: qs) k = valueAt qs k:=by simp [valueAt,List.find?_cons,e']
   rw [a3T e,b]; exact ih
theorem KV.any {kvs:List (κ × V)} {vs:List (κ × Value)} (r:KV kvs vs) (k:κ):(kvs.any fun kv => decide (kv.1 = k)) = vs.any fun kv => decide (kv.1 = k):=by
 unfold KV at r
 induction r with
 | nil => rfl
 | cons h t ih => rw [List.any_cons,List.any_cons,ih,h.1]
theorem KV.repl {kvs:List (κ × V)} {vs:List (κ × Value)} (r:KV kvs vs) (k:κ) {y:V} {u:Value} (ry:RelV y u) :
 KV (kvs.map fun kv => if kv.1 = k then (kv.1,y) else kv) (vs.map fun kv => if kv.1 = k then (kv.1,u) else kv):=by
 unfold KV at r ⊢
 induction r with
 | nil => exact .nil
 | @cons p q ps qs h t ih =>
  rw [List.map_cons,List.map_cons]
  refine .cons ?_ ih
  obtain ⟨h1,h2⟩:=h
  by_cases e:p.1 = k
  ·rw [if_pos e,if_pos (h1.symm.trans e)]; exact ⟨h1,ry⟩
  ·rw [if_neg e,if_neg (fun z => e (h1.trans z))]; exact ⟨h1,h2⟩
theorem KV.put {kvs:List (κ × V)} {vs:List (κ × Value)} (r:KV kvs vs) (k:κ) {y:V} {u:Value} (ry:RelV y u):KV (putK kvs k y) (stored vs k u):=by
 unfold putK stored
 rw [r.any k]
 by_cases e:(vs.any fun kv => decide (kv.1 = k)) = true
 ·rw [if_pos e,if_pos e]; exact r.repl k ry
 ·rw [if_neg e,if_neg e]; exact Paired.snoc r ⟨rfl,ry⟩
theorem KV.length {kvs:List (κ × V)} {vs:List (κ × Value)} (r:KV kvs vs):kvs.length = vs.length:=Paired.length r
end
theorem c5l {P:Program} {w:World} {k:Key} {u:Value} (r:RelV (kV k) u):(a1s P w).is k u = true:=by
 cases k with
 | inl i => obtain ⟨t,e⟩:=(show ∃ t,u = Value.int i t from r); subst e; exact c5Z P w i t
 | inr x => obtain ⟨t,e⟩:=(show ∃ t,u = Value.str x t from r); subst e; exact c5w P w x t
theorem c3x {P:Program} {w:World}:∀ {ks:List Key} {us:List Value},Vals (ks.map kV) us -> ItemsAre (a1s P w) ks us
 | [],_,r => by rw [List.map_nil] at r; cases r; exact .nil
 | k :: ks,_,r => by
  rw [List.map_cons] at r
  cases r with
  | cons h t => exact .cons (c5l h) (c3x t)
abbrev KT (H:Hp):List (List Key × V) -> List (List Key × Addr × Value) -> Prop:=Paired fun p q => p.1 = q.1 /\ H q.2.1 = some (.tup (p.1.map kV)) /\ RelV p.2 q.2.2
theorem KT.val {H:Hp} {kvs:List (List Key × V)} {xs:List (List Key × Addr × Value)} (r:KT H kvs xs) (k:List Key):RelO (valV kvs k) ((atKey xs k).map (·.2)):=by
 induction r with
 | nil => exact True.intro
 | @cons p q ps qs h t ih =>
  obtain ⟨h1,_,h2⟩:=h
  by_cases e:p.1 = k
  ·have e':q.1 = k:=h1.symm.trans e
   have b:atKey (q :: qs) k = some q.2:=by simp [atKey,List.find?_cons,e']
   rw [a3W e,b]; exact h2
  ·have e':¬ q.1 = k:=fun z => e (h1.trans z)
   have b:atKey (q :: qs) k = atKey qs k:=by simp [atKey,List.find?_cons,e']
   rw [a3T e,b]; exact ih
theorem KT.repl {H:Hp} {kvs:List (List Key × V)} {xs:List (List Key × Addr × Value)} (r:KT H kvs xs) (k:List Key) {y:V} {u:Value} (ry:RelV y u) :
 KT H (kvs.map fun kv => if kv.1 = k then (kv.1,y) else kv) (xs.map (putAt k u)):=by
 induction r with
 | nil => exact .nil
 | @cons p q ps qs h t ih =>
  rw [List.map_cons,List.map_cons]
  refine .cons ?_ ih
  obtain ⟨h1,h2,h3⟩:=h
  unfold putAt
  by_cases e:p.1 = k
  ·rw [if_pos e,if_pos (h1.symm.trans e)]; exact ⟨h1,h2,ry⟩
  ·rw [if_neg e,if_neg (fun z => e (h1.trans z))]; exact ⟨h1,h2,h3⟩
theorem KT.put {H:Hp} {kvs:List (List Key × V)} {xs:List (List Key × Addr × Value)} (r:KT H kvs xs) (k:List Key) {b:Addr} {y:V} {u:Value} (hb:H b = some (.tup (k.map kV))) (ry:RelV y u) :
 KT H (putK kvs k y) (storedH xs k b u):=by
 have e:(kvs.any fun kv => decide (kv.1 = k)) = (atKey xs k).isSome:=by
  rw [a7r,(r.val k).isSome_eq,Option.isSome_map]
 unfold putK storedH
 rw [e]
 by_cases q:(atKey xs k).isSome = true
 ·rw [if_pos q,if_pos q]; exact r.repl k ry
 ·rw [if_neg q,if_neg q]; exact Paired.snoc r ⟨rfl,hb,ry⟩
theorem KT.keeps {H H':Hp} {kvs:List (List Key × V)} {xs:List (List Key × Addr × Value)} (r:KT H kvs xs) (ht:∀ b ys,H b = some (.tup ys) -> H' b = some (.tup ys)):KT H' kvs xs :=
 Paired.mapP r fun _ _ z => ⟨z.1,ht _ _ z.2.1,z.2.2⟩
section
variable {P:Program} {w:World} {H:Hp} {h:Heap} {a:Addr}
theorem d1g {u:HO} (ok:HOk P w H h) (e:Rd H a u):a17 P w H h a u:=e.ok ok
theorem c3z {kvs:List (Key × V)} (ok:HOk P w H h) (e:Rd H a (.dK kvs)):kvs.length <= sizeLine /\ (a == sysModules) = false /\ ∃ vs,KV kvs vs /\ h.DictOf (a1s P w) a vs :=
 show a17 P w H h a (.dK kvs) from d1g ok e
theorem d17 {kvs:List (Key × V)} (ok:HOk P w H h) (e:H a = some (.dK kvs)):kvs.length <= sizeLine /\ (a == sysModules) = false /\ ∃ vs,KV kvs vs /\ h.DictOf (a1s P w) a vs:=c3z ok (.inl e)
theorem b9Q {ks:List Key} (ok:HOk P w H h) (e:H a = some (.tup (ks.map kV))):(tupleKind (a1s P w)).is h ks a:=by
 obtain ⟨_,its,r,o,h1,h2,n,h3⟩:=(show a17 P w H h a (.tup (ks.map kV)) from ok a _ e)
 exact ⟨o,its.toArray,n,h1,h2,h3,by simpa using c3x r⟩
theorem c5O {kvs:List (List Key × V)} (ok:HOk P w H h) (e:Rd H a (.dT kvs)):kvs.length <= sizeLine /\ (a == sysModules) = false /\
 ∃ xs,KT H kvs xs /\ h.DictOfH (tupleKind (a1s P w)) a xs:=by
 obtain ⟨z,y,xs,r,o,es,ep,h1,h2,h3,h4,h5⟩:=(show a17 P w H h a (.dT kvs) from d1g ok e)
 refine ⟨z,y,xs,r,o,es,ep,h1,h2,h3,h4,fun x hx => ?_,h5⟩
 have all:∀ {l:List (List Key × V)} {m:List (List Key × Addr × Value)},KT H l m -> ∀ x ∈ m,(tupleKind (a1s P w)).is h x.1 x.2.1:=by
  intro l m q
  induction q with
  | nil => intro x hx; exact nomatch hx
  | @cons p q ps qs hq t ih =>
   intro x hx
   rcases List.mem_cons.mp hx with e | hx
   ·subst e
    exact b9Q ok (by rw [<- hq.1]; exact hq.2.1)
   ·exact ih x hx
 exact all r x hx
theorem d20 {kvs:List (List Key × V)} (ok:HOk P w H h) (e:H a = some (.dT kvs)):kvs.length <= sizeLine /\ (a == sysModules) = false /\
 ∃ xs,KT H kvs xs /\ h.DictOfH (tupleKind (a1s P w)) a xs:=c5O ok (.inl e)
end
def DGet (H:Hp) (a:Addr) (y:V) (r:Option V):Prop :=
 (∃ kvs k,Rd H a (.dK kvs) /\ y = kV k /\ r = valV kvs k) ∨ ∃ kvs k b,Rd H a (.dT kvs) /\ y = .ref b /\ H b = some (.tup (k.map kV)) /\ r = valV kvs k
def DPut (H:Hp) (a:Addr) (y v:V) (H':Hp):Prop :=
 (∃ kvs k,H a = some (.dK kvs) /\ y = kV k /\ kvs.length < sizeLine /\ H' = upd H a (.dK (putK kvs k v))) ∨
 ∃ kvs k b,H a = some (.dT kvs) /\ y = .ref b /\ H b = some (.tup (k.map kV)) /\ kvs.length < sizeLine /\ H' = upd H a (.dT (putK kvs k v))
theorem DGet.k {H:Hp} {a:Addr} {kvs:List (Key × V)} {k:Key} (e:H a = some (.dK kvs)):DGet H a (kV k) (valV kvs k):=.inl ⟨kvs,k,.inl e,rfl,rfl⟩
theorem DGet.t {H:Hp} {a b:Addr} {kvs:List (List Key × V)} {k:List Key} (e:H a = some (.dT kvs)) (eb:H b = some (.tup (k.map kV))):DGet H a (.ref b) (valV kvs k):=.inr ⟨kvs,k,b,.inl e,rfl,eb,rfl⟩
theorem DPut.k {H:Hp} {a:Addr} {kvs:List (Key × V)} {k:Key} {v:V} (e:H a = some (.dK kvs)) (hl:kvs.length < sizeLine):DPut H a (kV k) v (upd H a (.dK (putK kvs k v))):=.inl ⟨kvs,k,e,rfl,hl,rfl⟩
theorem DPut.t {H:Hp} {a b:Addr} {kvs:List (List Key × V)} {k:List Key} {v:V} (e:H a = some (.dT kvs)) (eb:H b = some (.tup (k.map kV))) (hl:kvs.length < sizeLine) :
 DPut H a (.ref b) v (upd H a (.dT (putK kvs k v))):=.inr ⟨kvs,k,b,e,rfl,eb,hl,rfl⟩
section
variable {X:Cx} {pins:List (Addr × Obj)} {σ:St} {H:Hp} {s:Shared} {a:Addr} {y v:V} {u r:Value} {o:Option V} {A:Around} {E:Value -> Shared -> Prop}
theorem Inv.big (I:Inv X pins σ H s):sysModules < s.heap.objs.size:=by
 have h:mainGlobals < s.heap.objs.size:=(I.mod.glob.keeps I.bk).lt
 exact Nat.lt_trans (by decide) h
theorem c8z {Q:Value -> Shared -> Prop} (hu:A.units + 1 < cLine) (I:Inv X pins σ H s) (g:DGet H a y (some v)) (ry:RelV y u) (h:∀ w' s',Inv X pins σ H s' -> RelV v w' -> Q w' s') :
 wpAny (model X.prog X.w) A (getItem (.ref a) u) Q E s:=by
 rcases g with ⟨kvs,k,e,ey,l⟩ | ⟨kvs,k,b,e,ey,eb,l⟩
 ·subst ey
  obtain ⟨z,hd,vs,rel,dd⟩:=c3z I.hok e
  obtain ⟨w',hw,rw'⟩:=RelO.some_of (v:=v) (o:=valueAt vs k) (by rw [l]; exact rel.val k)
  exact wpAny_getItem_of (c5l ry) dd.mapOf hw (h w' _ (I.tok _) rw')
 ·subst ey
  cases (show u = Value.ref b from ry)
  obtain ⟨z,hd,xs,rel,dd⟩:=c5O I.hok e
  obtain ⟨w',hw,rw'⟩:=RelO.some_of (v:=v) (o:=(atKey xs k).map (·.2)) (by rw [l]; exact rel.val k)
  obtain ⟨p,hp,hp2⟩:=Option.map_eq_some_iff.mp hw
  refine wpAny_getItem_heap (tupleKind_room_in1 hu) (b9Q I.hok eb) dd hp ?_
  rw [hp2]
  exact h w' _ (I.tok _) rw'
theorem d_in {Q:Value -> Shared -> Prop} (hu:A.units + 1 < cLine) (I:Inv X pins σ H s) (g:DGet H a y o) (ry:RelV y u) (h:∀ s',Inv X pins σ H s' -> Q (.bool o.isSome) s') :
 wpAny (model X.prog X.w) A (compareOp .In u (.ref a)) Q E s:=by
 rcases g with ⟨kvs,k,e,ey,l⟩ | ⟨kvs,k,b,e,ey,eb,l⟩
 ·subst ey
  obtain ⟨z,hd,vs,rel,dd⟩:=c3z I.hok e
  refine wpAny_in_of (c5l ry) hd dd.mapOf ?_
  rw [<- (rel.val k).isSome_eq,<- l]
  exact h _ (I.tok _)
 ·subst ey
  cases (show u = Value.ref b from ry)
  obtain ⟨z,hd,xs,rel,dd⟩:=c5O I.hok e
  refine wpAny_in_heap (tupleKind_room_in1 hu) (b9Q I.hok eb) hd dd ?_
  have q:=(rel.val k).isSome_eq
  rw [Option.isSome_map] at q
  rw [<- q,<- l]
  exact h _ (I.tok _)
theorem d0J {Q:Value -> Shared -> Prop} (hu:A.units + 1 < cLine) (I:Inv X pins σ H s) (g:DGet H a y o) (ry:RelV y u) (h:∀ s',Inv X pins σ H s' -> Q (.bool (!o.isSome)) s') :
 wpAny (model X.prog X.w) A (compareOp .NotIn u (.ref a)) Q E s:=by
 rcases g with ⟨kvs,k,e,ey,l⟩ | ⟨kvs,k,b,e,ey,eb,l⟩
 ·subst ey
  obtain ⟨z,hd,vs,rel,dd⟩:=c3z I.hok e
  refine wpAny_notIn_of (c5l ry) hd dd.mapOf ?_
  rw [<- (rel.val k).isSome_eq,<- l]
  exact h _ (I.tok _)
 ·subst ey
  cases (show u = Value.ref b from ry)
  obtain ⟨z,hd,xs,rel,dd⟩:=c5O I.hok e
  refine wpAny_notIn_heap (tupleKind_room_in1 hu) (b9Q I.hok eb) hd dd ?_
  have q:=(rel.val k).isSome_eq
  rw [Option.isSome_map] at q
  rw [<- q,<- l]
  exact h _ (I.tok _)
theorem c4Z {h':Heap} {t':Nat} {ob:HO} (I:Inv X pins σ H s) (mu:Mut (H a)) (hs:Heap.SameBut a s.heap h') (he:∃ q,h'.get? a = some q) (new:a17 X.prog X.w (upd H a ob) h' a ob) :
 Inv X pins σ (upd H a ob) { s with heap:=h',toks:=t' } :=
 I.write (x:=a) (e:=a) mu (.inl rfl) (fun b q hb z => (hs.2 b hb).trans z) he new
theorem c9U {P:Program} {w:World} {H':Hp} {h':Heap} {kvs:List (Key × V)} {vs:List (Key × Value)} (z:kvs.length <= sizeLine) (hd:(a == sysModules) = false) (rel:KV kvs vs) (dd:h'.DictOf (a1s P w) a vs) :
 a17 P w H' h' a (.dK kvs):=⟨z,hd,vs,rel,dd⟩
theorem c8e {H':Hp} {Q:Unit -> Shared -> Prop} (hu:A.units + 1 < cLine) (I:Inv X pins σ H s) (g:DPut H a y v H') (ry:RelV y u) (rv:RelV v r) (h:∀ s',Inv X pins σ H' s' -> Q () s') :
 wpAny (model X.prog X.w) A (setItem (.ref a) u r) Q E s:=by
 rcases g with ⟨kvs,k,e,ey,l,eH⟩ | ⟨kvs,k,b,e,ey,eb,l,eH⟩
 ·subst ey eH
  obtain ⟨z,hd,vs,rel,dd⟩:=d17 I.hok e
  have hz:vs.length <= sizeLine:=by rw [<- rel.length]; exact z
  have hl:(putK kvs k v).length <= sizeLine:=by have:=a52 kvs k v; omega
  refine wpAny_setItem_pairs (hsz:=hz) (c5l ry) dd fun h' dd' hs => h _ ?_
  have he:∃ q,h'.get? a = some q:=let ⟨q,_,_,hq,_⟩:=dd'; ⟨q,hq⟩
  exact c4Z I (by rw [e]; exact True.intro) hs he (c9U hl hd (rel.put k rv) dd')
 ·subst ey eH
  cases (show u = Value.ref b from ry)
  obtain ⟨z,hd,xs,rel,dd⟩:=d20 I.hok e
  have hz:xs.length <= sizeLine:=by rw [<- Paired.length rel]; exact z
  have hl:(putK kvs k v).length <= sizeLine:=by have:=a52 kvs k v; omega
  refine wpAny_setItem_heap (hsz:=hz) (tupleKind_room_in1 hu) (b9Q I.hok eb) dd fun h' dd' hs => h _ ?_
  obtain ⟨q,es,ep,hq,h2,h3,h4,_,h5⟩:=dd'
  refine c4Z I (by rw [e]; exact True.intro) hs ⟨q,hq⟩ ⟨hl,hd,_,(rel.put k eb rv).keeps fun c ys ec => ?_,q,es,ep,hq,h2,h3,h4,h5⟩
  rw [a0g (b7C ec e (fun z => nomatch z))]
  exact ec
end
section
variable {X:Cx} {pins:List (Addr × Obj)} {σ:St} {H:Hp} {s:Shared} {a:Addr} {kvs:List (Key × V)} {k:Key} {u:Value} {A:Around} {E:Value -> Shared -> Prop}
theorem d2H {Q:Value -> Shared -> Prop} (I:Inv X pins σ H s) (e:Rd H a (.dK kvs)) (h:∀ t s',Inv X pins σ H s' -> Q (.int kvs.length t) s'):wpAny (model X.prog X.w) A (call (.builtin "len") [.ref a]) Q E s:=by
 obtain ⟨z,hd,vs,rel,dd⟩:=c3z I.hok e
 refine call_len_dict hd dd (by rw [<- rel.length]; rw [sizeLine_eq] at z; omega) ?_
 rw [<- rel.length]
 exact h _ _ (I.tok _)
end
def NoSl (i:Expr):Prop:=∀ ov iv,subscripted i false ov iv = operate [ov,iv] (getItem ov iv)
theorem d0a {prog:Program} {w:World} {A:Around} {E:Value -> Shared -> Prop} {s:Shared} {env:Env} {value slice:Expr} {pos:Pos} {T id:String} {Q:Value -> Shared -> Prop}
 (hl:typeLookup (.type T) "__getitem__" = pure (some (.builtin id))) (hs:NoSl slice)
 (h:wpAny (model prog w) A (eval value env) (fun o s₁ => wpAny (model prog w) A (eval slice env) (fun i s₂ => s₂.TypeIs o T /\ wpAny (model prog w) A (getItem o i) Q E s₂) E s₁) E s) :
 wpAny (model prog w) A (eval (.Subscript value slice pos) env) Q E s:=by
 refine Subscript_ (wpAny_mono h (fun o s₁ h₁ => wpAny_mono h₁ (fun i s₂ h₂ => ?_) fun _ _ x => x) fun _ _ x => x)
 obtain ⟨hT,h₂⟩:=h₂
 unfold subscriptTail
 refine wpAny_bind ?_
 rw [getitemInPython_of_ne hT.not_modules]
 refine wpAny_bind (wpAny_specialOf hT hl ?_)
 have fin:wpAny (model prog w) A (subscripted slice false o i) (fun r s₃ => wpAny (model prog w) A (letTemporaryGo value o r >>= fun _ => pure r) Q E s₃) E s₂:=by
  rw [hs o i]
  exact wpAny_operating (wpAny_mono h₂ (fun r s₃ h₃ => wpAny_bind (wpAny_letTemporaryGo (wpAny_pure h₃))) fun _ _ x => x)
 first
  | exact wpAny_pure (wpAny_bind fin)
  | exact wpAny_bind (wpAny_pure (wpAny_bind fin))
  | exact wpAny_bind fin
theorem c5p {X:Cx} {pins:List (Addr × Obj)} {σ:St} {H:Hp} {s:Shared} {a:Addr} {y:V} {o:Option V} (I:Inv X pins σ H s) (g:DGet H a y o):s.TypeIs (.ref a) "dict" := by
 rcases g with ⟨kvs,k,e,_,_⟩ | ⟨kvs,k,b,e,_,_,_⟩
 ·obtain ⟨_,_,vs,_,dd⟩:=c3z I.hok e
  exact dd.typeIs
 ·obtain ⟨_,_,xs,_,dd⟩:=c5O I.hok e
  exact dd.typeIs
def d2E (td ty:TE):TE:=fun σ H Q => td σ H fun x H1 => ty σ H1 fun y H2 => ∃ a v,x = .ref a /\ DGet H2 a y (some v) /\ Q v H2
def tDIn (ty td:TE):TE:=fun σ H Q => ty σ H fun y H1 => td σ H1 fun x H2 => ∃ a o,x = .ref a /\ DGet H2 a y o /\ Q (.bl o.isSome) H2
def d0v (ty td:TE):TE:=fun σ H Q => ty σ H fun y H1 => td σ H1 fun x H2 => ∃ a o,x = .ref a /\ DGet H2 a y o /\ Q (.bl (!o.isSome)) H2
def d2L (td ty tv:TE):TS:=fun D σ H => tv σ H fun v H1 => td σ H1 fun x H2 => ty σ H2 fun y H3 => ∃ a H4,x = .ref a /\ DPut H3 a y v H4 /\ D.nx σ H4
section
variable {X:Cx} {o i e value:Expr} {pos pos' tpos:Pos} {td ty tv:TE}
theorem a00 (hu:X.A.units + 1 < cLine) (ho:PE X o td) (hi:PE X i ty) (hs:NoSl i):PE X (.Subscript o i pos) (d2E td ty):=by
 intro pins s σ H Q I h
 refine d0a PySem.F.slot_dict_getitem.lookup hs (thn (ho pins s σ H _ I h) fun u s1 ⟨x,H1,I1,rx,q1⟩ => thn (hi pins s1 σ H1 _ I1 q1) fun iv s2 ⟨y,H2,I2,ry,a,v,ex,g,q2⟩ => ?_)
 subst ex
 obtain rfl:u = Value.ref a:=rx
 exact ⟨c5p I2 g,c8z hu I2 g ry fun w' s3 I3 rw' => ⟨v,H2,I3,rw',q2⟩⟩
theorem b8g (hu:X.A.units + 1 < cLine) (hi:PE X i ty) (ho:PE X o td):PC X .In i o (tDIn ty td):=by
 intro pins s σ H Q I h
 refine thn (hi pins s σ H _ I h) fun iv s1 ⟨y,H1,I1,ry,q1⟩ => thn (ho pins s1 σ H1 _ I1 q1) fun u s2 ⟨x,H2,I2,rx,a,ov,ex,g,q2⟩ => ?_
 subst ex
 obtain rfl:u = Value.ref a:=rx
 exact d_in hu I2 g ry fun s3 I3 => ⟨.bl ov.isSome,H2,I3,rfl,q2⟩
theorem a3Q (hu:X.A.units + 1 < cLine) (hi:PE X i ty) (ho:PE X o td):PC X .NotIn i o (d0v ty td):=by
 intro pins s σ H Q I h
 refine thn (hi pins s σ H _ I h) fun iv s1 ⟨y,H1,I1,ry,q1⟩ => thn (ho pins s1 σ H1 _ I1 q1) fun u s2 ⟨x,H2,I2,rx,a,ov,ex,g,q2⟩ => ?_
 subst ex
 obtain rfl:u = Value.ref a:=rx
 exact d0J hu I2 g ry fun s3 I3 => ⟨.bl (!ov.isSome),H2,I3,rfl,q2⟩
theorem a6x (hu:X.A.units + 1 < cLine) (ho:PE X o td) (hi:PE X i ty) (hv:PE X value tv) (hs:swapsWith value (some (.Subscript o i pos')) pos.line X.env = pure false) :
 PS X (.Assign [.Subscript o i pos'] value pos) (d2L td ty tv):=by
 intro pins s σ H D I h
 refine wpAny_Assign_Subscript (thn (hv pins s σ H _ I h) fun r s1 ⟨v,H1,I1,rv,q1⟩ => thn (ho pins s1 σ H1 _ I1 q1) fun u s2 ⟨x,H2,I2,rx,q2⟩ => thn (hi pins s2 σ H2 _ I2 q2) fun iv s3 ⟨y,H3,I3,ry,a,H4,ex,g,q3⟩ => ?_) hs
 subst ex
 obtain rfl:u = Value.ref a:=rx
 exact c8e hu I3 g ry rv fun s4 I4 => ⟨σ,H4,I4,q3⟩
end
theorem c6v {P:Program} {w:World} {H:Hp} (h:Heap) (hb:sysModules < h.objs.size):a17 P w H (h.push { cls:=.type "dict", data:=.dict #[] }) h.objs.size (.dK []) :=
 ⟨Nat.zero_le _,beq_eq_false_iff_ne.mpr (Ne.symm (Nat.ne_of_lt hb)),[],.nil,Heap.DictOf.new h⟩
theorem c9m {P:Program} {w:World} {H:Hp} (h:Heap) (hb:sysModules < h.objs.size):a17 P w H (h.push { cls:=.type "dict", data:=.dict #[] }) h.objs.size (.dT []) :=
 ⟨Nat.zero_le _,beq_eq_false_iff_ne.mpr (Ne.symm (Nat.ne_of_lt hb)),[],.nil,_,#[],0,Heap.get?_push_size _ rfl,⟨rfl,rfl,rfl⟩,rfl,rfl,List.nodup_nil⟩
def d1R:TE:=fun _ H Q => ∀ p,H p = none -> Q (.ref p) (upd H p (.dK []))
def d2x:TE:=fun _ H Q => ∀ p,H p = none -> Q (.ref p) (upd H p (.dT []))
section
variable {X:Cx} {pos:Pos}
theorem b3i:PE X (.Dict [] [] pos) d1R:=fun pins s σ H Q I h =>
 wpAny_Dict_empty ⟨.ref s.heap.objs.size,_,I.laid (a:=s.heap.objs.size) (o:=.dK []) (t':=s.toks) (fun _ _ q => Heap.get?_push_of_some _ q) (Nat.le_refl _) (c6v s.heap I.big),rfl,h _ (I.hok.fresh (Nat.le_refl _))⟩
theorem b3h:PE X (.Dict [] [] pos) d2x:=fun pins s σ H Q I h =>
 wpAny_Dict_empty ⟨.ref s.heap.objs.size,_,I.laid (a:=s.heap.objs.size) (o:=.dT []) (t':=s.toks) (fun _ _ q => Heap.get?_push_of_some _ q) (Nat.le_refl _) (c9m s.heap I.big),rfl,h _ (I.hok.fresh (Nat.le_refl _))⟩
end
def c8x:List (TE × TE) -> St -> Hp -> (List (V × V) -> Hp -> Prop) -> Prop
 | [],_,H,Q => Q [] H
 | (tk,tv) :: r,σ,H,Q => tk σ H fun x H1 => tv σ H1 fun y H2 => c8x r σ H2 fun ps H3 => Q ((x,y) :: ps) H3
abbrev VV:List (V × V) -> List (Value × Value) -> Prop:=Paired fun p q => RelV p.1 q.1 /\ RelV p.2 q.2
def PPs (X:Cx) (pos:Pos) (keys:List (Option Expr)) (values:List Expr) (trs:List (TE × TE)):Prop :=
 ∀ (pins:List (Addr × Obj)) (s:Shared) (σ:St) (H:Hp) (Q:List (V × V) -> Hp -> Prop),Inv X pins σ H s -> c8x trs σ H Q ->
  wpAny (model X.prog X.w) X.A (evalPairs (pairTrees keys values X.env pos)) (fun vs s' => ∃ ps H',Inv X pins σ H' s' /\ VV ps vs /\ Q ps H') X.xe s
theorem d0O {X:Cx} {pos:Pos}:PPs X pos [] [] []:=fun pins s σ H Q I h => pairTrees_nil_walk ⟨[],H,I,.nil,h⟩
theorem c9z {X:Cx} {pos:Pos} {k v:Expr} {ks:List (Option Expr)} {vs:List Expr} {tk tv:TE} {trs:List (TE × TE)} (hk:PE X k tk) (hv:PE X v tv) (hr:PPs X pos ks vs trs) :
 PPs X pos (some k :: ks) (v :: vs) ((tk,tv) :: trs):=fun pins s σ H Q I h =>
 pairTrees_cons_walk (thn (hk pins s σ H _ I h) fun u s1 ⟨x,H1,I1,rx,q1⟩ => thn (hv pins s1 σ H1 _ I1 q1) fun w2 s2 ⟨y,H2,I2,ry,q2⟩ =>
  thn (hr pins s2 σ H2 _ I2 q2) fun ws s3 ⟨ps,H3,I3,rel,q3⟩ => ⟨(x,y) :: ps,H3,I3,.cons ⟨rx,ry⟩ rel,q3⟩)
def b9G (kvs more:List (Key × V)):List (Key × V):=more.foldl (fun acc kv => putK acc kv.1 kv.2) kvs
theorem KV.merge:∀ {more:List (Key × V)} {rs:List (Key × Value)} {kvs:List (Key × V)} {vs:List (Key × Value)},KV more rs -> KV kvs vs -> KV (b9G kvs more) (merged vs rs):=by
 intro more rs kvs vs r
 unfold KV at r
 induction r generalizing kvs vs with
 | nil => intro q; exact q
 | @cons p q ps qs h t ih =>
  intro r0
  have e:KV (putK kvs p.1 p.2) (stored vs q.1 q.2):=by
   have:=r0.put p.1 h.2
   rw [<- h.1]; exact this
  exact ih e
theorem b39:∀ (more kvs:List (Key × V)),(b9G kvs more).length <= kvs.length + more.length
 | [],kvs => by show kvs.length <= kvs.length + 0; omega
 | p :: r,kvs => by
  have h1:=b39 r (putK kvs p.1 p.2)
  have h2:=a52 kvs p.1 p.2
  show (b9G (putK kvs p.1 p.2) r).length <= _
  rw [List.length_cons]; omega
theorem b9P {P:Program} {w:World}:∀ {kvs:List (Key × V)} {ws:List (Value × Value)},VV (kvs.map fun kv => (kV kv.1,kv.2)) ws -> ∃ rs,Carries (a1s P w) ws rs /\ KV kvs rs
 | [],_,r => by rw [List.map_nil] at r; cases r; exact ⟨[],True.intro,.nil⟩
 | p :: kvs,_,r => by
  rw [List.map_cons] at r
  cases r with
  | @cons a b as bs h t =>
   obtain ⟨rs,c,q⟩:=b9P (P:=P) (w:=w) t
   obtain ⟨b1,b2⟩:=b
   exact ⟨(p.1,b2) :: rs,⟨c5l h.1,rfl,c⟩,.cons ⟨rfl,h.2⟩ q⟩
def d1w (trs:List (TE × TE)):TE:=fun σ H Q => ∀ p,H p = none -> c8x trs σ (upd H p (.dK [])) fun ps H2 => H2 p = some (.dK []) /\ ∃ kvs:List (Key × V),ps = kvs.map (fun kv => (kV kv.1,kv.2)) /\ kvs.length <= 15 /\ Q (.ref p) (upd H2 p (.dK (b9G [] kvs)))
theorem d0W {X:Cx} {pos:Pos} {keys:List (Option Expr)} {values:List Expr} {trs:List (TE × TE)} (h:PPs X pos keys values trs) (hall:keys.all (·.isSome) = true) (hl:keys.length = values.length) (h0:keys ≠ [])
 (h15:keys.length <= 15):PE X (.Dict keys values pos) (d1w trs):=by
 intro pins s σ H Q I q
 have hn:=I.hok.fresh (Nat.le_refl s.heap.objs.size)
 have I1:=I.laid (a:=s.heap.objs.size) (o:=.dK []) (h':=s.heap.push { cls:=.type "dict", data:=.dict #[] }) (t':=s.toks) (fun _ _ q => Heap.get?_push_of_some _ q) (Nat.le_refl _) (c6v s.heap I.big)
 refine wpAny_Dict_walk (knd:=a1s X.prog X.w) hall hl h0 h15 (thn (h pins _ σ _ _ I1 (q _ hn)) fun ws s2 ⟨ps,H2,I2,rel,e,kvs,ep,lk,q2⟩ => ?_)
 subst ep
 obtain ⟨rs,c,rk⟩:=b9P (P:=X.prog) (w:=X.w) rel
 obtain ⟨z,hd,vs0,r0,dd⟩:=d17 I2.hok e
 cases r0
 refine ⟨rs,c,dd,fun h' dd' hs => ⟨.ref s.heap.objs.size,_,?_,rfl,q2⟩⟩
 have hz:(b9G [] kvs).length <= sizeLine:=by
  have h1:=b39 kvs []
  rw [List.length_nil] at h1
  rw [sizeLine_eq]; omega
 have he:∃ q,h'.get? s.heap.objs.size = some q:=let ⟨q,_,_,hq,_⟩:=dd'; ⟨q,hq⟩
 exact c4Z I2 (by rw [e]; exact True.intro) hs he (c9U hz hd (rk.merge .nil) dd')
structure M1 (X:Cx) (o:Expr) (m:Str) (apos:Pos) (e:Expr) (cpos:Pos):Prop where
 base:attributeBase o m X.env (eval o X.env) = eval o X.env
 few:((backTo cpos (starEach [e] X.env)).all (fun x => !x.1) && (backToKw cpos (keywordEach [] X.env)).all (fun x => x.1.isSome)
  && decide (([e]:List Expr).length + ([]:List Keyword).length + (if ([]:List Keyword).isEmpty then 0 else 1) < 30)) = true
 line:(apos.endLine == cpos.line) = true
 trees:backTo cpos (starEach [e] X.env) = [(false,eval e X.env)]
structure M2 (X:Cx) (o:Expr) (m:Str) (apos:Pos) (e f:Expr) (cpos:Pos):Prop where
 base:attributeBase o m X.env (eval o X.env) = eval o X.env
 few:((backTo cpos (starEach [e,f] X.env)).all (fun x => !x.1) && (backToKw cpos (keywordEach [] X.env)).all (fun x => x.1.isSome)
  && decide (([e,f]:List Expr).length + ([]:List Keyword).length + (if ([]:List Keyword).isEmpty then 0 else 1) < 30)) = true
 line:(apos.endLine == cpos.line) = true
 trees:backTo cpos (starEach [e,f] X.env) = [(false,eval e X.env),(false,eval f X.env)]
def IsD (H:Hp) (a:Addr):Prop:=(∃ kvs,Rd H a (.dK kvs)) ∨ ∃ kvs,Rd H a (.dT kvs)
theorem d2C {X:Cx} {pins:List (Addr × Obj)} {σ:St} {H:Hp} {s:Shared} {a:Addr} (I:Inv X pins σ H s) (d:IsD H a) :
 s.TypeIs (.ref a) "dict" /\ (∀ b,Value.ref a = .ref b -> ∃ ob,s.heap.get? b = some ob /\ ob.dict = none) /\ (a == sysModules) = false:=by
 rcases d with ⟨kvs,e⟩ | ⟨kvs,e⟩
 ·obtain ⟨_,hd,vs,_,dd⟩:=c3z I.hok e
  refine ⟨dd.typeIs,fun b q => ?_,hd⟩
  cases q
  obtain ⟨ob,_,_,h1,h2,_⟩:=dd
  exact ⟨ob,h1,h2.2.1⟩
 ·obtain ⟨_,hd,xs,_,dd⟩:=c5O I.hok e
  refine ⟨dd.typeIs,fun b q => ?_,hd⟩
  cases q
  obtain ⟨ob,_,_,h1,h2,_⟩:=dd
  exact ⟨ob,h1,h2.2.1⟩
section
variable {X:Cx} {pins:List (Addr × Obj)} {σ:St} {H:Hp} {s:Shared} {a:Addr} {y d:V} {u r:Value} {o:Option V} {A:Around} {E:Value -> Shared -> Prop}
theorem d2A {Q:Value -> Shared -> Prop} (hu:A.units + 1 < cLine) (I:Inv X pins σ H s) (g:DGet H a y o) (ry:RelV y u) (rd:RelV d r) (h:∀ w' s',Inv X pins σ H s' -> RelV (o.getD d) w' -> Q w' s') :
 wpAny (model X.prog X.w) A (call (.builtin "dict.get") [.ref a,u,r]) Q E s:=by
 rcases g with ⟨kvs,k,e,ey,l⟩ | ⟨kvs,k,b,e,ey,eb,l⟩
 ·subst ey
  obtain ⟨z,hd,vs,rel,dd⟩:=c3z I.hok e
  refine call_meetsIn PySem.F.slot_dict_get dd.typeIs PySem.F.entry_dict_get (PySem.F.args_dict_get_3 _ _ _) (meets_dict_get_default (a1s X.prog X.w) a (c5l ry) hd r) ⟨_,dd.mapOf,h _ _ (I.tok _) ?_⟩
  rw [l]
  exact (rel.val k).getD rd
 ·subst ey
  cases (show u = Value.ref b from ry)
  obtain ⟨z,hd,xs,rel,dd⟩:=c5O I.hok e
  refine call_meetsIn PySem.F.slot_dict_get dd.typeIs PySem.F.entry_dict_get (PySem.F.args_dict_get_3 _ _ _) (meetsH_dict_get_default (tupleKind (a1s X.prog X.w)) a b hd r) ⟨tupleKind_room_in1 hu,k,xs,b9Q I.hok eb,dd,h _ _ (I.tok _) ?_⟩
  rw [l]
  exact (rel.val k).getD rd
end
def d2B (td ty tx:TE):TE:=fun σ H Q => td σ H fun x H1 => ∃ a,x = .ref a /\ IsD H1 a /\ ty σ H1 fun y H2 => tx σ H2 fun z H3 => ∃ o,DGet H3 a y o /\ Q (o.getD z) H3
section
variable {X:Cx} {o e f:Expr} {apos cpos:Pos} {td ty tx:TE}
theorem c9k (hu:X.A.units + 1 < cLine) (ho:PE X o td) (he:PE X e ty) (hf:PE X f tx) (m:M2 X o "get" apos e f cpos):PE X (.Call (.Attribute o "get" apos) [e,f] [] cpos) (d2B td ty tx):=by
 intro pins s σ H Q I h
 refine wpAny_Call_method m.base m.few m.line PySem.F.plainAttrs_dict PySem.F.slot_dict_get PySem.F.type_dict_get (thn (ho pins s σ H _ I h) fun u s1 ⟨x,H1,I1,rx,a,ex,d,q1⟩ => ?_)
 subst ex
 obtain rfl:u = Value.ref a:=rx
 obtain ⟨t1,t2,_⟩:=d2C I1 d
 refine ⟨t1,t2,?_⟩
 rw [m.trees]
 refine Calls.callWith_builtin rfl (Calls.evalArgs_plain (Calls.spliced_cons (thn (he pins s1 σ H1 _ I1 q1) fun iv s2 ⟨y,H2,I2,ry,q2⟩ =>
  Calls.spliced_cons (thn (hf pins s2 σ H2 _ I2 q2) fun fv s3 ⟨z,H3,I3,rz,ov,g,q3⟩ => Calls.spliced_nil ?_))))
 exact d2A hu I3 g ry rz fun w' s4 I4 rw' => ⟨_,H3,I4,rw',q3⟩
end
end L2
namespace Att
open PySem PySem.W PySem.Calls PyProof.Rows
theorem b6V {P:Params} {h:Heap}:∀ (ns:List Int) (vs:List Value),WellAll P h vs (ns.map WData.int) -> IntsAre vs ns:=by
 intro ns
 induction ns with
 | nil =>
  intro vs w
  rw [List.map_nil] at w
  cases w
  exact .nil
 | cons n ns ih =>
  intro vs w
  rw [List.map_cons] at w
  cases w with
  | cons a b =>
   cases a
   exact .cons _ _ (ih _ b)
theorem c8h {l:OpenLaw} {n:Nat} (hn:l.most = some n) {P:Params} {h:Heap} {args:List WData} {vals:List Value}
 (hpre:l.row.toRowW.claim.pre args = true) (hwl:WellAll P h vals args) :
 ∃ a vs ns,vals = [Value.ref a] /\ args = [WData.list (ns.map WData.int)] /\ h.get? a = some { cls:=.type "list", data:=.seq vs.toArray } /\ IntsAre vs ns /\ ns.length <= n:=by
 have hsh:WShape.hasAll [] args [.list .int] = true:=(pre_splitW hpre).1
 have hc:l.pre.holds [] { args:=args } = true:=(pre_splitW hpre).2
 obtain ⟨d,r,rfl,h1,h2⟩:=hasAllW_cons hsh
 obtain rfl:=hasAllW_nil h2
 obtain ⟨xs,rfl,h3⟩:=hasW_list h1
 obtain ⟨ns,rfl⟩:=items_int h3
 have hlen:ns.length <= n:=by
  unfold OpenLaw.pre at hc
  have h4:(WTm.not (.lt (.lit (.int (n:Int))) (.len (.arg 0)))).holds [] { args:=[.list (ns.map .int)] } = true:=by
   have h4:=(holds_andW hc).1
   rw [hn] at h4
   exact h4
  have h5:=condW_of h4 (w_not (w_lt w_lit (w_len_list (w_arg rfl))))
  rw [List.length_map] at h5
  refine Nat.le_of_not_lt fun q => ?_
  have q':(n:Int) < ((ns.length:Nat):Int):=by omega
  first
   | (rw [decide_eq_true q'] at h5; exact absurd h5 (by decide))
   | (simp at h5; omega)
 cases hwl with
 | cons w1 w2 =>
  cases w2
  cases w1 with
  | list ho hall => exact ⟨_,_,ns,rfl,rfl,ho,b6V ns _ hall,hlen⟩
theorem c8P (l:OpenLaw) (args:List WData):l.row.toRowW.claim.post args (.bool true) args = true :=
 postW_of (r:=l.row.toRowW) (X:=(true == true))
  (show WShape.has [] (.bool true) .bool = true by first | rfl | decide | simp [WShape.has,WShape.arms,WShape.armsAll])
  (show (WTm.eq .res (.lit (.bool true))).value [] { args:=args,res:=some (.bool true),after:=args } = some (.bool (true == true)) from w_eq_bool (w_res rfl) w_lit) rfl
theorem attach_call {l:OpenLaw} {n:Nat} {q:Program} {loose:List Str} {XP:(Str -> Option Value) -> Heap -> Prop} {YP:World -> Heap -> Prop} {d:DefRec}
 (hn:l.most = some n) (hdf:d.params.defaults = [])
 (call:∀ (w:World) (s₀ s₁:Shared) (mg mb:Str -> Option Value) (fa:Addr) (o:Obj) (pm cd doc:Value) (a:Addr) (vs:List Value) (ns:List Int),
  Ground q loose [] XP w s₀ mg mb s₁.heap -> YP w s₁.heap ->
  s₁.heap.get? fa = some o -> o.data = .func (docDef d.name d.params d.body d.scope pm cd doc) -> s₁.heap.CodeRec cd d.name -> mg d.name = some (.ref fa) ->
  s₁.heap.get? a = some { cls:=.type "list", data:=.seq vs.toArray } -> IntsAre vs ns -> ns.length <= n -> s₁.gens = #[] ->
  codeAny (model l.prog w) callerA (.call (.ref fa) ⟨[.ref a],[]⟩) (fun r s' => r = .ok (.ret (.bool true)) /\ OldK s₁.heap s'.heap /\ s'.os = s₁.os /\ AllBare s'.gens) s₁) :
 WalkO q loose XP YP l.row.toRowW d [] (fun f vs => PySem.call f vs):=by
 intro w s₀ s₁ mg mb G Y fa o pm cd doc dV kV ho hd hcd hD hmg hg args vals as hpre hlay hrd hwl hlo
 obtain rfl:dV = .none:=Dflts.none hD hdf
 obtain rfl:kV = .none:=Dflts.noKw hD
 obtain ⟨a,vs,ns,rfl,rfl,hobj,hints,hlen⟩:=c8h hn hpre hwl
 refine enter_call (codeAny_mono (call w s₀ s₁ mg mb fa o pm cd doc a vs ns G Y ho (fd_plain hd) hcd hmg hobj hints hlen hg) fun r s' hq => ?_)
 obtain ⟨rfl,h2,h3,h4⟩:=hq
 exact ⟨.inl ⟨.bool true,.bool true,[],rfl,fun _ => rfl,.bool true,c8P l _,fun _ => ⟨List.Pairwise.nil,fun _ hm => (nomatch hm)⟩⟩,h2,h3,h4⟩
section
variable {prog:Program} {w:World} {A:Around} {E:Value -> Shared -> Prop} {s:Shared} {K:Frag}
def ledger (h:Heap) (L d:Addr):List (Addr × Obj):=(List.range h.objs.size).filterMap fun a => if a = L ∨ a = d then none else (h.get? a).map fun o => (a,o)
end
end Att
namespace L2
open PySem PySem.Spec PyProof.Rows
theorem c4F:∀ {vs:List Value} {ns:List Int},IntsAre vs ns -> Vals (ns.map V.int) vs
 | _,_,.nil => .nil
 | _,_,.cons n t h => .cons ⟨t,rfl⟩ (c4F h)
end L2
namespace L2
open PySem PySem.Spec PyProof.Rows
def a0j (s:Stmt):Arguments:=match s with
 | .FunctionDef _ a _ _ _ _ _ _ _ _ => a
 | _ => { posonlyargs:=[],args:=[],vararg:=none,kwonlyargs:=[],kw_defaults:=[],kwarg:=none,defaults:=[] }
def a0i (s:Stmt):List Stmt:=match s with
 | .FunctionDef _ _ b _ _ _ _ _ _ _ => b
 | _ => []
def a0b (s:Stmt):Scope:=match s with
 | .FunctionDef _ _ _ _ _ _ sc _ _ _ => sc
 | _ => { kind:=.function,names:=[],isGenerator:=false,isCoroutine:=false }
abbrev CX0:CXT:=fun _ _ _ _ _ _ => False
abbrev E0:XK:=fun _ _ _ => False
theorem a0r {X:Cx}:a7p CX0 X E0:=fun _ _ _ _ _ _ _ h => h.elim
structure Fun (K:PySem.W.Frag) (x qual:Str) (st:Stmt) (f:Addr) (fd:FuncData):Prop where
 ex:∃ (oc:Value) (od:Option Addr) (kV doc pm:Value) (an:Option Addr) (cdv ct:Value) (osl:Array (Option Value)),
  fd = PySem.W.fnOf x qual (a0j st) (a0i st) (a0b st) .none kV doc pm an cdv ct /\ K.lookup f = some ⟨oc,od,.func fd,osl⟩ /\ PySem.W.codeIn K cdv qual = true
 kp:PySem.W.keepIn K (.ref f) = true
section
variable {P:Program} {w:World} {K:PySem.W.Frag} {mg:Str -> Option Value} {base:Heap}
theorem Fun.ok {x qual:Str} {st:Stmt} {f:Addr} {fd:FuncData} {N ps:List Str} {k:Nat} {sp:Sp} (F:Fun K x qual st f fd) (S:a0l N ps (a0b st)) (len:∀ vs H Q E,sp vs H Q E -> vs.length = ps.length)
 (hbody:∀ (cdv:Value) (A:Around) (outer:List Env) (s:Shared) (H:Hp) (vs:List V) (Q:VK) (E:XK),Room k (A.deeper (envOfC qual (a0b st) s.heap.objs.size f cdv)) -> sp vs H Q E ->
  ∃ t,PSs (cxOf CX0 P w K mg base N qual (a0b st) f cdv A outer s H E).nox (a0i st) t /\ t { nx:=fun _ H' => Q .non H',rt:=Q } (start N vs) H):FnOk P w K mg base CX0 (k + 1) f fd ps sp:=by
 obtain ⟨oc,od,kV,doc,pm,an,cdv,ct,osl,rfl,lk,hcd⟩:=F.ex
 refine c98 lk hcd S len fun A outer s H vs Q E hr hsp => ?_
 obtain ⟨t,h,q⟩:=hbody cdv A outer s H vs Q E hr hsp
 exact ⟨t,h.nox,q⟩
theorem Fun.binds {x qual:Str} {st:Stmt} {f:Addr} {fd:FuncData} {ps:List Str} (F:Fun K x qual st f fd)
 (h:∀ (kV doc pm:Value) (an:Option Addr) (cdv ct:Value) (us:List Value),us.length = ps.length -> bindArgs (PySem.W.fnOf x qual (a0j st) (a0i st) (a0b st) .none kV doc pm an cdv ct) ⟨us,[]⟩ = pure (ps.zip us)):b2u K fd ps []:=by
 obtain ⟨oc,od,kV,doc,pm,an,cdv,ct,osl,rfl,lk,hcd⟩:=F.ex
 exact .all (h kV doc pm an cdv ct)
theorem c6u {x qual:Str} {st:Stmt} {f:Addr} {oc:Value} {od an:Option Addr} {osl:Array (Option Value)} {kV doc pm cdv ct:Value} (l:K.lookup f = some ⟨oc,od,.func (PySem.W.fnOf x qual (a0j st) (a0i st) (a0b st) .none kV doc pm an cdv ct),osl⟩)
 (c:PySem.W.codeIn K cdv qual = true) (k:PySem.W.keepIn K (.ref f) = true):Fun K x qual st f (PySem.W.fnOf x qual (a0j st) (a0i st) (a0b st) .none kV doc pm an cdv ct):=⟨⟨oc,od,kV,doc,pm,an,cdv,ct,osl,rfl,l,c⟩,k⟩
end
theorem a2I {A:Around} {k:Nat} (hr:Room k A):A.units + 1 < cLine:=Nat.lt_of_le_of_lt (Nat.add_le_add_left (by decide:1 <= 64) _) hr.units
theorem a0w {n:Nat} (h:n <= 1000):n < sizeLine:=Nat.lt_of_le_of_lt h (by decide)
section
variable {X:Cx}
theorem pv (i:Nat) {x:Str} {pos:Pos} (hN:X.N[i]? = some x:=by rfl) (hv:Vis X.env.scope x:=by first | exact Or.inl rfl | exact Or.inr (Or.inl rfl) | exact Or.inr (Or.inr rfl)) (hd:(x == ("__debug__" : Str)) = false:=by decide)
 (hcd:(x == ("__classdict__" : Str)) = false:=by decide):PE X (.Name x pos) (tVar i):=c9Q hN hv hd hcd
theorem c3n:b4w X (.builtin "len") (fun xs H Q => ∃ a kvs,xs = [V.ref a] /\ H a = some (.dK kvs) /\ Q (.int kvs.length) H):=by
 intro pins s σ H xs us Q I r h
 obtain ⟨a,kvs,rfl,ha,q⟩:=h
 obtain ⟨u,rfl,ru⟩:=c3G r
 cases ru
 exact d2H I (.inl ha) fun t s' I' => ⟨.int kvs.length,H,I',⟨t,rfl⟩,q⟩
end
theorem iteF {A B:Prop} (h:B):if false = true then A else B:=by
 rw [if_neg Bool.false_ne_true]
 exact h
theorem iteT {A B:Prop} (h:A):if true = true then A else B:=by
 rw [if_pos rfl]
 exact h
theorem ite2 {c A B:Prop} [Decidable c] (h1:c -> A) (h2:¬ c -> B):if c then A else B:=by
 by_cases h:c
 ·rw [if_pos h]
  exact h1 h
 ·rw [if_neg h]
  exact h2 h
def Same (H H':Hp):Prop:=∀ b o,H b = some o -> H' b = some o
theorem Same.refl (H:Hp):Same H H:=fun _ _ h => h
theorem Same.trans {H H1 H2:Hp} (a:Same H H1) (b:Same H1 H2):Same H H2:=fun c o h => b c o (a c o h)
theorem Same.seq {K:PySem.W.Frag} {H H':Hp} {a:Addr} {xs:List V} (e:Same H H') (h:SqL K H a xs):SqL K H' a xs:=by
 rcases h with (h | ⟨o,h⟩) | h
 ·exact .inl (.inl (e _ _ h))
 ·exact .inl (.inr ⟨o,e _ _ h⟩)
 ·exact .inr h
section
variable {κ:Type} [DecidableEq κ]
theorem c9G {kvs:List (κ × V)} {k:κ} (h:valV kvs k = none):¬ k ∈ kvs.map (·.1):=by
 intro m
 obtain ⟨p,hp,e⟩:=List.mem_map.mp m
 have q:(kvs.any fun kv => decide (kv.1 = k)) = true:=List.any_eq_true.mpr ⟨p,hp,decide_eq_true e⟩
 rw [a7r,h] at q
 exact absurd q (by simp)
theorem c74:∀ {l:List κ} {k:κ},l.Nodup -> ¬ k ∈ l -> (l ++ [k]).Nodup
 | [],k,_,_ => by simp
 | a :: r,k,h,hk => by
  obtain ⟨h1,h2⟩:=List.nodup_cons.mp h
  show (a :: (r ++ [k])).Nodup
  refine List.nodup_cons.mpr ⟨fun m => ?_,c74 h2 fun m => hk (List.mem_cons.mpr (Or.inr m))⟩
  rcases List.mem_append.mp m with q | q
  ·exact h1 q
  ·exact hk (List.mem_cons.mpr (Or.inl (List.mem_singleton.mp q).symm))
theorem c76 {kvs:List (κ × V)} {k:κ} (v:V) (hn:(kvs.map (·.1)).Nodup) (h:valV kvs k = none):((putK kvs k v).map (·.1)).Nodup:=by
 rw [c2P v h,List.map_append]
 exact c74 hn (c9G h)
end
end L2
namespace L2
open PySem PySem.Spec PyProof.Rows
section
variable {X:Cx} {a b c:Expr} {ta tb tc:TE} {pos:Pos}
theorem c7t {x:Str} {i:Int} (h:∃ t,X.mg x = some (.int i t)) (hg:Gl X x:=by rfl) (hd:(x == ("__debug__" : Str)) = false:=by decide):PE X (.Name x pos) (tC (.int i)):=by
 obtain ⟨t,h⟩:=h
 exact c4V hg h ⟨t,rfl⟩ hd
theorem d2O {x z:Str} (h:∃ t,X.mg x = some (.str z t)) (hg:Gl X x:=by rfl) (hd:(x == ("__debug__" : Str)) = false:=by decide):PE X (.Name x pos) (tC (.str z)):=by
 obtain ⟨t,h⟩:=h
 exact c4V hg h ⟨t,rfl⟩ hd
theorem d13 {x:Str} {f:Addr} (h:X.mg x = some (.ref f)) (hg:Gl X x:=by rfl) (hd:(x == ("__debug__" : Str)) = false:=by decide):PE X (.Name x pos) (tC (.ref f)):=c4V hg h rfl hd
theorem b6m {x:Str} {T:String} (hm:X.mg x = none) (hv:bootBuiltins x = some (.type T)) (hg:Gl X x:=by rfl) (hn:x ≠ "__name__" := by decide) (hd:(x == ("__debug__" : Str)) = false:=by decide):PE X (.Name x pos) (tC (.ty T)):=d0t hg hm hv rfl hn hd
end
mutual
inductive Dt (K:PySem.W.Frag) (H:Hp):V -> PyData -> Prop where
 | non:Dt K H .non .none
 | bl (b:Bool):Dt K H (.bl b) (.bool b)
 | int (i:Int):Dt K H (.int i) (.int i)
 | str (x:Str):Dt K H (.str x) (.str x)
 | lst {a:Addr} {xs:List V} {ds:List PyData}:SqL K H a xs -> a16 K H xs ds -> Dt K H (.ref a) (.list ds)
 | tup {a:Addr} {xs:List V} {ds:List PyData}:SqT K H a xs -> a16 K H xs ds -> Dt K H (.ref a) (.tuple ds)
 | dK {a:Addr} {kvs:List (Key × V)}:H a = some (.dK kvs) -> Dt K H (.ref a) (.dict [])
 | dT {a:Addr} {kvs:List (List Key × V)}:H a = some (.dT kvs) -> Dt K H (.ref a) (.dict [])
inductive a16 (K:PySem.W.Frag) (H:Hp):List V -> List PyData -> Prop where
 | nil:a16 K H [] []
 | cons {v:V} {d:PyData} {vs:List V} {ds:List PyData}:Dt K H v d -> a16 K H vs ds -> a16 K H (v :: vs) (d :: ds)
end
section
variable {X:Cx} {pins:List (Addr × Obj)} {σ:St} {H H':Hp} {s:Shared}
mutual
theorem Dt.reads (I:Inv X pins σ H s):∀ {v:V} {d:PyData} {u:Value},Dt X.K H v d -> RelV v u -> d.canLay0 = true -> ∃ as,Reads s.heap u d as
 | _,_,_,.non,r,_ => by cases r; exact ⟨_,.none⟩
 | _,_,_,.bl b,r,_ => by cases r; exact ⟨_,.bool b⟩
 | _,_,_,.int i,r,_ => by obtain ⟨t,rfl⟩:=r; exact ⟨_,.int i t⟩
 | _,_,_,.str x,r,_ => by obtain ⟨t,rfl⟩:=r; exact ⟨_,.str x t⟩
 | _,_,_,.lst h hd,r,l => by
  cases r
  obtain ⟨its,rv,⟨o,n,e,hc,_,hs⟩,_⟩:=I.list h
  obtain ⟨as,ra⟩:=a16.reads I hd rv (by rw [PyData.canLay0] at l; exact l)
  exact ⟨_,.list e hc hs (by simpa using ra)⟩
 | _,_,_,.tup h hd,r,l => by
  cases r
  obtain ⟨its,rv,⟨o,e,hc,n,hs⟩,_⟩:=I.tuple h
  obtain ⟨as,ra⟩:=a16.reads I hd rv (by rw [PyData.canLay0] at l; exact l)
  exact ⟨_,.tuple e hc hs (by simpa using ra)⟩
 | _,_,_,.dK _,_,l => by rw [PyData.canLay0] at l; cases l
 | _,_,_,.dT _,_,l => by rw [PyData.canLay0] at l; cases l
theorem a16.reads (I:Inv X pins σ H s):∀ {vs:List V} {ds:List PyData} {us:List Value},a16 X.K H vs ds -> Vals vs us -> PyData.canLayAll0 ds = true -> ∃ as,ReadsAll s.heap us ds as
 | _,_,_,.nil,r,_ => by cases r; exact ⟨_,.nil⟩
 | _,_,_,.cons h hd,r,l => by
  rw [PyData.canLayAll0,Bool.and_eq_true] at l
  cases r with
  | cons r1 rr =>
   obtain ⟨as,ra⟩:=Dt.reads I h r1 l.1
   obtain ⟨bs,rb⟩:=a16.reads I hd rr l.2
   exact ⟨_,.cons ra rb⟩
end
theorem Same.seqT {K:PySem.W.Frag} {a:Addr} {xs:List V} (e:Same H H') (h:SqT K H a xs):SqT K H' a xs:=by
 rcases h with (h | ⟨o,h⟩) | h
 ·exact .inl (.inl (e _ _ h))
 ·exact .inl (.inr ⟨o,e _ _ h⟩)
 ·exact .inr h
mutual
theorem Dt.same {K:PySem.W.Frag} (e:Same H H'):∀ {v:V} {d:PyData},Dt K H v d -> Dt K H' v d
 | _,_,.non => .non
 | _,_,.bl b => .bl b
 | _,_,.int i => .int i
 | _,_,.str x => .str x
 | _,_,.lst h hd => .lst (e.seq h) (a16.same e hd)
 | _,_,.tup h hd => .tup (Same.seqT e h) (a16.same e hd)
 | _,_,.dK h => .dK (e _ _ h)
 | _,_,.dT h => .dT (e _ _ h)
theorem a16.same {K:PySem.W.Frag} (e:Same H H'):∀ {vs:List V} {ds:List PyData},a16 K H vs ds -> a16 K H' vs ds
 | _,_,.nil => .nil
 | _,_,.cons h hd => .cons (Dt.same e h) (a16.same e hd)
end
theorem a16.get {K:PySem.W.Frag}:∀ {vs:List V} {ds:List PyData} {i:Nat} {v:V},a16 K H vs ds -> vs[i]? = some v -> ∃ d,ds[i]? = some d /\ Dt K H v d
 | _,_,_,_,.nil,e => by simp at e
 | _,_,0,_,.cons h _,e => by simp at e; subst e; exact ⟨_,rfl,h⟩
 | _,_,i + 1,v,.cons _ t,e => by
  obtain ⟨d,h1,h2⟩:=a16.get (i:=i) (v:=v) t (by simpa using e)
  exact ⟨d,by simpa using h1,h2⟩
theorem a16.length {K:PySem.W.Frag}:∀ {vs:List V} {ds:List PyData},a16 K H vs ds -> vs.length = ds.length
 | _,_,.nil => rfl
 | _,_,.cons _ t => by rw [List.length_cons,List.length_cons,a16.length t]
theorem c34 (hu:X.A.units + 64 < cLine):OpR X (compareOp .Eq) (fun x y H Q => ∃ dx dy,Dt X.K H x dx /\ Dt X.K H y dy /\ dx.canLay0 = true /\ dy.canLay0 = true /\ dx.depth <= 64 /\ Q (.bl (PyData.eqv dx dy)) H):=by
 intro pins s σ H x y v u Q I rx ry h
 obtain ⟨dx,dy,hx,hy,lx,ly,hd,q⟩:=h
 obtain ⟨as,ra⟩:=Dt.reads I hx rx lx
 obtain ⟨bs,rb⟩:=Dt.reads I hy ry ly
 exact SeqAt.compareEq_reads ra rb lx ly (by have:=Nat.min_le_left dx.depth dy.depth; omega) ⟨.bl _,H,I,rfl,q⟩
theorem c4d (hu:X.A.units + 64 < cLine):OpR X (compareOp .NotEq) (fun x y H Q => ∃ dx dy,Dt X.K H x dx /\ Dt X.K H y dy /\ dx.canLay0 = true /\ dy.canLay0 = true /\ dx.depth <= 64 /\ Q (.bl (!PyData.eqv dx dy)) H):=by
 intro pins s σ H x y v u Q I rx ry h
 obtain ⟨dx,dy,hx,hy,lx,ly,hd,q⟩:=h
 obtain ⟨as,ra⟩:=Dt.reads I hx rx lx
 obtain ⟨bs,rb⟩:=Dt.reads I hy ry ly
 exact SeqAt.compareNe_reads ra rb lx ly (by have:=Nat.min_le_left dx.depth dy.depth; omega) ⟨.bl _,H,I,rfl,q⟩
end
def Its (x:Str):It:=⟨fun i _ => i < x.cps.size,fun i H v H' => H' = H /\ ∃ c,x.cps[i]? = some c /\ v = .str ⟨#[c]⟩,fun i _ => x.cps.size <= i⟩
theorem c86 {P:Program} {w:World} {K:PySem.W.Frag} {tg:Expr} (it:Addr) (x:Str) (t:Tok):∀ ty:String,(ty = "str_ascii_iterator" ∨ ty = "str_iterator") -> Turn P w K tg (Its x) [it] it (fun i h => h.IsStrIter it ty x t i):=by
 intro ty hty
 refine ⟨by simp,?_,?_,?_,?_,?_⟩
 ·intro i h st b hb
  have e:b = it:=by simpa using hb
  subst e
  obtain ⟨o,e,c,d⟩:=st
  exact ⟨o,e,fun v z => by rw [d] at z; cases z⟩
 ·intro i h h' st k
  obtain ⟨o,e,c,d⟩:=st
  exact ⟨o,k it (by simp) o e,c,d⟩
 ·intro X hP hw hK hc i pins s σ H E I hf st hg
  subst hP hw hK
  obtain ⟨f0,f1,f2,f3,f4,f5⟩:=hf it (by simp)
  have hi:i < x.cps.size:=hg
  have hx:x.cps[i]? = some x.cps[i]:=by simp [hi]
  have fin:∀ h',h'.IsStrIter it ty x t (i + 1) -> Heap.SameBut it s.heap h' -> ∃ u,some (Value.str ⟨#[x.cps[i]]⟩ s.toks) = some u /\
   wpAny (model X.prog X.w) X.A (letOwnedTupleGo tg (.ref it) u) (fun _ s2 => ∃ y H',Inv X pins σ H' s2 /\ RelV y u /\ (Its x).yld i H y H' /\ s2.heap.IsStrIter it ty x t (i + 1) /\ ∀ b ∈ [it],H' b = none) E { s with heap:=h',toks:=s.toks + 1 }:=by
   intro h' st' sb
   have I1:Inv X pins σ H { s with heap:=h',toks:=s.toks + 1 }:=I.turned (fun b o hb e => (sb.2 b hb).trans e) f0 f1 f3 f4 f5
   obtain ⟨o,e,c,d⟩:=id st'
   refine ⟨_,rfl,c9H (s:={ s with heap:=h',toks:=s.toks + 1 }) e c d ?_ ⟨.str ⟨#[x.cps[i]]⟩,H,I1,⟨_,rfl⟩,⟨rfl,_,hx,rfl⟩,st',fun b hb => (hf b hb).1⟩⟩
   rcases hty with rfl | rfl <;> decide
  rcases hty with rfl | rfl
  ·exact wpAny_pyNext_ascii_item st hx fin
  ·exact wpAny_pyNext_wide_item st hx fin
 ·intro X hP hw hK hc i pins s σ H E I hf st hg
  subst hP hw hK
  obtain ⟨f0,f1,f2,f3,f4,f5⟩:=hf it (by simp)
  have hi:x.cps.size <= i:=hg
  have hx:x.cps[i]? = none:=by simp [hi]
  have fin:∀ h',Heap.ExtBut it s.heap h' -> (none:Option Value) = none /\ Inv X pins σ H { s with heap:=h' }:=fun h' eb => ⟨rfl,I.turned (t':=s.toks) (fun b o hb e => eb b o hb e) f0 f1 f3 f4 f5⟩
  rcases hty with rfl | rfl
  ·exact wpAny_pyNext_ascii_end (I.ok.hd hc) st hx fin
  ·exact wpAny_pyNext_wide_end (I.ok.hd hc) st hx fin
 ·intro A i s Q E st h
  rcases hty with rfl | rfl
  ·exact wpAny_pyIter_striter_ascii st h
  ·exact wpAny_pyIter_striter_wide st h
section
variable {X:Cx} {tg:Expr}
def iStr (tl:TE):TI:=fun σ H R => tl σ H fun v H1 => ∃ x,v = .str x /\ R (Its x) H1
theorem d1Y {l:Expr} {tl:TE} (hl:PE X l tl):PI X tg l (iStr tl):=by
 intro pins s σ H R I h
 refine thn (hl pins s σ H _ I h) fun v s1 ⟨y,H1,I1,r1,q1⟩ => ?_
 obtain ⟨x,e,q⟩:=q1
 subst e
 obtain ⟨t,rfl⟩:=r1
 have fin:∀ ty:String,(ty = "str_ascii_iterator" ∨ ty = "str_iterator") -> PIE X pins σ tg R (.ref s1.heap.objs.size) { s1 with heap:=s1.heap.push { cls:=.type ty,data:=.fields #[.str x t,.int 0 0] } }:=fun ty hty => by
  refine ⟨s1.heap.objs.size,[s1.heap.objs.size],_,_,H1,rfl,I1.kept (t':=s1.toks) fun b o e => Heap.get?_push_of_some _ e,c86 _ x t ty hty,⟨_,Heap.get?_push_size _ rfl,rfl,rfl⟩,fun b hb => ?_,q⟩
  have e:b = s1.heap.objs.size:=by simpa using hb
  subst e
  exact I1.fpOk (Nat.le_refl _) (I1.hok.fresh (Nat.le_refl _))
 cases ha:x.cps.all (· < 128)
 ·exact wpAny_pyIter_wide ha (fin _ (.inr rfl))
 ·exact wpAny_pyIter_ascii ha (fin _ (.inl rfl))
end
end L2
namespace L2
open PySem PySem.Spec PyProof.Rows
section
variable {prog:Program} {w:World} {A:Around} {R:Result -> Shared -> Prop} {s:Shared}
theorem c3k {elt target iter:Expr} {ifs:List Expr} {scope:Scope} {pos:Pos} {it acc:Value} {env:Env} (I:Nat -> Shared -> Prop)
 (turn:∀ n s,I n s -> wpAny (model prog w) A (pyNext it) (fun r s₁ => match r with
  | none => R (.ok .next) s₁
  | some v => wpAny (model prog w) A (letOwnedTupleGo target it v) (fun _ s₁' => wpAny (model prog w) A (assign target env v) (fun _ s₂ =>
   wpAny (model prog w) A (forIn ifs true fun c r => if r = true then do let ok <- isTrue c env (eval c env); pure (ForInStep.yield ok) else pure (ForInStep.yield r)) (fun ok s₃ =>
    if ok = true then wpAny (model prog w) A (eval elt env) (fun x s₄ =>
     wpAny (model prog w) A (call (.builtin "list.append") [acc,x]) (fun _ s₅ => ∃ m,m < n /\ I m s₅) (fun _ _ => False) s₄) (fun _ _ => False) s₃
    else ∃ m,m < n /\ I m s₃) (fun _ _ => False) s₂) (fun _ _ => False) s₁') (fun _ _ => False) s₁) (fun _ _ => False) s)
 (n:Nat) (h:I n s) :
 codeAny (model prog w) A (.compLoop (.ListComp elt [⟨target,iter,ifs,0⟩] scope pos) 0 it acc env) R s:=by
 refine codeAny_loop rfl I (fun n s hI => ?_) n h
 show wpAny _ A ((compTurn (.ListComp elt [⟨target,iter,ifs,0⟩] scope pos) 0 it acc env).onRaise (fun x => do noteFrame x env; theTreesLotGoes x)) _ _ s
 refine wpAny_noted ?_
 rw [compTurn_list]
 refine wpAny_bind (wpAny_standAt (wpAny_bind (wpAny_mono (turn n s hI) (fun r s₁ h₁ => ?_) fun _ _ h' => h'.elim)))
 cases r with
 | none => exact wpAny_pure h₁
 | some v =>
  refine wpAny_bind (wpAny_mono h₁ (fun _ s₁' h₁' => ?_) fun _ _ h' => h'.elim)
  refine wpAny_bind (wpAny_mono h₁' (fun _ s₂ h₂ => wpAny_bind (wpAny_mono h₂ (fun ok s₃ h₃ => ?_) fun _ _ h' => h'.elim)) fun _ _ h' => h'.elim)
  cases ok with
  | false => exact wpAny_pure ⟨rfl,h₃⟩
  | true =>
   exact wpAny_bind (wpAny_bind (wpAny_mono h₃ (fun x s₄ h₄ => wpAny_bind (wpAny_mono h₄ (fun _ s₅ h₅ => wpAny_pure (wpAny_pure ⟨rfl,h₅⟩)) fun _ _ h' => h'.elim)) fun _ _ h' => h'.elim))
end
def b3o (X:Cx) (scope:Scope) (cl:List (Str × Addr)) (C:Addr) (N':List Str) (fp:List Addr) (pins:List (Addr × Obj)) (s:Shared) (H:Hp):Cx where
 prog:=X.prog
 w:=X.w
 K:=X.K
 mg:=X.mg
 base:=X.base
 A:=X.A
 N:=N'
 s₀:=s
 H₀:=H
 env:=compEnvC scope cl C X.env
 outer:=X.stack
 stack:=X.stack
 ex:=fp
 calm:=X.calm
 fn:=fun _ => false
 pn:=X.pn ++ pins
 xe:=fun _ _ => False
structure Caps (X:Cx) (scope:Scope) (cl:List (Str × Addr)) (cp:List (Nat × Str)):Prop where
 kind:scope.kind = .function
 nocell:∀ y ∈ scope.names,y.2 ≠ .cell
 names:∀ y ∈ scope.names,y.2 = .local -> scope.names.lookup y.1 = some .local
 clos:closureFor scope X.env = pure cl
 sub:∀ x c,cl.lookup x = some c -> X.env.cells.lookup x = some c
 has:∀ x,((relabel scope X.env).names.lookup x = some .cell ∨ (relabel scope X.env).names.lookup x = some .free) -> ∃ c,cl.lookup x = some c
 at':∀ p ∈ cp,X.N[p.1]? = some p.2 /\ (X.env.scope.names.lookup p.2 = some .cell ∨ X.env.scope.names.lookup p.2 = some .free) /\ ((relabel scope X.env).names.lookup p.2 = some .cell ∨ (relabel scope X.env).names.lookup p.2 = some .free)
def capσ (cp:List (Nat × Str)) (σ:St):St:=cp.map fun p => (σ[p.1]?).getD none
section
variable {X:Cx} {pins:List (Addr × Obj)} {σ:St} {H:Hp} {s:Shared} {scope:Scope} {cl:List (Str × Addr)} {cp:List (Nat × Str)} {fp:List Addr} {x:Str}
theorem c9h (I:Inv X pins σ H s) (c:Caps X scope cl cp) (hf:∀ b ∈ fp,FpOk X pins H b) (hfo:∀ b ∈ fp,b < s.heap.objs.size) {h':Heap} {ty:String} {tk:Nat} {m:Str -> Option Value} (hm:h'.Ns s.heap.objs.size m)
 (sb:Heap.SameBut s.heap.objs.size (s.heap.push { cls:=.type ty,data:=.dict #[] }) h') :
 Inv (b3o X scope cl s.heap.objs.size (x :: cp.map (·.2)) fp pins s H) [] (none :: capσ cp σ) H { s with heap:=h',toks:=tk }:=by
 have old:∀ b o,s.heap.get? b = some o -> h'.get? b = some o:=fun b o e => (sb.2 b (Nat.ne_of_lt (Heap.lt_size e))).trans (Heap.get?_push_of_some _ e)
 have hC:H s.heap.objs.size = none:=I.hok.fresh (Nat.le_refl _)
 refine ⟨⟨I.ok.mod,c.kind,I.ok.glob,I.ok.blt,Nat.le_refl _,fun y z k h1 h2 => I.ok.inj y z k (c.sub _ _ h1) (c.sub _ _ h2),c.has,fun y k z => (Bool.noConfusion z),I.ok.hd,I.ok.frames,.inl rfl,fun b hb => ?_,fun b o e => I.bs b o e,Nat.le_trans I.ok.bsz I.sz,fun b o e hb => ?_,fun b hb hz => ?_,I.stack,I.stkFree⟩,
  rfl,I.bare,Un.kept old,⟨m,hm,fun i y v h1 h2 h3 => ?_⟩,fun y k e => ?_,hC,fun y k e => I.freeC y k (c.sub y k e),fun p hp => ?_,I.hok.kept old,?_⟩
 ·obtain ⟨f0,f1,f2,f3,f4,f5⟩:=hf b hb
  exact ⟨Nat.ne_of_lt (hfo b hb),fun y k e => f4 y k (c.sub y k e)⟩
 ·obtain ⟨f0,f1,f2,f3,f4,f5⟩:=hf b hb
  rcases f3 with z | z
  ·exact I.ok.noex b o e z
  ·exact absurd (Nat.lt_of_lt_of_le (Heap.lt_size (I.ok.bs b o e).1) z) (Nat.lt_irrefl _)
 ·obtain ⟨f0,f1,f2,f3,f4,f5⟩:=hf b hb
  rcases List.mem_cons.mp (I.stkSub b hz) with e | e
  ·exact f1 e
  ·exact f2 e
 ·cases i with
  | zero => simp at h2
  | succ i =>
   have h1':(cp.map (·.2))[i]? = some y:=by
    have z:(x :: cp.map (·.2))[i + 1]? = some y:=h1
    rw [List.getElem?_cons_succ] at z
    exact z
   have h2':(capσ cp σ)[i]? = some (some v):=by simpa using h2
   unfold capσ at h2'
   rw [List.getElem?_map] at h1' h2'
   cases e:cp[i]? with
   | none => rw [e] at h1'; cases h1'
   | some p =>
    rw [e] at h1' h2'
    simp only [Option.map_some,Option.some.injEq] at h1' h2'
    obtain ⟨k1,k2,k3⟩:=c.at' p (List.mem_of_getElem? e)
    subst h1'
    have h2'':σ[p.1]? = some (some v):=by
     cases q:σ[p.1]? with
     | none => rw [q] at h2'; cases h2'
     | some z => rw [q] at h2'; simpa using h2'
    obtain ⟨m0,hn0,hl0⟩:=I.loc
    obtain ⟨u,r,l⟩:=hl0 p.1 p.2 v k1 h2'' (k2.elim (fun z => .inr (.inl z)) fun z => .inr (.inr z))
    refine ⟨u,r,.inr ⟨k3,?_⟩⟩
    rcases l with ⟨z,_⟩ | ⟨_,cc,e1,e2⟩
    ·have z':X.env.scope.names.lookup p.2 = some .local:=z
     rcases k2 with k | k <;> (rw [z'] at k; cases k)
    ·obtain ⟨cc',e3⟩:=c.has p.2 k3
     have e4:=c.sub _ _ e3
     rw [e1] at e4
     cases e4
     obtain ⟨o,ho,hd⟩:=e2
     exact ⟨cc,e3,o,old _ _ ho,hd⟩
 ·obtain ⟨v,o,ho,hd⟩:=I.cell y k (c.sub y k e)
  exact ⟨v,o,old _ _ ho,hd⟩
 ·have hp':p ∈ X.pn ++ pins:=by
   rcases List.mem_append.mp hp with z | z
   ·exact z
   ·cases z
  obtain ⟨e,n,ne,nf,d⟩:=I.pin p hp'
  refine ⟨old _ _ e,n,Nat.ne_of_lt (Heap.lt_size e),fun hz => ?_,d⟩
  rcases List.mem_cons.mp (I.stkSub p.1 hz) with q | q
  ·exact ne q
  ·exact nf q
 ·show (none :: capσ cp σ).length = (x :: cp.map (·.2)).length
  simp [capσ]
theorem Inv.uncomp {C:Addr} {N':List Str} {σ':St} {H':Hp} {s':Shared} {h'':Heap} (I:Inv X pins σ H s) (hC:C = s.heap.objs.size) (hf:∀ b ∈ fp,FpOk X pins H b) (J:Inv (b3o X scope cl C N' fp pins s H) [] σ' H' s') (sb:Heap.SameBut C s'.heap h'') :
 Inv X pins σ H' { s' with heap:=h'' }:=by
 have ne:∀ b o,s.heap.get? b = some o -> b ≠ C:=fun b o e => by rw [hC]; exact Nat.ne_of_lt (Heap.lt_size e)
 have B:Un (frs X.stack) fp H H' s.heap s'.heap:=J.base
 refine I.call' (s':={ s' with heap:=h'' }) (ch:=fp) (show s'.os = s.os from J.os) ⟨fun b o e n hb hx => ?_,fun b o e n hb hx => ?_,B.free,fun b o e hx => ?_,B.tups,B.frzs,B.tbls⟩ (fun b ob e => ?_) J.bare fun b hb => ?_
 ·exact (sb.2 b (ne b o e)).trans (B.keep b o e n hb hx)
 ·obtain ⟨sl,q⟩:=B.slot b o e n hb hx
  exact ⟨sl,(sb.2 b (ne b o e)).trans q⟩
 ·obtain ⟨o',q⟩:=B.there b o e hx
  exact ⟨o',(sb.2 b (ne b o e)).trans q⟩
 ·have hfree:H' C = none:=J.free
  refine (J.hok b ob e).stay (fun k w' hk q => (sb.2 k ?_).trans q) (fun _ q => q) fun _ _ q => q
  rintro rfl
  rcases hk with rfl | hk
  ·rw [hfree] at e; cases e
  ·rw [hfree] at hk; cases hk
 ·obtain ⟨f0,f1,f2,f3,f4,f5⟩:=hf b hb
  exact ⟨f3,f1,f4,f5⟩
end
def PTs (X:Cx) (ifs:List Expr) (t:TT):Prop :=
 ∀ (pins:List (Addr × Obj)) (s:Shared) (σ:St) (H:Hp) (Q:Bool -> Hp -> Prop),Inv X pins σ H s -> t σ H Q ->
  wpAny (model X.prog X.w) X.A (forIn ifs true fun c r => if r = true then do let ok <- isTrue c X.env (eval c X.env); pure (ForInStep.yield ok) else pure (ForInStep.yield r)) (TP X pins σ Q) X.xe s
def tYes:TT:=fun _ H Q => Q true H
theorem c5e {X:Cx}:PTs X [] tYes:=fun _ _ _ H _ I h => wpAny_tests_nil ⟨H,I,h⟩
def c6K (cp:List (Nat × Str)) (tt:TT) (te:TE) (σ:St) (J:It) (D:Addr) (Q:VK) (H1:Hp):Prop :=
 ∃ W:Nat -> Nat -> Hp -> Prop,(∃ m,W 0 m (upd H1 D (.lst []))) /\ ∀ i m H2,W i m H2 -> (J.stop i H2 /\ Q (.ref D) H2) ∨
  (J.go i H2 /\ ∃ (N:VK) (N':Hp -> Prop),(∀ y H5,N y H5 -> ∃ ys m',H5 D = some (.lst ys) /\ ys.length < sizeLine /\ m' < m /\ W (i + 1) m' (upd H5 D (.lst (ys ++ [y])))) /\ (∀ H4,N' H4 -> ∃ m',m' < m /\ W (i + 1) m' H4) /\
   ∀ v H3,J.yld i H2 v H3 -> tt (some v :: capσ cp σ) H3 fun b H4 => if b = true then te (some v :: capσ cp σ) H4 N else N' H4)
def d2h (cp:List (Nat × Str)) (wi:TI) (tt:TT) (te:TE):TE:=fun σ H Q => wi σ H fun J H1 => ∀ D,H1 D = none -> c6K cp tt te σ J D Q H1
section
variable {X:Cx} {scope:Scope} {cl:List (Str × Addr)} {cp:List (Nat × Str)} {x:Str} {px pos:Pos} {elt iter:Expr} {ifs:List Expr} {wi:TI} {tt:TT} {te:TE}
theorem c3Q {pins:List (Addr × Obj)} {σ:St} {H2:Hp} {s2:Shared} {it:Addr} {fp:List Addr} {tn:Nat -> Heap -> Prop} {J:It} {Q:VK} {R:Addr -> Result -> Shared -> Prop} {E:Value -> Shared -> Prop} (c:Caps X scope cl cp) (hcalm:X.calm = true) (hx:scope.names.lookup x = some .local) (hnd:(x :: cp.map (·.2)).Nodup)
 (ht:∀ C fp pins s H,PTs (b3o X scope cl C (x :: cp.map (·.2)) fp pins s H) ifs tt) (he:∀ C fp pins s H,PE (b3o X scope cl C (x :: cp.map (·.2)) fp pins s H) elt te)
 (I2:Inv X pins σ H2 s2) (T:Turn X.prog X.w X.K (.Name x px) J fp it tn) (st2:tn 0 s2.heap) (f2:∀ b ∈ fp,FpOk X pins H2 b) (q:c6K cp tt te σ J s2.heap.objs.size Q H2)
 (hR:∀ (C:Addr) (H':Hp) (s':Shared),(∃ m,s'.heap.Ns C m) -> X.s₀.heap.objs.size <= C -> H' C = none -> C ≠ X.env.locals -> (∀ x c,X.env.cells.lookup x = some c -> c ≠ C) -> (∀ p ∈ X.pn ++ pins,p.1 ≠ C) -> (∀ h'',Heap.SameBut C s'.heap h'' -> Inv X pins σ H' { s' with heap:=h'' }) -> Q (.ref s2.heap.objs.size) H' -> R C (.ok .next) s') :
 wpAny (model X.prog X.w) X.A (newList []) (fun acc s₃ => wpAny (model X.prog X.w) X.A (newFunctionEnv scope X.env.globals cl [] X.env.qual none .none (some X.env)) (fun cenv s₄ =>
  acc = .ref s2.heap.objs.size /\ codeAny (model X.prog X.w) X.A (.compStart (.ListComp elt [⟨.Name x px,iter,ifs,0⟩] scope pos) 0 (.ref it) acc { cenv with scope:=relabel scope X.env }) (R cenv.locals) s₄) E s₃) E s2:=by
 obtain ⟨W,⟨m0,w0⟩,turn⟩:=q
 refine wpAny_newObj_type ?_
 have I3:Inv X pins σ (upd H2 s2.heap.objs.size (.lst [])) { s2 with heap:=s2.heap.push { cls:=.type "list", dict:=none,data:=.seq ([]:List Value).toArray } } :=
  I2.lnew (t':=s2.toks) (ys:=[]) (its:=[]) .nil (Nat.zero_le _)
 have fpo:∀ b ∈ fp,b < s2.heap.objs.size:=fun b hb => by
  obtain ⟨o,e,_⟩:=T.obj _ _ st2 b hb
  exact Heap.lt_size e
 have f3:∀ b ∈ fp,FpOk X pins (upd H2 s2.heap.objs.size (.lst [])) b:=fun b hb => ⟨by rw [a0g (Nat.ne_of_lt (fpo b hb))]; exact (f2 b hb).1,(f2 b hb).2⟩
 generalize hs3:({ s2 with heap:=s2.heap.push { cls:=.type "list", dict:=none,data:=.seq ([]:List Value).toArray } }:Shared) = s3 at I3
 have e3:s3.heap = s2.heap.push { cls:=.type "list", dict:=none,data:=.seq ([]:List Value).toArray }:=by rw [<- hs3]
 have sz3:s2.heap.objs.size < s3.heap.objs.size:=by rw [e3,Heap.size_push]; exact Nat.lt_succ_self _
 refine wpAny_newFunctionEnv c.nocell (by intro y hy; cases hy) (fun h₁ hns sb => ?_) c.kind
 have J3:=c9h (x:=x) (tk:=s3.toks + ([]:List (Str × Value)).length) I3 c f3 (fun b hb => Nat.lt_trans (fpo b hb) sz3) hns sb
 refine ⟨rfl,?_⟩
 have st3:tn 0 h₁:=T.keep _ _ _ st2 fun b hb o e => (sb.2 b (Nat.ne_of_lt (Nat.lt_trans (fpo b hb) sz3))).trans (Heap.get?_push_of_some _ (by rw [e3]; exact Heap.get?_push_of_some _ e))
 generalize hX:b3o X scope cl s3.heap.objs.size (x :: cp.map (·.2)) fp pins s3 (upd H2 s2.heap.objs.size (.lst [])) = X' at J3
 have eA:X'.A = X.A:=by rw [<- hX]; rfl
 have eP:X'.prog = X.prog:=by rw [<- hX]; rfl
 have ew:X'.w = X.w:=by rw [<- hX]; rfl
 have eK:X'.K = X.K:=by rw [<- hX]; rfl
 have ec:X'.calm = true:=by rw [<- hX]; exact hcalm
 have ee:X'.env = compEnvC scope cl s3.heap.objs.size X.env:=by rw [<- hX]; rfl
 have ex:X'.xe = fun _ _ => False:=by rw [<- hX]; rfl
 have fpX:∀ {H':Hp},(∀ b ∈ fp,H' b = none) -> ∀ b ∈ fp,FpOk X' [] H' b:=fun hn b hb => by
  obtain ⟨f0,f1,f2',f3',f4,f5⟩:=f3 b hb
  subst hX
  refine ⟨hn b hb,Nat.ne_of_lt (Nat.lt_trans (fpo b hb) sz3),fun hz => ?_,.inl hb,fun y k e => f4 y k (c.sub y k e),fun p hp => ?_⟩
  ·rcases List.mem_cons.mp (I3.stkSub b hz) with e | e
   ·exact f1 e
   ·exact f2' e
  ·rcases List.mem_append.mp hp with z | z
   ·exact f5 p z
   ·cases z
 have pT:=ht s3.heap.objs.size fp pins s3 (upd H2 s2.heap.objs.size (.lst []))
 have pE:=he s3.heap.objs.size fp pins s3 (upd H2 s2.heap.objs.size (.lst []))
 have pG:PG X' (.Name x px) (c7l 0):=by
  subst hX
  exact a35 hnd rfl (.inl (lookup_relabel_local hx)) (.inr (lookup_relabel_local hx))
 rw [hX] at pT pE
 have loop:codeAny (model X.prog X.w) X.A (.compLoop (.ListComp elt [⟨.Name x px,iter,ifs,0⟩] scope pos) 0 (.ref it) (.ref s2.heap.objs.size) (compEnvC scope cl s3.heap.objs.size X.env)) (R s3.heap.objs.size) { s3 with heap:=h₁,toks:=s3.toks + ([]:List (Str × Value)).length }:=by
  refine c3k (fun n s' => ∃ i o H',Inv X' [] (o :: capσ cp σ) H' s' /\ tn i s'.heap /\ (∀ b ∈ fp,H' b = none) /\ W i n H') ?_ m0 ⟨0,none,_,J3,st3,fun b hb => (f3 b hb).1,w0⟩
  rintro n s5 ⟨i,o,H5,J5,st5,fr5,w5⟩
  rcases turn i n H5 w5 with ⟨stop,qn⟩ | ⟨go,N,N',hN,hN',step⟩
  ·have z:=T.done X' eP ew eK ec i [] s5 _ H5 (fun _ _ => False) J5 (fpX fr5) st5 stop
   rw [eA] at z
   refine thn z fun r s6 ⟨hr,J6⟩ => ?_
   subst hr
   subst hX
   obtain ⟨m6,hn6,_⟩:=J6.loc
   refine hR s3.heap.objs.size H5 s6 ⟨m6,hn6⟩ I3.sz J6.free (Nat.ne_of_gt I3.lt) (fun y k e z => ?_) (fun p hp z => ?_) (fun h'' sb' => I3.uncomp rfl f3 J6 sb') qn
   ·obtain ⟨v,w'⟩:=I3.cell y k e
    exact absurd w'.lt (by rw [z]; exact Nat.lt_irrefl _)
   ·exact absurd (Heap.lt_size (I3.pin p hp).1) (by rw [z]; exact Nat.lt_irrefl _)
  ·have z:=T.item X' eP ew eK ec i [] s5 _ H5 (fun _ _ => False) J5 (fpX fr5) st5 go
   rw [eA] at z
   refine thn z fun r s6 ⟨u,hr,h6⟩ => ?_
   subst hr
   refine thn h6 fun _ s7 ⟨v,H7,J7,r7,y7,st7,fr7⟩ => ?_
   have J7':=J7.pinned (fpX fr7) (T.obj _ _ st7)
   have z8:=pG _ s7 _ H7 v u (fun σ' H' => σ' = some v :: capσ cp σ /\ H' = H7) J7' r7 ⟨rfl,rfl⟩
   rw [eA,eP,ew,ee,ex] at z8
   refine thn z8 fun _ s8 ⟨σ8,H8,J8,e8,e8'⟩ => ?_
   subst e8 e8'
   have z9:=pT _ s8 _ H8 _ J8 (step v H8 y7)
   rw [eA,eP,ew,ee,ex] at z9
   refine thn z9 fun ok s9 ⟨H9,J9,q9⟩ => ?_
   have fin:∀ {H':Hp} {s':Shared},Inv X' ([] ++ c4k fp s7.heap) (some v :: capσ cp σ) H' s' -> (∃ m',m' < n /\ W (i + 1) m' H') -> ∃ m,m < n /\ ∃ i o H',Inv X' [] (o :: capσ cp σ) H' s' /\ tn i s'.heap /\ (∀ b ∈ fp,H' b = none) /\ W i m H':=fun {H' s'} K' ⟨m',hm,w'⟩ => by
    refine ⟨m',hm,i + 1,some v,H',K'.unpinned,T.keep _ _ _ st7 fun b hb ob e => (K'.pin (b,ob) (List.mem_append_right _ (List.mem_append_right _ (b0W hb e)))).1,fun b hb => ?_,w'⟩
    obtain ⟨ob,e,d⟩:=T.obj _ _ st7 b hb
    exact (K'.pin (b,ob) (List.mem_append_right _ (List.mem_append_right _ (b0W hb e)))).2.1
   cases ok with
   | false =>
    rw [if_neg Bool.false_ne_true] at q9 ⊢
    exact fin J9 (hN' _ q9)
   | true =>
    rw [if_pos rfl] at q9 ⊢
    have z10:=pE _ s9 _ H9 _ J9 q9
    rw [eA,eP,ew,ee,ex] at z10
    refine thn z10 fun u10 s10 ⟨y,H10,J10,r10,n10⟩ => ?_
    obtain ⟨ys,m',hD,hz,hm,w'⟩:=hN y H10 n10
    have z11:=a1k (X:=X') _ s10 _ H10 (.ref s2.heap.objs.size) [y] (.ref s2.heap.objs.size) [u10] (fun _ H' => H' = upd H10 s2.heap.objs.size (.lst (ys ++ [y]))) J10 rfl (.cons r10 .nil) ⟨_,ys,y,rfl,rfl,hD,hz,rfl⟩
    rw [eA,eP,ew,ex] at z11
    refine thn z11 fun u11 s11 ⟨y',H11,J11,r11,e11⟩ => ?_
    subst e11
    exact fin J11 ⟨m',hm,w'⟩
 exact codeAny_compStart_list loop (T.self _ 0 _ _ _ st3 loop)
theorem c72 (c:Caps X scope cl cp) (hcalm:X.calm = true) (hx:scope.names.lookup x = some .local) (hnd:(x :: cp.map (·.2)).Nodup) (hi:PI X (.Name x px) iter wi)
 (ht:∀ C fp pins s H,PTs (b3o X scope cl C (x :: cp.map (·.2)) fp pins s H) ifs tt) (he:∀ C fp pins s H,PE (b3o X scope cl C (x :: cp.map (·.2)) fp pins s H) elt te)
 (hs:∀ v,foldedSetIterable iter X.env v = pure v:=by intro _; rfl):PE X (.ListComp elt [⟨.Name x px,iter,ifs,0⟩] scope pos) (d2h cp wi tt te):=by
 intro pins s σ H Q I h
 rw [eval_ListComp]
 refine wpAny_comprehension_free (use:=none) (g:=⟨.Name x px,iter,ifs,0⟩) (gs:=[]) (cl:=cl) rfl hs c.clos c.kind c.names ?_
 refine thn (hi pins s σ H _ I h) fun v s1 h1 => thn h1 fun itv s2 h2 => ?_
 obtain ⟨it,fp,tn,J,H2,e,I2,T,st2,f2,q⟩:=h2
 subst e
 refine thn (c3Q (iter:=iter) (pos:=pos) (R:=fun C => compPost (model X.prog X.w) X.A X.xe none (EP X pins σ Q) (.ref s2.heap.objs.size) C) c hcalm hx hnd ht he I2 T st2 f2 (q _ (I2.hok.fresh (Nat.le_refl _))) ?_) fun acc s3 h3 => thn h3 fun cenv s4 h4 => ?_
 ·rintro C H' s' ⟨m,hn⟩ _ _ _ _ _ hI hq
  exact ⟨m,hn,fun h'' sb => ⟨.ref s2.heap.objs.size,H',hI h'' sb,rfl,hq⟩⟩
 ·obtain ⟨e,h4⟩:=h4
  subst e
  exact h4
end
end L2
namespace L2
open PySem PySem.Spec PyProof.Rows
section
variable {X:Cx} {scope:Scope} {cl:List (Str × Addr)} {cp:List (Nat × Str)} {x:Str} {px pos:Pos} {elt iter:Expr} {ifs:List Expr} {wi:TI} {tt:TT} {te:TE}
theorem c7o {i:Nat} {y:Str} {py:Pos} {pos':Pos} (hN:X.N.Nodup) (hi':X.N[i]? = some y) (hy:X.env.scope.names.lookup y = some .local) (c:Caps X scope cl cp) (hcalm:X.calm = true) (hx:scope.names.lookup x = some .local) (hnd:(x :: cp.map (·.2)).Nodup) (hi:PI X (.Name x px) iter wi)
 (ht:∀ C fp pins s H,PTs (b3o X scope cl C (x :: cp.map (·.2)) fp pins s H) ifs tt) (he:∀ C fp pins s H,PE (b3o X scope cl C (x :: cp.map (·.2)) fp pins s H) elt te)
 (hsw:swapsWith (.ListComp elt [⟨.Name x px,iter,ifs,0⟩] scope pos) (some (.Name y py)) pos'.line X.env = pure true)
 (hs:∀ v,foldedSetIterable iter X.env v = pure v:=by intro _; rfl):PS X (.Assign [.Name y py] (.ListComp elt [⟨.Name x px,iter,ifs,0⟩] scope pos) pos') (tAsg (d2h cp wi tt te) (c7l i)):=by
 intro pins s σ H D I h
 rw [exec_Assign_Name_used _ _ _ _ hsw]
 refine wpAny_bind (wpAny_standAt (wpAny_bind (wpAny_bind ?_)))
 refine wpAny_comprehension_free (use:=some (assign (.Name y py) X.env)) (g:=⟨.Name x px,iter,ifs,0⟩) (gs:=[]) (cl:=cl) rfl hs c.clos c.kind c.names ?_
 refine thn (hi pins s σ H _ I h) fun v s1 h1 => thn h1 fun itv s2 h2 => ?_
 obtain ⟨it,fp,tn,J,H2,e,I2,T,st2,f2,q⟩:=h2
 subst e
 refine thn (c3Q (iter:=iter) (pos:=pos) (R:=fun C => compPost (model X.prog X.w) X.A X.xe (some (assign (.Name y py) X.env)) (fun _ s' => wpAny (model X.prog X.w) X.A (pure ()) (fun _ s' => wpAny (model X.prog X.w) X.A (pure Flow.next) (SP X pins D) X.xe s') X.xe s') (.ref s2.heap.objs.size) C) c hcalm hx hnd ht he I2 T st2 f2 (q _ (I2.hok.fresh (Nat.le_refl _))) ?_) fun acc s3 h3 => thn h3 fun cenv s4 h4 => ?_
 ·rintro C H' s' ⟨m,hn⟩ hC0 hCn hCL hCc hCp hI hq
  have I':Inv X pins σ H' s':=hI s'.heap (Heap.SameBut.refl ..)
  refine wpAny_assign_Name (c3F (v:=.ref s2.heap.objs.size) I' hN hi' (.inl hy) rfl (fun s'' I'' hb => ?_) (.inr hy))
  obtain ⟨a,sb,ha⟩:=hb
  have hne:C ≠ a:=by
   rcases ha with z | z
   ·rw [z]; exact hCL
   ·exact fun e => hCc y a z e.symm
  refine ⟨m,hn.sameBut sb hne,fun h'' sb'' => wpAny_pure (wpAny_pure ⟨_,H',?_,hq⟩)⟩
  exact I''.turned (t':=s''.toks) (fun b o hb e => (sb''.2 b hb).trans e) hCn hCL (.inr hC0) hCc hCp
 ·obtain ⟨e,h4⟩:=h4
  subst e
  exact h4
end
theorem c6H:∀ {bs:List Bool} {us:List Value},Vals (bs.map V.bl) us -> ∀ (i:Nat) (v:Value),us[i]? = some v -> ∃ b:Bool,bs[i]? = some b /\ v = Value.bool b
 | [],_,.nil,i,v,h => by simp at h
 | b :: bs,u :: us,.cons r t,0,v,h => by
  simp at h
  subst h
  cases r
  exact ⟨b,rfl,rfl⟩
 | b :: bs,u :: us,.cons r t,i + 1,v,h => by
  obtain ⟨b',e1,e2⟩:=c6H t i v (by simpa using h)
  exact ⟨b',by simpa using e1,e2⟩
section
variable {X:Cx}
theorem c6y (hc:X.calm = true):b4w X (.builtin "all") (fun xs H Q => ∃ (a:Addr) (bs:List Bool),xs = [.ref a] /\ SqL X.K H a (bs.map V.bl) /\ Q (.bl (bs.all id)) H):=by
 intro pins s σ H xs us Q I r h
 obtain ⟨a,bs,rfl,hq,q⟩:=h
 obtain ⟨u,rfl,ru⟩:=r.one
 cases ru
 obtain ⟨its,rv,pl,hz⟩:=I.list hq
 have hl:s.heap.IsList a its.toArray:=pl.isList
 have hlt:a < s.heap.objs.size:=by obtain ⟨_,e,_⟩:=hl; exact Heap.lt_size e
 refine call_all_walk (wpAny_pyIter_list hl ?_)
 refine ⟨s.heap.objs.size,[s.heap.objs.size,a],[s.heap.objs.size],its.toArray.size,_,_,fun i => (bs[i]?).getD true,rfl,Walks.list (A:=X.A.in1) (I.ok.hd hc) _ a (Nat.ne_of_lt hlt) its.toArray,
  ⟨⟨_,Heap.get?_push_size _ rfl,rfl,rfl⟩,hl.push _⟩,fun i v s' Q' E' hP hQ => ?_,fun h' tk hk => ?_⟩
 ·obtain ⟨b,e,rfl⟩:=c6H rv i v (by simpa using hP)
  simp only [e,Option.getD_some] at hQ
  exact wpAny_truthy_bool hQ
 ·have e:((List.range its.toArray.size).all fun i => (bs[i]?).getD true) = bs.all id:=by
   have:=rv.length
   rw [List.length_map] at this
   rw [List.size_toArray,<- this]
   exact PyProof.Rows.LSm.range_all bs
  rw [e]
  refine ⟨.bl _,H,I.kept (t':=tk) fun b o e' => hk b o (fun hm => ?_) (Heap.get?_push_of_some _ e'),rfl,q⟩
  rw [List.mem_singleton.mp hm] at e'
  exact Nat.lt_irrefl _ (Heap.lt_size e')
end
structure a0C (P:Program) (w:World) (K:PySem.W.Frag) (mg:Str -> Option Value) (base:Heap) (CX:CXT) (k:Nat) (x:Str) (ps:List Str) (sp:Sp):Prop where
 ex:∃ f fd,FnOk P w K mg base CX k f fd ps sp /\ mg x = some (.ref f) /\ PySem.W.keepIn K (.ref f) = true /\ b2u K fd ps []
section
variable {X:Cx} {CX:CXT} {k:Nat} {ps:List Str} {sp:Sp} {E:XK} {x:Str} {p pos:Pos} {e:Expr} {es:List Expr} {t:TA}
theorem a0o (G:a0C X.prog X.w X.K X.mg X.base CX k x ps sp) (hr:Room k X.A) (hx:a7p CX X E) (ha:PA X (e :: es) t) (hg:Gl X x:=by rfl) (hdb:(x == ("__debug__" : Str)) = false:=by decide)
 (he:starEach (e :: es) X.env = (false,eval e X.env) :: starEach es X.env:=by rfl) (hpl:(backTo pos (starEach es X.env)).any (·.1) = false:=by rfl):PE X (.Call (.Name x p) (e :: es) [] pos) (d0T sp [] E t):=by
 obtain ⟨f,fd,F,hm,hk,hb⟩:=G.ex
 exact d01 F hr hg hm hk hb .nil hx ha hdb he hpl
end
def Nxt (D:Addr) (Pv:Nat -> List V -> Hp -> Prop) (i:Nat) (ys:List V):VK:=fun y H5 => H5 D = some (.lst ys) /\ ys.length < sizeLine /\ Pv (i + 1) (ys ++ [y]) (upd H5 D (.lst (ys ++ [y])))
theorem c5E {cp:List (Nat × Str)} {te:TE} {σ:St} {J:It} {n:Nat} {D:Addr} {Q:VK} {H1:Hp} (Pv:Nat -> List V -> Hp -> Prop) (h0:Pv 0 [] (upd H1 D (.lst [])))
 (hg:∀ i ys H,H D = some (.lst ys) -> Pv i ys H -> (i < n -> J.go i H) /\ (i = n -> J.stop i H))
 (hs:∀ i ys H v H',i < n -> H D = some (.lst ys) -> Pv i ys H -> J.yld i H v H' -> te (some v :: capσ cp σ) H' (Nxt D Pv i ys))
 (hd:∀ ys H,H D = some (.lst ys) -> Pv n ys H -> Q (.ref D) H):c6K cp tYes te σ J D Q H1:=by
 refine ⟨fun i m H => m = n - i /\ i <= n /\ ∃ ys,H D = some (.lst ys) /\ Pv i ys H,⟨n,by simp,Nat.zero_le _,[],a0c,h0⟩,?_⟩
 rintro i m H ⟨rfl,hi,ys,hD,p⟩
 by_cases hlt:i < n
 ·refine .inr ⟨(hg i ys H hD p).1 hlt,Nxt D Pv i ys,fun _ => False,fun y H5 ⟨h1,h2,h3⟩ => ⟨ys,n - (i + 1),h1,h2,by omega,rfl,hlt,_,a0c,h3⟩,fun _ z => z.elim,fun v H' y => ?_⟩
  exact hs i ys H v H' hlt hD p y
 ·have e:i = n:=by omega
  subst e
  exact .inl ⟨(hg i ys H hD p).2 rfl,hd ys H hD p⟩
theorem c6Y {cp:List (Nat × Str)} {te:TE} {σ:St} {lo:Int} {n:Nat} {D:Addr} {Q:VK} {H1:Hp} (Pv:Nat -> List V -> Hp -> Prop) (h0:Pv 0 [] (upd H1 D (.lst [])))
 (hs:∀ i ys H,i < n -> H D = some (.lst ys) -> Pv i ys H -> te (some (.int (lo + i)) :: capσ cp σ) H (Nxt D Pv i ys))
 (hd:∀ ys H,H D = some (.lst ys) -> Pv n ys H -> Q (.ref D) H):c6K cp tYes te σ (Itr lo n) D Q H1 :=
 c5E (n:=n) Pv h0 (fun i ys H _ _ => ⟨fun h => h,fun h => by subst h; exact Nat.le_refl _⟩) (fun i ys H v H' hi hD p y => by
  obtain ⟨e,rfl⟩:=y
  subst e
  exact hs i ys _ hi hD p) hd
theorem c9f {cp:List (Nat × Str)} {te:TE} {σ:St} {x:Str} {D:Addr} {Q:VK} {H1:Hp} (Pv:Nat -> List V -> Hp -> Prop) (h0:Pv 0 [] (upd H1 D (.lst [])))
 (hs:∀ i c ys H,x.cps[i]? = some c -> H D = some (.lst ys) -> Pv i ys H -> te (some (.str ⟨#[c]⟩) :: capσ cp σ) H (Nxt D Pv i ys))
 (hd:∀ ys H,H D = some (.lst ys) -> Pv x.cps.size ys H -> Q (.ref D) H):c6K cp tYes te σ (Its x) D Q H1 :=
 c5E (n:=x.cps.size) Pv h0 (fun i ys H _ _ => ⟨fun h => h,fun h => by subst h; exact Nat.le_refl _⟩) (fun i ys H v H' hi hD p y => by
  obtain ⟨e,c,hc,rfl⟩:=y
  subst e
  exact hs i c ys _ hc hD p) hd
theorem c7T {K:PySem.W.Frag} {cp:List (Nat × Str)} {te:TE} {σ:St} {a:Addr} {xs:List V} {D:Addr} {Q:VK} {H1:Hp} (Pv:Nat -> List V -> Hp -> Prop) (h0:Pv 0 [] (upd H1 D (.lst [])))
 (hl:∀ i ys H,H D = some (.lst ys) -> Pv i ys H -> SqL K H a xs)
 (hs:∀ i x ys H,xs[i]? = some x -> H D = some (.lst ys) -> Pv i ys H -> te (some x :: capσ cp σ) H (Nxt D Pv i ys))
 (hd:∀ ys H,H D = some (.lst ys) -> Pv xs.length ys H -> Q (.ref D) H):c6K cp tYes te σ (Itl K a) D Q H1 :=
 c5E (n:=xs.length) Pv h0 (fun i ys H hD p => ⟨fun h => ⟨xs,xs[i],hl i ys H hD p,by simp [h]⟩,fun h => by subst h; exact ⟨xs,hl _ ys H hD p,Nat.le_refl _⟩⟩) (fun i ys H v H' hi hD p y => by
  obtain ⟨e,y⟩:=y
  subst e
  exact hs i v ys _ (y xs (hl i ys _ hD p)) hD p) hd
end L2
namespace L2
open PySem PySem.Spec PyProof.Rows
inductive Kd where
 | non | bl | int | str | lst | tup | dct
 deriving DecidableEq
def Kd.nm:Kd -> String
 | .non => "NoneType" | .bl => "bool" | .int => "int" | .str => "str" | .lst => "list" | .tup => "tuple" | .dct => "dict"
theorem c8Y (K:PySem.W.Frag) (a:Kd):PySem.W.kitOne K (.type a.nm) (.type "int") = some (decide (a = .int ∨ a = .bl)):=by cases a <;> kernel_rfl
theorem c9r (K:PySem.W.Frag) (a:Kd):PySem.W.kitOne K (.type a.nm) (.type "bool") = some (decide (a = .bl)):=by cases a <;> kernel_rfl
theorem c77 (K:PySem.W.Frag) (a:Kd):PySem.W.kitOne K (.type a.nm) (.type "str") = some (decide (a = .str)):=by cases a <;> kernel_rfl
theorem b6U (K:PySem.W.Frag) (a:Kd):PySem.W.kitOne K (.type a.nm) (.type "list") = some (decide (a = .lst)):=by cases a <;> kernel_rfl
theorem b7I (K:PySem.W.Frag) (a:Kd):PySem.W.kitOne K (.type a.nm) (.type "tuple") = some (decide (a = .tup)):=by cases a <;> kernel_rfl
def kdD:PyData -> Kd
 | .none => .non | .bool _ => .bl | .int _ => .int | .str _ => .str | .list _ => .lst | .tuple _ => .tup | .dict _ => .dct
theorem a4z {X:Cx}:b4w X (.builtin "isinstance") (fun xs H Q => ∃ x T d k,xs = [x,.ty T] /\ Dt X.K H x d /\ PySem.W.kitOne X.K (.type (kdD d).nm) (.type T) = some k /\ Q (.bl k) H):=by
 intro pins s σ H xs us Q I r h
 obtain ⟨x,T,d,k,rfl,hd,e,q⟩:=h
 obtain ⟨u,c,rfl,r1,r2⟩:=r.two
 cases r2
 have fin:∀ tk,EP X pins σ Q (.bool k) { s with toks:=tk }:=fun tk => ⟨.bl k,H,I.tok tk,rfl,q⟩
 cases hd with
 | non => cases r1; exact PySem.W.kia_one PySem.W.kitx_none I.kIn True.intro e (fun z => nomatch z) fin
 | bl b => cases r1; exact PySem.W.kia_one PySem.W.kitx_bool I.kIn True.intro e (fun z => nomatch z) fin
 | int i => obtain ⟨t,rfl⟩:=r1; exact PySem.W.kia_one PySem.W.kitx_int I.kIn True.intro e (fun z => nomatch z) fin
 | str z => obtain ⟨t,rfl⟩:=r1; exact PySem.W.kia_one PySem.W.kitx_str I.kIn True.intro e (fun z => nomatch z) fin
 | lst hq _ =>
  cases r1
  obtain ⟨its,_,⟨o,n,eo,hc,_,_⟩,_⟩:=I.list hq
  exact PySem.W.kia_one PySem.W.kitx_list I.kIn ⟨o,eo,hc⟩ e (fun z => nomatch z) fin
 | tup hq _ =>
  cases r1
  obtain ⟨its,_,⟨o,eo,hc,_⟩,_⟩:=I.tuple hq
  exact PySem.W.kia_one PySem.W.kitx_tuple I.kIn ⟨o,eo,hc⟩ e (fun z => nomatch z) fin
 | dK ea =>
  cases r1
  obtain ⟨_,_,vs,_,o,es,ep,h1,h2,_⟩:=I.hok _ _ ea
  exact PySem.W.kia_one PySem.W.kitx_dict I.kIn ⟨o,h1,h2.1⟩ e (fun z => nomatch z) fin
 | dT ea =>
  cases r1
  obtain ⟨_,_,zs,_,o,es,ep,h1,h2,_⟩:=I.hok _ _ ea
  exact PySem.W.kia_one PySem.W.kitx_dict I.kIn ⟨o,h1,h2.1⟩ e (fun z => nomatch z) fin
theorem d0K {X:Cx} {scope:Scope} (kind:scope.kind = .function:=by rfl) (plain:∀ y ∈ scope.names,y.2 = .local ∨ y.2 = .globalImplicit:=by decide) (names:∀ y ∈ scope.names,y.2 = .local -> scope.names.lookup y.1 = some .local:=by decide +kernel):Caps X scope [] [] where
 kind:=kind
 nocell:=fun y hy z => by rcases plain y hy with h | h <;> rw [h] at z <;> cases z
 names:=names
 clos:=closureFor_none fun y hy z => by rcases plain y hy with h | h <;> rw [h] at z <;> cases z
 sub:=fun x c e => by cases e
 has:=fun x h => by
  have hm:∀ (k:NameKind),(relabel scope X.env).names.lookup x = some k -> k = .local ∨ k = .globalImplicit:=fun k e => by
   have m:=PySem.mem_of_lookup e
   unfold relabel at m
   obtain ⟨⟨n,k'⟩,hy,e'⟩:=List.mem_map.mp m
   have q:=plain _ hy
   have nf:(k' == NameKind.free) = false:=by rcases q with h | h <;> (have h':k' = _:=h; subst h'; rfl)
   simp only [nf,Bool.false_and,Bool.false_eq_true,if_false] at e'
   have:k' = k:=congrArg (·.2) e'
   rw [<- this]
   exact q
  rcases h with h | h
  ·rcases hm _ h with z | z <;> cases z
  ·rcases hm _ h with z | z <;> cases z
 at':=fun p hp => by cases hp
structure Def (K:PySem.W.Frag) (mg:Str -> Option Value) (x:Str) (st:Stmt):Prop where
 ex:∃ f fd,Fun K x x st f fd /\ mg x = some (.ref f)
section
variable {P:Program} {w:World} {K:PySem.W.Frag} {mg:Str -> Option Value} {base:Heap}
theorem a1a {h:Heap} {x:Str} {st:Stmt} {f:Addr} {oc:Value} {od an:Option Addr} {osl:Array (Option Value)} {kV doc pm cdv ct:Value} (X:K.In h) (G:h.Ns mainGlobals mg) (a:PySem.W.nsIn K mainGlobals x = some (some (.ref f)))
 (l:K.lookup f = some ⟨oc,od,.func (PySem.W.fnOf x x (a0j st) (a0i st) (a0b st) .none kV doc pm an cdv ct),osl⟩) (c:PySem.W.codeIn K cdv x = true) (k:PySem.W.keepIn K (.ref f) = true):Def K mg x st :=
 ⟨f,_,c6u l c k,PySem.W.mg_of X G a⟩
theorem Def.known {x:Str} {st:Stmt} {N ps:List Str} {k:Nat} {sp:Sp} (D:Def K mg x st) (S:a0l N ps (a0b st))
 (hb:∀ (kV doc pm:Value) (an:Option Addr) (cdv ct:Value) (us:List Value),us.length = ps.length -> bindArgs (PySem.W.fnOf x x (a0j st) (a0i st) (a0b st) .none kV doc pm an cdv ct) ⟨us,[]⟩ = pure (ps.zip us))
 (len:∀ vs H Q E,sp vs H Q E -> vs.length = ps.length)
 (hbody:∀ (f:Addr) (cdv:Value) (A:Around) (outer:List Env) (s:Shared) (H:Hp) (vs:List V) (Q:VK) (E:XK),Room k (A.deeper (envOfC x (a0b st) s.heap.objs.size f cdv)) -> sp vs H Q E ->
  ∃ t,PSs (cxOf CX0 P w K mg base N x (a0b st) f cdv A outer s H E).nox (a0i st) t /\ t { nx:=fun _ H' => Q .non H',rt:=Q } (start N vs) H):a0C P w K mg base CX0 (k + 1) x ps sp:=by
 obtain ⟨f,fd,F,hm⟩:=D.ex
 exact ⟨f,fd,F.ok S len fun cdv A outer s H vs Q E hr h => hbody f cdv A outer s H vs Q E hr h,hm,F.kp,F.binds hb⟩
end
theorem Same.new {H:Hp} {D:Addr} {o:HO} (h:H D = none):Same H (upd H D o):=fun b u e => by rw [a0g (a0h e h)]; exact e
theorem Same.on {H H2:Hp} {D:Addr} {o:HO} (e:Same H H2) (h:H D = none):Same H (upd H2 D o):=fun b u z => by rw [a0g (a0h z h)]; exact e b u z
abbrev one (c:Nat):Str:=⟨#[c]⟩
theorem c7K {α:Type} (xs:List α) (i:Int) (h0:0 <= i) (h:i < xs.length):∃ v,atI xs i = some v /\ xs[i.toNat]? = some v:=by
 have e:i = (i.toNat:Int):=by omega
 have hl:i.toNat < xs.length:=by omega
 generalize i.toNat = j at e hl
 subst e
 exact ⟨_,c75 (List.getElem?_eq_getElem hl),List.getElem?_eq_getElem hl⟩
theorem c43 {n:Nat} {i:Int} (h0:0 <= i) (h:i < n):ixN n i = some i.toNat:=by
 unfold ixN
 rw [if_pos h0,if_pos h]
theorem d2D (ns:List Int) (i:Int) (h0:0 <= i) (h:i < ns.length):atI (ns.map V.int) i = some (V.int (ns.getD i.toNat 0)):=by
 have e:i = (i.toNat:Int):=by omega
 have hl:i.toNat < ns.length:=by omega
 generalize i.toNat = j at e hl
 subst e
 refine c75 ?_
 rw [List.getElem?_map,List.getElem?_eq_getElem hl]
 simp [List.getD,hl]
theorem c9g {cs:List Nat} (h:∀ c ∈ cs,c < 128):PyData.canLay0 (.str ⟨cs.toArray⟩) = true:=by
 have:∀ c ∈ cs,c < 1114112:=fun c hc => by have:=h c hc; omega
 simp [PyData.canLay0,PyData.strOk]
 exact this
theorem sl {n:Nat} (h:n <= 1000:=by simp):n <= sizeLine:=Nat.le_of_lt (a0w h)
theorem d2m:bootBuiltins "all" = some (.builtin "all"):=by kernel_rfl
theorem a0K:bootBuiltins "isinstance" = some (.builtin "isinstance"):=by kernel_rfl
theorem d1t:bootBuiltins "abs" = some (.builtin "abs"):=by kernel_rfl
theorem b6u:bootBuiltins "len" = some (.builtin "len"):=by kernel_rfl
theorem d1P:bootBuiltins "int" = some (.type "int"):=by kernel_rfl
theorem d1p:bootBuiltins "bool" = some (.type "bool"):=by kernel_rfl
theorem d2a:bootBuiltins "str" = some (.type "str"):=by kernel_rfl
theorem b1e:bootBuiltins "list" = some (.type "list"):=by kernel_rfl
theorem c5n:bootBuiltins "tuple" = some (.type "tuple"):=by kernel_rfl
end L2
namespace L2
open PySem PySem.Spec PyProof.Rows
structure Flew (fs own:List Addr) (h h':Heap):Prop where
 keep:∀ b o,b ∉ own -> b ∉ fs -> h.get? b = some o -> h'.get? b = some o
 slot:∀ b o,b ∉ own -> h.get? b = some o -> ∃ sl,h'.get? b = some { o with slots:=sl }
end L2
namespace L2
open PySem PySem.Spec PyProof.Rows
structure ExcK (K:PySem.W.Frag) (C:Addr):Prop where
 hga:PySem.W.findIn K (.ref C) "__getattribute__" = some (some (.builtin "BaseException.__getattribute__"))
 hk:PySem.W.findIn K (.ref C) "__getattr__" = some none
 hc:∃ cd,PySem.W.clsIn K C = some cd
 ha:PySem.W.findIn K (.ref C) "__class__" = some (some (.builtin "object.__class__"))
 hn:PySem.W.specialIn K (.builtin "object.__class__") "__get__" = some (some (.builtin "getset_descriptor.__get__"))
 ht:PySem.W.takesIn K (.builtin "object.__class__") = some true
 hm:PySem.W.mroIn K C (.type "object") = some true
 hb:PySem.W.mroIn K C (.type "BaseException") = some true
end L2
namespace L2
open PySem PySem.Spec PyProof.Rows
theorem c5g:∀ {xs:List V} {us:List Value},us.length = xs.length -> (∀ (j:Nat) (x:V) (u:Value),xs[j]? = some x -> us[j]? = some u -> RelV x u) -> Vals xs us
 | [],[],_,_ => .nil
 | x :: xs,u :: us,hl,h => .cons (h 0 x u rfl rfl) (c5g (by simpa using hl) fun j y v e1 e2 => h (j + 1) y v (by simpa using e1) (by simpa using e2))
 | [],_ :: _,hl,_ => by simp at hl
 | _ :: _,[],hl,_ => by simp at hl
def a3F (lo:Int) (n:Nat):List V:=(List.range n).map fun (i:Nat) => V.int (lo + (i:Int))
theorem a4q (lo:Int) (n:Nat):(a3F lo n).length = n:=by unfold a3F; rw [List.length_map,List.length_range]
section
variable {X:Cx}
theorem c8n:b4w X (.type "range") (fun xs H Q => ∃ j:Int,xs = [.int j] /\ ∀ p,H p = none -> Q (.ref p) (upd H p (.rng 0 j))):=by
 intro pins s σ H xs us Q I r h
 obtain ⟨j,rfl,q⟩:=h
 obtain ⟨u,rfl,t,rfl⟩:=c3G r
 refine call_range_1 ⟨.ref s.heap.objs.size,_,I.laid (a:=s.heap.objs.size) (o:=.rng 0 j) (fun _ _ q => Heap.get?_push_of_some _ q) (Nat.le_refl _) ?_,rfl,q _ (I.hok.fresh (Nat.le_refl _))⟩
 exact ⟨_,_,_,Heap.get?_push_size _ rfl⟩
theorem c1x (hc:X.calm = true):b4w X (.type "list") (fun xs H Q => ∃ p lo hi,xs = [.ref p] /\ H p = some (.rng lo hi) /\ -(2 ^ 62) <= lo /\ lo < 2 ^ 62 /\ -(2 ^ 62) <= hi /\ hi < 2 ^ 62 /\ (hi - lo).toNat <= 2 ^ 24 /\ ∀ l,H l = none -> Q (.ref l) (upd H l (.lst (a3F lo (hi - lo).toNat)))):=by
 intro pins s σ H xs us Q I r h
 obtain ⟨p,lo,hi,rfl,hp,h1,h2,h3,h4,h5,q⟩:=h
 obtain ⟨u,rfl,rx⟩:=c3G r
 cases rx
 obtain ⟨t,u,v,e⟩:=I.hok p _ hp
 have hn:Builtin.Range.rangeSize lo hi 1 = ((hi - lo).toNat:Int):=by rw [rangeSize_one]; split <;> omega
 refine call_list_range (I.ok.hd hc) (show IsRange s.heap p lo hi 1 t u v from e) (small_one h1 h2 h3 h4) hn h5 fun h' tk acc c kp hD hI => ?_
 refine ⟨.ref s.heap.objs.size,_,I.laid (t':=tk) (o:=.lst (a3F lo (hi - lo).toNat)) kp (Nat.le_refl _) ?_,rfl,q _ (I.hok.fresh (Nat.le_refl _))⟩
 refine ⟨by rw [a4q,sizeLine_eq]; exact h5,acc.toList,c,c5g (by rw [a4q,Array.length_toList]; exact hI.1) fun j x u e1 e2 => ?_,by rw [Array.toArray_toList]; exact hD⟩
 rw [Array.getElem?_toList] at e2
 obtain ⟨t',rfl⟩:=hI.2 j u e2
 unfold a3F at e1
 rw [List.getElem?_map] at e1
 cases z:(List.range (hi - lo).toNat)[j]? with
 | none => rw [z] at e1; cases e1
 | some i =>
  rw [z] at e1
  have:i = j:=by
   have hl:j < (List.range (hi - lo).toNat).length:=(List.getElem?_eq_some_iff.mp z).1
   rw [List.getElem?_eq_getElem hl,List.getElem_range] at z
   exact (Option.some.inj z).symm
  subst this
  cases e1
  exact ⟨t',by rw [Int.mul_one]⟩
theorem d22 {P:Program} {w:World} {k:Key} {u:Value} (h:(a1s P w).is k u = true):RelV (kV k) u:=by
 rcases a1t h with ⟨i,t,rfl,rfl⟩ | ⟨x,t,rfl,rfl⟩
 ·exact ⟨t,rfl⟩
 ·exact ⟨t,rfl⟩
theorem KV.fst {κ:Type}:∀ {kvs:List (κ × V)} {vs:List (κ × Value)},KV kvs vs -> kvs.map (·.1) = vs.map (·.1)
 | _,_,.nil => rfl
 | _,_,.cons r t => by rw [List.map_cons,List.map_cons,r.1,KV.fst t]
end
def a0V (s:Stmt) (j:Nat):Stmt:=match s with
 | .ClassDef _ _ _ body _ _ _ _ _ _ _ => body.getD j (.Pass ⟨0,0,0,0⟩)
 | _ => .Pass ⟨0,0,0,0⟩
theorem d04:bootBuiltins "range" = some (.type "range"):=by kernel_rfl
structure a0k (P:Program) (w:World) (K:PySem.W.Frag) (mg:Str -> Option Value) (base:Heap) (CX:CXT) (k:Nat) (C:Addr) (m:Str) (ps:List Str) (sp:Sp):Prop where
 ex:∃ f fd,FnOk P w K mg base CX k f fd ps sp /\ Meth K C m f /\ b2u K fd ps []
structure a19 (P:Program) (w:World) (K:PySem.W.Frag) (mg:Str -> Option Value) (base:Heap) (CX:CXT) (k:Nat) (C:Addr) (ps:List Str) (sp:Sp):Prop where
 ex:∃ f fd,FnOk P w K mg base CX k f fd ps sp /\ Mk K C f /\ b2u K fd ps []
structure Mth (K:PySem.W.Frag) (C:Addr) (m qual:Str) (st:Stmt):Prop where
 ex:∃ f fd,Fun K m qual st f fd /\ PySem.W.findIn K (.ref C) m = some (some (.ref f)) /\ PySem.W.isFn K (.ref f) = true
section
variable {P:Program} {w:World} {K:PySem.W.Frag} {mg:Str -> Option Value} {base:Heap} {C:Addr}
theorem a0x {m qual:Str} {st:Stmt} {f:Addr} {oc:Value} {od an:Option Addr} {osl:Array (Option Value)} {kV doc pm cdv ct:Value} (a:PySem.W.findIn K (.ref C) m = some (some (.ref f))) (i:PySem.W.isFn K (.ref f) = true)
 (l:K.lookup f = some ⟨oc,od,.func (PySem.W.fnOf m qual (a0j st) (a0i st) (a0b st) .none kV doc pm an cdv ct),osl⟩) (c:PySem.W.codeIn K cdv qual = true) (k:PySem.W.keepIn K (.ref f) = true):Mth K C m qual st :=
 ⟨f,_,c6u l c k,a,i⟩
theorem Mth.known {m qual:Str} {st:Stmt} {N ps:List Str} {k:Nat} {sp:Sp} (D:Mth K C m qual st) (S:a0l N ps (a0b st))
 (hb:∀ (kV doc pm:Value) (an:Option Addr) (cdv ct:Value) (us:List Value),us.length = ps.length -> bindArgs (PySem.W.fnOf m qual (a0j st) (a0i st) (a0b st) .none kV doc pm an cdv ct) ⟨us,[]⟩ = pure (ps.zip us))
 (len:∀ vs H Q E,sp vs H Q E -> vs.length = ps.length)
 (hbody:∀ (f:Addr) (cdv:Value) (A:Around) (outer:List Env) (s:Shared) (H:Hp) (vs:List V) (Q:VK) (E:XK),Room k (A.deeper (envOfC qual (a0b st) s.heap.objs.size f cdv)) -> sp vs H Q E ->
  ∃ t,PSs (cxOf CX0 P w K mg base N qual (a0b st) f cdv A outer s H E).nox (a0i st) t /\ t { nx:=fun _ H' => Q .non H',rt:=Q } (start N vs) H):a0k P w K mg base CX0 (k + 1) C m ps sp:=by
 obtain ⟨f,fd,F,ha,hi⟩:=D.ex
 exact ⟨f,fd,F.ok S len fun cdv A outer s H vs Q E hr h => hbody f cdv A outer s H vs Q E hr h,⟨ha,hi,F.kp⟩,F.binds hb⟩
theorem a0k.init {CX:CXT} {k:Nat} {ps:List Str} {sp:Sp} (G:a0k P w K mg base CX k C "__init__" ps sp) (mk:PySem.W.makesIn K C = true) (kc:PySem.W.keepIn K (.ref C) = true):a19 P w K mg base CX k C ps sp:=by
 obtain ⟨f,fd,F,hm,hb⟩:=G.ex
 exact ⟨f,fd,F,⟨mk,hm.at_,hm.fn,kc⟩,hb⟩
end
section
variable {X:Cx} {CX:CXT} {k:Nat} {C:Addr} {ps:List Str} {sp:Sp} {E:XK} {x m:Str} {p pos apos:Pos} {e o:Expr} {es:List Expr} {t:TA} {ta:TE}
theorem a0s {pl:Sem Bool} (he:PE X o ta) (c:Cls X.K C) (G:a0k X.prog X.w X.K X.mg X.base CX k C m ps sp) (hr:Room k X.A) (hx:a7p CX X E) (ha:PA X (e :: es) t)
 (hst:starEach (e :: es) X.env = (false,eval e X.env) :: starEach es X.env:=by rfl) (hpl:(backTo pos (starEach es X.env)).any (·.1) = false:=by rfl)
 (ht:eval (.Call (.Attribute o m apos) (e :: es) [] pos) X.env = (do
  let ov <- eval o X.env
  standAt apos.atName
  let (f,first) <- holding [ov] (getMethod ov m pl)
  callWith pos f first (backTo pos (starEach (e :: es) X.env)) (backToKw pos (keywordEach [] X.env))):=by rfl) :
 PE X (.Call (.Attribute o m apos) (e :: es) [] pos) (c9F C m sp [] E ta t):=by
 obtain ⟨f,fd,F,hm,hb⟩:=G.ex
 exact c96 (pl:=pl) he c hm F hr hb .nil hx ha hst hpl ht
theorem a4R {pl:Sem Bool} (he:PE X o ta) (c:Cls X.K C) (G:a0k X.prog X.w X.K X.mg X.base CX k C m ps sp) (hr:Room k X.A) (hx:a7p CX X E)
 (ht:eval (.Call (.Attribute o m apos) [] [] pos) X.env = (do
  let ov <- eval o X.env
  standAt apos.atName
  let (f,first) <- holding [ov] (getMethod ov m pl)
  callWith pos f first (backTo pos (starEach [] X.env)) (backToKw pos (keywordEach [] X.env))):=by rfl) :
 PE X (.Call (.Attribute o m apos) [] [] pos) (c9F C m sp [] E ta tNil):=by
 obtain ⟨f,fd,F,hm,hb⟩:=G.ex
 exact c82 (pl:=pl) he c hm F hr hb .nil hx ht
theorem a4v (G:a19 X.prog X.w X.K X.mg X.base CX k C ps sp) (hr:Room (k + 1) X.A) (hm:X.mg x = some (.ref C)) (hx:a7p CX X E)
 (ha:PA X (e :: es) t) (hg:Gl X x:=by rfl) (hdb:(x == ("__debug__" : Str)) = false:=by decide) (he:starEach (e :: es) X.env = (false,eval e X.env) :: starEach es X.env:=by rfl) (hpl:(backTo pos (starEach es X.env)).any (·.1) = false:=by rfl) :
 PE X (.Call (.Name x p) (e :: es) [] pos) (c9a C sp [] E t):=by
 obtain ⟨f,fd,F,M,hb⟩:=G.ex
 exact d0C M F hr hg hm hb .nil hx ha hdb he hpl
end
end L2
namespace L2
open PySem PySem.Spec PyProof.Rows
def a3x (cells:List (Str × Addr)):List (Str × NameKind) -> List (Str × Addr) -> List (Str × Addr)
 | [],acc => acc
 | (n,k) :: r,acc => a3x cells r (if k == .free then (n,(cells.lookup n).getD 0) :: acc else acc)
theorem a6z {env:Env}:∀ {names:List (Str × NameKind)} {acc:List (Str × Addr)},(∀ y ∈ names,y.2 = .free -> ∃ c,env.cells.lookup y.1 = some c) ->
 (forIn names acc fun (x:Str × NameKind) (cs:List (Str × Addr)) => (do
  let (name,kind):=x
  if kind == NameKind.free then (do let a <- cellOf env name; pure (ForInStep.yield ((name,a) :: cs))) else pure (ForInStep.yield cs):Sem (ForInStep (List (Str × Addr))))) = pure (a3x env.cells names acc)
 | [],acc,_ => rfl
 | (n,k) :: r,acc,h => by
  rw [List.forIn_cons]
  by_cases hk:(k == NameKind.free) = true
  ·obtain ⟨c,hc⟩:=h (n,k) List.mem_cons_self (by simpa using hk)
   have e:cellOf env n = pure c:=by unfold cellOf; rw [show env.cells.lookup n = some c from hc]
   have ih:=a6z (env:=env) (names:=r) (acc:=(n,c) :: acc) fun y hy => h y (List.mem_cons_of_mem _ hy)
   show (do let r <- (if k == NameKind.free then (do let a <- cellOf env n; pure (ForInStep.yield ((n,a) :: acc))) else pure (ForInStep.yield acc):Sem (ForInStep (List (Str × Addr)))); _) = _
   rw [if_pos hk,e,pure_bind,pure_bind]
   refine Eq.trans ih ?_
   show _ = pure (a3x env.cells r (if (k == NameKind.free) = true then (n,(env.cells.lookup n).getD 0) :: acc else acc))
   rw [if_pos hk,show env.cells.lookup n = some c from hc]
   rfl
  ·have ih:=a6z (env:=env) (names:=r) (acc:=acc) fun y hy => h y (List.mem_cons_of_mem _ hy)
   show (do let r <- (if k == NameKind.free then (do let a <- cellOf env n; pure (ForInStep.yield ((n,a) :: acc))) else pure (ForInStep.yield acc):Sem (ForInStep (List (Str × Addr)))); _) = _
   rw [if_neg hk,pure_bind]
   refine Eq.trans ih ?_
   show _ = pure (a3x env.cells r (if (k == NameKind.free) = true then (n,(env.cells.lookup n).getD 0) :: acc else acc))
   rw [if_neg hk]
theorem b5j {cells:List (Str × Addr)}:∀ {names:List (Str × NameKind)} {acc:List (Str × Addr)},(∀ y ∈ names,y.2 = .free -> ∃ c,cells.lookup y.1 = some c) -> (∀ x c,acc.lookup x = some c -> cells.lookup x = some c) ->
 ∀ x c,(a3x cells names acc).lookup x = some c -> cells.lookup x = some c
 | [],_,_,h => h
 | (n,k) :: r,acc,hf,h => by
  refine b5j (names:=r) (fun y hy => hf y (List.mem_cons_of_mem _ hy)) ?_
  intro x c e
  by_cases hk:(k == NameKind.free) = true
  ·obtain ⟨c',hc⟩:=hf (n,k) List.mem_cons_self (by simpa using hk)
   have hc':cells.lookup n = some c':=hc
   rw [if_pos hk,hc',List.lookup_cons] at e
   by_cases hx:(x == n) = true
   ·rw [hx] at e
    cases e
    have:x = n:=by simpa using hx
    rw [this]
    exact hc'
   ·rw [show (x == n) = false by simpa using hx] at e
    exact h x c e
  ·rw [if_neg hk] at e
   exact h x c e
theorem b7b {cells:List (Str × Addr)}:∀ {names:List (Str × NameKind)} {acc:List (Str × Addr)} {x:Str},(∃ c,acc.lookup x = some c) -> ∃ c,(a3x cells names acc).lookup x = some c
 | [],_,_,h => h
 | (n,k) :: r,acc,x,⟨c,h⟩ => by
  refine b7b (names:=r) ?_
  by_cases hk:(k == NameKind.free) = true
  ·rw [if_pos hk,List.lookup_cons]
   cases hx:x == n with
   | true => exact ⟨_,rfl⟩
   | false => exact ⟨c,h⟩
  ·rw [if_neg hk]
   exact ⟨c,h⟩
theorem a7R {cells:List (Str × Addr)}:∀ {names:List (Str × NameKind)} {acc:List (Str × Addr)} {x:Str},(x,NameKind.free) ∈ names -> ∃ c,(a3x cells names acc).lookup x = some c
 | (n,k) :: r,acc,x,h => by
  rcases List.mem_cons.mp h with e | h
  ·cases e
   refine b7b (names:=r) ⟨(cells.lookup n).getD 0,?_⟩
   rw [if_pos (by rfl),List.lookup_cons,beq_self_eq_true]
  ·exact a7R (names:=r) h
theorem b5J {env:Env}:∀ {names:List (Str × NameKind)} {x:Str},names.lookup x = some .free ->
 (names.map fun (n,k) => if (k == NameKind.free && env.scope.kind == .function && env.kindOf n == some .cell) then (n,NameKind.cell) else (n,k)).lookup x = some .cell ∨
 (names.map fun (n,k) => if (k == NameKind.free && env.scope.kind == .function && env.kindOf n == some .cell) then (n,NameKind.cell) else (n,k)).lookup x = some .free
 | [],_,h => by simp at h
 | (n,k) :: r,x,h => by
  have ih := @b5J env r x
  rw [List.lookup_cons] at h
  rw [List.map_cons]
  cases hx:x == n with
  | true =>
   rw [hx] at h
   cases h
   by_cases hc:(NameKind.free == NameKind.free && env.scope.kind == .function && env.kindOf n == some .cell) = true
   ·simp only [hc,if_true,List.lookup_cons,hx]
    exact .inl trivial
   ·simp only [hc,if_false,List.lookup_cons,hx,Bool.false_eq_true]
    exact .inr trivial
  | false =>
   rw [hx] at h
   by_cases hc:(k == NameKind.free && env.scope.kind == .function && env.kindOf n == some .cell) = true
   ·simp only [hc,if_true,List.lookup_cons,hx]
    exact ih h
   ·simp only [hc,if_false,List.lookup_cons,hx,Bool.false_eq_true]
    exact ih h
theorem c5d {X:Cx} {scope:Scope} {cp:List (Nat × Str)} {sc:Scope} {N:List Str} (hcell:∀ x,X.env.scope.names.lookup x = some .cell -> ∃ c,X.env.cells.lookup x = some c) (hs:X.env.scope = sc:=by rfl) (hN:X.N = N:=by rfl)
 (kind:scope.kind = .function:=by rfl) (plain:∀ y ∈ scope.names,y.2 ≠ .cell:=by decide) (names:∀ y ∈ scope.names,y.2 = .local -> scope.names.lookup y.1 = some .local:=by decide +kernel)
 (free:∀ y ∈ scope.names,y.2 = .free -> sc.names.lookup y.1 = some .cell:=by decide +kernel) (at':∀ p ∈ cp,N[p.1]? = some p.2 /\ sc.names.lookup p.2 = some .cell /\ scope.names.lookup p.2 = some .free:=by decide +kernel) :
 Caps X scope (a3x X.env.cells scope.names []) cp:=by
 subst hs hN
 have hf:∀ y ∈ scope.names,y.2 = .free -> ∃ c,X.env.cells.lookup y.1 = some c:=fun y hy e => hcell _ (free y hy e)
 refine ⟨kind,plain,names,?_,b5j hf (fun x c e => by cases e),fun x h => ?_,fun p hp => ?_⟩
 ·show closureFor scope X.env = _
  simp only [closureFor]
  have:=a6z (env:=X.env) (acc:=[]) hf
  exact (congrArg (fun z => z >>= fun r => pure r) this).trans (pure_bind _ _)
 ·have hm:∀ k,(relabel scope X.env).names.lookup x = some k -> (k = .cell ∨ k = .free) -> (x,NameKind.free) ∈ scope.names:=fun k e hk => by
   have m:=PySem.mem_of_lookup e
   unfold relabel at m
   obtain ⟨⟨n,k'⟩,hy,e'⟩:=List.mem_map.mp m
   have nc:=plain _ hy
   by_cases hc:(k' == NameKind.free && X.env.scope.kind == .function && X.env.kindOf n == some .cell) = true
   ·simp only [hc,if_true] at e'
    have e1:n = x:=congrArg (·.1) e'
    have:k' = .free:=by simp only [Bool.and_eq_true,beq_iff_eq] at hc; exact hc.1.1
    subst e1 this
    exact hy
   ·simp only [hc,if_false,Bool.false_eq_true] at e'
    have e1:n = x:=congrArg (·.1) e'
    have e2:k' = k:=congrArg (·.2) e'
    subst e1 e2
    rcases hk with z | z
    ·exact absurd z nc
    ·subst z; exact hy
  rcases h with h | h
  ·exact a7R (hm _ h (.inl rfl))
  ·exact a7R (hm _ h (.inr rfl))
 ·obtain ⟨h1,h2,h3⟩:=at' p hp
  exact ⟨h1,.inl h2,b5J h3⟩
end L2
namespace L2
open PySem PySem.Spec PyProof.Rows
def NoF (X:Cx) (d:Addr):Prop:=(∀ xs,X.H₀ d ≠ some (.tup xs)) /\ (∀ o u,X.H₀ d ≠ some (.frz o u)) /\ ∀ ps,X.H₀ d ≠ some (.tbl ps)
section
variable {X:Cx} {pins:List (Addr × Obj)} {σ:St} {H:Hp} {s:Shared} {d:Addr}
theorem Inv.retag {u u':HO} (I:Inv X pins σ H s) (e:H d = some u) (nf:NoF X d) (no:∀ x,u ≠ .own x) (nt:∀ xs,u ≠ .tup xs) (new:a17 X.prog X.w (upd H d u') s.heap d u'):Inv X pins σ (upd H d u') s:=by
 have hn:∀ b,H b = none -> upd H d u' b = none:=fun b n => by rw [a0g (a0h e n).symm]; exact n
 refine ⟨I.ok,I.os,I.bare,⟨I.base.keep,I.base.slot,fun b o q n hx => hn b (I.base.free b o q n hx),I.base.there,fun b xs q => ?_,fun b o v q => ?_,fun b ps q => ?_⟩,I.loc,I.cell,hn _ I.free,fun x c q => hn _ (I.freeC x c q),fun p hp => ?_,fun b v q => ?_,I.len⟩
 ·have:b ≠ d:=fun z => nf.1 xs (z ▸ q)
  rw [a0g this]
  exact I.base.tups b xs q
 ·have:b ≠ d:=fun z => nf.2.1 o v (z ▸ q)
  rw [a0g this]
  exact I.base.frzs b o v q
 ·have:b ≠ d:=fun z => nf.2.2 ps (z ▸ q)
  rw [a0g this]
  exact I.base.tbls b ps q
 ·obtain ⟨a1,a2,a3,a4,a5⟩:=I.pin p hp
  exact ⟨a1,hn _ a2,a3,a4,a5⟩
 ·by_cases hb:b = d
  ·subst hb
   rw [a0c] at q
   cases q
   exact new
  ·rw [a0g hb] at q
   refine (I.hok b v q).stay (fun _ _ _ r => r) (fun c r => ?_) fun c xs r => ?_
   ·rw [a0g (b7C r e (fun z => no _ z.symm))]
    exact r
   ·rw [a0g (b7C r e (fun z => nt _ z.symm))]
    exact r
theorem Inv.nof {u:HO} (I:Inv X pins σ H s) (e:H d = some u) (h1:∀ xs,u ≠ .tup xs) (h2:∀ o v,u ≠ .frz o v) (h3:∀ ps,u ≠ .tbl ps):NoF X d:=by
 refine ⟨fun xs q => ?_,fun o v q => ?_,fun ps q => ?_⟩
 ·have:=(I.base.tups d xs q).symm.trans e
  exact h1 xs (Option.some.inj this).symm
 ·have:=(I.base.frzs d o v q).symm.trans e
  exact h2 o v (Option.some.inj this).symm
 ·obtain ⟨m,q'⟩:=I.base.tbls d ps q
  have:=q'.symm.trans e
  exact h3 _ (Option.some.inj this).symm
theorem Inv.freeze {kvs:List (Key × V)} (I:Inv X pins σ H s) (e:H d = some (.dK kvs)):NoF X d /\ ∃ o,s.heap.get? d = some o /\ Inv X pins σ (upd H d (.frz o (.dK kvs))) s:=by
 have nf:NoF X d:=I.nof e (by intro _ z; cases z) (by intro _ _ z; cases z) (by intro _ z; cases z)
 have ok:a17 X.prog X.w H s.heap d (.dK kvs):=I.hok d _ e
 obtain ⟨z,hs,vs,rel,o,es,ep,ho,r⟩:=id ok
 exact ⟨nf,o,ho,I.retag e nf (by intro _ z; cases z) (by intro _ z; cases z) ⟨ho,z,hs,vs,rel,o,es,ep,ho,r⟩⟩
theorem Inv.thaw {o:Obj} {kvs:List (Key × V)} (I:Inv X pins σ H s) (nf:NoF X d) (e:H d = some (.frz o (.dK kvs))):Inv X pins σ (upd H d (.dK kvs)) s:=by
 obtain ⟨_,q⟩:=(show a17 X.prog X.w H s.heap d (.frz o (.dK kvs)) from I.hok d _ e)
 exact I.retag e nf (by intro _ z; cases z) (by intro _ z; cases z) q
end
def Itd (a:Addr) (o:Obj) (kvs:List (Key × V)):It :=
 ⟨fun i H => H a = some (.frz o (.dK kvs)) /\ i < kvs.length,fun i H x H' => H' = H /\ ∃ p,kvs[i]? = some p /\ x = kV p.1,fun i H => H a = some (.frz o (.dK kvs)) /\ kvs.length <= i⟩
theorem c9N {P:Program} {w:World} {H:Hp} {h:Heap} {a:Addr} {o:Obj} {kvs:List (Key × V)} {es:Array DictEntry} {ep:Nat} (ok:HOk P w H h) (e:H a = some (.frz o (.dK kvs))) (ho:o.data = .dict es ep) :
 (a == sysModules) = false /\ ∃ vs,KV kvs vs /\ h.DictAt (a1s P w) a vs ep:=by
 obtain ⟨e1,z,hs,vs,rel,o',es',ep',ho',r1,r2,r3⟩:=(show a17 P w H h a (.frz o (.dK kvs)) from ok a _ e)
 rw [e1] at ho'
 cases ho'
 have:=r2.symm.trans ho
 cases this
 exact ⟨hs,vs,rel,o,_,e1,r1,r2,r3⟩
theorem c8W {P:Program} {w:World} {K:PySem.W.Frag} {tg:Expr} (a it:Addr) (o:Obj) (kvs:List (Key × V)) {es:Array DictEntry} {ep:Nat} (hod:o.data = .dict es ep):Turn P w K tg (Itd a o kvs) [it] it (fun i h => h.IsKeyIter it a i kvs.length ep) where
 mem:=by simp
 obj:=fun i h st b hb => by
  have e:b = it:=by simpa using hb
  subst e
  obtain ⟨o,e,c,d⟩:=st
  exact ⟨o,e,fun v z => by rw [d] at z; cases z⟩
 keep:=fun i h h' st k => st.at fun o e => k it (by simp) o e
 item:=by
  intro X hP hw hK hc i pins s σ H E I hf st hg
  subst hP hw hK
  obtain ⟨ha,hi⟩:=hg
  obtain ⟨_,vs,rel,dat⟩:=c9N I.hok ha hod
  have hl:kvs.length = vs.length:=Paired.length rel
  obtain ⟨⟨k,x⟩,hx⟩:∃ p,vs[i]? = some p:=⟨vs[i]'(by omega),by simp⟩
  obtain ⟨f0,f1,f2,f3,f4,f5⟩:=hf it (by simp)
  rw [hl] at st
  refine wpAny_pyNext_dict_item st dat hx fun u h' hu st' sb => ?_
  have I1:Inv X pins σ H { s with heap:=h' }:=I.turned (t':=s.toks) (fun b o hb e => sb.extBut b o hb e) f0 f1 f3 f4 f5
  obtain ⟨o1,e1,c1,d1⟩:=id st'
  refine ⟨u,rfl,c9H (s:={ s with heap:=h' }) e1 c1 d1 (by decide) ⟨kV k,H,I1,d22 hu,⟨rfl,?_⟩,by rw [hl]; exact st',fun b hb => (hf b hb).1⟩⟩
  refine ⟨kvs[i],by simp [hi],?_⟩
  have e5:(kvs.map (·.1))[i]? = some k:=by rw [KV.fst rel,List.getElem?_map,hx]; rfl
  rw [List.getElem?_map,List.getElem?_eq_getElem hi] at e5
  rw [<- Option.some.inj e5]
 done:=by
  intro X hP hw hK hc i pins s σ H E I hf st hg
  subst hP hw hK
  obtain ⟨ha,hi⟩:=hg
  obtain ⟨_,vs,rel,dat⟩:=c9N I.hok ha hod
  have hl:kvs.length = vs.length:=Paired.length rel
  obtain ⟨f0,f1,f2,f3,f4,f5⟩:=hf it (by simp)
  rw [hl] at st
  exact wpAny_pyNext_dict_end (I.ok.hd hc) st dat (by simp; omega) fun h' eb => ⟨rfl,I.turned (t':=s.toks) (fun b o hb e => eb b o hb e) f0 f1 f3 f4 f5⟩
 self:=fun _ _ _ _ _ st h => wpAny_pyIter_keyiter st h
section
variable {X:Cx} {tg:Expr}
def d1J (X:Cx) (tl:TE):TI:=fun σ H R => tl σ H fun x H1 => ∃ a kvs,x = .ref a /\ H1 a = some (.dK kvs) /\ (NoF X a -> ∀ o,R (Itd a o kvs) (upd H1 a (.frz o (.dK kvs))))
theorem d0N {l:Expr} {tl:TE} (hl:PE X l tl):PI X tg l (d1J X tl):=by
 intro pins s σ H R I h
 refine thn (hl pins s σ H _ I h) fun v s1 ⟨x,H1,I1,r1,q1⟩ => ?_
 obtain ⟨a,kvs,e,ha,q⟩:=q1
 subst e
 cases r1
 obtain ⟨nf,o,ho,I2⟩:=I1.freeze ha
 obtain ⟨z,hs,vs,rel,o',es,ep,ho',r1,r2,r3⟩:=(show a17 X.prog X.w H1 s1.heap a (.dK kvs) from I1.hok a _ ha)
 rw [ho] at ho'
 cases ho'
 have hl:kvs.length = vs.length:=Paired.length rel
 have dat:s1.heap.DictAt (a1s X.prog X.w) a vs ep:=⟨o,es,ho,r1,r2,r3⟩
 refine wpAny_pyIter_dict hs dat ?_
 refine ⟨s1.heap.objs.size,[s1.heap.objs.size],_,_,_,rfl,I2.kept (t':=s1.toks) fun b o e => Heap.get?_push_of_some _ e,c8W a _ o kvs r2,⟨_,Heap.get?_push_size _ rfl,rfl,by rw [hl]; rfl⟩,fun b hb => ?_,q nf o⟩
 have e:b = s1.heap.objs.size:=by simpa using hb
 subst e
 exact I2.fpOk (Nat.le_refl _) (I2.hok.fresh (Nat.le_refl _))
def d1C (X:Cx) (D:Ends):Ends where
 nx:=fun σ H => ∃ a o kvs,NoF X a /\ H a = some (.frz o (.dK kvs)) /\ D.nx σ (upd H a (.dK kvs))
 rt:=fun v H => ∃ a o kvs,NoF X a /\ H a = some (.frz o (.dK kvs)) /\ D.rt v (upd H a (.dK kvs))
 bk:=D.bk
 ct:=D.ct
def d2F (X:Cx) (tl:TE) (g:TG) (tb:TS):TS:=fun D σ H => tFor (d1J X tl) g tb (d1C X D) σ H
theorem c5f {iter:Expr} {body:List Stmt} {tl:TE} {g:TG} {tb:TS} {pos:Pos} (hp:PassesOwn (model X.prog X.w) X.A X.env X.xe) (hc:X.calm = true) (hl:PE X iter tl) (hg:PG X tg g) (hb:PSs X body tb)
 (hs:∀ x,foldedSetIterable iter X.env x = pure x:=by intro _; rfl):PS X (.For tg iter body [] pos) (d2F X tl g tb):=by
 intro pins s σ H D I h
 refine thn (b1m hp hc (d0N hl) hg hb hs pins s σ H (d1C X D) I h) fun f s' q => ?_
 cases f with
 | next => obtain ⟨σ',H',I',a,o,kvs,nf,e,q⟩:=q; exact ⟨σ',_,I'.thaw nf e,q⟩
 | cont => exact q
 | brk => exact q
 | ret v => obtain ⟨x,σ',H',I',r,a,o,kvs,nf,e,q⟩:=q; exact ⟨x,σ',_,I'.thaw nf e,r,q⟩
end
theorem b94 {a:Addr} {ob:Obj} {kvs:List (Key × V)} {g:TG} {tb:TS} {D:Ends} {σ:St} {H:Hp} (Pv:Nat -> St -> Hp -> Prop) (h0:Pv 0 σ H) (hl:∀ i σ H,i <= kvs.length -> Pv i σ H -> H a = some (.frz ob (.dK kvs)))
 (hs:∀ i p σ H,kvs[i]? = some p -> Pv i σ H -> g (kV p.1) σ H fun σ2 H2 => tb { D with nx:=Pv (i + 1),ct:=Pv (i + 1),bk:=D.nx } σ2 H2) (hd:∀ σ H,Pv kvs.length σ H -> D.nx σ H) :
 ∃ W:Nat -> Nat -> St -> Hp -> Prop,(∃ m,W 0 m σ H) /\ ∀ i m σ H,W i m σ H ->
  ((Itd a ob kvs).stop i H /\ D.nx σ H) ∨ ((Itd a ob kvs).go i H /\ ∃ N:St -> Hp -> Prop,(∀ σ' H',N σ' H' -> ∃ m',m' < m /\ W (i + 1) m' σ' H') /\ ∀ x H',(Itd a ob kvs).yld i H x H' -> g x σ H' fun σ2 H2 => tb { D with nx:=N,ct:=N,bk:=D.nx } σ2 H2):=by
 refine ⟨fun i m σ H => m = kvs.length - i /\ i <= kvs.length /\ Pv i σ H,⟨kvs.length,by simp,Nat.zero_le _,h0⟩,?_⟩
 rintro i m σ H ⟨rfl,hi,p⟩
 have q:=hl i σ H hi p
 by_cases hlt:i < kvs.length
 ·refine .inr ⟨⟨q,hlt⟩,Pv (i + 1),fun σ' H' p' => ⟨kvs.length - (i + 1),by omega,rfl,hlt,p'⟩,fun x H' y => ?_⟩
  obtain ⟨e,pr,hp,ex⟩:=y
  subst e ex
  exact hs i pr σ _ hp p
 ·have e:i = kvs.length:=by omega
  subst e
  exact .inl ⟨⟨q,Nat.le_refl _⟩,hd σ H p⟩
theorem Same.thaw {H H2:Hp} {d:Addr} {o:Obj} {u:HO} (e:H d = some u) (s:Same (upd H d (.frz o u)) H2):Same H (upd H2 d u):=fun b v q => by
 by_cases hb:b = d
 ·subst hb
  rw [a0c]
  exact e.symm.trans q
 ·rw [a0g hb]
  exact s b v (by rw [a0g hb]; exact q)
end L2
namespace L2
open PySem PySem.Spec PyProof.Rows
section
variable {X:Cx} {e st:Expr} {te:TE} {ts:TO} {p2 pos:Pos}
theorem a0y {st:Stmt}:PS X st (fun _ _ _ => False):=fun _ _ _ _ _ _ h => h.elim
end
end L2
namespace L2
open PySem PySem.Spec PyProof.Rows
structure b2L (mg:Str -> Option Value) (base:Heap) (c P:Addr):Prop where
 hd:PySem.W.CodeHd base c P
 bt:base.BuiltinsAt mg P
theorem c9V {H:Hp} {a:Addr} {o:HO} (h:H a = some o):upd H a o = H:=by
 funext b
 unfold upd
 split
 ·rename_i e; subst e; exact h.symm
 ·rfl
section
variable {X:Cx}
theorem b67:∀ {xs:List Value} {l c:Nat} {a:Addr},TriplesOk xs -> TriplesOk (xs ++ [rawInt l,rawInt c,.ref a])
 | [],_,_,_,_ => trivial
 | .int _ _ :: .int _ _ :: _ :: rest,_,_,_,t => b67 (xs:=rest) t
theorem c3T {ps:Array Value} {l c:Nat} {a:Addr} (t:TriplesOk ps.toList):TriplesOk (ps ++ #[rawInt l,rawInt c,.ref a]).toList:=by
 rw [Array.toList_append]
 exact b67 t
end
structure d2N (q:Program) (K:PySem.W.Frag) (z:Addr × Addr):Prop where
 ex:∃ x:Str,((recsOf q).find? (fun e => e.name == x)).isSome = true /\ PySem.W.tabIn K x = some z
theorem d1O {K:PySem.W.Frag} {h:Heap} {a:Addr} {ps:Array Value} (hK:PySem.W.noTabs K = true) (X:K.In h) (e:h.get? a = some (PySem.W.tabObj ps)):K.lookup a = none:=by
 cases q:K.lookup a with
 | none => rfl
 | some o =>
  have e2:=X a o q
  rw [e] at e2
  cases e2
  have h2:=List.all_eq_true.mp hK (a,_) (PySem.W.mem_of_lookupK q)
  exact absurd (show false = true from h2) Bool.false_ne_true
end L2
namespace L2
open PySem PySem.Spec PyProof.Rows
structure ClsM (K:PySem.W.Frag) (C:Addr) (m:Str):Prop where
 ga:PySem.W.specialIn K (.ref C) "__getattribute__" = some (some (.builtin "type.__getattribute__"))
 ex:∃ (mc:Value) (f:Addr),PySem.W.readsIn K C mc = true /\ PySem.W.findCls K (.ref C) mc m = some (.val (.ref f)) /\ PySem.W.findIn K (.ref C) m = some (some (.ref f))
section
variable {X:Cx} {CX:CXT} {k:Nat} {C:Addr} {ps:List Str} {sp:Sp} {E:XK} {x m:Str} {p pos apos:Pos} {e o:Expr} {es:List Expr} {t:TA} {ta:TE}
theorem d0B {pl:Sem Bool} (he:PE X o (tC (.ref C))) (c:ClsM X.K C m) (G:a0k X.prog X.w X.K X.mg X.base CX k C m ps sp) (hr:Room k X.A) (hx:a7p CX X E) (ha:PA X (e :: es) t)
 (hst:starEach (e :: es) X.env = (false,eval e X.env) :: starEach es X.env:=by rfl) (hpl:(backTo pos (starEach es X.env)).any (·.1) = false:=by rfl)
 (ht:eval (.Call (.Attribute o m apos) (e :: es) [] pos) X.env = (do
  let ov <- eval o X.env
  standAt apos.atName
  let (f,first) <- holding [ov] (getMethod ov m pl)
  callWith pos f first (backTo pos (starEach (e :: es) X.env)) (backToKw pos (keywordEach [] X.env))):=by rfl) :
 PE X (.Call (.Attribute o m apos) (e :: es) [] pos) (d0T sp [] E t):=by
 obtain ⟨f,fd,F,hm,hb⟩:=G.ex
 intro pins s σ H Q I h
 refine PySem.W.methodCall_KW (pl:=pl) (thn (he pins s σ H (fun v H1 => v = .ref C /\ H1 = H) I ⟨rfl,rfl⟩) fun u s1 ⟨x,H1,I1,rx,q⟩ => ?_) ht
 obtain ⟨rfl,rfl⟩:=q
 obtain rfl:u = Value.ref C:=rx
 obtain ⟨mc,f',h1,h2,h3⟩:=c.ex
 have e1:=hm.at_
 rw [h3] at e1
 cases e1
 refine PySem.W.method_cls I1.kIn c.ga (PySem.W.cls_value I1.kIn h1 h2 rfl ?_)
 refine PySem.W.callWith_K (first:=[]) (h₀:=X.base) I.ok.mod.kin hm.kp (thn (ha pos pins _ σ _ _ (I1.tok _) h) fun us s2 ⟨vs,H2,I2,r,q2⟩ => ⟨I2.kIn,?_⟩) hst hpl
 exact c6A (us:=us) (vs:=vs) F hr hb .nil hx I2 r q2
end
end L2
namespace L2
open PySem PySem.Spec PyProof.Rows
structure DefT (K:PySem.W.Frag) (mg:Str -> Option Value) (x:Str) (st:Stmt) (z:Addr × Addr):Prop where
 ex:∃ f fd,Fun K x x st f fd /\ mg x = some (.ref f) /\ fd.code = .ref z.1
 tab:PySem.W.tabIn K x = some z
section
variable {P:Program} {w:World} {K:PySem.W.Frag} {mg:Str -> Option Value} {base:Heap}
theorem d1W {x:Str} {f c p:Addr} {oc wo:Value} {od wd:Option Addr} {fd:FuncData} {osl ws:Array (Option Value)} {vs:Array Value} (a:PySem.W.nsIn K mainGlobals x = some (some (.ref f)))
 (l:K.lookup f = some ⟨oc,od,.func fd,osl⟩) (hc:fd.code = .ref c) (w:K.lookup c = some ⟨wo,wd,.fields vs,ws⟩) (h:vs[11]? = some (.ref p)):PySem.W.tabIn K x = some (c,p):=by
 unfold PySem.W.tabIn
 rw [a]
 dsimp only
 rw [l]
 dsimp only
 rw [hc]
 dsimp only
 rw [w]
 dsimp only
 rw [h]
theorem c9B {h:Heap} {x:Str} {st:Stmt} {f c p:Addr} {oc wo:Value} {od an wd:Option Addr} {osl ws:Array (Option Value)} {kV doc pm ct:Value} {vs:Array Value} (X:K.In h) (G:h.Ns mainGlobals mg) (a:PySem.W.nsIn K mainGlobals x = some (some (.ref f)))
 (l:K.lookup f = some ⟨oc,od,.func (PySem.W.fnOf x x (a0j st) (a0i st) (a0b st) .none kV doc pm an (.ref c) ct),osl⟩) (hc:PySem.W.codeIn K (.ref c) x = true) (k:PySem.W.keepIn K (.ref f) = true)
 (w:K.lookup c = some ⟨wo,wd,.fields vs,ws⟩) (t:vs[11]? = some (.ref p)):DefT K mg x st (c,p) :=
 ⟨⟨f,_,c6u l hc k,PySem.W.mg_of X G a,rfl⟩,d1W a l rfl w t⟩
end
end L2
namespace L2
open PySem PySem.Spec PyProof.Rows
section
variable {X:Cx}
theorem op_inD (hu:X.A.units + 64 < cLine):OpR X (compareOp .In) (fun x y H Q => ∃ d ds,Dt X.K H x d /\ Dt X.K H y (.list ds) /\ d.canLay0 = true /\ (PyData.list ds).canLay0 = true /\ d.depth <= 62 /\ Q (.bl (ds.any fun z => PyData.eqv z d)) H):=by
 intro pins s σ H x y v u Q I rx ry h
 obtain ⟨d,ds,hx,hy,lx,ly,hd,q⟩:=h
 obtain ⟨as,ra⟩:=Dt.reads I hx rx lx
 obtain ⟨bs,rb⟩:=Dt.reads I hy ry ly
 exact SeqAt.in_list_reads rb ra ly lx (by have:=Nat.min_le_right (PyData.depthAll ds) d.depth; omega) ⟨.bl _,H,I,rfl,q⟩
theorem c4D (hu:X.A.units + 64 < cLine):OpR X (compareOp .NotIn) (fun x y H Q => ∃ d ds,Dt X.K H x d /\ Dt X.K H y (.list ds) /\ d.canLay0 = true /\ (PyData.list ds).canLay0 = true /\ d.depth <= 62 /\ Q (.bl (!ds.any fun z => PyData.eqv z d)) H):=by
 intro pins s σ H x y v u Q I rx ry h
 obtain ⟨d,ds,hx,hy,lx,ly,hd,q⟩:=h
 obtain ⟨as,ra⟩:=Dt.reads I hx rx lx
 obtain ⟨bs,rb⟩:=Dt.reads I hy ry ly
 exact SeqAt.notIn_list_reads rb ra ly lx (by have:=Nat.min_le_right (PyData.depthAll ds) d.depth; omega) ⟨.bl _,H,I,rfl,q⟩
end
abbrev spD (p:Str × Str):PyData:=.tuple [.str p.1,.str p.2]
theorem c5V (p q:Str × Str):PyData.eqv (spD p) (spD q) = decide (p = q):=by
 obtain ⟨a,b⟩:=p
 obtain ⟨c,d⟩:=q
 show (a == c && (b == d && true)) = decide ((a,b) = (c,d))
 rw [Bool.and_true]
 by_cases h1:a = c
 ·by_cases h2:b = d
  ·subst h1; subst h2
   simp
  ·rw [decide_eq_false (fun e => h2 (Prod.mk.inj e).2),beq_eq_false_iff_ne.mpr h2,Bool.and_false]
 ·rw [decide_eq_false (fun e => h1 (Prod.mk.inj e).1),beq_eq_false_iff_ne.mpr h1,Bool.false_and]
theorem c6e (p:Str × Str):∀ ps:List (Str × Str),((ps.map spD).any fun z => PyData.eqv z (spD p)) = decide (p ∈ ps)
 | [] => rfl
 | q :: ps => by
  rw [List.map_cons,List.any_cons,c6e p ps,c5V]
  by_cases h:p = q
  ·subst h; simp
  ·rw [decide_eq_false (fun e => h e.symm),Bool.false_or]
   simp [h]
def a1v (ps:List (Str × Str)):List (Str × Str):=ps.foldl (fun acc p => if p ∈ acc then acc else acc ++ [p]) []
theorem b7P (ps:List (Str × Str)) (p:Str × Str):a1v (ps ++ [p]) = if p ∈ a1v ps then a1v ps else a1v ps ++ [p]:=by
 unfold a1v
 rw [List.foldl_append]
 rfl
theorem b7H:∀ ps:List (Str × Str),(a1v ps).length <= ps.length:=by
 suffices h:∀ (ps acc:List (Str × Str)),(ps.foldl (fun acc p => if p ∈ acc then acc else acc ++ [p]) acc).length <= acc.length + ps.length by
  intro ps
  have:=h ps []
  simpa [a1v] using this
 intro ps
 induction ps with
 | nil => intro acc; simp
 | cons p ps ih =>
  intro acc
  rw [List.foldl_cons]
  refine Nat.le_trans (ih _) ?_
  split
  ·simp
  ·simp; omega
theorem b0Y:∀ {ps:List (Str × Str)} {p:Str × Str},p ∈ a1v ps -> p ∈ ps:=by
 suffices h:∀ (ps acc:List (Str × Str)) (p:Str × Str),p ∈ ps.foldl (fun acc p => if p ∈ acc then acc else acc ++ [p]) acc -> p ∈ acc ∨ p ∈ ps by
  intro ps p hp
  rcases h ps [] p hp with h | h
  ·cases h
  ·exact h
 intro ps
 induction ps with
 | nil => intro acc p h; exact .inl h
 | cons q ps ih =>
  intro acc p h
  rw [List.foldl_cons] at h
  rcases ih _ p h with h | h
  ·split at h
   ·exact .inl h
   ·rcases List.mem_append.mp h with h | h
    ·exact .inl h
    ·exact .inr (by rw [List.mem_singleton.mp h]; exact List.mem_cons_self)
  ·exact .inr (List.mem_cons_of_mem _ h)
end L2
namespace L2
open PySem PySem.Spec PyProof.Rows
def Fz (o:Obj):HO:=.frz o (.ext fun _ => True)
theorem d1a {P:Program} {w:World} {H:Hp} {h:Heap} {a:Addr} {o:Obj} (e:h.get? a = some o):a17 P w H h a (Fz o):=⟨e,trivial,⟨o,e⟩,fun _ _ _ _ => trivial⟩
theorem b1k {P:Program} {w:World} {H:Hp} {h:Heap} {a:Addr} {o:Obj} (x:HOk P w H h) (e:H a = some (Fz o)):h.get? a = some o:=(x a _ e).1
theorem d1D {o u:Obj} (e:some (Fz o) = some (Fz u)):o = u:=by
 have:=Option.some.inj e
 unfold Fz at this
 exact (HO.frz.inj this).1
def d1l (q:Str) (o:Obj):Prop:=∃ vs t,o.data = .fields vs /\ vs[1]? = some (.str q t)
def TabC (P:Addr) (S:List Addr):HO:=.ext fun h => ∃ ps:Array Value,h.get? P = some (PySem.W.tabObj ps) /\ TriplesOk ps.toList /\ ∀ pos cv,codeAmong pos ps.toList = some cv -> ∃ c ∈ S,cv = .ref c
def a8q (q:Str) (H:Hp) (P:Addr):Prop:=∃ S,H P = some (TabC P S) /\ ∀ c ∈ S,∃ o,H c = some (Fz o) /\ d1l q o
def a9z (q:Str) (params:Arguments) (body:Expr) (scope:Scope) (clos:List (Str × Addr)) (H:Hp) (fa:Addr):Prop :=
 ∃ pm c ctv o,H fa = some (Fz (PySem.W.kla_obj "<lambda>" q params body scope clos pm c ctv)) /\ H c = some (Fz o) /\ d1l q o
theorem c8X {P:Program} {w:World} {H:Hp} {h:Heap} {a:Addr} {ps:Array Value} {S:List Addr} (e:h.get? a = some (PySem.W.tabObj ps)) (t:TriplesOk ps.toList) (c:∀ pos cv,codeAmong pos ps.toList = some cv -> ∃ c ∈ S,cv = .ref c):a17 P w H h a (TabC a S) :=
 ⟨⟨ps,e,t,c⟩,⟨_,e⟩,fun h1 h2 ⟨qs,e1,t1⟩ k => ⟨qs,k _ e1,t1⟩⟩
theorem c3B {pos:Pos} {l c:Nat} {a:Addr} {cv:Value}:∀ {xs:List Value},TriplesOk xs -> codeAmong pos (xs ++ [rawInt l,rawInt c,.ref a]) = some cv -> codeAmong pos xs = some cv ∨ cv = .ref a
 | [],_,h => by
  right
  simp only [List.nil_append,rawInt,codeAmong] at h
  split at h
  ·exact (Option.some.inj h).symm
  ·cases h
 | .int x _ :: .int y _ :: z :: rest,t,h => by
  simp only [List.cons_append,codeAmong] at h ⊢
  split at h
  ·rename_i e
   rw [if_pos e]
   exact .inl h
  ·rename_i e
   rw [if_neg e]
   exact c3B (xs:=rest) t h
theorem c9P {P:Program} {w:World} {H:Hp} {h:Heap} {c:Addr} {o:Obj} (x:HOk P w H h) (hn:H c = none) (e:h.get? c = some o):HOk P w (upd H c (Fz o)) h:=fun b u q => by
 by_cases hb:b = c
 ·subst hb; rw [a0c] at q; cases q; exact d1a e
 ·rw [a0g hb] at q
  exact (x b u q).stay (fun _ _ _ z => z) (fun d z => by rw [a0g (a0h z hn)]; exact z) fun d xs z => by rw [a0g (a0h z hn)]; exact z
def d1z (P:Addr) (H H':Hp):Prop:=∀ b o,b ≠ P -> H b = some o -> H' b = some o
def d2U (P:Addr) (q:Str) (params:Arguments) (body:Expr) (scope:Scope) (clos:List (Str × Addr)):TE:=fun _ H Q => a8q q H P /\ ∀ a H',H a = none -> d1z P H H' -> a8q q H' P -> a9z q params body scope clos H' a -> Q (.ref a) H'
section
variable {X:Cx}
theorem c4Y {params:Arguments} {body:Expr} {scope:Scope} {pos:Pos} {c P:Addr} {clos:List (Str × Addr)} (M:b2L X.mg X.base c P) (hc:X.env.code = .ref c) (hcl:closureFor scope X.env = pure clos) (hdef:defaultsOf params X.env = ([],[])) :
 PE X (.Lambda params body scope pos) (d2U P (X.env.qual ++ "<lambda>") params body scope clos):=by
 intro pins s σ H Q I h
 obtain ⟨⟨S,hP,hS⟩,q⟩:=h
 obtain ⟨⟨ps,e,t,tc⟩,_,_⟩:=I.hok P _ hP
 have hg:s.heap.Ns mainGlobals X.mg:=I.mod.glob.keeps I.bk
 have C:=M.hd.keeps I.bk
 have hb:s.heap.BuiltinsAt X.mg P:=let ⟨bm,o,b1,b2,b3,b4,b5,r⟩:=M.bt; ⟨bm,o,b1,b2,b3,b4,I.bk _ _ b5,r⟩
 have hgP:mainGlobals ≠ P:=fun z => by
  obtain ⟨o,es,ep,e1,hd,_⟩:=hg
  rw [z,e] at e1; cases e1; cases hd
 refine PySem.W.kla_eval hdef ?_
 cases hf:codeAmong pos ps.toList with
 | none =>
  refine PySem.W.kla_makeFunction (mg:=X.mg) hcl I.ok.glob hg hc C e t hf hgP hb fun c' ctv h' tk hx hge hlt hrec htb => ?_
  obtain ⟨c1,oc,vs,tq,ec,goc,doc,dq⟩:=hrec
  obtain rfl:c' = c1:=by cases ec; rfl
  have nP:∀ b,H b = none -> b ≠ P:=fun b n z => by rw [z,hP] at n; cases n
  have hPlt:P < s.heap.objs.size:=Heap.lt_size e
  have goc':(h'.push (PySem.W.kla_obj "<lambda>" (X.env.qual ++ "<lambda>") params body scope clos ((X.mg "__name__").getD .none) c' ctv)).get? c' = some oc:=Heap.get?_push_of_some _ goc
  have cP:c' ≠ P:=Nat.ne_of_gt (Nat.lt_of_lt_of_le hPlt hge)
  have aP:h'.objs.size ≠ P:=Nat.ne_of_gt (Nat.lt_of_lt_of_le hPlt (Nat.le_of_lt (Nat.lt_of_le_of_lt hge hlt)))
  have ac:h'.objs.size ≠ c':=Nat.ne_of_gt hlt
  have fr:∀ b,s.heap.objs.size <= b -> H b = none:=fun b z => I.hok.fresh z
  have hk:∀ b u,b ≠ P -> s.heap.get? b = some u -> (h'.push (PySem.W.kla_obj "<lambda>" (X.env.qual ++ "<lambda>") params body scope clos ((X.mg "__name__").getD .none) c' ctv)).get? b = some u:=fun b u nb eb => Heap.get?_push_of_some _ (hx b u nb eb)
  have hok1:HOk X.prog X.w (upd H P (TabC P (c' :: S))) (h'.push (PySem.W.kla_obj "<lambda>" (X.env.qual ++ "<lambda>") params body scope clos ((X.mg "__name__").getD .none) c' ctv)) :=
   I.hok.write (x:=P) (e:=P) (by rw [hP]; trivial) (.inl rfl) hk ⟨_,Heap.get?_push_of_some _ htb⟩ (c8X (Heap.get?_push_of_some _ htb) (c3T t) fun pos cv z => by
    rw [Array.toList_append] at z
    rcases c3B t z with z | z
    ·obtain ⟨d,hd,r⟩:=tc pos cv z
     exact ⟨d,List.mem_cons_of_mem _ hd,r⟩
    ·exact ⟨c',List.mem_cons_self,z⟩)
  have n1:upd H P (TabC P (c' :: S)) c' = none:=by rw [a0g cP]; exact fr _ hge
  have hok2:=c9P hok1 n1 goc'
  have n2:upd (upd H P (TabC P (c' :: S))) c' (Fz oc) h'.objs.size = none:=by rw [a0g ac,a0g aP]; exact fr _ (Nat.le_of_lt (Nat.lt_of_le_of_lt hge hlt))
  have hok3:=c9P hok2 n2 (Heap.get?_push_size _ rfl)
  have sm:∀ b,b ≠ P -> H b ≠ none -> upd (upd (upd H P (TabC P (c' :: S))) c' (Fz oc)) h'.objs.size (Fz (PySem.W.kla_obj "<lambda>" (X.env.qual ++ "<lambda>") params body scope clos ((X.mg "__name__").getD .none) c' ctv)) b = H b:=fun b z1 z2 => by
   have y1:b ≠ h'.objs.size:=fun z => z2 (by rw [z]; exact fr _ (Nat.le_of_lt (Nat.lt_of_le_of_lt hge hlt)))
   have y2:b ≠ c':=fun z => z2 (by rw [z]; exact fr _ hge)
   rw [a0g y1,a0g y2,a0g z1]
  have sv:∀ b o,b ≠ P -> H b = some o -> upd (upd (upd H P (TabC P (c' :: S))) c' (Fz oc)) h'.objs.size (Fz (PySem.W.kla_obj "<lambda>" (X.env.qual ++ "<lambda>") params body scope clos ((X.mg "__name__").getD .none) c' ctv)) b = some o:=fun b o z1 z2 => by
   rw [sm b z1 (by rw [z2]; intro z; cases z)]; exact z2
  have J:=I.step (h':=h'.push (PySem.W.kla_obj "<lambda>" (X.env.qual ++ "<lambda>") params body scope clos ((X.mg "__name__").getD .none) c' ctv)) (g':=s.gens) (t':=tk) (d':=s.drawn) (ch:=[]) (fun _ z => nomatch z)
   (fun b o _ _ _ eb n => hk b o (nP b n) eb) (fun b o _ _ _ eb n => ⟨o.slots,hk b o (nP b n) eb⟩)
   (fun b o _ eb n => by rw [a0g (Nat.ne_of_lt (Nat.lt_of_lt_of_le (Heap.lt_size eb) (Nat.le_of_lt (Nat.lt_of_le_of_lt hge hlt)))),a0g (Nat.ne_of_lt (Nat.lt_of_lt_of_le (Heap.lt_size eb) hge)),a0g (nP b n)]; exact n)
   (fun b o _ eb => by
    by_cases z:b = P
    ·subst z; exact ⟨_,Heap.get?_push_of_some _ htb⟩
    ·exact ⟨o,hk b o z eb⟩)
   (fun b xs z => sv b _ (fun y => by rw [y,hP] at z; cases z) z) (fun b o u z => sv b _ (fun y => by rw [y,hP] at z; cases z) z) (fun b ps z => ⟨#[],by rw [sv b _ (fun y => by rw [y,hP] at z; cases z) z]; simp⟩)
   (fun m ⟨o,es,ep,ho,r⟩ => ⟨o,es,ep,hk _ o (nP _ I.free) ho,r⟩) hok3 I.bare
  refine ⟨.ref h'.objs.size,_,J,rfl,q _ _ (fr _ (Nat.le_of_lt (Nat.lt_of_le_of_lt hge hlt))) (fun b o z1 z2 => sv b o z1 z2) ⟨c' :: S,?_,fun d hd => ?_⟩ ⟨_,c',ctv,oc,a0c,?_,vs,tq,doc,dq⟩⟩
  ·rw [a0g (Ne.symm aP),a0g (Ne.symm cP),a0c]
  ·rcases List.mem_cons.mp hd with rfl | hd
   ·exact ⟨oc,by rw [a0g (Ne.symm ac),a0c],vs,tq,doc,dq⟩
   ·obtain ⟨o,e1,e2⟩:=hS d hd
    exact ⟨o,sv d _ (fun y => by rw [y,hP] at e1; cases e1) e1,e2⟩
  ·rw [a0g (Ne.symm ac),a0c]
 | some cv =>
  obtain ⟨d,hd,rfl⟩:=tc _ _ hf
  obtain ⟨od,e1,e2⟩:=hS d hd
  refine PySem.W.kla_makeFunctionHit (mg:=X.mg) hcl I.ok.glob hg hc C e t hf hb fun ctv h' tk hk hsz => ?_
  have fr:H h'.objs.size = none:=I.hok.fresh hsz
  have sv:∀ b o,H b = some o -> upd H h'.objs.size (Fz (PySem.W.kla_obj "<lambda>" (X.env.qual ++ "<lambda>") params body scope clos ((X.mg "__name__").getD .none) d ctv)) b = some o:=fun b o z => by
   rw [a0g (a0h z fr)]; exact z
  refine ⟨.ref h'.objs.size,_,I.laid (a:=h'.objs.size) (o:=Fz (PySem.W.kla_obj "<lambda>" (X.env.qual ++ "<lambda>") params body scope clos ((X.mg "__name__").getD .none) d ctv)) (fun b o eb => Heap.get?_push_of_some _ (hk b o eb)) hsz (d1a (Heap.get?_push_size _ rfl)),rfl,
   q _ _ fr (fun b o _ z => sv b o z) ⟨S,sv _ _ hP,fun d' hd' => ?_⟩ ⟨_,d,ctv,od,a0c,sv _ _ e1,e2⟩⟩
  obtain ⟨o,e3,e4⟩:=hS d' hd'
  exact ⟨o,sv _ _ e3,e4⟩
end
end L2
namespace L2
open PySem PySem.Spec PyProof.Rows
abbrev Lend:=Addr -> Option Obj
def lend (f:Lend) (H:Hp):Hp:=fun b => match f b with
 | some o => some (Fz o)
 | none => H b
def unl (f:Lend) (H:Hp):Hp:=fun b => match f b with
 | some _ => none
 | none => H b
theorem a7D {f:Lend} {H:Hp} {b:Addr} {o:Obj} (e:f b = some o):lend f H b = some (Fz o):=by unfold lend; rw [e]
theorem a0Q {f:Lend} {H:Hp} {b:Addr} (e:f b = none):lend f H b = H b:=by unfold lend; rw [e]
theorem a9E {f:Lend} {H:Hp} {b:Addr} {o:Obj} (e:f b = some o):unl f H b = none:=by unfold unl; rw [e]
theorem a04 {f:Lend} {H:Hp} {b:Addr} (e:f b = none):unl f H b = H b:=by unfold unl; rw [e]
theorem c0i {f:Lend} {H:Hp} (h:∀ b o,f b = some o -> H b = none):unl f (lend f H) = H:=by
 funext b
 cases e:f b with
 | none => rw [a04 e,a0Q e]
 | some o => rw [a9E e,h b o e]
section
variable {P:Program} {w:World} {H H':Hp} {h h':Heap} {f:Lend} {fs:List Addr}
theorem c1B (x:HOk P w H h) (hf:∀ b o,f b = some o -> H b = none /\ h.get? b = some o):HOk P w (lend f H) h:=fun b u q => by
 have keep:∀ c v,H c = some v -> lend f H c = some v:=fun c v z => by
  cases e:f c with
  | none => rw [a0Q e]; exact z
  | some o => rw [(hf c o e).1] at z; cases z
 cases e:f b with
 | none =>
  rw [a0Q e] at q
  exact (x b u q).stay (fun _ _ _ z => z) (fun c z => keep c _ z) fun c xs z => keep c _ z
 | some o =>
  rw [a7D e] at q
  cases q
  exact d1a (hf b o e).2
theorem c7B (x:HOk P w H h) (hf:∀ b o,f b = some o -> H b = some (Fz o)):HOk P w (unl f H) h:=fun b u q => by
 cases e:f b with
 | some o => rw [a9E e] at q; cases q
 | none =>
  rw [a04 e] at q
  refine (x b u q).stay (fun _ _ _ z => z) (fun c z => ?_) fun c xs z => ?_
  ·cases e2:f c with
   | none => rw [a04 e2]; exact z
   | some o => rw [hf c o e2] at z; cases z
  ·cases e2:f c with
   | none => rw [a04 e2]; exact z
   | some o => rw [hf c o e2] at z; cases z
theorem c8p (hf:∀ b o,f b = some o -> H b = none /\ h.get? b = some o) (u:Un fs [] (lend f H) H' h h') (hok:HOk P w H' h'):Un fs [] H (unl f H') h h' /\ HOk P w (unl f H') h':=by
 have at':∀ b o,f b = some o -> H' b = some (Fz o):=fun b o e => u.frzs b o _ (a7D e)
 have nf:∀ b v,H b = some v -> f b = none:=fun b v z => by
  cases e:f b with
  | none => rfl
  | some o => rw [(hf b o e).1] at z; cases z
 refine ⟨⟨fun b o e n hb hx => ?_,fun b o e n hb hx => ?_,fun b o e n hx => ?_,fun b o e hx => u.there b o e hx,fun b xs z => ?_,fun b o v z => ?_,fun b ps z => ?_⟩,c7B hok at'⟩
 ·cases e2:f b with
  | none => exact u.keep b o e (by rw [a0Q e2]; exact n) hb hx
  | some o2 =>
   have:=(hf b o2 e2).2
   rw [e] at this
   cases this
   exact b1k hok (at' b o e2)
 ·cases e2:f b with
  | none => exact u.slot b o e (by rw [a0Q e2]; exact n) hb hx
  | some o2 =>
   have:=(hf b o2 e2).2
   rw [e] at this
   cases this
   exact ⟨o.slots,b1k hok (at' b o e2)⟩
 ·cases e2:f b with
  | none => rw [a04 e2]; exact u.free b o e (by rw [a0Q e2]; exact n) hx
  | some o2 => exact a9E e2
 ·rw [a04 (nf b _ z)]; exact u.tups b xs (by rw [a0Q (nf b _ z)]; exact z)
 ·rw [a04 (nf b _ z)]; exact u.frzs b o v (by rw [a0Q (nf b _ z)]; exact z)
 ·rw [a04 (nf b _ z)]; exact u.tbls b ps (by rw [a0Q (nf b _ z)]; exact z)
theorem d0e (hf:∀ b o,f b = some o -> H b = some (Fz o)) (hok0:HOk P w H h) (hfs:∀ b ∈ fs,H b = none) (u:Un fs [] (unl f H) H' h h') (hok:HOk P w H' h'):Un fs [] H (lend f H') h h' /\ HOk P w (lend f H') h':=by
 have fr:∀ b o,f b = some o -> H' b = none /\ h'.get? b = some o:=fun b o e => by
  have g:=b1k hok0 (hf b o e)
  exact ⟨u.free b o g (a9E e) (by simp),u.keep b o g (a9E e) (fun z => by have:=hfs b z; rw [hf b o e] at this; cases this) (by simp)⟩
 have nf:∀ b,H b = none -> f b = none:=fun b z => by
  cases e:f b with
  | none => rfl
  | some o => rw [hf b o e] at z; cases z
 have nz:∀ b v,H b = some v -> (∀ o,v ≠ Fz o) -> f b = none:=fun b v z ne => by
  cases e:f b with
  | none => rfl
  | some o => rw [hf b o e] at z; exact absurd (Option.some.inj z).symm (ne o)
 refine ⟨⟨fun b o e n hb hx => u.keep b o e (by rw [a04 (nf b n)]; exact n) hb hx,fun b o e n hb hx => u.slot b o e (by rw [a04 (nf b n)]; exact n) hb hx,fun b o e n hx => ?_,fun b o e hx => u.there b o e hx,fun b xs z => ?_,fun b o v z => ?_,fun b ps z => ?_⟩,c1B hok fr⟩
 ·rw [a0Q (nf b n)]; exact u.free b o e (by rw [a04 (nf b n)]; exact n) hx
 ·have e:=nz b _ z (fun o q => by cases q)
  rw [a0Q e]; exact u.tups b xs (by rw [a04 e]; exact z)
 ·cases e:f b with
  | none => rw [a0Q e]; exact u.frzs b o v (by rw [a04 e]; exact z)
  | some o2 => rw [a7D e,<- hf b o2 e]; exact z
 ·have e:=nz b _ z (fun o q => by cases q)
  rw [a0Q e]; exact u.tbls b ps (by rw [a04 e]; exact z)
end
structure Lent (X:Cx) (σ:St) (H:Hp) (f:Lend):Prop where
 free:∀ b o,f b = some o -> H b = none
 cell:∀ x c,X.env.cells.lookup x = some c -> ∃ o v,f c = some o /\ o.data = .cell v
 val:∀ (i:Nat) x v,X.N[i]? = some x -> σ[i]? = some (some v) -> X.env.scope.names.lookup x = some .cell -> ∃ c o u,X.env.cells.lookup x = some c /\ f c = some o /\ o.data = .cell (some u) /\ RelV v u
 inj:∀ x y c,X.env.cells.lookup x = some c -> X.env.cells.lookup y = some c -> x = y
theorem d0Q {X:Cx} {pins:List (Addr × Obj)} {σ:St} {H:Hp} {s:Shared} (I:Inv X pins σ H s) (hfn:∀ x,X.fn x = true):∃ f:Lend,Lent X σ H f /\ (∀ b o,f b = some o -> H b = none /\ s.heap.get? b = some o /\ X.base.get? b = none /\ b ∉ frs X.stack):=by
 classical
 let f:Lend:=fun b => if (∃ x,X.env.cells.lookup x = some b) then s.heap.get? b else none
 have fe:∀ {b o},f b = some o -> (∃ x,X.env.cells.lookup x = some b) /\ s.heap.get? b = some o:=fun {b o} e => by
  by_cases z:∃ x,X.env.cells.lookup x = some b
  ·exact ⟨z,by rw [show f b = s.heap.get? b from if_pos z] at e; exact e⟩
  ·rw [show f b = none from if_neg z] at e; cases e
 have ff:∀ {x c},X.env.cells.lookup x = some c -> f c = s.heap.get? c:=fun {x c} e => if_pos ⟨x,e⟩
 refine ⟨f,⟨fun b o e => ?_,fun x c e => ?_,fun i x v e1 e2 e3 => ?_,I.ok.inj⟩,fun b o e => ?_⟩
 ·obtain ⟨⟨x,z⟩,_⟩:=fe e
  exact I.freeC x b z
 ·obtain ⟨v,o,ho,hd⟩:=I.cell x c e
  exact ⟨o,v,by rw [ff e]; exact ho,hd⟩
 ·obtain ⟨m,_,hl⟩:=I.loc
  obtain ⟨u,r,l⟩:=hl i x v e1 e2 (.inr (.inl e3))
  rcases l with ⟨k,_⟩ | ⟨_,c,ec,o,ho,hd⟩
  ·have k':X.env.scope.names.lookup x = some .local:=k
   rw [e3] at k'; cases k'
  ·exact ⟨c,o,u,ec,by rw [ff ec]; exact ho,hd,r⟩
 ·obtain ⟨⟨x,z⟩,g⟩:=fe e
  refine ⟨I.freeC x b z,g,?_,fun hb => ?_⟩
  ·exact Heap.get?_none_of_le (Nat.le_trans I.ok.bsz (I.ok.cab x b (hfn x) z))
  ·rcases List.mem_cons.mp (I.stkSub b hb) with e2 | hb
   ·exact I.cne x b z e2
   ·obtain ⟨_,ob,ho,_⟩:=I.ok.funs.mem hb
    exact absurd (Nat.lt_of_lt_of_le (Heap.lt_size ho) (I.ok.cab x b (hfn x) z)) (Nat.lt_irrefl _)
theorem c9v {X:Cx} {k:Nat} {fa:Addr} {fd:FuncData} {ps:List Str} {sp:Sp} {pins:List (Addr × Obj)} {σ:St} {H:Hp} {s:Shared} {Q:VK} {us:List Value} {vs:List V} (hfn:∀ x,X.fn x = true) (F:FnOk X.prog X.w X.K X.mg X.base CX0 k fa fd ps sp) (hr:Room k X.A) (hb:b2u X.K fd ps [])
 (I:Inv X pins σ H s) (r:Vals vs us) (h:∀ f,Lent X σ H f -> sp vs (lend f H) (fun v H' => Q v (unl f H')) E0):wpAny (model X.prog X.w) X.A (call (.ref fa) us) (EP X pins σ Q) X.xe s:=by
 obtain ⟨f,L,hf⟩:=d0Q I hfn
 have q:=h f L
 have hl:(us ++ []).length = ps.length:=by rw [List.append_nil,<- r.length]; exact F.len _ _ _ _ q
 have e0:Env0 X.prog X.w X.K X.mg X.base X.A X.stack s (lend f H):=by
  have e:=I.env0
  refine ⟨e.frames,e.mod,fun b o z => ⟨(e.bs b o z).1,?_⟩,e.bsz,e.funs,fun b z => ?_,c1B e.hok fun b o z => ⟨(hf b o z).1,(hf b o z).2.1⟩,e.bare⟩
  ·cases q2:f b with
   | none => rw [a0Q q2]; exact (e.bs b o z).2
   | some ob => rw [(hf b ob q2).2.2.1] at z; cases z
  ·cases q2:f b with
   | none => rw [a0Q q2]; exact e.frf b z
   | some ob => exact absurd z (hf b ob q2).2.2.2
 have bd:=hb s us I.kIn hl
 rw [List.append_nil] at bd
 refine wpAny_call (codeAny_mono (F.run X.A X.stack s (lend f H) ⟨us,[]⟩ us vs _ E0 hr e0 bd r q) fun r s' hq => ?_)
 cases r with
 | error e => exact False.elim hq
 | ok fl =>
  cases fl with
  | ret u =>
   obtain ⟨v,H',os,bare,un,hok,rv,qv⟩:=hq
   obtain ⟨u1,u2⟩:=c8p (fun b o z => ⟨(hf b o z).1,(hf b o z).2.1⟩) un hok
   exact I.after ⟨v,_,os,bare,u1,u2,rv,qv⟩
  | next => exact False.elim hq
  | brk => exact False.elim hq
  | cont => exact False.elim hq
def d1U (X:Cx) (C:Addr) (m:Str) (sp:Sp) (ta:TE) (t:TA):TE:=fun σ H Q => ta σ H fun x H1 => ∃ a dx fs,x = .ref a /\ H1 a = some (.ins C dx fs) /\ fs.lookup m = none /\
 t σ H1 fun vs H2 => ∀ f,Lent X σ H2 f -> sp (x :: vs) (lend f H2) (fun v H' => Q v (unl f H')) E0
section
variable {X:Cx} {k:Nat} {C:Addr} {ps:List Str} {sp:Sp} {x m:Str} {p pos apos:Pos} {e o:Expr} {es:List Expr} {t:TA} {ta:TE}
theorem c9I {pl:Sem Bool} (he:PE X o ta) (c:Cls X.K C) (G:a0k X.prog X.w X.K X.mg X.base CX0 k C m ps sp) (hr:Room k X.A) (ha:PA X (e :: es) t) (hfn:∀ x,X.fn x = true:=by exact fun _ => rfl)
 (hst:starEach (e :: es) X.env = (false,eval e X.env) :: starEach es X.env:=by rfl) (hpl:(backTo pos (starEach es X.env)).any (·.1) = false:=by rfl)
 (ht:eval (.Call (.Attribute o m apos) (e :: es) [] pos) X.env = (do
  let ov <- eval o X.env
  standAt apos.atName
  let (f,first) <- holding [ov] (getMethod ov m pl)
  callWith pos f first (backTo pos (starEach (e :: es) X.env)) (backToKw pos (keywordEach [] X.env))):=by rfl) :
 PE X (.Call (.Attribute o m apos) (e :: es) [] pos) (d1U X C m sp ta t):=by
 obtain ⟨f,fd,F,hm,hb⟩:=G.ex
 intro pins s σ H Q I h
 refine PySem.W.methodCall_KW (pl:=pl) (thn (he pins s σ H _ I h) fun u s1 ⟨x,H1,I1,rx,a,dx,fs,ex,ea,l,q⟩ => ?_) ht
 subst ex
 obtain rfl:u = Value.ref a:=rx
 refine b0T I1 ea c hm l ?_
 refine PySem.W.callWith_K (first:=[.ref a]) (h₀:=X.base) I.ok.mod.kin hm.kp (thn (ha pos pins s1 σ H1 _ I1 q) fun us s2 ⟨vs,H2,I2,r,q2⟩ => ⟨I2.kIn,?_⟩) hst hpl
 exact c9v (us:=.ref a :: us) (vs:=.ref a :: vs) hfn F hr hb I2 (.cons rfl r) q2
end
structure a6X (P:Program) (w:World) (K:PySem.W.Frag) (mg:Str -> Option Value) (base:Heap) (k:Nat) (fa:Addr) (sp:Sp):Prop where
 fn:∀ vs H Q E,sp vs H Q E -> ∃ c d fd sl,H fa = some (Fz ⟨c,d,.func fd,sl⟩)
 run:∀ (A:Around) (outer:List Env) (s:Shared) (H:Hp) (us:List Value) (vs:List V) (Q:VK) (E:XK),Room k A -> Env0 P w K mg base A outer s H -> Vals vs us -> sp vs H Q E ->
  codeAny (model P w) A (.call (.ref fa) ⟨us,[]⟩) (CR CX0 outer P w H s Q E) s
theorem a6X.mono {P:Program} {w:World} {K:PySem.W.Frag} {mg:Str -> Option Value} {base:Heap} {j k:Nat} {fa:Addr} {sp:Sp} (F:a6X P w K mg base j fa sp) (h:j <= k):a6X P w K mg base k fa sp :=
 ⟨F.fn,fun A outer s H us vs Q E hr => F.run A outer s H us vs Q E (hr.mono h)⟩
theorem a6X.imp {P:Program} {w:World} {K:PySem.W.Frag} {mg:Str -> Option Value} {base:Heap} {k:Nat} {fa:Addr} {sp sp':Sp} (F:a6X P w K mg base k fa sp) (h:∀ vs H Q E,sp' vs H Q E -> sp vs H Q E):a6X P w K mg base k fa sp' :=
 ⟨fun vs H Q E z => F.fn vs H Q E (h _ _ _ _ z),fun A outer s H us vs Q E hr e0 r z => F.run A outer s H us vs Q E hr e0 r (h _ _ _ _ z)⟩
def d2i (P:Program) (w:World) (K:PySem.W.Frag) (mg:Str -> Option Value) (base:Heap) (k:Nat) (i:Nat) (t:TA):TE:=fun σ H Q => ∃ fa sp,σ[i]? = some (some (.ref fa)) /\ a6X P w K mg base k fa sp /\ t σ H fun vs H1 => sp vs H1 Q E0
section
variable {X:Cx} {k:Nat} {x:Str} {p pos:Pos} {e:Expr} {es:List Expr} {t:TA}
theorem b6T (i:Nat) (hr:Room k X.A) (ha:PA X (e :: es) t) (hN:X.N[i]? = some x:=by rfl) (hv:Vis X.env.scope x:=by first | exact Or.inl rfl | exact Or.inr (Or.inl rfl) | exact Or.inr (Or.inr rfl)) (hd:(x == ("__debug__" : Str)) = false:=by decide)
 (hcd:(x == ("__classdict__" : Str)) = false:=by decide) (he:starEach (e :: es) X.env = (false,eval e X.env) :: starEach es X.env:=by rfl) (hpl:(backTo pos (starEach es X.env)).any (·.1) = false:=by rfl) :
 PE X (.Call (.Name x p) (e :: es) [] pos) (d2i X.prog X.w X.K X.mg X.base k i t):=by
 intro pins s σ H Q I h
 obtain ⟨fa,sp,e1,F,h⟩:=h
 refine wpAny_Call_Name_kw (thn (c9Q hN hv hd hcd pins s σ H (fun v H1 => v = .ref fa /\ H1 = H) I ⟨_,e1,rfl,rfl⟩) fun u s1 ⟨v,H1,I1,rv,q⟩ => ?_)
 obtain ⟨rfl,rfl⟩:=q
 obtain rfl:u = Value.ref fa:=rv
 show wpAny _ _ (callWith pos (.ref fa) [] (backTo pos (starEach (e :: es) X.env)) []) _ _ _
 rw [he]
 refine PySem.W.callWith_of (P:=fun h => ∃ c d fd sl,h.get? fa = some ⟨c,d,.func fd,sl⟩) (by show ((false || (backTo pos (starEach es X.env)).any (·.1)) || false) = false; rw [hpl]; rfl)
  (fun h ⟨c,d,fd,sl,z⟩ => ⟨.frame,.inl rfl,(PySem.W.Looks.ld (part:=none) z).andThen .now⟩) (PySem.Calls.evalArgs_plain ?_)
 have ha':=ha pos pins s1 σ H1 _ I1 h
 rw [he] at ha'
 refine thn ha' fun us s2 ⟨vs,H2,I2,r,q2⟩ => ?_
 obtain ⟨c,d,fd,sl,z⟩:=F.fn _ _ _ _ q2
 refine ⟨⟨c,d,fd,sl,b1k I2.hok z⟩,?_⟩
 refine wpAny_call (codeAny_mono (F.run X.A X.stack s2 H2 us vs Q E0 hr I2.env0 r q2) fun r s' hq => ?_)
 cases r with
 | error e => exact False.elim hq
 | ok fl =>
  cases fl with
  | ret u => exact I2.after hq
  | next => exact False.elim hq
  | brk => exact False.elim hq
  | cont => exact False.elim hq
end
end L2
namespace L2
open PySem PySem.Spec PyProof.Rows
theorem b9F {α:Type} {x:Str} {u:α}:∀ {l:List (Str × α)},(l.map (·.1)).Nodup -> (x,u) ∈ l -> l.lookup x = some u
 | (y,v) :: r,nd,h => by
  rw [List.map_cons,List.nodup_cons] at nd
  rw [List.lookup_cons]
  rcases List.mem_cons.mp h with e | h2
  ·cases e; rw [beq_self_eq_true]
  ·have:(x == y) = false:=by
    cases z:x == y with
    | false => rfl
    | true =>
     have:x = y:=by simpa using z
     subst this
     exact absurd (show x ∈ r.map (·.1) from List.mem_map.mpr ⟨(x,u),h2,rfl⟩) nd.1
   rw [this]
   exact b9F nd.2 h2
theorem d0i {ps:List Str} {us:List Value} {i:Nat} {x:Str} {u:Value} (nd:ps.Nodup) (hl:us.length = ps.length) (h1:ps[i]? = some x) (h2:us[i]? = some u):(ps.zip us).reverse.lookup x = some u:=by
 refine b9F ?_ ?_
 ·rw [List.map_reverse]
  refine List.pairwise_reverse.mpr ?_
  rw [List.map_fst_zip (by omega)]
  exact nd.imp Ne.symm
 ·rw [List.mem_reverse]
  have:(ps.zip us)[i]? = some (x,u):=by rw [List.getElem?_zip_eq_some]; exact ⟨h1,h2⟩
  exact List.mem_of_getElem? this
def c8Q (P:Program) (w:World) (K:PySem.W.Frag) (mg:Str -> Option Value) (base:Heap) (N:List Str) (q:Str) (scope:Scope) (fa:Addr) (cd:Value) (clos:List (Str × Addr)) (A:Around) (outer:List Env) (s:Shared) (H:Hp):Cx where
 prog:=P
 w:=w
 K:=K
 mg:=mg
 base:=base
 A:=A.deeper (PySem.W.envX q scope s.heap.objs.size fa cd clos)
 N:=N
 s₀:=s
 H₀:=H
 env:=PySem.W.envX q scope s.heap.objs.size fa cd clos
 outer:=outer
 stack:=PySem.W.envX q scope s.heap.objs.size fa cd clos :: outer
 ex:=[]
 calm:=true
 fn:=fun _ => false
 pn:=[]
 xe:=fun _ _ => False
def c41 (fa:Addr) (f:Lend) (q:Str) (params:Arguments) (body:Expr) (scope:Scope) (clos:List (Str × Addr)) (n:Nat) (spB:List V -> Hp -> VK -> Prop):Sp:=fun vs H Q _ =>
 vs.length = n /\ a9z q params body scope clos H fa /\ (∀ b o,f b = some o -> H b = some (Fz o)) /\ spB vs (unl f H) fun v H' => (∀ b o,f b = some o -> H' b = none) -> Q v (lend f H')
theorem d2q {X:Cx} {σ:St} {H₁:Hp} {f:Lend} {q:Str} {params:Arguments} {body:Expr} {scope:Scope} {fa:Addr} {ps:List Str} {cp:List (Nat × Str)} {cv:List V} {k:Nat} {spB:List V -> Hp -> VK -> Prop} (L:Lent X σ H₁ f)
 (hcell:∀ x,X.env.scope.names.lookup x = some .cell -> ∃ c,X.env.cells.lookup x = some c)
 (hcv:cp.map (fun p => σ[p.1]?) = cv.map fun v => some (some v))
 (hcp:∀ p ∈ cp,X.N[p.1]? = some p.2 /\ X.env.scope.names.lookup p.2 = some .cell /\ scope.names.lookup p.2 = some .free)
 (free:∀ y ∈ scope.names,y.2 = .free -> X.env.scope.names.lookup y.1 = some .cell)
 (kind:scope.kind = .function) (co:scope.isCoroutine = false) (gen:scope.isGenerator = false) (nocell:∀ y ∈ scope.names,y.2 ≠ .cell) (par:∀ x ∈ ps,scope.names.lookup x = some .local) (nd:(ps ++ cp.map (·.2)).Nodup)
 (hb:∀ (pm ctv:Value) (c:Addr) (clos:List (Str × Addr)) (us:List Value),us.length = ps.length -> bindArgs (PySem.W.kla_fn "<lambda>" q params body scope clos pm (.ref c) ctv) ⟨us,[]⟩ = pure (ps.zip us))
 (hbody:∀ (cd:Value) (A:Around) (outer:List Env) (s:Shared) (H:Hp) (vs:List V) (Q:VK),Room k (A.deeper (PySem.W.envX q scope s.heap.objs.size fa cd (a3x X.env.cells scope.names []))) -> spB vs H Q ->
  ∃ t,PE (c8Q X.prog X.w X.K X.mg X.base (ps ++ cp.map (·.2)) q scope fa cd (a3x X.env.cells scope.names []) A outer s H) body t /\ t ((vs ++ cv).map some) H Q) :
 a6X X.prog X.w X.K X.mg X.base (k + 1) fa (c41 fa f q params body scope (a3x X.env.cells scope.names []) ps.length spB):=by
 have sub:=b5j (cells:=X.env.cells) (names:=scope.names) (acc:=[]) (fun y hy e => hcell _ (free y hy e)) (fun x c e => by cases e)
 refine ⟨fun vs H Q E ⟨_,⟨pm,c,ctv,o,e1,_⟩,_⟩ => ⟨_,_,_,_,e1⟩,fun A outer s H us vs Q E hr e0 r ⟨hl,⟨pm,c,ctv,o,e1,e2,ws,tq,e3,e4⟩,hf,hsp⟩ => ?_⟩
 have hus:us.length = ps.length:=by rw [<- r.length]; exact hl
 have hcd:s.heap.CodeRec (.ref c) q:=⟨c,o,ws,tq,rfl,b1k e0.hok e2,e3,e4⟩
 have lim:s.heap.NoLimit:=e0.mod.nolimit.keeps fun b o e => (e0.bs b o e).1
 refine PySem.W.kla_callFunE hr.depth (b1k e0.hok e1) rfl co gen rfl hcd ?_
 rw [hb pm ctv c _ us hus]
 refine wpAny_pure (wpAny_newFunctionEnv nocell (fun y hy => par y.1 (List.of_mem_zip hy).1) (fun h₁ hns hsb => ⟨lim.fresh _ hsb,?_⟩) kind)
 show codeAny _ _ (.expr body (PySem.W.envX q scope s.heap.objs.size fa (.ref c) (a3x X.env.cells scope.names []))) _ _
 have hk:∀ b o,s.heap.get? b = some o -> h₁.get? b = some o:=fun b o e => hsb.extBut b o (Nat.ne_of_lt (Heap.lt_size e)) (Heap.get?_push_of_some _ e)
 obtain ⟨t,ht,hq⟩:=hbody (.ref c) A outer s (unl f H) vs _ (hr.deeper _) hsp
 have hok':HOk X.prog X.w (unl f H) s.heap:=c7B e0.hok hf
 have hl2:(vs ++ cv).length = (ps ++ cp.map (·.2)).length:=by
  rw [List.length_append,List.length_append,List.length_map,hl]
  have:=congrArg List.length hcv
  rw [List.length_map,List.length_map] at this
  omega
 have cl:∀ x c,(a3x X.env.cells scope.names []).lookup x = some c -> ∃ o v,f c = some o /\ o.data = .cell v /\ h₁.get? c = some o:=fun x c e => by
  obtain ⟨o,v,h1,h2⟩:=L.cell x c (sub x c e)
  exact ⟨o,v,h1,h2,hk _ _ (b1k e0.hok (hf c o h1))⟩
 have unN:∀ b,H b = none -> unl f H b = none:=fun b z => by
  cases e:f b with
  | none => rw [a04 e]; exact z
  | some o => exact a9E e
 have I:Inv (c8Q X.prog X.w X.K X.mg X.base (ps ++ cp.map (·.2)) q scope fa (.ref c) (a3x X.env.cells scope.names []) A outer s (unl f H)) [] ((vs ++ cv).map some) (unl f H) { s with heap:=h₁,toks:=s.toks + (ps.zip us).length }:=by
  have noA:∀ b:Addr,b ∉ (c8Q X.prog X.w X.K X.mg X.base (ps ++ cp.map (·.2)) q scope fa (.ref c) (a3x X.env.cells scope.names []) A outer s (unl f H)).ex:=fun b z => absurd (show b ∈ ([]:List Addr) from z) (by simp)
  refine ⟨⟨e0.mod,kind,rfl,rfl,Nat.le_refl _,fun y z c h1 h2 => L.inj y z c (sub _ _ h1) (sub _ _ h2),fun y hy => ?_,(fun y c z _ => by cases z),fun _ => hr.hd,Around.frames_deeper e0.frames,.inr ⟨rfl,rfl⟩,fun b z => absurd z (noA b),fun b o z => ⟨(e0.bs b o z).1,unN b (e0.bs b o z).2⟩,e0.bsz,fun b _ _ => noA b,fun b z => absurd z (noA b),e0.funs,fun b z => unN b (e0.frf b z)⟩,
   rfl,e0.bare,Un.kept hk,⟨_,hns,fun i y v h1 h2 h3 => ?_⟩,fun y c h => ?_,hok'.fresh (Nat.le_refl _),fun y c h => ?_,fun p hp => absurd (show p ∈ ([]:List (Addr × Obj)) from hp) (by simp),hok'.kept hk,by rw [List.length_map]; exact hl2⟩
  ·have hy':scope.names.lookup y = some .cell ∨ scope.names.lookup y = some .free:=hy
   rcases hy' with hy' | hy'
   ·exact absurd rfl (nocell _ (PySem.mem_of_lookup hy'))
   ·exact a7R (PySem.mem_of_lookup hy')
  ·rw [List.getElem?_map] at h2
   have h2':(vs ++ cv)[i]? = some v:=by
    cases z:(vs ++ cv)[i]? with
    | none => rw [z] at h2; cases h2
    | some v' => rw [z] at h2; cases h2; rfl
   by_cases hi:i < ps.length
   ·have h1':ps[i]? = some y:=by
     have:(ps ++ cp.map (·.2))[i]? = some y:=h1
     rw [List.getElem?_append_left hi] at this
     exact this
    rw [List.getElem?_append_left (by omega)] at h2'
    obtain ⟨u,hu,ru⟩:=r.get h2'
    exact ⟨u,ru,.inl ⟨par y (List.mem_of_getElem? h1'),d0i (List.nodup_append.mp nd).1 hus h1' hu⟩⟩
   ·have h1':(cp.map (·.2))[i - ps.length]? = some y:=by
     have:(ps ++ cp.map (·.2))[i]? = some y:=h1
     rw [List.getElem?_append_right (by omega)] at this
     exact this
    rw [List.getElem?_append_right (by omega),hl] at h2'
    rw [List.getElem?_map] at h1'
    cases hp:cp[i - ps.length]? with
    | none => rw [hp] at h1'; cases h1'
    | some p =>
     rw [hp] at h1'
     cases h1'
     have h4:σ[p.1]? = some (some v):=by
      have:=congrArg (fun l => l[i - ps.length]?) hcv
      simp only [List.getElem?_map,hp,h2',Option.map_some] at this
      exact Option.some.inj this
     obtain ⟨g1,g2,g3⟩:=hcp p (List.mem_of_getElem? hp)
     obtain ⟨c',o',u,k1,k2,k3,k4⟩:=L.val p.1 p.2 v g1 h4 g2
     obtain ⟨c2,k5⟩:=a7R (cells:=X.env.cells) (acc:=[]) (PySem.mem_of_lookup g3)
     have k6:=sub _ _ k5
     rw [k1] at k6
     cases k6
     exact ⟨u,k4,.inr ⟨.inr g3,c',k5,o',hk _ _ (b1k e0.hok (hf c' o' k2)),k3⟩⟩
  ·obtain ⟨o,v,_,z1,z2⟩:=cl y c h
   exact ⟨v,o,z2,z1⟩
  ·obtain ⟨o,v,z,_⟩:=cl y c h
   exact a9E z
 refine PySem.W.kla_codeExpr (wpAny_mono (ht [] _ _ _ _ I hq) (fun u s' ⟨v,H',J,rv,qv⟩ => ?_) fun e s' hs => False.elim hs)
 obtain ⟨u1,u2⟩:=d0e hf e0.hok e0.frf (show Un (frs outer) [] (unl f H) H' s.heap s'.heap from J.base) J.hok
 exact ⟨v,lend f H',J.os,J.bare,u1,u2,rv,qv fun b o e => J.base.free b o (b1k e0.hok (hf b o e)) (a9E e) (by simp [c8Q])⟩
abbrev b7N (tabs:List (Addr × Addr)) (H:Hp):Prop:=∀ z ∈ tabs,H z.2 = some (TabC z.2 [])
abbrev b1F (tabs:List (Addr × Addr)) (H:Hp):Prop:=∀ z ∈ tabs,∃ S,H z.2 = some (TabC z.2 S)
theorem c8t {P:Program} {w:World} {K:PySem.W.Frag} {mg mb:Str -> Option Value} {CX:CXT} {k:Nat} {fa a:Addr} {fd:FuncData} {x:Str} {sp:Sp} {s₁:Shared} {vs:List Value} {ns:List Int} {tabs:List (Addr × Addr)}
 (KX:K.In s₁.heap) (hns:s₁.heap.Ns mainGlobals mg) (hb:s₁.heap.Ns builtinsNs mb) (hbb:∀ x:Str,x ≠ "__name__" -> mb x = bootBuiltins x) (hlim:s₁.heap.NoLimit) (hg:s₁.gens = #[])
 (ha:s₁.heap.get? a = some { cls:=.type "list", data:=.seq vs.toArray }) (hi:IntsAre vs ns) (hl:ns.length <= sizeLine) (hr:Room k callerA)
 (hT:∀ z ∈ tabs,PySem.W.CodeHd s₁.heap z.1 z.2 /\ s₁.heap.get? z.2 = some (PySem.W.tabObj #[]) /\ K.lookup z.2 = none)
 (hbm:∃ bm ob,mg "__builtins__" = some (.ref bm) /\ bm ≠ builtinsNs /\ s₁.heap.get? bm = some ob /\ ob.cls = .type "module" /\ ob.dict = some builtinsNs /\ ob.data = .plain)
 (F:∀ base:Heap,K.In base -> base.Ns mainGlobals mg -> (∀ z ∈ tabs,b2L mg base z.1 z.2) -> FnOk P w K mg base CX k fa fd [x] sp) (hbind:∀ (s:Shared) (u:Value),BindsTo s fd ⟨[u],[]⟩ [(x,u)])
 (hsp:∀ H:Hp,b7N tabs H -> SqL K H a (ns.map V.int) -> sp [.ref a] H (fun v H' => v = .bl true /\ b1F tabs H') fun _ _ _ => False)
 (hCX:∀ H e s',CX [] H s₁ (fun _ _ _ => False) e s' -> False) :
 codeAny (model P w) callerA (.call (.ref fa) ⟨[.ref a],[]⟩) (fun r s' => r = .ok (.ret (.bool true)) /\ OldK s₁.heap s'.heap /\ s'.os = s₁.os /\ AllBare s'.gens) s₁:=by
 have rv:=c4F hi
 have lenV:=hi.length
 have neT:∀ z ∈ tabs,z.2 ≠ a:=fun z hz e => by
  have e1:=(hT z hz).2.1
  rw [e,ha] at e1
  cases e1
 have core:∀ H:Hp,b7N tabs H -> (∀ b,H b = none ∨ (b = a /\ K.lookup a = none /\ ∃ o xs,H b = some (.frz o (.lst xs))) ∨ ∃ z ∈ tabs,b = z.2) -> SqL K H a (ns.map V.int) -> HOk P w H s₁.heap ->
  codeAny (model P w) callerA (.call (.ref fa) ⟨[.ref a],[]⟩) (fun r s' => r = .ok (.ret (.bool true)) /\ OldK s₁.heap s'.heap /\ s'.os = s₁.os /\ AllBare s'.gens) s₁:=by
  intro H hTb hO hS hok
  have base_of:∀ {b:Addr} {o:Obj},s₁.heap.get? b = some o -> H b = none -> (hidT s₁.heap H).get? b = some o:=fun e n => c9E e n
  have free:∀ {b:Addr} {o:Obj},s₁.heap.get? b = some o -> o ≠ { cls:=.type "list", data:=.seq vs.toArray } -> o ≠ PySem.W.tabObj #[] -> H b = none:=fun {b o} e n1 n2 => by
   rcases hO b with z | ⟨rfl,_,_⟩ | ⟨z,hz,rfl⟩
   ·exact z
   ·rw [ha] at e; exact absurd (Option.some.inj e).symm n1
   ·rw [(hT z hz).2.1] at e; exact absurd (Option.some.inj e).symm n2
  have noA:∀ {b:Addr} {o:Obj} {es:Array DictEntry} {ep:Nat},s₁.heap.get? b = some o -> o.data = .dict es ep -> H b = none:=fun {b o es ep} e d =>
   free e (fun z => by rw [z] at d; cases d) (fun z => by rw [z] at d; cases d)
  have nsK:∀ {b:Addr} {m:Str -> Option Value},s₁.heap.Ns b m -> (hidT s₁.heap H).Ns b m:=fun {b m} ⟨o,es,ep,e,d,r⟩ => ⟨o,es,ep,base_of e (noA e d),d,r⟩
  have hKb:K.In (hidT s₁.heap H):=fun b o e => base_of (KX b o e) (by
   rcases hO b with z | ⟨rfl,z,_⟩ | ⟨z,hz,rfl⟩
   ·exact z
   ·rw [z] at e; cases e
   ·rw [(hT z hz).2.2] at e; cases e)
  have hM:Mod K mg (hidT s₁.heap H):=⟨hKb,nsK hns,⟨mb,nsK hb,hbb⟩,let ⟨mc,h1,h2⟩:=hlim; ⟨mc,nsK h1,h2⟩⟩
  have e0:Env0 P w K mg (hidT s₁.heap H) callerA [] s₁ H:=⟨rfl,hM,fun b o e => d0h e,Nat.le_of_eq (c7F _ _),trivial,fun b hb => absurd (show b ∈ ([]:List Addr) from hb) (by simp),hok,.of_eq hg⟩
  have hMk:∀ z ∈ tabs,b2L mg (hidT s₁.heap H) z.1 z.2:=fun z hz => by
   obtain ⟨⟨o,ws,file,tf,flags,tg,inF,text,tt,e1,e2,r⟩,e3,_⟩:=hT z hz
   obtain ⟨bm,ob,b1,b2,b3,b4,b5,b6⟩:=hbm
   refine ⟨⟨o,ws,file,tf,flags,tg,inF,text,tt,base_of e1 (free e1 (fun q => by rw [q] at e2; exact absurd (Value.type.inj e2) (by decide)) (fun q => by rw [q] at e2; cases e2)),e2,r⟩,bm,ob,b1,b2,fun q => ?_,fun q => ?_,base_of b3 (free b3 (fun q => by rw [q] at b4; exact absurd (Value.type.inj b4) (by decide)) (fun q => by rw [q] at b4; cases b4)),b4,b5,b6⟩
   ·obtain ⟨o',es,ep,e',d',_⟩:=hns
    rw [q,e'] at b3; cases b3; rw [d'] at b6; cases b6
   ·rw [q,e3] at b3; cases b3; cases b4
  refine codeAny_mono ((F _ hKb (nsK hns) hMk).run callerA [] s₁ H ⟨[.ref a],[]⟩ [.ref a] [.ref a] _ _ hr e0 (hbind s₁ (.ref a)) (.cons rfl .nil) (hsp H hTb hS)) fun r s' h => ?_
  cases r with
  | error e => exact (hCX H e s' h).elim
  | ok fl =>
   cases fl with
   | next => exact False.elim h
   | brk => exact False.elim h
   | cont => exact False.elim h
   | ret u =>
    obtain ⟨v,H',os,bare,un,hok',r',q⟩:=h
    obtain ⟨q',hT'⟩:v = .bl true /\ b1F tabs H':=q
    subst q'
    obtain rfl:u = Value.bool true:=r'
    refine ⟨rfl,⟨fun b o e => ?_,fun b o e => un.there b o e (by simp)⟩,os,bare⟩
    rcases hO b with z | ⟨rfl,_,ob,xs,z⟩ | ⟨z,hz,rfl⟩
    ·exact .inl (un.keep b o e z (by intro z; exact absurd (show b ∈ ([]:List Addr) from z) (by simp)) (by simp))
    ·have z2:=un.frzs b ob _ z
     obtain ⟨e1,_⟩:=hok b _ z
     obtain ⟨e2,_⟩:=hok' b _ z2
     rw [e] at e1; cases e1
     exact .inl e2
    ·obtain ⟨S4,z4⟩:=hT' z hz
     obtain ⟨⟨ps,e4,_⟩,_⟩:=hok' z.2 _ z4
     have e3:=(hT z hz).2.1
     rw [e3] at e
     cases e
     exact .inr (.inl ⟨((hT z hz).1.tab e3).isCodeTable,rfl,#[],ps,rfl,by rw [e4,Array.empty_append]⟩)
 have hTok:∀ (H:Hp) (z:Addr × Addr),z ∈ tabs -> a17 P w H s₁.heap z.2 (TabC z.2 []):=fun H z hz => c8X (hT z hz).2.1 trivial fun pos cv e => by cases e
 classical
 let Ht:Hp:=fun b => if b ∈ tabs.map (·.2) then some (TabC b []) else none
 have hHt:b7N tabs Ht:=fun z hz => if_pos (List.mem_map_of_mem hz)
 have ofHt:∀ b u,Ht b = some u -> ∃ z ∈ tabs,b = z.2 /\ u = TabC z.2 []:=fun b u e => by
  by_cases hb:b ∈ tabs.map (·.2)
  ·have e':=(if_pos hb).symm.trans e
   obtain ⟨z,hz,rfl⟩:=List.mem_map.mp hb
   exact ⟨z,hz,rfl,(Option.some.inj e').symm⟩
  ·have e':=(if_neg hb).symm.trans e
   cases e'
 cases hk:K.lookup a with
 | some o =>
  have e:=KX a o hk
  rw [ha] at e
  cases e
  refine core Ht hHt (fun b => ?_) (.inr ⟨_,vs.toArray,_,hk,rfl,rfl,rfl,by rw [List.size_toArray,lenV]; exact hl,by simpa using rv⟩) (fun b u z => ?_)
  ·cases q:Ht b with
   | none => exact .inl rfl
   | some u => obtain ⟨z,hz,e,_⟩:=ofHt b u q; exact .inr (.inr ⟨z,hz,e⟩)
  ·obtain ⟨y,hy,rfl,rfl⟩:=ofHt b u z
   exact hTok _ y hy
 | none =>
  refine core (fun b => if b = a then some (.frz { cls:=.type "list", data:=.seq vs.toArray } (.lst (ns.map V.int))) else Ht b) (fun z hz => ?_) (fun b => ?_) (.inl (.inr ⟨{ cls:=.type "list", data:=.seq vs.toArray },if_pos rfl⟩)) (fun b u z => ?_)
  ·exact (if_neg (neT z hz)).trans (hHt z hz)
  ·by_cases hb:b = a
   ·exact .inr (.inl ⟨hb,hk,_,_,if_pos hb⟩)
   ·cases q:Ht b with
    | none => exact .inl (if_neg hb)
    | some u => obtain ⟨z,hz,e,_⟩:=ofHt b u q; exact .inr (.inr ⟨z,hz,e⟩)
  ·by_cases hb:b = a
   ·have z':=(if_pos hb).symm.trans z
    cases z'
    subst hb
    exact ⟨ha,by rw [List.length_map]; exact hl,vs,_,rv,ha⟩
   ·have z':=(if_neg hb).symm.trans z
    obtain ⟨y,hy,rfl,rfl⟩:=ofHt b u z'
    exact hTok _ y hy
end L2
namespace L2
open PySem PySem.Spec PyProof.Rows
def d2t (P:Program) (w:World) (K:PySem.W.Frag) (mg:Str -> Option Value) (base:Heap) (k:Nat) (m:Str) (ta:TE) (t:TA):TE:=fun σ H Q => ta σ H fun x H1 => ∃ a C dx fs fa sp,x = .ref a /\ H1 a = some (.ins C dx fs) /\ Cls K C /\ a0F K C m /\ fs.lookup m = some (.ref fa) /\ a6X P w K mg base k fa sp /\ t σ H1 fun vs H2 => sp vs H2 Q E0
section
variable {X:Cx} {k:Nat} {m:Str} {p pos apos:Pos} {e o:Expr} {es:List Expr} {ta:TE} {t:TA}
theorem c9w {pl:Sem Bool} (he:PE X o ta) (hr:Room k X.A) (ha:PA X (e :: es) t)
 (hst:starEach (e :: es) X.env = (false,eval e X.env) :: starEach es X.env:=by rfl) (hpl:(backTo pos (starEach es X.env)).any (·.1) = false:=by rfl)
 (ht:eval (.Call (.Attribute o m apos) (e :: es) [] pos) X.env = (do
  let ov <- eval o X.env
  standAt apos.atName
  let (f,first) <- holding [ov] (getMethod ov m pl)
  callWith pos f first (backTo pos (starEach (e :: es) X.env)) (backToKw pos (keywordEach [] X.env))):=by rfl) :
 PE X (.Call (.Attribute o m apos) (e :: es) [] pos) (d2t X.prog X.w X.K X.mg X.base k m ta t):=by
 intro pins s σ H Q I h
 refine PySem.W.methodCall_KW (pl:=pl) (thn (he pins s σ H _ I h) fun u s1 ⟨x,H1,I1,rx,a,C,dx,fs,fa,sp,ex,ea,c,n,l,F,q⟩ => ?_) ht
 subst ex
 obtain rfl:u = Value.ref a:=rx
 obtain ⟨mA,O,_,_,_,_⟩:=b7S I1.hok ea
 obtain ⟨od,J,_⟩:=O.look
 refine PySem.W.method_usual (r:=none) I1.kIn J (PySem.W.plainGet_of (c.get m)).1 (PySem.W.plainGet_of (c.get m)).2 n rfl ?_
 refine b9N I1 ea c n l fun u2 s2 I2 ru => ?_
 obtain rfl:u2 = Value.ref fa:=ru
 show wpAny _ _ (callWith pos (.ref fa) [] (backTo pos (starEach (e :: es) X.env)) []) _ _ _
 rw [hst]
 refine PySem.W.callWith_of (P:=fun h => ∃ c d fd sl,h.get? fa = some ⟨c,d,.func fd,sl⟩) (by show ((false || (backTo pos (starEach es X.env)).any (·.1)) || false) = false; rw [hpl]; rfl)
  (fun h ⟨c,d,fd,sl,z⟩ => ⟨.frame,.inl rfl,(PySem.W.Looks.ld (part:=none) z).andThen .now⟩) (PySem.Calls.evalArgs_plain ?_)
 have ha':=ha pos pins s2 σ H1 _ I2 q
 rw [hst] at ha'
 refine thn ha' fun us s3 ⟨vs,H2,I3,r,q2⟩ => ?_
 obtain ⟨c,d,fd,sl,z⟩:=F.fn _ _ _ _ q2
 refine ⟨⟨c,d,fd,sl,b1k I3.hok z⟩,?_⟩
 refine wpAny_call (codeAny_mono (F.run X.A X.stack s3 H2 us vs Q E0 hr I3.env0 r q2) fun r s' hq => ?_)
 cases r with
 | error e => exact False.elim hq
 | ok fl =>
  cases fl with
  | ret u => exact I3.after hq
  | next => exact False.elim hq
  | brk => exact False.elim hq
  | cont => exact False.elim hq
end
structure d2Z where
 nx:St -> Hp -> Prop
 rt:V -> St -> Hp -> Prop
abbrev TSR:=d2Z -> St -> Hp -> Prop
end L2
namespace L2
open PySem PySem.Spec PyProof.Rows
structure PEw (X:Cx) (e:Expr) (t:TE):Prop where
 run:PE X e t
structure PAw (X:Cx) (es:List Expr) (t:TA):Prop where
 run:PA X es t
structure PTw (X:Cx) (e:Expr) (t:TT):Prop where
 run:PT X e t
structure PSw (X:Cx) (st:Stmt) (t:TS):Prop where
 run:PS X st t
structure PSsw (X:Cx) (st:List Stmt) (t:TS):Prop where
 run:PSs X st t
section
variable {X:Cx} {es:List Expr} {te:TE} {t u:TA}
theorem c7V {x j} {pos:Pos}:PEw X (.Constant (.str x) j pos) (tC (.str x)):=⟨a1o⟩
end
section
variable {X:Cx} {st:Stmt} {rest:List Stmt} {t u:TS} {pos:Pos}
theorem d0I {i:Nat} {x:Str} {e:Expr} {te:TE} {pos':Pos} (hN:X.N.Nodup) (hi:X.N[i]? = some x) (hx:Loc X.env.scope x) (he:PEw X e te) (hs:swapsWith e (some (.Name x pos')) pos.line X.env = pure false:=by rfl) (hf:X.fn x = true ∨ X.env.scope.names.lookup x = some .local:=by first | exact .inl rfl | exact .inr rfl | assumption) :
 PSw X (.Assign [.Name x pos'] e pos) (tAsg te (c7l i)):=⟨a0B hN hi hx he.run hs hf⟩
theorem b37 (h1:PSw X st t) (h2:PSsw X rest u):PSsw X (st :: rest) (tSeq t u):=⟨a0d h1.run h2.run⟩
end
end L2
namespace L2
open PySem PySem.Spec PyProof.Rows
theorem c78:typeLookup (.type "list_reverseiterator") "__len__" = pure none:=by rw [typeLookup_type,builtinLookup_eq_fast]; kernel_rfl
theorem c9t:typeLookup (.type "list_reverseiterator") "__length_hint__" = pure (some (.builtin "list_reverseiterator.__length_hint__")):=by rw [typeLookup_type,builtinLookup_eq_fast]; kernel_rfl
section
variable {prog:Program} {w:World} {A:Around} {s:Shared}
theorem c9j {E:Value -> Shared -> Prop} {r:Addr} {Q:Bool -> Shared -> Prop} (hT:s.TypeIs (.ref r) "list_reverseiterator") (h:Q false s):wpAny (model prog w) A (Builtin.List.listLengthHint (.ref r)) Q E s:=by
 unfold Builtin.List.listLengthHint
 refine wpAny_bind (wpAny_specialOf hT c78 ?_)
 show wpAny _ A (specialOf (Value.ref r) (Str.ofString "__length_hint__") >>= _) _ _ _
 refine wpAny_bind (wpAny_specialOf hT c9t ?_)
 generalize hid:("list_reverseiterator.__length_hint__" : String) = id0
 wp_delta
 rw [show splitId id0 = some ("list_reverseiterator", "__length_hint__") from by subst hid; decide +kernel]
 subst hid
 refine wpAny_bind (wpAny_isInstance (b:=true) hT (by rw [isSubtype_type]; kernel_rfl) ?_)
 exact wpAny_pure h
theorem c9J {R:Result -> Shared -> Prop} (hh:A.handled = none) {I l S:Addr} {items:Array Value} (hne:l ≠ I) (hit:s.heap.IsRevIter I l ((items.size:Int) - 1)) (hl:s.heap.IsList l items) (hSI:S ≠ I) (hSl:S ≠ l)
 (hS:s.heap.get? S = some { cls:=.type "list", data:=.seq #[] }) (hn:items.size <= sizeLine)
 (hR:∀ h' tk acc' c',(∀ b o,b ≠ S -> b ≠ I -> s.heap.get? b = some o -> h'.get? b = some o) -> h'.get? S = some { cls:=.type "list", dict:=none,data:=.seq acc' c',slots := #[] } -> ItemsOf (fun i v => items[items.size - 1 - i]? = some v) acc' items.size -> R (.ok (.ret .none)) { s with heap:=h',toks:=tk }) :
 wpAny (model prog w) A.in1 (Builtin.«list.__init__» ⟨[.ref S,.ref I],[]⟩)
  (fun fin s' => match fin with | .done f => R (.ok f) s' | .again c' => c'.quiet = true /\ codeAny (model prog w) A c' R s') (fun e s' => R (.error e) s') s:=by
 have W:=Walks.listRev (prog:=prog) (w:=w) (A:=A.in1) hh I l hne items
 have hSf:S ∉ [I,l]:=by simp only [List.mem_cons,List.not_mem_nil,or_false,not_or]; exact ⟨hSI,hSl⟩
 have e0:(items.size:Int) - 1 - ((0:Nat):Int) = (items.size:Int) - 1:=by omega
 show wpAny _ A.in1 (do let old <- Builtin.List.listItems (.ref S); Builtin.List.listUpdate (.ref S) (fun _ => #[]); letGo old.toList.reverse; Builtin.List.listExtendWith (.ref S) (.ref I) .none) _ _ s
 refine wpAny_bind ?_
 unfold Builtin.List.listItems
 refine wpAny_bind (wpAny_seqItems hS rfl (wpAny_pure ?_))
 show wpAny _ A.in1 (updateSeq S (fun _ => #[]) >>= fun _ => letGo (#[]:Array Value).toList.reverse >>= fun _ => Builtin.List.listExtendWith (.ref S) (.ref I) .none) _ _ s
 refine wpAny_bind (wpAny_updateSeq hS rfl ?_)
 have hS₂:=Heap.get?_update_self (Obj.mapSeq (fun _ => (#[]:Array Value))) hS rfl
 have oth:∀ b o,b ≠ S -> s.heap.get? b = some o -> (s.heap.update S (Obj.mapSeq (fun _ => (#[]:Array Value)))).get? b = some o :=
  fun b o hb e => (Heap.get?_update_other _ _ (Ne.symm hb)).trans e
 refine wpAny_bind (wpAny_letGo ?_)
 have hit2:=hit.at (h':=s.heap.update S (Obj.mapSeq (fun _ => (#[]:Array Value)))) fun o e => oth I o hSI.symm e
 have hl2:=hl.at (h':=s.heap.update S (Obj.mapSeq (fun _ => (#[]:Array Value)))) fun o e => oth l o hSl.symm e
 unfold Builtin.List.listExtendWith
 refine wpAny_bind (wpAny_typeOf hit2.typeIs ?_)
 have h1:Builtin.List.listSameRef (.ref S) (.ref I) = false:=by simp [Builtin.List.listSameRef,hSI]
 have h2:(Value.type "list_reverseiterator" == Value.type "list") = false:=by decide
 have h3:(Value.type "list_reverseiterator" == Value.type "tuple") = false:=by decide
 simp only [h1,h2,h3,Bool.or_false,Bool.false_eq_true,if_false]
 refine wpAny_bind (wpAny_pyIter_revIter hit2 ?_)
 refine wpAny_bind (wpAny_holding (c9j hit2.typeIs ?_))
 rw [if_neg (by decide)]
 refine wpAny_pure ⟨plainId_quiet F.plain_extend_loop _,codeAny_extend_loopS W.toS hn S hSf .none items.size 0 _ #[] _ rfl (Nat.zero_le _) ⟨Nat.zero_le _,by rw [e0]; exact hit2,hl2⟩ hS₂ (ItemsOf.nil _) fun s' acc' c' hm hS' hacc => ?_⟩
 rw [Moved.eq_with hm]
 refine hR s'.heap s'.toks acc' c' (fun b o hb hbI e => hm.heap b o (fun hmem => ?_) (oth b o hb e)) hS' hacc
 rcases List.mem_cons.mp hmem with e' | hmem
 ·exact hb e'
 ·exact hbI (List.mem_singleton.mp hmem)
theorem c9D {E:Value -> Shared -> Prop} {Q:Value -> Shared -> Prop} (hh:A.handled = none) {I l:Addr} {items:Array Value} (hne:l ≠ I) (hit:s.heap.IsRevIter I l ((items.size:Int) - 1)) (hl:s.heap.IsList l items) (hn:items.size <= sizeLine)
 (hQ:∀ h' tk acc' c',(∀ b o,b ≠ I -> s.heap.get? b = some o -> h'.get? b = some o) -> h'.get? s.heap.objs.size = some { cls:=.type "list", dict:=none,data:=.seq acc' c',slots := #[] } -> ItemsOf (fun i v => items[items.size - 1 - i]? = some v) acc' items.size -> Q (.ref s.heap.objs.size) { s with heap:=h',toks:=tk }) :
 wpAny (model prog w) A (call (.type "list") [.ref I]) Q E s:=by
 refine callType_codes (Q₁:=fun obj s₁ => obj = .ref s.heap.objs.size /\ s₁ = { s with heap:=s.heap.push { cls:=.type "list", data:=.seq #[] } }) F.called_list (F.typeCall_list_1 _) F.entry_list_init
  (code_list_new _ ⟨rfl,rfl⟩) fun obj s₁ h₁ => ?_
 obtain ⟨rfl,rfl⟩:=h₁
 have hS:(s.heap.push { cls:=.type "list", data:=.seq #[] }).get? s.heap.objs.size = some { cls:=.type "list", data:=.seq #[] }:=Heap.get?_push_size _ rfl
 have ltI:I < s.heap.objs.size:=let ⟨o,ho,_⟩:=hit; Heap.lt_size ho
 have ltl:l < s.heap.objs.size:=let ⟨o,ho,_⟩:=hl; Heap.lt_size ho
 refine ⟨⟨_,hS,rfl⟩,F.args_list_init_2 _ _,c9J (A:=A.in1) hh hne (hit.at fun o e => Heap.get?_push_of_some _ e) (hl.at fun o e => Heap.get?_push_of_some _ e) (Nat.ne_of_gt ltI) (Nat.ne_of_gt ltl) hS hn fun h' tk acc' c' hk hS' hacc => ?_⟩
 exact ⟨rfl,hQ h' tk acc' c' (fun b o hb e => hk b o (Nat.ne_of_lt (Heap.lt_size e)) hb (Heap.get?_push_of_some _ e)) hS' hacc⟩
end
def c9i (K:PySem.W.Frag) (te:TE):TE:=fun σ H Q => te σ H fun x H1 => ∃ p ys,x = .ref p /\ SqL K H1 p ys /\ ∀ l,H1 l = none -> Q (.ref l) (upd H1 l (.lst ys.reverse))
section
variable {X:Cx} {e:Expr} {te:TE} {x x':Str} {p p' pos pos':Pos}
theorem c6L (hc:X.calm = true) (he:PE X e te) (hg:Gl X x) (hm:X.mg x = none) (hv:bootBuiltins x = some (.type "list")) (hg':Gl X x') (hm':X.mg x' = none) (hv':bootBuiltins x' = some (.type "reversed"))
 (hn:x ≠ "__name__" := by decide) (hdb:(x == ("__debug__" : Str)) = false:=by decide) (hn':x' ≠ "__name__" := by decide) (hdb':(x' == ("__debug__" : Str)) = false:=by decide)
 (h1:starEach [e] X.env = [(false,eval e X.env)]:=by rfl) (h2:starEach [.Call (.Name x' p') [e] [] pos'] X.env = [(false,eval (.Call (.Name x' p') [e] [] pos') X.env)]:=by rfl) :
 PE X (.Call (.Name x p) [.Call (.Name x' p') [e] [] pos'] [] pos) (c9i X.K te):=by
 intro pins s σ H Q I h
 refine wpAny_Call_Name_kw (b9D I hg hm hv ?_ hn hdb)
 refine PyProof.Rows.callWith_type1 ?_ h2 rfl
 rw [h2]
 refine Calls.spliced_cons ?_
 refine wpAny_Call_Name_kw (b9D I hg' hm' hv' ?_ hn' hdb')
 refine PyProof.Rows.callWith_type1 ?_ h1 rfl
 rw [h1]
 refine Calls.spliced_cons (thn (he pins s σ H _ I h) fun u s1 ⟨v,H1,I1,rv,q,ys,ex,hq,k⟩ => ?_)
 subst ex
 cases rv
 refine Calls.spliced_nil ?_
 obtain ⟨its,r',pl,hz⟩:=I1.list hq
 have hlen:=r'.length
 refine call_reversed_list pl.isList ?_
 refine Calls.spliced_nil ?_
 have hsz:its.toArray.size = its.length:=by simp
 have kp1:∀ b o,s1.heap.get? b = some o -> (s1.heap.push (revObj q ((its.toArray.size:Int) - 1))).get? b = some o:=fun b o e => Heap.get?_push_of_some _ e
 have I2:Inv X pins σ H1 { s1 with heap:=s1.heap.push (revObj q ((its.toArray.size:Int) - 1)) }:=I1.kept (t':=s1.toks) kp1
 have hD:(s1.heap.push (revObj q ((its.toArray.size:Int) - 1))).get? s1.heap.objs.size = some (revObj q ((its.toArray.size:Int) - 1)):=Heap.get?_push_size _ rfl
 have hit:(s1.heap.push (revObj q ((its.toArray.size:Int) - 1))).IsRevIter s1.heap.objs.size q ((its.toArray.size:Int) - 1):=⟨_,hD,rfl,rfl⟩
 have ltq:q < s1.heap.objs.size:=by obtain ⟨o,ho,_⟩:=pl.isList; exact Heap.lt_size ho
 refine c9D (s:={ s1 with heap:=s1.heap.push (revObj q ((its.toArray.size:Int) - 1)) }) (I2.ok.hd hc) (Nat.ne_of_lt ltq) hit (pl.isList.at fun o e => kp1 q o e) (by rw [hsz]; omega) fun h' tk acc c hk hS hI => ?_
 have its':acc.toList.length = ys.reverse.length:=by rw [Array.length_toList,hI.1,hsz,List.length_reverse]; omega
 have hvals:Vals ys.reverse acc.toList:=c5g its' fun j y u e1 e2 => by
  rw [Array.getElem?_toList] at e2
  have e3:=hI.2 j u e2
  have hj:j < ys.length:=by
   have:=(List.getElem?_eq_some_iff.mp e1).1
   simpa using this
  rw [List.getElem?_reverse hj] at e1
  have e4:its[its.length - 1 - j]? = some u:=by simpa using e3
  rw [<- hlen] at e4
  obtain ⟨u',e5,r5⟩:=Vals.get r' e1
  rw [e4] at e5
  cases e5
  exact r5
 let s2:Shared:={ s1 with heap:=s1.heap.push (revObj q ((its.toArray.size:Int) - 1)) }
 have I2':Inv X pins σ (upd H1 s2.heap.objs.size (.lst ys.reverse)) { s2 with heap:=s2.heap.push { cls:=.type "list", dict:=none,data:=.seq acc c,slots := #[] },toks:=tk }:=by
  refine I2.laid (t':=tk) (o:=.lst ys.reverse) (fun b o e => Heap.get?_push_of_some _ e) (Nat.le_refl _) ?_
  exact ⟨by rw [List.length_reverse]; exact hz,acc.toList,c,hvals,by rw [Array.toArray_toList]; exact Heap.get?_push_size _ rfl⟩
 have ltD:s1.heap.objs.size < s2.heap.objs.size:=Heap.lt_size hD
 have I3:Inv X pins σ (upd H1 s2.heap.objs.size (.lst ys.reverse)) { s1 with heap:=h',toks:=tk }:=by
  refine Inv.turned (s:={ s2 with heap:=s2.heap.push { cls:=.type "list", dict:=none,data:=.seq acc c,slots := #[] },toks:=tk }) (it:=s1.heap.objs.size) I2' (fun b o hb e => ?_) (by rw [a0g (Nat.ne_of_lt ltD)]; exact I1.hok.fresh (Nat.le_refl _)) ?_ (.inr I1.sz) ?_ ?_
  ·by_cases z:b = s2.heap.objs.size
   ·subst z
    rw [show (s2.heap.push { cls:=.type "list", dict:=none,data:=.seq acc c,slots := #[] }).get? s2.heap.objs.size = some { cls:=.type "list", dict:=none,data:=.seq acc c,slots := #[] } from Heap.get?_push_size _ rfl] at e
    rw [<- e]
    exact hS
   ·rcases Heap.get?_push_cases e with ⟨z',_⟩ | e
    ·exact absurd z' z
    ·exact hk b o hb e
  ·obtain ⟨m,⟨o,_,_,ho,_⟩,_⟩:=I1.loc
   exact Nat.ne_of_gt (Heap.lt_size ho)
  ·intro y c e
   obtain ⟨v,o,ho,_⟩:=I1.cell y c e
   exact Nat.ne_of_lt (Heap.lt_size ho)
  ·intro pr hp
   exact Nat.ne_of_lt (Heap.lt_size (I1.pin pr hp).1)
 exact ⟨.ref s2.heap.objs.size,_,I3,rfl,k _ (I2.hok.fresh (Nat.le_refl _))⟩
end
end L2
namespace L2
open PySem PySem.Spec PyProof.Rows
structure PPw (X:Cx) (pos:Pos) (keys:List (Option Expr)) (values:List Expr) (trs:List (TE × TE)):Prop where
 run:PPs X pos keys values trs
section
variable {X:Cx} {pos:Pos} {keys:List (Option Expr)} {values:List Expr} {trs:List (TE × TE)} {k v:Expr} {tk tv:TE}
theorem d1b:PPw X pos [] [] []:=⟨d0O⟩
theorem c6x (hk:PEw X k tk) (hv:PEw X v tv) (hr:PPw X pos keys values trs):PPw X pos (some k :: keys) (v :: values) ((tk,tv) :: trs):=⟨c9z hk.run hv.run hr.run⟩
theorem c9e (h:PPw X pos keys values trs) (hall:keys.all (·.isSome) = true:=by rfl) (hl:keys.length = values.length:=by rfl) (h0:keys ≠ []:=by simp) (h15:keys.length <= 15:=by decide):PEw X (.Dict keys values pos) (d1w trs):=⟨d0W h.run hall hl h0 h15⟩
end
theorem boxS {X:Cx} {st:List Stmt} {D:Ends} {σ:St} {H:Hp} (h:∃ t,PSsw X st t /\ t D σ H):∃ t,PSs X st t /\ t D σ H:=let ⟨t,h1,h2⟩:=h; ⟨t,h1.run,h2⟩
end L2
namespace L2
open PySem PySem.Spec PyProof.Rows
structure KDict (P:Params) (K:PySem.W.Frag) (p:Addr):Prop where
 ex:∃ (es:Array DictEntry) (n:Nat),K.lookup p = some ⟨.type "dict", none,.dict es n,#[]⟩ /\ PySem.W.KeysLit P es.toList
 lo:(p == sysModules) = false
end L2
namespace L2
open PySem PySem.Spec PyProof.Rows
section
variable {X:Cx}
theorem c8u (hc:X.calm = true):b4w X (.builtin "sum") (fun xs H Q => ∃ (p:Addr) (zs:List Int),xs = [.ref p] /\ SqL X.K H p (zs.map V.int) /\ Q (.int (zs.sum)) H):=by
 intro pins s σ H xs us Q I r h
 obtain ⟨p,zs,rfl,hp,q⟩:=h
 obtain ⟨u,rfl,rx⟩:=c3G r
 cases rx
 obtain ⟨its,r',pl,hz⟩:=I.list hp
 have hi:=b9O r'
 obtain ⟨xs,e⟩:=hi.allInts.items
 have hns:zs = xs.toList.map (·.1):=by rw [<- hi.numsOf,<- nums_intItems,<- e]
 have hl:=pl.isList
 rw [e] at hl
 refine sum_intListG (I.ok.hd hc) hl fun h' tk t' hk => ⟨.int zs.sum,H,I.kept hk,?_,q⟩
 rw [preSum_eq,List.take_of_length_le (by simp),<- hns]
 exact ⟨_,rfl⟩
theorem c7q (hc:X.calm = true):b4w X (.builtin "max") (fun xs H Q => ∃ (p:Addr) (zs:List Int),xs = [.ref p] /\ SqL X.K H p (zs.map V.int) /\ 0 < zs.length /\ ∀ M,M ∈ zs -> (∀ a ∈ zs,a <= M) -> Q (.int M) H):=by
 intro pins s σ H xs us Q I r h
 obtain ⟨p,zs,rfl,hp,hne,q⟩:=h
 obtain ⟨u,rfl,rx⟩:=c3G r
 cases rx
 obtain ⟨its,r',pl,hz⟩:=I.list hp
 have hi:=b9O r'
 obtain ⟨xs,e⟩:=hi.allInts.items
 have hns:zs = xs.toList.map (·.1):=by rw [<- hi.numsOf,<- nums_intItems,<- e]
 have hl:=pl.isList
 rw [e] at hl
 have hsz:0 < xs.size:=by
  have h3:=hne; rw [hns,List.length_map,Array.length_toList] at h3; exact h3
 refine max_intList (I.ok.hd hc) hl hsz fun v h' tk hv hk => ?_
 obtain ⟨t,rfl⟩:=intItems_at hv
 obtain ⟨h1,h2⟩:=argBest_gt (numAt xs) (xs.size - 1)
 refine ⟨.int _,H,I.kept hk,⟨t,rfl⟩,q _ ?_ fun a ha => ?_⟩
 ·rw [hns,numAt_eq]; exact getD_mem (by rw [List.length_map,Array.length_toList]; omega)
 ·rw [hns] at ha
  obtain ⟨j,hj,rfl⟩:=mem_getD ha
  rw [List.length_map,Array.length_toList] at hj
  rw [<- numAt_eq]; exact h2 j (by omega)
end
structure FnV (P:Program) (w:World) (K:PySem.W.Frag) (mg:Str -> Option Value) (base:Heap) (k:Nat) (fa:Addr) (sp:Sp):Prop where
 kp:PySem.W.keepIn K (.ref fa) = true
 run:∀ (A:Around) (outer:List Env) (s:Shared) (H:Hp) (us:List Value) (vs:List V) (Q:VK) (E:XK),Room k A -> Env0 P w K mg base A outer s H -> K.In s.heap -> Vals vs us -> sp vs H Q E ->
  codeAny (model P w) A (.call (.ref fa) ⟨us,[]⟩) (CR CX0 outer P w H s Q E) s
end L2
namespace L2
open PySem PySem.Spec PyProof.Rows
theorem b5x (z:Str):∀ zs:List Str,inV (.str z) (zs.map V.str) = decide (z ∈ zs)
 | [] => rfl
 | y :: r => by
  have ih:=b5x z r
  unfold inV at ih ⊢
  rw [List.map_cons,List.any_cons,ih]
  have e:eqV (.str y) (.str z) = decide (y = z):=by
   by_cases h:y = z <;> simp [eqV,h]
  rw [e,<- Bool.decide_or]
  congr 1
  rw [List.mem_cons]
  exact propext ⟨fun h => h.imp Eq.symm id,fun h => h.imp Eq.symm id⟩
theorem a5O:∀ zs:List Str,(zs.map V.str).all b97 = true
 | [] => rfl
 | y :: r => by
  rw [List.map_cons,List.all_cons,a5O r]
  rfl
end L2
namespace L2
open PySem PySem.Spec PyProof.Rows
structure MthT (K:PySem.W.Frag) (mg:Str -> Option Value) (cls m qual:Str) (st:Stmt) (z:Addr × Addr):Prop where
 ex:∃ C f fd,mg cls = some (.ref C) /\ Fun K m qual st f fd /\ PySem.W.findIn K (.ref C) m = some (some (.ref f)) /\ PySem.W.isFn K (.ref f) = true /\ fd.code = .ref z.1
 hd:PySem.W.codeHdIn K z.1 z.2 = true
section
variable {P:Program} {w:World} {K:PySem.W.Frag} {mg:Str -> Option Value} {base:Heap}
theorem d1d {h:Heap} {cls m qual:Str} {st:Stmt} {C f c p:Addr} {oc:Value} {od an:Option Addr} {osl:Array (Option Value)} {kV doc pm ct:Value} (X:K.In h) (G:h.Ns mainGlobals mg) (n:PySem.W.nsIn K mainGlobals cls = some (some (.ref C))) (a:PySem.W.findIn K (.ref C) m = some (some (.ref f))) (i:PySem.W.isFn K (.ref f) = true)
 (l:K.lookup f = some ⟨oc,od,.func (PySem.W.fnOf m qual (a0j st) (a0i st) (a0b st) .none kV doc pm an (.ref c) ct),osl⟩) (hc:PySem.W.codeIn K (.ref c) qual = true) (k:PySem.W.keepIn K (.ref f) = true) (hd:PySem.W.codeHdIn K c p = true):MthT K mg cls m qual st (c,p) :=
 ⟨⟨C,f,_,PySem.W.mg_of X G n,c6u l hc k,a,i,rfl⟩,hd⟩
theorem MthT.known {cls m qual:Str} {st:Stmt} {N ps:List Str} {k:Nat} {sp:Sp} {z:Addr × Addr} {C:Addr} (D:MthT K mg cls m qual st z) (hC:mg cls = some (.ref C)) (S:a0l N ps (a0b st))
 (hb:∀ (kV doc pm:Value) (an:Option Addr) (cdv ct:Value) (us:List Value),us.length = ps.length -> bindArgs (PySem.W.fnOf m qual (a0j st) (a0i st) (a0b st) .none kV doc pm an cdv ct) ⟨us,[]⟩ = pure (ps.zip us))
 (len:∀ vs H Q E,sp vs H Q E -> vs.length = ps.length)
 (hbody:∀ (f:Addr) (A:Around) (outer:List Env) (s:Shared) (H:Hp) (vs:List V) (Q:VK) (E:XK),Room k (A.deeper (envOfC qual (a0b st) s.heap.objs.size f (.ref z.1))) -> sp vs H Q E ->
  ∃ t,PSs (cxOf CX0 P w K mg base N qual (a0b st) f (.ref z.1) A outer s H E).nox (a0i st) t /\ t { nx:=fun _ H' => Q .non H',rt:=Q } (start N vs) H):a0k P w K mg base CX0 (k + 1) C m ps sp:=by
 obtain ⟨C',f,fd,hC',F,ha,hi,hc⟩:=D.ex
 rw [hC] at hC'
 cases hC'
 refine ⟨f,fd,?_,⟨ha,hi,F.kp⟩,F.binds hb⟩
 obtain ⟨oc,od,kV,doc,pm,an,cdv,ct,osl,rfl,lk,hcd⟩:=F.ex
 have e:cdv = .ref z.1:=hc
 subst e
 refine c98 lk hcd S len fun A outer s H vs Q E hr hsp => ?_
 obtain ⟨t,h,q⟩:=hbody f A outer s H vs Q E hr hsp
 exact ⟨t,h.nox,q⟩
end
theorem c9p {l:PySem.W.OpenLaw} {n k:Nat} {q:Program} {loose:List Str} {XP:(Str -> Option Value) -> Heap -> Prop} {YP:World -> Heap -> Prop} {d:DefRec} {K:Params -> PySem.W.Frag} {CX:World -> CXT} {sp:World -> List (Addr × Addr) -> Sp} {x:Str}
 (hn:l.most = some n) (hn2:n <= sizeLine) (hdf:d.params.defaults = []) (hr:Room k callerA)
 (hY:∀ (w:World) (h:Heap),YP w h -> (K w.params).In h)
 (F:∀ (w:World) (mg:Str -> Option Value) (fa:Addr) (h:Heap),YP w h -> (K w.params).In h -> h.Ns mainGlobals mg -> mg d.name = some (.ref fa) ->
  PySem.W.noTabs (K w.params) = true /\ ∃ tabs:List (Addr × Addr),(∀ z ∈ tabs,d2N q (K w.params) z ∨ (PySem.W.codeHdIn (K w.params) z.1 z.2 = true /\ h.get? z.2 = some (PySem.W.tabObj #[]))) /\ ∃ fd:FuncData,(∀ (s:Shared) (u:Value),BindsTo s fd ⟨[u],[]⟩ [(x,u)]) /\
   ∀ base:Heap,(K w.params).In base -> base.Ns mainGlobals mg -> (∀ z ∈ tabs,b2L mg base z.1 z.2) -> FnOk l.prog w (K w.params) mg base (CX w) k fa fd [x] (sp w tabs))
 (hsp:∀ (w:World) (tabs:List (Addr × Addr)) (H:Hp) (a:Addr) (ns:List Int),ns.length <= n -> b7N tabs H -> SqL (K w.params) H a (ns.map V.int) -> sp w tabs [.ref a] H (fun v H' => v = .bl true /\ b1F tabs H') fun _ _ _ => False)
 (hCX:∀ (w:World) (H:Hp) (s:Shared) (e:Value) (s':Shared),CX w [] H s (fun _ _ _ => False) e s' -> False) :
 PySem.W.WalkO q loose XP YP l.row.toRowW d [] (fun f vs => PySem.call f vs):=by
 refine Att.attach_call hn hdf fun w s₀ s₁ mg mb fa o pm cd doc a vs ns G Y ho hd hcd hmg hobj hints hlen hg => ?_
 have KX:=hY w _ Y
 obtain ⟨hnT,tabs,hTb,fd,hb,hF⟩:=F w mg fa _ Y KX G.T.g hmg
 refine c8t KX G.T.g G.T.b G.T.builtins G.T.nolimit hg hobj hints (Nat.le_trans hlen hn2) hr (fun z hz => ?_) G.T.bmain hF hb (fun H hO hS => hsp w tabs H a ns hlen hO hS) fun H e s' => hCX w H s₁ e s'
 rcases hTb z hz with t | ⟨t1,t2⟩
 ·obtain ⟨y,h1,h2⟩:=t.ex
  obtain ⟨d',h1⟩:=Option.isSome_iff_exists.mp h1
  obtain ⟨t1,t2⟩:=PySem.W.tab_of G.T KX h1 h2
  exact ⟨t1,t2,d1O hnT KX t2⟩
 ·exact ⟨PySem.W.codeHd_of_K KX t1,t2,d1O hnT KX t2⟩
end L2
namespace L2
open PySem PySem.Spec PyProof.Rows
theorem c36 {X:Cx}:b4w X (.builtin "isinstance") (fun xs H Q => ∃ x T t k,xs = [x,.ty T] /\ TyOf X.K H x t /\ PySem.W.kitOne X.K t (.type T) = some k /\ Q (.bl k) H):=by
 intro pins s σ H xs us Q I r h
 obtain ⟨x,T,t,k,rfl,ty,e,q⟩:=h
 cases r with
 | cons r1 rr =>
  cases rr with
  | cons r2 rr =>
   cases rr
   cases r2
   exact c7Q I r1 ty e fun tk => ⟨.bl k,H,I.tok tk,rfl,q⟩
end L2
namespace L2
open PySem PySem.Spec PyProof.Rows
structure c7v (X:Cx) (σ:St) (H:Hp) (f:Lend):Prop extends Lent X σ H f where
 only:∀ b o,f b = some o -> ∃ v,o.data = .cell v
theorem c9o {X:Cx} {pins:List (Addr × Obj)} {σ:St} {H:Hp} {s:Shared} (I:Inv X pins σ H s) (hfn:∀ x,X.fn x = true):∃ f:Lend,c7v X σ H f /\ (∀ b o,f b = some o -> H b = none /\ s.heap.get? b = some o /\ X.base.get? b = none /\ b ∉ frs X.stack):=by
 classical
 let f:Lend:=fun b => if (∃ x,X.env.cells.lookup x = some b) then s.heap.get? b else none
 have fe:∀ {b o},f b = some o -> (∃ x,X.env.cells.lookup x = some b) /\ s.heap.get? b = some o:=fun {b o} e => by
  by_cases z:∃ x,X.env.cells.lookup x = some b
  ·exact ⟨z,by rw [show f b = s.heap.get? b from if_pos z] at e; exact e⟩
  ·rw [show f b = none from if_neg z] at e; cases e
 have ff:∀ {x c},X.env.cells.lookup x = some c -> f c = s.heap.get? c:=fun {x c} e => if_pos ⟨x,e⟩
 refine ⟨f,⟨⟨fun b o e => ?_,fun x c e => ?_,fun i x v e1 e2 e3 => ?_,I.ok.inj⟩,fun b o e => ?_⟩,fun b o e => ?_⟩
 ·obtain ⟨⟨x,z⟩,_⟩:=fe e
  exact I.freeC x b z
 ·obtain ⟨v,o,ho,hd⟩:=I.cell x c e
  exact ⟨o,v,by rw [ff e]; exact ho,hd⟩
 ·obtain ⟨m,_,hl⟩:=I.loc
  obtain ⟨u,r,l⟩:=hl i x v e1 e2 (.inr (.inl e3))
  rcases l with ⟨k,_⟩ | ⟨_,c,ec,o,ho,hd⟩
  ·have k':X.env.scope.names.lookup x = some .local:=k
   rw [e3] at k'; cases k'
  ·exact ⟨c,o,u,ec,by rw [ff ec]; exact ho,hd,r⟩
 ·obtain ⟨⟨x,z⟩,g⟩:=fe e
  obtain ⟨v,o',ho,hd⟩:=I.cell x b z
  rw [g] at ho
  exact ⟨v,Option.some.inj ho ▸ hd⟩
 ·obtain ⟨⟨x,z⟩,g⟩:=fe e
  refine ⟨I.freeC x b z,g,?_,fun hb => ?_⟩
  ·exact Heap.get?_none_of_le (Nat.le_trans I.ok.bsz (I.ok.cab x b (hfn x) z))
  ·rcases List.mem_cons.mp (I.stkSub b hb) with e2 | hb
   ·exact I.cne x b z e2
   ·obtain ⟨_,ob,ho,_⟩:=I.ok.funs.mem hb
    exact absurd (Nat.lt_of_lt_of_le (Heap.lt_size ho) (I.ok.cab x b (hfn x) z)) (Nat.lt_irrefl _)
theorem c8E {X:Cx} {k:Nat} {fa:Addr} {fd:FuncData} {ps:List Str} {sp:Sp} {pins:List (Addr × Obj)} {σ:St} {H:Hp} {s:Shared} {Q:VK} {us:List Value} {vs:List V} (hfn:∀ x,X.fn x = true) (F:FnOk X.prog X.w X.K X.mg X.base CX0 k fa fd ps sp) (hr:Room k X.A) (hb:b2u X.K fd ps [])
 (I:Inv X pins σ H s) (r:Vals vs us) (h:∀ f,c7v X σ H f -> sp vs (lend f H) (fun v H' => Q v (unl f H')) E0):wpAny (model X.prog X.w) X.A (call (.ref fa) us) (EP X pins σ Q) X.xe s:=by
 obtain ⟨f,L,hf⟩:=c9o I hfn
 have q:=h f L
 have hl:(us ++ []).length = ps.length:=by rw [List.append_nil,<- r.length]; exact F.len _ _ _ _ q
 have e0:Env0 X.prog X.w X.K X.mg X.base X.A X.stack s (lend f H):=by
  have e:=I.env0
  refine ⟨e.frames,e.mod,fun b o z => ⟨(e.bs b o z).1,?_⟩,e.bsz,e.funs,fun b z => ?_,c1B e.hok fun b o z => ⟨(hf b o z).1,(hf b o z).2.1⟩,e.bare⟩
  ·cases q2:f b with
   | none => rw [a0Q q2]; exact (e.bs b o z).2
   | some ob => rw [(hf b ob q2).2.2.1] at z; cases z
  ·cases q2:f b with
   | none => rw [a0Q q2]; exact e.frf b z
   | some ob => exact absurd z (hf b ob q2).2.2.2
 have bd:=hb s us I.kIn hl
 rw [List.append_nil] at bd
 refine wpAny_call (codeAny_mono (F.run X.A X.stack s (lend f H) ⟨us,[]⟩ us vs _ E0 hr e0 bd r q) fun r s' hq => ?_)
 cases r with
 | error e => exact False.elim hq
 | ok fl =>
  cases fl with
  | ret u =>
   obtain ⟨v,H',os,bare,un,hok,rv,qv⟩:=hq
   obtain ⟨u1,u2⟩:=c8p (fun b o z => ⟨(hf b o z).1,(hf b o z).2.1⟩) un hok
   exact I.after ⟨v,_,os,bare,u1,u2,rv,qv⟩
  | next => exact False.elim hq
  | brk => exact False.elim hq
  | cont => exact False.elim hq
def d2e (X:Cx) (sp:Sp) (t:TA):TE:=fun σ H Q => t σ H fun vs H1 => ∀ f,c7v X σ H1 f -> sp vs (lend f H1) (fun v H' => Q v (unl f H')) E0
section
variable {X:Cx} {k:Nat} {C:Addr} {ps:List Str} {sp:Sp} {x m:Str} {p pos apos:Pos} {e o:Expr} {es:List Expr} {t:TA} {ta:TE} {CX:CXT} {E:XK}
theorem c81 (G:a0C X.prog X.w X.K X.mg X.base CX0 k x ps sp) (hr:Room k X.A) (ha:PA X (e :: es) t) (hg:Gl X x:=by rfl) (hfn:∀ x,X.fn x = true:=by exact fun _ => rfl) (hdb:(x == ("__debug__" : Str)) = false:=by decide)
 (he:starEach (e :: es) X.env = (false,eval e X.env) :: starEach es X.env:=by rfl) (hpl:(backTo pos (starEach es X.env)).any (·.1) = false:=by rfl):PE X (.Call (.Name x p) (e :: es) [] pos) (d2e X sp t):=by
 obtain ⟨f,fd,F,hm,hk,hb⟩:=G.ex
 intro pins s σ H Q I h
 refine wpAny_Call_Name_kw (b6Y I hg hm ?_ hdb)
 refine PySem.W.callWith_K (h₀:=X.base) I.ok.mod.kin hk (thn (ha pos pins s σ H _ I h) fun us s1 ⟨vs,H1,I1,r,q⟩ => ⟨I1.kIn,?_⟩) he hpl
 exact c8E hfn F hr hb I1 r q
theorem c8B (G:a19 X.prog X.w X.K X.mg X.base CX k C ps sp) (hr:Room (k + 1) X.A) (hm:X.mg x = some (.ref C)) (hx:a7p CX X E) (hg:Gl X x:=by rfl) (hdb:(x == ("__debug__" : Str)) = false:=by decide) :
 PE X (.Call (.Name x p) [] [] pos) (c9a C sp [] E tNil):=by
 obtain ⟨f,fd,F,M,hb⟩:=G.ex
 exact c9b M F hr hg hm hb .nil hx hdb
end
end L2
namespace My
open PySem L2
def top (i:Nat):Stmt:=PySem.Challenge.pw_lazycols_k28_groups.main.body.getD i (.Pass ⟨0,0,0,0⟩)
abbrev a74:Stmt:=top 16
abbrev a6d:Stmt:=top 17
abbrev a9K:Stmt:=top 18
abbrev a70:Stmt:=top 19
abbrev a7X:Stmt:=top 20
abbrev b0p:Stmt:=top 21
abbrev a4O:Stmt:=top 25
abbrev a3n:Stmt:=top 26
abbrev a31:Stmt:=top 27
abbrev a2G:Stmt:=top 28
abbrev a58:Stmt:=top 36
abbrev b27:Stmt:=top 37
abbrev a4H:Stmt:=top 45
abbrev a5Z:Stmt:=top 46
abbrev a2Y:Stmt:=top 50
abbrev a6e:Stmt:=top 51
abbrev a4J:Stmt:=top 52
abbrev a6g:Stmt:=top 53
abbrev a3v:Stmt:=top 54
abbrev a7Z:Stmt:=top 55
abbrev a2X:Stmt:=top 56
abbrev a99:Stmt:=top 57
abbrev a4Z:Stmt:=a0V (top 29) 0
abbrev a4F:Stmt:=a0V (top 29) 1
abbrev a3R:Stmt:=a0V (top 29) 2
abbrev a3C:Stmt:=a0V (top 29) 3
abbrev a15:Stmt:=a0V (top 29) 4
abbrev a60:Stmt:=a0V (top 29) 5
abbrev a5Y:Stmt:=a0V (top 29) 6
abbrev a7Q:Stmt:=a0V (top 29) 7
abbrev a1E:Stmt:=a0V (top 29) 11
abbrev a0X:Stmt:=a0V (top 29) 13
abbrev a43:Stmt:=a0V (top 31) 0
abbrev a1r:Stmt:=a0V (top 31) 1
abbrev a2i:Stmt:=a0V (top 31) 2
abbrev a1h:Stmt:=a0V (top 31) 3
abbrev a0W:Stmt:=a0V (top 31) 4
abbrev a02:Stmt:=a0V (top 31) 5
abbrev a1Q:Stmt:=a0V (top 32) 0
abbrev a1K:Stmt:=a0V (top 32) 1
abbrev a1O:Stmt:=a0V (top 33) 0
abbrev a1I:Stmt:=a0V (top 33) 1
abbrev a2c:Stmt:=a0V (top 34) 0
abbrev a2h:Stmt:=a0V (top 34) 1
abbrev a4I:Stmt:=a0V (top 41) 0
abbrev a4K:Stmt:=a0V (top 41) 1
abbrev a3g:Stmt:=a0V (top 42) 0
abbrev a1C:Stmt:=a0V (top 42) 1
abbrev a1J:Stmt:=a0V (top 42) 2
abbrev a0m:Stmt:=a0V (top 42) 3
abbrev a14:Stmt:=a0V (top 42) 4
abbrev a2J:Stmt:=a0V (top 42) 5
abbrev a4W:Stmt:=a0V (top 43) 0
abbrev a3U:Stmt:=a0V (top 43) 1
abbrev a4D:Stmt:=a0V (top 43) 2
abbrev a4M:Stmt:=a0V (top 43) 3
abbrev a6V:Stmt:=a0V (top 43) 4
abbrev a4B:Stmt:=a0V (top 43) 8
abbrev a3i:Stmt:=a0V (top 43) 9
abbrev a7b:Stmt:=a0V (top 43) 11
abbrev a42:Stmt:=a0V (top 43) 12
abbrev a4X:Stmt:=a0V (top 43) 16
abbrev a1L:Stmt:=a0V (top 43) 17
abbrev a1q:Stmt:=a0V (top 43) 18
abbrev a1A:Stmt:=a0V (top 43) 19
abbrev a1i:Stmt:=a0V (top 43) 20
abbrev a06:Stmt:=a0V (top 43) 21
abbrev a1n:Stmt:=a0V (top 43) 22
abbrev a6w:Stmt:=a0V (top 47) 0
abbrev a2k:Stmt:=a0V (top 47) 1
abbrev a41:Stmt:=a0V (top 48) 0
abbrev a3p:Stmt:=a0V (top 48) 1
abbrev a2L:Stmt:=a0V (top 48) 2
structure a1g (K:PySem.W.Frag) (mg:Str -> Option Value) (C:Addr):Prop where
 c:mg "Table" = some (.ref C)
 cl:Cls K C
 mks:PySem.W.makesIn K C = true
 kc:PySem.W.keepIn K (.ref C) = true
 hc:PySem.W.findIn K (.ref C) "__class__" = some (some (.builtin "object.__class__"))
 n_row_numbers:a0F K C "row_numbers"
 n_fresh_number:a0F K C "fresh_number"
 n_kept:a0F K C "kept"
 m_init:Mth K C "__init__" "Table.__init__" a4Z
 m_many:Mth K C "many" "Table.many" a4F
 m_numbers:Mth K C "numbers" "Table.numbers" a3R
 m_columns:Mth K C "columns" "Table.columns" a3C
 m_give:Mth K C "give" "Table.give" a15
 m_drop:Mth K C "drop" "Table.drop" a60
 m_put:Mth K C "put" "Table.put" a5Y
 m_at:Mth K C "at" "Table.at" a7Q
 m_number_at:Mth K C "number_at" "Table.number_at" a1E
 m_check_column:Mth K C "check_column" "Table.check_column" a0X
structure a0R (K:PySem.W.Frag) (mg:Str -> Option Value) (C:Addr):Prop where
 c:mg "Board" = some (.ref C)
 cl:Cls K C
 mks:PySem.W.makesIn K C = true
 kc:PySem.W.keepIn K (.ref C) = true
 hc:PySem.W.findIn K (.ref C) "__class__" = some (some (.builtin "object.__class__"))
 n_given:a0F K C "given"
 n_rules:a0F K C "rules"
 n_memory:a0F K C "memory"
 n_order:a0F K C "order"
 m_init:Mth K C "__init__" "Board.__init__" a43
 m_has_column:Mth K C "has_column" "Board.has_column" a1r
 m_content:Mth K C "content" "Board.content" a2i
 m_set_column:Mth K C "set_column" "Board.set_column" a1h
 m_empty_column:Mth K C "empty_column" "Board.empty_column" a0W
 m_outcome:Mth K C "outcome" "Board.outcome" a02
structure b00 (K:PySem.W.Frag) (mg:Str -> Option Value) (C:Addr):Prop where
 c:mg "TableTold" = some (.ref C)
 cl:Cls K C
 mks:PySem.W.makesIn K C = true
 kc:PySem.W.keepIn K (.ref C) = true
 hc:PySem.W.findIn K (.ref C) "__class__" = some (some (.builtin "object.__class__"))
 n_boards:a0F K C "boards"
 n_name:a0F K C "name"
 n_size:a0F K C "size"
 m_init:Mth K C "__init__" "TableTold.__init__" a1Q
 m_take:Mth K C "take" "TableTold.take" a1K
structure a25 (K:PySem.W.Frag) (mg:Str -> Option Value) (C:Addr):Prop where
 c:mg "ColumnSet" = some (.ref C)
 cl:Cls K C
 mks:PySem.W.makesIn K C = true
 kc:PySem.W.keepIn K (.ref C) = true
 hc:PySem.W.findIn K (.ref C) "__class__" = some (some (.builtin "object.__class__"))
 n_board:a0F K C "board"
 n_column:a0F K C "column"
 n_after:a0F K C "after"
 n_before:a0F K C "before"
 m_init:Mth K C "__init__" "ColumnSet.__init__" a1O
 m_take:Mth K C "take" "ColumnSet.take" a1I
structure a6O (K:PySem.W.Frag) (mg:Str -> Option Value) (C:Addr):Prop where
 c:mg "ValuePut" = some (.ref C)
 cl:Cls K C
 mks:PySem.W.makesIn K C = true
 kc:PySem.W.keepIn K (.ref C) = true
 hc:PySem.W.findIn K (.ref C) "__class__" = some (some (.builtin "object.__class__"))
 n_board:a0F K C "board"
 n_column:a0F K C "column"
 n_place:a0F K C "place"
 n_after:a0F K C "after"
 n_before:a0F K C "before"
 m_init:Mth K C "__init__" "ValuePut.__init__" a2c
 m_take:Mth K C "take" "ValuePut.take" a2h
structure b1n (K:PySem.W.Frag) (mg:Str -> Option Value) (C:Addr):Prop where
 c:mg "Trial" = some (.ref C)
 cl:Cls K C
 mks:PySem.W.makesIn K C = true
 kc:PySem.W.keepIn K (.ref C) = true
 hc:PySem.W.findIn K (.ref C) "__class__" = some (some (.builtin "object.__class__"))
 n_finder:a0F K C "finder"
 n_looked:a0F K C "looked"
 n_lacking:a0F K C "lacking"
 m_init:Mth K C "__init__" "Trial.__init__" a4I
 m_look:Mth K C "look" "Trial.look" a4K
structure a03 (K:PySem.W.Frag) (mg:Str -> Option Value) (C:Addr):Prop where
 c:mg "Finder" = some (.ref C)
 cl:Cls K C
 mks:PySem.W.makesIn K C = true
 kc:PySem.W.keepIn K (.ref C) = true
 hc:PySem.W.findIn K (.ref C) "__class__" = some (some (.builtin "object.__class__"))
 n_boards:a0F K C "boards"
 n_found:a0F K C "found"
 n_looked:a0F K C "looked"
 m_init:Mth K C "__init__" "Finder.__init__" a3g
 m_value_of:Mth K C "value_of" "Finder.value_of" a1C
 m_attempt:Mth K C "attempt" "Finder.attempt" a1J
 m_gathered:Mth K C "gathered" "Finder.gathered" a0m
 m_settle:Mth K C "settle" "Finder.settle" a14
 m_knows:Mth K C "knows" "Finder.knows" a2J
structure a29 (K:PySem.W.Frag) (mg:Str -> Option Value) (C:Addr):Prop where
 c:mg "Sheet" = some (.ref C)
 cl:Cls K C
 mks:PySem.W.makesIn K C = true
 kc:PySem.W.keepIn K (.ref C) = true
 hc:PySem.W.findIn K (.ref C) "__class__" = some (some (.builtin "object.__class__"))
 n_boards:a0F K C "boards"
 n_changes:a0F K C "changes"
 n_finder:a0F K C "finder"
 m_init:Mth K C "__init__" "Sheet.__init__" a4W
 m_table:Mth K C "table" "Sheet.table" a3U
 m_give:Mth K C "give" "Sheet.give" a4D
 m_rule:Mth K C "rule" "Sheet.rule" a4M
 m_put:Mth K C "put" "Sheet.put" a6V
 m_tables:Mth K C "tables" "Sheet.tables" a4B
 m_columns:Mth K C "columns" "Sheet.columns" a3i
 m_many:Mth K C "many" "Sheet.many" a7b
 m_cell:Mth K C "cell" "Sheet.cell" a42
 m_make:Mth K C "make" "Sheet.make" a4X
 m_board_of:Mth K C "board_of" "Sheet.board_of" a1L
 m_board_with:Mth K C "board_with" "Sheet.board_with" a1q
 m_board_for:Mth K C "board_for" "Sheet.board_for" a1A
 m_check_cell:Mth K C "check_cell" "Sheet.check_cell" a1i
 m_check_leans:Mth K C "check_leans" "Sheet.check_leans" a06
 m_check_ring:Mth K C "check_ring" "Sheet.check_ring" a1n
structure c8G (K:PySem.W.Frag) (mg:Str -> Option Value) (C:Addr):Prop where
 c:mg "Rule" = some (.ref C)
 cl:Cls K C
 mks:PySem.W.makesIn K C = true
 kc:PySem.W.keepIn K (.ref C) = true
 hc:PySem.W.findIn K (.ref C) "__class__" = some (some (.builtin "object.__class__"))
 n_function:a0F K C "function"
 m_init:Mth K C "__init__" "Rule.__init__" a6w
 v_init:ClsM K C "__init__"
 m_reckon:Mth K C "reckon" "Rule.reckon" a2k
structure a69 (K:PySem.W.Frag) (mg:Str -> Option Value) (C:Addr):Prop where
 c:mg "Group" = some (.ref C)
 cl:Cls K C
 mks:PySem.W.makesIn K C = true
 kc:PySem.W.keepIn K (.ref C) = true
 hc:PySem.W.findIn K (.ref C) "__class__" = some (some (.builtin "object.__class__"))
 n_function:a0F K C "function"
 n_key:a0F K C "key"
 n_name:a0F K C "name"
 m_init:Mth K C "__init__" "Group.__init__" a41
 m_leans:Mth K C "leans" "Group.leans" a3p
 m_gather:Mth K C "gather" "Group.gather" a2L
 m_reckon:Mth K C "reckon" "Rule.reckon" a2k
 isl:PySem.W.kitOne K (.ref C) (.type "list") = some false
 own:PySem.W.mroIn K C (.type "object") = some true /\ PySem.W.specialIn K (.builtin "object.__class__") "__get__" = some (some (.builtin "getset_descriptor.__get__")) /\ PySem.W.takesIn K (.builtin "object.__class__") = some true
structure Tops (K:PySem.W.Frag) (mg:Str -> Option Value):Prop where
 len:mg "len" = none
 isinstance:mg "isinstance" = none
 int:mg "int" = none
 bool:mg "bool" = none
 str:mg "str" = none
 all:mg "all" = none
 range:mg "range" = none
 abs:mg "abs" = none
 list:mg "list" = none
 tuple:mg "tuple" = none
 max:mg "max" = none
 sum:mg "sum" = none
 reversed:mg "reversed" = none
 ValueError:mg "ValueError" = none
 g_LETTERS:∃ t,mg "LETTERS" = some (.str ("abcdefghijklmnopqrstuvwxyz" : Str) t)
 g_MOST_LETTERS:∃ t,mg "MOST_LETTERS" = some (.int 8 t)
 g_ODD:∃ p,mg "ODD" = some (.ref p) /\ ∀ H,SqT K H p [V.str ("fault" : Str),V.str ("odd" : Str)]
 g_MOST_ROWS:∃ t,mg "MOST_ROWS" = some (.int 30 t)
 g_MOST_COLUMNS:∃ t,mg "MOST_COLUMNS" = some (.int 8 t)
 g_MOST_TABLES:∃ t,mg "MOST_TABLES" = some (.int 4 t)
 g_UNKNOWN:∃ p,mg "UNKNOWN" = some (.ref p) /\ ∀ H,SqT K H p [V.str ("fault" : Str),V.str ("unknown" : Str)]
 d_is_whole:Def K mg "is_whole" a74
 d_is_number:Def K mg "is_number" a6d
 d_is_name:Def K mg "is_name" a9K
 d_is_fault:Def K mg "is_fault" a70
 d_is_value:Def K mg "is_value" a7X
 d_settled:Def K mg "settled" b0p
 d_check_size:Def K mg "check_size" a4O
 d_check_place:Def K mg "check_place" a3n
 d_check_value:Def K mg "check_value" a31
 d_check_values:Def K mg "check_values" a2G
 d_ring_from:Def K mg "ring_from" a58
 d_way_to:Def K mg "way_to" b27
 d_check_name:Def K mg "check_name" a4H
 d_each_once:Def K mg "each_once" a5Z
 d_law_mixed:Def K mg "_law_mixed" a2Y
 d_law_value:Def K mg "_law_value" a6e
 d_law_answer:Def K mg "_law_answer" a4J
 d_law_noted:Def K mg "_law_noted" a6g
 d_law_settled:Def K mg "_law_settled" a3v
 d_law_list:Def K mg "_law_list" a7Z
 d_law_right:Def K mg "_law_right" a2X
 d_law:Def K mg "law" a99
 notabs:PySem.W.noTabs K = true
 t_Table:∃ C,a1g K mg C
 t_Board:∃ C,a0R K mg C
 t_TableTold:∃ C,b00 K mg C
 t_ColumnSet:∃ C,a25 K mg C
 t_ValuePut:∃ C,a6O K mg C
 t_Trial:∃ C,b1n K mg C
 t_Finder:∃ C,a03 K mg C
 t_Sheet:∃ C,a29 K mg C
 t_Rule:∃ C,c8G K mg C
 t_Group:∃ C,a69 K mg C
structure Tbs (h:Heap) (K:PySem.W.Frag) (mg:Str -> Option Value):Prop where
 bs:∃ z_law z_Finder_gathered:Addr × Addr,DefT K mg "law" a99 z_law /\ MthT K mg "Finder" "gathered" "Finder.gathered" a0m z_Finder_gathered /\ z_law.2 ≠ z_Finder_gathered.2 /\ h.get? z_Finder_gathered.2 = some (PySem.W.tabObj #[])
end My
namespace My
open PySem L2
abbrev b8k:Str := "abcdefghijklmnopqrstuvwxyz"
def inL (c:Nat):Bool := !(Builtin.Str.occurrences b8k ⟨#[c]⟩ 0 b8k.length 1).isEmpty
def c16 (t:Str):Bool:=decide ((1:Int) <= t.length) && decide ((t.length:Int) <= 8) && t.cps.toList.all inL
def b7Y:PyData -> Bool
 | .int _ => true
 | _ => false
def numD:PyData -> Bool
 | .int i => decide ((if i < 0 then -i else i) < 10 ^ (60:Int).toNat)
 | _ => false
def a8a:PyData -> Bool
 | .str t => c16 t
 | _ => false
def a6T:PyData -> Bool
 | .tuple [.str z,d] => decide (z = "fault") && a8a d
 | _ => false
def a5z (d:PyData):Bool:=numD d || a6T d
def c6q (d:PyData):Prop:=∀ t,d = .str t -> t.length <= 1000
def a8J (d:PyData):Prop:=∀ ds,d = .tuple ds -> ∀ e ∈ ds,c6q e
theorem a1D {t:Str} (h:t.length <= 1000):c6q (.str t):=fun z e => by cases e; exact h
theorem b9E {d:PyData} (h:kdD d ≠ .tup):a8J d:=fun z e => by subst e; exact absurd rfl h
theorem b9L {ds:List PyData} (h:∀ e ∈ ds,c6q e):a8J (.tuple ds):=fun z e => by cases e; exact h
section
variable {P:Program} {w:World} {K:PySem.W.Frag} {mg:Str -> Option Value} {base:Heap}
def c0C (K:PySem.W.Frag):Sp:=fun vs H Q _ => ∃ x d,vs = [x] /\ Dt K H x d /\ Q (.bl (b7Y d)) H
theorem c5s:a0l ["thing"] ["thing"] (a0b a74):=⟨rfl,rfl,rfl,by decide +kernel,rfl,by decide +kernel,by decide +kernel⟩
theorem a4n (T:Tops K mg):a0C P w K mg base CX0 1 "is_whole" ["thing"] (c0C K):=by
 refine T.d_is_whole.known c5s (fun _ _ _ _ _ _ us hl => match us,hl with | [_],_ => rfl) (fun vs H Q E h => ?_) (fun f cdv A outer s H vs Q E hr h => ?_)
 ·obtain ⟨x,a,rfl,_⟩:=h
  rfl
 ·obtain ⟨x,d,rfl,hd,q⟩:=h
  refine ⟨_,(a0e (a0v (b7Q (a0z a4z rfl T.isinstance a0K (a0a (pv 0) (a0a (b6m T.int d1P) a0f))) (b7w (d1M (a0z a4z rfl T.isinstance a0K (a0a (pv 0) (a0a (b6m T.bool d1p) a0f)))))))),?_⟩
  refine ⟨_,rfl,x, "int", d,_,rfl,hd,c8Y K _,_,rfl,?_⟩
  refine ite2 (fun h1 => ?_) (fun h1 => ?_)
  ·refine ⟨_,rfl,x, "bool", d,_,rfl,hd,c9r K _,_,rfl,?_⟩
   have e:(!decide (kdD d = Kd.bl)) = b7Y d:=by cases d <;> simp [kdD,b7Y] at h1 ⊢
   show Q (.bl (!decide (kdD d = Kd.bl))) H
   rw [e]
   exact q
  ·have e:false = b7Y d:=by cases d <;> simp [kdD,b7Y] at h1 ⊢
   show Q (.bl false) H
   rw [e]
   exact q
def b3A (K:PySem.W.Frag):Sp:=fun vs H Q _ => ∃ x d,vs = [x] /\ Dt K H x d /\ c6q d /\ ∀ H',Same H H' -> Q (.bl (a8a d)) H'
theorem c64:a0l ["thing"] ["thing"] (a0b a9K):=⟨rfl,rfl,rfl,by decide +kernel,rfl,by decide +kernel,by decide +kernel⟩
theorem a1R (T:Tops K mg):a0C P w K mg base CX0 1 "is_name" ["thing"] (b3A K):=by
 refine T.d_is_name.known c64 (fun _ _ _ _ _ _ us hl => match us,hl with | [_],_ => rfl) (fun vs H Q E h => ?_) (fun f cdv A outer s H vs Q E hr h => ?_)
 ·obtain ⟨x,a,rfl,_⟩:=h
  rfl
 ·obtain ⟨x,d,rfl,hd,hsh,q⟩:=h
  refine ⟨_,(a0d (a0E (PW.pt (b85 (a23 (a1w (a0z a4z rfl T.isinstance a0K (a0a (pv 0) (a0a (b6m T.str d2a) a0f))) (fun _ => rfl))) (b3E (a23 (c2m c8g c8g a0p (a0z a4A rfl T.len b6u (a0a (pv 0) a0f)) (c7t T.g_MOST_LETTERS)))))) (a0e (a0v c6Q)) a0q)
   (a0e (a0v (a0z (c6y rfl) rfl T.all d2m (a0a (c72 d0K rfl rfl (by decide) (d1Y (pv 0)) (fun _ _ _ _ _ => c5e) (fun _ _ _ _ _ => (b4Q c8H (pv 0) (d2O T.g_LETTERS) (by with_unfolding_all rfl)))) a0f))))),?_⟩
  refine ⟨_,rfl,x, "str", d,_,rfl,hd,c77 K _,_,rfl,?_⟩
  by_cases hk:kdD d = .str
  ·obtain ⟨t,rfl⟩:∃ t,d = .str t:=by cases d <;> simp [kdD] at hk ⊢
   cases hd
   have ht:t.length <= 1000:=hsh t rfl
   refine iteF ?_
   refine ⟨_,rfl,_,_,rfl,⟨sl ht,rfl⟩,_,_,rfl,rfl,_,rfl,?_⟩
   refine ite2 (fun h1 => ?_) (fun h1 => ?_)
   ·refine ⟨_,_,rfl,rfl,_,rfl,?_⟩
    refine ite2 (fun h2 => ?_) (fun h2 => ?_)
    ·have e:a8a (.str t) = false:=by
      show c16 t = false
      unfold c16
      have:decide ((t.length:Int) <= 8) = false:=by simpa using h2
      rw [this,Bool.and_false,Bool.false_and]
     rw [<- e]
     exact q H (Same.refl H)
    ·have h8:t.cps.size <= 8:=by
      have:(t.length:Int) <= 8:=by simpa using h2
      show t.length <= 8
      omega
     refine ⟨_,rfl,t,rfl,fun D hD => ?_⟩
     refine c9f (x:=t) (fun i ys H2 => ys = (t.cps.toList.take i).map (fun c => V.bl (inL c)) /\ Same H H2) ⟨rfl,Same.new hD⟩ ?_ ?_
     ·rintro i c ys H2 hc h2D ⟨rfl,s2⟩
      have hi:i < t.cps.size:=(Array.getElem?_eq_some_iff.mp hc).1
      refine ⟨_,rfl,_,_,rfl,rfl,h2D,?_,?_,s2.on hD⟩
      ·rw [List.length_map,List.length_take,Array.length_toList]
       exact a0w (by omega)
      ·rw [List.take_add_one,List.map_append,Array.getElem?_toList,hc]
       rfl
     ·rintro ys H2 h2D ⟨rfl,s2⟩
      refine ⟨D,t.cps.toList.map inL,rfl,SqL.of ?_,?_⟩
      ·rw [h2D,List.take_of_length_le (by simp),List.map_map]
       rfl
      ·have e:a8a (.str t) = (t.cps.toList.map inL).all id:=by
        show c16 t = _
        unfold c16
        have e1:decide ((1:Int) <= t.length) = true:=h1
        have e2:decide ((t.length:Int) <= 8) = true:=by simpa using h2
        rw [e1,e2,Bool.true_and,Bool.true_and,List.all_map]
        rfl
       rw [<- e]
       exact q H2 s2
   ·refine ⟨_,rfl,?_⟩
    refine iteT ?_
    have e:a8a (.str t) = false:=by
     show c16 t = false
     unfold c16
     have:decide ((1:Int) <= t.length) = false:=by simpa using h1
     rw [this,Bool.false_and,Bool.false_and]
    rw [<- e]
    exact q H (Same.refl H)
  ·rw [decide_eq_false hk]
   refine iteT (iteT ?_)
   have e:a8a d = false:=by cases d <;> simp [kdD] at hk <;> rfl
   rw [<- e]
   exact q H (Same.refl H)
def c6z (K:PySem.W.Frag):Sp:=fun vs H Q _ => ∃ x d,vs = [x] /\ Dt K H x d /\ Q (.bl (numD d)) H
theorem c3R:a0l ["thing"] ["thing"] (a0b a6d):=⟨rfl,rfl,rfl,by decide +kernel,rfl,by decide +kernel,by decide +kernel⟩
theorem a6c (T:Tops K mg):a0C P w K mg base CX0 2 "is_number" ["thing"] (c6z K):=by
 have G_is_whole:a0C P w K mg base CX0 1 "is_whole" ["thing"] (c0C K):=a4n T
 refine T.d_is_number.known c3R (fun _ _ _ _ _ _ us hl => match us,hl with | [_],_ => rfl) (fun vs H Q E h => ?_) (fun f cdv A outer s H vs Q E hr h => ?_)
 ·obtain ⟨x,a,rfl,_⟩:=h
  rfl
 ·obtain ⟨x,d,rfl,hd,q⟩:=h
  refine ⟨_,(a0e (a0v (b7Q (a0o G_is_whole (hr.mono (by decide)) a0r (a0a (pv 0) a0f)) (b7w (b4Q d2o (a0z c6l rfl T.abs d1t (a0a (pv 0) a0f)) (a1p c6B a0p a0p) (a0Z _)))))),?_⟩
  refine ⟨_,rfl,x,d,rfl,hd,_,rfl,?_⟩
  refine ite2 (fun h1 => ?_) (fun h1 => ?_)
  ·obtain ⟨i,rfl⟩:∃ i,d = .int i:=by cases d <;> simp [b7Y] at h1 ⊢
   cases hd
   exact ⟨_,rfl,i,rfl,_,_,rfl,rfl,⟨by decide,by decide,by decide⟩,_,_,rfl,rfl,q⟩
  ·have e:numD d = false:=by cases d <;> simp [b7Y] at h1 <;> rfl
   show Q (.bl false) H
   rw [<- e]
   exact q
def c5u (K:PySem.W.Frag):Sp:=fun vs H Q _ => ∃ x d,vs = [x] /\ Dt K H x d /\ a8J d /\ ∀ H',Same H H' -> Q (.bl (a6T d)) H'
theorem c5W:a0l ["thing"] ["thing"] (a0b a70):=⟨rfl,rfl,rfl,by decide +kernel,rfl,by decide +kernel,by decide +kernel⟩
theorem c6T {ds:List PyData} (h:ds.length ≠ 2):a6T (.tuple ds) = false:=by
 match ds,h with
 | [],_ => rfl
 | [a],_ => cases a <;> rfl
 | [a,b],h => exact absurd rfl h
 | a :: b :: c :: r,_ => cases a <;> rfl
theorem a5J (T:Tops K mg):a0C P w K mg base CX0 2 "is_fault" ["thing"] (c5u K):=by
 have G_is_name:a0C P w K mg base CX0 1 "is_name" ["thing"] (b3A K):=a1R T
 refine T.d_is_fault.known c5W (fun _ _ _ _ _ _ us hl => match us,hl with | [_],_ => rfl) (fun vs H Q E h => ?_) (fun f cdv A outer s H vs Q E hr h => ?_)
 ·obtain ⟨x,a,rfl,_⟩:=h
  rfl
 ·obtain ⟨x,d,rfl,hd,hsh,q⟩:=h
  refine ⟨_,(a0d (a0E (PW.pt (b85 (a23 (a1w (a0z a4z rfl T.isinstance a0K (a0a (pv 0) (a0a (b6m T.tuple c5n) a0f))) (fun _ => rfl))) (b3E (a0A d1N (a0z a4A rfl T.len b6u (a0a (pv 0) a0f)) a0p (a0Z _))))) (a0e (a0v c6Q)) a0q)
   (a0e (a0v (b7Q (a0z a4z rfl T.isinstance a0K (a0a (a1P a24 (pv 0) a0p (fun _ _ => rfl)) (a0a (b6m T.str d2a) a0f))) (b7Q (b4Q c3h (a1P a24 (pv 0) a0p (fun _ _ => rfl)) a1o (a0Z _)) (b7w (a0o G_is_name (hr.mono (by decide)) a0r (a0a (a1P a24 (pv 0) a0p (fun _ _ => rfl)) a0f)))))))),?_⟩
  refine ⟨_,rfl,x, "tuple", d,_,rfl,hd,b7I K _,_,rfl,?_⟩
  by_cases hk:kdD d = .tup
  ·obtain ⟨ds,rfl⟩:∃ ds,d = .tuple ds:=by cases d <;> simp [kdD] at hk ⊢
   cases hd with
   | @tup a xs _ hq hall =>
    refine iteF ?_
    refine ⟨_,rfl,_,_,rfl,.inr ⟨_,hq,rfl⟩,rfl,_,rfl,?_⟩
    have hl:=hall.length
    refine ite2 (fun h1 => ?_) (fun h1 => ?_)
    ·have h1':xs.length ≠ 2:=by
      intro z
      rw [z] at h1
      exact absurd h1 (by decide)
     have e:=c6T (ds:=ds) (by rw [<- hl]; exact h1')
     rw [<- e]
     exact q H (Same.refl H)
    ·have h1':xs.length = 2:=by
      have z:¬ (!decide (V.int (xs.length:Int) = V.int 2)) = true:=h1
      have z2:(xs.length:Int) = 2:=by simpa using z
      omega
     match xs,ds,hall,h1',hl with
     | [y,z],_,.cons (d:=d1) h2 (.cons (d:=d2) h3 .nil),_,_ =>
      have a0:atI [y,z] 0 = some y:=rfl
      have a1:atI [y,z] 1 = some z:=rfl
      refine ⟨_,rfl,_,_,_,_,rfl,rfl,hq,a0,y, "str", d1,_,rfl,h2,c77 K _,_,rfl,?_⟩
      refine ite2 (fun h4 => ?_) (fun h4 => ?_)
      ·obtain ⟨t,rfl⟩:∃ t,d1 = .str t:=by cases d1 <;> simp [kdD] at h4 ⊢
       cases h2
       refine ⟨_,rfl,_,_,_,_,rfl,rfl,hq,a0,rfl,_,rfl,?_⟩
       refine ite2 (fun h5 => ?_) (fun h5 => ?_)
       ·have h5':t = "fault" := by
         have z5:V.str t = V.str "fault" := by simpa using h5
         exact V.str.inj z5
        refine ⟨_,rfl,_,_,_,_,rfl,rfl,hq,a1,z,d2,rfl,h3,hsh _ rfl _ (List.mem_cons_of_mem _ List.mem_cons_self),fun H' s' => ?_⟩
        ·have e:a6T (.tuple [.str t,d2]) = a8a d2:=by
          show (decide (t = "fault") && a8a d2) = a8a d2
          rw [decide_eq_true h5',Bool.true_and]
         rw [<- e]
         exact q H' s'
       ·have h5':t ≠ "fault" := fun z5 => h5 (by rw [z5]; rfl)
        have e:a6T (.tuple [.str t,d2]) = false:=by
         show (decide (t = "fault") && a8a d2) = false
         rw [decide_eq_false h5',Bool.false_and]
        show Q (.bl false) H
        rw [<- e]
        exact q H (Same.refl H)
      ·have e:a6T (.tuple [d1,d2]) = false:=by cases d1 <;> simp [kdD] at h4 <;> rfl
       show Q (.bl false) H
       rw [<- e]
       exact q H (Same.refl H)
  ·rw [decide_eq_false hk]
   refine iteT (iteT ?_)
   have e:a6T d = false:=by cases d <;> simp [kdD] at hk <;> rfl
   rw [<- e]
   exact q H (Same.refl H)
def c1I (K:PySem.W.Frag):Sp:=fun vs H Q _ => ∃ x d,vs = [x] /\ Dt K H x d /\ a8J d /\ ∀ H',Same H H' -> Q (.bl (a5z d)) H'
theorem c57:a0l ["thing"] ["thing"] (a0b a7X):=⟨rfl,rfl,rfl,by decide +kernel,rfl,by decide +kernel,by decide +kernel⟩
theorem a4a (T:Tops K mg):a0C P w K mg base CX0 3 "is_value" ["thing"] (c1I K):=by
 have G_is_number:a0C P w K mg base CX0 2 "is_number" ["thing"] (c6z K):=a6c T
 have G_is_fault:a0C P w K mg base CX0 2 "is_fault" ["thing"] (c5u K):=a5J T
 refine T.d_is_value.known c57 (fun _ _ _ _ _ _ us hl => match us,hl with | [_],_ => rfl) (fun vs H Q E h => ?_) (fun f cdv A outer s H vs Q E hr h => ?_)
 ·obtain ⟨x,a,rfl,_⟩:=h
  rfl
 ·obtain ⟨x,d,rfl,hd,hsh,q⟩:=h
  refine ⟨_,(a0e (a0v (d2M (a0o G_is_number (hr.mono (by decide)) a0r (a0a (pv 0) a0f)) (b7w (a0o G_is_fault (hr.mono (by decide)) a0r (a0a (pv 0) a0f)))))),?_⟩
  refine ⟨_,rfl,x,d,rfl,hd,_,rfl,?_⟩
  refine ite2 (fun h1 => ?_) (fun h1 => ?_)
  ·have e:a5z d = true:=by unfold a5z; rw [h1,Bool.true_or]
   show Q (.bl true) H
   rw [<- e]
   exact q H (Same.refl H)
  ·refine ⟨_,rfl,x,d,rfl,hd,hsh,fun H' s' => ?_⟩
   have e:a5z d = a6T d:=by
    unfold a5z
    have:numD d = false:=by simpa using h1
    rw [this,Bool.false_or]
   rw [<- e]
   exact q H' s'
end
end My
namespace My
open PySem L2
def Nl (t:Str):Prop:=1 <= t.length /\ t.length <= 8 /\ ∀ c ∈ t.cps.toList,c ∈ b8k.cps.toList
end My
namespace My
open PySem L2
theorem Nl.name {t:Str} (h:Nl t):c16 t = true:=by
 unfold c16
 have a1:decide ((1:Int) <= t.length) = true:=by rw [decide_eq_true_eq]; have:=h.1; omega
 have a2:decide ((t.length:Int) <= 8) = true:=by rw [decide_eq_true_eq]; have:=h.2.1; omega
 have a3:t.cps.toList.all inL = true:=by
  rw [List.all_eq_true]
  intro c hc
  have:∀ c ∈ b8k.cps.toList,inL c = true:=by decide +kernel
  exact this c (h.2.2 c hc)
 rw [a1,a2,a3]
 rfl
theorem Nl.lay {z:Str} (h:Nl z):PyData.canLay0 (.str z) = true:=by
 obtain ⟨⟨l⟩⟩:=z
 have:∀ c ∈ b8k.cps.toList,c < 128:=by decide +kernel
 exact c9g fun c hc => this c (h.2.2 c hc)
theorem c2G {p:Str × Str} (h1:Nl p.1) (h2:Nl p.2):(spD p).canLay0 = true:=by
 show PyData.canLayAll0 [.str p.1,.str p.2] = true
 show (PyData.canLay0 (.str p.1) && (PyData.canLay0 (.str p.2) && true)) = true
 rw [h1.lay,h2.lay]
 rfl
def d1T (K:PySem.W.Frag) (H:Hp) (xs:List V) (ps:List (Str × Str)):Prop:=a16 K H xs (ps.map spD) /\ ∀ p ∈ ps,Nl p.1 /\ Nl p.2
theorem b79:∀ {ps:List (Str × Str)},(∀ p ∈ ps,Nl p.1 /\ Nl p.2) -> (PyData.list (ps.map spD)).canLay0 = true
 | [],_ => rfl
 | p :: ps,h => by
  show ((spD p).canLay0 && PyData.canLayAll0 (ps.map spD)) = true
  have e:PyData.canLayAll0 (ps.map spD) = true:=b79 fun q hq => h q (List.mem_cons_of_mem _ hq)
  rw [e,c2G (h p List.mem_cons_self).1 (h p List.mem_cons_self).2]
  rfl
theorem a16.snoc {K:PySem.W.Frag} {H:Hp}:∀ {xs:List V} {ds:List PyData} {x:V} {d:PyData},a16 K H xs ds -> Dt K H x d -> a16 K H (xs ++ [x]) (ds ++ [d])
 | _,_,_,_,.nil,h => .cons h .nil
 | _,_,_,_,.cons h t,q => .cons h (a16.snoc t q)
section
variable {P:Program} {w:World} {K:PySem.W.Frag} {mg:Str -> Option Value} {base:Heap}
def c70:Sp:=fun vs H Q _ => ∃ z:Str,vs = [.str z] /\ Nl z /\ ∀ H',Same H H' -> Q .non H'
theorem c0e:a0l ["name"] ["name"] (a0b a4H):=⟨rfl,rfl,rfl,by decide +kernel,rfl,by decide +kernel,by decide +kernel⟩
theorem a4C (T:Tops K mg):a0C P w K mg base CX0 2 "check_name" ["name"] c70:=by
 have G_is_name:a0C P w K mg base CX0 1 "is_name" ["thing"] (b3A K):=a1R T
 refine T.d_check_name.known c0e (fun _ _ _ _ _ _ us hl => match us,hl with | [_],_ => rfl) (fun vs H Q E h => ?_) (fun f cdv A outer s H vs Q E hr h => ?_)
 ·obtain ⟨z,rfl,_⟩:=h
  rfl
 ·obtain ⟨z,rfl,hz,q⟩:=h
  refine ⟨_,(a0e (a0E (a23 (a1w (a0o G_is_name (hr.mono (by decide)) a0r (a0a (pv 0) a0f)) (fun _ => rfl))) (a0e a0y) a0q)),?_⟩
  have h8:=hz.2.1
  refine ⟨_,rfl,_,_,rfl,.str z,a1D (by omega),fun H' s' => ⟨_,rfl,?_⟩⟩
  rw [show a8a (.str z) = true from hz.name]
  exact iteF (q H' s')
def d1x (K:PySem.W.Frag):Sp:=fun vs H Q _ => ∃ (a:Addr) (xs:List V) (ps:List (Str × Str)),vs = [.ref a] /\ SqL K H a xs /\ d1T K H xs ps /\ ps.length <= 100 /\
 ∀ H' l ys,Same H H' -> H l = none -> H' l = some (.lst ys) -> d1T K H' ys (a1v ps) -> Q (.ref l) H'
theorem a27:a0l ["spots", "found", "spot"] ["spots"] (a0b a5Z):=⟨rfl,rfl,rfl,by decide +kernel,rfl,by decide +kernel,by decide +kernel⟩
theorem a8b (T:Tops K mg):a0C P w K mg base CX0 2 "each_once" ["spots"] (d1x K):=by
 refine T.d_each_once.known a27 (fun _ _ _ _ _ _ us hl => match us,hl with | [_],_ => rfl) (fun vs H Q E h => ?_) (fun f cdv A outer s H vs Q E hr h => ?_)
 ·obtain ⟨a,xs,ps,rfl,_⟩:=h
  rfl
 ·obtain ⟨a,xs,ps,rfl,hq,hsp,h100,q⟩:=h
  refine ⟨_,(a0d (a0B (i:=1) a27.nd rfl (Or.inl rfl) (a2K a0f))
   (a0d (b1m PassesOwn.never rfl (b4y (pv 0)) (a35 (i:=2) a27.nd rfl (Or.inl rfl)) (a0e (a0E (a0A (c4D hr.units) (pv 2) (pv 1) (by with_unfolding_all rfl)) (a0e (a0t (b4K PySem.F.plainAttrs_list PySem.F.slot_list_append PySem.F.type_list_append a1k (pv 1) (a0a (pv 2) a0f)))) a0q)))
   (a0e (a0v (pv 1))))),?_⟩
  have hlx:xs.length = ps.length:=by rw [hsp.1.length,List.length_map]
  refine ⟨sl,fun l hl => ?_⟩
  refine ⟨_,rfl,a,rfl,⟨_,(Same.new hl).seq hq⟩,?_⟩
  refine b3w (K:=K) (a:=a) (xs:=xs) (fun i σ H2 => ∃ o ys,σ = [some (.ref a),some (.ref l),o] /\ Same H H2 /\ H2 l = some (.lst ys) /\ a16 K H ys ((a1v (ps.take i)).map spD)) ⟨_,[],rfl,Same.new hl,a0c,.nil⟩ (fun i σ H2 _ ⟨_,_,_,s2,_⟩ => s2.seq hq) ?_ ?_
  ·rintro i x σ H2 hx ⟨o,ys,rfl,s2,h2,hd⟩
   obtain ⟨d,hd1,hd2⟩:=hsp.1.get hx
   rw [List.getElem?_map] at hd1
   cases e:ps[i]? with
   | none => rw [e] at hd1; cases hd1
   | some p =>
    rw [e] at hd1
    cases hd1
    have hp:=List.mem_of_getElem? e
    have hle:((a1v (ps.take i)).map spD).length = ys.length:=hd.length.symm
    rw [List.length_map] at hle
    have hyl:ys.length <= 100:=by
     have h3:=b7H (ps.take i)
     rw [List.length_take] at h3
     omega
    have lay2:(PyData.list ((a1v (ps.take i)).map spD)).canLay0 = true:=b79 fun p' hp' => hsp.2 p' (List.mem_of_mem_take (b0Y hp'))
    have et:a1v (ps.take (i + 1)) = if p ∈ a1v (ps.take i) then a1v (ps.take i) else a1v (ps.take i) ++ [p]:=by
     rw [List.take_add_one,e]
     exact b7P _ _
    refine ⟨_,rfl,_,rfl,spD p,_,hd2.same s2,Dt.lst (SqL.of h2) (a16.same s2 hd),c2G (hsp.2 p hp).1 (hsp.2 p hp).2,lay2,(show max 0 (max 0 0) + 1 <= 62 by decide),_,rfl,?_⟩
    rw [c6e]
    by_cases hm:p ∈ a1v (ps.take i)
    ·rw [decide_eq_true hm]
     rw [if_pos hm] at et
     exact iteF ⟨_,ys,rfl,s2,h2,by rw [et]; exact hd⟩
    ·rw [decide_eq_false hm]
     rw [if_neg hm] at et
     refine iteT ?_
     refine ⟨_,rfl,.inl ⟨rfl,_,SqL.of h2⟩,_,rfl,l,_,_,rfl,rfl,h2,a0w (by omega),?_⟩
     have s3:Same H (upd H2 l (.lst (ys ++ [x]))):=s2.on hl
     refine ⟨_,ys ++ [x],rfl,s3,a0c,?_⟩
     rw [et,List.map_append]
     exact a16.snoc hd hd2
  ·rintro σ H2 ⟨o,ys,rfl,s2,h2,hd⟩
   refine ⟨_,rfl,q H2 l ys s2 hl h2 ⟨?_,fun p hp => hsp.2 p (b0Y hp)⟩⟩
   rw [hlx,List.take_length] at hd
   exact a16.same s2 hd
end
end My
set_option maxHeartbeats 1000000
namespace My
open PySem L2
def flds (r:Addr) (n:Int) (d:Addr):List (Str × V):=[("row_numbers", V.ref r),("fresh_number", V.int n),("kept", V.ref d)]
theorem c4Q (r:Addr) (n:Int) (d:Addr):(flds r n d).lookup ("row_numbers" : Str) = some (.ref r):=rfl
theorem flds_fresh (r:Addr) (n:Int) (d:Addr):(flds r n d).lookup ("fresh_number" : Str) = some (.int n):=by
 show (match (("fresh_number" : Str) == ("row_numbers" : Str)) with | true => some (V.ref r) | false => _) = _
 rw [show (("fresh_number" : Str) == ("row_numbers" : Str)) = false by decide +kernel]
 rfl
theorem a77 (r:Addr) (n:Int) (d:Addr):(flds r n d).lookup ("kept" : Str) = some (.ref d):=by
 show (match (("kept" : Str) == ("row_numbers" : Str)) with | true => some (V.ref r) | false => (match (("kept" : Str) == ("fresh_number" : Str)) with | true => some (V.int n) | false => _)) = _
 rw [show (("kept" : Str) == ("row_numbers" : Str)) = false by decide +kernel,show (("kept" : Str) == ("fresh_number" : Str)) = false by decide +kernel]
 rfl
theorem a3y {r:Addr} {n:Int} {d:Addr} {m:Str} (h:(m == ("row_numbers" : Str) || m == ("fresh_number" : Str) || m == ("kept" : Str)) = false:=by decide +kernel):(flds r n d).lookup m = none:=by
 simp only [Bool.or_eq_false_iff] at h
 obtain ⟨⟨h1,h2⟩,h3⟩:=h
 show (match (m == ("row_numbers" : Str)) with | true => some (V.ref r) | false => (match (m == ("fresh_number" : Str)) with | true => some (V.int n) | false => (match (m == ("kept" : Str)) with | true => some (V.ref d) | false => none))) = none
 rw [h1,h2,h3]
theorem d0o (r:Addr) (n:Int) (d:Addr):putF "kept" (.ref d) (putF "fresh_number" (.int n) (putF "row_numbers" (.ref r) [])) = flds r n d:=by
 show putF "kept" (.ref d) (if ("row_numbers" : Str) = "fresh_number" then _ else _) = _
 rw [if_neg (by decide +kernel)]
 show (if ("row_numbers" : Str) = "kept" then _ else _ :: (if ("fresh_number" : Str) = "kept" then _ else _)) = _
 rw [if_neg (by decide +kernel),if_neg (by decide +kernel)]
 rfl
structure b4X (C:Addr) (H:Hp) (p r d:Addr) (xs:List V) (n:Int) (kvs:List (Key × V)):Prop where
 at_:∃ dx,H p = some (.ins C dx (flds r n d))
 rows:H r = some (.lst xs)
 kept:H d = some (.dK kvs)
theorem b4X.same {C:Addr} {H H':Hp} {p r d:Addr} {xs:List V} {n:Int} {kvs:List (Key × V)} (T:b4X C H p r d xs n kvs) (s:Same H H'):b4X C H' p r d xs n kvs:=by
 obtain ⟨dx,h⟩:=T.at_
 exact ⟨⟨dx,s _ _ h⟩,s _ _ T.rows,s _ _ T.kept⟩
def Pv (K:PySem.W.Frag) (H:Hp) (v:V) (d:PyData):Prop:=(∃ i,v = .int i /\ d = .int i /\ numD (.int i) = true) ∨ ∃ a y,v = .ref a /\ H a = some (.tup [.str ("fault" : Str),.str y]) /\ d = .tuple [.str "fault", .str y] /\ Nl y
def Vd (d:PyData):Prop:=(∃ i,d = .int i /\ numD (.int i) = true) ∨ ∃ y,d = .tuple [.str "fault", .str y] /\ Nl y
theorem Pv.dt {K:PySem.W.Frag} {H:Hp} {v:V} {d:PyData} (h:Pv K H v d):Dt K H v d:=by
 rcases h with ⟨i,rfl,rfl,_⟩ | ⟨a,y,rfl,h,rfl,_⟩
 ·exact .int i
 ·exact .tup (SqT.of h) (.cons (.str _) (.cons (.str _) .nil))
theorem Pv.vd {K:PySem.W.Frag} {H:Hp} {v:V} {d:PyData} (h:Pv K H v d):Vd d:=by
 rcases h with ⟨i,rfl,rfl,hb⟩ | ⟨a,y,rfl,h,rfl,hy⟩
 ·exact .inl ⟨i,rfl,hb⟩
 ·exact .inr ⟨y,rfl,hy⟩
def a1u (H H':Hp):Prop:=∀ a xs,H a = some (.tup xs) -> H' a = some (.tup xs)
theorem a1u.of {H H':Hp} (s:Same H H'):a1u H H':=fun a xs e => s _ _ e
theorem a1u.upd {H:Hp} {l:Addr} {o o':HO} (h:H l = some o) (n:∀ xs,o ≠ .tup xs):a1u H (L2.upd H l o'):=fun a xs e => by
 rw [a0g (fun z => by rw [z,h] at e; exact n _ (Option.some.inj e))]
 exact e
theorem Pv.keep {K:PySem.W.Frag} {H H':Hp} {v:V} {d:PyData} (s:a1u H H') (h:Pv K H v d):Pv K H' v d:=by
 rcases h with h | ⟨a,y,rfl,h,rfl,hy⟩
 ·exact .inl h
 ·exact .inr ⟨a,y,rfl,s _ _ h,rfl,hy⟩
theorem Pv.same {K:PySem.W.Frag} {H H':Hp} {v:V} {d:PyData} (h:Pv K H v d) (s:Same H H'):Pv K H' v d:=h.keep (a1u.of s)
theorem Vd.short {d:PyData} (h:Vd d):a8J d /\ a5z d = true:=by
 rcases h with ⟨i,rfl,hb⟩ | ⟨y,rfl,hy⟩
 ·refine ⟨b9E (by intro z; cases z),?_⟩
  show (numD (.int i) || a6T (.int i)) = true
  rw [hb]; rfl
 ·have l8:=hy.2.1
  refine ⟨b9L (by
   intro e he
   simp only [List.mem_cons,List.not_mem_nil,or_false] at he
   rcases he with rfl | rfl
   ·exact a1D (by decide)
   ·exact a1D (by omega)),?_⟩
  show (numD _ || a6T (.tuple [.str "fault", .str y])) = true
  rw [show a6T (.tuple [.str "fault", .str y]) = true by
   show (decide (("fault" : Str) = "fault") && a8a (.str y)) = true
   rw [decide_eq_true rfl,Bool.true_and]
   exact Nl.name hy,Bool.or_true]
theorem Vd.lay {d:PyData} (h:Vd d):d.canLay0 = true /\ d.depth <= 62:=by
 rcases h with ⟨i,rfl,hb⟩ | ⟨z,rfl,hz⟩
 ·exact ⟨rfl,(show 0 <= 62 by decide)⟩
 ·refine ⟨?_,(show 1 <= 62 by decide)⟩
  have lz:=Nl.lay hz
  have l1:PyData.canLay0 (.str ("fault" : Str)) = true:=by decide +kernel
  simp only [PyData.canLay0,PyData.canLayAll0,Bool.and_true,Bool.and_eq_true] at l1 lz ⊢
  exact ⟨l1,lz⟩
def Pvs (K:PySem.W.Frag) (H:Hp):List V -> List PyData -> Prop:=Paired (Pv K H)
theorem Pvs.keep {K:PySem.W.Frag} {H H':Hp} (s:a1u H H'):∀ {xs:List V} {ds:List PyData},Pvs K H xs ds -> Pvs K H' xs ds
 | _,_,.nil => .nil
 | _,_,.cons h t => .cons (h.keep s) (Pvs.keep s t)
theorem Pvs.dt {K:PySem.W.Frag} {H:Hp}:∀ {xs:List V} {ds:List PyData},Pvs K H xs ds -> a16 K H xs ds
 | _,_,.nil => .nil
 | _,_,.cons h t => .cons h.dt (Pvs.dt t)
theorem Pvs.vd {K:PySem.W.Frag} {H:Hp}:∀ {xs:List V} {ds:List PyData},Pvs K H xs ds -> ∀ d ∈ ds,Vd d
 | _,_,.nil,_,h => by cases h
 | _,_,.cons h t,d,hd => by
  rcases List.mem_cons.mp hd with rfl | hd
  ·exact h.vd
  ·exact Pvs.vd t d hd
section
variable {P:Program} {w:World} {K:PySem.W.Frag} {mg:Str -> Option Value} {base:Heap}
def c7W:Sp:=fun vs H Q _ => ∃ m:Nat,vs = [.int (m:Int)] /\ m <= 30 /\ Q .non H
theorem c1n:a0l ["many"] ["many"] (a0b a4O):=⟨rfl,rfl,rfl,by decide +kernel,rfl,by decide +kernel,by decide +kernel⟩
theorem a26 (T:Tops K mg):a0C P w K mg base CX0 2 "check_size" ["many"] c7W:=by
 have G_is_whole:a0C P w K mg base CX0 1 "is_whole" ["thing"] (c0C K):=a4n T
 refine T.d_check_size.known c1n (fun _ _ _ _ _ _ us hl => match us,hl with | [_],_ => rfl) (fun vs H Q E h => ?_) (fun f cdv A outer s H vs Q E hr h => ?_)
 ·obtain ⟨m,rfl,_⟩:=h
  rfl
 ·obtain ⟨m,rfl,hm,q⟩:=h
  refine ⟨_,(a0e (a0E (PW.pt (b85 (a23 (a1w (a0o G_is_whole (hr.mono (by decide)) a0r (a0a (pv 0) a0f)) (fun _ => rfl))) (b3E (a23 (c2m c8g c8g a0p (pv 0) (c7t T.g_MOST_ROWS)))))) (a0e a0y) a0q)),?_⟩
  refine ⟨_,rfl,_,.int (m:Int),rfl,.int _,_,rfl,iteF ?_⟩
  refine ⟨_,rfl,_,_,rfl,rfl,_,rfl,?_⟩
  rw [decide_eq_true (show (0:Int) <= (m:Int) by omega)]
  refine iteT ⟨_,_,rfl,rfl,_,rfl,?_⟩
  rw [decide_eq_true (show (m:Int) <= 30 by omega)]
  exact iteF q
def b7q:Sp:=fun vs H Q _ => ∃ p m:Nat,vs = [.int (p:Int),.int (m:Int)] /\ p < m /\ Q .non H
theorem b83:a0l ["place", "places"] ["place", "places"] (a0b a3n):=⟨rfl,rfl,rfl,by decide +kernel,rfl,by decide +kernel,by decide +kernel⟩
theorem a1f (T:Tops K mg):a0C P w K mg base CX0 2 "check_place" ["place", "places"] b7q:=by
 have G_is_whole:a0C P w K mg base CX0 1 "is_whole" ["thing"] (c0C K):=a4n T
 refine T.d_check_place.known b83 (fun _ _ _ _ _ _ us hl => match us,hl with | [_,_],_ => rfl) (fun vs H Q E h => ?_) (fun f cdv A outer s H vs Q E hr h => ?_)
 ·obtain ⟨p,m,rfl,_⟩:=h
  rfl
 ·obtain ⟨p,m,rfl,hm,q⟩:=h
  refine ⟨_,(a0e (a0E (PW.pt (b85 (a23 (a1w (a0o G_is_whole (hr.mono (by decide)) a0r (a0a (pv 0) a0f)) (fun _ => rfl))) (b3E (a23 (c2m c8g d2o a0p (pv 0) (pv 1)))))) (a0e a0y) a0q)),?_⟩
  refine ⟨_,rfl,_,.int (p:Int),rfl,.int _,_,rfl,iteF ?_⟩
  refine ⟨_,rfl,_,_,rfl,rfl,_,rfl,?_⟩
  rw [decide_eq_true (show (0:Int) <= (p:Int) by omega)]
  refine iteT ⟨_,rfl,_,_,rfl,rfl,_,rfl,?_⟩
  rw [decide_eq_true (show (p:Int) < (m:Int) by omega)]
  exact iteF q
def c6m (K:PySem.W.Frag):Sp:=fun vs H Q _ => ∃ v d,vs = [v] /\ Pv K H v d /\ ∀ H',Same H H' -> Q .non H'
theorem b8V:a0l ["value"] ["value"] (a0b a31):=⟨rfl,rfl,rfl,by decide +kernel,rfl,by decide +kernel,by decide +kernel⟩
theorem a3K (T:Tops K mg):a0C P w K mg base CX0 4 "check_value" ["value"] (c6m K):=by
 have G_is_value:a0C P w K mg base CX0 3 "is_value" ["thing"] (c1I K):=a4a T
 refine T.d_check_value.known b8V (fun _ _ _ _ _ _ us hl => match us,hl with | [_],_ => rfl) (fun vs H Q E h => ?_) (fun f cdv A outer s H vs Q E hr h => ?_)
 ·obtain ⟨v,d,rfl,_⟩:=h
  rfl
 ·obtain ⟨v,d,rfl,hv,q⟩:=h
  refine ⟨_,(a0e (a0E (a23 (a1w (a0o G_is_value (hr.mono (by decide)) a0r (a0a (pv 0) a0f)) (fun _ => rfl))) (a0e a0y) a0q)),?_⟩
  refine ⟨_,rfl,v,d,rfl,hv.dt,hv.vd.short.1,fun H' s' => ⟨_,rfl,?_⟩⟩
  rw [hv.vd.short.2]
  exact iteF (q _ s')
def b6X (K:PySem.W.Frag):Sp:=fun vs H Q _ => ∃ (a:Addr) (xs:List V) (ds:List PyData),vs = [.ref a,.int (xs.length:Int)] /\ SqL K H a xs /\ Pvs K H xs ds /\ xs.length <= 1000 /\ ∀ H',Same H H' -> Q .non H'
theorem b77:a0l ["values", "many"] ["values", "many"] (a0b a2G):=⟨rfl,rfl,rfl,by decide +kernel,rfl,by decide +kernel,by decide +kernel⟩
theorem a1S (T:Tops K mg):a0C P w K mg base CX0 4 "check_values" ["values", "many"] (b6X K):=by
 have G_is_value:a0C P w K mg base CX0 3 "is_value" ["thing"] (c1I K):=a4a T
 refine T.d_check_values.known b77 (fun _ _ _ _ _ _ us hl => match us,hl with | [_,_],_ => rfl) (fun vs H Q E h => ?_) (fun f cdv A outer s H vs Q E hr h => ?_)
 ·obtain ⟨a,xs,ds,rfl,_⟩:=h
  rfl
 ·obtain ⟨a,xs,ds,rfl,hq,hp,l1000,q⟩:=h
  have hl:xs.length = ds.length:=Paired.length hp
  refine ⟨_,(a0e (a0E (PW.pt (b85 (a23 (a1w (a0z a4z rfl T.isinstance a0K (a0a (pv 0) (a0a (b6m T.list b1e) a0f))) (fun _ => rfl))) (b85 (a0A d1N (a0z a4A rfl T.len b6u (a0a (pv 0) a0f)) (pv 1) (a0Z _)) (b3E (a23 (a1w (a0z (c6y rfl) rfl T.all d2m (a0a (c72 d0K rfl rfl (by decide) (b4y (pv 0)) (fun _ _ _ _ _ => c5e) (fun _ _ _ _ _ => (a0o G_is_value (hr.mono (by decide)) a0r (a0a (pv 0) a0f)))) a0f)) (fun _ => rfl))))))) (a0e a0y) a0q)),?_⟩
  refine ⟨_,rfl,_, "list", .list ds,_,rfl,.lst hq hp.dt,b6U K _,_,rfl,iteF ?_⟩
  refine ⟨_,rfl,_,_,rfl,.inl ⟨_,hq,rfl⟩,_,rfl,rfl,_,rfl,?_⟩
  rw [decide_eq_true rfl]
  refine iteF ⟨_,rfl,a,rfl,⟨_,hq⟩,fun D hD => ?_⟩
  refine c7T (K:=K) (a:=a) (xs:=xs) (fun i ys H2 => ys = (List.replicate i (V.bl true)) /\ Same H H2) ⟨rfl,Same.new hD⟩ (fun i ys H2 _ ⟨_,s2⟩ => s2.seq hq) ?_ ?_
  ·rintro i v ys H2 hv h2D ⟨rfl,s2⟩
   obtain ⟨e,he,hde⟩:=hp.dt.get hv
   have ve:=hp.vd e (List.mem_of_getElem? he)
   have hi:i < xs.length:=(List.getElem?_eq_some_iff.mp hv).1
   refine ⟨_,rfl,v,e,rfl,hde.same s2,ve.short.1,fun H3 s3 => ⟨s3 _ _ h2D,?_,?_,?_⟩⟩
   ·rw [List.length_replicate]
    exact a0w (by omega)
   ·rw [ve.short.2,List.replicate_succ']
   ·exact (s2.trans s3).on hD
  ·rintro ys H2 h2D ⟨rfl,s2⟩
   refine ⟨D,List.replicate xs.length true,rfl,SqL.of (by rw [h2D,List.map_replicate]),_,rfl,?_⟩
   rw [show (List.replicate xs.length true).all id = true by rw [List.all_eq_true]; intro b hb; exact (List.mem_replicate.mp hb).2]
   exact iteF (q _ s2)
def c9M (K:PySem.W.Frag) (C:Addr):Sp:=fun vs H Q _ => ∃ (p dx:Addr) (m:Nat),vs = [.ref p,.int (m:Int)] /\ H p = some (.ins C dx []) /\ m <= 30 /\
 ∀ H' r e,b4X C H' p r e (a3F 0 m) (m:Int) [] -> H r = none -> H e = none -> r ≠ e -> (∀ b o,H b = some o -> b ≠ p -> H' b = some o) -> Q .non H'
theorem c1z:a0l ["self", "many"] ["self", "many"] (a0b a4Z):=⟨rfl,rfl,rfl,by decide +kernel,rfl,by decide +kernel,by decide +kernel⟩
theorem a4T (T:Tops K mg) {C:Addr} (Y:a1g K mg C):a19 P w K mg base CX0 3 C ["self", "many"] (c9M K C):=by
 have G_check_size:a0C P w K mg base CX0 2 "check_size" ["many"] c7W:=a26 T
 refine (Y.m_init.known c1z (fun _ _ _ _ _ _ us hl => match us,hl with | [_,_],_ => rfl) (fun vs H Q E h => ?_) (fun f cdv A outer s H vs Q E hr h => ?_)).init Y.mks Y.kc
 ·obtain ⟨p,dx,m,rfl,_⟩:=h
  rfl
 ·obtain ⟨p,dx,m,rfl,hp,hm,q1⟩:=h
  refine ⟨_,(a0d (a0t (a0o G_check_size (hr.mono (by decide)) a0r (a0a (pv 1) a0f)))
   (a0d (a0S (pv 0) (a71 (c1x rfl) rfl T.list b1e (a0a (a71 c8n rfl T.range d04 (a0a (pv 1) a0f)) a0f)) rfl)
   (a0d (a0S (pv 0) (a0z a4A rfl T.len b6u (a0a (a0n (pv 0) rfl) a0f)) rfl)
   (a0e (a0S (pv 0) b3i rfl))))),?_⟩
  refine ⟨_,rfl,m,rfl,hm,?_⟩
  refine ⟨_,rfl,(m:Int),rfl,fun g hg => ⟨g,0,(m:Int),rfl,a0c,by omega,by omega,by omega,by omega,by omega,fun r hr0 => ?_⟩⟩
  have ngp:p ≠ g:=a0h hp hg
  have hgr:r ≠ g:=fun z => by rw [z,a0c] at hr0; cases hr0
  have hr':H r = none:=by rw [a0g hgr] at hr0; exact hr0
  have npr:p ≠ r:=a0h hp hr'
  rw [Int.sub_zero,Int.toNat_natCast]
  refine ⟨_,rfl,p,C,dx,[],rfl,(by rw [a0g npr,a0g ngp]; exact hp),Y.cl,Y.n_row_numbers,(by show 0 < 1000; decide),?_⟩
  refine ⟨_,rfl,p,C,dx,_,_,rfl,a0c,Y.cl,Y.n_row_numbers,rfl,_,_,rfl,.inl ⟨_,SqL.of (by rw [a0g npr.symm,a0c]),rfl⟩,?_⟩
  refine ⟨_,rfl,p,C,dx,_,rfl,a0c,Y.cl,Y.n_fresh_number,(by show 1 < 1000; decide),?_⟩
  intro e he
  have npe:p ≠ e:=fun z => by rw [<- z,a0c] at he; cases he
  have nre:r ≠ e:=fun z => by rw [<- z,a0g npr.symm,a0g npr.symm,a0c] at he; cases he
  have nge:g ≠ e:=fun z => by rw [<- z,a0g ngp.symm,a0g ngp.symm,a0g hgr.symm,a0c] at he; cases he
  have he':H e = none:=by rw [a0g npe.symm,a0g npe.symm,a0g nre.symm,a0g nge.symm] at he; exact he
  refine ⟨_,rfl,p,C,dx,_,rfl,(by rw [a0g npe]; exact a0c),Y.cl,Y.n_kept,(by show (putF "fresh_number" _ (putF "row_numbers" _ [])).length < 1000; show (if ("row_numbers" : Str) = "fresh_number" then _ else _:List (Str × V)).length < 1000; rw [if_neg (by decide +kernel)]; show 2 < 1000; decide),?_⟩
  refine q1 _ r e ⟨⟨dx,?_⟩,?_,?_⟩ hr' he' nre fun b o hb hbp => ?_
  ·rw [a0c]
   refine congrArg (fun l => some (HO.ins C dx l)) ?_
   have:=d0o r (a3F 0 m).length e
   rw [a4q] at this ⊢
   exact this
  ·rw [a0g npr.symm,a0g nre,a0g npr.symm,a0g npr.symm,a0c]
  ·rw [a0g npe.symm,a0c]
  ·rw [a0g hbp,a0g (a0h hb he'),a0g hbp,a0g hbp,a0g (a0h hb hr'),a0g (a0h hb hg)]
   exact hb
def b5A (C:Addr):Sp:=fun vs H Q _ => ∃ p r d xs n kvs,vs = [.ref p] /\ b4X C H p r d xs n kvs /\ Q (.int xs.length) H
theorem b99:a0l ["self"] ["self"] (a0b a4F):=⟨rfl,rfl,rfl,by decide +kernel,rfl,by decide +kernel,by decide +kernel⟩
theorem a0P (T:Tops K mg) {C:Addr} (Y:a1g K mg C):a0k P w K mg base CX0 1 C "many" ["self"] (b5A C):=by
 refine Y.m_many.known b99 (fun _ _ _ _ _ _ us hl => match us,hl with | [_],_ => rfl) (fun vs H Q E h => ?_) (fun f cdv A outer s H vs Q E hr h => ?_)
 ·obtain ⟨p,r,d,xs,n,kvs,rfl,_⟩:=h
  rfl
 ·obtain ⟨p,r,d,xs,n,kvs,rfl,⟨⟨dx,hp⟩,hr',hd⟩,q⟩:=h
  refine ⟨_,(a0e (a0v (a0z a4A rfl T.len b6u (a0a (a0n (pv 0) rfl) a0f)))),?_⟩
  exact ⟨_,rfl,p,C,dx,_,_,rfl,hp,Y.cl,Y.n_row_numbers,c4Q _ _ _,_,_,rfl,.inl ⟨_,SqL.of hr',rfl⟩,q⟩
def c8K (C:Addr):Sp:=fun vs H Q _ => ∃ p r d xs n kvs t v,vs = [.ref p,.str t] /\ b4X C H p r d xs n kvs /\ Nl t /\ valV kvs (.inr t:Key) = some v /\ ∀ H',Same H H' -> Q .non H'
theorem a9w:a0l ["self", "column"] ["self", "column"] (a0b a0X):=⟨rfl,rfl,rfl,by decide +kernel,rfl,by decide +kernel,by decide +kernel⟩
theorem a0I (T:Tops K mg) {C:Addr} (Y:a1g K mg C):a0k P w K mg base CX0 2 C "check_column" ["self", "column"] (c8K C):=by
 have G_is_name:a0C P w K mg base CX0 1 "is_name" ["thing"] (b3A K):=a1R T
 refine Y.m_check_column.known a9w (fun _ _ _ _ _ _ us hl => match us,hl with | [_,_],_ => rfl) (fun vs H Q E h => ?_) (fun f cdv A outer s H vs Q E hr h => ?_)
 ·obtain ⟨p,r,d,xs,n,kvs,t,v,rfl,_⟩:=h
  rfl
 ·obtain ⟨p,r,d,xs,n,kvs,t,v,rfl,TA,ht,hv,q⟩:=h
  refine ⟨_,(a0e (a0E (PW.pt (b85 (a23 (a1w (a0o G_is_name (hr.mono (by decide)) a0r (a0a (pv 1) a0f)) (fun _ => rfl))) (b3E (a7S (a3Q (a2I hr) (pv 1) (a0n (pv 0) rfl)))))) (a0e a0y) a0q)),?_⟩
  have h8:=ht.2.1
  refine ⟨_,rfl,_,.str t,rfl,.str t,a1D (by omega),fun H' s' => ⟨_,rfl,?_⟩⟩
  rw [show a8a (.str t) = true from ht.name]
  obtain ⟨⟨dx,h1⟩,_,h3⟩:=TA.same s'
  refine iteF ⟨_,rfl,_,rfl,p,C,dx,_,_,rfl,h1,Y.cl,Y.n_kept,a77 _ _ _,d,_,rfl,DGet.k (k:=Sum.inr t) h3,_,rfl,?_⟩
  rw [hv]
  exact iteF (q _ s')
def spAt (C:Addr):Sp:=fun vs H Q _ => ∃ p r d xs n kvs t l ys,∃ (i:Nat) (v:V),vs = [.ref p,.str t,.int (i:Int)] /\ b4X C H p r d xs n kvs /\ Nl t /\ valV kvs (.inr t:Key) = some (.ref l) /\ H l = some (.lst ys) /\ i < xs.length /\ atI ys (i:Int) = some v /\ ∀ H',Same H H' -> Q v H'
theorem c54:a0l ["self", "column", "place"] ["self", "column", "place"] (a0b a7Q):=⟨rfl,rfl,rfl,by decide +kernel,rfl,by decide +kernel,by decide +kernel⟩
theorem a5K (T:Tops K mg) {C:Addr} (Y:a1g K mg C):a0k P w K mg base CX0 3 C "at" ["self", "column", "place"] (spAt C):=by
 have G_check_column:a0k P w K mg base CX0 2 C "check_column" ["self", "column"] (c8K C):=a0I T Y
 have G_check_place:a0C P w K mg base CX0 2 "check_place" ["place", "places"] b7q:=a1f T
 have G_many:a0k P w K mg base CX0 1 C "many" ["self"] (b5A C):=a0P T Y
 refine Y.m_at.known c54 (fun _ _ _ _ _ _ us hl => match us,hl with | [_,_,_],_ => rfl) (fun vs H Q E h => ?_) (fun f cdv A outer s H vs Q E hr h => ?_)
 ·obtain ⟨p,r,d,xs,n,kvs,t,l,ys,i,v,rfl,_⟩:=h
  rfl
 ·obtain ⟨p,r,d,xs,n,kvs,t,l,ys,i,v,rfl,TA,ht,hv,hl,hi,ha,q⟩:=h
  refine ⟨_,(a0d (a0t (a0s (pv 0) Y.cl G_check_column (hr.mono (by decide)) a0r (a0a (pv 1) a0f)))
   (a0d (a0t (a0o G_check_place (hr.mono (by decide)) a0r (a0a (pv 2) (a0a (a4R (pv 0) Y.cl G_many (hr.mono (by decide)) a0r) a0f))))
   (a0e (a0v (a1P a1T (a00 (a2I hr) (a0n (pv 0) rfl) (pv 1) (fun _ _ => rfl)) (pv 2) (fun _ _ => rfl)))))),?_⟩
  obtain ⟨⟨dx,h1⟩,h2,h3⟩:=id TA
  refine ⟨_,rfl,p,dx,_,rfl,h1,a3y,_,rfl,p,r,d,xs,n,kvs,t,_,rfl,TA,ht,hv,fun H1 s1 => ?_⟩
  refine ⟨_,rfl,_,rfl,p,dx,_,rfl,s1 _ _ h1,a3y,p,r,d,xs,n,kvs,rfl,TA.same s1,i,xs.length,rfl,hi,?_⟩
  exact ⟨_,rfl,p,C,dx,_,_,rfl,s1 _ _ h1,Y.cl,Y.n_kept,a77 _ _ _,_,rfl,d,.ref l,rfl,hv ▸ DGet.k (k:=Sum.inr t) (s1 _ _ h3),_,rfl,l,_,_,v,rfl,rfl,SqL.of (s1 _ _ hl),ha,q _ s1⟩
def d2g (C:Addr):Sp:=fun vs H Q _ => ∃ p r d xs n kvs,∃ (i:Nat) (v:V),vs = [.ref p,.int (i:Int)] /\ b4X C H p r d xs n kvs /\ i < xs.length /\ atI xs (i:Int) = some v /\ Q v H
theorem b2Z:a0l ["self", "place"] ["self", "place"] (a0b a1E):=⟨rfl,rfl,rfl,by decide +kernel,rfl,by decide +kernel,by decide +kernel⟩
theorem a1B (T:Tops K mg) {C:Addr} (Y:a1g K mg C):a0k P w K mg base CX0 3 C "number_at" ["self", "place"] (d2g C):=by
 have G_check_place:a0C P w K mg base CX0 2 "check_place" ["place", "places"] b7q:=a1f T
 have G_many:a0k P w K mg base CX0 1 C "many" ["self"] (b5A C):=a0P T Y
 refine Y.m_number_at.known b2Z (fun _ _ _ _ _ _ us hl => match us,hl with | [_,_],_ => rfl) (fun vs H Q E h => ?_) (fun f cdv A outer s H vs Q E hr h => ?_)
 ·obtain ⟨p,r,d,xs,n,kvs,i,v,rfl,_⟩:=h
  rfl
 ·obtain ⟨p,r,d,xs,n,kvs,i,v,rfl,TA,hi,ha,q⟩:=h
  refine ⟨_,(a0d (a0t (a0o G_check_place (hr.mono (by decide)) a0r (a0a (pv 1) (a0a (a4R (pv 0) Y.cl G_many (hr.mono (by decide)) a0r) a0f))))
   (a0e (a0v (a1P a1T (a0n (pv 0) rfl) (pv 1) (fun _ _ => rfl))))),?_⟩
  obtain ⟨⟨dx,h1⟩,h2,h3⟩:=id TA
  refine ⟨_,rfl,_,rfl,p,dx,_,rfl,h1,a3y,p,r,d,xs,n,kvs,rfl,TA,i,xs.length,rfl,hi,?_⟩
  exact ⟨_,rfl,p,C,dx,_,_,rfl,h1,Y.cl,Y.n_row_numbers,c4Q _ _ _,_,rfl,r,_,_,v,rfl,rfl,SqL.of h2,ha,q⟩
def d2c (K:PySem.W.Frag) (C:Addr):Sp:=fun vs H Q _ => ∃ p r d xs n kvs t l ys,∃ (i:Nat) (v:V) (dv:PyData),vs = [.ref p,.str t,.int (i:Int),v] /\ b4X C H p r d xs n kvs /\ Nl t /\ valV kvs (.inr t:Key) = some (.ref l) /\ H l = some (.lst ys) /\ i < xs.length /\ i < ys.length /\ Pv K H v dv /\
 ∀ H',Same H H' -> Q .non (upd H' l (.lst (ys.set i v)))
theorem c3Y:a0l ["self", "column", "place", "value"] ["self", "column", "place", "value"] (a0b a5Y):=⟨rfl,rfl,rfl,by decide +kernel,rfl,by decide +kernel,by decide +kernel⟩
theorem a6j (T:Tops K mg) {C:Addr} (Y:a1g K mg C):a0k P w K mg base CX0 5 C "put" ["self", "column", "place", "value"] (d2c K C):=by
 have G_check_column:a0k P w K mg base CX0 2 C "check_column" ["self", "column"] (c8K C):=a0I T Y
 have G_check_place:a0C P w K mg base CX0 2 "check_place" ["place", "places"] b7q:=a1f T
 have G_check_value:a0C P w K mg base CX0 4 "check_value" ["value"] (c6m K):=a3K T
 have G_many:a0k P w K mg base CX0 1 C "many" ["self"] (b5A C):=a0P T Y
 refine Y.m_put.known c3Y (fun _ _ _ _ _ _ us hl => match us,hl with | [_,_,_,_],_ => rfl) (fun vs H Q E h => ?_) (fun f cdv A outer s H vs Q E hr h => ?_)
 ·obtain ⟨p,r,d,xs,n,kvs,t,l,ys,i,v,dv,rfl,_⟩:=h
  rfl
 ·obtain ⟨p,r,d,xs,n,kvs,t,l,ys,i,v,dv,rfl,TA,ht,hv,hl,hi,hj,hpv,q⟩:=h
  refine ⟨_,(a0d (a0t (a0s (pv 0) Y.cl G_check_column (hr.mono (by decide)) a0r (a0a (pv 1) a0f)))
   (a0d (a0t (a0o G_check_place (hr.mono (by decide)) a0r (a0a (pv 2) (a0a (a4R (pv 0) Y.cl G_many (hr.mono (by decide)) a0r) a0f))))
   (a0d (a0t (a0o G_check_value (hr.mono (by decide)) a0r (a0a (pv 3) a0f)))
   (a0e (c8j (pv 3) (c8y (a00 (a2I hr) (a0n (pv 0) rfl) (pv 1) (fun _ _ => rfl)) (pv 2) c1A (fun _ => rfl))))))),?_⟩
  obtain ⟨⟨dx,h1⟩,h2,h3⟩:=id TA
  refine ⟨_,rfl,p,dx,_,rfl,h1,a3y,_,rfl,p,r,d,xs,n,kvs,t,_,rfl,TA,ht,hv,fun H1 s1 => ?_⟩
  refine ⟨_,rfl,_,rfl,p,dx,_,rfl,s1 _ _ h1,a3y,p,r,d,xs,n,kvs,rfl,TA.same s1,i,xs.length,rfl,hi,?_⟩
  refine ⟨_,rfl,v,dv,rfl,hpv.same s1,fun H2 s2 => ?_⟩
  have s12:=s1.trans s2
  have hx:ixN ys.length (i:Int) = some i:=by rw [c43 (by omega) (by omega),Int.toNat_natCast]
  exact ⟨_,rfl,_,rfl,p,C,dx,_,_,rfl,s12 _ _ h1,Y.cl,Y.n_kept,a77 _ _ _,_,rfl,d,.ref l,rfl,hv ▸ DGet.k (k:=Sum.inr t) (s12 _ _ h3),_,rfl,l,ys,_,i,rfl,rfl,s12 _ _ hl,hx,q _ s12⟩
def c9Z (K:PySem.W.Frag) (C:Addr):Sp:=fun vs H Q _ => ∃ p r d xs n kvs t a ys ds,vs = [.ref p,.str t,.ref a] /\ b4X C H p r d xs n kvs /\ Nl t /\ ((valV kvs (.inr t:Key)).isSome = true ∨ kvs.length < 8) /\ kvs.length <= 1000 /\ SqL K H a ys /\ Pvs K H ys ds /\ ys.length = xs.length /\ ys.length <= 1000 /\
 ∀ H' l,Same H H' -> H' l = none -> Q .non (upd (upd H' l (.lst ys)) d (.dK (putK kvs (.inr t:Key) (.ref l))))
theorem c2a:a0l ["self", "column", "values"] ["self", "column", "values"] (a0b a15):=⟨rfl,rfl,rfl,by decide +kernel,rfl,by decide +kernel,by decide +kernel⟩
theorem a4P (T:Tops K mg) {C:Addr} (Y:a1g K mg C):a0k P w K mg base CX0 5 C "give" ["self", "column", "values"] (c9Z K C):=by
 have G_is_name:a0C P w K mg base CX0 1 "is_name" ["thing"] (b3A K):=a1R T
 have G_check_values:a0C P w K mg base CX0 4 "check_values" ["values", "many"] (b6X K):=a1S T
 have G_many:a0k P w K mg base CX0 1 C "many" ["self"] (b5A C):=a0P T Y
 refine Y.m_give.known c2a (fun _ _ _ _ _ _ us hl => match us,hl with | [_,_,_],_ => rfl) (fun vs H Q E h => ?_) (fun f cdv A outer s H vs Q E hr h => ?_)
 ·obtain ⟨p,r,d,xs,n,kvs,t,a,ys,ds,rfl,_⟩:=h
  rfl
 ·obtain ⟨p,r,d,xs,n,kvs,t,a,ys,ds,rfl,TA,ht,hc,hk,hs,hp,hl,l1000,q⟩:=h
  have rest:∃ t',PSs (cxOf CX0 P w K mg base ["self", "column", "values"] "Table.give" (a0b a15) f cdv A outer s H E).nox ((a0i a15).drop 2) t' /\
   ∀ (H1:Hp),Same H H1 -> t' { nx:=fun _ H' => Q .non H',rt:=Q } [some (.ref p),some (.str t),some (.ref a)] H1:=by
   refine ⟨_,(a0d (a0t (a0o G_check_values (hr.mono (by decide)) a0r (a0a (pv 2) (a0a (a4R (pv 0) Y.cl G_many (hr.mono (by decide)) a0r) a0f))))
    (a0e (a6x (a2I hr) (a0n (pv 0) rfl) (pv 1) (a71 a7j rfl T.list b1e (a0a (pv 2) a0f)) rfl))),fun H1 s1 => ?_⟩
   obtain ⟨⟨dx,h1⟩,h2,h3⟩:=TA.same s1
   refine ⟨_,rfl,_,rfl,p,dx,_,rfl,h1,a3y,p,r,d,xs,n,kvs,rfl,TA.same s1,a,ys,ds,(by rw [hl]; rfl),s1.seq hs,hp.keep (a1u.of s1),l1000,fun H2 s2 => ?_⟩
   have s12:=s1.trans s2
   refine ⟨_,rfl,a,ys,rfl,.inl (s12.seq hs),fun l hl => ?_⟩
   have c1:Same H2 (upd H2 l (.lst ys)):=Same.new hl
   refine ⟨_,rfl,p,C,dx,_,_,rfl,c1 _ _ (s2 _ _ h1),Y.cl,Y.n_kept,a77 _ _ _,_,rfl,d,_,rfl,DPut.k (k:=Sum.inr t) (c1 _ _ (s2 _ _ h3)) (a0w hk),?_⟩
   exact q H2 l s12 hl
  obtain ⟨t2,ht2,r2⟩:=rest
  refine ⟨_,(a0d (a0E (a23 (a1w (a0o G_is_name (hr.mono (by decide)) a0r (a0a (pv 1) a0f)) (fun _ => rfl))) (a0e a0y) a0q)
   (a0d (a0E (PW.pt (b74 (a7S (a3Q (a2I hr) (pv 1) (a0n (pv 0) rfl))) (b2p (a0A c9n (a0z c3n rfl T.len b6u (a0a (a0n (pv 0) rfl) a0f)) (c7t T.g_MOST_COLUMNS) (a0Z _))))) (a0e a0y) a0q)
   ht2)),?_⟩
  have h8:=ht.2.1
  refine ⟨_,rfl,_,.str t,rfl,.str t,a1D (by omega),fun H1 s1 => ⟨_,rfl,?_⟩⟩
  rw [show a8a (.str t) = true from ht.name]
  obtain ⟨⟨dx,h2⟩,_,h3⟩:=TA.same s1
  refine iteF ⟨_,rfl,_,rfl,p,C,dx,_,_,rfl,h2,Y.cl,Y.n_kept,a77 _ _ _,d,_,rfl,DGet.k (k:=Sum.inr t) h3,_,rfl,?_⟩
  cases e:valV kvs (Sum.inr t:Key) with
  | some v => exact iteF (iteF (r2 H1 s1))
  | none =>
   have hc':kvs.length < 8:=by
    rcases hc with hc | hc
    ·rw [e] at hc; cases hc
    ·exact hc
   refine iteT ⟨_,rfl,p,C,dx,_,_,rfl,h2,Y.cl,Y.n_kept,a77 _ _ _,d,kvs,rfl,h3,_,_,rfl,rfl,_,rfl,?_⟩
   rw [decide_eq_false (show ¬ (kvs.length:Int) >= 8 by omega)]
   exact iteF (r2 H1 s1)
end
end My
set_option maxHeartbeats 1000000
namespace My
open PySem L2
theorem a0M {H H':Hp} {a:Addr} (s:Same H H') (h:H' a = none):H a = none:=by
 cases e:H a with
 | none => rfl
 | some o => rw [s _ _ e] at h; cases h
def But (p:Addr) (H H':Hp):Prop:=∀ b o,b ≠ p -> H b = some o -> H' b = some o
theorem But.of {p:Addr} {H H':Hp} (s:Same H H'):But p H H':=fun b o _ e => s b o e
theorem But.trans {p:Addr} {H H1 H2:Hp} (a:But p H H1) (b:But p H1 H2):But p H H2:=fun c o n e => b c o n (a c o n e)
theorem c8b {H:Hp} {p b C D dx dy:Addr} {fs gs:List (Str × V)} (h:H p = some (.ins C dx fs)) (g:H b = some (.ins D dy gs)) (n:fs.length ≠ gs.length):p ≠ b:=fun z => by
 rw [z,g] at h
 cases h
 exact n rfl
structure BM where
 b:Addr
 g:Addr
 r:Addr
 e:Addr
 ru:Addr
 me:Addr
 od:Addr
 xs:List V
 n:Int
 kvs:List (Key × V)
 rus:List (Key × V)
 mes:List (Key × V)
 ord:List Str
def bfl (g ru me od:Addr):List (Str × V):=[("given", V.ref g),("rules", V.ref ru),("memory", V.ref me),("order", V.ref od)]
theorem a1l (g ru me od:Addr):(bfl g ru me od).lookup ("given" : Str) = some (.ref g) /\ (bfl g ru me od).lookup ("rules" : Str) = some (.ref ru) /\ (bfl g ru me od).lookup ("memory" : Str) = some (.ref me) /\ (bfl g ru me od).lookup ("order" : Str) = some (.ref od):=⟨rfl,rfl,rfl,rfl⟩
theorem b68 {g ru me od:Addr} {m:Str} (h:(m == ("given" : Str) || m == ("rules" : Str) || m == ("memory" : Str) || m == ("order" : Str)) = false:=by decide +kernel):(bfl g ru me od).lookup m = none:=by
 simp only [Bool.or_eq_false_iff] at h
 obtain ⟨⟨⟨h1,h2⟩,h3⟩,h4⟩:=h
 unfold bfl
 simp [List.lookup,h1,h2,h3,h4]
theorem d2j (g ru me od:Addr):putF "order" (.ref od) (putF "memory" (.ref me) (putF "rules" (.ref ru) (putF "given" (.ref g) []))) = bfl g ru me od:=by
 rfl
structure BAt (CB CT:Addr) (H:Hp) (B:BM):Prop where
 at_:∃ dx,H B.b = some (.ins CB dx (bfl B.g B.ru B.me B.od))
 tab:b4X CT H B.g B.r B.e B.xs B.n B.kvs
 rul:H B.ru = some (.dK B.rus)
 mem:H B.me = some (.dK B.mes)
 ord:H B.od = some (.lst (B.ord.map V.str))
theorem BAt.same {CB CT:Addr} {H H':Hp} {B:BM} (h:BAt CB CT H B) (s:Same H H'):BAt CB CT H' B :=
 ⟨let ⟨dx,e⟩:=h.at_; ⟨dx,s _ _ e⟩,h.tab.same s,s _ _ h.rul,s _ _ h.mem,s _ _ h.ord⟩
structure BM.sep (B:BM):Prop where
 ro:B.r ≠ B.od
 eu:B.e ≠ B.ru
 em:B.e ≠ B.me
 um:B.ru ≠ B.me
section
variable {P:Program} {w:World} {K:PySem.W.Frag} {mg:Str -> Option Value} {base:Heap}
def c8v (CB CT:Addr):Sp:=fun vs H Q _ => ∃ (p dx:Addr) (m:Nat),vs = [.ref p,.int (m:Int)] /\ H p = some (.ins CB dx []) /\ m <= 30 /\
 ∀ H' g r e ru me od,BAt CB CT H' ⟨p,g,r,e,ru,me,od,a3F 0 m,(m:Int),[],[],[],[]⟩ -> BM.sep ⟨p,g,r,e,ru,me,od,a3F 0 m,(m:Int),[],[],[],[]⟩ -> (∀ x ∈ [g,r,e,ru,me,od],H x = none) -> (∀ b o,H b = some o -> b ≠ p -> H' b = some o) -> Q .non H'
theorem c0K:a0l ["self", "many"] ["self", "many"] (a0b a43):=⟨rfl,rfl,rfl,by decide +kernel,rfl,by decide +kernel,by decide +kernel⟩
theorem a40 (T:Tops K mg) {CB CT:Addr} (Y:a0R K mg CB) (Z:a1g K mg CT):a19 P w K mg base CX0 5 CB ["self", "many"] (c8v CB CT):=by
 have GI:a19 P w K mg base CX0 3 CT ["self", "many"] (c9M K CT):=a4T T Z
 refine (Y.m_init.known c0K (fun _ _ _ _ _ _ us hl => match us,hl with | [_,_],_ => rfl) (fun vs H Q E h => ?_) (fun f cdv A outer s H vs Q E hr h => ?_)).init Y.mks Y.kc
 ·obtain ⟨p,dx,m,rfl,_⟩:=h
  rfl
 ·obtain ⟨p,dx,m,rfl,hp,hm,q⟩:=h
  refine ⟨_,(a0d (a0S (pv 0) (a4v GI hr Z.c a0r (a0a (pv 1) a0f)) rfl)
   (a0d (a0S (pv 0) b3i rfl)
   (a0d (a0S (pv 0) b3i rfl)
   (a0e (a0S (pv 0) (a2K a0f) rfl))))),?_⟩
  refine ⟨_,rfl,?_⟩
  intro g dg hg hdg ne
  refine ⟨g,dg,m,rfl,a0c,hm,fun H1 r e TA hr1 he1 nre b1 => ⟨rfl,?_⟩⟩
  have s1:Same H H1:=fun b o z => b1 b o (by rw [a0g (a0h z hg),a0g (a0h z hdg)]; exact z) (a0h z hg)
  have npg:p ≠ g:=a0h hp hg
  have hr0:H r = none:=by
   by_cases z:r = g
   ·rw [z]; exact hg
   ·by_cases z2:r = dg
    ·rw [z2]; exact hdg
    ·rw [a0g z,a0g z2] at hr1; exact hr1
  have he0:H e = none:=by
   by_cases z:e = g
   ·rw [z]; exact hg
   ·by_cases z2:e = dg
    ·rw [z2]; exact hdg
    ·rw [a0g z,a0g z2] at he1; exact he1
  obtain ⟨⟨dt,ht⟩,hrr,hee⟩:=TA
  refine ⟨_,rfl,p,CB,dx,[],rfl,s1 _ _ hp,Y.cl,Y.n_given,(by show 0 < 1000; decide),?_⟩
  have u2:∀ b o,b ≠ p -> H1 b = some o -> upd H1 p (.ins CB dx (putF "given" (.ref g) [])) b = some o:=fun b o n z => by rw [a0g n]; exact z
  have p2:upd H1 p (.ins CB dx (putF "given" (.ref g) [])) p = some (.ins CB dx (putF "given" (.ref g) [])):=a0c
  have n2:∀ b,upd H1 p (.ins CB dx (putF "given" (.ref g) [])) b = none -> H1 b = none /\ b ≠ p:=fun b z => by
   have:b ≠ p:=fun y => by rw [y,a0c] at z; cases z
   rw [a0g this] at z
   exact ⟨z,this⟩
  generalize upd H1 p (.ins CB dx (putF "given" (.ref g) [])) = H2 at u2 p2 n2 ⊢
  have b1':∀ b,H1 b = none -> H b = none:=fun b z => by
   cases e9:H b with
   | none => rfl
   | some o => rw [s1 _ _ e9] at z; cases z
  refine fun ru hru => ?_
  have s3:=Same.new (o:=.dK []) hru
  have h3:upd H2 ru (.dK []) ru = some (.dK []):=a0c
  have n3:∀ b,upd H2 ru (.dK []) b = none -> H2 b = none /\ b ≠ ru:=fun b z => by
   have:b ≠ ru:=fun y => by rw [y,a0c] at z; cases z
   rw [a0g this] at z
   exact ⟨z,this⟩
  refine ⟨_,rfl,p,CB,dx,_,rfl,s3 _ _ p2,Y.cl,Y.n_rules,(by show 1 < 1000; decide),?_⟩
  have hru2:=n2 _ hru
  generalize upd H2 ru (.dK []) = H3 at s3 h3 n3 ⊢
  have u4:∀ b o,b ≠ p -> H3 b = some o -> upd H3 p (.ins CB dx (putF "rules" (.ref ru) (putF "given" (.ref g) []))) b = some o:=fun b o n z => by rw [a0g n]; exact z
  have p4:upd H3 p (.ins CB dx (putF "rules" (.ref ru) (putF "given" (.ref g) []))) p = some (.ins CB dx (putF "rules" (.ref ru) (putF "given" (.ref g) []))):=a0c
  have n4:∀ b,upd H3 p (.ins CB dx (putF "rules" (.ref ru) (putF "given" (.ref g) []))) b = none -> H3 b = none /\ b ≠ p:=fun b z => by
   have:b ≠ p:=fun y => by rw [y,a0c] at z; cases z
   rw [a0g this] at z
   exact ⟨z,this⟩
  generalize upd H3 p (.ins CB dx (putF "rules" (.ref ru) (putF "given" (.ref g) []))) = H4 at u4 p4 n4 ⊢
  refine fun me hme => ?_
  have s5:=Same.new (o:=.dK []) hme
  have h5:upd H4 me (.dK []) me = some (.dK []):=a0c
  have n5:∀ b,upd H4 me (.dK []) b = none -> H4 b = none /\ b ≠ me:=fun b z => by
   have:b ≠ me:=fun y => by rw [y,a0c] at z; cases z
   rw [a0g this] at z
   exact ⟨z,this⟩
  refine ⟨_,rfl,p,CB,dx,_,rfl,s5 _ _ p4,Y.cl,Y.n_memory,(by show 2 < 1000; decide),?_⟩
  have hme4:=n4 _ hme
  have hme3:=n3 _ hme4.1
  have hme2:=n2 _ hme3.1
  generalize upd H4 me (.dK []) = H5 at s5 h5 n5 ⊢
  have u6:∀ b o,b ≠ p -> H5 b = some o -> upd H5 p (.ins CB dx (putF "memory" (.ref me) (putF "rules" (.ref ru) (putF "given" (.ref g) [])))) b = some o:=fun b o n z => by rw [a0g n]; exact z
  have p6:upd H5 p (.ins CB dx (putF "memory" (.ref me) (putF "rules" (.ref ru) (putF "given" (.ref g) [])))) p = some (.ins CB dx (putF "memory" (.ref me) (putF "rules" (.ref ru) (putF "given" (.ref g) [])))):=a0c
  have n6:∀ b,upd H5 p (.ins CB dx (putF "memory" (.ref me) (putF "rules" (.ref ru) (putF "given" (.ref g) [])))) b = none -> H5 b = none /\ b ≠ p:=fun b z => by
   have:b ≠ p:=fun y => by rw [y,a0c] at z; cases z
   rw [a0g this] at z
   exact ⟨z,this⟩
  generalize upd H5 p (.ins CB dx (putF "memory" (.ref me) (putF "rules" (.ref ru) (putF "given" (.ref g) [])))) = H6 at u6 p6 n6 ⊢
  refine ⟨sl,fun od hod => ?_⟩
  have s7:=Same.new (o:=.lst []) hod
  have h7:upd H6 od (.lst []) od = some (.lst []):=a0c
  refine ⟨_,rfl,p,CB,dx,_,rfl,s7 _ _ p6,Y.cl,Y.n_order,(by show 3 < 1000; decide),?_⟩
  have hod6:=n6 _ hod
  have hod5:=n5 _ hod6.1
  have hod4:=n4 _ hod5.1
  have hod3:=n3 _ hod4.1
  have hod2:=n2 _ hod3.1
  generalize upd H6 od (.lst []) = H7 at s7 h7 ⊢
  have up:∀ b o,b ≠ p -> H1 b = some o -> upd H7 p (.ins CB dx (putF "order" (.ref od) (putF "memory" (.ref me) (putF "rules" (.ref ru) (putF "given" (.ref g) []))))) b = some o:=fun b o n z => by
   rw [a0g n]
   exact s7 _ _ (u6 _ _ n (s5 _ _ (u4 _ _ n (s3 _ _ (u2 _ _ n z)))))
  have p9:upd H7 p (.ins CB dx (putF "order" (.ref od) (putF "memory" (.ref me) (putF "rules" (.ref ru) (putF "given" (.ref g) []))))) p = some (.ins CB dx (bfl g ru me od)):=by rw [a0c,d2j]
  have npr:r ≠ p:=fun z => by rw [z,hp] at hr0; cases hr0
  have npe:e ≠ p:=fun z => by rw [z,hp] at he0; cases he0
  have o7:upd H7 p (.ins CB dx (putF "order" (.ref od) (putF "memory" (.ref me) (putF "rules" (.ref ru) (putF "given" (.ref g) []))))) od = some (.lst []):=by rw [a0g hod6.2]; exact h7
  have m7:upd H7 p (.ins CB dx (putF "order" (.ref od) (putF "memory" (.ref me) (putF "rules" (.ref ru) (putF "given" (.ref g) []))))) me = some (.dK []):=by
   rw [a0g hme4.2]
   exact s7 _ _ (u6 _ _ hme4.2 h5)
  have r7:upd H7 p (.ins CB dx (putF "order" (.ref od) (putF "memory" (.ref me) (putF "rules" (.ref ru) (putF "given" (.ref g) []))))) ru = some (.dK []):=by
   rw [a0g hru2.2]
   exact s7 _ _ (u6 _ _ hru2.2 (s5 _ _ (u4 _ _ hru2.2 h3)))
  generalize upd H7 p (.ins CB dx (putF "order" (.ref od) (putF "memory" (.ref me) (putF "rules" (.ref ru) (putF "given" (.ref g) []))))) = H9 at up p9 o7 m7 r7 ⊢
  refine q H9 g r e ru me od ⟨⟨dx,p9⟩,⟨⟨dt,up _ _ npg.symm ht⟩,up _ _ npr hrr,up _ _ npe hee⟩,r7,m7,o7⟩ ⟨?_,?_,?_,?_⟩ ?_ fun b o z n => up _ _ n (s1 _ _ z)
  ·exact a0h hrr hod2.1
  ·exact a0h hee hru2.1
  ·exact a0h hee hme2.1
  ·exact fun z => hme3.2 z.symm
  ·intro x hx
   simp only [List.mem_cons,List.not_mem_nil,or_false] at hx
   rcases hx with rfl | rfl | rfl | rfl | rfl | rfl
   ·exact hg
   ·exact hr0
   ·exact he0
   ·exact b1' _ hru2.1
   ·exact b1' _ hme2.1
   ·exact b1' _ hod2.1
end
end My
set_option maxHeartbeats 1000000
namespace My
open PySem L2
section
variable {P:Program} {w:World} {K:PySem.W.Frag} {mg:Str -> Option Value} {base:Heap}
def d0R (CB CT:Addr):Sp:=fun vs H Q _ => ∃ (B:BM) (t:Str),vs = [.ref B.b,.str t] /\ BAt CB CT H B /\ Nl t /\ ∀ H',Same H H' -> Q (.bl (decide (t ∈ B.ord))) H'
theorem b1z:a0l ["self", "column"] ["self", "column"] (a0b a1r):=⟨rfl,rfl,rfl,by decide +kernel,rfl,by decide +kernel,by decide +kernel⟩
theorem a0U (T:Tops K mg) {CB CT:Addr} (Y:a0R K mg CB):a0k P w K mg base CX0 2 CB "has_column" ["self", "column"] (d0R CB CT):=by
 have G_is_name:a0C P w K mg base CX0 1 "is_name" ["thing"] (b3A K):=a1R T
 refine Y.m_has_column.known b1z (fun _ _ _ _ _ _ us hl => match us,hl with | [_,_],_ => rfl) (fun vs H Q E h => ?_) (fun f cdv A outer s H vs Q E hr h => ?_)
 ·obtain ⟨B,t,rfl,_⟩:=h
  rfl
 ·obtain ⟨B,t,rfl,hB,ht,q⟩:=h
  refine ⟨_,(a0e (a0v (b7Q (a0o G_is_name (hr.mono (by decide)) a0r (a0a (pv 1) a0f)) (b7w (b4Q b7e (pv 1) (a0n (pv 0) rfl) (by with_unfolding_all rfl)))))),?_⟩
  have h8:=ht.2.1
  refine ⟨_,rfl,_,.str t,rfl,.str t,a1D (by omega),fun H' s' => ⟨_,rfl,?_⟩⟩
  rw [show a8a (.str t) = true from ht.name]
  obtain ⟨⟨dx,h1⟩,_,_,_,h5⟩:=hB.same s'
  refine iteT ⟨_,rfl,_,rfl,B.b,CB,dx,_,_,rfl,h1,Y.cl,Y.n_order,(a1l _ _ _ _).2.2.2,B.od,_,rfl,.inl (SqL.of h5),rfl,a5O _,?_⟩
  rw [show (if false = true then !inV (.str t) (B.ord.map V.str) else inV (.str t) (B.ord.map V.str)) = decide (t ∈ B.ord) by rw [if_neg Bool.false_ne_true,b5x]]
  exact q _ s'
def New (B:BM) (t:Str):Prop:=valV B.rus (.inr t:Key) = none /\ t ∉ B.ord
def c8m (CB CT:Addr):Sp:=fun vs H Q _ => ∃ (B:BM) (t:Str),vs = [.ref B.b,.str t] /\ BAt CB CT H B /\ New B t /\ Q .non H
theorem b6b:a0l ["self", "column"] ["self", "column"] (a0b a2i):=⟨rfl,rfl,rfl,by decide +kernel,rfl,by decide +kernel,by decide +kernel⟩
theorem a2b (T:Tops K mg) {CB CT:Addr} (Y:a0R K mg CB):a0k P w K mg base CX0 2 CB "content" ["self", "column"] (c8m CB CT):=by
 refine Y.m_content.known b6b (fun _ _ _ _ _ _ us hl => match us,hl with | [_,_],_ => rfl) (fun vs H Q E h => ?_) (fun f cdv A outer s H vs Q E hr h => ?_)
 ·obtain ⟨B,t,rfl,_⟩:=h
  rfl
 ·obtain ⟨B,t,rfl,hB,⟨n1,n2⟩,q⟩:=h
  refine ⟨_,(a0d (a0E (a7S (b8g (a2I hr) (pv 1) (a0n (pv 0) rfl))) (a0e a0y) a0q)
   (a0d (a0E (a0A b7e (pv 1) (a0n (pv 0) rfl) (by with_unfolding_all rfl)) (a0e a0y) a0q)
   (a0e (a0v a6q)))),?_⟩
  obtain ⟨⟨dx,h1⟩,_,h3,_,h5⟩:=id hB
  refine ⟨_,rfl,_,rfl,B.b,CB,dx,_,_,rfl,h1,Y.cl,Y.n_rules,(a1l _ _ _ _).2.1,B.ru,_,rfl,DGet.k (k:=Sum.inr t) h3,_,rfl,?_⟩
  rw [n1]
  refine iteF ⟨_,rfl,_,rfl,B.b,CB,dx,_,_,rfl,h1,Y.cl,Y.n_order,(a1l _ _ _ _).2.2.2,B.od,_,rfl,.inl (SqL.of h5),rfl,a5O _,_,rfl,?_⟩
  rw [show (if false = true then !inV (.str t) (B.ord.map V.str) else inV (.str t) (B.ord.map V.str)) = false by rw [if_neg Bool.false_ne_true,b5x,decide_eq_false n2]]
  exact iteF q
theorem a9Y:a0l ["self", "column"] ["self", "column"] (a0b a0W):=⟨rfl,rfl,rfl,by decide +kernel,rfl,by decide +kernel,by decide +kernel⟩
theorem a0H (T:Tops K mg) {CB CT:Addr} (Y:a0R K mg CB):a0k P w K mg base CX0 2 CB "empty_column" ["self", "column"] (c8m CB CT):=by
 refine Y.m_empty_column.known a9Y (fun _ _ _ _ _ _ us hl => match us,hl with | [_,_],_ => rfl) (fun vs H Q E h => ?_) (fun f cdv A outer s H vs Q E hr h => ?_)
 ·obtain ⟨B,t,rfl,_⟩:=h
  rfl
 ·obtain ⟨B,t,rfl,hB,⟨n1,n2⟩,q⟩:=h
  refine ⟨_,(a0e (a0E (a7S (b8g (a2I hr) (pv 1) (a0n (pv 0) rfl))) (a0d a0y (a0e a0y)) (a0e (a0E (a0A b7e (pv 1) (a0n (pv 0) rfl) (by with_unfolding_all rfl)) (a0e a0y) a0q)))),?_⟩
  obtain ⟨⟨dx,h1⟩,_,h3,_,h5⟩:=id hB
  refine ⟨_,rfl,_,rfl,B.b,CB,dx,_,_,rfl,h1,Y.cl,Y.n_rules,(a1l _ _ _ _).2.1,B.ru,_,rfl,DGet.k (k:=Sum.inr t) h3,_,rfl,?_⟩
  rw [n1]
  refine iteF ⟨_,rfl,_,rfl,B.b,CB,dx,_,_,rfl,h1,Y.cl,Y.n_order,(a1l _ _ _ _).2.2.2,B.od,_,rfl,.inl (SqL.of h5),rfl,a5O _,_,rfl,?_⟩
  rw [show (if false = true then !inV (.str t) (B.ord.map V.str) else inV (.str t) (B.ord.map V.str)) = false by rw [if_neg Bool.false_ne_true,b5x,decide_eq_false n2]]
  exact iteF q
def c79 (K:PySem.W.Frag) (CB CT:Addr):Sp:=fun vs H Q _ => ∃ (B:BM) (t:Str) (a:Addr) (ys:List V) (ds:List PyData),vs = [.ref B.b,.str t,.ref a] /\ BAt CB CT H B /\ B.sep /\ New B t /\ Nl t /\ H a = some (.lst ys) /\ a ≠ B.od /\ Pvs K H ys ds /\ ys.length = B.xs.length /\ ys.length <= 30 /\ B.kvs.length < 8 /\ B.ord.length < 100 /\
 ∀ H' l,H l = none -> BAt CB CT H' { B with kvs:=putK B.kvs (.inr t:Key) (.ref l),ord:=B.ord ++ [t] } -> H' l = some (.lst ys) -> (∀ b o,b ≠ B.od -> b ≠ B.e -> H b = some o -> H' b = some o) -> Q .non H'
theorem a6U:a0l ["self", "column", "content"] ["self", "column", "content"] (a0b a1h):=⟨rfl,rfl,rfl,by decide +kernel,rfl,by decide +kernel,by decide +kernel⟩
theorem b5Q (T:Tops K mg) {CB CT:Addr} (Y:a0R K mg CB) (Z:a1g K mg CT):a0k P w K mg base CX0 6 CB "set_column" ["self", "column", "content"] (c79 K CB CT):=by
 have G_empty:a0k P w K mg base CX0 2 CB "empty_column" ["self", "column"] (c8m CB CT):=a0H T Y
 have G_give:a0k P w K mg base CX0 5 CT "give" ["self", "column", "values"] (c9Z K CT):=a4P T Z
 refine Y.m_set_column.known a6U (fun _ _ _ _ _ _ us hl => match us,hl with | [_,_,_],_ => rfl) (fun vs H Q E h => ?_) (fun f cdv A outer s H vs Q E hr h => ?_)
 ·obtain ⟨B,t,a,ys,ds,rfl,_⟩:=h
  rfl
 ·obtain ⟨B,t,a,ys,ds,rfl,hB,sp,⟨n1,n2⟩,ht,ha,nao,hp,hl,l30,k8,o100,q⟩:=h
  refine ⟨_,(a0d (a0t (a0s (pv 0) Y.cl G_empty (hr.mono (by decide)) a0r (a0a (pv 1) a0f)))
   (a0d (a0E (a0A b9K (pv 2) a6q (a0Z _)) (a0d a0y (a0e a0y)) a0q)
   (a0d (a0E (a0A b0t (pv 1) (a0n (pv 0) rfl) (by with_unfolding_all rfl)) (a0e (a0t (b4K PySem.F.plainAttrs_list PySem.F.slot_list_append PySem.F.type_list_append a1k (a0n (pv 0) rfl) (a0a (pv 1) a0f)))) a0q)
   (a0e (a0E (a1w (a0z c36 rfl T.isinstance a0K (a0a (pv 2) (a0a (b6m T.list b1e) a0f))) (fun _ => rfl)) (a0e (a0t (a0s (a0n (pv 0) rfl) Z.cl G_give (hr.mono (by decide)) a0r (a0a (pv 1) (a0a (pv 2) a0f))))) (a0d a0y (a0e a0y))))))),?_⟩
  obtain ⟨⟨dx,h1⟩,tb,h3,h4,h5⟩:=id hB
  refine ⟨_,rfl,B.b,dx,_,rfl,h1,b68,_,rfl,B,t,rfl,hB,⟨n1,n2⟩,?_⟩
  refine ⟨_,rfl,rfl,_,rfl,?_⟩
  rw [decide_eq_false (show ¬ V.ref a = V.non from fun z => by cases z)]
  refine iteF ⟨_,rfl,_,rfl,B.b,CB,dx,_,_,rfl,h1,Y.cl,Y.n_order,(a1l _ _ _ _).2.2.2,B.od,_,rfl,.inl (SqL.of h5),rfl,a5O _,_,rfl,?_⟩
  rw [show (if true = true then !inV (.str t) (B.ord.map V.str) else inV (.str t) (B.ord.map V.str)) = true by rw [if_pos rfl,b5x,decide_eq_false n2]; rfl]
  refine iteT ⟨_,rfl,B.b,CB,dx,_,_,rfl,h1,Y.cl,Y.n_order,(a1l _ _ _ _).2.2.2,.inl ⟨rfl,_,SqL.of h5⟩,_,rfl,B.od,_,_,rfl,rfl,h5,a0w (by rw [List.length_map]; omega),?_⟩
  have u6:∀ b o,b ≠ B.od -> H b = some o -> upd H B.od (.lst (B.ord.map V.str ++ [.str t])) b = some o:=fun b o n z => by rw [a0g n]; exact z
  have o6:upd H B.od (.lst (B.ord.map V.str ++ [.str t])) B.od = some (.lst ((B.ord ++ [t]).map V.str)):=by rw [a0c,List.map_append]; rfl
  have kt:a1u H (upd H B.od (.lst (B.ord.map V.str ++ [.str t]))):=a1u.upd h5 (fun xs z => by cases z)
  have n6:∀ b,upd H B.od (.lst (B.ord.map V.str ++ [.str t])) b = none -> H b = none:=fun b z => by
   have:b ≠ B.od:=fun y => by rw [y,a0c] at z; cases z
   rw [a0g this] at z
   exact z
  generalize upd H B.od (.lst (B.ord.map V.str ++ [.str t])) = H6 at u6 o6 kt n6 ⊢
  have a6:=u6 _ _ nao ha
  have b6:=u6 _ _ (fun z => by rw [z,h5] at h1; cases h1) h1
  obtain ⟨⟨dt,t1⟩,t2,t3⟩:=id tb
  have g6:=u6 _ _ (fun z => by rw [z,h5] at t1; cases t1) t1
  have e6:=u6 _ _ (fun z => by rw [z,h5] at t3; cases t3) t3
  have tb6:b4X CT H6 B.g B.r B.e B.xs B.n B.kvs:=⟨⟨dt,g6⟩,u6 _ _ sp.ro t2,e6⟩
  refine ⟨_,rfl,_, "list", .type "list", _,rfl,.lst a6,b6U K .lst,_,rfl,iteT ?_⟩
  refine ⟨_,rfl,B.b,CB,dx,_,_,rfl,b6,Y.cl,Y.n_given,(a1l _ _ _ _).1,B.g,dt,_,rfl,g6,a3y,_,rfl,_,rfl,B.g,B.r,B.e,B.xs,B.n,B.kvs,t,a,ys,ds,rfl,tb6,ht,.inr k8,by omega,SqL.of a6,hp.keep kt,hl,by omega,fun H7 l s7 hl7 => ?_⟩
  have u9:∀ b o,b ≠ B.e -> H7 b = some o -> upd (upd H7 l (.lst ys)) B.e (.dK (putK B.kvs (.inr t:Key) (.ref l))) b = some o:=fun b o n z => by
   rw [a0g n,a0g (a0h z hl7)]
   exact z
  have nle:l ≠ B.e:=fun z => by rw [z,s7 _ _ e6] at hl7; cases hl7
  have e9:upd (upd H7 l (.lst ys)) B.e (.dK (putK B.kvs (.inr t:Key) (.ref l))) B.e = some (.dK (putK B.kvs (.inr t:Key) (.ref l))):=a0c
  have l9:upd (upd H7 l (.lst ys)) B.e (.dK (putK B.kvs (.inr t:Key) (.ref l))) l = some (.lst ys):=by rw [a0g nle,a0c]
  generalize upd (upd H7 l (.lst ys)) B.e (.dK (putK B.kvs (.inr t:Key) (.ref l))) = H9 at u9 e9 l9 ⊢
  have up:∀ b o,b ≠ B.od -> b ≠ B.e -> H b = some o -> H9 b = some o:=fun b o n1 n2 z => u9 _ _ n2 (s7 _ _ (u6 _ _ n1 z))
  have ne_:∀ {b:Addr} {o:HO},H6 b = some o -> (∀ kvs,o ≠ .dK kvs) -> b ≠ B.e:=fun z n y => by rw [y,e6] at z; exact n _ (Option.some.inj z).symm
  refine q H9 l (n6 _ (a0M s7 hl7)) ⟨⟨dx,u9 _ _ (ne_ b6 (fun kvs z => by cases z)) (s7 _ _ b6)⟩,⟨⟨dt,u9 _ _ (ne_ g6 (fun kvs z => by cases z)) (s7 _ _ g6)⟩,?_,e9⟩,?_,?_,?_⟩ l9 up
  ·exact up _ _ sp.ro (fun z => by rw [z,t3] at t2; cases t2) t2
  ·exact up _ _ (fun z => by rw [z,h5] at h3; cases h3) sp.eu.symm h3
  ·exact up _ _ (fun z => by rw [z,h5] at h4; cases h4) sp.em.symm h4
  ·exact u9 _ _ (ne_ o6 (fun kvs z => by cases z)) (s7 _ _ o6)
def c8U (K:PySem.W.Frag) (CB CT:Addr):Sp:=fun vs H Q _ => ∃ (B:BM) (t:Str) (a C dx:Addr) (fs:List (Str × V)),vs = [.ref B.b,.str t,.ref a] /\ BAt CB CT H B /\ B.sep /\ New B t /\ H a = some (.ins C dx fs) /\ TyOf K H (.ref a) (.ref C) /\ PySem.W.kitOne K (.ref C) (.type "list") = some false /\ B.rus.length < 100 /\ B.mes.length < 100 /\ B.ord.length < 100 /\
 ∀ H' m,H m = none -> BAt CB CT H' { B with rus:=putK B.rus (.inr t:Key) (.ref a),mes:=putK B.mes (.inr t:Key) (.ref m),ord:=B.ord ++ [t] } -> H' m = some (.dK []) -> (∀ b o,b ≠ B.od -> b ≠ B.ru -> b ≠ B.me -> H b = some o -> H' b = some o) -> Q .non H'
theorem b6g (T:Tops K mg) {CB CT:Addr} (Y:a0R K mg CB):a0k P w K mg base CX0 6 CB "set_column" ["self", "column", "content"] (c8U K CB CT):=by
 have G_empty:a0k P w K mg base CX0 2 CB "empty_column" ["self", "column"] (c8m CB CT):=a0H T Y
 refine Y.m_set_column.known a6U (fun _ _ _ _ _ _ us hl => match us,hl with | [_,_,_],_ => rfl) (fun vs H Q E h => ?_) (fun f cdv A outer s H vs Q E hr h => ?_)
 ·obtain ⟨B,t,a,C,dc,fs,rfl,_⟩:=h
  rfl
 ·obtain ⟨B,t,a,C,dc,fs,rfl,hB,sp,⟨n1,n2⟩,ha,hty,hk,r100,m100,o100,q⟩:=h
  refine ⟨_,(a0d (a0t (a0s (pv 0) Y.cl G_empty (hr.mono (by decide)) a0r (a0a (pv 1) a0f)))
   (a0d (a0E (a0A b9K (pv 2) a6q (a0Z _)) (a0d a0y (a0e a0y)) a0q)
   (a0d (a0E (a0A b0t (pv 1) (a0n (pv 0) rfl) (by with_unfolding_all rfl)) (a0e (a0t (b4K PySem.F.plainAttrs_list PySem.F.slot_list_append PySem.F.type_list_append a1k (a0n (pv 0) rfl) (a0a (pv 1) a0f)))) a0q)
   (a0e (a0E (a1w (a0z c36 rfl T.isinstance a0K (a0a (pv 2) (a0a (b6m T.list b1e) a0f))) (fun _ => rfl)) (a0e a0y) (a0d (a6x (a2I hr) (a0n (pv 0) rfl) (pv 1) (pv 2) rfl) (a0e (a6x (a2I hr) (a0n (pv 0) rfl) (pv 1) b3i rfl)))))))),?_⟩
  obtain ⟨⟨dx,h1⟩,tb,h3,h4,h5⟩:=id hB
  refine ⟨_,rfl,B.b,dx,_,rfl,h1,b68,_,rfl,B,t,rfl,hB,⟨n1,n2⟩,?_⟩
  refine ⟨_,rfl,rfl,_,rfl,?_⟩
  rw [decide_eq_false (show ¬ V.ref a = V.non from fun z => by cases z)]
  refine iteF ⟨_,rfl,_,rfl,B.b,CB,dx,_,_,rfl,h1,Y.cl,Y.n_order,(a1l _ _ _ _).2.2.2,B.od,_,rfl,.inl (SqL.of h5),rfl,a5O _,_,rfl,?_⟩
  rw [show (if true = true then !inV (.str t) (B.ord.map V.str) else inV (.str t) (B.ord.map V.str)) = true by rw [if_pos rfl,b5x,decide_eq_false n2]; rfl]
  refine iteT ⟨_,rfl,B.b,CB,dx,_,_,rfl,h1,Y.cl,Y.n_order,(a1l _ _ _ _).2.2.2,.inl ⟨rfl,_,SqL.of h5⟩,_,rfl,B.od,_,_,rfl,rfl,h5,a0w (by rw [List.length_map]; omega),?_⟩
  have u6:∀ b o,b ≠ B.od -> H b = some o -> upd H B.od (.lst (B.ord.map V.str ++ [.str t])) b = some o:=fun b o n z => by rw [a0g n]; exact z
  have o6:upd H B.od (.lst (B.ord.map V.str ++ [.str t])) B.od = some (.lst ((B.ord ++ [t]).map V.str)):=by rw [a0c,List.map_append]; rfl
  have n6:∀ b,upd H B.od (.lst (B.ord.map V.str ++ [.str t])) b = none -> H b = none /\ b ≠ B.od:=fun b z => by
   have:b ≠ B.od:=fun y => by rw [y,a0c] at z; cases z
   rw [a0g this] at z
   exact ⟨z,this⟩
  generalize upd H B.od (.lst (B.ord.map V.str ++ [.str t])) = H6 at u6 o6 n6 ⊢
  have nl5:∀ {b:Addr} {o:HO},H b = some o -> (∀ xs,o ≠ .lst xs) -> b ≠ B.od:=fun z n y => by rw [y,h5] at z; exact n _ (Option.some.inj z).symm
  have a6:=u6 _ _ (nl5 ha (fun xs z => by cases z)) ha
  have b6:=u6 _ _ (nl5 h1 (fun xs z => by cases z)) h1
  have r6:=u6 _ _ (nl5 h3 (fun xs z => by cases z)) h3
  have m6:=u6 _ _ (nl5 h4 (fun xs z => by cases z)) h4
  have ty6:TyOf K H6 (.ref a) (.ref C):=by
   cases hty with
   | ins e1 e2 e3 e4 e5 e6 => exact .ins (u6 _ _ (nl5 e1 (fun xs z => by cases z)) e1) e2 e3 e4 e5 e6
  refine ⟨_,rfl,_, "list", .ref C,_,rfl,ty6,hk,_,rfl,iteF ?_⟩
  refine ⟨_,rfl,_,rfl,B.b,CB,dx,_,_,rfl,b6,Y.cl,Y.n_rules,(a1l _ _ _ _).2.1,_,rfl,B.ru,_,rfl,DPut.k (k:=Sum.inr t) r6 (a0w (by omega)),?_⟩
  have u7:∀ b o,b ≠ B.ru -> H6 b = some o -> upd H6 B.ru (.dK (putK B.rus (.inr t:Key) (.ref a))) b = some o:=fun b o n z => by rw [a0g n]; exact z
  have r7:upd H6 B.ru (.dK (putK B.rus (.inr t:Key) (.ref a))) B.ru = some (.dK (putK B.rus (.inr t:Key) (.ref a))):=a0c
  have n7:∀ b,upd H6 B.ru (.dK (putK B.rus (.inr t:Key) (.ref a))) b = none -> H6 b = none:=fun b z => by
   have:b ≠ B.ru:=fun y => by rw [y,a0c] at z; cases z
   rw [a0g this] at z
   exact z
  generalize upd H6 B.ru (.dK (putK B.rus (.inr t:Key) (.ref a))) = H7 at u7 r7 n7 ⊢
  have b7:=u7 _ _ (fun z => by rw [z,r6] at b6; cases b6) b6
  have m7:=u7 _ _ sp.um.symm m6
  refine fun m hm => ?_
  have s8:=Same.new (o:=.dK []) hm
  refine ⟨_,rfl,B.b,CB,dx,_,_,rfl,s8 _ _ b7,Y.cl,Y.n_memory,(a1l _ _ _ _).2.2.1,_,rfl,B.me,_,rfl,DPut.k (k:=Sum.inr t) (s8 _ _ m7) (a0w (by omega)),?_⟩
  have nmm:m ≠ B.me:=fun z => by rw [z,m7] at hm; cases hm
  have u9:∀ b o,b ≠ B.me -> H7 b = some o -> upd (upd H7 m (.dK [])) B.me (.dK (putK B.mes (.inr t:Key) (.ref m))) b = some o:=fun b o n z => by
   rw [a0g n]
   exact s8 _ _ z
  have e9:upd (upd H7 m (.dK [])) B.me (.dK (putK B.mes (.inr t:Key) (.ref m))) B.me = some (.dK (putK B.mes (.inr t:Key) (.ref m))):=a0c
  have d9:upd (upd H7 m (.dK [])) B.me (.dK (putK B.mes (.inr t:Key) (.ref m))) m = some (.dK []):=by rw [a0g nmm,a0c]
  generalize upd (upd H7 m (.dK [])) B.me (.dK (putK B.mes (.inr t:Key) (.ref m))) = H9 at u9 e9 d9 ⊢
  have up:∀ b o,b ≠ B.od -> b ≠ B.ru -> b ≠ B.me -> H b = some o -> H9 b = some o:=fun b o n1 n2 n3 z => u9 _ _ n3 (u7 _ _ n2 (u6 _ _ n1 z))
  obtain ⟨⟨dt,t1⟩,t2,t3⟩:=id tb
  have nd3:∀ {b:Addr} {o:HO},H b = some o -> (∀ kvs,o ≠ .dK kvs) -> b ≠ B.ru /\ b ≠ B.me:=fun z n => ⟨fun y => by rw [y,h3] at z; exact n _ (Option.some.inj z).symm,fun y => by rw [y,h4] at z; exact n _ (Option.some.inj z).symm⟩
  have i1:=nd3 h1 (fun kvs z => by cases z)
  have i2:=nd3 t1 (fun kvs z => by cases z)
  have i3:=nd3 t2 (fun kvs z => by cases z)
  have i5:=nd3 h5 (fun kvs z => by cases z)
  refine q H9 m (n6 _ (n7 _ hm)).1 ⟨⟨dx,up _ _ (nl5 h1 (fun xs z => by cases z)) i1.1 i1.2 h1⟩,⟨⟨dt,up _ _ (nl5 t1 (fun xs z => by cases z)) i2.1 i2.2 t1⟩,up _ _ sp.ro i3.1 i3.2 t2,up _ _ (nl5 t3 (fun xs z => by cases z)) sp.eu sp.em t3⟩,?_,e9,?_⟩ d9 up
  ·exact u9 _ _ sp.um r7
  ·exact u9 _ _ i5.2 (u7 _ _ i5.1 o6)
end
end My
set_option maxHeartbeats 1000000
namespace My
open PySem L2
def tfl (bd:Addr) (nm:Str) (m:Nat):List (Str × V):=[("boards", V.ref bd),("name", V.str nm),("size", V.int (m:Int))]
theorem c6p (bd:Addr) (nm:Str) (m:Nat):(tfl bd nm m).lookup ("boards" : Str) = some (.ref bd) /\ (tfl bd nm m).lookup ("name" : Str) = some (.str nm) /\ (tfl bd nm m).lookup ("size" : Str) = some (.int (m:Int)) /\ (tfl bd nm m).lookup ("take" : Str) = none:=⟨rfl,rfl,rfl,rfl⟩
def cfl (b:Addr) (t:Str) (a:Addr):List (Str × V):=[("board", V.ref b),("column", V.str t),("after", V.ref a),("before", V.non)]
theorem c7Y (b:Addr) (t:Str) (a:Addr):(cfl b t a).lookup ("board" : Str) = some (.ref b) /\ (cfl b t a).lookup ("column" : Str) = some (.str t) /\ (cfl b t a).lookup ("after" : Str) = some (.ref a) /\ (cfl b t a).lookup ("take" : Str) = none /\ putF "before" .non (cfl b t a) = cfl b t a:=⟨rfl,rfl,rfl,rfl,rfl⟩
def vfl (b:Addr) (t:Str) (p:Nat) (v u:V):List (Str × V):=[("board", V.ref b),("column", V.str t),("place", V.int (p:Int)),("after", v),("before", u)]
theorem c8k (b:Addr) (t:Str) (p:Nat) (v u:V):(vfl b t p v u).lookup ("board" : Str) = some (.ref b) /\ (vfl b t p v u).lookup ("column" : Str) = some (.str t) /\ (vfl b t p v u).lookup ("place" : Str) = some (.int (p:Int)) /\ (vfl b t p v u).lookup ("after" : Str) = some v /\ (vfl b t p v u).lookup ("take" : Str) = none /\ ∀ u',putF "before" u' (vfl b t p v u) = vfl b t p v u':=⟨rfl,rfl,rfl,rfl,rfl,fun _ => rfl⟩
section
variable {P:Program} {w:World} {K:PySem.W.Frag} {mg:Str -> Option Value} {base:Heap}
def d1V (C:Addr):Sp:=fun vs H Q _ => ∃ (p dx bd:Addr) (nm:Str) (m:Nat),vs = [.ref p,.ref bd,.str nm,.int (m:Int)] /\ H p = some (.ins C dx []) /\ ∀ H',But p H H' -> H' p = some (.ins C dx (tfl bd nm m)) -> Q .non H'
theorem b4s:a0l ["self", "boards", "name", "size"] ["self", "boards", "name", "size"] (a0b a1Q):=⟨rfl,rfl,rfl,by decide +kernel,rfl,by decide +kernel,by decide +kernel⟩
theorem a1M (T:Tops K mg) {C:Addr} (Y:b00 K mg C):a19 P w K mg base CX0 1 C ["self", "boards", "name", "size"] (d1V C):=by
 refine (Y.m_init.known b4s (fun _ _ _ _ _ _ us hl => match us,hl with | [_,_,_,_],_ => rfl) (fun vs H Q E h => ?_) (fun f cdv A outer s H vs Q E hr h => ?_)).init Y.mks Y.kc
 ·obtain ⟨p,dx,bd,nm,m,rfl,_⟩:=h
  rfl
 ·obtain ⟨p,dx,bd,nm,m,rfl,hp,q⟩:=h
  refine ⟨_,(a0d (a0S (pv 0) (pv 1) rfl) (a0d (a0S (pv 0) (pv 2) rfl) (a0e (a0S (pv 0) (pv 3) rfl)))),?_⟩
  refine ⟨_,rfl,_,rfl,p,C,dx,[],rfl,hp,Y.cl,Y.n_boards,(by show 0 < 1000; decide),?_⟩
  refine ⟨_,rfl,_,rfl,p,C,dx,_,rfl,a0c,Y.cl,Y.n_name,(by show 1 < 1000; decide),?_⟩
  refine ⟨_,rfl,_,rfl,p,C,dx,_,rfl,a0c,Y.cl,Y.n_size,(by show 2 < 1000; decide),?_⟩
  exact q _ (fun b o n z => by rw [a0g n,a0g n,a0g n]; exact z) a0c
def d0S (C:Addr):Sp:=fun vs H Q _ => ∃ (p dx b a:Addr) (t:Str),vs = [.ref p,.ref b,.str t,.ref a] /\ H p = some (.ins C dx []) /\ ∀ H',But p H H' -> H' p = some (.ins C dx (cfl b t a)) -> Q .non H'
theorem b43:a0l ["self", "board", "column", "content"] ["self", "board", "column", "content"] (a0b a1O):=⟨rfl,rfl,rfl,by decide +kernel,rfl,by decide +kernel,by decide +kernel⟩
theorem a1d (T:Tops K mg) {C:Addr} (Y:a25 K mg C):a19 P w K mg base CX0 1 C ["self", "board", "column", "content"] (d0S C):=by
 refine (Y.m_init.known b43 (fun _ _ _ _ _ _ us hl => match us,hl with | [_,_,_,_],_ => rfl) (fun vs H Q E h => ?_) (fun f cdv A outer s H vs Q E hr h => ?_)).init Y.mks Y.kc
 ·obtain ⟨p,dx,b,a,t,rfl,_⟩:=h
  rfl
 ·obtain ⟨p,dx,b,a,t,rfl,hp,q⟩:=h
  refine ⟨_,(a0d (a0S (pv 0) (pv 1) rfl) (a0d (a0S (pv 0) (pv 2) rfl) (a0d (a0S (pv 0) (pv 3) rfl) (a0e (a0S (pv 0) a6q rfl))))),?_⟩
  refine ⟨_,rfl,_,rfl,p,C,dx,[],rfl,hp,Y.cl,Y.n_board,(by show 0 < 1000; decide),?_⟩
  refine ⟨_,rfl,_,rfl,p,C,dx,_,rfl,a0c,Y.cl,Y.n_column,(by show 1 < 1000; decide),?_⟩
  refine ⟨_,rfl,_,rfl,p,C,dx,_,rfl,a0c,Y.cl,Y.n_after,(by show 2 < 1000; decide),?_⟩
  refine ⟨_,rfl,p,C,dx,_,rfl,a0c,Y.cl,Y.n_before,(by show 3 < 1000; decide),?_⟩
  exact q _ (fun b o n z => by rw [a0g n,a0g n,a0g n,a0g n]; exact z) a0c
def d12 (C:Addr):Sp:=fun vs H Q _ => ∃ (p dx b:Addr) (t:Str) (i:Nat) (v:V),vs = [.ref p,.ref b,.str t,.int (i:Int),v] /\ H p = some (.ins C dx []) /\ ∀ H',But p H H' -> H' p = some (.ins C dx (vfl b t i v .non)) -> Q .non H'
theorem b6F:a0l ["self", "board", "column", "place", "value"] ["self", "board", "column", "place", "value"] (a0b a2c):=⟨rfl,rfl,rfl,by decide +kernel,rfl,by decide +kernel,by decide +kernel⟩
theorem a18 (T:Tops K mg) {C:Addr} (Y:a6O K mg C):a19 P w K mg base CX0 1 C ["self", "board", "column", "place", "value"] (d12 C):=by
 refine (Y.m_init.known b6F (fun _ _ _ _ _ _ us hl => match us,hl with | [_,_,_,_,_],_ => rfl) (fun vs H Q E h => ?_) (fun f cdv A outer s H vs Q E hr h => ?_)).init Y.mks Y.kc
 ·obtain ⟨p,dx,b,t,i,v,rfl,_⟩:=h
  rfl
 ·obtain ⟨p,dx,b,t,i,v,rfl,hp,q⟩:=h
  refine ⟨_,(a0d (a0S (pv 0) (pv 1) rfl) (a0d (a0S (pv 0) (pv 2) rfl) (a0d (a0S (pv 0) (pv 3) rfl) (a0d (a0S (pv 0) (pv 4) rfl) (a0e (a0S (pv 0) a6q rfl)))))),?_⟩
  refine ⟨_,rfl,_,rfl,p,C,dx,[],rfl,hp,Y.cl,Y.n_board,(by show 0 < 1000; decide),?_⟩
  refine ⟨_,rfl,_,rfl,p,C,dx,_,rfl,a0c,Y.cl,Y.n_column,(by show 1 < 1000; decide),?_⟩
  refine ⟨_,rfl,_,rfl,p,C,dx,_,rfl,a0c,Y.cl,Y.n_place,(by show 2 < 1000; decide),?_⟩
  refine ⟨_,rfl,_,rfl,p,C,dx,_,rfl,a0c,Y.cl,Y.n_after,(by show 3 < 1000; decide),?_⟩
  refine ⟨_,rfl,p,C,dx,_,rfl,a0c,Y.cl,Y.n_before,(by show 4 < 1000; decide),?_⟩
  exact q _ (fun b o n z => by rw [a0g n,a0g n,a0g n,a0g n,a0g n]; exact z) a0c
def spTT (C CB CT:Addr):Sp:=fun vs H Q _ => ∃ (p dx bd:Addr) (nm:Str) (m:Nat) (kb:List (Key × V)),vs = [.ref p] /\ H p = some (.ins C dx (tfl bd nm m)) /\ H bd = some (.dK kb) /\ kb.length < 100 /\ m <= 30 /\
 ∀ H' b g r e ru me od,BAt CB CT H' ⟨b,g,r,e,ru,me,od,a3F 0 m,(m:Int),[],[],[],[]⟩ -> BM.sep ⟨b,g,r,e,ru,me,od,a3F 0 m,(m:Int),[],[],[],[]⟩ -> (∀ x ∈ [b,g,r,e,ru,me,od],H x = none) -> H' bd = some (.dK (putK kb (.inr nm:Key) (.ref b))) -> (∀ x o,x ≠ bd -> H x = some o -> H' x = some o) -> Q .non H'
theorem b5w:a0l ["self"] ["self"] (a0b a1K):=⟨rfl,rfl,rfl,by decide +kernel,rfl,by decide +kernel,by decide +kernel⟩
theorem a1N (T:Tops K mg) {C CB CT:Addr} (Y:b00 K mg C) (W:a0R K mg CB) (Z:a1g K mg CT):a0k P w K mg base CX0 7 C "take" ["self"] (spTT C CB CT):=by
 have GI:a19 P w K mg base CX0 5 CB ["self", "many"] (c8v CB CT):=a40 T W Z
 refine Y.m_take.known b5w (fun _ _ _ _ _ _ us hl => match us,hl with | [_],_ => rfl) (fun vs H Q E h => ?_) (fun f cdv A outer s H vs Q E hr h => ?_)
 ·obtain ⟨p,dx,bd,nm,m,kb,rfl,_⟩:=h
  rfl
 ·obtain ⟨p,dx,bd,nm,m,kb,rfl,hp,hb,kl,hm,q⟩:=h
  refine ⟨_,(a0e (a6x (a2I hr) (a0n (pv 0) rfl) (a0n (pv 0) rfl) (a4v GI hr W.c a0r (a0a (a0n (pv 0) rfl) a0f)) rfl)),?_⟩
  refine ⟨_,rfl,p,C,dx,_,_,rfl,hp,Y.cl,Y.n_size,(c6p _ _ _).2.2.1,?_⟩
  intro b db hb0 hdb ne
  refine ⟨b,db,m,rfl,a0c,hm,fun H1 g r e ru me od hB sp fr fm => ⟨rfl,?_⟩⟩
  have s1:Same H H1:=fun x o z => fm x o (by rw [a0g (a0h z hb0),a0g (a0h z hdb)]; exact z) (a0h z hb0)
  have fr':∀ x ∈ [b,g,r,e,ru,me,od],H x = none:=fun x hx => by
   rcases List.mem_cons.mp hx with rfl | hx
   ·exact hb0
   ·have:=fr x hx
    by_cases z:x = b
    ·rw [z]; exact hb0
    ·by_cases z2:x = db
     ·rw [z2]; exact hdb
     ·rw [a0g z,a0g z2] at this; exact this
  refine ⟨_,rfl,p,C,dx,_,_,rfl,s1 _ _ hp,Y.cl,Y.n_boards,(c6p _ _ _).1,_,rfl,p,C,dx,_,_,rfl,s1 _ _ hp,Y.cl,Y.n_name,(c6p _ _ _).2.1,bd,_,rfl,DPut.k (k:=Sum.inr nm) (s1 _ _ hb) (a0w (by omega)),?_⟩
  have nb:∀ {x:Addr},x ∈ [b,g,r,e,ru,me,od] -> x ≠ bd:=fun hx z => by rw [<- z,fr' _ hx] at hb; cases hb
  have u:∀ x o,x ≠ bd -> H1 x = some o -> upd H1 bd (.dK (putK kb (.inr nm:Key) (.ref b))) x = some o:=fun x o n z => by rw [a0g n]; exact z
  obtain ⟨⟨d1,e1⟩,⟨⟨d2,e2⟩,e3,e4⟩,e5,e6,e7⟩:=hB
  exact q _ b g r e ru me od ⟨⟨d1,u _ _ (nb (by simp)) e1⟩,⟨⟨d2,u _ _ (nb (by simp)) e2⟩,u _ _ (nb (by simp)) e3,u _ _ (nb (by simp)) e4⟩,u _ _ (nb (by simp)) e5,u _ _ (nb (by simp)) e6,u _ _ (nb (by simp)) e7⟩ sp fr' a0c (fun x o n z => u _ _ n (s1 _ _ z))
def spCS (C CB CT:Addr) (sp:Sp):Sp:=fun vs H Q _ => ∃ (p dx a:Addr) (B:BM) (t:Str),vs = [.ref p] /\ H p = some (.ins C dx (cfl B.b t a)) /\ BAt CB CT H B /\ New B t /\ sp [.ref B.b,.str t,.ref a] H (fun _ H' => Q .non H') E0
theorem b4b:a0l ["self"] ["self"] (a0b a1I):=⟨rfl,rfl,rfl,by decide +kernel,rfl,by decide +kernel,by decide +kernel⟩
theorem a1b (T:Tops K mg) {C CB CT:Addr} (Y:a25 K mg C) (W:a0R K mg CB) {sp:Sp} (G:a0k P w K mg base CX0 6 CB "set_column" ["self", "column", "content"] sp):a0k P w K mg base CX0 7 C "take" ["self"] (spCS C CB CT sp):=by
 have G_content:a0k P w K mg base CX0 2 CB "content" ["self", "column"] (c8m CB CT):=a2b T W
 refine Y.m_take.known b4b (fun _ _ _ _ _ _ us hl => match us,hl with | [_],_ => rfl) (fun vs H Q E h => ?_) (fun f cdv A outer s H vs Q E hr h => ?_)
 ·obtain ⟨p,dx,a,B,t,rfl,_⟩:=h
  rfl
 ·obtain ⟨p,dx,a,B,t,rfl,hp,hB,hn,q⟩:=h
  refine ⟨_,(a0d (a0S (pv 0) (a0s (a0n (pv 0) rfl) W.cl G_content (hr.mono (by decide)) a0r (a0a (a0n (pv 0) rfl) a0f)) rfl)
   (a0e (a0t (a0s (a0n (pv 0) rfl) W.cl G hr a0r (a0a (a0n (pv 0) rfl) (a0a (a0n (pv 0) rfl) a0f)))))),?_⟩
  obtain ⟨c1,c2,c3,c4,c5⟩:=c7Y B.b t a
  obtain ⟨dB,h1⟩:=hB.at_
  refine ⟨_,rfl,p,C,dx,_,_,rfl,hp,Y.cl,Y.n_board,c1,B.b,dB,_,rfl,h1,b68,_,rfl,p,C,dx,_,_,rfl,hp,Y.cl,Y.n_column,c2,B,t,rfl,hB,hn,?_⟩
  refine ⟨_,rfl,p,C,dx,_,rfl,hp,Y.cl,Y.n_before,(by show 4 < 1000; decide),?_⟩
  rw [c5,c9V hp]
  exact ⟨_,rfl,p,C,dx,_,_,rfl,hp,Y.cl,Y.n_board,c1,B.b,dB,_,rfl,h1,b68,_,rfl,p,C,dx,_,_,rfl,hp,Y.cl,Y.n_column,c2,_,rfl,p,C,dx,_,_,rfl,hp,Y.cl,Y.n_after,c3,q⟩
def spVP (K:PySem.W.Frag) (C CB CT:Addr):Sp:=fun vs H Q _ => ∃ (p dx l:Addr) (B:BM) (t:Str) (i:Nat) (v u:V) (d:PyData) (ys:List V),vs = [.ref p] /\ H p = some (.ins C dx (vfl B.b t i v u)) /\ BAt CB CT H B /\ Nl t /\ valV B.kvs (.inr t:Key) = some (.ref l) /\ H l = some (.lst ys) /\ i < B.xs.length /\ ys.length = B.xs.length /\ Pv K H v d /\
 ∀ H',(∀ x o,x ≠ p -> x ≠ l -> H x = some o -> H' x = some o) -> H' l = some (.lst (ys.set i v)) -> Q .non H'
theorem b6j:a0l ["self"] ["self"] (a0b a2h):=⟨rfl,rfl,rfl,by decide +kernel,rfl,by decide +kernel,by decide +kernel⟩
theorem a2g (T:Tops K mg) {C CB CT:Addr} (Y:a6O K mg C) (W:a0R K mg CB) (Z:a1g K mg CT):a0k P w K mg base CX0 7 C "take" ["self"] (spVP K C CB CT):=by
 have G_at:a0k P w K mg base CX0 3 CT "at" ["self", "column", "place"] (spAt CT):=a5K T Z
 have G_put:a0k P w K mg base CX0 5 CT "put" ["self", "column", "place", "value"] (d2c K CT):=a6j T Z
 refine Y.m_take.known b6j (fun _ _ _ _ _ _ us hl => match us,hl with | [_],_ => rfl) (fun vs H Q E h => ?_) (fun f cdv A outer s H vs Q E hr h => ?_)
 ·obtain ⟨p,dx,l,B,t,i,v,u,d,ys,rfl,_⟩:=h
  rfl
 ·obtain ⟨p,dx,l,B,t,i,v,u,d,ys,rfl,hp,hB,ht,hv,hl,hi,ly,hpv,q⟩:=h
  refine ⟨_,(a0d (a0S (pv 0) (a0s (a0n (a0n (pv 0) rfl) rfl) Z.cl G_at (hr.mono (by decide)) a0r (a0a (a0n (pv 0) rfl) (a0a (a0n (pv 0) rfl) a0f))) rfl)
   (a0e (a0t (a0s (a0n (a0n (pv 0) rfl) rfl) Z.cl G_put (hr.mono (by decide)) a0r (a0a (a0n (pv 0) rfl) (a0a (a0n (pv 0) rfl) (a0a (a0n (pv 0) rfl) a0f))))))),?_⟩
  obtain ⟨c1,c2,c3,c4,c5,c6⟩:=c8k B.b t i v u
  obtain ⟨⟨dB,h1⟩,tb,_,_,_⟩:=id hB
  obtain ⟨⟨dT,t1⟩,_,_⟩:=id tb
  obtain ⟨x0,hx0⟩:∃ x0,atI ys (i:Int) = some x0:=by
   obtain ⟨x0,e1,_⟩:=c7K ys (i:Int) (by omega) (by omega)
   exact ⟨x0,e1⟩
  refine ⟨_,rfl,p,C,dx,_,_,rfl,hp,Y.cl,Y.n_board,c1,B.b,CB,dB,_,_,rfl,h1,W.cl,W.n_given,(a1l _ _ _ _).1,B.g,dT,_,rfl,t1,a3y,_,rfl,p,C,dx,_,_,rfl,hp,Y.cl,Y.n_column,c2,_,rfl,p,C,dx,_,_,rfl,hp,Y.cl,Y.n_place,c3,B.g,B.r,B.e,B.xs,B.n,B.kvs,t,l,ys,i,x0,rfl,tb,ht,hv,hl,hi,hx0,fun H1 s1 => ?_⟩
  refine ⟨_,rfl,p,C,dx,_,rfl,s1 _ _ hp,Y.cl,Y.n_before,(by show 5 < 1000; decide),?_⟩
  rw [c6]
  obtain ⟨c1,c2,c3,c4,c5,c6⟩:=c8k B.b t i v x0
  have u2:∀ x o,x ≠ p -> H1 x = some o -> upd H1 p (.ins C dx (vfl B.b t i v x0)) x = some o:=fun x o n z => by rw [a0g n]; exact z
  have p2:upd H1 p (.ins C dx (vfl B.b t i v x0)) p = some (.ins C dx (vfl B.b t i v x0)):=a0c
  have kt:a1u H1 (upd H1 p (.ins C dx (vfl B.b t i v x0))):=a1u.upd (s1 _ _ hp) (fun xs z => by cases z)
  generalize upd H1 p (.ins C dx (vfl B.b t i v x0)) = H2 at u2 p2 kt ⊢
  have npb:B.b ≠ p:=(c8b hp h1 (by simp [vfl,bfl,flds])).symm
  have npg:B.g ≠ p:=(c8b hp t1 (by simp [vfl,bfl,flds])).symm
  have np:∀ {x:Addr} {o:HO},H x = some o -> (∀ C dx fs,o ≠ .ins C dx fs) -> x ≠ p:=fun z n y => by rw [y,hp] at z; exact n _ _ _ (Option.some.inj z).symm
  have b2:=u2 _ _ npb (s1 _ _ h1)
  have g2:=u2 _ _ npg (s1 _ _ t1)
  obtain ⟨_,tr,te⟩:=id tb
  have tb2:b4X CT H2 B.g B.r B.e B.xs B.n B.kvs:=⟨⟨dT,g2⟩,u2 _ _ (np tr (fun _ _ _ z => by cases z)) (s1 _ _ tr),u2 _ _ (np te (fun _ _ _ z => by cases z)) (s1 _ _ te)⟩
  refine ⟨_,rfl,p,C,dx,_,_,rfl,p2,Y.cl,Y.n_board,c1,B.b,CB,dB,_,_,rfl,b2,W.cl,W.n_given,(a1l _ _ _ _).1,B.g,dT,_,rfl,g2,a3y,_,rfl,p,C,dx,_,_,rfl,p2,Y.cl,Y.n_column,c2,_,rfl,p,C,dx,_,_,rfl,p2,Y.cl,Y.n_place,c3,_,rfl,p,C,dx,_,_,rfl,p2,Y.cl,Y.n_after,c4,B.g,B.r,B.e,B.xs,B.n,B.kvs,t,l,ys,i,v,d,rfl,tb2,ht,hv,u2 _ _ (np hl (fun _ _ _ z => by cases z)) (s1 _ _ hl),hi,by omega,(hpv.same s1).keep kt,fun H3 s3 => ?_⟩
  exact q _ (fun x o n1 n2 z => by rw [a0g n2]; exact s3 _ _ (u2 _ _ n1 (s1 _ _ z))) a0c
end
end My
set_option maxHeartbeats 1000000
namespace My
open PySem L2
def sfl (bd ch fi:Addr):List (Str × V):=[("boards", V.ref bd),("changes", V.ref ch),("finder", V.ref fi)]
theorem b3q (bd ch fi:Addr):(sfl bd ch fi).lookup ("boards" : Str) = some (.ref bd) /\ (sfl bd ch fi).lookup ("changes" : Str) = some (.ref ch) /\ (sfl bd ch fi).lookup ("finder" : Str) = some (.ref fi) /\ ∀ fi',putF "finder" (.ref fi') (sfl bd ch fi) = sfl bd ch fi':=⟨rfl,rfl,rfl,fun _ => rfl⟩
theorem a3b {bd ch fi:Addr} {m:Str} (h:(m == ("boards" : Str) || m == ("changes" : Str) || m == ("finder" : Str)) = false:=by decide +kernel):(sfl bd ch fi).lookup m = none:=by
 simp only [Bool.or_eq_false_iff] at h
 obtain ⟨⟨h1,h2⟩,h3⟩:=h
 unfold sfl
 simp [List.lookup,h1,h2,h3]
def ffl (bd fd lk:Addr):List (Str × V):=[("boards", V.ref bd),("found", V.ref fd),("looked", V.ref lk)]
theorem a8Q (bd fd lk:Addr):(ffl bd fd lk).lookup ("boards" : Str) = some (.ref bd) /\ (ffl bd fd lk).lookup ("found" : Str) = some (.ref fd) /\ (ffl bd fd lk).lookup ("looked" : Str) = some (.ref lk):=⟨rfl,rfl,rfl⟩
theorem b3u {bd fd lk:Addr} {m:Str} (h:(m == ("boards" : Str) || m == ("found" : Str) || m == ("looked" : Str)) = false:=by decide +kernel):(ffl bd fd lk).lookup m = none:=by
 simp only [Bool.or_eq_false_iff] at h
 obtain ⟨⟨h1,h2⟩,h3⟩:=h
 unfold ffl
 simp [List.lookup,h1,h2,h3]
section
variable {P:Program} {w:World} {K:PySem.W.Frag} {mg:Str -> Option Value} {base:Heap}
def spFI (C:Addr):Sp:=fun vs H Q _ => ∃ (p dx bd:Addr),vs = [.ref p,.ref bd] /\ H p = some (.ins C dx []) /\
 ∀ H' fd lk,H fd = none -> H lk = none -> fd ≠ lk -> H' p = some (.ins C dx (ffl bd fd lk)) -> H' fd = some (.dT []) -> H' lk = some (.dT []) -> But p H H' -> Q .non H'
theorem b9n:a0l ["self", "boards"] ["self", "boards"] (a0b a3g):=⟨rfl,rfl,rfl,by decide +kernel,rfl,by decide +kernel,by decide +kernel⟩
theorem a2v (T:Tops K mg) {C:Addr} (Y:a03 K mg C):a19 P w K mg base CX0 1 C ["self", "boards"] (spFI C):=by
 refine (Y.m_init.known b9n (fun _ _ _ _ _ _ us hl => match us,hl with | [_,_],_ => rfl) (fun vs H Q E h => ?_) (fun f cdv A outer s H vs Q E hr h => ?_)).init Y.mks Y.kc
 ·obtain ⟨p,dx,bd,rfl,_⟩:=h
  rfl
 ·obtain ⟨p,dx,bd,rfl,hp,q⟩:=h
  refine ⟨_,(a0d (a0S (pv 0) (pv 1) rfl) (a0d (a0S (pv 0) b3h rfl) (a0e (a0S (pv 0) b3h rfl)))),?_⟩
  refine ⟨_,rfl,_,rfl,p,C,dx,[],rfl,hp,Y.cl,Y.n_boards,(by show 0 < 1000; decide),?_⟩
  have u1:∀ b o,b ≠ p -> H b = some o -> upd H p (.ins C dx (putF "boards" (.ref bd) [])) b = some o:=fun b o n z => by rw [a0g n]; exact z
  have p1:upd H p (.ins C dx (putF "boards" (.ref bd) [])) p = some (.ins C dx (putF "boards" (.ref bd) [])):=a0c
  have n1:∀ b,upd H p (.ins C dx (putF "boards" (.ref bd) [])) b = none -> H b = none /\ b ≠ p:=fun b z => by
   have:b ≠ p:=fun y => by rw [y,a0c] at z; cases z
   rw [a0g this] at z
   exact ⟨z,this⟩
  generalize upd H p (.ins C dx (putF "boards" (.ref bd) [])) = H1 at u1 p1 n1 ⊢
  refine fun fd hfd => ?_
  have s2:=Same.new (o:=.dT []) hfd
  have h2:upd H1 fd (.dT []) fd = some (.dT []):=a0c
  have n2:∀ b,upd H1 fd (.dT []) b = none -> H1 b = none /\ b ≠ fd:=fun b z => by
   have:b ≠ fd:=fun y => by rw [y,a0c] at z; cases z
   rw [a0g this] at z
   exact ⟨z,this⟩
  refine ⟨_,rfl,p,C,dx,_,rfl,s2 _ _ p1,Y.cl,Y.n_found,(by show 1 < 1000; decide),?_⟩
  have hf:=n1 _ hfd
  generalize upd H1 fd (.dT []) = H2 at s2 h2 n2 ⊢
  have u3:∀ b o,b ≠ p -> H2 b = some o -> upd H2 p (.ins C dx (putF "found" (.ref fd) (putF "boards" (.ref bd) []))) b = some o:=fun b o n z => by rw [a0g n]; exact z
  have p3:upd H2 p (.ins C dx (putF "found" (.ref fd) (putF "boards" (.ref bd) []))) p = some (.ins C dx (putF "found" (.ref fd) (putF "boards" (.ref bd) []))):=a0c
  have n3:∀ b,upd H2 p (.ins C dx (putF "found" (.ref fd) (putF "boards" (.ref bd) []))) b = none -> H2 b = none /\ b ≠ p:=fun b z => by
   have:b ≠ p:=fun y => by rw [y,a0c] at z; cases z
   rw [a0g this] at z
   exact ⟨z,this⟩
  generalize upd H2 p (.ins C dx (putF "found" (.ref fd) (putF "boards" (.ref bd) []))) = H3 at u3 p3 n3 ⊢
  refine fun lk hlk => ?_
  have s4:=Same.new (o:=.dT []) hlk
  have h4:upd H3 lk (.dT []) lk = some (.dT []):=a0c
  refine ⟨_,rfl,p,C,dx,_,rfl,s4 _ _ p3,Y.cl,Y.n_looked,(by show 2 < 1000; decide),?_⟩
  have k3:=n3 _ hlk
  have k2:=n2 _ k3.1
  have k1:=n1 _ k2.1
  generalize upd H3 lk (.dT []) = H4 at s4 h4 ⊢
  exact q _ fd lk hf.1 k1.1 k2.2.symm a0c (by rw [a0g hf.2]; exact s4 _ _ (u3 _ _ hf.2 h2)) (by rw [a0g k1.2]; exact h4) (fun b o n z => by rw [a0g n]; exact s4 _ _ (u3 _ _ n (s2 _ _ (u1 _ _ n z))))
def spMk (CS CF C:Addr) (sp:Sp):Sp:=fun vs H Q _ => ∃ (s c bd ch fi dx dc:Addr) (cs:List V) (fs:List (Str × V)),vs = [.ref s,.ref c] /\ H c = some (.ins C dc fs) /\ fs.lookup ("take" : Str) = none /\
 sp [.ref c] H (fun _ H1 => H1 s = some (.ins CS dx (sfl bd ch fi)) /\ H1 ch = some (.lst cs) /\ cs.length < 900 /\ ∀ H2 fi' fd lk df,H1 fi' = none -> H1 fd = none -> H1 lk = none -> fd ≠ lk -> H2 s = some (.ins CS dx (sfl bd ch fi')) -> H2 ch = some (.lst (cs ++ [.ref c])) -> H2 fi' = some (.ins CF df (ffl bd fd lk)) -> H2 fd = some (.dT []) -> H2 lk = some (.dT []) ->
  (∀ x o,x ≠ s -> x ≠ ch -> H1 x = some o -> H2 x = some o) -> Q .non H2) E0
theorem c0s:a0l ["self", "change"] ["self", "change"] (a0b a4X):=⟨rfl,rfl,rfl,by decide +kernel,rfl,by decide +kernel,by decide +kernel⟩
def Mono (sp:Sp):Prop:=∀ vs H (Q Q':VK),(∀ v H',Q v H' -> Q' v H') -> sp vs H Q E0 -> sp vs H Q' E0
theorem a1F (T:Tops K mg) {CS CF C:Addr} (Y:a29 K mg CS) (Z:a03 K mg CF) (cl:Cls K C) {sp:Sp} (mono:Mono sp) (G:a0k P w K mg base CX0 7 C "take" ["self"] sp):a0k P w K mg base CX0 8 CS "make" ["self", "change"] (spMk CS CF C sp):=by
 have GI:a19 P w K mg base CX0 1 CF ["self", "boards"] (spFI CF):=a2v T Z
 refine Y.m_make.known c0s (fun _ _ _ _ _ _ us hl => match us,hl with | [_,_],_ => rfl) (fun vs H Q E h => ?_) (fun f cdv A outer s H vs Q E hr h => ?_)
 ·obtain ⟨s',c,bd,ch,fi,dx,dc,cs,fs,rfl,_⟩:=h
  rfl
 ·obtain ⟨s',c,bd,ch,fi,dx,dc,cs,fs,rfl,hc,hf,q⟩:=h
  refine ⟨_,(a0d (a0t (a4R (pv 1) cl G hr a0r))
   (a0d (a0t (b4K PySem.F.plainAttrs_list PySem.F.slot_list_append PySem.F.type_list_append a1k (a0n (pv 0) rfl) (a0a (pv 1) a0f)))
   (a0e (a0S (pv 0) (a4v GI (hr.mono (by decide)) Z.c a0r (a0a (a0n (pv 0) rfl) a0f)) rfl)))),?_⟩
  refine ⟨_,rfl,c,dc,fs,rfl,hc,hf,?_⟩
  refine mono _ _ _ _ (fun v0 H1 hQ => ?_) q
  obtain ⟨h1,h2,l9,qq⟩:=hQ
  obtain ⟨a1,a2,a3,a4⟩:=b3q bd ch fi
  refine ⟨_,rfl,s',CS,dx,_,_,rfl,h1,Y.cl,Y.n_changes,a2,.inl ⟨rfl,_,SqL.of h2⟩,_,rfl,ch,_,_,rfl,rfl,h2,a0w (by omega),?_⟩
  have nsc:s' ≠ ch:=fun z => by rw [z,h2] at h1; cases h1
  have u2:∀ x o,x ≠ ch -> H1 x = some o -> upd H1 ch (.lst (cs ++ [.ref c])) x = some o:=fun x o n z => by rw [a0g n]; exact z
  have c2:upd H1 ch (.lst (cs ++ [.ref c])) ch = some (.lst (cs ++ [.ref c])):=a0c
  have n2:∀ b,upd H1 ch (.lst (cs ++ [.ref c])) b = none -> H1 b = none /\ b ≠ ch:=fun b z => by
   have:b ≠ ch:=fun y => by rw [y,a0c] at z; cases z
   rw [a0g this] at z
   exact ⟨z,this⟩
  generalize upd H1 ch (.lst (cs ++ [.ref c])) = H2 at u2 c2 n2 ⊢
  have s2:=u2 _ _ nsc h1
  refine ⟨_,rfl,s',CS,dx,_,_,rfl,s2,Y.cl,Y.n_boards,a1,?_⟩
  intro fi' df hfi hdf ne
  refine ⟨fi',df,bd,rfl,a0c,fun H3 fd lk hfd hlk nfl g1 g2 g3 b3 => ⟨rfl,?_⟩⟩
  have s3:Same H2 H3:=fun b o z => b3 b o (a0h z hfi) (by rw [a0g (a0h z hfi),a0g (a0h z hdf)]; exact z)
  have fr:∀ {x:Addr},upd (upd H2 df (.own fi')) fi' (.ins CF df []) x = none -> H2 x = none:=fun {x} z => by
   by_cases z1:x = fi'
   ·rw [z1]; exact hfi
   ·by_cases z2:x = df
    ·rw [z2]; exact hdf
    ·rw [a0g z1,a0g z2] at z; exact z
  refine ⟨_,rfl,s',CS,dx,_,rfl,s3 _ _ s2,Y.cl,Y.n_finder,(by show 3 < 1000; decide),?_⟩
  rw [a4]
  have ns:∀ {x:Addr},H2 x = none -> x ≠ s':=fun z y => by rw [y,s2] at z; cases z
  exact qq _ fi' fd lk df (n2 _ hfi).1 (n2 _ (fr hfd)).1 (n2 _ (fr hlk)).1 nfl a0c (by rw [a0g nsc.symm]; exact s3 _ _ c2) (by rw [a0g (ns hfi)]; exact g1) (by rw [a0g (ns (fr hfd))]; exact g2) (by rw [a0g (ns (fr hlk))]; exact g3) (fun x o n1 n2' z => by rw [a0g n1]; exact s3 _ _ (u2 _ _ n2' z))
def spOf (CS CB CT:Addr):Sp:=fun vs H Q _ => ∃ (s bd ch fi dx:Addr) (kb:List (Key × V)) (nm:Str) (v:V),vs = [.ref s,.str nm] /\ H s = some (.ins CS dx (sfl bd ch fi)) /\ H bd = some (.dK kb) /\ Nl nm /\ valV kb (.inr nm:Key) = some v /\ ∀ H',Same H H' -> Q v H'
theorem b4L:a0l ["self", "table"] ["self", "table"] (a0b a1L):=⟨rfl,rfl,rfl,by decide +kernel,rfl,by decide +kernel,by decide +kernel⟩
theorem a1c (T:Tops K mg) {CS CB CT:Addr} (Y:a29 K mg CS):a0k P w K mg base CX0 2 CS "board_of" ["self", "table"] (spOf CS CB CT):=by
 have G_is_name:a0C P w K mg base CX0 1 "is_name" ["thing"] (b3A K):=a1R T
 refine Y.m_board_of.known b4L (fun _ _ _ _ _ _ us hl => match us,hl with | [_,_],_ => rfl) (fun vs H Q E h => ?_) (fun f cdv A outer s H vs Q E hr h => ?_)
 ·obtain ⟨s',bd,ch,fi,dx,kb,nm,v,rfl,_⟩:=h
  rfl
 ·obtain ⟨s',bd,ch,fi,dx,kb,nm,v,rfl,h1,h2,ht,hv,q⟩:=h
  refine ⟨_,(a0d (a0E (PW.pt (b85 (a23 (a1w (a0o G_is_name (hr.mono (by decide)) a0r (a0a (pv 1) a0f)) (fun _ => rfl))) (b3E (a7S (a3Q (a2I hr) (pv 1) (a0n (pv 0) rfl)))))) (a0e a0y) a0q)
   (a0e (a0v (a00 (a2I hr) (a0n (pv 0) rfl) (pv 1) (fun _ _ => rfl))))),?_⟩
  have h8:=ht.2.1
  refine ⟨_,rfl,_,.str nm,rfl,.str nm,a1D (by omega),fun H' s9 => ⟨_,rfl,?_⟩⟩
  rw [show a8a (.str nm) = true from ht.name]
  refine iteF ⟨_,rfl,_,rfl,s',CS,dx,_,_,rfl,s9 _ _ h1,Y.cl,Y.n_boards,(b3q _ _ _).1,bd,_,rfl,DGet.k (k:=Sum.inr nm) (s9 _ _ h2),_,rfl,?_⟩
  rw [hv]
  exact iteF ⟨_,rfl,s',CS,dx,_,_,rfl,s9 _ _ h1,Y.cl,Y.n_boards,(b3q _ _ _).1,_,rfl,bd,v,rfl,hv ▸ DGet.k (k:=Sum.inr nm) (s9 _ _ h2),q _ s9⟩
def c8M (CS CB CT:Addr):Sp:=fun vs H Q _ => ∃ (s bd ch fi dx:Addr) (kb:List (Key × V)) (nm t:Str) (B:BM),vs = [.ref s,.str nm,.str t] /\ H s = some (.ins CS dx (sfl bd ch fi)) /\ H bd = some (.dK kb) /\ Nl nm /\ valV kb (.inr nm:Key) = some (.ref B.b) /\ BAt CB CT H B /\ Nl t /\ t ∈ B.ord /\ ∀ H',Same H H' -> Q (.ref B.b) H'
theorem a56:a0l ["self", "table", "column", "board"] ["self", "table", "column"] (a0b a1q):=⟨rfl,rfl,rfl,by decide +kernel,rfl,by decide +kernel,by decide +kernel⟩
theorem a0T (T:Tops K mg) {CS CB CT:Addr} (Y:a29 K mg CS) (W:a0R K mg CB):a0k P w K mg base CX0 3 CS "board_with" ["self", "table", "column"] (c8M CS CB CT):=by
 have G_of:a0k P w K mg base CX0 2 CS "board_of" ["self", "table"] (spOf CS CB CT):=a1c T Y
 have G_has:a0k P w K mg base CX0 2 CB "has_column" ["self", "column"] (d0R CB CT):=a0U T W
 refine Y.m_board_with.known a56 (fun _ _ _ _ _ _ us hl => match us,hl with | [_,_,_],_ => rfl) (fun vs H Q E h => ?_) (fun f cdv A outer s H vs Q E hr h => ?_)
 ·obtain ⟨s',bd,ch,fi,dx,kb,nm,t,B,rfl,_⟩:=h
  rfl
 ·obtain ⟨s',bd,ch,fi,dx,kb,nm,t,B,rfl,h1,h2,hn,hv,hB,ht,ho,q⟩:=h
  refine ⟨_,(a0d (a0B (i:=3) a56.nd rfl (Or.inl rfl) (a0s (pv 0) Y.cl G_of hr a0r (a0a (pv 1) a0f)))
   (a0d (a0E (a23 (a1w (a0s (pv 3) W.cl G_has hr a0r (a0a (pv 2) a0f)) (fun _ => rfl))) (a0e a0y) a0q)
   (a0e (a0v (pv 3))))),?_⟩
  refine ⟨_,rfl,s',dx,_,rfl,h1,a3b,_,rfl,s',bd,ch,fi,dx,kb,nm,_,rfl,h1,h2,hn,hv,fun H1 s1 => ?_⟩
  have hB1:=hB.same s1
  obtain ⟨dB,b1⟩:=hB1.at_
  refine ⟨_,rfl,B.b,dB,_,rfl,b1,b68,_,rfl,B,t,rfl,hB1,ht,fun H2 s2 => ⟨_,rfl,?_⟩⟩
  rw [decide_eq_true ho]
  exact iteF ⟨_,rfl,q _ (s1.trans s2)⟩
def d0U (CS CB CT:Addr):Sp:=fun vs H Q _ => ∃ (s bd ch fi dx:Addr) (kb:List (Key × V)) (nm t:Str) (B:BM),vs = [.ref s,.str nm,.str t] /\ H s = some (.ins CS dx (sfl bd ch fi)) /\ H bd = some (.dK kb) /\ Nl nm /\ valV kb (.inr nm:Key) = some (.ref B.b) /\ BAt CB CT H B /\ Nl t /\ B.ord.length < 8 /\ ∀ H',Same H H' -> Q (.ref B.b) H'
theorem a6Z:a0l ["self", "table", "column", "board"] ["self", "table", "column"] (a0b a1A):=⟨rfl,rfl,rfl,by decide +kernel,rfl,by decide +kernel,by decide +kernel⟩
theorem a01 (T:Tops K mg) {CS CB CT:Addr} (Y:a29 K mg CS) (W:a0R K mg CB):a0k P w K mg base CX0 3 CS "board_for" ["self", "table", "column"] (d0U CS CB CT):=by
 have G_of:a0k P w K mg base CX0 2 CS "board_of" ["self", "table"] (spOf CS CB CT):=a1c T Y
 have G_is_name:a0C P w K mg base CX0 1 "is_name" ["thing"] (b3A K):=a1R T
 refine Y.m_board_for.known a6Z (fun _ _ _ _ _ _ us hl => match us,hl with | [_,_,_],_ => rfl) (fun vs H Q E h => ?_) (fun f cdv A outer s H vs Q E hr h => ?_)
 ·obtain ⟨s',bd,ch,fi,dx,kb,nm,t,B,rfl,_⟩:=h
  rfl
 ·obtain ⟨s',bd,ch,fi,dx,kb,nm,t,B,rfl,h1,h2,hn,hv,hB,ht,ho,q⟩:=h
  refine ⟨_,(a0d (a0B (i:=3) a6Z.nd rfl (Or.inl rfl) (a0s (pv 0) Y.cl G_of hr a0r (a0a (pv 1) a0f)))
   (a0d (a0E (a23 (a1w (a0o G_is_name (hr.mono (by decide)) a0r (a0a (pv 2) a0f)) (fun _ => rfl))) (a0e a0y) a0q)
   (a0d (a0E (PW.pt (b74 (a0A b0t (pv 2) (a0n (pv 3) rfl) (by with_unfolding_all rfl)) (b2p (a0A c9n (a0z a4A rfl T.len b6u (a0a (a0n (pv 3) rfl) a0f)) (c7t T.g_MOST_COLUMNS) (a0Z _))))) (a0e a0y) a0q)
   (a0e (a0v (pv 3)))))),?_⟩
  refine ⟨_,rfl,s',dx,_,rfl,h1,a3b,_,rfl,s',bd,ch,fi,dx,kb,nm,_,rfl,h1,h2,hn,hv,fun H1 s1 => ?_⟩
  have h8:=ht.2.1
  refine ⟨_,rfl,_,.str t,rfl,.str t,a1D (by omega),fun H2 s2 => ⟨_,rfl,?_⟩⟩
  rw [show a8a (.str t) = true from ht.name]
  obtain ⟨⟨dB,b1⟩,_,_,_,o1⟩:=(hB.same s1).same s2
  refine iteF ⟨_,rfl,_,rfl,B.b,CB,dB,_,_,rfl,b1,W.cl,W.n_order,(a1l _ _ _ _).2.2.2,B.od,_,rfl,.inl (SqL.of o1),rfl,a5O _,_,rfl,?_⟩
  have fin:Q (.ref B.b) H2:=q _ (s1.trans s2)
  refine ite2 (fun _ => ?_) (fun _ => ?_)
  ·refine ⟨_,rfl,B.b,CB,dB,_,_,rfl,b1,W.cl,W.n_order,(a1l _ _ _ _).2.2.2,_,_,rfl,.inl ⟨_,SqL.of o1,rfl⟩,_,_,rfl,rfl,_,rfl,?_⟩
   rw [List.length_map,decide_eq_false (show ¬ (B.ord.length:Int) >= 8 by omega)]
   exact iteF ⟨_,rfl,fin⟩
  ·exact iteF ⟨_,rfl,fin⟩
end
end My
set_option maxHeartbeats 1000000
namespace My
open PySem L2
abbrev Ky:=List Key
def a0u (t c:Str) (p:Nat):Ky:=[.inr t,.inr c,.inl (p:Int)]
structure FAt (CF CB CT:Addr) (H:Hp) (fi bd fd lk:Addr) (nm:Str) (B:BM) (kf:List (Ky × V)):Prop where
 fin:∃ dx,H fi = some (.ins CF dx (ffl bd fd lk))
 bds:∃ kb,H bd = some (.dK kb) /\ valV kb (.inr nm:Key) = some (.ref B.b)
 B:BAt CB CT H B
 fnd:H fd = some (.dT kf)
 len:kf.length < 900
theorem FAt.same {CF CB CT:Addr} {H H':Hp} {fi bd fd lk:Addr} {nm:Str} {B:BM} {kf:List (Ky × V)} (h:FAt CF CB CT H fi bd fd lk nm B kf) (s:Same H H'):FAt CF CB CT H' fi bd fd lk nm B kf :=
 ⟨let ⟨dx,e⟩:=h.fin; ⟨dx,s _ _ e⟩,let ⟨kb,e1,e2⟩:=h.bds; ⟨kb,s _ _ e1,e2⟩,h.B.same s,s _ _ h.fnd,h.len⟩
theorem FAt.put {CF CB CT:Addr} {H H':Hp} {fi bd fd lk:Addr} {nm:Str} {B:BM} {kf kf':List (Ky × V)} (h:FAt CF CB CT H fi bd fd lk nm B kf) (s:But fd H H') (e:H' fd = some (.dT kf')) (l:kf'.length < 900):FAt CF CB CT H' fi bd fd lk nm B kf':=by
 have u:∀ {x:Addr} {o:HO},H x = some o -> (∀ kvs,o ≠ .dT kvs) -> H' x = some o:=fun z n => s _ _ (fun y => by rw [y,h.fnd] at z; exact n _ (Option.some.inj z).symm) z
 obtain ⟨dx,e1⟩:=h.fin
 obtain ⟨kb,e2,e3⟩:=h.bds
 obtain ⟨⟨d1,b1⟩,⟨⟨d2,b2⟩,b3,b4⟩,b5,b6,b7⟩:=h.B
 exact ⟨⟨dx,u e1 (fun _ z => by cases z)⟩,⟨kb,u e2 (fun _ z => by cases z),e3⟩,⟨⟨d1,u b1 (fun _ z => by cases z)⟩,⟨⟨d2,u b2 (fun _ z => by cases z)⟩,u b3 (fun _ z => by cases z),u b4 (fun _ z => by cases z)⟩,u b5 (fun _ z => by cases z),u b6 (fun _ z => by cases z),u b7 (fun _ z => by cases z)⟩,e,l⟩
section
variable {P:Program} {w:World} {K:PySem.W.Frag} {mg:Str -> Option Value} {base:Heap}
def d1o (CF CB CT:Addr):Sp:=fun vs H Q _ => ∃ (fi bd fd lk ce l:Addr) (nm c:Str) (p:Nat) (B:BM) (kf:List (Ky × V)) (ys:List V) (v:V),vs = [.ref fi,.ref ce] /\ FAt CF CB CT H fi bd fd lk nm B kf /\ H ce = some (.tup ((a0u nm c p).map kV)) /\ valV B.rus (.inr c:Key) = none /\ Nl c /\ valV B.kvs (.inr c:Key) = some (.ref l) /\ H l = some (.lst ys) /\ p < B.xs.length /\ atI ys (p:Int) = some v /\ (∀ v',valV kf (a0u nm c p) = some v' -> v' = v) /\ kf.length < 899 /\
 ∀ H' kf',(kf' = kf ∨ kf' = putK kf (a0u nm c p) v) -> valV kf' (a0u nm c p) = some v -> FAt CF CB CT H' fi bd fd lk nm B kf' -> But fd H H' -> Q (.bl true) H'
theorem a3c:a0l ["self", "cell", "board"] ["self", "cell"] (a0b a2J):=⟨rfl,rfl,rfl,by decide +kernel,rfl,by decide +kernel,by decide +kernel⟩
theorem c1p (T:Tops K mg) {CF CB CT:Addr} (Y:a03 K mg CF) (W:a0R K mg CB) (Z:a1g K mg CT):a0k P w K mg base CX0 4 CF "knows" ["self", "cell"] (d1o CF CB CT):=by
 have G_at:a0k P w K mg base CX0 3 CT "at" ["self", "column", "place"] (spAt CT):=a5K T Z
 refine Y.m_knows.known a3c (fun _ _ _ _ _ _ us hl => match us,hl with | [_,_],_ => rfl) (fun vs H Q E h => ?_) (fun f cdv A outer s H vs Q E hr h => ?_)
 ·obtain ⟨fi,bd,fd,lk,ce,l,nm,c,p,B,kf,ys,v,rfl,_⟩:=h
  rfl
 ·obtain ⟨fi,bd,fd,lk,ce,l,nm,c,p,B,kf,ys,v,rfl,hF,hce,hru,hc,hv,hl,hp,ha,hcon,kl,q⟩:=h
  have hu:=a2I hr
  refine ⟨_,(a0d (a0B (i:=2) a3c.nd rfl (Or.inl rfl) (a00 hu (a0n (pv 0) rfl) (a1P a24 (pv 1) a0p (fun _ _ => rfl)) (fun _ _ => rfl)))
   (a0d (a0E (PW.pt (b74 (a7S (a3Q hu (pv 1) (a0n (pv 0) rfl))) (b2p (a7S (a3Q hu (a1P a24 (pv 1) a0p (fun _ _ => rfl)) (a0n (pv 2) rfl)))))) (a0e (a6x hu (a0n (pv 0) rfl) (pv 1) (a0s (a0n (pv 2) rfl) Z.cl G_at hr a0r (a0a (a1P a24 (pv 1) a0p (fun _ _ => rfl)) (a0a (a1P a24 (pv 1) a0p (fun _ _ => rfl)) a0f))) rfl)) a0q)
   (a0e (a0v (c8q (b8g hu (pv 1) (a0n (pv 0) rfl)) (by with_unfolding_all rfl)))))),?_⟩
  obtain ⟨dx,e1⟩:=hF.fin
  obtain ⟨kb,e2,e3⟩:=hF.bds
  obtain ⟨⟨d1,b1⟩,tb,b5,_,_⟩:=id hF.B
  obtain ⟨⟨d2,b2⟩,b3,b4⟩:=id tb
  have e4:=hF.fnd
  obtain ⟨a1,a2,a3⟩:=a8Q bd fd lk
  refine ⟨_,rfl,fi,CF,dx,_,_,rfl,e1,Y.cl,Y.n_boards,a1,_,rfl,ce,_,_,_,rfl,rfl,SqT.of hce,rfl,bd,_,rfl,e3 ▸ DGet.k (k:=Sum.inr nm) e2,?_⟩
  have dgf:∀ {H':Hp} {kf':List (Ky × V)},H' fd = some (.dT kf') -> H' ce = some (.tup ((a0u nm c p).map kV)) -> DGet H' fd (.ref ce) (valV kf' (a0u nm c p)):=fun e g => .inr ⟨_,a0u nm c p,ce,.inl e,rfl,g,rfl⟩
  refine ⟨_,rfl,_,rfl,fi,CF,dx,_,_,rfl,e1,Y.cl,Y.n_found,a2,fd,_,rfl,dgf e4 hce,_,rfl,?_⟩
  cases hk:valV kf (a0u nm c p) with
  | some v' =>
   obtain rfl:=hcon v' hk
   refine iteF (iteF ⟨_,rfl,_,rfl,fi,CF,dx,_,_,rfl,e1,Y.cl,Y.n_found,a2,fd,_,rfl,dgf e4 hce,?_⟩)
   rw [hk]
   exact q H kf (.inl rfl) hk hF (But.of (Same.refl H))
  | none =>
   refine iteT ⟨_,rfl,ce,_,_,_,rfl,rfl,SqT.of hce,rfl,_,rfl,B.b,CB,d1,_,_,rfl,b1,W.cl,W.n_rules,(a1l _ _ _ _).2.1,B.ru,_,rfl,DGet.k (k:=Sum.inr c) b5,_,rfl,?_⟩
   rw [hru]
   refine iteT ⟨_,rfl,B.b,CB,d1,_,_,rfl,b1,W.cl,W.n_given,(a1l _ _ _ _).1,B.g,d2,_,rfl,b2,a3y,_,rfl,ce,_,_,_,rfl,rfl,SqT.of hce,rfl,_,rfl,ce,_,_,_,rfl,rfl,SqT.of hce,rfl,B.g,B.r,B.e,B.xs,B.n,B.kvs,c,l,ys,p,v,rfl,tb,hc,hv,hl,hp,ha,fun H1 s1 => ?_⟩
   have F1:=hF.same s1
   have c1:=s1 _ _ hce
   have nce:ce ≠ fd:=fun z => by rw [z,e4] at hce; cases hce
   refine ⟨_,rfl,fi,CF,dx,_,_,rfl,s1 _ _ e1,Y.cl,Y.n_found,a2,_,rfl,fd,_,rfl,.inr ⟨kf,a0u nm c p,ce,F1.fnd,rfl,c1,a0w (by omega),rfl⟩,?_⟩
   have vp:valV (putK kf (a0u nm c p) v) (a0u nm c p) = some v:=by rw [a08,if_pos rfl]
   have lp:=a52 kf (a0u nm c p) v
   have b2':But fd H1 (upd H1 fd (.dT (putK kf (a0u nm c p) v))):=fun b o n z => by rw [a0g n]; exact z
   have F2:=F1.put b2' a0c (by omega)
   have c2:=b2' _ _ nce c1
   have f2:=F2.fnd
   generalize upd H1 fd (.dT (putK kf (a0u nm c p) v)) = H2 at b2' F2 c2 f2 ⊢
   obtain ⟨dx2,e12⟩:=F2.fin
   refine ⟨_,rfl,_,rfl,fi,CF,dx2,_,_,rfl,e12,Y.cl,Y.n_found,a2,fd,_,rfl,dgf f2 c2,?_⟩
   rw [vp]
   exact q H2 _ (.inr rfl) vp F2 ((But.of s1).trans b2')
def d0b (CF CB CT:Addr):Sp:=fun vs H Q _ => ∃ (fi bd fd lk ce:Addr) (nm c:Str) (p:Nat) (B:BM) (kf:List (Ky × V)) (r:V),vs = [.ref fi,.ref ce] /\ FAt CF CB CT H fi bd fd lk nm B kf /\ H ce = some (.tup ((a0u nm c p).map kV)) /\ valV B.rus (.inr c:Key) = some r /\ Q (.bl (valV kf (a0u nm c p)).isSome) H
theorem b3H (T:Tops K mg) {CF CB CT:Addr} (Y:a03 K mg CF) (W:a0R K mg CB):a0k P w K mg base CX0 4 CF "knows" ["self", "cell"] (d0b CF CB CT):=by
 refine Y.m_knows.known a3c (fun _ _ _ _ _ _ us hl => match us,hl with | [_,_],_ => rfl) (fun vs H Q E h => ?_) (fun f cdv A outer s H vs Q E hr h => ?_)
 ·obtain ⟨fi,bd,fd,lk,ce,nm,c,p,B,kf,r,rfl,_⟩:=h
  rfl
 ·obtain ⟨fi,bd,fd,lk,ce,nm,c,p,B,kf,r,rfl,hF,hce,hru,q⟩:=h
  have hu:=a2I hr
  refine ⟨_,(a0d (a0B (i:=2) a3c.nd rfl (Or.inl rfl) (a00 hu (a0n (pv 0) rfl) (a1P a24 (pv 1) a0p (fun _ _ => rfl)) (fun _ _ => rfl)))
   (a0d (a0E (PW.pt (b74 (a7S (a3Q hu (pv 1) (a0n (pv 0) rfl))) (b2p (a7S (a3Q hu (a1P a24 (pv 1) a0p (fun _ _ => rfl)) (a0n (pv 2) rfl)))))) (a0e a0y) a0q)
   (a0e (a0v (c8q (b8g hu (pv 1) (a0n (pv 0) rfl)) (by with_unfolding_all rfl)))))),?_⟩
  obtain ⟨dx,e1⟩:=hF.fin
  obtain ⟨kb,e2,e3⟩:=hF.bds
  obtain ⟨⟨d1,b1⟩,tb,b5,_,_⟩:=id hF.B
  have e4:=hF.fnd
  obtain ⟨a1,a2,a3⟩:=a8Q bd fd lk
  refine ⟨_,rfl,fi,CF,dx,_,_,rfl,e1,Y.cl,Y.n_boards,a1,_,rfl,ce,_,_,_,rfl,rfl,SqT.of hce,rfl,bd,_,rfl,e3 ▸ DGet.k (k:=Sum.inr nm) e2,?_⟩
  have dgf:DGet H fd (.ref ce) (valV kf (a0u nm c p)):=.inr ⟨_,a0u nm c p,ce,.inl e4,rfl,hce,rfl⟩
  refine ⟨_,rfl,_,rfl,fi,CF,dx,_,_,rfl,e1,Y.cl,Y.n_found,a2,fd,_,rfl,dgf,_,rfl,?_⟩
  refine ite2 (fun _ => ?_) (fun _ => ?_)
  ·refine ⟨_,rfl,ce,_,_,_,rfl,rfl,SqT.of hce,rfl,_,rfl,B.b,CB,d1,_,_,rfl,b1,W.cl,W.n_rules,(a1l _ _ _ _).2.1,B.ru,_,rfl,DGet.k (k:=Sum.inr c) b5,_,rfl,?_⟩
   rw [hru]
   exact iteF ⟨_,rfl,_,rfl,fi,CF,dx,_,_,rfl,e1,Y.cl,Y.n_found,a2,fd,_,rfl,dgf,q⟩
  ·exact iteF ⟨_,rfl,_,rfl,fi,CF,dx,_,_,rfl,e1,Y.cl,Y.n_found,a2,fd,_,rfl,dgf,q⟩
def rfl3 (fi tl:Addr) (u:V):List (Str × V):=[("finder", V.ref fi),("looked", V.ref tl),("lacking", u)]
theorem c6f (fi tl:Addr) (u:V):(rfl3 fi tl u).lookup ("finder" : Str) = some (.ref fi) /\ (rfl3 fi tl u).lookup ("looked" : Str) = some (.ref tl) /\ (rfl3 fi tl u).lookup ("lacking" : Str) = some u /\ (rfl3 fi tl u).lookup ("look" : Str) = none:=⟨rfl,rfl,rfl,rfl⟩
def d11 (C:Addr):Sp:=fun vs H Q _ => ∃ (p dx fi:Addr),vs = [.ref p,.ref fi] /\ H p = some (.ins C dx []) /\
 ∀ H' tl,H tl = none -> H' p = some (.ins C dx (rfl3 fi tl .non)) -> H' tl = some (.dT []) -> But p H H' -> Q .non H'
theorem c2I:a0l ["self", "finder"] ["self", "finder"] (a0b a4I):=⟨rfl,rfl,rfl,by decide +kernel,rfl,by decide +kernel,by decide +kernel⟩
theorem a4Y (T:Tops K mg) {C:Addr} (Y:b1n K mg C):a19 P w K mg base CX0 1 C ["self", "finder"] (d11 C):=by
 refine (Y.m_init.known c2I (fun _ _ _ _ _ _ us hl => match us,hl with | [_,_],_ => rfl) (fun vs H Q E h => ?_) (fun f cdv A outer s H vs Q E hr h => ?_)).init Y.mks Y.kc
 ·obtain ⟨p,dx,fi,rfl,_⟩:=h
  rfl
 ·obtain ⟨p,dx,fi,rfl,hp,q⟩:=h
  refine ⟨_,(a0d (a0S (pv 0) (pv 1) rfl) (a0d (a0S (pv 0) b3h rfl) (a0e (a0S (pv 0) a6q rfl)))),?_⟩
  refine ⟨_,rfl,_,rfl,p,C,dx,[],rfl,hp,Y.cl,Y.n_finder,(by show 0 < 1000; decide),?_⟩
  have u1:∀ b o,b ≠ p -> H b = some o -> upd H p (.ins C dx (putF "finder" (.ref fi) [])) b = some o:=fun b o n z => by rw [a0g n]; exact z
  have p1:upd H p (.ins C dx (putF "finder" (.ref fi) [])) p = some (.ins C dx (putF "finder" (.ref fi) [])):=a0c
  have n1:∀ b,upd H p (.ins C dx (putF "finder" (.ref fi) [])) b = none -> H b = none /\ b ≠ p:=fun b z => by
   have:b ≠ p:=fun y => by rw [y,a0c] at z; cases z
   rw [a0g this] at z
   exact ⟨z,this⟩
  generalize upd H p (.ins C dx (putF "finder" (.ref fi) [])) = H1 at u1 p1 n1 ⊢
  refine fun tl htl => ?_
  have s2:=Same.new (o:=.dT []) htl
  have h2:upd H1 tl (.dT []) tl = some (.dT []):=a0c
  refine ⟨_,rfl,p,C,dx,_,rfl,s2 _ _ p1,Y.cl,Y.n_looked,(by show 1 < 1000; decide),?_⟩
  have ht:=n1 _ htl
  generalize upd H1 tl (.dT []) = H2 at s2 h2 ⊢
  refine ⟨_,rfl,p,C,dx,_,rfl,a0c,Y.cl,Y.n_lacking,(by show 2 < 1000; decide),?_⟩
  exact q _ tl ht.1 a0c (by rw [a0g ht.2,a0g ht.2]; exact h2) (fun b o n z => by rw [a0g n,a0g n]; exact s2 _ _ (u1 _ _ n z))
def c7I (CR CF CB CT:Addr):Sp:=fun vs H Q _ => ∃ (tr tl fi bd fd lk l dx:Addr) (nm c:Str) (p:Nat) (B:BM) (kf kt:List (Ky × V)) (ys:List V) (v:V),vs = [.ref tr,.str nm,.str c,.int (p:Int)] /\ H tr = some (.ins CR dx (rfl3 fi tl .non)) /\ H tl = some (.dT kt) /\ kt.length < 900 /\ tl ≠ fd /\ FAt CF CB CT H fi bd fd lk nm B kf /\ valV B.rus (.inr c:Key) = none /\ Nl c /\ valV B.kvs (.inr c:Key) = some (.ref l) /\ H l = some (.lst ys) /\ p < B.xs.length /\ atI ys (p:Int) = some v /\ (∀ v',valV kf (a0u nm c p) = some v' -> v' = v) /\ kf.length < 899 /\
 ∀ H' kf',(kf' = kf ∨ kf' = putK kf (a0u nm c p) v) -> FAt CF CB CT H' fi bd fd lk nm B kf' -> H' tl = some (.dT (putK kt (a0u nm c p) (.bl true))) -> (∀ x o,x ≠ fd -> x ≠ tl -> H x = some o -> H' x = some o) -> Q v H'
theorem b36:a0l ["self", "table", "column", "place", "cell"] ["self", "table", "column", "place"] (a0b a4K):=⟨rfl,rfl,rfl,by decide +kernel,rfl,by decide +kernel,by decide +kernel⟩
theorem c3Z (T:Tops K mg) {CR CF CB CT:Addr} (X:b1n K mg CR) (Y:a03 K mg CF) (W:a0R K mg CB) (Z:a1g K mg CT):a0k P w K mg base CX0 5 CR "look" ["self", "table", "column", "place"] (c7I CR CF CB CT):=by
 have G_knows:a0k P w K mg base CX0 4 CF "knows" ["self", "cell"] (d1o CF CB CT):=c1p T Y W Z
 refine X.m_look.known b36 (fun _ _ _ _ _ _ us hl => match us,hl with | [_,_,_,_],_ => rfl) (fun vs H Q E h => ?_) (fun f cdv A outer s H vs Q E hr h => ?_)
 ·obtain ⟨tr,tl,fi,bd,fd,lk,l,dx,nm,c,p,B,kf,kt,ys,v,rfl,_⟩:=h
  rfl
 ·obtain ⟨tr,tl,fi,bd,fd,lk,l,dx,nm,c,p,B,kf,kt,ys,v,rfl,htr,htl,ktl,ntf,hF,hru,hc,hv,hl,hp,ha,hcon,kl,q⟩:=h
  have hu:=a2I hr
  refine ⟨_,(a0d (a0B (i:=4) b36.nd rfl (Or.inl rfl) (a7e (a0a (pv 1) (a0a (pv 2) (a0a (pv 3) a0f)))))
   (a0d (a6x hu (a0n (pv 0) rfl) (pv 4) c6Q rfl)
   (a0d (a0E (PW.pt (b74 (a0A b9K (a0n (pv 0) rfl) a6q (a0Z _)) (b2p (a23 (a1w (a0s (a0n (pv 0) rfl) Y.cl G_knows hr a0r (a0a (pv 4) a0f)) (fun _ => rfl)))))) (a0e a0y) a0q)
   (a0d (a0E (a0A b9K (a0n (pv 0) rfl) a6q (a0Z _)) (a0e (a0v (a00 hu (a0n (a0n (pv 0) rfl) rfl) (pv 4) (fun _ _ => rfl)))) a0q)
   (a0e a0y))))),?_⟩
  obtain ⟨a1,a2,a3,a4⟩:=c6f fi tl .non
  refine ⟨_,rfl,_,rfl,_,rfl,sl,fun ce hce => ?_⟩
  have s1:=Same.new (o:=.tup ((a0u nm c p).map kV)) hce
  have c1:upd H ce (.tup ((a0u nm c p).map kV)) ce = some (.tup ((a0u nm c p).map kV)):=a0c
  have hcf:H ce = none:=hce
  generalize hH1:upd H ce (.tup ((a0u nm c p).map kV)) = H1 at s1 c1
  rw [show upd H ce (.tup [V.str nm,V.str c,V.int (p:Int)]) = H1 from hH1]
  have nct:ce ≠ tl:=fun z => by rw [z,htl] at hcf; cases hcf
  refine ⟨_,rfl,tr,CR,dx,_,_,rfl,s1 _ _ htr,X.cl,X.n_looked,a2,_,rfl,tl,_,rfl,.inr ⟨kt,a0u nm c p,ce,s1 _ _ htl,rfl,c1,a0w (by omega),rfl⟩,?_⟩
  have u2:But tl H1 (upd H1 tl (.dT (putK kt (a0u nm c p) (.bl true)))):=fun b o n z => by rw [a0g n]; exact z
  have t2:upd H1 tl (.dT (putK kt (a0u nm c p) (.bl true))) tl = some (.dT (putK kt (a0u nm c p) (.bl true))):=a0c
  generalize upd H1 tl (.dT (putK kt (a0u nm c p) (.bl true))) = H2 at u2 t2 ⊢
  have ntr:tr ≠ tl:=fun z => by rw [z,htl] at htr; cases htr
  have tr2:=u2 _ _ ntr (s1 _ _ htr)
  have hF1:=hF.same s1
  have hl1:=s1 _ _ htl
  have nd:∀ {x:Addr} {o:HO},H1 x = some o -> (∀ kvs,o ≠ .dT kvs) -> H2 x = some o:=fun z n => u2 _ _ (fun y => by rw [y,hl1] at z; exact n _ (Option.some.inj z).symm) z
  have F2:FAt CF CB CT H2 fi bd fd lk nm B kf:=by
   obtain ⟨d0,e1⟩:=hF1.fin
   obtain ⟨kb,e2,e3⟩:=hF1.bds
   obtain ⟨⟨d1,b1⟩,⟨⟨d2,b2⟩,b3,b4⟩,b5,b6,b7⟩:=hF1.B
   exact ⟨⟨d0,nd e1 (fun _ z => by cases z)⟩,⟨kb,nd e2 (fun _ z => by cases z),e3⟩,⟨⟨d1,nd b1 (fun _ z => by cases z)⟩,⟨⟨d2,nd b2 (fun _ z => by cases z)⟩,nd b3 (fun _ z => by cases z),nd b4 (fun _ z => by cases z)⟩,nd b5 (fun _ z => by cases z),nd b6 (fun _ z => by cases z),nd b7 (fun _ z => by cases z)⟩,u2 _ _ ntf.symm hF1.fnd,hF1.len⟩
  obtain ⟨df,f2⟩:=F2.fin
  refine ⟨_,rfl,tr,CR,dx,_,_,rfl,tr2,X.cl,X.n_lacking,a3,rfl,_,rfl,iteT ?_⟩
  refine ⟨_,rfl,tr,CR,dx,_,_,rfl,tr2,X.cl,X.n_finder,a1,fi,df,_,rfl,f2,b3u,_,rfl,fi,bd,fd,lk,ce,l,nm,c,p,B,kf,ys,v,rfl,F2,u2 _ _ nct c1,hru,hc,hv,nd (s1 _ _ hl) (fun _ z => by cases z),hp,ha,hcon,kl,fun H3 kf' hk' vk' F3 b3 => ⟨_,rfl,iteF ?_⟩⟩
  have ntrf:tr ≠ fd:=fun z => by rw [z,hF.fnd] at htr; cases htr
  have ncf:ce ≠ fd:=fun z => by rw [z,hF.fnd] at hcf; cases hcf
  have tr3:=b3 _ _ ntrf tr2
  obtain ⟨df3,f3⟩:=F3.fin
  refine ⟨_,rfl,tr,CR,dx,_,_,rfl,tr3,X.cl,X.n_lacking,a3,rfl,_,rfl,iteT ?_⟩
  refine ⟨_,rfl,tr,CR,dx,_,_,rfl,tr3,X.cl,X.n_finder,a1,fi,CF,df3,_,_,rfl,f3,Y.cl,Y.n_found,(a8Q _ _ _).2.1,_,rfl,fd,v,rfl,?_,?_⟩
  ·rw [<- vk']
   exact .inr ⟨_,a0u nm c p,ce,.inl F3.fnd,rfl,b3 _ _ ncf (u2 _ _ nct c1),rfl⟩
  ·exact q H3 kf' hk' F3 (b3 _ _ ntf t2) (fun x o n1 n2 z => b3 _ _ n1 (u2 _ _ n2 (s1 _ _ z)))
end
end My
set_option maxHeartbeats 1000000
namespace My
open PySem L2
def a3a (H H':Hp):Prop:=∀ b u,H b = some (Fz u) -> H' b = some (Fz u)
theorem a3a.of {H H':Hp} (s:Same H H'):a3a H H':=fun b u e => s _ _ e
def oddD:PyData:=.tuple [.str "fault", .str "odd"]
def setD (d:PyData):PyData:=if a5z d then d else oddD
def d2k (K:PySem.W.Frag) (LP:Hp -> Prop) (ca:Addr) (g:List Int -> PyData):Sp:=fun vs H Q _ => ∃ (l:Addr) (is:List Int) (cs:List V),vs = [.ref l] /\ LP H /\ H l = some (.lst (is.map V.int)) /\ H ca = some (.lst cs) /\ cs.length < 900 /\ 0 < is.length /\ is.length <= 100 /\ ca ≠ l /\
 ∀ H' v lc,But ca H H' -> H lc = none -> H' ca = some (.lst (cs ++ [.ref lc])) -> H' lc = some (.lst (is.map V.int)) -> Dt K H' v (g is) -> Q v H'
def FnN (P:Program) (w:World) (K:PySem.W.Frag) (mg:Str -> Option Value) (base:Heap) (k:Nat) (H:Hp) (fa ca:Addr) (g:List Int -> PyData):Prop:=∃ LP,a6X P w K mg base k fa (d2k K LP ca g) /\ LP H /\ ∀ H H',a3a H H' -> LP H -> LP H'
theorem FnN.keep {P:Program} {w:World} {K:PySem.W.Frag} {mg:Str -> Option Value} {base:Heap} {k:Nat} {H H':Hp} {fa ca:Addr} {g:List Int -> PyData} (s:a3a H H') (h:FnN P w K mg base k H fa ca g):FnN P w K mg base k H' fa ca g:=by
 obtain ⟨LP,h1,h2,h3⟩:=h
 exact ⟨LP,h1,h3 _ _ s h2,h3⟩
def gfl (k n:Str) (fa:Addr):List (Str × V):=[("function", V.ref fa),("key", V.str k),("name", V.str n)]
theorem b7X (k n:Str) (fa:Addr):(gfl k n fa).lookup ("function" : Str) = some (.ref fa) /\ (gfl k n fa).lookup ("key" : Str) = some (.str k) /\ (gfl k n fa).lookup ("name" : Str) = some (.str n) /\ (gfl k n fa).lookup ("leans" : Str) = none /\ (gfl k n fa).lookup ("gather" : Str) = none /\ (gfl k n fa).lookup ("reckon" : Str) = none:=⟨rfl,rfl,rfl,rfl,rfl,rfl⟩
section
variable {P:Program} {w:World} {K:PySem.W.Frag} {mg:Str -> Option Value} {base:Heap}
def c4l (K:PySem.W.Frag) (p:Addr):Sp:=fun vs H Q _ => ∃ x d,vs = [x] /\ Dt K H x d /\ a8J d /\ ∀ H',Same H H' -> Q (if a5z d then x else .ref p) H'
theorem c6O:a0l ["thing"] ["thing"] (a0b b0p):=⟨rfl,rfl,rfl,by decide +kernel,rfl,by decide +kernel,by decide +kernel⟩
theorem b0o (T:Tops K mg) {p:Addr} (hp:mg "ODD" = some (.ref p)):a0C P w K mg base CX0 4 "settled" ["thing"] (c4l K p):=by
 have G_is_value:a0C P w K mg base CX0 3 "is_value" ["thing"] (c1I K):=a4a T
 refine T.d_settled.known c6O (fun _ _ _ _ _ _ us hl => match us,hl with | [_],_ => rfl) (fun vs H Q E h => ?_) (fun f cdv A outer s H vs Q E hr h => ?_)
 ·obtain ⟨x,d,rfl,_⟩:=h
  rfl
 ·obtain ⟨x,d,rfl,hd,hsh,q⟩:=h
  refine ⟨_,(a0d (a0E (a1w (a0o G_is_value (hr.mono (by decide)) a0r (a0a (pv 0) a0f)) (fun _ => rfl)) (a0e (a0v (pv 0))) a0q)
   (a0e (a0v (d13 hp)))),?_⟩
  refine ⟨_,rfl,x,d,rfl,hd,hsh,fun H' s' => ⟨_,rfl,?_⟩⟩
  have q':=q H' s'
  refine ite2 (fun h1 => ?_) (fun h1 => ?_)
  ·rw [if_pos h1] at q'
   exact ⟨_,rfl,q'⟩
  ·rw [if_neg h1] at q'
   exact q'
def d1A (P:Program) (w:World) (K:PySem.W.Frag) (mg:Str -> Option Value) (base:Heap) (k:Nat) (C:Addr):Sp:=fun vs H Q _ => ∃ (p a fa ca dx:Addr) (kk nn:Str) (g:List Int -> PyData) (is:List Int) (cs:List V),vs = [.ref p,.ref a] /\ H p = some (.ins C dx (gfl kk nn fa)) /\ FnN P w K mg base k H fa ca g /\ H a = some (.lst (is.map V.int)) /\ H ca = some (.lst cs) /\ cs.length < 900 /\ 0 < is.length /\ is.length <= 100 /\ a8J (g is) /\
 ∀ H' v lc,But ca H H' -> H lc = none -> H' ca = some (.lst (cs ++ [.ref lc])) -> H' lc = some (.lst (is.map V.int)) -> Dt K H' v (setD (g is)) -> Q v H'
theorem b9x:a0l ["self", "some"] ["self", "some"] (a0b a2k):=⟨rfl,rfl,rfl,by decide +kernel,rfl,by decide +kernel,by decide +kernel⟩
theorem b8J (T:Tops K mg) {C:Addr} (Y:a69 K mg C) {k:Nat} (hk:4 <= k):a0k P w K mg base CX0 (k + 1) C "reckon" ["self", "some"] (d1A P w K mg base k C):=by
 obtain ⟨pO,hpO,hO⟩:=T.g_ODD
 have G_settled:a0C P w K mg base CX0 4 "settled" ["thing"] (c4l K pO):=b0o T hpO
 refine Y.m_reckon.known b9x (fun _ _ _ _ _ _ us hl => match us,hl with | [_,_],_ => rfl) (fun vs H Q E h => ?_) (fun f cdv A outer s H vs Q E hr h => ?_)
 ·obtain ⟨p,a,fa,ca,dx,kk,nn,g,is,cs,rfl,_⟩:=h
  rfl
 ·obtain ⟨p,a,fa,ca,dx,kk,nn,g,is,cs,rfl,hp,⟨LP,F,lp,stb⟩,ha,hca,cl,l0,l1,hsh,q⟩:=h
  refine ⟨_,(a0e (a0v (a0o G_settled (hr.mono hk) a0r (a0a (c9w (k:=k) (pv 0) hr (a0a (a71 a7j rfl T.list b1e (a0a (pv 1) a0f)) a0f)) a0f)))),?_⟩
  refine ⟨_,rfl,p,C,dx,_,fa,_,rfl,hp,Y.cl,Y.n_function,(b7X _ _ _).1,F,_,rfl,a,_,rfl,.inl (SqL.of ha),fun xl hxl => ?_⟩
  have s1:=Same.new (o:=.lst (is.map V.int)) hxl
  refine ⟨xl,is,cs,rfl,stb _ _ (a3a.of s1) lp,a0c,s1 _ _ hca,cl,l0,l1,a0h hca hxl,fun H3 v lc b3 hlc h3 hl3 hd => ?_⟩
  have nlc:lc ≠ ca:=fun z => by rw [z,s1 _ _ hca] at hlc; cases hlc
  refine ⟨v,_,rfl,hd,hsh,fun H4 s4 => ?_⟩
  refine q H4 _ lc (((But.of s1).trans b3).trans (But.of s4)) (a0M s1 hlc) (s4 _ _ h3) (s4 _ _ hl3) ?_
  unfold setD
  by_cases c:a5z (g is) = true
  ·rw [if_pos c,if_pos c]
   exact hd.same s4
  ·rw [if_neg c,if_neg c]
   exact .tup (hO H4) (.cons (.str _) (.cons (.str _) .nil))
theorem a61 (is:List Int):(PyData.list (is.map PyData.int)).canLay0 = true /\ (PyData.list (is.map PyData.int)).depth <= 64:=by
 have h1:PyData.canLayAll0 (is.map PyData.int) = true:=by
  induction is with
  | nil => rfl
  | cons i r ih => rw [List.map_cons,PyData.canLayAll0,ih]; rfl
 have h2:PyData.depthAll (is.map PyData.int) = 0:=by
  induction is with
  | nil => rfl
  | cons i r ih =>
   have h3:PyData.canLayAll0 (r.map PyData.int) = true:=by
    have:=h1
    rw [List.map_cons,PyData.canLayAll0,Bool.and_eq_true] at this
    exact this.2
   rw [List.map_cons]
   show max 0 (PyData.depthAll (r.map PyData.int)) = 0
   rw [ih h3]
   rfl
 refine ⟨h1,?_⟩
 show PyData.depthAll (is.map PyData.int) + 1 <= 64
 rw [h2]
 decide
theorem a8j {K:PySem.W.Frag} {H:Hp}:∀ is:List Int,a16 K H (is.map V.int) (is.map PyData.int)
 | [] => .nil
 | i :: r => .cons (.int i) (a8j r)
theorem b30:∀ is js:List Int,PyData.eqv (.list (is.map PyData.int)) (.list (js.map PyData.int)) = decide (is = js)
 | [],[] => by simp [PyData.eqv,PyData.eqvAll]
 | [],j :: js => by simp [PyData.eqv,PyData.eqvAll]
 | i :: is,[] => by simp [PyData.eqv,PyData.eqvAll]
 | i :: is,j :: js => by
  have ih:=b30 is js
  simp only [PyData.eqv] at ih
  simp only [List.map_cons,PyData.eqv,PyData.eqvAll,ih]
  by_cases h1:i = j <;> by_cases h2:is = js <;> simp [h1,h2]
theorem d0g {K:PySem.W.Frag} {H H':Hp} {m:Addr} {kvs:List (Key × V)} {v:V} {d:PyData} (hv:Vd d) (h:Dt K H v d) (hm:H m = some (.dK kvs)) (u:∀ x o,x ≠ m -> H x = some o -> H' x = some o):Dt K H' v d:=by
 rcases hv with ⟨i,rfl,hb⟩ | ⟨z,rfl,hz⟩
 ·cases h
  exact .int i
 ·cases h with
  | tup hq hall =>
   cases hall with
   | cons h1 t =>
    cases h1
    cases t with
    | cons h2 t =>
     cases h2
     cases t
     refine .tup ?_ (.cons (.str _) (.cons (.str _) .nil))
     rcases hq with h | h
     ·rcases h with h | ⟨o,h⟩
      ·exact .inl (.inl (u _ _ (fun y => by rw [y,hm] at h; cases h) h))
      ·exact .inl (.inr ⟨o,u _ _ (fun y => by rw [y,hm] at h; cases h) h⟩)
     ·exact .inr h
def Was (H:Hp) (mk:List (Key × V)) (num:Int) (js:List Int) (vv:V):Prop:=∃ tp lo,valV mk (.inl num:Key) = some (.ref tp) /\ H tp = some (.tup [.ref lo,vv]) /\ H lo = some (.lst (js.map V.int))
def d1F (P:Program) (w:World) (K:PySem.W.Frag) (mg:Str -> Option Value) (base:Heap) (k:Nat) (CB CT CG:Addr):Sp:=fun vs H Q _ => ∃ (sm gr mc fa ca dx:Addr) (c kk nn:Str) (p:Nat) (num:Int) (B:BM) (mk:List (Key × V)) (g:List Int -> PyData) (is:List Int) (cs:List V),vs = [.ref B.b,.str c,.int (p:Int),.ref sm] /\ BAt CB CT H B /\ valV B.rus (.inr c:Key) = some (.ref gr) /\ valV B.mes (.inr c:Key) = some (.ref mc) /\ H mc = some (.dK mk) /\ mk.length < 100 /\ p < B.xs.length /\ atI B.xs (p:Int) = some (.int num) /\
 H gr = some (.ins CG dx (gfl kk nn fa)) /\ FnN P w K mg base k H fa ca g /\ H sm = some (.lst (is.map V.int)) /\ H ca = some (.lst cs) /\ cs.length < 900 /\ 0 < is.length /\ is.length <= 100 /\ a8J (g is) /\ Vd (setD (g is)) /\
 ((∃ vv,Was H mk num is vv /\ Q vv H) ∨ ((valV mk (.inl num:Key) = none ∨ ∃ js vv,Was H mk num js vv /\ js ≠ is) /\
   ∀ H' v lc tp,(∀ x o,x ≠ ca -> x ≠ mc -> H x = some o -> H' x = some o) -> H lc = none -> H' ca = some (.lst (cs ++ [.ref lc])) -> H' lc = some (.lst (is.map V.int)) -> H tp = none -> H' tp = some (.tup [.ref sm,v]) -> H' mc = some (.dK (putK mk (.inl num:Key) (.ref tp))) -> Dt K H' v (setD (g is)) -> Q v H'))
abbrev Nou:List Str:=["self", "column", "place", "some", "remembered", "number"]
theorem a5g:a0l Nou ["self", "column", "place", "some"] (a0b a02):=⟨rfl,rfl,rfl,by decide +kernel,rfl,by decide +kernel,by decide +kernel⟩
theorem a2e (T:Tops K mg) {CB CT CG:Addr} (Y:a0R K mg CB) (Z:a1g K mg CT) (W:a69 K mg CG) {k:Nat} (hk:4 <= k):a0k P w K mg base CX0 (k + 2) CB "outcome" ["self", "column", "place", "some"] (d1F P w K mg base k CB CT CG):=by
 have G_num:a0k P w K mg base CX0 3 CT "number_at" ["self", "place"] (d2g CT):=a1B T Z
 have G_rck:a0k P w K mg base CX0 (k + 1) CG "reckon" ["self", "some"] (d1A P w K mg base k CG):=b8J T W hk
 refine Y.m_outcome.known a5g (fun _ _ _ _ _ _ us hl => match us,hl with | [_,_,_,_],_ => rfl) (fun vs H Q E h => ?_) (fun f cdv A outer s H vs Q E hr h => ?_)
 ·obtain ⟨sm,gr,mc,fa,ca,dx,c,kk,nn,p,num,B,mk,g,is,cs,rfl,_⟩:=h
  rfl
 ·obtain ⟨sm,gr,mc,fa,ca,dx,c,kk,nn,p,num,B,mk,g,is,cs,rfl,hB,hru,hme,hmc,ml,hp,hnum,hgr,FN,hsm,hca,cl,l0,l1,hsh,hvd,q⟩:=h
  have hu:=a2I hr
  have rest:∃ t,PSs (cxOf CX0 P w K mg base Nou "Board.outcome" (a0b a02) f cdv A outer s H E).nox ((a0i a02).drop 3) t /\
   ∀ (H1:Hp) (tp:Addr) (x v:V) (mk':List (Key × V)),H1 mc = some (.dK mk') -> valV mk' (.inl num:Key) = some (.ref tp) -> H1 tp = some (.tup [x,v]) -> Q v H1 -> t { nx:=fun _ H' => Q .non H',rt:=Q } [some (.ref B.b),some (.str c),some (.int (p:Int)),some (.ref sm),some (.ref mc),some (.int num)] H1:=by
   refine ⟨_,(a0e (a0v (a1P a24 (a00 hu (pv 4) (pv 5) (fun _ _ => rfl)) a0p (fun _ _ => rfl)))),fun H1 tp x v mk' e1 e2 e3 q' => ?_⟩
   exact ⟨_,rfl,_,rfl,mc,_,rfl,e2 ▸ DGet.k (k:=Sum.inl num) e1,tp,_,_,_,rfl,rfl,SqT.of e3,rfl,q'⟩
  obtain ⟨tR,hR,qR⟩:=rest
  refine ⟨_,(a0d (a0B (i:=4) a5g.nd rfl (Or.inl rfl) (a00 hu (a0n (pv 0) rfl) (pv 1) (fun _ _ => rfl)))
   (a0d (a0B (i:=5) a5g.nd rfl (Or.inl rfl) (a0s (a0n (pv 0) rfl) Z.cl G_num (hr.mono (by omega)) a0r (a0a (pv 2) a0f)))
   (a0d (a0E (PW.pt (b85 (a7S (a3Q hu (pv 5) (pv 4))) (b3E (a0A (c4d hr.units) (a1P a24 (a00 hu (pv 4) (pv 5) (fun _ _ => rfl)) a0p (fun _ _ => rfl)) (pv 3) (a0Z _))))) (a0e (a6x hu (pv 4) (pv 5) (a7e (a0a (pv 3) (a0a (a0s (a00 hu (a0n (pv 0) rfl) (pv 1) (fun _ _ => rfl)) W.cl G_rck hr a0r (a0a (pv 3) a0f)) a0f))) rfl)) a0q)
   hR))),?_⟩
  obtain ⟨⟨d1,b1⟩,tb,b3,b4,_⟩:=id hB
  obtain ⟨⟨d2,b2⟩,_,_⟩:=id tb
  refine ⟨_,rfl,B.b,CB,d1,_,_,rfl,b1,Y.cl,Y.n_memory,(a1l _ _ _ _).2.2.1,_,rfl,B.me,_,rfl,hme ▸ DGet.k (k:=Sum.inr c) b4,?_⟩
  refine ⟨_,rfl,B.b,CB,d1,_,_,rfl,b1,Y.cl,Y.n_given,(a1l _ _ _ _).1,B.g,d2,_,rfl,b2,a3y,_,rfl,B.g,B.r,B.e,B.xs,B.n,B.kvs,p,_,rfl,tb,hp,hnum,?_⟩
  refine ⟨_,rfl,_,rfl,mc,_,rfl,DGet.k (k:=Sum.inl num) hmc,_,rfl,?_⟩
  have lay:=a61 is
  have ncm:mc ≠ ca:=fun z => by rw [z,hca] at hmc; cases hmc
  rcases q with ⟨vv,⟨tp,lo,e1,e2,e3⟩,qv⟩ | ⟨hw,q⟩
  ·rw [e1]
   refine iteF ⟨_,rfl,_,rfl,mc,_,rfl,e1 ▸ DGet.k (k:=Sum.inl num) hmc,tp,_,_,_,rfl,rfl,SqT.of e2,rfl,_,rfl,.list (is.map .int),.list (is.map .int),.lst (SqL.of e3) (a8j is),.lst (SqL.of hsm) (a8j is),lay.1,lay.1,lay.2,_,rfl,?_⟩
   rw [b30,decide_eq_true rfl]
   exact iteF (qR H tp _ vv mk hmc e1 e2 qv)
  have fin:∀ (H1:Hp) (v:V) (lc tp:Addr),But ca H H1 -> H lc = none -> H1 ca = some (.lst (cs ++ [.ref lc])) -> H1 lc = some (.lst (is.map V.int)) -> Dt K H1 v (setD (g is)) -> H1 tp = none ->
   ∃ H4,DPut (upd H1 tp (.tup [.ref sm,v])) mc (.int num) (.ref tp) H4 /\ tR { nx:=fun _ H' => Q .non H',rt:=Q } [some (.ref B.b),some (.str c),some (.int (p:Int)),some (.ref sm),some (.ref mc),some (.int num)] H4:=fun H1 v lc tp bb hlc h1 hl1 hd htp => by
   have s2:=Same.new (o:=.tup [.ref sm,v]) htp
   have m2:=s2 _ _ (bb _ _ ncm hmc)
   have t2:upd H1 tp (.tup [.ref sm,v]) tp = some (.tup [.ref sm,v]):=a0c
   refine ⟨_,DPut.k (k:=Sum.inl num) m2 (a0w (by omega)),?_⟩
   generalize upd H1 tp (.tup [.ref sm,v]) = H2 at s2 m2 t2 ⊢
   have u3:∀ x o,x ≠ mc -> H2 x = some o -> upd H2 mc (.dK (putK mk (.inl num:Key) (.ref tp))) x = some o:=fun x o n z => by rw [a0g n]; exact z
   have m3:upd H2 mc (.dK (putK mk (.inl num:Key) (.ref tp))) mc = some (.dK (putK mk (.inl num:Key) (.ref tp))):=a0c
   generalize upd H2 mc (.dK (putK mk (.inl num:Key) (.ref tp))) = H3 at u3 m3 ⊢
   have nm:∀ {x:Addr} {o:HO},H2 x = some o -> (∀ kvs,o ≠ .dK kvs) -> x ≠ mc:=fun z n y => by rw [y,m2] at z; exact n _ (Option.some.inj z).symm
   have t3:=u3 _ _ (nm t2 (fun _ z => by cases z)) t2
   have htp0:H tp = none:=by
    cases e:H tp with
    | none => rfl
    | some o =>
     by_cases z:tp = ca
     ·rw [z,h1] at htp; cases htp
     ·rw [bb _ _ z e] at htp; cases htp
   refine qR H3 tp _ v _ m3 (by rw [a08,if_pos rfl]) t3 (q H3 v lc tp (fun x o n1 n2 z => u3 _ _ n2 (s2 _ _ (bb _ _ n1 z))) hlc ?_ ?_ htp0 t3 m3 ?_)
   ·exact u3 _ _ ncm.symm (s2 _ _ h1)
   ·exact u3 _ _ (nm (s2 _ _ hl1) (fun _ z => by cases z)) (s2 _ _ hl1)
   ·exact d0g hvd (hd.same s2) m2 u3
  rcases hw with e0 | ⟨js,vv,⟨tp0,lo,e1,e2,e3⟩,hne⟩
  ·rw [e0]
   refine iteT (iteT ?_)
   refine ⟨_,rfl,_,rfl,B.b,CB,d1,_,_,rfl,b1,Y.cl,Y.n_rules,(a1l _ _ _ _).2.1,_,rfl,B.ru,_,rfl,hru ▸ DGet.k (k:=Sum.inr c) b3,gr,dx,_,rfl,hgr,(b7X _ _ _).2.2.2.2.2,_,rfl,gr,sm,fa,ca,dx,kk,nn,g,is,cs,rfl,hgr,FN,hsm,hca,cl,l0,l1,hsh,fun H1 v lc bb hlc h1 hl1 hd => ⟨sl,fun tp htp => ?_⟩⟩
   obtain ⟨H4,p4,q4⟩:=fin H1 v lc tp bb hlc h1 hl1 hd htp
   exact ⟨_,rfl,_,rfl,mc,H4,rfl,p4,q4⟩
  ·rw [e1]
   refine iteF ⟨_,rfl,_,rfl,mc,_,rfl,e1 ▸ DGet.k (k:=Sum.inl num) hmc,tp0,_,_,_,rfl,rfl,SqT.of e2,rfl,_,rfl,.list (js.map .int),.list (is.map .int),.lst (SqL.of e3) (a8j js),.lst (SqL.of hsm) (a8j is),(a61 js).1,lay.1,(a61 js).2,_,rfl,?_⟩
   rw [b30,decide_eq_false hne]
   refine iteT ?_
   refine ⟨_,rfl,_,rfl,B.b,CB,d1,_,_,rfl,b1,Y.cl,Y.n_rules,(a1l _ _ _ _).2.1,_,rfl,B.ru,_,rfl,hru ▸ DGet.k (k:=Sum.inr c) b3,gr,dx,_,rfl,hgr,(b7X _ _ _).2.2.2.2.2,_,rfl,gr,sm,fa,ca,dx,kk,nn,g,is,cs,rfl,hgr,FN,hsm,hca,cl,l0,l1,hsh,fun H1 v lc bb hlc h1 hl1 hd => ⟨sl,fun tp htp => ?_⟩⟩
   obtain ⟨H4,p4,q4⟩:=fin H1 v lc tp bb hlc h1 hl1 hd htp
   exact ⟨_,rfl,_,rfl,mc,H4,rfl,p4,q4⟩
end
end My
set_option maxHeartbeats 1000000
namespace My
open PySem L2
def isT:PyData -> Bool
 | .tuple _ => true
 | _ => false
def d1m:PyData -> Int
 | .int i => i
 | _ => 0
def grF (own:PyData):List PyData -> List PyData -> List Int -> PyData ⊕ List Int
 | k :: ks,n :: ns,acc => if PyData.eqv k own then (if isT n then .inl n else grF own ks ns (acc ++ [d1m n])) else grF own ks ns acc
 | _,_,acc => .inr acc
theorem c7E {own k:PyData} {ks ns:List PyData} {i:Int} {acc:List Int} (h:PyData.eqv k own = true):grF own (k :: ks) (.int i :: ns) acc = grF own ks ns (acc ++ [i]):=by
 rw [grF,if_pos h]
 exact if_neg Bool.false_ne_true
theorem c7X {own k:PyData} {ks ns:List PyData} {z:List PyData} {acc:List Int} (h:PyData.eqv k own = true):grF own (k :: ks) (.tuple z :: ns) acc = .inl (.tuple z):=by
 rw [grF,if_pos h]
 exact if_pos rfl
theorem c9T {own k n:PyData} {ks ns:List PyData} {acc:List Int} (h:¬ PyData.eqv k own = true):grF own (k :: ks) (n :: ns) acc = grF own ks ns acc:=by
 rw [grF,if_neg h]
theorem b63 {own:PyData} {ns:List PyData} {acc:List Int}:grF own [] ns acc = .inr acc:=by
 rw [grF]
 intro a b c d e
 cases e
def a3e (ks ns:List PyData) (p:Nat):PyData ⊕ List Int:=if isT (ks.getD p .none) then .inl (ks.getD p .none) else grF (ks.getD p .none) ks ns []
theorem a4L {xs:List V} {i:Nat} {v:V} (h:xs[i]? = some v):atI xs (i:Int) = some v:=by
 have hi:=(List.getElem?_eq_some_iff.mp h).1
 obtain ⟨u,h1,h2⟩:=c7K xs (i:Int) (by omega) (by omega)
 rw [Int.toNat_natCast,h] at h2
 cases h2
 exact h1
theorem c2R {α:Type} {zs:List α} {i:Nat} {z:α} (h:zs[i]? = some z):zs.drop i = z :: zs.drop (i + 1):=by
 obtain ⟨hi,e⟩:=List.getElem?_eq_some_iff.mp h
 rw [List.drop_eq_getElem_cons hi,e]
theorem Pvs.at {K:PySem.W.Frag} {H:Hp}:∀ {xs:List V} {ds:List PyData} {i:Nat},Pvs K H xs ds -> i < ds.length -> ∃ v d,xs[i]? = some v /\ ds[i]? = some d /\ Pv K H v d
 | _,_,_,.nil,h => by simp at h
 | _,_,0,.cons h _,_ => ⟨_,_,rfl,rfl,h⟩
 | _,_,i + 1,.cons _ t,h => by
  obtain ⟨v,d,h1,h2,h3⟩:=Pvs.at (i:=i) t (by simpa using h)
  exact ⟨v,d,by simpa using h1,by simpa using h2,h3⟩
theorem Pv.isT {K:PySem.W.Frag} {H:Hp} {v:V} {d:PyData} (h:Pv K H v d):a6T d = My.isT d:=by
 rcases h with ⟨i,rfl,rfl,_⟩ | ⟨a,y,rfl,_,rfl,hy⟩
 ·rfl
 ·show (decide (("fault" : Str) = "fault") && a8a (.str y)) = true
  rw [decide_eq_true rfl,Bool.true_and]
  exact Nl.name hy
def Fr2 (x y:Addr) (H H':Hp):Prop:=∀ b o,b ≠ x -> b ≠ y -> H b = some o -> H' b = some o
theorem Fr2.of {x y:Addr} {H H':Hp} (s:Same H H'):Fr2 x y H H':=fun b o _ _ e => s b o e
theorem Fr2.trans {x y:Addr} {H H1 H2:Hp} (a:Fr2 x y H H1) (b:Fr2 x y H1 H2):Fr2 x y H H2:=fun c o n m e => b c o n m (a c o n m e)
structure Jst (J:Hp -> Prop) (W:List Addr) (x y:Addr):Prop where
 there:∀ H,J H -> ∀ b ∈ W,H b ≠ none
 stay:∀ H H',(∀ b o,b ∈ W -> H b = some o -> H' b = some o) -> a3a H H' -> J H -> J H'
 x:∀ H,J H -> ∃ k,H x = some (.dT k)
 y:∀ H,J H -> ∃ k,H y = some (.dT k)
theorem Jst.same {J:Hp -> Prop} {W:List Addr} {x y:Addr} (S:Jst J W x y) {H H':Hp} (s:Same H H') (h:J H):J H':=S.stay _ _ (fun b o _ e => s _ _ e) (a3a.of s) h
theorem Jst.tup {J:Hp -> Prop} {W:List Addr} {x y:Addr} (S:Jst J W x y) {H H':Hp} (h:J H) (f:Fr2 x y H H'):a1u H H':=fun a xs e => by
 obtain ⟨k1,e1⟩:=S.x H h
 obtain ⟨k2,e2⟩:=S.y H h
 exact f _ _ (fun z => by rw [z,e1] at e; cases e) (fun z => by rw [z,e2] at e; cases e) e
def d0E (J:Hp -> Prop) (x y:Addr) (nm:Str) (gv:Str -> Option (List V)):Sp:=fun vs H Q _ => ∃ (c:Str) (p:Nat) (ys:List V) (v:V),vs = [.str nm,.str c,.int (p:Int)] /\ J H /\ gv c = some ys /\ p < ys.length /\ atI ys (p:Int) = some v /\ ∀ H',Fr2 x y H H' -> J H' -> Q v H'
def c93 (J:Hp -> Prop) (nm:Str) (m:Nat):Sp:=fun vs H Q _ => vs = [.str nm] /\ J H /\ ∀ H',Same H H' -> Q (.int (m:Int)) H'
def Told (K:PySem.W.Frag) (H H':Hp) (fv:V):PyData ⊕ List Int -> Prop
 | .inl d => ∃ a v,fv = .ref a /\ H' a = some (.tup [.str ("value" : Str),v]) /\ Pv K H' v d
 | .inr is => ∃ a l,fv = .ref a /\ H' a = some (.tup [.str ("call" : Str),.ref l]) /\ H' l = some (.lst (is.map V.int)) /\ H l = none
section
variable {P:Program} {w:World} {K:PySem.W.Frag} {mg:Str -> Option Value} {base:Heap}
def spGG (P:Program) (w:World) (K:PySem.W.Frag) (mg:Str -> Option Value) (base:Heap) (C:Addr):Sp:=fun vs H Q _ => ∃ (gr look many fa x y dx:Addr) (nm c k n:Str) (p m:Nat) (J:Hp -> Prop) (W:List Addr) (gv:Str -> Option (List V)) (yk yn:List V) (dk dn:List PyData),vs = [.ref gr,.ref look,.ref many,.str nm,.str c,.int (p:Int)] /\ H gr = some (.ins C dx (gfl k n fa)) /\
 a6X P w K mg base 6 look (d0E J x y nm gv) /\ a6X P w K mg base 6 many (c93 J nm m) /\ J H /\ Jst J W x y /\ gv k = some yk /\ gv n = some yn /\ Pvs K H yk dk /\ Pvs K H yn dn /\ yk.length = m /\ yn.length = m /\ p < m /\ m <= 30 /\
 ∀ H' fv,Fr2 x y H H' -> J H' -> Told K H H' fv (a3e dk dn p) -> Q fv H'
abbrev Ngg:List Str:=["self", "look", "many", "table", "column", "place", "own", "numbers", "row", "value"]
theorem a13:a0l Ngg ["self", "look", "many", "table", "column", "place"] (a0b a2L):=⟨rfl,rfl,rfl,by decide +kernel,rfl,by decide +kernel,by decide +kernel⟩
theorem a2H (T:Tops K mg) {C:Addr} (Y:a69 K mg C):a0k P w K mg base CX0 7 C "gather" ["self", "look", "many", "table", "column", "place"] (spGG P w K mg base C):=by
 have G_is_fault:a0C P w K mg base CX0 2 "is_fault" ["thing"] (c5u K):=a5J T
 refine Y.m_gather.known a13 (fun _ _ _ _ _ _ us hl => match us,hl with | [_,_,_,_,_,_],_ => rfl) (fun vs H Q E h => ?_) (fun f cdv A outer s H vs Q E hr h => ?_)
 ·obtain ⟨gr,look,many,fa,x,y,dx,nm,c,k,n,p,m,J,W,gv,yk,yn,dk,dn,rfl,_⟩:=h
  rfl
 ·obtain ⟨gr,look,many,fa,x,y,dx,nm,c,k,n,p,m,J,W,gv,yk,yn,dk,dn,rfl,hg,F1,F2,hJ,S,gk,gn,pk,pn,lk,ln,hp,m30,q⟩:=h
  refine ⟨_,(a0d (a0B (i:=6) a13.nd rfl (Or.inl rfl) (b6T 1 hr (a0a (pv 3) (a0a (a0n (pv 0) rfl) (a0a (pv 5) a0f)))))
   (a0d (a0E (a1w (a0o G_is_fault (hr.mono (by decide)) a0r (a0a (pv 6) a0f)) (fun _ => rfl)) (a0e (a0v (a7e (a0a a1o (a0a (pv 6) a0f))))) a0q)
   (a0d (a0B (i:=7) a13.nd rfl (Or.inl rfl) (a2K a0f))
   (a0d (b1m PassesOwn.never rfl (b0B rfl T.range (a0a (b6T 2 hr (a0a (pv 3) a0f)) a0f)) (a35 (i:=8) a13.nd rfl (Or.inl rfl)) (a0e (a0E (a0A (c34 hr.units) (b6T 1 hr (a0a (pv 3) (a0a (a0n (pv 0) rfl) (a0a (pv 8) a0f)))) (pv 6) (a0Z _)) (a0d (a0B (i:=9) a13.nd rfl (Or.inl rfl) (b6T 1 hr (a0a (pv 3) (a0a (a0n (pv 0) rfl) (a0a (pv 8) a0f)))))
   (a0d (a0E (a1w (a0o G_is_fault (hr.mono (by decide)) a0r (a0a (pv 9) a0f)) (fun _ => rfl)) (a0e (a0v (a7e (a0a a1o (a0a (pv 9) a0f))))) a0q)
   (a0e (a0t (b4K PySem.F.plainAttrs_list PySem.F.slot_list_append PySem.F.type_list_append a1k (pv 7) (a0a (pv 9) a0f)))))) a0q)))
   (a0e (a0v (a7e (a0a a1o (a0a (pv 7) a0f))))))))),?_⟩
  obtain ⟨g1,g2,g3,_⟩:=b7X k n fa
  have lkd:yk.length = dk.length:=Paired.length pk
  have lnd:yn.length = dn.length:=Paired.length pn
  obtain ⟨vo,o,e1,e2,po⟩:=Pvs.at pk (i:=p) (by omega)
  have eo:dk.getD p .none = o:=by rw [List.getD_eq_getElem?_getD,e2]; rfl
  have ins:∀ {H':Hp},J H' -> Fr2 x y H H' -> H' gr = some (.ins C dx (gfl k n fa)):=fun hJ' f' => by
   obtain ⟨k1,h1⟩:=S.x H hJ
   obtain ⟨k2,h2⟩:=S.y H hJ
   exact f' _ _ (fun z => by rw [z,h1] at hg; cases hg) (fun z => by rw [z,h2] at hg; cases hg) hg
  refine ⟨look,_,rfl,F1,_,rfl,_,rfl,gr,C,dx,_,_,rfl,hg,Y.cl,Y.n_key,g2,_,rfl,k,p,yk,vo,rfl,hJ,gk,by omega,a4L e1,fun H2 f2 J2 => ?_⟩
  have kt2:=S.tup hJ f2
  have po2:=po.keep kt2
  refine ⟨_,rfl,vo,o,rfl,po2.dt,po2.vd.short.1,fun H3 s3 => ⟨_,rfl,?_⟩⟩
  rw [po2.isT]
  have J3:=S.same s3 J2
  have f3:=f2.trans (Fr2.of s3)
  refine ite2 (fun hT => ?_) (fun hT => ?_)
  ·refine ⟨_,rfl,sl,fun tp htp => ?_⟩
   have s4:=Same.new (o:=.tup [.str ("value" : Str),vo]) htp
   refine q _ _ (f3.trans (Fr2.of s4)) (S.same s4 J3) ?_
   rw [show a3e dk dn p = .inl o by unfold a3e; rw [eo,if_pos hT]]
   exact ⟨tp,vo,rfl,a0c,(po2.same s3).same s4⟩
  have hT':isT o = false:=by simpa using hT
  obtain ⟨i0,rfl,rfl,bi⟩:∃ i,vo = .int i /\ o = .int i /\ numD (.int i) = true:=by
   rcases po with h | ⟨a,y',rfl,_,rfl,_⟩
   ·exact h
   ·cases hT'
  have q:∀ H' fv,Fr2 x y H H' -> J H' -> Told K H H' fv (grF (.int i0) dk dn []) -> Q fv H':=fun H' fv a b t => q H' fv a b (by
   rw [show a3e dk dn p = grF (.int i0) dk dn [] by unfold a3e; rw [eo,if_neg hT]]
   exact t)
  refine ⟨sl,fun nl hnl => ?_⟩
  have s4:=Same.new (o:=.lst []) hnl
  have h4:upd H3 nl (.lst []) nl = some (.lst []):=a0c
  have J4:=S.same s4 J3
  have f4:=f3.trans (Fr2.of s4)
  have nx:nl ≠ x /\ nl ≠ y:=by
   obtain ⟨k1,h1⟩:=S.x _ J3
   obtain ⟨k2,h2⟩:=S.y _ J3
   exact ⟨(fun z => by rw [z,h1] at hnl; cases hnl),(fun z => by rw [z,h2] at hnl; cases hnl)⟩
  have hn0:H nl = none:=by
   cases e:H nl with
   | none => rfl
   | some ob => rw [f3 _ _ nx.1 nx.2 e] at hnl; cases hnl
  have nW:nl ∉ W:=fun mw => S.there _ J3 nl mw hnl
  generalize upd H3 nl (.lst []) = H4 at s4 h4 J4 f4 ⊢
  refine ⟨many,_,rfl,F2,_,rfl,rfl,J4,fun H5 s5 => ⟨_,rfl,by omega,by omega,?_⟩⟩
  rw [Int.toNat_natCast]
  refine b3d (lo:=0) (n:=m) (fun i σ H6 => ∃ o8 o9 is,σ = [some (.ref gr),some (.ref look),some (.ref many),some (.str nm),some (.str c),some (.int (p:Int)),some (.int i0),some (.ref nl),o8,o9] /\ Fr2 x y H H6 /\ J H6 /\ H6 nl = some (.lst (is.map V.int)) /\ is.length <= i /\ grF (.int i0) (dk.drop i) (dn.drop i) is = grF (.int i0) dk dn [])
   ⟨_,_,[],rfl,f4.trans (Fr2.of s5),S.same s5 J4,s5 _ _ h4,Nat.le_refl _,rfl⟩ ?_ ?_
  ·rintro i σ H6 hi ⟨o8,o9,is,rfl,f6,J6,h6,li,hgr⟩
   obtain ⟨v1,d1,a1,a2,a3⟩:=Pvs.at pk (i:=i) (by omega)
   obtain ⟨v2,d2,b1,b2,b3⟩:=Pvs.at pn (i:=i) (by omega)
   rw [c2R a2,c2R b2] at hgr
   have z0:(0:Int) + (i:Int) = (i:Int):=by omega
   rw [z0]
   refine ⟨look,_,rfl,F1,_,rfl,_,rfl,gr,C,dx,_,_,rfl,ins J6 f6,Y.cl,Y.n_key,g2,_,rfl,k,i,yk,v1,rfl,J6,gk,by omega,a4L a1,fun H7 f7 J7 => ?_⟩
   have f67:=f6.trans f7
   have a7:=a3.keep (S.tup hJ f67)
   refine ⟨_,rfl,d1,.int i0,a7.dt,.int i0,a7.vd.lay.1,rfl,Nat.le_trans a7.vd.lay.2 (by decide),_,rfl,?_⟩
   have h7:=f7 _ _ nx.1 nx.2 h6
   refine ite2 (fun c1 => ?_) (fun c1 => ?_)
   ·refine ⟨look,_,rfl,F1,_,rfl,_,rfl,gr,C,dx,_,_,rfl,ins J7 f67,Y.cl,Y.n_name,g3,_,rfl,n,i,yn,v2,rfl,J7,gn,by omega,a4L b1,fun H8 f8 J8 => ?_⟩
    have f68:=f67.trans f8
    have b8:=b3.keep (S.tup hJ f68)
    have h8:=f8 _ _ nx.1 nx.2 h7
    refine ⟨_,rfl,v2,d2,rfl,b8.dt,b8.vd.short.1,fun H9 s9 => ⟨_,rfl,?_⟩⟩
    rw [b8.isT]
    have h9:=s9 _ _ h8
    have J9:=S.same s9 J8
    have f9:=f68.trans (Fr2.of s9)
    have b9:=b8.same s9
    rcases b8 with ⟨j,rfl,rfl,bj⟩ | ⟨a,y',rfl,_,rfl,hy'⟩
    ·rw [c7E c1] at hgr
     refine iteF ⟨_,rfl,.inl ⟨rfl,_,SqL.of h9⟩,_,rfl,nl,_,_,rfl,rfl,h9,a0w (by rw [List.length_map]; omega),?_⟩
     have bu:∀ b ob,b ≠ nl -> H9 b = some ob -> upd H9 nl (.lst (is.map V.int ++ [.int j])) b = some ob:=fun b ob nb e => by rw [a0g nb]; exact e
     refine ⟨_,_,is ++ [j],rfl,fun b ob n1 n2 e => bu _ _ (a0h e hn0) (f9 _ _ n1 n2 e),S.stay _ _ (fun b ob mb e => bu _ _ (fun z => nW (z ▸ mb)) e) (fun b u e => bu _ _ (fun z => by rw [z,h9] at e; cases e) e) J9,(by rw [List.map_append]; exact a0c),by rw [List.length_append]; show is.length + 1 <= i + 1; omega,hgr⟩
    ·rw [c7X c1] at hgr
     refine iteT ⟨_,rfl,sl,fun tp htp => ?_⟩
     have s10:=Same.new (o:=.tup [.str ("value" : Str),.ref a]) htp
     refine q _ _ (f9.trans (Fr2.of s10)) (S.same s10 J9) ?_
     rw [<- hgr]
     exact ⟨tp,_,rfl,a0c,b9.same s10⟩
   ·rw [c9T c1] at hgr
    exact ⟨_,_,is,rfl,f67,J7,h7,by omega,hgr⟩
  ·rintro σ H6 ⟨o8,o9,is,rfl,f6,J6,h6,li,hgr⟩
   rw [List.drop_eq_nil_of_le (by omega),b63] at hgr
   refine ⟨_,rfl,sl,fun tp htp => ?_⟩
   have s7:=Same.new (o:=.tup [.str ("call" : Str),.ref nl]) htp
   refine q _ _ (f6.trans (Fr2.of s7)) (S.same s7 J6) ?_
   rw [<- hgr]
   exact ⟨tp,nl,rfl,a0c,s7 _ _ h6,hn0⟩
end
end My
set_option maxHeartbeats 1000000
namespace My
open PySem L2
theorem c8T {X:Cx} {σ:St} {H₁:Hp} {f:Lend} {q:Str} {params:Arguments} {body:Expr} {scope:Scope} {fa:Addr} {ps:List Str} {cp:List (Nat × Str)} {cv:List V} {k:Nat} {spB:List V -> Hp -> VK -> Prop} {sc:Scope} {N:List Str} (la:a9z q params body scope (a3x X.env.cells scope.names []) H₁ fa) (L:Lent X σ H₁ f)
 (hcell:∀ x,X.env.scope.names.lookup x = some .cell -> ∃ c,X.env.cells.lookup x = some c)
 (hcv:cp.map (fun p => σ[p.1]?) = cv.map fun v => some (some v))
 (hb:∀ (pm ctv:Value) (c:Addr) (clos:List (Str × Addr)) (us:List Value),us.length = ps.length -> bindArgs (PySem.W.kla_fn "<lambda>" q params body scope clos pm (.ref c) ctv) ⟨us,[]⟩ = pure (ps.zip us))
 (hbody:∀ (cd:Value) (A:Around) (outer:List Env) (s:Shared) (H:Hp) (vs:List V) (Q:VK),Room k (A.deeper (PySem.W.envX q scope s.heap.objs.size fa cd (a3x X.env.cells scope.names []))) -> spB vs H Q ->
  ∃ t,PE (c8Q X.prog X.w X.K X.mg X.base (ps ++ cp.map (·.2)) q scope fa cd (a3x X.env.cells scope.names []) A outer s H) body t /\ t ((vs ++ cv).map some) H Q)
 (hs:X.env.scope = sc:=by rfl) (hN:X.N = N:=by rfl)
 (hcp:∀ p ∈ cp,N[p.1]? = some p.2 /\ sc.names.lookup p.2 = some .cell /\ scope.names.lookup p.2 = some .free:=by decide +kernel)
 (free:∀ y ∈ scope.names,y.2 = .free -> sc.names.lookup y.1 = some .cell:=by decide +kernel)
 (kind:scope.kind = .function:=by rfl) (co:scope.isCoroutine = false:=by rfl) (gen:scope.isGenerator = false:=by rfl) (nocell:∀ y ∈ scope.names,y.2 ≠ .cell:=by decide +kernel) (par:∀ x ∈ ps,scope.names.lookup x = some .local:=by decide +kernel) (nd:(ps ++ cp.map (·.2)).Nodup:=by decide +kernel) :
 a6X X.prog X.w X.K X.mg X.base (k + 1) fa (c41 fa f q params body scope (a3x X.env.cells scope.names []) ps.length spB):=by
 subst hs hN
 exact d2q L hcell hcv hcp free kind co gen nocell par nd hb hbody
theorem b0U {f:Lend} {H:Hp} {b:Addr} {o:HO} (h:unl f H b = some o):f b = none /\ H b = some o:=by
 cases e:f b with
 | none => rw [a04 e] at h; exact ⟨rfl,h⟩
 | some ob => rw [a9E e] at h; cases h
theorem c0i {f:Lend} {H:Hp} (h:∀ b o,f b = some o -> H b = none):unl f (lend f H) = H:=by
 funext b
 cases e:f b with
 | none => rw [a04 e,a0Q e]
 | some ob => rw [a9E e,h b ob e]
def JL (f:Lend) (LL J:Hp -> Prop) (H:Hp):Prop:=LL H /\ (∀ b o,f b = some o -> H b = some (Fz o)) /\ J (unl f H)
theorem JL.st {f:Lend} {LL J:Hp -> Prop} {W:List Addr} {x y:Addr} (S:Jst J W x y) (sl:∀ H H',a3a H H' -> LL H -> LL H'):Jst (JL f LL J) W x y where
 there:=fun H h b mb z => S.there _ h.2.2 b mb (by
  cases e:f b with
  | none => rw [a04 e]; exact z
  | some ob => exact a9E e)
 stay:=fun H H' k kz h => ⟨sl _ _ kz h.1,fun b o e => kz _ _ (h.2.1 b o e),S.stay _ _ (fun b o mb e => by
  obtain ⟨e1,e2⟩:=b0U e
  rw [a04 e1]
  exact k _ _ mb e2) (fun b u e => by
  obtain ⟨e1,e2⟩:=b0U e
  rw [a04 e1]
  exact kz _ _ e2) h.2.2⟩
 x:=fun H h => let ⟨k,e⟩:=S.x _ h.2.2; ⟨k,(b0U e).2⟩
 y:=fun H h => let ⟨k,e⟩:=S.y _ h.2.2; ⟨k,(b0U e).2⟩
section
variable {P:Program} {w:World} {K:PySem.W.Frag} {mg:Str -> Option Value} {base:Heap} {k:Nat} {q:Str} {params:Arguments} {body:Expr} {scope:Scope} {clos:List (Str × Addr)} {fa:Addr} {f:Lend}
theorem c8w {LL J:Hp -> Prop} {W:List Addr} {x y:Addr} (S:Jst J W x y) (sl:∀ H H',a3a H H' -> LL H -> LL H') {H H':Hp} (h:JL f LL J H) (fr:∀ b o,f b = some o -> H' b = none) (u:Fr2 x y (unl f H) H') (j:J H'):Fr2 x y H (lend f H') /\ JL f LL J (lend f H'):=by
 have f2:Fr2 x y H (lend f H'):=fun b o n1 n2 e => by
  cases e2:f b with
  | none => rw [a0Q e2]; exact u _ _ n1 n2 (by rw [a04 e2]; exact e)
  | some ob => rw [h.2.1 b ob e2] at e; rw [a7D e2]; exact e
 obtain ⟨k1,e1⟩:=S.x _ h.2.2
 obtain ⟨k2,e2⟩:=S.y _ h.2.2
 have ex:=(b0U e1).2
 have ey:=(b0U e2).2
 refine ⟨f2,sl _ _ (fun b u' e => f2 _ _ (fun z => by rw [z,ex] at e; cases e) (fun z => by rw [z,ey] at e; cases e) e) h.1,fun b o e => a7D e,?_⟩
 rw [c0i fr]
 exact j
def spBL (J:Hp -> Prop) (x y:Addr) (nm:Str) (gv:Str -> Option (List V)):List V -> Hp -> VK -> Prop:=fun vs H Q => ∃ (c:Str) (p:Nat) (ys:List V) (v:V),vs = [.str nm,.str c,.int (p:Int)] /\ J H /\ gv c = some ys /\ p < ys.length /\ atI ys (p:Int) = some v /\ ∀ H',Fr2 x y H H' -> J H' -> Q v H'
theorem c9A {LL J:Hp -> Prop} {W:List Addr} {x y:Addr} {nm:Str} {gv:Str -> Option (List V)} (S:Jst J W x y) (sl:∀ H H',a3a H H' -> LL H -> LL H') (la:∀ H,LL H -> a9z q params body scope clos H fa)
 (F:a6X P w K mg base k fa (c41 fa f q params body scope clos 3 (spBL J x y nm gv))):a6X P w K mg base k fa (d0E (JL f LL J) x y nm gv):=by
 refine F.imp fun vs H Q E h => ?_
 obtain ⟨c,p,ys,v,rfl,hJ,hg,hp,ha,qq⟩:=h
 refine ⟨rfl,la _ hJ.1,hJ.2.1,c,p,ys,v,rfl,hJ.2.2,hg,hp,ha,fun H' u j fr => ?_⟩
 obtain ⟨f2,j2⟩:=c8w S sl hJ fr u j
 exact qq _ f2 j2
def spBM (J:Hp -> Prop) (nm:Str) (m:Nat):List V -> Hp -> VK -> Prop:=fun vs H Q => vs = [.str nm] /\ J H /\ ∀ H',Same H H' -> Q (.int (m:Int)) H'
theorem c9C {LL J:Hp -> Prop} {nm:Str} {m:Nat} (la:∀ H,LL H -> a9z q params body scope clos H fa)
 (F:a6X P w K mg base k fa (c41 fa f q params body scope clos 1 (spBM J nm m))):a6X P w K mg base k fa (c93 (JL f LL J) nm m):=by
 refine F.imp fun vs H Q E h => ?_
 obtain ⟨rfl,hJ,qq⟩:=h
 refine ⟨rfl,la _ hJ.1,hJ.2.1,rfl,hJ.2.2,fun H' s' fr => ?_⟩
 refine qq _ (fun b o e => ?_)
 cases e2:f b with
 | none => rw [a0Q e2]; exact s' b o (by rw [a04 e2]; exact e)
 | some ob => rw [hJ.2.1 b ob e2] at e; rw [a7D e2]; exact e
end
end My
set_option maxHeartbeats 1000000
namespace My
open PySem L2
def a51 (C:List Str) (nm:Str) (m:Nat) (kvs:List (Ky × V)):Prop:=(kvs.map (·.1)).Nodup /\ ∀ k ∈ kvs.map (·.1),∃ c ∈ C,∃ p,p < m /\ k = a0u nm c p
theorem b7u {α:Type} [DecidableEq α]:∀ {l m:List α},l.Nodup -> (∀ x ∈ l,x ∈ m) -> l.length <= m.length
 | [],_,_,_ => Nat.zero_le _
 | x :: r,m,h,hs => by
  rw [List.nodup_cons] at h
  have hx:=hs x List.mem_cons_self
  have:=b7u (l:=r) (m:=m.erase x) h.2 fun y hy => (List.mem_erase_of_ne (fun e => by rw [e] at hy; exact h.1 hy)).mpr (hs y (List.mem_cons_of_mem _ hy))
  rw [List.length_erase_of_mem hx] at this
  have:0 < m.length:=List.length_pos_of_mem hx
  rw [List.length_cons]
  omega
def allK (C:List Str) (nm:Str) (m:Nat):List Ky:=C.flatMap fun c => (List.range m).map fun p => a0u nm c p
theorem c6r (nm:Str) (m:Nat):∀ C:List Str,(allK C nm m).length = C.length * m
 | [] => by simp [allK]
 | c :: r => by
  have ih:=c6r nm m r
  unfold allK at ih ⊢
  rw [List.flatMap_cons,List.length_append,List.length_map,List.length_range,ih,List.length_cons,Nat.succ_mul]
  omega
theorem a51.len {C:List Str} {nm:Str} {m:Nat} {kvs:List (Ky × V)} (h:a51 C nm m kvs) (hC:C.length <= 8) (hm:m <= 30):kvs.length <= 240:=by
 have:=b7u (m:=allK C nm m) h.1 fun k hk => by
  obtain ⟨c,hc,p,hp,rfl⟩:=h.2 k hk
  exact List.mem_flatMap.mpr ⟨c,hc,List.mem_map.mpr ⟨p,List.mem_range.mpr hp,rfl⟩⟩
 rw [List.length_map,c6r] at this
 have:=Nat.mul_le_mul hC hm
 omega
theorem c7w {kvs:List (Ky × V)} {k:Ky} {v x:V} (h:valV kvs k = some x):(putK kvs k v).map (·.1) = kvs.map (·.1):=by
 unfold putK
 rw [a7r,h,if_pos (show (some x).isSome = true from rfl),List.map_map]
 refine List.map_congr_left fun p _ => ?_
 show (if p.1 = k then _ else _:Ky × V).1 = p.1
 split <;> rfl
theorem a51.put {C:List Str} {nm c:Str} {m p:Nat} {kvs:List (Ky × V)} {v:V} (h:a51 C nm m kvs) (hc:c ∈ C) (hp:p < m):a51 C nm m (putK kvs (a0u nm c p) v):=by
 cases e:valV kvs (a0u nm c p) with
 | some x => unfold a51; rw [c7w e]; exact h
 | none =>
  refine ⟨c76 v h.1 e,fun k hk => ?_⟩
  rw [c2P v e,List.map_append] at hk
  rcases List.mem_append.mp hk with hk | hk
  ·exact h.2 k hk
  ·rw [List.mem_singleton.mp hk]
   exact ⟨c,hc,p,hp,rfl⟩
theorem a51.nil {C:List Str} {nm:Str} {m:Nat}:a51 C nm m []:=⟨List.nodup_nil,fun k hk => by cases hk⟩
structure Fx28 where
 fi:Addr
 bd:Addr
 fd:Addr
 lk:Addr
 tr:Addr
 tl:Addr
 nm:Str
 B:BM
 Cs:List Str
 gv:Str -> Option (List V)
 kf0:List (Ky × V)
structure Ok28 (X:Fx28):Prop where
 ne:X.tl ≠ X.fd
 c8:X.Cs.length <= 8
 m30:X.B.xs.length <= 30
 g:∀ c ys,X.gv c = some ys -> c ∈ X.Cs /\ Nl c /\ valV X.B.rus (.inr c:Key) = none /\ ys.length = X.B.xs.length
 n:Nl X.nm
structure J28 (CR CF CB CT:Addr) (X:Fx28) (H:Hp):Prop where
 kf:∃ kf,FAt CF CB CT H X.fi X.bd X.fd X.lk X.nm X.B kf /\ a51 X.Cs X.nm X.B.xs.length kf /\ (∀ c p v ys,X.gv c = some ys -> valV kf (a0u X.nm c p) = some v -> atI ys (p:Int) = some v) /\ ∀ c p,X.gv c = none -> valV kf (a0u X.nm c p) = valV X.kf0 (a0u X.nm c p)
 tr:∃ dx,H X.tr = some (.ins CR dx (rfl3 X.fi X.tl .non))
 tl:∃ kt,H X.tl = some (.dT kt) /\ a51 X.Cs X.nm X.B.xs.length kt
 cols:∀ c ys,X.gv c = some ys -> ∃ l,valV X.B.kvs (.inr c:Key) = some (.ref l) /\ H l = some (.lst ys)
theorem J28.st {CR CF CB CT:Addr} {X:Fx28} (W:List Addr) (hW:∀ b ∈ [X.fi,X.bd,X.fd,X.tr,X.tl,X.B.b,X.B.g,X.B.r,X.B.e,X.B.ru,X.B.me,X.B.od],b ∈ W) (hc:∀ c ys l,X.gv c = some ys -> valV X.B.kvs (.inr c:Key) = some (.ref l) -> l ∈ W) (hn:∀ b ∈ W,b ∈ [X.fi,X.bd,X.fd,X.tr,X.tl,X.B.b,X.B.g,X.B.r,X.B.e,X.B.ru,X.B.me,X.B.od] ∨ ∃ c ys,X.gv c = some ys /\ valV X.B.kvs (.inr c:Key) = some (.ref b)):Jst (J28 CR CF CB CT X) W X.fd X.tl where
 there:=fun H h b mb z => by
  obtain ⟨kf,F,_⟩:=h.kf
  obtain ⟨dx,e1⟩:=F.fin
  obtain ⟨kb,e2,_⟩:=F.bds
  obtain ⟨⟨d1,b1⟩,⟨⟨d2,b2⟩,b3,b4⟩,b5,b6,b7⟩:=F.B
  obtain ⟨d3,t1⟩:=h.tr
  obtain ⟨kt,t2,_⟩:=h.tl
  rcases hn b mb with hb | ⟨c,ys,g1,g2⟩
  ·simp only [List.mem_cons,List.not_mem_nil,or_false] at hb
   rcases hb with rfl | rfl | rfl | rfl | rfl | rfl | rfl | rfl | rfl | rfl | rfl | rfl
   ·rw [e1] at z; cases z
   ·rw [e2] at z; cases z
   ·rw [F.fnd] at z; cases z
   ·rw [t1] at z; cases z
   ·rw [t2] at z; cases z
   ·rw [b1] at z; cases z
   ·rw [b2] at z; cases z
   ·rw [b3] at z; cases z
   ·rw [b4] at z; cases z
   ·rw [b5] at z; cases z
   ·rw [b6] at z; cases z
   ·rw [b7] at z; cases z
  ·obtain ⟨l,g3,g4⟩:=h.cols c ys g1
   rw [g2] at g3
   cases g3
   rw [g4] at z; cases z
 stay:=fun H H' k kz h => by
  obtain ⟨kf,F,r1,r2,r3⟩:=h.kf
  obtain ⟨dx,e1⟩:=F.fin
  obtain ⟨kb,e2,e3⟩:=F.bds
  obtain ⟨⟨d1,b1⟩,⟨⟨d2,b2⟩,b3,b4⟩,b5,b6,b7⟩:=F.B
  obtain ⟨d3,t1⟩:=h.tr
  obtain ⟨kt,t2,t3⟩:=h.tl
  have u:∀ {b:Addr} {o:HO},b ∈ [X.fi,X.bd,X.fd,X.tr,X.tl,X.B.b,X.B.g,X.B.r,X.B.e,X.B.ru,X.B.me,X.B.od] -> H b = some o -> H' b = some o:=fun mb e => k _ _ (hW _ mb) e
  exact ⟨⟨kf,⟨⟨dx,u (by simp) e1⟩,⟨kb,u (by simp) e2,e3⟩,⟨⟨d1,u (by simp) b1⟩,⟨⟨d2,u (by simp) b2⟩,u (by simp) b3,u (by simp) b4⟩,u (by simp) b5,u (by simp) b6,u (by simp) b7⟩,u (by simp) F.fnd,F.len⟩,r1,r2,r3⟩,⟨d3,u (by simp) t1⟩,⟨kt,u (by simp) t2,t3⟩,fun c ys g1 => by
   obtain ⟨l,g3,g4⟩:=h.cols c ys g1
   exact ⟨l,g3,k _ _ (hc c ys l g1 g3) g4⟩⟩
 x:=fun H h => let ⟨kf,F,_⟩:=h.kf; ⟨kf,F.fnd⟩
 y:=fun H h => let ⟨kt,e,_⟩:=h.tl; ⟨kt,e⟩
end My
set_option maxHeartbeats 1000000
namespace My
open PySem L2
theorem b3b {nm c c':Str} {p p':Nat} (h:a0u nm c p = a0u nm c' p'):c = c' /\ p = p':=by
 unfold a0u at h
 simp only [List.cons.injEq,Sum.inr.injEq,Sum.inl.injEq,and_true,true_and] at h
 exact ⟨h.1,by omega⟩
theorem J28.look {CR CF CB CT:Addr} {X:Fx28} (O:Ok28 X) {H H':Hp} {c:Str} {p:Nat} {ys:List V} {v:V} {kf kf' kt:List (Ky × V)} (g:X.gv c = some ys) (hp:p < ys.length) (ha:atI ys (p:Int) = some v) (hK:a51 X.Cs X.nm X.B.xs.length kf) (r2:∀ c p v ys,X.gv c = some ys -> valV kf (a0u X.nm c p) = some v -> atI ys (p:Int) = some v) (r3:∀ c p,X.gv c = none -> valV kf (a0u X.nm c p) = valV X.kf0 (a0u X.nm c p))
 (h:J28 CR CF CB CT X H) (hk:kf' = kf ∨ kf' = putK kf (a0u X.nm c p) v) (F:FAt CF CB CT H' X.fi X.bd X.fd X.lk X.nm X.B kf') (ht:H' X.tl = some (.dT (putK kt (a0u X.nm c p) (.bl true)))) (hT:a51 X.Cs X.nm X.B.xs.length kt) (fr:Fr2 X.fd X.tl H H'):J28 CR CF CB CT X H':=by
 obtain ⟨cC,_,_,cl⟩:=O.g c ys g
 have hp':p < X.B.xs.length:=by omega
 obtain ⟨d3,t1⟩:=h.tr
 obtain ⟨kt0,t2,_⟩:=h.tl
 obtain ⟨kf1,F1,_⟩:=h.kf
 have nd:∀ {x:Addr} {o:HO},H x = some o -> (∀ kvs,o ≠ .dT kvs) -> H' x = some o:=fun e n => fr _ _ (fun z => by rw [z,F1.fnd] at e; exact n _ (Option.some.inj e).symm) (fun z => by rw [z,t2] at e; exact n _ (Option.some.inj e).symm) e
 refine ⟨⟨kf',F,?_,?_,?_⟩,⟨d3,nd t1 (fun _ z => by cases z)⟩,⟨_,ht,hT.put cC hp'⟩,fun c' ys' g' => ?_⟩
 ·rcases hk with rfl | rfl
  ·exact hK
  ·exact hK.put cC hp'
 ·intro c' p' v' ys' g' e
  rcases hk with rfl | rfl
  ·exact r2 c' p' v' ys' g' e
  ·rw [a08] at e
   by_cases z:a0u X.nm c' p' = a0u X.nm c p
   ·rw [if_pos z] at e
    cases e
    obtain ⟨rfl,rfl⟩:=b3b z
    rw [g] at g'
    cases g'
    exact ha
   ·rw [if_neg z] at e
    exact r2 c' p' v' ys' g' e
 ·intro c' p' g'
  rcases hk with rfl | rfl
  ·exact r3 c' p' g'
  ·rw [a08,if_neg (fun z => by rw [(b3b z).1,g] at g'; cases g')]
   exact r3 c' p' g'
 ·obtain ⟨l,g3,g4⟩:=h.cols c' ys' g'
  exact ⟨l,g3,nd g4 (fun _ z => by cases z)⟩
theorem b0u {q:Str} {params:Arguments} {body:Expr} {scope:Scope} {clos:List (Str × Addr)} {H H':Hp} {fa:Addr} (s:a3a H H') (h:a9z q params body scope clos H fa):a9z q params body scope clos H' fa:=by
 obtain ⟨pm,c,ctv,o,e1,e2,e3⟩:=h
 exact ⟨pm,c,ctv,o,s _ _ e1,s _ _ e2,e3⟩
theorem d08 {P:Program} {w:World} {K:PySem.W.Frag} {mg:Str -> Option Value} {base:Heap} {k:Nat} {q q':Str} {params params':Arguments} {body body':Expr} {scope scope':Scope} {clos clos':List (Str × Addr)} {la lm:Addr} {f:Lend} {J:Hp -> Prop} {W:List Addr} {x y:Addr} {nm:Str} {gv:Str -> Option (List V)} {m:Nat} {H:Hp} (S:Jst J W x y) (free:∀ b o,f b = some o -> H b = none) (hJ:J H) (lA:a9z q params body scope clos H la) (lB:a9z q' params' body' scope' clos' H lm)
 (F1:a6X P w K mg base k la (c41 la f q params body scope clos 3 (spBL J x y nm gv))) (F2:a6X P w K mg base k lm (c41 lm f q' params' body' scope' clos' 1 (spBM J nm m))) :
 ∃ J',J' (lend f H) /\ Jst J' W x y /\ (∀ H1,J' H1 -> (∀ b o,f b = some o -> H1 b = some (Fz o)) /\ J (unl f H1)) /\ a6X P w K mg base k la (d0E J' x y nm gv) /\ a6X P w K mg base k lm (c93 J' nm m):=by
 have st:∀ H H':Hp,a3a H H' -> (a9z q params body scope clos H la /\ a9z q' params' body' scope' clos' H lm) -> a9z q params body scope clos H' la /\ a9z q' params' body' scope' clos' H' lm:=fun H H' s h => ⟨b0u s h.1,b0u s h.2⟩
 have kz:a3a H (lend f H):=fun b u e => by
  cases e2:f b with
  | none => rw [a0Q e2]; exact e
  | some ob => rw [free b ob e2] at e; cases e
 refine ⟨JL f (fun H => a9z q params body scope clos H la /\ a9z q' params' body' scope' clos' H lm) J,⟨st _ _ kz ⟨lA,lB⟩,fun b o e => a7D e,?_⟩,JL.st S st,fun H1 h => h.2,c9A S st (fun H h => h.1) F1,c9C (fun H h => h.2) F2⟩
 rw [c0i free]
 exact hJ
abbrev qGd:Str:=("Finder.gathered" : Str) ++ ".<locals>." ++ "<lambda>"
section
variable {P:Program} {w:World} {K:PySem.W.Frag} {mg:Str -> Option Value} {base:Heap}
def spGd (K:PySem.W.Frag) (CR CF CB CT CG zt:Addr):Sp:=fun vs H Q _ => ∃ (X:Fx28) (W:List Addr) (gr fa dx:Addr) (c k n:Str) (p:Nat) (yk yn:List V) (dk dn:List PyData),vs = [.ref X.fi,.ref X.tr,.str X.nm,.str c,.int (p:Int)] /\ J28 CR CF CB CT X H /\ Ok28 X /\ Jst (J28 CR CF CB CT X) W X.fd X.tl /\ zt ∉ W /\ valV X.B.rus (.inr c:Key) = some (.ref gr) /\ H gr = some (.ins CG dx (gfl k n fa)) /\ X.gv k = some yk /\ X.gv n = some yn /\ Pvs K H yk dk /\ Pvs K H yn dn /\ p < X.B.xs.length /\ a8q qGd H zt /\
 ∀ H' fv,(∀ b o,b ≠ X.fd -> b ≠ X.tl -> b ≠ zt -> H b = some o -> H' b = some o) -> J28 CR CF CB CT X H' -> a8q qGd H' zt -> Told K H H' fv (a3e dk dn p) -> Q fv H'
abbrev Ngd:List Str:=["self", "trial", "table", "column", "place"]
theorem b3Y:a0l Ngd Ngd (a0b a0m):=⟨rfl,rfl,rfl,by decide +kernel,rfl,by decide +kernel,by decide +kernel⟩
theorem c7n (T:Tops K mg) {CR CF CB CT CG:Addr} (R:b1n K mg CR) (Y:a03 K mg CF) (Wb:a0R K mg CB) (Z:a1g K mg CT) (Gr:a69 K mg CG) {z:Addr × Addr} (B2:MthT K mg "Finder" "gathered" "Finder.gathered" a0m z) (M:b2L mg base z.1 z.2):a0k P w K mg base CX0 8 CF "gathered" Ngd (spGd K CR CF CB CT CG z.2):=by
 have G_gather:a0k P w K mg base CX0 7 CG "gather" ["self", "look", "many", "table", "column", "place"] (spGG P w K mg base CG):=a2H T Gr
 have G_look:a0k P w K mg base CX0 5 CR "look" ["self", "table", "column", "place"] (c7I CR CF CB CT):=c3Z T R Y Wb Z
 have G_many:a0k P w K mg base CX0 1 CT "many" ["self"] (b5A CT):=a0P T Z
 refine B2.known Y.c b3Y (fun _ _ _ _ _ _ us hl => match us,hl with | [_,_,_,_,_],_ => rfl) (fun vs H Q E h => ?_) (fun f A outer s H vs Q E hr h => ?_)
 ·obtain ⟨X,W,gr,fa,dx,c,k,n,p,yk,yn,dk,dn,rfl,_⟩:=h
  rfl
 ·obtain ⟨X,W,gr,fa,dx,c,k,n,p,yk,yn,dk,dn,rfl,hJ,O,S,nzW,hru,hgr,gk,gn,pk,pn,hp,tb,q⟩:=h
  have hu:=a2I hr
  have hcl:∀ x,(cxOf CX0 P w K mg base Ngd "Finder.gathered" (a0b a0m) f (.ref z.1) A outer s H E).nox.env.scope.names.lookup x = some .cell -> ∃ c,(cxOf CX0 P w K mg base Ngd "Finder.gathered" (a0b a0m) f (.ref z.1) A outer s H E).nox.env.cells.lookup x = some c:=fun x hx => Option.isSome_iff_exists.mp (PySem.W.cellsFrom_some _ _ _ (.inl hx))
  refine ⟨_,(a0e (a0v (c9I (a00 hu (a0n (a00 hu (a0n (pv 0) rfl) (pv 2) (fun _ _ => rfl)) rfl) (pv 3) (fun _ _ => rfl)) Gr.cl G_gather hr (a0a (c4Y M rfl (c5d (sc:=a0b a0m) (N:=Ngd) (cp:=[(1, "trial")]) hcl).clos rfl) (a0a (c4Y M rfl (c5d (sc:=a0b a0m) (N:=Ngd) (cp:=[(0, "self")]) hcl).clos rfl) (a0a (pv 2) (a0a (pv 3) (a0a (pv 4) a0f)))))))),?_⟩
  obtain ⟨kf,F,r1,r2,r3⟩:=hJ.kf
  obtain ⟨d0,e1⟩:=F.fin
  obtain ⟨kb,e2,e3⟩:=F.bds
  obtain ⟨⟨d1,b1⟩,_,b5,_,_⟩:=id F.B
  refine ⟨_,rfl,X.fi,CF,d0,_,_,rfl,e1,Y.cl,Y.n_boards,(a8Q _ _ _).1,_,rfl,X.bd,_,rfl,e3 ▸ DGet.k (k:=Sum.inr X.nm) e2,X.B.b,CB,d1,_,_,rfl,b1,Wb.cl,Wb.n_rules,(a1l _ _ _ _).2.1,_,rfl,X.B.ru,_,rfl,hru ▸ DGet.k (k:=Sum.inr c) b5,gr,dx,_,rfl,hgr,(b7X _ _ _).2.2.2.2.1,tb,fun la HA hla sA tA lA => ⟨tA,fun lm HB hlm sB tB lB => ⟨_,rfl,_,rfl,_,rfl,fun f' Ln => ?_⟩⟩⟩
  obtain ⟨S0,t0,_⟩:=id tb
  have uB:d1z z.2 H HB:=fun b o n e => sB b o n (sA b o n e)
  have nz:∀ {b:Addr} {o:HO},H b = some o -> (∀ φ,o ≠ .ext φ) -> b ≠ z.2:=fun e n y => by rw [y,t0] at e; exact n _ (Option.some.inj e).symm
  obtain ⟨SA,tA0,_⟩:=id tA
  have kzAB:a3a HA HB:=fun b u e => sB _ _ (fun y => by rw [y,tA0] at e; cases e) e
  have kzB:a3a H HB:=fun b u e => uB _ _ (nz e (fun φ y => by cases y)) e
  have JB:J28 CR CF CB CT X HB:=S.stay _ _ (fun b o mb e => uB _ _ (fun y => nzW (y ▸ mb)) e) kzB hJ
  have F1:=c8T (sc:=a0b a0m) (N:=Ngd) (ps:=["theirs", "name", "row"]) (cp:=[(1, "trial")]) (cv:=[.ref X.tr]) (k:=5) (spB:=spBL (J28 CR CF CB CT X) X.fd X.tl X.nm X.gv) (b0u kzAB lA) Ln hcl rfl (fun _ _ _ _ us hl => match us,hl with | [_,_,_],_ => rfl) (fun cd A' outer' s' H' vs Q' hr' h' => by
   obtain ⟨c',p',ys',v',rfl,hJ',g',hp',ha',q'⟩:=h'
   refine ⟨_,(a0s (pv 3) R.cl G_look hr' a0r (a0a (pv 0) (a0a (pv 1) (a0a (pv 2) a0f)))),?_⟩
   obtain ⟨kf',F',w1,w2,w3⟩:=hJ'.kf
   obtain ⟨d3,t1⟩:=hJ'.tr
   obtain ⟨kt',t2,t3⟩:=hJ'.tl
   obtain ⟨l',g3,g4⟩:=hJ'.cols c' ys' g'
   obtain ⟨cC,cN,cR,cL⟩:=O.g c' ys' g'
   have kl:=w1.len O.c8 O.m30
   have tl':=t3.len O.c8 O.m30
   refine ⟨_,rfl,X.tr,d3,_,rfl,t1,(c6f _ _ _).2.2.2,_,rfl,_,rfl,_,rfl,X.tr,X.tl,X.fi,X.bd,X.fd,X.lk,l',d3,X.nm,c',p',X.B,kf',kt',ys',v',rfl,t1,t2,by omega,O.ne,F',cR,cN,g3,g4,by omega,ha',fun v2 hv2 => ?_,by omega,fun H2 kf2 hk2 F2 ht2 fr2 => q' H2 fr2 (J28.look O g' hp' ha' w1 w2 w3 hJ' hk2 F2 ht2 t3 fr2)⟩
   have:=w2 c' p' v2 ys' g' hv2
   rw [ha'] at this
   exact (Option.some.inj this).symm)
  have F2:=c8T (sc:=a0b a0m) (N:=Ngd) (ps:=["theirs"]) (cp:=[(0, "self")]) (cv:=[.ref X.fi]) (k:=5) (spB:=spBM (J28 CR CF CB CT X) X.nm X.B.xs.length) lB Ln hcl rfl (fun _ _ _ _ us hl => match us,hl with | [_],_ => rfl) (fun cd A' outer' s' H' vs Q' hr' h' => by
   obtain ⟨rfl,hJ',q'⟩:=h'
   refine ⟨_,(a4R (a0n (a00 (a2I hr') (a0n (pv 1) rfl) (pv 0) (fun _ _ => rfl)) rfl) Z.cl G_many (hr'.mono (by decide)) a0r),?_⟩
   obtain ⟨kf',F',_⟩:=hJ'.kf
   obtain ⟨d0',e1'⟩:=F'.fin
   obtain ⟨kb',e2',e3'⟩:=F'.bds
   obtain ⟨⟨d1',b1'⟩,tb',_,_,_⟩:=id F'.B
   obtain ⟨⟨d2',b2'⟩,_,_⟩:=id tb'
   exact ⟨_,rfl,X.fi,CF,d0',_,_,rfl,e1',Y.cl,Y.n_boards,(a8Q _ _ _).1,_,rfl,X.bd,_,rfl,e3' ▸ DGet.k (k:=Sum.inr X.nm) e2',X.B.b,CB,d1',_,_,rfl,b1',Wb.cl,Wb.n_given,(a1l _ _ _ _).1,X.B.g,d2',_,rfl,b2',a3y,X.B.g,X.B.r,X.B.e,X.B.xs,X.B.n,X.B.kvs,rfl,tb',q' _ (Same.refl _)⟩)
  obtain ⟨J',j1,S',j2,L1,L2⟩:=d08 S Ln.free JB (b0u kzAB lA) lB F1 F2
  have nofL:∀ b o,HB b = some o -> f' b = none:=fun b o e => by
   cases e2:f' b with
   | none => rfl
   | some ob => rw [Ln.free b ob e2] at e; cases e
  have sL:Same HB (lend f' HB):=fun b o e => by rw [a0Q (nofL b o e)]; exact e
  have kt:a1u H (lend f' HB):=fun a xs e => sL _ _ (uB _ _ (nz e (fun φ y => by cases y)) e)
  obtain ⟨_,_,_,lk'⟩:=O.g k yk gk
  obtain ⟨_,_,_,ln'⟩:=O.g n yn gn
  have hgB:=uB _ _ (nz hgr (fun φ y => by cases y)) hgr
  refine ⟨gr,la,lm,fa,X.fd,X.tl,dx,X.nm,c,k,n,p,X.B.xs.length,J',W,X.gv,yk,yn,dk,dn,rfl,sL _ _ hgB,L1,L2,j1,S',gk,gn,pk.keep kt,pn.keep kt,lk',ln',hp,O.m30,fun H' fv fr J2 told => ?_⟩
  obtain ⟨lf,JJ⟩:=j2 _ J2
  have KN:∀ {b:Addr} {o:HO},(∀ u,o ≠ Fz u) -> H' b = some o -> unl f' H' b = some o:=fun {b o} n e => by
   cases e2:f' b with
   | none => rw [a04 e2]; exact e
   | some ob => rw [lf b ob e2] at e; exact absurd (Option.some.inj e).symm (n ob)
  have up:∀ {b:Addr} {o:HO},b ≠ X.fd -> b ≠ X.tl -> HB b = some o -> unl f' H' b = some o:=fun {b o} n1 n2 e => by
   rw [a04 (nofL b o e)]
   exact fr _ _ n1 n2 (sL _ _ e)
  obtain ⟨kx,ex⟩:=S.x _ JB
  obtain ⟨ky,ey⟩:=S.y _ JB
  have nxy:∀ {b:Addr} {o:HO},HB b = some o -> (∀ kvs,o ≠ .dT kvs) -> b ≠ X.fd /\ b ≠ X.tl:=fun e n => ⟨(fun y => by rw [y,ex] at e; exact n _ (Option.some.inj e).symm),(fun y => by rw [y,ey] at e; exact n _ (Option.some.inj e).symm)⟩
  refine q _ fv (fun b o n1 n2 n3 e => up n1 n2 (uB _ _ n3 e)) JJ ?_ ?_
  ·obtain ⟨SB,tB0,tB1⟩:=tB
   have n0:=nxy tB0 (fun _ y => by cases y)
   refine ⟨SB,up n0.1 n0.2 tB0,fun c' hc' => ?_⟩
   obtain ⟨o,o1,o2⟩:=tB1 c' hc'
   have n1:=nxy o1 (fun _ y => by cases y)
   exact ⟨o,up n1.1 n1.2 o1,o2⟩
  ·have ktu:a1u H' (unl f' H'):=fun a xs e => KN (fun u y => by cases y) e
   cases ht:a3e dk dn p with
   | inl d =>
    rw [ht] at told
    obtain ⟨a,v,r1',r2',r3'⟩:=told
    exact ⟨a,v,r1',ktu _ _ r2',r3'.keep ktu⟩
   | inr is =>
    rw [ht] at told
    obtain ⟨a,l,r1',r2',r3',r4'⟩:=told
    refine ⟨a,l,r1',ktu _ _ r2',KN (fun u y => by cases y) r3',?_⟩
    cases e:H l with
    | none => rfl
    | some o =>
     exfalso
     by_cases y:l = z.2
     ·rw [y] at r4'
      obtain ⟨SB,tB0,_⟩:=tB
      rw [sL _ _ tB0] at r4'
      cases r4'
     ·rw [sL _ _ (uB _ _ y e)] at r4'
      cases r4'
end
end My
set_option maxHeartbeats 1000000
namespace My
open PySem L2
section
variable {P:Program} {w:World} {K:PySem.W.Frag} {mg:Str -> Option Value} {base:Heap}
def d2b (K:PySem.W.Frag) (CF CB CT:Addr) (sp:Sp):Sp:=fun vs H Q _ => ∃ (fi ce ta:Addr),vs = [.ref fi,.ref ce,.ref ta] /\
 ((∃ v,H ta = some (.tup [.str ("value" : Str),v]) /\ Q v H) ∨
  ∃ (bd fd lk l:Addr) (nm c:Str) (p:Nat) (B:BM) (kf:List (Ky × V)),H ta = some (.tup [.str ("call" : Str),.ref l]) /\ FAt CF CB CT H fi bd fd lk nm B kf /\ H ce = some (.tup ((a0u nm c p).map kV)) /\ sp [.ref B.b,.str c,.int (p:Int),.ref l] H Q E0)
theorem b53:a0l ["self", "cell", "told"] ["self", "cell", "told"] (a0b a14):=⟨rfl,rfl,rfl,by decide +kernel,rfl,by decide +kernel,by decide +kernel⟩
theorem c85 (T:Tops K mg) {CF CB CT:Addr} (Y:a03 K mg CF) (Wb:a0R K mg CB) {sp:Sp} {k:Nat} (G:a0k P w K mg base CX0 k CB "outcome" ["self", "column", "place", "some"] sp):a0k P w K mg base CX0 (k + 1) CF "settle" ["self", "cell", "told"] (d2b K CF CB CT sp):=by
 refine Y.m_settle.known b53 (fun _ _ _ _ _ _ us hl => match us,hl with | [_,_,_],_ => rfl) (fun vs H Q E h => ?_) (fun f cdv A outer s H vs Q E hr h => ?_)
 ·obtain ⟨fi,ce,ta,rfl,_⟩:=h
  rfl
 ·obtain ⟨fi,ce,ta,rfl,h⟩:=h
  have hu:=a2I hr
  refine ⟨_,(a0d (a0E (a0A c3h (a1P a24 (pv 2) a0p (fun _ _ => rfl)) a1o (a0Z _)) (a0e (a0v (a1P a24 (pv 2) a0p (fun _ _ => rfl)))) a0q)
   (a0e (a0v (a0s (a00 hu (a0n (pv 0) rfl) (a1P a24 (pv 1) a0p (fun _ _ => rfl)) (fun _ _ => rfl)) Wb.cl G hr a0r (a0a (a1P a24 (pv 1) a0p (fun _ _ => rfl)) (a0a (a1P a24 (pv 1) a0p (fun _ _ => rfl)) (a0a (a1P a24 (pv 2) a0p (fun _ _ => rfl)) a0f))))))),?_⟩
  rcases h with ⟨v,hta,q⟩ | ⟨bd,fd,lk,l,nm,c,p,B,kf,hta,F,hce,q⟩
  ·refine ⟨_,rfl,ta,_,_,_,rfl,rfl,SqT.of hta,rfl,rfl,_,rfl,ite2 (fun _ => ?_) (fun h => absurd (decide_eq_true rfl) h)⟩
   exact ⟨_,rfl,ta,_,_,_,rfl,rfl,SqT.of hta,rfl,q⟩
  ·refine ⟨_,rfl,ta,_,_,_,rfl,rfl,SqT.of hta,rfl,rfl,_,rfl,ite2 (fun h => absurd (V.str.inj (of_decide_eq_true h)) (by decide)) (fun _ => ?_)⟩
   obtain ⟨d0,e1⟩:=F.fin
   obtain ⟨kb,e2,e3⟩:=F.bds
   obtain ⟨d1,b1⟩:=F.B.at_
   exact ⟨_,rfl,fi,CF,d0,_,_,rfl,e1,Y.cl,Y.n_boards,(a8Q _ _ _).1,_,rfl,ce,_,_,_,rfl,rfl,SqT.of hce,rfl,bd,_,rfl,e3 ▸ DGet.k (k:=Sum.inr nm) e2,B.b,d1,_,rfl,b1,b68,_,rfl,ce,_,_,_,rfl,rfl,SqT.of hce,rfl,_,rfl,ce,_,_,_,rfl,rfl,SqT.of hce,rfl,_,rfl,ta,_,_,_,rfl,rfl,SqT.of hta,rfl,q⟩
def c7M (CF CB CT:Addr):Sp:=fun vs H Q _ => ∃ (fi bd fd lk ce:Addr) (nm c:Str) (p:Nat) (B:BM) (kf:List (Ky × V)) (r v:V),vs = [.ref fi,.ref ce] /\ FAt CF CB CT H fi bd fd lk nm B kf /\ H ce = some (.tup ((a0u nm c p).map kV)) /\ valV B.rus (.inr c:Key) = some r /\ valV kf (a0u nm c p) = some v /\ Q .non H
abbrev d2J:List Str:=["self", "cell", "trial", "told"]
theorem a2s:a0l d2J ["self", "cell"] (a0b a1J):=⟨rfl,rfl,rfl,by decide +kernel,rfl,by decide +kernel,by decide +kernel⟩
theorem b8a (T:Tops K mg) {CF CB CT:Addr} (Y:a03 K mg CF) (Wb:a0R K mg CB):a0k P w K mg base CX0 5 CF "attempt" ["self", "cell"] (c7M CF CB CT):=by
 have G_knows:a0k P w K mg base CX0 4 CF "knows" ["self", "cell"] (d0b CF CB CT):=b3H T Y Wb
 refine Y.m_attempt.known a2s (fun _ _ _ _ _ _ us hl => match us,hl with | [_,_],_ => rfl) (fun vs H Q E h => ?_) (fun f cdv A outer s H vs Q E hr h => ?_)
 ·obtain ⟨fi,bd,fd,lk,ce,nm,c,p,B,kf,r,v,rfl,_⟩:=h
  rfl
 ·obtain ⟨fi,bd,fd,lk,ce,nm,c,p,B,kf,r,v,rfl,F,hce,hru,hv,q⟩:=h
  refine ⟨_,(a0d (a0E (a1w (a0s (pv 0) Y.cl G_knows hr a0r (a0a (pv 1) a0f)) (fun _ => rfl)) (a0e (a0v a6q)) a0q)
   (a0d a0y (a0d a0y (a0d a0y (a0e a0y))))),?_⟩
  obtain ⟨d0,e1⟩:=F.fin
  refine ⟨_,rfl,fi,d0,_,rfl,e1,b3u,_,rfl,fi,bd,fd,lk,ce,nm,c,p,B,kf,r,rfl,F,hce,hru,_,rfl,?_⟩
  rw [hv]
  exact iteT q
end
end My
set_option maxHeartbeats 400000
namespace My
open PySem L2
theorem d0m {C CB CT:Addr}:Mono (spTT C CB CT):=fun vs H Q Q' hQ h => by
 obtain ⟨p,dx,bd,nm,m,kb,e1,e2,e3,e4,e5,q⟩:=h
 exact ⟨p,dx,bd,nm,m,kb,e1,e2,e3,e4,e5,fun H' b g r e ru me od a1 a2 a3 a4 a5 => hQ _ _ (q H' b g r e ru me od a1 a2 a3 a4 a5)⟩
theorem c8d {K:PySem.W.Frag} {CB CT:Addr}:Mono (c79 K CB CT):=fun vs H Q Q' hQ h => by
 obtain ⟨B,t,a,ys,ds,e1,e2,e3,e4,e5,e6,e7,e8,e9,e10,e11,e12,q⟩:=h
 exact ⟨B,t,a,ys,ds,e1,e2,e3,e4,e5,e6,e7,e8,e9,e10,e11,e12,fun H' l a1 a2 a3 a4 => hQ _ _ (q H' l a1 a2 a3 a4)⟩
theorem c7G {K:PySem.W.Frag} {CB CT:Addr}:Mono (c8U K CB CT):=fun vs H Q Q' hQ h => by
 obtain ⟨B,t,a,C,dx,fs,e1,e2,e3,e4,e5,e6,e7,e8,e9,e10,q⟩:=h
 exact ⟨B,t,a,C,dx,fs,e1,e2,e3,e4,e5,e6,e7,e8,e9,e10,fun H' m a1 a2 a3 a4 => hQ _ _ (q H' m a1 a2 a3 a4)⟩
theorem c8s {C CB CT:Addr} {sp:Sp} (h:Mono sp):Mono (spCS C CB CT sp):=fun vs H Q Q' hQ g => by
 obtain ⟨p,dx,a,B,t,e1,e2,e3,e4,q⟩:=g
 exact ⟨p,dx,a,B,t,e1,e2,e3,e4,h _ _ _ _ (fun v H' z => hQ _ _ z) q⟩
theorem c97 {K:PySem.W.Frag} {C CB CT:Addr}:Mono (spVP K C CB CT):=fun vs H Q Q' hQ h => by
 obtain ⟨p,dx,l,B,t,i,v,u,d,ys,e1,e2,e3,e4,e5,e6,e7,e8,e9,q⟩:=h
 exact ⟨p,dx,l,B,t,i,v,u,d,ys,e1,e2,e3,e4,e5,e6,e7,e8,e9,fun H' a1 a2 => hQ _ _ (q H' a1 a2)⟩
end My
set_option maxHeartbeats 1000000
namespace My
open PySem L2
structure Gx where
 fi:Addr
 bd:Addr
 fd:Addr
 lk:Addr
 gr:Addr
 fa:Addr
 ca:Addr
 mc:Addr
 nm:Str
 c:Str
 k:Str
 n:Str
 B:BM
 Cs:List Str
 gv:Str -> Option (List V)
 yk:List V
 yn:List V
 dk:List PyData
 dn:List PyData
 g:List Int -> PyData
def b4M (m:Nat) (mk:List (Key × V)):Prop:=(mk.map (·.1)).Nodup /\ ∀ k ∈ mk.map (·.1),∃ p:Nat,p < m /\ k = (.inl (p:Int):Key)
theorem b4M.nil {m:Nat}:b4M m []:=⟨List.nodup_nil,fun k hk => by cases hk⟩
theorem b4M.len {m:Nat} {mk:List (Key × V)} (h:b4M m mk) (hm:m <= 30):mk.length <= 30:=by
 have:=b7u (m:=(List.range m).map fun p:Nat => (.inl (p:Int):Key)) h.1 fun k hk => by
  obtain ⟨p,hp,rfl⟩:=h.2 k hk
  exact List.mem_map.mpr ⟨p,List.mem_range.mpr hp,rfl⟩
 rw [List.length_map,List.length_map,List.length_range] at this
 omega
theorem b4M.put {m p:Nat} {mk:List (Key × V)} {v:V} (h:b4M m mk) (hp:p < m):b4M m (putK mk (.inl (p:Int):Key) v):=by
 cases e:valV mk (.inl (p:Int):Key) with
 | some x =>
  have hk:(putK mk (.inl (p:Int):Key) v).map (·.1) = mk.map (·.1):=by
   unfold putK
   rw [a7r,e,if_pos (show (some x).isSome = true from rfl),List.map_map]
   refine List.map_congr_left fun q _ => ?_
   show (if q.1 = _ then _ else _:Key × V).1 = q.1
   split <;> rfl
  unfold b4M
  rw [hk]
  exact h
 | none =>
  refine ⟨c76 v h.1 e,fun k hk => ?_⟩
  rw [c2P v e,List.map_append] at hk
  rcases List.mem_append.mp hk with hk | hk
  ·exact h.2 k hk
  ·rw [List.mem_singleton.mp hk]
   exact ⟨p,hp,rfl⟩
theorem c8o {K:PySem.W.Frag} {H H':Hp} {v:V} {d:PyData} (hv:Vd d) (h:Dt K H v d) (u:∀ x o,(∀ y,o ≠ .dT y) -> (∀ y,o ≠ .dK y) -> (∀ y,o ≠ .lst y) -> (∀ a b c,o ≠ .ins a b c) -> (∀ y,o ≠ .ext y) -> H x = some o -> H' x = some o):Dt K H' v d:=by
 rcases hv with ⟨i,rfl,hb⟩ | ⟨z,rfl,hz⟩
 ·cases h
  exact .int i
 ·cases h with
  | tup hq hall =>
   cases hall with
   | cons h1 t =>
    cases h1
    cases t with
    | cons h2 t =>
     cases h2
     cases t
     refine .tup ?_ (.cons (.str _) (.cons (.str _) .nil))
     rcases hq with h | h
     ·rcases h with h | ⟨o,h⟩
      ·exact .inl (.inl (u _ _ (fun _ y => by cases y) (fun _ y => by cases y) (fun _ y => by cases y) (fun _ _ _ y => by cases y) (fun _ y => by cases y) h))
      ·exact .inl (.inr ⟨o,u _ _ (fun _ y => by cases y) (fun _ y => by cases y) (fun _ y => by cases y) (fun _ _ _ y => by cases y) (fun _ y => by cases y) h⟩)
     ·exact .inr h
structure GxOk (X:Gx):Prop where
 c8:X.Cs.length <= 8
 m30:X.B.xs.length <= 30
 gc:∀ c ys,X.gv c = some ys -> c ∈ X.Cs /\ Nl c /\ valV X.B.rus (.inr c:Key) = none /\ ys.length = X.B.xs.length
 hn:Nl X.nm
 hk:X.gv X.k = some X.yk
 hn':X.gv X.n = some X.yn
 ru:valV X.B.rus (.inr X.c:Key) = some (.ref X.gr)
 me:valV X.B.mes (.inr X.c:Key) = some (.ref X.mc)
 cC:X.c ∈ X.Cs
 no:X.gv X.c = none
 xs:∀ p:Nat,p < X.B.xs.length -> atI X.B.xs (p:Int) = some (.int (p:Int))
 gg:∀ is,0 < is.length -> a8J (X.g is) /\ Vd (setD (X.g is))
 fl:X.fd ≠ X.lk
 mm:X.mc ≠ X.bd /\ X.mc ≠ X.B.e /\ X.mc ≠ X.B.ru /\ X.mc ≠ X.B.me
 cc:X.ca ≠ X.B.r /\ X.ca ≠ X.B.od
 cl:∀ c ys,X.gv c = some ys -> valV X.B.kvs (.inr c:Key) ≠ some (.ref X.ca)
section
variable {P:Program} {w:World} {K:PySem.W.Frag} {mg:Str -> Option Value} {base:Heap}
structure GxAt (P:Program) (w:World) (K:PySem.W.Frag) (mg:Str -> Option Value) (base:Heap) (CF CB CT CG:Addr) (X:Gx) (kf kl:List (Ky × V)) (mk:List (Key × V)) (H:Hp):Prop where
 F:FAt CF CB CT H X.fi X.bd X.fd X.lk X.nm X.B kf
 ko:a51 X.Cs X.nm X.B.xs.length kf
 fo:∀ c p v ys,X.gv c = some ys -> valV kf (a0u X.nm c p) = some v -> atI ys (p:Int) = some v
 hl:H X.lk = some (.dT kl)
 lo:a51 X.Cs X.nm X.B.xs.length kl
 cols:∀ c ys,X.gv c = some ys -> ∃ l,valV X.B.kvs (.inr c:Key) = some (.ref l) /\ H l = some (.lst ys)
 gr:∃ dx,H X.gr = some (.ins CG dx (gfl X.k X.n X.fa))
 fn:FnN P w K mg base 4 H X.fa X.ca X.g
 pk:Pvs K H X.yk X.dk
 pn:Pvs K H X.yn X.dn
 mc:H X.mc = some (.dK mk)
 ml:b4M X.B.xs.length mk
def c6E (X:Gx):List Addr:=X.Cs.filterMap fun c => if (X.gv c).isSome then (match valV X.B.kvs (.inr c:Key) with | some (.ref l) => some l | _ => none) else none
theorem c7j {X:Gx} (O:GxOk X) {c:Str} {ys:List V} {l:Addr} (g:X.gv c = some ys) (h:valV X.B.kvs (.inr c:Key) = some (.ref l)):l ∈ c6E X:=by
 refine List.mem_filterMap.mpr ⟨c,(O.gc c ys g).1,?_⟩
 rw [g,if_pos (show (some ys).isSome = true from rfl),h]
theorem c4T {X:Gx} {l:Addr} (h:l ∈ c6E X):∃ c ys,X.gv c = some ys /\ valV X.B.kvs (.inr c:Key) = some (.ref l):=by
 obtain ⟨c,_,e⟩:=List.mem_filterMap.mp h
 cases g:X.gv c with
 | none => rw [g] at e; cases e
 | some ys =>
  rw [g,if_pos (show (some ys).isSome = true from rfl)] at e
  refine ⟨c,ys,g,?_⟩
  split at e
  ·next l' h' => rw [h',Option.some.inj e]
  ·cases e
theorem c4W {own:PyData}:∀ {ks ns:List PyData} {acc is:List Int},grF own ks ns acc = .inr is -> ks.length = ns.length -> (0 < acc.length ∨ ∃ k ∈ ks,PyData.eqv k own = true) -> 0 < is.length
 | [],ns,acc,is,h,hl,hp => by
  rw [b63] at h
  cases h
  rcases hp with hp | ⟨k,hk,_⟩
  ·exact hp
  ·cases hk
 | k :: ks,[],acc,is,h,hl,hp => by cases hl
 | k :: ks,n :: ns,acc,is,h,hl,hp => by
  have hl':ks.length = ns.length:=by simpa using hl
  rw [grF] at h
  split at h
  ·split at h
   ·cases h
   ·exact c4W h hl' (.inl (by rw [List.length_append]; show 0 < acc.length + 1; omega))
  ·next hne =>
   refine c4W h hl' ?_
   rcases hp with hp | ⟨k',hk',e⟩
   ·exact .inl hp
   ·rcases List.mem_cons.mp hk' with rfl | hk'
    ·exact absurd e hne
    ·exact .inr ⟨k',hk',e⟩
theorem c5x {own:PyData}:∀ {ks ns:List PyData} {acc is:List Int},grF own ks ns acc = .inr is -> is.length <= acc.length + ks.length
 | [],ns,acc,is,h => by
  rw [b63] at h
  cases h
  exact Nat.le_add_right _ _
 | k :: ks,[],acc,is,h => by
  rw [grF] at h
  ·cases h
   exact Nat.le_add_right _ _
  ·intro a b c d e
   intro f
   cases f
 | k :: ks,n :: ns,acc,is,h => by
  rw [grF] at h
  split at h
  ·split at h
   ·cases h
   ·have:=c5x h
    rw [List.length_append] at this
    rw [List.length_cons]
    have e1:[d1m n].length = 1:=rfl
    omega
  ·have:=c5x h
   rw [List.length_cons]
   omega
theorem c09 {dk dn:List PyData} {p:Nat} {is:List Int} (h:a3e dk dn p = .inr is) (hl:dk.length = dn.length) (hp:p < dk.length) (hv:∀ d ∈ dk,Vd d):0 < is.length /\ is.length <= dk.length:=by
 unfold a3e at h
 split at h
 ·cases h
 ·next hT =>
  have e:dk[p]? = some (dk.getD p .none):=by rw [List.getD_eq_getElem?_getD,List.getElem?_eq_getElem hp]; rfl
  have hm:=List.mem_of_getElem? e
  refine ⟨c4W h hl (.inr ⟨_,hm,?_⟩),by simpa using c5x h⟩
  rcases hv _ hm with ⟨i,hi,_⟩ | ⟨y,hy,_⟩
  ·rw [hi]; simp [PyData.eqv]
  ·rw [hy] at hT; exact absurd rfl hT
def Fr5 (a b c d e:Addr) (H H':Hp):Prop:=∀ x o,x ≠ a -> x ≠ b -> x ≠ c -> x ≠ d -> x ≠ e -> H x = some o -> H' x = some o
def WasO (H:Hp) (mk:List (Key × V)) (p:Int):Option (List Int × V) -> Prop
 | none => valV mk (.inl p:Key) = none
 | some jv => Was H mk p jv.1 jv.2
def Ends (K:PySem.W.Frag) (X:Gx) (p:Nat) (wo:Option (List Int × V)) (mk mk':List (Key × V)) (cs:List V) (v:V) (H H':Hp):PyData ⊕ List Int -> Prop
 | .inl d => Pv K H' v d /\ mk' = mk /\ H' X.ca = some (.lst cs)
 | .inr is => (wo = some (is,v) /\ mk' = mk /\ H' X.ca = some (.lst cs)) ∨
  ((∀ vv,wo ≠ some (is,vv)) /\ ∃ lc tp sm,H lc = none /\ H tp = none /\ H sm = none /\ H' X.ca = some (.lst (cs ++ [.ref lc])) /\ H' lc = some (.lst (is.map V.int)) /\ H' tp = some (.tup [.ref sm,v]) /\ H' sm = some (.lst (is.map V.int)) /\ mk' = putK mk (.inl (p:Int):Key) (.ref tp) /\ Dt K H' v (setD (X.g is)))
theorem b5F {q:Str} {H H':Hp} {z:Addr} (h:a8q q H z) (k:∀ b o,(∀ x,o ≠ .dT x) -> (∀ x,o ≠ .dK x) -> (∀ x,o ≠ .lst x) -> H b = some o -> H' b = some o):a8q q H' z:=by
 obtain ⟨S,h1,h2⟩:=h
 refine ⟨S,k _ _ (fun x y => by cases y) (fun x y => by cases y) (fun x y => by cases y) h1,fun c hc => ?_⟩
 obtain ⟨o,o1,o2⟩:=h2 c hc
 exact ⟨o,k _ _ (fun x y => by cases y) (fun x y => by cases y) (fun x y => by cases y) o1,o2⟩
theorem GxAt.to {CF CB CT CG zt:Addr} {X:Gx} (O:GxOk X) {kf kl kf' kl':List (Ky × V)} {mk mk':List (Key × V)} {cs:List V} {H H':Hp} (G:GxAt P w K mg base CF CB CT CG X kf kl mk H) (fr:Fr5 X.fd X.lk zt X.ca X.mc H H') (tb:a8q qGd H zt) (hca:H X.ca = some (.lst cs)) (hfd:H' X.fd = some (.dT kf')) (hlk:H' X.lk = some (.dT kl')) (hmc:H' X.mc = some (.dK mk')) (ko:a51 X.Cs X.nm X.B.xs.length kf') (lo:a51 X.Cs X.nm X.B.xs.length kl') (fo:∀ c p v ys,X.gv c = some ys -> valV kf' (a0u X.nm c p) = some v -> atI ys (p:Int) = some v) (ml:b4M X.B.xs.length mk'):GxAt P w K mg base CF CB CT CG X kf' kl' mk' H':=by
 obtain ⟨S0,t0,_⟩:=tb
 have u:∀ {b:Addr} {o:HO},H b = some o -> (∀ x,o ≠ .dT x) -> (∀ x,o ≠ .ext x) -> b ≠ X.ca -> b ≠ X.mc -> H' b = some o:=fun {b o} e n1 n2 n3 n4 => fr b o (fun y => by rw [y,G.F.fnd] at e; exact n1 _ (Option.some.inj e).symm) (fun y => by rw [y,G.hl] at e; exact n1 _ (Option.some.inj e).symm) (fun y => by rw [y,t0] at e; exact n2 _ (Option.some.inj e).symm) n3 n4 e
 have na:∀ {b:Addr} {o:HO},H b = some o -> (∀ x,o ≠ .lst x) -> b ≠ X.ca:=fun e n y => by rw [y,hca] at e; exact n _ (Option.some.inj e).symm
 have nm:∀ {b:Addr} {o:HO},H b = some o -> (∀ x,o ≠ .dK x) -> b ≠ X.mc:=fun e n y => by rw [y,G.mc] at e; exact n _ (Option.some.inj e).symm
 have ui:∀ {b C dx:Addr} {fs:List (Str × V)},H b = some (.ins C dx fs) -> H' b = some (.ins C dx fs):=fun e => u e (fun _ y => by cases y) (fun _ y => by cases y) (na e (fun _ y => by cases y)) (nm e (fun _ y => by cases y))
 have ul:∀ {b:Addr} {xs:List V},H b = some (.lst xs) -> b ≠ X.ca -> H' b = some (.lst xs):=fun e n => u e (fun _ y => by cases y) (fun _ y => by cases y) n (nm e (fun _ y => by cases y))
 have ud:∀ {b:Addr} {xs:List (Key × V)},H b = some (.dK xs) -> b ≠ X.mc -> H' b = some (.dK xs):=fun e n => u e (fun _ y => by cases y) (fun _ y => by cases y) (na e (fun _ y => by cases y)) n
 have kt:a1u H H':=fun a xs e => u e (fun _ y => by cases y) (fun _ y => by cases y) (na e (fun _ y => by cases y)) (nm e (fun _ y => by cases y))
 have kz:a3a H H':=fun a x e => u e (fun _ y => by cases y) (fun _ y => by cases y) (na e (fun _ y => by cases y)) (nm e (fun _ y => by cases y))
 obtain ⟨d0,e1⟩:=G.F.fin
 obtain ⟨kb,e2,e3⟩:=G.F.bds
 obtain ⟨⟨d1,b1⟩,⟨⟨d2,b2⟩,b3,b4⟩,b5,b6,b7⟩:=G.F.B
 obtain ⟨dg,g1⟩:=G.gr
 have l':=ko.len O.c8 O.m30
 exact ⟨⟨⟨d0,ui e1⟩,⟨kb,ud e2 O.mm.1.symm,e3⟩,⟨⟨d1,ui b1⟩,⟨⟨d2,ui b2⟩,ul b3 O.cc.1.symm,ud b4 O.mm.2.1.symm⟩,ud b5 O.mm.2.2.1.symm,ud b6 O.mm.2.2.2.symm,ul b7 O.cc.2.symm⟩,hfd,by omega⟩,ko,fo,hlk,lo,fun c ys g => let ⟨l,h1,h2⟩:=G.cols c ys g; ⟨l,h1,ul h2 (fun y => O.cl c ys g (y ▸ h1))⟩,⟨dg,ui g1⟩,G.fn.keep kz,G.pk.keep kt,G.pn.keep kt,hmc,ml⟩
def d0c (P:Program) (w:World) (K:PySem.W.Frag) (mg:Str -> Option Value) (base:Heap) (CF CB CT CG zt:Addr):Sp:=fun vs H Q _ => ∃ (X:Gx) (ce:Addr) (p:Nat) (kf kl:List (Ky × V)) (mk:List (Key × V)) (cs:List V) (wo:Option (List Int × V)),vs = [.ref X.fi,.ref ce] /\ GxOk X /\ GxAt P w K mg base CF CB CT CG X kf kl mk H /\ H ce = some (.tup ((a0u X.nm X.c p).map kV)) /\ p < X.B.xs.length /\ valV kf (a0u X.nm X.c p) = none /\ a8q qGd H zt /\ H X.ca = some (.lst cs) /\ cs.length < 900 /\ WasO H mk (p:Int) wo /\
 ∀ H' v kf' kl' mk',GxAt P w K mg base CF CB CT CG X kf' kl' mk' H' -> a8q qGd H' zt -> Fr5 X.fd X.lk zt X.ca X.mc H H' -> valV kf' (a0u X.nm X.c p) = some v -> (∀ c p',X.gv c = none -> (c ≠ X.c ∨ p' ≠ p) -> valV kf' (a0u X.nm c p') = valV kf (a0u X.nm c p')) -> Ends K X p wo mk mk' cs v H H' (a3e X.dk X.dn p) -> Q .non H'
theorem c7u (T:Tops K mg) {CR CF CB CT CG:Addr} (R:b1n K mg CR) (Y:a03 K mg CF) (Wb:a0R K mg CB) (Z:a1g K mg CT) (Gr:a69 K mg CG) {z:Addr × Addr} (B2:MthT K mg "Finder" "gathered" "Finder.gathered" a0m z) (M:b2L mg base z.1 z.2):a0k P w K mg base CX0 9 CF "attempt" ["self", "cell"] (d0c P w K mg base CF CB CT CG z.2):=by
 have G_knows:a0k P w K mg base CX0 4 CF "knows" ["self", "cell"] (d0b CF CB CT):=b3H T Y Wb
 have GI:a19 P w K mg base CX0 1 CR ["self", "finder"] (d11 CR):=a4Y T R
 have G_gd:a0k P w K mg base CX0 8 CF "gathered" Ngd (spGd K CR CF CB CT CG z.2):=c7n T R Y Wb Z Gr B2 M
 have G_st:a0k P w K mg base CX0 7 CF "settle" ["self", "cell", "told"] (d2b K CF CB CT (d1F P w K mg base 4 CB CT CG)):=c85 T Y Wb (a2e T Wb Z Gr (k:=4) (Nat.le_refl _))
 refine Y.m_attempt.known a2s (fun _ _ _ _ _ _ us hl => match us,hl with | [_,_],_ => rfl) (fun vs H Q E h => ?_) (fun f cdv A outer s H vs Q E hr h => ?_)
 ·obtain ⟨X,ce,p,kf,kl,mk,cs,wo,rfl,_⟩:=h
  rfl
 ·obtain ⟨X,ce,p,kf,kl,mk,cs,wo,rfl,O,G,hce,hp,hno,tb,hca,cl,hw,q⟩:=h
  have hu:=a2I hr
  refine ⟨_,(a0d (a0E (a1w (a0s (pv 0) Y.cl G_knows (hr.mono (by decide)) a0r (a0a (pv 1) a0f)) (fun _ => rfl)) (a0e (a0v a6q)) a0q)
   (a0d (a0B (i:=2) a2s.nd rfl (Or.inl rfl) (a4v GI (hr.mono (by decide)) R.c a0r (a0a (pv 0) a0f)))
   (a0d (a0B (i:=3) a2s.nd rfl (Or.inl rfl) (a0s (pv 0) Y.cl G_gd hr a0r (a0a (pv 2) (a0a (a1P a24 (pv 1) a0p (fun _ _ => rfl)) (a0a (a1P a24 (pv 1) a0p (fun _ _ => rfl)) (a0a (a1P a24 (pv 1) a0p (fun _ _ => rfl)) a0f))))))
   (a0d (a0E (a0A b9K (a0n (pv 2) rfl) a6q (a0Z _)) (a0d (a6x hu (a0n (pv 0) rfl) (pv 1) (a0n (pv 2) rfl) rfl) (a0e (a6x hu (a0n (pv 0) rfl) (pv 1) (a0s (pv 0) Y.cl G_st (hr.mono (by decide)) a0r (a0a (pv 1) (a0a (pv 3) a0f))) rfl))) a0q)
   (a0e (a0v (a0n (pv 2) rfl))))))),?_⟩
  obtain ⟨d0,e1⟩:=G.F.fin
  refine ⟨_,rfl,X.fi,d0,_,rfl,e1,b3u,_,rfl,X.fi,X.bd,X.fd,X.lk,ce,X.nm,X.c,p,X.B,kf,_,rfl,G.F,hce,O.ru,_,rfl,?_⟩
  rw [hno]
  refine iteF ⟨_,rfl,?_⟩
  intro tr dt htr hdt ne
  refine ⟨tr,dt,X.fi,rfl,a0c,fun H1 tl htl t1 t2 b1 => ⟨rfl,?_⟩⟩
  have s1:Same H H1:=fun b o e => b1 b o (a0h e htr) (by rw [a0g (a0h e htr),a0g (a0h e hdt)]; exact e)
  have htl0:H tl = none:=by
   by_cases y:tl = tr
   ·rw [y]; exact htr
   ·by_cases y2:tl = dt
    ·rw [y2]; exact hdt
    ·rw [a0g y,a0g y2] at htl; exact htl
  have ce1:=s1 _ _ hce
  obtain ⟨dxg,hgr⟩:=G.gr
  let Y8:Fx28:=⟨X.fi,X.bd,X.fd,X.lk,tr,tl,X.nm,X.B,X.Cs,X.gv,kf⟩
  have J1:J28 CR CF CB CT Y8 H1:=⟨⟨kf,G.F.same s1,G.ko,G.fo,fun _ _ _ => rfl⟩,⟨dt,t1⟩,⟨[],t2,a51.nil⟩,fun c ys g => let ⟨l,h1,h2⟩:=G.cols c ys g; ⟨l,h1,s1 _ _ h2⟩⟩
  have ntf:tl ≠ X.fd:=fun y => by rw [y,G.F.fnd] at htl0; cases htl0
  have O8:Ok28 Y8:=⟨ntf,O.c8,O.m30,O.gc,O.hn⟩
  have S8:Jst (J28 CR CF CB CT Y8) ([X.fi,X.bd,X.fd,tr,tl,X.B.b,X.B.g,X.B.r,X.B.e,X.B.ru,X.B.me,X.B.od] ++ c6E X) X.fd tl:=J28.st _ (fun b hb => List.mem_append_left _ hb) (fun c ys l g h => List.mem_append_right _ (c7j O g h)) (fun b hb => (List.mem_append.mp hb).imp id fun h => c4T h)
  obtain ⟨Sz,tz,_⟩:=id tb
  have tb1:a8q qGd H1 z.2:=b5F tb fun b o _ _ _ e => s1 _ _ e
  have nzW:z.2 ∉ [X.fi,X.bd,X.fd,tr,tl,X.B.b,X.B.g,X.B.r,X.B.e,X.B.ru,X.B.me,X.B.od] ++ c6E X:=by
   intro hm
   have t1z:=s1 _ _ tz
   obtain ⟨kb,e2,e3⟩:=G.F.bds
   obtain ⟨⟨d1,b1⟩,⟨⟨d2,b2⟩,b3,b4⟩,b5,b6,b7⟩:=G.F.B
   have kill:∀ {b:Addr} {o:HO},H1 b = some o -> (∀ x,o ≠ .ext x) -> z.2 ≠ b:=fun e n y => by rw [<- y,t1z] at e; exact n _ (Option.some.inj e).symm
   rcases List.mem_append.mp hm with h | h
   ·simp only [List.mem_cons,List.not_mem_nil,or_false] at h
    rcases h with h | h | h | h | h | h | h | h | h | h | h | h
    ·exact kill (s1 _ _ e1) (fun _ y => by cases y) h
    ·exact kill (s1 _ _ e2) (fun _ y => by cases y) h
    ·exact kill (s1 _ _ G.F.fnd) (fun _ y => by cases y) h
    ·exact kill t1 (fun _ y => by cases y) h
    ·exact kill t2 (fun _ y => by cases y) h
    ·exact kill (s1 _ _ b1) (fun _ y => by cases y) h
    ·exact kill (s1 _ _ b2) (fun _ y => by cases y) h
    ·exact kill (s1 _ _ b3) (fun _ y => by cases y) h
    ·exact kill (s1 _ _ b4) (fun _ y => by cases y) h
    ·exact kill (s1 _ _ b5) (fun _ y => by cases y) h
    ·exact kill (s1 _ _ b6) (fun _ y => by cases y) h
    ·exact kill (s1 _ _ b7) (fun _ y => by cases y) h
   ·obtain ⟨c,ys,g1,g2⟩:=c4T h
    obtain ⟨l,g3,g4⟩:=G.cols c ys g1
    rw [g2] at g3
    cases g3
    exact kill (s1 _ _ g4) (fun _ y => by cases y) rfl
  refine ⟨_,rfl,X.fi,d0,_,rfl,s1 _ _ e1,b3u,_,rfl,_,rfl,ce,_,_,_,rfl,rfl,SqT.of ce1,rfl,_,rfl,ce,_,_,_,rfl,rfl,SqT.of ce1,rfl,_,rfl,ce,_,_,_,rfl,rfl,SqT.of ce1,rfl,
   Y8,_,X.gr,X.fa,dxg,X.c,X.k,X.n,p,X.yk,X.yn,X.dk,X.dn,rfl,J1,O8,S8,nzW,O.ru,s1 _ _ hgr,O.hk,O.hn',G.pk.keep (a1u.of s1),G.pn.keep (a1u.of s1),hp,tb1,fun H2 fv fr J2 tb2 told => ?_⟩
  obtain ⟨kf2,F2,ko2,fo2,ru2⟩:=J2.kf
  obtain ⟨d3,tr2⟩:=J2.tr
  obtain ⟨kt2,tl2,to2⟩:=J2.tl
  obtain ⟨a1,a2,a3,a4⟩:=c6f X.fi tl .non
  obtain ⟨d02,f2⟩:=F2.fin
  have up2:∀ {x:Addr} {o:HO},x ≠ X.fd -> x ≠ z.2 -> H x = some o -> H2 x = some o:=fun n1 n2 e => fr _ _ n1 (a0h e htl0) n2 (s1 _ _ e)
  have nz:∀ {b:Addr} {o:HO},H b = some o -> (∀ x,o ≠ .ext x) -> b ≠ z.2:=fun e n y => by rw [y,tz] at e; exact n _ (Option.some.inj e).symm
  have nf:∀ {b:Addr} {o:HO},H b = some o -> (∀ x,o ≠ .dT x) -> b ≠ X.fd:=fun e n y => by rw [y,G.F.fnd] at e; exact n _ (Option.some.inj e).symm
  have lk2:=up2 O.fl.symm (nz G.hl (fun _ y => by cases y)) G.hl
  have ce2:=up2 (nf hce (fun _ y => by cases y)) (nz hce (fun _ y => by cases y)) hce
  have nl2:=G.lo.len O.c8 O.m30
  refine ⟨_,rfl,tr,CR,d3,_,_,rfl,tr2,R.cl,R.n_lacking,a3,rfl,_,rfl,iteT ?_⟩
  refine ⟨_,rfl,tr,CR,d3,_,_,rfl,tr2,R.cl,R.n_looked,a2,_,rfl,X.fi,CF,d02,_,_,rfl,f2,Y.cl,Y.n_looked,(a8Q _ _ _).2.2,_,rfl,X.lk,_,rfl,.inr ⟨kl,a0u X.nm X.c p,ce,lk2,rfl,ce2,a0w (by omega),rfl⟩,?_⟩
  have u3:But X.lk H2 (upd H2 X.lk (.dT (putK kl (a0u X.nm X.c p) (.ref tl)))):=fun b o n e => by rw [a0g n]; exact e
  have lk3:upd H2 X.lk (.dT (putK kl (a0u X.nm X.c p) (.ref tl))) X.lk = some (.dT (putK kl (a0u X.nm X.c p) (.ref tl))):=a0c
  have n3:∀ b,upd H2 X.lk (.dT (putK kl (a0u X.nm X.c p) (.ref tl))) b = none -> H2 b = none:=fun b y => by
   have:b ≠ X.lk:=fun y' => by rw [y',a0c] at y; cases y
   rw [a0g this] at y
   exact y
  generalize upd H2 X.lk (.dT (putK kl (a0u X.nm X.c p) (.ref tl))) = H3 at u3 lk3 n3 ⊢
  have k3:∀ {b:Addr} {o:HO},H2 b = some o -> (∀ x,o ≠ .dT x) -> H3 b = some o:=fun e n => u3 _ _ (fun y => by rw [y,lk2] at e; exact n _ (Option.some.inj e).symm) e
  have fd3:=u3 _ _ O.fl F2.fnd
  have F3:FAt CF CB CT H3 X.fi X.bd X.fd X.lk X.nm X.B kf2:=by
   obtain ⟨d0,e1⟩:=F2.fin
   obtain ⟨kb,e2,e3⟩:=F2.bds
   obtain ⟨⟨d1,b1⟩,⟨⟨d2,b2⟩,b3,b4⟩,b5,b6,b7⟩:=F2.B
   exact ⟨⟨d0,k3 e1 (fun _ y => by cases y)⟩,⟨kb,k3 e2 (fun _ y => by cases y),e3⟩,⟨⟨d1,k3 b1 (fun _ y => by cases y)⟩,⟨⟨d2,k3 b2 (fun _ y => by cases y)⟩,k3 b3 (fun _ y => by cases y),k3 b4 (fun _ y => by cases y)⟩,k3 b5 (fun _ y => by cases y),k3 b6 (fun _ y => by cases y),k3 b7 (fun _ y => by cases y)⟩,fd3,F2.len⟩
  have fr3:∀ {x:Addr} {o:HO},x ≠ X.fd -> x ≠ X.lk -> x ≠ z.2 -> H x = some o -> H3 x = some o:=fun n1 n2 n3 e => u3 _ _ n2 (up2 n1 n3 e)
  have q3:∀ {x:Addr} {o:HO},H x = some o -> (∀ y,o ≠ .dT y) -> (∀ y,o ≠ .ext y) -> H3 x = some o:=fun e n1 n2 => k3 (up2 (nf e n1) (nz e n2) e) n1
  have ce3:=q3 hce (fun _ y => by cases y) (fun _ y => by cases y)
  have tr3:=k3 tr2 (fun _ y => by cases y)
  have tb3:a8q qGd H3 z.2:=b5F tb2 fun b o n1 _ _ e => k3 e n1
  have ca3:=q3 hca (fun _ y => by cases y) (fun _ y => by cases y)
  have mc3:=q3 G.mc (fun _ y => by cases y) (fun _ y => by cases y)
  have gr3:=q3 hgr (fun _ y => by cases y) (fun _ y => by cases y)
  have kz3:a3a H H3:=fun b u e => q3 e (fun _ y => by cases y) (fun _ y => by cases y)
  have none3:∀ {x:Addr},H3 x = none -> H x = none:=fun {x} e => by
   cases e2:H x with
   | none => rfl
   | some o =>
    by_cases y1:x = X.fd
    ·rw [y1,fd3] at e; cases e
    ·by_cases y2:x = X.lk
     ·rw [y2,lk3] at e; cases e
     ·by_cases y3:x = z.2
      ·obtain ⟨S3,h3,_⟩:=tb3
       rw [y3,h3] at e; cases e
      ·rw [fr3 y1 y2 y3 e2] at e; cases e
  have l2:=ko2.len O.c8 O.m30
  have fin:∀ (H5:Hp) (v:V) (mk':List (Key × V)),(∀ x o,x ≠ X.ca -> x ≠ X.mc -> H3 x = some o -> H5 x = some o) -> H5 X.mc = some (.dK mk') -> b4M X.B.xs.length mk' -> (∀ H6,But X.fd H5 H6 -> Ends K X p wo mk mk' cs v H H6 (a3e X.dk X.dn p)) ->
   ∃ d5 H6,H5 X.fi = some (.ins CF d5 (ffl X.bd X.fd X.lk)) /\ DPut H5 X.fd (.ref ce) v H6 /\ H6 tr = some (.ins CR d3 (rfl3 X.fi tl .non)) /\ Q .non H6:=fun H5 v mk' f5 mc5 ml5 en => by
   have k5:∀ {b:Addr} {o:HO},H3 b = some o -> (∀ x,o ≠ .lst x) -> (∀ x,o ≠ .dK x) -> H5 b = some o:=fun e n1 n2 => f5 _ _ (fun y => by rw [y,ca3] at e; exact n1 _ (Option.some.inj e).symm) (fun y => by rw [y,mc3] at e; exact n2 _ (Option.some.inj e).symm) e
   obtain ⟨d5,e5⟩:=F3.fin
   have fd5:=k5 fd3 (fun _ y => by cases y) (fun _ y => by cases y)
   have ce5:=k5 ce3 (fun _ y => by cases y) (fun _ y => by cases y)
   refine ⟨d5,_,k5 e5 (fun _ y => by cases y) (fun _ y => by cases y),.inr ⟨kf2,a0u X.nm X.c p,ce,fd5,rfl,ce5,a0w (by omega),rfl⟩,?_⟩
   have u6:But X.fd H5 (upd H5 X.fd (.dT (putK kf2 (a0u X.nm X.c p) v))):=fun b o n e => by rw [a0g n]; exact e
   have fd6:upd H5 X.fd (.dT (putK kf2 (a0u X.nm X.c p) v)) X.fd = some (.dT (putK kf2 (a0u X.nm X.c p) v)):=a0c
   generalize upd H5 X.fd (.dT (putK kf2 (a0u X.nm X.c p) v)) = H6 at u6 fd6 ⊢
   have k6:∀ {b:Addr} {o:HO},H5 b = some o -> (∀ x,o ≠ .dT x) -> H6 b = some o:=fun e n => u6 _ _ (fun y => by rw [y,fd5] at e; exact n _ (Option.some.inj e).symm) e
   have fr6:Fr5 X.fd X.lk z.2 X.ca X.mc H H6:=fun x o n1 n2 n3 n4 n5 e => u6 _ _ n1 (f5 _ _ n4 n5 (fr3 n1 n2 n3 e))
   refine ⟨k6 (k5 tr3 (fun _ y => by cases y) (fun _ y => by cases y)) (fun _ y => by cases y),?_⟩
   refine q H6 v (putK kf2 (a0u X.nm X.c p) v) (putK kl (a0u X.nm X.c p) (.ref tl)) mk' (G.to O fr6 tb hca fd6 (u6 _ _ O.fl.symm (k5 lk3 (fun _ y => by cases y) (fun _ y => by cases y))) (k6 mc5 (fun _ y => by cases y)) (ko2.put O.cC hp) (G.lo.put O.cC hp) (fun c p' v' ys g e => ?_) ml5) (b5F tb3 fun b o n1 n2 n3 e => k6 (k5 e n3 n2) n1) fr6 (by rw [a08,if_pos rfl]) (fun c p' g ne => ?_) (en H6 u6)
   ·rw [a08,if_neg (fun y => by rw [(b3b y).1,O.no] at g; cases g)] at e
    exact fo2 c p' v' ys g e
   ·rw [a08,if_neg (fun y => by have:=b3b y; rcases ne with ne | ne; exact ne this.1; exact ne this.2)]
    exact ru2 c p' g
  obtain ⟨d03,f3⟩:=F3.fin
  cases ht:a3e X.dk X.dn p with
  | inl d =>
   rw [ht] at told
   obtain ⟨ta,v,rfl,hta,hpv⟩:=told
   have kt3:a1u H2 H3:=fun a xs e => k3 e (fun _ y => by cases y)
   obtain ⟨d5,H6,g1,g2,g3,g4⟩:=fin H3 v mk (fun x o _ _ e => e) mc3 G.ml (fun H6 b6 => by
    rw [ht]
    exact ⟨(hpv.keep kt3).keep (fun a xs e => b6 _ _ (fun y => by rw [y,fd3] at e; cases e) e),rfl,b6 _ _ (fun y => by rw [y,fd3] at ca3; cases ca3) ca3⟩)
   exact ⟨_,rfl,X.fi,d03,_,rfl,f3,b3u,_,rfl,_,rfl,X.fi,ce,ta,rfl,.inl ⟨v,kt3 _ _ hta,_,rfl,X.fi,CF,d5,_,_,rfl,g1,Y.cl,Y.n_found,(a8Q _ _ _).2.1,_,rfl,X.fd,H6,rfl,g2,_,rfl,tr,CR,d3,_,_,rfl,g3,R.cl,R.n_lacking,a3,g4⟩⟩
  | inr is =>
   rw [ht] at told
   obtain ⟨ta,l,rfl,hta,hl2,hl0⟩:=told
   have hl3:=k3 hl2 (fun _ y => by cases y)
   have hta3:=k3 hta (fun _ y => by cases y)
   have hlH:H l = none:=a0M s1 hl0
   obtain ⟨_,_,_,ly⟩:=O.gc _ _ O.hk
   obtain ⟨_,_,_,ly'⟩:=O.gc _ _ O.hn'
   have lk':X.yk.length = X.dk.length:=Paired.length G.pk
   have ln':X.yn.length = X.dn.length:=Paired.length G.pn
   obtain ⟨l0,l1⟩:=c09 ht (by omega) (by omega) G.pk.vd
   have m30:=O.m30
   obtain ⟨sh,vd⟩:=O.gg is l0
   have was3:∀ {js vv},Was H mk (p:Int) js vv -> Was H3 mk (p:Int) js vv:=fun ⟨tp,lo,w1,w2,w3⟩ => ⟨tp,lo,w1,q3 w2 (fun _ y => by cases y) (fun _ y => by cases y),q3 w3 (fun _ y => by cases y) (fun _ y => by cases y)⟩
   refine ⟨_,rfl,X.fi,d03,_,rfl,f3,b3u,_,rfl,_,rfl,X.fi,ce,ta,rfl,.inr ⟨X.bd,X.fd,X.lk,l,X.nm,X.c,p,X.B,kf2,hta3,F3,ce3,l,X.gr,X.mc,X.fa,X.ca,dxg,X.c,X.k,X.n,p,(p:Int),X.B,mk,X.g,is,cs,rfl,F3.B,O.ru,O.me,mc3,Nat.lt_of_le_of_lt (G.ml.len O.m30) (by decide),hp,O.xs p hp,gr3,G.fn.keep kz3,hl3,ca3,cl,l0,by omega,sh,vd,?_⟩⟩
   have called:(∀ vv,wo ≠ some (is,vv)) -> ∀ H5 v lc tp,(∀ x o,x ≠ X.ca -> x ≠ X.mc -> H3 x = some o -> H5 x = some o) -> H3 lc = none -> H5 X.ca = some (.lst (cs ++ [.ref lc])) -> H5 lc = some (.lst (is.map V.int)) -> H3 tp = none -> H5 tp = some (.tup [.ref l,v]) -> H5 X.mc = some (.dK (putK mk (.inl (p:Int):Key) (.ref tp))) -> Dt K H5 v (setD (X.g is)) ->
    ∃ d5 H6,H5 X.fi = some (.ins CF d5 (ffl X.bd X.fd X.lk)) /\ DPut H5 X.fd (.ref ce) v H6 /\ H6 tr = some (.ins CR d3 (rfl3 X.fi tl .non)) /\ Q .non H6:=fun hh H5 v lc tp f5 n1 g1 g2 n2 g3 g4 g5 => by
    have lp:=a52 mk (Sum.inl (p:Int):Key) (.ref tp)
    have fd5:H5 X.fd = some (.dT kf2):=f5 _ _ (fun y => by rw [<- y,fd3] at ca3; cases ca3) (fun y => by rw [<- y,fd3] at mc3; cases mc3) fd3
    refine fin H5 v _ f5 g4 ?_ (fun H6 b6 => ?_)
    ·exact G.ml.put hp
    ·rw [ht]
     have k6:∀ {b:Addr} {o:HO},H5 b = some o -> (∀ x,o ≠ .dT x) -> H6 b = some o:=fun e n => b6 _ _ (fun y => by rw [y,fd5] at e; exact n _ (Option.some.inj e).symm) e
     refine .inr ⟨hh,lc,tp,l,none3 n1,none3 n2,hlH,k6 g1 (fun _ y => by cases y),k6 g2 (fun _ y => by cases y),k6 g3 (fun _ y => by cases y),k6 (f5 _ _ ?_ (fun y => by rw [y,mc3] at hl3; cases hl3) hl3) (fun _ y => by cases y),rfl,?_⟩
     ·exact fun y => by rw [y,hca] at hlH; cases hlH
     ·exact c8o vd g5 fun x o n _ _ _ _ e => k6 e n
   rcases wo with _ | ⟨js,vv⟩
   ·have hn:∀ vv,(none:Option (List Int × V)) ≠ some (is,vv):=fun _ y => by cases y
    refine .inr ⟨.inl hw,fun H5 v lc tp f5 n1 g1 g2 n2 g3 g4 g5 => ?_⟩
    obtain ⟨d5,H6,r1,r2,r3,r4⟩:=called hn H5 v lc tp f5 n1 g1 g2 n2 g3 g4 g5
    exact ⟨_,rfl,X.fi,CF,d5,_,_,rfl,r1,Y.cl,Y.n_found,(a8Q _ _ _).2.1,_,rfl,X.fd,H6,rfl,r2,_,rfl,tr,CR,d3,_,_,rfl,r3,R.cl,R.n_lacking,a3,r4⟩
   ·have hw:Was H mk (p:Int) js vv:=hw
    by_cases hj:js = is
    ·subst hj
     refine .inl ⟨vv,was3 hw,?_⟩
     obtain ⟨d5,H6,r1,r2,r3,r4⟩:=fin H3 vv mk (fun x o _ _ e => e) mc3 G.ml (fun H6 b6 => by
      rw [ht]
      exact .inl ⟨rfl,rfl,b6 _ _ (fun y => by rw [y,fd3] at ca3; cases ca3) ca3⟩)
     exact ⟨_,rfl,X.fi,CF,d5,_,_,rfl,r1,Y.cl,Y.n_found,(a8Q _ _ _).2.1,_,rfl,X.fd,H6,rfl,r2,_,rfl,tr,CR,d3,_,_,rfl,r3,R.cl,R.n_lacking,a3,r4⟩
    ·refine .inr ⟨.inr ⟨js,vv,was3 hw,hj⟩,fun H5 v lc tp f5 n1 g1 g2 n2 g3 g4 g5 => ?_⟩
     obtain ⟨d5,H6,r1,r2,r3,r4⟩:=called (fun v2 y => hj (congrArg (·.1) (Option.some.inj y))) H5 v lc tp f5 n1 g1 g2 n2 g3 g4 g5
     exact ⟨_,rfl,X.fi,CF,d5,_,_,rfl,r1,Y.cl,Y.n_found,(a8Q _ _ _).2.1,_,rfl,X.fd,H6,rfl,r2,_,rfl,tr,CR,d3,_,_,rfl,r3,R.cl,R.n_lacking,a3,r4⟩
end
end My
set_option maxHeartbeats 1000000
namespace My
open PySem L2
section
variable {P:Program} {w:World} {K:PySem.W.Frag} {mg:Str -> Option Value} {base:Heap}
def spVo (CF:Addr) (sp:Sp):Sp:=fun vs H Q _ => ∃ (fi ce bd fd lk d0:Addr) (ky:Ky),vs = [.ref fi,.ref ce] /\ H fi = some (.ins CF d0 (ffl bd fd lk)) /\
 ∀ H1 wl,H wl = none -> Same H H1 -> H1 wl = some (.lst [.ref ce]) -> sp [.ref fi,.ref ce] H1 (fun v H2 => v = .non /\ ∃ d2 kf v2,H2 wl = some (.lst [.ref ce]) /\ H2 fi = some (.ins CF d2 (ffl bd fd lk)) /\ H2 fd = some (.dT kf) /\ H2 ce = some (.tup (ky.map kV)) /\ valV kf ky = some v2 /\ ∀ H3,But wl H2 H3 -> Q v2 H3) E0
abbrev Nvo:List Str:=["self", "cell", "waiting", "lacking"]
theorem a3z:a0l Nvo ["self", "cell"] (a0b a1C):=⟨rfl,rfl,rfl,by decide +kernel,rfl,by decide +kernel,by decide +kernel⟩
theorem b9J (T:Tops K mg) {CF:Addr} (Y:a03 K mg CF) {k:Nat} {sp:Sp} (mono:Mono sp) (G:a0k P w K mg base CX0 k CF "attempt" ["self", "cell"] sp):a0k P w K mg base CX0 (k + 1) CF "value_of" ["self", "cell"] (spVo CF sp):=by
 refine Y.m_value_of.known a3z (fun _ _ _ _ _ _ us hl => match us,hl with | [_,_],_ => rfl) (fun vs H Q E h => ?_) (fun f cdv A outer s H vs Q E hr h => ?_)
 ·obtain ⟨fi,ce,bd,fd,lk,d0,ky,rfl,_⟩:=h
  rfl
 ·obtain ⟨fi,ce,bd,fd,lk,d0,ky,rfl,hfi,q⟩:=h
  have hu:=a2I hr
  refine ⟨_,(a0d (a0B (i:=2) a3z.nd rfl (Or.inl rfl) (a2K (a0a (pv 1) a0f)))
   (a0d (c0l PassesOwn.never (c6i (pv 2) (fun _ => rfl)) (a0d (a0B (i:=3) a3z.nd rfl (Or.inl rfl) (a0s (pv 0) Y.cl G hr a0r (a0a (a1P a1T (pv 2) (d0Y c8a a0p) (fun _ _ => rfl)) a0f)))
   (a0e (a0E (a0A b9K (pv 3) a6q (a0Z _)) (a0e (a0t (c7x PySem.F.plainAttrs_list PySem.F.slot_list_pop PySem.F.type_list_pop d1s (pv 2)))) (a0e a0y)))))
   (a0e (a0v (a00 hu (a0n (pv 0) rfl) (pv 1) (fun _ _ => rfl)))))),?_⟩
  refine ⟨_,rfl,sl,fun wl hwl => ?_⟩
  have s1:=Same.new (o:=.lst [.ref ce]) hwl
  have w1:upd H wl (.lst [.ref ce]) wl = some (.lst [.ref ce]):=a0c
  generalize upd H wl (.lst [.ref ce]) = H1 at s1 w1 ⊢
  have q1:=q H1 wl hwl s1 w1
  let Wf:Nat -> St -> Hp -> Prop:=fun m σ H2 => (m = 1 /\ σ = [some (.ref fi),some (.ref ce),some (.ref wl),none] /\ H2 = H1) ∨ (m = 0 /\ σ = [some (.ref fi),some (.ref ce),some (.ref wl),some .non] /\ ∃ d2 kf v2,H2 wl = some (.lst []) /\ H2 fi = some (.ins CF d2 (ffl bd fd lk)) /\ H2 fd = some (.dT kf) /\ H2 ce = some (.tup (ky.map kV)) /\ valV kf ky = some v2 /\ Q v2 H2)
  refine ⟨Wf,⟨1,.inl ⟨rfl,rfl,rfl⟩⟩,?_⟩
  rintro m σ H2 (⟨rfl,rfl,rfl⟩ | ⟨rfl,rfl,d2,kf,v2,h1,h2,h3,h4,h5,h6⟩)
  ·refine ⟨_,rfl,_,.inl ⟨_,SqL.of w1,rfl⟩,?_⟩
   refine ite2 (fun g => ?_) (fun g => absurd rfl g)
   refine ⟨fun σ' H' => ∃ m',m' < 1 /\ Wf m' σ' H',fun σ' H' h => h,?_⟩
   refine ⟨_,rfl,fi,d0,_,rfl,s1 _ _ hfi,b3u,_,rfl,_,rfl,wl,_,_,_,rfl,rfl,SqL.of w1,rfl,?_⟩
   refine mono _ _ _ _ (fun v H3 hQ => ?_) q1
   obtain ⟨rfl,d2,kf,v2,h1,h2,h3,h4,h5,h6⟩:=hQ
   refine ⟨_,rfl,rfl,_,rfl,iteT ?_⟩
   refine ⟨_,rfl,.inl ⟨rfl,_,SqL.of h1⟩,wl,_,_,rfl,rfl,h1,rfl,?_⟩
   have u:But wl H3 (upd H3 wl (.lst [])):=fun b o n e => by rw [a0g n]; exact e
   refine ⟨0,by decide,.inr ⟨rfl,rfl,d2,kf,v2,a0c,u _ _ (fun y => by rw [y,h1] at h2; cases h2) h2,u _ _ (fun y => by rw [y,h1] at h3; cases h3) h3,u _ _ (fun y => by rw [y,h1] at h4; cases h4) h4,h5,h6 _ u⟩⟩
  ·refine ⟨_,rfl,_,.inl ⟨_,SqL.of h1,rfl⟩,?_⟩
   refine ite2 (fun g => by cases g) (fun g => ?_)
   refine ⟨_,rfl,fi,CF,d2,_,_,rfl,h2,Y.cl,Y.n_found,(a8Q _ _ _).2.1,_,rfl,fd,v2,rfl,.inr ⟨kf,ky,ce,.inl h3,rfl,h4,h5.symm⟩,h6⟩
theorem c8l {CF CB CT:Addr}:Mono (c7M CF CB CT):=fun vs H Q Q' hQ h => by
 obtain ⟨fi,bd,fd,lk,ce,nm,c,p,B,kf,r,v,a1,a2,a3,a4,a5,q⟩:=h
 exact ⟨fi,bd,fd,lk,ce,nm,c,p,B,kf,r,v,a1,a2,a3,a4,a5,hQ _ _ q⟩
theorem c9u {CF CB CT CG zt:Addr}:Mono (d0c P w K mg base CF CB CT CG zt):=fun vs H Q Q' hQ h => by
 obtain ⟨X,ce,p,kf,kl,mk,cs,wo,a1,a2,a3,a4,a5,a6,a7,a8,a9,a10,q⟩:=h
 exact ⟨X,ce,p,kf,kl,mk,cs,wo,a1,a2,a3,a4,a5,a6,a7,a8,a9,a10,fun H' v kf' kl' mk' b1 b2 b3 b4 b5 b6 => hQ _ _ (q H' v kf' kl' mk' b1 b2 b3 b4 b5 b6)⟩
end
end My
set_option maxHeartbeats 1000000
namespace My
open PySem L2
section
variable {P:Program} {w:World} {K:PySem.W.Frag} {mg:Str -> Option Value} {base:Heap}
def ShAt (CS CB CT:Addr) (s bd ch fi:Addr) (kb:List (Key × V)) (nm:Str) (B:BM) (H:Hp):Prop:=(∃ dx,H s = some (.ins CS dx (sfl bd ch fi))) /\ H bd = some (.dK kb) /\ Nl nm /\ valV kb (.inr nm:Key) = some (.ref B.b) /\ BAt CB CT H B
def d1i (CS CB CT:Addr):Sp:=fun vs H Q _ => ∃ (s bd ch fi:Addr) (kb:List (Key × V)) (nm t:Str) (p:Nat) (B:BM),vs = [.ref s,.str nm,.str t,.int (p:Int)] /\ ShAt CS CB CT s bd ch fi kb nm B H /\ Nl t /\ t ∈ B.ord /\ p < B.xs.length /\ ∀ H',Same H H' -> Q .non H'
theorem b2H:a0l ["self", "table", "column", "place"] ["self", "table", "column", "place"] (a0b a1i):=⟨rfl,rfl,rfl,by decide +kernel,rfl,by decide +kernel,by decide +kernel⟩
theorem a1e (T:Tops K mg) {CS CB CT:Addr} (Y:a29 K mg CS) (W:a0R K mg CB) (Z:a1g K mg CT):a0k P w K mg base CX0 4 CS "check_cell" ["self", "table", "column", "place"] (d1i CS CB CT):=by
 have G_with:a0k P w K mg base CX0 3 CS "board_with" ["self", "table", "column"] (c8M CS CB CT):=a0T T Y W
 have G_pl:a0C P w K mg base CX0 2 "check_place" ["place", "places"] b7q:=a1f T
 have G_many:a0k P w K mg base CX0 1 CT "many" ["self"] (b5A CT):=a0P T Z
 refine Y.m_check_cell.known b2H (fun _ _ _ _ _ _ us hl => match us,hl with | [_,_,_,_],_ => rfl) (fun vs H Q E h => ?_) (fun f cdv A outer s H vs Q E hr h => ?_)
 ·obtain ⟨s',bd,ch,fi,kb,nm,t,p,B,rfl,_⟩:=h
  rfl
 ·obtain ⟨s',bd,ch,fi,kb,nm,t,p,B,rfl,hS,ht,hm,hp,q⟩:=h
  refine ⟨_,a0e (a0t (a0o G_pl (hr.mono (by decide)) a0r (a0a (pv 3) (a0a (a4R (a0n (a0s (pv 0) Y.cl G_with hr a0r (a0a (pv 1) (a0a (pv 2) a0f))) rfl) Z.cl G_many (hr.mono (by decide)) a0r) a0f)))),?_⟩
  obtain ⟨dx,hs⟩:=hS.1
  refine ⟨_,rfl,_,rfl,s',dx,_,rfl,hs,a3b,_,rfl,_,rfl,s',bd,ch,fi,dx,kb,nm,t,B,rfl,hs,hS.2.1,hS.2.2.1,hS.2.2.2.1,hS.2.2.2.2,ht,hm,fun H1 s1 => ?_⟩
  obtain ⟨dB,hb⟩:=hS.2.2.2.2.at_
  obtain ⟨dT,hT⟩:=hS.2.2.2.2.tab.at_
  exact ⟨B.b,CB,dB,_,_,rfl,s1 _ _ hb,W.cl,W.n_given,(a1l _ _ _ _).1,B.g,dT,_,rfl,s1 _ _ hT,a3y,B.g,B.r,B.e,B.xs,B.n,B.kvs,rfl,hS.2.2.2.2.tab.same s1,p,B.xs.length,rfl,hp,q H1 s1⟩
def spSc (CS CF CB CT:Addr) (sp:Sp):Sp:=fun vs H Q _ => ∃ (s bd ch fi df:Addr) (kb:List (Key × V)) (nm t:Str) (p:Nat) (B:BM) (fs:List (Str × V)),vs = [.ref s,.str nm,.str t,.int (p:Int)] /\ ShAt CS CB CT s bd ch fi kb nm B H /\ Nl t /\ t ∈ B.ord /\ p < B.xs.length /\ H fi = some (.ins CF df fs) /\ fs.lookup ("value_of" : Str) = none /\
 ∀ H1 ce,H ce = none -> Same H H1 -> H1 ce = some (.tup ((a0u nm t p).map kV)) -> sp [.ref fi,.ref ce] H1 Q E0
theorem c1r:a0l ["self", "table", "column", "place"] ["self", "table", "column", "place"] (a0b a42):=⟨rfl,rfl,rfl,by decide +kernel,rfl,by decide +kernel,by decide +kernel⟩
theorem a22 (T:Tops K mg) {CS CF CB CT:Addr} (Y:a29 K mg CS) (F:a03 K mg CF) (W:a0R K mg CB) (Z:a1g K mg CT) {k:Nat} {sp:Sp} (hk:4 <= k) (G:a0k P w K mg base CX0 k CF "value_of" ["self", "cell"] sp):a0k P w K mg base CX0 (k + 1) CS "cell" ["self", "table", "column", "place"] (spSc CS CF CB CT sp):=by
 have G_chk:a0k P w K mg base CX0 4 CS "check_cell" ["self", "table", "column", "place"] (d1i CS CB CT):=a1e T Y W Z
 refine Y.m_cell.known c1r (fun _ _ _ _ _ _ us hl => match us,hl with | [_,_,_,_],_ => rfl) (fun vs H Q E h => ?_) (fun f cdv A outer s H vs Q E hr h => ?_)
 ·obtain ⟨s',bd,ch,fi,df,kb,nm,t,p,B,fs,rfl,_⟩:=h
  rfl
 ·obtain ⟨s',bd,ch,fi,df,kb,nm,t,p,B,fs,rfl,hS,ht,hm,hp,hfi,hno,q⟩:=h
  refine ⟨_,a0d (a0t (a0s (pv 0) Y.cl G_chk (hr.mono hk) a0r (a0a (pv 1) (a0a (pv 2) (a0a (pv 3) a0f)))))
   (a0e (a0v (a0s (a0n (pv 0) rfl) F.cl G hr a0r (a0a (a7e (a0a (pv 1) (a0a (pv 2) (a0a (pv 3) a0f)))) a0f)))),?_⟩
  obtain ⟨dx,hs⟩:=hS.1
  refine ⟨_,rfl,s',dx,_,rfl,hs,a3b,_,rfl,_,rfl,_,rfl,s',bd,ch,fi,kb,nm,t,p,B,rfl,hS,ht,hm,hp,fun H1 s1 => ?_⟩
  refine ⟨_,rfl,s',CS,dx,_,_,rfl,s1 _ _ hs,Y.cl,Y.n_finder,(b3q _ _ _).2.2.1,fi,df,fs,rfl,s1 _ _ hfi,hno,_,rfl,_,rfl,_,rfl,sl,fun ce hce => ?_⟩
  exact q _ ce (a0M s1 hce) (s1.trans (Same.new hce)) a0c
theorem WasO.same {H H':Hp} {mk:List (Key × V)} {p:Int}:∀ {wo:Option (List Int × V)},WasO H mk p wo -> Same H H' -> WasO H' mk p wo
 | none,h,_ => h
 | some jv,⟨tp,lo,a,b,c⟩,s => ⟨tp,lo,a,s _ _ b,s _ _ c⟩
theorem GxAt.same {CF CB CT CG:Addr} {X:Gx} {kf kl:List (Ky × V)} {mk:List (Key × V)} {H H':Hp} (G:GxAt P w K mg base CF CB CT CG X kf kl mk H) (s:Same H H'):GxAt P w K mg base CF CB CT CG X kf kl mk H' :=
 ⟨G.F.same s,G.ko,G.fo,s _ _ G.hl,G.lo,fun c ys g => let ⟨l,a,b⟩:=G.cols c ys g; ⟨l,a,s _ _ b⟩,G.gr.imp fun _ e => s _ _ e,G.fn.keep (a3a.of s),G.pk.keep (a1u.of s),G.pn.keep (a1u.of s),s _ _ G.mc,G.ml⟩
theorem Ends.to {X:Gx} {p:Nat} {wo:Option (List Int × V)} {mk mk':List (Key × V)} {cs:List V} {v:V} {H H1 H2 H3:Hp} {wl:Addr} {zs:List V} (s:Same H H1) (w1:H1 wl = some (.lst zs)) (w2:H2 wl = some (.lst zs)) (hwl:H wl = none) (b:But wl H2 H3) (cn:H X.ca ≠ none) :
 ∀ {told:PyData ⊕ List Int},(∀ is,told = .inr is -> Vd (setD (X.g is))) -> Ends K X p wo mk mk' cs v H1 H2 told -> Ends K X p wo mk mk' cs v H H3 told
 | .inl d,_,⟨a1,a2,a3⟩ => ⟨a1.keep (fun a xs e => b _ _ (fun y => by rw [y,w2] at e; cases e) e),a2,b _ _ (fun y => cn (y ▸ hwl)) a3⟩
 | .inr is,_,.inl ⟨a1,a2,a3⟩ => .inl ⟨a1,a2,b _ _ (fun y => cn (y ▸ hwl)) a3⟩
 | .inr is,hv,.inr ⟨a1,lc,tp,sm,a2,a3,a4,a5,a6,a7,a8,a9,a10⟩ => by
  have nw:∀ {x:Addr},H1 x = none -> x ≠ wl:=fun e y => by rw [y,w1] at e; cases e
  refine .inr ⟨a1,lc,tp,sm,a0M s a2,a0M s a3,a0M s a4,b _ _ (fun y => cn (y ▸ hwl)) a5,b _ _ (nw a2) a6,b _ _ (nw a3) a7,b _ _ (nw a4) a8,a9,?_⟩
  exact c8o (hv is rfl) a10 fun x o _ _ n _ _ e => b _ _ (fun y => by rw [y,w2] at e; exact n _ (Option.some.inj e).symm) e
theorem c87 {CS CF CB CT CG:Addr} {X:Gx} {s ch:Addr} {kb:List (Key × V)} {kf kl:List (Ky × V)} {mk:List (Key × V)} {H:Hp} {Q:VK} {p:Nat} {v:V} (O:GxOk X) (G:GxAt P w K mg base CF CB CT CG X kf kl mk H) (hS:ShAt CS CB CT s X.bd ch X.fi kb X.nm X.B H) (nc:Nl X.c) (co:X.c ∈ X.B.ord) (hp:p < X.B.xs.length) (hv:valV kf (a0u X.nm X.c p) = some v) (q:∀ H',Same H H' -> Q v H') :
 spSc CS CF CB CT (spVo CF (c7M CF CB CT)) [.ref s,.str X.nm,.str X.c,.int (p:Int)] H Q E0:=by
 obtain ⟨df,hfi⟩:=G.F.fin
 refine ⟨s,X.bd,ch,X.fi,df,kb,X.nm,X.c,p,X.B,_,rfl,hS,nc,co,hp,hfi,b3u,fun H1 ce hce s1 c1 => ?_⟩
 refine ⟨X.fi,ce,X.bd,X.fd,X.lk,df,a0u X.nm X.c p,rfl,s1 _ _ hfi,fun H2 wl hwl s2 w2 => ?_⟩
 have F2:=(G.F.same s1).same s2
 obtain ⟨d2,f2⟩:=F2.fin
 exact ⟨X.fi,X.bd,X.fd,X.lk,ce,X.nm,X.c,p,X.B,kf,_,v,rfl,F2,s2 _ _ c1,O.ru,hv,rfl,d2,kf,v,w2,f2,F2.fnd,s2 _ _ c1,hv,fun H3 b => q H3 fun x o e => b _ _ (fun y => by rw [y] at e; rw [s1 _ _ e] at hwl; cases hwl) (s2 _ _ (s1 _ _ e))⟩
theorem d2r {CS CF CB CT CG zt:Addr} {X:Gx} {s ch:Addr} {kb:List (Key × V)} {kf kl:List (Ky × V)} {mk:List (Key × V)} {H:Hp} {Q:VK} {p:Nat} {cs:List V} {wo:Option (List Int × V)} (O:GxOk X) (G:GxAt P w K mg base CF CB CT CG X kf kl mk H) (hS:ShAt CS CB CT s X.bd ch X.fi kb X.nm X.B H) (nc:Nl X.c) (co:X.c ∈ X.B.ord) (hp:p < X.B.xs.length) (hno:valV kf (a0u X.nm X.c p) = none) (tb:a8q qGd H zt) (hca:H X.ca = some (.lst cs)) (cl:cs.length < 900) (hw:WasO H mk (p:Int) wo)
 (q:∀ H' v kf' kl' mk',GxAt P w K mg base CF CB CT CG X kf' kl' mk' H' -> a8q qGd H' zt -> Fr5 X.fd X.lk zt X.ca X.mc H H' -> valV kf' (a0u X.nm X.c p) = some v -> (∀ c p',X.gv c = none -> (c ≠ X.c ∨ p' ≠ p) -> valV kf' (a0u X.nm c p') = valV kf (a0u X.nm c p')) -> Ends K X p wo mk mk' cs v H H' (a3e X.dk X.dn p) -> Q v H') :
 spSc CS CF CB CT (spVo CF (d0c P w K mg base CF CB CT CG zt)) [.ref s,.str X.nm,.str X.c,.int (p:Int)] H Q E0:=by
 obtain ⟨df,hfi⟩:=G.F.fin
 refine ⟨s,X.bd,ch,X.fi,df,kb,X.nm,X.c,p,X.B,_,rfl,hS,nc,co,hp,hfi,b3u,fun H1 ce hce s1 c1 => ?_⟩
 refine ⟨X.fi,ce,X.bd,X.fd,X.lk,df,a0u X.nm X.c p,rfl,s1 _ _ hfi,fun H2 wl hwl s2 w2 => ?_⟩
 have s12:=s1.trans s2
 have hwl0:H wl = none:=a0M s1 hwl
 have tk:∀ {z:Addr},a8q qGd H z -> a8q qGd H2 z:=fun h => b5F h fun b o _ _ _ e => s12 _ _ e
 refine ⟨X,ce,p,kf,kl,mk,cs,wo,rfl,O,G.same s12,s2 _ _ c1,hp,hno,tk tb,s12 _ _ hca,cl,hw.same s12,fun H3 v kf' kl' mk' G3 tb3 fr3 hv3 ru3 en3 => ⟨rfl,?_⟩⟩
 obtain ⟨d3,f3⟩:=G3.F.fin
 obtain ⟨Sz,tz,_⟩:=id tb
 have nw:∀ {x:Addr} {o:HO},H x = some o -> x ≠ wl:=fun e y => by rw [y,hwl0] at e; cases e
 have nwH:∀ {x:Addr},x ≠ wl -> wl ≠ x:=fun h => h.symm
 have w3:H3 wl = some (.lst [.ref ce]):=fr3 _ _ (nw G.F.fnd).symm (nw G.hl).symm (nw tz).symm (nw hca).symm (nw G.mc).symm w2
 have c3:H3 ce = some (.tup ((a0u X.nm X.c p).map kV)):=by
  have ne:∀ {x:Addr} {o:HO},H x = some o -> ce ≠ x:=fun e y => by rw [<- y,hce] at e; cases e
  exact fr3 _ _ (ne G.F.fnd) (ne G.hl) (ne tz) (ne hca) (ne G.mc) (s2 _ _ c1)
 refine ⟨d3,kf',v,w3,f3,G3.F.fnd,c3,hv3,fun H4 b4 => ?_⟩
 have fr4:Fr5 X.fd X.lk zt X.ca X.mc H H4:=fun x o n1 n2 n3 n4 n5 e => b4 _ _ (nw e) (fr3 _ _ n1 n2 n3 n4 n5 (s12 _ _ e))
 have k4:∀ {x:Addr} {o:HO},H3 x = some o -> (∀ y,o ≠ .lst y) -> H4 x = some o:=fun e n => b4 _ _ (fun y => by rw [y,w3] at e; exact n _ (Option.some.inj e).symm) e
 have ly:=Paired.length G.pk
 have ln:=Paired.length G.pn
 obtain ⟨_,_,_,l1⟩:=O.gc _ _ O.hk
 obtain ⟨_,_,_,l2⟩:=O.gc _ _ O.hn'
 refine q H4 v kf' kl' mk' (G.to O fr4 tb hca (k4 G3.F.fnd (fun _ y => by cases y)) (k4 G3.hl (fun _ y => by cases y)) (k4 G3.mc (fun _ y => by cases y)) G3.ko G3.lo G3.fo G3.ml) (b5F tb3 fun b o _ _ n e => k4 e n) fr4 hv3 ru3 ?_
 exact Ends.to s12 w2 w3 hwl0 b4 (by rw [hca]; exact fun y => by cases y) (fun is e => (O.gg is (c09 e (by omega) (by omega) G.pk.vd).1).2) en3
end
end My
set_option maxHeartbeats 1000000
namespace My
open PySem L2
theorem a7k {H:Hp} {a b:Addr} {o:HO} (h:upd H a o b = none):H b = none /\ b ≠ a:=by
 have:b ≠ a:=fun y => by rw [y,a0c] at h; cases h
 rw [a0g this] at h
 exact ⟨h,this⟩
section
variable {P:Program} {w:World} {K:PySem.W.Frag} {mg:Str -> Option Value} {base:Heap}
theorem d16 (bd ch fi:Addr):putF "finder" (.ref fi) (putF "changes" (.ref ch) (putF "boards" (.ref bd) [])) = sfl bd ch fi:=by
 rfl
def spSI (CS CF:Addr):Sp:=fun vs H Q _ => ∃ (p dx:Addr),vs = [.ref p] /\ H p = some (.ins CS dx []) /\
 ∀ H' bd ch fi fd lk df,(∀ x ∈ [bd,ch,fi,fd,lk],H x = none) -> fd ≠ lk -> H' p = some (.ins CS dx (sfl bd ch fi)) -> H' bd = some (.dK []) -> H' ch = some (.lst []) -> H' fi = some (.ins CF df (ffl bd fd lk)) -> H' fd = some (.dT []) -> H' lk = some (.dT []) -> But p H H' -> Q .non H'
theorem c05:a0l ["self"] ["self"] (a0b a4W):=⟨rfl,rfl,rfl,by decide +kernel,rfl,by decide +kernel,by decide +kernel⟩
theorem a4S (T:Tops K mg) {CS CF:Addr} (Y:a29 K mg CS) (Z:a03 K mg CF):a19 P w K mg base CX0 3 CS ["self"] (spSI CS CF):=by
 have GI:a19 P w K mg base CX0 1 CF ["self", "boards"] (spFI CF):=a2v T Z
 refine (Y.m_init.known c05 (fun _ _ _ _ _ _ us hl => match us,hl with | [_],_ => rfl) (fun vs H Q E h => ?_) (fun f cdv A outer s H vs Q E hr h => ?_)).init Y.mks Y.kc
 ·obtain ⟨p,dx,rfl,_⟩:=h
  rfl
 ·obtain ⟨p,dx,rfl,hp,q⟩:=h
  refine ⟨_,(a0d (a0S (pv 0) b3i rfl)
   (a0d (a0S (pv 0) (a2K a0f) rfl)
   (a0e (a0S (pv 0) (a4v GI hr Z.c a0r (a0a (a0n (pv 0) rfl) a0f)) rfl)))),?_⟩
  intro bd hbd
  have s1:=Same.new (o:=.dK []) hbd
  have b1:upd H bd (.dK []) bd = some (.dK []):=a0c
  have n1:∀ {b:Addr},upd H bd (.dK []) b = none -> H b = none /\ b ≠ bd:=a7k
  generalize upd H bd (.dK []) = H1 at s1 b1 n1 ⊢
  refine ⟨_,rfl,p,CS,dx,[],rfl,s1 _ _ hp,Y.cl,Y.n_boards,(by show 0 < 1000; decide),?_⟩
  have u2:But p H1 (upd H1 p (.ins CS dx (putF "boards" (.ref bd) []))):=fun b o n z => by rw [a0g n]; exact z
  have p2:upd H1 p (.ins CS dx (putF "boards" (.ref bd) [])) p = some (.ins CS dx (putF "boards" (.ref bd) [])):=a0c
  have n2:∀ {b:Addr},upd H1 p (.ins CS dx (putF "boards" (.ref bd) [])) b = none -> H1 b = none /\ b ≠ p:=a7k
  generalize upd H1 p (.ins CS dx (putF "boards" (.ref bd) [])) = H2 at u2 p2 n2 ⊢
  refine ⟨sl,fun ch hch => ?_⟩
  have s3:=Same.new (o:=.lst []) hch
  have c3:upd H2 ch (.lst []) ch = some (.lst []):=a0c
  have n3:∀ {b:Addr},upd H2 ch (.lst []) b = none -> H2 b = none /\ b ≠ ch:=a7k
  generalize upd H2 ch (.lst []) = H3 at s3 c3 n3 ⊢
  refine ⟨_,rfl,p,CS,dx,_,rfl,s3 _ _ p2,Y.cl,Y.n_changes,(by show 1 < 1000; decide),?_⟩
  have u4:But p H3 (upd H3 p (.ins CS dx (putF "changes" (.ref ch) (putF "boards" (.ref bd) [])))):=fun b o n z => by rw [a0g n]; exact z
  have p4:upd H3 p (.ins CS dx (putF "changes" (.ref ch) (putF "boards" (.ref bd) []))) p = some (.ins CS dx (putF "changes" (.ref ch) (putF "boards" (.ref bd) []))):=a0c
  have n4:∀ {b:Addr},upd H3 p (.ins CS dx (putF "changes" (.ref ch) (putF "boards" (.ref bd) []))) b = none -> H3 b = none /\ b ≠ p:=a7k
  generalize upd H3 p (.ins CS dx (putF "changes" (.ref ch) (putF "boards" (.ref bd) []))) = H4 at u4 p4 n4 ⊢
  have npb:bd ≠ p:=fun y => by rw [y,hp] at hbd; cases hbd
  have npc:ch ≠ p:=fun y => by rw [y,p2] at hch; cases hch
  refine ⟨_,rfl,p,CS,dx,_,_,rfl,p4,Y.cl,Y.n_boards,(show List.lookup ("boards" : Str) (putF "changes" (V.ref ch) (putF "boards" (V.ref bd) [])) = some (.ref bd) from rfl),?_⟩
  intro fi df hfi hdf ne
  refine ⟨fi,df,bd,rfl,a0c,fun H5 fd lk hfd hlk nfl g1 g2 g3 b5 => ⟨rfl,?_⟩⟩
  have s5:Same H4 H5:=fun b o z => b5 b o (a0h z hfi) (by rw [a0g (a0h z hfi),a0g (a0h z hdf)]; exact z)
  have fr:∀ {x:Addr},upd (upd H4 df (.own fi)) fi (.ins CF df []) x = none -> H4 x = none:=fun {x} z => (a7k (a7k z).1).1
  refine ⟨_,rfl,p,CS,dx,_,rfl,s5 _ _ p4,Y.cl,Y.n_finder,(by show 2 < 1000; decide),?_⟩
  rw [d16]
  have u6:But p H5 (upd H5 p (.ins CS dx (sfl bd ch fi))):=fun b o n z => by rw [a0g n]; exact z
  have dn:∀ {x:Addr},H4 x = none -> H x = none /\ x ≠ p:=fun z => ⟨(n1 (n2 (n3 (n4 z).1).1).1).1,(n4 z).2⟩
  have frs:=dn (fr hfd)
  have frl:=dn (fr hlk)
  have frf:=dn hfi
  have hc0:H ch = none:=(n1 (n2 hch).1).1
  refine q _ bd ch fi fd lk df (fun x hx => ?_) nfl a0c (u6 _ _ npb (s5 _ _ (u4 _ _ npb (s3 _ _ (u2 _ _ npb b1))))) (u6 _ _ npc (s5 _ _ (u4 _ _ npc c3))) (u6 _ _ frf.2 g1) (u6 _ _ frs.2 g2) (u6 _ _ frl.2 g3) (fun b o n z => u6 _ _ n (s5 _ _ (u4 _ _ n (s3 _ _ (u2 _ _ n (s1 _ _ z))))))
  simp only [List.mem_cons,List.not_mem_nil,or_false] at hx
  rcases hx with rfl | rfl | rfl | rfl | rfl
  ·exact hbd
  ·exact hc0
  ·exact frf.1
  ·exact frs.1
  ·exact frl.1
def b1L (CS:Addr) (s bd ch:Addr) (cs:List V) (kb:List (Key × V)) (H:Hp):Prop:=(∃ dx fi,H s = some (.ins CS dx (sfl bd ch fi))) /\ H ch = some (.lst cs) /\ H bd = some (.dK kb)
def c6I (CS CF:Addr) (s bd ch fi fd lk:Addr) (cs:List V) (kb:List (Key × V)) (H0 H:Hp):Prop:=(∃ dx,H s = some (.ins CS dx (sfl bd ch fi))) /\ H ch = some (.lst cs) /\ H bd = some (.dK kb) /\ (∃ df,H fi = some (.ins CF df (ffl bd fd lk))) /\ H fd = some (.dT []) /\ H lk = some (.dT []) /\ fd ≠ lk /\ H0 fi = none /\ H0 fd = none /\ H0 lk = none
def c7Z (CS CF CB CT:Addr):Sp:=fun vs H Q _ => ∃ (s bd ch:Addr) (cs:List V) (kb:List (Key × V)) (nm:Str) (m:Nat),vs = [.ref s,.str nm,.int (m:Int)] /\ b1L CS s bd ch cs kb H /\ cs.length < 900 /\ kb.length < 4 /\ Nl nm /\ valV kb (.inr nm:Key) = none /\ m <= 30 /\
 ∀ H' fi fd lk c b g r e ru me od,c6I CS CF s bd ch fi fd lk (cs ++ [.ref c]) (putK kb (.inr nm:Key) (.ref b)) H H' -> BAt CB CT H' ⟨b,g,r,e,ru,me,od,a3F 0 m,(m:Int),[],[],[],[]⟩ -> BM.sep ⟨b,g,r,e,ru,me,od,a3F 0 m,(m:Int),[],[],[],[]⟩ -> (∀ x ∈ [b,g,r,e,ru,me,od],H x = none) -> (∀ x o,x ≠ s -> x ≠ ch -> x ≠ bd -> H x = some o -> H' x = some o) -> Q .non H'
theorem b8r:a0l ["self", "name", "many"] ["self", "name", "many"] (a0b a3U):=⟨rfl,rfl,rfl,by decide +kernel,rfl,by decide +kernel,by decide +kernel⟩
theorem a3M (T:Tops K mg) {CS CF CB CT CC:Addr} (Y:a29 K mg CS) (Z:a03 K mg CF) (W:a0R K mg CB) (U:a1g K mg CT) (C:b00 K mg CC):a0k P w K mg base CX0 9 CS "table" ["self", "name", "many"] (c7Z CS CF CB CT):=by
 have G_is_name:a0C P w K mg base CX0 1 "is_name" ["thing"] (b3A K):=a1R T
 have G_size:a0C P w K mg base CX0 2 "check_size" ["many"] c7W:=a26 T
 have GI:a19 P w K mg base CX0 1 CC ["self", "boards", "name", "size"] (d1V CC):=a1M T C
 have G_make:a0k P w K mg base CX0 8 CS "make" ["self", "change"] (spMk CS CF CC (spTT CC CB CT)):=a1F T Y Z C.cl d0m (a1N T C W U)
 refine Y.m_table.known b8r (fun _ _ _ _ _ _ us hl => match us,hl with | [_,_,_],_ => rfl) (fun vs H Q E h => ?_) (fun f cdv A outer s H vs Q E hr h => ?_)
 ·obtain ⟨s',bd,ch,cs,kb,nm,m,rfl,_⟩:=h
  rfl
 ·obtain ⟨s',bd,ch,cs,kb,nm,m,rfl,hS,cl,kl,hn,hv,hm,q⟩:=h
  have hu:=a2I hr
  refine ⟨_,(a0d (a0E (PW.pt (b85 (a23 (a1w (a0o G_is_name (hr.mono (by decide)) a0r (a0a (pv 1) a0f)) (fun _ => rfl))) (b3E (a7S (b8g hu (pv 1) (a0n (pv 0) rfl)))))) (a0e a0y) a0q)
   (a0d (a0t (a0o G_size (hr.mono (by decide)) a0r (a0a (pv 2) a0f)))
   (a0d (a0E (a0A c9n (a0z c3n rfl T.len b6u (a0a (a0n (pv 0) rfl) a0f)) (c7t T.g_MOST_TABLES) (a0Z _)) (a0e a0y) a0q)
   (a0e (a0t (a0s (pv 0) Y.cl G_make hr a0r (a0a (a4v GI (hr.mono (by decide)) C.c a0r (a0a (a0n (pv 0) rfl) (a0a (pv 1) (a0a (pv 2) a0f)))) a0f))))))),?_⟩
  have h8:=hn.2.1
  obtain ⟨⟨dx,fi0,h1⟩,h2,h3⟩:=hS
  obtain ⟨a1,a2,a3,a4⟩:=b3q bd ch fi0
  refine ⟨_,rfl,_,.str nm,rfl,.str nm,a1D (by omega),fun H0 s9 => ⟨_,rfl,?_⟩⟩
  rw [show a8a (.str nm) = true from hn.name]
  have h1:=s9 _ _ h1
  have h2':=s9 _ _ h2
  have h3':=s9 _ _ h3
  refine iteF ⟨_,rfl,_,rfl,s',CS,dx,_,_,rfl,h1,Y.cl,Y.n_boards,a1,bd,_,rfl,DGet.k (k:=Sum.inr nm) h3',_,rfl,?_⟩
  rw [hv]
  refine iteF ⟨_,rfl,m,rfl,hm,?_⟩
  refine ⟨_,rfl,s',CS,dx,_,_,rfl,h1,Y.cl,Y.n_boards,a1,bd,kb,rfl,h3',_,_,rfl,rfl,_,rfl,?_⟩
  refine ite2 (fun g => absurd (of_decide_eq_true g) (by omega)) (fun g => ?_)
  refine ⟨_,rfl,s',dx,_,rfl,h1,a3b,_,rfl,s',CS,dx,_,_,rfl,h1,Y.cl,Y.n_boards,a1,_,rfl,_,rfl,?_⟩
  intro c dc hc hdc ne
  refine ⟨c,dc,bd,nm,m,rfl,a0c,fun H1 b1 c1 => ⟨rfl,?_⟩⟩
  have s1:Same H0 H1:=fun b o z => b1 b o (a0h z hc) (by rw [a0g (a0h z hc),a0g (a0h z hdc)]; exact z)
  refine ⟨s',c,bd,ch,fi0,dx,dc,cs,_,rfl,c1,(c6p _ _ _).2.2.2,c,dc,bd,nm,m,kb,rfl,c1,s1 _ _ h3',by omega,hm,fun H2 b g r e ru me od B2 sp2 fr2 bd2 u2 => ?_⟩
  have ns:s' ≠ bd:=fun y => by rw [y,h3'] at h1; cases h1
  have nc:ch ≠ bd:=fun y => by rw [y,h3'] at h2'; cases h2'
  have nsc:s' ≠ ch:=fun y => by rw [y,h2'] at h1; cases h1
  refine ⟨u2 _ _ ns (s1 _ _ h1),u2 _ _ nc (s1 _ _ h2'),cl,fun H3 fi fd lk df f1 f2 f3 nfl g1 g2 g3 g4 g5 u3 => ?_⟩
  have n0:∀ {x:Addr},H2 x = none -> H x = none:=fun {x} e => by
   cases e2:H x with
   | none => rfl
   | some o =>
    by_cases y:x = bd
    ·rw [y,bd2] at e; cases e
    ·rw [u2 _ _ y (s1 _ _ (s9 _ _ e2))] at e; cases e
  have k3:∀ {x:Addr} {o:HO},H2 x = some o -> x ≠ s' -> x ≠ ch -> H3 x = some o:=fun e n m => u3 _ _ n m e
  have fr:∀ x ∈ [b,g,r,e,ru,me,od],H x = none:=fun x hx => a0M (s9.trans s1) (fr2 x hx)
  have nb:∀ {x:Addr},x ∈ [b,g,r,e,ru,me,od] -> x ≠ s' /\ x ≠ ch:=fun hx => ⟨fun y => by {have:=s1 _ _ h1; rw [<- y,fr2 _ hx] at this; cases this},fun y => by {have:=s1 _ _ h2'; rw [<- y,fr2 _ hx] at this; cases this}⟩
  obtain ⟨⟨d1,e1⟩,⟨⟨d2,e2⟩,e3,e4⟩,e5,e6,e7⟩:=B2
  have kb2:∀ {x:Addr} {o:HO},x ∈ [b,g,r,e,ru,me,od] -> H2 x = some o -> H3 x = some o:=fun hx e => k3 e (nb hx).1 (nb hx).2
  exact q H3 fi fd lk c b g r e ru me od ⟨⟨dx,g1⟩,g2,k3 bd2 ns.symm nc.symm,⟨df,g3⟩,g4,g5,nfl,n0 f1,n0 f2,n0 f3⟩ ⟨⟨d1,kb2 (by simp) e1⟩,⟨⟨d2,kb2 (by simp) e2⟩,kb2 (by simp) e3,kb2 (by simp) e4⟩,kb2 (by simp) e5,kb2 (by simp) e6,kb2 (by simp) e7⟩ sp2 fr (fun x o n1 n2 n3 e => k3 (u2 _ _ n3 (s1 _ _ (s9 _ _ e))) n1 n2)
end
end My
set_option maxHeartbeats 1000000
namespace My
open PySem L2
section
variable {P:Program} {w:World} {K:PySem.W.Frag} {mg:Str -> Option Value} {base:Heap}
theorem BAt.off {CS CB CT s ch:Addr} {cs:List V} {H H':Hp} {B:BM} (h:BAt CB CT H B) (hs:∃ dx bd ch' fi,H s = some (.ins CS dx (sfl bd ch' fi))) (hc:H ch = some (.lst cs)) (n1:ch ≠ B.r) (n2:ch ≠ B.od) (u:∀ x o,x ≠ s -> x ≠ ch -> H x = some o -> H' x = some o):BAt CB CT H' B:=by
 obtain ⟨dx,bd,ch',fi,hs⟩:=hs
 obtain ⟨⟨d1,e1⟩,⟨⟨d2,e2⟩,e3,e4⟩,e5,e6,e7⟩:=h
 have k:∀ {x:Addr} {o:HO},H x = some o -> (∀ a b c,o ≠ .ins a b c) -> x ≠ ch -> H' x = some o:=fun e n m => u _ _ (fun y => by rw [y,hs] at e; exact n _ _ _ (Option.some.inj e).symm) m e
 have nc:∀ {x:Addr} {o:HO},H x = some o -> (∀ a,o ≠ .lst a) -> x ≠ ch:=fun e n y => by rw [y,hc] at e; exact n _ (Option.some.inj e).symm
 refine ⟨⟨d1,u _ _ (c8b e1 hs (show 4 ≠ 3 by decide)) (nc e1 (fun _ y => by cases y)) e1⟩,⟨⟨d2,u _ _ (fun y => ?_) (nc e2 (fun _ y => by cases y)) e2⟩,k e3 (fun _ _ _ y => by cases y) n1.symm,k e4 (fun _ _ _ y => by cases y) (nc e4 (fun _ y => by cases y))⟩,k e5 (fun _ _ _ y => by cases y) (nc e5 (fun _ y => by cases y)),k e6 (fun _ _ _ y => by cases y) (nc e6 (fun _ y => by cases y)),k e7 (fun _ _ _ y => by cases y) n2.symm⟩
 rw [y,hs] at e2
 cases e2
structure c7k (bd ch:Addr) (B:BM):Prop where
 r:ch ≠ B.r
 o:ch ≠ B.od
 e:bd ≠ B.e
 u:bd ≠ B.ru
 m:bd ≠ B.me
def d00 (K:PySem.W.Frag) (CS CF CB CT:Addr):Sp:=fun vs H Q _ => ∃ (s bd ch a:Addr) (cs:List V) (kb:List (Key × V)) (nm t:Str) (ys:List V) (ds:List PyData) (B:BM),vs = [.ref s,.str nm,.str t,.ref a] /\ b1L CS s bd ch cs kb H /\ cs.length < 900 /\ Nl nm /\ valV kb (.inr nm:Key) = some (.ref B.b) /\ BAt CB CT H B /\ B.sep /\ c7k bd ch B /\ New B t /\ Nl t /\ H a = some (.lst ys) /\ a ≠ B.od /\ Pvs K H ys ds /\ ys.length = B.xs.length /\ ys.length <= 30 /\ B.kvs.length < 8 /\ B.ord.length < 8 /\
 ∀ H' fi fd lk c l,c6I CS CF s bd ch fi fd lk (cs ++ [.ref c]) kb H H' -> H l = none -> BAt CB CT H' { B with kvs:=putK B.kvs (.inr t:Key) (.ref l),ord:=B.ord ++ [t] } -> H' l = some (.lst ys) -> (∀ x o,x ≠ s -> x ≠ ch -> x ≠ B.od -> x ≠ B.e -> H x = some o -> H' x = some o) -> Q .non H'
theorem b3m:a0l ["self", "table", "column", "values", "board"] ["self", "table", "column", "values"] (a0b a4D):=⟨rfl,rfl,rfl,by decide +kernel,rfl,by decide +kernel,by decide +kernel⟩
theorem a4Q (T:Tops K mg) {CS CF CB CT CC:Addr} (Y:a29 K mg CS) (Z:a03 K mg CF) (W:a0R K mg CB) (U:a1g K mg CT) (C:a25 K mg CC):a0k P w K mg base CX0 9 CS "give" ["self", "table", "column", "values"] (d00 K CS CF CB CT):=by
 have G_for:a0k P w K mg base CX0 3 CS "board_for" ["self", "table", "column"] (d0U CS CB CT):=a01 T Y W
 have G_many:a0k P w K mg base CX0 1 CT "many" ["self"] (b5A CT):=a0P T U
 have G_cv:a0C P w K mg base CX0 4 "check_values" ["values", "many"] (b6X K):=a1S T
 have GI:a19 P w K mg base CX0 1 CC ["self", "board", "column", "content"] (d0S CC):=a1d T C
 have G_make:a0k P w K mg base CX0 8 CS "make" ["self", "change"] (spMk CS CF CC (spCS CC CB CT (c79 K CB CT))):=a1F T Y Z C.cl (c8s c8d) (a1b T C W (b5Q T W U))
 refine Y.m_give.known b3m (fun _ _ _ _ _ _ us hl => match us,hl with | [_,_,_,_],_ => rfl) (fun vs H Q E h => ?_) (fun f cdv A outer s H vs Q E hr h => ?_)
 ·obtain ⟨s',bd,ch,a,cs,kb,nm,t,ys,ds,B,rfl,_⟩:=h
  rfl
 ·obtain ⟨s',bd,ch,a,cs,kb,nm,t,ys,ds,B,rfl,hS,cl,hn,hv,hB,sep,ss,new,ht,ha,nao,hp,ly,l30,k8,o8,q⟩:=h
  refine ⟨_,(a0d (a0B (i:=4) b3m.nd rfl (Or.inl rfl) (a0s (pv 0) Y.cl G_for (hr.mono (by decide)) a0r (a0a (pv 1) (a0a (pv 2) a0f))))
   (a0d (a0t (a0o G_cv (hr.mono (by decide)) a0r (a0a (pv 3) (a0a (a4R (a0n (pv 4) rfl) U.cl G_many (hr.mono (by decide)) a0r) a0f))))
   (a0e (a0t (a0s (pv 0) Y.cl G_make hr a0r (a0a (a4v GI (hr.mono (by decide)) C.c a0r (a0a (pv 4) (a0a (pv 2) (a0a (pv 3) a0f)))) a0f)))))),?_⟩
  obtain ⟨⟨dx,fi0,h1⟩,h2,h3⟩:=hS
  refine ⟨_,rfl,s',dx,_,rfl,h1,a3b,_,rfl,_,rfl,s',bd,ch,fi0,dx,kb,nm,t,B,rfl,h1,h3,hn,hv,hB,ht,o8,fun H1 s1 => ?_⟩
  obtain ⟨dB,b1⟩:=(hB.same s1).at_
  obtain ⟨dT,t1⟩:=(hB.same s1).tab.at_
  refine ⟨_,rfl,_,rfl,B.b,CB,dB,_,_,rfl,b1,W.cl,W.n_given,(a1l _ _ _ _).1,B.g,dT,_,rfl,t1,a3y,B.g,B.r,B.e,B.xs,B.n,B.kvs,rfl,(hB.same s1).tab,?_⟩
  refine ⟨a,ys,ds,by rw [ly]; rfl,SqL.of (s1 _ _ ha),hp.keep (a1u.of s1),by omega,fun H2 s2 => ?_⟩
  have s12:=s1.trans s2
  refine ⟨_,rfl,s',dx,_,rfl,s12 _ _ h1,a3b,_,rfl,_,rfl,_,rfl,?_⟩
  intro c dc hc hdc ne
  refine ⟨c,dc,B.b,a,t,rfl,a0c,fun H3 b3 c3 => ⟨rfl,?_⟩⟩
  have s3:Same H H3:=fun b o z => b3 b o (a0h (s12 _ _ z) hc) (by rw [a0g (a0h (s12 _ _ z) hc),a0g (a0h (s12 _ _ z) hdc)]; exact s12 _ _ z)
  have hB3:=hB.same s3
  refine ⟨s',c,bd,ch,fi0,dx,dc,cs,_,rfl,c3,(c7Y _ _ _).2.2.2.1,c,dc,a,B,t,rfl,c3,hB3,new,B,t,a,ys,ds,rfl,hB3,sep,new,ht,s3 _ _ ha,nao,hp.keep (a1u.of s3),ly,l30,k8,by omega,fun H4 l hl B4 l4 u4 => ?_⟩
  have hB0:=hB.ord
  have he0:=hB.tab.kept
  have k4:∀ {x:Addr} {o:HO},H x = some o -> x ≠ B.od -> x ≠ B.e -> H4 x = some o:=fun e n m => u4 _ _ n m (s3 _ _ e)
  have ns:s' ≠ B.od /\ s' ≠ B.e:=⟨fun y => by {rw [y,hB0] at h1; cases h1},fun y => by {rw [y,he0] at h1; cases h1}⟩
  have nce:ch ≠ B.e:=fun y => by rw [y,he0] at h2; cases h2
  have nbo:bd ≠ B.od:=fun y => by rw [y,hB0] at h3; cases h3
  have ns4:=k4 h1 ns.1 ns.2
  have ch4:=k4 h2 ss.o nce
  refine ⟨ns4,ch4,cl,fun H5 fi fd lk df f1 f2 f3 nfl g1 g2 g3 g4 g5 u5 => ?_⟩
  have nn:∀ {x:Addr},H4 x = none -> H x = none:=fun {x} e => by
   cases e2:H x with
   | none => rfl
   | some o =>
    by_cases y:x = B.od
    ·rw [y,B4.ord] at e; cases e
    ·by_cases y2:x = B.e
     ·rw [y2,B4.tab.kept] at e; cases e
     ·rw [k4 e2 y y2] at e; cases e
  have hl0:H l = none:=a0M s3 hl
  have nl:l ≠ s' /\ l ≠ ch:=⟨fun y => by {rw [y,h1] at hl0; cases hl0},fun y => by {rw [y,h2] at hl0; cases hl0}⟩
  have nb:bd ≠ s' /\ bd ≠ ch:=⟨fun y => by {rw [y,h1] at h3; cases h3},fun y => by {rw [y,h2] at h3; cases h3}⟩
  exact q H5 fi fd lk c l ⟨⟨dx,g1⟩,g2,u5 _ _ nb.1 nb.2 (k4 h3 nbo ss.e),⟨df,g3⟩,g4,g5,nfl,nn f1,nn f2,nn f3⟩ hl0 (B4.off ⟨dx,bd,ch,fi0,ns4⟩ ch4 ss.r ss.o u5) (u5 _ _ nl.1 nl.2 l4) (fun x o n1 n2 n3 n4 e => u5 _ _ n1 n2 (k4 e n3 n4))
def c9S (K:PySem.W.Frag) (CS CF CB CT:Addr):Sp:=fun vs H Q _ => ∃ (s bd ch l:Addr) (cs:List V) (kb:List (Key × V)) (nm t:Str) (p:Nat) (v:V) (d:PyData) (ys:List V) (B:BM),vs = [.ref s,.str nm,.str t,.int (p:Int),v] /\ b1L CS s bd ch cs kb H /\ cs.length < 900 /\ Nl nm /\ valV kb (.inr nm:Key) = some (.ref B.b) /\ BAt CB CT H B /\ c7k bd ch B /\ Nl t /\ t ∈ B.ord /\ valV B.rus (.inr t:Key) = none /\ valV B.kvs (.inr t:Key) = some (.ref l) /\ H l = some (.lst ys) /\ p < B.xs.length /\ ys.length = B.xs.length /\ Pv K H v d /\ l ≠ ch /\ l ≠ B.r /\ l ≠ B.od /\
 ∀ H' fi fd lk c,c6I CS CF s bd ch fi fd lk (cs ++ [.ref c]) kb H H' -> BAt CB CT H' B -> H' l = some (.lst (ys.set p v)) -> (∀ x o,x ≠ s -> x ≠ ch -> x ≠ l -> H x = some o -> H' x = some o) -> Q .non H'
theorem b5K:a0l ["self", "table", "column", "place", "value", "board"] ["self", "table", "column", "place", "value"] (a0b a6V):=⟨rfl,rfl,rfl,by decide +kernel,rfl,by decide +kernel,by decide +kernel⟩
theorem a6a (T:Tops K mg) {CS CF CB CT CC:Addr} (Y:a29 K mg CS) (Z:a03 K mg CF) (W:a0R K mg CB) (U:a1g K mg CT) (C:a6O K mg CC):a0k P w K mg base CX0 9 CS "put" ["self", "table", "column", "place", "value"] (c9S K CS CF CB CT):=by
 have G_with:a0k P w K mg base CX0 3 CS "board_with" ["self", "table", "column"] (c8M CS CB CT):=a0T T Y W
 have GI:a19 P w K mg base CX0 1 CC ["self", "board", "column", "place", "value"] (d12 CC):=a18 T C
 have G_make:a0k P w K mg base CX0 8 CS "make" ["self", "change"] (spMk CS CF CC (spVP K CC CB CT)):=a1F T Y Z C.cl c97 (a2g T C W U)
 refine Y.m_put.known b5K (fun _ _ _ _ _ _ us hl => match us,hl with | [_,_,_,_,_],_ => rfl) (fun vs H Q E h => ?_) (fun f cdv A outer s H vs Q E hr h => ?_)
 ·obtain ⟨s',bd,ch,l,cs,kb,nm,t,p,v,d,ys,B,rfl,_⟩:=h
  rfl
 ·obtain ⟨s',bd,ch,l,cs,kb,nm,t,p,v,d,ys,B,rfl,hS,cl,hn,hv,hB,ss,ht,to,hru,hkv,hl,hp,ly,hpv,nlc,nlr,nlo,q⟩:=h
  have hu:=a2I hr
  refine ⟨_,(a0d (a0B (i:=5) b5K.nd rfl (Or.inl rfl) (a0s (pv 0) Y.cl G_with (hr.mono (by decide)) a0r (a0a (pv 1) (a0a (pv 2) a0f))))
   (a0d (a0E (a7S (b8g hu (pv 2) (a0n (pv 5) rfl))) (a0e a0y) a0q)
   (a0e (a0t (a0s (pv 0) Y.cl G_make hr a0r (a0a (a4v GI (hr.mono (by decide)) C.c a0r (a0a (pv 5) (a0a (pv 2) (a0a (pv 3) (a0a (pv 4) a0f))))) a0f)))))),?_⟩
  obtain ⟨⟨dx,fi0,h1⟩,h2,h3⟩:=hS
  refine ⟨_,rfl,s',dx,_,rfl,h1,a3b,_,rfl,_,rfl,s',bd,ch,fi0,dx,kb,nm,t,B,rfl,h1,h3,hn,hv,hB,ht,to,fun H1 s1 => ?_⟩
  obtain ⟨dB,b1⟩:=(hB.same s1).at_
  refine ⟨_,rfl,_,rfl,B.b,CB,dB,_,_,rfl,b1,W.cl,W.n_rules,(a1l _ _ _ _).2.1,B.ru,_,rfl,DGet.k (k:=Sum.inr t) (hB.same s1).rul,_,rfl,?_⟩
  rw [hru]
  refine iteF ?_
  refine ⟨_,rfl,s',dx,_,rfl,s1 _ _ h1,a3b,_,rfl,_,rfl,_,rfl,_,rfl,?_⟩
  intro c dc hc hdc ne
  refine ⟨c,dc,B.b,t,p,v,rfl,a0c,fun H3 b3 c3 => ⟨rfl,?_⟩⟩
  have s3:Same H H3:=fun b o z => b3 b o (a0h (s1 _ _ z) hc) (by rw [a0g (a0h (s1 _ _ z) hc),a0g (a0h (s1 _ _ z) hdc)]; exact s1 _ _ z)
  have hB3:=hB.same s3
  refine ⟨s',c,bd,ch,fi0,dx,dc,cs,_,rfl,c3,(c8k _ _ _ _ _).2.2.2.2.1,c,dc,l,B,t,p,v,.non,d,ys,rfl,c3,hB3,ht,hkv,s3 _ _ hl,hp,ly,hpv.keep (a1u.of s3),fun H4 u4 l4 => ?_⟩
  have hc0:H c = none:=a0M s1 hc
  have k4:∀ {x:Addr} {o:HO},H x = some o -> x ≠ l -> H4 x = some o:=fun e n => u4 _ _ (fun y => by rw [y,hc0] at e; cases e) n (s3 _ _ e)
  have nl:∀ {x:Addr} {o:HO},H x = some o -> (∀ y,o ≠ .lst y) -> x ≠ l:=fun e n y => by rw [y,hl] at e; exact n _ (Option.some.inj e).symm
  have ns4:=k4 h1 (nl h1 (fun _ y => by cases y))
  have ch4:=k4 h2 nlc.symm
  refine ⟨ns4,ch4,cl,fun H5 fi fd lk df f1 f2 f3 nfl g1 g2 g3 g4 g5 u5 => ?_⟩
  have nn:∀ {x:Addr},H4 x = none -> H x = none:=fun {x} e => by
   cases e2:H x with
   | none => rfl
   | some o =>
    by_cases y:x = l
    ·rw [y,l4] at e; cases e
    ·rw [k4 e2 y] at e; cases e
  have nb:bd ≠ s' /\ bd ≠ ch:=⟨fun y => by {rw [y,h1] at h3; cases h3},fun y => by {rw [y,h2] at h3; cases h3}⟩
  have nls:l ≠ s':=fun y => by rw [y,h1] at hl; cases hl
  have B4:BAt CB CT H4 B:=by
   obtain ⟨⟨d1,e1⟩,⟨⟨d2,e2⟩,e3,e4⟩,e5,e6,e7⟩:=hB
   exact ⟨⟨d1,k4 e1 (nl e1 (fun _ y => by cases y))⟩,⟨⟨d2,k4 e2 (nl e2 (fun _ y => by cases y))⟩,k4 e3 nlr.symm,k4 e4 (nl e4 (fun _ y => by cases y))⟩,k4 e5 (nl e5 (fun _ y => by cases y)),k4 e6 (nl e6 (fun _ y => by cases y)),k4 e7 nlo.symm⟩
  exact q H5 fi fd lk c ⟨⟨dx,g1⟩,g2,u5 _ _ nb.1 nb.2 (k4 h3 (nl h3 (fun _ y => by cases y))),⟨df,g3⟩,g4,g5,nfl,nn f1,nn f2,nn f3⟩ (B4.off ⟨dx,bd,ch,fi0,ns4⟩ ch4 ss.r ss.o u5) (u5 _ _ nls nlc l4) (fun x o n1 n2 n3 e => u5 _ _ n1 n2 (k4 e n3))
end
end My
namespace My
open PySem L2
abbrev Sp2:=Str × Str
inductive Rch (adj:Sp2 -> List Sp2) (s:Sp2):Nat -> Sp2 -> Prop
 | zero:Rch adj s 0 s
 | step {n:Nat} {x y:Sp2}:Rch adj s n x -> y ∈ adj x -> Rch adj s (n + 1) y
theorem Rch.inv {adj:Sp2 -> List Sp2} {s:Sp2} {n:Nat} {y:Sp2} (h:Rch adj s (n + 1) y):∃ x,Rch adj s n x /\ y ∈ adj x:=by
 cases h with
 | step h1 h2 => exact ⟨_,h1,h2⟩
structure Ring (adj:Sp2 -> List Sp2) (s:Sp2) (ys:List Sp2):Prop where
 hd:ys[0]? = some s
 nd:ys.Nodup
 nx:∀ i x,ys[i]? = some x -> ∃ y,ys[(i + 1) % ys.length]? = some y /\ y ∈ adj x
inductive Back (cm:Sp2 -> Option Sp2) (s:Sp2):Sp2 -> List Sp2 -> Prop
 | nil:Back cm s s [s]
 | cons {x u:Sp2} {ps:List Sp2}:x ≠ s -> cm x = some u -> Back cm s u ps -> Back cm s x (x :: ps)
theorem Back.uniq {cm:Sp2 -> Option Sp2} {s:Sp2}:∀ {x:Sp2} {ps qs:List Sp2},Back cm s x ps -> Back cm s x qs -> ps = qs
 | _,_,_,.nil,.nil => rfl
 | _,_,_,.nil,.cons h _ _ => absurd rfl h
 | _,_,_,.cons h _ _,.nil => absurd rfl h
 | _,_,_,.cons _ e b,.cons _ e' b' => by
  rw [e] at e'
  cases e'
  rw [Back.uniq b b']
theorem Back.mem {cm:Sp2 -> Option Sp2} {s:Sp2}:∀ {x y:Sp2} {ps:List Sp2},Back cm s x ps -> y ∈ ps -> ∃ qs,Back cm s y qs /\ qs.length <= ps.length /\ ∃ pre,ps = pre ++ qs
 | _,y,_,.nil,h => by rw [List.mem_singleton.mp h]; exact ⟨[_],.nil,Nat.le_refl _,[],rfl⟩
 | _,y,_,.cons (x:=x) (ps:=ps) h e b,hm => by
  rcases List.mem_cons.mp hm with rfl | hm
  ·exact ⟨_,.cons h e b,Nat.le_refl _,[],rfl⟩
  ·obtain ⟨qs,h1,h2,pre,h3⟩:=Back.mem b hm
   exact ⟨qs,h1,Nat.le_succ_of_le h2,x :: pre,by rw [h3]; rfl⟩
theorem Back.nodup {cm:Sp2 -> Option Sp2} {s:Sp2}:∀ {x:Sp2} {ps:List Sp2},Back cm s x ps -> ps.Nodup
 | _,_,.nil => by simp
 | _,_,.cons (x:=x) (ps:=ps) h e b => by
  rw [List.nodup_cons]
  refine ⟨fun hm => ?_,b.nodup⟩
  obtain ⟨qs,h1,h2,_⟩:=b.mem hm
  have:=Back.uniq h1 (.cons h e b)
  rw [this,List.length_cons] at h2
  omega
theorem Back.last {cm:Sp2 -> Option Sp2} {s:Sp2}:∀ {x:Sp2} {ps:List Sp2},Back cm s x ps -> ps.getLast? = some s
 | _,_,.nil => rfl
 | _,_,.cons (x:=x) (ps:=ps) h e b => by
  have:=b.last
  cases ps with
  | nil => cases b
  | cons p r => rw [List.getLast?_cons_cons]; exact this
theorem Back.head {cm:Sp2 -> Option Sp2} {s:Sp2} {x:Sp2} {ps:List Sp2} (h:Back cm s x ps):ps[0]? = some x:=by
 cases h <;> rfl
theorem Back.next {cm:Sp2 -> Option Sp2} {s:Sp2}:∀ {x:Sp2} {ps:List Sp2} {i:Nat} {y z:Sp2},Back cm s x ps -> ps[i]? = some y -> ps[i + 1]? = some z -> y ≠ s /\ cm y = some z
 | _,_,i,y,z,.nil,h1,h2 => by simp at h2
 | _,_,0,y,z,.cons (x:=x) (ps:=ps) h e b,h1,h2 => by
  simp at h1
  subst h1
  have h2:ps[0]? = some z:=by simpa using h2
  rw [b.head] at h2
  cases h2
  exact ⟨h,e⟩
 | _,_,i + 1,y,z,.cons h e b,h1,h2 => Back.next (i:=i) b (by simpa using h1) (by simpa using h2)
theorem Back.ext {cm cm':Sp2 -> Option Sp2} {s:Sp2} (hc:∀ x u,cm x = some u -> cm' x = some u):∀ {x:Sp2} {ps:List Sp2},Back cm s x ps -> Back cm' s x ps
 | _,_,.nil => .nil
 | _,_,.cons h e b => .cons h (hc _ _ e) (b.ext hc)
theorem Back.drop {cm:Sp2 -> Option Sp2} {s:Sp2}:∀ {x y:Sp2} {ps:List Sp2} {i:Nat},Back cm s x ps -> ps[i]? = some y -> Back cm s y (ps.drop i)
 | _,_,_,0,h,e => by
  rw [h.head] at e
  cases e
  exact h
 | _,_,_,i + 1,.nil,e => by simp at e
 | _,_,_,i + 1,.cons _ _ b,e => Back.drop (i:=i) b (by simpa using e)
theorem Back.ring {adj:Sp2 -> List Sp2} {cm:Sp2 -> Option Sp2} {s x:Sp2} {ps:List Sp2} (hc:∀ z u,cm z = some u -> z ∈ adj u) (hs:s ∈ adj x) (h:Back cm s x ps):Ring adj s ps.reverse:=by
 have hl:ps.getLast? = some s:=h.last
 have hpos:0 < ps.length:=by
  cases ps with
  | nil => simp at hl
  | cons => simp
 have hls:ps[ps.length - 1]? = some s:=by rw [<- List.getLast?_eq_getElem?]; exact hl
 refine ⟨?_,?_,fun i z hz => ?_⟩
 ·rw [List.getElem?_reverse hpos]
  simpa using hls
 ·exact List.pairwise_reverse.mpr (h.nodup.imp fun h => Ne.symm h)
 ·have hi:i < ps.length:=by
   have:=(List.getElem?_eq_some_iff.mp hz).1
   simpa using this
  rw [List.length_reverse]
  rw [List.getElem?_reverse hi] at hz
  by_cases g:i + 1 < ps.length
  ·rw [Nat.mod_eq_of_lt g,List.getElem?_reverse g]
   obtain ⟨y,hy⟩:∃ y,ps[ps.length - 1 - (i + 1)]? = some y:=⟨_,List.getElem?_eq_getElem (by omega)⟩
   have e:ps.length - 1 - i = (ps.length - 1 - (i + 1)) + 1:=by omega
   rw [e] at hz
   exact ⟨y,hy,hc _ _ (h.next hy hz).2⟩
  ·have e:i + 1 = ps.length:=by omega
   rw [e,Nat.mod_self,List.getElem?_reverse hpos]
   have e0:ps.length - 1 - i = 0:=by omega
   rw [e0,h.head] at hz
   cases hz
   exact ⟨s,by simpa using hls,hs⟩
theorem Ring.walk {adj:Sp2 -> List Sp2} {s:Sp2} {ys:List Sp2} (R:Ring adj s ys):∀ (i:Nat) (x:Sp2),ys[i]? = some x -> Rch adj s i x
 | 0,x,h => by
  rw [R.hd] at h
  cases h
  exact .zero
 | i + 1,x,h => by
  have hi:i + 1 < ys.length:=(List.getElem?_eq_some_iff.mp h).1
  obtain ⟨z,hz⟩:∃ z,ys[i]? = some z:=⟨_,List.getElem?_eq_getElem (by omega)⟩
  obtain ⟨y,h1,h2⟩:=R.nx i z hz
  rw [Nat.mod_eq_of_lt hi,h] at h1
  cases h1
  exact .step (R.walk i z hz) h2
theorem Ring.pos {adj:Sp2 -> List Sp2} {s:Sp2} {ys:List Sp2} (R:Ring adj s ys):0 < ys.length:=(List.getElem?_eq_some_iff.mp R.hd).1
theorem Ring.back {adj:Sp2 -> List Sp2} {s:Sp2} {ys:List Sp2} (R:Ring adj s ys):Rch adj s ys.length s:=by
 have hp:=R.pos
 obtain ⟨z,hz⟩:∃ z,ys[ys.length - 1]? = some z:=⟨_,List.getElem?_eq_getElem (by omega)⟩
 obtain ⟨y,h1,h2⟩:=R.nx _ z hz
 have e:ys.length - 1 + 1 = ys.length:=by omega
 rw [e,Nat.mod_self,R.hd] at h1
 cases h1
 have:=Rch.step (R.walk _ z hz) h2
 rw [e] at this
 exact this
def lack (cm:Sp2 -> Option Sp2) (nodes:List Sp2):Nat:=(nodes.filter fun z => (cm z).isNone).length
theorem c7U {cm cm':Sp2 -> Option Sp2} (hc:∀ x,(cm x).isSome -> (cm' x).isSome):∀ nodes:List Sp2,lack cm' nodes <= lack cm nodes
 | [] => Nat.le_refl _
 | z :: r => by
  have ih:=c7U hc r
  unfold lack at ih ⊢
  rw [List.filter_cons,List.filter_cons]
  cases e:cm z with
  | none => cases e':cm' z <;> simp <;> omega
  | some u =>
   have:=hc z (by rw [e]; rfl)
   cases e':cm' z with
   | none => rw [e'] at this; cases this
   | some u' => simpa using ih
theorem c5t {cm cm':Sp2 -> Option Sp2} (hc:∀ x,(cm x).isSome -> (cm' x).isSome) {y:Sp2} (h0:cm y = none) (h1:(cm' y).isSome):∀ {nodes:List Sp2},y ∈ nodes -> lack cm' nodes + 1 <= lack cm nodes
 | z :: r,hy => by
  have le:=c7U hc r
  unfold lack at le ⊢
  rw [List.filter_cons,List.filter_cons]
  rcases List.mem_cons.mp hy with rfl | hy
  ·rw [h0]
   cases e':cm' y with
   | none => rw [e'] at h1; cases h1
   | some u => simpa using Nat.succ_le_succ le
  ·have ih:=c5t hc h0 h1 hy
   unfold lack at ih
   cases e:cm z with
   | none => cases e':cm' z <;> simp <;> omega
   | some u =>
    have:=hc z (by rw [e]; rfl)
    cases e':cm' z with
    | none => rw [e'] at this; cases this
    | some u' => simpa using ih
theorem c1T (cm:Sp2 -> Option Sp2) (nodes:List Sp2):lack cm nodes <= nodes.length:=List.length_filter_le _ _
def Done (adj:Sp2 -> List Sp2) (s:Sp2) (cm:Sp2 -> Option Sp2) (x:Sp2):Prop:=∀ y ∈ adj x,y ≠ s /\ (cm y).isSome
structure Bfs (adj:Sp2 -> List Sp2) (s:Sp2) (nodes:List Sp2) (r:Nat) (cm:Sp2 -> Option Sp2) (wz:List Sp2):Prop where
 c:∀ z u,cm z = some u -> z ∈ adj u /\ z ≠ s
 d:∀ x ∈ wz,∃ ps,Back cm s x ps /\ ps.length = r + 1
 f:∀ x,(x = s ∨ (cm x).isSome) -> Done adj s cm x ∨ x ∈ wz
 w:∀ x ∈ wz,x = s ∨ (cm x).isSome
 q:∀ x,Rch adj s r x -> x = s ∨ (cm x).isSome
 n:∀ k,k + 1 <= r -> ¬ Rch adj s (k + 1) s
 b:wz = [] ∨ r + lack cm nodes <= nodes.length
theorem Bfs.start {adj:Sp2 -> List Sp2} {s:Sp2} {nodes:List Sp2}:Bfs adj s nodes 0 (fun _ => none) [s] where
 c:=fun _ _ h => by cases h
 d:=fun x hx => by rw [List.mem_singleton.mp hx]; exact ⟨[s],.nil,rfl⟩
 f:=fun x hx => by
  rcases hx with rfl | hx
  ·exact .inr (by simp)
  ·cases hx
 w:=fun x hx => .inl (List.mem_singleton.mp hx)
 q:=fun x hx => by cases hx; exact .inl rfl
 n:=fun k hk => by omega
 b:=.inr (by have:=c1T (fun _ => none) nodes; omega)
theorem Bfs.over {adj:Sp2 -> List Sp2} {s:Sp2} {nodes:List Sp2} {r:Nat} {cm:Sp2 -> Option Sp2} (B:Bfs adj s nodes r cm []):∀ n,¬ Rch adj s (n + 1) s:=by
 have all:∀ n x,Rch adj s n x -> x = s ∨ (cm x).isSome:=by
  intro n
  induction n with
  | zero => intro x h; cases h; exact .inl rfl
  | succ n ih =>
   intro x h
   obtain ⟨z,h1,h2⟩:=h.inv
   rcases B.f z (ih z h1) with g | g
   ·exact .inr (g x h2).2
   ·cases g
 intro n h
 obtain ⟨z,h1,h2⟩:=h.inv
 rcases B.f z (all n z h1) with g | g
 ·exact (g s h2).1 rfl
 ·cases g
structure Mid (adj:Sp2 -> List Sp2) (s:Sp2) (nodes:List Sp2) (r:Nat) (cm0:Sp2 -> Option Sp2) (wz:List Sp2) (i:Nat) (cm:Sp2 -> Option Sp2) (fz:List Sp2):Prop where
 c:∀ z u,cm z = some u -> z ∈ adj u /\ z ≠ s
 e:∀ z u,cm0 z = some u -> cm z = some u
 d:∀ x ∈ fz,∃ ps,Back cm s x ps /\ ps.length = r + 2
 f:∀ x,(x = s ∨ (cm x).isSome) -> Done adj s cm x ∨ x ∈ wz.drop i ∨ x ∈ fz
 w:∀ x ∈ fz,x ≠ s /\ (cm x).isSome /\ cm0 x = none
 l:fz.length + lack cm nodes <= lack cm0 nodes
theorem Mid.start {adj:Sp2 -> List Sp2} {s:Sp2} {nodes:List Sp2} {r:Nat} {cm:Sp2 -> Option Sp2} {wz:List Sp2} (B:Bfs adj s nodes r cm wz):Mid adj s nodes r cm wz 0 cm [] where
 c:=B.c
 e:=fun _ _ h => h
 d:=fun _ h => by cases h
 f:=fun x hx => (B.f x hx).imp id fun h => .inl (by simpa using h)
 w:=fun _ h => by cases h
 l:=by simp
theorem Mid.next {adj:Sp2 -> List Sp2} {s:Sp2} {nodes:List Sp2} {r i:Nat} {cm0 cm:Sp2 -> Option Sp2} {wz fz:List Sp2} {x:Sp2} (M:Mid adj s nodes r cm0 wz i cm fz) (hx:wz[i]? = some x) (hd:Done adj s cm x):Mid adj s nodes r cm0 wz (i + 1) cm fz :=
 ⟨M.c,M.e,M.d,fun y hy => by
  rcases M.f y hy with h | h | h
  ·exact .inl h
  ·have hi:i < wz.length:=(List.getElem?_eq_some_iff.mp hx).1
   rw [List.drop_eq_getElem_cons hi] at h
   rcases List.mem_cons.mp h with h | h
   ·have:wz[i] = x:=(List.getElem?_eq_some_iff.mp hx).2
    rw [h,this]
    exact .inl hd
   ·exact .inr (.inl h)
  ·exact .inr (.inr h),M.w,M.l⟩
def b09 (cm:Sp2 -> Option Sp2) (y x:Sp2):Sp2 -> Option Sp2:=fun z => if z = y then some x else cm z
theorem Mid.put {adj:Sp2 -> List Sp2} {s:Sp2} {nodes:List Sp2} {r i:Nat} {cm0 cm:Sp2 -> Option Sp2} {wz fz:List Sp2} {x y:Sp2} (B:Bfs adj s nodes r cm0 wz) (M:Mid adj s nodes r cm0 wz i cm fz) (hx:x ∈ wz) (hy:y ∈ adj x) (hs:y ≠ s) (h0:cm y = none) (hn:y ∈ nodes) :
 Mid adj s nodes r cm0 wz i (b09 cm y x) (fz ++ [y]):=by
 have ext:∀ z u,cm z = some u -> b09 cm y x z = some u:=fun z u h => by
  unfold b09
  rw [if_neg (fun e => by rw [e,h0] at h; cases h)]
  exact h
 have some':∀ z,(cm z).isSome -> (b09 cm y x z).isSome:=fun z h => by
  obtain ⟨u,hu⟩:=Option.isSome_iff_exists.mp h
  rw [ext z u hu]; rfl
 have at':b09 cm y x y = some x:=by unfold b09; rw [if_pos rfl]
 refine ⟨fun z u h => ?_,fun z u h => ext z u (M.e z u h),fun z hz => ?_,fun z hz => ?_,fun z hz => ?_,?_⟩
 ·unfold b09 at h
  by_cases e:z = y
  ·rw [if_pos e] at h
   cases h
   rw [e]
   exact ⟨hy,hs⟩
  ·rw [if_neg e] at h
   exact M.c z u h
 ·rcases List.mem_append.mp hz with hz | hz
  ·obtain ⟨ps,h1,h2⟩:=M.d z hz
   exact ⟨ps,h1.ext ext,h2⟩
  ·rw [List.mem_singleton.mp hz]
   obtain ⟨ps,h1,h2⟩:=B.d x hx
   exact ⟨y :: ps,.cons hs at' ((h1.ext M.e).ext ext),by rw [List.length_cons,h2]⟩
 ·by_cases e:z = y
  ·exact .inr (.inr (by rw [e]; simp))
  ·have hz':z = s ∨ (cm z).isSome:=hz.imp id fun h => by
    unfold b09 at h
    rw [if_neg e] at h
    exact h
   rcases M.f z hz' with h | h | h
   ·exact .inl fun u hu => ⟨(h u hu).1,some' u (h u hu).2⟩
   ·exact .inr (.inl h)
   ·exact .inr (.inr (List.mem_append_left _ h))
 ·rcases List.mem_append.mp hz with hz | hz
  ·obtain ⟨h1,h2,h3⟩:=M.w z hz
   exact ⟨h1,some' z h2,h3⟩
  ·rw [List.mem_singleton.mp hz]
   refine ⟨hs,by rw [at']; rfl,?_⟩
   cases e:cm0 y with
   | none => rfl
   | some u => rw [M.e y u e] at h0; cases h0
 ·have h1:=c5t some' h0 (by rw [at']; rfl) hn
  have h2:=M.l
  rw [List.length_append,List.length_singleton]
  omega
theorem Mid.over {adj:Sp2 -> List Sp2} {s:Sp2} {nodes:List Sp2} {r:Nat} {cm0 cm:Sp2 -> Option Sp2} {wz fz:List Sp2} (B:Bfs adj s nodes r cm0 wz) (M:Mid adj s nodes r cm0 wz wz.length cm fz) (hw:wz ≠ []):Bfs adj s nodes (r + 1) cm fz:=by
 have some':∀ z,(cm0 z).isSome -> (cm z).isSome:=fun z h => by
  obtain ⟨u,hu⟩:=Option.isSome_iff_exists.mp h
  rw [M.e z u hu]; rfl
 have old:∀ x,(x = s ∨ (cm0 x).isSome) -> Done adj s cm x:=fun x hx => by
  rcases M.f x (hx.imp id (some' x)) with h | h | h
  ·exact h
  ·simp at h
  ·obtain ⟨h1,_,h3⟩:=M.w x h
   rcases hx with hx | hx
   ·exact absurd hx h1
   ·rw [h3] at hx; cases hx
 refine ⟨M.c,M.d,fun x hx => ?_,fun x hx => .inr (M.w x hx).2.1,fun x hx => ?_,fun k hk h => ?_,?_⟩
 ·rcases M.f x hx with h | h | h
  ·exact .inl h
  ·simp at h
  ·exact .inr h
 ·obtain ⟨z,h1,h2⟩:=hx.inv
  exact .inr (old z (B.q z h1) x h2).2
 ·by_cases g:k + 1 <= r
  ·exact B.n k g h
  ·have e:k = r:=by omega
   subst e
   obtain ⟨z,h1,h2⟩:=h.inv
   exact (old z (B.q z h1) s h2).1 rfl
 ·by_cases g:fz = []
  ·exact .inl g
  ·refine .inr ?_
   have hl:=M.l
   have hp:0 < fz.length:=List.length_pos_iff.mpr g
   rcases B.b with b | b
   ·exact absurd b hw
   ·omega
end My
namespace My
open PySem L2
theorem c65:bootBuiltins "reversed" = some (.type "reversed"):=by kernel_rfl
def N2 (z:Sp2):Prop:=Nl z.1 /\ Nl z.2
theorem N2.lay {z:Sp2} (h:N2 z):(spD z).canLay0 = true:=c2G h.1 h.2
theorem But.upd {p:Addr} {H:Hp} {o:HO}:But p H (upd H p o):=fun b u n e => by rw [a0g n]; exact e
def kS (z:Sp2):List Key:=[.inr z.1,.inr z.2]
theorem c9Y {z u:Sp2} (h:kS z = kS u):z = u:=by
 obtain ⟨a,b⟩:=z
 obtain ⟨c,d⟩:=u
 simp only [kS,List.cons.injEq,Sum.inr.injEq,and_true] at h
 rw [h.1,h.2]
def St2 (H:Hp) (v:V) (z:Sp2):Prop:=∃ a,v = .ref a /\ H a = some (.tup [.str z.1,.str z.2])
theorem St2.mapT {H H':Hp} {v:V} {z:Sp2} (k:∀ a xs,H a = some (.tup xs) -> H' a = some (.tup xs)) (h:St2 H v z):St2 H' v z:=let ⟨a,e,g⟩:=h; ⟨a,e,k _ _ g⟩
theorem St2.same {H H':Hp} {v:V} {z:Sp2} (s:Same H H') (h:St2 H v z):St2 H' v z:=h.mapT fun a xs e => s _ _ e
theorem St2.dt {K:PySem.W.Frag} {H:Hp} {v:V} {z:Sp2} (h:St2 H v z):Dt K H v (spD z):=by
 obtain ⟨a,rfl,g⟩:=h
 exact .tup (SqT.of g) (.cons (.str _) (.cons (.str _) .nil))
def Sps (H:Hp):List V -> List Sp2 -> Prop:=Paired (St2 H)
theorem Sps.mapT {H H':Hp} (k:∀ a xs,H a = some (.tup xs) -> H' a = some (.tup xs)):∀ {vs:List V} {zs:List Sp2},Sps H vs zs -> Sps H' vs zs
 | _,_,.nil => .nil
 | _,_,.cons r t => .cons (r.mapT k) (Sps.mapT k t)
theorem Sps.same {H H':Hp} {vs:List V} {zs:List Sp2} (s:Same H H') (h:Sps H vs zs):Sps H' vs zs:=h.mapT fun a xs e => s _ _ e
theorem Sps.length {H:Hp} {vs:List V} {zs:List Sp2} (h:Sps H vs zs):vs.length = zs.length:=Paired.length h
theorem Sps.at {H:Hp}:∀ {vs:List V} {zs:List Sp2} {i:Nat} {v:V},Sps H vs zs -> vs[i]? = some v -> ∃ z,zs[i]? = some z /\ St2 H v z
 | _,_,_,_,.nil,e => by simp at e
 | _,_,0,_,.cons r _,e => by simp at e; subst e; exact ⟨_,rfl,r⟩
 | _,_,i + 1,v,.cons _ t,e => by
  obtain ⟨z,h1,h2⟩:=Sps.at (i:=i) (v:=v) t (by simpa using e)
  exact ⟨z,by simpa using h1,h2⟩
theorem Sps.snoc {H:Hp} {v:V} {z:Sp2} (h:St2 H v z):∀ {vs:List V} {zs:List Sp2},Sps H vs zs -> Sps H (vs ++ [v]) (zs ++ [z])
 | _,_,.nil => .cons h .nil
 | _,_,.cons r t => .cons r (Sps.snoc h t)
theorem Sps.rev {H:Hp}:∀ {vs:List V} {zs:List Sp2},Sps H vs zs -> Sps H vs.reverse zs.reverse
 | _,_,.nil => .nil
 | _,_,.cons r t => by
  rw [List.reverse_cons,List.reverse_cons]
  exact (Sps.rev t).snoc r
theorem Sps.dt {K:PySem.W.Frag} {H:Hp}:∀ {vs:List V} {zs:List Sp2},Sps H vs zs -> a16 K H vs (zs.map spD)
 | _,_,.nil => .nil
 | _,_,.cons r t => .cons r.dt (Sps.dt t)
theorem Sps.last {H:Hp} {vs:List V} {zs:List Sp2} {z:Sp2} (h:Sps H vs (zs ++ [z])):∃ ws v,vs = ws ++ [v] /\ St2 H v z:=by
 have hl:=h.length
 rw [List.length_append,List.length_singleton] at hl
 have ne:vs ≠ []:=fun e => by rw [e] at hl; simp at hl
 refine ⟨vs.dropLast,vs.getLast ne,(List.dropLast_concat_getLast ne).symm,?_⟩
 have hi:vs[zs.length]? = some (vs.getLast ne):=by
  rw [List.getLast_eq_getElem,List.getElem?_eq_getElem (by omega)]
  congr 2
  omega
 obtain ⟨u,h1,h2⟩:=h.at hi
 rw [List.getElem?_append_right (Nat.le_refl _)] at h1
 simp at h1
 rw [h1]
 exact h2
def CmOk (H:Hp) (cvs:List (List Key × V)) (cm:Sp2 -> Option Sp2):Prop:=∀ z,(cm z = none /\ valV cvs (kS z) = none) ∨ ∃ u v,cm z = some u /\ valV cvs (kS z) = some v /\ St2 H v u
theorem CmOk.mapT {H H':Hp} {cvs:List (List Key × V)} {cm:Sp2 -> Option Sp2} (k:∀ a xs,H a = some (.tup xs) -> H' a = some (.tup xs)) (h:CmOk H cvs cm):CmOk H' cvs cm:=fun z => (h z).imp id fun ⟨u,v,e1,e2,e3⟩ => ⟨u,v,e1,e2,e3.mapT k⟩
theorem b0Z {α:Type} {xs:List α} {i:Nat} {x:α} (h:xs[i]? = some x):xs.take (i + 1) = xs.take i ++ [x]:=by
 rw [List.take_add_one,h]
 rfl
section
variable {P:Program} {w:World} {K:PySem.W.Frag} {mg:Str -> Option Value} {base:Heap}
def d2v (K:PySem.W.Frag):Sp:=fun vs H Q _ => ∃ (cd:Addr) (v0 vl:V) (cvs:List (List Key × V)) (cm:Sp2 -> Option Sp2) (s x:Sp2) (ps:List Sp2),vs = [.ref cd,v0,vl] /\ H cd = some (.dT cvs) /\ CmOk H cvs cm /\ St2 H v0 s /\ St2 H vl x /\ Back cm s x ps /\ ps.length <= 900 /\ (∀ p ∈ ps,N2 p) /\
 ∀ H' l vs',Same H H' -> H l = none -> H' l = some (.lst vs') -> Sps H' vs' ps.reverse -> Q (.ref l) H'
theorem c4p:a0l ["came_from", "spot", "last", "way"] ["came_from", "spot", "last"] (a0b b27):=⟨rfl,rfl,rfl,by decide +kernel,rfl,by decide +kernel,by decide +kernel⟩
theorem b3Q (T:Tops K mg):a0C P w K mg base CX0 1 "way_to" ["came_from", "spot", "last"] (d2v K):=by
 refine T.d_way_to.known c4p (fun _ _ _ _ _ _ us hl => match us,hl with | [_,_,_],_ => rfl) (fun vs H Q E h => ?_) (fun f cdv A outer s H vs Q E hr h => ?_)
 ·obtain ⟨cd,v0,vl,cvs,cm,z,x,ps,rfl,_⟩:=h
  rfl
 ·obtain ⟨cd,v0,vl,cvs,cm,z,x,ps,rfl,hcd,hcm,h0,hx,hB,h900,hN,q⟩:=h
  have hu:=a2I hr
  refine ⟨_,(a0d (a0B (i:=3) c4p.nd rfl (Or.inl rfl) (a2K (a0a (pv 2) a0f)))
   (a0d (c0l PassesOwn.never (a0A (c4d hr.units) (a1P a1T (pv 3) (d0Y c8a a0p) (fun _ _ => rfl)) (pv 1) (a0Z _)) (a0e (a0t (b4K PySem.F.plainAttrs_list PySem.F.slot_list_append PySem.F.type_list_append a1k (pv 3) (a0a (a00 hu (pv 0) (a1P a1T (pv 3) (d0Y c8a a0p) (fun _ _ => rfl)) (fun _ _ => rfl)) a0f)))))
   (a0e (a0v (c6L rfl (pv 3) rfl T.list b1e rfl T.reversed c65))))),?_⟩
  refine ⟨_,rfl,sl,fun wl hwl => ?_⟩
  have tup0:∀ {H2:Hp},But wl H H2 -> ∀ a xs,H a = some (.tup xs) -> H2 a = some (.tup xs):=fun {H2} b a xs e => b _ _ (a0h e hwl) e
  have hNz:N2 z:=by
   have:=hB.last
   exact hN z (List.mem_of_getLast? this)
  refine ⟨fun m σ H2 => ∃ (i:Nat) (ws:List V),σ = [some (.ref cd),some v0,some vl,some (.ref wl)] /\ m = ps.length - i /\ i < ps.length /\ But wl H H2 /\ H2 wl = some (.lst ws) /\ Sps H2 ws (ps.take (i + 1)),⟨ps.length,0,[vl],rfl,by omega,?_,fun b o n e => by rw [a0g n]; exact e,a0c,?_⟩,?_⟩
  ·have:=(List.getElem?_eq_some_iff.mp hB.head).1
   exact this
  ·rw [b0Z hB.head]
   exact .cons (hx.same (Same.new hwl)) .nil
  ·rintro m σ H2 ⟨i,ws,rfl,rfl,hi,b2,hw2,hS⟩
   obtain ⟨y,hy⟩:∃ y,ps[i]? = some y:=⟨_,List.getElem?_eq_getElem hi⟩
   have hyN:N2 y:=hN y (List.mem_of_getElem? hy)
   have hBi:=hB.drop hy
   rw [b0Z hy] at hS
   obtain ⟨ws',v,rfl,hv⟩:=hS.last
   have h02:=h0.mapT (tup0 b2)
   refine ⟨_,rfl,_,rfl,wl,_,_,_,rfl,rfl,SqL.of hw2,c6k _ _,_,rfl,_,_,hv.dt,h02.dt,hyN.lay,hNz.lay,(show max 0 (max 0 0) + 1 <= 64 by decide),_,rfl,?_⟩
   rw [c5V]
   refine ite2 (fun g => ?_) (fun g => ?_)
   ·have g:y ≠ z:=by simpa using g
    have hlen:(ps.drop i).length = ps.length - i:=List.length_drop
    generalize hD:ps.drop i = pd at hBi hlen
    cases hBi with
    | nil => exact absurd rfl g
    | @cons _ u ps' _ hu' hb' =>
     have hps':ps.drop (i + 1) = ps':=by
      have:(ps.drop i).drop 1 = ps':=by rw [hD]; rfl
      rw [List.drop_drop] at this
      exact this
     have hi1:ps[i + 1]? = some u:=by
      have:=hb'.head
      rw [<- hps',List.getElem?_drop] at this
      exact this
     obtain ⟨av,rfl,hav⟩:=hv
     rcases hcm y with ⟨e,_⟩ | ⟨u',v',e1,e2,e3⟩
     ·rw [e] at hu'; cases hu'
     ·rw [e1] at hu'
      cases hu'
      have hl2:ps.take i ++ [y] = ps.take (i + 1):=(b0Z hy).symm
      have hwl':(ws' ++ [V.ref av]).length <= 900:=by
       rw [hS.length,hl2,List.length_take]
       omega
      refine ⟨fun σ' H' => ∃ (j:Nat) (ws:List V),σ' = [some (.ref cd),some v0,some vl,some (.ref wl)] /\ j = i + 1 /\ j < ps.length /\ But wl H H' /\ H' wl = some (.lst ws) /\ Sps H' ws (ps.take (j + 1)),fun σ' H' ⟨j,ws,h1,h2,h3,h4,h5,h6⟩ => ⟨ps.length - j,by omega,j,ws,h1,rfl,h3,h4,h5,h6⟩,?_⟩
      refine ⟨_,rfl,.inl ⟨rfl,_,SqL.of hw2⟩,_,rfl,_,rfl,_,rfl,wl,_,_,_,rfl,rfl,SqL.of hw2,c6k _ _,cd,v',rfl,e2 ▸ DGet.t (k:=kS y) (b2 _ _ (a0h hcd hwl) hcd) hav,wl,_,_,rfl,rfl,hw2,a0w (by omega),?_⟩
      have tup2:∀ a xs,H2 a = some (.tup xs) -> upd H2 wl (.lst (ws' ++ [.ref av] ++ [v'])) a = some (.tup xs):=fun a xs e => by rw [a0g (b7C e hw2 (fun z => by cases z))]; exact e
      refine ⟨i + 1,_,rfl,rfl,(List.getElem?_eq_some_iff.mp hi1).1,b2.trans But.upd,a0c,?_⟩
      rw [b0Z hi1,<- hl2]
      exact (hS.mapT tup2).snoc ((e3.mapT (tup0 b2)).mapT tup2)
   ·have g:y = z:=by
     by_cases e:y = z
     ·exact e
     ·exact absurd (by simp [e]) g
    subst g
    have hi1:i + 1 = ps.length:=by
     have:=Back.uniq hBi .nil
     have hl:(ps.drop i).length = 1:=by rw [this]; rfl
     rw [List.length_drop] at hl
     omega
    refine ⟨_,rfl,wl,_,rfl,SqL.of hw2,fun l hl => ?_⟩
    have s2:=Same.new (o:=.lst (ws' ++ [v]).reverse) hl
    refine q _ l _ (fun b o e => s2 _ _ (b2 _ _ (a0h e hwl) e)) ?_ a0c ?_
    ·cases e:H l with
     | none => rfl
     | some o => rw [b2 _ _ (fun z => by rw [z,hw2] at hl; cases hl) e] at hl; cases hl
    ·have e:ps.take i ++ [y] = ps:=by rw [<- b0Z hy,hi1,List.take_length]
     rw [e] at hS
     exact (hS.same s2).rev
end
end My
namespace My
open PySem L2
theorem c9d {n:Nat} (h:n < 3000):n < sizeLine:=Nat.lt_trans h (by decide)
def But2 (p q:Addr) (H H':Hp):Prop:=∀ b o,b ≠ p -> b ≠ q -> H b = some o -> H' b = some o
theorem But2.of {p q:Addr} {H H':Hp} (s:Same H H'):But2 p q H H':=fun b o _ _ e => s b o e
theorem But2.trans {p q:Addr} {H H1 H2:Hp} (a:But2 p q H H1) (b:But2 p q H1 H2):But2 p q H H2:=fun c o n m e => b c o n m (a c o n m e)
theorem But2.u1 {p q:Addr} {H:Hp} {o:HO}:But2 p q H (upd H p o):=fun b u n _ e => by rw [a0g n]; exact e
theorem But2.u2 {p q:Addr} {H:Hp} {o:HO}:But2 p q H (upd H q o):=fun b u _ n e => by rw [a0g n]; exact e
theorem d1c {H H':Hp} {l:Addr} (s:Same H H') (h:H' l = none):H l = none:=by
 cases e:H l with
 | none => rfl
 | some o => rw [s l o e] at h; cases h
theorem Back.each {cm:Sp2 -> Option Sp2} {s:Sp2}:∀ {x:Sp2} {ps:List Sp2},Back cm s x ps -> ∀ p ∈ ps,p = s ∨ ∃ u,cm p = some u
 | _,_,.nil,p,hp => .inl (List.mem_singleton.mp hp)
 | _,_,.cons h e b,p,hp => by
  rcases List.mem_cons.mp hp with rfl | hp
  ·exact .inr ⟨_,e⟩
  ·exact b.each p hp
structure Grh (H:Hp) (gd:Addr) (kvs:List (List Key × V)) (adj:Sp2 -> List Sp2):Prop where
 d:H gd = some (.dT kvs)
 a:∀ z,(valV kvs (kS z) = none /\ adj z = []) ∨ ∃ l vs,valV kvs (kS z) = some (.ref l) /\ H l = some (.lst vs) /\ Sps H vs (adj z)
 n:∀ z,∀ y ∈ adj z,N2 y
 l:∀ z,(adj z).length <= 100
theorem Grh.same {H H':Hp} {gd:Addr} {kvs:List (List Key × V)} {adj:Sp2 -> List Sp2} (s:Same H H') (h:Grh H gd kvs adj):Grh H' gd kvs adj :=
 ⟨s _ _ h.d,fun z => (h.a z).imp id fun ⟨l,vs,e1,e2,e3⟩ => ⟨l,vs,e1,s _ _ e2,e3.same s⟩,h.n,h.l⟩
theorem CmOk.put {H:Hp} {cvs:List (List Key × V)} {cm:Sp2 -> Option Sp2} {y x:Sp2} {v:V} (h:CmOk H cvs cm) (hv:St2 H v x):CmOk H (putK cvs (kS y) v) (b09 cm y x):=fun z => by
 unfold b09
 rw [a08]
 by_cases e:z = y
 ·rw [if_pos e,if_pos (by rw [e])]
  exact .inr ⟨x,v,rfl,rfl,hv⟩
 ·rw [if_neg e,if_neg (fun h => e (c9Y h))]
  exact h z
theorem c83 {κ:Type} [DecidableEq κ] (kvs:List (κ × V)) (k:κ) (y:V):(putK kvs k y).length <= kvs.length + 1:=by
 unfold putK
 split
 ·rw [List.length_map]; omega
 ·rw [List.length_append]; exact Nat.le_refl _
structure Has (H0 H:Hp) (cd fl:Addr) (cvs:List (List Key × V)) (cm:Sp2 -> Option Sp2) (nodes:List Sp2) (fvs:List V) (fz:List Sp2):Prop where
 s:Same H0 H
 c:H cd = some (.dT cvs)
 o:CmOk H cvs cm
 l:cvs.length + lack cm nodes <= nodes.length
 f:H fl = some (.lst fvs)
 z:Sps H fvs fz
theorem Has.same {H0 H H':Hp} {cd fl:Addr} {cvs:List (List Key × V)} {cm:Sp2 -> Option Sp2} {nodes:List Sp2} {fvs:List V} {fz:List Sp2} (s:Same H H') (h:Has H0 H cd fl cvs cm nodes fvs fz):Has H0 H' cd fl cvs cm nodes fvs fz :=
 ⟨h.s.trans s,s _ _ h.c,h.o.mapT fun a xs e => s _ _ e,h.l,s _ _ h.f,h.z.same s⟩
section
variable {P:Program} {w:World} {K:PySem.W.Frag} {mg:Str -> Option Value} {base:Heap}
def c9L (K:PySem.W.Frag):Sp:=fun vs H Q _ => ∃ (gd:Addr) (v0:V) (kvs:List (List Key × V)) (adj:Sp2 -> List Sp2) (s:Sp2) (nodes:List Sp2),vs = [.ref gd,v0] /\ Grh H gd kvs adj /\ St2 H v0 s /\ N2 s /\ (∀ z,∀ y ∈ adj z,y ∈ nodes) /\ nodes.length <= 100 /\
 ∀ H',Same H H' -> ((∀ n,¬ Rch adj s (n + 1) s) -> Q .non H') /\ ∀ l vs' ys,H l = none -> H' l = some (.lst vs') -> Sps H' vs' ys -> Ring adj s ys -> (∀ n,n + 1 < ys.length -> ¬ Rch adj s (n + 1) s) -> Q (.ref l) H'
theorem a2d:a0l ["leanings", "spot", "came_from", "waiting", "farther", "leaning", "leant"] ["leanings", "spot"] (a0b a58):=⟨rfl,rfl,rfl,by decide +kernel,rfl,by decide +kernel,by decide +kernel⟩
theorem a6S (T:Tops K mg):a0C P w K mg base CX0 2 "ring_from" ["leanings", "spot"] (c9L K):=by
 have G_way_to:a0C P w K mg base CX0 1 "way_to" ["came_from", "spot", "last"] (d2v K):=b3Q T
 refine T.d_ring_from.known a2d (fun _ _ _ _ _ _ us hl => match us,hl with | [_,_],_ => rfl) (fun vs H Q E h => ?_) (fun f cdv A outer s H vs Q E hr h => ?_)
 ·obtain ⟨gd,v0,kvs,adj,z,nodes,rfl,_⟩:=h
  rfl
 ·obtain ⟨gd,v0,kvs,adj,z,nodes,rfl,hG,h0,hzN,hnodes,h100,q⟩:=h
  have hu:=a2I hr
  refine ⟨_,(a0d (a0B (i:=2) a2d.nd rfl (Or.inl rfl) b3h)
   (a0d (a0B (i:=3) a2d.nd rfl (Or.inl rfl) (a2K (a0a (pv 1) a0f)))
   (a0d (c0l PassesOwn.never (c6i (pv 3) (fun _ => rfl)) (a0d (a0B (i:=4) a2d.nd rfl (Or.inl rfl) (a2K a0f))
   (a0d (b1m PassesOwn.never rfl (b4y (pv 3)) (a35 (i:=5) a2d.nd rfl (Or.inl rfl)) (a0e (b1m PassesOwn.never rfl (b4y (c9k hu (pv 0) (pv 5) (a2K a0f) ⟨rfl,rfl,rfl,rfl⟩)) (a35 (i:=6) a2d.nd rfl (Or.inl rfl))
   (a0d (a0E (a0A (c34 hr.units) (pv 6) (pv 1) (a0Z _)) (a0e (a0v (a0o G_way_to (hr.mono (by decide)) a0r (a0a (pv 2) (a0a (pv 1) (a0a (pv 5) a0f)))))) a0q)
   (a0e (a0E (a7S (a3Q hu (pv 6) (pv 2))) (a0d (a6x hu (pv 2) (pv 6) (pv 5) rfl) (a0e (a0t (b4K PySem.F.plainAttrs_list PySem.F.slot_list_append PySem.F.type_list_append a1k (pv 4) (a0a (pv 6) a0f))))) a0q))))))
   (a0e (a0B (i:=3) a2d.nd rfl (Or.inl rfl) (pv 4))))))
   (a0e (a0v a6q))))),?_⟩
  intro cd hcd
  have s1:=Same.new (o:=.dT []) hcd
  have hc1:=a0c (H:=H) (a:=cd) (o:=.dT [])
  generalize upd H cd (.dT []) = H1 at s1 hc1 ⊢
  refine ⟨_,rfl,sl,fun wl hwl => ?_⟩
  have s2:=Same.new (o:=.lst [v0]) hwl
  let Wf:Nat -> St -> Hp -> Prop:=fun m σ H2 => ∃ (r:Nat) (cm:Sp2 -> Option Sp2) (wz:List Sp2) (cvs:List (List Key × V)) (wl:Addr) (wvs:List V) (o4 o5 o6:Option V),σ = [some (.ref gd),some v0,some (.ref cd),some (.ref wl),o4,o5,o6] /\ m = 2 * lack cm nodes + (if wz = [] then 0 else 1) /\ Has H H2 cd wl cvs cm nodes wvs wz /\ H wl = none /\ Bfs adj z nodes r cm wz
  refine ⟨Wf,⟨_,0,fun _ => none,[z],[],wl,[v0],_,_,_,rfl,rfl,⟨s1.trans s2,s2 _ _ hc1,fun y => .inl ⟨rfl,rfl⟩,by have:=c1T (fun _ => none) nodes; simpa using this,a0c,.cons (h0.same (s1.trans s2)) .nil⟩,d1c s1 hwl,Bfs.start⟩,?_⟩
  clear hwl s2 wl
  rintro m σ H2 ⟨r,cm,wz,cvs,wl,wvs,o4,o5,o6,rfl,hm,A2,hwl,B⟩
  refine ⟨_,rfl,_,.inl ⟨wvs,SqL.of A2.f,rfl⟩,?_⟩
  refine ite2 (fun g => ?_) (fun g => ?_)
  ·have hwz:wz ≠ []:=fun e => by
    have:=A2.z.length
    rw [e] at this
    have:wvs = []:=List.length_eq_zero_iff.mp this
    rw [this] at g
    cases g
   refine ⟨fun σ' H' => ∃ m',m' < m /\ Wf m' σ' H',fun σ' H' h => h,?_⟩
   refine ⟨sl,fun fl hfl => ?_⟩
   have s3:=Same.new (o:=.lst []) hfl
   have A3:Has H (upd H2 fl (.lst [])) cd fl cvs cm nodes [] []:=⟨A2.s.trans s3,s3 _ _ A2.c,A2.o.mapT fun a xs e => s3 _ _ e,A2.l,a0c,.nil⟩
   have hw3:=s3 _ _ A2.f
   have hwz3:=A2.z.same s3
   have ncf:cd ≠ fl:=a0h A2.c hfl
   have nwf:wl ≠ fl:=a0h A2.f hfl
   have nwc:wl ≠ cd:=b7C A2.f A2.c (fun z => by cases z)
   have hfl0:H fl = none:=d1c A2.s hfl
   generalize upd H2 fl (.lst []) = H3 at A3 hw3 hwz3 ⊢
   refine ⟨_,rfl,wl,rfl,⟨_,SqL.of hw3⟩,?_⟩
   refine b3w (K:=K) (a:=wl) (xs:=wvs) (fun i σ H4 => ∃ (cm':Sp2 -> Option Sp2) (fz:List Sp2) (cvs':List (List Key × V)) (fvs:List V) (o5 o6:Option V),σ = [some (.ref gd),some v0,some (.ref cd),some (.ref wl),some (.ref fl),o5,o6] /\ But2 cd fl H3 H4 /\ Has H H4 cd fl cvs' cm' nodes fvs fz /\ Mid adj z nodes r cm wz i cm' fz)
    ⟨cm,[],cvs,[],_,_,rfl,But2.of (Same.refl _),A3,Mid.start B⟩ (fun i σ H4 _ ⟨_,_,_,_,_,_,_,b4,_⟩ => SqL.of (b4 _ _ nwc nwf hw3)) ?_ ?_
   ·rintro i x σ H4 hx ⟨cm',fz,cvs',fvs,o5,o6,rfl,b4,A4,M4⟩
    obtain ⟨xz,hxz,hxs⟩:=hwz3.at hx
    have tup34:∀ a xs,H3 a = some (.tup xs) -> H4 a = some (.tup xs):=fun a xs e => b4 _ _ (b7C e A3.c (fun z => by cases z)) (b7C e A3.f (fun z => by cases z)) e
    have hx4:=hxs.mapT tup34
    have hG4:=hG.same A4.s
    obtain ⟨ax,rfl,hax⟩:=hx4
    refine ⟨_,rfl,gd,rfl,.inr ⟨kvs,.inl hG4.d⟩,_,rfl,sl,fun dl hdl => ?_⟩
    have s5:=Same.new (o:=.lst []) hdl
    have hdl5:=a0c (H:=H4) (a:=dl) (o:=.lst [])
    have A5:=A4.same s5
    have b5:But2 cd fl H3 (upd H4 dl (.lst [])):=b4.trans (But2.of s5)
    have ndc:dl ≠ cd:=fun e => by rw [e,A4.c] at hdl; cases hdl
    have ndf:dl ≠ fl:=fun e => by rw [e,A4.f] at hdl; cases hdl
    have hG5:=hG4.same s5
    have hax5:=s5 _ _ hax
    generalize upd H4 dl (.lst []) = H5 at s5 hdl5 A5 b5 hG5 hax5 ⊢
    obtain ⟨la,avs,hget,hla,hSa,nlc,nlf⟩:∃ (la:Addr) (avs:List V),(valV kvs (kS xz)).getD (.ref dl) = .ref la /\ H5 la = some (.lst avs) /\ Sps H5 avs (adj xz) /\ la ≠ cd /\ la ≠ fl:=by
     rcases hG.a xz with ⟨e1,e2⟩ | ⟨l,vs,e1,e2,e3⟩
     ·exact ⟨dl,[],by rw [e1]; rfl,hdl5,by rw [e2]; exact .nil,ndc,ndf⟩
     ·have hs:=A5.s
      exact ⟨l,vs,by rw [e1]; rfl,hs _ _ e2,e3.same hs,a0h e2 hcd,a0h e2 hfl0⟩
    refine ⟨_,DGet.t (k:=kS xz) hG5.d hax5,?_⟩
    refine ⟨la,hget,⟨_,SqL.of hla⟩,?_⟩
    have hxw:xz ∈ wz:=List.mem_of_getElem? hxz
    refine b3w (K:=K) (a:=la) (xs:=avs) (fun j σ H6 => ∃ (cm':Sp2 -> Option Sp2) (fz:List Sp2) (cvs':List (List Key × V)) (fvs:List V) (o6:Option V),σ = [some (.ref gd),some v0,some (.ref cd),some (.ref wl),some (.ref fl),some (.ref ax),o6] /\ But2 cd fl H5 H6 /\ Has H H6 cd fl cvs' cm' nodes fvs fz /\ Mid adj z nodes r cm wz i cm' fz /\ ∀ y ∈ (adj xz).take j,y ≠ z /\ (cm' y).isSome)
     ⟨cm',fz,cvs',fvs,_,rfl,But2.of (Same.refl _),A5,M4,fun y hy => by simp at hy⟩ (fun j σ H6 _ ⟨_,_,_,_,_,_,b6,_⟩ => SqL.of (b6 _ _ nlc nlf hla)) ?_ ?_
    ·have hc5:=A5.c
     have hf5:=A5.f
     clear A4 M4 A5
     rintro j y σ H6 hy ⟨cm',fz,cvs',fvs,o6,rfl,b6,A6,M6,D6⟩
     obtain ⟨yz,hyz,hys⟩:=hSa.at hy
     have tup56:∀ a xs,H5 a = some (.tup xs) -> H6 a = some (.tup xs):=fun a xs e => b6 _ _ (b7C e hc5 (fun z => by cases z)) (b7C e hf5 (fun z => by cases z)) e
     have hy6:=hys.mapT tup56
     have hx6:=tup56 _ _ hax5
     have h06:=h0.same A6.s
     have hya:yz ∈ adj xz:=List.mem_of_getElem? hyz
     have hyN:=hG.n xz yz hya
     refine ⟨_,rfl,_,rfl,_,_,hy6.dt,h06.dt,hyN.lay,hzN.lay,(show max 0 (max 0 0) + 1 <= 64 by decide),_,rfl,?_⟩
     rw [c5V]
     refine ite2 (fun g1 => ?_) (fun g1 => ?_)
     ·have g1:yz = z:=by simpa using g1
      subst g1
      obtain ⟨ps,hB,hl⟩:=B.d xz hxw
      have hB':=hB.ext M6.e
      have hbl:r <= 100:=by
       rcases B.b with b | b
       ·exact absurd b hwz
       ·omega
      refine ⟨_,rfl,_,rfl,_,rfl,cd,v0,.ref ax,cvs',cm',yz,xz,ps,rfl,A6.c,A6.o,h06,⟨ax,rfl,hx6⟩,hB',by omega,fun p hp => ?_,fun H' l vs' s7 hl' hl7 hS => ?_⟩
      ·rcases hB'.each p hp with e | ⟨u,e⟩
       ·rw [e]; exact hzN
       ·exact hG.n u p (M6.c p u e).1
      ·exact (q H' (A6.s.trans s7)).2 l vs' ps.reverse (d1c A6.s hl') hl7 hS (hB'.ring (fun z u h => (M6.c z u h).1) hya) fun n hn => B.n n (by rw [List.length_reverse] at hn; omega)
     ·have g1:yz ≠ z:=by simpa using g1
      obtain ⟨ay,rfl,hay⟩:=hy6
      refine ⟨_,rfl,_,rfl,cd,_,rfl,DGet.t (k:=kS yz) A6.c hay,_,rfl,?_⟩
      have tk:(adj xz).take (j + 1) = (adj xz).take j ++ [yz]:=b0Z hyz
      rcases A6.o yz with ⟨c1,c2⟩ | ⟨u,v,c1,c2,c3⟩
      ·rw [c2]
       refine iteT ?_
       have hl6:=A6.l
       have hMl:=M6.l
       have hll:=c1T cm nodes
       refine ⟨_,rfl,_,rfl,_,rfl,cd,_,rfl,DPut.t (k:=kS yz) A6.c hay (c9d (by omega)),?_⟩
       have s7:Same H (upd H6 cd (.dT (putK cvs' (kS yz) (.ref ax)))):=A6.s.on hcd
       have hf7:upd H6 cd (.dT (putK cvs' (kS yz) (.ref ax))) fl = some (.lst fvs):=by rw [a0g ncf.symm]; exact A6.f
       have tup67:∀ a xs,H6 a = some (.tup xs) -> upd H6 cd (.dT (putK cvs' (kS yz) (.ref ax))) a = some (.tup xs):=fun a xs e => by rw [a0g (b7C e A6.c (fun z => by cases z))]; exact e
       have hc7:=a0c (H:=H6) (a:=cd) (o:=.dT (putK cvs' (kS yz) (.ref ax)))
       have b7:But2 cd fl H5 (upd H6 cd (.dT (putK cvs' (kS yz) (.ref ax)))):=b6.trans But2.u1
       generalize upd H6 cd (.dT (putK cvs' (kS yz) (.ref ax))) = H7 at s7 hf7 tup67 hc7 b7 ⊢
       have hfz:fvs.length <= 100:=by rw [A6.z.length]; omega
       refine ⟨_,rfl,.inl ⟨rfl,_,SqL.of hf7⟩,_,rfl,fl,_,_,rfl,rfl,hf7,a0w (by omega),?_⟩
       have tup78:∀ a xs,H7 a = some (.tup xs) -> upd H7 fl (.lst (fvs ++ [.ref ay])) a = some (.tup xs):=fun a xs e => by rw [a0g (b7C e hf7 (fun z => by cases z))]; exact e
       have tup68:=fun a xs e => tup78 a xs (tup67 a xs e)
       have M8:=M6.put B hxw hya g1 c1 (hnodes xz yz hya)
       refine ⟨b09 cm' yz xz,fz ++ [yz],putK cvs' (kS yz) (.ref ax),fvs ++ [.ref ay],_,rfl,b7.trans But2.u2,⟨s7.on hfl0,by rw [a0g ncf]; exact hc7,(A6.o.mapT tup68).put ⟨ax,rfl,tup68 _ _ hx6⟩,?_,a0c,(A6.z.mapT tup68).snoc ⟨ay,rfl,tup68 _ _ hay⟩⟩,M8,fun y' hy' => ?_⟩
       ·have h1:=c83 cvs' (kS yz) (.ref ax)
        have h2:=c5t (cm:=cm') (cm':=b09 cm' yz xz) (y:=yz) (fun x h => by unfold b09; split <;> simp_all) c1 (by unfold b09; rw [if_pos rfl]; rfl) (hnodes xz yz hya)
        omega
       ·rw [tk] at hy'
        rcases List.mem_append.mp hy' with h | h
        ·obtain ⟨d1,d2⟩:=D6 y' h
         exact ⟨d1,by unfold b09; split <;> simp_all⟩
        ·rw [List.mem_singleton.mp h]
         exact ⟨g1,by unfold b09; rw [if_pos rfl]; rfl⟩
      ·rw [c2]
       refine iteF ?_
       refine ⟨cm',fz,cvs',fvs,_,rfl,b6,A6,M6,fun y' hy' => ?_⟩
       rw [tk] at hy'
       rcases List.mem_append.mp hy' with h | h
       ·exact D6 y' h
       ·rw [List.mem_singleton.mp h]
        exact ⟨g1,by rw [c1]; rfl⟩
    ·rintro σ H6 ⟨cm',fz,cvs',fvs,o6,rfl,b6,A6,M6,D6⟩
     refine ⟨cm',fz,cvs',fvs,_,_,rfl,b5.trans b6,A6,M6.next hxz fun y hy => D6 y ?_⟩
     rw [hSa.length,List.take_length]
     exact hy
   ·rintro σ H4 ⟨cm',fz,cvs',fvs,o5,o6,rfl,b4,A4,M4⟩
    rw [hwz3.length] at M4
    have B':=M4.over B hwz
    have hMl:=M4.l
    refine ⟨_,rfl,_,?_,r + 1,cm',fz,cvs',fl,fvs,_,_,_,rfl,rfl,A4,hfl0,B'⟩
    rw [hm,if_neg hwz]
    by_cases e:fz = []
    ·rw [if_pos e]
     omega
    ·rw [if_neg e]
     have:0 < fz.length:=List.length_pos_iff.mpr e
     omega
  ·have hwz:wz = []:=by
    have:=A2.z.length
    cases wvs with
    | nil => exact List.length_eq_zero_iff.mp this.symm
    | cons => exact absurd rfl g
   subst hwz
   exact (q H2 A2.s).1 B.over
end
end My
set_option maxHeartbeats 1000000
namespace My
open PySem L2
section
variable {P:Program} {w:World} {K:PySem.W.Frag} {mg:Str -> Option Value} {base:Heap}
def c8A (K:PySem.W.Frag):Sp:=fun vs H Q _ => ∃ (p C dx:Addr) (fs:List (Str × V)) (v:V),vs = [.ref p,v] /\ H p = some (.ins C dx fs) /\ Cls K C /\ a0F K C "function" /\ fs.length < 1000 /\ Q .non (upd H p (.ins C dx (putF "function" v fs)))
theorem c3E:a0l ["self", "function"] ["self", "function"] (a0b a6w):=⟨rfl,rfl,rfl,by decide +kernel,rfl,by decide +kernel,by decide +kernel⟩
theorem a6I (T:Tops K mg) {C:Addr} (Y:c8G K mg C):a0k P w K mg base CX0 1 C "__init__" ["self", "function"] (c8A K):=by
 refine Y.m_init.known c3E (fun _ _ _ _ _ _ us hl => match us,hl with | [_,_],_ => rfl) (fun vs H Q E h => ?_) (fun f cdv A outer s H vs Q E hr h => ?_)
 ·obtain ⟨p,C',dx,fs,v,rfl,_⟩:=h
  rfl
 ·obtain ⟨p,C',dx,fs,v,rfl,hp,hC,hN,hl,q⟩:=h
  refine ⟨_,(a0e (a0S (pv 0) (pv 1) rfl)),?_⟩
  exact ⟨_,rfl,_,rfl,p,C',dx,fs,rfl,hp,hC,hN,hl,q⟩
def c6g (C:Addr):Sp:=fun vs H Q _ => ∃ (p dx fa:Addr) (k n:Str),vs = [.ref p,.str k,.str n,.ref fa] /\ H p = some (.ins C dx []) /\ Nl k /\ Nl n /\ ∀ H',But p H H' -> H' p = some (.ins C dx (gfl k n fa)) -> Q .non H'
theorem c1h:a0l ["self", "key", "name", "function"] ["self", "key", "name", "function"] (a0b a41):=⟨rfl,rfl,rfl,by decide +kernel,rfl,by decide +kernel,by decide +kernel⟩
theorem a4G (T:Tops K mg) {R C:Addr} (Z:c8G K mg R) (Y:a69 K mg C):a19 P w K mg base CX0 3 C ["self", "key", "name", "function"] (c6g C):=by
 have G_init:a0k P w K mg base CX0 1 R "__init__" ["self", "function"] (c8A K):=a6I T Z
 have G_check_name:a0C P w K mg base CX0 2 "check_name" ["name"] c70:=a4C T
 refine (Y.m_init.known c1h (fun _ _ _ _ _ _ us hl => match us,hl with | [_,_,_,_],_ => rfl) (fun vs H Q E h => ?_) (fun f cdv A outer s H vs Q E hr h => ?_)).init Y.mks Y.kc
 ·obtain ⟨p,dx,fa,k,n,rfl,_⟩:=h
  rfl
 ·obtain ⟨p,dx,fa,k,n,rfl,hp,hk,hn,q⟩:=h
  refine ⟨_,(a0d (a0t (d0B (d13 Z.c) Z.v_init G_init (hr.mono (by decide)) a0r (a0a (pv 0) (a0a (pv 3) a0f))))
   (a0d (a0t (a0o G_check_name (hr.mono (by decide)) a0r (a0a (pv 1) a0f)))
   (a0d (a0t (a0o G_check_name (hr.mono (by decide)) a0r (a0a (pv 2) a0f)))
   (a0d (a0S (pv 0) (pv 1) rfl)
   (a0e (a0S (pv 0) (pv 2) rfl)))))),?_⟩
  have b1:But p H (upd H p (.ins C dx (putF "function" (.ref fa) []))):=But.upd
  refine ⟨_,rfl,_,rfl,p,C,dx,[],.ref fa,rfl,hp,Y.cl,Y.n_function,by decide,?_⟩
  refine ⟨_,rfl,k,rfl,hk,fun H2 s2 => ⟨_,rfl,n,rfl,hn,fun H3 s3 => ?_⟩⟩
  have s23:=s2.trans s3
  refine ⟨_,rfl,_,rfl,p,C,dx,_,rfl,s23 _ _ a0c,Y.cl,Y.n_key,(by show 1 < 1000; decide),?_⟩
  refine ⟨_,rfl,_,rfl,p,C,dx,_,rfl,a0c,Y.cl,Y.n_name,(by show 2 < 1000; decide),?_⟩
  exact q _ (((b1.trans (But.of s23)).trans But.upd).trans But.upd) a0c
def c7P:Sp:=fun vs H Q _ => ∃ (a:Addr) (xs:List V) (zs:List Sp2),vs = [.ref a] /\ H a = some (.lst xs) /\ Sps H xs zs /\ (∀ z ∈ zs,N2 z) /\ zs.length <= 100 /\
 ∀ H' l ys,Same H H' -> H l = none -> H' l = some (.lst ys) -> Sps H' ys (a1v zs) -> Q (.ref l) H'
theorem c3W (T:Tops K mg):a0C P w K mg base CX0 2 "each_once" ["spots"] c7P:=by
 refine T.d_each_once.known a27 (fun _ _ _ _ _ _ us hl => match us,hl with | [_],_ => rfl) (fun vs H Q E h => ?_) (fun f cdv A outer s H vs Q E hr h => ?_)
 ·obtain ⟨a,xs,ps,rfl,_⟩:=h
  rfl
 ·obtain ⟨a,xs,ps,rfl,ha,hsp,hN,h100,q⟩:=h
  refine ⟨_,(a0d (a0B (i:=1) a27.nd rfl (Or.inl rfl) (a2K a0f))
   (a0d (b1m PassesOwn.never rfl (b4y (pv 0)) (a35 (i:=2) a27.nd rfl (Or.inl rfl)) (a0e (a0E (a0A (c4D hr.units) (pv 2) (pv 1) (by with_unfolding_all rfl)) (a0e (a0t (b4K PySem.F.plainAttrs_list PySem.F.slot_list_append PySem.F.type_list_append a1k (pv 1) (a0a (pv 2) a0f)))) a0q)))
   (a0e (a0v (pv 1))))),?_⟩
  have hq:SqL K H a xs:=SqL.of ha
  have hlx:xs.length = ps.length:=hsp.length
  refine ⟨sl,fun l hl => ?_⟩
  refine ⟨_,rfl,a,rfl,⟨_,(Same.new hl).seq hq⟩,?_⟩
  refine b3w (K:=K) (a:=a) (xs:=xs) (fun i σ H2 => ∃ o ys,σ = [some (.ref a),some (.ref l),o] /\ Same H H2 /\ H2 l = some (.lst ys) /\ Sps H ys (a1v (ps.take i))) ⟨_,[],rfl,Same.new hl,a0c,.nil⟩ (fun i σ H2 _ ⟨_,_,_,s2,_⟩ => s2.seq hq) ?_ ?_
  ·rintro i x σ H2 hx ⟨o,ys,rfl,s2,h2,hd⟩
   obtain ⟨p,e,hp2⟩:=hsp.at hx
   have hp:=List.mem_of_getElem? e
   have hle:=hd.length
   have hyl:ys.length <= 100:=by
    have h3:=b7H (ps.take i)
    rw [List.length_take] at h3
    omega
   have lay2:(PyData.list ((a1v (ps.take i)).map spD)).canLay0 = true:=b79 fun p' hp' => hN p' (List.mem_of_mem_take (b0Y hp'))
   have et:a1v (ps.take (i + 1)) = if p ∈ a1v (ps.take i) then a1v (ps.take i) else a1v (ps.take i) ++ [p]:=by
    rw [List.take_add_one,e]
    exact b7P _ _
   refine ⟨_,rfl,_,rfl,spD p,_,(St2.dt hp2).same s2,Dt.lst (SqL.of h2) (a16.same s2 (Sps.dt hd)),c2G (hN p hp).1 (hN p hp).2,lay2,(show max 0 (max 0 0) + 1 <= 62 by decide),_,rfl,?_⟩
   rw [c6e]
   by_cases hm:p ∈ a1v (ps.take i)
   ·rw [decide_eq_true hm]
    rw [if_pos hm] at et
    exact iteF ⟨_,ys,rfl,s2,h2,by rw [et]; exact hd⟩
   ·rw [decide_eq_false hm]
    rw [if_neg hm] at et
    refine iteT ?_
    refine ⟨_,rfl,.inl ⟨rfl,_,SqL.of h2⟩,_,rfl,l,_,_,rfl,rfl,h2,a0w (by omega),?_⟩
    have s3:Same H (upd H2 l (.lst (ys ++ [x]))):=s2.on hl
    refine ⟨_,ys ++ [x],rfl,s3,a0c,?_⟩
    rw [et]
    exact hd.snoc hp2
  ·rintro σ H2 ⟨o,ys,rfl,s2,h2,hd⟩
   refine ⟨_,rfl,q H2 l ys s2 hl h2 ?_⟩
   rw [hlx,List.take_length] at hd
   exact hd.same s2
def c6C (C:Addr):Sp:=fun vs H Q _ => ∃ (p dx fa:Addr) (t k n:Str),vs = [.ref p,.str t] /\ H p = some (.ins C dx (gfl k n fa)) /\ Nl k /\ Nl n /\ Nl t /\
 ∀ H' l ys,Same H H' -> H l = none -> H' l = some (.lst ys) -> Sps H' ys (a1v [(t,k),(t,n)]) -> Q (.ref l) H'
theorem b8P:a0l ["self", "table"] ["self", "table"] (a0b a3p):=⟨rfl,rfl,rfl,by decide +kernel,rfl,by decide +kernel,by decide +kernel⟩
theorem a3X (T:Tops K mg) {C:Addr} (Y:a69 K mg C):a0k P w K mg base CX0 3 C "leans" ["self", "table"] (c6C C):=by
 have G_each_once:a0C P w K mg base CX0 2 "each_once" ["spots"] c7P:=c3W T
 refine Y.m_leans.known b8P (fun _ _ _ _ _ _ us hl => match us,hl with | [_,_],_ => rfl) (fun vs H Q E h => ?_) (fun f cdv A outer s H vs Q E hr h => ?_)
 ·obtain ⟨p,dx,fa,t,k,n,rfl,_⟩:=h
  rfl
 ·obtain ⟨p,dx,fa,t,k,n,rfl,h1,hk,hn,ht,q⟩:=h
  refine ⟨_,(a0e (a0v (a0o G_each_once (hr.mono (by decide)) a0r (a0a (a2K (a0a (a7e (a0a (pv 1) (a0a (a0n (pv 0) rfl) a0f))) (a0a (a7e (a0a (pv 1) (a0a (a0n (pv 0) rfl) a0f))) a0f))) a0f)))),?_⟩
  obtain ⟨g1,g2,g3,_⟩:=b7X k n fa
  refine ⟨_,rfl,_,rfl,p,C,dx,_,_,rfl,h1,Y.cl,Y.n_key,g2,sl,fun t1 ht1 => ?_⟩
  have s1:Same H (upd H t1 (.tup [.str t,.str k])):=Same.new ht1
  refine ⟨_,rfl,_,rfl,p,C,dx,_,_,rfl,s1 _ _ h1,Y.cl,Y.n_name,g3,sl,fun t2 ht2 => ?_⟩
  have s2:=Same.new (o:=.tup [.str t,.str n]) ht2
  refine ⟨sl,fun l hl => ?_⟩
  have s3:=Same.new (o:=.lst [.ref t1,.ref t2]) hl
  refine ⟨l,_,[(t,k),(t,n)],rfl,a0c,.cons ⟨t1,rfl,s3 _ _ (s2 _ _ a0c)⟩ (.cons ⟨t2,rfl,s3 _ _ a0c⟩ .nil),fun x hx => ?_,(show 2 <= 100 by decide),fun H4 l' ys s4 hl' h4' hs => ?_⟩
  ·simp only [List.mem_cons,List.not_mem_nil,or_false] at hx
   rcases hx with rfl | rfl
   ·exact ⟨ht,hk⟩
   ·exact ⟨ht,hn⟩
  ·have s5:=(s1.trans s2).trans s3
   exact q H4 l' ys (s5.trans s4) (a0M s5 hl') h4' hs
def d1Q (CS CB CT:Addr):Sp:=fun vs H Q _ => ∃ (s bd ch fi dx l:Addr) (sv:V) (kb:List (Key × V)) (ys:List V) (zs:List Sp2),vs = [.ref s,sv,.ref l] /\ H s = some (.ins CS dx (sfl bd ch fi)) /\ H bd = some (.dK kb) /\ H l = some (.lst ys) /\ Sps H ys zs /\ (∀ z ∈ zs,N2 z /\ ∃ B:BM,valV kb (.inr z.1:Key) = some (.ref B.b) /\ BAt CB CT H B /\ z.2 ∈ B.ord) /\ ∀ H',Same H H' -> Q .non H'
theorem a1z:a0l ["self", "spot", "leans", "table", "column", "there"] ["self", "spot", "leans"] (a0b a06):=⟨rfl,rfl,rfl,by decide +kernel,rfl,by decide +kernel,by decide +kernel⟩
theorem a05 (T:Tops K mg) {CS CB CT:Addr} (Y:a29 K mg CS) (W:a0R K mg CB):a0k P w K mg base CX0 3 CS "check_leans" ["self", "spot", "leans"] (d1Q CS CB CT):=by
 have G_has:a0k P w K mg base CX0 2 CB "has_column" ["self", "column"] (d0R CB CT):=a0U T W
 refine Y.m_check_leans.known a1z (fun _ _ _ _ _ _ us hl => match us,hl with | [_,_,_],_ => rfl) (fun vs H Q E h => ?_) (fun f cdv A outer s H vs Q E hr h => ?_)
 ·obtain ⟨s',bd,ch,fi,dx,l,sv,kb,ys,zs,rfl,_⟩:=h
  rfl
 ·obtain ⟨s',bd,ch,fi,dx,l,sv,kb,ys,zs,rfl,h1,h2,h3,hz,hb,q⟩:=h
  have hu:=a2I hr
  refine ⟨_,(a0e (b1m PassesOwn.never rfl (b4y (pv 2)) (d2s rfl (c6F (a35 (i:=3) a1z.nd rfl (Or.inl rfl)) (c6F (a35 (i:=4) a1z.nd rfl (Or.inl rfl)) d0r)))
   (a0d (a0B (i:=5) a1z.nd rfl (Or.inl rfl) (b7Q (c8q (b8g hu (pv 3) (a0n (pv 0) rfl))) (b7w (a0s (a00 hu (a0n (pv 0) rfl) (pv 3) (fun _ _ => rfl)) W.cl G_has hr a0r (a0a (pv 4) a0f)))))
   (a0e (a0E (PW.pt (b74 (a23 (a1w (pv 5) (fun _ => rfl))) (b2p (a0A (c4d hr.units) (a7e (a0a (pv 3) (a0a (pv 4) a0f))) (pv 1) (a0Z _))))) (a0e a0y) a0q))))),?_⟩
  refine ⟨_,rfl,l,rfl,⟨_,SqL.of h3⟩,?_⟩
  refine b3w (K:=K) (a:=l) (xs:=ys) (fun i σ H2 => ∃ o3 o4 o5,σ = [some (.ref s'),some sv,some (.ref l),o3,o4,o5] /\ Same H H2) ⟨_,_,_,rfl,Same.refl _⟩ (fun i σ H2 _ ⟨_,_,_,_,s2⟩ => SqL.of (s2 _ _ h3)) ?_ ?_
  ·rintro i x σ H2 hx ⟨o3,o4,o5,rfl,s2⟩
   obtain ⟨z,e,hz2⟩:=hz.at hx
   obtain ⟨a,rfl,ha⟩:=hz2.same s2
   obtain ⟨nz,B,b1,b2,b3⟩:=hb z (List.mem_of_getElem? e)
   have hB2:=b2.same s2
   obtain ⟨dB,hB⟩:=hB2.at_
   refine ⟨a,_,rfl,SqT.of ha,rfl,_,_,rfl,_,_,rfl,rfl,?_⟩
   refine ⟨_,rfl,_,rfl,s',CS,dx,_,_,rfl,s2 _ _ h1,Y.cl,Y.n_boards,(b3q _ _ _).1,bd,_,rfl,DGet.k (k:=Sum.inr z.1) (s2 _ _ h2),?_⟩
   rw [b1]
   refine ⟨_,rfl,iteT ?_⟩
   refine ⟨_,rfl,s',CS,dx,_,_,rfl,s2 _ _ h1,Y.cl,Y.n_boards,(b3q _ _ _).1,_,rfl,bd,_,rfl,b1 ▸ DGet.k (k:=Sum.inr z.1) (s2 _ _ h2),B.b,dB,_,rfl,hB,b68,_,rfl,B,z.2,rfl,hB2,nz.2,fun H3 s3 => ?_⟩
   rw [decide_eq_true b3]
   exact ⟨_,rfl,_,rfl,iteF ⟨_,_,_,rfl,s2.trans s3⟩⟩
  ·rintro σ H2 ⟨o3,o4,o5,rfl,s2⟩
   exact q H2 s2
def d18 (CS CB CT:Addr):Sp:=fun vs H Q _ => ∃ (s bd ch fi dx l:Addr) (sv:V) (kb:List (Key × V)) (ys:List V) (sp:Sp2) (zs:List Sp2),vs = [.ref s,sv,.ref l] /\ H s = some (.ins CS dx (sfl bd ch fi)) /\ H bd = some (.dK kb) /\ (kb.map (·.1)).Nodup /\ H l = some (.lst ys) /\ Sps H ys zs /\ (∀ z ∈ zs,N2 z) /\ zs.length <= 100 /\ St2 H sv sp /\ N2 sp /\ sp ∉ zs /\ (∀ kv ∈ kb,∃ (nm:Str) (B:BM),kv = ((.inr nm:Key),V.ref B.b) /\ BAt CB CT H B /\ B.rus = [] /\ bd ≠ B.ru) /\ ∀ H',Same H H' -> Q .non H'
abbrev Ncr:List Str:=["self", "spot", "leans", "leanings", "table", "rules", "column", "found"]
theorem a0O:a0l Ncr ["self", "spot", "leans"] (a0b a1n):=⟨rfl,rfl,rfl,by decide +kernel,rfl,by decide +kernel,by decide +kernel⟩
theorem c1R {κ:Type} [DecidableEq κ]:∀ {kvs:List (κ × V)} {kv:κ × V},(kvs.map (·.1)).Nodup -> kv ∈ kvs -> valV kvs kv.1 = some kv.2
 | [],_,_,h => by cases h
 | x :: xs,kv,nd,h => by
  rw [List.map_cons,List.nodup_cons] at nd
  unfold valV
  rcases List.mem_cons.mp h with rfl | h
  ·simp [List.find?]
  ·have ne:¬ x.1 = kv.1:=fun y => nd.1 (y ▸ List.mem_map.mpr ⟨kv,h,rfl⟩)
   have ih:=c1R nd.2 h
   unfold valV at ih
   rw [List.find?_cons_of_neg (by simpa using ne)]
   exact ih
theorem a1j (T:Tops K mg) {CS CB CT:Addr} (Y:a29 K mg CS) (W:a0R K mg CB):a0k P w K mg base CX0 3 CS "check_ring" ["self", "spot", "leans"] (d18 CS CB CT):=by
 have G_ring:a0C P w K mg base CX0 2 "ring_from" ["leanings", "spot"] (c9L K):=a6S T
 refine Y.m_check_ring.known a0O (fun _ _ _ _ _ _ us hl => match us,hl with | [_,_,_],_ => rfl) (fun vs H Q E h => ?_) (fun f cdv A outer s H vs Q E hr h => ?_)
 ·obtain ⟨s',bd,ch,fi,dx,l,sv,kb,ys,sp,zs,rfl,_⟩:=h
  rfl
 ·obtain ⟨s',bd,ch,fi,dx,l,sv,kb,ys,sp,zs,rfl,h1,h2,nd,h3,hz,hN,z100,hsv,nsp,hns,hb,q⟩:=h
  have hu:=a2I hr
  refine ⟨_,(a0d (a0B (i:=3) a0O.nd rfl (Or.inl rfl) b3h)
   (a0d (c5f PassesOwn.never rfl (a0n (pv 0) rfl) (a35 (i:=4) a0O.nd rfl (Or.inl rfl)) (a0d (a0B (i:=5) a0O.nd rfl (Or.inl rfl) (a0n (a00 hu (a0n (pv 0) rfl) (pv 4) (fun _ _ => rfl)) rfl))
   (a0e (c5f PassesOwn.never rfl (pv 5) (a35 (i:=6) a0O.nd rfl (Or.inl rfl)) (a0e a0y)))))
   (a0d (a6x hu (pv 3) (pv 1) (pv 2) rfl)
   (a0d (a0B (i:=7) a0O.nd rfl (Or.inl rfl) (a0o G_ring hr a0r (a0a (pv 3) (a0a (pv 1) a0f))))
   (a0e (a0E (a0A d05 (pv 7) a6q (a0Z _)) (a0e a0y) a0q)))))),?_⟩
  intro gd hgd
  have s1:=Same.new (o:=.dT []) hgd
  have g1:upd H gd (.dT []) gd = some (.dT []):=a0c
  generalize upd H gd (.dT []) = H1 at s1 g1 ⊢
  have h2':=s1 _ _ h2
  refine ⟨_,rfl,s',CS,dx,_,_,rfl,s1 _ _ h1,Y.cl,Y.n_boards,(b3q _ _ _).1,bd,_,rfl,h2',fun nf ob => ?_⟩
  obtain ⟨Hf,eHf⟩:∃ Hf,Hf = upd H1 bd (.frz ob (.dK kb)):=⟨_,rfl⟩
  rw [<- eHf]
  have hf:Hf bd = some (.frz ob (.dK kb)):=by rw [eHf,a0c]
  have kf:∀ {x:Addr} {o:HO},x ≠ bd -> H1 x = some o -> Hf x = some o:=fun n e => by rw [eHf,a0g n]; exact e
  refine b94 (a:=bd) (ob:=ob) (kvs:=kb) (fun i σ H2 => (∃ o4 o5 o6,σ = [some (.ref s'),some sv,some (.ref l),some (.ref gd),o4,o5,o6,none]) /\ Same Hf H2) ⟨⟨_,_,_,rfl⟩,Same.refl _⟩ (fun i σ H2 _ ⟨_,s2⟩ => s2 _ _ hf) ?_ ?_
  ·rintro j p σ H2 hp ⟨⟨o4,o5,o6,rfl⟩,s2⟩
   have hpm:=List.mem_of_getElem? hp
   obtain ⟨nm,B,rfl,b1,b2,b3⟩:=hb p hpm
   have hv:valV kb (.inr nm:Key) = some (.ref B.b):=c1R nd hpm
   obtain ⟨dB,e1⟩:=(b1.same s1).at_
   have nb:B.b ≠ bd:=fun y => by rw [y,h2'] at e1; cases e1
   have ns:s' ≠ bd:=fun y => by rw [y,h2] at h1; cases h1
   have eb:=s2 _ _ (kf nb e1)
   have es:=s2 _ _ (kf ns (s1 _ _ h1))
   have er:=s2 _ _ (kf b3.symm (b1.same s1).rul)
   rw [b2] at er
   refine ⟨_,rfl,s',CS,dx,_,_,rfl,es,Y.cl,Y.n_boards,(b3q _ _ _).1,_,rfl,bd,_,rfl,.inl ⟨kb,.inr nm,.inr ⟨ob,s2 _ _ hf⟩,rfl,hv.symm⟩,B.b,CB,dB,_,_,rfl,eb,W.cl,W.n_rules,(a1l _ _ _ _).2.1,?_⟩
   refine ⟨_,rfl,B.ru,_,rfl,er,fun nf2 ob2 => ?_⟩
   obtain ⟨Hg,eHg⟩:∃ Hg,Hg = upd H2 B.ru (.frz ob2 (.dK [])):=⟨_,rfl⟩
   rw [<- eHg]
   refine b94 (a:=B.ru) (ob:=ob2) (kvs:=[]) (g:=c7l 6) (tb:=fun _ _ _ => False) (fun i σ H3 => σ = [some (.ref s'),some sv,some (.ref l),some (.ref gd),some (.str nm),some (.ref B.ru),o6,none] /\ H3 = Hg) ⟨rfl,rfl⟩ (fun i σ H3 _ ⟨_,y⟩ => by rw [y,eHg,a0c]) (fun i p σ H3 hp _ => by cases hp) ?_
   rintro σ H3 ⟨rfl,rfl⟩
   exact ⟨B.ru,ob2,[],nf2,by rw [eHg,a0c],⟨_,_,_,rfl⟩,by rw [eHg,d0u,c9V er]; exact s2⟩
  ·rintro σ H2 ⟨⟨o4,o5,o6,rfl⟩,s2⟩
   refine ⟨bd,ob,kb,nf,s2 _ _ hf,?_⟩
   have s3:Same H1 (upd H2 bd (.dK kb)):=Same.thaw h2' (eHf ▸ s2)
   generalize upd H2 bd (.dK kb) = H3 at s3 ⊢
   have s13:=s1.trans s3
   obtain ⟨sa,rfl,hsa⟩:=hsv.same s13
   refine ⟨_,rfl,_,rfl,_,rfl,gd,_,rfl,.inr ⟨[],kS sp,sa,s3 _ _ g1,rfl,hsa,a0w (by decide),rfl⟩,?_⟩
   have s4:Same H (upd H3 gd (.dT (putK [] (kS sp) (.ref l)))):=s13.on hgd
   have g4:upd H3 gd (.dT (putK [] (kS sp) (.ref l))) gd = some (.dT [(kS sp,.ref l)]):=a0c
   generalize upd H3 gd (.dT (putK [] (kS sp) (.ref l))) = H4 at s4 g4 ⊢
   let adj:Sp2 -> List Sp2:=fun z => if z = sp then zs else []
   have va:∀ z,valV [(kS sp,V.ref l)] (kS z) = if z = sp then some (.ref l) else none:=fun z => by
    have:=a08 ([]:List (List Key × V)) (kS sp) (kS z) (.ref l)
    rw [show putK ([]:List (List Key × V)) (kS sp) (.ref l) = [(kS sp,.ref l)] from rfl] at this
    rw [this]
    by_cases e:z = sp
    ·rw [if_pos e,if_pos (by rw [e])]
    ·rw [if_neg e,if_neg (fun y => e (c9Y y))]
     rfl
   have gr:Grh H4 gd [(kS sp,.ref l)] adj:=by
    refine ⟨g4,fun z => ?_,fun z y hy => ?_,fun z => ?_⟩
    ·rw [va z]
     by_cases e:z = sp
     ·rw [if_pos e]
      exact .inr ⟨l,ys,rfl,s4 _ _ h3,by show Sps H4 ys (if z = sp then zs else []); rw [if_pos e]; exact hz.same s4⟩
     ·rw [if_neg e]
      exact .inl ⟨rfl,if_neg e⟩
    ·have hy:y ∈ (if z = sp then zs else []):=hy
     split at hy
     ·exact hN y hy
     ·cases hy
    ·show (if z = sp then zs else []).length <= 100
     split
     ·exact z100
     ·exact Nat.zero_le _
   refine ⟨_,rfl,_,rfl,gd,_,_,adj,sp,zs,rfl,gr,hsv.same s4,nsp,fun z y hy => ?_,z100,fun H5 s5 => ⟨fun _ => ?_,fun l' vs' ys' _ _ _ R _ => ?_⟩⟩
   ·have hy:y ∈ (if z = sp then zs else []):=hy
    split at hy
    ·exact hy
    ·cases hy
   ·exact ⟨_,rfl,rfl,_,rfl,iteF (q H5 (s4.trans s5))⟩
   ·exfalso
    have:=R.back
    obtain ⟨m,hm⟩:∃ m,ys'.length = m + 1:=⟨ys'.length - 1,by have:=R.pos; omega⟩
    rw [hm] at this
    obtain ⟨x,_,hx⟩:=this.inv
    have hx:sp ∈ (if x = sp then zs else []):=hx
    split at hx
    ·exact hns hx
    ·cases hx
def c8R (K:PySem.W.Frag) (CS CF CB CT CG:Addr):Sp:=fun vs H Q _ => ∃ (s bd ch gr dg fa:Addr) (cs:List V) (nm t k n:Str) (B:BM),vs = [.ref s,.str nm,.str t,.ref gr] /\ b1L CS s bd ch cs [((.inr nm:Key),V.ref B.b)] H /\ cs.length < 900 /\ Nl nm /\ BAt CB CT H B /\ B.sep /\ c7k bd ch B /\ New B t /\ Nl t /\ H gr = some (.ins CG dg (gfl k n fa)) /\ Nl k /\ Nl n /\ k ∈ B.ord /\ n ∈ B.ord /\ B.rus = [] /\ B.mes = [] /\ B.ord.length < 8 /\
 ∀ H' fi fd lk c m,c6I CS CF s bd ch fi fd lk (cs ++ [.ref c]) [((.inr nm:Key),V.ref B.b)] H H' -> H m = none -> BAt CB CT H' { B with rus:=putK B.rus (.inr t:Key) (.ref gr),mes:=putK B.mes (.inr t:Key) (.ref m),ord:=B.ord ++ [t] } -> H' m = some (.dK []) -> (∀ x o,x ≠ s -> x ≠ ch -> x ≠ B.od -> x ≠ B.ru -> x ≠ B.me -> H x = some o -> H' x = some o) -> Q .non H'
theorem a8x:a0l ["self", "table", "column", "rule", "board", "leans"] ["self", "table", "column", "rule"] (a0b a4M):=⟨rfl,rfl,rfl,by decide +kernel,rfl,by decide +kernel,by decide +kernel⟩
theorem a4N (T:Tops K mg) {CS CF CB CT CC CG:Addr} (Y:a29 K mg CS) (Z:a03 K mg CF) (W:a0R K mg CB) (U:a1g K mg CT) (C:a25 K mg CC) (Gr:a69 K mg CG):a0k P w K mg base CX0 9 CS "rule" ["self", "table", "column", "rule"] (c8R K CS CF CB CT CG):=by
 have G_for:a0k P w K mg base CX0 3 CS "board_for" ["self", "table", "column"] (d0U CS CB CT):=a01 T Y W
 have G_le:a0k P w K mg base CX0 3 CG "leans" ["self", "table"] (c6C CG):=a3X T Gr
 have G_cl:a0k P w K mg base CX0 3 CS "check_leans" ["self", "spot", "leans"] (d1Q CS CB CT):=a05 T Y W
 have G_cr:a0k P w K mg base CX0 3 CS "check_ring" ["self", "spot", "leans"] (d18 CS CB CT):=a1j T Y W
 have GI:a19 P w K mg base CX0 1 CC ["self", "board", "column", "content"] (d0S CC):=a1d T C
 have G_make:a0k P w K mg base CX0 8 CS "make" ["self", "change"] (spMk CS CF CC (spCS CC CB CT (c8U K CB CT))):=a1F T Y Z C.cl (c8s c7G) (a1b T C W (b6g T W))
 refine Y.m_rule.known a8x (fun _ _ _ _ _ _ us hl => match us,hl with | [_,_,_,_],_ => rfl) (fun vs H Q E h => ?_) (fun f cdv A outer s H vs Q E hr h => ?_)
 ·obtain ⟨s',bd,ch,gr,dg,fa,cs,nm,t,k,n,B,rfl,_⟩:=h
  rfl
 ·obtain ⟨s',bd,ch,gr,dg,fa,cs,nm,t,k,n,B,rfl,hS,cl,hn,hB,sep,ss,new,ht,hgr,nk,nn,ok,on,ru0,me0,o8,q⟩:=h
  refine ⟨_,(a0d (a0B (i:=4) a8x.nd rfl (Or.inl rfl) (a0s (pv 0) Y.cl G_for (hr.mono (by decide)) a0r (a0a (pv 1) (a0a (pv 2) a0f))))
   (a0d (a0B (i:=5) a8x.nd rfl (Or.inl rfl) (a0s (pv 3) Gr.cl G_le (hr.mono (by decide)) a0r (a0a (pv 1) a0f)))
   (a0d (a0t (a0s (pv 0) Y.cl G_cl (hr.mono (by decide)) a0r (a0a (a7e (a0a (pv 1) (a0a (pv 2) a0f))) (a0a (pv 5) a0f))))
   (a0d (a0t (a0s (pv 0) Y.cl G_cr (hr.mono (by decide)) a0r (a0a (a7e (a0a (pv 1) (a0a (pv 2) a0f))) (a0a (pv 5) a0f))))
   (a0e (a0t (a0s (pv 0) Y.cl G_make hr a0r (a0a (a4v GI (hr.mono (by decide)) C.c a0r (a0a (pv 4) (a0a (pv 2) (a0a (pv 3) a0f)))) a0f)))))))),?_⟩
  obtain ⟨⟨dx,fi0,h1⟩,h2,h3⟩:=hS
  have hv:valV [((.inr nm:Key),V.ref B.b)] (.inr nm:Key) = some (.ref B.b):=c1R (kv:=((.inr nm:Key),V.ref B.b)) (by simp) (by simp)
  refine ⟨_,rfl,s',dx,_,rfl,h1,a3b,_,rfl,_,rfl,s',bd,ch,fi0,dx,_,nm,t,B,rfl,h1,h3,hn,hv,hB,ht,o8,fun H1 s1 => ?_⟩
  refine ⟨_,rfl,gr,dg,_,rfl,s1 _ _ hgr,(b7X _ _ _).2.2.2.1,_,rfl,gr,dg,fa,nm,k,n,rfl,s1 _ _ hgr,nk,nn,hn,fun H2 l ys s2 hl h2l hsp => ?_⟩
  have s12:=s1.trans s2
  refine ⟨_,rfl,s',dx,_,rfl,s12 _ _ h1,a3b,_,rfl,_,rfl,sl,fun t1 ht1 => ?_⟩
  have s3':=Same.new (o:=.tup [.str nm,.str t]) ht1
  have tt1:upd H2 t1 (.tup [.str nm,.str t]) t1 = some (.tup [.str nm,.str t]):=a0c
  generalize upd H2 t1 (.tup [.str nm,.str t]) = H3 at s3' tt1 ⊢
  have s3:=s12.trans s3'
  have mem:∀ z ∈ a1v [(nm,k),(nm,n)],z = (nm,k) ∨ z = (nm,n):=fun z hz => by
   have:=b0Y hz
   simpa using this
  refine ⟨_,rfl,s',bd,ch,fi0,dx,l,.ref t1,_,ys,_,rfl,s3 _ _ h1,s3 _ _ h3,s3' _ _ h2l,hsp.same s3',fun z hz => ?_,fun H4 s4 => ?_⟩
  ·rcases mem z hz with rfl | rfl
   ·exact ⟨⟨hn,nk⟩,B,hv,hB.same s3,ok⟩
   ·exact ⟨⟨hn,nn⟩,B,hv,hB.same s3,on⟩
  have s4':=s3.trans s4
  refine ⟨_,rfl,s',dx,_,rfl,s4' _ _ h1,a3b,_,rfl,_,rfl,sl,fun t2 ht2 => ?_⟩
  have s5':=Same.new (o:=.tup [.str nm,.str t]) ht2
  have tt2:upd H4 t2 (.tup [.str nm,.str t]) t2 = some (.tup [.str nm,.str t]):=a0c
  generalize upd H4 t2 (.tup [.str nm,.str t]) = H5 at s5' tt2 ⊢
  have s5:=s4'.trans s5'
  have s25:=(s3'.trans s4).trans s5'
  have le2:(a1v [(nm,k),(nm,n)]).length <= 100:=Nat.le_trans (b7H _) (show 2 <= 100 by decide)
  refine ⟨_,rfl,s',bd,ch,fi0,dx,l,.ref t2,_,ys,(nm,t),_,rfl,s5 _ _ h1,s5 _ _ h3,by simp,s25 _ _ h2l,hsp.same s25,fun z hz => ?_,le2,⟨t2,rfl,tt2⟩,⟨hn,ht⟩,fun hz => ?_,fun kv hkv => ?_,fun H6 s6' => ?_⟩
  ·rcases mem z hz with rfl | rfl
   ·exact ⟨hn,nk⟩
   ·exact ⟨hn,nn⟩
  ·rcases mem _ hz with e | e
   ·exact new.2 ((Prod.mk.inj e).2 ▸ ok)
   ·exact new.2 ((Prod.mk.inj e).2 ▸ on)
  ·rw [List.mem_singleton.mp hkv]
   exact ⟨nm,B,rfl,hB.same s5,ru0,ss.u⟩
  have s6:=s5.trans s6'
  refine ⟨_,rfl,s',dx,_,rfl,s6 _ _ h1,a3b,_,rfl,_,rfl,_,rfl,?_⟩
  intro c dc hc hdc ne
  refine ⟨c,dc,B.b,gr,t,rfl,a0c,fun H7 b7 c7 => ⟨rfl,?_⟩⟩
  have s7:Same H H7:=fun b o z => b7 b o (a0h (s6 _ _ z) hc) (by rw [a0g (a0h (s6 _ _ z) hc),a0g (a0h (s6 _ _ z) hdc)]; exact s6 _ _ z)
  have hB7:=hB.same s7
  have gr7:=s7 _ _ hgr
  refine ⟨s',c,bd,ch,fi0,dx,dc,cs,_,rfl,c7,(c7Y _ _ _).2.2.2.1,c,dc,gr,B,t,rfl,c7,hB7,new,B,t,gr,CG,dg,_,rfl,hB7,sep,new,gr7,.ins gr7 Gr.cl Gr.hc Gr.own.2.1 Gr.own.2.2 Gr.own.1,Gr.isl,by rw [ru0]; decide,by rw [me0]; decide,by omega,fun H8 m hm B8 m8 u8 => ?_⟩
  have ho:=hB.ord
  have hru:=hB.rul
  have hme:=hB.mem
  have k8:∀ {x:Addr} {o:HO},H x = some o -> x ≠ B.od -> x ≠ B.ru -> x ≠ B.me -> H8 x = some o:=fun e n1 n2 n3 => u8 _ _ n1 n2 n3 (s7 _ _ e)
  have ns4:=k8 h1 (fun y => by rw [y,ho] at h1; cases h1) (fun y => by rw [y,hru] at h1; cases h1) (fun y => by rw [y,hme] at h1; cases h1)
  have ch4:=k8 h2 ss.o (fun y => by rw [y,hru] at h2; cases h2) (fun y => by rw [y,hme] at h2; cases h2)
  refine ⟨ns4,ch4,cl,fun H9 fi fd lk df f1 f2 f3 nfl g1 g2 g3 g4 g5 u9 => ?_⟩
  have nn:∀ {x:Addr},H8 x = none -> H x = none:=fun {x} e => by
   cases e2:H x with
   | none => rfl
   | some o =>
    by_cases y:x = B.od
    ·rw [y,B8.ord] at e; cases e
    ·by_cases y2:x = B.ru
     ·rw [y2,B8.rul] at e; cases e
     ·by_cases y3:x = B.me
      ·rw [y3,B8.mem] at e; cases e
      ·rw [k8 e2 y y2 y3] at e; cases e
  have hm0:H m = none:=a0M s7 hm
  have nm':m ≠ s' /\ m ≠ ch:=⟨fun y => by {rw [y,h1] at hm0; cases hm0},fun y => by {rw [y,h2] at hm0; cases hm0}⟩
  have nb:bd ≠ s' /\ bd ≠ ch:=⟨fun y => by {rw [y,h1] at h3; cases h3},fun y => by {rw [y,h2] at h3; cases h3}⟩
  exact q H9 fi fd lk c m ⟨⟨dx,g1⟩,g2,u9 _ _ nb.1 nb.2 (k8 h3 (fun y => by rw [y,ho] at h3; cases h3) ss.u ss.m),⟨df,g3⟩,g4,g5,nfl,nn f1,nn f2,nn f3⟩ hm0 (B8.off ⟨dx,bd,ch,fi0,ns4⟩ ch4 ss.r ss.o u9) (u9 _ _ nm'.1 nm'.2 m8) (fun x o n1 n2 n3 n4 n5 e => u9 _ _ n1 n2 (k8 e n3 n4 n5))
end
end My
set_option maxHeartbeats 1000000
namespace My
open PySem L2
theorem d2Y:bootBuiltins "sum" = some (.builtin "sum"):=by kernel_rfl
theorem d2Q:bootBuiltins "max" = some (.builtin "max"):=by kernel_rfl
section
variable {P:Program} {w:World} {K:PySem.W.Frag} {mg:Str -> Option Value} {base:Heap}
def c7D (K:PySem.W.Frag):Sp:=fun vs H Q _ => ∃ (a:Addr) (ns:List Int) (k:Int),vs = [.ref a,.int k] /\ SqL K H a (ns.map V.int) /\ ns.length <= 63 /\ 0 <= k /\ k <= 1000000 /\ ∀ m:Int,0 <= m -> m < 2147483629 -> Q (.int m) H
theorem a7i:a0l ["_law_script", "_law_k", "_law_cell"] ["_law_script", "_law_k"] (a0b a2Y):=⟨rfl,rfl,rfl,by decide +kernel,rfl,by decide +kernel,by decide +kernel⟩
theorem a2f (T:Tops K mg):a0C P w K mg base CX0 1 "_law_mixed" ["_law_script", "_law_k"] (c7D K):=by
 refine T.d_law_mixed.known a7i (fun _ _ _ _ _ _ us hl => match us,hl with | [_,_],_ => rfl) (fun vs H Q E h => ?_) (fun f cdv A outer s H vs Q E hr h => ?_)
 ·obtain ⟨a,ns,k,rfl,_⟩:=h
  rfl
 ·obtain ⟨a,ns,k,rfl,hS,hl,h0,h6,q⟩:=h
  have rest:∃ t,PSs (cxOf CX0 P w K mg base ["_law_script", "_law_k", "_law_cell"] "_law_mixed" (a0b a2Y) f cdv A outer s H E).nox ((a0i a2Y).drop 2) t /\ ∀ c:Int,t { nx:=fun _ H' => Q .non H',rt:=Q } [some (.ref a),some (.int k),some (.int c)] H:=by
   refine ⟨_,(a0d (a0B (i:=2) a7i.nd rfl (Or.inl rfl) (a1p a5B (a1p b7M (a1p b0k (a1p b0k (a1p a5B (pv 2) a0p) (a1p b7M a0p (pv 1))) a0p) a0p) a0p))
    (a0e (a0v (a1p a5B (a1p b7M (pv 2) (a1p b0k (a1p b0k (a1p a5B (pv 2) a0p) (pv 1)) a0p)) a0p)))),fun c => ?_⟩
   refine ⟨_,rfl,_,_,rfl,rfl,(show (0:Int) < 2147483629 by decide),_,rfl,_,_,rfl,rfl,.inl ⟨by decide,by decide⟩,_,_,rfl,rfl,_,_,rfl,rfl,_,_,rfl,rfl,.inr ⟨by decide,by decide⟩,_,_,rfl,rfl,(show (0:Int) < 2147483647 by decide),?_⟩
   have e1:=Int.emod_nonneg ((c % 2147483629 + 6151 * k + 1) * 48271) (show (2147483647:Int) ≠ 0 by decide)
   have e2:=Int.emod_lt_of_pos ((c % 2147483629 + 6151 * k + 1) * 48271) (show (0:Int) < 2147483647 by decide)
   refine ⟨_,rfl,_,rfl,_,_,rfl,rfl,(show (0:Int) < 65519 by decide),_,rfl,_,_,rfl,rfl,_,_,rfl,rfl,_,_,rfl,rfl,.inl ⟨by omega,by omega⟩,_,_,rfl,rfl,(show (0:Int) < 2147483629 by decide),?_⟩
   exact q _ (Int.emod_nonneg _ (by decide)) (Int.emod_lt_of_pos _ (by decide))
  obtain ⟨t,ht,hq⟩:=rest
  refine ⟨_,(a0d (a0B (i:=2) a7i.nd rfl (Or.inl rfl) a0p)
   (a0d (a0E (a0A d21 (a0z a4A rfl T.len b6u (a0a (pv 0) a0f)) a0p (a0Z _)) (a0e (a0B (i:=2) a7i.nd rfl (Or.inl rfl) (a1P a1T (pv 0) (a1p a5B (pv 1) (a0z a4A rfl T.len b6u (a0a (pv 0) a0f))) (fun _ _ => rfl)))) a0q) ht)),?_⟩
  have el:((ns.map V.int).length:Int) = (ns.length:Int):=by rw [List.length_map]
  refine ⟨_,rfl,_,_,rfl,.inl ⟨_,hS,rfl⟩,_,_,rfl,rfl,_,rfl,?_⟩
  rw [el]
  refine ite2 (fun h2 => ?_) (fun h2 => ?_)
  ·have h2':0 < (ns.length:Int):=by simpa using h2
   have hm:=Int.emod_nonneg k (Int.ne_of_gt h2')
   have hm':=Int.emod_lt_of_pos k h2'
   exact ⟨_,rfl,_,rfl,_,rfl,_,_,rfl,.inl ⟨_,hS,rfl⟩,_,_,rfl,rfl,by rw [el]; exact h2',a,_,_,_,rfl,rfl,hS,by rw [el]; exact d2D ns _ hm hm',hq _⟩
  ·exact hq _
def spLv (K:PySem.W.Frag):Sp:=fun vs H Q _ => ∃ i:Int,vs = [.int i] /\ ∀ H' v d,Same H H' -> Pv K H' v d -> Q v H'
theorem c4a:a0l ["_law_cell"] ["_law_cell"] (a0b a6e):=⟨rfl,rfl,rfl,by decide +kernel,rfl,by decide +kernel,by decide +kernel⟩
theorem a12:Nl ("bad" : Str) /\ Nl ("odd" : Str) /\ Nl ("few" : Str) /\ Nl ("t" : Str) /\ Nl ("key" : Str) /\ Nl ("a" : Str) /\ Nl ("group" : Str):=by unfold Nl; decide +kernel
theorem c9R {α:Type} {x y:α} (i:Int):∃ k:Nat,i / 8 % 2 = (k:Int) /\ ([x,y][k]? = some x ∨ [x,y][k]? = some y):=by
 rcases (show i / 8 % 2 = 0 ∨ i / 8 % 2 = 1 by omega) with h | h
 ·exact ⟨0,h,.inl rfl⟩
 ·exact ⟨1,h,.inr rfl⟩
theorem a4h (T:Tops K mg):a0C P w K mg base CX0 1 "_law_value" ["_law_cell"] (spLv K):=by
 refine T.d_law_value.known c4a (fun _ _ _ _ _ _ us hl => match us,hl with | [_],_ => rfl) (fun vs H Q E h => ?_) (fun f cdv A outer s H vs Q E hr h => ?_)
 ·obtain ⟨i,rfl,_⟩:=h
  rfl
 ·obtain ⟨i,rfl,q⟩:=h
  refine ⟨_,(a0d (a0E (a0A c3h (a1p a5B (pv 0) a0p) a0p (a0Z _)) (a0e (a0v (a7e (a0a a1o (a0a (a1P a1T (a2K (a0a a1o (a0a a1o a0f))) (a1p a5B (a1p c5j (pv 0) a0p) a0p) (fun _ _ => rfl)) a0f))))) a0q)
   (a0d (a0E (a0A c3h (a1p a5B (pv 0) a0p) a0p (a0Z _)) (a0e (a0v (a1P a1T (a2K (a0a (a1p c7H (a1p c6B a0p a0p) a0p) (a0a (a1p c7H a0p (a1p c6B a0p a0p)) a0f))) (a1p a5B (a1p c5j (pv 0) a0p) a0p) (fun _ _ => rfl)))) a0q)
   (a0e (a0v (a1p c7H (a1p a5B (a1p c5j (pv 0) a0p) a0p) a0p))))),?_⟩
  refine ⟨_,rfl,_,_,rfl,rfl,(show (0:Int) < 8 by decide),rfl,_,rfl,?_⟩
  refine ite2 (fun _ => ?_) (fun _ => ?_)
  ·refine ⟨sl,fun l hl => ?_⟩
   refine ⟨_,rfl,_,_,rfl,rfl,⟨by decide,by decide⟩,_,_,rfl,rfl,(show (0:Int) < 2 by decide),?_⟩
   have s1:=Same.new (o:=.lst [.str ("bad" : Str),.str ("odd" : Str)]) hl
   have l1:upd H l (.lst [.str ("bad" : Str),.str ("odd" : Str)]) l = some (.lst [.str ("bad" : Str),.str ("odd" : Str)]):=a0c
   generalize upd H l (.lst [.str ("bad" : Str),.str ("odd" : Str)]) = H1 at s1 l1 ⊢
   obtain ⟨k,ek,hk⟩:=c9R (x:=V.str ("bad" : Str)) (y:=V.str ("odd" : Str)) i
   have fin:∀ z:Str,Nl z -> [V.str ("bad" : Str),V.str ("odd" : Str)][k]? = some (.str z) -> ∃ p xs j v,(V.ref l) = V.ref p /\ V.int (i / 8 % 2) = .int j /\ SqL K H1 p xs /\ atI xs j = some v /\ ([V.str ("fault" : Str),v].length <= sizeLine /\ ∀ p,H1 p = none -> Q (.ref p) (upd H1 p (.tup [.str ("fault" : Str),v]))):=fun z hz e => by
    refine ⟨l,_,_,.str z,rfl,rfl,SqL.of l1,by rw [ek]; exact a4L e,sl,fun p hp => ?_⟩
    exact q _ _ (.tuple [.str "fault", .str z]) (s1.trans (Same.new hp)) (.inr ⟨p,z,rfl,a0c,rfl,hz⟩)
   rcases hk with hk | hk
   ·exact fin _ a12.1 hk
   ·exact fin _ a12.2.1 hk
  ·refine ⟨_,rfl,_,_,rfl,rfl,(show (0:Int) < 8 by decide),rfl,_,rfl,?_⟩
   refine ite2 (fun _ => ?_) (fun _ => ?_)
   ·refine ⟨_,_,rfl,rfl,⟨by decide,by decide,by decide⟩,_,_,rfl,rfl,_,_,rfl,rfl,⟨by decide,by decide,by decide⟩,_,_,rfl,rfl,sl,fun l hl => ?_⟩
    refine ⟨_,rfl,_,_,rfl,rfl,⟨by decide,by decide⟩,_,_,rfl,rfl,(show (0:Int) < 2 by decide),?_⟩
    obtain ⟨k,ek,hk⟩:=c9R (x:=V.int (10 ^ (60:Int).toNat - 1)) (y:=V.int (1 - 10 ^ (60:Int).toNat)) i
    rcases hk with hk | hk
    ·exact ⟨l,_,_,_,rfl,rfl,SqL.of a0c,by rw [ek]; exact a4L hk,q _ _ (.int (10 ^ (60:Int).toNat - 1)) (Same.new hl) (.inl ⟨_,rfl,rfl,by decide +kernel⟩)⟩
    ·exact ⟨l,_,_,_,rfl,rfl,SqL.of a0c,by rw [ek]; exact a4L hk,q _ _ (.int (1 - 10 ^ (60:Int).toNat)) (Same.new hl) (.inl ⟨_,rfl,rfl,by decide +kernel⟩)⟩
   ·refine ⟨_,rfl,_,_,rfl,rfl,⟨by decide,by decide⟩,_,_,rfl,rfl,(show (0:Int) < 4 by decide),_,_,rfl,rfl,?_⟩
    refine q _ _ (.int (i / 8 % 4 - 1)) (Same.refl _) (.inl ⟨_,rfl,rfl,?_⟩)
    have e1:=Int.emod_nonneg (i / 8) (show (4:Int) ≠ 0 by decide)
    have e2:=Int.emod_lt_of_pos (i / 8) (show (0:Int) < 4 by decide)
    have e3:(10:Int) < 10 ^ (60:Int).toNat:=by decide +kernel
    show decide ((if i / 8 % 4 - 1 < 0 then -(i / 8 % 4 - 1) else i / 8 % 4 - 1) < 10 ^ (60:Int).toNat) = true
    rw [decide_eq_true_eq]
    split <;> omega
def maxZ (is:List Int):Int:=is.max?.getD 0
def gW (way:Nat) (is:List Int):PyData:=if way = 0 then .int is.sum else if way = 1 then .int (maxZ is) else if way = 2 then .int (is.length:Int) else .tuple [.str "fault", .str "few"]
theorem c5y (i:Int):a8J (.int i) /\ Vd (setD (.int i)):=by
 refine ⟨b9E (fun h => by cases h),?_⟩
 unfold setD
 by_cases h:a5z (.int i) = true
 ·rw [if_pos h]
  have:numD (.int i) = true:=by
   unfold a5z at h
   have f0:a6T (.int i) = false:=rfl
   rw [f0,Bool.or_false] at h
   exact h
  exact .inl ⟨i,rfl,this⟩
 ·rw [if_neg h]
  exact .inr ⟨"odd", rfl,a12.2.1⟩
theorem c8c:a8J (.tuple [.str "fault", .str "few"]) /\ Vd (setD (.tuple [.str "fault", .str "few"])) /\ setD (.tuple [.str "fault", .str "few"]) = .tuple [.str "fault", .str "few"]:=by
 have hv:a5z (.tuple [.str "fault", .str "few"]) = true:=by decide +kernel
 have e:setD (.tuple [.str "fault", .str "few"]) = .tuple [.str "fault", .str "few"]:=by unfold setD; rw [if_pos hv]
 refine ⟨b9L fun d hd => ?_,?_,e⟩
 ·simp only [List.mem_cons,List.not_mem_nil,or_false] at hd
  rcases hd with rfl | rfl
  ·exact a1D (by decide +kernel)
  ·exact a1D (by decide +kernel)
 ·rw [e]
  exact .inr ⟨"few", rfl,a12.2.2.1⟩
theorem c6J (way:Nat) (is:List Int):a8J (gW way is) /\ Vd (setD (gW way is)):=by
 unfold gW
 split
 ·exact c5y _
 ·split
  ·exact c5y _
  ·split
   ·exact c5y _
   ·exact ⟨c8c.1,c8c.2.1⟩
def d0Z (K:PySem.W.Frag):Sp:=fun vs H Q _ => ∃ (way:Nat) (l:Addr) (is:List Int),vs = [.int (way:Int),.ref l] /\ H l = some (.lst (is.map V.int)) /\ 0 < is.length /\ is.length <= 1000 /\ ∀ H' v,Same H H' -> Dt K H' v (gW way is) -> Q v H'
theorem c2d:a0l ["_law_way", "_law_some"] ["_law_way", "_law_some"] (a0b a4J):=⟨rfl,rfl,rfl,by decide +kernel,rfl,by decide +kernel,by decide +kernel⟩
theorem a28 (T:Tops K mg):a0C P w K mg base CX0 1 "_law_answer" ["_law_way", "_law_some"] (d0Z K):=by
 refine T.d_law_answer.known c2d (fun _ _ _ _ _ _ us hl => match us,hl with | [_,_],_ => rfl) (fun vs H Q E h => ?_) (fun f cdv A outer s H vs Q E hr h => ?_)
 ·obtain ⟨way,l,is,rfl,_⟩:=h
  rfl
 ·obtain ⟨way,l,is,rfl,hl,l0,l1,q⟩:=h
  refine ⟨_,(a0d (a0E (a0A c3h (pv 0) a0p (a0Z _)) (a0e (a0v (a0z (c8u rfl) rfl T.sum d2Y (a0a (pv 1) a0f)))) a0q)
   (a0d (a0E (a0A c3h (pv 0) a0p (a0Z _)) (a0e (a0v (a0z (c7q rfl) rfl T.max d2Q (a0a (pv 1) a0f)))) a0q)
   (a0d (a0E (a0A c3h (pv 0) a0p (a0Z _)) (a0e (a0v (a0z a4A rfl T.len b6u (a0a (pv 1) a0f)))) a0q)
   (a0e (a0v (a7e (a0a a1o (a0a a1o a0f)))))))),?_⟩
  have dec:∀ j:Int,decide (V.int (way:Int) = V.int j) = true ↔ (way:Int) = j:=fun j => by rw [decide_eq_true_eq]; exact ⟨fun h => V.int.inj h,fun h => by rw [h]⟩
  refine ⟨_,rfl,rfl,_,rfl,ite2 (fun h => ?_) (fun h0 => ?_)⟩
  ·have hw:way = 0:=by have:=(dec 0).mp h; omega
   have:=q H (.int is.sum) (Same.refl _) (by unfold gW; rw [if_pos hw]; exact .int _)
   exact ⟨_,rfl,l,is,rfl,SqL.of hl,this⟩
  have n0:way ≠ 0:=fun y => h0 ((dec 0).mpr (by omega))
  refine ⟨_,rfl,rfl,_,rfl,ite2 (fun h => ?_) (fun h1 => ?_)⟩
  ·have hw:way = 1:=by have:=(dec 1).mp h; omega
   refine ⟨_,rfl,l,is,rfl,SqL.of hl,l0,fun M hM hb => ?_⟩
   have e:is.max? = some M:=List.max?_eq_some_iff.mpr ⟨hM,hb⟩
   refine q H (.int M) (Same.refl _) ?_
   unfold gW maxZ
   rw [if_neg n0,if_pos hw,e]
   exact .int _
  have n1:way ≠ 1:=fun y => h1 ((dec 1).mpr (by omega))
  refine ⟨_,rfl,rfl,_,rfl,ite2 (fun h => ?_) (fun h2 => ?_)⟩
  ·have hw:way = 2:=by have:=(dec 2).mp h; omega
   refine ⟨_,rfl,_,_,rfl,.inl ⟨_,SqL.of hl,rfl⟩,?_⟩
   rw [List.length_map]
   refine q H _ (Same.refl _) ?_
   unfold gW
   rw [if_neg n0,if_neg n1,if_pos hw]
   exact .int _
  have n2:way ≠ 2:=fun y => h2 ((dec 2).mpr (by omega))
  refine ⟨sl,fun p hp => q _ _ (Same.new hp) ?_⟩
  unfold gW
  rw [if_neg n0,if_neg n1,if_neg n2]
  exact .tup (.inl (.inl a0c)) (.cons (.str _) (.cons (.str _) .nil))
def d1L (K:PySem.W.Frag):Sp:=fun vs H Q _ => ∃ (ca l:Addr) (way:Nat) (is:List Int) (cs:List V),vs = [.ref ca,.int (way:Int),.ref l] /\ H l = some (.lst (is.map V.int)) /\ H ca = some (.lst cs) /\ cs.length < 900 /\ 0 < is.length /\ is.length <= 100 /\ ca ≠ l /\
 ∀ H' v lc,But ca H H' -> H lc = none -> H' ca = some (.lst (cs ++ [.ref lc])) -> H' lc = some (.lst (is.map V.int)) -> Dt K H' v (gW way is) -> Q v H'
theorem c3f:a0l ["_law_calls", "_law_way", "_law_some"] ["_law_calls", "_law_way", "_law_some"] (a0b a6g):=⟨rfl,rfl,rfl,by decide +kernel,rfl,by decide +kernel,by decide +kernel⟩
theorem a6J (T:Tops K mg):a0C P w K mg base CX0 2 "_law_noted" ["_law_calls", "_law_way", "_law_some"] (d1L K):=by
 have G_ans:a0C P w K mg base CX0 1 "_law_answer" ["_law_way", "_law_some"] (d0Z K):=a28 T
 refine T.d_law_noted.known c3f (fun _ _ _ _ _ _ us hl => match us,hl with | [_,_,_],_ => rfl) (fun vs H Q E h => ?_) (fun f cdv A outer s H vs Q E hr h => ?_)
 ·obtain ⟨ca,l,way,is,cs,rfl,_⟩:=h
  rfl
 ·obtain ⟨ca,l,way,is,cs,rfl,hl,hca,cl,l0,l1,ncl,q⟩:=h
  refine ⟨_,(a0d (a0t (b4K PySem.F.plainAttrs_list PySem.F.slot_list_append PySem.F.type_list_append a1k (pv 0) (a0a (a71 a7j rfl T.list b1e (a0a (pv 2) a0f)) a0f)))
   (a0e (a0v (a0o G_ans hr a0r (a0a (pv 1) (a0a (pv 2) a0f)))))),?_⟩
  refine ⟨_,rfl,.inl ⟨rfl,_,SqL.of hca⟩,_,rfl,l,_,rfl,.inl (SqL.of hl),fun lc hlc => ?_⟩
  have s1:=Same.new (o:=.lst (is.map V.int)) hlc
  have c1:upd H lc (.lst (is.map V.int)) lc = some (.lst (is.map V.int)):=a0c
  generalize upd H lc (.lst (is.map V.int)) = H1 at s1 c1 ⊢
  refine ⟨ca,_,_,rfl,rfl,s1 _ _ hca,a0w (by omega),?_⟩
  have u2:But ca H1 (upd H1 ca (.lst (cs ++ [.ref lc]))):=But.upd
  have c2:upd H1 ca (.lst (cs ++ [.ref lc])) ca = some (.lst (cs ++ [.ref lc])):=a0c
  generalize upd H1 ca (.lst (cs ++ [.ref lc])) = H2 at u2 c2 ⊢
  have nlc:lc ≠ ca:=fun y => by rw [y,hca] at hlc; cases hlc
  refine ⟨_,rfl,_,rfl,way,l,is,rfl,u2 _ _ ncl.symm (s1 _ _ hl),l0,by omega,fun H3 v s3 hv => ?_⟩
  exact q H3 v lc (fun b o n e => s3 _ _ (u2 _ _ n (s1 _ _ e))) hlc (s3 _ _ c2) (s3 _ _ (u2 _ _ nlc c1)) hv
def d1k (K:PySem.W.Frag):Sp:=fun vs H Q _ => ∃ (way:Nat) (is:List Int) (x:V),vs = [x] /\ Dt K H x (gW way is) /\ ∀ H' v,Same H H' -> Dt K H' v (setD (gW way is)) -> Q v H'
theorem b8x:a0l ["_law_thing"] ["_law_thing"] (a0b a3v):=⟨rfl,rfl,rfl,by decide +kernel,rfl,by decide +kernel,by decide +kernel⟩
theorem d0d (way:Nat) (is:List Int):(∃ i,gW way is = .int i) ∨ gW way is = .tuple [.str "fault", .str "few"]:=by
 unfold gW
 split
 ·exact .inl ⟨_,rfl⟩
 ·split
  ·exact .inl ⟨_,rfl⟩
  ·split
   ·exact .inl ⟨_,rfl⟩
   ·exact .inr rfl
theorem a3r (T:Tops K mg):a0C P w K mg base CX0 1 "_law_settled" ["_law_thing"] (d1k K):=by
 refine T.d_law_settled.known b8x (fun _ _ _ _ _ _ us hl => match us,hl with | [_],_ => rfl) (fun vs H Q E h => ?_) (fun f cdv A outer s H vs Q E hr h => ?_)
 ·obtain ⟨way,is,x,rfl,_⟩:=h
  rfl
 ·obtain ⟨way,is,x,rfl,hx,q⟩:=h
  refine ⟨_,(a0d (a0E (PW.pt (b74 (a1w (a0z a4z rfl T.isinstance a0K (a0a (pv 0) (a0a (b6m T.int d1P) a0f))) (fun _ => rfl)) (b2p (a0A c9n (a0z c6l rfl T.abs d1t (a0a (pv 0) a0f)) (a1p c6B a0p a0p) (a0Z _))))) (a0e (a0v (a7e (a0a a1o (a0a a1o a0f))))) a0q)
   (a0e (a0v (pv 0)))),?_⟩
  refine ⟨_,rfl,x, "int", _,_,rfl,hx,c8Y K _,_,rfl,?_⟩
  rcases d0d way is with ⟨i,e⟩ | e
  ·rw [e] at hx q ⊢
   cases hx
   refine iteT ⟨_,rfl,_,rfl,_,_,rfl,rfl,⟨by decide,by decide,by decide⟩,_,_,rfl,rfl,_,rfl,?_⟩
   refine ite2 (fun h => ?_) (fun h => ?_)
   ·have h':=of_decide_eq_true h
    refine ⟨sl,fun p hp => q _ _ (Same.new hp) ?_⟩
    have nv:¬ a5z (.int i) = true:=by
     unfold a5z
     rw [show a6T (.int i) = false from rfl,Bool.or_false]
     show ¬ decide ((if i < 0 then -i else i) < 10 ^ (60:Int).toNat) = true
     rw [decide_eq_true_eq]
     omega
    unfold setD
    rw [if_neg nv]
    exact .tup (.inl (.inl a0c)) (.cons (.str _) (.cons (.str _) .nil))
   ·have h':¬ (10 ^ (60:Int).toNat <= if i < 0 then -i else i):=fun y => h (decide_eq_true y)
    refine ⟨_,rfl,q _ _ (Same.refl _) ?_⟩
    have nv:a5z (.int i) = true:=by
     unfold a5z
     rw [show a6T (.int i) = false from rfl,Bool.or_false]
     show decide ((if i < 0 then -i else i) < 10 ^ (60:Int).toNat) = true
     rw [decide_eq_true_eq]
     omega
    unfold setD
    rw [if_pos nv]
    exact .int i
  ·rw [e] at hx q ⊢
   refine iteF ⟨_,rfl,q _ _ (Same.refl _) ?_⟩
   rw [c8c.2.2]
   exact hx
end
end My
set_option maxHeartbeats 1000000
namespace My
open PySem L2
section
variable {P:Program} {w:World} {K:PySem.W.Frag} {mg:Str -> Option Value} {base:Heap}
def d1X (K:PySem.W.Frag) (H H':Hp) (v:V):PyData ⊕ List Int -> Prop
 | .inl d => Pv K H' v d
 | .inr is => ∃ l,v = .ref l /\ H l = none /\ H' l = some (.lst (is.map V.int))
theorem Pv.tupD {H:Hp} {v:V} {d:PyData} (h:Pv K H v d):decide (kdD d = .tup) = My.isT d:=by
 rcases h with ⟨i,_,rfl,_⟩ | ⟨a,y,_,_,rfl,_⟩ <;> rfl
def c9W (K:PySem.W.Frag):Sp:=fun vs H Q _ => ∃ (lk lv:Addr) (p:Nat) (zk zv:List V) (dk dv:List PyData),vs = [.ref lk,.ref lv,.int (p:Int)] /\ H lk = some (.lst zk) /\ H lv = some (.lst zv) /\ Pvs K H zk dk /\ Pvs K H zv dv /\ dk.length = dv.length /\ p < dk.length /\ dk.length <= 30 /\ ∀ H' v,Same H H' -> d1X K H H' v (a3e dk dv p) -> Q v H'
abbrev Nll:List Str:=["_law_keys", "_law_values", "_law_place", "_law_some", "_law_at"]
theorem b2s:a0l Nll ["_law_keys", "_law_values", "_law_place"] (a0b a7Z):=⟨rfl,rfl,rfl,by decide +kernel,rfl,by decide +kernel,by decide +kernel⟩
theorem a7W (T:Tops K mg):a0C P w K mg base CX0 1 "_law_list" ["_law_keys", "_law_values", "_law_place"] (c9W K):=by
 refine T.d_law_list.known b2s (fun _ _ _ _ _ _ us hl => match us,hl with | [_,_,_],_ => rfl) (fun vs H Q E h => ?_) (fun f cdv A outer s H vs Q E hr h => ?_)
 ·obtain ⟨lk,lv,p,zk,zv,dk,dv,rfl,_⟩:=h
  rfl
 ·obtain ⟨lk,lv,p,zk,zv,dk,dv,rfl,hk,hv,pk,pn,ld,hp,l30,q⟩:=h
  refine ⟨_,(a0d (a0E (a1w (a0z a4z rfl T.isinstance a0K (a0a (a1P a1T (pv 0) (pv 2) (fun _ _ => rfl)) (a0a (b6m T.tuple c5n) a0f))) (fun _ => rfl)) (a0e (a0v (a1P a1T (pv 0) (pv 2) (fun _ _ => rfl)))) a0q)
   (a0d (a0B (i:=3) b2s.nd rfl (Or.inl rfl) (a2K a0f))
   (a0d (b1m PassesOwn.never rfl (b0B rfl T.range (a0a (a0z a4A rfl T.len b6u (a0a (pv 0) a0f)) a0f)) (a35 (i:=4) b2s.nd rfl (Or.inl rfl)) (a0e (a0E (a0A (c34 hr.units) (a1P a1T (pv 0) (pv 4) (fun _ _ => rfl)) (a1P a1T (pv 0) (pv 2) (fun _ _ => rfl)) (a0Z _)) (a0d (a0E (a1w (a0z a4z rfl T.isinstance a0K (a0a (a1P a1T (pv 1) (pv 4) (fun _ _ => rfl)) (a0a (b6m T.tuple c5n) a0f))) (fun _ => rfl)) (a0e (a0v (a1P a1T (pv 1) (pv 4) (fun _ _ => rfl)))) a0q)
   (a0e (a0t (b4K PySem.F.plainAttrs_list PySem.F.slot_list_append PySem.F.type_list_append a1k (pv 3) (a0a (a1P a1T (pv 1) (pv 4) (fun _ _ => rfl)) a0f))))) a0q)))
   (a0e (a0v (pv 3)))))),?_⟩
  have lkd:zk.length = dk.length:=Paired.length pk
  have lnd:zv.length = dv.length:=Paired.length pn
  obtain ⟨vo,o,e1,e2,po⟩:=Pvs.at pk (i:=p) (by omega)
  have eo:dk.getD p .none = o:=by rw [List.getD_eq_getElem?_getD,e2]; rfl
  refine ⟨_,rfl,_,rfl,lk,_,_,_,rfl,rfl,SqL.of hk,a4L e1,_, "tuple", _,_,rfl,po.dt,b7I K _,_,rfl,?_⟩
  rw [po.tupD]
  refine ite2 (fun hT => ?_) (fun hT => ?_)
  ·refine ⟨_,rfl,_,rfl,lk,_,_,_,rfl,rfl,SqL.of hk,a4L e1,q _ _ (Same.refl _) ?_⟩
   rw [show a3e dk dv p = .inl o by unfold a3e; rw [eo,if_pos hT]]
   exact po
  have hT':isT o = false:=by simpa using hT
  obtain ⟨i0,rfl,rfl,bi⟩:∃ i,vo = .int i /\ o = .int i /\ numD (.int i) = true:=by
   rcases po with h | ⟨a,y',rfl,_,rfl,_⟩
   ·exact h
   ·cases hT'
  have q:∀ H' v,Same H H' -> d1X K H H' v (grF (.int i0) dk dv []) -> Q v H':=fun H' v a t => q H' v a (by
   rw [show a3e dk dv p = grF (.int i0) dk dv [] by unfold a3e; rw [eo,if_neg hT]]
   exact t)
  refine ⟨sl,fun nl hnl => ?_⟩
  have s4:=Same.new (o:=.lst []) hnl
  have h4:upd H nl (.lst []) nl = some (.lst []):=a0c
  generalize upd H nl (.lst []) = H4 at s4 h4 ⊢
  refine ⟨_,rfl,_,_,rfl,.inl ⟨_,SqL.of (s4 _ _ hk),rfl⟩,_,rfl,by omega,by omega,?_⟩
  rw [Int.toNat_natCast]
  refine b3d (lo:=0) (n:=zk.length) (fun i σ H6 => ∃ o4 is,σ = [some (.ref lk),some (.ref lv),some (.int (p:Int)),some (.ref nl),o4] /\ Same H H6 /\ H6 nl = some (.lst (is.map V.int)) /\ is.length <= i /\ grF (.int i0) (dk.drop i) (dv.drop i) is = grF (.int i0) dk dv [])
   ⟨_,[],rfl,s4,h4,Nat.le_refl _,rfl⟩ ?_ ?_
  ·rintro i σ H6 hi ⟨o4,is,rfl,s6,h6,li,hgr⟩
   obtain ⟨v1,d1,a1,a2,a3⟩:=Pvs.at pk (i:=i) (by omega)
   obtain ⟨v2,d2,b1,b2,b3⟩:=Pvs.at pn (i:=i) (by omega)
   rw [c2R a2,c2R b2] at hgr
   have z0:(0:Int) + (i:Int) = (i:Int):=by omega
   rw [z0]
   have a7:=a3.same s6
   have b7:=b3.same s6
   refine ⟨_,rfl,_,rfl,lk,_,_,_,rfl,rfl,SqL.of (s6 _ _ hk),a4L a1,_,rfl,_,rfl,lk,_,_,_,rfl,rfl,SqL.of (s6 _ _ hk),a4L e1,d1,.int i0,a7.dt,.int i0,a7.vd.lay.1,rfl,Nat.le_trans a7.vd.lay.2 (by decide),_,rfl,?_⟩
   refine ite2 (fun he => ?_) (fun he => ?_)
   ·refine ⟨_,rfl,_,rfl,lv,_,_,_,rfl,rfl,SqL.of (s6 _ _ hv),a4L b1,_, "tuple", _,_,rfl,b7.dt,b7I K _,_,rfl,?_⟩
    rw [b7.tupD]
    refine ite2 (fun hT2 => ?_) (fun hT2 => ?_)
    ·refine ⟨_,rfl,_,rfl,lv,_,_,_,rfl,rfl,SqL.of (s6 _ _ hv),a4L b1,q _ _ s6 ?_⟩
     rcases b7 with ⟨i2,_,rfl,_⟩ | ⟨a',y',rfl,g1,rfl,g2⟩
     ·cases hT2
     ·rw [c7X he] at hgr
      rw [<- hgr]
      exact .inr ⟨a',y',rfl,g1,rfl,g2⟩
    ·rcases b7 with ⟨i2,rfl,rfl,_⟩ | ⟨a',y',rfl,g1,rfl,g2⟩
     ·rw [c7E he] at hgr
      refine ⟨_,rfl,.inl ⟨rfl,_,SqL.of h6⟩,_,rfl,_,rfl,lv,_,_,_,rfl,rfl,SqL.of (s6 _ _ hv),a4L b1,nl,_,_,rfl,rfl,h6,a0w (by rw [List.length_map]; omega),?_⟩
      refine ⟨_,is ++ [i2],rfl,s6.on hnl,by rw [a0c,List.map_append]; rfl,by rw [List.length_append]; show is.length + 1 <= i + 1; omega,hgr⟩
     ·exact absurd rfl hT2
   ·rw [c9T he] at hgr
    exact ⟨_,is,rfl,s6,h6,by omega,hgr⟩
  ·rintro σ H6 ⟨o4,is,rfl,s6,h6,li,hgr⟩
   rw [List.drop_eq_nil_of_le (by omega),b63] at hgr
   refine ⟨_,rfl,q _ _ s6 ?_⟩
   rw [<- hgr]
   exact ⟨nl,rfl,hnl,h6⟩
end
end My
set_option maxHeartbeats 1000000
namespace My
open PySem L2
structure Wk where
 s:Addr
 ch:Addr
 bd:Addr
 gr:Addr
 fa:Addr
 ca:Addr
 mc:Addr
 hd:Addr
 hk:Addr
 ha:Addr
 la:Addr
 lK:Addr
 lA:Addr
 B:BM
 n:Str
 way:Nat
 m:Nat
def Wk.fix (W:Wk):List Addr:=[W.ch,W.B.r,W.B.od,W.lK,W.lA,W.ca,W.hk,W.ha,W.la,W.mc]
structure WOk (W:Wk):Prop where
 nd:W.fix.Nodup
 mb:W.mc ≠ W.bd /\ W.mc ≠ W.B.e /\ W.mc ≠ W.B.ru /\ W.mc ≠ W.B.me /\ W.mc ≠ W.hd
 sb:W.bd ≠ W.B.e /\ W.bd ≠ W.B.ru /\ W.bd ≠ W.B.me
 k1:valV W.B.kvs (.inr "key" : Key) = some (.ref W.lK)
 k2:valV W.B.kvs (.inr "a" : Key) = some (.ref W.lA)
 r0:valV W.B.rus (.inr "group" : Key) = some (.ref W.gr)
 r1:valV W.B.rus (.inr "key" : Key) = none
 r2:valV W.B.rus (.inr "a" : Key) = none
 me:valV W.B.mes (.inr "group" : Key) = some (.ref W.mc)
 xs:W.B.xs = a3F 0 W.m
 m0:0 < W.m
 m7:W.m <= 7
 od:W.B.ord = [("key" : Str),("a" : Str),("group" : Str)]
 n:W.n = "key" ∨ W.n = "a"
def gvO (yk ya:List V):Str -> Option (List V):=fun c => if c = "key" then some yk else if c = "a" then some ya else none
theorem c5G (yk ya:List V):gvO yk ya "key" = some yk:=by unfold gvO; rw [if_pos rfl]
theorem d1H (yk ya:List V):gvO yk ya "a" = some ya:=by unfold gvO; rw [if_neg (by decide +kernel),if_pos rfl]
theorem b0V {yk ya:List V} {c:Str} {ys:List V} (h:gvO yk ya c = some ys):(c = "key" /\ ys = yk) ∨ (c = "a" /\ ys = ya):=by
 unfold gvO at h
 split at h
 ·exact .inl ⟨by assumption,(Option.some.inj h).symm⟩
 ·split at h
  ·exact .inr ⟨by assumption,(Option.some.inj h).symm⟩
  ·cases h
def Wk.pick (W:Wk) {α:Type} (x y:α):α:=if W.n = "key" then x else y
def mkX (W:Wk) (fi fd lk:Addr) (yk ya:List V) (dk da:List PyData):Gx:=⟨fi,W.bd,fd,lk,W.gr,W.fa,W.ca,W.mc, "t", "group", "key", W.n,W.B,["key", "a", "group"],gvO yk ya,yk,W.pick yk ya,dk,W.pick dk da,gW W.way⟩
theorem c7S {m p:Nat} (h:p < m):atI (a3F 0 m) (p:Int) = some (.int (p:Int)):=by
 refine a4L ?_
 unfold a3F
 rw [List.getElem?_map,List.getElem?_range h]
 show some (V.int (0 + (p:Int))) = _
 rw [Int.zero_add]
theorem WOk.ne {W:Wk} (O:WOk W):(W.ch ≠ W.B.r /\ W.ch ≠ W.B.od /\ W.ch ≠ W.lK /\ W.ch ≠ W.lA /\ W.ch ≠ W.ca /\ W.ch ≠ W.hk /\ W.ch ≠ W.ha /\ W.ch ≠ W.la /\ W.ch ≠ W.mc) /\ (W.B.r ≠ W.lK /\ W.B.r ≠ W.lA /\ W.B.r ≠ W.ca) /\ (W.B.od ≠ W.lK /\ W.B.od ≠ W.lA /\ W.B.od ≠ W.ca) /\ (W.lK ≠ W.lA /\ W.lK ≠ W.ca /\ W.lK ≠ W.hk /\ W.lK ≠ W.ha /\ W.lK ≠ W.la /\ W.lK ≠ W.mc) /\ (W.lA ≠ W.ca /\ W.lA ≠ W.hk /\ W.lA ≠ W.ha /\ W.lA ≠ W.la /\ W.lA ≠ W.mc) /\ (W.ca ≠ W.hk /\ W.ca ≠ W.ha /\ W.ca ≠ W.la /\ W.ca ≠ W.mc) /\ (W.hk ≠ W.ha /\ W.hk ≠ W.la /\ W.hk ≠ W.mc) /\ (W.ha ≠ W.la /\ W.ha ≠ W.mc) /\ W.la ≠ W.mc:=by
 have:=O.nd
 unfold Wk.fix at this
 simp only [List.nodup_cons,List.mem_cons,List.not_mem_nil,or_false,not_or] at this
 obtain ⟨⟨a1,a2,a3,a4,a5,a6,a7,a8,a9⟩,⟨b1,b2,b3,b4,b5,b6,b7,b8⟩,⟨c1,c2,c3,c4,c5,c6,c7⟩,⟨d1,d2,d3,d4,d5,d6⟩,⟨e1,e2,e3,e4,e5⟩,⟨f1,f2,f3,f4⟩,⟨g1,g2,g3⟩,⟨h1,h2⟩,i1,_⟩:=this
 exact ⟨⟨a1,a2,a3,a4,a5,a6,a7,a8,a9⟩,⟨b2,b3,b4⟩,⟨c1,c2,c3⟩,⟨d1,d2,d3,d4,d5,d6⟩,⟨e1,e2,e3,e4,e5⟩,⟨f1,f2,f3,f4⟩,⟨g1,g2,g3⟩,⟨h1,h2⟩,i1⟩
theorem cs3:("key" : Str) ∈ [("key" : Str),("a" : Str),("group" : Str)] /\ ("a" : Str) ∈ [("key" : Str),("a" : Str),("group" : Str)] /\ ("group" : Str) ∈ [("key" : Str),("a" : Str),("group" : Str)]:=by decide +kernel
theorem c9O {W:Wk} (O:WOk W) {fi fd lk:Addr} {yk ya:List V} {dk da:List PyData} (l1:yk.length = W.m) (l2:ya.length = W.m) (fl:fd ≠ lk):GxOk (mkX W fi fd lk yk ya dk da):=by
 have lx:W.B.xs.length = W.m:=by rw [O.xs,a4q]
 obtain ⟨⟨a1,a2,a3,a4,a5,a6,a7,a8,a9⟩,⟨b2,b3,b4⟩,⟨c1,c2,c3⟩,⟨d1,d2,d3,d4,d5,d6⟩,⟨e1,e2,e3,e4,e5⟩,⟨f1,f2,f3,f4⟩,_⟩:=O.ne
 refine ⟨(show 3 <= 8 by decide),?_,fun c ys g => ?_,a12.2.2.2.1,c5G yk ya,?_,O.r0,O.me,cs3.2.2,?_,fun p hp => ?_,fun is _ => c6J _ is,fl,⟨O.mb.1,O.mb.2.1,O.mb.2.2.1,O.mb.2.2.2.1⟩,⟨b4.symm,c3.symm⟩,fun c ys g => ?_⟩
 ·show W.B.xs.length <= 30
  have:=O.m7
  omega
 ·rcases b0V g with ⟨rfl,rfl⟩ | ⟨rfl,rfl⟩
  ·exact ⟨cs3.1,a12.2.2.2.2.1,O.r1,by show ys.length = W.B.xs.length; omega⟩
  ·exact ⟨cs3.2.1,a12.2.2.2.2.2.1,O.r2,by show ys.length = W.B.xs.length; omega⟩
 ·show gvO yk ya W.n = some (W.pick yk ya)
  unfold Wk.pick
  rcases O.n with e | e
  ·rw [if_pos e,e,c5G]
  ·rw [if_neg (by rw [e]; decide +kernel),e,d1H]
 ·show gvO yk ya "group" = none
  unfold gvO
  rw [if_neg (by decide +kernel),if_neg (by decide +kernel)]
 ·show atI W.B.xs (p:Int) = _
  rw [O.xs]
  exact c7S (by rw [<- lx]; exact hp)
 ·rcases b0V g with ⟨rfl,rfl⟩ | ⟨rfl,rfl⟩
  ·show valV W.B.kvs _ ≠ _
   rw [O.k1]
   exact fun y => d2 (V.ref.inj (Option.some.inj y))
  ·show valV W.B.kvs _ ≠ _
   rw [O.k2]
   exact fun y => e1 (V.ref.inj (Option.some.inj y))
def b7A (H H':Hp):Prop:=∀ b o,(∀ u,o ≠ Fz u) -> H b = some o -> H' b = some o
theorem b7A.of {H H':Hp} (s:Same H H'):b7A H H':=fun b o _ e => s _ _ e
theorem b7A.t {H H':Hp} (s:b7A H H'):a1u H H':=fun a xs e => s _ _ (fun _ y => by cases y) e
section
variable {P:Program} {w:World} {K:PySem.W.Frag} {mg:Str -> Option Value} {base:Heap}
structure Gp (K:PySem.W.Frag) (CF CB CT CG:Addr) (X:Gx) (kf kl:List (Ky × V)) (mk:List (Key × V)) (H:Hp):Prop where
 F:FAt CF CB CT H X.fi X.bd X.fd X.lk X.nm X.B kf
 ko:a51 X.Cs X.nm X.B.xs.length kf
 fo:∀ c p v ys,X.gv c = some ys -> valV kf (a0u X.nm c p) = some v -> atI ys (p:Int) = some v
 hl:H X.lk = some (.dT kl)
 lo:a51 X.Cs X.nm X.B.xs.length kl
 cols:∀ c ys,X.gv c = some ys -> ∃ l,valV X.B.kvs (.inr c:Key) = some (.ref l) /\ H l = some (.lst ys)
 gr:∃ dx,H X.gr = some (.ins CG dx (gfl X.k X.n X.fa))
 pk:Pvs K H X.yk X.dk
 pn:Pvs K H X.yn X.dn
 mc:H X.mc = some (.dK mk)
 ml:b4M X.B.xs.length mk
theorem Gp.full {CF CB CT CG:Addr} {X:Gx} {kf kl:List (Ky × V)} {mk:List (Key × V)} {H:Hp} (g:Gp K CF CB CT CG X kf kl mk H) (fn:FnN P w K mg base 4 H X.fa X.ca X.g):GxAt P w K mg base CF CB CT CG X kf kl mk H:=⟨g.F,g.ko,g.fo,g.hl,g.lo,g.cols,g.gr,fn,g.pk,g.pn,g.mc,g.ml⟩
theorem GxAt.gp {CF CB CT CG:Addr} {X:Gx} {kf kl:List (Ky × V)} {mk:List (Key × V)} {H:Hp} (g:GxAt P w K mg base CF CB CT CG X kf kl mk H):Gp K CF CB CT CG X kf kl mk H:=⟨g.F,g.ko,g.fo,g.hl,g.lo,g.cols,g.gr,g.pk,g.pn,g.mc,g.ml⟩
theorem BAt.keepN {CB CT:Addr} {H H':Hp} {B:BM} (s:b7A H H') (h:BAt CB CT H B):BAt CB CT H' B:=by
 obtain ⟨⟨d1,b1⟩,⟨⟨d2,b2⟩,b3,b4⟩,b5,b6,b7⟩:=h
 exact ⟨⟨d1,s _ _ (fun _ y => by cases y) b1⟩,⟨⟨d2,s _ _ (fun _ y => by cases y) b2⟩,s _ _ (fun _ y => by cases y) b3,s _ _ (fun _ y => by cases y) b4⟩,s _ _ (fun _ y => by cases y) b5,s _ _ (fun _ y => by cases y) b6,s _ _ (fun _ y => by cases y) b7⟩
theorem Gp.mv {CF CB CT CG:Addr} {X:Gx} {kf kl:List (Ky × V)} {mk:List (Key × V)} {H H':Hp} (s:b7A H H') (g:Gp K CF CB CT CG X kf kl mk H):Gp K CF CB CT CG X kf kl mk H':=by
 obtain ⟨dx,e1⟩:=g.F.fin
 obtain ⟨kb,e2,e3⟩:=g.F.bds
 obtain ⟨dg,e4⟩:=g.gr
 exact ⟨⟨⟨dx,s _ _ (fun _ y => by cases y) e1⟩,⟨kb,s _ _ (fun _ y => by cases y) e2,e3⟩,g.F.B.keepN s,s _ _ (fun _ y => by cases y) g.F.fnd,g.F.len⟩,g.ko,g.fo,s _ _ (fun _ y => by cases y) g.hl,g.lo,fun c ys h => let ⟨l,a,b⟩:=g.cols c ys h; ⟨l,a,s _ _ (fun _ y => by cases y) b⟩,⟨dg,s _ _ (fun _ y => by cases y) e4⟩,g.pk.keep s.t,g.pn.keep s.t,s _ _ (fun _ y => by cases y) g.mc,g.ml⟩
def c89 (W:Wk) (H:Hp) (ls:List V) (wl:Nat -> Option (List Int)):Prop:=∀ p,p < W.m -> match wl p with
 | none => ls[p]? = some .non
 | some is => ∃ lp,ls[p]? = some (.ref lp) /\ H lp = some (.lst (is.map V.int)) /\ lp ∉ W.fix
def WasF (W:Wk) (H:Hp) (mk:List (Key × V)) (p:Int):Option (List Int × V) -> Prop
 | none => valV mk (.inl p:Key) = none
 | some jv => ∃ tp lo,valV mk (.inl p:Key) = some (.ref tp) /\ H tp = some (.tup [.ref lo,jv.2]) /\ H lo = some (.lst (jv.1.map V.int)) /\ lo ∉ W.fix
theorem WasF.o {W:Wk} {H:Hp} {mk:List (Key × V)} {p:Int}:∀ {wo:Option (List Int × V)},WasF W H mk p wo -> WasO H mk p wo
 | none,h => h
 | some jv,⟨tp,lo,a,b,c,_⟩ => ⟨tp,lo,a,b,c⟩
def MemO (K:PySem.W.Frag) (W:Wk) (H:Hp) (mk:List (Key × V)) (wo:Nat -> Option (List Int × V)):Prop:=∀ p:Nat,p < W.m -> WasF W H mk (p:Int) (wo p) /\ ∀ is v,wo p = some (is,v) -> Dt K H v (setD (gW W.way is))
def Fnd (K:PySem.W.Frag) (H:Hp) (v:V) (wp:Option (List Int × V)):PyData ⊕ List Int -> Prop
 | .inl d => Pv K H v d
 | .inr is => wp = some (is,v)
theorem b3M {H H':Hp} {v:V} {d:PyData} (hv:Vd d) (h:Dt K H v d) (u:∀ x o,(∃ xs,o = .tup xs ∨ ∃ q,o = .frz q (.tup xs)) -> H x = some o -> H' x = some o):Dt K H' v d:=by
 rcases hv with ⟨i,rfl,hb⟩ | ⟨z,rfl,hz⟩
 ·cases h
  exact .int i
 ·cases h with
  | tup hq hall =>
   cases hall with
   | cons h1 t =>
    cases h1
    cases t with
    | cons h2 t =>
     cases h2
     cases t
     refine .tup ?_ (.cons (.str _) (.cons (.str _) .nil))
     rcases hq with h | h
     ·rcases h with h | ⟨o,h⟩
      ·exact .inl (.inl (u _ _ ⟨_,.inl rfl⟩ h))
      ·exact .inl (.inr ⟨o,u _ _ ⟨_,.inr ⟨o,rfl⟩⟩ h⟩)
     ·exact .inr h
structure Now (K:PySem.W.Frag) (CS CF CB CT CG zt:Addr) (Hz:Hp) (W:Wk) (fi fd lk:Addr) (yk ya:List V) (dk da:List PyData) (kf kl:List (Ky × V)) (mk:List (Key × V)) (csh ls:List V) (wl:Nat -> Option (List Int)) (wo:Nat -> Option (List Int × V)) (H:Hp):Prop where
 old:Same Hz H
 gp:Gp K CF CB CT CG (mkX W fi fd lk yk ya dk da) kf kl mk H
 fl:fd ≠ lk
 l1:yk.length = W.m
 l2:ya.length = W.m
 pa:Pvs K H ya da
 sh:∃ dx,H W.s = some (.ins CS dx (sfl W.bd W.ch fi))
 ch:H W.ch = some (.lst csh)
 hd:H W.hd = some (.dK [((.inr "key" : Key),V.ref W.hk),((.inr "a" : Key),V.ref W.ha)])
 hk:∃ zk,H W.hk = some (.lst zk) /\ Pvs K H zk dk
 ha:∃ za,H W.ha = some (.lst za) /\ Pvs K H za da
 la:H W.la = some (.lst ls)
 ll:ls.length = W.m
 lo:c89 W H ls wl
 me:MemO K W H mk wo
 fo:∀ p v,p < W.m -> valV kf (a0u "t" "group" p) = some v -> Fnd K H v (wo p) (a3e dk (W.pick dk da) p)
 tb:a8q qGd H zt
theorem c89.mv {W:Wk} {H H':Hp} {ls:List V} {wl:Nat -> Option (List Int)} (u:∀ x ys,x ∉ W.fix -> H x = some (.lst ys) -> H' x = some (.lst ys)) (h:c89 W H ls wl):c89 W H' ls wl:=fun p hp => by
 have:=h p hp
 revert this
 split
 ·exact id
 ·exact fun ⟨lp,a,b,c⟩ => ⟨lp,a,u _ _ c b,c⟩
theorem WasF.mv {W:Wk} {H H':Hp} {mk:List (Key × V)} {p:Int} (u:∀ x ys,x ∉ W.fix -> H x = some (.lst ys) -> H' x = some (.lst ys)) (k:a1u H H'):∀ {wo:Option (List Int × V)},WasF W H mk p wo -> WasF W H' mk p wo
 | none,h => h
 | some jv,⟨tp,lo,a,b,c,d⟩ => ⟨tp,lo,a,k _ _ b,u _ _ d c,d⟩
theorem MemO.mv {W:Wk} {H H':Hp} {mk:List (Key × V)} {wo:Nat -> Option (List Int × V)} (u:∀ x ys,x ∉ W.fix -> H x = some (.lst ys) -> H' x = some (.lst ys)) (k:∀ x o,(∃ xs,o = .tup xs ∨ ∃ q,o = .frz q (.tup xs)) -> H x = some o -> H' x = some o) (h:MemO K W H mk wo):MemO K W H' mk wo:=fun p hp =>
 ⟨(h p hp).1.mv u (fun a xs e => k _ _ ⟨xs,.inl rfl⟩ e),fun is v e => b3M (c6J W.way is).2 ((h p hp).2 is v e) k⟩
theorem Fnd.keep {H H':Hp} {v:V} {wp:Option (List Int × V)} (k:a1u H H'):∀ {t:PyData ⊕ List Int},Fnd K H v wp t -> Fnd K H' v wp t
 | .inl d,h => Pv.keep (K:=K) k h
 | .inr is,h => h
theorem tupN {H H':Hp} (s:b7A H H'):∀ x o,(∃ xs,o = .tup xs ∨ ∃ q,o = .frz q (.tup xs)) -> H x = some o -> H' x = some o:=fun x o ⟨xs,h⟩ e => s x o (fun u y => by
 rcases h with rfl | ⟨q,rfl⟩
 ·cases y
 ·unfold Fz at y
  cases y) e
theorem Now.mv {CS CF CB CT CG zt:Addr} {Hz:Hp} {W:Wk} {fi fd lk:Addr} {yk ya:List V} {dk da:List PyData} {kf kl:List (Ky × V)} {mk:List (Key × V)} {csh ls:List V} {wl:Nat -> Option (List Int)} {wo:Nat -> Option (List Int × V)} {H H':Hp} (s:b7A H H') (o':Same Hz H') (tb':a8q qGd H' zt) (N:Now K CS CF CB CT CG zt Hz W fi fd lk yk ya dk da kf kl mk csh ls wl wo H):Now K CS CF CB CT CG zt Hz W fi fd lk yk ya dk da kf kl mk csh ls wl wo H' where
 old:=o'
 gp:=N.gp.mv s
 fl:=N.fl
 l1:=N.l1
 l2:=N.l2
 pa:=N.pa.keep s.t
 sh:=N.sh.imp fun _ e => s _ _ (fun _ y => by cases y) e
 ch:=s _ _ (fun _ y => by cases y) N.ch
 hd:=s _ _ (fun _ y => by cases y) N.hd
 hk:=N.hk.imp fun _ e => ⟨s _ _ (fun _ y => by cases y) e.1,e.2.keep s.t⟩
 ha:=N.ha.imp fun _ e => ⟨s _ _ (fun _ y => by cases y) e.1,e.2.keep s.t⟩
 la:=s _ _ (fun _ y => by cases y) N.la
 ll:=N.ll
 lo:=N.lo.mv fun x ys _ e => s _ _ (fun _ y => by cases y) e
 me:=N.me.mv (fun x ys _ e => s _ _ (fun _ y => by cases y) e) (tupN s)
 fo:=fun p v hp e => (N.fo p v hp e).keep s.t
 tb:=tb'
theorem Now.same {CS CF CB CT CG zt:Addr} {Hz:Hp} {W:Wk} {fi fd lk:Addr} {yk ya:List V} {dk da:List PyData} {kf kl:List (Ky × V)} {mk:List (Key × V)} {csh ls:List V} {wl:Nat -> Option (List Int)} {wo:Nat -> Option (List Int × V)} {H H':Hp} (s:Same H H') (N:Now K CS CF CB CT CG zt Hz W fi fd lk yk ya dk da kf kl mk csh ls wl wo H):Now K CS CF CB CT CG zt Hz W fi fd lk yk ya dk da kf kl mk csh ls wl wo H' :=
 N.mv (b7A.of s) (N.old.trans s) (b5F N.tb fun b o _ _ _ e => s _ _ e)
theorem ShAt.now {CS CF CB CT CG zt:Addr} {Hz:Hp} {W:Wk} {fi fd lk:Addr} {yk ya:List V} {dk da:List PyData} {kf kl:List (Ky × V)} {mk:List (Key × V)} {csh ls:List V} {wl:Nat -> Option (List Int)} {wo:Nat -> Option (List Int × V)} {H:Hp} (N:Now K CS CF CB CT CG zt Hz W fi fd lk yk ya dk da kf kl mk csh ls wl wo H):∃ kb,ShAt CS CB CT W.s W.bd W.ch fi kb "t" W.B H:=by
 obtain ⟨kb,e2,e3⟩:=N.gp.F.bds
 exact ⟨kb,N.sh,e2,a12.2.2.2.1,e3,N.gp.F.B⟩
end
end My
set_option maxHeartbeats 1000000
namespace My
open PySem L2
def ZOk (Hz:Hp) (W:Wk) (zt:Addr):Prop:=∀ x o,Hz x = some o -> x ∉ W.fix /\ x ≠ zt /\ x ≠ W.s /\ ∀ y,o ≠ .dT y
def FrC (W:Wk) (zt:Addr) (H H':Hp):Prop:=∀ x o,x ∉ W.fix -> x ≠ zt -> (∀ y,o ≠ .dT y) -> H x = some o -> H' x = some o
section
variable {P:Program} {w:World} {K:PySem.W.Frag} {mg:Str -> Option Value} {base:Heap}
theorem a0k.mono {CX:CXT} {j k:Nat} {C:Addr} {m:Str} {ps:List Str} {sp:Sp} (G:a0k P w K mg base CX j C m ps sp) (h:j <= k):a0k P w K mg base CX k C m ps sp:=by
 obtain ⟨f,fd,F,hm,hb⟩:=G.ex
 exact ⟨f,fd,F.mono h,hm,hb⟩
section
variable {CS CF CB CT CG zt:Addr} {Hz:Hp} {W:Wk} {fi fd lk:Addr} {yk ya:List V} {dk da:List PyData} {kf kl:List (Ky × V)} {mk:List (Key × V)} {csh ls:List V} {wl:Nat -> Option (List Int)} {wo:Nat -> Option (List Int × V)} {H H':Hp}
theorem Now.col (N:Now K CS CF CB CT CG zt Hz W fi fd lk yk ya dk da kf kl mk csh ls wl wo H) (O:WOk W):H W.lK = some (.lst yk) /\ H W.lA = some (.lst ya):=by
 obtain ⟨l,a,b⟩:=N.gp.cols "key" yk (c5G yk ya)
 obtain ⟨l',a',b'⟩:=N.gp.cols "a" ya (d1H yk ya)
 have a:valV W.B.kvs (.inr "key" : Key) = some (.ref l):=a
 have a':valV W.B.kvs (.inr "a" : Key) = some (.ref l'):=a'
 rw [O.k1] at a
 rw [O.k2] at a'
 rw [V.ref.inj (Option.some.inj a),V.ref.inj (Option.some.inj a')]
 exact ⟨b,b'⟩
theorem Now.fixed (N:Now K CS CF CB CT CG zt Hz W fi fd lk yk ya dk da kf kl mk csh ls wl wo H) (O:WOk W) {cl:List V} (hca:H W.ca = some (.lst cl)) {x:Addr} (hx:x ∈ W.fix):(∃ ys,H x = some (.lst ys)) ∨ ∃ ks,H x = some (.dK ks):=by
 obtain ⟨c1,c2⟩:=N.col O
 obtain ⟨zk,e1,_⟩:=N.hk
 obtain ⟨za,e2,_⟩:=N.ha
 have b1:H W.B.r = some (.lst W.B.xs):=N.gp.F.B.tab.rows
 have b2:H W.B.od = some (.lst (W.B.ord.map V.str)):=N.gp.F.B.ord
 have b3:H W.mc = some (.dK mk):=N.gp.mc
 unfold Wk.fix at hx
 simp only [List.mem_cons,List.not_mem_nil,or_false] at hx
 rcases hx with rfl | rfl | rfl | rfl | rfl | rfl | rfl | rfl | rfl | rfl
 ·exact .inl ⟨_,N.ch⟩
 ·exact .inl ⟨_,b1⟩
 ·exact .inl ⟨_,b2⟩
 ·exact .inl ⟨_,c1⟩
 ·exact .inl ⟨_,c2⟩
 ·exact .inl ⟨_,hca⟩
 ·exact .inl ⟨_,e1⟩
 ·exact .inl ⟨_,e2⟩
 ·exact .inl ⟨_,N.la⟩
 ·exact .inr ⟨_,b3⟩
theorem Now.nofix (N:Now K CS CF CB CT CG zt Hz W fi fd lk yk ya dk da kf kl mk csh ls wl wo H) (O:WOk W) {cl:List V} (hca:H W.ca = some (.lst cl)) {x:Addr} (h:H x = none):x ∉ W.fix:=fun hx => by
 rcases N.fixed O hca hx with ⟨_,e⟩ | ⟨_,e⟩ <;> rw [h] at e <;> cases e
theorem a8O (W:Wk):W.ch ∈ W.fix /\ W.ca ∈ W.fix /\ W.mc ∈ W.fix /\ W.lK ∈ W.fix /\ W.lA ∈ W.fix /\ W.hk ∈ W.fix /\ W.ha ∈ W.fix /\ W.la ∈ W.fix:=by
 unfold Wk.fix
 simp
theorem Now.calls (N:Now K CS CF CB CT CG zt Hz W fi fd lk yk ya dk da kf kl mk csh ls wl wo H) (O:WOk W) (Z:ZOk Hz W zt) {cl:List V} (hca:H W.ca = some (.lst cl)) (u:But W.ca H H'):Now K CS CF CB CT CG zt Hz W fi fd lk yk ya dk da kf kl mk csh ls wl wo H':=by
 obtain ⟨⟨a1,a2,a3,a4,a5,a6,a7,a8,a9⟩,⟨b2,b3,b4⟩,⟨c1,c2,c3⟩,⟨d1,d2,d3,d4,d5,d6⟩,⟨e1,e2,e3,e4,e5⟩,⟨f1,f2,f3,f4⟩,_⟩:=O.ne
 have k:∀ {x:Addr} {o:HO},H x = some o -> (∀ y,o ≠ .lst y) -> H' x = some o:=fun e n => u _ _ (fun y => by rw [y,hca] at e; exact n _ (Option.some.inj e).symm) e
 have kt:a1u H H':=fun a xs e => k e (fun _ y => by cases y)
 have kl':∀ x ys,x ∉ W.fix -> H x = some (.lst ys) -> H' x = some (.lst ys):=fun x ys n e => u _ _ (fun y => n (y ▸ (a8O W).2.1)) e
 have ktf:∀ x o,(∃ xs,o = .tup xs ∨ ∃ q,o = .frz q (.tup xs)) -> H x = some o -> H' x = some o:=fun x o ⟨xs,h⟩ e => k e (fun y z => by rcases h with rfl | ⟨q,rfl⟩ <;> cases z)
 obtain ⟨dx,g1⟩:=N.gp.F.fin
 obtain ⟨kb,g2,g3⟩:=N.gp.F.bds
 obtain ⟨dg,g4⟩:=N.gp.gr
 obtain ⟨⟨q1,h1⟩,⟨⟨q2,h2⟩,h3,h4⟩,h5,h6,h7⟩:=N.gp.F.B
 obtain ⟨c1',c2'⟩:=N.col O
 refine ⟨fun x o e => u _ _ (fun y => (Z x o e).1 (y ▸ (a8O W).2.1)) (N.old _ _ e),⟨⟨⟨dx,k g1 (fun _ y => by cases y)⟩,⟨kb,k g2 (fun _ y => by cases y),g3⟩,⟨⟨q1,k h1 (fun _ y => by cases y)⟩,⟨⟨q2,k h2 (fun _ y => by cases y)⟩,u _ _ b4 h3,k h4 (fun _ y => by cases y)⟩,k h5 (fun _ y => by cases y),k h6 (fun _ y => by cases y),u _ _ c3 h7⟩,k N.gp.F.fnd (fun _ y => by cases y),N.gp.F.len⟩,N.gp.ko,N.gp.fo,k N.gp.hl (fun _ y => by cases y),N.gp.lo,fun c ys g => ?_,⟨dg,k g4 (fun _ y => by cases y)⟩,N.gp.pk.keep kt,N.gp.pn.keep kt,k N.gp.mc (fun _ y => by cases y),N.gp.ml⟩,N.fl,N.l1,N.l2,N.pa.keep kt,N.sh.imp fun _ e => k e (fun _ y => by cases y),u _ _ a5 N.ch,k N.hd (fun _ y => by cases y),N.hk.imp fun _ e => ⟨u _ _ f1.symm e.1,e.2.keep kt⟩,N.ha.imp fun _ e => ⟨u _ _ f2.symm e.1,e.2.keep kt⟩,u _ _ f3.symm N.la,N.ll,N.lo.mv kl',N.me.mv kl' ktf,fun p v hp e => (N.fo p v hp e).keep kt,b5F N.tb fun b o _ _ n e => k e n⟩
 rcases b0V g with ⟨rfl,rfl⟩ | ⟨rfl,rfl⟩
 ·exact ⟨W.lK,O.k1,u _ _ d2 c1'⟩
 ·exact ⟨W.lA,O.k2,u _ _ e1 c2'⟩
def c6D (K:PySem.W.Frag) (CS CF CB CT CG zt:Addr) (Hz:Hp) (W:Wk) (fi fd lk:Addr) (yk ya:List V) (dk da:List PyData) (csh ls:List V) (wl:Nat -> Option (List Int)) (wo:Nat -> Option (List Int × V)) (p:Nat) (H H':Hp) (v:V):Prop:=∃ kf' kl' mk' wo' cl',Now K CS CF CB CT CG zt Hz W fi fd lk yk ya dk da kf' kl' mk' csh ls wl wo' H' /\ H' W.ca = some (.lst cl') /\ a3a H H' /\ FrC W zt H H' /\ Fnd K H' v (wo' p) (a3e dk (W.pick dk da) p) /\
 ((cl' = [] /\ wo' = wo /\ ∀ is,a3e dk (W.pick dk da) p = .inr is -> ∃ v,wo p = some (is,v)) ∨ ∃ is lc,cl' = [.ref lc] /\ H' lc = some (.lst (is.map V.int)) /\ a3e dk (W.pick dk da) p = .inr is /\ (∀ v,wo p ≠ some (is,v)) /\ wo' = fun q => if q = p then some (is,v) else wo q)
theorem c8Z (O:WOk W) (Z:ZOk Hz W zt) (N:Now K CS CF CB CT CG zt Hz W fi fd lk yk ya dk da kf kl mk csh ls wl wo H) {p:Nat} (hp:p < W.m) (hca:H W.ca = some (.lst [])) {kf' kl':List (Ky × V)} {mk':List (Key × V)} {v:V}
 (G':GxAt P w K mg base CF CB CT CG (mkX W fi fd lk yk ya dk da) kf' kl' mk' H') (tb':a8q qGd H' zt) (fr:Fr5 fd lk zt W.ca W.mc H H') (hv:valV kf' (a0u "t" "group" p) = some v)
 (ru:∀ c p',gvO yk ya c = none -> (c ≠ "group" ∨ p' ≠ p) -> valV kf' (a0u "t" c p') = valV kf (a0u "t" c p')) (en:Ends K (mkX W fi fd lk yk ya dk da) p (wo p) mk mk' [] v H H' (a3e dk (W.pick dk da) p)) :
 c6D K CS CF CB CT CG zt Hz W fi fd lk yk ya dk da csh ls wl wo p H H' v:=by
 obtain ⟨⟨a1,a2,a3,a4,a5,a6,a7,a8,a9⟩,⟨b2,b3,b4⟩,⟨c1,c2,c3⟩,⟨d1,d2,d3,d4,d5,d6⟩,⟨e1,e2,e3,e4,e5⟩,⟨f1,f2,f3,f4⟩,⟨g1,g2,g3⟩,⟨h1,h2⟩,i1⟩:=O.ne
 have mc0:H W.mc = some (.dK mk):=N.gp.mc
 have fd0:H fd = some (.dT kf):=N.gp.F.fnd
 have lk0:H lk = some (.dT kl):=N.gp.hl
 obtain ⟨Sz,tz,_⟩:=id N.tb
 have k:∀ {x:Addr} {o:HO},H x = some o -> (∀ y,o ≠ .dT y) -> (∀ y,o ≠ .ext y) -> x ≠ W.ca -> x ≠ W.mc -> H' x = some o:=fun {x o} e n1 n2 n3 n4 => fr x o (fun y => by rw [y,fd0] at e; exact n1 _ (Option.some.inj e).symm) (fun y => by rw [y,lk0] at e; exact n1 _ (Option.some.inj e).symm) (fun y => by rw [y,tz] at e; exact n2 _ (Option.some.inj e).symm) n3 n4 e
 have na:∀ {b:Addr} {o:HO},H b = some o -> (∀ x,o ≠ .lst x) -> b ≠ W.ca:=fun e n y => by rw [y,hca] at e; exact n _ (Option.some.inj e).symm
 have nm:∀ {b:Addr} {o:HO},H b = some o -> (∀ x,o ≠ .dK x) -> b ≠ W.mc:=fun e n y => by rw [y,mc0] at e; exact n _ (Option.some.inj e).symm
 have kl0:∀ {x:Addr} {ys:List V},H x = some (.lst ys) -> x ≠ W.ca -> H' x = some (.lst ys):=fun e n => k e (fun _ y => by cases y) (fun _ y => by cases y) n (nm e (fun _ y => by cases y))
 have klf:∀ x ys,x ∉ W.fix -> H x = some (.lst ys) -> H' x = some (.lst ys):=fun x ys n e => kl0 e (fun y => n (y ▸ (a8O W).2.1))
 have ktf:∀ x o,(∃ xs,o = .tup xs ∨ ∃ q,o = .frz q (.tup xs)) -> H x = some o -> H' x = some o:=fun x o ⟨xs,h⟩ e => by
  rcases h with rfl | ⟨q,rfl⟩
  ·exact k e (fun _ y => by cases y) (fun _ y => by cases y) (na e (fun _ y => by cases y)) (nm e (fun _ y => by cases y))
  ·exact k e (fun _ y => by cases y) (fun _ y => by cases y) (na e (fun _ y => by cases y)) (nm e (fun _ y => by cases y))
 have kt:a1u H H':=fun a xs e => ktf a _ ⟨xs,.inl rfl⟩ e
 have kz:a3a H H':=fun b u e => k e (fun _ y => by cases y) (fun _ y => by cases y) (na e (fun _ y => by cases y)) (nm e (fun _ y => by cases y))
 have frc:FrC W zt H H':=fun x o n1 n2 n3 e => fr x o (fun y => by rw [y,fd0] at e; exact n3 _ (Option.some.inj e).symm) (fun y => by rw [y,lk0] at e; exact n3 _ (Option.some.inj e).symm) n2 (fun y => n1 (y ▸ (a8O W).2.1)) (fun y => n1 (y ▸ (a8O W).2.2.1)) e
 have mk_now:∀ wo':Nat -> Option (List Int × V),MemO K W H' mk' wo' -> Fnd K H' v (wo' p) (a3e dk (W.pick dk da) p) -> (∀ q,q ≠ p -> wo' q = wo q) -> Now K CS CF CB CT CG zt Hz W fi fd lk yk ya dk da kf' kl' mk' csh ls wl wo' H':=fun wo' me' fp he =>
  ⟨fun x o e => by
   obtain ⟨z1,z2,z3,z4⟩:=Z x o e
   exact frc x o z1 z2 z4 (N.old _ _ e),G'.gp,N.fl,N.l1,N.l2,N.pa.keep kt,N.sh.imp fun _ e => k e (fun _ y => by cases y) (fun _ y => by cases y) (na e (fun _ y => by cases y)) (nm e (fun _ y => by cases y)),kl0 N.ch a5,k N.hd (fun _ y => by cases y) (fun _ y => by cases y) (na N.hd (fun _ y => by cases y)) O.mb.2.2.2.2.symm,N.hk.imp fun _ e => ⟨kl0 e.1 f1.symm,e.2.keep kt⟩,N.ha.imp fun _ e => ⟨kl0 e.1 f2.symm,e.2.keep kt⟩,kl0 N.la f3.symm,N.ll,N.lo.mv klf,me',fun q v' hq e => by
   by_cases hqp:q = p
   ·subst hqp
    rw [hv] at e
    rw [<- Option.some.inj e]
    exact fp
   ·rw [ru "group" q (by unfold gvO; rw [if_neg (by decide +kernel),if_neg (by decide +kernel)]) (.inr hqp)] at e
    rw [he q hqp]
    exact (N.fo q v' hq e).keep kt,tb'⟩
 cases ht:a3e dk (W.pick dk da) p with
 | inl d =>
  rw [ht] at en
  obtain ⟨x1,x2,x3⟩:=en
  subst x2
  refine ⟨kf',kl',mk',wo,[],mk_now wo (N.me.mv klf ktf) (by rw [ht]; exact x1) (fun _ _ => rfl),x3,kz,frc,(by rw [ht]; exact x1),.inl ⟨rfl,rfl,fun is e => by rw [ht] at e; cases e⟩⟩
 | inr is =>
  rw [ht] at en
  rcases en with ⟨x1,x2,x3⟩ | ⟨x1,lc,tp,sm,x2,x3,x4,x5,x6,x7,x8,x9,x10⟩
  ·subst x2
   refine ⟨kf',kl',mk',wo,[],mk_now wo (N.me.mv klf ktf) (by rw [ht]; exact x1) (fun _ _ => rfl),x3,kz,frc,(by rw [ht]; exact x1),.inl ⟨rfl,rfl,fun is' e => ?_⟩⟩
   rw [ht] at e
   cases e
   exact ⟨v,x1⟩
  ·have fp:Fnd K H' v (if p = p then some (is,v) else wo p) (a3e dk (W.pick dk da) p):=by rw [ht,if_pos rfl]; exact rfl
   refine ⟨kf',kl',mk',(fun q => if q = p then some (is,v) else wo q),[.ref lc],mk_now _ (fun q hq => ?_) fp (fun q hq => if_neg hq),x5,kz,frc,fp,.inr ⟨is,lc,rfl,x6,ht,x1,rfl⟩⟩
   show WasF W H' mk' (q:Int) (if q = p then some (is,v) else wo q) /\ ∀ is' v',(if q = p then some (is,v) else wo q) = some (is',v') -> Dt K H' v' (setD (gW W.way is'))
   by_cases hqp:q = p
   ·rw [if_pos hqp]
    refine ⟨⟨tp,sm,by rw [x9,a08,if_pos (by rw [hqp])],x7,x8,N.nofix O hca x4⟩,fun is' v' e => ?_⟩
    cases e
    exact x10
   ·rw [if_neg hqp]
    refine ⟨?_,fun is' v' e => b3M (c6J W.way is').2 ((N.me q hq).2 is' v' e) ktf⟩
    have o1:=(N.me q hq).1.mv klf kt
    have ev:valV mk' (.inl (q:Int):Key) = valV mk (.inl (q:Int):Key):=by
     rw [x9,a08,if_neg (fun y => hqp (by have:=Sum.inl.inj y; omega))]
    revert o1
    cases wo q with
    | none => intro o1; show valV mk' _ = none; rw [ev]; exact o1
    | some jv => intro ⟨tp',lo',z1,z2⟩; exact ⟨tp',lo',by rw [ev]; exact z1,z2⟩
theorem c9y (T:Tops K mg) {CR:Addr} (Y:a29 K mg CS) (R:b1n K mg CR) (F:a03 K mg CF) (Wb:a0R K mg CB) (U:a1g K mg CT) (Gr:a69 K mg CG) {z:Addr × Addr} (B2:MthT K mg "Finder" "gathered" "Finder.gathered" a0m z) (M:b2L mg base z.1 z.2) (O:WOk W) (Z:ZOk Hz W z.2) {p:Nat} (hp:p < W.m) (kf kl:List (Ky × V)) (mk:List (Key × V)) :
 ∃ spc,a0k P w K mg base CX0 11 CS "cell" ["self", "table", "column", "place"] spc /\ ∀ (H:Hp) (Q:VK) (ls:List V) (wl:Nat -> Option (List Int)),Now K CS CF CB CT CG z.2 Hz W fi fd lk yk ya dk da kf kl mk csh ls wl wo H -> FnN P w K mg base 4 H W.fa W.ca (gW W.way) -> H W.ca = some (.lst []) ->
  (∀ H' v,c6D K CS CF CB CT CG z.2 Hz W fi fd lk yk ya dk da csh ls wl wo p H H' v -> Q v H') -> spc [.ref W.s,.str ("t" : Str),.str ("group" : Str),.int (p:Int)] H Q E0:=by
 have lx:W.B.xs.length = W.m:=by rw [O.xs,a4q]
 cases hv:valV kf (a0u "t" "group" p) with
 | some v =>
  refine ⟨_,a0k.mono (a22 T Y F Wb U (by decide) (b9J T F c8l (b8a (CT:=CT) T F Wb))) (by decide),fun H Q ls wl N fn hca q => ?_⟩
  obtain ⟨kb,hS⟩:=ShAt.now N
  refine c87 (X:=mkX W fi fd lk yk ya dk da) (c9O O N.l1 N.l2 N.fl) (N.gp.full fn) hS a12.2.2.2.2.2.2 (by show ("group" : Str) ∈ W.B.ord; rw [O.od]; exact cs3.2.2) (by show p < W.B.xs.length; omega) hv fun H' s => q H' v ?_
  have fp:=N.fo p v hp hv
  refine ⟨kf,kl,mk,wo,[],N.same s,s _ _ hca,a3a.of s,fun x o _ _ _ e => s _ _ e,fp.keep (a1u.of s),.inl ⟨rfl,rfl,fun is e => ?_⟩⟩
  rw [e] at fp
  exact ⟨v,fp⟩
 | none =>
  refine ⟨_,a22 T Y F Wb U (by decide) (b9J T F c9u (c7u T R F Wb U Gr B2 M)),fun H Q ls wl N fn hca q => ?_⟩
  obtain ⟨kb,hS⟩:=ShAt.now N
  exact d2r (X:=mkX W fi fd lk yk ya dk da) (wo:=wo p) (c9O O N.l1 N.l2 N.fl) (N.gp.full fn) hS a12.2.2.2.2.2.2 (by show ("group" : Str) ∈ W.B.ord; rw [O.od]; exact cs3.2.2) (by show p < W.B.xs.length; omega) hv N.tb hca (by decide) (N.me p hp).1.o fun H' v kf' kl' mk' G' tb' fr hv' ru en => q H' v (c8Z O Z N hp hca G' tb' fr hv' ru en)
end
end
end My
set_option maxHeartbeats 1000000
namespace My
open PySem L2
theorem Vd.eqv {d:PyData} (h:Vd d):PyData.eqv d d = true:=by
 rcases h with ⟨i,rfl,_⟩ | ⟨y,rfl,_⟩ <;> simp [PyData.eqv,PyData.eqvAll]
theorem d06 (is:List Int):PyData.eqv (.list [.list (is.map PyData.int)]) (.list [.list (is.map PyData.int)]) = true:=by
 have h:=b30 is is
 simp only [PyData.eqv] at h
 simp only [PyData.eqv,PyData.eqvAll,h]
 simp
theorem c5b (is:List Int):(PyData.list [.list (is.map PyData.int)]).canLay0 = true /\ (PyData.list [.list (is.map PyData.int)]).depth <= 64:=by
 have h1:PyData.canLayAll0 (is.map PyData.int) = true:=(a61 is).1
 have h2:PyData.depthAll (is.map PyData.int) = 0:=by
  clear h1
  induction is with
  | nil => rfl
  | cons i r ih =>
   rw [List.map_cons]
   show max 0 (PyData.depthAll (r.map PyData.int)) = 0
   rw [ih]
   rfl
 refine ⟨?_,?_⟩
 ·show ((PyData.list (is.map PyData.int)).canLay0 && true) = true
  rw [(a61 is).1]
  rfl
 ·show max (PyData.depthAll (is.map PyData.int) + 1) 0 + 1 <= 64
  rw [h2]
  decide
theorem c8O {own:PyData}:∀ {ks ns:List PyData} {acc:List Int} {d:PyData},grF own ks ns acc = .inl d -> d ∈ ns
 | [],ns,acc,d,h => by rw [b63] at h; cases h
 | k :: ks,[],acc,d,h => by
  rw [grF] at h
  ·cases h
  ·intro a b c e f g
   cases g
 | k :: ks,n :: ns,acc,d,h => by
  rw [grF] at h
  split at h
  ·split at h
   ·cases h
    exact List.mem_cons_self
   ·exact List.mem_cons_of_mem _ (c8O h)
  ·exact List.mem_cons_of_mem _ (c8O h)
theorem d0z {dk dn:List PyData} {p:Nat} {d:PyData} (h:a3e dk dn p = .inl d) (hl:dk.length = dn.length) (hp:p < dk.length) (hk:∀ d ∈ dk,Vd d) (hn:∀ d ∈ dn,Vd d):Vd d:=by
 unfold a3e at h
 split at h
 ·cases h
  have e:dk[p]? = some (dk.getD p .none):=by rw [List.getD_eq_getElem?_getD,List.getElem?_eq_getElem hp]; rfl
  exact hk _ (List.mem_of_getElem? e)
 ·exact hn _ (c8O h)
section
variable {P:Program} {w:World} {K:PySem.W.Frag} {mg:Str -> Option Value} {base:Heap}
section
variable {CS CF CB CT CG zt:Addr} {Hz:Hp} {W:Wk} {fi fd lk:Addr} {yk ya:List V} {dk da:List PyData} {kf kl:List (Ky × V)} {mk:List (Key × V)} {csh ls:List V} {wl:Nat -> Option (List Int)} {wo:Nat -> Option (List Int × V)} {H H':Hp}
theorem Now.setlast (N:Now K CS CF CB CT CG zt Hz W fi fd lk yk ya dk da kf kl mk csh ls wl wo H) (O:WOk W) (Z:ZOk Hz W zt) {p:Nat} {is:List Int} {l:Addr} (hp:p < W.m) (hl:H l = some (.lst (is.map V.int))) (nl:l ∉ W.fix) (u:But W.la H H') (e':H' W.la = some (.lst (ls.set p (.ref l)))):Now K CS CF CB CT CG zt Hz W fi fd lk yk ya dk da kf kl mk csh (ls.set p (.ref l)) (fun q => if q = p then some is else wl q) wo H':=by
 obtain ⟨⟨a1,a2,a3,a4,a5,a6,a7,a8,a9⟩,⟨b2,b3,b4⟩,⟨c1,c2,c3⟩,⟨d1,d2,d3,d4,d5,d6⟩,⟨e1,e2,e3,e4,e5⟩,⟨f1,f2,f3,f4⟩,⟨g1,g2,g3⟩,⟨h1,h2⟩,i1⟩:=O.ne
 have nd:=O.nd
 unfold Wk.fix at nd
 simp only [List.nodup_cons,List.mem_cons,List.not_mem_nil,or_false,not_or] at nd
 have rla:W.B.r ≠ W.la:=nd.2.1.2.2.2.2.2.2.1
 have ola:W.B.od ≠ W.la:=nd.2.2.1.2.2.2.2.2.1
 have k:∀ {x:Addr} {o:HO},H x = some o -> (∀ y,o ≠ .lst y) -> H' x = some o:=fun e n => u _ _ (fun y => by rw [y,N.la] at e; exact n _ (Option.some.inj e).symm) e
 have kt:a1u H H':=fun a xs e => k e (fun _ y => by cases y)
 have klf:∀ x ys,x ∉ W.fix -> H x = some (.lst ys) -> H' x = some (.lst ys):=fun x ys n e => u _ _ (fun y => n (y ▸ (a8O W).2.2.2.2.2.2.2)) e
 have ktf:∀ x o,(∃ xs,o = .tup xs ∨ ∃ q,o = .frz q (.tup xs)) -> H x = some o -> H' x = some o:=fun x o ⟨xs,h⟩ e => k e (fun y z => by rcases h with rfl | ⟨q,rfl⟩ <;> cases z)
 obtain ⟨dx,g1'⟩:=N.gp.F.fin
 obtain ⟨kb,g2',g3'⟩:=N.gp.F.bds
 obtain ⟨dg,g4'⟩:=N.gp.gr
 obtain ⟨⟨q1,h1'⟩,⟨⟨q2,h2'⟩,h3,h4⟩,h5,h6,h7⟩:=N.gp.F.B
 obtain ⟨c1',c2'⟩:=N.col O
 refine ⟨fun x o e => u _ _ (fun y => (Z x o e).1 (y ▸ (a8O W).2.2.2.2.2.2.2)) (N.old _ _ e),⟨⟨⟨dx,k g1' (fun _ y => by cases y)⟩,⟨kb,k g2' (fun _ y => by cases y),g3'⟩,⟨⟨q1,k h1' (fun _ y => by cases y)⟩,⟨⟨q2,k h2' (fun _ y => by cases y)⟩,u _ _ rla h3,k h4 (fun _ y => by cases y)⟩,k h5 (fun _ y => by cases y),k h6 (fun _ y => by cases y),u _ _ ola h7⟩,k N.gp.F.fnd (fun _ y => by cases y),N.gp.F.len⟩,N.gp.ko,N.gp.fo,k N.gp.hl (fun _ y => by cases y),N.gp.lo,fun c ys g => ?_,⟨dg,k g4' (fun _ y => by cases y)⟩,N.gp.pk.keep kt,N.gp.pn.keep kt,k N.gp.mc (fun _ y => by cases y),N.gp.ml⟩,N.fl,N.l1,N.l2,N.pa.keep kt,N.sh.imp fun _ e => k e (fun _ y => by cases y),u _ _ a8 N.ch,k N.hd (fun _ y => by cases y),N.hk.imp fun _ e => ⟨u _ _ g2 e.1,e.2.keep kt⟩,N.ha.imp fun _ e => ⟨u _ _ h1 e.1,e.2.keep kt⟩,e',by rw [List.length_set]; exact N.ll,fun q hq => ?_,N.me.mv klf ktf,fun p v hp e => (N.fo p v hp e).keep kt,b5F N.tb fun b o _ _ n e => k e n⟩
 ·rcases b0V g with ⟨rfl,rfl⟩ | ⟨rfl,rfl⟩
  ·exact ⟨W.lK,O.k1,u _ _ d5 c1'⟩
  ·exact ⟨W.lA,O.k2,u _ _ e4 c2'⟩
 ·by_cases hqp:q = p
  ·subst hqp
   show (match (if q = q then some is else wl q) with | none => _ | some is => _)
   rw [if_pos rfl]
   exact ⟨l,by rw [List.getElem?_set_self (by rw [N.ll]; exact hq)],klf _ _ nl hl,nl⟩
  ·show (match (if q = p then some is else wl q) with | none => _ | some is => _)
   rw [if_neg hqp]
   have:=(N.lo.mv klf) q hq
   revert this
   rw [List.getElem?_set_ne (fun y => hqp y.symm)]
   exact id
end
def spRt (P:Program) (w:World) (K:PySem.W.Frag) (mg:Str -> Option Value) (base:Heap) (CS CF CB CT CG zt:Addr):Sp:=fun vs H Q _ => ∃ (Hz:Hp) (W:Wk) (p:Nat) (fi fd lk:Addr) (yk ya:List V) (dk da:List PyData) (kf kl:List (Ky × V)) (mk:List (Key × V)) (csh ls cl:List V) (wo:Nat -> Option (List Int × V)),vs = [.ref W.s,.ref W.ca,.ref W.hd,.str W.n,.int (W.way:Int),.ref W.la,.int (p:Int)] /\ WOk W /\ ZOk Hz W zt /\ Now K CS CF CB CT CG zt Hz W fi fd lk yk ya dk da kf kl mk csh ls (fun q => (wo q).map (·.1)) wo H /\ FnN P w K mg base 4 H W.fa W.ca (gW W.way) /\ H W.ca = some (.lst cl) /\ p < W.m /\
 ∀ H' kf' kl' mk' ls' cl' wo',Now K CS CF CB CT CG zt Hz W fi fd lk yk ya dk da kf' kl' mk' csh ls' (fun q => (wo' q).map (·.1)) wo' H' -> H' W.ca = some (.lst cl') -> a3a H H' -> Q (.bl true) H'
def DueO (W:Wk) (H:Hp) (p:Nat) (wo:Nat -> Option (List Int × V)) (wl':Nat -> Option (List Int)) (due:List V):PyData ⊕ List Int -> Prop
 | .inl _ => due = [] /\ wl' = fun q => (wo q).map (·.1)
 | .inr is => ((∃ v,wo p = some (is,v)) /\ due = [] /\ wl' = fun q => (wo q).map (·.1)) ∨ ((∀ v,wo p ≠ some (is,v)) /\ ∃ lt,due = [.ref lt] /\ H lt = some (.lst (is.map V.int)) /\ lt ∉ W.fix /\ wl' = fun q => if q = p then some is else (wo q).map (·.1))
def dueD (W:Wk):PyData ⊕ List Int -> PyData
 | .inl d => d
 | .inr is => setD (gW W.way is)
abbrev Nrt:List Str:=["_law_sheet", "_law_calls", "_law_held", "_law_name", "_law_way", "_law_last", "_law_place", "_law_told", "_law_due", "_law_value_here"]
theorem a4V:a0l Nrt ["_law_sheet", "_law_calls", "_law_held", "_law_name", "_law_way", "_law_last", "_law_place"] (a0b a2X):=⟨rfl,rfl,rfl,by decide +kernel,rfl,by decide +kernel,by decide +kernel⟩
theorem a6r (T:Tops K mg) {CS CF CB CT CG CR:Addr} (Y:a29 K mg CS) (R:b1n K mg CR) (F:a03 K mg CF) (Wb:a0R K mg CB) (U:a1g K mg CT) (Gr:a69 K mg CG) {z:Addr × Addr} (B2:MthT K mg "Finder" "gathered" "Finder.gathered" a0m z) (M:b2L mg base z.1 z.2):a0C P w K mg base CX0 12 "_law_right" ["_law_sheet", "_law_calls", "_law_held", "_law_name", "_law_way", "_law_last", "_law_place"] (spRt P w K mg base CS CF CB CT CG z.2):=by
 have G_list:a0C P w K mg base CX0 1 "_law_list" ["_law_keys", "_law_values", "_law_place"] (c9W K):=a7W T
 have G_ans:a0C P w K mg base CX0 1 "_law_answer" ["_law_way", "_law_some"] (d0Z K):=a28 T
 have G_std:a0C P w K mg base CX0 1 "_law_settled" ["_law_thing"] (d1k K):=a3r T
 refine T.d_law_right.known a4V (fun _ _ _ _ _ _ us hl => match us,hl with | [_,_,_,_,_,_,_],_ => rfl) (fun vs H Q E h => ?_) (fun f cdv A outer s H vs Q E hr h => ?_)
 ·obtain ⟨Hz,W,p,fi,fd,lk,yk,ya,dk,da,kf,kl,mk,csh,ls,cl,wo,rfl,_⟩:=h
  rfl
 ·obtain ⟨Hz,W,p,fi,fd,lk,yk,ya,dk,da,kf,kl,mk,csh,ls,cl,wo,rfl,O,Z,N,fn,hca,hp,q⟩:=h
  have hu:=a2I hr
  have m7:=O.m7
  obtain ⟨spc,G_cell,hcell⟩:=c9y (P:=P) (w:=w) (base:=base) (fi:=fi) (fd:=fd) (lk:=lk) (yk:=yk) (ya:=ya) (dk:=dk) (da:=da) (csh:=csh) (wo:=wo) T Y R F Wb U Gr B2 M O Z hp kf kl mk
  obtain ⟨told,htold⟩:∃ t,a3e dk (W.pick dk da) p = t:=⟨_,rfl⟩
  have vdD:Vd (dueD W told):=by
   cases told with
   | inl d =>
    have lk1:yk.length = dk.length:=Paired.length N.gp.pk
    have ln1:(W.pick yk ya).length = (W.pick dk da).length:=Paired.length N.gp.pn
    have l1:=N.l1
    have l2:=N.l2
    have l3:(W.pick yk ya).length = W.m:=by unfold Wk.pick; split <;> assumption
    exact d0z htold (by omega) (by omega) N.gp.pk.vd N.gp.pn.vd
   | inr is => exact (c6J W.way is).2
  have rest:∃ t,PSs (cxOf CX0 P w K mg base Nrt "_law_right" (a0b a2X) f cdv A outer s H E).nox ((a0i a2X).drop 4) t /\
   ∀ (H3:Hp) (tv vh:V) (dl:Addr) (due ls':List V) (wl':Nat -> Option (List Int)),Now K CS CF CB CT CG z.2 Hz W fi fd lk yk ya dk da kf kl mk csh ls' wl' wo H3 -> a3a H H3 -> H3 W.ca = some (.lst cl) -> H3 dl = some (.lst due) -> dl ∉ W.fix -> Dt K H3 vh (dueD W told) -> DueO W H3 p wo wl' due told ->
    t { nx:=fun _ H' => Q .non H',rt:=Q } [some (.ref W.s),some (.ref W.ca),some (.ref W.hd),some (.str W.n),some (.int (W.way:Int)),some (.ref W.la),some (.int (p:Int)),some tv,some (.ref dl),some vh] H3:=by
   refine ⟨_,(a0d (a0t (c7x PySem.F.plainAttrs_list PySem.F.slot_list_clear PySem.F.type_list_clear c6o (pv 1)))
    (a0e (a0v (b7Q (b4Q (c34 hr.units) (a0s (pv 0) Y.cl G_cell hr a0r (a0a a1o (a0a a1o (a0a (pv 6) a0f)))) (pv 9) (a0Z _)) (b7w (b4Q (c34 hr.units) (pv 1) (pv 8) (a0Z _))))))),fun H3 tv vh dl due ls' wl' N3 kz3 ca3 hdl ndl hvh hdue => ?_⟩
   refine ⟨_,rfl,.inl ⟨rfl,_,SqL.of ca3⟩,W.ca,_,rfl,rfl,ca3,?_⟩
   have u4:But W.ca H3 (upd H3 W.ca (.lst [])):=But.upd
   have ca4:upd H3 W.ca (.lst []) W.ca = some (.lst []):=a0c
   generalize upd H3 W.ca (.lst []) = H4 at u4 ca4 ⊢
   have N4:=N3.calls O Z ca3 u4
   have k4:∀ {x:Addr} {o:HO},H3 x = some o -> (∀ y,o ≠ .lst y) -> H4 x = some o:=fun e n => u4 _ _ (fun y => by rw [y,ca3] at e; exact n _ (Option.some.inj e).symm) e
   have kz4:a3a H H4:=fun b u e => k4 (kz3 _ _ e) (fun _ y => by cases y)
   have dl4:=u4 dl _ (fun y => ndl (y ▸ (a8O W).2.1)) hdl
   obtain ⟨dS,sS⟩:=N4.sh
   refine ⟨_,rfl,W.s,dS,_,rfl,sS,a3b,_,rfl,hcell H4 _ ls' wl' N4 (fn.keep kz4) ca4 fun H5 v CP => ?_⟩
   obtain ⟨kf',kl',mk',wo',cl',N5,ca5,kz5,fr5,fnd,cases5⟩:=CP
   rw [htold] at fnd cases5
   obtain ⟨Sz,tz,_⟩:=id N4.tb
   have tup5:∀ x o,(∃ xs,o = .tup xs ∨ ∃ q,o = .frz q (.tup xs)) -> H3 x = some o -> H5 x = some o:=fun x o hx e => by
    have e4:=k4 e (fun y ey => by obtain ⟨xs,rfl | ⟨q,rfl⟩⟩:=hx <;> cases ey)
    refine fr5 x o (fun hm => ?_) (fun y => ?_) (fun y ey => by obtain ⟨xs,rfl | ⟨q,rfl⟩⟩:=hx <;> cases ey) e4
    ·rcases N4.fixed O ca4 hm with ⟨ys,h⟩ | ⟨ks,h⟩ <;> rw [h] at e4 <;> obtain ⟨xs,rfl | ⟨q,rfl⟩⟩:=hx <;> cases e4
    ·rw [y,tz] at e4
     obtain ⟨xs,rfl | ⟨q,rfl⟩⟩:=hx <;> cases e4
   have lst5:∀ x ys,x ∉ W.fix -> H3 x = some (.lst ys) -> H5 x = some (.lst ys):=fun x ys n e => by
    have e4:=u4 x _ (fun y => n (y ▸ (a8O W).2.1)) e
    exact fr5 x _ n (fun y => by rw [y,tz] at e4; cases e4) (fun y ey => by cases ey) e4
   have dt1:Dt K H5 v (dueD W told):=by
    cases told with
    | inl d => exact Pv.dt (K:=K) fnd
    | inr is => exact (N5.me p hp).2 is v fnd
   have dt2:Dt K H5 vh (dueD W told):=b3M vdD hvh tup5
   have dl5:=lst5 _ _ ndl hdl
   refine ⟨_,rfl,_,_,dt1,dt2,vdD.lay.1,vdD.lay.1,Nat.le_trans vdD.lay.2 (by decide),?_⟩
   rw [vdD.eqv]
   refine ⟨_,rfl,iteT ?_⟩
   have kz:a3a H H5:=fun b u e => kz5 _ _ (kz4 _ _ e)
   rcases cases5 with ⟨rfl,rfl,hw⟩ | ⟨is,lc,rfl,hlc,ht,hw,rfl⟩
   ·obtain ⟨rfl,ew⟩:due = [] /\ wl' = fun q => (wo' q).map (·.1):=by
     cases told with
     | inl d => exact hdue
     | inr is =>
      rcases hdue with h | h
      ·exact h.2
      ·obtain ⟨v',e⟩:=hw is rfl
       exact absurd e (h.1 v')
    rw [ew] at N5
    exact ⟨_,rfl,_,rfl,_,_,.lst (SqL.of ca5) .nil,.lst (SqL.of dl5) .nil,rfl,rfl,by decide,q H5 _ _ _ _ _ _ N5 ca5 kz⟩
   ·subst ht
    rcases hdue with h | ⟨_,lt,rfl,hlt,nlt,ew⟩
    ·obtain ⟨⟨v',e⟩,_⟩:=h
     exact absurd e (hw v')
    have ew2:wl' = fun q => (if q = p then some (is,v) else wo q).map (·.1):=by
     rw [ew]
     funext q
     by_cases e:q = p
     ·rw [if_pos e,if_pos e]; rfl
     ·rw [if_neg e,if_neg e]
    rw [ew2] at N5
    have lt5:=lst5 _ _ nlt hlt
    refine ⟨_,rfl,_,rfl,_,_,.lst (SqL.of ca5) (.cons (.lst (SqL.of hlc) (a8j is)) .nil),.lst (SqL.of dl5) (.cons (.lst (SqL.of lt5) (a8j is)) .nil),(c5b is).1,(c5b is).1,(c5b is).2,?_⟩
    rw [d06]
    exact q H5 _ _ _ _ _ _ N5 ca5 kz
  obtain ⟨t,ht,hq⟩:=rest
  refine ⟨_,(a0d (a0B (i:=7) a4V.nd rfl (Or.inl rfl) (a0o G_list (hr.mono (by decide)) a0r (a0a (a00 hu (pv 2) a1o (fun _ _ => rfl)) (a0a (a00 hu (pv 2) (pv 3) (fun _ _ => rfl)) (a0a (pv 6) a0f)))))
   (a0d (a0B (i:=8) a4V.nd rfl (Or.inl rfl) (a2K a0f))
   (a0d (a0B (i:=9) a4V.nd rfl (Or.inl rfl) (pv 7))
   (a0d (a0E (a1w (a0z a4z rfl T.isinstance a0K (a0a (pv 7) (a0a (b6m T.list b1e) a0f))) (fun _ => rfl)) (a0d (a0B (i:=9) a4V.nd rfl (Or.inl rfl) (a0o G_std (hr.mono (by decide)) a0r (a0a (a0o G_ans (hr.mono (by decide)) a0r (a0a (pv 4) (a0a (pv 7) a0f))) a0f)))
   (a0e (a0E (a0A (c4d hr.units) (a1P a1T (pv 5) (pv 6) (fun _ _ => rfl)) (pv 7) (a0Z _)) (a0d (a0t (b4K PySem.F.plainAttrs_list PySem.F.slot_list_append PySem.F.type_list_append a1k (pv 8) (a0a (pv 7) a0f)))
   (a0e (c8j (pv 7) (c8y (pv 5) (pv 6) c1A (fun _ => rfl))))) a0q))) a0q)
   ht)))),?_⟩
  have kk:valV [((.inr "key" : Key),V.ref W.hk),((.inr "a" : Key),V.ref W.ha)] (.inr "key" : Key) = some (.ref W.hk):=rfl
  have kn:valV [((.inr "key" : Key),V.ref W.hk),((.inr "a" : Key),V.ref W.ha)] (.inr W.n:Key) = some (.ref (W.pick W.hk W.ha)):=by
   unfold Wk.pick
   rcases O.n with e | e
   ·rw [e]; rfl
   ·rw [e]; rfl
  obtain ⟨zk,hk1,hk2⟩:=N.hk
  obtain ⟨za,ha1,ha2⟩:=N.ha
  have hn1:H (W.pick W.hk W.ha) = some (.lst (W.pick zk za)) /\ Pvs K H (W.pick zk za) (W.pick dk da):=by
   unfold Wk.pick
   split
   ·exact ⟨hk1,hk2⟩
   ·exact ⟨ha1,ha2⟩
  have lyk:yk.length = dk.length:=Paired.length N.gp.pk
  have lya:ya.length = da.length:=Paired.length N.pa
  have l1:=N.l1
  have l2:=N.l2
  have lpd:dk.length = (W.pick dk da).length:=by unfold Wk.pick; split <;> omega
  refine ⟨_,rfl,W.hd,_,rfl,kk ▸ DGet.k (k:=Sum.inr "key") N.hd,_,rfl,_,rfl,W.hd,_,rfl,kn ▸ DGet.k (k:=Sum.inr W.n) N.hd,_,rfl,W.hk,W.pick W.hk W.ha,p,zk,W.pick zk za,dk,W.pick dk da,rfl,hk1,hn1.1,hk2,hn1.2,lpd,by omega,by omega,fun H1 tv s1 tl => ?_⟩
  rw [htold] at tl
  refine ⟨sl,fun dl hdl => ?_⟩
  have s2':=Same.new (o:=.lst []) hdl
  have dl2:upd H1 dl (.lst []) dl = some (.lst []):=a0c
  have hdlH:H dl = none:=a0M s1 hdl
  have ndl:dl ∉ W.fix:=N.nofix O hca hdlH
  generalize upd H1 dl (.lst []) = H2 at s2' dl2 ⊢
  have s2:=s1.trans s2'
  have N2:=N.same s2
  cases told with
  | inl d =>
   have pv1:Pv K H2 tv d:=Pv.same (K:=K) tl s2'
   have nl:decide (kdD d = .lst) = false:=by
    rcases pv1 with ⟨i,_,rfl,_⟩ | ⟨a,y,_,_,rfl,_⟩ <;> rfl
   refine ⟨_,rfl,_,rfl,tv, "list", d,_,rfl,pv1.dt,b6U K _,_,rfl,?_⟩
   rw [nl]
   exact iteF (hq H2 tv tv dl [] ls _ N2 (a3a.of s2) (s2 _ _ hca) dl2 ndl pv1.dt ⟨rfl,rfl⟩)
  | inr is =>
   obtain ⟨lt,rfl,hlt,lt1⟩:=tl
   have nlt:lt ∉ W.fix:=N.nofix O hca hlt
   have lt2:=s2' _ _ lt1
   obtain ⟨i0,i1⟩:=c09 htold lpd (by omega) N.gp.pk.vd
   have dlt:∀ {H':Hp},H' lt = some (.lst (is.map V.int)) -> Dt K H' (.ref lt) (.list (is.map PyData.int)):=fun e => .lst (SqL.of e) (a8j is)
   refine ⟨_,rfl,_,rfl,_, "list", _,_,rfl,dlt lt2,b6U K _,_,rfl,iteT ?_⟩
   refine ⟨_,rfl,_,rfl,W.way,lt,is,rfl,lt2,i0,by omega,fun H3 v3 s3 hv3 => ⟨W.way,is,v3,rfl,hv3,fun H4 vh s4 hvh => ?_⟩⟩
   have s34:=s3.trans s4
   have s04:=s2.trans s34
   have N4:=N.same s04
   have la4:=N4.la
   have lt4:=s34 _ _ lt2
   have dl4:=s34 _ _ dl2
   have hls:p < ls.length:=by rw [N.ll]; exact hp
   obtain ⟨vl,evl⟩:∃ vl,ls[p]? = some vl:=⟨_,List.getElem?_eq_getElem hls⟩
   have lo:=N4.lo p hp
   obtain ⟨dl',h1,h2,h3,hb⟩:∃ dl',Dt K H4 vl dl' /\ dl'.canLay0 = true /\ dl'.depth <= 64 /\ ((!PyData.eqv dl' (.list (is.map PyData.int))) = true /\ (∀ v,wo p ≠ some (is,v)) ∨ (!PyData.eqv dl' (.list (is.map PyData.int))) = false /\ ∃ v,wo p = some (is,v)):=by
    cases ew:wo p with
    | none =>
     have lo:=lo
     simp only [ew,Option.map_none] at lo
     rw [evl] at lo
     cases Option.some.inj lo
     exact ⟨.none,.non,rfl,by decide,.inl ⟨by simp [PyData.eqv],fun v y => by cases y⟩⟩
    | some jv =>
     have lo:=lo
     simp only [ew,Option.map_some] at lo
     obtain ⟨lp,e1,e2,e3⟩:=lo
     rw [evl] at e1
     cases Option.some.inj e1
     refine ⟨_,.lst (SqL.of e2) (a8j jv.1),(a61 jv.1).1,(a61 jv.1).2,?_⟩
     rw [b30]
     by_cases e:jv.1 = is
     ·exact .inr ⟨by rw [decide_eq_true e]; rfl,jv.2,by rw [<- e]⟩
     ·exact .inl ⟨by rw [decide_eq_false e]; rfl,fun v y => e (by rw [Option.some.inj y])⟩
   refine ⟨_,rfl,_,rfl,W.la,_,_,vl,rfl,rfl,SqL.of la4,a4L evl,_,rfl,dl',_,h1,dlt lt4,h2,(a61 is).1,h3,_,rfl,?_⟩
   generalize (!PyData.eqv dl' (.list (is.map PyData.int))) = b at hb ⊢
   rcases hb with ⟨rfl,hw⟩ | ⟨rfl,hw⟩
   ·refine iteT ?_
    refine ⟨_,rfl,.inl ⟨rfl,_,SqL.of dl4⟩,_,rfl,dl,_,_,rfl,rfl,dl4,a0w (by decide),?_⟩
    have s5:Same H (upd H4 dl (.lst ([] ++ [.ref lt]))):=s04.on hdlH
    have u5:But dl H4 (upd H4 dl (.lst ([] ++ [.ref lt]))):=But.upd
    have dl5:upd H4 dl (.lst ([] ++ [.ref lt])) dl = some (.lst [.ref lt]):=a0c
    generalize upd H4 dl (.lst ([] ++ [.ref lt])) = H5 at s5 u5 dl5 ⊢
    have nld:lt ≠ dl:=fun y => by rw [<- y,lt1] at hdl; cases hdl
    have lt5:=u5 _ _ nld lt4
    have N5:=N.same s5
    have hvh5:Dt K H5 vh (setD (gW W.way is)):=b3M (c6J W.way is).2 hvh fun x o hx e => u5 _ _ (fun y => by rw [y,dl4] at e; obtain ⟨xs,rfl | ⟨q,rfl⟩⟩:=hx <;> cases e) e
    refine ⟨_,rfl,_,rfl,_,rfl,W.la,ls,(p:Int),p,rfl,rfl,N5.la,by rw [c43 (by omega) (by omega),Int.toNat_natCast],?_⟩
    have u6:But W.la H5 (upd H5 W.la (.lst (ls.set p (.ref lt)))):=But.upd
    have la6:upd H5 W.la (.lst (ls.set p (.ref lt))) W.la = some (.lst (ls.set p (.ref lt))):=a0c
    generalize upd H5 W.la (.lst (ls.set p (.ref lt))) = H6 at u6 la6 ⊢
    have N6:=N5.setlast O Z hp lt5 nlt u6 la6
    have nla:∀ {x:Addr},x ∉ W.fix -> x ≠ W.la:=fun n y => n (y ▸ (a8O W).2.2.2.2.2.2.2)
    have lt6:=u6 _ _ (nla nlt) lt5
    have dl6:=u6 _ _ (nla ndl) dl5
    have k6:∀ {x:Addr} {o:HO},H5 x = some o -> (∀ y,o ≠ .lst y) -> H6 x = some o:=fun e n => u6 _ _ (fun y => by rw [y,N5.la] at e; exact n _ (Option.some.inj e).symm) e
    have hvh6:Dt K H6 vh (setD (gW W.way is)):=b3M (c6J W.way is).2 hvh5 fun x o hx e => k6 e (fun y ey => by obtain ⟨xs,rfl | ⟨q,rfl⟩⟩:=hx <;> cases ey)
    exact hq H6 _ vh dl [.ref lt] _ _ N6 (fun b u e => k6 (s5 _ _ e) (fun _ y => by cases y)) (u6 _ _ O.ne.2.2.2.2.2.1.2.2.1 (s5 _ _ hca)) dl6 ndl hvh6 (.inr ⟨hw,lt,rfl,lt6,nlt,rfl⟩)
   ·exact iteF (hq H4 _ vh dl [] ls _ N4 (a3a.of s04) (s04 _ _ hca) dl4 ndl hvh (.inl ⟨hw,rfl,rfl⟩))
end
end My
set_option maxHeartbeats 1000000
namespace My
open PySem L2
abbrev Nlaw:List Str:=["_law_script", "_law_many", "_law_sheet", "_law_held", "_law_row", "_law_column", "_law_name", "_law_way", "_law_calls", "_law_last", "_law_k", "_law_place", "_law_value_here"]
theorem a7o:a0l Nlaw ["_law_script"] (a0b a99):=⟨rfl,rfl,rfl,by decide +kernel,rfl,by decide +kernel,by decide +kernel⟩
theorem c7m (k n:Str) (fa bd ch fi:Addr):gfl k n fa ≠ sfl bd ch fi:=fun h => by
 have h1:(gfl k n fa).map (·.1) = (sfl bd ch fi).map (·.1):=by rw [h]
 exact absurd h1 (show ¬ ([("function" : Str),("key" : Str),("name" : Str)] = [("boards" : Str),("changes" : Str),("finder" : Str)]) by decide +kernel)
section
variable {P:Program} {w:World} {K:PySem.W.Frag} {mg:Str -> Option Value} {base:Heap}
section
variable {CS CF CB CT CG zt:Addr} {Hz:Hp} {W:Wk} {fi fd lk:Addr} {yk ya:List V} {dk da:List PyData} {kf kl:List (Ky × V)} {mk:List (Key × V)} {csh ls:List V} {wl:Nat -> Option (List Int)} {wo:Nat -> Option (List Int × V)} {H H':Hp}
theorem Now.dKno (N:Now K CS CF CB CT CG zt Hz W fi fd lk yk ya dk da kf kl mk csh ls wl wo H) (O:WOk W) {cl:List V} (hca:H W.ca = some (.lst cl)) {x:Addr} {ks:List (Key × V)} (h:H x = some (.dK ks)) (n:x ≠ W.mc):x ∉ W.fix:=fun hx => by
 have nl:∀ {y:Addr} {ys:List V},H y = some (.lst ys) -> x ≠ y:=fun e z => by rw [<- z,h] at e; cases e
 obtain ⟨c1,c2⟩:=N.col O
 obtain ⟨zk,e1,_⟩:=N.hk
 obtain ⟨za,e2,_⟩:=N.ha
 have b1:H W.B.r = some (.lst W.B.xs):=N.gp.F.B.tab.rows
 have b2:H W.B.od = some (.lst (W.B.ord.map V.str)):=N.gp.F.B.ord
 unfold Wk.fix at hx
 simp only [List.mem_cons,List.not_mem_nil,or_false] at hx
 rcases hx with hx | hx | hx | hx | hx | hx | hx | hx | hx | hx
 ·exact nl N.ch hx
 ·exact nl b1 hx
 ·exact nl b2 hx
 ·exact nl c1 hx
 ·exact nl c2 hx
 ·exact nl hca hx
 ·exact nl e1 hx
 ·exact nl e2 hx
 ·exact nl N.la hx
 ·exact n hx
theorem d0A (O:WOk W) (Z:ZOk Hz W zt) (N:Now K CS CF CB CT CG zt Hz W fi fd lk yk ya dk da kf kl mk csh ls wl wo H) {cl:List V} (hca:H W.ca = some (.lst cl)) (u:∀ x o,x ∉ W.fix -> x ≠ W.s -> H x = some o -> H' x = some o)
 {fi' fd' lk':Addr} {yk' ya' csh':List V} {dk' da':List PyData} (B':BAt CB CT H' W.B) (bd':∃ kb,H' W.bd = some (.dK kb) /\ valV kb (.inr "t" : Key) = some (.ref W.B.b)) (fin:∃ df,H' fi' = some (.ins CF df (ffl W.bd fd' lk'))) (hfd:H' fd' = some (.dT [])) (hlk:H' lk' = some (.dT [])) (fl:fd' ≠ lk') (sh:∃ dx,H' W.s = some (.ins CS dx (sfl W.bd W.ch fi'))) (ch:H' W.ch = some (.lst csh')) (mc:H' W.mc = some (.dK mk)) (la:H' W.la = some (.lst ls)) (cK:H' W.lK = some (.lst yk')) (cA:H' W.lA = some (.lst ya')) (hk:∃ zk,H' W.hk = some (.lst zk) /\ Pvs K H' zk dk') (ha:∃ za,H' W.ha = some (.lst za) /\ Pvs K H' za da') (pk:Pvs K H' yk' dk') (pa:Pvs K H' ya' da') (l1:yk'.length = W.m) (l2:ya'.length = W.m) :
 Now K CS CF CB CT CG zt Hz W fi' fd' lk' yk' ya' dk' da' [] [] mk csh' ls wl wo H':=by
 have nf:∀ {x:Addr} {o:HO},H x = some o -> (∀ y,o ≠ .lst y) -> (∀ y,o ≠ .dK y) -> x ∉ W.fix:=fun e n1 n2 hx => by
  rcases N.fixed O hca hx with ⟨ys,h⟩ | ⟨ks,h⟩ <;> rw [h] at e
  ·exact n1 _ (Option.some.inj e).symm
  ·exact n2 _ (Option.some.inj e).symm
 obtain ⟨dS,hs⟩:=N.sh
 have ns:∀ {x:Addr} {o:HO},H x = some o -> (∀ a b c,o ≠ .ins a b c) -> x ≠ W.s:=fun e n y => by rw [y,hs] at e; exact n _ _ _ (Option.some.inj e).symm
 have ktf:∀ x o,(∃ xs,o = .tup xs ∨ ∃ q,o = .frz q (.tup xs)) -> H x = some o -> H' x = some o:=fun x o hx e => u x o (nf e (fun y ey => by obtain ⟨xs,rfl | ⟨q,rfl⟩⟩:=hx <;> cases ey) (fun y ey => by obtain ⟨xs,rfl | ⟨q,rfl⟩⟩:=hx <;> cases ey)) (ns e (fun a b c ey => by obtain ⟨xs,rfl | ⟨q,rfl⟩⟩:=hx <;> cases ey)) e
 have klf:∀ x ys,x ∉ W.fix -> H x = some (.lst ys) -> H' x = some (.lst ys):=fun x ys n e => u x _ n (ns e (fun _ _ _ y => by cases y)) e
 obtain ⟨dg,g4⟩:=N.gp.gr
 have g4:H W.gr = some (.ins CG dg (gfl "key" W.n W.fa)):=g4
 have ngs:W.gr ≠ W.s:=fun y => by
  rw [y,hs] at g4
  have:=Option.some.inj g4
  exact c7m "key" W.n W.fa W.bd W.ch fi (HO.ins.inj this).2.2.symm
 have tb':a8q qGd H' zt:=by
  obtain ⟨S,t1,t2⟩:=N.tb
  refine ⟨S,u _ _ (nf t1 (fun _ y => by cases y) (fun _ y => by cases y)) (ns t1 (fun _ _ _ y => by cases y)) t1,fun c hc => ?_⟩
  obtain ⟨o,o1,o2⟩:=t2 c hc
  exact ⟨o,u _ _ (nf o1 (fun _ y => by cases y) (fun _ y => by cases y)) (ns o1 (fun _ _ _ y => by cases y)) o1,o2⟩
 refine ⟨fun x o e => ?_,⟨⟨fin,bd',B',hfd,by decide⟩,a51.nil,fun c p v ys _ e => by {cases e},hlk,a51.nil,fun c ys g => ?_,⟨dg,u _ _ (nf g4 (fun _ y => by cases y) (fun _ y => by cases y)) ngs g4⟩,pk,?_,mc,N.gp.ml⟩,fl,l1,l2,pa,sh,ch,u _ _ (N.dKno O hca N.hd O.mb.2.2.2.2.symm) (ns N.hd (fun _ _ _ y => by cases y)) N.hd,hk,ha,la,N.ll,N.lo.mv klf,N.me.mv klf ktf,fun p v _ e => by {cases e},tb'⟩
 ·obtain ⟨z1,z2,z3,z4⟩:=Z x o e
  exact u x o z1 z3 (N.old _ _ e)
 ·rcases b0V g with ⟨rfl,rfl⟩ | ⟨rfl,rfl⟩
  ·exact ⟨W.lK,O.k1,cK⟩
  ·exact ⟨W.lA,O.k2,cA⟩
 ·show Pvs K H' (W.pick yk' ya') (W.pick dk' da')
  unfold Wk.pick
  split
  ·exact pk
  ·exact pa
end
end
end My
set_option maxHeartbeats 1000000
namespace My
open PySem L2
theorem Pvs.set {K:PySem.W.Frag} {H:Hp} {v:V} {d:PyData} (h:Pv K H v d):∀ {vs:List V} {ds:List PyData} {i:Nat},Pvs K H vs ds -> Pvs K H (vs.set i v) (ds.set i d)
 | _,_,_,.nil => .nil
 | _,_,0,.cons _ t => .cons h t
 | _,_,i + 1,.cons h' t => .cons h' (Pvs.set h t)
section
variable {P:Program} {w:World} {K:PySem.W.Frag} {mg:Str -> Option Value} {base:Heap}
section
variable {CS CF CB CT CG zt:Addr} {Hz:Hp} {W:Wk} {fi fd lk:Addr} {yk ya:List V} {dk da:List PyData} {kf kl:List (Ky × V)} {mk:List (Key × V)} {csh ls:List V} {wl:Nat -> Option (List Int)} {wo:Nat -> Option (List Int × V)} {H H':Hp}
abbrev d2u (W:Wk):List (Key × V):=[((.inr "key" : Key),V.ref W.hk),((.inr "a" : Key),V.ref W.ha)]
theorem c95 (O:WOk W) (Z:ZOk Hz W zt) (N:Now K CS CF CB CT CG zt Hz W fi fd lk yk ya dk da kf kl mk csh ls wl wo H) {cl:List V} (hca:H W.ca = some (.lst cl)) {c:Str} {p:Nat} {v:V} {d:PyData} (hc:c = "key" ∨ c = "a") (hv:Pv K H v d) :
 ∃ l hx ys zs,valV W.B.kvs (.inr c:Key) = some (.ref l) /\ H l = some (.lst ys) /\ ys.length = W.m /\ valV W.B.rus (.inr c:Key) = none /\ valV (d2u W) (.inr c:Key) = some (.ref hx) /\ H hx = some (.lst zs) /\ zs.length = W.m /\ l ≠ W.ch /\ l ≠ W.B.r /\ l ≠ W.B.od /\ hx ≠ W.ch /\ hx ≠ l /\ c ∈ W.B.ord /\ Nl c /\
  ∀ H1 H2 fi' fd' lk' csh' kb,c6I CS CF W.s W.bd W.ch fi' fd' lk' csh' kb H H1 -> valV kb (.inr "t" : Key) = some (.ref W.B.b) -> BAt CB CT H1 W.B -> H1 l = some (.lst (ys.set p v)) -> (∀ x o,x ≠ W.s -> x ≠ W.ch -> x ≠ l -> H x = some o -> H1 x = some o) -> But hx H1 H2 -> H2 hx = some (.lst (zs.set p v)) ->
   ∃ yk' ya' dk' da',Now K CS CF CB CT CG zt Hz W fi' fd' lk' yk' ya' dk' da' [] [] mk csh' ls wl wo H2 /\ H2 W.ca = some (.lst cl):=by
 have nd:=O.nd
 unfold Wk.fix at nd
 simp only [List.nodup_cons,List.mem_cons,List.not_mem_nil,or_false,not_or] at nd
 obtain ⟨⟨a1,a2,a3,a4,a5,a6,a7,a8,a9⟩,⟨b1,b2,b3,b4,b5,b6,b7,b8⟩,⟨c1,c2,c3,c4,c5,c6,c7⟩,⟨d1,d2,d3,d4,d5,d6⟩,⟨e1,e2,e3,e4,e5⟩,⟨f1,f2,f3,f4⟩,⟨g1,g2,g3⟩,⟨h1,h2⟩,i1,_⟩:=nd
 obtain ⟨cK,cA⟩:=N.col O
 obtain ⟨zk,hk1,hk2⟩:=N.hk
 obtain ⟨za,ha1,ha2⟩:=N.ha
 obtain ⟨dS,hs⟩:=N.sh
 have l1:=N.l1
 have l2:=N.l2
 have lyk:yk.length = dk.length:=Paired.length N.gp.pk
 have lya:ya.length = da.length:=Paired.length N.pa
 have lzk:zk.length = dk.length:=Paired.length hk2
 have lza:za.length = da.length:=Paired.length ha2
 have mc0:H W.mc = some (.dK mk):=N.gp.mc
 have core:∀ (l hx:Addr) (ys zs:List V),H l = some (.lst ys) -> H hx = some (.lst zs) -> l ∈ W.fix -> hx ∈ W.fix -> hx ≠ W.ch -> hx ≠ l -> hx ≠ W.B.r -> hx ≠ W.B.od -> hx ≠ W.mc -> hx ≠ W.la -> l ≠ W.la -> hx ≠ W.ca -> l ≠ W.ca -> ∀ H1 H2 fi' fd' lk' csh' kb,c6I CS CF W.s W.bd W.ch fi' fd' lk' csh' kb H H1 -> valV kb (.inr "t" : Key) = some (.ref W.B.b) -> BAt CB CT H1 W.B -> H1 l = some (.lst (ys.set p v)) -> (∀ x o,x ≠ W.s -> x ≠ W.ch -> x ≠ l -> H x = some o -> H1 x = some o) -> But hx H1 H2 -> H2 hx = some (.lst (zs.set p v)) ->
  a1u H H2 /\ H2 l = some (.lst (ys.set p v)) /\ (∀ x ys',x ≠ W.ch -> x ≠ l -> x ≠ hx -> H x = some (.lst ys') -> H2 x = some (.lst ys')) /\ H2 W.ca = some (.lst cl) /\
  ∀ yk' ya' dk' da',H2 W.lK = some (.lst yk') -> H2 W.lA = some (.lst ya') -> (∃ zk,H2 W.hk = some (.lst zk) /\ Pvs K H2 zk dk') -> (∃ za,H2 W.ha = some (.lst za) /\ Pvs K H2 za da') -> Pvs K H2 yk' dk' -> Pvs K H2 ya' da' -> yk'.length = W.m -> ya'.length = W.m -> Now K CS CF CB CT CG zt Hz W fi' fd' lk' yk' ya' dk' da' [] [] mk csh' ls wl wo H2:=by
  intro l hx ys zs hl hhx ml mh n1 n2 n3 n4 n5 n6 n7 n8 n9 H1 H2 fi' fd' lk' csh' kb Fr hkb hB hl1 u b2' hx2
  obtain ⟨⟨dS',s1⟩,ch1,bd1,⟨df,fi1⟩,fd1,lk1,fl,_,_,_⟩:=Fr
  have k1:∀ {x:Addr} {o:HO},H x = some o -> (∀ y,o ≠ .lst y) -> (∀ a b c,o ≠ .ins a b c) -> H1 x = some o:=fun e n1 n2 => u _ _ (fun y => by rw [y,hs] at e; exact n2 _ _ _ (Option.some.inj e).symm) (fun y => by rw [y,N.ch] at e; exact n1 _ (Option.some.inj e).symm) (fun y => by rw [y,hl] at e; exact n1 _ (Option.some.inj e).symm) e
  have hx1:H1 hx = some (.lst zs):=u _ _ (fun y => by rw [y,hs] at hhx; cases hhx) n1 n2 hhx
  have k2:∀ {x:Addr} {o:HO},H1 x = some o -> (∀ y,o ≠ .lst y) -> H2 x = some o:=fun e n => b2' _ _ (fun y => by rw [y,hx1] at e; exact n _ (Option.some.inj e).symm) e
  have kl2:∀ x ys',x ≠ W.ch -> x ≠ l -> x ≠ hx -> H x = some (.lst ys') -> H2 x = some (.lst ys'):=fun x ys' m1 m2 m3 e => b2' _ _ m3 (u _ _ (fun y => by rw [y,hs] at e; cases e) m1 m2 e)
  have kt:a1u H H2:=fun a xs e => k2 (k1 e (fun _ y => by cases y) (fun _ _ _ y => by cases y)) (fun _ y => by cases y)
  have B2:BAt CB CT H2 W.B:=by
   obtain ⟨⟨q1,t1⟩,⟨⟨q2,t2⟩,t3,t4⟩,t5,t6,t7⟩:=hB
   exact ⟨⟨q1,k2 t1 (fun _ y => by cases y)⟩,⟨⟨q2,k2 t2 (fun _ y => by cases y)⟩,b2' _ _ n3.symm t3,k2 t4 (fun _ y => by cases y)⟩,k2 t5 (fun _ y => by cases y),k2 t6 (fun _ y => by cases y),b2' _ _ n4.symm t7⟩
  have ca2:=kl2 W.ca cl (fun y => a5 y.symm) n9.symm n8.symm hca
  have la2:=kl2 W.la ls (fun y => a8 y.symm) n7.symm n6.symm N.la
  have uu:∀ x o,x ∉ W.fix -> x ≠ W.s -> H x = some o -> H2 x = some o:=fun x o m1 m2 e => b2' _ _ (fun y => m1 (y ▸ mh)) (u _ _ m2 (fun y => m1 (y ▸ (a8O W).1)) (fun y => m1 (y ▸ ml)) e)
  exact ⟨kt,b2' _ _ n2.symm hl1,kl2,ca2,fun yk' ya' dk' da' q1 q2 q3 q4 q5 q6 q7 q8 => d0A O Z N hca uu B2 ⟨kb,k2 bd1 (fun _ y => by cases y),hkb⟩ ⟨df,k2 fi1 (fun _ y => by cases y)⟩ (k2 fd1 (fun _ y => by cases y)) (k2 lk1 (fun _ y => by cases y)) fl ⟨dS',k2 s1 (fun _ y => by cases y)⟩ (b2' _ _ n1.symm ch1) (k2 (k1 mc0 (fun _ y => by cases y) (fun _ _ _ y => by cases y)) (fun _ y => by cases y)) la2 q1 q2 q3 q4 q5 q6 q7 q8⟩
 obtain ⟨m1,m2,m3,m4,m5,m6,m7,m8⟩:=a8O W
 rcases hc with rfl | rfl
 ·refine ⟨W.lK,W.hk,yk,zk,O.k1,cK,l1,O.r1,rfl,hk1,by omega,fun y => a3 y.symm,fun y => b2 y.symm,fun y => c1 y.symm,fun y => a6 y.symm,fun y => d3 y.symm,by rw [O.od]; exact cs3.1,a12.2.2.2.2.1,fun H1 H2 fi' fd' lk' csh' kb Fr hkb hB hl1 u b2' hx2 => ?_⟩
  obtain ⟨kt,x1,x2,x3,x4⟩:=core W.lK W.hk yk zk cK hk1 m4 m6 (fun y => a6 y.symm) (fun y => d3 y.symm) (fun y => b5 y.symm) (fun y => c4 y.symm) g3 g2 d5 (fun y => f1 y.symm) d2 H1 H2 fi' fd' lk' csh' kb Fr hkb hB hl1 u b2' hx2
  exact ⟨_,_,dk.set p d,da,x4 (yk.set p v) ya (dk.set p d) da x1 (x2 _ _ (fun y => a4 y.symm) (fun y => d1 y.symm) e2 cA) ⟨_,hx2,Pvs.set (hv.keep kt) (hk2.keep kt)⟩ ⟨_,x2 _ _ (fun y => a7 y.symm) (fun y => d4 y.symm) (fun y => g1 y.symm) ha1,ha2.keep kt⟩ (Pvs.set (hv.keep kt) (Pvs.keep kt N.gp.pk)) (N.pa.keep kt) (by rw [List.length_set]; exact l1) l2,x3⟩
 ·refine ⟨W.lA,W.ha,ya,za,O.k2,cA,l2,O.r2,rfl,ha1,by omega,fun y => a4 y.symm,fun y => b3 y.symm,fun y => c2 y.symm,fun y => a7 y.symm,fun y => e3 y.symm,by rw [O.od]; exact cs3.2.1,a12.2.2.2.2.2.1,fun H1 H2 fi' fd' lk' csh' kb Fr hkb hB hl1 u b2' hx2 => ?_⟩
  obtain ⟨kt,x1,x2,x3,x4⟩:=core W.lA W.ha ya za cA ha1 m5 m7 (fun y => a7 y.symm) (fun y => e3 y.symm) (fun y => b6 y.symm) (fun y => c5 y.symm) h2 h1 e4 (fun y => f2 y.symm) e1 H1 H2 fi' fd' lk' csh' kb Fr hkb hB hl1 u b2' hx2
  exact ⟨_,_,dk,da.set p d,x4 yk (ya.set p v) dk (da.set p d) (x2 _ _ (fun y => a3 y.symm) d1 d4 cK) x1 ⟨_,x2 _ _ (fun y => a6 y.symm) (fun y => e2 y.symm) g1 hk1,hk2.keep kt⟩ ⟨_,hx2,Pvs.set (hv.keep kt) (ha2.keep kt)⟩ (Pvs.keep kt N.gp.pk) (Pvs.set (hv.keep kt) (N.pa.keep kt)) l1 (by rw [List.length_set]; exact l2),x3⟩
end
theorem Now.unl {X:Cx} {σ:St} {f:Lend} {CS CF CB CT CG zt:Addr} {Hz:Hp} {W:Wk} {fi fd lk:Addr} {yk ya:List V} {dk da:List PyData} {kf kl:List (Ky × V)} {mk:List (Key × V)} {csh ls:List V} {wl:Nat -> Option (List Int)} {wo:Nat -> Option (List Int × V)} {H H':Hp} (L:c7v X σ H f) (oldH:Same Hz H) (kz:a3a (lend f H) H') (N:Now K CS CF CB CT CG zt Hz W fi fd lk yk ya dk da kf kl mk csh ls wl wo H'):Now K CS CF CB CT CG zt Hz W fi fd lk yk ya dk da kf kl mk csh ls wl wo (unl f H') /\ b7A H' (unl f H'):=by
 have at':∀ b o,f b = some o -> H' b = some (Fz o):=fun b o e => kz _ _ (a7D e)
 have kn:b7A H' (L2.unl f H'):=fun b o n e => by
  cases e2:f b with
  | none => rw [a04 e2]; exact e
  | some ob => rw [at' b ob e2] at e; exact absurd (Option.some.inj e).symm (n ob)
 refine ⟨N.mv kn (fun x o e => ?_) ?_,kn⟩
 ·cases e2:f x with
  | none => rw [a04 e2]; exact N.old _ _ e
  | some ob => have:=oldH _ _ e; rw [L.free x ob e2] at this; cases this
 ·obtain ⟨S,t1,t2⟩:=N.tb
  refine ⟨S,kn _ _ (fun u y => by cases y) t1,fun c hc => ?_⟩
  obtain ⟨o,o1,o2⟩:=t2 c hc
  refine ⟨o,?_,o2⟩
  cases e2:f c with
  | none => rw [a04 e2]; exact o1
  | some ob =>
   rw [at' c ob e2] at o1
   have:=d1D o1
   subst this
   obtain ⟨v,hv⟩:=L.only c _ e2
   obtain ⟨vs,t,h1,_⟩:=o2
   rw [hv] at h1
   cases h1
end
end My
set_option maxHeartbeats 1000000
namespace My
open PySem L2
section
variable {P:Program} {w:World} {K:PySem.W.Frag} {mg:Str -> Option Value} {base:Heap}
def LSt (K:PySem.W.Frag) (CS CF CB CT CG zt:Addr) (Hz:Hp) (W:Wk) (i:Nat) (H:Hp):Prop:=∃ (fi fd lk:Addr) (yk ya:List V) (dk da:List PyData) (kf kl:List (Ky × V)) (mk:List (Key × V)) (csh ls cl:List V) (wo:Nat -> Option (List Int × V)),Now K CS CF CB CT CG zt Hz W fi fd lk yk ya dk da kf kl mk csh ls (fun q => (wo q).map (·.1)) wo H /\ H W.ca = some (.lst cl) /\ csh.length <= 10 + i
abbrev c6N (P:Program) (w:World) (K:PySem.W.Frag) (mg:Str -> Option Value) (base:Heap) (f c:Addr) (A:Around) (outer:List Env) (s:Shared) (H:Hp) (E:XK):Cx:=(cxOf CX0 P w K mg base Nlaw "law" (a0b a99) f (.ref c) A outer s H E).nox
theorem d0P (T:Tops K mg) {CS CF CB CT CG CR CV:Addr} (Y:a29 K mg CS) (R:b1n K mg CR) (F:a03 K mg CF) (Wb:a0R K mg CB) (U:a1g K mg CT) (Gr:a69 K mg CG) (VP:a6O K mg CV) {z1 z2:Addr × Addr} (B2:MthT K mg "Finder" "gathered" "Finder.gathered" a0m z2) (M2:b2L mg base z2.1 z2.2) {f:Addr} (A:Around) (outer:List Env) (s:Shared) (H:Hp) (Q:VK) (E:XK) (hr:Room 15 (A.deeper (PyProof.Rows.envOfC "law" (a0b a99) s.heap.objs.size f (.ref z1.1)))) (q:∀ H',b1F [z1,z2] H' -> Q (.bl true) H') :
 ∃ t,PSs (c6N P w K mg base f z1.1 A outer s H E) ((a0i a99).drop 11) t /\
  ∀ (H1 Hz:Hp) (W:Wk) (a:Addr) (ns:List Int) (o4 o5 o10 o11 o12:Option V),WOk W -> ZOk Hz W z2.2 -> LSt K CS CF CB CT CG z2.2 Hz W 0 H1 -> SqL K Hz a (ns.map V.int) -> ns.length <= 63 -> (∃ S,Hz z1.2 = some (TabC z1.2 S)) ->
   (∀ (σ:St) (HB:Hp) (fl:Lend),c7v (c6N P w K mg base f z1.1 A outer s H E) σ HB fl -> σ[8]? = some (some (.ref W.ca)) -> σ[7]? = some (some (.int (W.way:Int))) -> Same Hz HB -> FnN P w K mg base 4 (lend fl HB) W.fa W.ca (gW W.way)) ->
   t { nx:=fun _ H' => Q .non H',rt:=Q } [some (.ref a),some (.int (W.m:Int)),some (.ref W.s),some (.ref W.hd),o4,o5,some (.str W.n),some (.int (W.way:Int)),some (.ref W.ca),some (.ref W.la),o10,o11,o12] H1:=by
 have hu:=a2I hr
 have G_mixed:a0C P w K mg base CX0 1 "_law_mixed" ["_law_script", "_law_k"] (c7D K):=a2f T
 have G_value:a0C P w K mg base CX0 1 "_law_value" ["_law_cell"] (spLv K):=a4h T
 have G_put:a0k P w K mg base CX0 9 CS "put" ["self", "table", "column", "place", "value"] (c9S K CS CF CB CT):=a6a T Y F Wb U VP
 have G_right:a0C P w K mg base CX0 12 "_law_right" ["_law_sheet", "_law_calls", "_law_held", "_law_name", "_law_way", "_law_last", "_law_place"] (spRt P w K mg base CS CF CB CT CG z2.2):=a6r T Y R F Wb U Gr B2 M2
 refine ⟨_,(a0d (b1m PassesOwn.never rfl (b0B rfl T.range (a0a a0p a0f)) (a35 (i:=10) a7o.nd rfl (by first | exact Or.inl rfl | exact Or.inr rfl)) (a0d (a0B (i:=11) a7o.nd rfl (by first | exact Or.inl rfl | exact Or.inr rfl) (a1p a5B (a0o G_mixed (hr.mono (by decide)) a0r (a0a (pv 0) (a0a (a1p b0k a0p (a1p b7M a0p (pv 10))) a0f))) (pv 1)))
  (a0e (a0E (a0A c3h (a1p a5B (a0o G_mixed (hr.mono (by decide)) a0r (a0a (pv 0) (a0a (a1p b0k a0p (a1p b7M a0p (pv 10))) a0f))) a0p) a0p (a0Z _)) (a0d (a0B (i:=5) a7o.nd rfl (by first | exact Or.inl rfl | exact Or.inr rfl) (a1P a1T (a2K (a0a a1o (a0a a1o a0f))) (a1p a5B (a0o G_mixed (hr.mono (by decide)) a0r (a0a (pv 0) (a0a (a1p b0k a0p (a1p b7M a0p (pv 10))) a0f))) a0p) (fun _ _ => rfl)))
  (a0d (a0B (i:=12) a7o.nd rfl (by first | exact Or.inl rfl | exact Or.inr rfl) (a0o G_value (hr.mono (by decide)) a0r (a0a (a0o G_mixed (hr.mono (by decide)) a0r (a0a (pv 0) (a0a (a1p b0k a0p (a1p b7M a0p (pv 10))) a0f))) a0f)))
  (a0d (a0t (c7x PySem.F.plainAttrs_list PySem.F.slot_list_clear PySem.F.type_list_clear c6o (pv 8)))
  (a0d (a0t (a0s (pv 2) Y.cl G_put (hr.mono (by decide)) a0r (a0a a1o (a0a (pv 5) (a0a (pv 11) (a0a (pv 12) a0f))))))
  (a0d (c8j (pv 12) (c8y (a00 hu (pv 3) (pv 5) (fun _ _ => rfl)) (pv 11) c1A (fun _ => rfl)))
  (a0e (a0E (a0A (c4d hr.units) (pv 8) (a2K a0f) (a0Z _)) (a0e (a0v c6Q)) a0q))))))) (a0e (a0E (a23 (a1w (c81 G_right (hr.mono (by decide)) (a0a (pv 2) (a0a (pv 8) (a0a (pv 3) (a0a (pv 6) (a0a (pv 7) (a0a (pv 9) (a0a (pv 11) a0f)))))))) (fun _ => rfl))) (a0e (a0v c6Q)) a0q))))))
  (a0e (a0v c6Q))),?_⟩
 intro H1 Hz W a ns o4 o5 o10 o11 o12 O Z L1 hS hl hz1 fnH
 have m0:=O.m0
 have m7:=O.m7
 refine ⟨_,rfl,by decide,by decide,?_⟩
 refine b3d (lo:=0) (n:=(10:Int).toNat) (fun i σ Hi => ∃ o5 o10 o11 o12,σ = [some (.ref a),some (.int (W.m:Int)),some (.ref W.s),some (.ref W.hd),o4,o5,some (.str W.n),some (.int (W.way:Int)),some (.ref W.ca),some (.ref W.la),o10,o11,o12] /\ LSt K CS CF CB CT CG z2.2 Hz W i Hi) ⟨_,_,_,_,rfl,L1⟩ ?_ ?_
 ·rintro i σ Hi hi ⟨o5,o10,o11,o12,rfl,L⟩
  have hi:i < 10:=hi
  obtain ⟨fi,fd,lk,yk,ya,dk,da,kf,kl,mk,csh,ls,cl,wo,N,hca,lc⟩:=L
  have hSi:=N.old.seq hS
  refine ⟨_,rfl,_,rfl,_,_,rfl,rfl,.inl ⟨by decide,by decide⟩,_,_,rfl,rfl,a,ns,_,rfl,hSi,hl,by omega,by omega,fun m1 h1 h2 => ⟨_,rfl,_,_,rfl,rfl,by omega,?_⟩⟩
  have e1:=Int.emod_nonneg m1 (show (W.m:Int) ≠ 0 by omega)
  have e2:=Int.emod_lt_of_pos m1 (show (0:Int) < (W.m:Int) by omega)
  obtain ⟨p,hp'⟩:∃ p:Nat,m1 % (W.m:Int) = (p:Int):=⟨(m1 % (W.m:Int)).toNat,by omega⟩
  have hp:p < W.m:=by omega
  refine ⟨_,rfl,_,rfl,_,_,rfl,rfl,.inl ⟨by decide,by decide⟩,_,_,rfl,rfl,a,ns,_,rfl,hSi,hl,by omega,by omega,fun m2 h3 h4 => ⟨_,_,rfl,rfl,(show (0:Int) < 2 by decide),rfl,_,rfl,?_⟩⟩
  refine ite2 (fun _ => ?_) (fun _ => ?_)
  ·refine ⟨sl,fun cl0 hcl0 => ?_⟩
   have s1:=Same.new (o:=.lst [.str ("key" : Str),.str ("a" : Str)]) hcl0
   have c1:upd Hi cl0 (.lst [.str ("key" : Str),.str ("a" : Str)]) cl0 = some (.lst [.str ("key" : Str),.str ("a" : Str)]):=a0c
   generalize upd Hi cl0 (.lst [.str ("key" : Str),.str ("a" : Str)]) = H2 at s1 c1 ⊢
   refine ⟨_,rfl,_,rfl,_,_,rfl,rfl,.inl ⟨by decide,by decide⟩,_,_,rfl,rfl,a,ns,_,rfl,s1.seq hSi,hl,by omega,by omega,fun m3 h5 h6 => ⟨_,_,rfl,rfl,(show (0:Int) < 2 by decide),?_⟩⟩
   obtain ⟨k,ek,c,hc,hk⟩:∃ k:Nat,m3 % 2 = (k:Int) /\ ∃ c:Str,(c = "key" ∨ c = "a") /\ [V.str ("key" : Str),V.str ("a" : Str)][k]? = some (.str c):=by
    rcases (show m3 % 2 = 0 ∨ m3 % 2 = 1 by omega) with h | h
    ·exact ⟨0,h, "key", .inl rfl,rfl⟩
    ·exact ⟨1,h, "a", .inr rfl,rfl⟩
   refine ⟨cl0,_,_,.str c,rfl,rfl,SqL.of c1,by rw [ek]; exact a4L hk,?_⟩
   refine ⟨_,rfl,_,rfl,_,_,rfl,rfl,.inl ⟨by decide,by decide⟩,_,_,rfl,rfl,a,ns,_,rfl,s1.seq hSi,hl,by omega,by omega,fun m4 h7 h8 => ⟨m4,rfl,fun H3 v d s3 hv => ?_⟩⟩
   have N3:=N.same (s1.trans s3)
   have ca3:=(s1.trans s3) _ _ hca
   refine ⟨_,rfl,.inl ⟨rfl,_,SqL.of ca3⟩,W.ca,_,rfl,rfl,ca3,?_⟩
   have u4:But W.ca H3 (upd H3 W.ca (.lst [])):=But.upd
   have ca4:upd H3 W.ca (.lst []) W.ca = some (.lst []):=a0c
   generalize upd H3 W.ca (.lst []) = H4 at u4 ca4 ⊢
   have N4:=N3.calls O Z ca3 u4
   have hv4:Pv K H4 v d:=hv.keep fun b xs e => u4 _ _ (fun y => by rw [y,ca3] at e; cases e) e
   obtain ⟨l,hx,ys,zs,q1,q2,q3,q4,q5,q6,q7,q8,q9,q10,q11,q12,q13,q14,fin⟩:=c95 (p:=p) O Z N4 ca4 hc hv4
   obtain ⟨kb,hSh⟩:=ShAt.now N4
   obtain ⟨⟨dS,sS⟩,bb,nt,kbv,hB⟩:=hSh
   have lx:W.B.xs.length = W.m:=by rw [O.xs,a4q]
   obtain ⟨⟨a1,a2,_⟩,_⟩:=O.ne
   refine ⟨_,rfl,W.s,dS,_,rfl,sS,a3b,_,rfl,_,rfl,_,rfl,W.s,W.bd,W.ch,l,csh,kb, "t", c,p,v,d,ys,W.B,by {rw [<- hp']; rfl},⟨⟨dS,fi,sS⟩,N4.ch,bb⟩,by omega,nt,kbv,hB,⟨a1,a2,O.sb.1,O.sb.2.1,O.sb.2.2⟩,q14,q13,q4,q1,q2,by omega,by omega,hv4,q8,q9,q10,fun H5 fi' fd' lk' cc Fr B5 l5 u5 => ?_⟩
   have hx5:H5 hx = some (.lst zs):=u5 _ _ (fun y => by rw [y,sS] at q6; cases q6) q11 q12 q6
   have hd5:H5 W.hd = some (.dK (d2u W)):=u5 _ _ (fun y => by have e:=N4.hd; rw [y,sS] at e; cases e) (fun y => by have e:=N4.hd; rw [y,N4.ch] at e; cases e) (fun y => by have e:=N4.hd; rw [y,q2] at e; cases e) N4.hd
   refine ⟨_,rfl,_,rfl,_,rfl,W.hd,_,rfl,q5 ▸ DGet.k (k:=Sum.inr c) hd5,_,rfl,hx,zs,m1 % (W.m:Int),p,rfl,rfl,hx5,by rw [hp',c43 (by omega) (by omega),Int.toNat_natCast],?_⟩
   have u6:But hx H5 (upd H5 hx (.lst (zs.set p v))):=But.upd
   have hx6:upd H5 hx (.lst (zs.set p v)) hx = some (.lst (zs.set p v)):=a0c
   generalize upd H5 hx (.lst (zs.set p v)) = H6 at u6 hx6 ⊢
   obtain ⟨yk',ya',dk',da',N6,ca6⟩:=fin H5 H6 fi' fd' lk' _ _ Fr kbv B5 l5 u5 u6 hx6
   refine ⟨_,rfl,sl,fun el hel => ?_⟩
   have s7:=Same.new (o:=.lst []) hel
   refine ⟨_,_,.lst (SqL.of (s7 _ _ ca6)) .nil,.lst (SqL.of a0c) .nil,rfl,rfl,by decide,_,rfl,?_⟩
   refine iteF ⟨_,_,_,_,rfl,fi',fd',lk',yk',ya',dk',da',[],[],mk,csh ++ [.ref cc],ls,[],wo,N6.same s7,s7 _ _ ca6,?_⟩
   rw [List.length_append]
   show csh.length + 1 <= 10 + (i + 1)
   omega
  ·refine ⟨_,rfl,_,rfl,_,rfl,_,rfl,_,rfl,_,rfl,_,rfl,fun fl Ln => ?_⟩
   have sL:Same Hi (lend fl Hi):=fun b o e => by
    cases e2:fl b with
    | none => rw [a0Q e2]; exact e
    | some ob => rw [Ln.free b ob e2] at e; cases e
   refine ⟨Hz,W,p,fi,fd,lk,yk,ya,dk,da,kf,kl,mk,csh,ls,cl,wo,by {rw [<- hp']},O,Z,N.same sL,fnH _ _ _ Ln rfl rfl N.old,sL _ _ hca,hp,fun H' kf' kl' mk' ls' cl' wo' N' ca' kz => ?_⟩
   obtain ⟨NU,kn⟩:=Now.unl Ln N.old kz N'
   refine ⟨_,rfl,iteF ⟨_,_,_,_,rfl,fi,fd,lk,yk,ya,dk,da,kf',kl',mk',csh,ls',cl',wo',NU,kn _ _ (fun _ y => by cases y) ca',by omega⟩⟩
 ·rintro σ Hi ⟨o5,o10,o11,o12,rfl,L⟩
  obtain ⟨fi,fd,lk,yk,ya,dk,da,kf,kl,mk,csh,ls,cl,wo,N,hca,lc⟩:=L
  refine q Hi fun z hz => ?_
  simp only [List.mem_cons,List.not_mem_nil,or_false] at hz
  rcases hz with rfl | rfl
  ·obtain ⟨S,e⟩:=hz1
   exact ⟨S,N.old _ _ e⟩
  ·obtain ⟨S,e,_⟩:=N.tb
   exact ⟨S,e⟩
end
end My
set_option maxHeartbeats 1000000
namespace My
open PySem L2
def zOf (H:Hp) (L:List Addr):Hp:=fun x => if x ∈ L then none else match H x with
 | some (.dT _) => none
 | o => o
theorem c6t {H:Hp} {L:List Addr} {x:Addr} {o:HO} (h:zOf H L x = some o):x ∉ L /\ (∀ y,o ≠ .dT y) /\ H x = some o:=by
 unfold zOf at h
 split at h
 ·cases h
 ·next n =>
  split at h
  ·cases h
  ·next e =>
   refine ⟨n,fun y z => ?_,h⟩
   subst z
   exact e y h
theorem c91 {H:Hp} {L:List Addr} {x:Addr} {o:HO} (h:H x = some o) (n:x ∉ L) (nd:∀ y,o ≠ .dT y):zOf H L x = some o:=by
 unfold zOf
 rw [if_neg n,h]
 split
 ·next e => exact absurd (Option.some.inj e) (nd _)
 ·rfl
section
variable {P:Program} {w:World} {K:PySem.W.Frag} {mg:Str -> Option Value} {base:Heap}
def spBN (K:PySem.W.Frag) (ca:Addr) (way:Nat):List V -> Hp -> VK -> Prop:=fun vs H Q => ∃ (l:Addr) (is:List Int) (cs:List V),vs = [.ref l] /\ H l = some (.lst (is.map V.int)) /\ H ca = some (.lst cs) /\ cs.length < 900 /\ 0 < is.length /\ is.length <= 100 /\ ca ≠ l /\
 ∀ H' v lc,But ca H H' -> H lc = none -> H' ca = some (.lst (cs ++ [.ref lc])) -> H' lc = some (.lst (is.map V.int)) -> Dt K H' v (gW way is) -> Q v H'
theorem d0j {q:Str} {params:Arguments} {body:Expr} {scope:Scope} {clos:List (Str × Addr)} {fa ca:Addr} {way k:Nat} {fl:Lend} {HB:Hp} (hk:k <= 4) (free:∀ b o,fl b = some o -> HB b = none) (la:a9z q params body scope clos HB fa) (F:a6X P w K mg base k fa (c41 fa fl q params body scope clos 1 (spBN K ca way))):FnN P w K mg base 4 (lend fl HB) fa ca (gW way):=by
 refine ⟨fun H => a9z q params body scope clos H fa /\ ∀ b o,fl b = some o -> H b = some (Fz o),(F.mono hk).imp fun vs H Q E h => ?_,⟨?_,fun b o e => a7D e⟩,fun H H' kz h => ⟨b0u kz h.1,fun b o e => kz _ _ (h.2 b o e)⟩⟩
 ·obtain ⟨l,is,cs,rfl,⟨h1,h2⟩,hl,hca,c9,i0,i1,ncl,qq⟩:=h
  have nf:∀ {b:Addr} {o:HO},H b = some o -> (∀ u,o ≠ Fz u) -> fl b = none:=fun {b o} e n => by
   cases e2:fl b with
   | none => rfl
   | some ob => rw [h2 b ob e2] at e; exact absurd (Option.some.inj e).symm (n ob)
  have fc:=nf hca (fun _ y => by cases y)
  have fl':=nf hl (fun _ y => by cases y)
  refine ⟨rfl,h1,h2,l,is,cs,rfl,by rw [a04 fl']; exact hl,by rw [a04 fc]; exact hca,c9,i0,i1,ncl,fun H' v lc b hlc hc' hl' hd fr => ?_⟩
  have flc:fl lc = none:=by
   cases e2:fl lc with
   | none => rfl
   | some ob => rw [fr lc ob e2] at hl'; cases hl'
  have sL:Same H' (lend fl H'):=fun x o e => by
   cases e2:fl x with
   | none => rw [a0Q e2]; exact e
   | some ob => rw [fr x ob e2] at e; cases e
  refine qq (lend fl H') v lc (fun x o n e => ?_) (by rw [a04 flc] at hlc; exact hlc) (sL _ _ hc') (sL _ _ hl') (hd.same sL)
  cases e2:fl x with
  | none => rw [a0Q e2]; exact b _ _ n (by rw [a04 e2]; exact e)
  | some ob => rw [h2 x ob e2] at e; rw [a7D e2]; exact e
 ·refine b0u (fun b u e => ?_) la
  cases e2:fl b with
  | none => rw [a0Q e2]; exact e
  | some ob => rw [free b ob e2] at e; cases e
def SqM (K:PySem.W.Frag) (H:Hp) (a:Addr) (xs:List V) (L:List Addr):Prop:=(∃ o,(o = .lst xs ∨ ∃ q,o = .frz q (.lst xs)) /\ H a = some o /\ a ∉ L) ∨ ∀ H',SqL K H' a xs
theorem SqM.sq {H:Hp} {a:Addr} {xs:List V} {L:List Addr} (h:SqM K H a xs L):SqL K H a xs:=by
 rcases h with ⟨o,rfl | ⟨q,rfl⟩,e,_⟩ | h
 ·exact .inl (.inl e)
 ·exact .inl (.inr ⟨q,e⟩)
 ·exact h H
structure PreD (K:PySem.W.Frag) (CS CF CB CT:Addr) (z1 z2:Addr × Addr) (a:Addr) (ns:List Int) (m:Nat) (s ch bd hd hk ha lK lA:Addr) (B:BM) (yk ya:List V) (dk da:List PyData) (csh:List V) (H:Hp):Prop where
 sh:b1L CS s bd ch csh [((.inr "t" : Key),V.ref B.b)] H
 cl:csh.length <= 5
 bt:BAt CB CT H B
 sep:B.sep
 ss:c7k bd ch B
 xs:B.xs = a3F 0 m
 ru:B.rus = []
 me:B.mes = []
 od:B.ord = [("key" : Str),("a" : Str)]
 k1:valV B.kvs (.inr "key" : Key) = some (.ref lK)
 k2:valV B.kvs (.inr "a" : Key) = some (.ref lA)
 hK:H lK = some (.lst yk)
 hA:H lA = some (.lst ya)
 pk:Pvs K H yk dk
 pa:Pvs K H ya da
 l1:yk.length = m
 l2:ya.length = m
 vd:H hd = some (.dK [((.inr "key" : Key),V.ref hk),((.inr "a" : Key),V.ref ha)])
 vk:H hk = some (.lst yk)
 va:H ha = some (.lst ya)
 nd:[ch,B.r,B.od,lK,lA,hk,ha].Nodup
 t1:H z1.2 = some (TabC z1.2 [])
 t2:H z2.2 = some (TabC z2.2 [])
 sc:SqM K H a (ns.map V.int) [s,ch,B.r,B.od,lK,lA,hk,ha]
 hn:hd ≠ B.ru /\ hd ≠ B.me
theorem c9q (i:Int):∃ k:Nat,i % 3 = (k:Int) /\ ∃ c:Str,(c = "key" ∨ c = "a") /\ [V.str ("a" : Str),V.str ("a" : Str),V.str ("key" : Str)][k]? = some (.str c):=by
 rcases (show i % 3 = 0 ∨ i % 3 = 1 ∨ i % 3 = 2 by omega) with h | h | h
 ·exact ⟨0,h, "a", .inr rfl,rfl⟩
 ·exact ⟨1,h, "a", .inr rfl,rfl⟩
 ·exact ⟨2,h, "key", .inl rfl,rfl⟩
theorem c99 (T:Tops K mg) {CS CF CB CT CG CR CV CU CE:Addr} (Y:a29 K mg CS) (R:b1n K mg CR) (F:a03 K mg CF) (Wb:a0R K mg CB) (U:a1g K mg CT) (Gr:a69 K mg CG) (Ru:c8G K mg CE) (VP:a6O K mg CV) (CC:a25 K mg CU) {z1 z2:Addr × Addr} (M1:b2L mg base z1.1 z1.2) (B2:MthT K mg "Finder" "gathered" "Finder.gathered" a0m z2) (M2:b2L mg base z2.1 z2.2) (n12:z1.2 ≠ z2.2) {f:Addr} (A:Around) (outer:List Env) (s:Shared) (H:Hp) (Q:VK) (E:XK) (hr:Room 15 (A.deeper (PyProof.Rows.envOfC "law" (a0b a99) s.heap.objs.size f (.ref z1.1)))) (q:∀ H',b1F [z1,z2] H' -> Q (.bl true) H') :
 ∃ t,PSs (c6N P w K mg base f z1.1 A outer s H E) ((a0i a99).drop 6) t /\
  ∀ (H6:Hp) (a:Addr) (ns:List Int) (m:Nat) (s' ch bd hd hk ha lK lA:Addr) (B:BM) (yk ya:List V) (dk da:List PyData) (csh:List V) (o4 o5:Option V),PreD K CS CF CB CT z1 z2 a ns m s' ch bd hd hk ha lK lA B yk ya dk da csh H6 -> ns.length <= 63 -> 0 < m -> m <= 7 ->
   t { nx:=fun _ H' => Q .non H',rt:=Q } [some (.ref a),some (.int (m:Int)),some (.ref s'),some (.ref hd),o4,o5,none,none,none,none,none,none,none] H6:=by
 have hu:=a2I hr
 have hcl:∀ x,(c6N P w K mg base f z1.1 A outer s H E).env.scope.names.lookup x = some .cell -> ∃ c,(c6N P w K mg base f z1.1 A outer s H E).env.cells.lookup x = some c:=fun x hx => Option.isSome_iff_exists.mp (PySem.W.cellsFrom_some _ _ _ (.inl hx))
 have G_mixed:a0C P w K mg base CX0 1 "_law_mixed" ["_law_script", "_law_k"] (c7D K):=a2f T
 have G_noted:a0C P w K mg base CX0 2 "_law_noted" ["_law_calls", "_law_way", "_law_some"] (d1L K):=a6J T
 have G_rule:a0k P w K mg base CX0 9 CS "rule" ["self", "table", "column", "rule"] (c8R K CS CF CB CT CG):=a4N T Y F Wb U CC Gr
 have GI:a19 P w K mg base CX0 3 CG ["self", "key", "name", "function"] (c6g CG):=a4G T Ru Gr
 obtain ⟨tE,hE,qE⟩:=d0P (P:=P) (w:=w) T Y R F Wb U Gr VP B2 M2 (f:=f) A outer s H Q E hr q
 refine ⟨_,(a0d (a0B (i:=6) a7o.nd rfl (by first | exact Or.inl rfl | exact Or.inr rfl) (a1P a1T (a2K (a0a a1o (a0a a1o (a0a a1o a0f)))) (a1p a5B (a0o G_mixed (hr.mono (by decide)) a0r (a0a (pv 0) (a0a a0p a0f))) a0p) (fun _ _ => rfl)))
  (a0d (a0B (i:=7) a7o.nd rfl (by first | exact Or.inl rfl | exact Or.inr rfl) (a1p a5B (a0o G_mixed (hr.mono (by decide)) a0r (a0a (pv 0) (a0a a0p a0f))) a0p))
  (a0d (a0B (i:=8) a7o.nd rfl (by first | exact Or.inl rfl | exact Or.inr rfl) (a2K a0f))
  (a0d (a0t (a0s (pv 2) Y.cl G_rule (hr.mono (by decide)) a0r (a0a a1o (a0a a1o (a0a (a4v GI (hr.mono (by decide)) Gr.c a0r (a0a a1o (a0a (pv 6) (a0a (c4Y M1 rfl (c5d (sc:=a0b a99) (N:=Nlaw) (cp:=[(8, "_law_calls"),(7, "_law_way")]) hcl).clos rfl) a0f)))) a0f)))))
  (a0d (c7o (i:=9) a7o.nd rfl rfl d0K rfl rfl (by decide) (b0B rfl T.range (a0a (pv 1) a0f)) (fun _ _ _ _ _ => c5e) (fun _ _ _ _ _ => a6q) rfl)
  hE))))),?_⟩
 intro H6 a ns m s' ch bd hd hk ha lK lA B yk ya dk da csh o4 o5 D hns m0 m7
 refine ⟨sl,fun nl hnl => ?_⟩
 have s7:=Same.new (o:=.lst [.str ("a" : Str),.str ("a" : Str),.str ("key" : Str)]) hnl
 have c7:upd H6 nl (.lst [.str ("a" : Str),.str ("a" : Str),.str ("key" : Str)]) nl = some (.lst [.str ("a" : Str),.str ("a" : Str),.str ("key" : Str)]):=a0c
 generalize upd H6 nl (.lst [.str ("a" : Str),.str ("a" : Str),.str ("key" : Str)]) = H7 at s7 c7 ⊢
 refine ⟨_,rfl,a,ns,_,rfl,s7.seq D.sc.sq,hns,by decide,by decide,fun m1 h1 h2 => ⟨_,_,rfl,rfl,(show (0:Int) < 3 by decide),?_⟩⟩
 obtain ⟨k,ek,n,hn,hk3⟩:=c9q m1
 refine ⟨nl,_,_,.str n,rfl,rfl,SqL.of c7,by rw [ek]; exact a4L hk3,?_⟩
 refine ⟨_,rfl,a,ns,_,rfl,s7.seq D.sc.sq,hns,by decide,by decide,fun m2 h3 h4 => ⟨_,_,rfl,rfl,(show (0:Int) < 4 by decide),?_⟩⟩
 obtain ⟨way,ew⟩:∃ way:Nat,(way:Int) = m2 % 4:=⟨(m2 % 4).toNat,by omega⟩
 refine ⟨sl,fun ca hca => ?_⟩
 have s8':=Same.new (o:=.lst []) hca
 have c8:upd H7 ca (.lst []) ca = some (.lst []):=a0c
 have hca6:H6 ca = none:=a0M s7 hca
 generalize upd H7 ca (.lst []) = H8 at s8' c8 ⊢
 have s8:=s7.trans s8'
 have t1:=s8 _ _ D.t1
 refine ⟨_,rfl,?_⟩
 obtain ⟨⟨dS,fi0,sS⟩,chS,bdS⟩:=D.sh
 refine ⟨s',dS,_,rfl,s8 _ _ sS,a3b,?_⟩
 refine ⟨_,rfl,⟨[],t1,fun c hc => by cases hc⟩,fun fa HA hfa sA tA lA' => ?_⟩
 have kA:∀ {x:Addr} {o:HO},H8 x = some o -> (∀ φ,o ≠ .ext φ) -> HA x = some o:=fun e n => sA _ _ (fun y => by rw [y,t1] at e; exact n _ (Option.some.inj e).symm) e
 intro gr dg hgr hdg ne
 refine ⟨gr,dg,fa, "key", n,rfl,a0c,a12.2.2.2.2.1,?_,fun HB bB grB => ⟨rfl,?_⟩⟩
 ·rcases hn with rfl | rfl
  ·exact a12.2.2.2.2.1
  ·exact a12.2.2.2.2.2.1
 have sB:Same HA HB:=fun x o e => bB _ _ (a0h e hgr) (by rw [a0g (a0h e hgr),a0g (a0h e hdg)]; exact e)
 have kB:∀ {x:Addr} {o:HO},H6 x = some o -> (∀ φ,o ≠ .ext φ) -> HB x = some o:=fun e n => sB _ _ (kA (s8 _ _ e) n)
 have ktB:a1u H6 HB:=fun x xs e => kB e (fun _ y => by cases y)
 have BB:BAt CB CT HB B:=by
  obtain ⟨⟨q1,t1⟩,⟨⟨q2,t2⟩,t3,t4⟩,t5,t6,t7⟩:=D.bt
  exact ⟨⟨q1,kB t1 (fun _ y => by cases y)⟩,⟨⟨q2,kB t2 (fun _ y => by cases y)⟩,kB t3 (fun _ y => by cases y),kB t4 (fun _ y => by cases y)⟩,kB t5 (fun _ y => by cases y),kB t6 (fun _ y => by cases y),kB t7 (fun _ y => by cases y)⟩
 have od2:("key" : Str) ∈ B.ord /\ ("a" : Str) ∈ B.ord /\ ¬ ("group" : Str) ∈ B.ord:=by rw [D.od]; decide +kernel
 refine ⟨s',bd,ch,gr,dg,fa,csh, "t", "group", "key", n,B,rfl,⟨⟨dS,fi0,kB sS (fun _ y => by cases y)⟩,kB chS (fun _ y => by cases y),kB bdS (fun _ y => by cases y)⟩,by have:=D.cl; omega,a12.2.2.2.1,BB,D.sep,D.ss,⟨by rw [D.ru]; rfl,od2.2.2⟩,a12.2.2.2.2.2.2,grB,a12.2.2.2.2.1,?_,od2.1,?_,D.ru,D.me,by rw [D.od]; decide,fun H9 fi fd lk c mc Fr hmc B9 mc9 u9 => ?_⟩
 ·rcases hn with rfl | rfl
  ·exact a12.2.2.2.2.1
  ·exact a12.2.2.2.2.2.1
 ·rcases hn with rfl | rfl
  ·exact od2.1
  ·exact od2.2.1
 refine ⟨_,rfl,(m:Int),rfl,by omega,by omega,fun la hla => ?_⟩
 rw [Int.toNat_natCast]
 refine c6Y (lo:=0) (n:=m) (fun i ys H10 => ys = List.replicate i .non /\ Same H9 H10) ⟨rfl,Same.new hla⟩ ?_ ?_
 ·rintro i ys H10 hi h10 ⟨rfl,s10⟩
  refine ⟨h10,?_,?_,s10.on hla⟩
  ·rw [List.length_replicate]
   exact a0w (by omega)
  ·rw [List.replicate_succ']
 rintro ys H10 h10 ⟨rfl,s10⟩
 have sS':=kB sS (fun _ y => by cases y)
 have chB:=kB chS (fun _ y => by cases y)
 have ruB:=BB.rul
 have meB:=BB.mem
 have odB:=BB.ord
 obtain ⟨⟨dS9,sh9⟩,ch9,bd9,⟨df9,fi9⟩,fd9,lk9,fl9,_,_,_⟩:=Fr
 have k10:∀ {x:Addr} {o:HO},HB x = some o -> (∀ a b c,o ≠ .ins a b c) -> (∀ y,o ≠ .lst y) -> (∀ y,o ≠ .dK y) -> H10 x = some o:=fun {x o} e n1 n2 n3 => s10 _ _ (u9 _ _ (fun y => by rw [y,sS'] at e; exact n1 _ _ _ (Option.some.inj e).symm) (fun y => by rw [y,chB] at e; exact n2 _ (Option.some.inj e).symm) (fun y => by rw [y,odB] at e; exact n2 _ (Option.some.inj e).symm) (fun y => by rw [y,ruB] at e; exact n3 _ (Option.some.inj e).symm) (fun y => by rw [y,meB] at e; exact n3 _ (Option.some.inj e).symm) e)
 have l9:∀ {x:Addr} {ys:List V},HB x = some (.lst ys) -> x ≠ ch -> x ≠ B.od -> H9 x = some (.lst ys):=fun e n1 n2 => u9 _ _ (fun y => by rw [y,sS'] at e; cases e) n1 n2 (fun y => by rw [y,ruB] at e; cases e) (fun y => by rw [y,meB] at e; cases e) e
 have nd:=D.nd
 simp only [List.nodup_cons,List.mem_cons,List.not_mem_nil,or_false,not_or] at nd
 obtain ⟨⟨a1,a2,a3,a4,a5,a6⟩,⟨b1,b2,b3,b4,b5⟩,⟨c1,c2,c3,c4⟩,⟨d1,d2,d3⟩,⟨e1,e2⟩,f1,_⟩:=nd
 have hdB:=kB D.vd (fun _ y => by cases y)
 have hd9:H9 hd = some (.dK [((.inr "key" : Key),V.ref hk),((.inr "a" : Key),V.ref ha)]):=u9 _ _ (fun y => by rw [y,sS'] at hdB; cases hdB) (fun y => by rw [y,chB] at hdB; cases hdB) (fun y => by rw [y,odB] at hdB; cases hdB) D.hn.1 D.hn.2 hdB
 have caB:HB ca = some (.lst []):=sB _ _ (kA c8 (fun _ y => by cases y))
 have nca:∀ {x:Addr} {o:HO},H6 x = some o -> x ≠ ca:=fun e y => by rw [y,hca6] at e; cases e
 have cac:ca ≠ ch:=fun y => nca chS y.symm
 have cao:ca ≠ B.od:=fun y => nca D.bt.ord y.symm
 have ca9:=l9 caB cac cao
 have hK9:=l9 (kB D.hK (fun _ y => by cases y)) (fun y => a3 y.symm) (fun y => c1 y.symm)
 have hA9:=l9 (kB D.hA (fun _ y => by cases y)) (fun y => a4 y.symm) (fun y => c2 y.symm)
 have hk9:=l9 (kB D.vk (fun _ y => by cases y)) (fun y => a5 y.symm) (fun y => c3 y.symm)
 have ha9:=l9 (kB D.va (fun _ y => by cases y)) (fun y => a6 y.symm) (fun y => c4 y.symm)
 have r9:H9 B.r = some (.lst B.xs):=B9.tab.rows
 have o9:H9 B.od = some (.lst ((B.ord ++ [("group" : Str)]).map V.str)):=B9.ord
 have nla:∀ {x:Addr} {o:HO},H9 x = some o -> x ≠ la:=fun e y => by rw [y,hla] at e; cases e
 have nmc:∀ {x:Addr} {o:HO},HB x = some o -> x ≠ mc:=fun e y => by rw [y,hmc] at e; cases e
 have nmc6:∀ {x:Addr} {o:HO},H6 x = some o -> (∀ φ,o ≠ .ext φ) -> x ≠ mc:=fun e n => nmc (kB e n)
 let W:Wk:=⟨s',ch,bd,gr,fa,ca,mc,hd,hk,ha,la,lK,lA,{ B with rus:=putK B.rus (.inr "group" : Key) (.ref gr),mes:=putK B.mes (.inr "group" : Key) (.ref mc),ord:=B.ord ++ [("group" : Str)] },n,way,m⟩
 have O:WOk W:=by
  refine ⟨?_,⟨fun y => nmc (kB bdS (fun _ y => by cases y)) y.symm,fun y => nmc BB.tab.kept y.symm,fun y => nmc ruB y.symm,fun y => nmc meB y.symm,fun y => nmc hdB y.symm⟩,⟨D.ss.e,D.ss.u,D.ss.m⟩,D.k1,D.k2,?_,?_,?_,?_,D.xs,m0,m7,?_,hn⟩
  ·show [ch,B.r,B.od,lK,lA,ca,hk,ha,la,mc].Nodup
   simp only [List.nodup_cons,List.mem_cons,List.not_mem_nil,or_false,not_or]
   exact ⟨⟨a1,a2,a3,a4,cac.symm,a5,a6,nla ch9,nmc chB⟩,⟨b1,b2,b3,nca D.bt.tab.rows,b4,b5,nla r9,nmc BB.tab.rows⟩,⟨c1,c2,cao.symm,c3,c4,nla o9,nmc odB⟩,⟨d1,nca D.hK,d2,d3,nla hK9,nmc6 D.hK (fun _ y => by cases y)⟩,⟨nca D.hA,e1,e2,nla hA9,nmc6 D.hA (fun _ y => by cases y)⟩,⟨fun y => nca D.vk y.symm,fun y => nca D.va y.symm,nla ca9,nmc caB⟩,⟨f1,nla hk9,nmc6 D.vk (fun _ y => by cases y)⟩,⟨nla ha9,nmc6 D.va (fun _ y => by cases y)⟩,(nla mc9).symm,not_false,List.nodup_nil⟩
  ·show valV (putK B.rus (.inr "group" : Key) (.ref gr)) (.inr "group" : Key) = _
   rw [a08,if_pos rfl]
  ·show valV (putK B.rus (.inr "group" : Key) (.ref gr)) (.inr "key" : Key) = none
   rw [a08,if_neg (by decide +kernel),D.ru]
   rfl
  ·show valV (putK B.rus (.inr "group" : Key) (.ref gr)) (.inr "a" : Key) = none
   rw [a08,if_neg (by decide +kernel),D.ru]
   rfl
  ·show valV (putK B.mes (.inr "group" : Key) (.ref mc)) (.inr "group" : Key) = _
   rw [a08,if_pos rfl]
  ·show B.ord ++ [("group" : Str)] = _
   rw [D.od]
   rfl
 have t2A:HA z2.2 = some (TabC z2.2 []):=sA _ _ n12.symm (s8 _ _ D.t2)
 have t2':H10 z2.2 = some (TabC z2.2 []):=k10 (sB _ _ t2A) (fun _ _ _ y => by cases y) (fun _ y => by cases y) (fun _ y => by cases y)
 have ngs:gr ≠ s':=fun y => by have e:=kA (s8 _ _ sS) (fun _ y => by cases y); rw [<- y,hgr] at e; cases e
 have gr10:H10 gr = some (.ins CG dg (gfl "key" n fa)):=s10 _ _ (u9 _ _ ngs (fun y => by rw [y,chB] at grB; cases grB) (fun y => by rw [y,odB] at grB; cases grB) (fun y => by rw [y,ruB] at grB; cases grB) (fun y => by rw [y,meB] at grB; cases grB) grB)
 have kt10:a1u H6 H10:=fun x xs e => k10 (ktB _ _ e) (fun _ _ _ y => by cases y) (fun _ y => by cases y) (fun _ y => by cases y)
 have ca10:=s10 _ _ ca9
 let Hz:Hp:=zOf H10 (s' :: z2.2 :: W.fix)
 have zs:Same Hz H10:=fun x o e => (c6t e).2.2
 have Z:ZOk Hz W z2.2:=fun x o e => by
  obtain ⟨h1,h2,_⟩:=c6t e
  simp only [List.mem_cons,not_or] at h1
  exact ⟨h1.2.2,h1.2.1,h1.1,h2⟩
 have N:Now K CS CF CB CT CG z2.2 Hz W fi fd lk yk ya dk da [] [] [] (csh ++ [.ref c]) (List.replicate m .non) (fun _ => none) (fun _ => none) H10:=by
  refine ⟨zs,⟨⟨⟨df9,s10 _ _ fi9⟩,⟨_,s10 _ _ bd9,rfl⟩,B9.same s10,s10 _ _ fd9,by decide⟩,a51.nil,fun c p v ys _ e => by {cases e},s10 _ _ lk9,a51.nil,fun c ys g => ?_,⟨dg,gr10⟩,D.pk.keep kt10,?_,s10 _ _ mc9,b4M.nil⟩,fl9,D.l1,D.l2,D.pa.keep kt10,⟨dS9,s10 _ _ sh9⟩,s10 _ _ ch9,s10 _ _ hd9,⟨_,s10 _ _ hk9,D.pk.keep kt10⟩,⟨_,s10 _ _ ha9,D.pa.keep kt10⟩,h10,List.length_replicate,fun p hp => ?_,fun p hp => ⟨rfl,fun is v e => by {cases e}⟩,fun p v _ e => by {cases e},⟨[],t2',fun c hc => by {cases hc}⟩⟩
  ·rcases b0V g with ⟨rfl,rfl⟩ | ⟨rfl,rfl⟩
   ·exact ⟨lK,D.k1,s10 _ _ hK9⟩
   ·exact ⟨lA,D.k2,s10 _ _ hA9⟩
  ·show Pvs K H10 (W.pick yk ya) (W.pick dk da)
   unfold Wk.pick
   split
   ·exact D.pk.keep kt10
   ·exact D.pa.keep kt10
  ·show (List.replicate m V.non)[p]? = some .non
   exact List.getElem?_replicate_of_lt hp
 have nfx:∀ {x:Addr} {o:HO},H10 x = some o -> (∀ y,o ≠ .lst y) -> (∀ y,o ≠ .dK y) -> (∀ a b c,o ≠ .ins a b c) -> x ≠ z2.2 -> (∀ y,o ≠ .dT y) -> Hz x = some o:=fun {x o} e n1 n2 n3 n4 n5 => c91 e (fun hm => by
  rcases List.mem_cons.mp hm with y | hm
  ·rw [y,s10 _ _ sh9] at e
   exact n3 _ _ _ (Option.some.inj e).symm
  ·rcases List.mem_cons.mp hm with y | hm
   ·exact n4 y
   ·rcases N.fixed O ca10 hm with ⟨ys,h⟩ | ⟨ks,h⟩ <;> rw [h] at e
    ·exact n1 _ (Option.some.inj e).symm
    ·exact n2 _ (Option.some.inj e).symm) n5
 have kzz:a3a HA Hz:=fun b u e => nfx (k10 (sB _ _ e) (fun _ _ _ y => by cases y) (fun _ y => by cases y) (fun _ y => by cases y)) (fun _ y => by cases y) (fun _ y => by cases y) (fun _ _ _ y => by cases y) (fun y => by rw [y,t2A] at e; cases e) (fun _ y => by cases y)
 have hsz:SqL K Hz a (ns.map V.int):=by
  have na:∀ {o:HO},H6 a = some o -> a ∉ [s',ch,B.r,B.od,lK,lA,hk,ha] -> (∀ φ,o ≠ .ext φ) -> (∀ a b c,o ≠ .ins a b c) -> (∀ y,o ≠ .dK y) -> (∀ y,o ≠ .dT y) -> Hz a = some o:=fun {o} e sa n1 n2 n3 n4 => by
   simp only [List.mem_cons,List.not_mem_nil,or_false,not_or] at sa
   obtain ⟨x1,x2,x3,x4,x5,x6,x7,x8⟩:=sa
   have eB:=kB e n1
   have e9:H9 a = some o:=u9 _ _ x1 x2 x4 (fun y => by rw [y,ruB] at eB; exact n3 _ (Option.some.inj eB).symm) (fun y => by rw [y,meB] at eB; exact n3 _ (Option.some.inj eB).symm) eB
   refine c91 (s10 _ _ e9) (fun hm => ?_) n4
   rcases List.mem_cons.mp hm with y | hm
   ·exact x1 y
   ·rcases List.mem_cons.mp hm with y | hm
    ·rw [y,D.t2] at e
     exact n1 _ (Option.some.inj e).symm
    ·have hm:a ∈ [ch,B.r,B.od,lK,lA,ca,hk,ha,la,mc]:=hm
     simp only [List.mem_cons,List.not_mem_nil,or_false] at hm
     rcases hm with y | y | y | y | y | y | y | y | y | y
     ·exact x2 y
     ·exact x3 y
     ·exact x4 y
     ·exact x5 y
     ·exact x6 y
     ·exact nca e y
     ·exact x7 y
     ·exact x8 y
     ·exact nla e9 y
     ·exact nmc eB y
  rcases D.sc with ⟨o,rfl | ⟨q,rfl⟩,e,sa⟩ | h
  ·exact .inl (.inl (na e sa (fun _ y => by cases y) (fun _ _ _ y => by cases y) (fun _ y => by cases y) (fun _ y => by cases y)))
  ·exact .inl (.inr ⟨q,na e sa (fun _ y => by cases y) (fun _ _ _ y => by cases y) (fun _ y => by cases y) (fun _ y => by cases y)⟩)
  ·exact h Hz
 obtain ⟨S1,tS1,_⟩:=id tA
 have hz1:∃ S,Hz z1.2 = some (TabC z1.2 S):=⟨S1,nfx (k10 (sB _ _ tS1) (fun _ _ _ y => by cases y) (fun _ y => by cases y) (fun _ y => by cases y)) (fun _ y => by cases y) (fun _ y => by cases y) (fun _ _ _ y => by cases y) n12 (fun _ y => by cases y)⟩
 have fin:=qE H10 Hz W a ns o4 o5 none none none O Z ⟨fi,fd,lk,yk,ya,dk,da,[],[],[],_,_,[],fun _ => none,N,ca10,by rw [List.length_append]; have:=D.cl; show csh.length + 1 <= 10 + 0; omega⟩ hsz hns hz1 (fun σ HB' fl Ln h8 h7 sz => by
  have la':=b0u (a3a.of sz) (b0u kzz lA')
  refine d0j (k:=3) (by decide) Ln.free la' ?_
  refine c8T (sc:=a0b a99) (N:=Nlaw) (ps:=["_law_some"]) (cp:=[(8, "_law_calls"),(7, "_law_way")]) (cv:=[.ref ca,.int (way:Int)]) (k:=2) (spB:=spBN K ca way) la' Ln.toLent hcl (by simp only [List.map_cons,List.map_nil]; rw [h8,h7]) (fun _ _ _ _ us hl => match us,hl with | [_],_ => rfl) (fun cd A' outer' s'' H' vs Q' hr' h' => ?_)
  obtain ⟨l,is,cs,rfl,hl,hca',c9',i0,i1,ncl,q'⟩:=h'
  exact ⟨_,a0o G_noted hr' a0r (a0a (pv 1) (a0a (pv 2) (a0a (pv 0) a0f))),_,rfl,_,rfl,_,rfl,ca,l,way,is,cs,rfl,hl,hca',c9',i0,i1,ncl,q'⟩)
 have ew':(W.way:Int) = m2 % 4:=ew
 rw [ew'] at fin
 exact fin
end
end My
set_option maxHeartbeats 1000000
namespace My
open PySem L2
theorem Pvs.snoc {K:PySem.W.Frag} {H:Hp} {v:V} {d:PyData} (h:Pv K H v d):∀ {vs:List V} {ds:List PyData},Pvs K H vs ds -> Pvs K H (vs ++ [v]) (ds ++ [d])
 | _,_,.nil => .cons h .nil
 | _,_,.cons h' t => .cons h' (Pvs.snoc h t)
section
variable {P:Program} {w:World} {K:PySem.W.Frag} {mg:Str -> Option Value} {base:Heap}
structure PreC (K:PySem.W.Frag) (CS CB CT:Addr) (z1 z2:Addr × Addr) (a:Addr) (ns:List Int) (m:Nat) (s ch bd hd hk ha:Addr) (B:BM) (csh:List V) (H:Hp):Prop where
 sh:b1L CS s bd ch csh [((.inr "t" : Key),V.ref B.b)] H
 cl:csh.length <= 2
 bt:BAt CB CT H B
 sep:B.sep
 ss:c7k bd ch B
 xs:B.xs = a3F 0 m
 kv:B.kvs = []
 ru:B.rus = []
 me:B.mes = []
 od:B.ord = []
 vd:H hd = some (.dK [((.inr "key" : Key),V.ref hk),((.inr "a" : Key),V.ref ha)])
 vk:H hk = some (.lst [])
 va:H ha = some (.lst [])
 nd:[ch,B.r,B.od,hk,ha].Nodup
 t1:H z1.2 = some (TabC z1.2 [])
 t2:H z2.2 = some (TabC z2.2 [])
 sc:SqM K H a (ns.map V.int) [s,ch,B.r,B.od,hk,ha]
 hn:hd ≠ B.ru /\ hd ≠ B.me /\ hd ≠ B.e
structure Gvn (CS CB CT:Addr) (s ch bd:Addr) (B:BM) (csh:List V) (Hf H:Hp):Prop where
 sh:b1L CS s bd ch csh [((.inr "t" : Key),V.ref B.b)] H
 bt:BAt CB CT H B
 old:∀ x o,x ≠ s -> x ≠ ch -> x ≠ B.od -> x ≠ B.e -> Hf x = some o -> H x = some o
theorem d0H (T:Tops K mg) {CS CF CB CT CU:Addr} (Y:a29 K mg CS) (F:a03 K mg CF) (Wb:a0R K mg CB) (U:a1g K mg CT) (CC:a25 K mg CU):∃ spG,a0k P w K mg base CX0 9 CS "give" ["self", "table", "column", "values"] spG /\
 ∀ (s ch bd:Addr) (B1:BM) (cs1:List V) (Hf H6 H6':Hp) (c:Str) (cp:Addr) (zs:List V) (ds:List PyData) (Qk:VK),Gvn CS CB CT s ch bd B1 cs1 Hf H6 -> B1.sep -> c7k bd ch B1 -> New B1 c -> Nl c -> H6 cp = none -> Same H6 H6' -> H6' cp = some (.lst zs) -> Pvs K H6 zs ds -> zs.length = B1.xs.length -> zs.length <= 30 -> B1.kvs.length < 8 -> B1.ord.length < 8 -> cs1.length < 10 ->
  (∀ H7 l cc,Gvn CS CB CT s ch bd { B1 with kvs:=putK B1.kvs (.inr c:Key) (.ref l),ord:=B1.ord ++ [c] } (cs1 ++ [.ref cc]) Hf H7 -> H6 l = none -> H7 l = some (.lst zs) -> (∀ x o,x ≠ s -> x ≠ ch -> x ≠ B1.od -> x ≠ B1.e -> H6 x = some o -> H7 x = some o) -> Qk .non H7) -> spG [.ref s,.str ("t" : Str),.str c,.ref cp] H6' Qk E0:=by
 refine ⟨_,a4Q T Y F Wb U CC,fun s ch bd B1 cs1 Hf H6 H6' c cp zs ds Qk G sep ss new nc hcp s6 c6 pz lz l30 k8 o8 c10 qk => ?_⟩
 obtain ⟨⟨dx,fi,h1⟩,h2,h3⟩:=G.sh
 refine ⟨s,bd,ch,cp,cs1,_, "t", c,zs,ds,B1,rfl,⟨⟨dx,fi,s6 _ _ h1⟩,s6 _ _ h2,s6 _ _ h3⟩,by omega,a12.2.2.2.1,rfl,G.bt.same s6,sep,ss,new,nc,c6,fun y => by {have:=G.bt.ord; rw [<- y,hcp] at this; cases this},pz.keep (a1u.of s6),lz,l30,k8,o8,fun H7 fi' fd' lk' cc l Fr hl B7 l7 u7 => ?_⟩
 obtain ⟨⟨dx',g1⟩,g2,g3,_⟩:=Fr
 have fr:∀ x o,x ≠ s -> x ≠ ch -> x ≠ B1.od -> x ≠ B1.e -> H6 x = some o -> H7 x = some o:=fun x o n1 n2 n3 n4 e => u7 _ _ n1 n2 n3 n4 (s6 _ _ e)
 exact qk H7 l cc ⟨⟨⟨dx',fi',g1⟩,g2,g3⟩,B7,fun x o n1 n2 n3 n4 e => fr x o n1 n2 n3 n4 (G.old x o n1 n2 n3 n4 e)⟩ (a0M s6 hl) l7 fr
theorem d0n (T:Tops K mg) {CS CF CB CT CG CR CV CU CE:Addr} (Y:a29 K mg CS) (R:b1n K mg CR) (F:a03 K mg CF) (Wb:a0R K mg CB) (U:a1g K mg CT) (Gr:a69 K mg CG) (Ru:c8G K mg CE) (VP:a6O K mg CV) (CC:a25 K mg CU) {z1 z2:Addr × Addr} (M1:b2L mg base z1.1 z1.2) (B2:MthT K mg "Finder" "gathered" "Finder.gathered" a0m z2) (M2:b2L mg base z2.1 z2.2) (n12:z1.2 ≠ z2.2) {f:Addr} (A:Around) (outer:List Env) (s:Shared) (H:Hp) (Q:VK) (E:XK) (hr:Room 15 (A.deeper (PyProof.Rows.envOfC "law" (a0b a99) s.heap.objs.size f (.ref z1.1)))) (q:∀ H',b1F [z1,z2] H' -> Q (.bl true) H') :
 ∃ t,PSs (c6N P w K mg base f z1.1 A outer s H E) ((a0i a99).drop 4) t /\
  ∀ (H4:Hp) (a:Addr) (ns:List Int) (m:Nat) (s' ch bd hd hk ha:Addr) (B:BM) (csh:List V),PreC K CS CB CT z1 z2 a ns m s' ch bd hd hk ha B csh H4 -> ns.length <= 63 -> 0 < m -> m <= 7 ->
   t { nx:=fun _ H' => Q .non H',rt:=Q } [some (.ref a),some (.int (m:Int)),some (.ref s'),some (.ref hd),none,none,none,none,none,none,none,none,none] H4:=by
 have hu:=a2I hr
 have G_mixed:a0C P w K mg base CX0 1 "_law_mixed" ["_law_script", "_law_k"] (c7D K):=a2f T
 have G_value:a0C P w K mg base CX0 1 "_law_value" ["_law_cell"] (spLv K):=a4h T
 obtain ⟨spG,G_give,hgive⟩:=d0H (P:=P) (w:=w) (base:=base) T Y F Wb U CC
 obtain ⟨tE,hE,qE⟩:=c99 (P:=P) (w:=w) T Y R F Wb U Gr Ru VP CC M1 B2 M2 n12 (f:=f) A outer s H Q E hr q
 refine ⟨_,(a0d (b1m PassesOwn.never rfl (b0B rfl T.range (a0a (pv 1) a0f)) (a35 (i:=4) a7o.nd rfl (by first | exact Or.inl rfl | exact Or.inr rfl)) (a0d (a0t (b4K PySem.F.plainAttrs_list PySem.F.slot_list_append PySem.F.type_list_append a1k (a00 hu (pv 3) a1o (fun _ _ => rfl)) (a0a (a0o G_value (hr.mono (by decide)) a0r (a0a (a0o G_mixed (hr.mono (by decide)) a0r (a0a (pv 0) (a0a (a1p b0k a0p (pv 4)) a0f))) a0f)) a0f)))
  (a0e (a0t (b4K PySem.F.plainAttrs_list PySem.F.slot_list_append PySem.F.type_list_append a1k (a00 hu (pv 3) a1o (fun _ _ => rfl)) (a0a (a0o G_value (hr.mono (by decide)) a0r (a0a (a0o G_mixed (hr.mono (by decide)) a0r (a0a (pv 0) (a0a (a1p b0k a0p (pv 4)) a0f))) a0f)) a0f))))))
  (a0d (c5f PassesOwn.never rfl (pv 3) (a35 (i:=5) a7o.nd rfl (by first | exact Or.inl rfl | exact Or.inr rfl)) (a0e (a0t (a0s (pv 2) Y.cl G_give (hr.mono (by decide)) a0r (a0a a1o (a0a (pv 5) (a0a (a71 a7j rfl T.list b1e (a0a (a00 hu (pv 3) (pv 5) (fun _ _ => rfl)) a0f)) a0f)))))))
  hE)),?_⟩
 intro H4 a ns m s' ch bd hd hk ha B csh C hns m0 m7
 have nd:=C.nd
 simp only [List.nodup_cons,List.mem_cons,List.not_mem_nil,or_false,not_or] at nd
 obtain ⟨⟨a1,a2,a3,a4⟩,⟨b1,b2,b3⟩,⟨c1,c2⟩,d1,_⟩:=nd
 have sc_mv:∀ {H':Hp},(∀ o,(o = .lst (ns.map V.int) ∨ ∃ q,o = .frz q (.lst (ns.map V.int))) -> a ≠ hk -> a ≠ ha -> H4 a = some o -> H' a = some o) -> SqL K H' a (ns.map V.int):=fun {H'} u => by
  rcases C.sc with ⟨o,ho,e,sa⟩ | h
  ·simp only [List.mem_cons,List.not_mem_nil,or_false,not_or] at sa
   have e':=u o ho sa.2.2.2.2.1 sa.2.2.2.2.2 e
   rcases ho with rfl | ⟨q,rfl⟩
   ·exact .inl (.inl e')
   ·exact .inl (.inr ⟨q,e'⟩)
  ·exact h H'
 refine ⟨_,rfl,(m:Int),rfl,by omega,by omega,?_⟩
 rw [Int.toNat_natCast]
 refine b3d (lo:=0) (n:=m) (fun i σ Hi => ∃ o4 zk za dk da,σ = [some (.ref a),some (.int (m:Int)),some (.ref s'),some (.ref hd),o4,none,none,none,none,none,none,none,none] /\ (∀ x o,x ≠ hk -> x ≠ ha -> H4 x = some o -> Hi x = some o) /\ Hi hk = some (.lst zk) /\ Hi ha = some (.lst za) /\ Pvs K Hi zk dk /\ Pvs K Hi za da /\ zk.length = i /\ za.length = i) ⟨_,[],[],[],[],rfl,fun x o _ _ e => e,C.vk,C.va,.nil,.nil,rfl,rfl⟩ ?_ ?_
 ·rintro i σ Hi hi ⟨o4,zk,za,dk,da,rfl,u,hk1,ha1,pk,pa,l1,l2⟩
  have vd1:=u _ _ (fun y => by have e:=C.vd; rw [y,C.vk] at e; cases e) (fun y => by have e:=C.vd; rw [y,C.va] at e; cases e) C.vd
  have sc1:SqL K Hi a (ns.map V.int):=sc_mv (fun o _ x5 x6 e => u _ _ x5 x6 e)
  refine ⟨_,rfl,hd,V.ref hk,rfl,DGet.k (k:=Sum.inr "key") vd1,.inl ⟨rfl,_,SqL.of hk1⟩,_,rfl,_,rfl,_,_,rfl,rfl,a,ns,_,rfl,sc1,hns,by omega,by omega,fun m1 h1 h2 => ⟨m1,rfl,fun H2 v d s2 hv => ⟨hk,_,_,rfl,rfl,s2 _ _ hk1,a0w (by omega),?_⟩⟩⟩
  have u3:But hk H2 (upd H2 hk (.lst (zk ++ [v]))):=But.upd
  have hk3:upd H2 hk (.lst (zk ++ [v])) hk = some (.lst (zk ++ [v])):=a0c
  generalize upd H2 hk (.lst (zk ++ [v])) = H3 at u3 hk3 ⊢
  have kt3:a1u H2 H3:=fun x xs e => u3 _ _ (fun y => by rw [y,s2 _ _ hk1] at e; cases e) e
  have k3:∀ x o,x ≠ hk -> x ≠ ha -> H4 x = some o -> H3 x = some o:=fun x o n1 n2 e => u3 _ _ n1 (s2 _ _ (u _ _ n1 n2 e))
  have vd3:=k3 _ _ (fun y => by have e:=C.vd; rw [y,C.vk] at e; cases e) (fun y => by have e:=C.vd; rw [y,C.va] at e; cases e) C.vd
  have sc3:SqL K H3 a (ns.map V.int):=sc_mv (fun o _ x5 x6 e => k3 _ _ x5 x6 e)
  have ha3:=u3 _ _ (fun y => d1 y.symm) (s2 _ _ ha1)
  refine ⟨_,rfl,hd,V.ref ha,rfl,DGet.k (k:=Sum.inr "a") vd3,.inl ⟨rfl,_,SqL.of ha3⟩,_,rfl,_,rfl,_,_,rfl,rfl,a,ns,_,rfl,sc3,hns,by omega,by omega,fun m2 h3 h4 => ⟨m2,rfl,fun H5 v' d' s5 hv' => ⟨ha,_,_,rfl,rfl,s5 _ _ ha3,a0w (by omega),?_⟩⟩⟩
  have u6:But ha H5 (upd H5 ha (.lst (za ++ [v']))):=But.upd
  have ha6:upd H5 ha (.lst (za ++ [v'])) ha = some (.lst (za ++ [v'])):=a0c
  generalize upd H5 ha (.lst (za ++ [v'])) = H6 at u6 ha6 ⊢
  have kt6:a1u H5 H6:=fun x xs e => u6 _ _ (fun y => by rw [y,s5 _ _ ha3] at e; cases e) e
  have kt36:a1u H3 H6:=fun x xs e => kt6 _ _ (s5 _ _ e)
  have kti:a1u Hi H6:=fun x xs e => kt36 _ _ (kt3 _ _ (s2 _ _ e))
  refine ⟨_,zk ++ [v],za ++ [v'],dk ++ [d],da ++ [d'],rfl,fun x o n1 n2 e => u6 _ _ n2 (s5 _ _ (k3 x o n1 n2 e)),u6 _ _ d1 (s5 _ _ hk3),ha6,Pvs.snoc ((hv.keep kt3).keep kt36) (pk.keep kti),Pvs.snoc (hv'.keep kt6) (pa.keep kti),by rw [List.length_append,l1]; rfl,by rw [List.length_append,l2]; rfl⟩
 rintro σ H5 ⟨o4,zk,za,dk,da,rfl,u,hk1,ha1,pk,pa,l1,l2⟩
 have k5:∀ {x:Addr} {o:HO},H4 x = some o -> (∀ y,o ≠ .lst y) -> H5 x = some o:=fun e n => u _ _ (fun y => by rw [y,C.vk] at e; exact n _ (Option.some.inj e).symm) (fun y => by rw [y,C.va] at e; exact n _ (Option.some.inj e).symm) e
 have vd5:=k5 C.vd (fun _ y => by cases y)
 refine ⟨_,rfl,hd,_,rfl,vd5,fun nf ob => ?_⟩
 obtain ⟨Hf,eHf⟩:∃ Hf,Hf = upd H5 hd (.frz ob (.dK [((.inr "key" : Key),V.ref hk),((.inr "a" : Key),V.ref ha)])):=⟨_,rfl⟩
 rw [<- eHf]
 have hf:Hf hd = some (.frz ob (.dK [((.inr "key" : Key),V.ref hk),((.inr "a" : Key),V.ref ha)])):=by rw [eHf,a0c]
 have kf:∀ {x:Addr} {o:HO},x ≠ hd -> H5 x = some o -> Hf x = some o:=fun n e => by rw [eHf,a0g n]; exact e
 have kd:∀ {x:Addr} {o:HO},H5 x = some o -> (∀ y,o ≠ .dK y) -> Hf x = some o:=fun e n => kf (fun y => by rw [y,vd5] at e; exact n _ (Option.some.inj e).symm) e
 obtain ⟨⟨dS,fi0,sS⟩,chS,bdS⟩:=C.sh
 have bdn:bd ≠ hd:=fun y => by
  rw [y,C.vd] at bdS
  cases bdS
 have G0:Gvn CS CB CT s' ch bd B csh Hf Hf:=by
  obtain ⟨⟨q1,t1⟩,⟨⟨q2,t2⟩,t3,t4⟩,t5,t6,t7⟩:=C.bt
  refine ⟨⟨⟨dS,fi0,kd (k5 sS (fun _ y => by cases y)) (fun _ y => by cases y)⟩,kd (u _ _ a3 a4 chS) (fun _ y => by cases y),kf bdn (k5 bdS (fun _ y => by cases y))⟩,⟨⟨q1,kd (k5 t1 (fun _ y => by cases y)) (fun _ y => by cases y)⟩,⟨⟨q2,kd (k5 t2 (fun _ y => by cases y)) (fun _ y => by cases y)⟩,kd (u _ _ b2 b3 t3) (fun _ y => by cases y),kf C.hn.2.2.symm (k5 t4 (fun _ y => by cases y))⟩,kf C.hn.1.symm (k5 t5 (fun _ y => by cases y)),kf C.hn.2.1.symm (k5 t6 (fun _ y => by cases y)),kd (u _ _ c1 c2 t7) (fun _ y => by cases y)⟩,fun x o _ _ _ _ e => e⟩
 have ktf:a1u H5 Hf:=fun x xs e => kd e (fun _ y => by cases y)
 have pkf:=pk.keep ktf
 have paf:=pa.keep ktf
 have hkf:=kd hk1 (fun _ y => by cases y)
 have haf:=kd ha1 (fun _ y => by cases y)
 have lx:B.xs.length = m:=by rw [C.xs,a4q]
 have sSf:=G0.sh.1
 have hd_ne:∀ {x:Addr} {o:HO},Hf x = some o -> (∀ q u,o ≠ .frz q u) -> hd ≠ x:=fun e n y => by rw [<- y,hf] at e; exact n _ _ (Option.some.inj e).symm
 obtain ⟨⟨dSf,fif,sf⟩,chf,bdf⟩:=G0.sh
 have ef:=G0.bt.tab.kept
 have off:=G0.bt.ord
 have hd_old:∀ {B1:BM} {cs1:List V} {H6:Hp},Gvn CS CB CT s' ch bd B1 cs1 Hf H6 -> B1.od = B.od -> B1.e = B.e -> H6 hd = some (.frz ob (.dK [((.inr "key" : Key),V.ref hk),((.inr "a" : Key),V.ref ha)])):=fun G e1 e2 => G.old _ _ (hd_ne sf (fun _ _ y => by cases y)) (hd_ne chf (fun _ _ y => by cases y)) (by rw [e1]; exact hd_ne off (fun _ _ y => by cases y)) (by rw [e2]; exact hd_ne ef (fun _ _ y => by cases y)) hf
 have nback:∀ {B1:BM} {cs1:List V} {H6:Hp} {l:Addr},Gvn CS CB CT s' ch bd B1 cs1 Hf H6 -> B1.od = B.od -> B1.e = B.e -> H6 l = none -> Hf l = none:=fun {B1 cs1 H6 l} G e1 e2 h => by
  cases e:Hf l with
  | none => rfl
  | some o =>
   obtain ⟨⟨dx,fi,h1⟩,h2,h3⟩:=G.sh
   by_cases y1:l = s'
   ·rw [y1,h1] at h; cases h
   ·by_cases y2:l = ch
    ·rw [y2,h2] at h; cases h
    ·by_cases y3:l = B1.od
     ·rw [y3,G.bt.ord] at h; cases h
     ·by_cases y4:l = B1.e
      ·rw [y4,G.bt.tab.kept] at h; cases h
      ·rw [G.old l o y1 y2 y3 y4 e] at h; cases h
 have kt6:∀ {B1:BM} {cs1:List V} {H6:Hp},Gvn CS CB CT s' ch bd B1 cs1 Hf H6 -> B1.od = B.od -> B1.e = B.e -> a1u Hf H6:=fun G e1 e2 x xs e => G.old _ _ (fun y => by rw [y,sf] at e; cases e) (fun y => by rw [y,chf] at e; cases e) (fun y => by rw [y,e1,off] at e; cases e) (fun y => by rw [y,e2,ef] at e; cases e) e
 have neS:∀ {x:Addr} {ys:List V},Hf x = some (.lst ys) -> x ≠ s':=fun e y => by rw [y,sf] at e; cases e
 have neE:∀ {x:Addr} {ys:List V},Hf x = some (.lst ys) -> x ≠ B.e:=fun e y => by rw [y,ef] at e; cases e
 let P6:Nat -> Hp -> Prop:=fun i H6 => match i with
  | 0 => Gvn CS CB CT s' ch bd B csh Hf H6
  | 1 => ∃ lK c1,Gvn CS CB CT s' ch bd { B with kvs:=putK B.kvs (.inr "key" : Key) (.ref lK),ord:=B.ord ++ [("key" : Str)] } (csh ++ [c1]) Hf H6 /\ Hf lK = none /\ H6 lK = some (.lst zk)
  | _ => ∃ lK lA c1 c2,Gvn CS CB CT s' ch bd { B with kvs:=putK (putK B.kvs (.inr "key" : Key) (.ref lK)) (.inr "a" : Key) (.ref lA),ord:=B.ord ++ [("key" : Str)] ++ [("a" : Str)] } (csh ++ [c1] ++ [c2]) Hf H6 /\ Hf lK = none /\ Hf lA = none /\ lK ≠ lA /\ H6 lK = some (.lst zk) /\ H6 lA = some (.lst za)
 refine b94 (a:=hd) (ob:=ob) (kvs:=[((.inr "key" : Key),V.ref hk),((.inr "a" : Key),V.ref ha)]) (fun i σ H6 => (∃ o5,σ = [some (.ref a),some (.int (m:Int)),some (.ref s'),some (.ref hd),o4,o5,none,none,none,none,none,none,none]) /\ P6 i H6) ⟨⟨_,rfl⟩,G0⟩ (fun i σ H6 hi ⟨_,p6⟩ => ?_) ?_ ?_
 ·rcases i with _ | _ | i
  ·exact hd_old p6 rfl rfl
  ·obtain ⟨lK,c1',G,_⟩:=p6
   exact hd_old G rfl rfl
  ·obtain ⟨lK,lA,c1',c2',G,_⟩:=p6
   exact hd_old G rfl rfl
 ·rintro i p σ H6 hp ⟨⟨o5,rfl⟩,p6⟩
  rcases i with _ | _ | i
  ·obtain rfl:p = ((.inr "key" : Key),V.ref hk):=(Option.some.inj hp).symm
   have G:Gvn CS CB CT s' ch bd B csh Hf H6:=p6
   obtain ⟨⟨dx,fi,h1⟩,h2,h3⟩:=G.sh
   have hk6:H6 hk = some (.lst zk):=G.old _ _ (neS hkf) (fun y => a3 y.symm) (fun y => c1 y.symm) (neE hkf) hkf
   refine ⟨_,rfl,s',dx,_,rfl,h1,a3b,_,rfl,_,rfl,_,rfl,hd,_,rfl,.inl ⟨_,.inr "key", .inr ⟨ob,hd_old G rfl rfl⟩,rfl,rfl⟩,hk,zk,rfl,.inl (SqL.of hk6),fun cp hcp => ?_⟩
   refine hgive s' ch bd B csh Hf H6 _ "key" cp zk dk _ G C.sep C.ss ⟨by rw [C.ru]; rfl,by rw [C.od]; exact fun y => by cases y⟩ a12.2.2.2.2.1 hcp (Same.new hcp) a0c (pkf.keep (kt6 G rfl rfl)) (by omega) (by omega) (by rw [C.kv]; decide) (by rw [C.od]; decide) (by have:=C.cl; omega) fun H7 l cc G7 hl l7 fr => ?_
   exact ⟨⟨_,rfl⟩,l,.ref cc,G7,nback G rfl rfl hl,l7⟩
  ·obtain rfl:p = ((.inr "a" : Key),V.ref ha):=(Option.some.inj hp).symm
   obtain ⟨lK,c1',G,hlK,lK6⟩:=p6
   obtain ⟨⟨dx,fi,h1⟩,h2,h3⟩:=G.sh
   have ha6:H6 ha = some (.lst za):=G.old _ _ (neS haf) (fun y => a4 y.symm) (fun y => c2 y.symm) (neE haf) haf
   refine ⟨_,rfl,s',dx,_,rfl,h1,a3b,_,rfl,_,rfl,_,rfl,hd,_,rfl,.inl ⟨_,.inr "a", .inr ⟨ob,hd_old G rfl rfl⟩,rfl,rfl⟩,ha,za,rfl,.inl (SqL.of ha6),fun cp hcp => ?_⟩
   refine hgive s' ch bd _ _ Hf H6 _ "a" cp za da _ G ⟨C.sep.ro,C.sep.eu,C.sep.em,C.sep.um⟩ ⟨C.ss.r,C.ss.o,C.ss.e,C.ss.u,C.ss.m⟩ ⟨by show valV B.rus _ = none; rw [C.ru]; rfl,by show ¬ ("a" : Str) ∈ B.ord ++ [("key" : Str)]; rw [C.od]; decide +kernel⟩ a12.2.2.2.2.2.1 hcp (Same.new hcp) a0c (paf.keep (kt6 G rfl rfl)) (by show za.length = B.xs.length; omega) (by omega) (by show (putK B.kvs (.inr "key" : Key) (.ref lK)).length < 8; rw [C.kv]; exact (show 1 < 8 by decide)) (by show (B.ord ++ [("key" : Str)]).length < 8; rw [C.od]; decide) (by rw [List.length_append]; have:=C.cl; show csh.length + 1 < 10; omega) fun H7 l cc G7 hl l7 fr => ?_
   have ne1:lK ≠ l:=fun y => by rw [<- y,lK6] at hl; cases hl
   have lK7:=fr lK _ (fun y => by rw [y,h1] at lK6; cases lK6) (fun y => by rw [y,chf] at hlK; cases hlK) (fun y => by rw [y] at hlK; rw [off] at hlK; cases hlK) (fun y => by rw [y] at hlK; rw [ef] at hlK; cases hlK) lK6
   exact ⟨⟨_,rfl⟩,lK,l,c1',.ref cc,G7,hlK,nback G rfl rfl hl,ne1,lK7,l7⟩
  ·cases hp
 ·rintro σ H6 ⟨⟨o5,rfl⟩,lK,lA,c1',c2',G,hlK,hlA,nKA,lK6,lA6⟩
  have hd6:=hd_old G rfl rfl
  refine ⟨hd,ob,_,nf,hd6,?_⟩
  have u7:But hd H6 (upd H6 hd (.dK [((.inr "key" : Key),V.ref hk),((.inr "a" : Key),V.ref ha)])):=But.upd
  have hd7:upd H6 hd (.dK [((.inr "key" : Key),V.ref hk),((.inr "a" : Key),V.ref ha)]) hd = some (.dK [((.inr "key" : Key),V.ref hk),((.inr "a" : Key),V.ref ha)]):=a0c
  generalize upd H6 hd (.dK [((.inr "key" : Key),V.ref hk),((.inr "a" : Key),V.ref ha)]) = H7 at u7 hd7 ⊢
  have k7:∀ {x:Addr} {o:HO},H6 x = some o -> (∀ q u,o ≠ .frz q u) -> H7 x = some o:=fun e n => u7 _ _ (fun y => by rw [y,hd6] at e; exact n _ _ (Option.some.inj e).symm) e
  have of7:∀ {x:Addr} {o:HO},Hf x = some o -> x ≠ hd -> x ≠ s' -> x ≠ ch -> x ≠ B.od -> x ≠ B.e -> H7 x = some o:=fun e n0 n1 n2 n3 n4 => u7 _ _ n0 (G.old _ _ n1 n2 n3 n4 e)
  have kt7:a1u H5 H7:=fun x xs e => k7 (kt6 G rfl rfl _ _ (ktf _ _ e)) (fun _ _ y => by cases y)
  have nlf:∀ {x l:Addr} {o:HO},Hf x = some o -> Hf l = none -> x ≠ l:=fun e h y => by rw [y,h] at e; cases e
  have ext7:∀ {x:Addr} {φ:_},H4 x = some (.ext φ) -> H7 x = some (.ext φ):=fun {x φ} e => by
   have e':=kd (k5 e (fun _ y => by cases y)) (fun _ y => by cases y)
   exact of7 e' (fun y => by rw [y,hf] at e'; cases e') (fun y => by rw [y,sf] at e'; cases e') (fun y => by rw [y,chf] at e'; cases e') (fun y => by rw [y,off] at e'; cases e') (fun y => by rw [y,ef] at e'; cases e')
  obtain ⟨⟨dx,fi,h1⟩,h2,h3⟩:=G.sh
  refine qE H7 a ns m s' ch bd hd hk ha lK lA { B with kvs:=putK (putK B.kvs (.inr "key" : Key) (.ref lK)) (.inr "a" : Key) (.ref lA),ord:=B.ord ++ [("key" : Str)] ++ [("a" : Str)] } zk za dk da (csh ++ [c1'] ++ [c2']) o4 o5 ?_ hns m0 m7
  obtain ⟨⟨q1,t1⟩,⟨⟨q2,t2⟩,t3,t4⟩,t5,t6,t7⟩:=G.bt
  refine ⟨⟨⟨dx,fi,k7 h1 (fun _ _ y => by cases y)⟩,k7 h2 (fun _ _ y => by cases y),k7 h3 (fun _ _ y => by cases y)⟩,?_,⟨⟨q1,k7 t1 (fun _ _ y => by cases y)⟩,⟨⟨q2,k7 t2 (fun _ _ y => by cases y)⟩,k7 t3 (fun _ _ y => by cases y),k7 t4 (fun _ _ y => by cases y)⟩,k7 t5 (fun _ _ y => by cases y),k7 t6 (fun _ _ y => by cases y),k7 t7 (fun _ _ y => by cases y)⟩,⟨C.sep.ro,C.sep.eu,C.sep.em,C.sep.um⟩,⟨C.ss.r,C.ss.o,C.ss.e,C.ss.u,C.ss.m⟩,C.xs,C.ru,C.me,?_,?_,?_,k7 lK6 (fun _ _ y => by cases y),k7 lA6 (fun _ _ y => by cases y),pk.keep kt7,pa.keep kt7,l1,l2,hd7,of7 hkf (hd_ne hkf (fun _ _ y => by cases y)).symm (neS hkf) (fun y => a3 y.symm) (fun y => c1 y.symm) (neE hkf),of7 haf (hd_ne haf (fun _ _ y => by cases y)).symm (neS haf) (fun y => a4 y.symm) (fun y => c2 y.symm) (neE haf),?_,ext7 C.t1,ext7 C.t2,?_,⟨C.hn.1,C.hn.2.1⟩⟩
  ·rw [List.length_append,List.length_append]
   have:=C.cl
   show csh.length + 1 + 1 <= 5
   omega
  ·show B.ord ++ [("key" : Str)] ++ [("a" : Str)] = _
   rw [C.od]
   rfl
  ·show valV (putK (putK B.kvs (.inr "key" : Key) (.ref lK)) (.inr "a" : Key) (.ref lA)) (.inr "key" : Key) = _
   rw [a08,if_neg (by decide +kernel),a08,if_pos rfl]
  ·show valV (putK (putK B.kvs (.inr "key" : Key) (.ref lK)) (.inr "a" : Key) (.ref lA)) (.inr "a" : Key) = _
   rw [a08,if_pos rfl]
  ·have rf:=G0.bt.tab.rows
   show [ch,B.r,B.od,lK,lA,hk,ha].Nodup
   simp only [List.nodup_cons,List.mem_cons,List.not_mem_nil,or_false,not_or]
   exact ⟨⟨a1,a2,nlf chf hlK,nlf chf hlA,a3,a4⟩,⟨b1,nlf rf hlK,nlf rf hlA,b2,b3⟩,⟨nlf off hlK,nlf off hlA,c1,c2⟩,⟨nKA,(nlf hkf hlK).symm,(nlf haf hlK).symm⟩,⟨(nlf hkf hlA).symm,(nlf haf hlA).symm⟩,d1,not_false,List.nodup_nil⟩
  ·rcases C.sc with ⟨o,ho,e,sa⟩ | h
   ·have sa':=sa
    simp only [List.mem_cons,List.not_mem_nil,or_false,not_or] at sa'
    obtain ⟨y1,y2,y3,y4,y5,y6⟩:=sa'
    have e5:=u _ _ y5 y6 e
    have ef':Hf a = some o:=kd e5 (fun y ey => by rcases ho with rfl | ⟨q,rfl⟩ <;> cases ey)
    refine .inl ⟨o,ho,of7 ef' (fun y => ?_) y1 y2 y4 (fun y => ?_),?_⟩
    ·rw [y,hf] at ef'
     rcases ho with rfl | ⟨q,rfl⟩ <;> cases ef'
    ·rw [y,ef] at ef'
     rcases ho with rfl | ⟨q,rfl⟩ <;> cases ef'
    ·show a ∉ [s',ch,B.r,B.od,lK,lA,hk,ha]
     simp only [List.mem_cons,List.not_mem_nil,or_false,not_or]
     exact ⟨y1,y2,y3,y4,nlf ef' hlK,nlf ef' hlA,y5,y6⟩
   ·exact .inr h
end
end My
set_option maxHeartbeats 1000000
namespace L2
open PySem PySem.Spec PyProof.Rows
theorem Fun.okT {P:Program} {w:World} {K:PySem.W.Frag} {mg:Str -> Option Value} {base:Heap} {x qual:Str} {st:Stmt} {f c:Addr} {fd:FuncData} {N ps:List Str} {k:Nat} {sp:Sp} (F:Fun K x qual st f fd) (hc:fd.code = .ref c) (S:a0l N ps (a0b st)) (len:∀ vs H Q E,sp vs H Q E -> vs.length = ps.length)
 (hbody:∀ (A:Around) (outer:List Env) (s:Shared) (H:Hp) (vs:List V) (Q:VK) (E:XK),Room k (A.deeper (envOfC qual (a0b st) s.heap.objs.size f (.ref c))) -> sp vs H Q E ->
  ∃ t,PSs (cxOf CX0 P w K mg base N qual (a0b st) f (.ref c) A outer s H E).nox (a0i st) t /\ t { nx:=fun _ H' => Q .non H',rt:=Q } (start N vs) H):FnOk P w K mg base CX0 (k + 1) f fd ps sp:=by
 obtain ⟨oc,od,kV,doc,pm,an,cdv,ct,osl,rfl,lk,hcd⟩:=F.ex
 have e:cdv = .ref c:=hc
 subst e
 refine c98 lk hcd S len fun A outer s H vs Q E hr hsp => ?_
 obtain ⟨t,h,q⟩:=hbody A outer s H vs Q E hr hsp
 exact ⟨t,h.nox,q⟩
end L2
namespace My
open PySem L2
def d2n (K:PySem.W.Frag) (tabs:List (Addr × Addr)):Sp:=fun vs H Q _ => ∃ (a:Addr) (ns:List Int),vs = [.ref a] /\ SqL K H a (ns.map V.int) /\ ns.length <= 63 /\ b7N tabs H /\ ∀ H',b1F tabs H' -> Q (.bl true) H'
theorem d2I (x y:V):b9G [] [((.inr "key" : Key),x),((.inr "a" : Key),y)] = [((.inr "key" : Key),x),((.inr "a" : Key),y)]:=rfl
section
variable {P:Program} {w:World} {K:PySem.W.Frag} {mg:Str -> Option Value} {base:Heap}
theorem d2z (T:Tops K mg) {z1 z2:Addr × Addr} (B1:DefT K mg "law" a99 z1) (M1:b2L mg base z1.1 z1.2) (B2:MthT K mg "Finder" "gathered" "Finder.gathered" a0m z2) (M2:b2L mg base z2.1 z2.2) (n12:z1.2 ≠ z2.2) {f:Addr} {fd:FuncData} (F:Fun K "law" "law" a99 f fd) (hcd:fd.code = .ref z1.1):FnOk P w K mg base CX0 16 f fd ["_law_script"] (d2n K [z1,z2]):=by
 obtain ⟨CS,Y⟩:=T.t_Sheet
 obtain ⟨CF,Fi⟩:=T.t_Finder
 obtain ⟨CB,Wb⟩:=T.t_Board
 obtain ⟨CT,U⟩:=T.t_Table
 obtain ⟨CG,Gr⟩:=T.t_Group
 obtain ⟨CE,Ru⟩:=T.t_Rule
 obtain ⟨CR,R⟩:=T.t_Trial
 obtain ⟨CV,VP⟩:=T.t_ValuePut
 obtain ⟨CU,CC⟩:=T.t_ColumnSet
 obtain ⟨CW,TT⟩:=T.t_TableTold
 have G_mixed:a0C P w K mg base CX0 1 "_law_mixed" ["_law_script", "_law_k"] (c7D K):=a2f T
 have GS:a19 P w K mg base CX0 3 CS ["self"] (spSI CS CF):=a4S T Y Fi
 have G_table:a0k P w K mg base CX0 9 CS "table" ["self", "name", "many"] (c7Z CS CF CB CT):=a3M T Y Fi Wb U TT
 refine F.okT hcd a7o (fun vs H Q E h => ?_) (fun A outer s H vs Q E hr h => ?_)
 ·obtain ⟨a,ns,rfl,_⟩:=h
  rfl
 ·obtain ⟨a,ns,rfl,hS,hl,hT,q⟩:=h
  have hu:=a2I hr
  obtain ⟨tE,hE,qE⟩:=d0n (P:=P) (w:=w) T Y R Fi Wb U Gr Ru VP CC M1 B2 M2 n12 (f:=f) A outer s H Q E hr q
  refine boxS ⟨_,(b37 (PSw.mk (a0B (i:=1) a7o.nd rfl (by first | exact Or.inl rfl | exact Or.inr rfl) (a1p b0k a0p (a1p a5B (a0o G_mixed (hr.mono (by decide)) a0r (a0a (pv 0) (a0a a0p a0f))) a0p))))
   (b37 (PSw.mk (a0B (i:=2) a7o.nd rfl (by first | exact Or.inl rfl | exact Or.inr rfl) (c8B GS (hr.mono (by decide)) Y.c a0r)))
   (b37 (PSw.mk (a0t (a0s (pv 2) Y.cl G_table (hr.mono (by decide)) a0r (a0a a1o (a0a (pv 1) a0f)))))
   (b37 (d0I (i:=3) a7o.nd rfl (by first | exact Or.inl rfl | exact Or.inr rfl) (c9e (c6x c7V (PEw.mk (a2K a0f)) (c6x c7V (PEw.mk (a2K a0f)) d1b))))
   (PSsw.mk hE))))),?_⟩
  refine ⟨_,rfl,a,ns,_,rfl,hS,hl,by decide,by decide,fun m1 h1 h2 => ⟨_,_,rfl,rfl,(show (0:Int) < 7 by decide),_,_,rfl,rfl,?_⟩⟩
  have e1:=Int.emod_nonneg m1 (show (7:Int) ≠ 0 by decide)
  have e2:=Int.emod_lt_of_pos m1 (show (0:Int) < 7 by decide)
  obtain ⟨m,em⟩:∃ m:Nat,(m:Int) = 1 + m1 % 7:=⟨(1 + m1 % 7).toNat,by omega⟩
  have m0:0 < m:=by omega
  have m7:m <= 7:=by omega
  have t1:H z1.2 = some (TabC z1.2 []):=hT _ (by simp)
  have t2:H z2.2 = some (TabC z2.2 []):=hT _ (by simp)
  intro s' ds hs hds ne
  refine ⟨s',ds,rfl,a0c,fun H1 bd ch fi fd' lk df fr nfl g1 g2 g3 g4 g5 g6 b1 => ⟨rfl,?_⟩⟩
  have s1:Same H H1:=fun x o e => b1 _ _ (a0h e hs) (by rw [a0g (a0h e hs),a0g (a0h e hds)]; exact e)
  have fr0:∀ x ∈ [bd,ch,fi,fd',lk],H x = none:=fun x hx => (a7k (a7k (fr x hx)).1).1
  refine ⟨_,rfl,s',ds,_,rfl,g1,a3b,_,rfl,s',bd,ch,[],[], "t", m,by {rw [em]; rfl},⟨⟨ds,fi,g1⟩,g3,g2⟩,by decide,by decide,a12.2.2.2.1,rfl,by omega,fun H2 fi' fd2 lk' c b g r e ru me od Fr hB sp fr2 u2 => ?_⟩
  obtain ⟨⟨dS,sS⟩,chS,bdS,_⟩:=Fr
  have k2:∀ {x:Addr} {o:HO},H x = some o -> H2 x = some o:=fun {x o} e => u2 _ _ (fun y => by rw [y,hs] at e; cases e) (fun y => by rw [y,fr0 ch (by simp)] at e; cases e) (fun y => by rw [y,fr0 bd (by simp)] at e; cases e) (s1 _ _ e)
  have n1:∀ {x y:Addr} {o:HO},y ∈ [b,g,r,e,ru,me,od] -> H1 x = some o -> x ≠ y:=fun hy ex z => by rw [z,fr2 _ hy] at ex; cases ex
  intro hd hhd
  have s3':=Same.new (o:=.dK []) hhd
  have d3:upd H2 hd (.dK []) hd = some (.dK []):=a0c
  generalize upd H2 hd (.dK []) = H3 at s3' d3 ⊢
  refine ⟨sl,fun hk hhk => ?_⟩
  have s4':=Same.new (o:=.lst []) hhk
  have k4:upd H3 hk (.lst []) hk = some (.lst []):=a0c
  generalize upd H3 hk (.lst []) = H4 at s4' k4 ⊢
  refine ⟨sl,fun ha hha => ?_⟩
  have s5':=Same.new (o:=.lst []) hha
  have k5:upd H4 ha (.lst []) ha = some (.lst []):=a0c
  generalize upd H4 ha (.lst []) = H5 at s5' k5 ⊢
  have s35:=s4'.trans s5'
  refine ⟨s35 _ _ d3,[((.inr "key" : Key),V.ref hk),((.inr "a" : Key),V.ref ha)],rfl,(show 2 <= 15 by decide),?_⟩
  rw [d2I]
  have u6:But hd H5 (upd H5 hd (.dK [((.inr "key" : Key),V.ref hk),((.inr "a" : Key),V.ref ha)])):=But.upd
  have d6:upd H5 hd (.dK [((.inr "key" : Key),V.ref hk),((.inr "a" : Key),V.ref ha)]) hd = some (.dK [((.inr "key" : Key),V.ref hk),((.inr "a" : Key),V.ref ha)]):=a0c
  generalize upd H5 hd (.dK [((.inr "key" : Key),V.ref hk),((.inr "a" : Key),V.ref ha)]) = H6 at u6 d6 ⊢
  have s25:Same H2 H5:=s3'.trans s35
  have k6:∀ {x:Addr} {o:HO},H2 x = some o -> H6 x = some o:=fun e => u6 _ _ (a0h e hhd) (s25 _ _ e)
  have hk2:H2 hk = none:=a0M s3' hhk
  have ha2:H2 ha = none:=a0M (s3'.trans s4') hha
  have nkd:hk ≠ hd:=fun y => by rw [y,d3] at hhk; cases hhk
  have nad:ha ≠ hd:=fun y => by rw [y,s4' _ _ d3] at hha; cases hha
  have nka:hk ≠ ha:=fun y => by rw [<- y,k4] at hha; cases hha
  have n2:∀ {x y:Addr} {o:HO},H2 y = none -> H2 x = some o -> x ≠ y:=fun hy ex z => by rw [z,hy] at ex; cases ex
  obtain ⟨⟨q1,v1⟩,⟨⟨q2,v2⟩,v3,v4⟩,v5,v6,v7⟩:=hB
  have fin:=qE H6 a ns m s' ch bd hd hk ha ⟨b,g,r,e,ru,me,od,a3F 0 m,(m:Int),[],[],[],[]⟩ [.ref c] ⟨⟨⟨dS,fi',k6 sS⟩,k6 chS,k6 bdS⟩,(show 1 <= 2 by decide),⟨⟨q1,k6 v1⟩,⟨⟨q2,k6 v2⟩,k6 v3,k6 v4⟩,k6 v5,k6 v6,k6 v7⟩,sp,⟨n1 (by simp) g3,n1 (by simp) g3,n1 (by simp) g2,n1 (by simp) g2,n1 (by simp) g2⟩,rfl,rfl,rfl,rfl,rfl,d6,u6 _ _ nkd (s5' _ _ k4),u6 _ _ nad k5,?_,k6 (k2 t1),k6 (k2 t2),?_,⟨(n2 hhd v5).symm,(n2 hhd v6).symm,(n2 hhd v4).symm⟩⟩ hl m0 m7
  ·rw [em] at fin
   exact fin
  ·show [ch,r,od,hk,ha].Nodup
   simp only [List.nodup_cons,List.mem_cons,List.not_mem_nil,or_false,not_or]
   exact ⟨⟨n1 (by simp) g3,n1 (by simp) g3,n2 hk2 chS,n2 ha2 chS⟩,⟨sp.ro,n2 hk2 v3,n2 ha2 v3⟩,⟨n2 hk2 v7,n2 ha2 v7⟩,nka,not_false,List.nodup_nil⟩
  ·have na:∀ {o:HO},H a = some o -> a ∉ [s',ch,r,od,hk,ha]:=fun {o} ea => by
    simp only [List.mem_cons,List.not_mem_nil,or_false,not_or]
    exact ⟨fun y => by {rw [y,hs] at ea; cases ea},fun y => by {rw [y,fr0 ch (by simp)] at ea; cases ea},n1 (by simp) (s1 _ _ ea),n1 (by simp) (s1 _ _ ea),n2 hk2 (k2 ea),n2 ha2 (k2 ea)⟩
   rcases hS with (h | ⟨o,h⟩) | h
   ·exact .inl ⟨_,.inl rfl,k6 (k2 h),na h⟩
   ·exact .inl ⟨_,.inr ⟨o,rfl⟩,k6 (k2 h),na h⟩
   ·exact .inr fun H' => .inr h
end
end My
namespace My
open PySem L2
theorem d1e {PP:Params} {K:PySem.W.Frag} {h:Heap} {mg:Str -> Option Value} (X:K.In h) (G:h.Ns mainGlobals mg)
 (d0D:PySem.W.nsIn K mainGlobals "len" = some none)
 (a9g:PySem.W.nsIn K mainGlobals "isinstance" = some none)
 (d0x:PySem.W.nsIn K mainGlobals "int" = some none)
 (c8V:PySem.W.nsIn K mainGlobals "bool" = some none)
 (d0X:PySem.W.nsIn K mainGlobals "str" = some none)
 (d07:PySem.W.nsIn K mainGlobals "all" = some none)
 (c6d:PySem.W.nsIn K mainGlobals "range" = some none)
 (d0k:PySem.W.nsIn K mainGlobals "abs" = some none)
 (c7z:PySem.W.nsIn K mainGlobals "list" = some none)
 (c5S:PySem.W.nsIn K mainGlobals "tuple" = some none)
 (c94:PySem.W.nsIn K mainGlobals "max" = some none)
 (d0F:PySem.W.nsIn K mainGlobals "sum" = some none)
 (b48:PySem.W.nsIn K mainGlobals "reversed" = some none)
 (a9C:PySem.W.nsIn K mainGlobals "ValueError" = some none)
 {c8f:Tok} (b73:PySem.W.nsIn K mainGlobals "LETTERS" = some (some (.str ("abcdefghijklmnopqrstuvwxyz" : Str) c8f)))
 {b9r:Tok} (a7v:PySem.W.nsIn K mainGlobals "MOST_LETTERS" = some (some (.int 8 b9r)))
 {d0L:Addr} {d1S d1B:Tok} {d2y:Option Addr} {d2P:Nat} {d1v:Array (Option Value)} (d1f:PySem.W.nsIn K mainGlobals "ODD" = some (some (.ref d0L))) (d0G:K.lookup d0L = some ⟨.type "tuple", d2y,.seq #[Value.str ("fault" : Str) d1S,Value.str ("odd" : Str) d1B] d2P,d1v⟩)
 {c6a:Tok} (b2n:PySem.W.nsIn K mainGlobals "MOST_ROWS" = some (some (.int 30 c6a)))
 {b8M:Tok} (a7x:PySem.W.nsIn K mainGlobals "MOST_COLUMNS" = some (some (.int 8 b8M)))
 {b9S:Tok} (a8w:PySem.W.nsIn K mainGlobals "MOST_TABLES" = some (some (.int 4 b9S)))
 {b7m:Addr} {c6M c6X:Tok} {c6V:Option Addr} {c8N:Nat} {c7c:Array (Option Value)} (b7R:PySem.W.nsIn K mainGlobals "UNKNOWN" = some (some (.ref b7m))) (b7o:K.lookup b7m = some ⟨.type "tuple", c6V,.seq #[Value.str ("fault" : Str) c6M,Value.str ("unknown" : Str) c6X] c8N,c7c⟩)
 {b4G:Addr} {c5r c5N c3t c5A c5z:Value} {b8j:Value} {c46 c5Q:Option Addr} {c5I:Array (Option Value)} (b4V:PySem.W.nsIn K mainGlobals "is_whole" = some (some (.ref b4G)))
 (b49:K.lookup b4G = some ⟨c5r,c46,.func (PySem.W.fnOf "is_whole" "is_whole" (a0j a74) (a0i a74) (a0b a74) .none c5N c3t c5A c5Q b8j c5z),c5I⟩)
 (b4N:PySem.W.codeIn K b8j "is_whole" = true) (a4n:PySem.W.keepIn K (.ref b4G) = true)
 {b1D:Addr} {c3V c3O c1X c4I c3U:Value} {b5z:Value} {c3I c3w:Option Addr} {c3A:Array (Option Value)} (b1O:PySem.W.nsIn K mainGlobals "is_number" = some (some (.ref b1D)))
 (b2g:K.lookup b1D = some ⟨c3V,c3I,.func (PySem.W.fnOf "is_number" "is_number" (a0j a6d) (a0i a6d) (a0b a6d) .none c3O c1X c4I c3w b5z c3U),c3A⟩)
 (b18:PySem.W.codeIn K b5z "is_number" = true) (a6c:PySem.W.keepIn K (.ref b1D) = true)
 {b6Z:Addr} {c61 c7e c4U c7h c6Z:Value} {b9M:Value} {c68 c7b:Option Addr} {c6S:Array (Option Value)} (b7U:PySem.W.nsIn K mainGlobals "is_name" = some (some (.ref b6Z)))
 (b7y:K.lookup b6Z = some ⟨c61,c68,.func (PySem.W.fnOf "is_name" "is_name" (a0j a9K) (a0i a9K) (a0b a9K) .none c7e c4U c7h c7b b9M c6Z),c6S⟩)
 (b8d:PySem.W.codeIn K b9M "is_name" = true) (a1R:PySem.W.keepIn K (.ref b6Z) = true)
 {b5u:Addr} {c5o c53 c3a c5q c5m:Value} {b7k:Value} {c45 c5R:Option Addr} {c5M:Array (Option Value)} (b4v:PySem.W.nsIn K mainGlobals "is_fault" = some (some (.ref b5u)))
 (b4j:K.lookup b5u = some ⟨c5o,c45,.func (PySem.W.fnOf "is_fault" "is_fault" (a0j a70) (a0i a70) (a0b a70) .none c53 c3a c5q c5R b7k c5m),c5M⟩)
 (b5v:PySem.W.codeIn K b7k "is_fault" = true) (a5J:PySem.W.keepIn K (.ref b5u) = true)
 {b4P:Addr} {c47 c5D c3v c49 c58:Value} {b7p:Value} {c5H c42:Option Addr} {c5T:Array (Option Value)} (b4J:PySem.W.nsIn K mainGlobals "is_value" = some (some (.ref b4P)))
 (b4E:K.lookup b4P = some ⟨c47,c5H,.func (PySem.W.fnOf "is_value" "is_value" (a0j a7X) (a0i a7X) (a0b a7X) .none c5D c3v c49 c42 b7p c58),c5T⟩)
 (b4U:PySem.W.codeIn K b7p "is_value" = true) (a4a:PySem.W.keepIn K (.ref b4P) = true)
 {b8i:Addr} {c6P c7p c5a c63 c7i:Value} {b9I:Value} {c7g c7d:Option Addr} {c69:Array (Option Value)} (b69:PySem.W.nsIn K mainGlobals "settled" = some (some (.ref b8i)))
 (b7Z:K.lookup b8i = some ⟨c6P,c7g,.func (PySem.W.fnOf "settled" "settled" (a0j b0p) (a0i b0p) (a0b b0p) .none c7p c5a c63 c7d b9I c7i),c69⟩)
 (b7F:PySem.W.codeIn K b9I "settled" = true) (b0o:PySem.W.keepIn K (.ref b8i) = true)
 {b0K:Addr} {c0I c2k b9a c0X b95:Value} {b3x:Value} {b9V c2C:Option Addr} {c2M:Array (Option Value)} (a92:PySem.W.nsIn K mainGlobals "check_size" = some (some (.ref b0K)))
 (a9h:K.lookup b0K = some ⟨c0I,b9V,.func (PySem.W.fnOf "check_size" "check_size" (a0j a4O) (a0i a4O) (a0b a4O) .none c2k b9a c0X c2C b3x b95),c2M⟩)
 (a9r:PySem.W.codeIn K b3x "check_size" = true) (a26:PySem.W.keepIn K (.ref b0K) = true)
 {a8v:Addr} {b8q b9g b72 b8R b8O:Value} {b1l:Value} {b8p b9i:Option Addr} {b8B:Array (Option Value)} (a78:PySem.W.nsIn K mainGlobals "check_place" = some (some (.ref a8v)))
 (a8m:K.lookup a8v = some ⟨b8q,b8p,.func (PySem.W.fnOf "check_place" "check_place" (a0j a3n) (a0i a3n) (a0b a3n) .none b9g b72 b8R b9i b1l b8O),b8B⟩)
 (a79:PySem.W.codeIn K b1l "check_place" = true) (a1f:PySem.W.keepIn K (.ref a8v) = true)
 {a8c:Addr} {b8o b8w b7n b9f b9c:Value} {b1i:Value} {b87 b9A:Option Addr} {b8S:Array (Option Value)} (a8F:PySem.W.nsIn K mainGlobals "check_value" = some (some (.ref a8c)))
 (a8y:K.lookup a8c = some ⟨b8o,b87,.func (PySem.W.fnOf "check_value" "check_value" (a0j a31) (a0i a31) (a0b a31) .none b8w b7n b9f b9A b1i b9c),b8S⟩)
 (a8f:PySem.W.codeIn K b1i "check_value" = true) (a3K:PySem.W.keepIn K (.ref a8c) = true)
 {a7w:Addr} {b8c b7s b6a b7V b7x:Value} {b0H:Value} {b70 b7E:Option Addr} {b7r:Array (Option Value)} (a7C:PySem.W.nsIn K mainGlobals "check_values" = some (some (.ref a7w)))
 (a7I:K.lookup a7w = some ⟨b8c,b70,.func (PySem.W.fnOf "check_values" "check_values" (a0j a2G) (a0i a2G) (a0b a2G) .none b7s b6a b7V b7E b0H b7x),b7r⟩)
 (a7E:PySem.W.codeIn K b0H "check_values" = true) (a1S:PySem.W.keepIn K (.ref a7w) = true)
 {b14:Addr} {c4o c4h c2w c38 c3u:Value} {b5D:Value} {c4N c4B:Option Addr} {c3K:Array (Option Value)} (b1R:PySem.W.nsIn K mainGlobals "ring_from" = some (some (.ref b14)))
 (b1u:K.lookup b14 = some ⟨c4o,c4N,.func (PySem.W.fnOf "ring_from" "ring_from" (a0j a58) (a0i a58) (a0b a58) .none c4h c2w c38 c4B b5D c3u),c3K⟩)
 (b1C:PySem.W.codeIn K b5D "ring_from" = true) (a6S:PySem.W.keepIn K (.ref b14) = true)
 {c24:Addr} {c7J c8S c6U c7O c71:Value} {c4H:Value} {c8i c7A:Option Addr} {c73:Array (Option Value)} (c0o:PySem.W.nsIn K mainGlobals "way_to" = some (some (.ref c24)))
 (c1U:K.lookup c24 = some ⟨c7J,c8i,.func (PySem.W.fnOf "way_to" "way_to" (a0j b27) (a0i b27) (a0b b27) .none c8S c6U c7O c7A c4H c71),c73⟩)
 (b93:PySem.W.codeIn K c4H "way_to" = true) (b3Q:PySem.W.keepIn K (.ref c24) = true)
 {a9c:Addr} {c1O c0b b9u c1Y c0U:Value} {b35:Value} {c2V c2B:Option Addr} {c0v:Array (Option Value)} (a9k:PySem.W.nsIn K mainGlobals "check_name" = some (some (.ref a9c)))
 (a8Z:K.lookup a9c = some ⟨c1O,c2V,.func (PySem.W.fnOf "check_name" "check_name" (a0j a4H) (a0i a4H) (a0b a4H) .none c0b b9u c1Y c2B b35 c0U),c0v⟩)
 (b0A:PySem.W.codeIn K b35 "check_name" = true) (a4C:PySem.W.keepIn K (.ref a9c) = true)
 {b1B:Addr} {c4w c3c c1g c4u c4r:Value} {b5H:Value} {c37 c3g:Option Addr} {c4C:Array (Option Value)} (b2N:PySem.W.nsIn K mainGlobals "each_once" = some (some (.ref b1B)))
 (b2c:K.lookup b1B = some ⟨c4w,c37,.func (PySem.W.fnOf "each_once" "each_once" (a0j a5Z) (a0i a5Z) (a0b a5Z) .none c3c c1g c4u c3g b5H c4r),c4C⟩)
 (b1p:PySem.W.codeIn K b5H "each_once" = true) (a8b:PySem.W.keepIn K (.ref b1B) = true)
 {b1K:Addr} {c4L c3S c1o c30 c3j:Value} {b5L:Value} {c4z c3l:Option Addr} {c3s:Array (Option Value)} (b2F:PySem.W.nsIn K mainGlobals "_law_mixed" = some (some (.ref b1K)))
 (b2J:K.lookup b1K = some ⟨c4L,c4z,.func (PySem.W.fnOf "_law_mixed" "_law_mixed" (a0j a2Y) (a0i a2Y) (a0b a2Y) .none c3S c1o c30 c3l b5L c3j),c3s⟩)
 (b1s:PySem.W.codeIn K b5L "_law_mixed" = true) (a2f:PySem.W.keepIn K (.ref b1K) = true)
 {b2b:Addr} {c3L c3m c2l c31 c3o:Value} {b5I:Value} {c3H c4e:Option Addr} {c3D:Array (Option Value)} (b10:PySem.W.nsIn K mainGlobals "_law_value" = some (some (.ref b2b)))
 (b2K:K.lookup b2b = some ⟨c3L,c3H,.func (PySem.W.fnOf "_law_value" "_law_value" (a0j a6e) (a0i a6e) (a0b a6e) .none c3m c2l c31 c4e b5I c3o),c3D⟩)
 (b2r:PySem.W.codeIn K b5I "_law_value" = true) (a4h:PySem.W.keepIn K (.ref b2b) = true)
 {a9m:Addr} {c06 c1w b8T c2n c1D:Value} {b3T:Value} {c0G c1i:Option Addr} {c0Z:Array (Option Value)} (b0y:PySem.W.nsIn K mainGlobals "_law_answer" = some (some (.ref a9m)))
 (a9H:K.lookup a9m = some ⟨c06,c0G,.func (PySem.W.fnOf "_law_answer" "_law_answer" (a0j a4J) (a0i a4J) (a0b a4J) .none c1w b8T c2n c1i b3T c1D),c0Z⟩)
 (b0c:PySem.W.codeIn K b3T "_law_answer" = true) (a28:PySem.W.keepIn K (.ref a9m) = true)
 {b1Z:Addr} {c3p c4K c2L c3b c4s:Value} {b5E:Value} {c3C c4m:Option Addr} {c33:Array (Option Value)} (b1G:PySem.W.nsIn K mainGlobals "_law_noted" = some (some (.ref b1Z)))
 (b1T:K.lookup b1Z = some ⟨c3p,c3C,.func (PySem.W.fnOf "_law_noted" "_law_noted" (a0j a6g) (a0i a6g) (a0b a6g) .none c4K c2L c3b c4m b5E c4s),c33⟩)
 (b2t:PySem.W.codeIn K b5E "_law_noted" = true) (a6J:PySem.W.keepIn K (.ref b1Z) = true)
 {a8r:Addr} {b9m b9v b75 b8v b80:Value} {b1f:Value} {b9h b86:Option Addr} {b9b:Array (Option Value)} (a8z:PySem.W.nsIn K mainGlobals "_law_settled" = some (some (.ref a8r)))
 (a8h:K.lookup a8r = some ⟨b9m,b9h,.func (PySem.W.fnOf "_law_settled" "_law_settled" (a0j a3v) (a0i a3v) (a0b a3v) .none b9v b75 b8v b86 b1f b80),b9b⟩)
 (a8E:PySem.W.codeIn K b1f "_law_settled" = true) (a3r:PySem.W.keepIn K (.ref a8r) = true)
 {b4A:Addr} {c5h c5B c4v c5Y c56:Value} {b7O:Value} {c44 c5P:Option Addr} {c5c:Array (Option Value)} (b4g:PySem.W.nsIn K mainGlobals "_law_list" = some (some (.ref b4A)))
 (b5c:K.lookup b4A = some ⟨c5h,c44,.func (PySem.W.fnOf "_law_list" "_law_list" (a0j a7Z) (a0i a7Z) (a0b a7Z) .none c5B c4v c5Y c5P b7O c56),c5c⟩)
 (b5i:PySem.W.codeIn K b7O "_law_list" = true) (a7W:PySem.W.keepIn K (.ref b4A) = true)
 {b2P:Addr} {c32 c3X b91 c4x c4S:Value} {b5y:Value} {c4R c4E:Option Addr} {c4f:Array (Option Value)} (b1W:PySem.W.nsIn K mainGlobals "_law_right" = some (some (.ref b2P)))
 (b2j:K.lookup b2P = some ⟨c32,c4R,.func (PySem.W.fnOf "_law_right" "_law_right" (a0j a2X) (a0i a2X) (a0b a2X) .none c3X b91 c4x c4E b5y c4S),c4f⟩)
 (b1r:PySem.W.codeIn K b5y "_law_right" = true) (a6r:PySem.W.keepIn K (.ref b2P) = true)
 {d09:Addr} {d2w d1Z d0M d1r d10:Value} {c7s:Addr} {d2l d1n:Option Addr} {d1h:Array (Option Value)} (c88:PySem.W.nsIn K mainGlobals "law" = some (some (.ref d09)))
 (c9l:K.lookup d09 = some ⟨d2w,d2l,.func (PySem.W.fnOf "law" "law" (a0j a99) (a0i a99) (a0b a99) .none d1Z d0M d1r d1n (.ref c7s) d10),d1h⟩)
 (c9c:PySem.W.codeIn K (.ref c7s) "law" = true) (c84:PySem.W.keepIn K (.ref d09) = true)
 {d1u:Value} {d2p:Option Addr} {c92:Array Value} {d15:Array (Option Value)} {d14:Addr} (d0V:K.lookup c7s = some ⟨d1u,d2p,.fields c92,d15⟩) (d0p:c92[11]? = some (.ref d14))
 (notabs:PySem.W.noTabs K = true)
 {a09:Addr} (c6c:PySem.W.nsIn K mainGlobals "Table" = some (some (.ref a09)))
 (c1Z:PySem.W.plainGet K a09 Str.empty = true) (c13:PySem.W.hasDictIn K a09 = true) (c0J:PySem.W.plainOver K a09 = true) (c0L:PySem.W.findIn K (.ref a09) "__setattr__" = some (some (.builtin "object.__setattr__"))) (b98:PySem.W.makesIn K a09 = true) (c1H:PySem.W.keepIn K (.ref a09) = true) (c2v:PySem.W.findIn K (.ref a09) "__class__" = some (some (.builtin "object.__class__")))
 (a2C:PySem.W.findIn K (.ref a09) "row_numbers" = some none)
 (a2a:PySem.W.findIn K (.ref a09) "fresh_number" = some none)
 (a8p:PySem.W.findIn K (.ref a09) "kept" = some none)
 {a7m:Addr} {c12 c25 b9e c0P b3J b9X:Value} {b9W c2f:Option Addr} {c2E:Array (Option Value)} (a98:PySem.W.findIn K (.ref a09) "__init__" = some (some (.ref a7m))) (a85:PySem.W.isFn K (.ref a7m) = true)
 (a9l:K.lookup a7m = some ⟨c12,b9W,.func (PySem.W.fnOf "__init__" "Table.__init__" (a0j a4Z) (a0i a4Z) (a0b a4Z) .none c25 b9e c0P c2f b3J b9X),c2E⟩)
 (a82:PySem.W.codeIn K b3J "Table.__init__" = true) (a4T:PySem.W.keepIn K (.ref a7m) = true)
 {a7q:Addr} {c2S c0N b8I c17 b3g b9T:Value} {c1t b90:Option Addr} {c2O:Array (Option Value)} (a93:PySem.W.findIn K (.ref a09) "many" = some (some (.ref a7q))) (a86:PySem.W.isFn K (.ref a7q) = true)
 (b0L:K.lookup a7q = some ⟨c2S,c1t,.func (PySem.W.fnOf "many" "Table.many" (a0j a4F) (a0i a4F) (a0b a4F) .none c0N b8I c17 b90 b3g b9T),c2O⟩)
 (b0J:PySem.W.codeIn K b3g "Table.many" = true) (a0P:PySem.W.keepIn K (.ref a7q) = true)
 {a3D:Addr} {b6O b6r b4D b6s a8N b50:Value} {b6t b6c:Option Addr} {b5X:Array (Option Value)} (a6L:PySem.W.findIn K (.ref a09) "numbers" = some (some (.ref a3D))) (a6R:PySem.W.isFn K (.ref a3D) = true)
 (a6u:K.lookup a3D = some ⟨b6O,b6t,.func (PySem.W.fnOf "numbers" "Table.numbers" (a0j a3R) (a0i a3R) (a0b a3R) .none b6r b4D b6s b6c a8N b50),b5X⟩)
 (a5W:PySem.W.codeIn K a8N "Table.numbers" = true) (a5X:PySem.W.keepIn K (.ref a3D) = true)
 {a36:Addr} {b6H b6x b4n b5Y a8S b6n:Value} {b6d b6E:Option Addr} {b5V:Array (Option Value)} (a6N:PySem.W.findIn K (.ref a09) "columns" = some (some (.ref a36))) (a57:PySem.W.isFn K (.ref a36) = true)
 (a6A:K.lookup a36 = some ⟨b6H,b6d,.func (PySem.W.fnOf "columns" "Table.columns" (a0j a3C) (a0i a3C) (a0b a3C) .none b6x b4n b5Y b6E a8S b6n),b5V⟩)
 (a5S:PySem.W.codeIn K a8S "Table.columns" = true) (a5U:PySem.W.keepIn K (.ref a36) = true)
 {a63:Addr} {c0S c1J b9k c0c b3F c2u:Value} {c0W c2o:Option Addr} {c2s:Array (Option Value)} (a9W:PySem.W.findIn K (.ref a09) "give" = some (some (.ref a63))) (b0O:PySem.W.isFn K (.ref a63) = true)
 (a91:K.lookup a63 = some ⟨c0S,c0W,.func (PySem.W.fnOf "give" "Table.give" (a0j a15) (a0i a15) (a0b a15) .none c1J b9k c0c c2o b3F c2u),c2s⟩)
 (a81:PySem.W.codeIn K b3F "Table.give" = true) (a4P:PySem.W.keepIn K (.ref a63) = true)
 {a7c:Addr} {c1a c1m b8E c1b b3z c0g:Value} {c1V c2j:Option Addr} {c2U:Array (Option Value)} (a90:PySem.W.findIn K (.ref a09) "drop" = some (some (.ref a7c))) (a8X:PySem.W.isFn K (.ref a7c) = true)
 (a9i:K.lookup a7c = some ⟨c1a,c1V,.func (PySem.W.fnOf "drop" "Table.drop" (a0j a60) (a0i a60) (a0b a60) .none c1m b8E c1b c2j b3z c0g),c2U⟩)
 (b0e:PySem.W.codeIn K b3z "Table.drop" = true) (b0C:PySem.W.keepIn K (.ref a7c) = true)
 {a8t:Addr} {c35 c4J c1j c4n b5B c4g:Value} {c4y c3N:Option Addr} {c4A:Array (Option Value)} (b2C:PySem.W.findIn K (.ref a09) "put" = some (some (.ref a8t))) (b1q:PySem.W.isFn K (.ref a8t) = true)
 (b1y:K.lookup a8t = some ⟨c35,c4y,.func (PySem.W.fnOf "put" "Table.put" (a0j a5Y) (a0i a5Y) (a0b a5Y) .none c4J c1j c4n c3N b5B c4g),c4A⟩)
 (b17:PySem.W.codeIn K b5B "Table.put" = true) (a6j:PySem.W.keepIn K (.ref a8t) = true)
 {b0X:Addr} {c48 c5J c28 c5i b7f c6b:Value} {c5K c5L:Option Addr} {c5X:Array (Option Value)} (b5g:PySem.W.findIn K (.ref a09) "at" = some (some (.ref b0X))) (b4O:PySem.W.isFn K (.ref b0X) = true)
 (b5a:K.lookup b0X = some ⟨c48,c5K,.func (PySem.W.fnOf "at" "Table.at" (a0j a7Q) (a0i a7Q) (a0b a7Q) .none c5J c28 c5i c5L b7f c6b),c5X⟩)
 (b4f:PySem.W.codeIn K b7f "Table.at" = true) (a5K:PySem.W.keepIn K (.ref b0X) = true)
 {a2q:Addr} {b3y b38 b1P b3V a7a b3s:Value} {b3f b22:Option Addr} {b2X:Array (Option Value)} (a4j:PySem.W.findIn K (.ref a09) "number_at" = some (some (.ref a2q))) (a4g:PySem.W.isFn K (.ref a2q) = true)
 (a4t:K.lookup a2q = some ⟨b3y,b3f,.func (PySem.W.fnOf "number_at" "Table.number_at" (a0j a1E) (a0i a1E) (a0b a1E) .none b38 b1P b3V b22 a7a b3s),b2X⟩)
 (a4i:PySem.W.codeIn K a7a "Table.number_at" = true) (a1B:PySem.W.keepIn K (.ref a2q) = true)
 {a1x:Addr} {b0j b0N a8T b0P a4E a9F:Value} {a9R b0i:Option Addr} {a9o:Array (Option Value)} (a2D:PySem.W.findIn K (.ref a09) "check_column" = some (some (.ref a1x))) (a2y:PySem.W.isFn K (.ref a1x) = true)
 (a2E:K.lookup a1x = some ⟨b0j,a9R,.func (PySem.W.fnOf "check_column" "Table.check_column" (a0j a0X) (a0i a0X) (a0b a0X) .none b0N a8T b0P b0i a4E a9F),a9o⟩)
 (a2B:PySem.W.codeIn K a4E "Table.check_column" = true) (a0I:PySem.W.keepIn K (.ref a1x) = true)
 {a1G:Addr} (c59:PySem.W.nsIn K mainGlobals "Board" = some (some (.ref a1G)))
 (c1e:PySem.W.plainGet K a1G Str.empty = true) (c15:PySem.W.hasDictIn K a1G = true) (c1F:PySem.W.plainOver K a1G = true) (c0p:PySem.W.findIn K (.ref a1G) "__setattr__" = some (some (.builtin "object.__setattr__"))) (b92:PySem.W.makesIn K a1G = true) (c20:PySem.W.keepIn K (.ref a1G) = true) (c2g:PySem.W.findIn K (.ref a1G) "__class__" = some (some (.builtin "object.__class__")))
 (a7O:PySem.W.findIn K (.ref a1G) "given" = some none)
 (a7u:PySem.W.findIn K (.ref a1G) "rules" = some none)
 (a6B:PySem.W.findIn K (.ref a1G) "memory" = some none)
 (a7L:PySem.W.findIn K (.ref a1G) "order" = some none)
 {a7f:Addr} {c0y c23 b8A c0u b31 c08:Value} {c1s b9U:Option Addr} {c2N:Array (Option Value)} (a88:PySem.W.findIn K (.ref a1G) "__init__" = some (some (.ref a7f))) (a9B:PySem.W.isFn K (.ref a7f) = true)
 (b0n:K.lookup a7f = some ⟨c0y,c1s,.func (PySem.W.fnOf "__init__" "Board.__init__" (a0j a43) (a0i a43) (a0b a43) .none c23 b8A c0u b9U b31 c08),c2N⟩)
 (a97:PySem.W.codeIn K b31 "Board.__init__" = true) (a40:PySem.W.keepIn K (.ref a7f) = true)
 {a1X:Addr} {b19 b2z b1c b1x a5N b2m:Value} {b2v b2G:Option Addr} {b2y:Array (Option Value)} (a3V:PySem.W.findIn K (.ref a1G) "has_column" = some (some (.ref a1X))) (a3Y:PySem.W.isFn K (.ref a1X) = true)
 (a3E:K.lookup a1X = some ⟨b19,b2v,.func (PySem.W.fnOf "has_column" "Board.has_column" (a0j a1r) (a0i a1r) (a0b a1r) .none b2z b1c b1x b2G a5N b2m),b2y⟩)
 (a3A:PySem.W.codeIn K a5N "Board.has_column" = true) (a0U:PySem.W.keepIn K (.ref a1X) = true)
 {a3j:Addr} {b6D b6P b4l b6p a8R b6e:Value} {b6A b6I:Option Addr} {b51:Array (Option Value)} (a6C:PySem.W.findIn K (.ref a1G) "content" = some (some (.ref a3j))) (a50:PySem.W.isFn K (.ref a3j) = true)
 (a53:K.lookup a3j = some ⟨b6D,b6A,.func (PySem.W.fnOf "content" "Board.content" (a0j a2i) (a0i a2i) (a0b a2i) .none b6P b4l b6p b6I a8R b6e),b51⟩)
 (a6F:PySem.W.codeIn K a8R "Board.content" = true) (a2b:PySem.W.keepIn K (.ref a3j) = true)
 {a1W:Addr} {b1U b1H b1b b2l a6G b2o:Value} {b2Q b1Y:Option Addr} {b2U:Array (Option Value)} (a30:PySem.W.findIn K (.ref a1G) "set_column" = some (some (.ref a1W))) (a3S:PySem.W.isFn K (.ref a1W) = true)
 (a3d:K.lookup a1W = some ⟨b1U,b2Q,.func (PySem.W.fnOf "set_column" "Board.set_column" (a0j a1h) (a0i a1h) (a0b a1h) .none b1H b1b b2l b1Y a6G b2o),b2U⟩)
 (a3H:PySem.W.codeIn K a6G "Board.set_column" = true) (a3s:PySem.W.keepIn K (.ref a1W) = true)
 {a1y:Addr} {a9e a9T a8U a9S a4U b0w:Value} {b0S b0m:Option Addr} {a9M:Array (Option Value)} (a2w:PySem.W.findIn K (.ref a1G) "empty_column" = some (some (.ref a1y))) (a2A:PySem.W.isFn K (.ref a1y) = true)
 (a2x:K.lookup a1y = some ⟨a9e,b0S,.func (PySem.W.fnOf "empty_column" "Board.empty_column" (a0j a0W) (a0i a0W) (a0b a0W) .none a9T a8U a9S b0m a4U b0w),a9M⟩)
 (a2z:PySem.W.codeIn K a4U "Board.empty_column" = true) (a0H:PySem.W.keepIn K (.ref a1y) = true)
 {a3G:Addr} {b5U b6C b44 b5S a8K b58:Value} {b54 b6y:Option Addr} {b57:Array (Option Value)} (a5T:PySem.W.findIn K (.ref a1G) "outcome" = some (some (.ref a3G))) (a6h:PySem.W.isFn K (.ref a3G) = true)
 (a6P:K.lookup a3G = some ⟨b5U,b54,.func (PySem.W.fnOf "outcome" "Board.outcome" (a0j a02) (a0i a02) (a0b a02) .none b6C b44 b5S b6y a8K b58),b57⟩)
 (a6m:PySem.W.codeIn K a8K "Board.outcome" = true) (a2e:PySem.W.keepIn K (.ref a3G) = true)
 {a0G:Addr} (b1S:PySem.W.nsIn K mainGlobals "TableTold" = some (some (.ref a0G)))
 (a9N:PySem.W.plainGet K a0G Str.empty = true) (b0h:PySem.W.hasDictIn K a0G = true) (a9D:PySem.W.plainOver K a0G = true) (a9V:PySem.W.findIn K (.ref a0G) "__setattr__" = some (some (.builtin "object.__setattr__"))) (a9O:PySem.W.makesIn K a0G = true) (a9X:PySem.W.keepIn K (.ref a0G) = true) (a9v:PySem.W.findIn K (.ref a0G) "__class__" = some (some (.builtin "object.__class__")))
 (a2W:PySem.W.findIn K (.ref a0G) "boards" = some none)
 (a4s:PySem.W.findIn K (.ref a0G) "name" = some none)
 (a4o:PySem.W.findIn K (.ref a0G) "size" = some none)
 {a2R:Addr} {b4p b4m b3r b4d a7Y b4B:Value} {b4q b5m:Option Addr} {b4o:Array (Option Value)} (a44:PySem.W.findIn K (.ref a0G) "__init__" = some (some (.ref a2R))) (a5s:PySem.W.isFn K (.ref a2R) = true)
 (a48:K.lookup a2R = some ⟨b4p,b4q,.func (PySem.W.fnOf "__init__" "TableTold.__init__" (a0j a1Q) (a0i a1Q) (a0b a1Q) .none b4m b3r b4d b5m a7Y b4B),b4o⟩)
 (a5h:PySem.W.codeIn K a7Y "TableTold.__init__" = true) (a1M:PySem.W.keepIn K (.ref a2R) = true)
 {a2P:Addr} {b4S b5s b3L b4c a76 b4i:Value} {b4F b4x:Option Addr} {b4Z:Array (Option Value)} (a5o:PySem.W.findIn K (.ref a0G) "take" = some (some (.ref a2P))) (a5a:PySem.W.isFn K (.ref a2P) = true)
 (a5k:K.lookup a2P = some ⟨b4S,b4F,.func (PySem.W.fnOf "take" "TableTold.take" (a0j a1K) (a0i a1K) (a0b a1K) .none b5s b3L b4c b4x a76 b4i),b4Z⟩)
 (a5c:PySem.W.codeIn K a76 "TableTold.take" = true) (a1N:PySem.W.keepIn K (.ref a2P) = true)
 {a0D:Addr} (b2A:PySem.W.nsIn K mainGlobals "ColumnSet" = some (some (.ref a0D)))
 (a95:PySem.W.plainGet K a0D Str.empty = true) (a9s:PySem.W.hasDictIn K a0D = true) (a83:PySem.W.plainOver K a0D = true) (a9x:PySem.W.findIn K (.ref a0D) "__setattr__" = some (some (.builtin "object.__setattr__"))) (a8V:PySem.W.makesIn K a0D = true) (a9Z:PySem.W.keepIn K (.ref a0D) = true) (a8Y:PySem.W.findIn K (.ref a0D) "__class__" = some (some (.builtin "object.__class__")))
 (a3w:PySem.W.findIn K (.ref a0D) "board" = some none)
 (a2T:PySem.W.findIn K (.ref a0D) "column" = some none)
 (a3B:PySem.W.findIn K (.ref a0D) "after" = some none)
 (a2S:PySem.W.findIn K (.ref a0D) "before" = some none)
 {a2Q:Addr} {b5n b4C b3l b5r a73 b4Y:Value} {b5h b41:Option Addr} {b5e:Array (Option Value)} (a5b:PySem.W.findIn K (.ref a0D) "__init__" = some (some (.ref a2Q))) (a5l:PySem.W.isFn K (.ref a2Q) = true)
 (a5p:K.lookup a2Q = some ⟨b5n,b5h,.func (PySem.W.fnOf "__init__" "ColumnSet.__init__" (a0j a1O) (a0i a1O) (a0b a1O) .none b4C b3l b5r b41 a73 b4Y),b5e⟩)
 (a5j:PySem.W.codeIn K a73 "ColumnSet.__init__" = true) (a1d:PySem.W.keepIn K (.ref a2Q) = true)
 {a2M:Addr} {b4k b45 b4a b5q a72 b42:Value} {b4I b5b:Option Addr} {b4W:Array (Option Value)} (a5t:PySem.W.findIn K (.ref a0D) "take" = some (some (.ref a2M))) (a5e:PySem.W.isFn K (.ref a2M) = true)
 (a49:K.lookup a2M = some ⟨b4k,b4I,.func (PySem.W.fnOf "take" "ColumnSet.take" (a0j a1I) (a0i a1I) (a0b a1I) .none b45 b4a b5q b5b a72 b42),b4W⟩)
 (a5q:PySem.W.codeIn K a72 "ColumnSet.take" = true) (a1b:PySem.W.keepIn K (.ref a2M) = true)
 {a0J:Addr} (b5k:PySem.W.nsIn K mainGlobals "ValuePut" = some (some (.ref a0J)))
 (b2S:PySem.W.plainGet K a0J Str.empty = true) (b1t:PySem.W.hasDictIn K a0J = true) (b15:PySem.W.plainOver K a0J = true) (b2B:PySem.W.findIn K (.ref a0J) "__setattr__" = some (some (.builtin "object.__setattr__"))) (b2E:PySem.W.makesIn K a0J = true) (b1Q:PySem.W.keepIn K (.ref a0J) = true) (b1I:PySem.W.findIn K (.ref a0J) "__class__" = some (some (.builtin "object.__class__")))
 (a4c:PySem.W.findIn K (.ref a0J) "board" = some none)
 (a3N:PySem.W.findIn K (.ref a0J) "column" = some none)
 (a4u:PySem.W.findIn K (.ref a0J) "place" = some none)
 (a4k:PySem.W.findIn K (.ref a0J) "after" = some none)
 (a3I:PySem.W.findIn K (.ref a0J) "before" = some none)
 {a3l:Addr} {b5M b5P b4e b6i a8M b5R:Value} {b6v b6R:Option Addr} {b6z:Array (Option Value)} (a6i:PySem.W.findIn K (.ref a0J) "__init__" = some (some (.ref a3l))) (a5Q:PySem.W.isFn K (.ref a3l) = true)
 (a6p:K.lookup a3l = some ⟨b5M,b6v,.func (PySem.W.fnOf "__init__" "ValuePut.__init__" (a0j a2c) (a0i a2c) (a0b a2c) .none b5P b4e b6i b6R a8M b5R),b6z⟩)
 (a5M:PySem.W.codeIn K a8M "ValuePut.__init__" = true) (a18:PySem.W.keepIn K (.ref a3l) = true)
 {a3P:Addr} {b55 b6h b5p b6G a8L b5Z:Value} {b6B b5W:Option Addr} {b6K:Array (Option Value)} (a6v:PySem.W.findIn K (.ref a0J) "take" = some (some (.ref a3P))) (a6f:PySem.W.isFn K (.ref a3P) = true)
 (a6K:K.lookup a3P = some ⟨b55,b6B,.func (PySem.W.fnOf "take" "ValuePut.take" (a0j a2h) (a0i a2h) (a0b a2h) .none b6h b5p b6G b5W a8L b5Z),b6K⟩)
 (a6H:PySem.W.codeIn K a8L "ValuePut.take" = true) (a2g:PySem.W.keepIn K (.ref a3P) = true)
 {a34:Addr} (c40:PySem.W.nsIn K mainGlobals "Trial" = some (some (.ref a34)))
 (c19:PySem.W.plainGet K a34 Str.empty = true) (c0B:PySem.W.hasDictIn K a34 = true) (c2t:PySem.W.plainOver K a34 = true) (c02:PySem.W.findIn K (.ref a34) "__setattr__" = some (some (.builtin "object.__setattr__"))) (c1k:PySem.W.makesIn K a34 = true) (c2W:PySem.W.keepIn K (.ref a34) = true) (c0M:PySem.W.findIn K (.ref a34) "__class__" = some (some (.builtin "object.__class__")))
 (a6s:PySem.W.findIn K (.ref a34) "finder" = some none)
 (a6D:PySem.W.findIn K (.ref a34) "looked" = some none)
 (a5w:PySem.W.findIn K (.ref a34) "lacking" = some none)
 {a7g:Addr} {c2D c1u b9p c0n b3K c2b:Value} {c2e c0T:Option Addr} {b9R:Array (Option Value)} (a9t:PySem.W.findIn K (.ref a34) "__init__" = some (some (.ref a7g))) (a9P:PySem.W.isFn K (.ref a7g) = true)
 (a9q:K.lookup a7g = some ⟨c2D,c2e,.func (PySem.W.fnOf "__init__" "Trial.__init__" (a0j a4I) (a0i a4I) (a0b a4I) .none c1u b9p c0n c0T b3K c2b),b9R⟩)
 (a9L:PySem.W.codeIn K b3K "Trial.__init__" = true) (a4Y:PySem.W.keepIn K (.ref a7g) = true)
 {a64:Addr} {c2A c1f b8s c1d b3v c2r:Value} {c1l c1q:Option Addr} {c0H:Array (Option Value)} (a87:PySem.W.findIn K (.ref a34) "look" = some (some (.ref a64))) (b0R:PySem.W.isFn K (.ref a64) = true)
 (a9u:K.lookup a64 = some ⟨c2A,c1l,.func (PySem.W.fnOf "look" "Trial.look" (a0j a4K) (a0i a4K) (a0b a4K) .none c1f b8s c1d c1q b3v c2r),c0H⟩)
 (b0z:PySem.W.codeIn K b3v "Trial.look" = true) (b0b:PySem.W.keepIn K (.ref a64) = true)
 {a07:Addr} (b6S:PySem.W.nsIn K mainGlobals "Finder" = some (some (.ref a07)))
 (b7K:PySem.W.plainGet K a07 Str.empty = true) (b7T:PySem.W.hasDictIn K a07 = true) (b8f:PySem.W.plainOver K a07 = true) (b7B:PySem.W.findIn K (.ref a07) "__setattr__" = some (some (.builtin "object.__setattr__"))) (b78:PySem.W.makesIn K a07 = true) (b7J:PySem.W.keepIn K (.ref a07) = true) (b7t:PySem.W.findIn K (.ref a07) "__class__" = some (some (.builtin "object.__class__")))
 (a5v:PySem.W.findIn K (.ref a07) "boards" = some none)
 (a6t:PySem.W.findIn K (.ref a07) "found" = some none)
 (a46:PySem.W.findIn K (.ref a07) "looked" = some none)
 {a5E:Addr} {b9t b8G b7D b9o b1g b8C:Value} {b81 b8F:Option Addr} {b8U:Array (Option Value)} (a8g:PySem.W.findIn K (.ref a07) "__init__" = some (some (.ref a5E))) (a8D:PySem.W.isFn K (.ref a5E) = true)
 (a8k:K.lookup a5E = some ⟨b9t,b81,.func (PySem.W.fnOf "__init__" "Finder.__init__" (a0j a3g) (a0i a3g) (a0b a3g) .none b8G b7D b9o b8F b1g b8C),b8U⟩)
 (a8d:PySem.W.codeIn K b1g "Finder.__init__" = true) (a2v:PySem.W.keepIn K (.ref a5E) = true)
 {a2p:Addr} {b3R b3N b2e b20 a68 b3c:Value} {b3P b25:Option Addr} {b32:Array (Option Value)} (a4f:PySem.W.findIn K (.ref a07) "value_of" = some (some (.ref a2p))) (a38:PySem.W.isFn K (.ref a2p) = true)
 (a4b:K.lookup a2p = some ⟨b3R,b3P,.func (PySem.W.fnOf "value_of" "Finder.value_of" (a0j a1C) (a0i a1C) (a0b a1C) .none b3N b2e b20 b25 a68 b3c),b32⟩)
 (a4l:PySem.W.codeIn K a68 "Finder.value_of" = true) (a4r:PySem.W.keepIn K (.ref a2p) = true)
 {a2N:Addr} {b4t b4h b23 b4z a7T b46:Value} {b4r b5f:Option Addr} {b47:Array (Option Value)} (a5r:PySem.W.findIn K (.ref a07) "attempt" = some (some (.ref a2N))) (a5d:PySem.W.isFn K (.ref a2N) = true)
 (a5f:K.lookup a2N = some ⟨b4t,b4r,.func (PySem.W.fnOf "attempt" "Finder.attempt" (a0j a1J) (a0i a1J) (a0b a1J) .none b4h b23 b4z b5f a7T b46),b47⟩)
 (a5y:PySem.W.codeIn K a7T "Finder.attempt" = true) (a45:PySem.W.keepIn K (.ref a2N) = true)
 {a2m a11 a2o:Addr} {b3j b3p b2w b3k b3I:Value} {b3S b3G:Option Addr} {b3D:Array (Option Value)} (a2r:PySem.W.findIn K (.ref a07) "gathered" = some (some (.ref a2m))) (a2u:PySem.W.isFn K (.ref a2m) = true)
 (a2t:K.lookup a2m = some ⟨b3j,b3S,.func (PySem.W.fnOf "gathered" "Finder.gathered" (a0j a0m) (a0i a0m) (a0b a0m) .none b3p b2w b3k b3G (.ref a11) b3I),b3D⟩)
 (a2j:PySem.W.codeIn K (.ref a11) "Finder.gathered" = true) (a2l:PySem.W.keepIn K (.ref a2m) = true)
 {b3X:Value} {b3C:Option Addr} {a7l:Array Value} {b3n:Array (Option Value)} (a75:K.lookup a11 = some ⟨b3X,b3C,.fields a7l,b3n⟩) (a7V:a7l[11]? = some (.ref a2o)) (a20:PySem.W.codeHdIn K a11 a2o = true) (a1m:h.get? a2o = some (PySem.W.tabObj #[]))
 {a3O:Addr} {b6l b6k b5t b6J a8P b5N:Value} {b56 b6q:Option Addr} {b6w:Array (Option Value)} (a59:PySem.W.findIn K (.ref a07) "settle" = some (some (.ref a3O))) (a5V:PySem.W.isFn K (.ref a3O) = true)
 (a6M:K.lookup a3O = some ⟨b6l,b56,.func (PySem.W.fnOf "settle" "Finder.settle" (a0j a14) (a0i a14) (a0b a14) .none b6k b5t b6J b6q a8P b5N),b6w⟩)
 (a5L:PySem.W.codeIn K a8P "Finder.settle" = true) (a6k:PySem.W.keepIn K (.ref a3O) = true)
 {a4x:Addr} {b7v b7j b5O b62 b0M b8m:Value} {b6W b8n:Option Addr} {b7g:Array (Option Value)} (a7J:PySem.W.findIn K (.ref a07) "knows" = some (some (.ref a4x))) (a7N:PySem.W.isFn K (.ref a4x) = true)
 (a7B:K.lookup a4x = some ⟨b7v,b6W,.func (PySem.W.fnOf "knows" "Finder.knows" (a0j a2J) (a0i a2J) (a0b a2J) .none b7j b5O b62 b8n b0M b8m),b7g⟩)
 (a7P:PySem.W.codeIn K b0M "Finder.knows" = true) (a7H:PySem.W.keepIn K (.ref a4x) = true)
 {a0L:Addr} (c5k:PySem.W.nsIn K mainGlobals "Sheet" = some (some (.ref a0L)))
 (c04:PySem.W.plainGet K a0L Str.empty = true) (c1c:PySem.W.hasDictIn K a0L = true) (c2p:PySem.W.plainOver K a0L = true) (c2T:PySem.W.findIn K (.ref a0L) "__setattr__" = some (some (.builtin "object.__setattr__"))) (c26:PySem.W.makesIn K a0L = true) (c1v:PySem.W.keepIn K (.ref a0L) = true) (c2z:PySem.W.findIn K (.ref a0L) "__class__" = some (some (.builtin "object.__class__")))
 (a6y:PySem.W.findIn K (.ref a0L) "boards" = some none)
 (a5m:PySem.W.findIn K (.ref a0L) "changes" = some none)
 (a54:PySem.W.findIn K (.ref a0L) "finder" = some none)
 {a62:Addr} {c07 c2y b8N b96 b3U c2J:Value} {c2Q c0h:Option Addr} {c0k:Array (Option Value)} (a94:PySem.W.findIn K (.ref a0L) "__init__" = some (some (.ref a62))) (a9a:PySem.W.isFn K (.ref a62) = true)
 (b0r:K.lookup a62 = some ⟨c07,c2Q,.func (PySem.W.fnOf "__init__" "Sheet.__init__" (a0j a4W) (a0i a4W) (a0b a4W) .none c2y b8N b96 c0h b3U c2J),c0k⟩)
 (b0l:PySem.W.codeIn K b3U "Sheet.__init__" = true) (a4S:PySem.W.keepIn K (.ref a62) = true)
 {a5C:Addr} {b8K b82 b64 b9l b1h b8u:Value} {b8D b8t:Option Addr} {b84:Array (Option Value)} (a8s:PySem.W.findIn K (.ref a0L) "table" = some (some (.ref a5C))) (a8n:PySem.W.isFn K (.ref a5C) = true)
 (a8l:K.lookup a5C = some ⟨b8K,b8D,.func (PySem.W.fnOf "table" "Sheet.table" (a0j a3U) (a0i a3U) (a0b a3U) .none b82 b64 b9l b8t b1h b8u),b84⟩)
 (a8o:PySem.W.codeIn K b1h "Sheet.table" = true) (a3M:PySem.W.keepIn K (.ref a5C) = true)
 {a66:Addr} {b9Y c0R b9C c1P b3O c2Y:Value} {c0t c2X:Option Addr} {c1y:Array (Option Value)} (a9y:PySem.W.findIn K (.ref a0L) "give" = some (some (.ref a66))) (b0F:PySem.W.isFn K (.ref a66) = true)
 (b0I:K.lookup a66 = some ⟨b9Y,c0t,.func (PySem.W.fnOf "give" "Sheet.give" (a0j a4D) (a0i a4D) (a0b a4D) .none c0R b9C c1P c2X b3O c2Y),c1y⟩)
 (a9j:PySem.W.codeIn K b3O "Sheet.give" = true) (a4Q:PySem.W.keepIn K (.ref a66) = true)
 {a7d:Addr} {c0w c1S b9B c0E b3e c1L:Value} {c27 c0x:Option Addr} {c0j:Array (Option Value)} (a9J:PySem.W.findIn K (.ref a0L) "rule" = some (some (.ref a7d))) (b0d:PySem.W.isFn K (.ref a7d) = true)
 (a96:K.lookup a7d = some ⟨c0w,c27,.func (PySem.W.fnOf "rule" "Sheet.rule" (a0j a4M) (a0i a4M) (a0b a4M) .none c1S b9B c0E c0x b3e c1L),c0j⟩)
 (b0G:PySem.W.codeIn K b3e "Sheet.rule" = true) (a4N:PySem.W.keepIn K (.ref a7d) = true)
 {a8G:Addr} {c3M c3r c0d c3d b5G c4G:Value} {c4P c4i:Option Addr} {c4O:Array (Option Value)} (b12:PySem.W.findIn K (.ref a0L) "put" = some (some (.ref a8G))) (b1E:PySem.W.isFn K (.ref a8G) = true)
 (b2d:K.lookup a8G = some ⟨c3M,c4P,.func (PySem.W.fnOf "put" "Sheet.put" (a0j a6V) (a0i a6V) (a0b a6V) .none c3r c0d c3d c4i b5G c4G),c4O⟩)
 (b2I:PySem.W.codeIn K b5G "Sheet.put" = true) (a6a:PySem.W.keepIn K (.ref a8G) = true)
 {a4w:Addr} {b8b b8h b6L b7l a9f b7a:Value} {b7G b7d:Option Addr} {b60:Array (Option Value)} (a7M:PySem.W.findIn K (.ref a0L) "tables" = some (some (.ref a4w))) (a7s:PySem.W.isFn K (.ref a4w) = true)
 (a7K:K.lookup a4w = some ⟨b8b,b7G,.func (PySem.W.fnOf "tables" "Sheet.tables" (a0j a4B) (a0i a4B) (a0b a4B) .none b8h b6L b7l b7d a9f b7a),b60⟩)
 (a7z:PySem.W.codeIn K a9f "Sheet.tables" = true) (a7G:PySem.W.keepIn K (.ref a4w) = true)
 {a3u:Addr} {b59 b6f b4T b6Q a8I b52:Value} {b6N b6M:Option Addr} {b5T:Array (Option Value)} (a6n:PySem.W.findIn K (.ref a0L) "columns" = some (some (.ref a3u))) (a6b:PySem.W.isFn K (.ref a3u) = true)
 (a55:K.lookup a3u = some ⟨b59,b6N,.func (PySem.W.fnOf "columns" "Sheet.columns" (a0j a3i) (a0i a3i) (a0b a3i) .none b6f b4T b6Q b6M a8I b52),b5T⟩)
 (a6E:PySem.W.codeIn K a8I "Sheet.columns" = true) (a6o:PySem.W.keepIn K (.ref a3u) = true)
 {a67:Addr} {c2Z c1W b9s c01 b33 c0q:Value} {c0A c1Q:Option Addr} {c1N:Array (Option Value)} (a9U:PySem.W.findIn K (.ref a0L) "many" = some (some (.ref a67))) (a9d:PySem.W.isFn K (.ref a67) = true)
 (b0q:K.lookup a67 = some ⟨c2Z,c0A,.func (PySem.W.fnOf "many" "Sheet.many" (a0j a7b) (a0i a7b) (a0b a7b) .none c1W b9s c01 c1Q b33 c0q),c1N⟩)
 (a9Q:PySem.W.codeIn K b33 "Sheet.many" = true) (a89:PySem.W.keepIn K (.ref a67) = true)
 {a65:Addr} {b9Z c2H b8Z c2K b3t c00:Value} {c2h c0m:Option Addr} {c21:Array (Option Value)} (b0x:PySem.W.findIn K (.ref a0L) "cell" = some (some (.ref a65))) (b0v:PySem.W.isFn K (.ref a65) = true)
 (b0s:K.lookup a65 = some ⟨b9Z,c2h,.func (PySem.W.fnOf "cell" "Sheet.cell" (a0j a42) (a0i a42) (a0b a42) .none c2H b8Z c2K c0m b3t c00),c21⟩)
 (a84:PySem.W.codeIn K b3t "Sheet.cell" = true) (a22:PySem.W.keepIn K (.ref a65) = true)
 {a7h:Addr} {c2i c0D b8z c1M b29 c2F:Value} {c0Q c0Y:Option Addr} {c0a:Array (Option Value)} (a9n:PySem.W.findIn K (.ref a0L) "make" = some (some (.ref a7h))) (b0E:PySem.W.isFn K (.ref a7h) = true)
 (b0g:K.lookup a7h = some ⟨c2i,c0Q,.func (PySem.W.fnOf "make" "Sheet.make" (a0j a4X) (a0i a4X) (a0b a4X) .none c0D b8z c1M c0Y b29 c2F),c0a⟩)
 (b0f:PySem.W.codeIn K b29 "Sheet.make" = true) (a1F:PySem.W.keepIn K (.ref a7h) = true)
 {a2O:Addr} {b4H b5o b3Z b5d a7U b4R:Value} {b4u b5l:Option Addr} {b40:Array (Option Value)} (a5u:PySem.W.findIn K (.ref a0L) "board_of" = some (some (.ref a2O))) (a5x:PySem.W.isFn K (.ref a2O) = true)
 (a5i:K.lookup a2O = some ⟨b4H,b4u,.func (PySem.W.fnOf "board_of" "Sheet.board_of" (a0j a1L) (a0i a1L) (a0b a1L) .none b5o b3Z b5d b5l a7U b4R),b40⟩)
 (a5n:PySem.W.codeIn K a7U "Sheet.board_of" = true) (a1c:PySem.W.keepIn K (.ref a2O) = true)
 {a1Y:Addr} {b11 b2i b1a b2V a6W b1A:Value} {b2D b1w:Option Addr} {b2R:Array (Option Value)} (a3o:PySem.W.findIn K (.ref a0L) "board_with" = some (some (.ref a1Y))) (a3m:PySem.W.isFn K (.ref a1Y) = true)
 (a37:K.lookup a1Y = some ⟨b11,b2D,.func (PySem.W.fnOf "board_with" "Sheet.board_with" (a0j a1q) (a0i a1q) (a0b a1q) .none b2i b1a b2V b1w a6W b1A),b2R⟩)
 (a3Z:PySem.W.codeIn K a6W "Sheet.board_with" = true) (a0T:PySem.W.keepIn K (.ref a1Y) = true)
 {a2n:Addr} {b26 b3a b1J b2Y a7n b3B:Value} {b28 b3W:Option Addr} {b34:Array (Option Value)} (a4e:PySem.W.findIn K (.ref a0L) "board_for" = some (some (.ref a2n))) (a4p:PySem.W.isFn K (.ref a2n) = true)
 (a39:K.lookup a2n = some ⟨b26,b28,.func (PySem.W.fnOf "board_for" "Sheet.board_for" (a0j a1A) (a0i a1A) (a0b a1A) .none b3a b1J b2Y b3W a7n b3B),b34⟩)
 (a4m:PySem.W.codeIn K a7n "Sheet.board_for" = true) (a01:PySem.W.keepIn K (.ref a2n) = true)
 {a1Z:Addr} {b2M b1V b1d b2W a6Q b16:Value} {b2x b2k:Option Addr} {b2O:Array (Option Value)} (a3t:PySem.W.findIn K (.ref a0L) "check_cell" = some (some (.ref a1Z))) (a3k:PySem.W.isFn K (.ref a1Z) = true)
 (a3f:K.lookup a1Z = some ⟨b2M,b2x,.func (PySem.W.fnOf "check_cell" "Sheet.check_cell" (a0j a1i) (a0i a1i) (a0b a1i) .none b1V b1d b2W b2k a6Q b16),b2O⟩)
 (a3J:PySem.W.codeIn K a6Q "Sheet.check_cell" = true) (a1e:PySem.W.keepIn K (.ref a1Z) = true)
 {a1H:Addr} {b05 b06 b0D b04 a5A b03:Value} {b01 b02:Option Addr} {b08:Array (Option Value)} (a2V:PySem.W.findIn K (.ref a0L) "check_leans" = some (some (.ref a1H))) (a21:PySem.W.isFn K (.ref a1H) = true)
 (a2Z:K.lookup a1H = some ⟨b05,b01,.func (PySem.W.fnOf "check_leans" "Sheet.check_leans" (a0j a06) (a0i a06) (a0b a06) .none b06 b0D b04 b02 a5A b03),b08⟩)
 (a2U:PySem.W.codeIn K a5A "Sheet.check_leans" = true) (a05:PySem.W.keepIn K (.ref a1H) = true)
 {a1V:Addr} {b2h b1N b07 b2a a6l b13:Value} {b2f b1M:Option Addr} {b1v:Array (Option Value)} (a3h:PySem.W.findIn K (.ref a0L) "check_ring" = some (some (.ref a1V))) (a32:PySem.W.isFn K (.ref a1V) = true)
 (a3L:K.lookup a1V = some ⟨b2h,b2f,.func (PySem.W.fnOf "check_ring" "Sheet.check_ring" (a0j a1n) (a0i a1n) (a0b a1n) .none b1N b07 b2a b1M a6l b13),b1v⟩)
 (a33:PySem.W.codeIn K a6l "Sheet.check_ring" = true) (a1j:PySem.W.keepIn K (.ref a1V) = true)
 {a5P:Addr} (c7R:PySem.W.nsIn K mainGlobals "Rule" = some (some (.ref a5P)))
 (c4X:PySem.W.plainGet K a5P Str.empty = true) (c55:PySem.W.hasDictIn K a5P = true) (c52:PySem.W.plainOver K a5P = true) (c5C:PySem.W.findIn K (.ref a5P) "__setattr__" = some (some (.builtin "object.__setattr__"))) (c50:PySem.W.makesIn K a5P = true) (c5F:PySem.W.keepIn K (.ref a5P) = true) (c51:PySem.W.findIn K (.ref a5P) "__class__" = some (some (.builtin "object.__class__")))
 (a47:PySem.W.findIn K (.ref a5P) "function" = some none)
 {a5R:Addr} {c4t c4c c1E c4j b5C c3y:Value} {c39 c3i:Option Addr} {c4M:Array (Option Value)} (a8i:PySem.W.findIn K (.ref a5P) "__init__" = some (some (.ref a5R))) (b1X:PySem.W.isFn K (.ref a5R) = true)
 (b2q:K.lookup a5R = some ⟨c4t,c39,.func (PySem.W.fnOf "__init__" "Rule.__init__" (a0j a6w) (a0i a6w) (a0b a6w) .none c4c c1E c4j c3i b5C c3y),c4M⟩)
 (b2T:PySem.W.codeIn K b5C "Rule.__init__" = true) (a6I:PySem.W.keepIn K (.ref a5R) = true)
 (a8W:PySem.W.specialIn K (.ref a5P) "__getattribute__" = some (some (.builtin "type.__getattribute__"))) (a80:PySem.W.readsIn K a5P (.type "type") = true) (a9p:PySem.W.findCls K (.ref a5P) (.type "type") "__init__" = some (.val (.ref a5R)))
 {a3q:Addr} {b88 b8H b65 b89 b1j b9d:Value} {b9j b9q:Option Addr} {b9z:Array (Option Value)} (a8H:PySem.W.findIn K (.ref a5P) "reckon" = some (some (.ref a3q))) (a5I:PySem.W.isFn K (.ref a3q) = true)
 (a5G:K.lookup a3q = some ⟨b88,b9j,.func (PySem.W.fnOf "reckon" "Rule.reckon" (a0j a2k) (a0i a2k) (a0b a2k) .none b8H b65 b89 b9q b1j b9d),b9z⟩)
 (a5D:PySem.W.codeIn K b1j "Rule.reckon" = true) (a5H:PySem.W.keepIn K (.ref a3q) = true)
 {a1U:Addr} (c5v:PySem.W.nsIn K mainGlobals "Group" = some (some (.ref a1U)))
 (c0z:PySem.W.plainGet K a1U Str.empty = true) (c1G:PySem.W.hasDictIn K a1U = true) (c0r:PySem.W.plainOver K a1U = true) (c22:PySem.W.findIn K (.ref a1U) "__setattr__" = some (some (.builtin "object.__setattr__"))) (c11:PySem.W.makesIn K a1U = true) (c2c:PySem.W.keepIn K (.ref a1U) = true) (c1C:PySem.W.findIn K (.ref a1U) "__class__" = some (some (.builtin "object.__class__")))
 (a4d:PySem.W.findIn K (.ref a1U) "function" = some none)
 (b0a:PySem.W.findIn K (.ref a1U) "key" = some none)
 (a8A:PySem.W.findIn K (.ref a1U) "name" = some none)
 {a6Y:Addr} {c0V c2q b9y c1K b21 c18:Value} {c14 c0F:Option Addr} {c0O:Array (Option Value)} (a9b:PySem.W.findIn K (.ref a1U) "__init__" = some (some (.ref a6Y))) (b0Q:PySem.W.isFn K (.ref a6Y) = true)
 (a9G:K.lookup a6Y = some ⟨c0V,c14,.func (PySem.W.fnOf "__init__" "Group.__init__" (a0j a41) (a0i a41) (a0b a41) .none c2q b9y c1K c0F b21 c18),c0O⟩)
 (a9I:PySem.W.codeIn K b21 "Group.__init__" = true) (a4G:PySem.W.keepIn K (.ref a6Y) = true)
 {a5F:Addr} {b8y b8X b7W b9w b1o b8Q:Value} {b8L b8Y:Option Addr} {b8W:Array (Option Value)} (a8e:PySem.W.findIn K (.ref a1U) "leans" = some (some (.ref a5F))) (a8B:PySem.W.isFn K (.ref a5F) = true)
 (a8u:K.lookup a5F = some ⟨b8y,b8L,.func (PySem.W.fnOf "leans" "Group.leans" (a0j a3p) (a0i a3p) (a0b a3p) .none b8X b7W b9w b8Y b1o b8Q),b8W⟩)
 (a8C:PySem.W.codeIn K b1o "Group.leans" = true) (a3X:PySem.W.keepIn K (.ref a5F) = true)
 {a4y:Addr} {b8l b71 b6o b7i a9A b66:Value} {b7z b7L:Option Addr} {b61:Array (Option Value)} (a7F:PySem.W.findIn K (.ref a1U) "gather" = some (some (.ref a4y))) (a7t:PySem.W.isFn K (.ref a4y) = true)
 (a7A:K.lookup a4y = some ⟨b8l,b7z,.func (PySem.W.fnOf "gather" "Group.gather" (a0j a2L) (a0i a2L) (a0b a2L) .none b71 b6o b7i b7L a9A b66),b61⟩)
 (a7y:PySem.W.codeIn K a9A "Group.gather" = true) (a2H:PySem.W.keepIn K (.ref a4y) = true)
 (a2F:PySem.W.findIn K (.ref a1U) "reckon" = some (some (.ref a3q)))
 (c03:PySem.W.kitOne K (.ref a1U) (.type "list") = some false)
 (ow4:PySem.W.specialIn K (.builtin "object.__class__") "__get__" = some (some (.builtin "getset_descriptor.__get__"))) (ow5:PySem.W.takesIn K (.builtin "object.__class__") = some true)
 (c2x:PySem.W.mroIn K a1U (.type "object") = some true)
 (a0N:d14 ≠ a2o):Tops K mg /\ True /\ Tbs h K mg:=⟨{
 len:=PySem.W.mg_none_of X G d0D,
 isinstance:=PySem.W.mg_none_of X G a9g,
 int:=PySem.W.mg_none_of X G d0x,
 bool:=PySem.W.mg_none_of X G c8V,
 str:=PySem.W.mg_none_of X G d0X,
 all:=PySem.W.mg_none_of X G d07,
 range:=PySem.W.mg_none_of X G c6d,
 abs:=PySem.W.mg_none_of X G d0k,
 list:=PySem.W.mg_none_of X G c7z,
 tuple:=PySem.W.mg_none_of X G c5S,
 max:=PySem.W.mg_none_of X G c94,
 sum:=PySem.W.mg_none_of X G d0F,
 reversed:=PySem.W.mg_none_of X G b48,
 ValueError:=PySem.W.mg_none_of X G a9C,
 g_LETTERS:=⟨_,PySem.W.mg_of X G b73⟩,
 g_MOST_LETTERS:=⟨_,PySem.W.mg_of X G a7v⟩,
 g_ODD:=⟨d0L,PySem.W.mg_of X G d1f,fun H => .inr ⟨_,_,_,d0G,rfl,rfl,sl (by simp),.cons ⟨_,rfl⟩ (.cons ⟨_,rfl⟩ (.nil))⟩⟩,
 g_MOST_ROWS:=⟨_,PySem.W.mg_of X G b2n⟩,
 g_MOST_COLUMNS:=⟨_,PySem.W.mg_of X G a7x⟩,
 g_MOST_TABLES:=⟨_,PySem.W.mg_of X G a8w⟩,
 g_UNKNOWN:=⟨b7m,PySem.W.mg_of X G b7R,fun H => .inr ⟨_,_,_,b7o,rfl,rfl,sl (by simp),.cons ⟨_,rfl⟩ (.cons ⟨_,rfl⟩ (.nil))⟩⟩,
 d_is_whole:=a1a X G b4V b49 b4N a4n,
 d_is_number:=a1a X G b1O b2g b18 a6c,
 d_is_name:=a1a X G b7U b7y b8d a1R,
 d_is_fault:=a1a X G b4v b4j b5v a5J,
 d_is_value:=a1a X G b4J b4E b4U a4a,
 d_settled:=a1a X G b69 b7Z b7F b0o,
 d_check_size:=a1a X G a92 a9h a9r a26,
 d_check_place:=a1a X G a78 a8m a79 a1f,
 d_check_value:=a1a X G a8F a8y a8f a3K,
 d_check_values:=a1a X G a7C a7I a7E a1S,
 d_ring_from:=a1a X G b1R b1u b1C a6S,
 d_way_to:=a1a X G c0o c1U b93 b3Q,
 d_check_name:=a1a X G a9k a8Z b0A a4C,
 d_each_once:=a1a X G b2N b2c b1p a8b,
 d_law_mixed:=a1a X G b2F b2J b1s a2f,
 d_law_value:=a1a X G b10 b2K b2r a4h,
 d_law_answer:=a1a X G b0y a9H b0c a28,
 d_law_noted:=a1a X G b1G b1T b2t a6J,
 d_law_settled:=a1a X G a8z a8h a8E a3r,
 d_law_list:=a1a X G b4g b5c b5i a7W,
 d_law_right:=a1a X G b1W b2j b1r a6r,
 d_law:=a1a X G c88 c9l c9c c84,
 notabs:=notabs,
 t_Table:=⟨a09,{ c:=PySem.W.mg_of X G c6c,cl:=⟨c1Z,c13,c0J,c0L⟩,mks:=b98,kc:=c1H,hc:=c2v,n_row_numbers:=a2C,n_fresh_number:=a2a,n_kept:=a8p,m_init:=a0x a98 a85 a9l a82 a4T,m_many:=a0x a93 a86 b0L b0J a0P,m_numbers:=a0x a6L a6R a6u a5W a5X,m_columns:=a0x a6N a57 a6A a5S a5U,m_give:=a0x a9W b0O a91 a81 a4P,m_drop:=a0x a90 a8X a9i b0e b0C,m_put:=a0x b2C b1q b1y b17 a6j,m_at:=a0x b5g b4O b5a b4f a5K,m_number_at:=a0x a4j a4g a4t a4i a1B,m_check_column:=a0x a2D a2y a2E a2B a0I }⟩,
 t_Board:=⟨a1G,{ c:=PySem.W.mg_of X G c59,cl:=⟨c1e,c15,c1F,c0p⟩,mks:=b92,kc:=c20,hc:=c2g,n_given:=a7O,n_rules:=a7u,n_memory:=a6B,n_order:=a7L,m_init:=a0x a88 a9B b0n a97 a40,m_has_column:=a0x a3V a3Y a3E a3A a0U,m_content:=a0x a6C a50 a53 a6F a2b,m_set_column:=a0x a30 a3S a3d a3H a3s,m_empty_column:=a0x a2w a2A a2x a2z a0H,m_outcome:=a0x a5T a6h a6P a6m a2e }⟩,
 t_TableTold:=⟨a0G,{ c:=PySem.W.mg_of X G b1S,cl:=⟨a9N,b0h,a9D,a9V⟩,mks:=a9O,kc:=a9X,hc:=a9v,n_boards:=a2W,n_name:=a4s,n_size:=a4o,m_init:=a0x a44 a5s a48 a5h a1M,m_take:=a0x a5o a5a a5k a5c a1N }⟩,
 t_ColumnSet:=⟨a0D,{ c:=PySem.W.mg_of X G b2A,cl:=⟨a95,a9s,a83,a9x⟩,mks:=a8V,kc:=a9Z,hc:=a8Y,n_board:=a3w,n_column:=a2T,n_after:=a3B,n_before:=a2S,m_init:=a0x a5b a5l a5p a5j a1d,m_take:=a0x a5t a5e a49 a5q a1b }⟩,
 t_ValuePut:=⟨a0J,{ c:=PySem.W.mg_of X G b5k,cl:=⟨b2S,b1t,b15,b2B⟩,mks:=b2E,kc:=b1Q,hc:=b1I,n_board:=a4c,n_column:=a3N,n_place:=a4u,n_after:=a4k,n_before:=a3I,m_init:=a0x a6i a5Q a6p a5M a18,m_take:=a0x a6v a6f a6K a6H a2g }⟩,
 t_Trial:=⟨a34,{ c:=PySem.W.mg_of X G c40,cl:=⟨c19,c0B,c2t,c02⟩,mks:=c1k,kc:=c2W,hc:=c0M,n_finder:=a6s,n_looked:=a6D,n_lacking:=a5w,m_init:=a0x a9t a9P a9q a9L a4Y,m_look:=a0x a87 b0R a9u b0z b0b }⟩,
 t_Finder:=⟨a07,{ c:=PySem.W.mg_of X G b6S,cl:=⟨b7K,b7T,b8f,b7B⟩,mks:=b78,kc:=b7J,hc:=b7t,n_boards:=a5v,n_found:=a6t,n_looked:=a46,m_init:=a0x a8g a8D a8k a8d a2v,m_value_of:=a0x a4f a38 a4b a4l a4r,m_attempt:=a0x a5r a5d a5f a5y a45,m_gathered:=a0x a2r a2u a2t a2j a2l,m_settle:=a0x a59 a5V a6M a5L a6k,m_knows:=a0x a7J a7N a7B a7P a7H }⟩,
 t_Sheet:=⟨a0L,{ c:=PySem.W.mg_of X G c5k,cl:=⟨c04,c1c,c2p,c2T⟩,mks:=c26,kc:=c1v,hc:=c2z,n_boards:=a6y,n_changes:=a5m,n_finder:=a54,m_init:=a0x a94 a9a b0r b0l a4S,m_table:=a0x a8s a8n a8l a8o a3M,m_give:=a0x a9y b0F b0I a9j a4Q,m_rule:=a0x a9J b0d a96 b0G a4N,m_put:=a0x b12 b1E b2d b2I a6a,m_tables:=a0x a7M a7s a7K a7z a7G,m_columns:=a0x a6n a6b a55 a6E a6o,m_many:=a0x a9U a9d b0q a9Q a89,m_cell:=a0x b0x b0v b0s a84 a22,m_make:=a0x a9n b0E b0g b0f a1F,m_board_of:=a0x a5u a5x a5i a5n a1c,m_board_with:=a0x a3o a3m a37 a3Z a0T,m_board_for:=a0x a4e a4p a39 a4m a01,m_check_cell:=a0x a3t a3k a3f a3J a1e,m_check_leans:=a0x a2V a21 a2Z a2U a05,m_check_ring:=a0x a3h a32 a3L a33 a1j }⟩,
 t_Rule:=⟨a5P,{ c:=PySem.W.mg_of X G c7R,cl:=⟨c4X,c55,c52,c5C⟩,mks:=c50,kc:=c5F,hc:=c51,n_function:=a47,m_init:=a0x a8i b1X b2q b2T a6I,v_init:=⟨a8W,_,_,a80,a9p,a8i⟩,m_reckon:=a0x a8H a5I a5G a5D a5H }⟩,
 t_Group:=⟨a1U,{ c:=PySem.W.mg_of X G c5v,cl:=⟨c0z,c1G,c0r,c22⟩,mks:=c11,kc:=c2c,hc:=c1C,n_function:=a4d,n_key:=b0a,n_name:=a8A,m_init:=a0x a9b b0Q a9G a9I a4G,m_leans:=a0x a8e a8B a8u a8C a3X,m_gather:=a0x a7F a7t a7A a7y a2H,m_reckon:=a0x a2F a5I a5G a5D a5H,isl:=c03,own:=⟨c2x,ow4,ow5⟩ }⟩ },trivial,⟨⟨_,_,c9B X G c88 c9l c9c c84 d0V d0p,d1d X G b6S a2r a2u a2t a2j a2l a20,a0N,a1m⟩⟩⟩
theorem walk {l:PySem.W.OpenLaw} {q:Program} {loose:List Str} {XP:(Str -> Option Value) -> Heap -> Prop} {YP:World -> Heap -> Prop} {d:DefRec} {K:Params -> PySem.W.Frag} (hn:l.most = some 63) (hdf:d.params.defaults = []) (hdn:d.name = "law")
 (hY:∀ (w:World) (h:Heap),YP w h -> (K w.params).In h)
 (recs:((PyProof.Rows.recsOf q).find? (fun e => e.name == ("law" : Str))).isSome = true)
 (F:∀ (w:World) (mg:Str -> Option Value) (h:Heap),YP w h -> (K w.params).In h -> h.Ns mainGlobals mg -> Tops (K w.params) mg /\ True /\ Tbs h (K w.params) mg) :
 PySem.W.WalkO q loose XP YP l.row.toRowW d [] (fun f vs => PySem.call f vs) :=
 L2.c9p (n:=63) (k:=16) (x := "_law_script") (CX:=fun _ => CX0) (sp:=fun w tabs => d2n (K w.params) tabs) hn (by decide) hdf ⟨rfl,by decide,by decide⟩ hY
  (fun w mg fa h Yy KX G hmg => by
   obtain ⟨T,TD,TB⟩:=F w mg h Yy KX G
   obtain ⟨z_law,z_Finder_gathered,B_law,B_Finder_gathered,a0N,a1m⟩:=TB.bs
   obtain ⟨f,fd,F4,hm,hcd⟩:=B_law.ex
   rw [hdn] at hmg
   have e:=hmg.symm.trans hm
   cases e
   have r_law:=recs
   refine ⟨T.notabs,[z_law,z_Finder_gathered],fun z hz => ?_,fd,fun s u => ?_,fun base kb nb mk => ?_⟩
   ·simp only [List.mem_cons,List.not_mem_nil,or_false] at hz
    rcases hz with rfl | rfl
    ·exact .inl ⟨⟨_,r_law,B_law.tab⟩⟩
    ·exact .inr ⟨B_Finder_gathered.hd,a1m⟩
   ·obtain ⟨oc,od,kV,doc,pm,an,cdv,ct,osl,rfl,_⟩:=F4.ex
    exact .of_eq rfl
   ·exact d2z T B_law (mk _ (by simp)) B_Finder_gathered (mk _ (by simp)) a0N F4 hcd)
  (fun _ _ _ a ns hl hT hS => ⟨a,ns,rfl,hS,hl,hT,fun _ hT' => ⟨rfl,hT'⟩⟩) fun _ _ _ _ _ z => z
end My
namespace PySem.W.Fast
def tw16506834525186219453:=0
def tw14565729657653216475:=0
def tw4655440542740056579:=0
def tw15171317364227798876:=0
def tw18429098343712981674:=0
def tw10247839613257497997:=0
def tw84071917485390507:=0
def tw15444974096276127202:=0
def tw16585067434687819120:=0
def tw8422170871635878837:=0
def tw16371828387194410366:=0
def tw3111171514748501351:=0
def tw12334762626201613321:=0
def tw11115757536403789615:=0
def tw9835591272479892534:=0
def tw17897703288317034948:=0
def tw3283837045042254823:=0
def tw14837914910372549301:=0
def tw18305351116297776179:=0
def tw4109933969365914054:=0
def tw1668542131994804091:=0
def tw3003839215316056548:=0
def tw3502380785759576515:=0
def tw7188660404772943804:=0
def tw17857417459753296657:=0
def tw6368553639487835326:=0
def tw8441544198937450434:=0
def tw13845643188933677262:=0
def tw10021403672228908573:=0
def tw9236088877102272978:=0
def tw9661843091250300840:=0
def tw3264780161611702185:=0
def tw13758896095612569598:=0
def tw11901587348136384626:=0
def tw4388463215133381494:=0
def tw10131754333161032583:=0
def tw9278709058755993509:=0
def tw17524988592433206992:=0
def tw14757683891764457425:=0
def tw2119843303172498154:=0
def tw16533142757438373635:=0
def tw2614962140977723884:=0
def tw6037851357425764240:=0
def tw1434574329828648059:=0
def tw2360825648554871213:=0
def tw4037556759070727865:=0
def tw15538031411230135424:=0
def tw8379587675010702797:=0
def tw998528541752310282:=0
def tw11524752823019080781:=0
def tw8231490848463994984:=0
def tw3421406076996958427:=0
def tw15462446945820523116:=0
def tw9305873605551812115:=0
def tw14563731515399048506:=0
def tw7716826815273680157:=0
def tw10299655241746341990:=0
def tw17503337528515549641:=0
def tw11220951050529351413:=0
def tw15397238869765849541:=0
def tw9978843427139269684:=0
def tw1552555908308967031:=0
def tw17813550371414220550:=0
def tw5868148405731199146:=0
def tw7803318367876245980:=0
def tw11404134021153691268:=0
def tw12426447750269216891:=0
def tw1185061685019897988:=0
def tw16132131576195040153:=0
def tw1256667275470084960:=0
def tw9681744141561112107:=0
def tw5483854126271074050:=0
def tw12848319425080917820:=0
def tw574756016579808758:=0
def tw15730131413825808284:=0
def tw8754342839670080685:=0
def tw1677661345963310066:=0
def tw4239891156489234218:=0
def tw5637583721620796101:=0
def tw2630163794836955786:=0
def tw14708417855395353187:=0
def tw16480501086862646999:=0
def tw14798072365747414577:=0
def tw14553866313290285707:=0
def tw1623362445867444089:=0
def tw15504115447866450044:=0
def tw4411530466549137550:=0
def tw1267246677527188915:=0
def tw14626401261209006343:=0
def tw614383070764825182:=0
def tw8733919315781229029:=0
def tw819387819013744559:=0
def tw5305132614920092902:=0
def tw5683886364151387713:=0
def tw911620775672011057:=0
def tw12131637191371933406:=0
def tw9222166411338452948:=0
def tw13523679279577419810:=0
def tw5802337333249666152:=0
def tw5038010804252262961:=0
def tw4045340526764646231:=0
def tw5846808244374711669:=0
def tw704544934191228512:=0
def tw10709571865853829870:=0
def tw3048249572590416231:=0
def tw12785836058689225901:=0
def tw658272426198817364:=0
def tw2883397125364744660:=0
def tw9193985798221273910:=0
def tw13809305426557079578:=0
def tw1986820333265867188:=0
def tw7957698997556060124:=0
def tw16150647441481015537:=0
def tw6163320101681863317:=0
def tw5642880772893713495:=0
def tw412691003725528572:=0
def tw3437359930925775944:=0
def tw8929038788841884733:=0
def tw10283127804049033139:=0
def tw10006911930177521703:=0
def tw4299915317817079265:=0
def tw15503185265248586661:=0
def tw4552960240682286861:=0
def tw17466869178937561060:=0
def tw6857324281525718997:=0
def tw1274776161672356741:=0
def tw6010081536942822320:=0
def tw1389868002686823781:=0
def tw7130066507009925634:=0
def tw5735279517418799885:=0
def tw10145767148992581509:=0
def tw6599837022175963470:=0
def tw17560525047015177044:=0
def tw9044351154227513618:=0
def tw11194857142665615912:=0
def tw16618990843414327098:=0
def tw15276160806700377096:=0
def tw89201637136086412:=0
def tw10011321035862353661:=0
def tw635243408053993887:=0
def tw14301576364405231264:=0
def tw2222079319741704099:=0
def tw11301594635272642982:=0
def tw6880266337425766325:=0
def tw17384330344578249527:=0
def tw7373615888788250854:=0
def tw8138965264811670090:=0
def tw683359433869432787:=0
def tw15995348966621919219:=0
def tw7100252051915163766:=0
def tw9543857014900904302:=0
def tw9814997937960984803:=0
def tw11917995141456059886:=0
def tw8993145487110172657:=0
def tw17989925788419076029:=0
def tw7270993010322857947:=0
def tw1872615107285600427:=0
def tw14796258806634535770:=0
def tw10200503769452278129:=0
def tw1968568049066571233:=0
def tw5706325780335050961:=0
def tw1872917922602991401:=0
def tw8597385864887027928:=0
def tw6104855581129138369:=0
def tw2074861629426528589:=0
def tw6915824167036342598:=0
def tw9594096310171622581:=0
def tw3304865228729555949:=0
def tw12453117314556995068:=0
def tw10692366850005066895:=0
def tw16278005060066787919:=0
def tw8501075257235317665:=0
def tw12988188938852026258:=0
def tw6903822259529052733:=0
def tw10377534937431385274:=0
def tw10905217579930655567:=0
def tw13653660378248540892:=0
def tw12221829355808221865:=0
def tw78156349414652669:=0
def tw4471254758644867321:=0
def tw10078324560535738290:=0
def tw4223624422338716117:=0
def tw10301932887171554990:=0
def tw16540095059997981907:=0
def tw15221394071415539763:=0
def tw17036572395421958568:=0
def tw10806649606685331562:=0
def tw6012796681424006547:=0
def tw8876028747037079368:=0
def tw15108599262434696899:=0
def tw18119891138570662521:=0
def tw16422704568564005580:=0
def tw13509763537075617298:=0
def tw10713475060926791411:=0
def tw10745399523693028207:=0
def tw10247014513965287157:=0
def tw2600369712202608348:=0
def tw10265856287226474494:=0
def tw17129797033267342096:=0
def tw15327290026847143340:=0
def tw17584692882841687818:=0
def tw16685813095277956151:=0
def tw6111856368837463917:=0
def tw8609131534630493035:=0
def tw13037292747456402063:=0
def tw9735784508184988075:=0
def tw5135813575155043601:=0
def tw17137319508756843732:=0
def tw4054181001129594824:=0
def tw17499496595150914907:=0
def tw9702812170948341508:=0
def tw211387887549067696:=0
def tw11850613803228547100:=0
def tw16559421727079920041:=0
def tw9328731270040772060:=0
def tw4792975089469100798:=0
def tw4787266568922313884:=0
def tw2530902819896593058:=0
def tw12461965588019357610:=0
def tw97347305231518691:=0
def tw11129205613453723079:=0
def tw7031260065845274351:=0
def tw17943239295359120734:=0
def tw1734921949576040272:=0
def tw8278942963586409891:=0
def tw9262560466471828659:=0
def tw6884578530093397439:=0
def tw15614980908474164893:=0
def tw12481937264179200721:=0
def tw2612244312966602795:=0
def tw16039257011996224456:=0
def tw5127872719931090096:=0
def tw7017838167409536559:=0
def tw18356443577613675475:=0
def tw971520304222985617:=0
def tw10857436699377325285:=0
def tw3484923107323998152:=0
def tw510402866350445951:=0
def tw14513209615807195343:=0
def tw15494497053204303769:=0
def tw17721251455732242874:=0
def tw7632014900177067453:=0
def tw14315356327252926350:=0
def tw2002859948511900423:=0
def tw10852298174958739564:=0
def tw15477285944179117313:=0
def tw1316857857707759449:=0
def tw17636424306029117501:=0
def tw3602786507801520690:=0
def tw2039334677304901053:=0
def tw2299474065495702396:=0
def tw17620847247841274627:=0
def tw7491650696171568298:=0
def tw7204721914914722799:=0
def tw6732858333967969809:=0
def tw1251159436302696517:=0
def tw4187942601604663264:=0
def tw17187701959823894312:=0
def tw12911104618522606143:=0
def tw17088480908755325429:=0
def tw4034184591433637277:=0
def tw2836853355894623031:=0
def tw18331551561197417871:=0
def tw3549052436338910356:=0
def tw12546899683720491570:=0
def tw8580609158038042525:=0
def tw4591732726303249140:=0
def tw14718069931554030667:=0
def tw15043180649846520050:=0
def tw7497785422715424594:=0
def tw9235670912694447513:=0
def tw11388039615085262452:=0
def tw14400832629019732332:=0
def tw12256412292230729374:=0
def tw3961907588490084124:=0
def tw6851792090857663718:=0
def tw15570160733455923871:=0
def tw9717489106587558068:=0
def tw17191088033807695362:=0
def tw16249407896507404238:=0
def tw2450421170199634276:=0
def tw3510415993854313485:=0
def tw8349673156110940040:=0
def tw7036487343880861239:=0
def tw12144433371109184753:=0
def tw17140153413679337323:=0
def tw18385242662637934568:=0
def tw12848457118374319432:=0
def tw7155780286782210245:=0
def tw2174114198839885890:=0
def tw18109254209188521928:=0
def tw5191210645924351241:=0
def tw12645963794444870297:=0
def tw5712830097978750317:=0
def tw2088787862390717617:=0
def tw281762240966232183:=0
def tw17611712246484531943:=0
def tw12364690103470245701:=0
def tw70417941340612247:=0
def tw10794049679575782386:=0
def tw6872827083553170497:=0
def tw9912921333061499573:=0
def tw14841482178571845917:=0
def tw5907037585824879756:=0
def tw11772413331852528166:=0
def tw10801901004617786087:=0
def tw15885800480281912316:=0
def tw2803596855287434126:=0
def tw1621446057037887528:=0
def tw12381921154965149720:=0
def tw15697803470480174164:=0
def tw11800691977645623229:=0
def tw4854856331610234807:=0
def tw2916142142783468977:=0
def tw10049153355674663158:=0
def tw6595041246067775871:=0
def tw17593593422564344077:=0
def tw6115702911089535979:=0
def tw381912410816182170:=0
def tw6482503014032985041:=0
def tw861151720393017943:=0
def tw15469632016139151517:=0
def tw14429631785753546070:=0
def tw15064780850921281937:=0
def tw14661839115681689899:=0
def tw4748084156626718875:=0
def tw17433002936143280356:=0
def tw5174951852027301720:=0
def tw12657141485761497810:=0
def tw11069504744550847372:=0
def tw17544159857681953949:=0
def tw4088267130565020985:=0
def tw8309131879593442117:=0
def tw2535169266839635551:=0
def tw2182524645921718609:=0
def tw16766337250520138736:=0
def tw10102680827185019970:=0
def tw874798406344617010:=0
def tw863150590352282617:=0
def tw5597432995016069600:=0
def tw17990725921356462532:=0
def tw9735972845536393748:=0
def tw18207094950127294595:=0
def tw10583937956906778794:=0
def tw6266448319421225806:=0
def tw14056374957306370464:=0
def tw17951092900253346137:=0
def tw6491325805156856814:=0
def tw4529876905305861445:=0
def tw8759315092936960465:=0
def tw6450246901065319023:=0
def tw17509724012086395962:=0
def tw18356209487908672853:=0
def tw14764642413811283879:=0
def tw8619140604176845940:=0
def tw1974146213675957576:=0
def tw11715954916369595240:=0
def tw15553233449351806108:=0
def tw4683094609206136429:=0
def tw5636490815439952274:=0
def tw16340964765801311637:=0
def tw10394411976110797649:=0
def tw7733195829999515051:=0
def tw12350781590863792611:=0
def tw15411086074330607951:=0
def tw10667981346845680043:=0
def tw3169386107947151630:=0
def tw1870020462593421387:=0
def tw12437818205686227274:=0
def tw5893026546474283134:=0
def tw6682375012415531580:=0
def tw17696627578823286676:=0
def tw7270763756273205543:=0
def tw1331893202536996715:=0
def tw9372615458739324164:=0
def tw6432167429432749670:=0
def tw14528814924129423709:=0
def tw3067027645457007868:=0
def tw7611686683421908160:=0
def tw1629207839328627801:=0
def tw12670245469963597845:=0
def tw12010308656457149733:=0
def tw16780194869510918263:=0
def tw3966895254961865107:=0
def tw3387999329525665257:=0
def tw3600765780709873188:=0
def tw3597907734253004545:=0
def tw1153739394788038334:=0
def tw9563624765832682963:=0
def tw12334185440928316:=0
def tw9900943364491562186:=0
def tw7409507952125708599:=0
def tw17809697378993578134:=0
def tw1330385240311622051:=0
def tw12546385814749239457:=0
def tw2040875445145199874:=0
def tw12702406811418107871:=0
def tw10368867520817254620:=0
def tw2023493376267556049:=0
def tw15788574961619616619:=0
def tw3611696051904934167:=0
def tw3897334892507348848:=0
def tw16149414251198582294:=0
def tw6699045931007100774:=0
def tw14110526985394453158:=0
def tw3126644044145846516:=0
def tw5703067062287177069:=0
def tw3795713075104971086:=0
def tw16715800933742496730:=0
def tw16172055643850936979:=0
def tw9339325492255220876:=0
def tw9481200851565098122:=0
def tw12368254036576612151:=0
def tw11684808304621833562:=0
def tw5386764648122021945:=0
def tw4129182554006866607:=0
def tw4365550288175297799:=0
def tw4340961039215954673:=0
def tw15414085839806677769:=0
def tw1547290732189029065:=0
def tw2635433891415940109:=0
def tw8858628653404152037:=0
def tw4371506104338087922:=0
def tw15246177720618441007:=0
def tw4772032314178585615:=0
def tw10477709709886936295:=0
def tw16897508383375335589:=0
def tw16305071579715033915:=0
def tw5546070818886475363:=0
def tw3729321647422944799:=0
def tw2812803911894852475:=0
def tw6180471494733596085:=0
def tw2031299111942310438:=0
def tw6178838101950060725:=0
def tw3075435848806043089:=0
def tw18237253894206464427:=0
def tw12623524274434378793:=0
def tw10905091267510327937:=0
def tw1315268858605852914:=0
def tw17276230998701429178:=0
def tw4056783496653773371:=0
def tw14971133588096884265:=0
def tw17697296613537157034:=0
def tw8817151233402568426:=0
def tw10433347801519007081:=0
def tw11526254635557786635:=0
def tw7461103114765189213:=0
def tw10265084809416620134:=0
def tw5440289180925798745:=0
def tw11182523905493798523:=0
def tw7617815014223979065:=0
def tw5687744718191425971:=0
def tw3871373844531034668:=0
def tw7806347740658292477:=0
def tw1692339614720541162:=0
def tw11118217960799286246:=0
def tw5627105860062355682:=0
def tw11543405667012321958:=0
def tw14255856141872225410:=0
def tw12748619682227192817:=0
def tw4293905469349906384:=0
def tw3475687182202244040:=0
def tw2020537180599671571:=0
def tw15877453056902975825:=0
def tw417576504505025628:=0
def tw14493937136660793201:=0
def tw5139027998868217695:=0
def tw15122289878538669308:=0
def tw9819228260140745838:=0
def tw4151971169799187230:=0
def tw4251348944969121411:=0
def tw14283593588417462621:=0
def tw277604996764171212:=0
def tw12561294005355510377:=0
def tw16350523725281696887:=0
def tw16019156455602163869:=0
def tw14450706913870337932:=0
def tw6185135479544682583:=0
def tw563325826941107255:=0
def tw4380560861141313546:=0
def tw6219665394631638035:=0
def tw18285859924798121615:=0
def tw13309209417990914719:=0
def tw7495452464076611419:=0
def tw40360648738007058:=0
def tw11183239131842762216:=0
def tw16961609759192619767:=0
def tw9173852691310671537:=0
def tw7536688722196770340:=0
def tw12293024169324466350:=0
def tw7420492795652980127:=0
def tw14788676376994638637:=0
def tw31972107873362171:=0
def tw2825901099663831390:=0
def tw15621175240677024928:=0
def tw12164899491005697358:=0
def tw12371490888462372228:=0
def tw7610472583155296203:=0
def tw4184439279126671576:=0
def tw14557887901023158119:=0
def tw11145930916803897866:=0
def tw11522589775861571899:=0
def tw17356989954828369324:=0
def tw5036550451645127803:=0
def tw9465255767282315522:=0
def tw14333764724404464443:=0
def tw1897262834573243998:=0
def tw8248016708348451376:=0
def tw12018721761737199163:=0
def tw18349323804829876234:=0
def tw14077031860617051501:=0
def tw16043343025477819425:=0
def tw13815834154547307773:=0
def tw6372251680988861152:=0
def tw16971240881529242868:=0
def tw4872872799458991630:=0
def tw3453215496924476764:=0
def tw4984362519517568176:=0
def tw1185034090070297440:=0
def tw4571285123160055978:=0
def tw3207534742106899637:=0
def tw15495461295989565636:=0
def tw11433909594913132383:=0
def tw15005074641259008246:=0
def tw14068595857252322227:=0
def tw16853875312947493537:=0
def tw16473081058396804582:=0
def tw7667425573682594995:=0
def tw1405260731081521957:=0
def tw12959464353884040740:=0
def tw148705181006927957:=0
def tw16614894107539018529:=0
def tw5682535375762016208:=0
def tw2594891517801719648:=0
def tw11036860005450889954:=0
def tw17062571976323622305:=0
def tw11892661315571769716:=0
def tw16468446402824384378:=0
def tw6165639728769300247:=0
def tw7540316397667286036:=0
def tw3693557641789487708:=0
def tw3997890165704410490:=0
def tw166882519559699083:=0
def tw10847121783991549551:=0
def tw1490957050782503056:=0
def tw6319313245654110116:=0
def tw17679343254356904227:=0
def tw14201716262845724331:=0
def tw12256450116811025832:=0
def tw4316640175878247765:=0
def tw9872769313422035836:=0
def tw17560163731573448739:=0
def tw15843545531284280667:=0
def tw12637961684836914037:=0
def tw7073169664340287497:=0
def tw18153134218040288834:=0
def tw6763260267473452457:=0
def tw12213378671363446425:=0
def tw14684068276608806599:=0
def tw17728407274464850576:=0
def tw2880686431788745326:=0
def tw4497536936181338338:=0
def tw14142663952676756530:=0
def tw1081985367999973535:=0
def tw14600774874436323644:=0
def tw9835014350158648285:=0
def tw2834914419371408237:=0
def tw7176526461996694042:=0
def tw11815458035059349733:=0
def tw13619639430440788144:=0
def tw5450296242567341532:=0
def tw16069623525940198322:=0
def tw9489736322729464949:=0
def tw15001254721806991781:=0
def tw4086449721804643804:=0
def tw2601901912715707320:=0
def tw15504987104202661502:=0
def tw2756694778585969762:=0
def tw1282873027712396028:=0
def tw2319977190342494653:=0
def tw9581081202042075046:=0
def tw1225258382763345842:=0
def tw12453185019090878846:=0
def tw14836735363739129995:=0
def tw2837603107208315612:=0
def tw18114159496252815405:=0
def tw1065747927621578024:=0
def tw15509301958780500674:=0
def tw12209357942336874208:=0
def tw2989664633012100440:=0
def tw15677515329117465082:=0
def tw10996696624823393916:=0
def tw5090410019427990856:=0
def tw10641165274109253410:=0
def tw8369343923973662501:=0
def tw6084725139206424366:=0
def tw16901314771182931548:=0
def tw11483376488063400349:=0
def tw18314739623630517921:=0
def tw14164245530356460038:=0
def tw6023522034283891643:=0
def tw1524787369591048338:=0
def tw15749751919510411789:=0
def tw13714027042203531577:=0
def tw15646442881397286064:=0
def tw7480841301627971130:=0
def tw3254727914137951798:=0
def tw4182534367834580953:=0
def tw2245738932596611948:=0
def tw350348453899675956:=0
def tw12422645082221784161:=0
def tw7950817295862824305:=0
def tw6092876653013860114:=0
def tw8084795984125871054:=0
def tw2447341279304253885:=0
def tw14886223057845641173:=0
def tw9274405899837181715:=0
def tw14127174677535680762:=0
def tw16280344794856762245:=0
def tw3287815282126246351:=0
def tw3158602081764944492:=0
def tw9850333810186532813:=0
def tw18354257711537518320:=0
def tw8652404902624604119:=0
def tw10020214756554865895:=0
def tw4828732434814542985:=0
def tw12269867283332742388:=0
def tw7959298902216435634:=0
def tw2648319432264311494:=0
def tw3549770982689282600:=0
def tw10993517161231205016:=0
def tw8185238264195547338:=0
def tw11949861612603900228:=0
def tw15307636710347702030:=0
def tw18249430649519798383:=0
def tw10652101985925031827:=0
def tw812446234473661190:=0
def tw8829211631561510448:=0
def tw14811515493180295776:=0
def tw1956764322478693125:=0
def tw2005820130790010184:=0
def tw9089051142976530043:=0
def tw15418805988572168179:=0
def tw3288689175816820872:=0
def tw709462983689849059:=0
def tw11626182364804820848:=0
def tw17923024417427606558:=0
def tw18291935379196982232:=0
def tw1870576906023575340:=0
def tw3350995399578532618:=0
def tw12187079947971031586:=0
def tw7349154623274392076:=0
def tw10020429367691053505:=0
def tw6535725336176472129:=0
def tw12217790724700355439:=0
def tw1868093535920340148:=0
def tw6365663857902798724:=0
def tw872958876625249767:=0
def tw9760279453804289222:=0
def tw3060598938307437106:=0
def tw11624648812481102087:=0
def tw7080004321251444057:=0
def tw2659337907925380811:=0
def tw387359289323503633:=0
def tw16278143258028280403:=0
def tw14698624163134157176:=0
def tw12368041324380644796:=0
def tw9832374022317945726:=0
def tw12358019528136695277:=0
def tw580300033546617176:=0
def tw15166214315038627022:=0
def tw2721409687583183576:=0
def tw10194581550255556273:=0
def tw8641166284990669878:=0
def tw15628206975062517770:=0
def tw9412568366954712447:=0
def tw17206991799403372551:=0
def tw16109819530481482696:=0
def tw10256046850717103602:=0
def tw10750070614475318574:=0
def tw1066921243718866582:=0
def tw11300600288107878396:=0
def tw10236102965569579741:=0
def tw11795410325294060028:=0
def tw15801714661894883803:=0
def tw13488747117474722883:=0
def tw4889928882523976561:=0
def tw919833771969412039:=0
def tw11706566010483372040:=0
def tw3834548901611420051:=0
def tw7774725981892999934:=0
def tw268837371951856577:=0
def tw16829089895313848164:=0
def tw1983067632548162597:=0
def tw1866287106504847789:=0
def tw13978588982454534283:=0
def tw10346180409881439836:=0
def tw13987915042145779289:=0
def tw7845486972482064803:=0
def tw8108490721626327045:=0
def tw11445437441797012097:=0
def tw17883027229010714449:=0
def tw12049294473580578493:=0
def tw4792505339359180018:=0
def tw13782212538594585834:=0
def tw17716656215825967936:=0
def tw10119708407299978685:=0
def tw8237732068232741363:=0
def tw11634800603673586890:=0
def tw420652054268744512:=0
def tw3624294447780579173:=0
def tw11006776273951514972:=0
def tw17552951772261829170:=0
def tw17254237690277242710:=0
def tw3545876540763413232:=0
def tw16016079999247184895:=0
def tw14999239965345163048:=0
def tw4005348255437660688:=0
def tw11089965984307433522:=0
def tw12923735058049190323:=0
def tw18396544106112765843:=0
def tw3782922784896031237:=0
def tw9479662053317144686:=0
def tw2702464358818694978:=0
def tw18133034169690757186:=0
def tw62019221379002202:=0
def tw12666370568467179552:=0
def tw8195919033427456603:=0
def tw6459219589871774017:=0
def tw12729808075858437293:=0
def tw5431324176964725187:=0
def tw8940561002775258844:=0
def tw9129403808758791883:=0
def tw17678632179274972781:=0
def tw17398950916167990475:=0
def tw7389930712458612130:=0
def tw2680874832660228113:=0
def tw4530431410652045116:=0
def tw3150282714069723928:=0
def tw9074524655104143343:=0
def tw317581458547606177:=0
def tw8587476838980165687:=0
def tw14786316150874861044:=0
def tw2985770691012345655:=0
def tw17974653610258673412:=0
def tw492414325142000839:=0
def tw9365414872815085036:=0
def tw3855733881516005852:=0
def tw4879548481793418192:=0
def tw10509116373433597923:=0
def tw12913468037453664288:=0
def tw10353921098517199258:=0
def tw12640650424066133304:=0
def tw16138853841669486481:=0
def tw12249573644288159575:=0
def tw15567524435671336493:=0
def tw15361966957789638994:=0
def tw16967251604180120047:=0
def tw4533467683154617035:=0
def tw10621586742557644616:=0
def tw11774083843460650703:=0
def tw2525415154555431071:=0
def tw12659747467766374418:=0
def tw10441398851136501373:=0
def tw9196933351498212515:=0
def tw9720304534056853267:=0
def tw7425388544416654145:=0
def tw14688607846408061390:=0
def tw9709393621297336470:=0
def tw11144680054201446538:=0
def tw2764569414787722598:=0
def tw13166457801275852402:=0
def tw10716362420752917579:=0
def tw184086244721882698:=0
def tw10508556627761813008:=0
def tw6594089249803891594:=0
def tw14514882502527042736:=0
def tw1333286856426769090:=0
def tw18219453760967754545:=0
def tw13528519221424043990:=0
def tw17912453115463581605:=0
def tw475053452669217496:=0
def tw10376152363793471415:=0
def tw10559095865109737315:=0
def tw5308251668738330490:=0
def tw11684922842561948913:=0
def tw12100762646343832574:=0
def tw297582347802312646:=0
def tw10687817962535981447:=0
def tw14266795561612383189:=0
def tw3101874507549174498:=0
def tw2988932795839253583:=0
def tw14660341132469420513:=0
def tw17798766265323486212:=0
def tw3729551422259485498:=0
def tw4133992286485750302:=0
def tw7781824743687967602:=0
def tw3190943431195616606:=0
def tw3435154203718155268:=0
def tw7947339919358429570:=0
def tw4037605678403909282:=0
def tw5628041628681931582:=0
def tw8314801515440293444:=0
def tw16046850624676526571:=0
def tw5741064617198498447:=0
def tw2071885633254067191:=0
def tw7346911739524813100:=0
def tw18063984666537623074:=0
def tw18286829558492938076:=0
def tw9809776877802040552:=0
def tw803628959335524064:=0
def tw3352392352459330735:=0
def tw10285993134160970927:=0
def tw7275182746638815231:=0
def tw2548675249429252769:=0
def tw13462640022400520593:=0
def tw3337227411780019683:=0
def tw2896219038367400146:=0
def tw2662145655597978394:=0
def tw16215779585353281264:=0
def tw3025694469774479851:=0
def tw14047472492634370667:=0
def tw7809163825998434516:=0
def tw15151604343057491580:=0
def tw6124609734586510754:=0
def tw8758868218796683310:=0
def tw12939919982060512390:=0
def tw10572871155460638084:=0
def tw1731567425441202195:=0
def tw10653567519554886174:=0
def tw1655650704677330440:=0
def tw13208228655843803590:=0
def tw112894947273871878:=0
def tw2862374406374090653:=0
def tw1603922874342947612:=0
def tw730944268068018032:=0
def tw5165351696031971520:=0
def tw14314734551758873355:=0
def tw5724721957883707701:=0
def tw696400343169847415:=0
def tw3104069000980499781:=0
def tw14785087701350002612:=0
def tw710360498790503643:=0
def tw18369565659937163121:=0
def tw5233263136121201006:=0
def tw837259504958421393:=0
def tw12429457444672617996:=0
def tw14856275917055910024:=0
def tw10534543547815400513:=0
def tw9987012926019779523:=0
def tw18147584276294874851:=0
def tw17714896613487181037:=0
def tw1485501612044738132:=0
def tw13663901137138336320:=0
def tw11019102925188763215:=0
def tw13975780816124929668:=0
def tw7458980420929343978:=0
def tw7487540725551847984:=0
def tw3167548787063650438:=0
def tw14272970087101674839:=0
def tw9722083957774632369:=0
def tw5240221518986902254:=0
def tw15072380592691902262:=0
def tw3198821408493582605:=0
def tw14620883005577325724:=0
def tw2206551590733743159:=0
def tw17606985941800306925:=0
def tw17182872958298296592:=0
def tw9929735977706985283:=0
def tw6019296204838969776:=0
def tw6844135877950309056:=0
def tw11939000890015502754:=0
def tw17115921041498205752:=0
def tw17608006341866988506:=0
def tw17909647366724447668:=0
def tw10006999403287817193:=0
def tw17430487672595726295:=0
def tw2956378921178273472:=0
def tw6288203046451205441:=0
def tw17453922913045157299:=0
def tw8360018820928447516:=0
def tw10791845613511263363:=0
def tw3164163693728974552:=0
def tw8764713075200181442:=0
def tw8503143367179243288:=0
def tw14826356758496874892:=0
def tw1169344437380575509:=0
def tw9792174176352076425:=0
def tw11597546905229539359:=0
def tw11539492497241042685:=0
def tw13548660787617233643:=0
def tw3117621455379039905:=0
def tw3851968670668398461:=0
def tw12999644907955044659:=0
def tw1621102265500712982:=0
def tw17194647378437866827:=0
def tw15226695127248860663:=0
def tw16820604170109856215:=0
def tw14188785555433373168:=0
def tw8796472224687043623:=0
def tw14818117912535451186:=0
def tw2383142085283512962:=0
def tw18210503987289516857:=0
def tw9948092710316601666:=0
def tw15847809962141758627:=0
def tw9508624892432372518:=0
def tw14304470321808124392:=0
def tw7318220574591977661:=0
def tw4130824523364289570:=0
def tw3984191923062476628:=0
def tw1636699661020279115:=0
def tw15195202533610143687:=0
def tw1447009844824407798:=0
def tw13228840915254645814:=0
def tw9828400258900881472:=0
def tw17398566372480966759:=0
def tw16587461496409612359:=0
def tw5087468990545188611:=0
def tw11439985944405597429:=0
def tw4906137377836547143:=0
def tw13667753410457314953:=0
def tw17766090064949990284:=0
def tw14255691878058266375:=0
def tw18244565422753329935:=0
def tw9858823173922008105:=0
def tw13515387604993653788:=0
def tw6641323475943368732:=0
def tw9961483958921328998:=0
def tw13883890617049507640:=0
def tw6491029138012834668:=0
def tw17020350884199195470:=0
def tw17949858834432290970:=0
def tw15992893910690076590:=0
def tw18026772336925429998:=0
def tw5751850522763198372:=0
def tw414621198986021285:=0
def tw16198304318817347739:=0
def tw7311727355691759270:=0
def tw5094413533694786550:=0
def tw15301180051582662170:=0
def tw8221466762479624863:=0
def tw5560908927212542723:=0
def tw5961816218018376806:=0
def tw4553427103299659218:=0
def tw11613575124372363513:=0
def tw10070670480088264852:=0
def tw2843801734304054780:=0
def tw14991919595577509347:=0
def tw4429251237592596129:=0
def tw442104671318138607:=0
def tw3478607497189270220:=0
def tw6807671549267989365:=0
def tw2379351145754218299:=0
def tw5367148477682935121:=0
def tw15299081959501395382:=0
def tw5935698866994778118:=0
def tw6645886008237195317:=0
def tw1089155052010255598:=0
def tw8162141507046537162:=0
def tw4353775822685551941:=0
def tw16815541920890038596:=0
def tw10256972494438380457:=0
def tw5187485622171945393:=0
def tw12314223306101526897:=0
def tw7064003289284873548:=0
def tw10527131004113538261:=0
def tw10554788628951949729:=0
def tw3141089035221104169:=0
def tw7595931288497027261:=0
def tw624626048734892441:=0
def tw14991897111939827268:=0
def tw7429054701810876402:=0
def tw10686519297985252727:=0
def tw2978396645952548222:=0
def tw1558924989735205042:=0
def tw521676938833647281:=0
def tw7874748104776419549:=0
def tw2241462337601076399:=0
def tw8566229289120016553:=0
def tw15452205730718235409:=0
def tw11795659715567284107:=0
def tw164145743152369831:=0
def tw1399806128293107344:=0
def tw14299927246674758441:=0
def tw2815097723370111224:=0
def tw15633785130831319699:=0
def tw5366814182677123823:=0
def tw2224869175955216257:=0
def tw1808638474175211101:=0
def tw9871741510377428699:=0
def tw5139593953406156602:=0
def tw2200234372531489586:=0
def tw1409652072077070041:=0
def tw13131548933278910792:=0
def tw6082161325198806275:=0
def tw4172616308905425500:=0
def tw13256647975976498371:=0
def tw7562725882740673263:=0
def tw14251292390806179969:=0
def tw3080154613084465647:=0
def tw8279240732045167182:=0
def tw1691523021408940406:=0
def tw12458864523735975315:=0
def tw10047975162943531162:=0
def tw3606788937562508734:=0
end PySem.W.Fast
open PySem PySem.W PyProof.Rows
set_option maxRecDepth 100000 in
set_option maxHeartbeats 0 in
theorem PySem.Challenge.cw_lazycols_k28_groups_holds : PySem.Challenge.rw_lazycols_k28_groups.Holds := by
 w_on; o_law; k_head; (case hw => w_witness2)
 k_fill
 refine My.walk (l:=PySem.Challenge.rw_lazycols_k28_groups) rfl rfl rfl (fun w h Y => PySem.W.km_in_of Y) ?R ?F
 case R => first | exact rfl | decide +kernel
 case F =>
  intro w mg h Y KX G
  refine' My.d1e (PP:=w.params) KX G ?d0D ?a9g ?d0x ?c8V ?d0X ?d07 ?c6d ?d0k ?c7z ?c5S ?c94 ?d0F ?b48 ?a9C ?b73 ?a7v ?d1f ?d0G ?b2n ?a7x ?a8w ?b7R ?b7o ?b4V ?b49 ?b4N ?a4n ?b1O ?b2g ?b18 ?a6c ?b7U ?b7y ?b8d ?a1R ?b4v ?b4j ?b5v ?a5J ?b4J ?b4E ?b4U ?a4a ?b69 ?b7Z ?b7F ?b0o ?a92 ?a9h ?a9r ?a26 ?a78 ?a8m ?a79 ?a1f ?a8F ?a8y ?a8f ?a3K ?a7C ?a7I ?a7E ?a1S ?b1R ?b1u ?b1C ?a6S ?c0o ?c1U ?b93 ?b3Q ?a9k ?a8Z ?b0A ?a4C ?b2N ?b2c ?b1p ?a8b ?b2F ?b2J ?b1s ?a2f ?b10 ?b2K ?b2r ?a4h ?b0y ?a9H ?b0c ?a28 ?b1G ?b1T ?b2t ?a6J ?a8z ?a8h ?a8E ?a3r ?b4g ?b5c ?b5i ?a7W ?b1W ?b2j ?b1r ?a6r ?c88 ?c9l ?c9c ?c84 ?d0V ?d0p ?notabs ?c6c ?c1Z ?c13 ?c0J ?c0L ?b98 ?c1H ?c2v ?a2C ?a2a ?a8p ?a98 ?a85 ?a9l ?a82 ?a4T ?a93 ?a86 ?b0L ?b0J ?a0P ?a6L ?a6R ?a6u ?a5W ?a5X ?a6N ?a57 ?a6A ?a5S ?a5U ?a9W ?b0O ?a91 ?a81 ?a4P ?a90 ?a8X ?a9i ?b0e ?b0C ?b2C ?b1q ?b1y ?b17 ?a6j ?b5g ?b4O ?b5a ?b4f ?a5K ?a4j ?a4g ?a4t ?a4i ?a1B ?a2D ?a2y ?a2E ?a2B ?a0I ?c59 ?c1e ?c15 ?c1F ?c0p ?b92 ?c20 ?c2g ?a7O ?a7u ?a6B ?a7L ?a88 ?a9B ?b0n ?a97 ?a40 ?a3V ?a3Y ?a3E ?a3A ?a0U ?a6C ?a50 ?a53 ?a6F ?a2b ?a30 ?a3S ?a3d ?a3H ?a3s ?a2w ?a2A ?a2x ?a2z ?a0H ?a5T ?a6h ?a6P ?a6m ?a2e ?b1S ?a9N ?b0h ?a9D ?a9V ?a9O ?a9X ?a9v ?a2W ?a4s ?a4o ?a44 ?a5s ?a48 ?a5h ?a1M ?a5o ?a5a ?a5k ?a5c ?a1N ?b2A ?a95 ?a9s ?a83 ?a9x ?a8V ?a9Z ?a8Y ?a3w ?a2T ?a3B ?a2S ?a5b ?a5l ?a5p ?a5j ?a1d ?a5t ?a5e ?a49 ?a5q ?a1b ?b5k ?b2S ?b1t ?b15 ?b2B ?b2E ?b1Q ?b1I ?a4c ?a3N ?a4u ?a4k ?a3I ?a6i ?a5Q ?a6p ?a5M ?a18 ?a6v ?a6f ?a6K ?a6H ?a2g ?c40 ?c19 ?c0B ?c2t ?c02 ?c1k ?c2W ?c0M ?a6s ?a6D ?a5w ?a9t ?a9P ?a9q ?a9L ?a4Y ?a87 ?b0R ?a9u ?b0z ?b0b ?b6S ?b7K ?b7T ?b8f ?b7B ?b78 ?b7J ?b7t ?a5v ?a6t ?a46 ?a8g ?a8D ?a8k ?a8d ?a2v ?a4f ?a38 ?a4b ?a4l ?a4r ?a5r ?a5d ?a5f ?a5y ?a45 ?a2r ?a2u ?a2t ?a2j ?a2l ?a75 ?a7V ?a20 ?a1m ?a59 ?a5V ?a6M ?a5L ?a6k ?a7J ?a7N ?a7B ?a7P ?a7H ?c5k ?c04 ?c1c ?c2p ?c2T ?c26 ?c1v ?c2z ?a6y ?a5m ?a54 ?a94 ?a9a ?b0r ?b0l ?a4S ?a8s ?a8n ?a8l ?a8o ?a3M ?a9y ?b0F ?b0I ?a9j ?a4Q ?a9J ?b0d ?a96 ?b0G ?a4N ?b12 ?b1E ?b2d ?b2I ?a6a ?a7M ?a7s ?a7K ?a7z ?a7G ?a6n ?a6b ?a55 ?a6E ?a6o ?a9U ?a9d ?b0q ?a9Q ?a89 ?b0x ?b0v ?b0s ?a84 ?a22 ?a9n ?b0E ?b0g ?b0f ?a1F ?a5u ?a5x ?a5i ?a5n ?a1c ?a3o ?a3m ?a37 ?a3Z ?a0T ?a4e ?a4p ?a39 ?a4m ?a01 ?a3t ?a3k ?a3f ?a3J ?a1e ?a2V ?a21 ?a2Z ?a2U ?a05 ?a3h ?a32 ?a3L ?a33 ?a1j ?c7R ?c4X ?c55 ?c52 ?c5C ?c50 ?c5F ?c51 ?a47 ?a8i ?b1X ?b2q ?b2T ?a6I ?a8W ?a80 ?a9p ?a8H ?a5I ?a5G ?a5D ?a5H ?c5v ?c0z ?c1G ?c0r ?c22 ?c11 ?c2c ?c1C ?a4d ?b0a ?a8A ?a9b ?b0Q ?a9G ?a9I ?a4G ?a8e ?a8B ?a8u ?a8C ?a3X ?a7F ?a7t ?a7A ?a7y ?a2H ?a2F ?c03 ?ow4 ?ow5 ?c2x ?a0N
  (case d0D => k_is)
  (case a9g => k_is)
  (case d0x => k_is)
  (case c8V => k_is)
  (case d0X => k_is)
  (case d07 => k_is)
  (case c6d => k_is)
  (case d0k => k_is)
  (case c7z => k_is)
  (case c5S => k_is)
  (case c94 => k_is)
  (case d0F => k_is)
  (case b48 => k_is)
  (case a9C => k_is)
  (case b73 => k_is)
  (case a7v => k_is)
  (case d1f => k_is)
  (case d0G => k_is)
  (case b2n => k_is)
  (case a7x => k_is)
  (case a8w => k_is)
  (case b7R => k_is)
  (case b7o => k_is)
  (case b4V => k_is)
  (case b49 => k_is)
  (case b4N => k_is)
  (case a4n => k_is)
  (case b1O => k_is)
  (case b2g => k_is)
  (case b18 => k_is)
  (case a6c => k_is)
  (case b7U => k_is)
  (case b7y => k_is)
  (case b8d => k_is)
  (case a1R => k_is)
  (case b4v => k_is)
  (case b4j => k_is)
  (case b5v => k_is)
  (case a5J => k_is)
  (case b4J => k_is)
  (case b4E => k_is)
  (case b4U => k_is)
  (case a4a => k_is)
  (case b69 => k_is)
  (case b7Z => k_is)
  (case b7F => k_is)
  (case b0o => k_is)
  (case a92 => k_is)
  (case a9h => k_is)
  (case a9r => k_is)
  (case a26 => k_is)
  (case a78 => k_is)
  (case a8m => k_is)
  (case a79 => k_is)
  (case a1f => k_is)
  (case a8F => k_is)
  (case a8y => k_is)
  (case a8f => k_is)
  (case a3K => k_is)
  (case a7C => k_is)
  (case a7I => k_is)
  (case a7E => k_is)
  (case a1S => k_is)
  (case b1R => k_is)
  (case b1u => k_is)
  (case b1C => k_is)
  (case a6S => k_is)
  (case c0o => k_is)
  (case c1U => k_is)
  (case b93 => k_is)
  (case b3Q => k_is)
  (case a9k => k_is)
  (case a8Z => k_is)
  (case b0A => k_is)
  (case a4C => k_is)
  (case b2N => k_is)
  (case b2c => k_is)
  (case b1p => k_is)
  (case a8b => k_is)
  (case b2F => k_is)
  (case b2J => k_is)
  (case b1s => k_is)
  (case a2f => k_is)
  (case b10 => k_is)
  (case b2K => k_is)
  (case b2r => k_is)
  (case a4h => k_is)
  (case b0y => k_is)
  (case a9H => k_is)
  (case b0c => k_is)
  (case a28 => k_is)
  (case b1G => k_is)
  (case b1T => k_is)
  (case b2t => k_is)
  (case a6J => k_is)
  (case a8z => k_is)
  (case a8h => k_is)
  (case a8E => k_is)
  (case a3r => k_is)
  (case b4g => k_is)
  (case b5c => k_is)
  (case b5i => k_is)
  (case a7W => k_is)
  (case b1W => k_is)
  (case b2j => k_is)
  (case b1r => k_is)
  (case a6r => k_is)
  (case c88 => k_is)
  (case c9l => k_is)
  (case c9c => k_is)
  (case c84 => k_is)
  (case d0V => k_is)
  (case d0p => exact rfl)
  (case notabs => kernel_rfl)
  (case c6c => k_is)
  (case c1Z => k_is)
  (case c13 => k_is)
  (case c0J => k_is)
  (case c0L => k_is)
  (case b98 => k_is)
  (case c1H => k_is)
  (case c2v => k_is)
  (case a2C => k_is)
  (case a2a => k_is)
  (case a8p => k_is)
  (case a98 => k_is)
  (case a85 => k_is)
  (case a9l => k_is)
  (case a82 => k_is)
  (case a4T => k_is)
  (case a93 => k_is)
  (case a86 => k_is)
  (case b0L => k_is)
  (case b0J => k_is)
  (case a0P => k_is)
  (case a6L => k_is)
  (case a6R => k_is)
  (case a6u => k_is)
  (case a5W => k_is)
  (case a5X => k_is)
  (case a6N => k_is)
  (case a57 => k_is)
  (case a6A => k_is)
  (case a5S => k_is)
  (case a5U => k_is)
  (case a9W => k_is)
  (case b0O => k_is)
  (case a91 => k_is)
  (case a81 => k_is)
  (case a4P => k_is)
  (case a90 => k_is)
  (case a8X => k_is)
  (case a9i => k_is)
  (case b0e => k_is)
  (case b0C => k_is)
  (case b2C => k_is)
  (case b1q => k_is)
  (case b1y => k_is)
  (case b17 => k_is)
  (case a6j => k_is)
  (case b5g => k_is)
  (case b4O => k_is)
  (case b5a => k_is)
  (case b4f => k_is)
  (case a5K => k_is)
  (case a4j => k_is)
  (case a4g => k_is)
  (case a4t => k_is)
  (case a4i => k_is)
  (case a1B => k_is)
  (case a2D => k_is)
  (case a2y => k_is)
  (case a2E => k_is)
  (case a2B => k_is)
  (case a0I => k_is)
  (case c59 => k_is)
  (case c1e => k_is)
  (case c15 => k_is)
  (case c1F => k_is)
  (case c0p => k_is)
  (case b92 => k_is)
  (case c20 => k_is)
  (case c2g => k_is)
  (case a7O => k_is)
  (case a7u => k_is)
  (case a6B => k_is)
  (case a7L => k_is)
  (case a88 => k_is)
  (case a9B => k_is)
  (case b0n => k_is)
  (case a97 => k_is)
  (case a40 => k_is)
  (case a3V => k_is)
  (case a3Y => k_is)
  (case a3E => k_is)
  (case a3A => k_is)
  (case a0U => k_is)
  (case a6C => k_is)
  (case a50 => k_is)
  (case a53 => k_is)
  (case a6F => k_is)
  (case a2b => k_is)
  (case a30 => k_is)
  (case a3S => k_is)
  (case a3d => k_is)
  (case a3H => k_is)
  (case a3s => k_is)
  (case a2w => k_is)
  (case a2A => k_is)
  (case a2x => k_is)
  (case a2z => k_is)
  (case a0H => k_is)
  (case a5T => k_is)
  (case a6h => k_is)
  (case a6P => k_is)
  (case a6m => k_is)
  (case a2e => k_is)
  (case b1S => k_is)
  (case a9N => k_is)
  (case b0h => k_is)
  (case a9D => k_is)
  (case a9V => k_is)
  (case a9O => k_is)
  (case a9X => k_is)
  (case a9v => k_is)
  (case a2W => k_is)
  (case a4s => k_is)
  (case a4o => k_is)
  (case a44 => k_is)
  (case a5s => k_is)
  (case a48 => k_is)
  (case a5h => k_is)
  (case a1M => k_is)
  (case a5o => k_is)
  (case a5a => k_is)
  (case a5k => k_is)
  (case a5c => k_is)
  (case a1N => k_is)
  (case b2A => k_is)
  (case a95 => k_is)
  (case a9s => k_is)
  (case a83 => k_is)
  (case a9x => k_is)
  (case a8V => k_is)
  (case a9Z => k_is)
  (case a8Y => k_is)
  (case a3w => k_is)
  (case a2T => k_is)
  (case a3B => k_is)
  (case a2S => k_is)
  (case a5b => k_is)
  (case a5l => k_is)
  (case a5p => k_is)
  (case a5j => k_is)
  (case a1d => k_is)
  (case a5t => k_is)
  (case a5e => k_is)
  (case a49 => k_is)
  (case a5q => k_is)
  (case a1b => k_is)
  (case b5k => k_is)
  (case b2S => k_is)
  (case b1t => k_is)
  (case b15 => k_is)
  (case b2B => k_is)
  (case b2E => k_is)
  (case b1Q => k_is)
  (case b1I => k_is)
  (case a4c => k_is)
  (case a3N => k_is)
  (case a4u => k_is)
  (case a4k => k_is)
  (case a3I => k_is)
  (case a6i => k_is)
  (case a5Q => k_is)
  (case a6p => k_is)
  (case a5M => k_is)
  (case a18 => k_is)
  (case a6v => k_is)
  (case a6f => k_is)
  (case a6K => k_is)
  (case a6H => k_is)
  (case a2g => k_is)
  (case c40 => k_is)
  (case c19 => k_is)
  (case c0B => k_is)
  (case c2t => k_is)
  (case c02 => k_is)
  (case c1k => k_is)
  (case c2W => k_is)
  (case c0M => k_is)
  (case a6s => k_is)
  (case a6D => k_is)
  (case a5w => k_is)
  (case a9t => k_is)
  (case a9P => k_is)
  (case a9q => k_is)
  (case a9L => k_is)
  (case a4Y => k_is)
  (case a87 => k_is)
  (case b0R => k_is)
  (case a9u => k_is)
  (case b0z => k_is)
  (case b0b => k_is)
  (case b6S => k_is)
  (case b7K => k_is)
  (case b7T => k_is)
  (case b8f => k_is)
  (case b7B => k_is)
  (case b78 => k_is)
  (case b7J => k_is)
  (case b7t => k_is)
  (case a5v => k_is)
  (case a6t => k_is)
  (case a46 => k_is)
  (case a8g => k_is)
  (case a8D => k_is)
  (case a8k => k_is)
  (case a8d => k_is)
  (case a2v => k_is)
  (case a4f => k_is)
  (case a38 => k_is)
  (case a4b => k_is)
  (case a4l => k_is)
  (case a4r => k_is)
  (case a5r => k_is)
  (case a5d => k_is)
  (case a5f => k_is)
  (case a5y => k_is)
  (case a45 => k_is)
  (case a2r => k_is)
  (case a2u => k_is)
  (case a2t => k_is)
  (case a2j => k_is)
  (case a2l => k_is)
  (case a75 => k_is)
  (case a7V => exact rfl)
  (case a20 => kernel_rfl)
  (case a1m => exact PySem.W.km_tabs_of Y _ (by decide))
  (case a59 => k_is)
  (case a5V => k_is)
  (case a6M => k_is)
  (case a5L => k_is)
  (case a6k => k_is)
  (case a7J => k_is)
  (case a7N => k_is)
  (case a7B => k_is)
  (case a7P => k_is)
  (case a7H => k_is)
  (case c5k => k_is)
  (case c04 => k_is)
  (case c1c => k_is)
  (case c2p => k_is)
  (case c2T => k_is)
  (case c26 => k_is)
  (case c1v => k_is)
  (case c2z => k_is)
  (case a6y => k_is)
  (case a5m => k_is)
  (case a54 => k_is)
  (case a94 => k_is)
  (case a9a => k_is)
  (case b0r => k_is)
  (case b0l => k_is)
  (case a4S => k_is)
  (case a8s => k_is)
  (case a8n => k_is)
  (case a8l => k_is)
  (case a8o => k_is)
  (case a3M => k_is)
  (case a9y => k_is)
  (case b0F => k_is)
  (case b0I => k_is)
  (case a9j => k_is)
  (case a4Q => k_is)
  (case a9J => k_is)
  (case b0d => k_is)
  (case a96 => k_is)
  (case b0G => k_is)
  (case a4N => k_is)
  (case b12 => k_is)
  (case b1E => k_is)
  (case b2d => k_is)
  (case b2I => k_is)
  (case a6a => k_is)
  (case a7M => k_is)
  (case a7s => k_is)
  (case a7K => k_is)
  (case a7z => k_is)
  (case a7G => k_is)
  (case a6n => k_is)
  (case a6b => k_is)
  (case a55 => k_is)
  (case a6E => k_is)
  (case a6o => k_is)
  (case a9U => k_is)
  (case a9d => k_is)
  (case b0q => k_is)
  (case a9Q => k_is)
  (case a89 => k_is)
  (case b0x => k_is)
  (case b0v => k_is)
  (case b0s => k_is)
  (case a84 => k_is)
  (case a22 => k_is)
  (case a9n => k_is)
  (case b0E => k_is)
  (case b0g => k_is)
  (case b0f => k_is)
  (case a1F => k_is)
  (case a5u => k_is)
  (case a5x => k_is)
  (case a5i => k_is)
  (case a5n => k_is)
  (case a1c => k_is)
  (case a3o => k_is)
  (case a3m => k_is)
  (case a37 => k_is)
  (case a3Z => k_is)
  (case a0T => k_is)
  (case a4e => k_is)
  (case a4p => k_is)
  (case a39 => k_is)
  (case a4m => k_is)
  (case a01 => k_is)
  (case a3t => k_is)
  (case a3k => k_is)
  (case a3f => k_is)
  (case a3J => k_is)
  (case a1e => k_is)
  (case a2V => k_is)
  (case a21 => k_is)
  (case a2Z => k_is)
  (case a2U => k_is)
  (case a05 => k_is)
  (case a3h => k_is)
  (case a32 => k_is)
  (case a3L => k_is)
  (case a33 => k_is)
  (case a1j => k_is)
  (case c7R => k_is)
  (case c4X => k_is)
  (case c55 => k_is)
  (case c52 => k_is)
  (case c5C => k_is)
  (case c50 => k_is)
  (case c5F => k_is)
  (case c51 => k_is)
  (case a47 => k_is)
  (case a8i => k_is)
  (case b1X => k_is)
  (case b2q => k_is)
  (case b2T => k_is)
  (case a6I => k_is)
  (case a8W => k_is)
  (case a80 => k_is)
  (case a9p => k_is)
  (case a8H => k_is)
  (case a5I => k_is)
  (case a5G => k_is)
  (case a5D => k_is)
  (case a5H => k_is)
  (case c5v => k_is)
  (case c0z => k_is)
  (case c1G => k_is)
  (case c0r => k_is)
  (case c22 => k_is)
  (case c11 => k_is)
  (case c2c => k_is)
  (case c1C => k_is)
  (case a4d => k_is)
  (case b0a => k_is)
  (case a8A => k_is)
  (case a9b => k_is)
  (case b0Q => k_is)
  (case a9G => k_is)
  (case a9I => k_is)
  (case a4G => k_is)
  (case a8e => k_is)
  (case a8B => k_is)
  (case a8u => k_is)
  (case a8C => k_is)
  (case a3X => k_is)
  (case a7F => k_is)
  (case a7t => k_is)
  (case a7A => k_is)
  (case a7y => k_is)
  (case a2H => k_is)
  (case a2F => k_is)
  (case c03 => kit_is)
  (case ow4 => k_is)
  (case ow5 => k_is)
  (case c2x => k_is)
  (case a0N => decide)