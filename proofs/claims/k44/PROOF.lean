import PyProof.Rows.All
import Wide.All
import OpenK.AllK
import Wide.FinOn
import PyProof.EqAt
import PyProof.EqKinds
import PyProof.TupleCall
import Lean
import PySem.Challenge.RW_lazycols_k44_cut_and_together
set_option Elab.async false
set_option linter.all false
set_option maxRecDepth 100000
set_option maxHeartbeats 4000000
set_option genSizeOfSpec false
namespace L2
abbrev Fg:=PySem.W.Frag
end L2
namespace L2
open PySem PySem.Spec PyProof.Rows
theorem cQ{F:FuncData}{ps:List Str}(h:∀a0,bindArgs F ⟨[a0],[]⟩=pure (ps.zip [a0])):∀us:List Value,us.length=1->bindArgs F ⟨us,[]⟩=pure (ps.zip us)
 | [a0],_=>h a0
theorem cZ{F:FuncData}{ps:List Str}(h:∀a0 a1,bindArgs F ⟨[a0,a1],[]⟩=pure (ps.zip [a0,a1])):∀us:List Value,us.length=2->bindArgs F ⟨us,[]⟩=pure (ps.zip us)
 | [a0,a1],_=>h a0 a1
theorem cN{F:FuncData}{ps:List Str}(h:∀a0 a1 a2,bindArgs F ⟨[a0,a1,a2],[]⟩=pure (ps.zip [a0,a1,a2])):∀us:List Value,us.length=3->bindArgs F ⟨us,[]⟩=pure (ps.zip us)
 | [a0,a1,a2],_=>h a0 a1 a2
theorem jR{F:FuncData}{ps:List Str}(h:∀a0 a1 a2 a3,bindArgs F ⟨[a0,a1,a2,a3],[]⟩=pure (ps.zip [a0,a1,a2,a3])):∀us:List Value,us.length=4->bindArgs F ⟨us,[]⟩=pure (ps.zip us)
 | [a0,a1,a2,a3],_=>h a0 a1 a2 a3
theorem bi5{F:FuncData}{ps:List Str}(h:∀a0 a1 a2 a3 a4,bindArgs F ⟨[a0,a1,a2,a3,a4],[]⟩=pure (ps.zip [a0,a1,a2,a3,a4])):∀us:List Value,us.length=5->bindArgs F ⟨us,[]⟩=pure (ps.zip us)
 | [a0,a1,a2,a3,a4],_=>h a0 a1 a2 a3 a4
theorem eI{n:Nat}(h:n<2:=by first|assumption|omega):n=0\/ n=1:=by omega
theorem lt3{n:Nat}(h:n<3:=by first|assumption|omega):n=0\/ n=1\/ n=2:=by omega
abbrev aG:=Sum Int Str
def mF:aG->Value->Bool
 | .inl k,v=>Value.isInt k v
 | .inr x,v=>Value.isStrOf x v
def keyH(w:World):aG->Int
 | .inl k=>hashInt k
 | .inr x=>hashStr w x
theorem iJ:∀{k:aG} {v:Value},mF k v=true->(∃i t,k=Sum.inl i/\v=Value.int i t)\/ (∃x t,k=Sum.inr x/\v=Value.str x t)
 | .inl i,v,h=>by
  obtain⟨t,e⟩:=Value.isInt_shape (k:=i) (v:=v) h
  exact .inl ⟨i,t,rfl,e⟩
 | .inr x,v,h=>by
  obtain⟨t,e⟩:=Value.isStrOf_shape (x:=x) (v:=v) h
  exact .inr ⟨x,t,rfl,e⟩
theorem a9x(i:Int)(t:Tok):mF (.inl i) (.int i t)=true:=by simp[mF,Value.isInt]
theorem b3s(x:Str)(t:Tok):mF (.inr x) (.str x t)=true:=by simp[mF,Value.isStrOf]
theorem b3Z(a b:Int):decide ((Sum.inl a:aG)=Sum.inl b)=(a==b):=by
 by_cases e:a=b
 ·subst e;simp
 ·have h:¬(Sum.inl a:aG)=Sum.inl b:=fun q=>e (Sum.inl.inj q)
  rw[decide_eq_false h]
  exact(beq_eq_false_iff_ne.mpr e).symm
theorem b0O(a b:Str):decide ((Sum.inr a:aG)=Sum.inr b)=decide (a=b):=by
 by_cases e:a=b
 ·subst e;simp
 ·have h:¬(Sum.inr a:aG)=Sum.inr b:=fun q=>e (Sum.inr.inj q)
  rw[decide_eq_false h,decide_eq_false e]
theorem a93(a:Int)(b:Str):decide ((Sum.inl a:aG)=Sum.inr b)=false:=decide_eq_false (fun q=>nomatch q)
theorem b3q(a:Str)(b:Int):decide ((Sum.inr a:aG)=Sum.inl b)=false:=decide_eq_false (fun q=>nomatch q)
def fF(prog:Program)(w:World):PySem.KeyKind prog w aG where
 is:=mF
 hash:=keyH w
 inj:=fun v a b ha hb=>by
  rcases iJ ha with⟨i,t,rfl,rfl⟩|⟨x,t,rfl,rfl⟩
  ·rcases iJ hb with⟨j,u,rfl,e⟩|⟨y,u,rfl,e⟩
   ·injection e with e1 _;rw[e1]
   ·exact nomatch e
  ·rcases iJ hb with⟨j,u,rfl,e⟩|⟨y,u,rfl,e⟩
   ·exact nomatch e
   ·injection e with e1 _;rw[e1]
 byValue:=fun k v h=>by
  rcases iJ h with⟨i,t,rfl,rfl⟩|⟨x,t,rfl,rfl⟩<;>rfl
 pyHash:=fun hv h=>by
  rcases iJ hv with⟨i,t,rfl,rfl⟩|⟨x,t,rfl,rfl⟩
  ·exact wpAny_pyHash_int h
  ·exact wpAny_pyHash_str h
 eqBool:=fun hu hv h=>by
  rcases iJ hu with⟨i,t,rfl,rfl⟩|⟨x,t,rfl,rfl⟩
  ·rcases iJ hv with⟨j,u,rfl,rfl⟩|⟨y,u,rfl,rfl⟩
   ·rw[b3Z]at h;exact wpAny_eqBool_int h
   ·rw[a93]at h;exact SeqAt.EqAt.int_str i t y u _ _ _ _ h
  ·rcases iJ hv with⟨j,u,rfl,rfl⟩|⟨y,u,rfl,rfl⟩
   ·rw[b3q]at h;exact SeqAt.EqAt.str_int x t j u _ _ _ _ h
   ·rw[b0O]at h;exact wpAny_eqBool_str h
 «strs» :=fun k x t v h=>by
  rcases iJ h with⟨i,u,rfl,e⟩|⟨y,u,rfl,e⟩
  ·exact nomatch e
  ·injection e with e1 _
   subst e1
   cases v<;>rfl
theorem b0h(prog:Program)(w:World)(i:Int)(t:Tok):(fF prog w).is (.inl i) (.int i t)=true:=a9x i t
theorem a9t(prog:Program)(w:World)(x:Str)(t:Tok):(fF prog w).is (.inr x) (.str x t)=true:=b3s x t
inductive V where
 |non|bl(b:Bool)|int(i:Int)|str(x:Str)|byt(b:Array UInt8)|flt(b:UInt64)|ref(a:Addr)|ty(n:String)
 deriving DecidableEq
def aY:V->Value->Prop
 | .non,u=>u=Value.none
 | .bl b,u=>u=Value.bool b
 | .int i,u=>∃t,u=Value.int i t
 | .str x,u=>∃t,u=Value.str x t
 | .byt b,u=>∃t,u=Value.bytes b t
 | .flt b,u=>∃t,u=Value.float b t
 | .ref a,u=>u=Value.ref a
 | .ty n,u=>u=Value.type n
abbrev aV:List V->List Value->Prop:=Paired aY
theorem aV.length{xs:List V}{us:List Value}(r:aV xs us):xs.length=us.length:=Paired.length r
theorem aV.get:∀{xs:List V} {us:List Value} {i:Nat} {x:V},aV xs us->xs[i]?=some x->∃u,us[i]?=some u/\aY x u
 |_,_,_,_,.nil,e=>by simp at e
 |_,_,0,_,.cons r _,e=>by simp at e;subst e;exact⟨_,rfl,r⟩
 |_,_,i+ 1,x,.cons _ t,e=>by
  obtain⟨u,h1,h2⟩:=aV.get (i:=i) (x:=x) t (by simpa using e)
  exact⟨u,by simpa using h1,h2⟩
theorem aV.append:∀{xs ys:List V} {us ws:List Value},aV xs us->aV ys ws->aV (xs++ ys) (us++ ws)
 |_,_,_,_,.nil,s=>s
 |_,_,_,_,.cons r t,s=> .cons r (aV.append t s)
theorem aV.take:∀{xs:List V} {us:List Value} (n:Nat),aV xs us->aV (xs.take n) (us.take n)
 |_,_,0,_=> .nil
 |_,_,_+ 1,.nil=> .nil
 |_,_,n+ 1,.cons r t=> .cons r (aV.take n t)
theorem aV.drop:∀{xs:List V} {us:List Value} (n:Nat),aV xs us->aV (xs.drop n) (us.drop n)
 |_,_,0,r=>r
 |_,_,_+ 1,.nil=> .nil
 |_,_,n+ 1,.cons _ t=>aV.drop n t
def eN:Option V->Option Value->Prop
 |some v,some u=>aY v u
 |none,none=>True
 |_,_=>False
def KV{κ:Type}:List (κ×V)->List (κ×Value)->Prop:=Paired fun(p:κ×V) (q:κ×Value)=>p.1=q.1/\aY p.2 q.2
def kV:aG->V
 | .inl i=> .int i
 | .inr x=> .str x
inductive HO where
 |lst(xs:List V)
 |tup(xs:List V)
 |dK(kvs:List (aG×V))|dT(kvs:List (List aG×V))
 |set(S:Int->Bool)(n:Nat)
 |ins(C dx:Addr)(fs:List (Str×V))
 |own(x:Addr)
 |xd(fs:List (Str×V))
 |met(f x:Addr)
 |rng(lo hi:Int)
 |frz(o:Obj)(u:HO)
 |tbl(ps:Array Value)
 |ext(φ:Heap->Prop)
abbrev Hp:=Addr->Option HO
def upd(H:Hp)(a:Addr)(o:HO):Hp:=fun b=>if b=a then some o else H b
theorem aH{H:Hp}{a:Addr}{o:HO}:upd H a o a=some o:=by unfold upd;rw[if_pos rfl]
theorem aF{H:Hp}{a b:Addr}{o:HO}(h:b≠a):upd H a o b=H b:=by unfold upd;rw[if_neg h]
theorem a9Z{H:Hp}{a b:Addr}{o u:HO}(h:H a=some o)(h':H b=some u)(d:o≠u):a≠b:=by
 intro e;subst e;rw[h]at h';exact d (Option.some.inj h')
theorem bD{H:Hp}{a b:Addr}{o:HO}(h:H a=some o)(h':H b=none):a≠b:=by
 intro e;subst e;rw[h]at h';cases h'
section
variable(P:Program)(w:World)
def cG(H:Hp)(h:Heap)(a:Addr):HO->Prop
 | .lst xs=>xs.length<=sizeLine/\∃(its:List Value) (n:Nat),aV xs its/\h.get? a=some {cls:=.type "list",data:=.seq its.toArray n}
 | .tup xs=>xs.length<=sizeLine/\∃its:List Value,aV xs its/\IsTup h a its.toArray
 | .dK kvs=>kvs.length<=sizeLine/\(a==sysModules)=false/\∃vs,KV kvs vs/\h.DictOf (fF P w) a vs
 | .dT kvs=>kvs.length<=sizeLine/\(a==sysModules)=false/\∃xs:List (List aG×Addr×Value),
  Paired (fun(p:List aG×V) (q:List aG×Addr×Value)=>p.1=q.1/\H q.2.1=some (.tup (p.1.map kV))/\aY p.2 q.2.2) kvs xs/\
  ∃o es ep,h.get? a=some o/\o.ExactDict/\o.data= .dict es ep/\es.toList=xs.map (entryOfKey (tupleKind (fF P w)))/\(xs.map (·.1)).Nodup
 | .set S n=>h.SetOf (intKind P w) a S n
 | .ins C dx fs=>H dx=some (.own a)/\fs.length<=1000/\dx≠a/\h.get? a=some (PySem.W.instObj C dx)/\
  ∃mA,h.Ns1 dx mA/\(∀f,eN (fs.lookup f) (mA f))/\PySem.Within mA (fs.map (·.1))
 | .own _=>∃o,h.get? a=some o
 | .xd fs=>∃mA,h.Ns1 a mA/\∀f,eN (fs.lookup f) (mA f)
 | .rng lo hi=>∃t u v,h.get? a=some {cls:=.type "range",data:=.fields #[.int lo t,.int hi u,.int 1 v]}
 | .frz o u=>h.get? a=some o/\cG H h a u
 | .tbl ps=>h.get? a=some {cls:=.none,data:=.fields ps}
 | .met f x=>h.get? a=some (PySem.W.methodObj (.ref f) (.ref x))
 | .ext φ=>φ h/\(∃o,h.get? a=some o)/\∀h1 h2:Heap,φ h1->(∀o,h1.get? a=some o->h2.get? a=some o)->φ h2
def cA(H:Hp)(h:Heap):Prop:=∀a o,H a=some o->cG P w H h a o
end
section
variable{P:Program}{w:World}{H H':Hp}{h h':Heap}{a:Addr}{o:HO}
theorem cG.lt(x:cG P w H h a o):a<h.objs.size:=by
 cases o with
 |lst xs=>obtain⟨_,_,_,_,e⟩:=x;exact Heap.lt_size e
 |tup xs=>obtain⟨_,_,_,p⟩:=x;exact p.lt
 |dK kvs=>obtain⟨_,_,_,_,o,_,_,e,_⟩:=x;exact Heap.lt_size e
 |dT kvs=>obtain⟨_,_,_,_,o,_,_,e,_⟩:=x;exact Heap.lt_size e
 |set S n=>obtain⟨o,_,_,_,e,_⟩:=x;exact Heap.lt_size e
 |ins C dx fs=>obtain⟨_,_,_,e,_⟩:=x;exact Heap.lt_size e
 |own y=>obtain⟨_,e⟩:=x;exact Heap.lt_size e
 |xd fs=>obtain⟨_,⟨_,_,_,e,_⟩,_⟩:=x;exact Heap.lt_size e
 |rng lo hi=>obtain⟨_,_,_,e⟩:=x;exact Heap.lt_size e
 |frz ob u=>obtain⟨e,_⟩:=x;exact Heap.lt_size e
 |tbl ps=>exact Heap.lt_size (show h.get? a=some _ from x)
 |met f y=>exact Heap.lt_size (show h.get? a=some _ from x)
 |ext φ=>obtain⟨_,⟨_,e⟩,_⟩:=x;exact Heap.lt_size e
theorem Paired.mapP{α β:Type}{F G:α->β->Prop}:∀{l₁:List α} {l₂:List β},Paired F l₁ l₂->(∀a b,F a b->G a b)->Paired G l₁ l₂
 |_,_,.nil,_=> .nil
 |_,_,.cons r t,f=> .cons (f _ _ r) (Paired.mapP t f)
theorem cG.stay(x:cG P w H h a o)(k:∀b u,(b=a\/ H b=some (.own a))->h.get? b=some u->h'.get? b=some u)
 (ho:∀b,H b=some (.own a)->H' b=some (.own a))(ht:∀b xs,H b=some (.tup xs)->H' b=some (.tup xs)):cG P w H' h' a o:=by
 induction o with
 |lst xs=>obtain⟨z,its,n,r,e⟩:=x;exact⟨z,its,n,r,k _ _ (.inl rfl) e⟩
 |tup xs=>obtain⟨z,its,r,ob,e,c⟩:=x;exact⟨z,its,r,ob,k _ _ (.inl rfl) e,c⟩
 |dK kvs=>obtain⟨z,y,vs,r,ob,es,ep,e,c⟩:=x;exact⟨z,y,vs,r,ob,es,ep,k _ _ (.inl rfl) e,c⟩
 |dT kvs=>
  obtain⟨z,y,xs,r,ob,es,ep,e,c⟩:=x
  exact⟨z,y,xs,Paired.mapP r fun p q z=>⟨z.1,ht _ _ z.2.1,z.2.2⟩,ob,es,ep,k _ _ (.inl rfl) e,c⟩
 |set S n=>obtain⟨ob,es,ep,t,e,c⟩:=x;exact⟨ob,es,ep,t,k _ _ (.inl rfl) e,c⟩
 |ins C dx fs=>
  obtain⟨d,z,ne,e,mA,⟨od,es,ep,e2,c⟩,r⟩:=x
  exact⟨ho _ d,z,ne,k _ _ (.inl rfl) e,mA,⟨od,es,ep,k _ _ (.inr d) e2,c⟩,r⟩
 |own y=>obtain⟨ob,e⟩:=x;exact⟨ob,k _ _ (.inl rfl) e⟩
 |xd fs=>obtain⟨mA,⟨od,es,ep,e,c⟩,r⟩:=x;exact⟨mA,⟨od,es,ep,k _ _ (.inl rfl) e,c⟩,r⟩
 |rng lo hi=>obtain⟨t,u,v,e⟩:=x;exact⟨t,u,v,k _ _ (.inl rfl) e⟩
 |frz ob u ih=>obtain⟨e,q⟩:=x;exact⟨k _ _ (.inl rfl) e,ih q⟩
 |tbl ps=>
  have e:h.get? a=some {cls:=.none,data:=.fields ps}:=x
  show h'.get? a=some {cls:=.none,data:=.fields ps}
  exact k a _ (.inl rfl) e
 |met f y=>
  have e:h.get? a=some (PySem.W.methodObj (.ref f) (.ref y)):=x
  show h'.get? a=some (PySem.W.methodObj (.ref f) (.ref y))
  exact k a _ (.inl rfl) e
 |ext φ=>obtain⟨p,⟨o,e⟩,st⟩:=x;exact⟨st _ _ p fun o q=>k _ _ (.inl rfl) q,⟨o,k _ _ (.inl rfl) e⟩,st⟩
theorem cA.lt(x:cA P w H h)(e:H a=some o):a<h.objs.size:=(x a o e).lt
theorem cA.fresh(x:cA P w H h)(e:h.objs.size<=a):H a=none:=by
 cases q:H a with
 |none=>rfl
 |some u=>exact absurd (Nat.lt_of_lt_of_le (x.lt q) e) (Nat.lt_irrefl _)
theorem cA.kept(x:cA P w H h)(k:∀b u,h.get? b=some u->h'.get? b=some u):cA P w H h':=fun a o e=>
 (x a o e).stay (fun b u _ q=>k b u q) (fun _ q=>q) fun _ _ q=>q
theorem cA.laid(x:cA P w H h)(k:∀b u,h.get? b=some u->h'.get? b=some u)(hp:h.objs.size<=a)(new:cG P w (upd H a o) h' a o):cA P w (upd H a o) h':=fun b u e=>by
 have hn:=x.fresh hp
 by_cases hb:b=a
 ·subst hb;rw[aH]at e;cases e;exact new
 ·rw[aF hb]at e
  exact(x b u e).stay (fun c v _ q=>k c v q) (fun c q=>by rw[aF (bD q hn)];exact q) fun c xs q=>by rw[aF (bD q hn)];exact q
end
def Rd(H:Hp)(a:Addr)(u:HO):Prop:=H a=some u\/ ∃o,H a=some (.frz o u)
theorem Rd.ok{P:Program}{w:World}{H:Hp}{h:Heap}{a:Addr}{u:HO}(r:Rd H a u)(x:cA P w H h):cG P w H h a u:=by
 rcases r with r|⟨o,r⟩
 ·exact x a u r
 ·obtain⟨_,q⟩:=x a _ r
  exact q
def pQ:Option HO->Prop
 |some (.lst _)=>True
 |some (.dK _)=>True
 |some (.dT _)=>True
 |some (.set _ _)=>True
 |some (.ins _ _ _)=>True
 |some (.ext _)=>True
 |_=>False
section
variable{P:Program}{w:World}{H:Hp}{h h':Heap}{x e:Addr}{o':HO}
theorem cA.write(ok:cA P w H h)(mu:pQ (H x))(he:e=x\/ H e=some (.own x))(k:∀b u,b≠e->h.get? b=some u->h'.get? b=some u)(heo:∃u,h'.get? e=some u)
 (new:cG P w (upd H x o') h' x o'):cA P w (upd H x o') h':=fun b u q=>by
 have nown:∀c y,H c=some (.own y)->c≠x:=fun c y r z=>by subst z;rw[r]at mu;exact mu
 have ntup:∀c xs,H c=some (.tup xs)->c≠x:=fun c xs r z=>by subst z;rw[r]at mu;exact mu
 by_cases hb:b=x
 ·subst hb;rw[aH]at q;cases q;exact new
 ·rw[aF hb]at q
  by_cases hbe:b=e
  ·have q':H b=some (.own x):=by
    rcases he with z|z
    ·exact absurd (hbe.trans z) hb
    ·rw[hbe];exact z
   rw[q]at q';cases q'
   obtain⟨v,hv⟩:=heo
   exact⟨v,by rw[hbe];exact hv⟩
  ·refine(ok b u q).stay (fun c v hc r=>k c v ?_ r) (fun c r=>by rw[aF (nown c b r)];exact r) fun c xs r=>by rw[aF (ntup c xs r)];exact r
   rcases hc with rfl|hc
   ·exact hbe
   ·rintro rfl
    rcases he with z|z
    ·exact nown c b hc z
    ·rw[hc]at z;cases z;exact hb rfl
end
structure Un(fs ex:List Addr)(H H':Hp)(h h':Heap):Prop where
 keep:∀b o,h.get? b=some o->H b=none->b∉fs->b∉ex->h'.get? b=some o
 slot:∀b o,h.get? b=some o->H b=none->b∈fs->b∉ex->∃sl,h'.get? b=some {o with slots:=sl}
 free:∀b o,h.get? b=some o->H b=none->b∉ex->H' b=none
 there:∀b o,h.get? b=some o->b∉ex->∃o',h'.get? b=some o'
 tups:∀b xs,H b=some (.tup xs)->H' b=some (.tup xs)
 frzs:∀b o u,H b=some (.frz o u)->H' b=some (.frz o u)
 tbls:∀b ps,H b=some (.tbl ps)->∃more,H' b=some (.tbl (ps++ more))
section
variable{fs fs' ex ex':List Addr}{H H1 H2:Hp}{h h1 h2 h':Heap}{a x e:Addr}{o:HO}
theorem Un.any(u:Un fs ex H H1 h h1){b:Addr}{ob:Obj}(q:h.get? b=some ob)(n:H b=none)(hx:b∉ex):∃sl,h1.get? b=some {ob with slots:=sl}:=by
 by_cases hb:b∈fs
 ·exact u.slot b ob q n hb hx
 ·exact⟨ob.slots,u.keep b ob q n hb hx⟩
theorem Un.kept(k:∀b u,h.get? b=some u->h'.get? b=some u):Un fs ex H H h h':=
 ⟨fun b ob q _ _ _=>k b ob q,fun b ob q _ _ _=>⟨ob.slots,k b ob q⟩,fun _ _ _ n _=>n,fun b ob q _=>⟨ob,k b ob q⟩,fun _ _ q=>q,fun _ _ _ q=>q,fun _ ps q=>⟨#[],by rw[q];simp⟩⟩
theorem Un.refl:Un fs ex H H h h:=Un.kept fun _ _ q=>q
theorem Un.laid(k:∀b u,h.get? b=some u->h'.get? b=some u)(hp:h.objs.size<=a)(hn:H a=none):Un fs ex H (upd H a o) h h' where
 keep:=fun b u q _ _ _=>k b u q
 slot:=fun b u q _ _ _=>⟨u.slots,k b u q⟩
 free:=fun b u q n _=>by rw[aF (Nat.ne_of_lt (Nat.lt_of_lt_of_le (Heap.lt_size q) hp))];exact n
 there:=fun b u q _=>⟨u,k b u q⟩
 tups:=fun b xs q=>by rw[aF (bD q hn)];exact q
 frzs:=fun b u xs q=>by rw[aF (bD q hn)];exact q
 tbls:=fun b ps q=>⟨#[],by rw[aF (bD q hn),q];simp⟩
theorem Un.write(mu:pQ (H x))(he:e=x\/ H e=some (.own x))(k:∀b u,b≠e->h.get? b=some u->h'.get? b=some u)(heo:∃u,h'.get? e=some u):Un fs ex H (upd H x o) h h':=by
 have hx:∀b,H b=none->b≠x:=fun b n z=>by subst z;rw[n]at mu;exact mu
 have hb:∀b,H b=none->b≠e:=fun b n z=>by
  subst z
  rcases he with r|r
  ·exact hx b n r
  ·rw[n]at r;cases r
 have hm:∀b u,H b=some u->¬pQ (some u)->b≠x:=fun b u q nm z=>by subst z;rw[q]at mu;exact nm mu
 refine⟨fun b u q n _ _=>k b u (hb b n) q,fun b u q n _ _=>⟨u.slots,k b u (hb b n) q⟩,fun b u q n _=>by rw[aF (hx b n)];exact n,fun b u q _=> ?_,
  fun b xs q=>by rw[aF (hm b _ q fun z=>z)];exact q,fun b u xs q=>by rw[aF (hm b _ q fun z=>z)];exact q,fun b ps q=>⟨#[],by rw[aF (hm b _ q fun z=>z),q];simp⟩⟩
 by_cases hbe:b=e
 ·subst hbe;exact heo
 ·exact⟨u,k b u hbe q⟩
end
noncomputable def tS (h:Heap) (H:Hp):List Addr:=(List.range h.objs.size).filter fun a=>(H a).isSome
noncomputable def iG (h:Heap) (H:Hp):Heap:=PySem.W.hideAll h (tS h H)
theorem a96(h:Heap)(H:Hp):(iG h H).objs.size=h.objs.size:=PySem.W.hideAll_size _ _
theorem a9Y{h:Heap}{H:Hp}{b:Addr}{o:Obj}(e:h.get? b=some o)(n:H b=none):(iG h H).get? b=some o:=
 PySem.W.hideAll_get _ e fun hm=>by
  have q:(H b).isSome=true:=(List.mem_filter.mp hm).2
  rw[n]at q;simp at q
theorem b1Z{h:Heap}{H:Hp}{b:Addr}{o:Obj}(e:(iG h H).get? b=some o):h.get? b=some o/\H b=none:=by
 have e':h.get? b=some o:=PySem.W.of_hideAll (tS h H) e
 refine⟨e',?_⟩
 cases q:H b with
 |none=>rfl
 |some x=>
  have hm:b∈tS h H:=List.mem_filter.mpr ⟨List.mem_range.mpr (Heap.lt_size e'),by simp[q]⟩
  have z:(iG h H).get? b=none:=PySem.W.hideAll_none (tS h H) hm
  rw[z]at e;cases e
noncomputable def b3L (g h:Heap) (L:Addr):List (Addr×Obj):=(List.range h.objs.size).filterMap fun a=>if a=L\/ (g.get? a).isSome=true then none else(h.get? a).map fun o=>(a,o)
noncomputable def fC (g h:Heap) (L d:Addr):List (Addr×Obj):=(b3L g h L).filter fun p=>decide (p.1≠d)
structure Mod(K:Fg)(mg:Str->Option Value)(base:Heap):Prop where
 kin:K.In base
 glob:base.Ns mainGlobals mg
 blt:∃mb,base.Ns builtinsNs mb/\∀x:Str,x≠ "__name__" ->mb x=bootBuiltins x
 nolimit:base.NoLimit
structure Cx where
 prog:Program
 w:World
 K:Fg
 mg:Str->Option Value
 base:Heap
 A:Around
 N:List Str
 s₀:Shared
 H₀:Hp
 env:Env
 outer:List Env
 stack:List Env
 ex:List Addr
 fn:Str->Bool
 calm:Bool
 pn:List (Addr×Obj)
 xe:Value->Shared->Prop
def eW(l:List Env):List Addr:=l.filterMap (·.frame)
abbrev Cx.fs(X:Cx):List Addr:=eW X.outer
def zE(sc:Scope)(x:Str):Prop:=sc.names.lookup x=some .local\/ sc.names.lookup x=some .cell\/ sc.names.lookup x=some .free
def vB(sc:Scope)(x:Str):Prop:=sc.names.lookup x=some .local\/ sc.names.lookup x=some .cell
def Look(env:Env)(h:Heap)(m:Str->Option Value)(x:Str)(u:Value):Prop:=
 (env.kindOf x=some .local/\m x=some u)\/ ((env.kindOf x=some .cell\/ env.kindOf x=some .free)/\∃c,env.cells.lookup x=some c/\h.IsCell c (some u))
structure Cx.Ok(X:Cx):Prop where
 mod:Mod X.K X.mg X.base
 kind:X.env.scope.kind= .function
 glob:X.env.globals=mainGlobals
 blt:X.env.builtins=builtinsNs
 above:X.s₀.heap.objs.size<=X.env.locals
 inj:∀x y c,X.env.cells.lookup x=some c->X.env.cells.lookup y=some c->x=y
 has:∀x,(X.env.kindOf x=some .cell\/ X.env.kindOf x=some .free)->∃c,X.env.cells.lookup x=some c
 cab:∀x c,X.fn x=true->X.env.cells.lookup x=some c->X.s₀.heap.objs.size<=c
 hd:X.calm=true->X.A.handled=none
 frames:X.A.frames=some X.stack
 stk:X.stack=X.outer\/ (X.stack=X.env::X.outer/\X.env.frame=some X.env.locals)
 exf:∀b∈X.ex,b≠X.env.locals/\∀x c,X.env.cells.lookup x=some c->c≠b
 bs:∀b o,X.base.get? b=some o->X.s₀.heap.get? b=some o/\X.H₀ b=none
 bsz:X.base.objs.size<=X.s₀.heap.objs.size
 noex:∀b o,X.base.get? b=some o->b∉X.ex
 exfs:∀b∈X.ex,b∉X.fs
 funs:X.s₀.heap.FunFrames X.base X.outer
 frf:∀b∈X.fs,X.H₀ b=none
structure Inv(X:Cx)(pins:List (Addr×Obj))(σ:List (Option V))(H:Hp)(s:Shared):Prop where
 ok:X.Ok
 os:s.os=X.s₀.os
 bare:AllBare s.gens
 base:Un X.fs X.ex X.H₀ H X.s₀.heap s.heap
 loc:∃m,s.heap.Ns X.env.locals m/\∀(i:Nat) (x:Str) (v:V),X.N[i]?=some x->σ[i]?=some (some v)->zE X.env.scope x->∃u,aY v u/\Look X.env s.heap m x u
 cell:∀x c,X.env.cells.lookup x=some c->∃v,s.heap.IsCell c v
 free:H X.env.locals=none
 freeC:∀x c,X.env.cells.lookup x=some c->H c=none
 pin:∀p∈X.pn++ pins,s.heap.get? p.1=some p.2/\H p.1=none/\p.1≠X.env.locals/\p.1∉X.fs/\∀v,p.2.data≠ .cell v
 hok:cA X.prog X.w H s.heap
 len:σ.length=X.N.length
section
variable{X:Cx}{pins:List (Addr×Obj)}{σ:List (Option V)}{H H':Hp}{s:Shared}{h':Heap}
theorem Cx.Ok.nofr(ok:X.Ok){b:Addr}{o:Obj}(e:X.base.get? b=some o):b∉X.fs:=fun hb=>by
 have:=(ok.funs.mem hb).1
 rw[e]at this;cases this
theorem Inv.bs(I:Inv X pins σ H s):∀b o,X.base.get? b=some o->s.heap.get? b=some o/\H b=none:=fun b o e=>
 ⟨I.base.keep b o (I.ok.bs b o e).1 (I.ok.bs b o e).2 (I.ok.nofr e) (I.ok.noex b o e),I.base.free b o (I.ok.bs b o e).1 (I.ok.bs b o e).2 (I.ok.noex b o e)⟩
theorem Inv.bk(I:Inv X pins σ H s):∀b o,X.base.get? b=some o->s.heap.get? b=some o:=fun b o e=>(I.bs b o e).1
theorem Inv.mod(I:Inv X pins σ H s):Mod X.K X.mg X.base:=I.ok.mod
theorem Inv.kIn(I:Inv X pins σ H s):X.K.In s.heap:=I.ok.mod.kin.keeps I.bk
theorem Inv.lt(I:Inv X pins σ H s):X.env.locals<s.heap.objs.size:=let ⟨_,hn,_⟩:=I.loc;hn.lt
theorem Inv.sz(I:Inv X pins σ H s):X.s₀.heap.objs.size<=s.heap.objs.size:=Nat.le_trans I.ok.above (Nat.le_of_lt I.lt)
theorem Inv.nofs(I:Inv X pins σ H s){a:Addr}(h:s.heap.objs.size<=a):a∉X.fs:=fun hb=>by
 obtain⟨_,o,ho,_⟩:=I.ok.funs.mem hb
 exact absurd (Nat.lt_of_lt_of_le (Heap.lt_size ho) (Nat.le_trans I.sz h)) (Nat.lt_irrefl _)
theorem Inv.cne(I:Inv X pins σ H s):∀x c,X.env.cells.lookup x=some c->c≠X.env.locals:=fun x c e z=>by
 obtain⟨v,o,ho,hd⟩:=I.cell x c e
 obtain⟨m,⟨o',es,ep,ho',hd',_⟩,_⟩:=I.loc
 rw[z,ho']at ho;cases ho;rw[hd']at hd;cases hd
theorem Inv.funs(I:Inv X pins σ H s):s.heap.FunFrames X.base X.outer:=by
 have all:∀(l:List Env),(∀b∈eW l,b∈X.fs)->X.s₀.heap.FunFrames X.base l->s.heap.FunFrames X.base l:=by
  intro l
  induction l with
  |nil=>intro _ _;trivial
  |cons env r ih=>
   intro hs hl
   obtain⟨hk,⟨L,o,hf,hn,ho,hd⟩,hr⟩:=hl
   have hL:L∈X.fs:=hs L (by unfold eW;rw[List.filterMap_cons,hf];exact List.mem_cons_self)
   obtain⟨sl,e⟩:=I.base.slot L o ho (I.ok.frf L hL) hL fun z=>I.ok.exfs L z hL
   exact⟨hk,⟨L,_,hf,hn,e,hd⟩,ih (fun b hb=>hs b (by unfold eW;rw[List.filterMap_cons,hf];exact List.mem_cons_of_mem _ hb)) hr⟩
 exact all X.outer (fun _ hb=>hb) I.ok.funs
theorem Inv.stack(I:Inv X pins σ H s):s.heap.FunFrames X.base X.stack:=by
 rcases I.ok.stk with e|⟨e,hf⟩
 ·rw[e];exact I.funs
 ·rw[e]
  obtain⟨m,hn,_⟩:=I.loc
  refine .cons (by rw[I.ok.kind];decide) hf hn ?_ I.funs
  exact Heap.get?_none_of_le (Nat.le_trans I.ok.bsz I.ok.above)
theorem Inv.stkSub(I:Inv X pins σ H s):∀b∈eW X.stack,b∈X.env.locals::X.fs:=fun b hb=>by
 rcases I.ok.stk with e|⟨e,hf⟩
 ·rw[e]at hb;exact List.mem_cons_of_mem _ hb
 ·rw[e]at hb
  unfold eW at hb
  rw[List.filterMap_cons,hf]at hb
  exact hb
theorem Inv.stkFree(I:Inv X pins σ H s):∀b∈eW X.stack,H b=none:=fun b hb=>by
 rcases List.mem_cons.mp (I.stkSub b hb)with e|hb
 ·rw[e];exact I.free
 ·obtain⟨_,o,ho,_⟩:=I.ok.funs.mem hb
  exact I.base.free b o ho (I.ok.frf b hb) fun z=>I.ok.exfs b z hb
theorem Inv.step{g':Array GenState}{t':Nat}{d':Drawn}{ch:List Addr}(I:Inv X pins σ H s)
 (hch:∀b∈ch,(b∈X.ex\/ X.s₀.heap.objs.size<=b)/\b≠X.env.locals/\(∀x c,X.env.cells.lookup x=some c->c≠b)/\∀p∈X.pn++ pins,p.1≠b)
 (keep:∀b o,b≠X.env.locals->b∉X.fs->b∉ch->s.heap.get? b=some o->H b=none->h'.get? b=some o)
 (slot:∀b o,b≠X.env.locals->b∈X.fs->b∉ch->s.heap.get? b=some o->H b=none->∃sl,h'.get? b=some {o with slots:=sl})(free:∀b o,b∉ch->s.heap.get? b=some o->H b=none->H' b=none)
 (there:∀b o,b∉ch->s.heap.get? b=some o->∃o',h'.get? b=some o')
 (tups:∀b xs,H b=some (.tup xs)->H' b=some (.tup xs))(frzs:∀b o u,H b=some (.frz o u)->H' b=some (.frz o u))(tbls:∀b ps,H b=some (.tbl ps)->∃more,H' b=some (.tbl (ps++ more)))
 (ns:∀m,s.heap.Ns X.env.locals m->h'.Ns X.env.locals m)(hok:cA X.prog X.w H' h')(hg:AllBare g'):
 Inv X pins σ H' {s with heap:=h',gens:=g',drawn:=d',toks:=t'}:=by
 have neL:∀b o,X.s₀.heap.get? b=some o->b≠X.env.locals:=fun b o e=>Nat.ne_of_lt (Nat.lt_of_lt_of_le (Heap.lt_size e) I.ok.above)
 have neC:∀b o,X.s₀.heap.get? b=some o->b∉X.ex->b∉ch:=fun b o e hx hb=>by
  rcases(hch b hb).1 with z|z
  ·exact hx z
  ·exact absurd (Nat.lt_of_lt_of_le (Heap.lt_size e) z) (Nat.lt_irrefl _)
 have bV:∀x c,X.env.cells.lookup x=some c->∀v,s.heap.IsCell c v->h'.IsCell c v:=fun x c e v ⟨o,ho,hd⟩=>by
  have nch:c∉ch:=fun z=>(hch c z).2.2.1 x c e rfl
  by_cases hc:c∈X.fs
  ·obtain⟨sl,q⟩:=slot c o (I.cne x c e) hc nch ho (I.freeC x c e)
   exact⟨_,q,hd⟩
  ·exact⟨o,keep c o (I.cne x c e) hc nch ho (I.freeC x c e),hd⟩
 refine⟨I.ok,I.os,hg,⟨fun b o e n hb hx=> ?_,fun b o e n hb hx=> ?_,fun b o e n hx=> ?_,fun b o e hx=> ?_,fun b xs e=>tups b xs (I.base.tups b xs e),fun b o xs e=>frzs b o xs (I.base.frzs b o xs e),fun b ps e=> ?_⟩,?_,fun x c e=> ?_,?_,fun x c e=> ?_,fun p hp=> ?_,hok,I.len⟩
 ·exact keep b o (neL b o e) hb (neC b o e hx) (I.base.keep b o e n hb hx) (I.base.free b o e n hx)
 ·obtain⟨sl,e1⟩:=I.base.slot b o e n hb hx
  obtain⟨sl',e2⟩:=slot b _ (neL b o e) hb (neC b o e hx) e1 (I.base.free b o e n hx)
  exact⟨sl',e2⟩
 ·obtain⟨o',e1⟩:=I.base.there b o e hx
  exact free b o' (neC b o e hx) e1 (I.base.free b o e n hx)
 ·obtain⟨o',e1⟩:=I.base.there b o e hx
  exact there b o' (neC b o e hx) e1
 ·obtain⟨m1,e1⟩:=I.base.tbls b ps e
  obtain⟨m2,e2⟩:=tbls b _ e1
  exact⟨m1++ m2,by rw[e2,Array.append_assoc]⟩
 ·obtain⟨m,hn,hl⟩:=I.loc
  refine⟨m,ns m hn,fun i x v e1 e2 e3=> ?_⟩
  obtain⟨u,r,l⟩:=hl i x v e1 e2 e3
  refine⟨u,r,?_⟩
  rcases l with l|⟨k,c,e,z⟩
  ·exact .inl l
  ·exact .inr ⟨k,c,e,bV x c e _ z⟩
 ·obtain⟨v,z⟩:=I.cell x c e
  exact⟨v,bV x c e v z⟩
 ·obtain⟨m,⟨o,_,_,ho,_⟩,_⟩:=I.loc
  exact free _ o (fun z=>(hch _ z).2.1 rfl) ho I.free
 ·obtain⟨v,o,ho,hd⟩:=I.cell x c e
  exact free c o (fun z=>(hch c z).2.2.1 x c e rfl) ho (I.freeC x c e)
 ·obtain⟨e,n,ne,nf,d⟩:=I.pin p hp
  have nch:p.1∉ch:=fun z=>(hch p.1 z).2.2.2 p hp rfl
  exact⟨keep p.1 p.2 ne nf nch e n,free p.1 p.2 nch e n,ne,nf,d⟩
theorem Inv.un{t':Nat}(I:Inv X pins σ H s)(u:Un X.fs [] H H' s.heap h')(hok:cA X.prog X.w H' h'):Inv X pins σ H' {s with heap:=h',toks:=t'}:=by
 obtain⟨m,⟨o,es,ep,ho,r⟩,_⟩:=id I.loc
 obtain⟨sl,hL⟩:=u.any ho I.free (by simp)
 exact I.step (g':=s.gens) (d':=s.drawn) (ch:=[]) (fun _ z=>nomatch z) (fun b o _ hb _ e n=>u.keep b o e n hb (by simp)) (fun b o _ hb _ e n=>u.slot b o e n hb (by simp)) (fun b o _ e n=>u.free b o e n (by simp)) (fun b o _ e=>u.there b o e (by simp)) u.tups u.frzs u.tbls (fun m' hm=>by
  obtain⟨o',es',ep',ho',r'⟩:=hm
  rw[ho]at ho';cases ho'
  exact⟨_,es',ep',hL,r'⟩) hok I.bare
theorem Inv.call{g':Array GenState}{t':Nat}{d':Drawn}{ch:List Addr}(I:Inv X pins σ H s)(u:Un (eW X.stack) ch H H' s.heap h')(hok:cA X.prog X.w H' h')(hg:AllBare g')
 (hch:∀b∈ch,(b∈X.ex\/ X.s₀.heap.objs.size<=b)/\b≠X.env.locals/\(∀x c,X.env.cells.lookup x=some c->c≠b)/\∀p∈X.pn++ pins,p.1≠b):
 Inv X pins σ H' {s with heap:=h',gens:=g',drawn:=d',toks:=t'}:=by
 obtain⟨m,⟨o,es,ep,ho,r⟩,_⟩:=id I.loc
 obtain⟨sl,hL⟩:=u.any ho I.free fun z=>(hch _ z).2.1 rfl
 exact I.step (ch:=ch) hch (fun b o hL hb hc e n=>u.keep b o e n (fun z=>(List.mem_cons.mp (I.stkSub b z)).elim hL hb) hc) (fun b o _ _ hc e n=>u.any e n hc) (fun b o hc e n=>u.free b o e n hc) (fun b o hc e=>u.there b o e hc) u.tups u.frzs u.tbls (fun m' hm=>by
  obtain⟨o',es',ep',ho',r'⟩:=hm
  rw[ho]at ho';cases ho'
  exact⟨_,es',ep',hL,r'⟩) hok hg
theorem Inv.turned{t':Nat}{it:Addr}(I:Inv X pins σ H s)(k:∀b o,b≠it->s.heap.get? b=some o->h'.get? b=some o)(hn:H it=none)(hL:it≠X.env.locals)
 (h1:it∈X.ex\/ X.s₀.heap.objs.size<=it)(h2:∀x c,X.env.cells.lookup x=some c->c≠it)(h3:∀p∈X.pn++ pins,p.1≠it):Inv X pins σ H {s with heap:=h',toks:=t'}:=by
 have nit:∀b u,H b=some u->b≠it:=fun b u e z=>by rw[z,hn]at e;cases e
 refine I.step (g':=s.gens) (d':=s.drawn) (ch:=[it]) (fun b hb=> ?_) (fun b o _ _ hc e _=>k b o (fun z=>hc (by simp[z])) e) (fun b o _ _ hc e _=>⟨o.slots,k b o (fun z=>hc (by simp[z])) e⟩) (fun _ _ _ _ n=>n)
  (fun b o hc e=>⟨o,k b o (fun z=>hc (by simp[z])) e⟩) (fun _ _ e=>e) (fun _ _ _ e=>e) (fun b ps e=>⟨#[],by rw[e];simp⟩) (fun m hm=> ?_) (fun b u e=> ?_) I.bare
 ·have e:b=it:=by simpa using hb
  subst e
  exact⟨h1,hL,h2,h3⟩
 ·obtain⟨o,es,ep,ho,r⟩:=hm
  exact⟨o,es,ep,k _ o (Ne.symm hL) ho,r⟩
 ·refine(I.hok b u e).stay (fun c v hc q=>k c v ?_ q) (fun _ q=>q) fun _ _ q=>q
  rcases hc with z|z
  ·rw[z];exact nit b u e
  ·exact nit c _ z
theorem Inv.tok(I:Inv X pins σ H s)(t:Nat):Inv X pins σ H {s with toks:=t}:=I.un (h':=s.heap) (t':=t) Un.refl I.hok
theorem Inv.kept{t':Nat}(I:Inv X pins σ H s)(k:∀b u,s.heap.get? b=some u->h'.get? b=some u):Inv X pins σ H {s with heap:=h',toks:=t'}:=I.un (Un.kept k) (I.hok.kept k)
theorem Inv.laid{a:Addr}{o:HO}{t':Nat}(I:Inv X pins σ H s)(k:∀b u,s.heap.get? b=some u->h'.get? b=some u)(hp:s.heap.objs.size<=a)(new:cG X.prog X.w (upd H a o) h' a o):
 Inv X pins σ (upd H a o) {s with heap:=h',toks:=t'}:=I.un (Un.laid k hp (I.hok.fresh hp)) (I.hok.laid k hp new)
theorem Inv.write{x e:Addr}{o:HO}{t':Nat}(I:Inv X pins σ H s)(mu:pQ (H x))(he:e=x\/ H e=some (.own x))(k:∀b u,b≠e->s.heap.get? b=some u->h'.get? b=some u)(heo:∃u,h'.get? e=some u)
 (new:cG X.prog X.w (upd H x o) h' x o):Inv X pins σ (upd H x o) {s with heap:=h',toks:=t'}:=I.un (Un.write mu he k heo) (I.hok.write mu he k heo new)
theorem Inv.pins_of{pins':List (Addr×Obj)}(I:Inv X pins σ H s)(h:∀p∈pins',s.heap.get? p.1=some p.2/\H p.1=none/\p.1≠X.env.locals/\p.1∉X.fs/\∀v,p.2.data≠ .cell v):Inv X pins' σ H s:=
 ⟨I.ok,I.os,I.bare,I.base,I.loc,I.cell,I.free,I.freeC,fun p hp=>(List.mem_append.mp hp).elim (fun z=>I.pin p (List.mem_append_left _ z)) (h p),I.hok,I.len⟩
theorem a8i{N:List Str}(hN:N.Nodup){i j:Nat}{x:Str}(a:N[i]?=some x)(b:N[j]?=some x):i=j:=by
 obtain⟨h1,e1⟩:=List.getElem?_eq_some_iff.mp a
 obtain⟨h2,e2⟩:=List.getElem?_eq_some_iff.mp b
 exact(List.getElem_inj hN).mp (e1.trans e2.symm)
theorem a7f{M:Model}{A:Around}{E:Value->Shared->Prop}{i:Nat}{x:Str}{v:V}{u:Value}{Q:Unit->Shared->Prop}(I:Inv X pins σ H s)(hN:X.N.Nodup)(hi:X.N[i]?=some x)(hx:vB X.env.scope x)(r:aY v u)
 (h:∀s',Inv X pins (σ.set i (some v)) H s'->(∃a,Heap.SameBut a s.heap s'.heap/\(a=X.env.locals\/ X.env.cells.lookup x=some a))->Q () s')(hf:X.fn x=true\/ X.env.scope.names.lookup x=some .local:=by first|exact .inl rfl|exact .inr rfl|assumption):wpAny M A (storeName X.env x u) Q E s:=by
 obtain⟨m,hn,hl⟩:=id I.loc
 have hcls:(X.env.scope.kind== .class||(X.env.scope.kind== .module&&X.env.locals !=X.env.globals))=false:=by rw[I.ok.kind];rfl
 have hiσ:i<σ.length:=by rw[I.len];exact(List.getElem?_eq_some_iff.mp hi).1
 have cne:=I.cne
 have tracked:∀{a:Addr} {h':Heap},(∃o,s.heap.get? a=some o/\H a=none)->Heap.SameBut a s.heap h'->cA X.prog X.w H h':=fun{a h'} ha hs b ob e=>by
  obtain⟨_,_,hfree⟩:=ha
  refine(I.hok b ob e).stay (fun c w' hc q=>(hs.2 c ?_).trans q) (fun _ q=>q) fun _ _ q=>q
  rintro rfl
  rcases hc with rfl|hc
  ·rw[hfree]at e;cases e
  ·rw[hfree]at hc;cases hc
 rcases hx with hk|hk
 ·refine wpAny_storeName_local hk hn (fun h' hn' hs=> ?_) hcls
  obtain⟨oL,_,_,hoL,_⟩:=id hn
  refine h _ ⟨I.ok,I.os,I.bare,⟨fun b o e n hb hx=> ?_,fun b o e n hb hx=> ?_,I.base.free,fun b o e hx=> ?_,I.base.tups,I.base.frzs,I.base.tbls⟩,⟨_,hn',fun j y v' e1 e2 e3=> ?_⟩,fun y c e=> ?_,I.free,I.freeC,fun p hp=> ?_,tracked ⟨oL,hoL,I.free⟩ hs,by simpa using I.len⟩ ⟨_,hs,.inl rfl⟩
  ·exact(hs.2 b (Nat.ne_of_lt (Nat.lt_of_lt_of_le (Heap.lt_size e) I.ok.above))).trans (I.base.keep b o e n hb hx)
  ·obtain⟨sl,e1⟩:=I.base.slot b o e n hb hx
   exact⟨sl,(hs.2 b (Nat.ne_of_lt (Nat.lt_of_lt_of_le (Heap.lt_size e) I.ok.above))).trans e1⟩
  ·obtain⟨o',e1⟩:=I.base.there b o e hx
   exact⟨o',(hs.2 b (Nat.ne_of_lt (Nat.lt_of_lt_of_le (Heap.lt_size e) I.ok.above))).trans e1⟩
  ·by_cases hj:j=i
   ·subst hj
    rw[hi]at e1;cases e1
    rw[List.getElem?_set_self hiσ]at e2
    cases e2
    exact⟨u,r,.inl ⟨hk,by simp⟩⟩
   ·rw[List.getElem?_set_ne (Ne.symm hj)]at e2
    obtain⟨u',r',q⟩:=hl j y v' e1 e2 e3
    refine⟨u',r',?_⟩
    rcases q with⟨k,e⟩|⟨k,c,e,z⟩
    ·refine .inl ⟨k,?_⟩
     have:y≠x:=fun e=>hj (a8i hN e1 (e▸hi))
     simp[this,e]
    ·exact .inr ⟨k,c,e,z.sameBut hs (cne y c e)⟩
  ·obtain⟨w',z⟩:=I.cell y c e
   exact⟨w',z.sameBut hs (cne y c e)⟩
  ·obtain⟨e,n,ne,nf,d⟩:=I.pin p hp
   exact⟨(hs.2 p.1 ne).trans e,n,ne,nf,d⟩
 ·have hfn:X.fn x=true:=by
   rcases hf with z|z
   ·exact z
   ·rw[z]at hk;cases hk
  obtain⟨c,hc⟩:=I.ok.has x (.inl hk)
  obtain⟨w',z⟩:=I.cell x c hc
  refine wpAny_storeName_cell I.ok.kind hk hc z (fun h' hc' hs=> ?_)
  obtain⟨oc,hoc,hocd⟩:=id z
  refine h {s with heap:=h'} ⟨I.ok,I.os,I.bare,⟨fun b o e n hb hx=> ?_,fun b o e n hb hx=> ?_,I.base.free,fun b o e hx=> ?_,I.base.tups,I.base.frzs,I.base.tbls⟩,⟨m,hn.sameBut hs (Ne.symm (cne x c hc)),fun j y v' e1 e2 e3=> ?_⟩,fun y c' e=> ?_,I.free,I.freeC,fun p hp=> ?_,tracked ⟨oc,hoc,I.freeC x c hc⟩ hs,by simpa using I.len⟩ ⟨c,hs,.inr hc⟩
  ·exact(hs.2 b (Nat.ne_of_lt (Nat.lt_of_lt_of_le (Heap.lt_size e) (I.ok.cab x c hfn hc)))).trans (I.base.keep b o e n hb hx)
  ·obtain⟨sl,e1⟩:=I.base.slot b o e n hb hx
   exact⟨sl,(hs.2 b (Nat.ne_of_lt (Nat.lt_of_lt_of_le (Heap.lt_size e) (I.ok.cab x c hfn hc)))).trans e1⟩
  ·obtain⟨o',e1⟩:=I.base.there b o e hx
   exact⟨o',(hs.2 b (Nat.ne_of_lt (Nat.lt_of_lt_of_le (Heap.lt_size e) (I.ok.cab x c hfn hc)))).trans e1⟩
  ·by_cases hj:j=i
   ·subst hj
    rw[hi]at e1;cases e1
    rw[List.getElem?_set_self hiσ]at e2
    cases e2
    exact⟨u,r,.inr ⟨.inl hk,c,hc,hc'⟩⟩
   ·rw[List.getElem?_set_ne (Ne.symm hj)]at e2
    obtain⟨u',r',q⟩:=hl j y v' e1 e2 e3
    refine⟨u',r',?_⟩
    rcases q with q|⟨k,c',e,z'⟩
    ·exact .inl q
    ·refine .inr ⟨k,c',e,z'.sameBut hs ?_⟩
     rintro rfl
     exact hj (a8i hN e1 (I.ok.inj _ _ _ e hc▸hi))
  ·by_cases hcc:c'=c
   ·subst hcc;exact⟨_,hc'⟩
   ·obtain⟨w2,z2⟩:=I.cell y c' e
    exact⟨w2,z2.sameBut hs hcc⟩
  ·obtain⟨e,n,ne,nf,d⟩:=I.pin p hp
   refine⟨(hs.2 p.1 ?_).trans e,n,ne,nf,d⟩
   intro q
   rw[q,hoc]at e
   have q':oc=p.2:=Option.some.inj e
   exact d w' (by rw[<- q'];exact hocd)
theorem a8N{M:Model}{A:Around}{E:Value->Shared->Prop}{i:Nat}{x:Str}{v:V}{u:Value}{Q:Unit->Shared->Prop}(I:Inv X pins σ H s)(hN:X.N.Nodup)(hi:X.N[i]?=some x)(hx:vB X.env.scope x)(r:aY v u)
 (h:∀s',Inv X pins (σ.set i (some v)) H s'->Q () s')(hf:X.fn x=true\/ X.env.scope.names.lookup x=some .local:=by first|exact .inl rfl|exact .inr rfl|assumption):wpAny M A (storeName X.env x u) Q E s:=
 a7f I hN hi hx r (fun s' I' _=>h s' I') hf
theorem Inv.call'{s':Shared}{ch:List Addr}(I:Inv X pins σ H s)(ho:s'.os=s.os)(u:Un (eW X.stack) ch H H' s.heap s'.heap)(hok:cA X.prog X.w H' s'.heap)(hg:AllBare s'.gens)
 (hch:∀b∈ch,(b∈X.ex\/ X.s₀.heap.objs.size<=b)/\b≠X.env.locals/\(∀x c,X.env.cells.lookup x=some c->c≠b)/\∀p∈X.pn++ pins,p.1≠b):Inv X pins σ H' s':=by
 obtain⟨h',g',d',t',o'⟩:=s'
 have e:o'=s.os:=ho
 subst e
 exact I.call (g':=g') (t':=t') (d':=d') u hok hg hch
end
abbrev XK:=Value->Option Addr->Hp->Prop
abbrev St:=List (Option V)
abbrev VK:=V->Hp->Prop
abbrev TE:=St->Hp->VK->Prop
abbrev TT:=St->Hp->(Bool->Hp->Prop)->Prop
abbrev TA:=St->Hp->(List V->Hp->Prop)->Prop
structure kC where
 nx:St->Hp->Prop
 rt:VK
 bk:St->Hp->Prop:=fun _ _=>False
 ct:St->Hp->Prop:=fun _ _=>False
abbrev TS:=kC->St->Hp->Prop
def EP(X:Cx)(pins:List (Addr×Obj))(σ:St)(Q:VK)(u:Value)(s':Shared):Prop:=∃v H',Inv X pins σ H' s'/\aY v u/\Q v H'
def TP(X:Cx)(pins:List (Addr×Obj))(σ:St)(Q:Bool->Hp->Prop)(b:Bool)(s':Shared):Prop:=∃H',Inv X pins σ H' s'/\Q b H'
def AP(X:Cx)(pins:List (Addr×Obj))(σ:St)(Q:List V->Hp->Prop)(us:List Value)(s':Shared):Prop:=∃vs H',Inv X pins σ H' s'/\aV vs us/\Q vs H'
def SP(X:Cx)(pins:List (Addr×Obj))(D:kC)(f:Flow)(s':Shared):Prop:=
 match f with
 | .next=>∃σ' H',Inv X pins σ' H' s'/\D.nx σ' H'
 | .brk=>∃σ' H',Inv X pins σ' H' s'/\D.bk σ' H'
 | .cont=>∃σ' H',Inv X pins σ' H' s'/\D.ct σ' H'
 | .ret u=>∃v σ' H',Inv X pins σ' H' s'/\aY v u/\D.rt v H'
def PE(X:Cx)(e:Expr)(t:TE):Prop:=
 ∀(pins:List (Addr×Obj)) (s:Shared) (σ:St) (H:Hp) (Q:VK),Inv X pins σ H s->t σ H Q->wpAny (model X.prog X.w) X.A (eval e X.env) (EP X pins σ Q) X.xe s
def PT(X:Cx)(e:Expr)(t:TT):Prop:=
 ∀(pins:List (Addr×Obj)) (s:Shared) (σ:St) (H:Hp) (Q:Bool->Hp->Prop),Inv X pins σ H s->t σ H Q->wpAny (model X.prog X.w) X.A (isTrue e X.env (eval e X.env)) (TP X pins σ Q) X.xe s
def PW(X:Cx)(e:Expr)(t:TT):Prop:=
 ∀(whole:Sem Value) (pins:List (Addr×Obj)) (s:Shared) (σ:St) (H:Hp) (Q:Bool->Hp->Prop),Inv X pins σ H s->t σ H Q->wpAny (model X.prog X.w) X.A (isTrue e X.env whole) (TP X pins σ Q) X.xe s
theorem PW.pt{X:Cx}{e:Expr}{t:TT}(h:PW X e t):PT X e t:=h _
def PA(X:Cx)(es:List Expr)(t:TA):Prop:=
 ∀(pos:Pos) (pins:List (Addr×Obj)) (s:Shared) (σ:St) (H:Hp) (Q:List V->Hp->Prop),Inv X pins σ H s->t σ H Q->wpAny (model X.prog X.w) X.A (spliced (backTo pos (starEach es X.env))) (AP X pins σ Q) X.xe s
def PS(X:Cx)(st:Stmt)(t:TS):Prop:=
 ∀(pins:List (Addr×Obj)) (s:Shared) (σ:St) (H:Hp) (D:kC),Inv X pins σ H s->t D σ H->wpAny (model X.prog X.w) X.A (exec st X.env) (SP X pins D) X.xe s
def dC(X:Cx)(st:List Stmt)(t:TS):Prop:=
 ∀(pins:List (Addr×Obj)) (s:Shared) (σ:St) (H:Hp) (D:kC),Inv X pins σ H s->t D σ H->wpAny (model X.prog X.w) X.A (execs st X.env) (SP X pins D) X.xe s
theorem aO{α:Type}{t:Sem α}{Q Q':α->Shared->Prop}{M:Model}{A:Around}{E:Value->Shared->Prop}{s:Shared}(h:wpAny M A t Q E s)(hQ:∀a s,Q a s->Q' a s):wpAny M A t Q' E s:=wpAny_mono h hQ fun _ _ x=>x
section
variable{X:Cx}
theorem bin{a b:Expr}{ta tb:TE}(ha:PE X a ta)(hb:PE X b tb){pins:List (Addr×Obj)}{s:Shared}{σ:St}{H:Hp}{R:V->V->Hp->Prop}(I:Inv X pins σ H s)(h:ta σ H fun x H1=>tb σ H1 fun y H2=>R x y H2)
 {α:Type}{Q:α->Shared->Prop}{f:Value->Value->Sem α}
 (hf:∀v u s2 x y H2,Inv X pins σ H2 s2->aY x v->aY y u->R x y H2->wpAny (model X.prog X.w) X.A (f v u) Q X.xe s2):
 wpAny (model X.prog X.w) X.A (eval a X.env) (fun v s₁=>wpAny (model X.prog X.w) X.A (eval b X.env) (fun u s₂=>wpAny (model X.prog X.w) X.A (f v u) Q X.xe s₂) X.xe s₁) X.xe s:=by
 refine aO (ha pins s σ H _ I h) fun v s1 ⟨x,H1,I1,r1,q1⟩=> ?_
 refine aO (hb pins s1 σ H1 _ I1 q1) fun u s2 ⟨y,H2,I2,r2,q2⟩=> ?_
 exact hf v u s2 x y H2 I2 r1 r2 q2
def eS(i:Nat):TE:=fun σ H Q=>∃v,σ[i]?=some (some v)/\Q v H
def tC(v:V):TE:=fun _ H Q=>Q v H
theorem b2o{i:Nat}{x:Str}{pos:Pos}(hN:X.N[i]?=some x)(hv:zE X.env.scope x)(hd:(x==("__debug__":Str))=false:=by decide)(hcd:(x==("__classdict__":Str))=false:=by decide):PE X (.Name x pos) (eS i):=by
 intro pins s σ H Q I h
 obtain⟨v,e,h⟩:=h
 obtain⟨m,hn,hl⟩:=I.loc
 obtain⟨u,r,l⟩:=hl i x v hN e hv
 have fin:EP X pins σ Q u s:=⟨v,H,I,r,h⟩
 rcases l with⟨hk,hm⟩|⟨hk,c,hc,hcell⟩
 ·exact wpAny_Name (wpAny_loadName_local I.ok.kind hk hn hm fin) hd
 ·rcases hk with hk|hk
  ·exact wpAny_Name (wpAny_loadName_cell I.ok.kind hk hc hcell fin) hd
  ·exact wpAny_Name (wpAny_loadName_free I.ok.kind hk hc hcell fin hcd) hd
theorem aS{i j pos}:PE X (.Constant (.int i) j pos) (tC (.int i)):=fun _ _ _ H _ I h=>wpAny_Constant_int ⟨.int i,H,I.tok _,⟨_,rfl⟩,h⟩
theorem iR{b j pos}:PE X (.Constant (.bool b) j pos) (tC (.bl b)):=fun _ _ _ H _ I h=>Constant_bool ⟨.bl b,H,I,rfl,h⟩
theorem kT{j pos}:PE X (.Constant .none j pos) (tC .non):=fun _ _ _ H _ I h=>Constant_none ⟨.non,H,I,rfl,h⟩
theorem hJ{x j pos}:PE X (.Constant (.str x) j pos) (tC (.str x)):=fun _ _ _ H _ I h=>Calls.Constant_str ⟨.str x,H,I.tok _,⟨_,rfl⟩,h⟩
def Gl(X:Cx)(x:Str):Prop:=X.env.kindOf x=some .globalImplicit
theorem vP{E:Value->Shared->Prop}{pins:List (Addr×Obj)}{s:Shared}{σ:St}{H:Hp}{x:Str}{u:Value}{pos:Pos}{Q:Value->Shared->Prop}(I:Inv X pins σ H s)(hg:Gl X x)(hm:X.mg x=some u)(h:Q u s)
 (hd:(x==("__debug__":Str))=false:=by decide):wpAny (model X.prog X.w) X.A (eval (.Name x pos) X.env) Q E s:=
 Calls.Name_function_global I.ok.kind hg (Calls.loadGlobal_global (by rw[I.ok.glob];exact I.mod.glob.keeps I.bk) hm h) hd
theorem tU{E:Value->Shared->Prop}{pins:List (Addr×Obj)}{s:Shared}{σ:St}{H:Hp}{x:Str}{u:Value}{pos:Pos}{Q:Value->Shared->Prop}(I:Inv X pins σ H s)(hg:Gl X x)(hm:X.mg x=none)(hv:bootBuiltins x=some u)(h:Q u s)
 (hn:x≠ "__name__":=by decide)(hd:(x==("__debug__":Str))=false:=by decide):wpAny (model X.prog X.w) X.A (eval (.Name x pos) X.env) Q E s:=by
 obtain⟨mb,h1,h2⟩:=I.mod.blt
 exact Calls.Name_function_global I.ok.kind hg (Calls.loadGlobal_builtin (by rw[I.ok.glob];exact I.mod.glob.keeps I.bk) hm (by rw[I.ok.blt];exact h1.keeps I.bk) ((h2 x hn).trans hv) h) hd
theorem a8H{x:Str}{v:V}{u:Value}{pos:Pos}(hg:Gl X x)(hm:X.mg x=some u)(r:aY v u)(hd:(x==("__debug__":Str))=false:=by decide):PE X (.Name x pos) (tC v):=
 fun _ _ _ H _ I h=>vP I hg hm ⟨v,H,I,r,h⟩ hd
theorem b0g{x:Str}{v:V}{u:Value}{pos:Pos}(hg:Gl X x)(hm:X.mg x=none)(hv:bootBuiltins x=some u)(r:aY v u)(hn:x≠ "__name__":=by decide)(hd:(x==("__debug__":Str))=false:=by decide):PE X (.Name x pos) (tC v):=
 fun _ _ _ H _ I h=>tU I hg hm hv ⟨v,H,I,r,h⟩ hn hd
variable{a b:Expr}{ta tb:TE}{pos:Pos}
def PC(X:Cx)(op:CmpOp)(a b:Expr)(t:TE):Prop:=
 ∀(pins:List (Addr×Obj)) (s:Shared) (σ:St) (H:Hp) (Q:VK),Inv X pins σ H s->t σ H Q->
  wpAny (model X.prog X.w) X.A (eval a X.env) (fun v s₁=>wpAny (model X.prog X.w) X.A (eval b X.env) (fun u s₂=>wpAny (model X.prog X.w) X.A (compareOp op v u) (EP X pins σ Q) X.xe s₂) X.xe s₁) X.xe s
theorem a7j(b:Expr){op:CmpOp}(h:op≠ .In)(h2:op≠ .NotIn):behindInMarks op b=false:=by
 have e1:(op==CmpOp.In)=false:=by cases op<;>first|rfl|exact absurd rfl h
 have e2:(op==CmpOp.NotIn)=false:=by cases op<;>first|rfl|exact absurd rfl h2
 cases b<;>simp[behindInMarks,e1,e2]
def tB(t:TE):TT:=fun σ H Q=>t σ H fun x H1=>∃c,x= .bl c/\Q c H1
theorem b0r{op:CmpOp}{t:TE}(h:PC X op a b t)(h1:behindInMarks op b=false:=by first|exact a7j _ (by decide) (by decide)|rfl):PE X (.Compare a [op] [b] pos) t:=fun pins s σ H Q I hw=>wpAny_Compare1 (h pins s σ H Q I hw) h1
theorem jL{op:CmpOp}{t:TE}(h:PC X op a b t)(h1:behindInMarks op b=false:=by first|exact a7j _ (by decide) (by decide)|rfl):PT X (.Compare a [op] [b] pos) (tB t):=by
 intro pins s σ H Q I hw
 refine wpAny_isTrue_Compare1 (aO (h pins s σ H _ I hw) fun v s1 h1=>aO h1 fun u s2 h2=>aO h2 fun c s3 ⟨x,H1,I1,r1,q1⟩=> ?_) h1
 obtain⟨d,rfl,q⟩:=q1
 cases r1
 exact wpAny_truthy_bool ⟨H1,I1,q⟩
theorem dG{e:Expr}{t:TE}(h:PE X e t)(he:∀whole,isTrue e X.env whole=(do let v<- whole;standAt e.pos;holding [v] (truthy v)):=by intro _;rfl):PT X e (tB t):=by
 intro pins s σ H Q I hw
 refine isTrue_plain (aO (h pins s σ H _ I hw) fun v s1 ⟨x,H1,I1,r1,q1⟩=> ?_) (he _)
 obtain⟨d,rfl,q⟩:=q1
 cases r1
 exact wpAny_truthy_bool ⟨H1,I1,q⟩
variable{tA tB':TT}{fC:List Expr}
def tAnd(t u:TT):TT:=fun σ H Q=>t σ H fun c H1=>if c=true then u σ H1 Q else Q false H1
def tOr(t u:TT):TT:=fun σ H Q=>t σ H fun c H1=>if c=true then Q true H1 else u σ H1 Q
def tNot(t:TT):TT:=fun σ H Q=>t σ H fun c H1=>Q (!c) H1
theorem a43(ha:PT X a tA):PW X (.BoolOp .And [a] pos) tA:=by
 intro wh pins s σ H Q I h
 refine isTrue_and (aO (ha pins s σ H Q I h) fun c s1 e=> ?_)
 cases c with
 |true=>exact isTrue_and_nil e
 |false=>exact e
theorem fP(ha:PT X a tA):PW X (.BoolOp .Or [a] pos) tA:=by
 intro wh pins s σ H Q I h
 refine isTrue_or (aO (ha pins s σ H Q I h) fun c s1 e=> ?_)
 cases c with
 |false=>exact isTrue_or_nil e
 |true=>exact e
theorem a62(ha:PT X a tA)(hb:PW X (.BoolOp .And (b::fC) pos) tB'):PW X (.BoolOp .And (a::b::fC) pos) (tAnd tA tB'):=by
 intro wh pins s σ H Q I h
 refine isTrue_and (aO (ha pins s σ H _ I h) fun c s1 ⟨H1,I1,q1⟩=> ?_)
 cases c with
 |true=>exact hb wh pins s1 σ H1 Q I1 q1
 |false=>exact⟨H1,I1,q1⟩
theorem fE(ha:PT X a tA)(hb:PW X (.BoolOp .Or (b::fC) pos) tB'):PW X (.BoolOp .Or (a::b::fC) pos) (tOr tA tB'):=by
 intro wh pins s σ H Q I h
 refine isTrue_or (aO (ha pins s σ H _ I h) fun c s1 ⟨H1,I1,q1⟩=> ?_)
 cases c with
 |true=>exact⟨H1,I1,q1⟩
 |false=>exact hb wh pins s1 σ H1 Q I1 q1
theorem dF(ha:PT X a tA):PT X (.UnaryOp .Not a pos) (tNot tA):=by
 intro pins s σ H Q I h
 exact isTrue_not (ha pins s σ H (fun c H1=>Q (!c) H1) I h)
def a9v(ta tb:TE):TE:=fun σ H Q=>ta σ H fun x H1=>∃c,x= .bl c/\if c=true then tb σ H1 Q else Q (.bl false) H1
def tOrV(ta tb:TE):TE:=fun σ H Q=>ta σ H fun x H1=>∃c,x= .bl c/\if c=true then Q (.bl true) H1 else tb σ H1 Q
def b1c(ta:TE):TE:=fun σ H Q=>ta σ H fun x H1=>∃c,x= .bl c/\Q (.bl (!c)) H1
theorem qM{op}{t:TE}(h:PE X a t):PE X (.BoolOp op [a] pos) t:=fun pins s σ H Q I hw=>BoolOp_one (h pins s σ H Q I hw)
theorem rX(ha:PE X a ta)(hb:PE X (.BoolOp .And (b::fC) pos) tb):PE X (.BoolOp .And (a::b::fC) pos) (a9v ta tb):=by
 intro pins s σ H Q I h
 refine BoolOp_and (aO (ha pins s σ H _ I h) fun v s1 ⟨x,H1,I1,r1,q1⟩=> ?_)
 obtain⟨c,rfl,q1⟩:=q1
 cases r1
 refine wpAny_truthy_bool ?_
 cases c with
 |true=>exact hb pins s1 σ H1 Q I1 q1
 |false=>exact⟨.bl false,H1,I1,rfl,q1⟩
theorem b2S(ha:PE X a ta)(hb:PE X (.BoolOp .Or (b::fC) pos) tb):PE X (.BoolOp .Or (a::b::fC) pos) (tOrV ta tb):=by
 intro pins s σ H Q I h
 refine BoolOp_or (aO (ha pins s σ H _ I h) fun v s1 ⟨x,H1,I1,r1,q1⟩=> ?_)
 obtain⟨c,rfl,q1⟩:=q1
 cases r1
 refine wpAny_truthy_bool ?_
 cases c with
 |false=>exact hb pins s1 σ H1 Q I1 q1
 |true=>exact⟨.bl true,H1,I1,rfl,q1⟩
theorem b2r(ha:PE X a ta):PE X (.UnaryOp .Not a pos) (b1c ta):=by
 intro pins s σ H Q I h
 refine UnaryOp_ (aO (ha pins s σ H _ I h) fun v s1 ⟨x,H1,I1,r1,q1⟩=> ?_)
 obtain⟨c,rfl,q1⟩:=q1
 cases r1
 exact not_of (wpAny_truthy_bool ⟨.bl (!c),H1,I1,rfl,q1⟩)
end
def aI(K:Fg)(H:Hp)(a:Addr)(xs:List V):Prop:=
 Rd H a (.lst xs)\/
  ∃(o:Obj) (its:Array Value) (n:Nat),K.lookup a=some o/\o.cls= .type "list" /\o.dict=none/\o.data= .seq its n/\its.size<=sizeLine/\aV xs its.toList
def bU(K:Fg)(H:Hp)(a:Addr)(xs:List V):Prop:=
 Rd H a (.tup xs)\/
  ∃(o:Obj) (its:Array Value) (n:Nat),K.lookup a=some o/\o.cls= .type "tuple" /\o.data= .seq its n/\its.size<=sizeLine/\aV xs its.toList
noncomputable def absV:Value->Option V
 | .none=>some .non
 | .bool b=>some (.bl b)
 | .int i _=>some (.int i)
 | .str x _=>some (.str x)
 | .bytes b _=>some (.byt b)
 | .float b _=>some (.flt b)
 | .ref a=>some (.ref a)
 | .type n=>some (.ty n)
 |_=>none
theorem aY.abs{x:V}{u:Value}(r:aY x u):absV u=some x:=by
 cases x with
 |non=>cases r;rfl
 |bl _=>cases r;rfl
 |int _=>obtain⟨t,rfl⟩:=r;rfl
 |str _=>obtain⟨t,rfl⟩:=r;rfl
 |byt _=>obtain⟨t,rfl⟩:=r;rfl
 |flt _=>obtain⟨t,rfl⟩:=r;rfl
 |ref _=>cases r;rfl
 |ty _=>cases r;rfl
theorem aY.inj{x y:V}{u:Value}(r:aY x u)(q:aY y u):x=y:=Option.some.inj (r.abs.symm.trans q.abs)
theorem aV.inj:∀{xs ys:List V} {us:List Value},aV xs us->aV ys us->xs=ys
 |_,_,_,.nil,.nil=>rfl
 |_,_,_,.cons r t,.cons r' t'=>by rw[r.inj r',aV.inj t t']
section
variable{X:Cx}{pins:List (Addr×Obj)}{σ:St}{H:Hp}{s:Shared}{a:Addr}{xs ys:List V}
theorem aI.of{K:Fg}(h:H a=some (.lst xs)):aI K H a xs:=.inl (.inl h)
theorem bU.of{K:Fg}(h:H a=some (.tup xs)):bU K H a xs:=.inl (.inl h)
theorem Inv.list(I:Inv X pins σ H s)(h:aI X.K H a xs):∃its:List Value,aV xs its/\PlainL s.heap a its.toArray/\xs.length<=sizeLine:=by
 rcases h with h|⟨o,its,n,hk,hc,hd,hs,hz,r⟩
 ·obtain⟨z,its,n,r,e⟩:=h.ok I.hok
  exact⟨its,r,⟨_,n,e,rfl,rfl,rfl⟩,z⟩
 ·refine⟨its.toList,r,⟨o,n,I.kIn a o hk,hc,hd,by simpa using hs⟩,?_⟩
  have e:=r.length
  simp only[Array.length_toList]at e
  omega
theorem Inv.tuple(I:Inv X pins σ H s)(h:bU X.K H a xs):∃its:List Value,aV xs its/\IsTup s.heap a its.toArray/\xs.length<=sizeLine:=by
 rcases h with h|⟨o,its,n,hk,hc,hs,hz,r⟩
 ·obtain⟨z,its,r,p⟩:=h.ok I.hok
  exact⟨its,r,p,z⟩
 ·refine⟨its.toList,r,⟨o,I.kIn a o hk,hc,n,by simpa using hs⟩,?_⟩
  have e:=r.length
  simp only[Array.length_toList]at e
  omega
theorem Inv.list_inj(I:Inv X pins σ H s)(h:aI X.K H a xs)(h':aI X.K H a ys):xs=ys:=by
 obtain⟨its,r,⟨o,n,e,_,_,d⟩,_⟩:=I.list h
 obtain⟨its',r',⟨o',n',e',_,_,d'⟩,_⟩:=I.list h'
 rw[e]at e';cases e'
 rw[d]at d'
 injection d' with d1 _
 have:its=its':=by simpa using congrArg Array.toList d1
 subst this
 exact r.inj r'
end
abbrev Cx.wish(X:Cx)(E:Value->Shared->Prop):Cx:={X with xe:=E}
abbrev Cx.nox(X:Cx):Cx:=X.wish fun _ _=>False
theorem Cx.Ok.wish{X:Cx}(ok:X.Ok)(E:Value->Shared->Prop):(X.wish E).Ok:=
 ⟨ok.mod,ok.kind,ok.glob,ok.blt,ok.above,ok.inj,ok.has,ok.cab,ok.hd,ok.frames,ok.stk,ok.exf,ok.bs,ok.bsz,ok.noex,ok.exfs,ok.funs,ok.frf⟩
theorem Cx.Ok.unwish{X:Cx}{E:Value->Shared->Prop}(ok:(X.wish E).Ok):X.Ok:=
 ⟨ok.mod,ok.kind,ok.glob,ok.blt,ok.above,ok.inj,ok.has,ok.cab,ok.hd,ok.frames,ok.stk,ok.exf,ok.bs,ok.bsz,ok.noex,ok.exfs,ok.funs,ok.frf⟩
section
variable{X:Cx}{pins:List (Addr×Obj)}{σ:St}{H:Hp}{s:Shared}{E:Value->Shared->Prop}
theorem Inv.wish(I:Inv X pins σ H s)(E:Value->Shared->Prop):Inv (X.wish E) pins σ H s:=⟨I.ok.wish E,I.os,I.bare,I.base,I.loc,I.cell,I.free,I.freeC,I.pin,I.hok,I.len⟩
theorem Inv.unwish(I:Inv (X.wish E) pins σ H s):Inv X pins σ H s:=⟨I.ok.unwish,I.os,I.bare,I.base,I.loc,I.cell,I.free,I.freeC,I.pin,I.hok,I.len⟩
theorem SP.unwish{D:kC}{f:Flow}{s':Shared}(h:SP (X.wish E) pins D f s'):SP X pins D f s':=by
 cases f with
 |next=>obtain⟨σ',H',I,q⟩:=h;exact⟨σ',H',I.unwish,q⟩
 |brk=>obtain⟨σ',H',I,q⟩:=h;exact⟨σ',H',I.unwish,q⟩
 |cont=>obtain⟨σ',H',I,q⟩:=h;exact⟨σ',H',I.unwish,q⟩
 |ret u=>obtain⟨v,σ',H',I,r,q⟩:=h;exact⟨v,σ',H',I.unwish,r,q⟩
theorem dC.nox{st:List Stmt}{t:TS}(h:dC X.nox st t):dC X st t:=fun pins s σ H D I hw=>
 wpAny_mono (h pins s σ H D (I.wish _) hw) (fun _ _ q=>q.unwish) fun _ _ z=>False.elim z
end
section
variable{X:Cx}{st:Stmt}{fC:List Stmt}{t u:TS}{e:Expr}{te:TE}{pos:Pos}
def b3k:TS:=fun D σ H=>D.nx σ H
def tSeq(t u:TS):TS:=fun D σ H=>t {D with nx:=u D} σ H
theorem cB:dC X [] b3k:=fun _ _ σ H _ I h=>wpAny_execs_nil ⟨σ,H,I,h⟩
theorem aK(h1:PS X st t)(h2:dC X fC u):dC X (st::fC) (tSeq t u):=by
 intro pins s σ H D I h
 refine wpAny_execs_cons (aO (h1 pins s σ H {D with nx:=u D} I h) fun f s1 q=> ?_)
 cases f with
 |next=>
  obtain⟨σ',H',I',q⟩:=q
  exact h2 pins s1 σ' H' D I' q
 |ret v=>exact q
 |brk=>exact q
 |cont=>exact q
theorem aL(h1:PS X st t):dC X [st] t:=by
 intro pins s σ H D I h
 refine wpAny_execs_cons (aO (h1 pins s σ H D I h) fun f s1 q=> ?_)
 cases f with
 |next=>exact wpAny_execs_nil q
 |ret v=>exact q
 |brk=>exact q
 |cont=>exact q
theorem Inv.quiet{pins:List (Addr×Obj)}{σ:St}{H:Hp}{s:Shared}(I:Inv X pins σ H s):interactive X.env=false:=by simp[interactive,I.ok.kind]
def b0y(te:TE):TS:=fun D σ H=>te σ H fun _ H1=>D.nx σ H1
theorem bX(he:PE X e te)(hs:swapsWith e none pos.line X.env=pure false:=by rfl):PS X (.Expr e pos) (b0y te):=by
 intro pins s σ H D I h
 exact wpAny_Expr_any (aO (he pins s σ H _ I h) fun v s1 ⟨x,H1,I1,r1,q1⟩=>⟨σ,H1,I1,q1⟩) I.quiet hs
def tRet(te:TE):TS:=fun D σ H=>te σ H D.rt
theorem bH(he:PE X e te):PS X (.Return (some e) pos) (tRet te):=by
 intro pins s σ H D I h
 exact wpAny_Return_some (aO (he pins s σ H _ I h) fun v s1 ⟨x,H1,I1,r1,q1⟩=>⟨x,σ,H1,I1,r1,q1⟩)
def tIfS(c:TT)(t u:TS):TS:=fun D σ H=>c σ H fun b H1=>if b=true then t D σ H1 else u D σ H1
theorem bY{c:Expr}{a b:List Stmt}{tc:TT}(hc:PT X c tc)(ha:dC X a t)(hb:dC X b u):PS X (.If c a b pos) (tIfS tc t u):=by
 intro pins s σ H D I h
 refine wpAny_If (aO (hc pins s σ H _ I h) fun d s1 ⟨H1,I1,q1⟩=> ?_)
 cases d with
 |true=>exact ha pins s1 σ H1 D I1 q1
 |false=>exact hb pins s1 σ H1 D I1 q1
end
abbrev TG:=V->St->Hp->(St->Hp->Prop)->Prop
abbrev jU:=List V->St->Hp->(St->Hp->Prop)->Prop
def PG(X:Cx)(target:Expr)(t:TG):Prop:=
 ∀(pins:List (Addr×Obj)) (s:Shared) (σ:St) (H:Hp) (v:V) (u:Value) (Q:St->Hp->Prop),Inv X pins σ H s->aY v u->t v σ H Q->
  wpAny (model X.prog X.w) X.A (assign target X.env u) (fun _ s'=>∃σ' H',Inv X pins σ' H' s'/\Q σ' H') X.xe s
def tK(X:Cx)(ts:List Expr)(t:jU):Prop:=
 ∀(pins:List (Addr×Obj)) (s:Shared) (σ:St) (H:Hp) (vs:List V) (us:List Value) (Q:St->Hp->Prop),Inv X pins σ H s->aV vs us->t vs σ H Q->
  wpAny (model X.prog X.w) X.A (assignInOrder ((assignEach ts X.env).map (·.2)) us) (fun _ s'=>∃σ' H',Inv X pins σ' H' s'/\Q σ' H') X.xe s
section
variable{X:Cx}{pos:Pos}
noncomputable def vH(i:Nat):TG:=fun v σ H Q=>Q (σ.set i (some v)) H
theorem gI{i:Nat}{x:Str}(hN:X.N.Nodup)(hi:X.N[i]?=some x)(hx:vB X.env.scope x)(hf:X.fn x=true\/ X.env.scope.names.lookup x=some .local:=by first|exact .inl rfl|exact .inr rfl|assumption):PG X (.Name x pos) (vH i):=by
 intro pins s σ H v u Q I r h
 exact wpAny_assign_Name (a8N I hN hi hx r (fun s' I'=>⟨_,H,I',h⟩) hf)
noncomputable def gNil:jU:=fun vs σ H Q=>vs= [] /\Q σ H
noncomputable def b2L (t:TG) (u:jU):jU:=fun vs σ H Q=>∃v r,vs=v::r/\t v σ H fun σ' H'=>u r σ' H' Q
theorem a7K:tK X [] gNil:=by
 intro pins s σ H vs us Q I r h
 obtain⟨e,h⟩:=h
 subst e
 cases r
 exact assignInOrder_nil ⟨σ,H,I,h⟩
theorem uJ{e:Expr}{es:List Expr}{t:TG}{u:jU}(h1:PG X e t)(h2:tK X es u)
 (hs:(assignEach (e::es) X.env).map (·.2)=assign e X.env::(assignEach es X.env).map (·.2):=by rfl):tK X (e::es) (b2L t u):=by
 intro pins s σ H vs us Q I r h
 obtain⟨v,vr,e1,h⟩:=h
 subst e1
 cases r with
 |cons r rr=>
  rw[hs]
  refine assignInOrder_cons (aO (h1 pins s σ H _ _ _ I r h) fun _ s1 ⟨σ1,H1,I1,q1⟩=> ?_)
  exact h2 pins s1 σ1 H1 _ _ Q I1 rr q1
noncomputable def gTup (K:Fg) (n:Nat) (t:jU):TG:=fun v σ H Q=>∃a xs,v= .ref a/\bU K H a xs/\xs.length=n/\t xs σ H Q
theorem a8r{es:List Expr}{k:Nat}{t:jU}{n:Nat}(hc:X.calm=true)(h:tK X es t)
 (hn:(assignEach es X.env).length=n:=by rfl)(hst:(assignEach es X.env).findIdx? (·.1)=none:=by rfl):PG X (.Tuple es k pos) (gTup X.K n t):=by
 intro pins s σ H v u Q I r hw
 obtain⟨a,xs,e1,hq,hl,hw⟩:=hw
 subst e1
 cases r
 obtain⟨its,rv,ht,hz⟩:=I.tuple hq
 refine assign_Tuple_tuple (I.ok.hd hc) ht (by simp[hn,<- hl,rv.length]) hst fun h' hx=> ?_
 have I1:Inv X pins σ H {s with heap:=h'}:=I.kept (t':=s.toks) fun b o e=>hx b o (Nat.ne_of_lt (Heap.lt_size e)) e
 exact h pins _ σ H xs _ Q I1 (by simpa using rv) hw
def tAsg(te:TE)(g:TG):TS:=fun D σ H=>te σ H fun x H1=>g x σ H1 D.nx
theorem bW{i:Nat}{x:Str}{e:Expr}{te:TE}{pos':Pos}(hN:X.N.Nodup)(hi:X.N[i]?=some x)(hx:vB X.env.scope x)(he:PE X e te)(hs:swapsWith e (some (.Name x pos')) pos.line X.env=pure false:=by rfl)(hf:X.fn x=true\/ X.env.scope.names.lookup x=some .local:=by first|exact .inl rfl|exact .inr rfl|assumption):
 PS X (.Assign [.Name x pos'] e pos) (tAsg te (vH i)):=by
 intro pins s σ H D I h
 refine wpAny_Assign_Name (aO (he pins s σ H _ I h) fun v s1 ⟨y,H1,I1,r1,q1⟩=> ?_) hs
 exact a8N I1 hN hi hx r1 (fun s2 I2=>⟨_,H1,I2,q1⟩) hf
def b0Z(c:TT)(tb:TS):TS:=fun D σ H=>∃W:Nat->St->Hp->Prop,(∃m,W m σ H)/\∀m σ H,W m σ H->
 c σ H fun b H1=>if b=true then∃N:St->Hp->Prop,(∀σ' H',N σ' H'->∃m',m'<m/\W m' σ' H')/\tb {D with nx:=N,ct:=N,bk:=D.nx} σ H1 else D.nx σ H1
theorem b2m{c:Expr}{body:List Stmt}{tc:TT}{tb:TS}(hp:PassesOwn (model X.prog X.w) X.A X.env X.xe)(hc:PT X c tc)(hb:dC X body tb):PS X (.While c body [] pos) (b0Z tc tb):=by
 intro pins s σ H D I h
 obtain⟨W,⟨m0,w0⟩,turn⟩:=h
 refine wpAny_While (codeAny_whileLoop (fun n s'=>∃σ' H',Inv X pins σ' H' s'/\W n σ' H') ?_ m0 ⟨σ,H,I,w0⟩)
 rintro n s1 ⟨σ1,H1,I1,w1⟩
 refine wpAny_passesOwn hp (aO (hc pins s1 σ1 H1 _ I1 (turn n σ1 H1 w1)) fun b s2 ⟨H2,I2,q2⟩=> ?_)
 cases b with
 |true=>
  obtain⟨N,hN,q2⟩:=q2
  rw[if_pos rfl]
  refine wpAny_passesOwn hp (aO (hb pins s2 σ1 H2 _ I2 q2) fun f s3 q3=> ?_)
  cases f with
  |next=>
   obtain⟨σ3,H3,I3,n3⟩:=q3
   obtain⟨m',hm,w3⟩:=hN σ3 H3 n3
   exact⟨m',hm,σ3,H3,I3,w3⟩
  |cont=>
   obtain⟨σ3,H3,I3,n3⟩:=q3
   obtain⟨m',hm,w3⟩:=hN σ3 H3 n3
   exact⟨m',hm,σ3,H3,I3,w3⟩
  |brk=>exact q3
  |ret v=>exact q3
 |false=>
  rw[if_neg Bool.false_ne_true]
  exact wpAny_execs_nil ⟨σ1,H2,I2,q2⟩
end
structure It where
 go:Nat->Hp->Prop
 yld:Nat->Hp->V->Hp->Prop
 stop:Nat->Hp->Prop
def gK(X:Cx)(pins:List (Addr×Obj))(H:Hp)(b:Addr):Prop:=
 H b=none/\b≠X.env.locals/\b∉X.fs/\(b∈X.ex\/ X.s₀.heap.objs.size<=b)/\(∀x c,X.env.cells.lookup x=some c->c≠b)/\∀p∈X.pn++ pins,p.1≠b
theorem Inv.fpOk{X:Cx}{pins:List (Addr×Obj)}{σ:St}{H H':Hp}{s:Shared}{b:Addr}(I:Inv X pins σ H s)(hb:s.heap.objs.size<=b)(hn:H' b=none):gK X pins H' b:=by
 refine⟨hn,Nat.ne_of_gt (Nat.lt_of_lt_of_le I.lt hb),I.nofs hb,.inr (Nat.le_trans I.sz hb),fun x c e z=> ?_,fun p hp z=> ?_⟩
 ·obtain⟨v,q⟩:=I.cell x c e
  exact absurd (Nat.lt_of_lt_of_le q.lt (by rw[z];exact hb)) (Nat.lt_irrefl _)
 ·exact absurd (Nat.lt_of_lt_of_le (Heap.lt_size (I.pin p hp).1) (by rw[z];exact hb)) (Nat.lt_irrefl _)
structure sI(P:Program)(w:World)(K:Fg)(tg:Expr)(J:It)(fp:List Addr)(it:Addr)(tn:Nat->Heap->Prop):Prop where
 mem:it∈fp
 obj:∀i h,tn i h->∀b∈fp,∃o,h.get? b=some o/\∀v,o.data≠ .cell v
 keep:∀i h h',tn i h->(∀b∈fp,∀o,h.get? b=some o->h'.get? b=some o)->tn i h'
 item:∀(X:Cx),X.prog=P->X.w=w->X.K=K->X.calm=true->∀(i:Nat) (pins:List (Addr×Obj)) (s:Shared) (σ:St) (H:Hp) (E:Value->Shared->Prop),Inv X pins σ H s->(∀b∈fp,gK X pins H b)->tn i s.heap->J.go i H->
  wpAny (model P w) X.A (pyNext (.ref it)) (fun r s1=>∃u,r=some u/\
   wpAny (model P w) X.A (letOwnedTupleGo tg (.ref it) u) (fun _ s2=>∃x H',Inv X pins σ H' s2/\aY x u/\J.yld i H x H'/\tn (i+ 1) s2.heap/\∀b∈fp,H' b=none) E s1) E s
 done:∀(X:Cx),X.prog=P->X.w=w->X.K=K->X.calm=true->∀(i:Nat) (pins:List (Addr×Obj)) (s:Shared) (σ:St) (H:Hp) (E:Value->Shared->Prop),Inv X pins σ H s->(∀b∈fp,gK X pins H b)->tn i s.heap->J.stop i H->
  wpAny (model P w) X.A (pyNext (.ref it)) (fun r s1=>r=none/\Inv X pins σ H s1) E s
 self:∀(A:Around) (i:Nat) (s:Shared) (Q:Value->Shared->Prop) (E:Value->Shared->Prop),tn i s.heap->Q (.ref it) s->wpAny (model P w) A (pyIter (.ref it)) Q E s
abbrev TI:=St->Hp->(It->Hp->Prop)->Prop
def PIE(X:Cx)(pins:List (Addr×Obj))(σ:St)(tg:Expr)(R:It->Hp->Prop)(itv:Value)(s2:Shared):Prop:=
 ∃(it:Addr) (fp:List Addr) (tn:Nat->Heap->Prop) (J:It) (H':Hp),itv= .ref it/\Inv X pins σ H' s2/\sI X.prog X.w X.K tg J fp it tn/\tn 0 s2.heap/\(∀b∈fp,gK X pins H' b)/\R J H'
def PI(X:Cx)(tg iter:Expr)(wi:TI):Prop:=
 ∀(pins:List (Addr×Obj)) (s:Shared) (σ:St) (H:Hp) (R:It->Hp->Prop),Inv X pins σ H s->wi σ H R->
  wpAny (model X.prog X.w) X.A (eval iter X.env) (fun v s1=>wpAny (model X.prog X.w) X.A (pyIter v) (PIE X pins σ tg R) X.xe s1) X.xe s
theorem xA{M:Model}{A:Around}{E:Value->Shared->Prop}{s:Shared}{tg:Expr}{it:Addr}{u:Value}{o:Obj}{n:String}{vs:Array Value}{Q:Unit->Shared->Prop}(ho:s.heap.get? it=some o)(hc:o.cls= .type n)(hd:o.data= .fields vs)
 (hn:["enumerate","zip","dict_itemiterator","dict_reverseitemiterator","odict_iterator","itertools.zip_longest","itertools.pairwise"].contains n=false)(hQ:Q () s):wpAny M A (letOwnedTupleGo tg (.ref it) u) Q E s:=by
 unfold letOwnedTupleGo
 cases tg<;>first
  |exact wpAny_pure hQ
  |(cases u<;>first
   |exact wpAny_pure hQ
   | (refine wpAny_bind (wpAny_load ho ?_)
      rw[hc,hd]
      show wpAny M A (if(["enumerate","zip","dict_itemiterator","dict_reverseitemiterator","odict_iterator","itertools.zip_longest","itertools.pairwise"].contains n&&vs[0]?==some (rawInt _))=true then _ else _) Q E s
      rw[if_neg (by intro h;rw[hn,Bool.false_and]at h;cases h)]
      exact wpAny_pure hQ))
noncomputable def jJ (K:Fg) (a:Addr):It:=
 ⟨fun i H=>∃xs x,aI K H a xs/\xs[i]?=some x,fun i H x H'=>H'=H/\∀xs,aI K H a xs->xs[i]?=some x,fun i H=>∃xs,aI K H a xs/\xs.length<=i⟩
noncomputable def lH (lo:Int) (n:Nat):It:=⟨fun i _=>i<n,fun i H x H'=>H'=H/\x= .int (lo+ i),fun i _=>n<=i⟩
theorem b2J{P:Program}{w:World}{K:Fg}{tg:Expr}(a it:Addr):sI P w K tg (jJ K a) [it] it (fun i h=>h.IsListIter it a i) where
 mem:=by simp
 obj:=fun i h st b hb=>by
  have e:b=it:=by simpa using hb
  subst e
  obtain⟨o,e,c,d⟩:=st
  exact⟨o,e,fun v z=>by rw[d]at z;cases z⟩
 keep:=fun i h h' st k=>st.at fun o e=>k it (by simp) o e
 item:=by
  intro X hP hw hK hc i pins s σ H E I hf st hg
  subst hP hw hK
  obtain⟨xs,x,hq,hx⟩:=hg
  obtain⟨its,rv,p,hz⟩:=I.list hq
  obtain⟨u,hu,ru⟩:=rv.get hx
  obtain⟨f0,f1,f2,f3,f4,f5⟩:=hf it (by simp)
  refine wpAny_pyNext_list_item st p.isList (x:=u) (by simpa using hu) fun h' st' sb=> ?_
  have I1:Inv X pins σ H {s with heap:=h'}:=I.turned (t':=s.toks) (fun b o hb e=>(sb.2 b hb).trans e) f0 f1 f3 f4 f5
  obtain⟨o,e,c,d⟩:=id st'
  exact⟨u,rfl,xA (s:={s with heap:=h'}) e c d (by decide) ⟨x,H,I1,ru,⟨rfl,fun ys hy=>by rw[I.list_inj hy hq];exact hx⟩,st',fun b hb=>(hf b hb).1⟩⟩
 done:=by
  intro X hP hw hK hc i pins s σ H E I hf st hg
  subst hP hw hK
  obtain⟨xs,hq,hx⟩:=hg
  obtain⟨its,rv,p,hz⟩:=I.list hq
  obtain⟨f0,f1,f2,f3,f4,f5⟩:=hf it (by simp)
  have hl:=rv.length
  exact wpAny_pyNext_list_end (I.ok.hd hc) st p.isList (by simp;omega) fun h' eb=>⟨rfl,I.turned (t':=s.toks) (fun b o hb e=>eb b o hb e) f0 f1 f3 f4 f5⟩
 self:=fun _ _ _ _ _ st h=>wpAny_pyIter_listiter st h
theorem b2U{P:Program}{w:World}{K:Fg}{tg:Expr}(it:Addr)(lo:Int)(n:Nat):sI P w K tg (lH lo n) [it] it (fun i h=>IsRangeIter h it (lo+ (i:Nat)* 1) ((n:Int)- (i:Nat)) 1) where
 mem:=by simp
 obj:=fun i h st b hb=>by
  have e:b=it:=by simpa using hb
  subst e
  exact⟨_,st,fun v z=>by
   have z':Data.fields _=Data.cell v:=z
   cases z'⟩
 keep:=fun i h h' st k=>k it (by simp) _ st
 item:=by
  intro X hP hw hK hc i pins s σ H E I hf st hg
  subst hP hw hK
  obtain⟨f0,f1,f2,f3,f4,f5⟩:=hf it (by simp)
  have W:=Walks.range (prog:=X.prog) (w:=X.w) (I.ok.hd hc) it lo 1 n
  refine W.item i s _ _ hg st fun v h' tk hv st' kk=> ?_
  obtain⟨t,rfl⟩:=hv
  have I1:Inv X pins σ H {s with heap:=h',toks:=tk}:=I.turned (fun b o hb e=>kk b o (by simpa using hb) e) f0 f1 f3 f4 f5
  refine⟨_,rfl,xA (s:={s with heap:=h',toks:=tk}) (n:= "range_iterator") st' rfl rfl (by decide) ⟨.int (lo+ i),H,I1,⟨t,?_⟩,⟨rfl,rfl⟩,st',fun b hb=>(hf b hb).1⟩⟩
  rw[Int.mul_one]
 done:=by
  intro X hP hw hK hc i pins s σ H E I hf st hg
  subst hP hw hK
  obtain⟨f0,f1,f2,f3,f4,f5⟩:=hf it (by simp)
  exact wpAny_pyNext_range_end (I.ok.hd hc) st (by have:n<=i:=hg;omega) fun h' eb=>⟨rfl,I.turned (t':=s.toks) (fun b o hb e=>eb b o hb e) f0 f1 f3 f4 f5⟩
 self:=fun _ _ _ _ _ st h=>wpAny_pyIter_rangeiter st h
section
variable{X:Cx}{tg:Expr}
def b00(K:Fg)(tl:TE):TI:=fun σ H R=>tl σ H fun x H1=>∃a,x= .ref a/\(∃xs,aI K H1 a xs)/\R (jJ K a) H1
theorem gG{l:Expr}{tl:TE}(hl:PE X l tl):PI X tg l (b00 X.K tl):=by
 intro pins s σ H R I h
 refine aO (hl pins s σ H _ I h) fun v s1 ⟨x,H1,I1,r1,q1⟩=> ?_
 obtain⟨a,e,⟨xs,hq⟩,q⟩:=q1
 subst e
 cases r1
 obtain⟨its,rv,p,hz⟩:=I1.list hq
 refine wpAny_pyIter_list p.isList ?_
 refine⟨s1.heap.objs.size,[s1.heap.objs.size],_,_,H1,rfl,I1.kept (t':=s1.toks) fun b o e=>Heap.get?_push_of_some _ e,b2J a _,⟨_,Heap.get?_push_size _ rfl,rfl,rfl⟩,fun b hb=> ?_,q⟩
 have e:b=s1.heap.objs.size:=by simpa using hb
 subst e
 exact I1.fpOk (Nat.le_refl _) (I1.hok.fresh (Nat.le_refl _))
theorem b22{pins:List (Addr×Obj)}{σ:St}{H:Hp}{s:Shared}{R:It->Hp->Prop}{E:Value->Shared->Prop}{lo hi:Int}{t u v:Tok}{tk:Nat}(I:Inv X pins σ H s)(h1: -(2^ 62)<=lo)(h2:lo<2^ 62)(h3: -(2^ 62)<=hi)(h4:hi<2^ 62)
 (q:R (lH lo (hi- lo).toNat) H):wpAny (model X.prog X.w) X.A (pyIter (.ref s.heap.objs.size)) (PIE X pins σ tg R) E {s with heap:=s.heap.push {cls:=.type "range",data:=.fields #[.int lo t,.int hi u,.int 1 v]},toks:=tk}:=by
 refine wpAny_pyIter_range (IsRange.new ..) (small_one h1 h2 h3 h4) ?_
 have I1:Inv X pins σ H {s with heap:=s.heap.push {cls:=.type "range",data:=.fields #[.int lo t,.int hi u,.int 1 v]},toks:=tk}:=I.kept fun b o e=>Heap.get?_push_of_some _ e
 refine⟨(s.heap.push {cls:=.type "range",data:=.fields #[.int lo t,.int hi u,.int 1 v]}).objs.size,[(s.heap.push {cls:=.type "range",data:=.fields #[.int lo t,.int hi u,.int 1 v]}).objs.size],_,_,H,rfl,
  I1.kept (t':=tk) fun b o e=>Heap.get?_push_of_some _ e,b2U _ lo (hi- lo).toNat,?_,fun b hb=> ?_,q⟩
 ·have e1:lo+ ((0:Nat):Int)* 1=lo:=by simp
  have e2:(((hi- lo).toNat:Nat):Int)- ((0:Nat):Int)=Builtin.Range.rangeSize lo hi 1:=by rw[rangeSize_one];split<;>omega
  show IsRangeIter _ _ (lo+ ((0:Nat):Int)* 1) ((((hi- lo).toNat:Nat):Int)- ((0:Nat):Int)) 1
  rw[e1,e2]
  exact Heap.get?_push_size _ rfl
 ·have e:b=(s.heap.push {cls:=.type "range",data:=.fields #[.int lo t,.int hi u,.int 1 v]}).objs.size:=by simpa using hb
  subst e
  exact I1.fpOk (Nat.le_refl _) (I1.hok.fresh (Nat.le_refl _))
def b0z(ta:TA):TI:=fun σ H R=>ta σ H fun vs H1=>∃j:Int,vs= [.int j] /\ -(2^ 62)<=j/\j<2^ 62/\R (lH 0 j.toNat) H1
theorem qV{a:Expr}{ta:TA}{p pos:Pos}(hg:Gl X "range")(hm:X.mg "range"=none)(ha:PA X [a] ta)(hs:starEach [a] X.env= [(false,eval a X.env)]:=by rfl):PI X tg (.Call (.Name "range" p) [a] [] pos) (b0z ta):=by
 intro pins s σ H R I h
 refine Call_ (tU I hg hm boot_range (PyProof.Rows.callWith_type1 (aO (ha pos pins s σ H _ I h) fun us s1 ⟨vs,H1,I1,r1,q1⟩=> ?_) hs rfl))
 obtain⟨j,e,q1,q2,q⟩:=q1
 subst e
 cases r1 with
 |cons r rr=>
  cases rr
  obtain⟨t,rfl⟩:=r
  exact call_range_1 (b22 I1 (by omega) (by omega) q1 q2 (by simpa using q))
def tFor(wi:TI)(g:TG)(tb:TS):TS:=fun D σ H=>wi σ H fun J H1=>∃W:Nat->Nat->St->Hp->Prop,(∃m,W 0 m σ H1)/\∀i m σ H,W i m σ H->
 (J.stop i H/\D.nx σ H)\/ (J.go i H/\∃N:St->Hp->Prop,(∀σ' H',N σ' H'->∃m',m'<m/\W (i+ 1) m' σ' H')/\∀x H',J.yld i H x H'->g x σ H' fun σ2 H2=>tb {D with nx:=N,ct:=N,bk:=D.nx} σ2 H2)
noncomputable def qO (fp:List Addr) (h:Heap):List (Addr×Obj):=fp.filterMap fun b=>(h.get? b).map fun o=>(b,o)
theorem uD{fp:List Addr}{h:Heap}{b:Addr}{o:Obj}(hb:b∈fp)(e:h.get? b=some o):(b,o)∈qO fp h:=List.mem_filterMap.mpr ⟨b,hb,by rw[e];rfl⟩
theorem b2q{fp:List Addr}{h:Heap}{p:Addr×Obj}(hp:p∈qO fp h):p.1∈fp/\h.get? p.1=some p.2:=by
 obtain⟨b,hb,e⟩:=List.mem_filterMap.mp hp
 cases q:h.get? b with
 |none=>rw[q]at e;cases e
 |some o=>
  rw[q]at e
  have e':(b,o)=p:=Option.some.inj e
  subst e'
  exact⟨hb,q⟩
theorem Inv.pinned{pins:List (Addr×Obj)}{σ:St}{H:Hp}{s:Shared}{fp:List Addr}(I:Inv X pins σ H s)(hf:∀b∈fp,gK X pins H b)(ho:∀b∈fp,∃o,s.heap.get? b=some o/\∀v,o.data≠ .cell v):Inv X (pins++ qO fp s.heap) σ H s:=
 I.pins_of fun p hp=>(List.mem_append.mp hp).elim (fun z=>I.pin p (List.mem_append_right _ z)) fun z=>by
  obtain⟨hb,e⟩:=b2q z
  obtain⟨f0,f1,f2,_⟩:=hf p.1 hb
  obtain⟨o,e',d⟩:=ho p.1 hb
  rw[e]at e';cases e'
  exact⟨e,f0,f1,f2,d⟩
theorem Inv.unpinned{pins pl:List (Addr×Obj)}{σ:St}{H:Hp}{s:Shared}(I:Inv X (pins++ pl) σ H s):Inv X pins σ H s:=I.pins_of fun p hp=>I.pin p (List.mem_append_right _ (List.mem_append_left _ hp))
theorem jD{iter:Expr}{body:List Stmt}{wi:TI}{g:TG}{tb:TS}{pos:Pos}(hp:PassesOwn (model X.prog X.w) X.A X.env X.xe)(hc:X.calm=true)(hi:PI X tg iter wi)(hg:PG X tg g)(hb:dC X body tb)
 (hs:∀x,foldedSetIterable iter X.env x=pure x:=by intro _;rfl):PS X (.For tg iter body [] pos) (tFor wi g tb):=by
 intro pins s σ H D I h
 refine wpAny_For (aO (hi pins s σ H _ I h) fun v s1 h1=>aO h1 fun itv s2 h2=> ?_) hs
 obtain⟨it,fp,tn,J,H2,e,I2,T,st2,f2,W,⟨m0,w0⟩,turn⟩:=h2
 subst e
 have stat:∀{H':Hp},(∀b∈fp,H' b=none)->∀b∈fp,gK X pins H' b:=fun hn b hb=>⟨hn b hb,(f2 b hb).2⟩
 refine codeAny_forLoop_any (fun n s'=>∃i σ' H',Inv X pins σ' H' s'/\tn i s'.heap/\(∀b∈fp,H' b=none)/\W i n σ' H') ?_ m0 ⟨0,σ,H2,I2,st2,fun b hb=>(f2 b hb).1,w0⟩
 rintro n s3 ⟨i,σ3,H3,I3,st3,fr3,w3⟩
 rcases turn i n σ3 H3 w3 with⟨stop,qn⟩|⟨go,N,hN,step⟩
 ·refine wpAny_passesOwn hp (aO (T.done X rfl rfl rfl hc i pins s3 σ3 H3 X.xe I3 (stat fr3) st3 stop) fun r s4 ⟨hr,I4⟩=> ?_)
  subst hr
  exact wpAny_execs_nil ⟨σ3,H3,I4,qn⟩
 ·refine wpAny_passesOwn hp (aO (T.item X rfl rfl rfl hc i pins s3 σ3 H3 X.xe I3 (stat fr3) st3 go) fun r s4 ⟨u,hr,h4⟩=> ?_)
  subst hr
  refine wpAny_passesOwn hp (aO h4 fun _ s5 ⟨x,H5,I5,r5,y5,st5,fr5⟩=> ?_)
  have I5':=I5.pinned (stat fr5) (T.obj _ _ st5)
  refine wpAny_passesOwn hp (aO (hg _ s5 σ3 H5 x u _ I5' r5 (step x H5 y5)) fun _ s6 ⟨σ6,H6,I6,q6⟩=> ?_)
  refine wpAny_passesOwn hp (aO (hb _ s6 σ6 H6 _ I6 q6) fun f s7 q7=> ?_)
  have again:∀{σ7:St} {H7:Hp},Inv X (pins++ qO fp s5.heap) σ7 H7 s7->N σ7 H7->∃m,m<n/\∃i σ' H',Inv X pins σ' H' s7/\tn i s7.heap/\(∀b∈fp,H' b=none)/\W i m σ' H':=fun{σ7 H7} I7 n7=>by
   obtain⟨m',hm,w7⟩:=hN σ7 H7 n7
   refine⟨m',hm,i+ 1,σ7,H7,I7.unpinned,T.keep _ _ _ st5 fun b hb o e=>(I7.pin (b,o) (List.mem_append_right _ (List.mem_append_right _ (uD hb e)))).1,fun b hb=> ?_,w7⟩
   obtain⟨o,e,d⟩:=T.obj _ _ st5 b hb
   exact(I7.pin (b,o) (List.mem_append_right _ (List.mem_append_right _ (uD hb e)))).2.1
  cases f with
  |next=>obtain⟨σ7,H7,I7,n7⟩:=q7;exact again I7 n7
  |cont=>obtain⟨σ7,H7,I7,n7⟩:=q7;exact again I7 n7
  |brk=>obtain⟨σ7,H7,I7,q7⟩:=q7;exact⟨σ7,H7,I7.unpinned,q7⟩
  |ret v=>obtain⟨x7,σ7,H7,I7,r7,q7⟩:=q7;exact⟨x7,σ7,H7,I7.unpinned,r7,q7⟩
end
theorem a56{K:Fg}{a:Addr}{xs:List V}{g:TG}{tb:TS}{D:kC}{σ:St}{H:Hp}(Pv:Nat->St->Hp->Prop)(h0:Pv 0 σ H)(hl:∀i σ H,i<=xs.length->Pv i σ H->aI K H a xs)
 (hs:∀i x σ H,xs[i]?=some x->Pv i σ H->g x σ H fun σ2 H2=>tb {D with nx:=Pv (i+ 1),ct:=Pv (i+ 1),bk:=D.nx} σ2 H2)(hd:∀σ H,Pv xs.length σ H->D.nx σ H):
 ∃W:Nat->Nat->St->Hp->Prop,(∃m,W 0 m σ H)/\∀i m σ H,W i m σ H->
  ((jJ K a).stop i H/\D.nx σ H)\/ ((jJ K a).go i H/\∃N:St->Hp->Prop,(∀σ' H',N σ' H'->∃m',m'<m/\W (i+ 1) m' σ' H')/\∀x H',(jJ K a).yld i H x H'->g x σ H' fun σ2 H2=>tb {D with nx:=N,ct:=N,bk:=D.nx} σ2 H2):=by
 refine⟨fun i m σ H=>m=xs.length- i/\i<=xs.length/\Pv i σ H,⟨xs.length,by simp,Nat.zero_le _,h0⟩,?_⟩
 rintro i m σ H ⟨rfl,hi,p⟩
 have q:=hl i σ H hi p
 by_cases hlt:i<xs.length
 ·refine .inr ⟨⟨xs,xs[i],q,by simp[hlt]⟩,Pv (i+ 1),fun σ' H' p'=>⟨xs.length- (i+ 1),by omega,rfl,hlt,p'⟩,fun x H' y=> ?_⟩
  obtain⟨e,y⟩:=y
  subst e
  exact hs i x σ _ (y xs q) p
 ·have e:i=xs.length:=by omega
  subst e
  exact .inl ⟨⟨xs,q,Nat.le_refl _⟩,hd σ H p⟩
theorem oZ{lo:Int}{n:Nat}{g:TG}{tb:TS}{D:kC}{σ:St}{H:Hp}(Pv:Nat->St->Hp->Prop)(h0:Pv 0 σ H)
 (hs:∀i σ H,i<n->Pv i σ H->g (.int (lo+ i)) σ H fun σ2 H2=>tb {D with nx:=Pv (i+ 1),ct:=Pv (i+ 1),bk:=D.nx} σ2 H2)(hd:∀σ H,Pv n σ H->D.nx σ H):
 ∃W:Nat->Nat->St->Hp->Prop,(∃m,W 0 m σ H)/\∀i m σ H,W i m σ H->
  ((lH lo n).stop i H/\D.nx σ H)\/ ((lH lo n).go i H/\∃N:St->Hp->Prop,(∀σ' H',N σ' H'->∃m',m'<m/\W (i+ 1) m' σ' H')/\∀x H',(lH lo n).yld i H x H'->g x σ H' fun σ2 H2=>tb {D with nx:=N,ct:=N,bk:=D.nx} σ2 H2):=by
 refine⟨fun i m σ H=>m=n- i/\i<=n/\Pv i σ H,⟨n,by simp,Nat.zero_le _,h0⟩,?_⟩
 rintro i m σ H ⟨rfl,hi,p⟩
 by_cases hlt:i<n
 ·refine .inr ⟨hlt,Pv (i+ 1),fun σ' H' p'=>⟨n- (i+ 1),by omega,rfl,hlt,p'⟩,fun x H' y=> ?_⟩
  obtain⟨e,y⟩:=y
  subst e y
  exact hs i σ _ hlt p
 ·have e:i=n:=by omega
  subst e
  exact .inl ⟨Nat.le_refl _,hd σ H p⟩
abbrev R2:=V->V->Hp->VK->Prop
def cJ(X:Cx)(f:Value->Value->Sem Value)(r:R2):Prop:=
 ∀(pins:List (Addr×Obj)) (s:Shared) (σ:St) (H:Hp) (x y:V) (v u:Value) (Q:VK),Inv X pins σ H s->aY x v->aY y u->r x y H Q->
  wpAny (model X.prog X.w) X.A (f v u) (EP X pins σ Q) X.xe s
def UnR(X:Cx)(f:Value->Sem Value)(r:V->Hp->VK->Prop):Prop:=
 ∀(pins:List (Addr×Obj)) (s:Shared) (σ:St) (H:Hp) (x:V) (v:Value) (Q:VK),Inv X pins σ H s->aY x v->r x H Q->
  wpAny (model X.prog X.w) X.A (f v) (EP X pins σ Q) X.xe s
def gC(X:Cx)(f:Value)(r:List V->Hp->VK->Prop):Prop:=
 ∀(pins:List (Addr×Obj)) (s:Shared) (σ:St) (H:Hp) (xs:List V) (us:List Value) (Q:VK),Inv X pins σ H s->aV xs us->r xs H Q->
  wpAny (model X.prog X.w) X.A (call f us) (EP X pins σ Q) X.xe s
def TruR(X:Cx)(r:V->Hp->(Bool->Hp->Prop)->Prop):Prop:=
 ∀(pins:List (Addr×Obj)) (s:Shared) (σ:St) (H:Hp) (x:V) (v:Value) (Q:Bool->Hp->Prop),Inv X pins σ H s->aY x v->r x H Q->
  wpAny (model X.prog X.w) X.A (truthy v) (TP X pins σ Q) X.xe s
def jI(r:R2)(ta tb:TE):TE:=fun σ H Q=>ta σ H fun x H1=>tb σ H1 fun y H2=>r x y H2 Q
def tUn(r:V->Hp->VK->Prop)(ta:TE):TE:=fun σ H Q=>ta σ H fun x H1=>r x H1 Q
noncomputable def rI (C:Int->Int->Prop) (g:Int->Int->V):R2:=fun x y H Q=>∃i j,x= .int i/\y= .int j/\C i j/\Q (g i j) H
noncomputable def jY (g:Int->Int->V):R2:=fun x y H Q=>∃i j,x= .int i/\y= .int j/\Q (g i j) H
def rU(g:Int->V):V->Hp->VK->Prop:=fun x H Q=>∃i,x= .int i/\Q (g i) H
section
variable{X:Cx}{a b c:Expr}{ta tb tc:TE}{pos:Pos}
theorem binT(ha:PE X a ta)(hb:PE X b tb){pins:List (Addr×Obj)}{s:Shared}{σ:St}{H:Hp}{R:V->V->Hp->Prop}(I:Inv X pins σ H s)
 (h:ta σ H fun x H1=>tb σ H1 fun y H2=>R x y H2){Q:Value->Shared->Prop}{f:Value->Value->Sem Value}
 (hf:∀v u s2 x y H2,Inv X pins σ H2 s2->aY x v->aY y u->R x y H2->wpAny (model X.prog X.w) X.A (f v u) Q X.xe s2):
 wpAny (model X.prog X.w) X.A (eval a X.env) (fun v s₁=>wpAny (model X.prog X.w) X.A (eval b X.env) (fun u s₂=>wpAny (model X.prog X.w) X.A (f v u) Q X.xe s₂) X.xe s₁) X.xe s:=by
 refine aO (ha pins s σ H _ I h) fun v s1 ⟨x,H1,I1,r1,q1⟩=> ?_
 refine aO (hb pins s1 σ H1 _ I1 q1) fun u s2 ⟨y,H2,I2,r2,q2⟩=> ?_
 exact hf v u s2 x y H2 I2 r1 r2 q2
theorem bI{op:Operator}{r:R2}(ho:cJ X (binaryOp op) r)(ha:PE X a ta)(hb:PE X b tb):PE X (.BinOp a op b pos) (jI r ta tb):=by
 intro pins s σ H Q I h
 exact wpAny_BinOp (binT ha hb I h fun v u s2 x y H2 I2 rx ry q=>ho pins s2 σ H2 x y v u Q I2 rx ry q)
theorem b1G{op:UnaryOp}{r:V->Hp->VK->Prop}(ho:UnR X (unaryOp op) r)(ha:PE X a ta):PE X (.UnaryOp op a pos) (tUn r ta):=by
 intro pins s σ H Q I h
 exact UnaryOp_ (aO (ha pins s σ H _ I h) fun v s1 ⟨x,H1,I1,r1,q1⟩=>ho pins s1 σ H1 x v Q I1 r1 q1)
theorem sZ{f:Value->Value->Sem Value}{C:Int->Int->Prop}{g:Int->Int->Int}
 (rule:∀(i j:Int) (t u:Tok) (s:Shared) (Q:Value->Shared->Prop) (E:Value->Shared->Prop),C i j->Q (.int (g i j) s.toks) {s with toks:=s.toks+ 1} ->wpAny (model X.prog X.w) X.A (f (.int i t) (.int j u)) Q E s):
 cJ X f (rI C fun i j=> .int (g i j)):=by
 intro pins s σ H x y v u Q I rx ry h
 obtain⟨i,j,rfl,rfl,hc,q⟩:=h
 obtain⟨t,rfl⟩:=rx
 obtain⟨t',rfl⟩:=ry
 exact rule i j t t' s _ _ hc ⟨.int (g i j),H,I.tok _,⟨_,rfl⟩,q⟩
theorem opI0{f:Value->Value->Sem Value}{g:Int->Int->Int}
 (rule:∀(i j:Int) (t u:Tok) (s:Shared) (Q:Value->Shared->Prop) (E:Value->Shared->Prop),Q (.int (g i j) s.toks) {s with toks:=s.toks+ 1} ->wpAny (model X.prog X.w) X.A (f (.int i t) (.int j u)) Q E s):
 cJ X f (jY fun i j=> .int (g i j)):=by
 intro pins s σ H x y v u Q I rx ry h
 obtain⟨i,j,rfl,rfl,q⟩:=h
 obtain⟨t,rfl⟩:=rx
 obtain⟨t',rfl⟩:=ry
 exact rule i j t t' s _ _ ⟨.int (g i j),H,I.tok _,⟨_,rfl⟩,q⟩
theorem opB0{f:Value->Value->Sem Value}{g:Int->Int->Bool}
 (rule:∀(i j:Int) (t u:Tok) (s:Shared) (Q:Value->Shared->Prop) (E:Value->Shared->Prop),Q (.bool (g i j)) s->wpAny (model X.prog X.w) X.A (f (.int i t) (.int j u)) Q E s):
 cJ X f (jY fun i j=> .bl (g i j)):=by
 intro pins s σ H x y v u Q I rx ry h
 obtain⟨i,j,rfl,rfl,q⟩:=h
 obtain⟨t,rfl⟩:=rx
 obtain⟨t',rfl⟩:=ry
 exact rule i j t t' s _ _ ⟨.bl (g i j),H,I,rfl,q⟩
def CDiv(i j:Int):Prop:=0<j/\j<1073741824
def CPow(i j:Int):Prop:=0<=j/\j<=1000000/\i.natAbs<2^ 64
def CMul(i j:Int):Prop:=(-(2^ 64)<i/\i<2^ 64)\/ (-(2^ 64)<j/\j<2^ 64)
theorem CMul.ok{i j:Int}(h:CMul i j):IntMulOk i j:=by
 rcases h with⟨h1,h2⟩|⟨h1,h2⟩
 ·exact .of_left (intBits_le_64 h1 h2)
 ·exact .of_right (intBits_le_64 h1 h2)
theorem fY:cJ X (binaryOp .Add) (jY fun i j=> .int (i+ j)):=opI0 fun _ _ _ _ _ _ _ q=>add_int q
theorem a1A:cJ X (binaryOp .Sub) (jY fun i j=> .int (i- j)):=opI0 fun _ _ _ _ _ _ _ q=>sub_int q
theorem vG:cJ X (binaryOp .Mult) (rI CMul fun i j=> .int (i* j)):=sZ fun _ _ _ _ _ _ _ hc q=>mul_int q hc.ok
theorem jT:cJ X (binaryOp .FloorDiv) (rI CDiv fun i j=> .int (i/ j)):=sZ fun i j _ _ _ _ _ hc q=>by
 have h1:(0:Int)<j:=hc.1
 have h2:j<1073741824:=hc.2
 exact floordiv_int (by omega) (by rw[Int.fdiv_eq_ediv_of_nonneg i (by omega)];exact q) (.inl (PyProof.noPylong_small (by omega)))
theorem dJ:cJ X (binaryOp .Mod) (rI (fun _ j=>0<j) fun i j=> .int (i% j)):=sZ fun i j _ _ _ _ _ hc q=>by
 have h1:(0:Int)<j:=hc
 exact mod_int' (by omega) (by rw[Int.fmod_eq_emod_of_nonneg i (by omega)];exact q)
theorem b2x:cJ X (binaryOp .Pow) (rI CPow fun i j=> .int (i^ j.toNat)):=sZ fun _ _ _ _ _ _ _ hc q=>pow_int_small hc.1 hc.2.1 hc.2.2 q
theorem unI{f:Value->Sem Value}{g:Int->Int}
 (rule:∀(i:Int) (t:Tok) (s:Shared) (Q:Value->Shared->Prop) (E:Value->Shared->Prop),Q (.int (g i) s.toks) {s with toks:=s.toks+ 1} ->wpAny (model X.prog X.w) X.A (f (.int i t)) Q E s):
 UnR X f (rU fun i=> .int (g i)):=by
 intro pins s σ H x v Q I rx h
 obtain⟨i,rfl,q⟩:=h
 obtain⟨t,rfl⟩:=rx
 exact rule i t s _ _ ⟨.int (g i),H,I.tok _,⟨_,rfl⟩,q⟩
theorem b2v:UnR X (unaryOp .USub) (rU fun i=> .int (-i)):=unI fun _ _ _ _ _ q=>neg_int q
end
noncomputable def scal:V->V->Bool
 | .non,.non=>true| .non,.int _=>true| .int _,.non=>true| .non,.bl _=>true| .bl _,.non=>true| .non,.str _=>true| .str _,.non=>true
 | .int _,.int _=>true| .bl _,.bl _=>true| .str _,.str _=>true| .byt _,.byt _=>true
 | .int _,.str _=>true| .str _,.int _=>true| .bl _,.str _=>true| .str _,.bl _=>true
 |_,_=>false
noncomputable def rEq:R2:=fun x y H Q=>scal x y=true/\Q (.bl (decide (x=y))) H
noncomputable def rNe:R2:=fun x y H Q=>scal x y=true/\Q (.bl (!decide (x=y))) H
theorem a8k{i j:Int}:decide (V.int i=V.int j)=(i==j):=by
 rw[Bool.eq_iff_iff]
 simp
theorem a7M{i j:Bool}:decide (V.bl i=V.bl j)=(i==j):=by
 rw[Bool.eq_iff_iff]
 simp
theorem a7x{i j:Str}:decide (V.str i=V.str j)=(i==j):=by
 rw[Bool.eq_iff_iff]
 simp
theorem a7c{i j:Array UInt8}:decide (V.byt i=V.byt j)=(i.toList==j.toList):=by
 rw[Bool.eq_iff_iff]
 cases i
 cases j
 simp
section
variable{X:Cx}{a b c:Expr}{ta tb tc:TE}{pos:Pos}
theorem bZ{pins:List (Addr×Obj)}{σ:St}{H:Hp}{s:Shared}{Q:VK}{k k':Bool}(I:Inv X pins σ H s)(q:Q (.bl k) H)(e:k=k'):EP X pins σ Q (.bool k') s:=by
 subst e
 exact⟨.bl k,H,I,rfl,q⟩
theorem a8c:cJ X (compareOp .Eq) rEq:=by
 intro pins s σ H x y v u Q I rx ry h
 obtain⟨hs,q⟩:=h
 cases x with
 |non=>
  cases rx
  cases y with
  |non=>cases ry;exact PySem.EqNone.eq_none_none (bZ I q (by simp))
  |bl j=>cases ry;exact PySem.EqNone.eq_none_bool (bZ I q (by simp))
  |int j=>obtain⟨t',rfl⟩:=ry;exact PySem.EqNone.eq_none_int (bZ I q (by simp))
  |str j=>obtain⟨t',rfl⟩:=ry;exact PySem.EqNone.eq_none_str (bZ I q (by simp))
  |_=>exact absurd (show false=true from hs) Bool.false_ne_true
 |bl i=>
  cases rx
  cases y with
  |non=>cases ry;exact PySem.EqNone.eq_bool_none (bZ I q (by simp))
  |bl j=>cases ry;exact eq_bool (bZ I q a7M)
  |str j=>obtain⟨t',rfl⟩:=ry;exact PySem.EqMixed.eq_bool_str (bZ I q (by simp))
  |_=>exact absurd (show false=true from hs) Bool.false_ne_true
 |int i=>
  obtain⟨t,rfl⟩:=rx
  cases y with
  |non=>cases ry;exact PySem.EqNone.eq_int_none (bZ I q (by simp))
  |int j=>obtain⟨t',rfl⟩:=ry;exact eq_int (bZ I q a8k)
  |str j=>obtain⟨t',rfl⟩:=ry;exact PySem.EqMixed.eq_int_str (bZ I q (by simp))
  |_=>exact absurd (show false=true from hs) Bool.false_ne_true
 |str i=>
  obtain⟨t,rfl⟩:=rx
  cases y with
  |non=>cases ry;exact PySem.EqNone.eq_str_none (bZ I q (by simp))
  |bl j=>cases ry;exact PySem.EqMixed.eq_str_bool (bZ I q (by simp))
  |int j=>obtain⟨t',rfl⟩:=ry;exact PySem.EqMixed.eq_str_int (bZ I q (by simp))
  |str j=>obtain⟨t',rfl⟩:=ry;exact eq_str (bZ I q a7x)
  |_=>exact absurd (show false=true from hs) Bool.false_ne_true
 |byt i=>
  obtain⟨t,rfl⟩:=rx
  cases y with
  |byt j=>obtain⟨t',rfl⟩:=ry;exact PySem.W.eq_bytes (bZ I q a7c)
  |_=>exact absurd (show false=true from hs) Bool.false_ne_true
 |_=>cases y<;>exact absurd (show false=true from hs) Bool.false_ne_true
theorem zR:cJ X (compareOp .NotEq) rNe:=by
 intro pins s σ H x y v u Q I rx ry h
 obtain⟨hs,q⟩:=h
 cases x with
 |non=>
  cases rx
  cases y with
  |non=>cases ry;exact PySem.EqNone.ne_none_none (bZ I q (by simp))
  |bl j=>cases ry;exact PySem.EqNone.ne_none_bool (bZ I q (by simp))
  |int j=>obtain⟨t',rfl⟩:=ry;exact PySem.EqNone.ne_none_int (bZ I q (by simp))
  |str j=>obtain⟨t',rfl⟩:=ry;exact PySem.EqNone.ne_none_str (bZ I q (by simp))
  |_=>exact absurd (show false=true from hs) Bool.false_ne_true
 |bl i=>
  cases rx
  cases y with
  |non=>cases ry;exact PySem.EqNone.ne_bool_none (bZ I q (by simp))
  |bl j=>cases ry;exact ne_bool (bZ I q (congrArg not a7M))
  |str j=>obtain⟨t',rfl⟩:=ry;exact PySem.EqMixed.ne_bool_str (bZ I q (by simp))
  |_=>exact absurd (show false=true from hs) Bool.false_ne_true
 |int i=>
  obtain⟨t,rfl⟩:=rx
  cases y with
  |non=>cases ry;exact PySem.EqNone.ne_int_none (bZ I q (by simp))
  |int j=>obtain⟨t',rfl⟩:=ry;exact ne_int (bZ I q (congrArg not a8k))
  |str j=>obtain⟨t',rfl⟩:=ry;exact PySem.EqMixed.ne_int_str (bZ I q (by simp))
  |_=>exact absurd (show false=true from hs) Bool.false_ne_true
 |str i=>
  obtain⟨t,rfl⟩:=rx
  cases y with
  |non=>cases ry;exact PySem.EqNone.ne_str_none (bZ I q (by simp))
  |bl j=>cases ry;exact PySem.EqMixed.ne_str_bool (bZ I q (by simp))
  |int j=>obtain⟨t',rfl⟩:=ry;exact PySem.EqMixed.ne_str_int (bZ I q (by simp))
  |str j=>obtain⟨t',rfl⟩:=ry;exact ne_str (bZ I q (congrArg not a7x))
  |_=>exact absurd (show false=true from hs) Bool.false_ne_true
 |byt i=>
  obtain⟨t,rfl⟩:=rx
  cases y with
  |byt j=>obtain⟨t',rfl⟩:=ry;exact PySem.W.ne_bytes (bZ I q (congrArg not a7c))
  |_=>exact absurd (show false=true from hs) Bool.false_ne_true
 |_=>cases y<;>exact absurd (show false=true from hs) Bool.false_ne_true
theorem uU:cJ X (compareOp .Lt) (jY fun i j=> .bl (decide (i<j))):=opB0 fun _ _ _ _ _ _ _ q=>lt_int q
theorem rR:cJ X (compareOp .LtE) (jY fun i j=> .bl (decide (i<=j))):=opB0 fun _ _ _ _ _ _ _ q=>le_int q
theorem a4D:cJ X (compareOp .GtE) (jY fun i j=> .bl (decide (j<=i))):=opB0 fun _ _ _ _ _ _ _ q=>ge_int q
theorem b3U:cJ X (compareOp .In) (fun x y H Q=>∃i j,x= .str i/\y= .str j/\Q (.bl (!(Builtin.Str.occurrences j i 0 j.length 1).isEmpty)) H):=by
 intro pins s σ H x y v u Q I rx ry h
 obtain⟨i,j,rfl,rfl,q⟩:=h
 obtain⟨t,rfl⟩:=rx
 obtain⟨t',rfl⟩:=ry
 exact in_str (bZ I q rfl)
theorem a8m:cJ X (compareOp .Is) (fun x y H Q=>y= .non/\Q (.bl (decide (x= .non))) H):=by
 intro pins s σ H x y v u Q I rx ry h
 obtain⟨rfl,q⟩:=h
 cases ry
 refine is_none_gen (bZ I q ?_)
 cases x<;>first
  |(cases rx;rfl)
  |(obtain⟨t,rfl⟩:=rx;rfl)
theorem dW(b:Expr){op:CmpOp}(h:op≠ .In:=by decide)(h2:op≠ .NotIn:=by decide):behindInMarks op b=false:=by
 have e1:(op==CmpOp.In)=false:=by cases op<;>first|rfl|exact absurd rfl h
 have e2:(op==CmpOp.NotIn)=false:=by cases op<;>first|rfl|exact absurd rfl h2
 cases b<;>simp[behindInMarks,e1,e2]
theorem vJ{op:CmpOp}{r:R2}(ho:cJ X (compareOp op) r)(ha:PE X a ta)(hb:PE X b tb)(hm:behindInMarks op b=false):PE X (.Compare a [op] [b] pos) (jI r ta tb):=by
 intro pins s σ H Q I h
 exact wpAny_Compare1 (binT ha hb I h fun v u s2 x y H2 I2 rx ry q=>ho pins s2 σ H2 x y v u Q I2 rx ry q) hm
def tD(t:TE):TT:=fun σ H Q=>t σ H fun x H'=>∃k,x= .bl k/\Q k H'
theorem cW{op:CmpOp}{r:R2}(ho:cJ X (compareOp op) r)(ha:PE X a ta)(hb:PE X b tb)(hm:behindInMarks op b=false):PT X (.Compare a [op] [b] pos) (tD (jI r ta tb)):=by
 intro pins s σ H Q I h
 refine wpAny_isTrue_Compare1 (aO (ha pins s σ H _ I h) fun v s1 ⟨x,H1,I1,r1,q1⟩=>aO (hb pins s1 σ H1 _ I1 q1) fun u s2 ⟨y,H2,I2,r2,q2⟩=>
  aO (ho pins s2 σ H2 x y v u _ I2 r1 r2 q2) fun c s3 ⟨z,H3,I3,r3,k,e,q3⟩=> ?_) hm
 subst e
 cases r3
 exact wpAny_truthy_bool ⟨H3,I3,q3⟩
def b25(r r':R2)(ta tb tc:TE):TE:=fun σ H Q=>ta σ H fun x H1=>tb σ H1 fun y H2=>r x y H2 fun z H3=>∃k,z= .bl k/\
 (if k=true then tc σ H3 fun w' H4=>r' y w' H4 Q else Q (.bl false) H3)
theorem a5Z{op op':CmpOp}{r r':R2}(ho:cJ X (compareOp op) r)(ho':cJ X (compareOp op') r')(ha:PE X a ta)(hb:PE X b tb)(hc:PE X c tc)
 (hm:lastMarks [op,op'] [b,c]=false:=by with_unfolding_all rfl):PT X (.Compare a [op,op'] [b,c] pos) (tD (b25 r r' ta tb tc)):=by
 intro pins s σ H Q I h
 refine isTrue_chain (aO (ha pins s σ H _ I h) fun v s1 ⟨x,H1,I1,r1,q1⟩=>test_link (aO (hb pins s1 σ H1 _ I1 q1) fun u s2 ⟨y,H2,I2,r2,q2⟩=>
  aO (ho pins s2 σ H2 x y v u _ I2 r1 r2 q2) fun d s3 ⟨z,H3,I3,r3,k,e,q3⟩=> ?_)) hm
 subst e
 cases r3
 refine wpAny_truthy_bool ?_
 cases k with
 |false=>
  obtain⟨k',e',q'⟩:=q3
  cases e'
  exact ite_ff ⟨H3,I3,q'⟩
 |true=>
  refine ite_tt (test_last (aO (hc pins s3 σ H3 _ I3 q3) fun w' s4 ⟨z',H4,I4,r4,q4⟩=>aO (ho' pins s4 σ H4 y z' u w' _ I4 r2 r4 q4) fun d' s5 ⟨z2,H5,I5,r5,k2,e2,q5⟩=> ?_))
  subst e2
  cases r5
  exact wpAny_truthy_bool ⟨H5,I5,q5⟩
def TruV(K:Fg)(x:V)(H:Hp)(k:Bool):Prop:=
 match x with
 | .non=>k=false
 | .bl b=>k=b
 | .int i=>k=(i !=0)
 | .str y=>y.length<=sizeLine/\k=((y.length:Int) !=0)
 | .byt y=>y.size<=sizeLine/\k=((y.size:Int) !=0)
 | .ref p=>(∃xs,aI K H p xs/\k= !xs.isEmpty)\/ (∃xs,bU K H p xs/\k= !xs.isEmpty)\/ ∃kvs,H p=some (.dK kvs)/\k= !kvs.isEmpty
 |_=>False
theorem b3d{κ:Type}{kvs:List (κ×V)}{vs:List (κ×Value)}(r:KV kvs vs):(!vs.isEmpty)= !kvs.isEmpty:=by
 cases r<;>rfl
theorem a8Z{xs:List V}{its:List Value}(r:aV xs its):(!its.toArray.isEmpty)= !xs.isEmpty:=by
 cases r<;>simp
theorem vD:(sizeLine:Nat)<2^ 63:=by rw[sizeLine_eq];decide
theorem b1I:TruR X (fun x H Q=>∃k,TruV X.K x H k/\Q k H):=by
 intro pins s σ H x v Q I rx h
 obtain⟨k,e,q⟩:=h
 have hl:=vD
 have hs:sizeLine=16777216:=sizeLine_eq
 cases x with
 |non=>
  cases rx
  have e':k=false:=e
  subst e'
  exact truthy_none ⟨H,I,q⟩
 |bl b=>
  cases rx
  have e':k=b:=e
  subst e'
  exact wpAny_truthy_bool ⟨H,I,q⟩
 |int i=>
  obtain⟨t,rfl⟩:=rx
  have e':k=(i !=0):=e
  subst e'
  exact PySem.P.truthy_int ⟨H,I,q⟩
 |str y=>
  obtain⟨t,rfl⟩:=rx
  obtain⟨hy,e'⟩:y.length<=sizeLine/\k=((y.length:Int) !=0):=e
  subst e'
  exact PySem.P.truthy_str (by omega) ⟨H,I.tok _,q⟩
 |byt y=>
  obtain⟨t,rfl⟩:=rx
  obtain⟨hy,e'⟩:y.size<=sizeLine/\k=((y.size:Int) !=0):=e
  subst e'
  exact PySem.W.truthy_bytes (by omega) ⟨H,I.tok _,q⟩
 |ref p=>
  cases rx
  have e':(∃xs,aI X.K H p xs/\k= !xs.isEmpty)\/ (∃xs,bU X.K H p xs/\k= !xs.isEmpty)\/ ∃kvs,H p=some (.dK kvs)/\k= !kvs.isEmpty:=e
  rcases e' with⟨xs,hx,e'⟩|⟨xs,hx,e'⟩|⟨kvs,hx,e'⟩
  ·subst e'
   obtain⟨its,r,pl,hz⟩:=I.list hx
   have hlen:=r.length
   exact wpAny_truthy_list pl.isList (by simp only[List.size_toArray];omega) ⟨H,I.tok _,by rw[a8Z r];exact q⟩
  ·subst e'
   obtain⟨its,r,pl,hz⟩:=I.tuple hx
   have hlen:=r.length
   exact truthy_tuple pl (by simp only[List.size_toArray];omega) ⟨H,I.tok _,by rw[a8Z r];exact q⟩
  ·subst e'
   obtain⟨hz,hS,vs,r,m⟩:kvs.length<=sizeLine/\(p==sysModules)=false/\∃vs,KV kvs vs/\s.heap.DictOf (fF X.prog X.w) p vs:=I.hok p _ hx
   have hlen:kvs.length=vs.length:=Paired.length r
   exact wpAny_truthy_dict hS m (by omega) ⟨H,I.tok _,by rw[b3d r];exact q⟩
 |_=>exact(show False from e).elim
theorem a88(ha:PE X a ta)(he:∀whole,isTrue a X.env whole=(do let v<- whole;standAt a.pos;holding [v] (truthy v))):
 PT X a (fun σ H Q=>ta σ H fun x H'=>∃k,TruV X.K x H' k/\Q k H'):=by
 intro pins s σ H Q I h
 exact isTrue_plain (aO (ha pins s σ H _ I h) fun v s1 ⟨x,H1,I1,r1,q1⟩=>b1I pins s1 σ H1 x v Q I1 r1 q1) (he _)
theorem lX{x:V}{us:List Value}(r:aV [x] us):∃u,us= [u] /\aY x u:=by
 cases r with
 |cons r1 r2=>cases r2;exact⟨_,rfl,r1⟩
theorem b08{x y:V}{us:List Value}(r:aV [x,y] us):∃u w',us= [u,w'] /\aY x u/\aY y w':=by
 cases r with
 |cons r1 r2=>
  cases r2 with
  |cons r3 r4=>cases r4;exact⟨_,_,rfl,r1,r3⟩
theorem b0Q:gC X (.builtin "abs") (fun xs H Q=>∃i,xs= [.int i] /\Q (.int (if i<0 then-i else i)) H):=by
 intro pins s σ H xs us Q I r h
 obtain⟨i,rfl,q⟩:=h
 obtain⟨u,rfl,t,rfl⟩:=lX r
 exact call_abs_int fun u tk=>⟨.int (if i<0 then-i else i),H,I.tok _,⟨_,rfl⟩,q⟩
theorem b16(hc:X.calm=true):gC X (.builtin "max") (fun xs H Q=>∃i j,xs= [.int i,.int j] /\Q (.int (if j>i then j else i)) H):=by
 intro pins s σ H xs us Q I r h
 obtain⟨i,j,rfl,q⟩:=h
 obtain⟨u,w',rfl,⟨t,rfl⟩,⟨t',rfl⟩⟩:=b08 r
 refine max_two_ints (I.ok.hd hc) fun h' tk k=>⟨_,H,I.kept k,?_,q⟩
 by_cases hj:j>i
 ·rw[if_pos hj,if_pos hj];exact⟨_,rfl⟩
 ·rw[if_neg hj,if_neg hj];exact⟨_,rfl⟩
def LenV(K:Fg)(x:V)(H:Hp)(n:Nat):Prop:=
 match x with
 | .str y=>y.length<=sizeLine/\n=y.length
 | .byt y=>y.size<=sizeLine/\n=y.size
 | .ref p=>(∃xs,aI K H p xs/\n=xs.length)\/ ∃xs,bU K H p xs/\n=xs.length
 |_=>False
theorem fW:gC X (.builtin "len") (fun xs H Q=>∃x n,xs= [x] /\LenV X.K x H n/\Q (.int n) H):=by
 intro pins s σ H xs us Q I r h
 obtain⟨x,n,rfl,e,q⟩:=h
 obtain⟨u,rfl,rx⟩:=lX r
 have hl:=vD
 have hs:sizeLine=16777216:=sizeLine_eq
 cases x with
 |str y=>
  obtain⟨t,rfl⟩:=rx
  obtain⟨hy,e'⟩:y.length<=sizeLine/\n=y.length:=e
  subst e'
  exact len_str (by omega) ⟨.int _,H,I.tok _,⟨_,rfl⟩,q⟩
 |byt y=>
  obtain⟨t,rfl⟩:=rx
  obtain⟨hy,e'⟩:y.size<=sizeLine/\n=y.size:=e
  subst e'
  exact PySem.W.len_bytes (by omega) ⟨.int _,H,I.tok _,⟨_,rfl⟩,q⟩
 |ref p=>
  cases rx
  have e':(∃xs,aI X.K H p xs/\n=xs.length)\/ ∃xs,bU X.K H p xs/\n=xs.length:=e
  rcases e' with⟨xs,hx,e'⟩|⟨xs,hx,e'⟩
  ·subst e'
   obtain⟨its,r',pl,hz⟩:=I.list hx
   have hlen:=r'.length
   exact Calls.call_len_list pl.isList (by simp only[List.size_toArray];omega) ⟨.int xs.length,H,I.tok _,⟨_,by simp only[List.size_toArray];rw[hlen]⟩,q⟩
  ·subst e'
   obtain⟨its,r',pl,hz⟩:=I.tuple hx
   have hlen:=r'.length
   exact len_tuple pl (by simp only[List.size_toArray];omega) ⟨.int xs.length,H,I.tok _,⟨_,by simp only[List.size_toArray];rw[hlen]⟩,q⟩
 |_=>exact(show False from e).elim
end
structure kI(h:Heap)(x dx C:Addr)(mA:Str->Option Value):Prop where
 obj:h.get? x=some (PySem.W.instObj C dx)
 ns:h.Ns1 dx mA
 ne:dx≠x
theorem b10{h:Heap}{dx:Addr}{mA:Str->Option Value}(n:h.Ns1 dx mA):∃od,h.get? dx=some od/\∀name,PySem.W.lookIn name od=some (mA name):=by
 obtain⟨o,es,ep,ho,hd,hk,_,hm⟩:=n
 refine⟨o,ho,fun name=> ?_⟩
 have e:=hm name
 unfold nsFind findBy at e
 rw[<- Array.find?_toList]at e
 unfold PySem.W.lookIn
 rw[hd]
 dsimp only
 split
 ·rename_i y q
  rw[q]at e
  exact congrArg some e
 ·rename_i q
  rw[q]at e
  have a:es.toList.any (·.refKey)=false:=by
   rw[List.any_eq_false]
   intro y hy
   obtain⟨z,t,hkey⟩:=hk y (Array.mem_toList_iff.mp hy)
   simp[DictEntry.refKey,hkey]
  have a':¬es.toList.any (·.refKey)=true:=by rw[a];exact Bool.false_ne_true
  rw[if_neg a']
  exact congrArg some e
theorem kI.look{h:Heap}{x dx C:Addr}{mA:Str->Option Value}(I:kI h x dx C mA):∃od,PySem.W.InstAt h x (PySem.W.instObj C dx) C (some od)/\∀name,PySem.W.lookIn name od=some (mA name):=
 let ⟨od,ho,hl⟩:=b10 I.ns
 ⟨od,⟨I.obj,rfl,rfl,ho⟩,hl⟩
section
variable{prog:Program}{w:World}{A:Around}{E:Value->Shared->Prop}{s:Shared}{K:Fg}{x dx C f:Addr}{mA:Str->Option Value}{name:Str}{v:Value}
theorem b2M{expr:Bool}{Q:Value->Shared->Prop}(X:K.In s.heap)(I:kI s.heap x dx C mA)(hg:PySem.W.plainGet K C name=true)(hh:PySem.W.hasDictIn K C=true)
 (ha:PySem.W.findIn K (.ref C) name=some none)(hv:mA name=some v)(hv':PySem.W.handedIn v=true)(h:Q v {s with toks:=s.toks+ 1}):
 wpAny (model prog w) A (getAttr (.ref x) name expr) Q E s:=by
 obtain⟨od,J,hl⟩:=I.look
 exact PySem.W.get_value X J (PySem.W.plainGet_of hg).1 (PySem.W.findObj_own hh ha rfl (by rw[hl,hv])) hv' h
theorem b2K{pl:Sem Bool}{Q:Value×List Value->Shared->Prop}(X:K.In s.heap)(I:kI s.heap x dx C mA)(hg:PySem.W.plainGet K C name=true)
 (hf:PySem.W.findIn K (.ref C) name=some (some (.ref f)))(ht:PySem.W.isFn K (.ref f)=true)(hv:mA name=none)(h:Q (.ref f,[.ref x]) s):
 wpAny (model prog w) A (getMethod (.ref x) name pl) Q E s:=by
 obtain⟨od,J,hl⟩:=I.look
 exact PySem.W.method_fn X J (PySem.W.plainGet_of hg).1 (PySem.W.plainGet_of hg).2 hf (beq_iff_eq.mp ht) (by show(PySem.W.lookIn name od).map (·.isSome)=some false;rw[hl,hv];rfl) h
theorem b0U{ns:List Str}{Q:Unit->Shared->Prop}(X:K.In s.heap)(I:kI s.heap x dx C mA)
 (hs:PySem.W.findIn K (.ref C) "__setattr__"=some (some (.builtin "object.__setattr__")))(hp:PySem.W.plainOver K C=true)(ht:PySem.W.takerIn K C name=some none)(hh:PySem.W.hasDictIn K C=true)
 (hw:PySem.Within mA ns)(hsz:ns.length<=sizeLine)
 (h:∀h',kI h' x dx C (fun y=>if y=name then some v else mA y)->Heap.SameBut dx s.heap h'->Q () {s with heap:=h',toks:=s.toks+ 2}):
 wpAny (model prog w) A (setAttr (.ref x) name v) Q E s:=by
 obtain⟨od,J,hl⟩:=I.look
 refine PySem.W.set_plain X J hs (PySem.W.osa_open (s:={s with toks:=s.toks+ 1}) (r:=none) X J hp ht fun b=> ?_)
 obtain⟨cd,hc,hd'⟩:=PySem.W.any_some hh
 have hx:s.heap.get? x=some ⟨.ref C,some dx,.plain,#[]⟩:=I.obj
 refine wpAny_bind (wpAny_pure (wpAny_bind (wpAny_bind (wpAny_loadPart hx (wpAny_bind (PySem.W.Looks.here (s:={s with toks:=s.toks+ 1}) (PySem.W.looks_clsIn X hc) ?_))))))
 rw[hd']
 refine wpAny_pure (a:=some dx) (wpAny_bind (wpAny_pure (wpAny_bind ?_)))
 refine wpAny_nsSet1 (s:={s with toks:=s.toks+ 1}) I.ns fun h' hn2 hs2=> ?_
 obtain⟨oD,esD,epD,hoD,hdD,hcD⟩:=hn2.count (PySem.Within.cons name v hw)
 refine wpAny_bind (wpAny_lookBehind hoD (by rw[hdD];exact pastItsLine_dict (Nat.le_trans hcD (by rw[List.length_cons];omega))) ?_)
 exact wpAny_pure (h _ ⟨(hs2.2 _ (Ne.symm I.ne)).trans I.obj,hn2,I.ne⟩ hs2)
theorem b3O{R:Result->Shared->Prop}{vs:List Value}{kw:List (Str×Value)}(X:K.In s.heap)(hm:PySem.W.makesIn K C=true)
 (hi:PySem.W.findIn K (.ref C) "__init__"=some (some (.ref f)))(hf:PySem.W.typeIn K (.ref f)=some (.type "function"))
 (h:codeAny (model prog w) (A.under (.builtin "type.__call__" ⟨.ref C::vs,kw⟩)) (.call (.ref f) ⟨.ref (s.heap.objs.size+ 1)::vs,kw⟩) (PySem.W.InitBack (s.heap.objs.size+ 1) R)
  {s with heap:=(s.heap.push PySem.W.emptyDict).push (PySem.W.instObj C s.heap.objs.size)}):
 codeAny (model prog w) A (.call (.ref C) ⟨vs,kw⟩) R s:=by
 obtain⟨hh,g,d,t,os⟩:=s
 exact PySem.W.make_core (PySem.W.makes_of X hm) (PySem.W.looks_findIn X hi) (fun self=>PySem.W.bind_fn X self hf) (.inl rfl) h
end
noncomputable def aJ (f:Str) (v:V):List (Str×V)->List (Str×V)
 | []=> [(f,v)]
 |(g,x)::r=>if g=f then(g,v)::r else(g,x)::aJ f v r
theorem a7v(f g:Str)(v:V):∀fs:List (Str×V),(aJ f v fs).lookup g=if g=f then some v else fs.lookup g
 | []=>by
  show List.lookup g [(f,v)]=_
  by_cases h:g=f
  ·have hb:(g==f)=true:=beq_iff_eq.mpr h
   simp only[List.lookup,hb,if_pos h]
  ·have hb:(g==f)=false:=beq_eq_false_iff_ne.mpr h
   simp only[List.lookup,hb,if_neg h]
 |(k,x)::r=>by
  have ih:=a7v f g v r
  rw[show aJ f v ((k,x)::r)=(if k=f then(k,v)::r else(k,x)::aJ f v r) from rfl]
  by_cases hk:k=f
  ·rw[if_pos hk]
   by_cases h:g=k
   ·have hb:(g==k)=true:=beq_iff_eq.mpr h
    simp only[List.lookup,hb,if_pos (h.trans hk)]
   ·have hb:(g==k)=false:=beq_eq_false_iff_ne.mpr h
    simp only[List.lookup,hb,if_neg (fun e:g=f=>h (e.trans hk.symm))]
  ·rw[if_neg hk]
   by_cases h:g=k
   ·have hb:(g==k)=true:=beq_iff_eq.mpr h
    simp only[List.lookup,hb,if_neg (fun e:g=f=>hk (h.symm.trans e))]
   ·have hb:(g==k)=false:=beq_eq_false_iff_ne.mpr h
    simp only[List.lookup,hb]
    exact ih
theorem a38(f:Str)(v:V):∀fs:List (Str×V),f∈(aJ f v fs).map (·.1)/\∀g,g∈fs.map (·.1)->g∈(aJ f v fs).map (·.1)
 | []=>⟨by simp[aJ],fun g h=>by simp at h⟩
 |(k,x)::r=>by
  obtain⟨i1,i2⟩:=a38 f v r
  rw[show aJ f v ((k,x)::r)=(if k=f then(k,v)::r else(k,x)::aJ f v r) from rfl]
  by_cases hk:k=f
  ·rw[if_pos hk]
   subst hk
   exact⟨by simp,fun g h=>by simpa using h⟩
  ·rw[if_neg hk]
   refine⟨?_,fun g h=> ?_⟩
   ·rw[List.map_cons]
    exact List.mem_cons_of_mem _ i1
   ·rw[List.map_cons]at h|-
    rcases List.mem_cons.mp h with e|e
    ·exact List.mem_cons.mpr (.inl e)
    ·exact List.mem_cons_of_mem _ (i2 g e)
theorem a7o(f:Str)(v:V):∀fs:List (Str×V),(aJ f v fs).length<=fs.length+ 1
 | []=>by simp[aJ]
 |(k,x)::r=>by
  have ih:=a7o f v r
  rw[show aJ f v ((k,x)::r)=(if k=f then(k,v)::r else(k,x)::aJ f v r) from rfl]
  by_cases hk:k=f
  ·rw[if_pos hk,List.length_cons,List.length_cons];omega
  ·rw[if_neg hk,List.length_cons,List.length_cons];omega
theorem eN.some_of{v:V}{o:Option Value}(r:eN (some v) o):∃u,o=some u/\aY v u:=by
 cases o with
 |none=>exact(show False from r).elim
 |some u=>exact⟨u,rfl,r⟩
theorem eN.none_of{o:Option Value}(r:eN none o):o=none:=by
 cases o with
 |none=>rfl
 |some u=>exact(show False from r).elim
theorem b0f{v:V}{u:Value}(r:aY v u):PySem.W.handedIn u=true:=by
 cases v with
 |non=>cases (show u=Value.none from r);rfl
 |bl b=>cases (show u=Value.bool b from r);rfl
 |int i=>obtain⟨t,e⟩:=(show∃t,u=Value.int i t from r);cases e;rfl
 |str x=>obtain⟨t,e⟩:=(show∃t,u=Value.str x t from r);cases e;rfl
 |byt b=>obtain⟨t,e⟩:=(show∃t,u=Value.bytes b t from r);cases e;rfl
 |flt b=>obtain⟨t,e⟩:=(show∃t,u=Value.float b t from r);cases e;rfl
 |ref a=>cases (show u=Value.ref a from r);rfl
 |ty n=>cases (show u=Value.type n from r);rfl
section
variable{P:Program}{w:World}{H H':Hp}{h h':Heap}{a C dx:Addr}{fs fs':List (Str×V)}
theorem vK(hok:cA P w H h)(e:H a=some (.ins C dx fs)):∃mA,kI h a dx C mA/\(∀f,eN (fs.lookup f) (mA f))/\PySem.Within mA (fs.map (·.1))/\fs.length<=1000/\H dx=some (.own a):=by
 obtain⟨d,z,ne,ob,mA,n,r,q⟩:=(show cG P w H h a (.ins C dx fs) from hok a _ e)
 exact⟨mA,⟨ob,n,ne⟩,r,q,z,d⟩
end
structure bS(K:Fg)(C:Addr):Prop where
 pg:PySem.W.plainGet K C Str.empty=true
 hd:PySem.W.hasDictIn K C=true
 po:PySem.W.plainOver K C=true
 sa:PySem.W.findIn K (.ref C) "__setattr__"=some (some (.builtin "object.__setattr__"))
theorem bS.get{K:Fg}{C:Addr}(c:bS K C)(f:Str):PySem.W.plainGet K C f=true:=c.pg
def bN(K:Fg)(C:Addr)(f:Str):Prop:=PySem.W.findIn K (.ref C) f=some none
theorem bN.taker{K:Fg}{C:Addr}{f:Str}(n:bN K C f):PySem.W.takerIn K C f=some none:=by
 unfold PySem.W.takerIn
 rw[show PySem.W.findIn K (.ref C) f=some none from n]
 rfl
structure Con(K:Fg)(C:Addr)(f:Str)(v:V)(u:Value):Prop where
 at_:PySem.W.findIn K (.ref C) f=some (some u)
 rel:aY v u
 get:PySem.W.specialIn K u "__get__"=some none
 cp:PySem.W.copiedNames.contains f=false
structure pK(K:Fg)(C:Addr)(m:Str)(f:Addr):Prop where
 at_:PySem.W.findIn K (.ref C) m=some (some (.ref f))
 fn:PySem.W.isFn K (.ref f)=true
 kp:PySem.W.keepIn K (.ref f)=true
section
variable{X:Cx}{pins:List (Addr×Obj)}{σ:St}{H:Hp}{s:Shared}{a C dx:Addr}{fs:List (Str×V)}{f:Str}{v:V}{A:Around}{E:Value->Shared->Prop}
theorem b1r{b:Bool}{Q:Value->Shared->Prop}(I:Inv X pins σ H s)(e:H a=some (.ins C dx fs))(c:bS X.K C)(n:bN X.K C f)(l:fs.lookup f=some v)
 (h:∀u s',Inv X pins σ H s'->aY v u->Q u s'):wpAny (model X.prog X.w) A (getAttr (.ref a) f b) Q E s:=by
 obtain⟨mA,O,r,_,_,_⟩:=vK I.hok e
 obtain⟨u,hu,ru⟩:=eN.some_of (v:=v) (o:=mA f) (by rw[<- l];exact r f)
 exact b2M I.kIn O (c.get f) c.hd n hu (b0f ru) (h u _ (I.tok _) ru)
theorem nG{m:Str}{g:Addr}{pl:Sem Bool}{Q:Value×List Value->Shared->Prop}(I:Inv X pins σ H s)(e:H a=some (.ins C dx fs))(c:bS X.K C)(k:pK X.K C m g)(l:fs.lookup m=none)
 (h:Q (.ref g,[.ref a]) s):wpAny (model X.prog X.w) A (getMethod (.ref a) m pl) Q E s:=by
 obtain⟨mA,O,r,_,_,_⟩:=vK I.hok e
 have hn:mA m=none:=eN.none_of (by rw[<- l];exact r m)
 exact b2K I.kIn O (c.get m) k.at_ k.fn hn h
theorem b0P{y:V}{u:Value}{Q:Unit->Shared->Prop}(I:Inv X pins σ H s)(e:H a=some (.ins C dx fs))(c:bS X.K C)(n:bN X.K C f)(hl:fs.length<1000)(ry:aY y u)
 (h:∀s',Inv X pins σ (upd H a (.ins C dx (aJ f y fs))) s'->Q () s'):wpAny (model X.prog X.w) A (setAttr (.ref a) f u) Q E s:=by
 obtain⟨mA,O,r,wi,_,ho⟩:=vK I.hok e
 have hz:(fs.map (·.1)).length<=sizeLine:=by rw[List.length_map,sizeLine_eq];omega
 refine b0U I.kIn O c.sa c.po n.taker c.hd wi hz fun h' O' sb=>h _ ?_
 have hd:∃o,h'.get? dx=some o:=let ⟨o,_,_,e',_⟩:=O'.ns;⟨o,e'⟩
 refine I.write (x:=a) (e:=dx) (by rw[e];exact True.intro) (.inr ho) (fun b q hb z=>(sb.2 b hb).trans z) hd ?_
 refine⟨by rw[aF O.ne];exact ho,?_,O.ne,O'.obj,_,O'.ns,fun g=> ?_,fun g hg=> ?_⟩
 ·have:=a7o f y fs;omega
 ·show eN ((aJ f y fs).lookup g) (if g=f then some u else mA g)
  rw[a7v]
  by_cases q:g=f
  ·rw[if_pos q,if_pos q];exact ry
  ·rw[if_neg q,if_neg q];exact r g
 ·by_cases q:g=f
  ·rw[q];exact(a38 f y fs).1
  ·refine(a38 f y fs).2 g (wi g fun z=>hg ?_)
   show(if g=f then some u else mA g)=none
   rw[if_neg q];exact z
theorem Inv.made(I:Inv X pins σ H s):Inv X pins σ (upd (upd H s.heap.objs.size (.own (s.heap.objs.size+ 1))) (s.heap.objs.size+ 1) (.ins C s.heap.objs.size []))
 {s with heap:=(s.heap.push PySem.W.emptyDict).push (PySem.W.instObj C s.heap.objs.size)}:=by
 have e1:(s.heap.push PySem.W.emptyDict).get? s.heap.objs.size=some PySem.W.emptyDict:=Heap.get?_push_size s.heap rfl
 have e2:((s.heap.push PySem.W.emptyDict).push (PySem.W.instObj C s.heap.objs.size)).get? (s.heap.objs.size+ 1)=some (PySem.W.instObj C s.heap.objs.size):=by
  have:=Heap.get?_push_size (s.heap.push PySem.W.emptyDict) (o:=PySem.W.instObj C s.heap.objs.size) rfl
  rwa [Heap.size_push]at this
 have e3:(s.heap.push PySem.W.emptyDict).Ns s.heap.objs.size (fun _=>none):=⟨PySem.W.emptyDict,#[],_,e1,rfl,(fun e he=>absurd he (by simp)),fun _=>rfl⟩
 have I1:=I.laid (a:=s.heap.objs.size) (o:=.own (s.heap.objs.size+ 1)) (h':=s.heap.push PySem.W.emptyDict) (t':=s.toks) (fun b u q=>Heap.get?_push_of_some _ q) (Nat.le_refl _) ⟨_,e1⟩
 refine I1.laid (a:=s.heap.objs.size+ 1) (o:=.ins C s.heap.objs.size []) (t':=s.toks) (fun b u q=>Heap.get?_push_of_some _ q) (Nat.le_of_eq (Heap.size_push _ _)) ?_
 have ne:s.heap.objs.size≠s.heap.objs.size+ 1:=Nat.ne_of_lt (Nat.lt_succ_self _)
 refine⟨by rw[aF ne,aH],Nat.zero_le _,ne,e2,fun _=>none,(Heap.Ns1.of_empty e3).at fun o q=>Heap.get?_push_of_some _ q,fun _=>True.intro,fun y hy=>absurd rfl hy⟩
theorem b2R{prog:Program}{w:World}{env:Env}{e:Expr}{f:Str}{pos:Pos}{s:Shared}{Q:Value->Shared->Prop}(hb:attributeBase e f env (eval e env)=eval e env)
 (h:wpAny (model prog w) A (eval e env) (fun o s₁=>wpAny (model prog w) A (getAttr o f true) Q E s₁) E s):wpAny (model prog w) A (eval (.Attribute e f pos) env) Q E s:=
 Attribute_any_ h (by rw[arm_eval_Attribute,hb])
end
def tZ(K:Fg)(ta:TE)(f:Str):TE:=fun σ H Q=>ta σ H fun x H1=>∃a C dx fs v,x= .ref a/\H1 a=some (.ins C dx fs)/\bS K C/\bN K C f/\fs.lookup f=some v/\Q v H1
def sFld(K:Fg)(ta tv:TE)(f:Str):TS:=fun D σ H=>tv σ H fun y H1=>ta σ H1 fun x H2=>∃a C dx fs,x= .ref a/\H2 a=some (.ins C dx fs)/\bS K C/\bN K C f/\fs.length<1000/\
 D.nx σ (upd H2 a (.ins C dx (aJ f y fs)))
section
variable{X:Cx}{o e value:Expr}{f:Str}{pos pos' tpos:Pos}{ta tv:TE}
theorem aX(he:PE X e ta)(hb:attributeBase e f X.env (eval e X.env)=eval e X.env):PE X (.Attribute e f pos) (tZ X.K ta f):=by
 intro pins s σ H Q I h
 refine b2R hb (aO (he pins s σ H _ I h) fun u s1 ⟨x,H1,I1,rx,a,C,dx,fs,v,ex,ea,c,n,l,q⟩=> ?_)
 subst ex
 obtain rfl:u=Value.ref a:=rx
 exact b1r I1 ea c n l fun u' s2 I2 ru=>⟨v,H1,I2,ru,q⟩
theorem bR(ha:PE X o ta)(hv:PE X value tv)(hs:swapsWith value (some (.Attribute o f pos')) pos.line X.env=pure false):PS X (.Assign [.Attribute o f pos'] value pos) (sFld X.K ta tv f):=by
 intro pins s σ H D I h
 refine plainObj_wpAny_Assign_Attribute (aO (hv pins s σ H _ I h) fun u s1 ⟨y,H1,I1,ry,q⟩=>aO (ha pins s1 σ H1 _ I1 q) fun ov s2 ⟨x,H2,I2,rx,a,C,dx,fs,ex,ea,c,n,l,q2⟩=> ?_) hs
 subst ex
 obtain rfl:ov=Value.ref a:=rx
 exact b0P I2 ea c n l ry fun s3 I3=>⟨σ,_,I3,q2⟩
theorem methcall_of{pl:Sem Bool}{m:Str}{apos:Pos}{args:List Expr}{pins:List (Addr×Obj)}{s:Shared}{σ:St}{H:Hp}{Q:Value->Shared->Prop}{te:TE}(he:PE X e te)(I:Inv X pins σ H s)
 (h:te σ H fun x H1=>∃a C dx fs g,x= .ref a/\H1 a=some (.ins C dx fs)/\bS X.K C/\pK X.K C m g/\fs.lookup m=none/\
  ∀s1,Inv X pins σ H1 s1->wpAny (model X.prog X.w) X.A (callWith pos (.ref g) [.ref a] (backTo pos (starEach args X.env)) (backToKw pos (keywordEach [] X.env))) Q X.xe s1)
 (ht:eval (.Call (.Attribute e m apos) args [] pos) X.env=(do
  let ov<- eval e X.env
  standAt apos.atName
  let (f,first)<- holding [ov] (getMethod ov m pl)
  callWith pos f first (backTo pos (starEach args X.env)) (backToKw pos (keywordEach [] X.env)))):
 wpAny (model X.prog X.w) X.A (eval (.Call (.Attribute e m apos) args [] pos) X.env) Q X.xe s:=by
 refine PySem.W.methodCall_KW (pl:=pl) (aO (he pins s σ H _ I h) fun u s1 ⟨x,H1,I1,rx,a,C,dx,fs,g,ex,ea,c,k,l,q⟩=> ?_) ht
 subst ex
 obtain rfl:u=Value.ref a:=rx
 exact nG I1 ea c k l (q s1 I1)
end
section
variable{X:Cx}{pins:List (Addr×Obj)}{σ:St}{H:Hp}{s:Shared}{A:Around}{E:Value->Shared->Prop}{Q:Value->Shared->Prop}{c:Value}{b:Bool}
inductive fQ(K:Fg)(H:Hp):V->Value->Prop where
 |non:fQ K H .non (.type "NoneType")
 |bl (x:Bool):fQ K H (.bl x) (.type "bool")
 |int (i:Int):fQ K H (.int i) (.type "int")
 |str (x:Str):fQ K H (.str x) (.type "str")
 |flt (x:UInt64):fQ K H (.flt x) (.type "float")
 |lst {a:Addr} {xs:List V} (e:H a=some (.lst xs)):fQ K H (.ref a) (.type "list")
 |frz {a:Addr} {o:Obj} {xs:List V} (e:H a=some (.frz o (.lst xs))):fQ K H (.ref a) (.type "list")
 |tup {a:Addr} {xs:List V} (e:H a=some (.tup xs)):fQ K H (.ref a) (.type "tuple")
 |dK {a:Addr} {kvs:List (aG×V)} (e:H a=some (.dK kvs)):fQ K H (.ref a) (.type "dict")
 |dT {a:Addr} {kvs:List (List aG×V)} (e:H a=some (.dT kvs)):fQ K H (.ref a) (.type "dict")
 |ins {a C dx:Addr} {fs:List (Str×V)} (e:H a=some (.ins C dx fs)) (cl:bS K C) (ha:PySem.W.findIn K (.ref C) "__class__"=some (some (.builtin "object.__class__")))
  (hn:PySem.W.specialIn K (.builtin "object.__class__") "__get__"=some (some (.builtin "getset_descriptor.__get__"))) (htk:PySem.W.takesIn K (.builtin "object.__class__")=some true)
  (hm:PySem.W.mroIn K C (.type "object")=some true):fQ K H (.ref a) (.ref C)
theorem b1z{x:V}{u t:Value}(I:Inv X pins σ H s)(rx:aY x u)(ty:fQ X.K H x t)(e:PySem.W.kitOne X.K t c=some b)(h:∀tk,Q (.bool b) {s with toks:=tk}):
 wpAny (model X.prog X.w) A (call (.builtin "isinstance") [u,c]) Q E s:=by
 cases ty with
 |non=>cases (show u=Value.none from rx);exact PySem.W.kia_one PySem.W.kitx_none I.kIn True.intro e (fun z=>nomatch z) h
 |bl y=>cases (show u=Value.bool y from rx);exact PySem.W.kia_one PySem.W.kitx_bool I.kIn True.intro e (fun z=>nomatch z) h
 |int i=>obtain⟨t,q⟩:=(show∃t,u=Value.int i t from rx);cases q;exact PySem.W.kia_one PySem.W.kitx_int I.kIn True.intro e (fun z=>nomatch z) h
 |str y=>obtain⟨t,q⟩:=(show∃t,u=Value.str y t from rx);cases q;exact PySem.W.kia_one PySem.W.kitx_str I.kIn True.intro e (fun z=>nomatch z) h
 |flt y=>obtain⟨t,q⟩:=(show∃t,u=Value.float y t from rx);cases q;exact PySem.W.kia_one PySem.W.kitx_float I.kIn True.intro e (fun z=>nomatch z) h
 | @lst a xs ea=>
  cases (show u=Value.ref a from rx)
  obtain⟨_,_,n,_,h1⟩:=(show cG X.prog X.w H s.heap a (.lst xs) from I.hok a _ ea)
  exact PySem.W.kia_one PySem.W.kitx_list I.kIn ⟨_,h1,rfl⟩ e (fun z=>nomatch z) h
 | @frz a ob xs ea=>
  cases (show u=Value.ref a from rx)
  obtain⟨_,_,_,n,_,h1⟩:=(show cG X.prog X.w H s.heap a (.frz ob (.lst xs)) from I.hok a _ ea)
  exact PySem.W.kia_one PySem.W.kitx_list I.kIn ⟨_,h1,rfl⟩ e (fun z=>nomatch z) h
 | @tup a xs ea=>
  cases (show u=Value.ref a from rx)
  obtain⟨_,_,_,p⟩:=(show cG X.prog X.w H s.heap a (.tup xs) from I.hok a _ ea)
  obtain⟨o,h1,h2,_⟩:=p
  exact PySem.W.kia_one PySem.W.kitx_tuple I.kIn ⟨o,h1,h2⟩ e (fun z=>nomatch z) h
 | @dK a kvs ea=>
  cases (show u=Value.ref a from rx)
  obtain⟨_,_,vs,_,p⟩:=(show cG X.prog X.w H s.heap a (.dK kvs) from I.hok a _ ea)
  obtain⟨o,es,ep,h1,h2,_⟩:=p
  exact PySem.W.kia_one PySem.W.kitx_dict I.kIn ⟨o,h1,h2.1⟩ e (fun z=>nomatch z) h
 | @dT a kvs ea=>
  cases (show u=Value.ref a from rx)
  obtain⟨_,_,xs,_,o,es,ep,h1,h2,_⟩:=(show cG X.prog X.w H s.heap a (.dT kvs) from I.hok a _ ea)
  exact PySem.W.kia_one PySem.W.kitx_dict I.kIn ⟨o,h1,h2.1⟩ e (fun z=>nomatch z) h
 | @ins a C dx fs ea cl ha hn htk hm=>
  cases (show u=Value.ref a from rx)
  obtain⟨mA,O,_⟩:=vK I.hok ea
  obtain⟨od,J,_⟩:=O.look
  exact PySem.W.kia_one (PySem.W.kitx_own (cl.get _) cl.hd ha hn htk hm) I.kIn J e (fun z=>nomatch z) h
end
structure bO(k:Nat)(A:Around):Prop where
 hd:A.handled=none
 dp:A.depth+ 3* k+ 5<recursionLimit
 un:A.units+ 16* k+ 200<cLine
theorem bO.mono{j k:Nat}{A:Around}(r:bO k A)(h:j<=k):bO j A:=⟨r.hd,by have:=r.dp;omega,by have:=r.un;omega⟩
theorem bO.deeper{k:Nat}{A:Around}(r:bO (k+ 1) A)(env:Env):bO k (A.deeper env):=
 ⟨r.hd,by have:=r.dp;show A.depth+ 1+ 3* k+ 5<_;omega,by have:=r.un;show A.units+ 3+ 16* k+ 200<_;omega⟩
theorem b0j{A:Around}{C:Addr}{us:List Value}{kw:List (Str×Value)}:(A.under (.builtin "type.__call__" ⟨.ref C::us,kw⟩)).depth=A.depth+ 1:=by
 first|rfl|simp[Around.under,Code.weight,Code.isCreation,Code.isGuard,Code.isCaller,Code.frames,Code.isFrame,guardIds]
theorem b3f{A:Around}{C:Addr}{us:List Value}{kw:List (Str×Value)}:(A.under (.builtin "type.__call__" ⟨.ref C::us,kw⟩)).units=A.units+ 1:=by
 first|rfl|simp[Around.under,Code.cUnits,Code.frames,Code.isFrame]
theorem bO.make{k:Nat}{A:Around}(r:bO (k+ 1) A)(C:Addr)(us:List Value)(kw:List (Str×Value)):bO k (A.under (.builtin "type.__call__" ⟨.ref C::us,kw⟩)):=
 ⟨r.hd,by have:=r.dp;rw[b0j];omega,by have:=r.un;rw[b3f];omega⟩
theorem bO.depth{k:Nat}{A:Around}(r:bO k A):A.depth<recursionLimit:=by have:=r.dp;omega
theorem bO.units{k:Nat}{A:Around}(r:bO k A):A.units+ 64<cLine:=by have:=r.un;omega
def iI:TA:=fun _ H Q=>Q [] H
def kK(ta:TE)(tr:TA):TA:=fun σ H Q=>ta σ H fun x H1=>tr σ H1 fun xs H2=>Q (x::xs) H2
section
variable{X:Cx}{e:Expr}{es:List Expr}{te:TE}{t:TA}{pos:Pos}
theorem aD:PA X [] iI:=fun _ _ _ _ H Q I h=>Calls.spliced_nil ⟨[],H,I,.nil,h⟩
theorem aA(ha:PE X e te)(hr:PA X es t)(hs:starEach (e::es) X.env=(false,eval e X.env)::starEach es X.env:=by rfl):PA X (e::es) (kK te t):=by
 intro pos pins s σ H Q I h
 rw[hs]
 show wpAny _ _ (spliced ((false,eval e X.env)::backTo pos (starEach es X.env))) _ _ s
 refine Calls.spliced_cons (aO (ha pins s σ H _ I h) fun u s1 ⟨x,H1,I1,r1,q1⟩=> ?_)
 exact aO (hr pos pins s1 σ H1 _ I1 q1) fun us s2 ⟨xs,H2,I2,r2,q2⟩=>⟨x::xs,H2,I2,.cons r1 r2,q2⟩
def tO(t:TA):TE:=fun σ H Q=>t σ H fun xs H1=>xs.length<=sizeLine/\∀p,H1 p=none->Q (.ref p) (upd H1 p (.tup xs))
def tLst(t:TA):TE:=fun σ H Q=>t σ H fun xs H1=>xs.length<=sizeLine/\∀p,H1 p=none->Q (.ref p) (upd H1 p (.lst xs))
theorem jO{x1}(h:PA X es t):PE X (.Tuple es x1 pos) (tO t):=by
 intro pins s σ H Q I hq
 refine wpAny_Tuple_spliced (aO (h pos pins s σ H _ I hq) fun us s1 ⟨xs,H1,I1,r,z,q⟩=>⟨by rw[<- r.length];exact z,?_⟩)
 have hf:H1 s1.heap.objs.size=none:=I1.hok.fresh (Nat.le_refl _)
 refine⟨.ref s1.heap.objs.size,upd H1 s1.heap.objs.size (.tup xs),I1.laid (t':=s1.toks) (fun b u e=>Heap.get?_push_of_some _ e) (Nat.le_refl _) ?_,rfl,q _ hf⟩
 exact⟨z,us,r,⟨_,Heap.get?_push_size _ rfl,rfl,_,rfl⟩⟩
theorem eD(h:PA X es t):PE X (.List es pos) (tLst t):=by
 intro pins s σ H Q I hq
 refine wpAny_List_spliced (aO (h pos pins s σ H _ I hq) fun us s1 ⟨xs,H1,I1,r,z,q⟩=>⟨by rw[<- r.length];exact z,?_⟩)
 have hf:H1 s1.heap.objs.size=none:=I1.hok.fresh (Nat.le_refl _)
 refine⟨.ref s1.heap.objs.size,upd H1 s1.heap.objs.size (.lst xs),I1.laid (t':=s1.toks) (fun b u e=>Heap.get?_push_of_some _ e) (Nat.le_refl _) ?_,rfl,q _ hf⟩
 exact⟨z,us,0,r,Heap.get?_push_size _ rfl⟩
end
abbrev Sp:=List V->Hp->VK->XK->Prop
abbrev cU:=List Env->Hp->Shared->XK->Value->Shared->Prop
structure hZ(P:Program)(w:World)(K:Fg)(mg:Str->Option Value)(base:Heap)(A:Around)(outer:List Env)(s:Shared)(H:Hp):Prop where
 frames:A.frames=some outer
 mod:Mod K mg base
 bs:∀b o,base.get? b=some o->s.heap.get? b=some o/\H b=none
 bsz:base.objs.size<=s.heap.objs.size
 funs:s.heap.FunFrames base outer
 frf:∀b∈eW outer,H b=none
 hok:cA P w H s.heap
 bare:AllBare s.gens
def CE(outer:List Env)(P:Program)(w:World)(H:Hp)(s:Shared)(Q:VK)(u:Value)(s':Shared):Prop:=
 ∃v H',s'.os=s.os/\AllBare s'.gens/\Un (eW outer) [] H H' s.heap s'.heap/\cA P w H' s'.heap/\aY v u/\Q v H'
def CR(CX:cU)(outer:List Env)(P:Program)(w:World)(H:Hp)(s:Shared)(Q:VK)(E:XK)(r:Result)(s':Shared):Prop:=
 match r with
 | .ok (.ret u)=>CE outer P w H s Q u s'
 | .ok _=>False
 | .error e=>CX outer H s E e s'
structure dN(P:Program)(w:World)(K:Fg)(mg:Str->Option Value)(base:Heap)(CX:cU)(k:Nat)(f:Addr)(fd:FuncData)(ps:List Str)(sp:Sp):Prop where
 len:∀vs H Q E,sp vs H Q E->vs.length=ps.length
 run:∀(A:Around) (outer:List Env) (s:Shared) (H:Hp) (args:Args) (us:List Value) (vs:List V) (Q:VK) (E:XK),bO k A->hZ P w K mg base A outer s H->BindsTo s fd args (ps.zip us)->aV vs us->sp vs H Q E->
  codeAny (model P w) A (.call (.ref f) args) (CR CX outer P w H s Q E) s
theorem dN.mono{P:Program}{w:World}{K:Fg}{mg:Str->Option Value}{base:Heap}{CX:cU}{j k:Nat}{f:Addr}{fd:FuncData}{ps:List Str}{sp:Sp}(F:dN P w K mg base CX j f fd ps sp)(h:j<=k):
 dN P w K mg base CX k f fd ps sp:=⟨F.len,fun A outer s H args us vs Q E hr=>F.run A outer s H args us vs Q E (hr.mono h)⟩
theorem hZ.make{P:Program}{w:World}{K:Fg}{mg:Str->Option Value}{base:Heap}{A:Around}{outer:List Env}{s:Shared}{H:Hp}(e:hZ P w K mg base A outer s H)(C:Addr)(us:List Value)(kw:List (Str×Value)):
 hZ P w K mg base (A.under (.builtin "type.__call__" ⟨.ref C::us,kw⟩)) outer s H:=⟨by first|exact e.frames|(simpa [Around.under,Code.envs,Code.isFrame,pushEnvs] using e.frames),e.mod,e.bs,e.bsz,e.funs,e.frf,e.hok,e.bare⟩
section
variable{X:Cx}{pins:List (Addr×Obj)}{σ:St}{H:Hp}{s s':Shared}
theorem Inv.env0(I:Inv X pins σ H s):hZ X.prog X.w X.K X.mg X.base X.A X.stack s H:=
 ⟨I.ok.frames,I.ok.mod,I.bs,Nat.le_trans I.ok.bsz I.sz,I.stack,I.stkFree,I.hok,I.bare⟩
theorem Inv.after{Q:VK}{u:Value}(I:Inv X pins σ H s)(h:CE X.stack X.prog X.w H s Q u s'):EP X pins σ Q u s':=by
 obtain⟨v,H',os,bare,un,hok,r,q⟩:=h
 obtain⟨hh,g,d,t,os'⟩:=s'
 obtain rfl:os'=s.os:=os
 exact⟨v,H',I.call (h':=hh) (g':=g) (d':=d) (t':=t) (ch:=[]) un hok bare (fun b z=>absurd z (by simp)),r,q⟩
end
def a8h(sp:Sp)(dvs:List V)(E:XK)(t:TA):TE:=fun σ H Q=>t σ H fun vs H1=>sp (vs++ dvs) H1 Q E
def vE(C:Addr)(m:Str)(sp:Sp)(dvs:List V)(E:XK)(ta:TE)(t:TA):TE:=fun σ H Q=>ta σ H fun x H1=>∃a dx fs,x= .ref a/\H1 a=some (.ins C dx fs)/\fs.lookup m=none/\
 t σ H1 fun vs H2=>sp (x::(vs++ dvs)) H2 Q E
def tM(C:Addr)(sp:Sp)(dvs:List V)(E:XK)(t:TA):TE:=fun σ H Q=>t σ H fun vs H1=>∀x dx,H1 x=none->H1 dx=none->dx≠x->
 sp (.ref x::(vs++ dvs)) (upd (upd H1 dx (.own x)) x (.ins C dx [])) (fun v H2=>v= .non/\Q (.ref x) H2) E
def fR(K:Fg)(fd:FuncData)(ps:List Str)(ds:List Value):Prop:=
 ∀(s:Shared) (us:List Value),K.In s.heap->(us++ ds).length=ps.length->BindsTo s fd ⟨us,[]⟩ (ps.zip (us++ ds))
theorem fR.all{K:Fg}{fd:FuncData}{ps:List Str}(h:∀us:List Value,us.length=ps.length->bindArgs fd ⟨us,[]⟩=pure (ps.zip us)):fR K fd ps []:=fun s us _ hl=>by
 rw[List.append_nil]at hl|-
 exact .of_eq (h us hl)
def eY(CX:cU)(X:Cx)(E:XK):Prop:=∀(pins:List (Addr×Obj)) (σ:St) (H:Hp) (s:Shared) (e:Value) (s':Shared),Inv X pins σ H s->CX X.stack H s E e s'->X.xe e s'
section
variable{X:Cx}{CX:cU}{k:Nat}{f C:Addr}{fd:FuncData}{ps:List Str}{sp:Sp}{dvs:List V}{ds:List Value}{E:XK}{x m:Str}{p pos apos:Pos}{e o:Expr}{es:List Expr}{ta:TE}{t:TA}
theorem oS{pins:List (Addr×Obj)}{σ:St}{H:Hp}{s:Shared}{Q:VK}{us:List Value}{vs:List V}(F:dN X.prog X.w X.K X.mg X.base CX k f fd ps sp)(hr:bO k X.A)(hb:fR X.K fd ps ds)(hd:aV dvs ds)(hx:eY CX X E)
 (I:Inv X pins σ H s)(r:aV vs us)(h:sp (vs++ dvs) H Q E):wpAny (model X.prog X.w) X.A (call (.ref f) us) (EP X pins σ Q) X.xe s:=by
 have r2:aV (vs++ dvs) (us++ ds):=r.append hd
 have hl:(us++ ds).length=ps.length:=by rw[<- r2.length];exact F.len _ _ _ _ h
 refine wpAny_call (codeAny_mono (F.run X.A X.stack s H ⟨us,[]⟩ (us++ ds) (vs++ dvs) Q E hr I.env0 (hb s us I.kIn hl) r2 h) fun r s' hq=> ?_)
 cases r with
 |error e=>exact hx pins σ H s e s' I hq
 |ok fl=>
  cases fl with
  |ret u=>exact I.after hq
  |next=>exact False.elim hq
  |brk=>exact False.elim hq
  |cont=>exact False.elim hq
theorem b12(F:dN X.prog X.w X.K X.mg X.base CX k f fd ps sp)(hr:bO k X.A)(hg:Gl X x)(hm:X.mg x=some (.ref f))(hk:PySem.W.keepIn X.K (.ref f)=true)(hb:fR X.K fd ps ds)(hd:aV dvs ds)(hx:eY CX X E)
 (ha:PA X (e::es) t)(hdb:(x==("__debug__":Str))=false:=by decide)(he:starEach (e::es) X.env=(false,eval e X.env)::starEach es X.env:=by rfl)(hpl:(backTo pos (starEach es X.env)).any (·.1)=false:=by rfl):
 PE X (.Call (.Name x p) (e::es) [] pos) (a8h sp dvs E t):=by
 intro pins s σ H Q I h
 refine wpAny_Call_Name_kw (vP I hg hm ?_ hdb)
 refine PySem.W.callWith_K (h₀:=X.base) I.ok.mod.kin hk (aO (ha pos pins s σ H _ I h) fun us s1 ⟨vs,H1,I1,r,q⟩=>⟨I1.kIn,?_⟩) he hpl
 exact oS F hr hb hd hx I1 r q
theorem a9V{pl:Sem Bool}(he:PE X o ta)(c:bS X.K C)(hm:pK X.K C m f)(F:dN X.prog X.w X.K X.mg X.base CX k f fd ps sp)(hr:bO k X.A)(hb:fR X.K fd ps ds)(hd:aV dvs ds)(hx:eY CX X E)(ha:PA X (e::es) t)
 (hst:starEach (e::es) X.env=(false,eval e X.env)::starEach es X.env:=by rfl)(hpl:(backTo pos (starEach es X.env)).any (·.1)=false:=by rfl)
 (ht:eval (.Call (.Attribute o m apos) (e::es) [] pos) X.env=(do
  let ov<- eval o X.env
  standAt apos.atName
  let (f,first)<- holding [ov] (getMethod ov m pl)
  callWith pos f first (backTo pos (starEach (e::es) X.env)) (backToKw pos (keywordEach [] X.env))):=by rfl):
 PE X (.Call (.Attribute o m apos) (e::es) [] pos) (vE C m sp dvs E ta t):=by
 intro pins s σ H Q I h
 refine PySem.W.methodCall_KW (pl:=pl) (aO (he pins s σ H _ I h) fun u s1 ⟨x,H1,I1,rx,a,dx,fs,ex,ea,l,q⟩=> ?_) ht
 subst ex
 obtain rfl:u=Value.ref a:=rx
 refine nG I1 ea c hm l ?_
 refine PySem.W.callWith_K (first:=[.ref a]) (h₀:=X.base) I.ok.mod.kin hm.kp (aO (ha pos pins s1 σ H1 _ I1 q) fun us s2 ⟨vs,H2,I2,r,q2⟩=>⟨I2.kIn,?_⟩) hst hpl
 exact oS (us:=.ref a::us) (vs:=.ref a::vs) F hr hb hd hx I2 (.cons rfl r) q2
theorem b3y{pl:Sem Bool}(he:PE X o ta)(c:bS X.K C)(hm:pK X.K C m f)(F:dN X.prog X.w X.K X.mg X.base CX k f fd ps sp)(hr:bO k X.A)(hb:fR X.K fd ps ds)(hd:aV dvs ds)(hx:eY CX X E)
 (ht:eval (.Call (.Attribute o m apos) [] [] pos) X.env=(do
  let ov<- eval o X.env
  standAt apos.atName
  let (f,first)<- holding [ov] (getMethod ov m pl)
  callWith pos f first (backTo pos (starEach [] X.env)) (backToKw pos (keywordEach [] X.env))):=by rfl):
 PE X (.Call (.Attribute o m apos) [] [] pos) (vE C m sp dvs E ta iI):=by
 intro pins s σ H Q I h
 refine PySem.W.methodCall_KW (pl:=pl) (aO (he pins s σ H _ I h) fun u s1 ⟨x,H1,I1,rx,a,dx,fs,ex,ea,l,q⟩=> ?_) ht
 subst ex
 obtain rfl:u=Value.ref a:=rx
 refine nG I1 ea c hm l ?_
 exact PySem.W.callWith_K0 (first:=[.ref a]) I1.kIn hm.kp (oS (us:=[.ref a]) (vs:=[.ref a]) F hr hb hd hx I1 (.cons rfl .nil) q)
structure Mk(K:Fg)(C f:Addr):Prop where
 makes:PySem.W.makesIn K C=true
 init:PySem.W.findIn K (.ref C) "__init__"=some (some (.ref f))
 fn:PySem.W.isFn K (.ref f)=true
 kp:PySem.W.keepIn K (.ref C)=true
theorem a7A{pins:List (Addr×Obj)}{σ:St}{H:Hp}{s:Shared}{Q:VK}{us:List Value}{vs:List V}(M:Mk X.K C f)(F:dN X.prog X.w X.K X.mg X.base CX k f fd ps sp)(hr:bO (k+ 1) X.A)(hb:fR X.K fd ps ds)(hd:aV dvs ds)
 (hx:eY CX X E)(I:Inv X pins σ H s)(r:aV vs us)
 (h:∀x dx,H x=none->H dx=none->dx≠x->sp (.ref x::(vs++ dvs)) (upd (upd H dx (.own x)) x (.ins C dx [])) (fun v H2=>v= .non/\Q (.ref x) H2) E):
 wpAny (model X.prog X.w) X.A (call (.ref C) us) (EP X pins σ Q) X.xe s:=by
 have hq:=h (s.heap.objs.size+ 1) s.heap.objs.size (I.hok.fresh (Nat.le_succ _)) (I.hok.fresh (Nat.le_refl _)) (Nat.ne_of_lt (Nat.lt_succ_self _))
 have I2:=Inv.made (C:=C) I
 have r2:aV (V.ref (s.heap.objs.size+ 1)::(vs++ dvs)) (Value.ref (s.heap.objs.size+ 1)::(us++ ds)):=.cons rfl (r.append hd)
 have hl:(Value.ref (s.heap.objs.size+ 1)::us++ ds).length=ps.length:=by
  have e:=r2.length
  rw[F.len _ _ _ _ hq]at e
  exact e.symm
 refine wpAny_call (b3O (f:=f) I.kIn M.makes M.init (beq_iff_eq.mp M.fn) (codeAny_mono (F.run _ X.stack _ _ ⟨Value.ref (s.heap.objs.size+ 1)::us,[]⟩ (Value.ref (s.heap.objs.size+ 1)::(us++ ds)) _ _ E (hr.make C us [])
  (I2.env0.make C us []) (hb _ (Value.ref (s.heap.objs.size+ 1)::us) I2.kIn hl) r2 hq) fun r s' hq'=> ?_))
 cases r with
 |error e=>exact hx pins σ _ _ e s' I2 hq'
 |ok fl=>
  cases fl with
  |ret u=>
   obtain⟨v,H',I3,rv,ev,q3⟩:=I2.after hq'
   subst ev
   exact⟨rv,⟨V.ref (s.heap.objs.size+ 1),H',I3,rfl,q3⟩⟩
  |next=>exact False.elim hq'
  |brk=>exact False.elim hq'
  |cont=>exact False.elim hq'
theorem b0H(M:Mk X.K C f)(F:dN X.prog X.w X.K X.mg X.base CX k f fd ps sp)(hr:bO (k+ 1) X.A)(hg:Gl X x)(hm:X.mg x=some (.ref C))(hb:fR X.K fd ps ds)(hd:aV dvs ds)(hx:eY CX X E)
 (ha:PA X (e::es) t)(hdb:(x==("__debug__":Str))=false:=by decide)(he:starEach (e::es) X.env=(false,eval e X.env)::starEach es X.env:=by rfl)(hpl:(backTo pos (starEach es X.env)).any (·.1)=false:=by rfl):
 PE X (.Call (.Name x p) (e::es) [] pos) (tM C sp dvs E t):=by
 intro pins s σ H Q I h
 refine wpAny_Call_Name_kw (vP I hg hm ?_ hdb)
 refine PySem.W.callWith_K (h₀:=X.base) I.ok.mod.kin M.kp (aO (ha pos pins s σ H _ I h) fun us s1 ⟨vs,H1,I1,r,q⟩=>⟨I1.kIn,?_⟩) he hpl
 exact a7A M F hr hb hd hx I1 r q
theorem b1L(M:Mk X.K C f)(F:dN X.prog X.w X.K X.mg X.base CX k f fd ps sp)(hr:bO (k+ 1) X.A)(hg:Gl X x)(hm:X.mg x=some (.ref C))(hb:fR X.K fd ps ds)(hd:aV dvs ds)(hx:eY CX X E)
 (hdb:(x==("__debug__":Str))=false:=by decide):PE X (.Call (.Name x p) [] [] pos) (tM C sp dvs E iI):=by
 intro pins s σ H Q I h
 refine wpAny_Call_Name_kw (vP I hg hm ?_ hdb)
 exact PySem.W.callWith_K0 I.kIn M.kp (a7A (us:=[]) M F hr hb hd hx I .nil h)
end
section
variable{X:Cx}{CX:cU}{k:Nat}{f C:Addr}{fd:FuncData}{ps ks:List Str}{sp:Sp}{E:XK}{x m:Str}{p pos apos kpos:Pos}{e o:Expr}{es:List Expr}{kws:List Keyword}{te ta:TE}{t tk:TA}{nm:Option Str}
structure KBinds(K:Fg)(fd:FuncData)(ps ks:List Str)(g:List Value->List Value->List Value)(gV:List V->List V->List V):Prop where
 to:∀(s:Shared) (us ws:List Value),K.In s.heap->(g us ws).length=ps.length->BindsTo s fd ⟨us,ks.zip ws⟩ (ps.zip (g us ws))
 rel:∀{vs:List V} {us:List Value} {zs:List V} {ws:List Value},aV vs us->aV zs ws->aV (gV vs zs) (g us ws)
variable{g:List Value->List Value->List Value}{gV:List V->List V->List V}
end
structure aW(N P:List Str)(sc:Scope):Prop where
 kind:sc.kind= .function
 co:sc.isCoroutine=false
 gen:sc.isGenerator=false
 nd:N.Nodup
 pre:N.take P.length=P
 par:∀x∈P,sc.names.lookup x=some .local\/ sc.names.lookup x=some .cell
 nofree:∀y∈sc.names,y.2≠ .free
theorem a7O{kindOf:Str->Option NameKind}{x:Str}:∀{binds:List (Str×Value)} {m:Str->Option Value},(∀v,(x,v)∉binds)->bindL kindOf binds m x=m x
 | [],_,_=>rfl
 |(n,v)::r,m,h=>by
  unfold bindL
  rw[a7O fun w hw=>h w (List.mem_cons_of_mem _ hw)]
  split
  ·have:x≠n:=by rintro rfl;exact h v List.mem_cons_self
   simp[this]
  ·rfl
theorem a7y{kindOf:Str->Option NameKind}{x:Str}:∀{binds:List (Str×Value)} {m:Str->Option Value},(∀v,(x,v)∉binds)->bindC kindOf binds m x=m x
 | [],_,_=>rfl
 |(n,v)::r,m,h=>by
  unfold bindC
  rw[a7y fun w hw=>h w (List.mem_cons_of_mem _ hw)]
  split
  ·rfl
  ·have:x≠n:=by rintro rfl;exact h v List.mem_cons_self
   simp[this]
theorem a7H{kindOf:Str->Option NameKind}{x:Str}{v:Value}:∀{P:List Str} {vs:List Value} {i:Nat} {m:Str->Option Value},P.Nodup->P[i]?=some x->vs[i]?=some v->kindOf x=some .local->
 bindL kindOf (P.zip vs) m x=some v
 | [],_,_,_,_,h,_,_=>by simp at h
 |_::_,[],_,_,_,_,h,_=>by simp at h
 |p::P,w::vs,0,m,nd,h1,h2,hk=>by
  simp at h1 h2;subst h1;subst h2
  show bindL kindOf ((p,w)::P.zip vs) m p=_
  unfold bindL
  rw[a7O fun v hv=>(List.nodup_cons.mp nd).1 (List.of_mem_zip hv).1,if_pos hk]
  simp
 |p::P,w::vs,i+ 1,m,nd,h1,h2,hk=>by
  show bindL kindOf ((p,w)::P.zip vs) m x=_
  unfold bindL
  exact a7H (i:=i) (List.nodup_cons.mp nd).2 (by simpa using h1) (by simpa using h2) hk
theorem a8R{kindOf:Str->Option NameKind}{x:Str}{v:Value}:∀{P:List Str} {vs:List Value} {i:Nat} {m:Str->Option Value},P.Nodup->P[i]?=some x->vs[i]?=some v->kindOf x≠some .local->
 bindC kindOf (P.zip vs) m x=some v
 | [],_,_,_,_,h,_,_=>by simp at h
 |_::_,[],_,_,_,_,h,_=>by simp at h
 |p::P,w::vs,0,m,nd,h1,h2,hk=>by
  simp at h1 h2;subst h1;subst h2
  show bindC kindOf ((p,w)::P.zip vs) m p=_
  unfold bindC
  rw[a7y fun v hv=>(List.nodup_cons.mp nd).1 (List.of_mem_zip hv).1,if_neg hk]
  simp
 |p::P,w::vs,i+ 1,m,nd,h1,h2,hk=>by
  show bindC kindOf ((p,w)::P.zip vs) m x=_
  unfold bindC
  exact a8R (i:=i) (List.nodup_cons.mp nd).2 (by simpa using h1) (by simpa using h2) hk
def gR(N:List Str)(vs:List V):St:=vs.map some++ List.replicate (N.length- vs.length) none
def dI(CX:cU)(P:Program)(w:World)(K:Fg)(mg:Str->Option Value)(base:Heap)(N:List Str)(qual:Str)(scope:Scope)(f:Addr)(cd:Value)(A:Around)(outer:List Env)(s:Shared)(H:Hp)(E:XK):Cx where
 prog:=P
 w:=w
 K:=K
 mg:=mg
 base:=base
 A:=A.deeper (envOfC qual scope s.heap.objs.size f cd)
 N:=N
 s₀:=s
 H₀:=H
 env:=envOfC qual scope s.heap.objs.size f cd
 outer:=outer
 stack:=envOfC qual scope s.heap.objs.size f cd::outer
 ex:=[]
 calm:=true
 fn:=fun _=>true
 pn:=[]
 xe:=fun e s'=>wpAny (model P w) (A.deeper (envOfC qual scope s.heap.objs.size f cd)) (leaving (envOfC qual scope s.heap.objs.size f cd) e) (fun _ s''=>CX outer H s E e s'') (fun e' s''=>CX outer H s E e' s'') s'
theorem a8w{sc:Scope}{n:Nat}{x:Str}(h:sc.names.lookup x=some .cell):∃c,(cellsFrom n sc.names []).lookup x=some c:=by
 have q:=PySem.W.cellsFrom_some sc.names n [] (.inl h)
 exact Option.isSome_iff_exists.mp q
theorem b1o{CX:cU}{P:Program}{w:World}{K:Fg}{mg:Str->Option Value}{base:Heap}{N ps:List Str}{qual:Str}{scope:Scope}{f:Addr}{cd:Value}{A:Around}{outer:List Env}{s s1:Shared}{H:Hp}{E:XK}{us:List Value}{vs:List V}
 (S:aW N ps scope)(hd:A.handled=none)(e0:hZ P w K mg base A outer s H)(hl:vs.length=ps.length)(r:aV vs us)
 (x:InCallC s s.heap.objs.size (bindL (envOfC qual scope s.heap.objs.size f cd).kindOf (ps.zip us) fun _=>none) (cellsFrom (s.heap.objs.size+ 1) scope.names []) (bindC (envOfC qual scope s.heap.objs.size f cd).kindOf (ps.zip us) fun _=>none) s1):
 Inv (dI CX P w K mg base N qual scope f cd A outer s H E) [] (gR N vs) H s1:=by
 have hpl:ps.length<=N.length:=by have:=congrArg List.length S.pre;rw[List.length_take]at this;omega
 obtain⟨h1,tk,rfl,hk⟩:=x.done
 have noA:∀b:Addr,b∉(dI CX P w K mg base N qual scope f cd A outer s H E).ex:=fun b z=>absurd (show b∈([]:List Addr) from z) (by simp)
 refine⟨⟨e0.mod,S.kind,rfl,rfl,Nat.le_refl _,fun y z c h1 h2=> ?_,fun y hy=> ?_,fun y c _ h=> ?_,fun _=>hd,Around.frames_deeper e0.frames,.inr ⟨rfl,rfl⟩,fun b z=>absurd z (noA b),e0.bs,e0.bsz,fun b _ _=>noA b,fun b z=>absurd z (noA b),e0.funs,e0.frf⟩,
  rfl,e0.bare,Un.kept hk,⟨_,x.toInCall.ns,fun i y v h1 h2 h3=> ?_⟩,fun y c h=>⟨_,x.cell y c h⟩,e0.hok.fresh (Nat.le_refl _),fun y c h=> ?_,fun p hp=>absurd (show p∈([]:List (Addr×Obj)) from hp) (by simp),e0.hok.kept hk,?_⟩
 ·exact name_of_addr x.apart (PySem.mem_of_lookup h1) (PySem.mem_of_lookup h2)
 ·have hy:scope.names.lookup y=some .cell\/ scope.names.lookup y=some .free:=hy
  rcases hy with hy|hy
  ·exact a8w hy
  ·exact absurd rfl (S.nofree _ (PySem.mem_of_lookup hy))
 ·exact Nat.le_of_lt (x.above y c (PySem.mem_of_lookup h))
 ·have hi:i<vs.length:=by
   unfold gR at h2
   by_cases hi:i<vs.length
   ·exact hi
   ·rw[List.getElem?_append_right (by simpa using hi)]at h2
    rw[List.getElem?_replicate]at h2
    split at h2<;>cases h2
  have ha:vs[i]?=some v:=by
   unfold gR at h2
   rw[List.getElem?_append_left (by simpa using hi),List.getElem?_map]at h2
   cases e:vs[i]? with
   |none=>rw[e]at h2;cases h2
   |some a=>rw[e]at h2;cases h2;rfl
  obtain⟨u,hu,rv⟩:=r.get ha
  have hp:ps[i]?=some y:=by
   rw[<- S.pre,List.getElem?_take_of_lt (by omega)];exact h1
  have ndP:ps.Nodup:=by rw[<- S.pre];exact S.nd.sublist (List.take_sublist _ _)
  refine⟨u,rv,?_⟩
  rcases S.par y (List.mem_of_getElem? hp)with k|k
  ·exact .inl ⟨k,a7H ndP hp hu k⟩
  ·obtain⟨c,e⟩:=a8w (n:=s.heap.objs.size+ 1) k
   refine .inr ⟨.inl k,c,e,?_⟩
   have q:=x.cell y c e
   rw[a8R ndP hp hu (by show scope.names.lookup y≠_;rw[k];decide)]at q
   exact q
 ·exact e0.hok.fresh (Nat.le_of_lt (x.above y c (PySem.mem_of_lookup h)))
 ·unfold gR
  show _=N.length
  rw[List.length_append,List.length_map,List.length_replicate]
  omega
theorem b1D{CX:cU}{P:Program}{w:World}{K:Fg}{mg:Str->Option Value}{base:Heap}{k:Nat}{f:Addr}{name qual:Str}{params:Arguments}{body:List Stmt}{scope:Scope}{dV kV doc pm cdv ct oc:Value}{an od:Option Addr}
 {osl:Array (Option Value)}{N ps:List Str}{sp:Sp}(lk:K.lookup f=some ⟨oc,od,.func (PySem.W.fnOf name qual params body scope dV kV doc pm an cdv ct),osl⟩)(hcd:PySem.W.codeIn K cdv qual=true)(S:aW N ps scope)
 (len:∀vs H Q E,sp vs H Q E->vs.length=ps.length)
 (hbody:∀(A:Around) (outer:List Env) (s:Shared) (H:Hp) (vs:List V) (Q:VK) (E:XK),bO k (A.deeper (envOfC qual scope s.heap.objs.size f cdv))->sp vs H Q E->
  ∃t,dC (dI CX P w K mg base N qual scope f cdv A outer s H E) body t/\t {nx:=fun _ H'=>Q .non H',rt:=Q} (gR N vs) H):
 dN P w K mg base CX (k+ 1) f (PySem.W.fnOf name qual params body scope dV kV doc pm an cdv ct) ps sp:=by
 refine⟨len,fun A outer s H args us vs Q E hr e0 hb r hsp=> ?_⟩
 have hl:=len _ _ _ _ hsp
 have KX:K.In s.heap:=e0.mod.kin.keeps fun b o e=>(e0.bs b o e).1
 have lim:s.heap.NoLimit:=e0.mod.nolimit.keeps fun b o e=>(e0.bs b o e).1
 have hkind:∀y∈ps.zip us,scope.names.lookup y.1=some .local\/ (scope.names.lookup y.1=some .cell/\((cellsFrom (s.heap.objs.size+ 1) scope.names []).lookup y.1).isSome=true):=fun⟨n,v⟩ hy=>by
  rcases S.par n (List.of_mem_zip hy).1 with q|q
  ·exact .inl q
  ·exact .inr ⟨q,PySem.W.cellsFrom_some _ _ _ (.inl q)⟩
 refine codeAny_call_function hr.depth (KX _ _ lk) rfl S.co S.gen rfl (PySem.W.codeRec_of KX hcd) (hb _ _ _ _ ?_)
 refine wpAny_newFunctionEnv_cells S.kind hkind fun env he s1 x=> ?_
 subst he
 refine⟨lim.keeps x.toInCall.keep,codeAny_func ?_⟩
 obtain⟨t,ht,hq⟩:=hbody A outer s H vs Q E (hr.deeper _) hsp
 have I:Inv (dI CX P w K mg base N qual scope f cdv A outer s H E) [] (gR N vs) H s1:=b1o S hr.hd e0 hl r x
 refine wpAny_mono (ht [] s1 (gR N vs) H _ I hq) (fun fl s' hs=> ?_) fun e s' hs=>hs
 have fin:∀{σ':St} {H':Hp} {v:V} {u:Value},Inv (dI CX P w K mg base N qual scope f cdv A outer s H E) [] σ' H' s'->aY v u->Q v H'->CE outer P w H s Q u s':=
  fun{σ' H' v u} J rv q=>⟨v,H',J.os,J.bare,J.base,J.hok,rv,q⟩
 cases fl with
 |ret u=>
  obtain⟨v,σ',H',J,rv,q⟩:=hs
  exact fin J rv q
 |next=>
  obtain⟨σ',H',J,q⟩:=hs
  exact fin (v:=V.non) (u:=Value.none) J rfl q
 |brk=>
  obtain⟨_,_,_,q⟩:=hs
  exact False.elim q
 |cont=>
  obtain⟨_,_,_,q⟩:=hs
  exact False.elim q
section
variable{X:Cx}{x:Str}{p pos:Pos}{e:Expr}{es:List Expr}{t:TA}{id T:String}{r:List V->Hp->VK->Prop}
def tCB(r:List V->Hp->VK->Prop)(t:TA):TE:=fun σ H Q=>t σ H fun vs H1=>r vs H1 Q
theorem cF(hc:gC X (.builtin id) r)(hg:Gl X x)(hm:X.mg x=none)(hv:bootBuiltins x=some (.builtin id))(ha:PA X (e::es) t)(hn:x≠ "__name__":=by decide)(hdb:(x==("__debug__":Str))=false:=by decide)
 (he:starEach (e::es) X.env=(false,eval e X.env)::starEach es X.env:=by rfl)(hpl:(backTo pos (starEach es X.env)).any (·.1)=false:=by rfl):PE X (.Call (.Name x p) (e::es) [] pos) (tCB r t):=by
 intro pins s σ H Q I h
 refine wpAny_Call_Name_kw (tU I hg hm hv ?_ hn hdb)
 exact PyProof.Rows.callWith_builtin1 (aO (ha pos pins s σ H _ I h) fun us s1 ⟨vs,H1,I1,r1,q1⟩=>hc pins s1 σ H1 vs us Q I1 r1 q1) he hpl
theorem kF(hc:gC X (.type T) r)(hg:Gl X x)(hm:X.mg x=none)(hv:bootBuiltins x=some (.type T))(ha:PA X (e::es) t)(hn:x≠ "__name__":=by decide)(hdb:(x==("__debug__":Str))=false:=by decide)
 (he:starEach (e::es) X.env=(false,eval e X.env)::starEach es X.env:=by rfl)(hpl:(backTo pos (starEach es X.env)).any (·.1)=false:=by rfl):PE X (.Call (.Name x p) (e::es) [] pos) (tCB r t):=by
 intro pins s σ H Q I h
 refine wpAny_Call_Name_kw (tU I hg hm hv ?_ hn hdb)
 exact PyProof.Rows.callWith_type1 (aO (ha pos pins s σ H _ I h) fun us s1 ⟨vs,H1,I1,r1,q1⟩=>hc pins s1 σ H1 vs us Q I1 r1 q1) he hpl
end
end L2
namespace HT
open PySem PyProof.Rows
section
variable{prog:Program}{w:World}{A:Around}{E:Value->Shared->Prop}{s:Shared}
noncomputable def sIx(n d:Nat):Option Int->Nat
 |none=>d
 |some v=>if v<0 then(v+ (n:Int)).toNat else min v.toNat n
theorem sIx_nat(n d k:Nat):sIx n d (some (k:Int))=min k n:=by
 show(if(k:Int)<0 then((k:Int)+ (n:Int)).toNat else min (k:Int).toNat n)=min k n
 rw[if_neg (by omega),Int.toNat_natCast]
end
end HT
namespace L2
open PySem PySem.Spec PyProof.Rows
abbrev TO:=St->Hp->(Option Int->Hp->Prop)->Prop
def PO(X:Cx)(e:Option Expr)(t:TO):Prop:=
 ∀(pins:List (Addr×Obj)) (s:Shared) (σ:St) (H:Hp) (Q:Option Int->Hp->Prop),Inv X pins σ H s->t σ H Q->
  wpAny (model X.prog X.w) X.A (evalPart e X.env) (fun u s'=>∃o H',Inv X pins σ H' s'/\IsPart u o/\Q o H') X.xe s
noncomputable def b3j:TO:=fun _ H Q=>Q none H
noncomputable def b3Q (t:TE):TO:=fun σ H Q=>t σ H fun x H1=>∃i,x= .int i/\Q (some i) H1
section
variable{X:Cx}{e:Expr}{te:TE}{lo hi:Option Expr}{tl th:TO}{pos p2:Pos}
theorem lR:PO X none b3j:=by
 intro pins s σ H Q I h
 rw[evalPart_none]
 exact wpAny_pure ⟨none,H,I,.none,h⟩
theorem fH(h:PE X e te):PO X (some e) (b3Q te):=by
 intro pins s σ H Q I hw
 rw[evalPart_some]
 refine aO (h pins s σ H _ I hw) fun u s1 ⟨x,H1,I1,r1,q1⟩=> ?_
 obtain⟨i,rfl,q⟩:=q1
 obtain⟨t,rfl⟩:=r1
 exact⟨some i,H1,I1,.int i t,q⟩
def SlR(X:Cx)(r:V->Option Int->Option Int->Hp->VK->Prop):Prop:=
 ∀(pins:List (Addr×Obj)) (s:Shared) (σ:St) (H:Hp) (x:V) (v vl vu:Value) (lo hi:Option Int) (sl:Addr) (Q:VK),Inv X pins σ H s->aY x v->s.heap.IsSliceOf sl vl vu .none->IsPart vl lo->IsPart vu hi->r x lo hi H Q->
  ∃T id,typeLookup (.type T) "__getitem__"=pure (some (.builtin id))/\s.TypeIs v T/\wpAny (model X.prog X.w) X.A (getItem v (.ref sl)) (EP X pins σ Q) X.xe s
def tSl(r:V->Option Int->Option Int->Hp->VK->Prop)(te:TE)(tl th:TO):TE:=fun σ H Q=>te σ H fun x H1=>tl σ H1 fun l H2=>th σ H2 fun u H3=>r x l u H3 Q
theorem gZ{r:V->Option Int->Option Int->Hp->VK->Prop}(hr:SlR X r)(he:PE X e te)(hl:PO X lo tl)(hu:PO X hi th):PE X (.Subscript e (.Slice lo hi none p2) pos) (tSl r te tl th):=by
 intro pins s σ H Q I h
 refine Subscript_ (aO (he pins s σ H _ I h) fun v s1 ⟨x,H1,I1,r1,q1⟩=> ?_)
 refine wpAny_Slice (aO (hl pins s1 σ H1 _ I1 q1) fun vl s2 ⟨l,H2,I2,pl,q2⟩=>aO (hu pins s2 σ H2 _ I2 q2) fun vu s3 ⟨u,H3,I3,pu,q3⟩=> ?_)
 rw[evalPart_none]
 refine wpAny_pure ?_
 have I4:Inv X pins σ H3 {s3 with heap:=s3.heap.push {cls:=.type "slice",data:=.fields #[vl,vu,.none]}}:=I3.kept (t':=s3.toks) fun b ob q=>Heap.get?_push_of_some _ q
 obtain⟨T,id,hT,ht,hg⟩:=hr pins {s3 with heap:=s3.heap.push {cls:=.type "slice",data:=.fields #[vl,vu,.none]}} σ H3 x v vl vu l u s3.heap.objs.size Q I4 r1 (Heap.IsSliceOf.new ..) pl pu q3
 show wpAny (model X.prog X.w) X.A (subscriptTail e (.Slice lo hi none p2) v (.ref s3.heap.objs.size)) (EP X pins σ Q) X.xe {s3 with heap:=s3.heap.push {cls:=.type "slice",data:=.fields #[vl,vu,.none]}}
 exact tail_any (ops:=[.ref s3.heap.objs.size,v]) ht hT hg (by with_unfolding_all rfl)
noncomputable def bF (xs:List V) (lo hi:Option Int):List V:=(xs.drop (HT.sIx xs.length 0 lo)).take (HT.sIx xs.length xs.length hi- HT.sIx xs.length 0 lo)
theorem b2V(xs:List V)(lo hi:Option Int):(bF xs lo hi).length<=xs.length:=by
 unfold bF
 rw[List.length_take,List.length_drop]
 omega
end
noncomputable def mN (n:Nat) (i:Int):Option Nat:=if 0<=i then(if i<n then some i.toNat else none) else if-(n:Int)<=i then some (i+ n).toNat else none
noncomputable def cT {α:Type} (xs:List α) (i:Int):Option α:=(mN xs.length i).bind fun j=>xs[j]?
theorem b1i{n:Nat}{i:Int}{j:Nat}(h:mN n i=some j):seqIndex? i n=some j/\j<n/\ -(n:Int)<=i/\i<n:=by
 unfold mN at h
 by_cases h0:0<=i
 ·rw[if_pos h0]at h
  by_cases h1:i<n
  ·rw[if_pos h1]at h
   have e:i.toNat=j:=Option.some.inj h
   exact⟨by rw[seqIndex_of h0 h1,e],by omega,by omega,h1⟩
  ·rw[if_neg h1]at h;cases h
 ·rw[if_neg h0]at h
  by_cases h1: -(n:Int)<=i
  ·rw[if_pos h1]at h
   have e:(i+ n).toNat=j:=Option.some.inj h
   exact⟨by rw[seqIndex_neg (by omega) h1,e],by omega,h1,by omega⟩
  ·rw[if_neg h1]at h;cases h
theorem a8X{α:Type}{xs:List α}{i:Int}{v:α}(h:cT xs i=some v):∃j,seqIndex? i xs.length=some j/\xs[j]?=some v/\j<xs.length/\ -(xs.length:Int)<=i/\i<xs.length:=by
 unfold cT at h
 cases e:mN xs.length i with
 |none=>rw[e]at h;cases h
 |some j=>
  rw[e]at h
  obtain⟨h1,h2,h3,h4⟩:=b1i e
  exact⟨j,h1,h,h2,h3,h4⟩
theorem b1E{α:Type}{xs:List α}{j:Nat}{v:α}(h:xs[j]?=some v):cT xs (j:Int)=some v:=by
 have hj:j<xs.length:=(List.getElem?_eq_some_iff.mp h).1
 have e:mN xs.length (j:Int)=some j:=by
  unfold mN
  rw[if_pos (by omega),if_pos (by omega)];simp
 unfold cT;rw[e];exact h
def b0N(b:Expr):Prop:=∀o i,subscripted b false o i=operate [o,i] (getItem o i)
def IxR(X:Cx)(r:R2):Prop:=
 ∀(value slice:Expr) (pins:List (Addr×Obj)) (s:Shared) (σ:St) (H:Hp) (x y:V) (v u:Value) (Q:VK),Inv X pins σ H s->aY x v->aY y u->r x y H Q->
  subscripted slice false v u=operate [v,u] (getItem v u)->wpAny (model X.prog X.w) X.A (subscriptTail value slice v u) (EP X pins σ Q) X.xe s
def MtR(X:Cx)(id:String)(r:V->List V->Hp->VK->Prop):Prop:=
 ∀(pins:List (Addr×Obj)) (s:Shared) (σ:St) (H:Hp) (x:V) (xs:List V) (v:Value) (us:List Value) (Q:VK),Inv X pins σ H s->aY x v->aV xs us->r x xs H Q->
  wpAny (model X.prog X.w) X.A (call (.builtin id) (v::us)) (EP X pins σ Q) X.xe s
section
variable{X:Cx}{a b:Expr}{ta tb:TE}{pos:Pos}
theorem bM{r:R2}(hr:IxR X r)(ha:PE X a ta)(hb:PE X b tb)(hs:b0N b):PE X (.Subscript a b pos) (jI r ta tb):=by
 intro pins s σ H Q I h
 exact Subscript_ (binT ha hb I h fun v u s2 x y H2 I2 rx ry q=>hr a b pins s2 σ H2 x y v u Q I2 rx ry q (hs _ _))
noncomputable def rIxL (K:Fg):R2:=fun x y H Q=>∃p xs i v,x= .ref p/\y= .int i/\aI K H p xs/\cT xs i=some v/\Q v H
noncomputable def rIxT (K:Fg):R2:=fun x y H Q=>∃p xs i v,x= .ref p/\y= .int i/\bU K H p xs/\cT xs i=some v/\Q v H
theorem cC:IxR X (rIxL X.K):=by
 intro value slice pins s σ H x y v u Q I rx ry h hs
 obtain⟨p,xs,i,z,rfl,rfl,hq,he,q⟩:=h
 cases rx
 obtain⟨t,rfl⟩:=ry
 obtain⟨its,r,pl,hz⟩:=I.list hq
 obtain⟨j,h1,h2,h3,h4,h5⟩:=a8X he
 obtain⟨w,ew,rw'⟩:=r.get h2
 have hl:=r.length
 have hn:=vD
 have fin:EP X pins σ Q w s:=⟨z,H,I,rw',q⟩
 by_cases h0:0<=i
 ·have hj:i.toNat=j:=by
   rw[seqIndex_of h0 h5]at h1
   exact Option.some.inj h1
  exact item_listR pl.isList h0 (by omega) (by rw[hj];simpa using ew) fin hs
 ·have hj:(i+ (its.toArray.size:Int)).toNat=j:=by
   rw[seqIndex_neg (by omega) h4]at h1
   rw[List.size_toArray,<- hl]
   exact Option.some.inj h1
  exact subscriptTail_builtinR (x:=w) pl.isList.typeIs slot_list_getitem.lookup
   (wpAny_getItem_list_neg (Q:=fun r s'=>r=w/\EP X pins σ Q r s') pl.isList (by omega) (by rw[List.size_toArray]<;>omega) (by omega) (by rw[hj];simpa using ew) ⟨rfl,fin⟩) hs
theorem fI:IxR X (rIxT X.K):=by
 intro value slice pins s σ H x y v u Q I rx ry h hs
 obtain⟨p,xs,i,z,rfl,rfl,hq,he,q⟩:=h
 cases rx
 obtain⟨t,rfl⟩:=ry
 obtain⟨its,r,pl,hz⟩:=I.tuple hq
 obtain⟨j,h1,h2,h3,h4,h5⟩:=a8X he
 obtain⟨w,ew,rw'⟩:=r.get h2
 have hl:=r.length
 have hn:=vD
 have fin:EP X pins σ Q w s:=⟨z,H,I,rw',q⟩
 exact subscriptTail_builtinR (x:=w) pl.typeIs slot_tuple_getitem.lookup
  (getItem_tuple (j:=j) (Q:=fun r s'=>r=w/\EP X pins σ Q r s') pl (by omega) (by omega) (by rw[List.size_toArray,<- hl];exact h1) (by simpa using ew) ⟨rfl,fin⟩) hs
theorem b11(lo hi:Option Int)(n:Nat):(sliceBounds lo hi none n).1=((HT.sIx n 0 lo:Nat):Int)/\(sliceBounds lo hi none n).2.1=((HT.sIx n n hi:Nat):Int)/\(sliceBounds lo hi none n).2.2=1:=by
 refine⟨?_,?_,rfl⟩
 ·cases lo with
  |none=>simp[sliceBounds,HT.sIx]
  |some i=>
   simp only[sliceBounds,HT.sIx,Option.getD_none,show(1:Int)>0 by decide,if_true]
   by_cases h:i<0
   ·simp only[h,if_true]<;>omega
   ·simp only[h,if_false]<;>omega
 ·cases hi with
  |none=>simp[sliceBounds,HT.sIx]
  |some i=>
   simp only[sliceBounds,HT.sIx,Option.getD_none,show(1:Int)>0 by decide,if_true]
   by_cases h:i<0
   ·simp only[h,if_true]<;>omega
   ·simp only[h,if_false]<;>omega
theorem b1Q(its:List Value)(lo hi:Option Int):slicePick its.toArray lo hi none=((its.drop (HT.sIx its.length 0 lo)).take (HT.sIx its.length its.length hi- HT.sIx its.length 0 lo)).toArray:=by
 obtain⟨h1,h2,h3⟩:=b11 lo hi its.toArray.size
 unfold slicePick
 rw[h1,h2,h3]
 simp only[sliceRange_one,pick_run,List.size_toArray]<;>rfl
def rSlL(K:Fg):V->Option Int->Option Int->Hp->VK->Prop:=fun x lo hi H Q=>∃a xs,x= .ref a/\aI K H a xs/\∀p,H p=none->Q (.ref p) (upd H p (.lst (bF xs lo hi)))
theorem gT:SlR X (rSlL X.K):=by
 intro pins s σ H x v vl vu lo hi sl Q I rx hs pl pu h
 obtain⟨a,xs,rfl,hx,q⟩:=h
 cases rx
 obtain⟨its,r,ht,hz⟩:=I.list hx
 have hlen:=r.length
 refine⟨"list",_,slot_list_getitem.lookup,ht.isList.typeIs,?_⟩
 refine wpAny_getItem_list_slice ht.isList hs pl pu .none (by simp) ?_ (by rw[List.size_toArray]<;>omega)
 rw[b1Q,<- hlen]
 refine⟨.ref s.heap.objs.size,_,I.laid (t':=s.toks) (o:=.lst (bF xs lo hi)) (fun b ob q=>Heap.get?_push_of_some _ q) (Nat.le_refl _) ?_,rfl,q _ (I.hok.fresh (Nat.le_refl _))⟩
 exact⟨Nat.le_trans (b2V xs lo hi) hz,_,0,(r.drop (HT.sIx xs.length 0 lo)).take (HT.sIx xs.length xs.length hi- HT.sIx xs.length 0 lo),Heap.get?_push_size _ rfl⟩
noncomputable def iL:V->Bool
 | .non=>true
 | .bl _=>true
 | .int _=>true
 | .str _=>true
 |_=>false
noncomputable def gQ:V->V->Bool
 | .non,.non=>true
 | .bl a,.bl b=>a==b
 | .bl a,.int b=>(if a then 1 else 0)==b
 | .int a,.bl b=>a==(if b then 1 else 0)
 | .int a,.int b=>a==b
 | .str a,.str b=>a==b
 |_,_=>false
theorem a9u{A:Around}{s:Shared}{y x:V}{u v:Value}(ry:aY y u)(rx:aY x v)(fy:iL y=true)(fx:iL x=true):SeqAt.EqAt A s u v (gQ y x):=by
 cases y with
 |non=>
  cases ry
  cases x with
  |non=>cases rx;exact SeqAt.EqAt.same _
  |bl b=>cases rx;exact SeqAt.EqAt.none_bool b
  |int b=>obtain⟨t,rfl⟩:=rx;exact SeqAt.EqAt.none_int b t
  |str b=>obtain⟨t,rfl⟩:=rx;exact SeqAt.EqAt.none_str b t
  |_=>exact absurd (show false=true from fx) Bool.false_ne_true
 |bl a=>
  cases ry
  cases x with
  |non=>cases rx;exact SeqAt.EqAt.bool_none a
  |bl b=>cases rx;exact SeqAt.EqAt.bool_bool a b
  |int b=>obtain⟨t,rfl⟩:=rx;exact SeqAt.EqAt.bool_int a b t
  |str b=>obtain⟨t,rfl⟩:=rx;exact SeqAt.EqAt.bool_str a b t
  |_=>exact absurd (show false=true from fx) Bool.false_ne_true
 |int a=>
  obtain⟨t',rfl⟩:=ry
  cases x with
  |non=>cases rx;exact SeqAt.EqAt.int_none a t'
  |bl b=>cases rx;exact SeqAt.EqAt.int_bool a t' b
  |int b=>obtain⟨t,rfl⟩:=rx;exact SeqAt.EqAt.int_int a t' b t
  |str b=>obtain⟨t,rfl⟩:=rx;exact SeqAt.EqAt.int_str a t' b t
  |_=>exact absurd (show false=true from fx) Bool.false_ne_true
 |str a=>
  obtain⟨t',rfl⟩:=ry
  cases x with
  |non=>cases rx;exact SeqAt.EqAt.str_none a t'
  |bl b=>cases rx;exact SeqAt.EqAt.str_bool a t' b
  |int b=>obtain⟨t,rfl⟩:=rx;exact SeqAt.EqAt.str_int a t' b t
  |str b=>obtain⟨t,rfl⟩:=rx;exact SeqAt.EqAt.str_str a t' b t
  |_=>exact absurd (show false=true from fx) Bool.false_ne_true
 |_=>exact absurd (show false=true from fy) Bool.false_ne_true
noncomputable def eR (x:V) (u:Value):Bool:=match u with
 | .none=>gQ .non x
 | .bool b=>gQ (.bl b) x
 | .int i _=>gQ (.int i) x
 | .str z _=>gQ (.str z) x
 |_=>false
theorem a7w{x y:V}{u:Value}(r:aY y u)(f:iL y=true):eR x u=gQ y x:=by
 cases y with
 |non=>cases r;rfl
 |bl b=>cases r;rfl
 |int i=>obtain⟨t,rfl⟩:=r;rfl
 |str z=>obtain⟨t,rfl⟩:=r;rfl
 |_=>exact absurd (show false=true from f) Bool.false_ne_true
theorem qA{x:V}:∀{xs:List V} {us:List Value},aV xs us->xs.all iL=true->us.any (eR x)=xs.any fun y=>gQ y x
 |_,_,.nil,_=>rfl
 |y::xs,u::us,.cons r t,f=>by
  rw[List.all_cons,Bool.and_eq_true]at f
  rw[List.any_cons,List.any_cons,a7w r f.1,qA t f.2]
theorem oQ{A:Around}{s:Shared}{x:V}{v:Value}(rx:aY x v)(fx:iL x=true):∀{xs:List V} {us:List Value},aV xs us->xs.all iL=true->∀u∈us,SeqAt.EqAt A s u v (eR x u)
 |_,_,.nil,_=>fun u hu=>by cases hu
 |y::xs,u::us,.cons r t,f=>fun u' hu=>by
  rw[List.all_cons,Bool.and_eq_true]at f
  rcases List.mem_cons.mp hu with rfl|hu
  ·rw[a7w r f.1];exact a9u r rx f.1 fx
  ·exact oQ rx fx t f.2 u' hu
noncomputable def dL (x:V) (xs:List V):Bool:=xs.any fun y=>gQ y x
noncomputable def tF (K:Fg) (neg:Bool):R2:=fun x y H Q=>∃p xs,y= .ref p/\(aI K H p xs\/ bU K H p xs)/\iL x=true/\xs.all iL=true/\Q (.bl (if neg then !dL x xs else dL x xs)) H
theorem pF:cJ X (compareOp .In) (tF X.K false):=by
 intro pins s σ H x y v u Q I rx ry h
 obtain⟨p,xs,rfl,hq,fx,fs,q⟩:=h
 cases ry
 rcases hq with hq|hq
 ·obtain⟨its,r,pl,hz⟩:=I.list hq
  refine SeqAt.in_listAt (eR x) pl.isList (fun w hw=>oQ rx fx r fs w (by simpa using hw)) ⟨.bl _,H,I,rfl,?_⟩
  rw[show its.toArray.any (eR x)=its.any (eR x)by simp,qA r fs]
  exact q
 ·obtain⟨its,r,pl,hz⟩:=I.tuple hq
  refine SeqAt.in_tupleAt (eR x) pl (fun w hw=>oQ rx fx r fs w (by simpa using hw)) ⟨.bl _,H,I,rfl,?_⟩
  rw[show its.toArray.any (eR x)=its.any (eR x)by simp,qA r fs]
  exact q
theorem a4y:cJ X (compareOp .NotIn) (tF X.K true):=by
 intro pins s σ H x y v u Q I rx ry h
 obtain⟨p,xs,rfl,hq,fx,fs,q⟩:=h
 cases ry
 rcases hq with hq|hq
 ·obtain⟨its,r,pl,hz⟩:=I.list hq
  refine SeqAt.notIn_listAt (eR x) pl.isList (fun w hw=>oQ rx fx r fs w (by simpa using hw)) ⟨.bl _,H,I,rfl,?_⟩
  rw[show its.toArray.any (eR x)=its.any (eR x)by simp,qA r fs]
  exact q
 ·obtain⟨its,r,pl,hz⟩:=I.tuple hq
  refine SeqAt.notIn_tupleAt (eR x) pl (fun w hw=>oQ rx fx r fs w (by simpa using hw)) ⟨.bl _,H,I,rfl,?_⟩
  rw[show its.toArray.any (eR x)=its.any (eR x)by simp,qA r fs]
  exact q
theorem yG:gC X (.type "list") (fun xs H Q=>∃p ys,xs= [.ref p] /\(aI X.K H p ys\/ bU X.K H p ys)/\∀l,H l=none->Q (.ref l) (upd H l (.lst ys))):=by
 intro pins s σ H xs us Q I r h
 obtain⟨p,ys,rfl,hq,q⟩:=h
 obtain⟨u,rfl,rx⟩:=lX r
 cases rx
 have fin:∀(its:List Value),aV ys its->ys.length<=sizeLine->∀(h':Heap) (c':Nat),(∀b o',s.heap.get? b=some o'->h'.get? b=some o')->
  h'.get? s.heap.objs.size=some {cls:=.type "list",dict:=none,data:=.seq its.toArray c',slots:= #[]} ->EP X pins σ Q (.ref s.heap.objs.size) {s with heap:=h'}:=fun its r' hz h' c' kp e=>
  ⟨.ref s.heap.objs.size,_,I.laid (t':=s.toks) kp (Nat.le_refl _) (show cG X.prog X.w _ h' _ (.lst ys) from⟨hz,its,c',r',e⟩),rfl,q _ (I.hok.fresh (Nat.le_refl _))⟩
 rcases hq with hq|hq
 ·obtain⟨its,r',pl,hz⟩:=I.list hq
  have hlen:=r'.length
  obtain⟨o,ho,hc,n,hd⟩:=pl.isList
  exact call_list_seq p (.inl rfl) ho hc hd (fun h' c' kp e=>fin its r' hz h' c' kp e) (by simp only[List.size_toArray]<;>omega)
 ·obtain⟨its,r',pl,hz⟩:=I.tuple hq
  have hlen:=r'.length
  obtain⟨o,ho,hc,n,hd⟩:=pl
  exact call_list_seq p (.inr rfl) ho hc hd (fun h' c' kp e=>fin its r' hz h' c' kp e) (by simp only[List.size_toArray]<;>omega)
def tyV(K:Fg)(T:String)(x:V)(H:Hp):Prop:=match x with
 | .str _=>T= "str"
 | .int _=>T= "int"
 | .ref p=>(T= "list" /\∃xs,aI K H p xs)\/ (T= "tuple" /\∃o,K.lookup p=some o/\o.cls= .type "tuple" /\o.dict=none)\/
  (T= "dict" /\((∃kvs,H p=some (.dK kvs))\/ ∃kvs,H p=some (.dT kvs)))\/ (T= "set" /\∃S n,H p=some (.set S n))
 |_=>False
theorem a80{pins:List (Addr×Obj)}{σ:St}{H:Hp}{s:Shared}{T:String}{x:V}{v:Value}(I:Inv X pins σ H s)(r:aY x v)(ty:tyV X.K T x H):
 s.TypeIs v T/\∀a,v= .ref a->∃ob,s.heap.get? a=some ob/\ob.dict=none:=by
 cases x with
 |str z=>
  obtain⟨t,rfl⟩:=r
  cases (show T= "str" from ty)
  exact⟨typeIs_str s z t,fun _ e=>nomatch e⟩
 |int i=>
  obtain⟨t,rfl⟩:=r
  cases (show T= "int" from ty)
  exact⟨typeIs_int s i t,fun _ e=>nomatch e⟩
 |ref p=>
  cases r
  rcases ty with⟨rfl,xs,hq⟩|⟨rfl,o,hk,hc,hd⟩|⟨rfl,hk⟩|⟨rfl,S,n,hk⟩
  ·obtain⟨its,_,pl,_⟩:=I.list hq
   refine⟨pl.isList.typeIs,fun a e=> ?_⟩
   cases e
   obtain⟨o,n,e,c,hd,_⟩:=pl
   exact⟨o,e,hd⟩
  ·refine⟨⟨o,I.kIn p o hk,hc⟩,fun a e=> ?_⟩
   cases e
   exact⟨o,I.kIn _ o hk,hd⟩
  ·have z:∃o,s.heap.get? p=some o/\o.ExactDict:=by
    rcases hk with⟨kvs,hk⟩|⟨kvs,hk⟩
    ·obtain⟨_,_,_,_,o,_,_,e,ex,_⟩:=I.hok p _ hk
     exact⟨o,e,ex⟩
    ·obtain⟨_,_,_,_,o,_,_,e,ex,_⟩:=I.hok p _ hk
     exact⟨o,e,ex⟩
   obtain⟨o,e,ex⟩:=z
   refine⟨⟨o,e,ex.1⟩,fun a e2=> ?_⟩
   cases e2
   exact⟨o,e,ex.2.1⟩
  ·obtain⟨o,_,_,_,e,ex,_⟩:=I.hok p _ hk
   refine⟨⟨o,e,ex.1⟩,fun a e2=> ?_⟩
   cases e2
   exact⟨o,e,ex.2.1⟩
 |_=>exact False.elim ty
def tBM0(K:Fg)(T:String)(r:V->List V->Hp->VK->Prop)(to:TE):TE:=fun σ H Q=>to σ H fun x H1=>tyV K T x H1/\r x [] H1 Q
def tBM(K:Fg)(T:String)(r:V->List V->Hp->VK->Prop)(to:TE)(t:TA):TE:=fun σ H Q=>to σ H fun x H1=>tyV K T x H1/\t σ H1 fun xs H2=>r x xs H2 Q
variable{o e:Expr}{es:List Expr}{to:TE}{t:TA}{name:Str}{apos cpos:Pos}{T id:String}{r:V->List V->Hp->VK->Prop}
theorem b0q(pa:PlainAttrs T)(slot:Slot T name id)(hty:typeOf (.builtin id)=pure (.type "method_descriptor"))(hm:MtR X id r)(ho:PE X o to)
 (hbase:attributeBase o name X.env (eval o X.env)=eval o X.env:=by rfl)(hline:(apos.endLine==cpos.line)=true:=by rfl):PE X (.Call (.Attribute o name apos) [] [] cpos) (tBM0 X.K T r to):=by
 intro pins s σ H Q I h
 refine wpAny_Call_method0_late hbase hline (aO (ho pins s σ H _ I h) fun v s1 ⟨x,H1,I1,r1,ty,q1⟩=> ?_)
 obtain⟨h1,h2⟩:=a80 I1 r1 ty
 exact⟨T,id,pa,slot,hty,h1,h2,Calls.callWith_builtin rfl (PySem.evalArgs_none (hm pins s1 σ H1 x [] v [] Q I1 r1 .nil q1))⟩
theorem iT(pa:PlainAttrs T)(slot:Slot T name id)(hty:typeOf (.builtin id)=pure (.type "method_descriptor"))(hm:MtR X id r)(ho:PE X o to)(ha:PA X (e::es) t)
 (hbase:attributeBase o name X.env (eval o X.env)=eval o X.env:=by rfl)
 (hfew:((backTo cpos (starEach (e::es) X.env)).all (fun x=> !x.1)&&(backToKw cpos (keywordEach [] X.env)).all (fun x=>x.1.isSome)
  &&decide ((e::es).length+ ([]:List Keyword).length+ (if([]:List Keyword).isEmpty then 0 else 1)<30))=true:=by rfl)
 (hline:(apos.endLine==cpos.line)=true:=by rfl)(hs:starEach (e::es) X.env=(false,eval e X.env)::starEach es X.env:=by rfl)(hplain:(backTo cpos (starEach es X.env)).any (·.1)=false:=by rfl):
 PE X (.Call (.Attribute o name apos) (e::es) [] cpos) (tBM X.K T r to t):=by
 intro pins s σ H Q I h
 refine wpAny_Call_method_late hbase hfew hline rfl (aO (ho pins s σ H _ I h) fun v s1 ⟨x,H1,I1,r1,ty,q1⟩=> ?_)
 obtain⟨h1,h2⟩:=a80 I1 r1 ty
 refine⟨T,id,pa,slot,hty,h1,h2,?_⟩
 have hA:=ha cpos pins s1 σ H1 _ I1 q1
 rw[hs]at hA|-
 refine Calls.callWith_builtin (by show(false||(backTo cpos (starEach es X.env)).any (·.1))=false;rw[hplain]<;>rfl) (Calls.evalArgs_plain ?_)
 exact aO hA fun us s2 ⟨vs,H2,I2,r2,q2⟩=>hm pins s2 σ H2 x vs v us Q I2 r1 r2 q2
end
def yU(X:Cx)(id:String)(r:V->List V->Hp->VK->Prop):Prop:=
 ∀(pins:List (Addr×Obj)) (s:Shared) (σ:St) (H:Hp) (x:V) (xs:List V) (v:Value) (us:List Value) (Q:VK),Inv X pins σ H s->aY x v->aV xs us->r x xs H Q->
  wpAny (model X.prog X.w) X.A (call (.builtin id) (v::us)) (EP X pins σ Q) X.xe s
theorem aV.one:∀{x:V} {us:List Value},aV [x] us->∃u,us= [u] /\aY x u
 |_,_,.cons r .nil=>⟨_,rfl,r⟩
theorem aV.two:∀{x y:V} {us:List Value},aV [x,y] us->∃u v,us= [u,v] /\aY x u/\aY y v
 |_,_,_,.cons r (.cons q .nil)=>⟨_,_,rfl,r,q⟩
theorem aV.zero:∀{us:List Value},aV [] us->us= []
 |_,.nil=>rfl
theorem aV.dropLast{xs:List V}{us:List Value}(h:aV xs us):aV xs.dropLast us.dropLast:=by
 induction h with
 |nil=>exact .nil
 |cons r t ih=>
  cases t with
  |nil=>exact .nil
  |cons q t'=>exact .cons r ih
theorem a9p{α:Type}(l:List α):l.eraseIdx (l.length- 1)=l.dropLast:=by
 induction l with
 |nil=>rfl
 |cons a r ih=>
  cases r with
  |nil=>rfl
  |cons b r=>
   have e:(a::b::r).length- 1=((b::r).length- 1)+ 1:=by
    have h1:(a::b::r).length=r.length+ 2:=rfl
    have h2:(b::r).length=r.length+ 1:=rfl
    omega
   rw[e,List.eraseIdx_cons_succ,ih]
   all_goals rfl
section
variable{X:Cx}{pins:List (Addr×Obj)}{σ:St}{H:Hp}{s:Shared}{l b:Addr}{xs ys zs:List V}
theorem Inv.lset{its its':List Value}{n:Nat}{f:Array Value->Array Value}{t':Nat}(I:Inv X pins σ H s)(hH:H l=some (.lst xs))
 (e:s.heap.get? l=some {cls:=.type "list",data:=.seq its.toArray n})(hf:f its.toArray=its'.toArray)(hv:aV ys its')(hz:ys.length<=sizeLine):
 Inv X pins σ (upd H l (.lst ys)) {s with heap:=s.heap.update l (Obj.mapSeq f),toks:=t'}:=by
 have q:=PySem.IsL.update e f
 rw[hf]at q
 refine I.write (x:=l) (e:=l) (by rw[hH];exact trivial) (.inl rfl) (fun b' u hb hu=>(Heap.get?_update_other s.heap (Obj.mapSeq f) (Ne.symm hb)).trans hu) ⟨_,q⟩ ?_
 exact⟨hz,its',_,hv,q⟩
theorem Inv.lnew{its:List Value}{t':Nat}(I:Inv X pins σ H s)(hv:aV ys its)(hz:ys.length<=sizeLine):
 Inv X pins σ (upd H s.heap.objs.size (.lst ys)) {s with heap:=s.heap.push {cls:=.type "list",data:=.seq its.toArray},toks:=t'}:=
 I.laid (fun _ _ q=>Heap.get?_push_of_some _ q) (Nat.le_refl _) ⟨hz,its,0,hv,Heap.get?_push_size _ rfl⟩
theorem Inv.fresh(I:Inv X pins σ H s):H s.heap.objs.size=none:=I.hok.fresh (Nat.le_refl _)
theorem Inv.lstM(I:Inv X pins σ H s)(hH:H l=some (.lst xs)):xs.length<=sizeLine/\∃(its:List Value) (n:Nat),aV xs its/\xs.length=its.length/\s.heap.get? l=some {cls:=.type "list",data:=.seq its.toArray n}:=by
 obtain⟨z,its,n,r,e⟩:=I.hok l _ hH
 exact⟨z,its,n,r,r.length,e⟩
theorem b0o{n:Nat}(h:n<=sizeLine):Builtin.List.listTooLong n=false:=by
 unfold Builtin.List.listTooLong
 exact decide_eq_false (by omega)
end
section
variable{X:Cx}
def b0d:V->List V->Hp->VK->Prop:=fun x vs H Q=>∃l xs y,x= .ref l/\vs= [y] /\H l=some (.lst xs)/\xs.length<sizeLine/\Q .non (upd H l (.lst (xs++ [y])))
theorem iN:yU X "list.append" b0d:=by
 intro pins s σ H x vs v us Q I rx rv h
 obtain⟨l,xs,y,rfl,rfl,hH,hz,q⟩:=h
 cases rx
 obtain⟨u,rfl,ru⟩:=rv.one
 obtain⟨z,its,n,r,hl,e⟩:=I.lstM hH
 refine call_meets F.slot_list_append ⟨_,e,rfl⟩ F.entry_list_append (F.args_list_append_2 _ _) (PySem.list_append l its.toArray n u (by rw[List.size_toArray];omega)) ⟨e,?_⟩
 refine⟨.non,_,I.lset (its':=its++ [u]) hH e (by simp) (r.append (.cons ru .nil)) ?_,rfl,q⟩
 rw[List.length_append,List.length_singleton]
 omega
def b0J:V->List V->Hp->VK->Prop:=fun x vs H Q=>∃l b xs zs,x= .ref l/\vs= [.ref b] /\H l=some (.lst xs)/\H b=some (.lst zs)/\xs.length+ zs.length<=sizeLine/\Q .non (upd H l (.lst (xs++ zs)))
theorem mt_extend:yU X "list.extend" b0J:=by
 intro pins s σ H x vs v us Q I rx rv h
 obtain⟨l,b,xs,zs,rfl,rfl,hH,hB,hz,q⟩:=h
 cases rx
 obtain⟨u,rfl,ru⟩:=rv.one
 cases ru
 obtain⟨z,its,n,r,hl,e⟩:=I.lstM hH
 obtain⟨z2,its2,n2,r2,hl2,e2⟩:=I.lstM hB
 have hsz:its.toArray.size+ its2.toArray.size<=sizeLine:=by rw[List.size_toArray,List.size_toArray];omega
 have hlong:¬(!its.toArray.isEmpty&&Builtin.List.listTooLong (its.toArray.size+ its2.toArray.size))=true:=by
  rw[b0o hsz,Bool.and_false]
  exact Bool.false_ne_true
 refine call_meets F.slot_list_extend ⟨_,e,rfl⟩ F.entry_list_extend (F.args_list_extend_2 _ _)
  (AutoSeq1.list_extend_list_list_0 l its.toArray n b its2.toArray n2 hlong (by rw[List.size_toArray];omega) (by omega)) ⟨e,e2,?_⟩
 refine⟨.non,_,I.lset (its':=its++ its2) hH e (by simp) (r.append r2) ?_,rfl,q⟩
 rw[List.length_append]
 omega
def rPop:V->List V->Hp->VK->Prop:=fun x vs H Q=>∃l xs y,x= .ref l/\vs= [] /\H l=some (.lst xs)/\xs[xs.length- 1]?=some y/\Q y (upd H l (.lst xs.dropLast))
theorem a9n:yU X "list.pop" rPop:=by
 intro pins s σ H x vs v us Q I rx rv h
 obtain⟨l,xs,y,rfl,rfl,hH,hy,q⟩:=h
 cases rx
 have hus:=rv.zero
 subst hus
 obtain⟨z,its,n,r,hl,e⟩:=I.lstM hH
 obtain⟨u,hu,ru⟩:=r.get hy
 have hy':its.toArray[its.toArray.size- 1]?=some u:=by
  show its.toArray[its.length- 1]?=some u
  rw[<- Array.getElem?_toList,<- hl]
  exact hu
 refine call_meets F.slot_list_pop ⟨_,e,rfl⟩ F.entry_list_pop (F.args_list_pop_1 _) (MeetsSeq.list_pop_last l its.toArray n u hy' (by rw[List.size_toArray];omega)) ⟨e,?_⟩
 refine⟨y,_,I.lset (its':=its.dropLast) hH e ?_ r.dropLast ?_,ru,q⟩
 ·show its.toArray.eraseIdxIfInBounds (its.toArray.size- 1)=its.dropLast.toArray
  rw[List.size_toArray,List.eraseIdxIfInBounds_toArray,a9p]
 ·rw[List.length_dropLast]
  omega
noncomputable def rCat:R2:=fun x y H Q=>∃l b xs zs,x= .ref l/\y= .ref b/\H l=some (.lst xs)/\H b=some (.lst zs)/\xs.length+ zs.length<=sizeLine/\∀p,H p=none->Q (.ref p) (upd H p (.lst (xs++ zs)))
theorem sY:cJ X (binaryOp .Add) rCat:=by
 intro pins s σ H x y v u Q I rx ry h
 obtain⟨l,b,xs,zs,rfl,rfl,hH,hB,hz,q⟩:=h
 cases rx
 cases ry
 obtain⟨z,its,n,r,hl,e⟩:=I.lstM hH
 obtain⟨z2,its2,n2,r2,hl2,e2⟩:=I.lstM hB
 refine PySem.P.add_list e e2 ?_ (by rw[List.size_toArray,List.size_toArray];omega)
 have ea:its.toArray++ its2.toArray=(its++ its2).toArray:=by simp
 rw[ea]
 exact⟨.ref _,_,I.lnew (t':=s.toks) (r.append r2) (by rw[List.length_append];omega),rfl,q _ I.fresh⟩
end
section
variable{κ:Type} [DecidableEq κ]
def aZ(kvs:List (κ×V))(k:κ):Option V:=(kvs.find? fun kv=>decide (kv.1=k)).map (·.2)
noncomputable def bJ (kvs:List (κ×V)) (k:κ) (v:V):List (κ×V):=
 if(kvs.any fun kv=>decide (kv.1=k))=true then kvs.map (fun kv=>if kv.1=k then(kv.1,v) else kv) else kvs++ [(k,v)]
theorem gP{p:κ×V}{r:List (κ×V)}{k:κ}(e:p.1=k):aZ (p::r) k=some p.2:=by simp[aZ,List.find?_cons,e]
theorem gF{p:κ×V}{r:List (κ×V)}{k:κ}(e:¬p.1=k):aZ (p::r) k=aZ r k:=by simp[aZ,List.find?_cons,e]
theorem kA(k:κ):∀kvs:List (κ×V),(kvs.any fun kv=>decide (kv.1=k))=(aZ kvs k).isSome
 | []=>rfl
 |p::r=>by
  rw[List.any_cons]
  by_cases e:p.1=k
  ·simp only[gP e,decide_eq_true e,Bool.true_or,Option.isSome_some]
  ·rw[gF e,decide_eq_false e,Bool.false_or];exact kA k r
theorem a7W(k j:κ)(y:V):∀kvs:List (κ×V),aZ (kvs.map fun kv=>if kv.1=k then(kv.1,y) else kv) j=(aZ kvs j).map fun x=>if j=k then y else x
 | []=>rfl
 |p::r=>by
  have ih:=a7W k j y r
  rw[List.map_cons]
  by_cases h:p.1=k
  ·rw[if_pos h]
   by_cases e:p.1=j
   ·rw[gP (p:=(p.1,y)) e,gP e,Option.map_some,if_pos (e.symm.trans h)]
   ·rw[gF (p:=(p.1,y)) e,gF e,ih]
  ·rw[if_neg h]
   by_cases e:p.1=j
   ·rw[gP (p:=p) e,gP e,Option.map_some,if_neg (fun z=>h (e.trans z))]
   ·rw[gF (p:=p) e,gF e,ih]
theorem a79(k j:κ)(y:V):∀kvs:List (κ×V),aZ kvs k=none->aZ (kvs++ [(k,y)]) j=if j=k then some y else aZ kvs j
 | [],_=>by
  by_cases e:k=j
  ·rw[if_pos e.symm];exact gP (p:=(k,y)) e
  ·rw[if_neg (fun z=>e z.symm)];exact gF (p:=(k,y)) e
 |p::r,hn=>by
  rw[List.cons_append]
  have hk:¬p.1=k:=fun z=>by rw[gP z]at hn;cases hn
  rw[gF hk]at hn
  have ih:=a79 k j y r hn
  by_cases e:p.1=j
  ·rw[gP e,gP e,if_neg (fun z=>hk (e.trans z))]
  ·rw[gF e,gF e,ih]
theorem lS(kvs:List (κ×V))(k j:κ)(y:V):aZ (bJ kvs k y) j=if j=k then some y else aZ kvs j:=by
 unfold bJ
 by_cases a:(kvs.any fun kv=>decide (kv.1=k))=true
 ·rw[if_pos a,a7W]
  rw[kA]at a
  by_cases e:j=k
  ·obtain⟨x,hx⟩:=Option.isSome_iff_exists.mp a
   rw[if_pos e,e,hx,Option.map_some,if_pos rfl]
  ·rw[if_neg e]
   cases aZ kvs j with
   |none=>rfl
   |some x=>rw[Option.map_some,if_neg e]
 ·rw[if_neg a]
  refine a79 k j y kvs ?_
  rw[kA]at a
  cases q:aZ kvs k with
  |none=>rfl
  |some x=>rw[q]at a;exact(a rfl).elim
theorem oK(kvs:List (κ×V))(k:κ)(v:V):(bJ kvs k v).length<=kvs.length+ 1:=by
 unfold bJ
 split
 ·rw[List.length_map];omega
 ·rw[List.length_append,List.length_cons,List.length_nil];omega
theorem a71{kvs:List (κ×V)}{k:κ}(v:V)(h:aZ kvs k=none):bJ kvs k v=kvs++ [(k,v)]:=by
 unfold bJ
 rw[kA,h]
 exact if_neg (by decide)
theorem eN.isSome_eq{o:Option V}{u:Option Value}(r:eN o u):o.isSome=u.isSome:=by
 cases o with
 |none=>cases u with
  |none=>rfl
  |some _=>exact(show False from r).elim
 |some _=>cases u with
  |none=>exact(show False from r).elim
  |some _=>rfl
theorem KV.val{kvs:List (κ×V)}{vs:List (κ×Value)}(r:KV kvs vs)(k:κ):eN (aZ kvs k) (valueAt vs k):=by
 unfold KV at r
 induction r with
 |nil=>exact True.intro
 | @cons p q ps qs h t ih=>
  obtain⟨h1,h2⟩:=h
  by_cases e:p.1=k
  ·have e':q.1=k:=h1.symm.trans e
   have b:valueAt (q::qs) k=some q.2:=by simp[valueAt,List.find?_cons,e']
   rw[gP e,b];exact h2
  ·have e':¬q.1=k:=fun z=>e (h1.trans z)
   have b:valueAt (q::qs) k=valueAt qs k:=by simp[valueAt,List.find?_cons,e']
   rw[gF e,b];exact ih
theorem KV.any{kvs:List (κ×V)}{vs:List (κ×Value)}(r:KV kvs vs)(k:κ):(kvs.any fun kv=>decide (kv.1=k))=vs.any fun kv=>decide (kv.1=k):=by
 unfold KV at r
 induction r with
 |nil=>rfl
 |cons h t ih=>rw[List.any_cons,List.any_cons,ih,h.1]
theorem KV.repl{kvs:List (κ×V)}{vs:List (κ×Value)}(r:KV kvs vs)(k:κ){y:V}{u:Value}(ry:aY y u):
 KV (kvs.map fun kv=>if kv.1=k then(kv.1,y) else kv) (vs.map fun kv=>if kv.1=k then(kv.1,u) else kv):=by
 unfold KV at r|-
 induction r with
 |nil=>exact .nil
 | @cons p q ps qs h t ih=>
  rw[List.map_cons,List.map_cons]
  refine .cons ?_ ih
  obtain⟨h1,h2⟩:=h
  by_cases e:p.1=k
  ·rw[if_pos e,if_pos (h1.symm.trans e)];exact⟨h1,ry⟩
  ·rw[if_neg e,if_neg (fun z=>e (h1.trans z))];exact⟨h1,h2⟩
theorem KV.put{kvs:List (κ×V)}{vs:List (κ×Value)}(r:KV kvs vs)(k:κ){y:V}{u:Value}(ry:aY y u):KV (bJ kvs k y) (stored vs k u):=by
 unfold bJ stored
 rw[r.any k]
 by_cases e:(vs.any fun kv=>decide (kv.1=k))=true
 ·rw[if_pos e,if_pos e];exact r.repl k ry
 ·rw[if_neg e,if_neg e];exact Paired.snoc r ⟨rfl,ry⟩
theorem KV.length{kvs:List (κ×V)}{vs:List (κ×Value)}(r:KV kvs vs):kvs.length=vs.length:=Paired.length r
end
theorem sL{P:Program}{w:World}{k:aG}{u:Value}(r:aY (kV k) u):(fF P w).is k u=true:=by
 cases k with
 |inl i=>obtain⟨t,e⟩:=(show∃t,u=Value.int i t from r);subst e;exact b0h P w i t
 |inr x=>obtain⟨t,e⟩:=(show∃t,u=Value.str x t from r);subst e;exact a9t P w x t
theorem a85{P:Program}{w:World}:∀{ks:List aG} {us:List Value},aV (ks.map kV) us->ItemsAre (fF P w) ks us
 | [],_,r=>by rw[List.map_nil]at r;cases r;exact .nil
 |k::ks,_,r=>by
  rw[List.map_cons]at r
  cases r with
  |cons h t=>exact .cons (sL h) (a85 t)
abbrev KT(H:Hp):List (List aG×V)->List (List aG×Addr×Value)->Prop:=Paired fun p q=>p.1=q.1/\H q.2.1=some (.tup (p.1.map kV))/\aY p.2 q.2.2
theorem KT.val{H:Hp}{kvs:List (List aG×V)}{xs:List (List aG×Addr×Value)}(r:KT H kvs xs)(k:List aG):eN (aZ kvs k) ((atKey xs k).map (·.2)):=by
 induction r with
 |nil=>exact True.intro
 | @cons p q ps qs h t ih=>
  obtain⟨h1,_,h2⟩:=h
  by_cases e:p.1=k
  ·have e':q.1=k:=h1.symm.trans e
   have b:atKey (q::qs) k=some q.2:=by simp[atKey,List.find?_cons,e']
   rw[gP e,b];exact h2
  ·have e':¬q.1=k:=fun z=>e (h1.trans z)
   have b:atKey (q::qs) k=atKey qs k:=by simp[atKey,List.find?_cons,e']
   rw[gF e,b];exact ih
theorem KT.repl{H:Hp}{kvs:List (List aG×V)}{xs:List (List aG×Addr×Value)}(r:KT H kvs xs)(k:List aG){y:V}{u:Value}(ry:aY y u):
 KT H (kvs.map fun kv=>if kv.1=k then(kv.1,y) else kv) (xs.map (putAt k u)):=by
 induction r with
 |nil=>exact .nil
 | @cons p q ps qs h t ih=>
  rw[List.map_cons,List.map_cons]
  refine .cons ?_ ih
  obtain⟨h1,h2,h3⟩:=h
  unfold putAt
  by_cases e:p.1=k
  ·rw[if_pos e,if_pos (h1.symm.trans e)];exact⟨h1,h2,ry⟩
  ·rw[if_neg e,if_neg (fun z=>e (h1.trans z))];exact⟨h1,h2,h3⟩
theorem KT.put{H:Hp}{kvs:List (List aG×V)}{xs:List (List aG×Addr×Value)}(r:KT H kvs xs)(k:List aG){b:Addr}{y:V}{u:Value}(hb:H b=some (.tup (k.map kV)))(ry:aY y u):
 KT H (bJ kvs k y) (storedH xs k b u):=by
 have e:(kvs.any fun kv=>decide (kv.1=k))=(atKey xs k).isSome:=by
  rw[kA,(r.val k).isSome_eq,Option.isSome_map]
 unfold bJ storedH
 rw[e]
 by_cases q:(atKey xs k).isSome=true
 ·rw[if_pos q,if_pos q];exact r.repl k ry
 ·rw[if_neg q,if_neg q];exact Paired.snoc r ⟨rfl,hb,ry⟩
theorem KT.keeps{H H':Hp}{kvs:List (List aG×V)}{xs:List (List aG×Addr×Value)}(r:KT H kvs xs)(ht:∀b ys,H b=some (.tup ys)->H' b=some (.tup ys)):KT H' kvs xs:=
 Paired.mapP r fun _ _ z=>⟨z.1,ht _ _ z.2.1,z.2.2⟩
section
variable{P:Program}{w:World}{H:Hp}{h:Heap}{a:Addr}
theorem a8u{u:HO}(ok:cA P w H h)(e:Rd H a u):cG P w H h a u:=e.ok ok
theorem mS{kvs:List (aG×V)}(ok:cA P w H h)(e:Rd H a (.dK kvs)):kvs.length<=sizeLine/\(a==sysModules)=false/\∃vs,KV kvs vs/\h.DictOf (fF P w) a vs:=
 show cG P w H h a (.dK kvs) from a8u ok e
theorem b14{kvs:List (aG×V)}(ok:cA P w H h)(e:H a=some (.dK kvs)):kvs.length<=sizeLine/\(a==sysModules)=false/\∃vs,KV kvs vs/\h.DictOf (fF P w) a vs:=mS ok (.inl e)
theorem rB{ks:List aG}(ok:cA P w H h)(e:H a=some (.tup (ks.map kV))):(tupleKind (fF P w)).is h ks a:=by
 obtain⟨_,its,r,o,h1,h2,n,h3⟩:=(show cG P w H h a (.tup (ks.map kV)) from ok a _ e)
 exact⟨o,its.toArray,n,h1,h2,h3,by simpa using a85 r⟩
theorem qG{kvs:List (List aG×V)}(ok:cA P w H h)(e:Rd H a (.dT kvs)):kvs.length<=sizeLine/\(a==sysModules)=false/\
 ∃xs,KT H kvs xs/\h.DictOfH (tupleKind (fF P w)) a xs:=by
 obtain⟨z,y,xs,r,o,es,ep,h1,h2,h3,h4,h5⟩:=(show cG P w H h a (.dT kvs) from a8u ok e)
 refine⟨z,y,xs,r,o,es,ep,h1,h2,h3,h4,fun x hx=> ?_,h5⟩
 have all:∀{l:List (List aG×V)} {m:List (List aG×Addr×Value)},KT H l m->∀x∈m,(tupleKind (fF P w)).is h x.1 x.2.1:=by
  intro l m q
  induction q with
  |nil=>intro x hx;exact nomatch hx
  | @cons p q ps qs hq t ih=>
   intro x hx
   rcases List.mem_cons.mp hx with e|hx
   ·subst e
    exact rB ok (by rw[<- hq.1];exact hq.2.1)
   ·exact ih x hx
 exact all r x hx
theorem b2E{kvs:List (List aG×V)}(ok:cA P w H h)(e:H a=some (.dT kvs)):kvs.length<=sizeLine/\(a==sysModules)=false/\
 ∃xs,KT H kvs xs/\h.DictOfH (tupleKind (fF P w)) a xs:=qG ok (.inl e)
end
def cR(H:Hp)(a:Addr)(y:V)(r:Option V):Prop:=
 (∃kvs k,Rd H a (.dK kvs)/\y=kV k/\r=aZ kvs k)\/ ∃kvs k b,Rd H a (.dT kvs)/\y= .ref b/\H b=some (.tup (k.map kV))/\r=aZ kvs k
def kB(H:Hp)(a:Addr)(y v:V)(H':Hp):Prop:=
 (∃kvs k,H a=some (.dK kvs)/\y=kV k/\kvs.length<sizeLine/\H'=upd H a (.dK (bJ kvs k v)))\/
 ∃kvs k b,H a=some (.dT kvs)/\y= .ref b/\H b=some (.tup (k.map kV))/\kvs.length<sizeLine/\H'=upd H a (.dT (bJ kvs k v))
theorem cR.k{H:Hp}{a:Addr}{kvs:List (aG×V)}{k:aG}(e:H a=some (.dK kvs)):cR H a (kV k) (aZ kvs k):=.inl ⟨kvs,k,.inl e,rfl,rfl⟩
theorem kB.k{H:Hp}{a:Addr}{kvs:List (aG×V)}{k:aG}{v:V}(e:H a=some (.dK kvs))(hl:kvs.length<sizeLine):kB H a (kV k) v (upd H a (.dK (bJ kvs k v))):=.inl ⟨kvs,k,e,rfl,hl,rfl⟩
section
variable{X:Cx}{pins:List (Addr×Obj)}{σ:St}{H:Hp}{s:Shared}{a:Addr}{y v:V}{u r:Value}{o:Option V}{A:Around}{E:Value->Shared->Prop}
theorem Inv.big(I:Inv X pins σ H s):sysModules<s.heap.objs.size:=by
 have h:mainGlobals<s.heap.objs.size:=(I.mod.glob.keeps I.bk).lt
 exact Nat.lt_trans (by decide) h
theorem b1j{Q:Value->Shared->Prop}(hu:A.units+ 1<cLine)(I:Inv X pins σ H s)(g:cR H a y (some v))(ry:aY y u)(h:∀w' s',Inv X pins σ H s'->aY v w'->Q w' s'):
 wpAny (model X.prog X.w) A (getItem (.ref a) u) Q E s:=by
 rcases g with⟨kvs,k,e,ey,l⟩|⟨kvs,k,b,e,ey,eb,l⟩
 ·subst ey
  obtain⟨z,hd,vs,rel,dd⟩:=mS I.hok e
  obtain⟨w',hw,rw'⟩:=eN.some_of (v:=v) (o:=valueAt vs k) (by rw[l];exact rel.val k)
  exact wpAny_getItem_of (sL ry) dd.mapOf hw (h w' _ (I.tok _) rw')
 ·subst ey
  cases (show u=Value.ref b from ry)
  obtain⟨z,hd,xs,rel,dd⟩:=qG I.hok e
  obtain⟨w',hw,rw'⟩:=eN.some_of (v:=v) (o:=(atKey xs k).map (·.2)) (by rw[l];exact rel.val k)
  obtain⟨p,hp,hp2⟩:=Option.map_eq_some_iff.mp hw
  refine wpAny_getItem_heap (tupleKind_room_in1 hu) (rB I.hok eb) dd hp ?_
  rw[hp2]
  exact h w' _ (I.tok _) rw'
theorem d_in{Q:Value->Shared->Prop}(hu:A.units+ 1<cLine)(I:Inv X pins σ H s)(g:cR H a y o)(ry:aY y u)(h:∀s',Inv X pins σ H s'->Q (.bool o.isSome) s'):
 wpAny (model X.prog X.w) A (compareOp .In u (.ref a)) Q E s:=by
 rcases g with⟨kvs,k,e,ey,l⟩|⟨kvs,k,b,e,ey,eb,l⟩
 ·subst ey
  obtain⟨z,hd,vs,rel,dd⟩:=mS I.hok e
  refine wpAny_in_of (sL ry) hd dd.mapOf ?_
  rw[<- (rel.val k).isSome_eq,<- l]
  exact h _ (I.tok _)
 ·subst ey
  cases (show u=Value.ref b from ry)
  obtain⟨z,hd,xs,rel,dd⟩:=qG I.hok e
  refine wpAny_in_heap (tupleKind_room_in1 hu) (rB I.hok eb) hd dd ?_
  have q:=(rel.val k).isSome_eq
  rw[Option.isSome_map]at q
  rw[<- q,<- l]
  exact h _ (I.tok _)
theorem b0R{Q:Value->Shared->Prop}(hu:A.units+ 1<cLine)(I:Inv X pins σ H s)(g:cR H a y o)(ry:aY y u)(h:∀s',Inv X pins σ H s'->Q (.bool (!o.isSome)) s'):
 wpAny (model X.prog X.w) A (compareOp .NotIn u (.ref a)) Q E s:=by
 rcases g with⟨kvs,k,e,ey,l⟩|⟨kvs,k,b,e,ey,eb,l⟩
 ·subst ey
  obtain⟨z,hd,vs,rel,dd⟩:=mS I.hok e
  refine wpAny_notIn_of (sL ry) hd dd.mapOf ?_
  rw[<- (rel.val k).isSome_eq,<- l]
  exact h _ (I.tok _)
 ·subst ey
  cases (show u=Value.ref b from ry)
  obtain⟨z,hd,xs,rel,dd⟩:=qG I.hok e
  refine wpAny_notIn_heap (tupleKind_room_in1 hu) (rB I.hok eb) hd dd ?_
  have q:=(rel.val k).isSome_eq
  rw[Option.isSome_map]at q
  rw[<- q,<- l]
  exact h _ (I.tok _)
theorem a7s{h':Heap}{t':Nat}{ob:HO}(I:Inv X pins σ H s)(mu:pQ (H a))(hs:Heap.SameBut a s.heap h')(he:∃q,h'.get? a=some q)(new:cG X.prog X.w (upd H a ob) h' a ob):
 Inv X pins σ (upd H a ob) {s with heap:=h',toks:=t'}:=
 I.write (x:=a) (e:=a) mu (.inl rfl) (fun b q hb z=>(hs.2 b hb).trans z) he new
theorem b04{P:Program}{w:World}{H':Hp}{h':Heap}{kvs:List (aG×V)}{vs:List (aG×Value)}(z:kvs.length<=sizeLine)(hd:(a==sysModules)=false)(rel:KV kvs vs)(dd:h'.DictOf (fF P w) a vs):
 cG P w H' h' a (.dK kvs):=⟨z,hd,vs,rel,dd⟩
theorem a9N{H':Hp}{Q:Unit->Shared->Prop}(hu:A.units+ 1<cLine)(I:Inv X pins σ H s)(g:kB H a y v H')(ry:aY y u)(rv:aY v r)(h:∀s',Inv X pins σ H' s'->Q () s'):
 wpAny (model X.prog X.w) A (setItem (.ref a) u r) Q E s:=by
 rcases g with⟨kvs,k,e,ey,l,eH⟩|⟨kvs,k,b,e,ey,eb,l,eH⟩
 ·subst ey eH
  obtain⟨z,hd,vs,rel,dd⟩:=b14 I.hok e
  have hz:vs.length<=sizeLine:=by rw[<- rel.length];exact z
  have hl:(bJ kvs k v).length<=sizeLine:=by have:=oK kvs k v;omega
  refine wpAny_setItem_pairs (hsz:=hz) (sL ry) dd fun h' dd' hs=>h _ ?_
  have he:∃q,h'.get? a=some q:=let ⟨q,_,_,hq,_⟩:=dd';⟨q,hq⟩
  exact a7s I (by rw[e];exact True.intro) hs he (b04 hl hd (rel.put k rv) dd')
 ·subst ey eH
  cases (show u=Value.ref b from ry)
  obtain⟨z,hd,xs,rel,dd⟩:=b2E I.hok e
  have hz:xs.length<=sizeLine:=by rw[<- Paired.length rel];exact z
  have hl:(bJ kvs k v).length<=sizeLine:=by have:=oK kvs k v;omega
  refine wpAny_setItem_heap (hsz:=hz) (tupleKind_room_in1 hu) (rB I.hok eb) dd fun h' dd' hs=>h _ ?_
  obtain⟨q,es,ep,hq,h2,h3,h4,_,h5⟩:=dd'
  refine a7s I (by rw[e];exact True.intro) hs ⟨q,hq⟩ ⟨hl,hd,_,(rel.put k eb rv).keeps fun c ys ec=> ?_,q,es,ep,hq,h2,h3,h4,h5⟩
  rw[aF (a9Z ec e (fun z=>nomatch z))]
  exact ec
end
section
variable{X:Cx}{pins:List (Addr×Obj)}{σ:St}{H:Hp}{s:Shared}{a:Addr}{kvs:List (aG×V)}{k:aG}{u:Value}{A:Around}{E:Value->Shared->Prop}
theorem b03{Q:Value->Shared->Prop}(I:Inv X pins σ H s)(e:Rd H a (.dK kvs))(h:∀t s',Inv X pins σ H s'->Q (.int kvs.length t) s'):wpAny (model X.prog X.w) A (call (.builtin "len") [.ref a]) Q E s:=by
 obtain⟨z,hd,vs,rel,dd⟩:=mS I.hok e
 refine call_len_dict hd dd (by rw[<- rel.length];rw[sizeLine_eq]at z;omega) ?_
 rw[<- rel.length]
 exact h _ _ (I.tok _)
end
def NoSl(i:Expr):Prop:=∀ov iv,subscripted i false ov iv=operate [ov,iv] (getItem ov iv)
theorem a9l{prog:Program}{w:World}{A:Around}{E:Value->Shared->Prop}{s:Shared}{env:Env}{value slice:Expr}{pos:Pos}{T id:String}{Q:Value->Shared->Prop}
 (hl:typeLookup (.type T) "__getitem__"=pure (some (.builtin id)))(hs:NoSl slice)
 (h:wpAny (model prog w) A (eval value env) (fun o s₁=>wpAny (model prog w) A (eval slice env) (fun i s₂=>s₂.TypeIs o T/\wpAny (model prog w) A (getItem o i) Q E s₂) E s₁) E s):
 wpAny (model prog w) A (eval (.Subscript value slice pos) env) Q E s:=by
 refine Subscript_ (wpAny_mono h (fun o s₁ h₁=>wpAny_mono h₁ (fun i s₂ h₂=> ?_) fun _ _ x=>x) fun _ _ x=>x)
 obtain⟨hT,h₂⟩:=h₂
 unfold subscriptTail
 refine wpAny_bind ?_
 rw[getitemInPython_of_ne hT.not_modules]
 refine wpAny_bind (wpAny_specialOf hT hl ?_)
 have fin:wpAny (model prog w) A (subscripted slice false o i) (fun r s₃=>wpAny (model prog w) A (letTemporaryGo value o r>>=fun _=>pure r) Q E s₃) E s₂:=by
  rw[hs o i]
  exact wpAny_operating (wpAny_mono h₂ (fun r s₃ h₃=>wpAny_bind (wpAny_letTemporaryGo (wpAny_pure h₃))) fun _ _ x=>x)
 first
  |exact wpAny_pure (wpAny_bind fin)
  |exact wpAny_bind (wpAny_pure (wpAny_bind fin))
  |exact wpAny_bind fin
theorem b0w{X:Cx}{pins:List (Addr×Obj)}{σ:St}{H:Hp}{s:Shared}{a:Addr}{y:V}{o:Option V}(I:Inv X pins σ H s)(g:cR H a y o):s.TypeIs (.ref a) "dict":=by
 rcases g with⟨kvs,k,e,_,_⟩|⟨kvs,k,b,e,_,_,_⟩
 ·obtain⟨_,_,vs,_,dd⟩:=mS I.hok e
  exact dd.typeIs
 ·obtain⟨_,_,xs,_,dd⟩:=qG I.hok e
  exact dd.typeIs
def a8l(td ty:TE):TE:=fun σ H Q=>td σ H fun x H1=>ty σ H1 fun y H2=>∃a v,x= .ref a/\cR H2 a y (some v)/\Q v H2
def tDIn(ty td:TE):TE:=fun σ H Q=>ty σ H fun y H1=>td σ H1 fun x H2=>∃a o,x= .ref a/\cR H2 a y o/\Q (.bl o.isSome) H2
def b1g(ty td:TE):TE:=fun σ H Q=>ty σ H fun y H1=>td σ H1 fun x H2=>∃a o,x= .ref a/\cR H2 a y o/\Q (.bl (!o.isSome)) H2
def b3B(td ty tv:TE):TS:=fun D σ H=>tv σ H fun v H1=>td σ H1 fun x H2=>ty σ H2 fun y H3=>∃a H4,x= .ref a/\kB H3 a y v H4/\D.nx σ H4
section
variable{X:Cx}{o i e value:Expr}{pos pos' tpos:Pos}{td ty tv:TE}
theorem jQ(hu:X.A.units+ 1<cLine)(ho:PE X o td)(hi:PE X i ty)(hs:NoSl i):PE X (.Subscript o i pos) (a8l td ty):=by
 intro pins s σ H Q I h
 refine a9l PySem.F.slot_dict_getitem.lookup hs (aO (ho pins s σ H _ I h) fun u s1 ⟨x,H1,I1,rx,q1⟩=>aO (hi pins s1 σ H1 _ I1 q1) fun iv s2 ⟨y,H2,I2,ry,a,v,ex,g,q2⟩=> ?_)
 subst ex
 obtain rfl:u=Value.ref a:=rx
 exact⟨b0w I2 g,b1j hu I2 g ry fun w' s3 I3 rw'=>⟨v,H2,I3,rw',q2⟩⟩
theorem uW(hu:X.A.units+ 1<cLine)(hi:PE X i ty)(ho:PE X o td):PC X .In i o (tDIn ty td):=by
 intro pins s σ H Q I h
 refine aO (hi pins s σ H _ I h) fun iv s1 ⟨y,H1,I1,ry,q1⟩=>aO (ho pins s1 σ H1 _ I1 q1) fun u s2 ⟨x,H2,I2,rx,a,ov,ex,g,q2⟩=> ?_
 subst ex
 obtain rfl:u=Value.ref a:=rx
 exact d_in hu I2 g ry fun s3 I3=>⟨.bl ov.isSome,H2,I3,rfl,q2⟩
theorem qK(hu:X.A.units+ 1<cLine)(hi:PE X i ty)(ho:PE X o td):PC X .NotIn i o (b1g ty td):=by
 intro pins s σ H Q I h
 refine aO (hi pins s σ H _ I h) fun iv s1 ⟨y,H1,I1,ry,q1⟩=>aO (ho pins s1 σ H1 _ I1 q1) fun u s2 ⟨x,H2,I2,rx,a,ov,ex,g,q2⟩=> ?_
 subst ex
 obtain rfl:u=Value.ref a:=rx
 exact b0R hu I2 g ry fun s3 I3=>⟨.bl (!ov.isSome),H2,I3,rfl,q2⟩
theorem uN(hu:X.A.units+ 1<cLine)(ho:PE X o td)(hi:PE X i ty)(hv:PE X value tv)(hs:swapsWith value (some (.Subscript o i pos')) pos.line X.env=pure false):
 PS X (.Assign [.Subscript o i pos'] value pos) (b3B td ty tv):=by
 intro pins s σ H D I h
 refine wpAny_Assign_Subscript (aO (hv pins s σ H _ I h) fun r s1 ⟨v,H1,I1,rv,q1⟩=>aO (ho pins s1 σ H1 _ I1 q1) fun u s2 ⟨x,H2,I2,rx,q2⟩=>aO (hi pins s2 σ H2 _ I2 q2) fun iv s3 ⟨y,H3,I3,ry,a,H4,ex,g,q3⟩=> ?_) hs
 subst ex
 obtain rfl:u=Value.ref a:=rx
 exact a9N hu I3 g ry rv fun s4 I4=>⟨σ,H4,I4,q3⟩
end
theorem b0W{P:Program}{w:World}{H:Hp}(h:Heap)(hb:sysModules<h.objs.size):cG P w H (h.push {cls:=.type "dict",data:=.dict #[]}) h.objs.size (.dK []):=
 ⟨Nat.zero_le _,beq_eq_false_iff_ne.mpr (Ne.symm (Nat.ne_of_lt hb)),[],.nil,Heap.DictOf.new h⟩
theorem b1f{P:Program}{w:World}{H:Hp}(h:Heap)(hb:sysModules<h.objs.size):cG P w H (h.push {cls:=.type "dict",data:=.dict #[]}) h.objs.size (.dT []):=
 ⟨Nat.zero_le _,beq_eq_false_iff_ne.mpr (Ne.symm (Nat.ne_of_lt hb)),[],.nil,_,#[],0,Heap.get?_push_size _ rfl,⟨rfl,rfl,rfl⟩,rfl,rfl,List.nodup_nil⟩
def a90:TE:=fun _ H Q=>∀p,H p=none->Q (.ref p) (upd H p (.dK []))
def b1O:TE:=fun _ H Q=>∀p,H p=none->Q (.ref p) (upd H p (.dT []))
section
variable{X:Cx}{pos:Pos}
theorem oV:PE X (.Dict [] [] pos) a90:=fun pins s σ H Q I h=>
 wpAny_Dict_empty ⟨.ref s.heap.objs.size,_,I.laid (a:=s.heap.objs.size) (o:=.dK []) (t':=s.toks) (fun _ _ q=>Heap.get?_push_of_some _ q) (Nat.le_refl _) (b0W s.heap I.big),rfl,h _ (I.hok.fresh (Nat.le_refl _))⟩
theorem zP:PE X (.Dict [] [] pos) b1O:=fun pins s σ H Q I h=>
 wpAny_Dict_empty ⟨.ref s.heap.objs.size,_,I.laid (a:=s.heap.objs.size) (o:=.dT []) (t':=s.toks) (fun _ _ q=>Heap.get?_push_of_some _ q) (Nat.le_refl _) (b1f s.heap I.big),rfl,h _ (I.hok.fresh (Nat.le_refl _))⟩
end
def a8Y:List (TE×TE)->St->Hp->(List (V×V)->Hp->Prop)->Prop
 | [],_,H,Q=>Q [] H
 |(tk,tv)::r,σ,H,Q=>tk σ H fun x H1=>tv σ H1 fun y H2=>a8Y r σ H2 fun ps H3=>Q ((x,y)::ps) H3
abbrev VV:List (V×V)->List (Value×Value)->Prop:=Paired fun p q=>aY p.1 q.1/\aY p.2 q.2
def PPs(X:Cx)(pos:Pos)(keys:List (Option Expr))(values:List Expr)(trs:List (TE×TE)):Prop:=
 ∀(pins:List (Addr×Obj)) (s:Shared) (σ:St) (H:Hp) (Q:List (V×V)->Hp->Prop),Inv X pins σ H s->a8Y trs σ H Q->
  wpAny (model X.prog X.w) X.A (evalPairs (pairTrees keys values X.env pos)) (fun vs s'=>∃ps H',Inv X pins σ H' s'/\VV ps vs/\Q ps H') X.xe s
structure M1(X:Cx)(o:Expr)(m:Str)(apos:Pos)(e:Expr)(cpos:Pos):Prop where
 base:attributeBase o m X.env (eval o X.env)=eval o X.env
 few:((backTo cpos (starEach [e] X.env)).all (fun x=> !x.1)&&(backToKw cpos (keywordEach [] X.env)).all (fun x=>x.1.isSome)
  &&decide (([e]:List Expr).length+ ([]:List Keyword).length+ (if([]:List Keyword).isEmpty then 0 else 1)<30))=true
 line:(apos.endLine==cpos.line)=true
 trees:backTo cpos (starEach [e] X.env)= [(false,eval e X.env)]
structure M2(X:Cx)(o:Expr)(m:Str)(apos:Pos)(e f:Expr)(cpos:Pos):Prop where
 base:attributeBase o m X.env (eval o X.env)=eval o X.env
 few:((backTo cpos (starEach [e,f] X.env)).all (fun x=> !x.1)&&(backToKw cpos (keywordEach [] X.env)).all (fun x=>x.1.isSome)
  &&decide (([e,f]:List Expr).length+ ([]:List Keyword).length+ (if([]:List Keyword).isEmpty then 0 else 1)<30))=true
 line:(apos.endLine==cpos.line)=true
 trees:backTo cpos (starEach [e,f] X.env)= [(false,eval e X.env),(false,eval f X.env)]
end L2
namespace Att
open PySem PySem.W PySem.Calls PyProof.Rows
theorem a9C{P:Params}{h:Heap}:∀(ns:List Int) (vs:List Value),WellAll P h vs (ns.map WData.int)->IntsAre vs ns:=by
 intro ns
 induction ns with
 |nil=>
  intro vs w
  rw[List.map_nil]at w
  cases w
  exact .nil
 |cons n ns ih=>
  intro vs w
  rw[List.map_cons]at w
  cases w with
  |cons a b=>
   cases a
   exact .cons _ _ (ih _ b)
theorem b2h{l:OpenLaw}{n:Nat}(hn:l.most=some n){P:Params}{h:Heap}{args:List WData}{vals:List Value}
 (hpre:l.row.toRowW.claim.pre args=true)(hwl:WellAll P h vals args):
 ∃a vs ns,vals= [Value.ref a] /\args= [WData.list (ns.map WData.int)] /\h.get? a=some {cls:=.type "list",data:=.seq vs.toArray} /\IntsAre vs ns/\ns.length<=n:=by
 have hsh:WShape.hasAll [] args [.list .int]=true:=(pre_splitW hpre).1
 have hc:l.pre.holds [] {args:=args}=true:=(pre_splitW hpre).2
 obtain⟨d,r,rfl,h1,h2⟩:=hasAllW_cons hsh
 obtain rfl:=hasAllW_nil h2
 obtain⟨xs,rfl,h3⟩:=hasW_list h1
 obtain⟨ns,rfl⟩:=items_int h3
 have hlen:ns.length<=n:=by
  unfold OpenLaw.pre at hc
  have h4:(WTm.not (.lt (.lit (.int (n:Int))) (.len (.arg 0)))).holds [] {args:=[.list (ns.map .int)]}=true:=by
   have h4:=(holds_andW hc).1
   rw[hn]at h4
   exact h4
  have h5:=condW_of h4 (w_not (w_lt w_lit (w_len_list (w_arg rfl))))
  rw[List.length_map]at h5
  refine Nat.le_of_not_lt fun q=> ?_
  have q':(n:Int)<((ns.length:Nat):Int):=by omega
  first
   |(rw[decide_eq_true q']at h5;exact absurd h5 (by decide))
   |(simp at h5;omega)
 cases hwl with
 |cons w1 w2=>
  cases w2
  cases w1 with
  |list ho hall=>exact⟨_,_,ns,rfl,rfl,ho,a9C ns _ hall,hlen⟩
theorem b0V(l:OpenLaw)(args:List WData):l.row.toRowW.claim.post args (.bool true) args=true:=
 postW_of (r:=l.row.toRowW) (X:=(true==true))
  (show WShape.has [] (.bool true) .bool=true by first|rfl|decide|simp[WShape.has,WShape.arms,WShape.armsAll])
  (show(WTm.eq .res (.lit (.bool true))).value [] {args:=args,res:=some (.bool true),after:=args}=some (.bool (true==true)) from w_eq_bool (w_res rfl) w_lit) rfl
theorem attach_call{l:OpenLaw}{n:Nat}{q:Program}{loose:List Str}{XP:(Str->Option Value)->Heap->Prop}{YP:World->Heap->Prop}{d:DefRec}
 (hn:l.most=some n)(hdf:d.params.defaults= [])
 (call:∀(w:World) (s₀ s₁:Shared) (mg mb:Str->Option Value) (fa:Addr) (o:Obj) (pm cd doc:Value) (a:Addr) (vs:List Value) (ns:List Int),
  Ground q loose [] XP w s₀ mg mb s₁.heap->YP w s₁.heap->
  s₁.heap.get? fa=some o->o.data= .func (docDef d.name d.params d.body d.scope pm cd doc)->s₁.heap.CodeRec cd d.name->mg d.name=some (.ref fa)->
  s₁.heap.get? a=some {cls:=.type "list",data:=.seq vs.toArray} ->IntsAre vs ns->ns.length<=n->s₁.gens= #[] ->
  codeAny (model l.prog w) callerA (.call (.ref fa) ⟨[.ref a],[]⟩) (fun r s'=>r= .ok (.ret (.bool true))/\OldK s₁.heap s'.heap/\s'.os=s₁.os/\AllBare s'.gens) s₁):
 WalkO q loose XP YP l.row.toRowW d [] (fun f vs=>PySem.call f vs):=by
 intro w s₀ s₁ mg mb G Y fa o pm cd doc dV kV ho hd hcd hD hmg hg args vals as hpre hlay hrd hwl hlo
 obtain rfl:dV= .none:=Dflts.none hD hdf
 obtain rfl:kV= .none:=Dflts.noKw hD
 obtain⟨a,vs,ns,rfl,rfl,hobj,hints,hlen⟩:=b2h hn hpre hwl
 refine enter_call (codeAny_mono (call w s₀ s₁ mg mb fa o pm cd doc a vs ns G Y ho (fd_plain hd) hcd hmg hobj hints hlen hg) fun r s' hq=> ?_)
 obtain⟨rfl,h2,h3,h4⟩:=hq
 exact⟨.inl ⟨.bool true,.bool true,[],rfl,fun _=>rfl,.bool true,b0V l _,fun _=>⟨List.Pairwise.nil,fun _ hm=>(nomatch hm)⟩⟩,h2,h3,h4⟩
section
variable{prog:Program}{w:World}{A:Around}{E:Value->Shared->Prop}{s:Shared}{K:Frag}
noncomputable def ledger(h:Heap)(L d:Addr):List (Addr×Obj):=(List.range h.objs.size).filterMap fun a=>if a=L\/ a=d then none else(h.get? a).map fun o=>(a,o)
end
end Att
namespace L2
open PySem PySem.Spec PyProof.Rows
theorem a8M:∀{vs:List Value} {ns:List Int},IntsAre vs ns->aV (ns.map V.int) vs
 |_,_,.nil=> .nil
 |_,_,.cons n t h=> .cons ⟨t,rfl⟩ (a8M h)
def yR(H:Hp):Prop:=∀b,H b=none\/ ∃o xs,H b=some (.frz o (.lst xs))
theorem b3x{P:Program}{w:World}{K:Fg}{mg mb:Str->Option Value}{CX:cU}{k:Nat}{fa a:Addr}{fd:FuncData}{x:Str}{sp:Sp}{s₁:Shared}{vs:List Value}{ns:List Int}
 (KX:K.In s₁.heap)(hns:s₁.heap.Ns mainGlobals mg)(hb:s₁.heap.Ns builtinsNs mb)(hbb:∀x:Str,x≠ "__name__" ->mb x=bootBuiltins x)(hlim:s₁.heap.NoLimit)(hg:s₁.gens= #[])
 (ha:s₁.heap.get? a=some {cls:=.type "list",data:=.seq vs.toArray})(hi:IntsAre vs ns)(hl:ns.length<=sizeLine)(hr:bO k callerA)
 (F:∀base:Heap,K.In base->base.Ns mainGlobals mg->dN P w K mg base CX k fa fd [x] sp)(hbind:∀(s:Shared) (u:Value),BindsTo s fd ⟨[u],[]⟩ [(x,u)])
 (hsp:∀H:Hp,yR H->aI K H a (ns.map V.int)->sp [.ref a] H (fun v _=>v= .bl true) fun _ _ _=>False)
 (hCX:∀H e s',CX [] H s₁ (fun _ _ _=>False) e s'->False):
 codeAny (model P w) callerA (.call (.ref fa) ⟨[.ref a],[]⟩) (fun r s'=>r= .ok (.ret (.bool true))/\OldK s₁.heap s'.heap/\s'.os=s₁.os/\AllBare s'.gens) s₁:=by
 have rv:=a8M hi
 have lenV:=hi.length
 have core:∀H:Hp,yR H->aI K H a (ns.map V.int)->cA P w H s₁.heap->(∀b,H b≠none->b=a)->(H a≠none->K.lookup a=none)->
  codeAny (model P w) callerA (.call (.ref fa) ⟨[.ref a],[]⟩) (fun r s'=>r= .ok (.ret (.bool true))/\OldK s₁.heap s'.heap/\s'.os=s₁.os/\AllBare s'.gens) s₁:=by
  intro H hO hS hok hA hK
  have base_of:∀{b:Addr} {o:Obj},s₁.heap.get? b=some o->H b=none->(iG s₁.heap H).get? b=some o:=fun e n=>a9Y e n
  have noA:∀{b:Addr} {o:Obj} {es:Array DictEntry} {ep:Nat},s₁.heap.get? b=some o->o.data= .dict es ep->H b=none:=fun{b o es ep} e d=>by
   cases q:H b with
   |none=>rfl
   |some u=>
    have e':b=a:=hA b (by rw[q];simp)
    subst e'
    rw[ha]at e;cases e
    have d':Data.seq vs.toArray _=Data.dict es ep:=d
    cases d'
  have nsK:∀{b:Addr} {m:Str->Option Value},s₁.heap.Ns b m->(iG s₁.heap H).Ns b m:=fun{b m} ⟨o,es,ep,e,d,r⟩=>⟨o,es,ep,base_of e (noA e d),d,r⟩
  have hKb:K.In (iG s₁.heap H):=fun b o e=>base_of (KX b o e) (by
   cases q:H b with
   |none=>rfl
   |some u=>
    have e':b=a:=hA b (by rw[q];simp)
    subst e'
    rw[hK (by rw[q];simp)]at e;cases e)
  have hM:Mod K mg (iG s₁.heap H):=⟨hKb,nsK hns,⟨mb,nsK hb,hbb⟩,let ⟨mc,h1,h2⟩:=hlim;⟨mc,nsK h1,h2⟩⟩
  have e0:hZ P w K mg (iG s₁.heap H) callerA [] s₁ H:=⟨rfl,hM,fun b o e=>b1Z e,Nat.le_of_eq (a96 _ _),trivial,fun b hb=>absurd (show b∈([]:List Addr) from hb) (by simp),hok,.of_eq hg⟩
  refine codeAny_mono ((F _ hKb (nsK hns)).run callerA [] s₁ H ⟨[.ref a],[]⟩ [.ref a] [.ref a] _ _ hr e0 (hbind s₁ (.ref a)) (.cons rfl .nil) (hsp H hO hS)) fun r s' h=> ?_
  cases r with
  |error e=>exact(hCX H e s' h).elim
  |ok fl=>
   cases fl with
   |next=>exact False.elim h
   |brk=>exact False.elim h
   |cont=>exact False.elim h
   |ret u=>
    obtain⟨v,H',os,bare,un,hok',r',q⟩:=h
    have q':v= .bl true:=q
    subst q'
    obtain rfl:u=Value.bool true:=r'
    refine⟨rfl,OldK.of_keep fun b o e=> ?_,os,bare⟩
    cases q:H b with
    |none=>exact un.keep b o e q (by intro z;exact absurd (show b∈([]:List Addr) from z) (by simp)) (by simp)
    |some u=>
     rcases hO b with z|⟨ob,xs,z⟩
     ·rw[q]at z;cases z
     ·have z2:=un.frzs b ob _ z
      obtain⟨e1,_⟩:=hok b _ z
      obtain⟨e2,_⟩:=hok' b _ z2
      rw[e]at e1;cases e1
      exact e2
 cases hk:K.lookup a with
 |some o=>
  have e:=KX a o hk
  rw[ha]at e
  cases e
  refine core (fun _=>none) (fun _=> .inl rfl) (.inr ⟨_,vs.toArray,_,hk,rfl,rfl,rfl,by rw[List.size_toArray,lenV];exact hl,by simpa using rv⟩) (fun b u z=>by have z':(none:Option HO)=some u:=z;cases z') (fun b z=>absurd rfl z) fun z=>absurd rfl z
 |none=>
  refine core (fun b=>if b=a then some (.frz {cls:=.type "list",data:=.seq vs.toArray} (.lst (ns.map V.int))) else none) (fun b=> ?_) (.inl (.inr ⟨{cls:=.type "list",data:=.seq vs.toArray},if_pos rfl⟩)) (fun b u z=> ?_) (fun b z=> ?_) fun _=>hk
  ·by_cases hb:b=a
   ·exact .inr ⟨_,_,if_pos hb⟩
   ·exact .inl (if_neg hb)
  ·by_cases hb:b=a
   ·have z':=(if_pos hb).symm.trans z
    cases z'
    subst hb
    exact⟨ha,by rw[List.length_map];exact hl,vs,_,rv,ha⟩
   ·have z':=(if_neg hb).symm.trans z
    cases z'
  ·by_cases hb:b=a
   ·exact hb
   ·exact absurd (if_neg hb) z
theorem b3J{l:PySem.W.OpenLaw}{n k:Nat}{q:Program}{loose:List Str}{XP:(Str->Option Value)->Heap->Prop}{YP:World->Heap->Prop}{d:DefRec}{K:Params->Fg}{CX:World->cU}{sp:World->Sp}{x:Str}
 (hn:l.most=some n)(hn2:n<=sizeLine)(hdf:d.params.defaults= [])(hr:bO k callerA)
 (hY:∀(w:World) (h:Heap),YP w h->(K w.params).In h)
 (F:∀(w:World) (mg:Str->Option Value) (fa:Addr) (h:Heap),(K w.params).In h->h.Ns mainGlobals mg->mg d.name=some (.ref fa)->
  ∃fd:FuncData,(∀(s:Shared) (u:Value),BindsTo s fd ⟨[u],[]⟩ [(x,u)])/\
   ∀base:Heap,(K w.params).In base->base.Ns mainGlobals mg->dN l.prog w (K w.params) mg base (CX w) k fa fd [x] (sp w))
 (hsp:∀(w:World) (H:Hp) (a:Addr) (ns:List Int),ns.length<=n->yR H->aI (K w.params) H a (ns.map V.int)->sp w [.ref a] H (fun v _=>v= .bl true) fun _ _ _=>False)
 (hCX:∀(w:World) (H:Hp) (s:Shared) (e:Value) (s':Shared),CX w [] H s (fun _ _ _=>False) e s'->False):
 PySem.W.WalkO q loose XP YP l.row.toRowW d [] (fun f vs=>PySem.call f vs):=by
 refine Att.attach_call hn hdf fun w s₀ s₁ mg mb fa o pm cd doc a vs ns G Y ho hd hcd hmg hobj hints hlen hg=> ?_
 have KX:=hY w _ Y
 obtain⟨fd,hb,hF⟩:=F w mg fa _ KX G.T.g hmg
 exact b3x KX G.T.g G.T.b G.T.builtins G.T.nolimit hg hobj hints (Nat.le_trans hlen hn2) hr hF hb (fun H hO hS=>hsp w H a ns hlen hO hS) fun H e s'=>hCX w H s₁ e s'
def aR(s:Stmt):Arguments:=match s with
 | .FunctionDef _ a _ _ _ _ _ _ _ _=>a
 |_=>{posonlyargs:=[],args:=[],vararg:=none,kwonlyargs:=[],kw_defaults:=[],kwarg:=none,defaults:=[]}
def aP(s:Stmt):List Stmt:=match s with
 | .FunctionDef _ _ b _ _ _ _ _ _ _=>b
 |_=> []
def aB(s:Stmt):Scope:=match s with
 | .FunctionDef _ _ _ _ _ _ sc _ _ _=>sc
 |_=>{kind:=.function,names:=[],isGenerator:=false,isCoroutine:=false}
abbrev aC:cU:=fun _ _ _ _ _ _=>False
abbrev E0:XK:=fun _ _ _=>False
theorem aM{X:Cx}:eY aC X E0:=fun _ _ _ _ _ _ _ h=>h.elim
structure gU(K:Fg)(x qual:Str)(st:Stmt)(f:Addr)(fd:FuncData):Prop where
 ex:∃(oc:Value) (od:Option Addr) (kV doc pm:Value) (an:Option Addr) (cdv ct:Value) (osl:Array (Option Value)),
  fd=PySem.W.fnOf x qual (aR st) (aP st) (aB st) .none kV doc pm an cdv ct/\K.lookup f=some ⟨oc,od,.func fd,osl⟩ /\PySem.W.codeIn K cdv qual=true
 kp:PySem.W.keepIn K (.ref f)=true
section
variable{P:Program}{w:World}{K:Fg}{mg:Str->Option Value}{base:Heap}
theorem gU.ok{x qual:Str}{st:Stmt}{f:Addr}{fd:FuncData}{N ps:List Str}{k:Nat}{sp:Sp}(F:gU K x qual st f fd)(S:aW N ps (aB st))(len:∀vs H Q E,sp vs H Q E->vs.length=ps.length)
 (hbody:∀(cdv:Value) (A:Around) (outer:List Env) (s:Shared) (H:Hp) (vs:List V) (Q:VK) (E:XK),bO k (A.deeper (envOfC qual (aB st) s.heap.objs.size f cdv))->sp vs H Q E->
  ∃t,dC (dI aC P w K mg base N qual (aB st) f cdv A outer s H E).nox (aP st) t/\t {nx:=fun _ H'=>Q .non H',rt:=Q} (gR N vs) H):dN P w K mg base aC (k+ 1) f fd ps sp:=by
 obtain⟨oc,od,kV,doc,pm,an,cdv,ct,osl,rfl,lk,hcd⟩:=F.ex
 refine b1D lk hcd S len fun A outer s H vs Q E hr hsp=> ?_
 obtain⟨t,h,q⟩:=hbody cdv A outer s H vs Q E hr hsp
 exact⟨t,h.nox,q⟩
theorem gU.binds{x qual:Str}{st:Stmt}{f:Addr}{fd:FuncData}{ps:List Str}(F:gU K x qual st f fd)
 (h:∀(kV doc pm:Value) (an:Option Addr) (cdv ct:Value) (us:List Value),us.length=ps.length->bindArgs (PySem.W.fnOf x qual (aR st) (aP st) (aB st) .none kV doc pm an cdv ct) ⟨us,[]⟩=pure (ps.zip us)):fR K fd ps []:=by
 obtain⟨oc,od,kV,doc,pm,an,cdv,ct,osl,rfl,lk,hcd⟩:=F.ex
 exact .all (h kV doc pm an cdv ct)
theorem a8d{x qual:Str}{st:Stmt}{f:Addr}{oc:Value}{od an:Option Addr}{osl:Array (Option Value)}{kV doc pm cdv ct:Value}(l:K.lookup f=some ⟨oc,od,.func (PySem.W.fnOf x qual (aR st) (aP st) (aB st) .none kV doc pm an cdv ct),osl⟩)
 (c:PySem.W.codeIn K cdv qual=true)(k:PySem.W.keepIn K (.ref f)=true):gU K x qual st f (PySem.W.fnOf x qual (aR st) (aP st) (aB st) .none kV doc pm an cdv ct):=⟨⟨oc,od,kV,doc,pm,an,cdv,ct,osl,rfl,l,c⟩,k⟩
end
theorem fJ{A:Around}{k:Nat}(hr:bO k A):A.units+ 1<cLine:=Nat.lt_of_le_of_lt (Nat.add_le_add_left (by decide:1<=64) _) hr.units
theorem cK{n:Nat}(h:n<=1000):n<sizeLine:=Nat.lt_of_le_of_lt h (by decide)
section
variable{X:Cx}
theorem pv(i:Nat){x:Str}{pos:Pos}(hN:X.N[i]?=some x:=by rfl)(hv:zE X.env.scope x:=by first|exact Or.inl rfl|exact Or.inr (Or.inl rfl)|exact Or.inr (Or.inr rfl))(hd:(x==("__debug__":Str))=false:=by decide)
 (hcd:(x==("__classdict__":Str))=false:=by decide):PE X (.Name x pos) (eS i):=b2o hN hv hd hcd
theorem a7p:gC X (.builtin "len") (fun xs H Q=>∃a kvs,xs= [V.ref a] /\H a=some (.dK kvs)/\Q (.int kvs.length) H):=by
 intro pins s σ H xs us Q I r h
 obtain⟨a,kvs,rfl,ha,q⟩:=h
 obtain⟨u,rfl,ru⟩:=lX r
 cases ru
 exact b03 I (.inl ha) fun t s' I'=>⟨.int kvs.length,H,I',⟨t,rfl⟩,q⟩
end
theorem bL{A B:Prop}(h:B):if false=true then A else B:=by
 rw[if_neg Bool.false_ne_true]
 exact h
theorem dY{A B:Prop}(h:A):if true=true then A else B:=by
 rw[if_pos rfl]
 exact h
theorem eV{c A B:Prop} [Decidable c](h1:c->A)(h2:¬c->B):if c then A else B:=by
 by_cases h:c
 ·rw[if_pos h]
  exact h1 h
 ·rw[if_neg h]
  exact h2 h
def aE(H H':Hp):Prop:=∀b o,H b=some o->H' b=some o
theorem aE.refl(H:Hp):aE H H:=fun _ _ h=>h
theorem aE.trans{H H1 H2:Hp}(a:aE H H1)(b:aE H1 H2):aE H H2:=fun c o h=>b c o (a c o h)
theorem aE.seq{K:Fg}{H H':Hp}{a:Addr}{xs:List V}(e:aE H H')(h:aI K H a xs):aI K H' a xs:=by
 rcases h with(h|⟨o,h⟩)|h
 ·exact .inl (.inl (e _ _ h))
 ·exact .inl (.inr ⟨o,e _ _ h⟩)
 ·exact .inr h
section
variable{κ:Type} [DecidableEq κ]
theorem a9W{kvs:List (κ×V)}{k:κ}(h:aZ kvs k=none):¬k∈kvs.map (·.1):=by
 intro m
 obtain⟨p,hp,e⟩:=List.mem_map.mp m
 have q:(kvs.any fun kv=>decide (kv.1=k))=true:=List.any_eq_true.mpr ⟨p,hp,decide_eq_true e⟩
 rw[kA,h]at q
 exact absurd q (by simp)
theorem a8O:∀{l:List κ} {k:κ},l.Nodup->¬k∈l->(l++ [k]).Nodup
 | [],k,_,_=>by simp
 |a::r,k,h,hk=>by
  obtain⟨h1,h2⟩:=List.nodup_cons.mp h
  show(a::(r++ [k])).Nodup
  refine List.nodup_cons.mpr ⟨fun m=> ?_,a8O h2 fun m=>hk (List.mem_cons.mpr (Or.inr m))⟩
  rcases List.mem_append.mp m with q|q
  ·exact h1 q
  ·exact hk (List.mem_cons.mpr (Or.inl (List.mem_singleton.mp q).symm))
theorem b1b{kvs:List (κ×V)}{k:κ}(v:V)(hn:(kvs.map (·.1)).Nodup)(h:aZ kvs k=none):((bJ kvs k v).map (·.1)).Nodup:=by
 rw[a71 v h,List.map_append]
 exact a8O hn (a9W h)
end
section
variable{X:Cx}{a b c:Expr}{ta tb tc:TE}{pos:Pos}
theorem rK{x:Str}{i:Int}(h:∃t,X.mg x=some (.int i t))(hg:Gl X x:=by rfl)(hd:(x==("__debug__":Str))=false:=by decide):PE X (.Name x pos) (tC (.int i)):=by
 obtain⟨t,h⟩:=h
 exact a8H hg h ⟨t,rfl⟩ hd
theorem b3G{x z:Str}(h:∃t,X.mg x=some (.str z t))(hg:Gl X x:=by rfl)(hd:(x==("__debug__":Str))=false:=by decide):PE X (.Name x pos) (tC (.str z)):=by
 obtain⟨t,h⟩:=h
 exact a8H hg h ⟨t,rfl⟩ hd
theorem iB{x:Str}{T:String}(hm:X.mg x=none)(hv:bootBuiltins x=some (.type T))(hg:Gl X x:=by rfl)(hn:x≠ "__name__":=by decide)(hd:(x==("__debug__":Str))=false:=by decide):PE X (.Name x pos) (tC (.ty T)):=b0g hg hm hv rfl hn hd
end
mutual
inductive Dt(K:Fg)(H:Hp):V->PyData->Prop where
 |non:Dt K H .non .none
 |bl (b:Bool):Dt K H (.bl b) (.bool b)
 |int (i:Int):Dt K H (.int i) (.int i)
 |str (x:Str):Dt K H (.str x) (.str x)
 |lst {a:Addr} {xs:List V} {ds:List PyData}:aI K H a xs->cP K H xs ds->Dt K H (.ref a) (.list ds)
 |tup {a:Addr} {xs:List V} {ds:List PyData}:bU K H a xs->cP K H xs ds->Dt K H (.ref a) (.tuple ds)
 |dK {a:Addr} {kvs:List (aG×V)}:H a=some (.dK kvs)->Dt K H (.ref a) (.dict [])
 |dT {a:Addr} {kvs:List (List aG×V)}:H a=some (.dT kvs)->Dt K H (.ref a) (.dict [])
inductive cP(K:Fg)(H:Hp):List V->List PyData->Prop where
 |nil:cP K H [] []
 |cons {v:V} {d:PyData} {vs:List V} {ds:List PyData}:Dt K H v d->cP K H vs ds->cP K H (v::vs) (d::ds)
end
section
variable{X:Cx}{pins:List (Addr×Obj)}{σ:St}{H H':Hp}{s:Shared}
mutual
theorem Dt.reads(I:Inv X pins σ H s):∀{v:V} {d:PyData} {u:Value},Dt X.K H v d->aY v u->d.canLay0=true->∃as,Reads s.heap u d as
 |_,_,_,.non,r,_=>by cases r;exact⟨_,.none⟩
 |_,_,_,.bl b,r,_=>by cases r;exact⟨_,.bool b⟩
 |_,_,_,.int i,r,_=>by obtain⟨t,rfl⟩:=r;exact⟨_,.int i t⟩
 |_,_,_,.str x,r,_=>by obtain⟨t,rfl⟩:=r;exact⟨_,.str x t⟩
 |_,_,_,.lst h hd,r,l=>by
  cases r
  obtain⟨its,rv,⟨o,n,e,hc,_,hs⟩,_⟩:=I.list h
  obtain⟨as,ra⟩:=cP.reads I hd rv (by rw[PyData.canLay0]at l;exact l)
  exact⟨_,.list e hc hs (by simpa using ra)⟩
 |_,_,_,.tup h hd,r,l=>by
  cases r
  obtain⟨its,rv,⟨o,e,hc,n,hs⟩,_⟩:=I.tuple h
  obtain⟨as,ra⟩:=cP.reads I hd rv (by rw[PyData.canLay0]at l;exact l)
  exact⟨_,.tuple e hc hs (by simpa using ra)⟩
 |_,_,_,.dK _,_,l=>by rw[PyData.canLay0]at l;cases l
 |_,_,_,.dT _,_,l=>by rw[PyData.canLay0]at l;cases l
theorem cP.reads(I:Inv X pins σ H s):∀{vs:List V} {ds:List PyData} {us:List Value},cP X.K H vs ds->aV vs us->PyData.canLayAll0 ds=true->∃as,ReadsAll s.heap us ds as
 |_,_,_,.nil,r,_=>by cases r;exact⟨_,.nil⟩
 |_,_,_,.cons h hd,r,l=>by
  rw[PyData.canLayAll0,Bool.and_eq_true]at l
  cases r with
  |cons r1 rr=>
   obtain⟨as,ra⟩:=Dt.reads I h r1 l.1
   obtain⟨bs,rb⟩:=cP.reads I hd rr l.2
   exact⟨_,.cons ra rb⟩
end
theorem aE.seqT{K:Fg}{a:Addr}{xs:List V}(e:aE H H')(h:bU K H a xs):bU K H' a xs:=by
 rcases h with(h|⟨o,h⟩)|h
 ·exact .inl (.inl (e _ _ h))
 ·exact .inl (.inr ⟨o,e _ _ h⟩)
 ·exact .inr h
mutual
theorem Dt.same{K:Fg}(e:aE H H'):∀{v:V} {d:PyData},Dt K H v d->Dt K H' v d
 |_,_,.non=> .non
 |_,_,.bl b=> .bl b
 |_,_,.int i=> .int i
 |_,_,.str x=> .str x
 |_,_,.lst h hd=> .lst (e.seq h) (cP.same e hd)
 |_,_,.tup h hd=> .tup (aE.seqT e h) (cP.same e hd)
 |_,_,.dK h=> .dK (e _ _ h)
 |_,_,.dT h=> .dT (e _ _ h)
theorem cP.same{K:Fg}(e:aE H H'):∀{vs:List V} {ds:List PyData},cP K H vs ds->cP K H' vs ds
 |_,_,.nil=> .nil
 |_,_,.cons h hd=> .cons (Dt.same e h) (cP.same e hd)
end
theorem cP.get{K:Fg}:∀{vs:List V} {ds:List PyData} {i:Nat} {v:V},cP K H vs ds->vs[i]?=some v->∃d,ds[i]?=some d/\Dt K H v d
 |_,_,_,_,.nil,e=>by simp at e
 |_,_,0,_,.cons h _,e=>by simp at e;subst e;exact⟨_,rfl,h⟩
 |_,_,i+ 1,v,.cons _ t,e=>by
  obtain⟨d,h1,h2⟩:=cP.get (i:=i) (v:=v) t (by simpa using e)
  exact⟨d,by simpa using h1,h2⟩
theorem cP.length{K:Fg}:∀{vs:List V} {ds:List PyData},cP K H vs ds->vs.length=ds.length
 |_,_,.nil=>rfl
 |_,_,.cons _ t=>by rw[List.length_cons,List.length_cons,cP.length t]
theorem op_eqD(hu:X.A.units+ 64<cLine):cJ X (compareOp .Eq) (fun x y H Q=>∃dx dy,Dt X.K H x dx/\Dt X.K H y dy/\dx.canLay0=true/\dy.canLay0=true/\dx.depth<=64/\Q (.bl (PyData.eqv dx dy)) H):=by
 intro pins s σ H x y v u Q I rx ry h
 obtain⟨dx,dy,hx,hy,lx,ly,hd,q⟩:=h
 obtain⟨as,ra⟩:=Dt.reads I hx rx lx
 obtain⟨bs,rb⟩:=Dt.reads I hy ry ly
 exact SeqAt.compareEq_reads ra rb lx ly (by have:=Nat.min_le_left dx.depth dy.depth;omega) ⟨.bl _,H,I,rfl,q⟩
theorem uL(hu:X.A.units+ 64<cLine):cJ X (compareOp .NotEq) (fun x y H Q=>∃dx dy,Dt X.K H x dx/\Dt X.K H y dy/\dx.canLay0=true/\dy.canLay0=true/\dx.depth<=64/\Q (.bl (!PyData.eqv dx dy)) H):=by
 intro pins s σ H x y v u Q I rx ry h
 obtain⟨dx,dy,hx,hy,lx,ly,hd,q⟩:=h
 obtain⟨as,ra⟩:=Dt.reads I hx rx lx
 obtain⟨bs,rb⟩:=Dt.reads I hy ry ly
 exact SeqAt.compareNe_reads ra rb lx ly (by have:=Nat.min_le_left dx.depth dy.depth;omega) ⟨.bl _,H,I,rfl,q⟩
end
noncomputable def vL (x:Str):It:=⟨fun i _=>i<x.cps.size,fun i H v H'=>H'=H/\∃c,x.cps[i]?=some c/\v= .str ⟨#[c]⟩,fun i _=>x.cps.size<=i⟩
theorem b3o{P:Program}{w:World}{K:Fg}{tg:Expr}(it:Addr)(x:Str)(t:Tok):∀ty:String,(ty= "str_ascii_iterator"\/ ty= "str_iterator")->sI P w K tg (vL x) [it] it (fun i h=>h.IsStrIter it ty x t i):=by
 intro ty hty
 refine⟨by simp,?_,?_,?_,?_,?_⟩
 ·intro i h st b hb
  have e:b=it:=by simpa using hb
  subst e
  obtain⟨o,e,c,d⟩:=st
  exact⟨o,e,fun v z=>by rw[d]at z;cases z⟩
 ·intro i h h' st k
  obtain⟨o,e,c,d⟩:=st
  exact⟨o,k it (by simp) o e,c,d⟩
 ·intro X hP hw hK hc i pins s σ H E I hf st hg
  subst hP hw hK
  obtain⟨f0,f1,f2,f3,f4,f5⟩:=hf it (by simp)
  have hi:i<x.cps.size:=hg
  have hx:x.cps[i]?=some x.cps[i]:=by simp[hi]
  have fin:∀h',h'.IsStrIter it ty x t (i+ 1)->Heap.SameBut it s.heap h'->∃u,some (Value.str ⟨#[x.cps[i]]⟩ s.toks)=some u/\
   wpAny (model X.prog X.w) X.A (letOwnedTupleGo tg (.ref it) u) (fun _ s2=>∃y H',Inv X pins σ H' s2/\aY y u/\(vL x).yld i H y H'/\s2.heap.IsStrIter it ty x t (i+ 1)/\∀b∈ [it],H' b=none) E {s with heap:=h',toks:=s.toks+ 1}:=by
   intro h' st' sb
   have I1:Inv X pins σ H {s with heap:=h',toks:=s.toks+ 1}:=I.turned (fun b o hb e=>(sb.2 b hb).trans e) f0 f1 f3 f4 f5
   obtain⟨o,e,c,d⟩:=id st'
   refine⟨_,rfl,xA (s:={s with heap:=h',toks:=s.toks+ 1}) e c d ?_ ⟨.str ⟨#[x.cps[i]]⟩,H,I1,⟨_,rfl⟩,⟨rfl,_,hx,rfl⟩,st',fun b hb=>(hf b hb).1⟩⟩
   rcases hty with rfl|rfl<;>decide
  rcases hty with rfl|rfl
  ·exact wpAny_pyNext_ascii_item st hx fin
  ·exact wpAny_pyNext_wide_item st hx fin
 ·intro X hP hw hK hc i pins s σ H E I hf st hg
  subst hP hw hK
  obtain⟨f0,f1,f2,f3,f4,f5⟩:=hf it (by simp)
  have hi:x.cps.size<=i:=hg
  have hx:x.cps[i]?=none:=by simp[hi]
  have fin:∀h',Heap.ExtBut it s.heap h'->(none:Option Value)=none/\Inv X pins σ H {s with heap:=h'}:=fun h' eb=>⟨rfl,I.turned (t':=s.toks) (fun b o hb e=>eb b o hb e) f0 f1 f3 f4 f5⟩
  rcases hty with rfl|rfl
  ·exact wpAny_pyNext_ascii_end (I.ok.hd hc) st hx fin
  ·exact wpAny_pyNext_wide_end (I.ok.hd hc) st hx fin
 ·intro A i s Q E st h
  rcases hty with rfl|rfl
  ·exact wpAny_pyIter_striter_ascii st h
  ·exact wpAny_pyIter_striter_wide st h
section
variable{X:Cx}{tg:Expr}
def iStr(tl:TE):TI:=fun σ H R=>tl σ H fun v H1=>∃x,v= .str x/\R (vL x) H1
theorem b2b{l:Expr}{tl:TE}(hl:PE X l tl):PI X tg l (iStr tl):=by
 intro pins s σ H R I h
 refine aO (hl pins s σ H _ I h) fun v s1 ⟨y,H1,I1,r1,q1⟩=> ?_
 obtain⟨x,e,q⟩:=q1
 subst e
 obtain⟨t,rfl⟩:=r1
 have fin:∀ty:String,(ty= "str_ascii_iterator"\/ ty= "str_iterator")->PIE X pins σ tg R (.ref s1.heap.objs.size) {s1 with heap:=s1.heap.push {cls:=.type ty,data:=.fields #[.str x t,.int 0 0]}}:=fun ty hty=>by
  refine⟨s1.heap.objs.size,[s1.heap.objs.size],_,_,H1,rfl,I1.kept (t':=s1.toks) fun b o e=>Heap.get?_push_of_some _ e,b3o _ x t ty hty,⟨_,Heap.get?_push_size _ rfl,rfl,rfl⟩,fun b hb=> ?_,q⟩
  have e:b=s1.heap.objs.size:=by simpa using hb
  subst e
  exact I1.fpOk (Nat.le_refl _) (I1.hok.fresh (Nat.le_refl _))
 cases ha:x.cps.all (·<128)
 ·exact wpAny_pyIter_wide ha (fin _ (.inr rfl))
 ·exact wpAny_pyIter_ascii ha (fin _ (.inl rfl))
end
section
variable{prog:Program}{w:World}{A:Around}{R:Result->Shared->Prop}{s:Shared}
theorem b0i{elt target iter:Expr}{ifs:List Expr}{scope:Scope}{pos:Pos}{it acc:Value}{env:Env}(I:Nat->Shared->Prop)
 (turn:∀n s,I n s->wpAny (model prog w) A (pyNext it) (fun r s₁=>match r with
  |none=>R (.ok .next) s₁
  |some v=>wpAny (model prog w) A (letOwnedTupleGo target it v) (fun _ s₁'=>wpAny (model prog w) A (assign target env v) (fun _ s₂=>
   wpAny (model prog w) A (forIn ifs true fun c r=>if r=true then do let ok<- isTrue c env (eval c env);pure (ForInStep.yield ok) else pure (ForInStep.yield r)) (fun ok s₃=>
    if ok=true then wpAny (model prog w) A (eval elt env) (fun x s₄=>
     wpAny (model prog w) A (call (.builtin "list.append") [acc,x]) (fun _ s₅=>∃m,m<n/\I m s₅) (fun _ _=>False) s₄) (fun _ _=>False) s₃
    else∃m,m<n/\I m s₃) (fun _ _=>False) s₂) (fun _ _=>False) s₁') (fun _ _=>False) s₁) (fun _ _=>False) s)
 (n:Nat)(h:I n s):
 codeAny (model prog w) A (.compLoop (.ListComp elt [⟨target,iter,ifs,0⟩] scope pos) 0 it acc env) R s:=by
 refine codeAny_loop rfl I (fun n s hI=> ?_) n h
 show wpAny _ A ((compTurn (.ListComp elt [⟨target,iter,ifs,0⟩] scope pos) 0 it acc env).onRaise (fun x=>do noteFrame x env;theTreesLotGoes x)) _ _ s
 refine wpAny_noted ?_
 rw[compTurn_list]
 refine wpAny_bind (wpAny_standAt (wpAny_bind (wpAny_mono (turn n s hI) (fun r s₁ h₁=> ?_) fun _ _ h'=>h'.elim)))
 cases r with
 |none=>exact wpAny_pure h₁
 |some v=>
  refine wpAny_bind (wpAny_mono h₁ (fun _ s₁' h₁'=> ?_) fun _ _ h'=>h'.elim)
  refine wpAny_bind (wpAny_mono h₁' (fun _ s₂ h₂=>wpAny_bind (wpAny_mono h₂ (fun ok s₃ h₃=> ?_) fun _ _ h'=>h'.elim)) fun _ _ h'=>h'.elim)
  cases ok with
  |false=>exact wpAny_pure ⟨rfl,h₃⟩
  |true=>
   exact wpAny_bind (wpAny_bind (wpAny_mono h₃ (fun x s₄ h₄=>wpAny_bind (wpAny_mono h₄ (fun _ s₅ h₅=>wpAny_pure (wpAny_pure ⟨rfl,h₅⟩)) fun _ _ h'=>h'.elim)) fun _ _ h'=>h'.elim))
end
noncomputable def iE (X:Cx) (scope:Scope) (cl:List (Str×Addr)) (C:Addr) (N':List Str) (fp:List Addr) (pins:List (Addr×Obj)) (s:Shared) (H:Hp):Cx where
 prog:=X.prog
 w:=X.w
 K:=X.K
 mg:=X.mg
 base:=X.base
 A:=X.A
 N:=N'
 s₀:=s
 H₀:=H
 env:=compEnvC scope cl C X.env
 outer:=X.stack
 stack:=X.stack
 ex:=fp
 calm:=X.calm
 fn:=fun _=>false
 pn:=X.pn++ pins
 xe:=fun _ _=>False
structure kR(X:Cx)(scope:Scope)(cl:List (Str×Addr))(cp:List (Nat×Str)):Prop where
 kind:scope.kind= .function
 nocell:∀y∈scope.names,y.2≠ .cell
 names:∀y∈scope.names,y.2= .local->scope.names.lookup y.1=some .local
 clos:closureFor scope X.env=pure cl
 sub:∀x c,cl.lookup x=some c->X.env.cells.lookup x=some c
 has:∀x,((relabel scope X.env).names.lookup x=some .cell\/ (relabel scope X.env).names.lookup x=some .free)->∃c,cl.lookup x=some c
 aw9:∀p∈cp,X.N[p.1]?=some p.2/\(X.env.scope.names.lookup p.2=some .cell\/ X.env.scope.names.lookup p.2=some .free)/\((relabel scope X.env).names.lookup p.2=some .cell\/ (relabel scope X.env).names.lookup p.2=some .free)
noncomputable def dZ (cp:List (Nat×Str)) (σ:St):St:=cp.map fun p=>(σ[p.1]?).getD none
section
variable{X:Cx}{pins:List (Addr×Obj)}{σ:St}{H:Hp}{s:Shared}{scope:Scope}{cl:List (Str×Addr)}{cp:List (Nat×Str)}{fp:List Addr}{x:Str}
theorem b2W(I:Inv X pins σ H s)(c:kR X scope cl cp)(hf:∀b∈fp,gK X pins H b)(hfo:∀b∈fp,b<s.heap.objs.size){h':Heap}{ty:String}{tk:Nat}{m:Str->Option Value}(hm:h'.Ns s.heap.objs.size m)
 (sb:Heap.SameBut s.heap.objs.size (s.heap.push {cls:=.type ty,data:=.dict #[]}) h'):
 Inv (iE X scope cl s.heap.objs.size (x::cp.map (·.2)) fp pins s H) [] (none::dZ cp σ) H {s with heap:=h',toks:=tk}:=by
 have old:∀b o,s.heap.get? b=some o->h'.get? b=some o:=fun b o e=>(sb.2 b (Nat.ne_of_lt (Heap.lt_size e))).trans (Heap.get?_push_of_some _ e)
 have hC:H s.heap.objs.size=none:=I.hok.fresh (Nat.le_refl _)
 refine⟨⟨I.ok.mod,c.kind,I.ok.glob,I.ok.blt,Nat.le_refl _,fun y z k h1 h2=>I.ok.inj y z k (c.sub _ _ h1) (c.sub _ _ h2),c.has,fun y k z=>(Bool.noConfusion z),I.ok.hd,I.ok.frames,.inl rfl,fun b hb=> ?_,fun b o e=>I.bs b o e,Nat.le_trans I.ok.bsz I.sz,fun b o e hb=> ?_,fun b hb hz=> ?_,I.stack,I.stkFree⟩,
  rfl,I.bare,Un.kept old,⟨m,hm,fun i y v h1 h2 h3=> ?_⟩,fun y k e=> ?_,hC,fun y k e=>I.freeC y k (c.sub y k e),fun p hp=> ?_,I.hok.kept old,?_⟩
 ·obtain⟨f0,f1,f2,f3,f4,f5⟩:=hf b hb
  exact⟨Nat.ne_of_lt (hfo b hb),fun y k e=>f4 y k (c.sub y k e)⟩
 ·obtain⟨f0,f1,f2,f3,f4,f5⟩:=hf b hb
  rcases f3 with z|z
  ·exact I.ok.noex b o e z
  ·exact absurd (Nat.lt_of_lt_of_le (Heap.lt_size (I.ok.bs b o e).1) z) (Nat.lt_irrefl _)
 ·obtain⟨f0,f1,f2,f3,f4,f5⟩:=hf b hb
  rcases List.mem_cons.mp (I.stkSub b hz)with e|e
  ·exact f1 e
  ·exact f2 e
 ·cases i with
  |zero=>simp at h2
  |succ i=>
   have h1':(cp.map (·.2))[i]?=some y:=by
    have z:(x::cp.map (·.2))[i+ 1]?=some y:=h1
    rw[List.getElem?_cons_succ]at z
    exact z
   have h2':(dZ cp σ)[i]?=some (some v):=by simpa using h2
   unfold dZ at h2'
   rw[List.getElem?_map]at h1' h2'
   cases e:cp[i]? with
   |none=>rw[e]at h1';cases h1'
   |some p=>
    rw[e]at h1' h2'
    simp only[Option.map_some,Option.some.injEq]at h1' h2'
    obtain⟨k1,k2,k3⟩:=c.aw9 p (List.mem_of_getElem? e)
    subst h1'
    have h2'':σ[p.1]?=some (some v):=by
     cases q:σ[p.1]? with
     |none=>rw[q]at h2';cases h2'
     |some z=>rw[q]at h2';simpa using h2'
    obtain⟨m0,hn0,hl0⟩:=I.loc
    obtain⟨u,r,l⟩:=hl0 p.1 p.2 v k1 h2'' (k2.elim (fun z=> .inr (.inl z)) fun z=> .inr (.inr z))
    refine⟨u,r,.inr ⟨k3,?_⟩⟩
    rcases l with⟨z,_⟩|⟨_,cc,e1,e2⟩
    ·have z':X.env.scope.names.lookup p.2=some .local:=z
     rcases k2 with k|k<;>(rw[z']at k;cases k)
    ·obtain⟨cc',e3⟩:=c.has p.2 k3
     have e4:=c.sub _ _ e3
     rw[e1]at e4
     cases e4
     obtain⟨o,ho,hd⟩:=e2
     exact⟨cc,e3,o,old _ _ ho,hd⟩
 ·obtain⟨v,o,ho,hd⟩:=I.cell y k (c.sub y k e)
  exact⟨v,o,old _ _ ho,hd⟩
 ·have hp':p∈X.pn++ pins:=by
   rcases List.mem_append.mp hp with z|z
   ·exact z
   ·cases z
  obtain⟨e,n,ne,nf,d⟩:=I.pin p hp'
  refine⟨old _ _ e,n,Nat.ne_of_lt (Heap.lt_size e),fun hz=> ?_,d⟩
  rcases List.mem_cons.mp (I.stkSub p.1 hz)with q|q
  ·exact ne q
  ·exact nf q
 ·show(none::dZ cp σ).length=(x::cp.map (·.2)).length
  simp[dZ]
theorem Inv.uncomp{C:Addr}{N':List Str}{σ':St}{H':Hp}{s':Shared}{h'':Heap}(I:Inv X pins σ H s)(hC:C=s.heap.objs.size)(hf:∀b∈fp,gK X pins H b)(J:Inv (iE X scope cl C N' fp pins s H) [] σ' H' s')(sb:Heap.SameBut C s'.heap h''):
 Inv X pins σ H' {s' with heap:=h''}:=by
 have ne:∀b o,s.heap.get? b=some o->b≠C:=fun b o e=>by rw[hC];exact Nat.ne_of_lt (Heap.lt_size e)
 have B:Un (eW X.stack) fp H H' s.heap s'.heap:=J.base
 refine I.call' (s':={s' with heap:=h''}) (ch:=fp) (show s'.os=s.os from J.os) ⟨fun b o e n hb hx=> ?_,fun b o e n hb hx=> ?_,B.free,fun b o e hx=> ?_,B.tups,B.frzs,B.tbls⟩ (fun b ob e=> ?_) J.bare fun b hb=> ?_
 ·exact(sb.2 b (ne b o e)).trans (B.keep b o e n hb hx)
 ·obtain⟨sl,q⟩:=B.slot b o e n hb hx
  exact⟨sl,(sb.2 b (ne b o e)).trans q⟩
 ·obtain⟨o',q⟩:=B.there b o e hx
  exact⟨o',(sb.2 b (ne b o e)).trans q⟩
 ·have hfree:H' C=none:=J.free
  refine(J.hok b ob e).stay (fun k w' hk q=>(sb.2 k ?_).trans q) (fun _ q=>q) fun _ _ q=>q
  rintro rfl
  rcases hk with rfl|hk
  ·rw[hfree]at e;cases e
  ·rw[hfree]at hk;cases hk
 ·obtain⟨f0,f1,f2,f3,f4,f5⟩:=hf b hb
  exact⟨f3,f1,f4,f5⟩
end
def rN(X:Cx)(ifs:List Expr)(t:TT):Prop:=
 ∀(pins:List (Addr×Obj)) (s:Shared) (σ:St) (H:Hp) (Q:Bool->Hp->Prop),Inv X pins σ H s->t σ H Q->
  wpAny (model X.prog X.w) X.A (forIn ifs true fun c r=>if r=true then do let ok<- isTrue c X.env (eval c X.env);pure (ForInStep.yield ok) else pure (ForInStep.yield r)) (TP X pins σ Q) X.xe s
def qZ:TT:=fun _ H Q=>Q true H
theorem kH{X:Cx}:rN X [] qZ:=fun _ _ _ H _ I h=>wpAny_tests_nil ⟨H,I,h⟩
theorem a83{X:Cx}{c:Expr}{t:TT}(h:PT X c t):rN X [c] t:=fun pins s σ H Q I q=>wpAny_tests_one (h pins s σ H Q I q)
def jX(cp:List (Nat×Str))(tt:TT)(te:TE)(σ:St)(J:It)(D:Addr)(Q:VK)(H1:Hp):Prop:=
 ∃W:Nat->Nat->Hp->Prop,(∃m,W 0 m (upd H1 D (.lst [])))/\∀i m H2,W i m H2->(J.stop i H2/\Q (.ref D) H2)\/
  (J.go i H2/\∃(N:VK) (N':Hp->Prop),(∀y H5,N y H5->∃ys m',H5 D=some (.lst ys)/\ys.length<sizeLine/\m'<m/\W (i+ 1) m' (upd H5 D (.lst (ys++ [y]))))/\(∀H4,N' H4->∃m',m'<m/\W (i+ 1) m' H4)/\
   ∀v H3,J.yld i H2 v H3->tt (some v::dZ cp σ) H3 fun b H4=>if b=true then te (some v::dZ cp σ) H4 N else N' H4)
def a8W(cp:List (Nat×Str))(wi:TI)(tt:TT)(te:TE):TE:=fun σ H Q=>wi σ H fun J H1=>∀D,H1 D=none->jX cp tt te σ J D Q H1
section
variable{X:Cx}{scope:Scope}{cl:List (Str×Addr)}{cp:List (Nat×Str)}{x:Str}{px pos:Pos}{elt iter:Expr}{ifs:List Expr}{wi:TI}{tt:TT}{te:TE}
theorem a65{pins:List (Addr×Obj)}{σ:St}{H2:Hp}{s2:Shared}{it:Addr}{fp:List Addr}{tn:Nat->Heap->Prop}{J:It}{Q:VK}{R:Addr->Result->Shared->Prop}{E:Value->Shared->Prop}(c:kR X scope cl cp)(hcalm:X.calm=true)(hx:scope.names.lookup x=some .local)(hnd:(x::cp.map (·.2)).Nodup)
 (ht:∀C fp pins s H,rN (iE X scope cl C (x::cp.map (·.2)) fp pins s H) ifs tt)(he:∀C fp pins s H,PE (iE X scope cl C (x::cp.map (·.2)) fp pins s H) elt te)
 (I2:Inv X pins σ H2 s2)(T:sI X.prog X.w X.K (.Name x px) J fp it tn)(st2:tn 0 s2.heap)(f2:∀b∈fp,gK X pins H2 b)(q:jX cp tt te σ J s2.heap.objs.size Q H2)
 (hR:∀(C:Addr) (H':Hp) (s':Shared),(∃m,s'.heap.Ns C m)->X.s₀.heap.objs.size<=C->H' C=none->C≠X.env.locals->(∀x c,X.env.cells.lookup x=some c->c≠C)->(∀p∈X.pn++ pins,p.1≠C)->(∀h'',Heap.SameBut C s'.heap h''->Inv X pins σ H' {s' with heap:=h''})->Q (.ref s2.heap.objs.size) H'->R C (.ok .next) s'):
 wpAny (model X.prog X.w) X.A (newList []) (fun acc s₃=>wpAny (model X.prog X.w) X.A (newFunctionEnv scope X.env.globals cl [] X.env.qual none .none (some X.env)) (fun cenv s₄=>
  acc= .ref s2.heap.objs.size/\codeAny (model X.prog X.w) X.A (.compStart (.ListComp elt [⟨.Name x px,iter,ifs,0⟩] scope pos) 0 (.ref it) acc {cenv with scope:=relabel scope X.env}) (R cenv.locals) s₄) E s₃) E s2:=by
 obtain⟨W,⟨m0,w0⟩,turn⟩:=q
 refine wpAny_newObj_type ?_
 have I3:Inv X pins σ (upd H2 s2.heap.objs.size (.lst [])) {s2 with heap:=s2.heap.push {cls:=.type "list",dict:=none,data:=.seq ([]:List Value).toArray}}:=
  I2.lnew (t':=s2.toks) (ys:=[]) (its:=[]) .nil (Nat.zero_le _)
 have fpo:∀b∈fp,b<s2.heap.objs.size:=fun b hb=>by
  obtain⟨o,e,_⟩:=T.obj _ _ st2 b hb
  exact Heap.lt_size e
 have f3:∀b∈fp,gK X pins (upd H2 s2.heap.objs.size (.lst [])) b:=fun b hb=>⟨by rw[aF (Nat.ne_of_lt (fpo b hb))];exact(f2 b hb).1,(f2 b hb).2⟩
 generalize hs3:({s2 with heap:=s2.heap.push {cls:=.type "list",dict:=none,data:=.seq ([]:List Value).toArray}}:Shared)=s3 at I3
 have e3:s3.heap=s2.heap.push {cls:=.type "list",dict:=none,data:=.seq ([]:List Value).toArray}:=by rw[<- hs3]
 have sz3:s2.heap.objs.size<s3.heap.objs.size:=by rw[e3,Heap.size_push];exact Nat.lt_succ_self _
 refine wpAny_newFunctionEnv c.nocell (by intro y hy;cases hy) (fun h₁ hns sb=> ?_) c.kind
 have J3:=b2W (x:=x) (tk:=s3.toks+ ([]:List (Str×Value)).length) I3 c f3 (fun b hb=>Nat.lt_trans (fpo b hb) sz3) hns sb
 refine⟨rfl,?_⟩
 have st3:tn 0 h₁:=T.keep _ _ _ st2 fun b hb o e=>(sb.2 b (Nat.ne_of_lt (Nat.lt_trans (fpo b hb) sz3))).trans (Heap.get?_push_of_some _ (by rw[e3];exact Heap.get?_push_of_some _ e))
 generalize hX:iE X scope cl s3.heap.objs.size (x::cp.map (·.2)) fp pins s3 (upd H2 s2.heap.objs.size (.lst []))=X' at J3
 have eA:X'.A=X.A:=by rw[<- hX];rfl
 have eP:X'.prog=X.prog:=by rw[<- hX];rfl
 have ew:X'.w=X.w:=by rw[<- hX];rfl
 have eK:X'.K=X.K:=by rw[<- hX];rfl
 have ec:X'.calm=true:=by rw[<- hX];exact hcalm
 have ee:X'.env=compEnvC scope cl s3.heap.objs.size X.env:=by rw[<- hX];rfl
 have ex:X'.xe=fun _ _=>False:=by rw[<- hX];rfl
 have fpX:∀{H':Hp},(∀b∈fp,H' b=none)->∀b∈fp,gK X' [] H' b:=fun hn b hb=>by
  obtain⟨f0,f1,f2',f3',f4,f5⟩:=f3 b hb
  subst hX
  refine⟨hn b hb,Nat.ne_of_lt (Nat.lt_trans (fpo b hb) sz3),fun hz=> ?_,.inl hb,fun y k e=>f4 y k (c.sub y k e),fun p hp=> ?_⟩
  ·rcases List.mem_cons.mp (I3.stkSub b hz)with e|e
   ·exact f1 e
   ·exact f2' e
  ·rcases List.mem_append.mp hp with z|z
   ·exact f5 p z
   ·cases z
 have pT:=ht s3.heap.objs.size fp pins s3 (upd H2 s2.heap.objs.size (.lst []))
 have pE:=he s3.heap.objs.size fp pins s3 (upd H2 s2.heap.objs.size (.lst []))
 have pG:PG X' (.Name x px) (vH 0):=by
  subst hX
  exact gI hnd rfl (.inl (lookup_relabel_local hx)) (.inr (lookup_relabel_local hx))
 rw[hX]at pT pE
 have loop:codeAny (model X.prog X.w) X.A (.compLoop (.ListComp elt [⟨.Name x px,iter,ifs,0⟩] scope pos) 0 (.ref it) (.ref s2.heap.objs.size) (compEnvC scope cl s3.heap.objs.size X.env)) (R s3.heap.objs.size) {s3 with heap:=h₁,toks:=s3.toks+ ([]:List (Str×Value)).length}:=by
  refine b0i (fun n s'=>∃i o H',Inv X' [] (o::dZ cp σ) H' s'/\tn i s'.heap/\(∀b∈fp,H' b=none)/\W i n H') ?_ m0 ⟨0,none,_,J3,st3,fun b hb=>(f3 b hb).1,w0⟩
  rintro n s5 ⟨i,o,H5,J5,st5,fr5,w5⟩
  rcases turn i n H5 w5 with⟨stop,qn⟩|⟨go,N,N',hN,hN',step⟩
  ·have z:=T.done X' eP ew eK ec i [] s5 _ H5 (fun _ _=>False) J5 (fpX fr5) st5 stop
   rw[eA]at z
   refine aO z fun r s6 ⟨hr,J6⟩=> ?_
   subst hr
   subst hX
   obtain⟨m6,hn6,_⟩:=J6.loc
   refine hR s3.heap.objs.size H5 s6 ⟨m6,hn6⟩ I3.sz J6.free (Nat.ne_of_gt I3.lt) (fun y k e z=> ?_) (fun p hp z=> ?_) (fun h'' sb'=>I3.uncomp rfl f3 J6 sb') qn
   ·obtain⟨v,w'⟩:=I3.cell y k e
    exact absurd w'.lt (by rw[z];exact Nat.lt_irrefl _)
   ·exact absurd (Heap.lt_size (I3.pin p hp).1) (by rw[z];exact Nat.lt_irrefl _)
  ·have z:=T.item X' eP ew eK ec i [] s5 _ H5 (fun _ _=>False) J5 (fpX fr5) st5 go
   rw[eA]at z
   refine aO z fun r s6 ⟨u,hr,h6⟩=> ?_
   subst hr
   refine aO h6 fun _ s7 ⟨v,H7,J7,r7,y7,st7,fr7⟩=> ?_
   have J7':=J7.pinned (fpX fr7) (T.obj _ _ st7)
   have z8:=pG _ s7 _ H7 v u (fun σ' H'=>σ'=some v::dZ cp σ/\H'=H7) J7' r7 ⟨rfl,rfl⟩
   rw[eA,eP,ew,ee,ex]at z8
   refine aO z8 fun _ s8 ⟨σ8,H8,J8,e8,e8'⟩=> ?_
   subst e8 e8'
   have z9:=pT _ s8 _ H8 _ J8 (step v H8 y7)
   rw[eA,eP,ew,ee,ex]at z9
   refine aO z9 fun ok s9 ⟨H9,J9,q9⟩=> ?_
   have fin:∀{H':Hp} {s':Shared},Inv X' ([] ++ qO fp s7.heap) (some v::dZ cp σ) H' s'->(∃m',m'<n/\W (i+ 1) m' H')->∃m,m<n/\∃i o H',Inv X' [] (o::dZ cp σ) H' s'/\tn i s'.heap/\(∀b∈fp,H' b=none)/\W i m H':=fun{H' s'} K' ⟨m',hm,w'⟩=>by
    refine⟨m',hm,i+ 1,some v,H',K'.unpinned,T.keep _ _ _ st7 fun b hb ob e=>(K'.pin (b,ob) (List.mem_append_right _ (List.mem_append_right _ (uD hb e)))).1,fun b hb=> ?_,w'⟩
    obtain⟨ob,e,d⟩:=T.obj _ _ st7 b hb
    exact(K'.pin (b,ob) (List.mem_append_right _ (List.mem_append_right _ (uD hb e)))).2.1
   cases ok with
   |false=>
    rw[if_neg Bool.false_ne_true]at q9|-
    exact fin J9 (hN' _ q9)
   |true=>
    rw[if_pos rfl]at q9|-
    have z10:=pE _ s9 _ H9 _ J9 q9
    rw[eA,eP,ew,ee,ex]at z10
    refine aO z10 fun u10 s10 ⟨y,H10,J10,r10,n10⟩=> ?_
    obtain⟨ys,m',hD,hz,hm,w'⟩:=hN y H10 n10
    have z11:=iN (X:=X') _ s10 _ H10 (.ref s2.heap.objs.size) [y] (.ref s2.heap.objs.size) [u10] (fun _ H'=>H'=upd H10 s2.heap.objs.size (.lst (ys++ [y]))) J10 rfl (.cons r10 .nil) ⟨_,ys,y,rfl,rfl,hD,hz,rfl⟩
    rw[eA,eP,ew,ex]at z11
    refine aO z11 fun u11 s11 ⟨y',H11,J11,r11,e11⟩=> ?_
    subst e11
    exact fin J11 ⟨m',hm,w'⟩
 exact codeAny_compStart_list loop (T.self _ 0 _ _ _ st3 loop)
theorem jN(c:kR X scope cl cp)(hcalm:X.calm=true)(hx:scope.names.lookup x=some .local)(hnd:(x::cp.map (·.2)).Nodup)(hi:PI X (.Name x px) iter wi)
 (ht:∀C fp pins s H,rN (iE X scope cl C (x::cp.map (·.2)) fp pins s H) ifs tt)(he:∀C fp pins s H,PE (iE X scope cl C (x::cp.map (·.2)) fp pins s H) elt te)
 (hs:∀v,foldedSetIterable iter X.env v=pure v:=by intro _;rfl):PE X (.ListComp elt [⟨.Name x px,iter,ifs,0⟩] scope pos) (a8W cp wi tt te):=by
 intro pins s σ H Q I h
 rw[eval_ListComp]
 refine wpAny_comprehension_free (use:=none) (g:=⟨.Name x px,iter,ifs,0⟩) (gs:=[]) (cl:=cl) rfl hs c.clos c.kind c.names ?_
 refine aO (hi pins s σ H _ I h) fun v s1 h1=>aO h1 fun itv s2 h2=> ?_
 obtain⟨it,fp,tn,J,H2,e,I2,T,st2,f2,q⟩:=h2
 subst e
 refine aO (a65 (iter:=iter) (pos:=pos) (R:=fun C=>compPost (model X.prog X.w) X.A X.xe none (EP X pins σ Q) (.ref s2.heap.objs.size) C) c hcalm hx hnd ht he I2 T st2 f2 (q _ (I2.hok.fresh (Nat.le_refl _))) ?_) fun acc s3 h3=>aO h3 fun cenv s4 h4=> ?_
 ·rintro C H' s' ⟨m,hn⟩ _ _ _ _ _ hI hq
  exact⟨m,hn,fun h'' sb=>⟨.ref s2.heap.objs.size,H',hI h'' sb,rfl,hq⟩⟩
 ·obtain⟨e,h4⟩:=h4
  subst e
  exact h4
theorem b0Y{i:Nat}{y:Str}{py:Pos}{pos':Pos}(hN:X.N.Nodup)(hi':X.N[i]?=some y)(hy:X.env.scope.names.lookup y=some .local)(c:kR X scope cl cp)(hcalm:X.calm=true)(hx:scope.names.lookup x=some .local)(hnd:(x::cp.map (·.2)).Nodup)(hi:PI X (.Name x px) iter wi)
 (ht:∀C fp pins s H,rN (iE X scope cl C (x::cp.map (·.2)) fp pins s H) ifs tt)(he:∀C fp pins s H,PE (iE X scope cl C (x::cp.map (·.2)) fp pins s H) elt te)
 (hsw:swapsWith (.ListComp elt [⟨.Name x px,iter,ifs,0⟩] scope pos) (some (.Name y py)) pos'.line X.env=pure true)
 (hs:∀v,foldedSetIterable iter X.env v=pure v:=by intro _;rfl):PS X (.Assign [.Name y py] (.ListComp elt [⟨.Name x px,iter,ifs,0⟩] scope pos) pos') (tAsg (a8W cp wi tt te) (vH i)):=by
 intro pins s σ H D I h
 rw[exec_Assign_Name_used _ _ _ _ hsw]
 refine wpAny_bind (wpAny_standAt (wpAny_bind (wpAny_bind ?_)))
 refine wpAny_comprehension_free (use:=some (assign (.Name y py) X.env)) (g:=⟨.Name x px,iter,ifs,0⟩) (gs:=[]) (cl:=cl) rfl hs c.clos c.kind c.names ?_
 refine aO (hi pins s σ H _ I h) fun v s1 h1=>aO h1 fun itv s2 h2=> ?_
 obtain⟨it,fp,tn,J,H2,e,I2,T,st2,f2,q⟩:=h2
 subst e
 refine aO (a65 (iter:=iter) (pos:=pos) (R:=fun C=>compPost (model X.prog X.w) X.A X.xe (some (assign (.Name y py) X.env)) (fun _ s'=>wpAny (model X.prog X.w) X.A (pure ()) (fun _ s'=>wpAny (model X.prog X.w) X.A (pure Flow.next) (SP X pins D) X.xe s') X.xe s') (.ref s2.heap.objs.size) C) c hcalm hx hnd ht he I2 T st2 f2 (q _ (I2.hok.fresh (Nat.le_refl _))) ?_) fun acc s3 h3=>aO h3 fun cenv s4 h4=> ?_
 ·rintro C H' s' ⟨m,hn⟩ hC0 hCn hCL hCc hCp hI hq
  have I':Inv X pins σ H' s':=hI s'.heap (Heap.SameBut.refl ..)
  refine wpAny_assign_Name (a7f (v:=.ref s2.heap.objs.size) I' hN hi' (.inl hy) rfl (fun s'' I'' hb=> ?_) (.inr hy))
  obtain⟨a,sb,ha⟩:=hb
  have hne:C≠a:=by
   rcases ha with z|z
   ·rw[z];exact hCL
   ·exact fun e=>hCc y a z e.symm
  refine⟨m,hn.sameBut sb hne,fun h'' sb''=>wpAny_pure (wpAny_pure ⟨_,H',?_,hq⟩)⟩
  exact I''.turned (t':=s''.toks) (fun b o hb e=>(sb''.2 b hb).trans e) hCn hCL (.inr hC0) hCc hCp
 ·obtain⟨e,h4⟩:=h4
  subst e
  exact h4
end
theorem a8z:∀{bs:List Bool} {us:List Value},aV (bs.map V.bl) us->∀(i:Nat) (v:Value),us[i]?=some v->∃b:Bool,bs[i]?=some b/\v=Value.bool b
 | [],_,.nil,i,v,h=>by simp at h
 |b::bs,u::us,.cons r t,0,v,h=>by
  simp at h
  subst h
  cases r
  exact⟨b,rfl,rfl⟩
 |b::bs,u::us,.cons r t,i+ 1,v,h=>by
  obtain⟨b',e1,e2⟩:=a8z t i v (by simpa using h)
  exact⟨b',by simpa using e1,e2⟩
section
variable{X:Cx}
theorem a8L(hc:X.calm=true):gC X (.builtin "all") (fun xs H Q=>∃(a:Addr) (bs:List Bool),xs= [.ref a] /\aI X.K H a (bs.map V.bl)/\Q (.bl (bs.all id)) H):=by
 intro pins s σ H xs us Q I r h
 obtain⟨a,bs,rfl,hq,q⟩:=h
 obtain⟨u,rfl,ru⟩:=r.one
 cases ru
 obtain⟨its,rv,pl,hz⟩:=I.list hq
 have hl:s.heap.IsList a its.toArray:=pl.isList
 have hlt:a<s.heap.objs.size:=by obtain⟨_,e,_⟩:=hl;exact Heap.lt_size e
 refine call_all_walk (wpAny_pyIter_list hl ?_)
 refine⟨s.heap.objs.size,[s.heap.objs.size,a],[s.heap.objs.size],its.toArray.size,_,_,fun i=>(bs[i]?).getD true,rfl,Walks.list (A:=X.A.in1) (I.ok.hd hc) _ a (Nat.ne_of_lt hlt) its.toArray,
  ⟨⟨_,Heap.get?_push_size _ rfl,rfl,rfl⟩,hl.push _⟩,fun i v s' Q' E' hP hQ=> ?_,fun h' tk hk=> ?_⟩
 ·obtain⟨b,e,rfl⟩:=a8z rv i v (by simpa using hP)
  simp only[e,Option.getD_some]at hQ
  exact wpAny_truthy_bool hQ
 ·have e:((List.range its.toArray.size).all fun i=>(bs[i]?).getD true)=bs.all id:=by
   have:=rv.length
   rw[List.length_map]at this
   rw[List.size_toArray,<- this]
   exact PyProof.Rows.LSm.range_all bs
  rw[e]
  refine⟨.bl _,H,I.kept (t':=tk) fun b o e'=>hk b o (fun hm=> ?_) (Heap.get?_push_of_some _ e'),rfl,q⟩
  rw[List.mem_singleton.mp hm]at e'
  exact Nat.lt_irrefl _ (Heap.lt_size e')
end
structure bK(P:Program)(w:World)(K:Fg)(mg:Str->Option Value)(base:Heap)(CX:cU)(k:Nat)(x:Str)(ps:List Str)(sp:Sp):Prop where
 ex:∃f fd,dN P w K mg base CX k f fd ps sp/\mg x=some (.ref f)/\PySem.W.keepIn K (.ref f)=true/\fR K fd ps []
section
variable{X:Cx}{CX:cU}{k:Nat}{ps:List Str}{sp:Sp}{E:XK}{x:Str}{p pos:Pos}{e:Expr}{es:List Expr}{t:TA}
theorem bP(G:bK X.prog X.w X.K X.mg X.base CX k x ps sp)(hr:bO k X.A)(hx:eY CX X E)(ha:PA X (e::es) t)(hg:Gl X x:=by rfl)(hdb:(x==("__debug__":Str))=false:=by decide)
 (he:starEach (e::es) X.env=(false,eval e X.env)::starEach es X.env:=by rfl)(hpl:(backTo pos (starEach es X.env)).any (·.1)=false:=by rfl):PE X (.Call (.Name x p) (e::es) [] pos) (a8h sp [] E t):=by
 obtain⟨f,fd,F,hm,hk,hb⟩:=G.ex
 exact b12 F hr hg hm hk hb .nil hx ha hdb he hpl
end
def kM(D:Addr)(Pv:Nat->List V->Hp->Prop)(i:Nat)(ys:List V):VK:=fun y H5=>H5 D=some (.lst ys)/\ys.length<sizeLine/\Pv (i+ 1) (ys++ [y]) (upd H5 D (.lst (ys++ [y])))
theorem a8P{cp:List (Nat×Str)}{te:TE}{σ:St}{J:It}{n:Nat}{D:Addr}{Q:VK}{H1:Hp}(Pv:Nat->List V->Hp->Prop)(h0:Pv 0 [] (upd H1 D (.lst [])))
 (hg:∀i ys H,H D=some (.lst ys)->Pv i ys H->(i<n->J.go i H)/\(i=n->J.stop i H))
 (hs:∀i ys H v H',i<n->H D=some (.lst ys)->Pv i ys H->J.yld i H v H'->te (some v::dZ cp σ) H' (kM D Pv i ys))
 (hd:∀ys H,H D=some (.lst ys)->Pv n ys H->Q (.ref D) H):jX cp qZ te σ J D Q H1:=by
 refine⟨fun i m H=>m=n- i/\i<=n/\∃ys,H D=some (.lst ys)/\Pv i ys H,⟨n,by simp,Nat.zero_le _,[],aH,h0⟩,?_⟩
 rintro i m H ⟨rfl,hi,ys,hD,p⟩
 by_cases hlt:i<n
 ·refine .inr ⟨(hg i ys H hD p).1 hlt,kM D Pv i ys,fun _=>False,fun y H5 ⟨h1,h2,h3⟩=>⟨ys,n- (i+ 1),h1,h2,by omega,rfl,hlt,_,aH,h3⟩,fun _ z=>z.elim,fun v H' y=> ?_⟩
  exact hs i ys H v H' hlt hD p y
 ·have e:i=n:=by omega
  subst e
  exact .inl ⟨(hg i ys H hD p).2 rfl,hd ys H hD p⟩
theorem b0G{cp:List (Nat×Str)}{te:TE}{σ:St}{x:Str}{D:Addr}{Q:VK}{H1:Hp}(Pv:Nat->List V->Hp->Prop)(h0:Pv 0 [] (upd H1 D (.lst [])))
 (hs:∀i c ys H,x.cps[i]?=some c->H D=some (.lst ys)->Pv i ys H->te (some (.str ⟨#[c]⟩)::dZ cp σ) H (kM D Pv i ys))
 (hd:∀ys H,H D=some (.lst ys)->Pv x.cps.size ys H->Q (.ref D) H):jX cp qZ te σ (vL x) D Q H1:=
 a8P (n:=x.cps.size) Pv h0 (fun i ys H _ _=>⟨fun h=>h,fun h=>by subst h;exact Nat.le_refl _⟩) (fun i ys H v H' hi hD p y=>by
  obtain⟨e,c,hc,rfl⟩:=y
  subst e
  exact hs i c ys _ hc hD p) hd
theorem rS{K:Fg}{cp:List (Nat×Str)}{te:TE}{σ:St}{a:Addr}{xs:List V}{D:Addr}{Q:VK}{H1:Hp}(Pv:Nat->List V->Hp->Prop)(h0:Pv 0 [] (upd H1 D (.lst [])))
 (hl:∀i ys H,H D=some (.lst ys)->Pv i ys H->aI K H a xs)
 (hs:∀i x ys H,xs[i]?=some x->H D=some (.lst ys)->Pv i ys H->te (some x::dZ cp σ) H (kM D Pv i ys))
 (hd:∀ys H,H D=some (.lst ys)->Pv xs.length ys H->Q (.ref D) H):jX cp qZ te σ (jJ K a) D Q H1:=
 a8P (n:=xs.length) Pv h0 (fun i ys H hD p=>⟨fun h=>⟨xs,xs[i],hl i ys H hD p,by simp[h]⟩,fun h=>by subst h;exact⟨xs,hl _ ys H hD p,Nat.le_refl _⟩⟩) (fun i ys H v H' hi hD p y=>by
  obtain⟨e,y⟩:=y
  subst e
  exact hs i v ys _ (y xs (hl i ys _ hD p)) hD p) hd
inductive Kd where
 |non|bl|int|str|lst|tup|dct
 deriving DecidableEq
def Kd.nm:Kd->String
 | .non=> "NoneType"| .bl=> "bool"| .int=> "int"| .str=> "str"| .lst=> "list"| .tup=> "tuple"| .dct=> "dict"
theorem b1v(K:Fg)(a:Kd):PySem.W.kitOne K (.type a.nm) (.type "int")=some (decide (a= .int\/ a= .bl)):=by cases a<;>kernel_rfl
theorem b3W(K:Fg)(a:Kd):PySem.W.kitOne K (.type a.nm) (.type "bool")=some (decide (a= .bl)):=by cases a<;>kernel_rfl
theorem a1s(K:Fg)(a:Kd):PySem.W.kitOne K (.type a.nm) (.type "str")=some (decide (a= .str)):=by cases a<;>kernel_rfl
theorem a4l(K:Fg)(a:Kd):PySem.W.kitOne K (.type a.nm) (.type "list")=some (decide (a= .lst)):=by cases a<;>kernel_rfl
theorem b2N(K:Fg)(a:Kd):PySem.W.kitOne K (.type a.nm) (.type "tuple")=some (decide (a= .tup)):=by cases a<;>kernel_rfl
noncomputable def fB:PyData->Kd
 | .none=> .non| .bool _=> .bl| .int _=> .int| .str _=> .str| .list _=> .lst| .tuple _=> .tup| .dict _=> .dct
theorem jF{X:Cx}:gC X (.builtin "isinstance") (fun xs H Q=>∃x T d k,xs= [x,.ty T] /\Dt X.K H x d/\PySem.W.kitOne X.K (.type (fB d).nm) (.type T)=some k/\Q (.bl k) H):=by
 intro pins s σ H xs us Q I r h
 obtain⟨x,T,d,k,rfl,hd,e,q⟩:=h
 obtain⟨u,c,rfl,r1,r2⟩:=r.two
 cases r2
 have fin:∀tk,EP X pins σ Q (.bool k) {s with toks:=tk}:=fun tk=>⟨.bl k,H,I.tok tk,rfl,q⟩
 cases hd with
 |non=>cases r1;exact PySem.W.kia_one PySem.W.kitx_none I.kIn True.intro e (fun z=>nomatch z) fin
 |bl b=>cases r1;exact PySem.W.kia_one PySem.W.kitx_bool I.kIn True.intro e (fun z=>nomatch z) fin
 |int i=>obtain⟨t,rfl⟩:=r1;exact PySem.W.kia_one PySem.W.kitx_int I.kIn True.intro e (fun z=>nomatch z) fin
 |str z=>obtain⟨t,rfl⟩:=r1;exact PySem.W.kia_one PySem.W.kitx_str I.kIn True.intro e (fun z=>nomatch z) fin
 |lst hq _=>
  cases r1
  obtain⟨its,_,⟨o,n,eo,hc,_,_⟩,_⟩:=I.list hq
  exact PySem.W.kia_one PySem.W.kitx_list I.kIn ⟨o,eo,hc⟩ e (fun z=>nomatch z) fin
 |tup hq _=>
  cases r1
  obtain⟨its,_,⟨o,eo,hc,_⟩,_⟩:=I.tuple hq
  exact PySem.W.kia_one PySem.W.kitx_tuple I.kIn ⟨o,eo,hc⟩ e (fun z=>nomatch z) fin
 |dK ea=>
  cases r1
  obtain⟨_,_,vs,_,o,es,ep,h1,h2,_⟩:=I.hok _ _ ea
  exact PySem.W.kia_one PySem.W.kitx_dict I.kIn ⟨o,h1,h2.1⟩ e (fun z=>nomatch z) fin
 |dT ea=>
  cases r1
  obtain⟨_,_,zs,_,o,es,ep,h1,h2,_⟩:=I.hok _ _ ea
  exact PySem.W.kia_one PySem.W.kitx_dict I.kIn ⟨o,h1,h2.1⟩ e (fun z=>nomatch z) fin
theorem a57{X:Cx}{scope:Scope}(kind:scope.kind= .function:=by rfl)(plain:∀y∈scope.names,y.2= .local\/ y.2= .globalImplicit:=by decide)(names:∀y∈scope.names,y.2= .local->scope.names.lookup y.1=some .local:=by decide+kernel):kR X scope [] [] where
 kind:=kind
 nocell:=fun y hy z=>by rcases plain y hy with h|h<;>rw[h]at z<;>cases z
 names:=names
 clos:=closureFor_none fun y hy z=>by rcases plain y hy with h|h<;>rw[h]at z<;>cases z
 sub:=fun x c e=>by cases e
 has:=fun x h=>by
  have hm:∀(k:NameKind),(relabel scope X.env).names.lookup x=some k->k= .local\/ k= .globalImplicit:=fun k e=>by
   have m:=PySem.mem_of_lookup e
   unfold relabel at m
   obtain⟨⟨n,k'⟩,hy,e'⟩:=List.mem_map.mp m
   have q:=plain _ hy
   have nf:(k'==NameKind.free)=false:=by rcases q with h|h<;>(have h':k'=_:=h;subst h';rfl)
   simp only[nf,Bool.false_and,Bool.false_eq_true,if_false]at e'
   have:k'=k:=congrArg (·.2) e'
   rw[<- this]
   exact q
  rcases h with h|h
  ·rcases hm _ h with z|z<;>cases z
  ·rcases hm _ h with z|z<;>cases z
 aw9:=fun p hp=>by cases hp
structure dO(K:Fg)(mg:Str->Option Value)(x:Str)(st:Stmt):Prop where
 ex:∃f fd,gU K x x st f fd/\mg x=some (.ref f)
section
variable{P:Program}{w:World}{K:Fg}{mg:Str->Option Value}{base:Heap}
theorem eX{h:Heap}{x:Str}{st:Stmt}{f:Addr}{oc:Value}{od an:Option Addr}{osl:Array (Option Value)}{kV doc pm cdv ct:Value}(X:K.In h)(G:h.Ns mainGlobals mg)(a:PySem.W.nsIn K mainGlobals x=some (some (.ref f)))
 (l:K.lookup f=some ⟨oc,od,.func (PySem.W.fnOf x x (aR st) (aP st) (aB st) .none kV doc pm an cdv ct),osl⟩)(c:PySem.W.codeIn K cdv x=true)(k:PySem.W.keepIn K (.ref f)=true):dO K mg x st:=
 ⟨f,_,a8d l c k,PySem.W.mg_of X G a⟩
theorem dO.known{x:Str}{st:Stmt}{N ps:List Str}{k:Nat}{sp:Sp}(D:dO K mg x st)(S:aW N ps (aB st))
 (hb:∀(kV doc pm:Value) (an:Option Addr) (cdv ct:Value) (us:List Value),us.length=ps.length->bindArgs (PySem.W.fnOf x x (aR st) (aP st) (aB st) .none kV doc pm an cdv ct) ⟨us,[]⟩=pure (ps.zip us))
 (len:∀vs H Q E,sp vs H Q E->vs.length=ps.length)
 (hbody:∀(f:Addr) (cdv:Value) (A:Around) (outer:List Env) (s:Shared) (H:Hp) (vs:List V) (Q:VK) (E:XK),bO k (A.deeper (envOfC x (aB st) s.heap.objs.size f cdv))->sp vs H Q E->
  ∃t,dC (dI aC P w K mg base N x (aB st) f cdv A outer s H E).nox (aP st) t/\t {nx:=fun _ H'=>Q .non H',rt:=Q} (gR N vs) H):bK P w K mg base aC (k+ 1) x ps sp:=by
 obtain⟨f,fd,F,hm⟩:=D.ex
 exact⟨f,fd,F.ok S len fun cdv A outer s H vs Q E hr h=>hbody f cdv A outer s H vs Q E hr h,hm,F.kp,F.binds hb⟩
end
theorem aE.new{H:Hp}{D:Addr}{o:HO}(h:H D=none):aE H (upd H D o):=fun b u e=>by rw[aF (bD e h)];exact e
theorem aE.on{H H2:Hp}{D:Addr}{o:HO}(e:aE H H2)(h:H D=none):aE H (upd H2 D o):=fun b u z=>by rw[aF (bD z h)];exact e b u z
abbrev one(c:Nat):Str:=⟨#[c]⟩
theorem a9c{α:Type}(xs:List α)(i:Int)(h0:0<=i)(h:i<xs.length):∃v,cT xs i=some v/\xs[i.toNat]?=some v:=by
 have e:i=(i.toNat:Int):=by omega
 have hl:i.toNat<xs.length:=by omega
 generalize i.toNat=j at e hl
 subst e
 exact⟨_,b1E (List.getElem?_eq_getElem hl),List.getElem?_eq_getElem hl⟩
theorem a5o{K:Fg}{H:Hp}:∀zs:List Str,cP K H (zs.map V.str) (zs.map PyData.str)
 | []=> .nil
 |z::r=> .cons (.str z) (a5o r)
theorem b2C{cs:List Nat}(h:∀c∈cs,c<128):PyData.canLay0 (.str ⟨cs.toArray⟩)=true:=by
 have:∀c∈cs,c<1114112:=fun c hc=>by have:=h c hc;omega
 simp[PyData.canLay0,PyData.strOk]
 exact this
theorem sl{n:Nat}(h:n<=1000:=by simp):n<=sizeLine:=Nat.le_of_lt (cK h)
theorem a8S:bootBuiltins "all"=some (.builtin "all"):=by kernel_rfl
theorem iD:bootBuiltins "isinstance"=some (.builtin "isinstance"):=by kernel_rfl
theorem a9G:bootBuiltins "abs"=some (.builtin "abs"):=by kernel_rfl
theorem eQ:bootBuiltins "len"=some (.builtin "len"):=by kernel_rfl
theorem b1k:bootBuiltins "int"=some (.type "int"):=by kernel_rfl
theorem a9b:bootBuiltins "bool"=some (.type "bool"):=by kernel_rfl
theorem a4b:bootBuiltins "str"=some (.type "str"):=by kernel_rfl
theorem jH:bootBuiltins "list"=some (.type "list"):=by kernel_rfl
theorem b3g:bootBuiltins "tuple"=some (.type "tuple"):=by kernel_rfl
structure Flew(fs own:List Addr)(h h':Heap):Prop where
 keep:∀b o,b∉own->b∉fs->h.get? b=some o->h'.get? b=some o
 slot:∀b o,b∉own->h.get? b=some o->∃sl,h'.get? b=some {o with slots:=sl}
structure ExcK(K:Fg)(C:Addr):Prop where
 hga:PySem.W.findIn K (.ref C) "__getattribute__"=some (some (.builtin "BaseException.__getattribute__"))
 hk:PySem.W.findIn K (.ref C) "__getattr__"=some none
 hc:∃cd,PySem.W.clsIn K C=some cd
 ha:PySem.W.findIn K (.ref C) "__class__"=some (some (.builtin "object.__class__"))
 hn:PySem.W.specialIn K (.builtin "object.__class__") "__get__"=some (some (.builtin "getset_descriptor.__get__"))
 ht:PySem.W.takesIn K (.builtin "object.__class__")=some true
 hm:PySem.W.mroIn K C (.type "object")=some true
 hb:PySem.W.mroIn K C (.type "BaseException")=some true
theorem a7n:∀{xs:List V} {us:List Value},us.length=xs.length->(∀(j:Nat) (x:V) (u:Value),xs[j]?=some x->us[j]?=some u->aY x u)->aV xs us
 | [],[],_,_=> .nil
 |x::xs,u::us,hl,h=> .cons (h 0 x u rfl rfl) (a7n (by simpa using hl) fun j y v e1 e2=>h (j+ 1) y v (by simpa using e1) (by simpa using e2))
 | [],_::_,hl,_=>by simp at hl
 |_::_,[],hl,_=>by simp at hl
def cY(lo:Int)(n:Nat):List V:=(List.range n).map fun(i:Nat)=>V.int (lo+ (i:Int))
theorem kN(lo:Int)(n:Nat):(cY lo n).length=n:=by unfold cY;rw[List.length_map,List.length_range]
section
variable{X:Cx}
theorem a7Q:gC X (.type "range") (fun xs H Q=>∃j:Int,xs= [.int j] /\∀p,H p=none->Q (.ref p) (upd H p (.rng 0 j))):=by
 intro pins s σ H xs us Q I r h
 obtain⟨j,rfl,q⟩:=h
 obtain⟨u,rfl,t,rfl⟩:=lX r
 refine call_range_1 ⟨.ref s.heap.objs.size,_,I.laid (a:=s.heap.objs.size) (o:=.rng 0 j) (fun _ _ q=>Heap.get?_push_of_some _ q) (Nat.le_refl _) ?_,rfl,q _ (I.hok.fresh (Nat.le_refl _))⟩
 exact⟨_,_,_,Heap.get?_push_size _ rfl⟩
theorem a8Q(hc:X.calm=true):gC X (.type "list") (fun xs H Q=>∃p lo hi,xs= [.ref p] /\H p=some (.rng lo hi)/\ -(2^ 62)<=lo/\lo<2^ 62/\ -(2^ 62)<=hi/\hi<2^ 62/\(hi- lo).toNat<=2^ 24/\∀l,H l=none->Q (.ref l) (upd H l (.lst (cY lo (hi- lo).toNat)))):=by
 intro pins s σ H xs us Q I r h
 obtain⟨p,lo,hi,rfl,hp,h1,h2,h3,h4,h5,q⟩:=h
 obtain⟨u,rfl,rx⟩:=lX r
 cases rx
 obtain⟨t,u,v,e⟩:=I.hok p _ hp
 have hn:Builtin.Range.rangeSize lo hi 1=((hi- lo).toNat:Int):=by rw[rangeSize_one];split<;>omega
 refine call_list_range (I.ok.hd hc) (show IsRange s.heap p lo hi 1 t u v from e) (small_one h1 h2 h3 h4) hn h5 fun h' tk acc c kp hD hI=> ?_
 refine⟨.ref s.heap.objs.size,_,I.laid (t':=tk) (o:=.lst (cY lo (hi- lo).toNat)) kp (Nat.le_refl _) ?_,rfl,q _ (I.hok.fresh (Nat.le_refl _))⟩
 refine⟨by rw[kN,sizeLine_eq];exact h5,acc.toList,c,a7n (by rw[kN,Array.length_toList];exact hI.1) fun j x u e1 e2=> ?_,by rw[Array.toArray_toList];exact hD⟩
 rw[Array.getElem?_toList]at e2
 obtain⟨t',rfl⟩:=hI.2 j u e2
 unfold cY at e1
 rw[List.getElem?_map]at e1
 cases z:(List.range (hi- lo).toNat)[j]? with
 |none=>rw[z]at e1;cases e1
 |some i=>
  rw[z]at e1
  have:i=j:=by
   have hl:j<(List.range (hi- lo).toNat).length:=(List.getElem?_eq_some_iff.mp z).1
   rw[List.getElem?_eq_getElem hl,List.getElem_range]at z
   exact(Option.some.inj z).symm
  subst this
  cases e1
  exact⟨t',by rw[Int.mul_one]⟩
end
def bB(s:Stmt)(j:Nat):Stmt:=match s with
 | .ClassDef _ _ _ body _ _ _ _ _ _ _=>body.getD j (.Pass ⟨0,0,0,0⟩)
 |_=> .Pass ⟨0,0,0,0⟩
theorem a8g:bootBuiltins "range"=some (.type "range"):=by kernel_rfl
structure aN(P:Program)(w:World)(K:Fg)(mg:Str->Option Value)(base:Heap)(CX:cU)(k:Nat)(C:Addr)(m:Str)(ps:List Str)(sp:Sp):Prop where
 ex:∃f fd,dN P w K mg base CX k f fd ps sp/\pK K C m f/\fR K fd ps []
structure cI(P:Program)(w:World)(K:Fg)(mg:Str->Option Value)(base:Heap)(CX:cU)(k:Nat)(C:Addr)(ps:List Str)(sp:Sp):Prop where
 ex:∃f fd,dN P w K mg base CX k f fd ps sp/\Mk K C f/\fR K fd ps []
structure aQ(K:Fg)(C:Addr)(m qual:Str)(st:Stmt):Prop where
 ex:∃f fd,gU K m qual st f fd/\PySem.W.findIn K (.ref C) m=some (some (.ref f))/\PySem.W.isFn K (.ref f)=true
section
variable{P:Program}{w:World}{K:Fg}{mg:Str->Option Value}{base:Heap}{C:Addr}
theorem aT{m qual:Str}{st:Stmt}{f:Addr}{oc:Value}{od an:Option Addr}{osl:Array (Option Value)}{kV doc pm cdv ct:Value}(a:PySem.W.findIn K (.ref C) m=some (some (.ref f)))(i:PySem.W.isFn K (.ref f)=true)
 (l:K.lookup f=some ⟨oc,od,.func (PySem.W.fnOf m qual (aR st) (aP st) (aB st) .none kV doc pm an cdv ct),osl⟩)(c:PySem.W.codeIn K cdv qual=true)(k:PySem.W.keepIn K (.ref f)=true):aQ K C m qual st:=
 ⟨f,_,a8d l c k,a,i⟩
theorem aQ.known{m qual:Str}{st:Stmt}{N ps:List Str}{k:Nat}{sp:Sp}(D:aQ K C m qual st)(S:aW N ps (aB st))
 (hb:∀(kV doc pm:Value) (an:Option Addr) (cdv ct:Value) (us:List Value),us.length=ps.length->bindArgs (PySem.W.fnOf m qual (aR st) (aP st) (aB st) .none kV doc pm an cdv ct) ⟨us,[]⟩=pure (ps.zip us))
 (len:∀vs H Q E,sp vs H Q E->vs.length=ps.length)
 (hbody:∀(f:Addr) (cdv:Value) (A:Around) (outer:List Env) (s:Shared) (H:Hp) (vs:List V) (Q:VK) (E:XK),bO k (A.deeper (envOfC qual (aB st) s.heap.objs.size f cdv))->sp vs H Q E->
  ∃t,dC (dI aC P w K mg base N qual (aB st) f cdv A outer s H E).nox (aP st) t/\t {nx:=fun _ H'=>Q .non H',rt:=Q} (gR N vs) H):aN P w K mg base aC (k+ 1) C m ps sp:=by
 obtain⟨f,fd,F,ha,hi⟩:=D.ex
 exact⟨f,fd,F.ok S len fun cdv A outer s H vs Q E hr h=>hbody f cdv A outer s H vs Q E hr h,⟨ha,hi,F.kp⟩,F.binds hb⟩
theorem aN.init{CX:cU}{k:Nat}{ps:List Str}{sp:Sp}(G:aN P w K mg base CX k C "__init__" ps sp)(mk:PySem.W.makesIn K C=true)(kc:PySem.W.keepIn K (.ref C)=true):cI P w K mg base CX k C ps sp:=by
 obtain⟨f,fd,F,hm,hb⟩:=G.ex
 exact⟨f,fd,F,⟨mk,hm.at_,hm.fn,kc⟩,hb⟩
end
section
variable{X:Cx}{CX:cU}{k:Nat}{C:Addr}{ps:List Str}{sp:Sp}{E:XK}{x m:Str}{p pos apos:Pos}{e o:Expr}{es:List Expr}{t:TA}{ta:TE}
theorem cH{pl:Sem Bool}(he:PE X o ta)(c:bS X.K C)(G:aN X.prog X.w X.K X.mg X.base CX k C m ps sp)(hr:bO k X.A)(hx:eY CX X E)(ha:PA X (e::es) t)
 (hst:starEach (e::es) X.env=(false,eval e X.env)::starEach es X.env:=by rfl)(hpl:(backTo pos (starEach es X.env)).any (·.1)=false:=by rfl)
 (ht:eval (.Call (.Attribute o m apos) (e::es) [] pos) X.env=(do
  let ov<- eval o X.env
  standAt apos.atName
  let (f,first)<- holding [ov] (getMethod ov m pl)
  callWith pos f first (backTo pos (starEach (e::es) X.env)) (backToKw pos (keywordEach [] X.env))):=by rfl):
 PE X (.Call (.Attribute o m apos) (e::es) [] pos) (vE C m sp [] E ta t):=by
 obtain⟨f,fd,F,hm,hb⟩:=G.ex
 exact a9V (pl:=pl) he c hm F hr hb .nil hx ha hst hpl ht
theorem iX{pl:Sem Bool}(he:PE X o ta)(c:bS X.K C)(G:aN X.prog X.w X.K X.mg X.base CX k C m ps sp)(hr:bO k X.A)(hx:eY CX X E)
 (ht:eval (.Call (.Attribute o m apos) [] [] pos) X.env=(do
  let ov<- eval o X.env
  standAt apos.atName
  let (f,first)<- holding [ov] (getMethod ov m pl)
  callWith pos f first (backTo pos (starEach [] X.env)) (backToKw pos (keywordEach [] X.env))):=by rfl):
 PE X (.Call (.Attribute o m apos) [] [] pos) (vE C m sp [] E ta iI):=by
 obtain⟨f,fd,F,hm,hb⟩:=G.ex
 exact b3y (pl:=pl) he c hm F hr hb .nil hx ht
theorem gH(G:cI X.prog X.w X.K X.mg X.base CX k C ps sp)(hr:bO (k+ 1) X.A)(hm:X.mg x=some (.ref C))(hx:eY CX X E)
 (ha:PA X (e::es) t)(hg:Gl X x:=by rfl)(hdb:(x==("__debug__":Str))=false:=by decide)(he:starEach (e::es) X.env=(false,eval e X.env)::starEach es X.env:=by rfl)(hpl:(backTo pos (starEach es X.env)).any (·.1)=false:=by rfl):
 PE X (.Call (.Name x p) (e::es) [] pos) (tM C sp [] E t):=by
 obtain⟨f,fd,F,M,hb⟩:=G.ex
 exact b0H M F hr hg hm hb .nil hx ha hdb he hpl
end
noncomputable def iU (cells:List (Str×Addr)):List (Str×NameKind)->List (Str×Addr)->List (Str×Addr)
 | [],acc=>acc
 |(n,k)::r,acc=>iU cells r (if k== .free then(n,(cells.lookup n).getD 0)::acc else acc)
theorem a4K{env:Env}:∀{names:List (Str×NameKind)} {acc:List (Str×Addr)},(∀y∈names,y.2= .free->∃c,env.cells.lookup y.1=some c)->
 (forIn names acc fun(x:Str×NameKind) (cs:List (Str×Addr))=>(do
  let (name,kind):=x
  if kind==NameKind.free then(do let a<- cellOf env name;pure (ForInStep.yield ((name,a)::cs))) else pure (ForInStep.yield cs):Sem (ForInStep (List (Str×Addr)))))=pure (iU env.cells names acc)
 | [],acc,_=>rfl
 |(n,k)::r,acc,h=>by
  rw[List.forIn_cons]
  by_cases hk:(k==NameKind.free)=true
  ·obtain⟨c,hc⟩:=h (n,k) List.mem_cons_self (by simpa using hk)
   have e:cellOf env n=pure c:=by unfold cellOf;rw[show env.cells.lookup n=some c from hc]
   have ih:=a4K (env:=env) (names:=r) (acc:=(n,c)::acc) fun y hy=>h y (List.mem_cons_of_mem _ hy)
   show(do let r<- (if k==NameKind.free then(do let a<- cellOf env n;pure (ForInStep.yield ((n,a)::acc))) else pure (ForInStep.yield acc):Sem (ForInStep (List (Str×Addr))));_)=_
   rw[if_pos hk,e,pure_bind,pure_bind]
   refine Eq.trans ih ?_
   show _=pure (iU env.cells r (if(k==NameKind.free)=true then(n,(env.cells.lookup n).getD 0)::acc else acc))
   rw[if_pos hk,show env.cells.lookup n=some c from hc]
   rfl
  ·have ih:=a4K (env:=env) (names:=r) (acc:=acc) fun y hy=>h y (List.mem_cons_of_mem _ hy)
   show(do let r<- (if k==NameKind.free then(do let a<- cellOf env n;pure (ForInStep.yield ((n,a)::acc))) else pure (ForInStep.yield acc):Sem (ForInStep (List (Str×Addr))));_)=_
   rw[if_neg hk,pure_bind]
   refine Eq.trans ih ?_
   show _=pure (iU env.cells r (if(k==NameKind.free)=true then(n,(env.cells.lookup n).getD 0)::acc else acc))
   rw[if_neg hk]
theorem a8A{cells:List (Str×Addr)}:∀{names:List (Str×NameKind)} {acc:List (Str×Addr)},(∀y∈names,y.2= .free->∃c,cells.lookup y.1=some c)->(∀x c,acc.lookup x=some c->cells.lookup x=some c)->
 ∀x c,(iU cells names acc).lookup x=some c->cells.lookup x=some c
 | [],_,_,h=>h
 |(n,k)::r,acc,hf,h=>by
  refine a8A (names:=r) (fun y hy=>hf y (List.mem_cons_of_mem _ hy)) ?_
  intro x c e
  by_cases hk:(k==NameKind.free)=true
  ·obtain⟨c',hc⟩:=hf (n,k) List.mem_cons_self (by simpa using hk)
   have hc':cells.lookup n=some c':=hc
   rw[if_pos hk,hc',List.lookup_cons]at e
   by_cases hx:(x==n)=true
   ·rw[hx]at e
    cases e
    have:x=n:=by simpa using hx
    rw[this]
    exact hc'
   ·rw[show (x==n)=false by simpa using hx]at e
    exact h x c e
  ·rw[if_neg hk]at e
   exact h x c e
theorem a68{cells:List (Str×Addr)}:∀{names:List (Str×NameKind)} {acc:List (Str×Addr)} {x:Str},(∃c,acc.lookup x=some c)->∃c,(iU cells names acc).lookup x=some c
 | [],_,_,h=>h
 |(n,k)::r,acc,x,⟨c,h⟩=>by
  refine a68 (names:=r) ?_
  by_cases hk:(k==NameKind.free)=true
  ·rw[if_pos hk,List.lookup_cons]
   cases hx:x==n with
   |true=>exact⟨_,rfl⟩
   |false=>exact⟨c,h⟩
  ·rw[if_neg hk]
   exact⟨c,h⟩
theorem a4G{cells:List (Str×Addr)}:∀{names:List (Str×NameKind)} {acc:List (Str×Addr)} {x:Str},(x,NameKind.free)∈names->∃c,(iU cells names acc).lookup x=some c
 |(n,k)::r,acc,x,h=>by
  rcases List.mem_cons.mp h with e|h
  ·cases e
   refine a68 (names:=r) ⟨(cells.lookup n).getD 0,?_⟩
   rw[if_pos (by rfl),List.lookup_cons,beq_self_eq_true]
  ·exact a4G (names:=r) h
theorem a8V{env:Env}:∀{names:List (Str×NameKind)} {x:Str},names.lookup x=some .free->
 (names.map fun(n,k)=>if(k==NameKind.free&&env.scope.kind== .function&&env.kindOf n==some .cell) then(n,NameKind.cell) else(n,k)).lookup x=some .cell\/
 (names.map fun(n,k)=>if(k==NameKind.free&&env.scope.kind== .function&&env.kindOf n==some .cell) then(n,NameKind.cell) else(n,k)).lookup x=some .free
 | [],_,h=>by simp at h
 |(n,k)::r,x,h=>by
  have ih:= @a8V env r x
  rw[List.lookup_cons]at h
  rw[List.map_cons]
  cases hx:x==n with
  |true=>
   rw[hx]at h
   cases h
   by_cases hc:(NameKind.free==NameKind.free&&env.scope.kind== .function&&env.kindOf n==some .cell)=true
   ·simp only[hc,if_true,List.lookup_cons,hx]
    exact .inl trivial
   ·simp only[hc,if_false,List.lookup_cons,hx,Bool.false_eq_true]
    exact .inr trivial
  |false=>
   rw[hx]at h
   by_cases hc:(k==NameKind.free&&env.scope.kind== .function&&env.kindOf n==some .cell)=true
   ·simp only[hc,if_true,List.lookup_cons,hx]
    exact ih h
   ·simp only[hc,if_false,List.lookup_cons,hx,Bool.false_eq_true]
    exact ih h
theorem lE{X:Cx}{scope:Scope}{cp:List (Nat×Str)}{sc:Scope}{N:List Str}(hcell:∀x,X.env.scope.names.lookup x=some .cell->∃c,X.env.cells.lookup x=some c)(hs:X.env.scope=sc:=by rfl)(hN:X.N=N:=by rfl)
 (kind:scope.kind= .function:=by rfl)(plain:∀y∈scope.names,y.2≠ .cell:=by decide)(names:∀y∈scope.names,y.2= .local->scope.names.lookup y.1=some .local:=by decide+kernel)
 (free:∀y∈scope.names,y.2= .free->sc.names.lookup y.1=some .cell:=by decide+kernel)(aw9:∀p∈cp,N[p.1]?=some p.2/\sc.names.lookup p.2=some .cell/\scope.names.lookup p.2=some .free:=by decide+kernel):
 kR X scope (iU X.env.cells scope.names []) cp:=by
 subst hs hN
 have hf:∀y∈scope.names,y.2= .free->∃c,X.env.cells.lookup y.1=some c:=fun y hy e=>hcell _ (free y hy e)
 refine⟨kind,plain,names,?_,a8A hf (fun x c e=>by cases e),fun x h=> ?_,fun p hp=> ?_⟩
 ·show closureFor scope X.env=_
  simp only[closureFor]
  have:=a4K (env:=X.env) (acc:=[]) hf
  exact(congrArg (fun z=>z>>=fun r=>pure r) this).trans (pure_bind _ _)
 ·have hm:∀k,(relabel scope X.env).names.lookup x=some k->(k= .cell\/ k= .free)->(x,NameKind.free)∈scope.names:=fun k e hk=>by
   have m:=PySem.mem_of_lookup e
   unfold relabel at m
   obtain⟨⟨n,k'⟩,hy,e'⟩:=List.mem_map.mp m
   have nc:=plain _ hy
   by_cases hc:(k'==NameKind.free&&X.env.scope.kind== .function&&X.env.kindOf n==some .cell)=true
   ·simp only[hc,if_true]at e'
    have e1:n=x:=congrArg (·.1) e'
    have:k'= .free:=by simp only[Bool.and_eq_true,beq_iff_eq]at hc;exact hc.1.1
    subst e1 this
    exact hy
   ·simp only[hc,if_false,Bool.false_eq_true]at e'
    have e1:n=x:=congrArg (·.1) e'
    have e2:k'=k:=congrArg (·.2) e'
    subst e1 e2
    rcases hk with z|z
    ·exact absurd z nc
    ·subst z;exact hy
  rcases h with h|h
  ·exact a4G (hm _ h (.inl rfl))
  ·exact a4G (hm _ h (.inr rfl))
 ·obtain⟨h1,h2,h3⟩:=aw9 p hp
  exact⟨h1,.inl h2,a8V h3⟩
section
variable{X:Cx}{e st:Expr}{te:TE}{ts:TO}{p2 pos:Pos}
theorem cD{st:Stmt}:PS X st (fun _ _ _=>False):=fun _ _ _ _ _ _ h=>h.elim
end
structure Maker(mg:Str->Option Value)(base:Heap)(c P:Addr):Prop where
 hd:PySem.W.CodeHd base c P
 bt:base.BuiltinsAt mg P
theorem b29{H:Hp}{a:Addr}{o:HO}(h:H a=some o):upd H a o=H:=by
 funext b
 unfold upd
 split
 ·rename_i e;subst e;exact h.symm
 ·rfl
structure TabOf(q:Program)(K:Fg)(z:Addr×Addr):Prop where
 ex:∃x:Str,((recsOf q).find? (fun e=>e.name==x)).isSome=true/\PySem.W.tabIn K x=some z
structure ClsM(K:Fg)(C:Addr)(m:Str):Prop where
 ga:PySem.W.specialIn K (.ref C) "__getattribute__"=some (some (.builtin "type.__getattribute__"))
 ex:∃(mc:Value) (f:Addr),PySem.W.readsIn K C mc=true/\PySem.W.findCls K (.ref C) mc m=some (.val (.ref f))/\PySem.W.findIn K (.ref C) m=some (some (.ref f))
structure DefT(K:Fg)(mg:Str->Option Value)(x:Str)(st:Stmt)(z:Addr×Addr):Prop where
 ex:∃f fd,gU K x x st f fd/\mg x=some (.ref f)/\fd.code= .ref z.1
 tab:PySem.W.tabIn K x=some z
def Fz(o:Obj):HO:=.frz o (.ext fun _=>True)
abbrev Lend:=Addr->Option Obj
structure Lent(X:Cx)(σ:St)(H:Hp)(f:Lend):Prop where
 free:∀b o,f b=some o->H b=none
 cell:∀x c,X.env.cells.lookup x=some c->∃o v,f c=some o/\o.data= .cell v
 val:∀(i:Nat) x v,X.N[i]?=some x->σ[i]?=some (some v)->X.env.scope.names.lookup x=some .cell->∃c o u,X.env.cells.lookup x=some c/\f c=some o/\o.data= .cell (some u)/\aY v u
 inj:∀x y c,X.env.cells.lookup x=some c->X.env.cells.lookup y=some c->x=y
structure LamFn(P:Program)(w:World)(K:Fg)(mg:Str->Option Value)(base:Heap)(k:Nat)(fa:Addr)(sp:Sp):Prop where
 fn:∀vs H Q E,sp vs H Q E->∃c d fd sl,H fa=some (Fz ⟨c,d,.func fd,sl⟩)
 run:∀(A:Around) (outer:List Env) (s:Shared) (H:Hp) (us:List Value) (vs:List V) (Q:VK) (E:XK),bO k A->hZ P w K mg base A outer s H->aV vs us->sp vs H Q E->
  codeAny (model P w) A (.call (.ref fa) ⟨us,[]⟩) (CR aC outer P w H s Q E) s
structure a9j where
 nx:St->Hp->Prop
 rt:V->St->Hp->Prop
abbrev TSR:=a9j->St->Hp->Prop
structure PEw(X:Cx)(e:Expr)(t:TE):Prop where
 run:PE X e t
structure PAw(X:Cx)(es:List Expr)(t:TA):Prop where
 run:PA X es t
structure PTw(X:Cx)(e:Expr)(t:TT):Prop where
 run:PT X e t
structure PSw(X:Cx)(st:Stmt)(t:TS):Prop where
 run:PS X st t
structure PSsw(X:Cx)(st:List Stmt)(t:TS):Prop where
 run:dC X st t
def a7a(R:Addr->Sp->Prop)(m:Str)(E:XK)(ta:TE)(t:TA):TE:=fun σ H Q=>ta σ H fun x H1=>∃C sp a dx fs,R C sp/\x= .ref a/\H1 a=some (.ins C dx fs)/\fs.lookup m=none/\t σ H1 fun vs H2=>sp (x::vs) H2 Q E
section
variable{X:Cx}{CX:cU}{k:Nat}{R:Addr->Sp->Prop}{ps:List Str}{E:XK}{m:Str}{pos apos:Pos}{e o:Expr}{es:List Expr}{t:TA}{ta:TE}
theorem gA{pl:Sem Bool}(he:PE X o ta)(hR:∀C sp,R C sp->bS X.K C/\aN X.prog X.w X.K X.mg X.base CX k C m ps sp)(hr:bO k X.A)(hx:eY CX X E)(ha:PA X (e::es) t)
 (hst:starEach (e::es) X.env=(false,eval e X.env)::starEach es X.env:=by rfl)(hpl:(backTo pos (starEach es X.env)).any (·.1)=false:=by rfl)
 (ht:eval (.Call (.Attribute o m apos) (e::es) [] pos) X.env=(do
  let ov<- eval o X.env
  standAt apos.atName
  let (f,first)<- holding [ov] (getMethod ov m pl)
  callWith pos f first (backTo pos (starEach (e::es) X.env)) (backToKw pos (keywordEach [] X.env))):=by rfl):
 PE X (.Call (.Attribute o m apos) (e::es) [] pos) (a7a R m E ta t):=by
 intro pins s σ H Q I h
 refine PySem.W.methodCall_KW (pl:=pl) (aO (he pins s σ H _ I h) fun u s1 ⟨x,H1,I1,rx,C,sp,a,dx,fs,hC,ex,ea,l,q⟩=> ?_) ht
 obtain⟨c,G⟩:=hR C sp hC
 obtain⟨f,fd,F,hm,hb⟩:=G.ex
 subst ex
 obtain rfl:u=Value.ref a:=rx
 refine nG I1 ea c hm l ?_
 refine PySem.W.callWith_K (first:=[.ref a]) (h₀:=X.base) I.ok.mod.kin hm.kp (aO (ha pos pins s1 σ H1 _ I1 q) fun us s2 ⟨vs,H2,I2,r,q2⟩=>⟨I2.kIn,?_⟩) hst hpl
 exact oS (us:=.ref a::us) (vs:=.ref a::vs) F hr hb .nil hx I2 (.cons rfl r) (by rw[List.append_nil];exact q2)
end
theorem aN.le{P:Program}{w:World}{K:Fg}{mg:Str->Option Value}{base:Heap}{CX:cU}{j k:Nat}{C:Addr}{m:Str}{ps:List Str}{sp:Sp}(G:aN P w K mg base CX j C m ps sp)(h:j<=k):aN P w K mg base CX k C m ps sp:=by
 obtain⟨f,fd,F,hm,hb⟩:=G.ex
 exact⟨f,fd,F.mono h,hm,hb⟩
structure PPw(X:Cx)(pos:Pos)(keys:List (Option Expr))(values:List Expr)(trs:List (TE×TE)):Prop where
 run:PPs X pos keys values trs
structure KDict(P:Params)(K:Fg)(p:Addr):Prop where
 ex:∃(es:Array DictEntry) (n:Nat),K.lookup p=some ⟨.type "dict",none,.dict es n,#[]⟩ /\PySem.W.KeysLit P es.toList
 lo:(p==sysModules)=false
structure FnV(P:Program)(w:World)(K:Fg)(mg:Str->Option Value)(base:Heap)(k:Nat)(fa:Addr)(sp:Sp):Prop where
 kp:PySem.W.keepIn K (.ref fa)=true
 run:∀(A:Around) (outer:List Env) (s:Shared) (H:Hp) (us:List Value) (vs:List V) (Q:VK) (E:XK),bO k A->hZ P w K mg base A outer s H->K.In s.heap->aV vs us->sp vs H Q E->
  codeAny (model P w) A (.call (.ref fa) ⟨us,[]⟩) (CR aC outer P w H s Q E) s
theorem jM(z:Str):∀zs:List Str,dL (.str z) (zs.map V.str)=decide (z∈zs)
 | []=>rfl
 |y::r=>by
  have ih:=jM z r
  unfold dL at ih|-
  rw[List.map_cons,List.any_cons,ih]
  have e:gQ (.str y) (.str z)=decide (y=z):=by
   by_cases h:y=z<;>simp[gQ,h]
  rw[e,<- Bool.decide_or]
  congr 1
  rw[List.mem_cons]
  exact propext ⟨fun h=>h.imp Eq.symm id,fun h=>h.imp Eq.symm id⟩
theorem iK:∀zs:List Str,(zs.map V.str).all iL=true
 | []=>rfl
 |y::r=>by
  rw[List.map_cons,List.all_cons,iK r]
  rfl
structure MthT(K:Fg)(mg:Str->Option Value)(cls m qual:Str)(st:Stmt)(z:Addr×Addr):Prop where
 ex:∃C f fd,mg cls=some (.ref C)/\gU K m qual st f fd/\PySem.W.findIn K (.ref C) m=some (some (.ref f))/\PySem.W.isFn K (.ref f)=true/\fd.code= .ref z.1
 hd:PySem.W.codeHdIn K z.1 z.2=true
theorem b20{X:Cx}:gC X (.builtin "isinstance") (fun xs H Q=>∃x T t k,xs= [x,.ty T] /\fQ X.K H x t/\PySem.W.kitOne X.K t (.type T)=some k/\Q (.bl k) H):=by
 intro pins s σ H xs us Q I r h
 obtain⟨x,T,t,k,rfl,ty,e,q⟩:=h
 cases r with
 |cons r1 rr=>
  cases rr with
  |cons r2 rr=>
   cases rr
   cases r2
   exact b1z I r1 ty e fun tk=>⟨.bl k,H,I.tok tk,rfl,q⟩
structure LentC(X:Cx)(σ:St)(H:Hp)(f:Lend):Prop extends Lent X σ H f where
 only:∀b o,f b=some o->∃v,o.data= .cell v
section
variable{X:Cx}{k:Nat}{C:Addr}{ps:List Str}{sp:Sp}{x m:Str}{p pos apos:Pos}{e o:Expr}{es:List Expr}{t:TA}{ta:TE}{CX:cU}{E:XK}
theorem b1W(G:cI X.prog X.w X.K X.mg X.base CX k C ps sp)(hr:bO (k+ 1) X.A)(hm:X.mg x=some (.ref C))(hx:eY CX X E)(hg:Gl X x:=by rfl)(hdb:(x==("__debug__":Str))=false:=by decide):
 PE X (.Call (.Name x p) [] [] pos) (tM C sp [] E iI):=by
 obtain⟨f,fd,F,M,hb⟩:=G.ex
 exact b1L M F hr hg hm hb .nil hx hdb
end
section
variable{X:Cx}{CX:cU}{k:Nat}{R:Addr->Sp->Prop}{ps:List Str}{E:XK}{m:Str}{pos apos:Pos}{o:Expr}{ta:TE}
theorem fV{pl:Sem Bool}(he:PE X o ta)(hR:∀C sp,R C sp->bS X.K C/\aN X.prog X.w X.K X.mg X.base CX k C m ps sp)(hr:bO k X.A)(hx:eY CX X E)
 (ht:eval (.Call (.Attribute o m apos) [] [] pos) X.env=(do
  let ov<- eval o X.env
  standAt apos.atName
  let (f,first)<- holding [ov] (getMethod ov m pl)
  callWith pos f first (backTo pos (starEach [] X.env)) (backToKw pos (keywordEach [] X.env))):=by rfl):
 PE X (.Call (.Attribute o m apos) [] [] pos) (a7a R m E ta iI):=by
 intro pins s σ H Q I h
 refine PySem.W.methodCall_KW (pl:=pl) (aO (he pins s σ H _ I h) fun u s1 ⟨x,H1,I1,rx,C,sp,a,dx,fs,hC,ex,ea,l,q⟩=> ?_) ht
 obtain⟨c,G⟩:=hR C sp hC
 obtain⟨f,fd,F,hm,hb⟩:=G.ex
 subst ex
 obtain rfl:u=Value.ref a:=rx
 refine nG I1 ea c hm l ?_
 exact PySem.W.callWith_K0 (first:=[.ref a]) I1.kIn hm.kp (oS (us:=[.ref a]) (vs:=[.ref a]) F hr hb .nil hx I1 (.cons rfl .nil) q)
end
end L2
namespace My
open PySem L2
def aU(i:Nat):Stmt:=PySem.Challenge.pw_lazycols_k44_cut_and_together.main.body.getD i (.Pass ⟨0,0,0,0⟩)
abbrev pJ:Stmt:=aU 13
abbrev pO:Stmt:=aU 14
abbrev oR:Stmt:=aU 15
abbrev sQ:Stmt:=aU 16
abbrev nF:Stmt:=aU 17
abbrev qC:Stmt:=aU 21
abbrev rG:Stmt:=aU 22
abbrev qR:Stmt:=aU 23
abbrev oT:Stmt:=aU 26
abbrev sP:Stmt:=aU 27
abbrev nD:Stmt:=aU 44
abbrev rZ:Stmt:=aU 45
abbrev sK:Stmt:=aU 46
abbrev iP:Stmt:=aU 47
abbrev fG:Stmt:=aU 48
abbrev pB:Stmt:=bB (aU 24) 0
abbrev nO:Stmt:=bB (aU 24) 1
abbrev tV:Stmt:=bB (aU 24) 3
abbrev kJ:Stmt:=bB (aU 24) 4
abbrev uZ:Stmt:=bB (aU 24) 5
abbrev mX:Stmt:=bB (aU 24) 7
abbrev oJ:Stmt:=bB (aU 24) 11
abbrev pA:Stmt:=bB (aU 24) 13
abbrev rL:Stmt:=bB (aU 28) 0
abbrev nU:Stmt:=bB (aU 28) 1
abbrev lJ:Stmt:=bB (aU 29) 0
abbrev uV:Stmt:=bB (aU 29) 1
abbrev mT:Stmt:=bB (aU 29) 2
abbrev mQ:Stmt:=bB (aU 29) 3
abbrev iF:Stmt:=bB (aU 29) 4
abbrev iM:Stmt:=bB (aU 29) 5
abbrev gB:Stmt:=bB (aU 29) 6
abbrev iC:Stmt:=bB (aU 29) 7
abbrev hU:Stmt:=bB (aU 29) 9
abbrev nH:Stmt:=bB (aU 30) 0
abbrev pP:Stmt:=bB (aU 30) 1
abbrev rQ:Stmt:=bB (aU 30) 2
abbrev oO:Stmt:=bB (aU 30) 3
abbrev oP:Stmt:=bB (aU 30) 4
abbrev rV:Stmt:=bB (aU 31) 0
abbrev rC:Stmt:=bB (aU 31) 1
abbrev mZ:Stmt:=bB (aU 32) 0
abbrev iY:Stmt:=bB (aU 32) 1
abbrev iA:Stmt:=bB (aU 32) 2
abbrev nQ:Stmt:=bB (aU 32) 3
abbrev oI:Stmt:=bB (aU 32) 4
abbrev oU:Stmt:=bB (aU 34) 0
abbrev nC:Stmt:=bB (aU 34) 1
abbrev nY:Stmt:=bB (aU 34) 2
abbrev nR:Stmt:=bB (aU 34) 3
abbrev pM:Stmt:=bB (aU 34) 4
abbrev sU:Stmt:=bB (aU 34) 5
abbrev nX:Stmt:=bB (aU 35) 0
abbrev oF:Stmt:=bB (aU 35) 1
abbrev pC:Stmt:=bB (aU 36) 0
abbrev nZ:Stmt:=bB (aU 36) 1
abbrev qX:Stmt:=bB (aU 40) 0
abbrev tT:Stmt:=bB (aU 40) 1
abbrev nI:Stmt:=bB (aU 41) 0
abbrev sH:Stmt:=bB (aU 41) 1
abbrev nK:Stmt:=bB (aU 41) 2
abbrev sX:Stmt:=bB (aU 41) 3
abbrev vF:Stmt:=bB (aU 41) 4
abbrev oA:Stmt:=bB (aU 41) 5
abbrev rP:Stmt:=bB (aU 42) 0
abbrev pW:Stmt:=bB (aU 42) 1
abbrev qN:Stmt:=bB (aU 42) 2
abbrev uA:Stmt:=bB (aU 42) 8
abbrev pR:Stmt:=bB (aU 42) 9
abbrev oW:Stmt:=bB (aU 42) 11
abbrev pS:Stmt:=bB (aU 42) 12
abbrev nW:Stmt:=bB (aU 42) 16
abbrev oG:Stmt:=bB (aU 42) 17
abbrev qI:Stmt:=bB (aU 42) 18
abbrev oY:Stmt:=bB (aU 42) 19
abbrev nT:Stmt:=bB (aU 42) 20
structure cX(K:Fg)(mg:Str->Option Value)(C:Addr):Prop where
 c:mg "Table"=some (.ref C)
 cl:bS K C
 mks:PySem.W.makesIn K C=true
 kc:PySem.W.keepIn K (.ref C)=true
 hc:PySem.W.findIn K (.ref C) "__class__"=some (some (.builtin "object.__class__"))
 n_row_numbers:bN K C "row_numbers"
 n_fresh_number:bN K C "fresh_number"
 n_kept:bN K C "kept"
 m_init:aQ K C "__init__" "Table.__init__" pB
 m_many:aQ K C "many" "Table.many" nO
 m_columns:aQ K C "columns" "Table.columns" tV
 m_give:aQ K C "give" "Table.give" kJ
 m_drop:aQ K C "drop" "Table.drop" uZ
 m_at:aQ K C "at" "Table.at" mX
 m_number_at:aQ K C "number_at" "Table.number_at" oJ
 m_check_column:aQ K C "check_column" "Table.check_column" pA
structure kY(K:Fg)(mg:Str->Option Value)(C:Addr):Prop where
 c:mg "Spot"=some (.ref C)
 cl:bS K C
 mks:PySem.W.makesIn K C=true
 kc:PySem.W.keepIn K (.ref C)=true
 hc:PySem.W.findIn K (.ref C) "__class__"=some (some (.builtin "object.__class__"))
 n_sheet:bN K C "sheet"
 n_name:bN K C "name"
 n_column:bN K C "column"
 n_place:bN K C "place"
 m_init:aQ K C "__init__" "Spot.__init__" rL
 m_told:aQ K C "told" "Spot.told" nU
structure b06(K:Fg)(mg:Str->Option Value)(C:Addr):Prop where
 c:mg "View"=some (.ref C)
 cl:bS K C
 mks:PySem.W.makesIn K C=true
 kc:PySem.W.keepIn K (.ref C)=true
 hc:PySem.W.findIn K (.ref C) "__class__"=some (some (.builtin "object.__class__"))
 m_columns:aQ K C "columns" "View.columns" lJ
 m_rows:aQ K C "rows" "View.rows" uV
 m_value_at:aQ K C "value_at" "View.value_at" mT
 m_spots_at:aQ K C "spots_at" "View.spots_at" mQ
 m_many:aQ K C "many" "View.many" iF
 m_look:aQ K C "look" "View.look" iM
 m_shown:aQ K C "shown" "View.shown" gB
 m_spots:aQ K C "spots" "View.spots" iC
 m_asked_row:aQ K C "asked_row" "View.asked_row" hU
structure qP(K:Fg)(mg:Str->Option Value)(C:Addr):Prop where
 c:mg "Whole"=some (.ref C)
 cl:bS K C
 mks:PySem.W.makesIn K C=true
 kc:PySem.W.keepIn K (.ref C)=true
 hc:PySem.W.findIn K (.ref C) "__class__"=some (some (.builtin "object.__class__"))
 n_sheet:bN K C "sheet"
 n_name:bN K C "name"
 m_init:aQ K C "__init__" "Whole.__init__" nH
 m_columns:aQ K C "columns" "Whole.columns" pP
 m_rows:aQ K C "rows" "Whole.rows" rQ
 m_value_at:aQ K C "value_at" "Whole.value_at" oO
 m_spots_at:aQ K C "spots_at" "Whole.spots_at" oP
 m_many:aQ K C "many" "View.many" iF
 m_look:aQ K C "look" "View.look" iM
 m_shown:aQ K C "shown" "View.shown" gB
 m_spots:aQ K C "spots" "View.spots" iC
 m_asked_row:aQ K C "asked_row" "View.asked_row" hU
structure mU(K:Fg)(mg:Str->Option Value)(C:Addr):Prop where
 c:mg "Cut"=some (.ref C)
 cl:bS K C
 mks:PySem.W.makesIn K C=true
 kc:PySem.W.keepIn K (.ref C)=true
 hc:PySem.W.findIn K (.ref C) "__class__"=some (some (.builtin "object.__class__"))
 n_view:bN K C "view"
 n_start:bN K C "start"
 n_count:bN K C "count"
 m_init:aQ K C "__init__" "Cut.__init__" rV
 m_rows:aQ K C "rows" "Cut.rows" rC
 m_columns:aQ K C "columns" "View.columns" lJ
 m_value_at:aQ K C "value_at" "View.value_at" mT
 m_spots_at:aQ K C "spots_at" "View.spots_at" mQ
 m_many:aQ K C "many" "View.many" iF
 m_look:aQ K C "look" "View.look" iM
 m_shown:aQ K C "shown" "View.shown" gB
 m_spots:aQ K C "spots" "View.spots" iC
 m_asked_row:aQ K C "asked_row" "View.asked_row" hU
structure lY(K:Fg)(mg:Str->Option Value)(C:Addr):Prop where
 c:mg "Together"=some (.ref C)
 cl:bS K C
 mks:PySem.W.makesIn K C=true
 kc:PySem.W.keepIn K (.ref C)=true
 hc:PySem.W.findIn K (.ref C) "__class__"=some (some (.builtin "object.__class__"))
 n_one:bN K C "one"
 n_other:bN K C "other"
 m_init:aQ K C "__init__" "Together.__init__" mZ
 m_columns:aQ K C "columns" "Together.columns" iY
 m_rows:aQ K C "rows" "Together.rows" iA
 m_value_at:aQ K C "value_at" "Together.value_at" nQ
 m_spots_at:aQ K C "spots_at" "Together.spots_at" oI
 m_many:aQ K C "many" "View.many" iF
 m_look:aQ K C "look" "View.look" iM
 m_shown:aQ K C "shown" "View.shown" gB
 m_spots:aQ K C "spots" "View.spots" iC
 m_asked_row:aQ K C "asked_row" "View.asked_row" hU
structure cV(K:Fg)(mg:Str->Option Value)(C:Addr):Prop where
 c:mg "Board"=some (.ref C)
 cl:bS K C
 mks:PySem.W.makesIn K C=true
 kc:PySem.W.keepIn K (.ref C)=true
 hc:PySem.W.findIn K (.ref C) "__class__"=some (some (.builtin "object.__class__"))
 n_given:bN K C "given"
 n_rules:bN K C "rules"
 n_memory:bN K C "memory"
 n_order:bN K C "order"
 m_init:aQ K C "__init__" "Board.__init__" oU
 m_has_column:aQ K C "has_column" "Board.has_column" nC
 m_content:aQ K C "content" "Board.content" nY
 m_set_column:aQ K C "set_column" "Board.set_column" nR
 m_empty_column:aQ K C "empty_column" "Board.empty_column" pM
 m_outcome:aQ K C "outcome" "Board.outcome" sU
structure lW(K:Fg)(mg:Str->Option Value)(C:Addr):Prop where
 c:mg "TableTold"=some (.ref C)
 cl:bS K C
 mks:PySem.W.makesIn K C=true
 kc:PySem.W.keepIn K (.ref C)=true
 hc:PySem.W.findIn K (.ref C) "__class__"=some (some (.builtin "object.__class__"))
 n_boards:bN K C "boards"
 n_name:bN K C "name"
 n_size:bN K C "size"
 m_init:aQ K C "__init__" "TableTold.__init__" nX
 m_take:aQ K C "take" "TableTold.take" oF
structure mO(K:Fg)(mg:Str->Option Value)(C:Addr):Prop where
 c:mg "ColumnSet"=some (.ref C)
 cl:bS K C
 mks:PySem.W.makesIn K C=true
 kc:PySem.W.keepIn K (.ref C)=true
 hc:PySem.W.findIn K (.ref C) "__class__"=some (some (.builtin "object.__class__"))
 n_board:bN K C "board"
 n_column:bN K C "column"
 n_after:bN K C "after"
 n_before:bN K C "before"
 m_init:aQ K C "__init__" "ColumnSet.__init__" pC
 m_take:aQ K C "take" "ColumnSet.take" nZ
structure a7l(K:Fg)(mg:Str->Option Value)(C:Addr):Prop where
 c:mg "Trial"=some (.ref C)
 cl:bS K C
 mks:PySem.W.makesIn K C=true
 kc:PySem.W.keepIn K (.ref C)=true
 hc:PySem.W.findIn K (.ref C) "__class__"=some (some (.builtin "object.__class__"))
 n_finder:bN K C "finder"
 n_looked:bN K C "looked"
 n_lacking:bN K C "lacking"
 m_init:aQ K C "__init__" "Trial.__init__" qX
 m_look:aQ K C "look" "Trial.look" tT
structure fO(K:Fg)(mg:Str->Option Value)(C:Addr):Prop where
 c:mg "Finder"=some (.ref C)
 cl:bS K C
 mks:PySem.W.makesIn K C=true
 kc:PySem.W.keepIn K (.ref C)=true
 hc:PySem.W.findIn K (.ref C) "__class__"=some (some (.builtin "object.__class__"))
 n_boards:bN K C "boards"
 n_found:bN K C "found"
 n_looked:bN K C "looked"
 m_init:aQ K C "__init__" "Finder.__init__" nI
 m_value_of:aQ K C "value_of" "Finder.value_of" sH
 m_attempt:aQ K C "attempt" "Finder.attempt" nK
 m_gathered:aQ K C "gathered" "Finder.gathered" sX
 m_settle:aQ K C "settle" "Finder.settle" vF
 m_knows:aQ K C "knows" "Finder.knows" oA
structure dU(K:Fg)(mg:Str->Option Value)(C:Addr):Prop where
 c:mg "Sheet"=some (.ref C)
 cl:bS K C
 mks:PySem.W.makesIn K C=true
 kc:PySem.W.keepIn K (.ref C)=true
 hc:PySem.W.findIn K (.ref C) "__class__"=some (some (.builtin "object.__class__"))
 n_boards:bN K C "boards"
 n_changes:bN K C "changes"
 n_finder:bN K C "finder"
 m_init:aQ K C "__init__" "Sheet.__init__" rP
 m_table:aQ K C "table" "Sheet.table" pW
 m_give:aQ K C "give" "Sheet.give" qN
 m_tables:aQ K C "tables" "Sheet.tables" uA
 m_columns:aQ K C "columns" "Sheet.columns" pR
 m_many:aQ K C "many" "Sheet.many" oW
 m_cell:aQ K C "cell" "Sheet.cell" pS
 m_make:aQ K C "make" "Sheet.make" nW
 m_board_of:aQ K C "board_of" "Sheet.board_of" oG
 m_board_with:aQ K C "board_with" "Sheet.board_with" qI
 m_board_for:aQ K C "board_for" "Sheet.board_for" oY
 m_check_cell:aQ K C "check_cell" "Sheet.check_cell" nT
structure bA(K:Fg)(mg:Str->Option Value):Prop where
 len:mg "len"=none
 isinstance:mg "isinstance"=none
 int:mg "int"=none
 bool:mg "bool"=none
 str:mg "str"=none
 all:mg "all"=none
 range:mg "range"=none
 abs:mg "abs"=none
 list:mg "list"=none
 tuple:mg "tuple"=none
 max:mg "max"=none
 ValueError:mg "ValueError"=none
 g_LETTERS:∃t,mg "LETTERS"=some (.str ("abcdefghijklmnopqrstuvwxyz":Str) t)
 g_MOST_LETTERS:∃t,mg "MOST_LETTERS"=some (.int 8 t)
 g_MOST_ROWS:∃t,mg "MOST_ROWS"=some (.int 30 t)
 g_MOST_COLUMNS:∃t,mg "MOST_COLUMNS"=some (.int 8 t)
 g_MOST_TABLES:∃t,mg "MOST_TABLES"=some (.int 4 t)
 g_UNKNOWN:∃p,mg "UNKNOWN"=some (.ref p)/\∀H,bU K H p [V.str ("fault":Str),V.str ("unknown":Str)]
 d_is_whole:dO K mg "is_whole" pJ
 d_is_number:dO K mg "is_number" pO
 d_is_name:dO K mg "is_name" oR
 d_is_fault:dO K mg "is_fault" sQ
 d_is_value:dO K mg "is_value" nF
 d_check_size:dO K mg "check_size" qC
 d_check_place:dO K mg "check_place" rG
 d_check_values:dO K mg "check_values" qR
 d_check_column:dO K mg "check_column" oT
 d_check_count:dO K mg "check_count" sP
 d_law_cell_at:dO K mg "_law_cell_at" nD
 d_law_table:dO K mg "_law_table" rZ
 d_law_rows:dO K mg "_law_rows" sK
 d_law_checked:dO K mg "_law_checked" iP
 d_law:dO K mg "law" fG
 t_Table:∃C,cX K mg C
 t_Spot:∃C,kY K mg C
 t_View:∃C,b06 K mg C
 t_Whole:∃C,qP K mg C
 t_Cut:∃C,mU K mg C
 t_Together:∃C,lY K mg C
 t_Board:∃C,cV K mg C
 t_TableTold:∃C,lW K mg C
 t_ColumnSet:∃C,mO K mg C
 t_Trial:∃C,a7l K mg C
 t_Finder:∃C,fO K mg C
 t_Sheet:∃C,dU K mg C
abbrev rW:Str:= "abcdefghijklmnopqrstuvwxyz"
noncomputable def mD (c:Nat):Bool:= !(Builtin.Str.occurrences rW ⟨#[c]⟩ 0 rW.length 1).isEmpty
noncomputable def hG (t:Str):Bool:=decide ((1:Int)<=t.length)&&decide ((t.length:Int)<=8)&&t.cps.toList.all mD
noncomputable def kL:PyData->Bool
 | .int _=>true
 |_=>false
def hV:PyData->Bool
 | .int i=>decide ((if i<0 then-i else i)<10^ (60:Int).toNat)
 |_=>false
noncomputable def dR:PyData->Bool
 | .str t=>hG t
 |_=>false
noncomputable def gN:PyData->Bool
 | .tuple [.str z,d]=>decide (z= "fault")&&dR d
 |_=>false
noncomputable def mG (d:PyData):Bool:=hV d||gN d
def tN(d:PyData):Prop:=∀t,d= .str t->t.length<=1000
def oX(d:PyData):Prop:=∀ds,d= .tuple ds->∀e∈ds,tN e
theorem iO{t:Str}(h:t.length<=1000):tN (.str t):=fun z e=>by cases e;exact h
theorem b2w{d:PyData}(h:fB d≠ .tup):oX d:=fun z e=>by subst e;exact absurd rfl h
theorem b1P{ds:List PyData}(h:∀e∈ds,tN e):oX (.tuple ds):=fun z e=>by cases e;exact h
section
variable{P:Program}{w:World}{K:Fg}{mg:Str->Option Value}{base:Heap}
def qB(K:Fg):Sp:=fun vs H Q _=>∃x d,vs= [x] /\Dt K H x d/\Q (.bl (kL d)) H
theorem b3n:aW ["thing"] ["thing"] (aB pJ):=⟨rfl,rfl,rfl,by decide+kernel,rfl,by decide+kernel,by decide+kernel⟩
theorem iV(T:bA K mg):bK P w K mg base aC 1 "is_whole" ["thing"] (qB K):=by
 refine T.d_is_whole.known b3n (fun _ _ _ _ _ _ us hl=>cQ (fun _=>rfl) us hl) (fun vs H Q E h=> ?_) (fun f cdv A outer s H vs Q E hr h=> ?_)
 ·obtain⟨x,a,rfl,_⟩:=h
  rfl
 ·obtain⟨x,d,rfl,hd,q⟩:=h
  refine⟨_,(aL (bH (rX (cF jF rfl T.isinstance iD (aA (pv 0) (aA (iB T.int b1k) aD))) (qM (b2r (cF jF rfl T.isinstance iD (aA (pv 0) (aA (iB T.bool a9b) aD)))))))),?_⟩
  refine⟨_,rfl,x,"int",d,_,rfl,hd,b1v K _,_,rfl,?_⟩
  refine eV (fun h1=> ?_) (fun h1=> ?_)
  ·refine⟨_,rfl,x,"bool",d,_,rfl,hd,b3W K _,_,rfl,?_⟩
   have e:(!decide (fB d=Kd.bl))=kL d:=by cases d<;>simp[fB,kL]at h1|-
   show Q (.bl (!decide (fB d=Kd.bl))) H
   rw[e]
   exact q
  ·have e:false=kL d:=by cases d<;>simp[fB,kL]at h1|-
   show Q (.bl false) H
   rw[e]
   exact q
def jB(K:Fg):Sp:=fun vs H Q _=>∃x d,vs= [x] /\Dt K H x d/\tN d/\∀H',aE H H'->Q (.bl (dR d)) H'
theorem b0F:aW ["thing"] ["thing"] (aB oR):=⟨rfl,rfl,rfl,by decide+kernel,rfl,by decide+kernel,by decide+kernel⟩
theorem gM(T:bA K mg):bK P w K mg base aC 1 "is_name" ["thing"] (jB K):=by
 refine T.d_is_name.known b0F (fun _ _ _ _ _ _ us hl=>cQ (fun _=>rfl) us hl) (fun vs H Q E h=> ?_) (fun f cdv A outer s H vs Q E hr h=> ?_)
 ·obtain⟨x,a,rfl,_⟩:=h
  rfl
 ·obtain⟨x,d,rfl,hd,hsh,q⟩:=h
  refine⟨_,(aK (bY (PW.pt (fE (dF (dG (cF jF rfl T.isinstance iD (aA (pv 0) (aA (iB T.str a4b) aD))) (fun _=>rfl))) (fP (dF (a5Z rR rR aS (cF fW rfl T.len eQ (aA (pv 0) aD)) (rK T.g_MOST_LETTERS)))))) (aL (bH iR)) cB)
   (aL (bH (cF (a8L rfl) rfl T.all a8S (aA (jN a57 rfl rfl (by decide) (b2b (pv 0)) (fun _ _ _ _ _=>kH) (fun _ _ _ _ _=>(vJ b3U (pv 0) (b3G T.g_LETTERS) (by with_unfolding_all rfl)))) aD))))),?_⟩
  refine⟨_,rfl,x,"str",d,_,rfl,hd,a1s K _,_,rfl,?_⟩
  by_cases hk:fB d= .str
  ·obtain⟨t,rfl⟩:∃t,d= .str t:=by cases d<;>simp[fB]at hk|-
   cases hd
   have ht:t.length<=1000:=hsh t rfl
   refine bL ?_
   refine⟨_,rfl,_,_,rfl,⟨sl ht,rfl⟩,_,_,rfl,rfl,_,rfl,?_⟩
   refine eV (fun h1=> ?_) (fun h1=> ?_)
   ·refine⟨_,_,rfl,rfl,_,rfl,?_⟩
    refine eV (fun h2=> ?_) (fun h2=> ?_)
    ·have e:dR (.str t)=false:=by
      show hG t=false
      unfold hG
      have:decide ((t.length:Int)<=8)=false:=by simpa using h2
      rw[this,Bool.and_false,Bool.false_and]
     rw[<- e]
     exact q H (aE.refl H)
    ·have h8:t.cps.size<=8:=by
      have:(t.length:Int)<=8:=by simpa using h2
      show t.length<=8
      omega
     refine⟨_,rfl,t,rfl,fun D hD=> ?_⟩
     refine b0G (x:=t) (fun i ys H2=>ys=(t.cps.toList.take i).map (fun c=>V.bl (mD c))/\aE H H2) ⟨rfl,aE.new hD⟩ ?_ ?_
     ·rintro i c ys H2 hc h2D ⟨rfl,s2⟩
      have hi:i<t.cps.size:=(Array.getElem?_eq_some_iff.mp hc).1
      refine⟨_,rfl,_,_,rfl,rfl,h2D,?_,?_,s2.on hD⟩
      ·rw[List.length_map,List.length_take,Array.length_toList]
       exact cK (by omega)
      ·rw[List.take_add_one,List.map_append,Array.getElem?_toList,hc]
       rfl
     ·rintro ys H2 h2D ⟨rfl,s2⟩
      refine⟨D,t.cps.toList.map mD,rfl,aI.of ?_,?_⟩
      ·rw[h2D,List.take_of_length_le (by simp),List.map_map]
       rfl
      ·have e:dR (.str t)=(t.cps.toList.map mD).all id:=by
        show hG t=_
        unfold hG
        have e1:decide ((1:Int)<=t.length)=true:=h1
        have e2:decide ((t.length:Int)<=8)=true:=by simpa using h2
        rw[e1,e2,Bool.true_and,Bool.true_and,List.all_map]
        rfl
       rw[<- e]
       exact q H2 s2
   ·refine⟨_,rfl,?_⟩
    refine dY ?_
    have e:dR (.str t)=false:=by
     show hG t=false
     unfold hG
     have:decide ((1:Int)<=t.length)=false:=by simpa using h1
     rw[this,Bool.false_and,Bool.false_and]
    rw[<- e]
    exact q H (aE.refl H)
  ·rw[decide_eq_false hk]
   refine dY (dY ?_)
   have e:dR d=false:=by cases d<;>simp[fB]at hk<;>rfl
   rw[<- e]
   exact q H (aE.refl H)
def a7G(K:Fg):Sp:=fun vs H Q _=>∃x d,vs= [x] /\Dt K H x d/\Q (.bl (hV d)) H
theorem b3e:aW ["thing"] ["thing"] (aB pO):=⟨rfl,rfl,rfl,by decide+kernel,rfl,by decide+kernel,by decide+kernel⟩
theorem qT(T:bA K mg):bK P w K mg base aC 2 "is_number" ["thing"] (a7G K):=by
 have G_is_whole:bK P w K mg base aC 1 "is_whole" ["thing"] (qB K):=iV T
 refine T.d_is_number.known b3e (fun _ _ _ _ _ _ us hl=>cQ (fun _=>rfl) us hl) (fun vs H Q E h=> ?_) (fun f cdv A outer s H vs Q E hr h=> ?_)
 ·obtain⟨x,a,rfl,_⟩:=h
  rfl
 ·obtain⟨x,d,rfl,hd,q⟩:=h
  refine⟨_,(aL (bH (rX (bP G_is_whole (hr.mono (by decide)) aM (aA (pv 0) aD)) (qM (vJ uU (cF b0Q rfl T.abs a9G (aA (pv 0) aD)) (bI b2x aS aS) (dW _)))))),?_⟩
  refine⟨_,rfl,x,d,rfl,hd,_,rfl,?_⟩
  refine eV (fun h1=> ?_) (fun h1=> ?_)
  ·obtain⟨i,rfl⟩:∃i,d= .int i:=by cases d<;>simp[kL]at h1|-
   cases hd
   exact⟨_,rfl,i,rfl,_,_,rfl,rfl,⟨by decide,by decide,by decide⟩,_,_,rfl,rfl,q⟩
  ·have e:hV d=false:=by cases d<;>simp[kL]at h1<;>rfl
   show Q (.bl false) H
   rw[<- e]
   exact q
def a7D(K:Fg):Sp:=fun vs H Q _=>∃x d,vs= [x] /\Dt K H x d/\oX d/\∀H',aE H H'->Q (.bl (gN d)) H'
theorem a9I:aW ["thing"] ["thing"] (aB sQ):=⟨rfl,rfl,rfl,by decide+kernel,rfl,by decide+kernel,by decide+kernel⟩
theorem b2j{ds:List PyData}(h:ds.length≠2):gN (.tuple ds)=false:=by
 match ds,h with
 | [],_=>rfl
 | [a],_=>cases a<;>rfl
 | [a,b],h=>exact absurd rfl h
 |a::b::c::r,_=>cases a<;>rfl
theorem rJ(T:bA K mg):bK P w K mg base aC 2 "is_fault" ["thing"] (a7D K):=by
 have G_is_name:bK P w K mg base aC 1 "is_name" ["thing"] (jB K):=gM T
 refine T.d_is_fault.known a9I (fun _ _ _ _ _ _ us hl=>cQ (fun _=>rfl) us hl) (fun vs H Q E h=> ?_) (fun f cdv A outer s H vs Q E hr h=> ?_)
 ·obtain⟨x,a,rfl,_⟩:=h
  rfl
 ·obtain⟨x,d,rfl,hd,hsh,q⟩:=h
  refine⟨_,(aK (bY (PW.pt (fE (dF (dG (cF jF rfl T.isinstance iD (aA (pv 0) (aA (iB T.tuple b3g) aD))) (fun _=>rfl))) (fP (cW zR (cF fW rfl T.len eQ (aA (pv 0) aD)) aS (dW _))))) (aL (bH iR)) cB)
   (aL (bH (rX (cF jF rfl T.isinstance iD (aA (bM fI (pv 0) aS (fun _ _=>rfl)) (aA (iB T.str a4b) aD))) (rX (vJ a8c (bM fI (pv 0) aS (fun _ _=>rfl)) hJ (dW _)) (qM (bP G_is_name (hr.mono (by decide)) aM (aA (bM fI (pv 0) aS (fun _ _=>rfl)) aD)))))))),?_⟩
  refine⟨_,rfl,x,"tuple",d,_,rfl,hd,b2N K _,_,rfl,?_⟩
  by_cases hk:fB d= .tup
  ·obtain⟨ds,rfl⟩:∃ds,d= .tuple ds:=by cases d<;>simp[fB]at hk|-
   cases hd with
   | @tup a xs _ hq hall=>
    refine bL ?_
    refine⟨_,rfl,_,_,rfl,.inr ⟨_,hq,rfl⟩,rfl,_,rfl,?_⟩
    have hl:=hall.length
    refine eV (fun h1=> ?_) (fun h1=> ?_)
    ·have h1':xs.length≠2:=by
      intro z
      rw[z]at h1
      exact absurd h1 (by decide)
     have e:=b2j (ds:=ds) (by rw[<- hl];exact h1')
     rw[<- e]
     exact q H (aE.refl H)
    ·have h1':xs.length=2:=by
      have z:¬(!decide (V.int (xs.length:Int)=V.int 2))=true:=h1
      have z2:(xs.length:Int)=2:=by simpa using z
      omega
     match xs,ds,hall,h1',hl with
     | [y,z],_,.cons (d:=d1) h2 (.cons (d:=d2) h3 .nil),_,_=>
      have a0:cT [y,z] 0=some y:=rfl
      have a1:cT [y,z] 1=some z:=rfl
      refine⟨_,rfl,_,_,_,_,rfl,rfl,hq,a0,y,"str",d1,_,rfl,h2,a1s K _,_,rfl,?_⟩
      refine eV (fun h4=> ?_) (fun h4=> ?_)
      ·obtain⟨t,rfl⟩:∃t,d1= .str t:=by cases d1<;>simp[fB]at h4|-
       cases h2
       refine⟨_,rfl,_,_,_,_,rfl,rfl,hq,a0,rfl,_,rfl,?_⟩
       refine eV (fun h5=> ?_) (fun h5=> ?_)
       ·have h5':t= "fault":=by
         have z5:V.str t=V.str "fault":=by simpa using h5
         exact V.str.inj z5
        refine⟨_,rfl,_,_,_,_,rfl,rfl,hq,a1,z,d2,rfl,h3,hsh _ rfl _ (List.mem_cons_of_mem _ List.mem_cons_self),fun H' s'=> ?_⟩
        ·have e:gN (.tuple [.str t,d2])=dR d2:=by
          show(decide (t= "fault")&&dR d2)=dR d2
          rw[decide_eq_true h5',Bool.true_and]
         rw[<- e]
         exact q H' s'
       ·have h5':t≠ "fault":=fun z5=>h5 (by rw[z5];rfl)
        have e:gN (.tuple [.str t,d2])=false:=by
         show(decide (t= "fault")&&dR d2)=false
         rw[decide_eq_false h5',Bool.false_and]
        show Q (.bl false) H
        rw[<- e]
        exact q H (aE.refl H)
      ·have e:gN (.tuple [d1,d2])=false:=by cases d1<;>simp[fB]at h4<;>rfl
       show Q (.bl false) H
       rw[<- e]
       exact q H (aE.refl H)
  ·rw[decide_eq_false hk]
   refine dY (dY ?_)
   have e:gN d=false:=by cases d<;>simp[fB]at hk<;>rfl
   rw[<- e]
   exact q H (aE.refl H)
def a7R(K:Fg):Sp:=fun vs H Q _=>∃x d,vs= [x] /\Dt K H x d/\oX d/\∀H',aE H H'->Q (.bl (mG d)) H'
theorem b1t:aW ["thing"] ["thing"] (aB nF):=⟨rfl,rfl,rfl,by decide+kernel,rfl,by decide+kernel,by decide+kernel⟩
theorem rT(T:bA K mg):bK P w K mg base aC 3 "is_value" ["thing"] (a7R K):=by
 have G_is_number:bK P w K mg base aC 2 "is_number" ["thing"] (a7G K):=qT T
 have G_is_fault:bK P w K mg base aC 2 "is_fault" ["thing"] (a7D K):=rJ T
 refine T.d_is_value.known b1t (fun _ _ _ _ _ _ us hl=>cQ (fun _=>rfl) us hl) (fun vs H Q E h=> ?_) (fun f cdv A outer s H vs Q E hr h=> ?_)
 ·obtain⟨x,a,rfl,_⟩:=h
  rfl
 ·obtain⟨x,d,rfl,hd,hsh,q⟩:=h
  refine⟨_,(aL (bH (b2S (bP G_is_number (hr.mono (by decide)) aM (aA (pv 0) aD)) (qM (bP G_is_fault (hr.mono (by decide)) aM (aA (pv 0) aD)))))),?_⟩
  refine⟨_,rfl,x,d,rfl,hd,_,rfl,?_⟩
  refine eV (fun h1=> ?_) (fun h1=> ?_)
  ·have e:mG d=true:=by unfold mG;rw[h1,Bool.true_or]
   show Q (.bl true) H
   rw[<- e]
   exact q H (aE.refl H)
  ·refine⟨_,rfl,x,d,rfl,hd,hsh,fun H' s'=> ?_⟩
   have e:mG d=gN d:=by
    unfold mG
    have:hV d=false:=by simpa using h1
    rw[this,Bool.false_or]
   rw[<- e]
   exact q H' s'
end
def Nl(t:Str):Prop:=1<=t.length/\t.length<=8/\∀c∈t.cps.toList,c∈rW.cps.toList
theorem Nl.name{t:Str}(h:Nl t):hG t=true:=by
 unfold hG
 have a1:decide ((1:Int)<=t.length)=true:=by rw[decide_eq_true_eq];have:=h.1;omega
 have a2:decide ((t.length:Int)<=8)=true:=by rw[decide_eq_true_eq];have:=h.2.1;omega
 have a3:t.cps.toList.all mD=true:=by
  rw[List.all_eq_true]
  intro c hc
  have:∀c∈rW.cps.toList,mD c=true:=by decide+kernel
  exact this c (h.2.2 c hc)
 rw[a1,a2,a3]
 rfl
theorem Nl.lay{z:Str}(h:Nl z):PyData.canLay0 (.str z)=true:=by
 obtain⟨⟨l⟩⟩:=z
 have:∀c∈rW.cps.toList,c<128:=by decide+kernel
 exact b2C fun c hc=>this c (h.2.2 c hc)
def mB(r:Addr)(n:Int)(d:Addr):List (Str×V):=[("row_numbers",V.ref r),("fresh_number",V.int n),("kept",V.ref d)]
theorem a7z(r:Addr)(n:Int)(d:Addr):(mB r n d).lookup ("row_numbers":Str)=some (.ref r):=rfl
theorem flds_fresh(r:Addr)(n:Int)(d:Addr):(mB r n d).lookup ("fresh_number":Str)=some (.int n):=by
 show(match (("fresh_number":Str)==("row_numbers":Str))with|true=>some (V.ref r)|false=>_)=_
 rw[show (("fresh_number":Str)==("row_numbers":Str))=false by decide+kernel]
 rfl
theorem nB(r:Addr)(n:Int)(d:Addr):(mB r n d).lookup ("kept":Str)=some (.ref d):=by
 show(match (("kept":Str)==("row_numbers":Str))with|true=>some (V.ref r)|false=>(match (("kept":Str)==("fresh_number":Str))with|true=>some (V.int n)|false=>_))=_
 rw[show (("kept":Str)==("row_numbers":Str))=false by decide+kernel,show(("kept":Str)==("fresh_number":Str))=false by decide+kernel]
 rfl
theorem hW{r:Addr}{n:Int}{d:Addr}{m:Str}(h:(m==("row_numbers":Str)||m==("fresh_number":Str)||m==("kept":Str))=false:=by decide+kernel):(mB r n d).lookup m=none:=by
 simp only[Bool.or_eq_false_iff]at h
 obtain⟨⟨h1,h2⟩,h3⟩:=h
 show(match (m==("row_numbers":Str))with|true=>some (V.ref r)|false=>(match (m==("fresh_number":Str))with|true=>some (V.int n)|false=>(match (m==("kept":Str))with|true=>some (V.ref d)|false=>none)))=none
 rw[h1,h2,h3]
theorem b3h(r:Addr)(n:Int)(d:Addr):aJ "kept" (.ref d) (aJ "fresh_number" (.int n) (aJ "row_numbers" (.ref r) []))=mB r n d:=by
 show aJ "kept" (.ref d) (if("row_numbers":Str)= "fresh_number" then _ else _)=_
 rw[if_neg (by decide+kernel)]
 show(if("row_numbers":Str)= "kept" then _ else _::(if("fresh_number":Str)= "kept" then _ else _))=_
 rw[if_neg (by decide+kernel),if_neg (by decide+kernel)]
 rfl
structure gL(C:Addr)(H:Hp)(p r d:Addr)(xs:List V)(n:Int)(kvs:List (aG×V)):Prop where
 at_:∃dx,H p=some (.ins C dx (mB r n d))
 rows:H r=some (.lst xs)
 kept:H d=some (.dK kvs)
theorem gL.same{C:Addr}{H H':Hp}{p r d:Addr}{xs:List V}{n:Int}{kvs:List (aG×V)}(T:gL C H p r d xs n kvs)(s:aE H H'):gL C H' p r d xs n kvs:=by
 obtain⟨dx,h⟩:=T.at_
 exact⟨⟨dx,s _ _ h⟩,s _ _ T.rows,s _ _ T.kept⟩
def Pv(K:Fg)(H:Hp)(v:V)(d:PyData):Prop:=(∃i,v= .int i/\d= .int i/\hV (.int i)=true)\/ ∃a y,v= .ref a/\H a=some (.tup [.str ("fault":Str),.str y])/\d= .tuple [.str "fault",.str y] /\Nl y
def Vd(d:PyData):Prop:=(∃i,d= .int i/\hV (.int i)=true)\/ ∃y,d= .tuple [.str "fault",.str y] /\Nl y
theorem Pv.dt{K:Fg}{H:Hp}{v:V}{d:PyData}(h:Pv K H v d):Dt K H v d:=by
 rcases h with⟨i,rfl,rfl,_⟩|⟨a,y,rfl,h,rfl,_⟩
 ·exact .int i
 ·exact .tup (bU.of h) (.cons (.str _) (.cons (.str _) .nil))
theorem Pv.vd{K:Fg}{H:Hp}{v:V}{d:PyData}(h:Pv K H v d):Vd d:=by
 rcases h with⟨i,rfl,rfl,hb⟩|⟨a,y,rfl,h,rfl,hy⟩
 ·exact .inl ⟨i,rfl,hb⟩
 ·exact .inr ⟨y,rfl,hy⟩
def bQ(H H':Hp):Prop:=∀a xs,H a=some (.tup xs)->H' a=some (.tup xs)
theorem bQ.of{H H':Hp}(s:aE H H'):bQ H H':=fun a xs e=>s _ _ e
theorem bQ.trans{H H1 H2:Hp}(a:bQ H H1)(b:bQ H1 H2):bQ H H2:=fun c xs e=>b c xs (a c xs e)
theorem bQ.upd{H:Hp}{l:Addr}{o o':HO}(h:H l=some o)(n:∀xs,o≠ .tup xs):bQ H (L2.upd H l o'):=fun a xs e=>by
 rw[aF (fun z=>by rw[z,h]at e;exact n _ (Option.some.inj e))]
 exact e
theorem Pv.keep{K:Fg}{H H':Hp}{v:V}{d:PyData}(s:bQ H H')(h:Pv K H v d):Pv K H' v d:=by
 rcases h with h|⟨a,y,rfl,h,rfl,hy⟩
 ·exact .inl h
 ·exact .inr ⟨a,y,rfl,s _ _ h,rfl,hy⟩
theorem Pv.same{K:Fg}{H H':Hp}{v:V}{d:PyData}(h:Pv K H v d)(s:aE H H'):Pv K H' v d:=h.keep (bQ.of s)
theorem Vd.short{d:PyData}(h:Vd d):oX d/\mG d=true:=by
 rcases h with⟨i,rfl,hb⟩|⟨y,rfl,hy⟩
 ·refine⟨b2w (by intro z;cases z),?_⟩
  show(hV (.int i)||gN (.int i))=true
  rw[hb];rfl
 ·have l8:=hy.2.1
  refine⟨b1P (by
   intro e he
   simp only[List.mem_cons,List.not_mem_nil,or_false]at he
   rcases he with rfl|rfl
   ·exact iO (by decide)
   ·exact iO (by omega)),?_⟩
  show(hV _||gN (.tuple [.str "fault",.str y]))=true
  rw[show gN (.tuple [.str "fault",.str y])=true by
   show(decide (("fault":Str)= "fault")&&dR (.str y))=true
   rw[decide_eq_true rfl,Bool.true_and]
   exact Nl.name hy,Bool.or_true]
theorem Vd.lay{d:PyData}(h:Vd d):d.canLay0=true/\d.depth<=62:=by
 rcases h with⟨i,rfl,hb⟩|⟨z,rfl,hz⟩
 ·exact⟨rfl,(show 0<=62 by decide)⟩
 ·refine⟨?_,(show 1<=62 by decide)⟩
  have lz:=Nl.lay hz
  have l1:PyData.canLay0 (.str ("fault":Str))=true:=by decide+kernel
  simp only[PyData.canLay0,PyData.canLayAll0,Bool.and_true,Bool.and_eq_true]at l1 lz|-
  exact⟨l1,lz⟩
def bT(K:Fg)(H:Hp):List V->List PyData->Prop:=Paired (Pv K H)
theorem bT.keep{K:Fg}{H H':Hp}(s:bQ H H'):∀{xs:List V} {ds:List PyData},bT K H xs ds->bT K H' xs ds
 |_,_,.nil=> .nil
 |_,_,.cons h t=> .cons (h.keep s) (bT.keep s t)
theorem bT.dt{K:Fg}{H:Hp}:∀{xs:List V} {ds:List PyData},bT K H xs ds->cP K H xs ds
 |_,_,.nil=> .nil
 |_,_,.cons h t=> .cons h.dt (bT.dt t)
theorem bT.vd{K:Fg}{H:Hp}:∀{xs:List V} {ds:List PyData},bT K H xs ds->∀d∈ds,Vd d
 |_,_,.nil,_,h=>by cases h
 |_,_,.cons h t,d,hd=>by
  rcases List.mem_cons.mp hd with rfl|hd
  ·exact h.vd
  ·exact bT.vd t d hd
section
variable{P:Program}{w:World}{K:Fg}{mg:Str->Option Value}{base:Heap}
def a5i:Sp:=fun vs H Q _=>∃m:Nat,vs= [.int (m:Int)] /\m<=30/\Q .non H
theorem b28:aW ["many"] ["many"] (aB qC):=⟨rfl,rfl,rfl,by decide+kernel,rfl,by decide+kernel,by decide+kernel⟩
theorem mR(T:bA K mg):bK P w K mg base aC 2 "check_size" ["many"] a5i:=by
 have G_is_whole:bK P w K mg base aC 1 "is_whole" ["thing"] (qB K):=iV T
 refine T.d_check_size.known b28 (fun _ _ _ _ _ _ us hl=>cQ (fun _=>rfl) us hl) (fun vs H Q E h=> ?_) (fun f cdv A outer s H vs Q E hr h=> ?_)
 ·obtain⟨m,rfl,_⟩:=h
  rfl
 ·obtain⟨m,rfl,hm,q⟩:=h
  refine⟨_,(aL (bY (PW.pt (fE (dF (dG (bP G_is_whole (hr.mono (by decide)) aM (aA (pv 0) aD)) (fun _=>rfl))) (fP (dF (a5Z rR rR aS (pv 0) (rK T.g_MOST_ROWS)))))) (aL cD) cB)),?_⟩
  refine⟨_,rfl,_,.int (m:Int),rfl,.int _,_,rfl,bL ?_⟩
  refine⟨_,rfl,_,_,rfl,rfl,_,rfl,?_⟩
  rw[decide_eq_true (show(0:Int)<=(m:Int)by omega)]
  refine dY ⟨_,_,rfl,rfl,_,rfl,?_⟩
  rw[decide_eq_true (show(m:Int)<=30 by omega)]
  exact bL q
def qJ:Sp:=fun vs H Q _=>∃p m:Nat,vs= [.int (p:Int),.int (m:Int)] /\p<m/\Q .non H
theorem b2n:aW ["place","places"] ["place","places"] (aB rG):=⟨rfl,rfl,rfl,by decide+kernel,rfl,by decide+kernel,by decide+kernel⟩
theorem jA(T:bA K mg):bK P w K mg base aC 2 "check_place" ["place","places"] qJ:=by
 have G_is_whole:bK P w K mg base aC 1 "is_whole" ["thing"] (qB K):=iV T
 refine T.d_check_place.known b2n (fun _ _ _ _ _ _ us hl=>cZ (fun _ _=>rfl) us hl) (fun vs H Q E h=> ?_) (fun f cdv A outer s H vs Q E hr h=> ?_)
 ·obtain⟨p,m,rfl,_⟩:=h
  rfl
 ·obtain⟨p,m,rfl,hm,q⟩:=h
  refine⟨_,(aL (bY (PW.pt (fE (dF (dG (bP G_is_whole (hr.mono (by decide)) aM (aA (pv 0) aD)) (fun _=>rfl))) (fP (dF (a5Z rR uU aS (pv 0) (pv 1)))))) (aL cD) cB)),?_⟩
  refine⟨_,rfl,_,.int (p:Int),rfl,.int _,_,rfl,bL ?_⟩
  refine⟨_,rfl,_,_,rfl,rfl,_,rfl,?_⟩
  rw[decide_eq_true (show(0:Int)<=(p:Int)by omega)]
  refine dY ⟨_,rfl,_,_,rfl,rfl,_,rfl,?_⟩
  rw[decide_eq_true (show(p:Int)<(m:Int)by omega)]
  exact bL q
def a09(K:Fg):Sp:=fun vs H Q _=>∃(a:Addr) (xs:List V) (ds:List PyData),vs= [.ref a,.int (xs.length:Int)] /\aI K H a xs/\bT K H xs ds/\xs.length<=1000/\∀H',aE H H'->Q .non H'
theorem b2s:aW ["values","many"] ["values","many"] (aB qR):=⟨rfl,rfl,rfl,by decide+kernel,rfl,by decide+kernel,by decide+kernel⟩
theorem lM(T:bA K mg):bK P w K mg base aC 4 "check_values" ["values","many"] (a09 K):=by
 have G_is_value:bK P w K mg base aC 3 "is_value" ["thing"] (a7R K):=rT T
 refine T.d_check_values.known b2s (fun _ _ _ _ _ _ us hl=>cZ (fun _ _=>rfl) us hl) (fun vs H Q E h=> ?_) (fun f cdv A outer s H vs Q E hr h=> ?_)
 ·obtain⟨a,xs,ds,rfl,_⟩:=h
  rfl
 ·obtain⟨a,xs,ds,rfl,hq,hp,l1000,q⟩:=h
  have hl:xs.length=ds.length:=Paired.length hp
  refine⟨_,(aL (bY (PW.pt (fE (dF (dG (cF jF rfl T.isinstance iD (aA (pv 0) (aA (iB T.list jH) aD))) (fun _=>rfl))) (fE (cW zR (cF fW rfl T.len eQ (aA (pv 0) aD)) (pv 1) (dW _)) (fP (dF (dG (cF (a8L rfl) rfl T.all a8S (aA (jN a57 rfl rfl (by decide) (gG (pv 0)) (fun _ _ _ _ _=>kH) (fun _ _ _ _ _=>(bP G_is_value (hr.mono (by decide)) aM (aA (pv 0) aD)))) aD)) (fun _=>rfl))))))) (aL cD) cB)),?_⟩
  refine⟨_,rfl,_,"list",.list ds,_,rfl,.lst hq hp.dt,a4l K _,_,rfl,bL ?_⟩
  refine⟨_,rfl,_,_,rfl,.inl ⟨_,hq,rfl⟩,_,rfl,rfl,_,rfl,?_⟩
  rw[decide_eq_true rfl]
  refine bL ⟨_,rfl,a,rfl,⟨_,hq⟩,fun D hD=> ?_⟩
  refine rS (K:=K) (a:=a) (xs:=xs) (fun i ys H2=>ys=(List.replicate i (V.bl true))/\aE H H2) ⟨rfl,aE.new hD⟩ (fun i ys H2 _ ⟨_,s2⟩=>s2.seq hq) ?_ ?_
  ·rintro i v ys H2 hv h2D ⟨rfl,s2⟩
   obtain⟨e,he,hde⟩:=hp.dt.get hv
   have ve:=hp.vd e (List.mem_of_getElem? he)
   have hi:i<xs.length:=(List.getElem?_eq_some_iff.mp hv).1
   refine⟨_,rfl,v,e,rfl,hde.same s2,ve.short.1,fun H3 s3=>⟨s3 _ _ h2D,?_,?_,?_⟩⟩
   ·rw[List.length_replicate]
    exact cK (by omega)
   ·rw[ve.short.2,List.replicate_succ']
   ·exact(s2.trans s3).on hD
  ·rintro ys H2 h2D ⟨rfl,s2⟩
   refine⟨D,List.replicate xs.length true,rfl,aI.of (by rw[h2D,List.map_replicate]),_,rfl,?_⟩
   rw[show (List.replicate xs.length true).all id=true by rw[List.all_eq_true];intro b hb;exact(List.mem_replicate.mp hb).2]
   exact bL (q _ s2)
def a7Z(K:Fg)(C:Addr):Sp:=fun vs H Q _=>∃(p dx:Addr) (m:Nat),vs= [.ref p,.int (m:Int)] /\H p=some (.ins C dx [])/\m<=30/\
 ∀H' r e,gL C H' p r e (cY 0 m) (m:Int) [] ->H r=none->H e=none->r≠e->(∀b o,H b=some o->b≠p->H' b=some o)->Q .non H'
theorem b3X:aW ["self","many"] ["self","many"] (aB pB):=⟨rfl,rfl,rfl,by decide+kernel,rfl,by decide+kernel,by decide+kernel⟩
theorem qY(T:bA K mg){C:Addr}(Y:cX K mg C):cI P w K mg base aC 3 C ["self","many"] (a7Z K C):=by
 have G_check_size:bK P w K mg base aC 2 "check_size" ["many"] a5i:=mR T
 refine(Y.m_init.known b3X (fun _ _ _ _ _ _ us hl=>cZ (fun _ _=>rfl) us hl) (fun vs H Q E h=> ?_) (fun f cdv A outer s H vs Q E hr h=> ?_)).init Y.mks Y.kc
 ·obtain⟨p,dx,m,rfl,_⟩:=h
  rfl
 ·obtain⟨p,dx,m,rfl,hp,hm,q1⟩:=h
  refine⟨_,(aK (bX (bP G_check_size (hr.mono (by decide)) aM (aA (pv 1) aD)))
   (aK (bR (pv 0) (kF (a8Q rfl) rfl T.list jH (aA (kF a7Q rfl T.range a8g (aA (pv 1) aD)) aD)) rfl)
   (aK (bR (pv 0) (cF fW rfl T.len eQ (aA (aX (pv 0) rfl) aD)) rfl)
   (aL (bR (pv 0) oV rfl))))),?_⟩
  refine⟨_,rfl,m,rfl,hm,?_⟩
  refine⟨_,rfl,(m:Int),rfl,fun g hg=>⟨g,0,(m:Int),rfl,aH,by omega,by omega,by omega,by omega,by omega,fun r hr0=> ?_⟩⟩
  have ngp:p≠g:=bD hp hg
  have hgr:r≠g:=fun z=>by rw[z,aH]at hr0;cases hr0
  have hr':H r=none:=by rw[aF hgr]at hr0;exact hr0
  have npr:p≠r:=bD hp hr'
  rw[Int.sub_zero,Int.toNat_natCast]
  refine⟨_,rfl,p,C,dx,[],rfl,(by rw[aF npr,aF ngp];exact hp),Y.cl,Y.n_row_numbers,(by show 0<1000;decide),?_⟩
  refine⟨_,rfl,p,C,dx,_,_,rfl,aH,Y.cl,Y.n_row_numbers,rfl,_,_,rfl,.inl ⟨_,aI.of (by rw[aF npr.symm,aH]),rfl⟩,?_⟩
  refine⟨_,rfl,p,C,dx,_,rfl,aH,Y.cl,Y.n_fresh_number,(by show 1<1000;decide),?_⟩
  intro e he
  have npe:p≠e:=fun z=>by rw[<- z,aH]at he;cases he
  have nre:r≠e:=fun z=>by rw[<- z,aF npr.symm,aF npr.symm,aH]at he;cases he
  have nge:g≠e:=fun z=>by rw[<- z,aF ngp.symm,aF ngp.symm,aF hgr.symm,aH]at he;cases he
  have he':H e=none:=by rw[aF npe.symm,aF npe.symm,aF nre.symm,aF nge.symm]at he;exact he
  refine⟨_,rfl,p,C,dx,_,rfl,(by rw[aF npe];exact aH),Y.cl,Y.n_kept,(by show(aJ "fresh_number" _ (aJ "row_numbers" _ [])).length<1000;show(if("row_numbers":Str)= "fresh_number" then _ else _:List (Str×V)).length<1000;rw[if_neg (by decide+kernel)];show 2<1000;decide),?_⟩
  refine q1 _ r e ⟨⟨dx,?_⟩,?_,?_⟩ hr' he' nre fun b o hb hbp=> ?_
  ·rw[aH]
   refine congrArg (fun l=>some (HO.ins C dx l)) ?_
   have:=b3h r (cY 0 m).length e
   rw[kN]at this|-
   exact this
  ·rw[aF npr.symm,aF nre,aF npr.symm,aF npr.symm,aH]
  ·rw[aF npe.symm,aH]
  ·rw[aF hbp,aF (bD hb he'),aF hbp,aF hbp,aF (bD hb hr'),aF (bD hb hg)]
   exact hb
def jZ(C:Addr):Sp:=fun vs H Q _=>∃p r d xs n kvs,vs= [.ref p] /\gL C H p r d xs n kvs/\Q (.int xs.length) H
theorem b1s:aW ["self"] ["self"] (aB nO):=⟨rfl,rfl,rfl,by decide+kernel,rfl,by decide+kernel,by decide+kernel⟩
theorem gY(T:bA K mg){C:Addr}(Y:cX K mg C):aN P w K mg base aC 1 C "many" ["self"] (jZ C):=by
 refine Y.m_many.known b1s (fun _ _ _ _ _ _ us hl=>cQ (fun _=>rfl) us hl) (fun vs H Q E h=> ?_) (fun f cdv A outer s H vs Q E hr h=> ?_)
 ·obtain⟨p,r,d,xs,n,kvs,rfl,_⟩:=h
  rfl
 ·obtain⟨p,r,d,xs,n,kvs,rfl,⟨⟨dx,hp⟩,hr',hd⟩,q⟩:=h
  refine⟨_,(aL (bH (cF fW rfl T.len eQ (aA (aX (pv 0) rfl) aD)))),?_⟩
  exact⟨_,rfl,p,C,dx,_,_,rfl,hp,Y.cl,Y.n_row_numbers,a7z _ _ _,_,_,rfl,.inl ⟨_,aI.of hr',rfl⟩,q⟩
def a8v(C:Addr):Sp:=fun vs H Q _=>∃p r d xs n kvs t v,vs= [.ref p,.str t] /\gL C H p r d xs n kvs/\Nl t/\aZ kvs (.inr t:aG)=some v/\∀H',aE H H'->Q .non H'
theorem a95:aW ["self","column"] ["self","column"] (aB pA):=⟨rfl,rfl,rfl,by decide+kernel,rfl,by decide+kernel,by decide+kernel⟩
theorem qF(T:bA K mg){C:Addr}(Y:cX K mg C):aN P w K mg base aC 2 C "check_column" ["self","column"] (a8v C):=by
 have G_is_name:bK P w K mg base aC 1 "is_name" ["thing"] (jB K):=gM T
 refine Y.m_check_column.known a95 (fun _ _ _ _ _ _ us hl=>cZ (fun _ _=>rfl) us hl) (fun vs H Q E h=> ?_) (fun f cdv A outer s H vs Q E hr h=> ?_)
 ·obtain⟨p,r,d,xs,n,kvs,t,v,rfl,_⟩:=h
  rfl
 ·obtain⟨p,r,d,xs,n,kvs,t,v,rfl,TA,ht,hv,q⟩:=h
  refine⟨_,(aL (bY (PW.pt (fE (dF (dG (bP G_is_name (hr.mono (by decide)) aM (aA (pv 1) aD)) (fun _=>rfl))) (fP (jL (qK (fJ hr) (pv 1) (aX (pv 0) rfl)))))) (aL cD) cB)),?_⟩
  have h8:=ht.2.1
  refine⟨_,rfl,_,.str t,rfl,.str t,iO (by omega),fun H' s'=>⟨_,rfl,?_⟩⟩
  rw[show dR (.str t)=true from ht.name]
  obtain⟨⟨dx,h1⟩,_,h3⟩:=TA.same s'
  refine bL ⟨_,rfl,_,rfl,p,C,dx,_,_,rfl,h1,Y.cl,Y.n_kept,nB _ _ _,d,_,rfl,cR.k (k:=Sum.inr t) h3,_,rfl,?_⟩
  rw[hv]
  exact bL (q _ s')
def spAt(C:Addr):Sp:=fun vs H Q _=>∃p r d xs n kvs t l ys,∃(i:Nat) (v:V),vs= [.ref p,.str t,.int (i:Int)] /\gL C H p r d xs n kvs/\Nl t/\aZ kvs (.inr t:aG)=some (.ref l)/\H l=some (.lst ys)/\i<xs.length/\cT ys (i:Int)=some v/\∀H',aE H H'->Q v H'
theorem b0k:aW ["self","column","place"] ["self","column","place"] (aB mX):=⟨rfl,rfl,rfl,by decide+kernel,rfl,by decide+kernel,by decide+kernel⟩
theorem pD(T:bA K mg){C:Addr}(Y:cX K mg C):aN P w K mg base aC 3 C "at" ["self","column","place"] (spAt C):=by
 have G_check_column:aN P w K mg base aC 2 C "check_column" ["self","column"] (a8v C):=qF T Y
 have G_check_place:bK P w K mg base aC 2 "check_place" ["place","places"] qJ:=jA T
 have G_many:aN P w K mg base aC 1 C "many" ["self"] (jZ C):=gY T Y
 refine Y.m_at.known b0k (fun _ _ _ _ _ _ us hl=>cN (fun _ _ _=>rfl) us hl) (fun vs H Q E h=> ?_) (fun f cdv A outer s H vs Q E hr h=> ?_)
 ·obtain⟨p,r,d,xs,n,kvs,t,l,ys,i,v,rfl,_⟩:=h
  rfl
 ·obtain⟨p,r,d,xs,n,kvs,t,l,ys,i,v,rfl,TA,ht,hv,hl,hi,ha,q⟩:=h
  refine⟨_,(aK (bX (cH (pv 0) Y.cl G_check_column (hr.mono (by decide)) aM (aA (pv 1) aD)))
   (aK (bX (bP G_check_place (hr.mono (by decide)) aM (aA (pv 2) (aA (iX (pv 0) Y.cl G_many (hr.mono (by decide)) aM) aD))))
   (aL (bH (bM cC (jQ (fJ hr) (aX (pv 0) rfl) (pv 1) (fun _ _=>rfl)) (pv 2) (fun _ _=>rfl)))))),?_⟩
  obtain⟨⟨dx,h1⟩,h2,h3⟩:=id TA
  refine⟨_,rfl,p,dx,_,rfl,h1,hW,_,rfl,p,r,d,xs,n,kvs,t,_,rfl,TA,ht,hv,fun H1 s1=> ?_⟩
  refine⟨_,rfl,_,rfl,p,dx,_,rfl,s1 _ _ h1,hW,p,r,d,xs,n,kvs,rfl,TA.same s1,i,xs.length,rfl,hi,?_⟩
  exact⟨_,rfl,p,C,dx,_,_,rfl,s1 _ _ h1,Y.cl,Y.n_kept,nB _ _ _,_,rfl,d,.ref l,rfl,hv▸cR.k (k:=Sum.inr t) (s1 _ _ h3),_,rfl,l,_,_,v,rfl,rfl,aI.of (s1 _ _ hl),ha,q _ s1⟩
def a9z(C:Addr):Sp:=fun vs H Q _=>∃p r d xs n kvs,∃(i:Nat) (v:V),vs= [.ref p,.int (i:Int)] /\gL C H p r d xs n kvs/\i<xs.length/\cT xs (i:Int)=some v/\Q v H
theorem b2B:aW ["self","place"] ["self","place"] (aB oJ):=⟨rfl,rfl,rfl,by decide+kernel,rfl,by decide+kernel,by decide+kernel⟩
theorem tL(T:bA K mg){C:Addr}(Y:cX K mg C):aN P w K mg base aC 3 C "number_at" ["self","place"] (a9z C):=by
 have G_check_place:bK P w K mg base aC 2 "check_place" ["place","places"] qJ:=jA T
 have G_many:aN P w K mg base aC 1 C "many" ["self"] (jZ C):=gY T Y
 refine Y.m_number_at.known b2B (fun _ _ _ _ _ _ us hl=>cZ (fun _ _=>rfl) us hl) (fun vs H Q E h=> ?_) (fun f cdv A outer s H vs Q E hr h=> ?_)
 ·obtain⟨p,r,d,xs,n,kvs,i,v,rfl,_⟩:=h
  rfl
 ·obtain⟨p,r,d,xs,n,kvs,i,v,rfl,TA,hi,ha,q⟩:=h
  refine⟨_,(aK (bX (bP G_check_place (hr.mono (by decide)) aM (aA (pv 1) (aA (iX (pv 0) Y.cl G_many (hr.mono (by decide)) aM) aD))))
   (aL (bH (bM cC (aX (pv 0) rfl) (pv 1) (fun _ _=>rfl))))),?_⟩
  obtain⟨⟨dx,h1⟩,h2,h3⟩:=id TA
  refine⟨_,rfl,_,rfl,p,dx,_,rfl,h1,hW,p,r,d,xs,n,kvs,rfl,TA,i,xs.length,rfl,hi,?_⟩
  exact⟨_,rfl,p,C,dx,_,_,rfl,h1,Y.cl,Y.n_row_numbers,a7z _ _ _,_,rfl,r,_,_,v,rfl,rfl,aI.of h2,ha,q⟩
def a7h(K:Fg)(C:Addr):Sp:=fun vs H Q _=>∃p r d xs n kvs t a ys ds,vs= [.ref p,.str t,.ref a] /\gL C H p r d xs n kvs/\Nl t/\((aZ kvs (.inr t:aG)).isSome=true\/ kvs.length<8)/\kvs.length<=1000/\aI K H a ys/\bT K H ys ds/\ys.length=xs.length/\ys.length<=1000/\
 ∀H' l,aE H H'->H' l=none->Q .non (upd (upd H' l (.lst ys)) d (.dK (bJ kvs (.inr t:aG) (.ref l))))
theorem b2i:aW ["self","column","values"] ["self","column","values"] (aB kJ):=⟨rfl,rfl,rfl,by decide+kernel,rfl,by decide+kernel,by decide+kernel⟩
theorem rY(T:bA K mg){C:Addr}(Y:cX K mg C):aN P w K mg base aC 5 C "give" ["self","column","values"] (a7h K C):=by
 have G_is_name:bK P w K mg base aC 1 "is_name" ["thing"] (jB K):=gM T
 have G_check_values:bK P w K mg base aC 4 "check_values" ["values","many"] (a09 K):=lM T
 have G_many:aN P w K mg base aC 1 C "many" ["self"] (jZ C):=gY T Y
 refine Y.m_give.known b2i (fun _ _ _ _ _ _ us hl=>cN (fun _ _ _=>rfl) us hl) (fun vs H Q E h=> ?_) (fun f cdv A outer s H vs Q E hr h=> ?_)
 ·obtain⟨p,r,d,xs,n,kvs,t,a,ys,ds,rfl,_⟩:=h
  rfl
 ·obtain⟨p,r,d,xs,n,kvs,t,a,ys,ds,rfl,TA,ht,hc,hk,hs,hp,hl,l1000,q⟩:=h
  have fC:∃t',dC (dI aC P w K mg base ["self","column","values"] "Table.give" (aB kJ) f cdv A outer s H E).nox ((aP kJ).drop 2) t'/\
   ∀(H1:Hp),aE H H1->t' {nx:=fun _ H'=>Q .non H',rt:=Q} [some (.ref p),some (.str t),some (.ref a)] H1:=by
   refine⟨_,(aK (bX (bP G_check_values (hr.mono (by decide)) aM (aA (pv 2) (aA (iX (pv 0) Y.cl G_many (hr.mono (by decide)) aM) aD))))
    (aL (uN (fJ hr) (aX (pv 0) rfl) (pv 1) (kF yG rfl T.list jH (aA (pv 2) aD)) rfl))),fun H1 s1=> ?_⟩
   obtain⟨⟨dx,h1⟩,h2,h3⟩:=TA.same s1
   refine⟨_,rfl,_,rfl,p,dx,_,rfl,h1,hW,p,r,d,xs,n,kvs,rfl,TA.same s1,a,ys,ds,(by rw[hl];rfl),s1.seq hs,hp.keep (bQ.of s1),l1000,fun H2 s2=> ?_⟩
   have s12:=s1.trans s2
   refine⟨_,rfl,a,ys,rfl,.inl (s12.seq hs),fun l hl=> ?_⟩
   have c1:aE H2 (upd H2 l (.lst ys)):=aE.new hl
   refine⟨_,rfl,p,C,dx,_,_,rfl,c1 _ _ (s2 _ _ h1),Y.cl,Y.n_kept,nB _ _ _,_,rfl,d,_,rfl,kB.k (k:=Sum.inr t) (c1 _ _ (s2 _ _ h3)) (cK hk),?_⟩
   exact q H2 l s12 hl
  obtain⟨t2,ht2,r2⟩:=fC
  refine⟨_,(aK (bY (dF (dG (bP G_is_name (hr.mono (by decide)) aM (aA (pv 1) aD)) (fun _=>rfl))) (aL cD) cB)
   (aK (bY (PW.pt (a62 (jL (qK (fJ hr) (pv 1) (aX (pv 0) rfl))) (a43 (cW a4D (cF a7p rfl T.len eQ (aA (aX (pv 0) rfl) aD)) (rK T.g_MOST_COLUMNS) (dW _))))) (aL cD) cB)
   ht2)),?_⟩
  have h8:=ht.2.1
  refine⟨_,rfl,_,.str t,rfl,.str t,iO (by omega),fun H1 s1=>⟨_,rfl,?_⟩⟩
  rw[show dR (.str t)=true from ht.name]
  obtain⟨⟨dx,h2⟩,_,h3⟩:=TA.same s1
  refine bL ⟨_,rfl,_,rfl,p,C,dx,_,_,rfl,h2,Y.cl,Y.n_kept,nB _ _ _,d,_,rfl,cR.k (k:=Sum.inr t) h3,_,rfl,?_⟩
  cases e:aZ kvs (Sum.inr t:aG)with
  |some v=>exact bL (bL (r2 H1 s1))
  |none=>
   have hc':kvs.length<8:=by
    rcases hc with hc|hc
    ·rw[e]at hc;cases hc
    ·exact hc
   refine dY ⟨_,rfl,p,C,dx,_,_,rfl,h2,Y.cl,Y.n_kept,nB _ _ _,d,kvs,rfl,h3,_,_,rfl,rfl,_,rfl,?_⟩
   rw[decide_eq_false (show¬(kvs.length:Int)>=8 by omega)]
   exact bL (r2 H1 s1)
end
theorem gO{H H':Hp}{a:Addr}(s:aE H H')(h:H' a=none):H a=none:=by
 cases e:H a with
 |none=>rfl
 |some o=>rw[s _ _ e]at h;cases h
def bE(p:Addr)(H H':Hp):Prop:=∀b o,b≠p->H b=some o->H' b=some o
theorem bE.of{p:Addr}{H H':Hp}(s:aE H H'):bE p H H':=fun b o _ e=>s b o e
theorem bE.trans{p:Addr}{H H1 H2:Hp}(a:bE p H H1)(b:bE p H1 H2):bE p H H2:=fun c o n e=>b c o n (a c o n e)
theorem b0c{H:Hp}{p b C D dx dy:Addr}{fs gs:List (Str×V)}(h:H p=some (.ins C dx fs))(g:H b=some (.ins D dy gs))(n:fs.length≠gs.length):p≠b:=fun z=>by
 rw[z,g]at h
 cases h
 exact n rfl
structure BM where
 b:Addr
 g:Addr
 r:Addr
 e:Addr
 ru:Addr
 me:Addr
 od:Addr
 xs:List V
 n:Int
 kvs:List (aG×V)
 rus:List (aG×V)
 mes:List (aG×V)
 ord:List Str
def gX(g ru me od:Addr):List (Str×V):=[("given",V.ref g),("rules",V.ref ru),("memory",V.ref me),("order",V.ref od)]
theorem eG(g ru me od:Addr):(gX g ru me od).lookup ("given":Str)=some (.ref g)/\(gX g ru me od).lookup ("rules":Str)=some (.ref ru)/\(gX g ru me od).lookup ("memory":Str)=some (.ref me)/\(gX g ru me od).lookup ("order":Str)=some (.ref od):=⟨rfl,rfl,rfl,rfl⟩
theorem uK{g ru me od:Addr}{m:Str}(h:(m==("given":Str)||m==("rules":Str)||m==("memory":Str)||m==("order":Str))=false:=by decide+kernel):(gX g ru me od).lookup m=none:=by
 simp only[Bool.or_eq_false_iff]at h
 obtain⟨⟨⟨h1,h2⟩,h3⟩,h4⟩:=h
 unfold gX
 simp[List.lookup,h1,h2,h3,h4]
theorem a9o(g ru me od:Addr):aJ "order" (.ref od) (aJ "memory" (.ref me) (aJ "rules" (.ref ru) (aJ "given" (.ref g) [])))=gX g ru me od:=by
 rfl
structure cE(CB CT:Addr)(H:Hp)(B:BM):Prop where
 at_:∃dx,H B.b=some (.ins CB dx (gX B.g B.ru B.me B.od))
 tab:gL CT H B.g B.r B.e B.xs B.n B.kvs
 rul:H B.ru=some (.dK B.rus)
 mem:H B.me=some (.dK B.mes)
 ord:H B.od=some (.lst (B.ord.map V.str))
theorem cE.same{CB CT:Addr}{H H':Hp}{B:BM}(h:cE CB CT H B)(s:aE H H'):cE CB CT H' B:=
 ⟨let ⟨dx,e⟩:=h.at_;⟨dx,s _ _ e⟩,h.tab.same s,s _ _ h.rul,s _ _ h.mem,s _ _ h.ord⟩
structure BM.sep(B:BM):Prop where
 ro:B.r≠B.od
 eu:B.e≠B.ru
 em:B.e≠B.me
 um:B.ru≠B.me
section
variable{P:Program}{w:World}{K:Fg}{mg:Str->Option Value}{base:Heap}
def a69(CB CT:Addr):Sp:=fun vs H Q _=>∃(p dx:Addr) (m:Nat),vs= [.ref p,.int (m:Int)] /\H p=some (.ins CB dx [])/\m<=30/\
 ∀H' g r e ru me od,cE CB CT H' ⟨p,g,r,e,ru,me,od,cY 0 m,(m:Int),[],[],[],[]⟩ ->BM.sep ⟨p,g,r,e,ru,me,od,cY 0 m,(m:Int),[],[],[],[]⟩ ->(∀x∈ [g,r,e,ru,me,od],H x=none)->(∀b o,H b=some o->b≠p->H' b=some o)->Q .non H'
theorem a9a:aW ["self","many"] ["self","many"] (aB oU):=⟨rfl,rfl,rfl,by decide+kernel,rfl,by decide+kernel,by decide+kernel⟩
theorem pN(T:bA K mg){CB CT:Addr}(Y:cV K mg CB)(Z:cX K mg CT):cI P w K mg base aC 5 CB ["self","many"] (a69 CB CT):=by
 have GI:cI P w K mg base aC 3 CT ["self","many"] (a7Z K CT):=qY T Z
 refine(Y.m_init.known a9a (fun _ _ _ _ _ _ us hl=>cZ (fun _ _=>rfl) us hl) (fun vs H Q E h=> ?_) (fun f cdv A outer s H vs Q E hr h=> ?_)).init Y.mks Y.kc
 ·obtain⟨p,dx,m,rfl,_⟩:=h
  rfl
 ·obtain⟨p,dx,m,rfl,hp,hm,q⟩:=h
  refine⟨_,(aK (bR (pv 0) (gH GI hr Z.c aM (aA (pv 1) aD)) rfl)
   (aK (bR (pv 0) oV rfl)
   (aK (bR (pv 0) oV rfl)
   (aL (bR (pv 0) (eD aD) rfl))))),?_⟩
  refine⟨_,rfl,?_⟩
  intro g dg hg hdg ne
  refine⟨g,dg,m,rfl,aH,hm,fun H1 r e TA hr1 he1 nre b1=>⟨rfl,?_⟩⟩
  have s1:aE H H1:=fun b o z=>b1 b o (by rw[aF (bD z hg),aF (bD z hdg)];exact z) (bD z hg)
  have npg:p≠g:=bD hp hg
  have hr0:H r=none:=by
   by_cases z:r=g
   ·rw[z];exact hg
   ·by_cases z2:r=dg
    ·rw[z2];exact hdg
    ·rw[aF z,aF z2]at hr1;exact hr1
  have he0:H e=none:=by
   by_cases z:e=g
   ·rw[z];exact hg
   ·by_cases z2:e=dg
    ·rw[z2];exact hdg
    ·rw[aF z,aF z2]at he1;exact he1
  obtain⟨⟨dt,ht⟩,hrr,hee⟩:=TA
  refine⟨_,rfl,p,CB,dx,[],rfl,s1 _ _ hp,Y.cl,Y.n_given,(by show 0<1000;decide),?_⟩
  have u2:∀b o,b≠p->H1 b=some o->upd H1 p (.ins CB dx (aJ "given" (.ref g) [])) b=some o:=fun b o n z=>by rw[aF n];exact z
  have p2:upd H1 p (.ins CB dx (aJ "given" (.ref g) [])) p=some (.ins CB dx (aJ "given" (.ref g) [])):=aH
  have n2:∀b,upd H1 p (.ins CB dx (aJ "given" (.ref g) [])) b=none->H1 b=none/\b≠p:=fun b z=>by
   have:b≠p:=fun y=>by rw[y,aH]at z;cases z
   rw[aF this]at z
   exact⟨z,this⟩
  generalize upd H1 p (.ins CB dx (aJ "given" (.ref g) []))=H2 at u2 p2 n2|-
  have b1':∀b,H1 b=none->H b=none:=fun b z=>by
   cases e9:H b with
   |none=>rfl
   |some o=>rw[s1 _ _ e9]at z;cases z
  refine fun ru hru=> ?_
  have s3:=aE.new (o:=.dK []) hru
  have h3:upd H2 ru (.dK []) ru=some (.dK []):=aH
  have n3:∀b,upd H2 ru (.dK []) b=none->H2 b=none/\b≠ru:=fun b z=>by
   have:b≠ru:=fun y=>by rw[y,aH]at z;cases z
   rw[aF this]at z
   exact⟨z,this⟩
  refine⟨_,rfl,p,CB,dx,_,rfl,s3 _ _ p2,Y.cl,Y.n_rules,(by show 1<1000;decide),?_⟩
  have hru2:=n2 _ hru
  generalize upd H2 ru (.dK [])=H3 at s3 h3 n3|-
  have u4:∀b o,b≠p->H3 b=some o->upd H3 p (.ins CB dx (aJ "rules" (.ref ru) (aJ "given" (.ref g) []))) b=some o:=fun b o n z=>by rw[aF n];exact z
  have p4:upd H3 p (.ins CB dx (aJ "rules" (.ref ru) (aJ "given" (.ref g) []))) p=some (.ins CB dx (aJ "rules" (.ref ru) (aJ "given" (.ref g) []))):=aH
  have n4:∀b,upd H3 p (.ins CB dx (aJ "rules" (.ref ru) (aJ "given" (.ref g) []))) b=none->H3 b=none/\b≠p:=fun b z=>by
   have:b≠p:=fun y=>by rw[y,aH]at z;cases z
   rw[aF this]at z
   exact⟨z,this⟩
  generalize upd H3 p (.ins CB dx (aJ "rules" (.ref ru) (aJ "given" (.ref g) [])))=H4 at u4 p4 n4|-
  refine fun me hme=> ?_
  have s5:=aE.new (o:=.dK []) hme
  have h5:upd H4 me (.dK []) me=some (.dK []):=aH
  have n5:∀b,upd H4 me (.dK []) b=none->H4 b=none/\b≠me:=fun b z=>by
   have:b≠me:=fun y=>by rw[y,aH]at z;cases z
   rw[aF this]at z
   exact⟨z,this⟩
  refine⟨_,rfl,p,CB,dx,_,rfl,s5 _ _ p4,Y.cl,Y.n_memory,(by show 2<1000;decide),?_⟩
  have hme4:=n4 _ hme
  have hme3:=n3 _ hme4.1
  have hme2:=n2 _ hme3.1
  generalize upd H4 me (.dK [])=H5 at s5 h5 n5|-
  have u6:∀b o,b≠p->H5 b=some o->upd H5 p (.ins CB dx (aJ "memory" (.ref me) (aJ "rules" (.ref ru) (aJ "given" (.ref g) [])))) b=some o:=fun b o n z=>by rw[aF n];exact z
  have p6:upd H5 p (.ins CB dx (aJ "memory" (.ref me) (aJ "rules" (.ref ru) (aJ "given" (.ref g) [])))) p=some (.ins CB dx (aJ "memory" (.ref me) (aJ "rules" (.ref ru) (aJ "given" (.ref g) [])))):=aH
  have n6:∀b,upd H5 p (.ins CB dx (aJ "memory" (.ref me) (aJ "rules" (.ref ru) (aJ "given" (.ref g) [])))) b=none->H5 b=none/\b≠p:=fun b z=>by
   have:b≠p:=fun y=>by rw[y,aH]at z;cases z
   rw[aF this]at z
   exact⟨z,this⟩
  generalize upd H5 p (.ins CB dx (aJ "memory" (.ref me) (aJ "rules" (.ref ru) (aJ "given" (.ref g) []))))=H6 at u6 p6 n6|-
  refine⟨sl,fun od hod=> ?_⟩
  have s7:=aE.new (o:=.lst []) hod
  have h7:upd H6 od (.lst []) od=some (.lst []):=aH
  refine⟨_,rfl,p,CB,dx,_,rfl,s7 _ _ p6,Y.cl,Y.n_order,(by show 3<1000;decide),?_⟩
  have hod6:=n6 _ hod
  have hod5:=n5 _ hod6.1
  have hod4:=n4 _ hod5.1
  have hod3:=n3 _ hod4.1
  have hod2:=n2 _ hod3.1
  generalize upd H6 od (.lst [])=H7 at s7 h7|-
  have up:∀b o,b≠p->H1 b=some o->upd H7 p (.ins CB dx (aJ "order" (.ref od) (aJ "memory" (.ref me) (aJ "rules" (.ref ru) (aJ "given" (.ref g) []))))) b=some o:=fun b o n z=>by
   rw[aF n]
   exact s7 _ _ (u6 _ _ n (s5 _ _ (u4 _ _ n (s3 _ _ (u2 _ _ n z)))))
  have p9:upd H7 p (.ins CB dx (aJ "order" (.ref od) (aJ "memory" (.ref me) (aJ "rules" (.ref ru) (aJ "given" (.ref g) []))))) p=some (.ins CB dx (gX g ru me od)):=by rw[aH,a9o]
  have npr:r≠p:=fun z=>by rw[z,hp]at hr0;cases hr0
  have npe:e≠p:=fun z=>by rw[z,hp]at he0;cases he0
  have o7:upd H7 p (.ins CB dx (aJ "order" (.ref od) (aJ "memory" (.ref me) (aJ "rules" (.ref ru) (aJ "given" (.ref g) []))))) od=some (.lst []):=by rw[aF hod6.2];exact h7
  have m7:upd H7 p (.ins CB dx (aJ "order" (.ref od) (aJ "memory" (.ref me) (aJ "rules" (.ref ru) (aJ "given" (.ref g) []))))) me=some (.dK []):=by
   rw[aF hme4.2]
   exact s7 _ _ (u6 _ _ hme4.2 h5)
  have r7:upd H7 p (.ins CB dx (aJ "order" (.ref od) (aJ "memory" (.ref me) (aJ "rules" (.ref ru) (aJ "given" (.ref g) []))))) ru=some (.dK []):=by
   rw[aF hru2.2]
   exact s7 _ _ (u6 _ _ hru2.2 (s5 _ _ (u4 _ _ hru2.2 h3)))
  generalize upd H7 p (.ins CB dx (aJ "order" (.ref od) (aJ "memory" (.ref me) (aJ "rules" (.ref ru) (aJ "given" (.ref g) [])))))=H9 at up p9 o7 m7 r7|-
  refine q H9 g r e ru me od ⟨⟨dx,p9⟩,⟨⟨dt,up _ _ npg.symm ht⟩,up _ _ npr hrr,up _ _ npe hee⟩,r7,m7,o7⟩ ⟨?_,?_,?_,?_⟩ ?_ fun b o z n=>up _ _ n (s1 _ _ z)
  ·exact bD hrr hod2.1
  ·exact bD hee hru2.1
  ·exact bD hee hme2.1
  ·exact fun z=>hme3.2 z.symm
  ·intro x hx
   simp only[List.mem_cons,List.not_mem_nil,or_false]at hx
   rcases hx with rfl|rfl|rfl|rfl|rfl|rfl
   ·exact hg
   ·exact hr0
   ·exact he0
   ·exact b1' _ hru2.1
   ·exact b1' _ hme2.1
   ·exact b1' _ hod2.1
def a7g(CB CT:Addr):Sp:=fun vs H Q _=>∃(B:BM) (t:Str),vs= [.ref B.b,.str t] /\cE CB CT H B/\Nl t/\∀H',aE H H'->Q (.bl (decide (t∈B.ord))) H'
theorem b1n:aW ["self","column"] ["self","column"] (aB nC):=⟨rfl,rfl,rfl,by decide+kernel,rfl,by decide+kernel,by decide+kernel⟩
theorem oM(T:bA K mg){CB CT:Addr}(Y:cV K mg CB):aN P w K mg base aC 2 CB "has_column" ["self","column"] (a7g CB CT):=by
 have G_is_name:bK P w K mg base aC 1 "is_name" ["thing"] (jB K):=gM T
 refine Y.m_has_column.known b1n (fun _ _ _ _ _ _ us hl=>cZ (fun _ _=>rfl) us hl) (fun vs H Q E h=> ?_) (fun f cdv A outer s H vs Q E hr h=> ?_)
 ·obtain⟨B,t,rfl,_⟩:=h
  rfl
 ·obtain⟨B,t,rfl,hB,ht,q⟩:=h
  refine⟨_,(aL (bH (rX (bP G_is_name (hr.mono (by decide)) aM (aA (pv 1) aD)) (qM (vJ pF (pv 1) (aX (pv 0) rfl) (by with_unfolding_all rfl)))))),?_⟩
  have h8:=ht.2.1
  refine⟨_,rfl,_,.str t,rfl,.str t,iO (by omega),fun H' s'=>⟨_,rfl,?_⟩⟩
  rw[show dR (.str t)=true from ht.name]
  obtain⟨⟨dx,h1⟩,_,_,_,h5⟩:=hB.same s'
  refine dY ⟨_,rfl,_,rfl,B.b,CB,dx,_,_,rfl,h1,Y.cl,Y.n_order,(eG _ _ _ _).2.2.2,B.od,_,rfl,.inl (aI.of h5),rfl,iK _,?_⟩
  rw[show (if false=true then !dL (.str t) (B.ord.map V.str) else dL (.str t) (B.ord.map V.str))=decide (t∈B.ord)by rw[if_neg Bool.false_ne_true,jM]]
  exact q _ s'
def vA(B:BM)(t:Str):Prop:=aZ B.rus (.inr t:aG)=none/\t∉B.ord
def uP(CB CT:Addr):Sp:=fun vs H Q _=>∃(B:BM) (t:Str),vs= [.ref B.b,.str t] /\cE CB CT H B/\vA B t/\Q .non H
theorem b1J:aW ["self","column"] ["self","column"] (aB nY):=⟨rfl,rfl,rfl,by decide+kernel,rfl,by decide+kernel,by decide+kernel⟩
theorem nA(T:bA K mg){CB CT:Addr}(Y:cV K mg CB):aN P w K mg base aC 2 CB "content" ["self","column"] (uP CB CT):=by
 refine Y.m_content.known b1J (fun _ _ _ _ _ _ us hl=>cZ (fun _ _=>rfl) us hl) (fun vs H Q E h=> ?_) (fun f cdv A outer s H vs Q E hr h=> ?_)
 ·obtain⟨B,t,rfl,_⟩:=h
  rfl
 ·obtain⟨B,t,rfl,hB,⟨n1,n2⟩,q⟩:=h
  refine⟨_,(aK (bY (jL (uW (fJ hr) (pv 1) (aX (pv 0) rfl))) (aL cD) cB)
   (aK (bY (cW pF (pv 1) (aX (pv 0) rfl) (by with_unfolding_all rfl)) (aL cD) cB)
   (aL (bH kT)))),?_⟩
  obtain⟨⟨dx,h1⟩,_,h3,_,h5⟩:=id hB
  refine⟨_,rfl,_,rfl,B.b,CB,dx,_,_,rfl,h1,Y.cl,Y.n_rules,(eG _ _ _ _).2.1,B.ru,_,rfl,cR.k (k:=Sum.inr t) h3,_,rfl,?_⟩
  rw[n1]
  refine bL ⟨_,rfl,_,rfl,B.b,CB,dx,_,_,rfl,h1,Y.cl,Y.n_order,(eG _ _ _ _).2.2.2,B.od,_,rfl,.inl (aI.of h5),rfl,iK _,_,rfl,?_⟩
  rw[show (if false=true then !dL (.str t) (B.ord.map V.str) else dL (.str t) (B.ord.map V.str))=false by rw[if_neg Bool.false_ne_true,jM,decide_eq_false n2]]
  exact bL q
theorem b13:aW ["self","column"] ["self","column"] (aB pM):=⟨rfl,rfl,rfl,by decide+kernel,rfl,by decide+kernel,by decide+kernel⟩
theorem sM(T:bA K mg){CB CT:Addr}(Y:cV K mg CB):aN P w K mg base aC 2 CB "empty_column" ["self","column"] (uP CB CT):=by
 refine Y.m_empty_column.known b13 (fun _ _ _ _ _ _ us hl=>cZ (fun _ _=>rfl) us hl) (fun vs H Q E h=> ?_) (fun f cdv A outer s H vs Q E hr h=> ?_)
 ·obtain⟨B,t,rfl,_⟩:=h
  rfl
 ·obtain⟨B,t,rfl,hB,⟨n1,n2⟩,q⟩:=h
  refine⟨_,(aL (bY (jL (uW (fJ hr) (pv 1) (aX (pv 0) rfl))) (aK cD (aL cD)) (aL (bY (cW pF (pv 1) (aX (pv 0) rfl) (by with_unfolding_all rfl)) (aL cD) cB)))),?_⟩
  obtain⟨⟨dx,h1⟩,_,h3,_,h5⟩:=id hB
  refine⟨_,rfl,_,rfl,B.b,CB,dx,_,_,rfl,h1,Y.cl,Y.n_rules,(eG _ _ _ _).2.1,B.ru,_,rfl,cR.k (k:=Sum.inr t) h3,_,rfl,?_⟩
  rw[n1]
  refine bL ⟨_,rfl,_,rfl,B.b,CB,dx,_,_,rfl,h1,Y.cl,Y.n_order,(eG _ _ _ _).2.2.2,B.od,_,rfl,.inl (aI.of h5),rfl,iK _,_,rfl,?_⟩
  rw[show (if false=true then !dL (.str t) (B.ord.map V.str) else dL (.str t) (B.ord.map V.str))=false by rw[if_neg Bool.false_ne_true,jM,decide_eq_false n2]]
  exact bL q
def a1J(K:Fg)(CB CT:Addr):Sp:=fun vs H Q _=>∃(B:BM) (t:Str) (a:Addr) (ys:List V) (ds:List PyData),vs= [.ref B.b,.str t,.ref a] /\cE CB CT H B/\B.sep/\vA B t/\Nl t/\H a=some (.lst ys)/\a≠B.od/\bT K H ys ds/\ys.length=B.xs.length/\ys.length<=30/\B.kvs.length<8/\B.ord.length<100/\
 ∀H' l,H l=none->cE CB CT H' {B with kvs:=bJ B.kvs (.inr t:aG) (.ref l),ord:=B.ord++ [t]} ->H' l=some (.lst ys)->(∀b o,b≠B.od->b≠B.e->H b=some o->H' b=some o)->Q .non H'
theorem b2y:aW ["self","column","content"] ["self","column","content"] (aB nR):=⟨rfl,rfl,rfl,by decide+kernel,rfl,by decide+kernel,by decide+kernel⟩
theorem b1e(T:bA K mg){CB CT:Addr}(Y:cV K mg CB)(Z:cX K mg CT):aN P w K mg base aC 6 CB "set_column" ["self","column","content"] (a1J K CB CT):=by
 have G_empty:aN P w K mg base aC 2 CB "empty_column" ["self","column"] (uP CB CT):=sM T Y
 have G_give:aN P w K mg base aC 5 CT "give" ["self","column","values"] (a7h K CT):=rY T Z
 refine Y.m_set_column.known b2y (fun _ _ _ _ _ _ us hl=>cN (fun _ _ _=>rfl) us hl) (fun vs H Q E h=> ?_) (fun f cdv A outer s H vs Q E hr h=> ?_)
 ·obtain⟨B,t,a,ys,ds,rfl,_⟩:=h
  rfl
 ·obtain⟨B,t,a,ys,ds,rfl,hB,sp,⟨n1,n2⟩,ht,ha,nao,hp,hl,l30,k8,o100,q⟩:=h
  refine⟨_,(aK (bX (cH (pv 0) Y.cl G_empty (hr.mono (by decide)) aM (aA (pv 1) aD)))
   (aK (bY (cW a8m (pv 2) kT (dW _)) (aK cD (aL cD)) cB)
   (aK (bY (cW a4y (pv 1) (aX (pv 0) rfl) (by with_unfolding_all rfl)) (aL (bX (iT PySem.F.plainAttrs_list PySem.F.slot_list_append PySem.F.type_list_append iN (aX (pv 0) rfl) (aA (pv 1) aD)))) cB)
   (aL (bY (dG (cF b20 rfl T.isinstance iD (aA (pv 2) (aA (iB T.list jH) aD))) (fun _=>rfl)) (aL (bX (cH (aX (pv 0) rfl) Z.cl G_give (hr.mono (by decide)) aM (aA (pv 1) (aA (pv 2) aD))))) (aK cD (aL cD))))))),?_⟩
  obtain⟨⟨dx,h1⟩,tb,h3,h4,h5⟩:=id hB
  refine⟨_,rfl,B.b,dx,_,rfl,h1,uK,_,rfl,B,t,rfl,hB,⟨n1,n2⟩,?_⟩
  refine⟨_,rfl,rfl,_,rfl,?_⟩
  rw[decide_eq_false (show¬V.ref a=V.non from fun z=>by cases z)]
  refine bL ⟨_,rfl,_,rfl,B.b,CB,dx,_,_,rfl,h1,Y.cl,Y.n_order,(eG _ _ _ _).2.2.2,B.od,_,rfl,.inl (aI.of h5),rfl,iK _,_,rfl,?_⟩
  rw[show (if true=true then !dL (.str t) (B.ord.map V.str) else dL (.str t) (B.ord.map V.str))=true by rw[if_pos rfl,jM,decide_eq_false n2];rfl]
  refine dY ⟨_,rfl,B.b,CB,dx,_,_,rfl,h1,Y.cl,Y.n_order,(eG _ _ _ _).2.2.2,.inl ⟨rfl,_,aI.of h5⟩,_,rfl,B.od,_,_,rfl,rfl,h5,cK (by rw[List.length_map];omega),?_⟩
  have u6:∀b o,b≠B.od->H b=some o->upd H B.od (.lst (B.ord.map V.str++ [.str t])) b=some o:=fun b o n z=>by rw[aF n];exact z
  have o6:upd H B.od (.lst (B.ord.map V.str++ [.str t])) B.od=some (.lst ((B.ord++ [t]).map V.str)):=by rw[aH,List.map_append];rfl
  have kt:bQ H (upd H B.od (.lst (B.ord.map V.str++ [.str t]))):=bQ.upd h5 (fun xs z=>by cases z)
  have n6:∀b,upd H B.od (.lst (B.ord.map V.str++ [.str t])) b=none->H b=none:=fun b z=>by
   have:b≠B.od:=fun y=>by rw[y,aH]at z;cases z
   rw[aF this]at z
   exact z
  generalize upd H B.od (.lst (B.ord.map V.str++ [.str t]))=H6 at u6 o6 kt n6|-
  have a6:=u6 _ _ nao ha
  have b6:=u6 _ _ (fun z=>by rw[z,h5]at h1;cases h1) h1
  obtain⟨⟨dt,t1⟩,t2,t3⟩:=id tb
  have g6:=u6 _ _ (fun z=>by rw[z,h5]at t1;cases t1) t1
  have e6:=u6 _ _ (fun z=>by rw[z,h5]at t3;cases t3) t3
  have tb6:gL CT H6 B.g B.r B.e B.xs B.n B.kvs:=⟨⟨dt,g6⟩,u6 _ _ sp.ro t2,e6⟩
  refine⟨_,rfl,_,"list",.type "list",_,rfl,.lst a6,a4l K .lst,_,rfl,dY ?_⟩
  refine⟨_,rfl,B.b,CB,dx,_,_,rfl,b6,Y.cl,Y.n_given,(eG _ _ _ _).1,B.g,dt,_,rfl,g6,hW,_,rfl,_,rfl,B.g,B.r,B.e,B.xs,B.n,B.kvs,t,a,ys,ds,rfl,tb6,ht,.inr k8,by omega,aI.of a6,hp.keep kt,hl,by omega,fun H7 l s7 hl7=> ?_⟩
  have u9:∀b o,b≠B.e->H7 b=some o->upd (upd H7 l (.lst ys)) B.e (.dK (bJ B.kvs (.inr t:aG) (.ref l))) b=some o:=fun b o n z=>by
   rw[aF n,aF (bD z hl7)]
   exact z
  have nle:l≠B.e:=fun z=>by rw[z,s7 _ _ e6]at hl7;cases hl7
  have e9:upd (upd H7 l (.lst ys)) B.e (.dK (bJ B.kvs (.inr t:aG) (.ref l))) B.e=some (.dK (bJ B.kvs (.inr t:aG) (.ref l))):=aH
  have l9:upd (upd H7 l (.lst ys)) B.e (.dK (bJ B.kvs (.inr t:aG) (.ref l))) l=some (.lst ys):=by rw[aF nle,aH]
  generalize upd (upd H7 l (.lst ys)) B.e (.dK (bJ B.kvs (.inr t:aG) (.ref l)))=H9 at u9 e9 l9|-
  have up:∀b o,b≠B.od->b≠B.e->H b=some o->H9 b=some o:=fun b o n1 n2 z=>u9 _ _ n2 (s7 _ _ (u6 _ _ n1 z))
  have ne_:∀{b:Addr} {o:HO},H6 b=some o->(∀kvs,o≠ .dK kvs)->b≠B.e:=fun z n y=>by rw[y,e6]at z;exact n _ (Option.some.inj z).symm
  refine q H9 l (n6 _ (gO s7 hl7)) ⟨⟨dx,u9 _ _ (ne_ b6 (fun kvs z=>by cases z)) (s7 _ _ b6)⟩,⟨⟨dt,u9 _ _ (ne_ g6 (fun kvs z=>by cases z)) (s7 _ _ g6)⟩,?_,e9⟩,?_,?_,?_⟩ l9 up
  ·exact up _ _ sp.ro (fun z=>by rw[z,t3]at t2;cases t2) t2
  ·exact up _ _ (fun z=>by rw[z,h5]at h3;cases h3) sp.eu.symm h3
  ·exact up _ _ (fun z=>by rw[z,h5]at h4;cases h4) sp.em.symm h4
  ·exact u9 _ _ (ne_ o6 (fun kvs z=>by cases z)) (s7 _ _ o6)
end
noncomputable def kU (bd:Addr) (nm:Str) (m:Nat):List (Str×V):=[("boards",V.ref bd),("name",V.str nm),("size",V.int (m:Int))]
theorem tW(bd:Addr)(nm:Str)(m:Nat):(kU bd nm m).lookup ("boards":Str)=some (.ref bd)/\(kU bd nm m).lookup ("name":Str)=some (.str nm)/\(kU bd nm m).lookup ("size":Str)=some (.int (m:Int))/\(kU bd nm m).lookup ("take":Str)=none:=⟨rfl,rfl,rfl,rfl⟩
noncomputable def jG (b:Addr) (t:Str) (a:Addr):List (Str×V):=[("board",V.ref b),("column",V.str t),("after",V.ref a),("before",V.non)]
theorem a8K(b:Addr)(t:Str)(a:Addr):(jG b t a).lookup ("board":Str)=some (.ref b)/\(jG b t a).lookup ("column":Str)=some (.str t)/\(jG b t a).lookup ("after":Str)=some (.ref a)/\(jG b t a).lookup ("take":Str)=none/\aJ "before" .non (jG b t a)=jG b t a:=⟨rfl,rfl,rfl,rfl,rfl⟩
section
variable{P:Program}{w:World}{K:Fg}{mg:Str->Option Value}{base:Heap}
def a8D(C:Addr):Sp:=fun vs H Q _=>∃(p dx bd:Addr) (nm:Str) (m:Nat),vs= [.ref p,.ref bd,.str nm,.int (m:Int)] /\H p=some (.ins C dx [])/\∀H',bE p H H'->H' p=some (.ins C dx (kU bd nm m))->Q .non H'
theorem b3c:aW ["self","boards","name","size"] ["self","boards","name","size"] (aB nX):=⟨rfl,rfl,rfl,by decide+kernel,rfl,by decide+kernel,by decide+kernel⟩
theorem qH(T:bA K mg){C:Addr}(Y:lW K mg C):cI P w K mg base aC 1 C ["self","boards","name","size"] (a8D C):=by
 refine(Y.m_init.known b3c (fun _ _ _ _ _ _ us hl=>jR (fun _ _ _ _=>rfl) us hl) (fun vs H Q E h=> ?_) (fun f cdv A outer s H vs Q E hr h=> ?_)).init Y.mks Y.kc
 ·obtain⟨p,dx,bd,nm,m,rfl,_⟩:=h
  rfl
 ·obtain⟨p,dx,bd,nm,m,rfl,hp,q⟩:=h
  refine⟨_,(aK (bR (pv 0) (pv 1) rfl) (aK (bR (pv 0) (pv 2) rfl) (aL (bR (pv 0) (pv 3) rfl)))),?_⟩
  refine⟨_,rfl,_,rfl,p,C,dx,[],rfl,hp,Y.cl,Y.n_boards,(by show 0<1000;decide),?_⟩
  refine⟨_,rfl,_,rfl,p,C,dx,_,rfl,aH,Y.cl,Y.n_name,(by show 1<1000;decide),?_⟩
  refine⟨_,rfl,_,rfl,p,C,dx,_,rfl,aH,Y.cl,Y.n_size,(by show 2<1000;decide),?_⟩
  exact q _ (fun b o n z=>by rw[aF n,aF n,aF n];exact z) aH
def a8y(C:Addr):Sp:=fun vs H Q _=>∃(p dx b a:Addr) (t:Str),vs= [.ref p,.ref b,.str t,.ref a] /\H p=some (.ins C dx [])/\∀H',bE p H H'->H' p=some (.ins C dx (jG b t a))->Q .non H'
theorem b24:aW ["self","board","column","content"] ["self","board","column","content"] (aB pC):=⟨rfl,rfl,rfl,by decide+kernel,rfl,by decide+kernel,by decide+kernel⟩
theorem nS(T:bA K mg){C:Addr}(Y:mO K mg C):cI P w K mg base aC 1 C ["self","board","column","content"] (a8y C):=by
 refine(Y.m_init.known b24 (fun _ _ _ _ _ _ us hl=>jR (fun _ _ _ _=>rfl) us hl) (fun vs H Q E h=> ?_) (fun f cdv A outer s H vs Q E hr h=> ?_)).init Y.mks Y.kc
 ·obtain⟨p,dx,b,a,t,rfl,_⟩:=h
  rfl
 ·obtain⟨p,dx,b,a,t,rfl,hp,q⟩:=h
  refine⟨_,(aK (bR (pv 0) (pv 1) rfl) (aK (bR (pv 0) (pv 2) rfl) (aK (bR (pv 0) (pv 3) rfl) (aL (bR (pv 0) kT rfl))))),?_⟩
  refine⟨_,rfl,_,rfl,p,C,dx,[],rfl,hp,Y.cl,Y.n_board,(by show 0<1000;decide),?_⟩
  refine⟨_,rfl,_,rfl,p,C,dx,_,rfl,aH,Y.cl,Y.n_column,(by show 1<1000;decide),?_⟩
  refine⟨_,rfl,_,rfl,p,C,dx,_,rfl,aH,Y.cl,Y.n_after,(by show 2<1000;decide),?_⟩
  refine⟨_,rfl,p,C,dx,_,rfl,aH,Y.cl,Y.n_before,(by show 3<1000;decide),?_⟩
  exact q _ (fun b o n z=>by rw[aF n,aF n,aF n,aF n];exact z) aH
def spTT(C CB CT:Addr):Sp:=fun vs H Q _=>∃(p dx bd:Addr) (nm:Str) (m:Nat) (kb:List (aG×V)),vs= [.ref p] /\H p=some (.ins C dx (kU bd nm m))/\H bd=some (.dK kb)/\kb.length<100/\m<=30/\
 ∀H' b g r e ru me od,cE CB CT H' ⟨b,g,r,e,ru,me,od,cY 0 m,(m:Int),[],[],[],[]⟩ ->BM.sep ⟨b,g,r,e,ru,me,od,cY 0 m,(m:Int),[],[],[],[]⟩ ->(∀x∈ [b,g,r,e,ru,me,od],H x=none)->H' bd=some (.dK (bJ kb (.inr nm:aG) (.ref b)))->(∀x o,x≠bd->H x=some o->H' x=some o)->Q .non H'
theorem a94:aW ["self"] ["self"] (aB oF):=⟨rfl,rfl,rfl,by decide+kernel,rfl,by decide+kernel,by decide+kernel⟩
theorem nM(T:bA K mg){C CB CT:Addr}(Y:lW K mg C)(W:cV K mg CB)(Z:cX K mg CT):aN P w K mg base aC 7 C "take" ["self"] (spTT C CB CT):=by
 have GI:cI P w K mg base aC 5 CB ["self","many"] (a69 CB CT):=pN T W Z
 refine Y.m_take.known a94 (fun _ _ _ _ _ _ us hl=>cQ (fun _=>rfl) us hl) (fun vs H Q E h=> ?_) (fun f cdv A outer s H vs Q E hr h=> ?_)
 ·obtain⟨p,dx,bd,nm,m,kb,rfl,_⟩:=h
  rfl
 ·obtain⟨p,dx,bd,nm,m,kb,rfl,hp,hb,kl,hm,q⟩:=h
  refine⟨_,(aL (uN (fJ hr) (aX (pv 0) rfl) (aX (pv 0) rfl) (gH GI hr W.c aM (aA (aX (pv 0) rfl) aD)) rfl)),?_⟩
  refine⟨_,rfl,p,C,dx,_,_,rfl,hp,Y.cl,Y.n_size,(tW _ _ _).2.2.1,?_⟩
  intro b db hb0 hdb ne
  refine⟨b,db,m,rfl,aH,hm,fun H1 g r e ru me od hB sp fr fm=>⟨rfl,?_⟩⟩
  have s1:aE H H1:=fun x o z=>fm x o (by rw[aF (bD z hb0),aF (bD z hdb)];exact z) (bD z hb0)
  have fr':∀x∈ [b,g,r,e,ru,me,od],H x=none:=fun x hx=>by
   rcases List.mem_cons.mp hx with rfl|hx
   ·exact hb0
   ·have:=fr x hx
    by_cases z:x=b
    ·rw[z];exact hb0
    ·by_cases z2:x=db
     ·rw[z2];exact hdb
     ·rw[aF z,aF z2]at this;exact this
  refine⟨_,rfl,p,C,dx,_,_,rfl,s1 _ _ hp,Y.cl,Y.n_boards,(tW _ _ _).1,_,rfl,p,C,dx,_,_,rfl,s1 _ _ hp,Y.cl,Y.n_name,(tW _ _ _).2.1,bd,_,rfl,kB.k (k:=Sum.inr nm) (s1 _ _ hb) (cK (by omega)),?_⟩
  have nb:∀{x:Addr},x∈ [b,g,r,e,ru,me,od] ->x≠bd:=fun hx z=>by rw[<- z,fr' _ hx]at hb;cases hb
  have u:∀x o,x≠bd->H1 x=some o->upd H1 bd (.dK (bJ kb (.inr nm:aG) (.ref b))) x=some o:=fun x o n z=>by rw[aF n];exact z
  obtain⟨⟨d1,e1⟩,⟨⟨d2,e2⟩,e3,e4⟩,e5,e6,e7⟩:=hB
  exact q _ b g r e ru me od ⟨⟨d1,u _ _ (nb (by simp)) e1⟩,⟨⟨d2,u _ _ (nb (by simp)) e2⟩,u _ _ (nb (by simp)) e3,u _ _ (nb (by simp)) e4⟩,u _ _ (nb (by simp)) e5,u _ _ (nb (by simp)) e6,u _ _ (nb (by simp)) e7⟩ sp fr' aH (fun x o n z=>u _ _ n (s1 _ _ z))
def spCS(C CB CT:Addr)(sp:Sp):Sp:=fun vs H Q _=>∃(p dx a:Addr) (B:BM) (t:Str),vs= [.ref p] /\H p=some (.ins C dx (jG B.b t a))/\cE CB CT H B/\vA B t/\sp [.ref B.b,.str t,.ref a] H (fun _ H'=>Q .non H') E0
theorem b1S:aW ["self"] ["self"] (aB nZ):=⟨rfl,rfl,rfl,by decide+kernel,rfl,by decide+kernel,by decide+kernel⟩
theorem rA(T:bA K mg){C CB CT:Addr}(Y:mO K mg C)(W:cV K mg CB){sp:Sp}(G:aN P w K mg base aC 6 CB "set_column" ["self","column","content"] sp):aN P w K mg base aC 7 C "take" ["self"] (spCS C CB CT sp):=by
 have G_content:aN P w K mg base aC 2 CB "content" ["self","column"] (uP CB CT):=nA T W
 refine Y.m_take.known b1S (fun _ _ _ _ _ _ us hl=>cQ (fun _=>rfl) us hl) (fun vs H Q E h=> ?_) (fun f cdv A outer s H vs Q E hr h=> ?_)
 ·obtain⟨p,dx,a,B,t,rfl,_⟩:=h
  rfl
 ·obtain⟨p,dx,a,B,t,rfl,hp,hB,hn,q⟩:=h
  refine⟨_,(aK (bR (pv 0) (cH (aX (pv 0) rfl) W.cl G_content (hr.mono (by decide)) aM (aA (aX (pv 0) rfl) aD)) rfl)
   (aL (bX (cH (aX (pv 0) rfl) W.cl G hr aM (aA (aX (pv 0) rfl) (aA (aX (pv 0) rfl) aD)))))),?_⟩
  obtain⟨c1,c2,c3,c4,c5⟩:=a8K B.b t a
  obtain⟨dB,h1⟩:=hB.at_
  refine⟨_,rfl,p,C,dx,_,_,rfl,hp,Y.cl,Y.n_board,c1,B.b,dB,_,rfl,h1,uK,_,rfl,p,C,dx,_,_,rfl,hp,Y.cl,Y.n_column,c2,B,t,rfl,hB,hn,?_⟩
  refine⟨_,rfl,p,C,dx,_,rfl,hp,Y.cl,Y.n_before,(by show 4<1000;decide),?_⟩
  rw[c5,b29 hp]
  exact⟨_,rfl,p,C,dx,_,_,rfl,hp,Y.cl,Y.n_board,c1,B.b,dB,_,rfl,h1,uK,_,rfl,p,C,dx,_,_,rfl,hp,Y.cl,Y.n_column,c2,_,rfl,p,C,dx,_,_,rfl,hp,Y.cl,Y.n_after,c3,q⟩
end
def cM(bd ch fi:Addr):List (Str×V):=[("boards",V.ref bd),("changes",V.ref ch),("finder",V.ref fi)]
theorem oC(bd ch fi:Addr):(cM bd ch fi).lookup ("boards":Str)=some (.ref bd)/\(cM bd ch fi).lookup ("changes":Str)=some (.ref ch)/\(cM bd ch fi).lookup ("finder":Str)=some (.ref fi)/\∀fi',aJ "finder" (.ref fi') (cM bd ch fi)=cM bd ch fi':=⟨rfl,rfl,rfl,fun _=>rfl⟩
theorem eO{bd ch fi:Addr}{m:Str}(h:(m==("boards":Str)||m==("changes":Str)||m==("finder":Str))=false:=by decide+kernel):(cM bd ch fi).lookup m=none:=by
 simp only[Bool.or_eq_false_iff]at h
 obtain⟨⟨h1,h2⟩,h3⟩:=h
 unfold cM
 simp[List.lookup,h1,h2,h3]
def eT(bd fd lk:Addr):List (Str×V):=[("boards",V.ref bd),("found",V.ref fd),("looked",V.ref lk)]
theorem a8B(bd fd lk:Addr):(eT bd fd lk).lookup ("boards":Str)=some (.ref bd)/\(eT bd fd lk).lookup ("found":Str)=some (.ref fd)/\(eT bd fd lk).lookup ("looked":Str)=some (.ref lk):=⟨rfl,rfl,rfl⟩
theorem a2K{bd fd lk:Addr}{m:Str}(h:(m==("boards":Str)||m==("found":Str)||m==("looked":Str))=false:=by decide+kernel):(eT bd fd lk).lookup m=none:=by
 simp only[Bool.or_eq_false_iff]at h
 obtain⟨⟨h1,h2⟩,h3⟩:=h
 unfold eT
 simp[List.lookup,h1,h2,h3]
section
variable{P:Program}{w:World}{K:Fg}{mg:Str->Option Value}{base:Heap}
def spFI(C:Addr):Sp:=fun vs H Q _=>∃(p dx bd:Addr),vs= [.ref p,.ref bd] /\H p=some (.ins C dx [])/\
 ∀H' fd lk,H fd=none->H lk=none->fd≠lk->H' p=some (.ins C dx (eT bd fd lk))->H' fd=some (.dT [])->H' lk=some (.dT [])->bE p H H'->Q .non H'
theorem a9w:aW ["self","boards"] ["self","boards"] (aB nI):=⟨rfl,rfl,rfl,by decide+kernel,rfl,by decide+kernel,by decide+kernel⟩
theorem mJ(T:bA K mg){C:Addr}(Y:fO K mg C):cI P w K mg base aC 1 C ["self","boards"] (spFI C):=by
 refine(Y.m_init.known a9w (fun _ _ _ _ _ _ us hl=>cZ (fun _ _=>rfl) us hl) (fun vs H Q E h=> ?_) (fun f cdv A outer s H vs Q E hr h=> ?_)).init Y.mks Y.kc
 ·obtain⟨p,dx,bd,rfl,_⟩:=h
  rfl
 ·obtain⟨p,dx,bd,rfl,hp,q⟩:=h
  refine⟨_,(aK (bR (pv 0) (pv 1) rfl) (aK (bR (pv 0) zP rfl) (aL (bR (pv 0) zP rfl)))),?_⟩
  refine⟨_,rfl,_,rfl,p,C,dx,[],rfl,hp,Y.cl,Y.n_boards,(by show 0<1000;decide),?_⟩
  have u1:∀b o,b≠p->H b=some o->upd H p (.ins C dx (aJ "boards" (.ref bd) [])) b=some o:=fun b o n z=>by rw[aF n];exact z
  have p1:upd H p (.ins C dx (aJ "boards" (.ref bd) [])) p=some (.ins C dx (aJ "boards" (.ref bd) [])):=aH
  have n1:∀b,upd H p (.ins C dx (aJ "boards" (.ref bd) [])) b=none->H b=none/\b≠p:=fun b z=>by
   have:b≠p:=fun y=>by rw[y,aH]at z;cases z
   rw[aF this]at z
   exact⟨z,this⟩
  generalize upd H p (.ins C dx (aJ "boards" (.ref bd) []))=H1 at u1 p1 n1|-
  refine fun fd hfd=> ?_
  have s2:=aE.new (o:=.dT []) hfd
  have h2:upd H1 fd (.dT []) fd=some (.dT []):=aH
  have n2:∀b,upd H1 fd (.dT []) b=none->H1 b=none/\b≠fd:=fun b z=>by
   have:b≠fd:=fun y=>by rw[y,aH]at z;cases z
   rw[aF this]at z
   exact⟨z,this⟩
  refine⟨_,rfl,p,C,dx,_,rfl,s2 _ _ p1,Y.cl,Y.n_found,(by show 1<1000;decide),?_⟩
  have hf:=n1 _ hfd
  generalize upd H1 fd (.dT [])=H2 at s2 h2 n2|-
  have u3:∀b o,b≠p->H2 b=some o->upd H2 p (.ins C dx (aJ "found" (.ref fd) (aJ "boards" (.ref bd) []))) b=some o:=fun b o n z=>by rw[aF n];exact z
  have p3:upd H2 p (.ins C dx (aJ "found" (.ref fd) (aJ "boards" (.ref bd) []))) p=some (.ins C dx (aJ "found" (.ref fd) (aJ "boards" (.ref bd) []))):=aH
  have n3:∀b,upd H2 p (.ins C dx (aJ "found" (.ref fd) (aJ "boards" (.ref bd) []))) b=none->H2 b=none/\b≠p:=fun b z=>by
   have:b≠p:=fun y=>by rw[y,aH]at z;cases z
   rw[aF this]at z
   exact⟨z,this⟩
  generalize upd H2 p (.ins C dx (aJ "found" (.ref fd) (aJ "boards" (.ref bd) [])))=H3 at u3 p3 n3|-
  refine fun lk hlk=> ?_
  have s4:=aE.new (o:=.dT []) hlk
  have h4:upd H3 lk (.dT []) lk=some (.dT []):=aH
  refine⟨_,rfl,p,C,dx,_,rfl,s4 _ _ p3,Y.cl,Y.n_looked,(by show 2<1000;decide),?_⟩
  have k3:=n3 _ hlk
  have k2:=n2 _ k3.1
  have k1:=n1 _ k2.1
  generalize upd H3 lk (.dT [])=H4 at s4 h4|-
  exact q _ fd lk hf.1 k1.1 k2.2.symm aH (by rw[aF hf.2];exact s4 _ _ (u3 _ _ hf.2 h2)) (by rw[aF k1.2];exact h4) (fun b o n z=>by rw[aF n];exact s4 _ _ (u3 _ _ n (s2 _ _ (u1 _ _ n z))))
def spMk(CS CF C:Addr)(sp:Sp):Sp:=fun vs H Q _=>∃(s c bd ch fi dx dc:Addr) (cs:List V) (fs:List (Str×V)),vs= [.ref s,.ref c] /\H c=some (.ins C dc fs)/\fs.lookup ("take":Str)=none/\
 sp [.ref c] H (fun _ H1=>H1 s=some (.ins CS dx (cM bd ch fi))/\H1 ch=some (.lst cs)/\cs.length<900/\∀H2 fi' fd lk df,H1 fi'=none->H1 fd=none->H1 lk=none->fd≠lk->H2 s=some (.ins CS dx (cM bd ch fi'))->H2 ch=some (.lst (cs++ [.ref c]))->H2 fi'=some (.ins CF df (eT bd fd lk))->H2 fd=some (.dT [])->H2 lk=some (.dT [])->
  (∀x o,x≠s->x≠ch->H1 x=some o->H2 x=some o)->Q .non H2) E0
theorem b0v:aW ["self","change"] ["self","change"] (aB nW):=⟨rfl,rfl,rfl,by decide+kernel,rfl,by decide+kernel,by decide+kernel⟩
def kG(sp:Sp):Prop:=∀vs H (Q Q':VK),(∀v H',Q v H'->Q' v H')->sp vs H Q E0->sp vs H Q' E0
theorem lI(T:bA K mg){CS CF C:Addr}(Y:dU K mg CS)(Z:fO K mg CF)(cl:bS K C){sp:Sp}(mono:kG sp)(G:aN P w K mg base aC 7 C "take" ["self"] sp):aN P w K mg base aC 8 CS "make" ["self","change"] (spMk CS CF C sp):=by
 have GI:cI P w K mg base aC 1 CF ["self","boards"] (spFI CF):=mJ T Z
 refine Y.m_make.known b0v (fun _ _ _ _ _ _ us hl=>cZ (fun _ _=>rfl) us hl) (fun vs H Q E h=> ?_) (fun f cdv A outer s H vs Q E hr h=> ?_)
 ·obtain⟨s',c,bd,ch,fi,dx,dc,cs,fs,rfl,_⟩:=h
  rfl
 ·obtain⟨s',c,bd,ch,fi,dx,dc,cs,fs,rfl,hc,hf,q⟩:=h
  refine⟨_,(aK (bX (iX (pv 1) cl G hr aM))
   (aK (bX (iT PySem.F.plainAttrs_list PySem.F.slot_list_append PySem.F.type_list_append iN (aX (pv 0) rfl) (aA (pv 1) aD)))
   (aL (bR (pv 0) (gH GI (hr.mono (by decide)) Z.c aM (aA (aX (pv 0) rfl) aD)) rfl)))),?_⟩
  refine⟨_,rfl,c,dc,fs,rfl,hc,hf,?_⟩
  refine mono _ _ _ _ (fun v0 H1 hQ=> ?_) q
  obtain⟨h1,h2,l9,qq⟩:=hQ
  obtain⟨a1,a2,a3,a4⟩:=oC bd ch fi
  refine⟨_,rfl,s',CS,dx,_,_,rfl,h1,Y.cl,Y.n_changes,a2,.inl ⟨rfl,_,aI.of h2⟩,_,rfl,ch,_,_,rfl,rfl,h2,cK (by omega),?_⟩
  have nsc:s'≠ch:=fun z=>by rw[z,h2]at h1;cases h1
  have u2:∀x o,x≠ch->H1 x=some o->upd H1 ch (.lst (cs++ [.ref c])) x=some o:=fun x o n z=>by rw[aF n];exact z
  have c2:upd H1 ch (.lst (cs++ [.ref c])) ch=some (.lst (cs++ [.ref c])):=aH
  have n2:∀b,upd H1 ch (.lst (cs++ [.ref c])) b=none->H1 b=none/\b≠ch:=fun b z=>by
   have:b≠ch:=fun y=>by rw[y,aH]at z;cases z
   rw[aF this]at z
   exact⟨z,this⟩
  generalize upd H1 ch (.lst (cs++ [.ref c]))=H2 at u2 c2 n2|-
  have s2:=u2 _ _ nsc h1
  refine⟨_,rfl,s',CS,dx,_,_,rfl,s2,Y.cl,Y.n_boards,a1,?_⟩
  intro fi' df hfi hdf ne
  refine⟨fi',df,bd,rfl,aH,fun H3 fd lk hfd hlk nfl g1 g2 g3 b3=>⟨rfl,?_⟩⟩
  have s3:aE H2 H3:=fun b o z=>b3 b o (bD z hfi) (by rw[aF (bD z hfi),aF (bD z hdf)];exact z)
  have fr:∀{x:Addr},upd (upd H2 df (.own fi')) fi' (.ins CF df []) x=none->H2 x=none:=fun{x} z=>by
   by_cases z1:x=fi'
   ·rw[z1];exact hfi
   ·by_cases z2:x=df
    ·rw[z2];exact hdf
    ·rw[aF z1,aF z2]at z;exact z
  refine⟨_,rfl,s',CS,dx,_,rfl,s3 _ _ s2,Y.cl,Y.n_finder,(by show 3<1000;decide),?_⟩
  rw[a4]
  have ns:∀{x:Addr},H2 x=none->x≠s':=fun z y=>by rw[y,s2]at z;cases z
  exact qq _ fi' fd lk df (n2 _ hfi).1 (n2 _ (fr hfd)).1 (n2 _ (fr hlk)).1 nfl aH (by rw[aF nsc.symm];exact s3 _ _ c2) (by rw[aF (ns hfi)];exact g1) (by rw[aF (ns (fr hfd))];exact g2) (by rw[aF (ns (fr hlk))];exact g3) (fun x o n1 n2' z=>by rw[aF n1];exact s3 _ _ (u2 _ _ n2' z))
def rM(CS CB CT:Addr):Sp:=fun vs H Q _=>∃(s bd ch fi dx:Addr) (kb:List (aG×V)) (nm:Str) (v:V),vs= [.ref s,.str nm] /\H s=some (.ins CS dx (cM bd ch fi))/\H bd=some (.dK kb)/\Nl nm/\aZ kb (.inr nm:aG)=some v/\∀H',aE H H'->Q v H'
theorem a9M:aW ["self","table"] ["self","table"] (aB oG):=⟨rfl,rfl,rfl,by decide+kernel,rfl,by decide+kernel,by decide+kernel⟩
theorem jK(T:bA K mg){CS CB CT:Addr}(Y:dU K mg CS):aN P w K mg base aC 2 CS "board_of" ["self","table"] (rM CS CB CT):=by
 have G_is_name:bK P w K mg base aC 1 "is_name" ["thing"] (jB K):=gM T
 refine Y.m_board_of.known a9M (fun _ _ _ _ _ _ us hl=>cZ (fun _ _=>rfl) us hl) (fun vs H Q E h=> ?_) (fun f cdv A outer s H vs Q E hr h=> ?_)
 ·obtain⟨s',bd,ch,fi,dx,kb,nm,v,rfl,_⟩:=h
  rfl
 ·obtain⟨s',bd,ch,fi,dx,kb,nm,v,rfl,h1,h2,ht,hv,q⟩:=h
  refine⟨_,(aK (bY (PW.pt (fE (dF (dG (bP G_is_name (hr.mono (by decide)) aM (aA (pv 1) aD)) (fun _=>rfl))) (fP (jL (qK (fJ hr) (pv 1) (aX (pv 0) rfl)))))) (aL cD) cB)
   (aL (bH (jQ (fJ hr) (aX (pv 0) rfl) (pv 1) (fun _ _=>rfl))))),?_⟩
  have h8:=ht.2.1
  refine⟨_,rfl,_,.str nm,rfl,.str nm,iO (by omega),fun H' s9=>⟨_,rfl,?_⟩⟩
  rw[show dR (.str nm)=true from ht.name]
  refine bL ⟨_,rfl,_,rfl,s',CS,dx,_,_,rfl,s9 _ _ h1,Y.cl,Y.n_boards,(oC _ _ _).1,bd,_,rfl,cR.k (k:=Sum.inr nm) (s9 _ _ h2),_,rfl,?_⟩
  rw[hv]
  exact bL ⟨_,rfl,s',CS,dx,_,_,rfl,s9 _ _ h1,Y.cl,Y.n_boards,(oC _ _ _).1,_,rfl,bd,v,rfl,hv▸cR.k (k:=Sum.inr nm) (s9 _ _ h2),q _ s9⟩
def a7V(CS CB CT:Addr):Sp:=fun vs H Q _=>∃(s bd ch fi dx:Addr) (kb:List (aG×V)) (nm t:Str) (B:BM),vs= [.ref s,.str nm,.str t] /\H s=some (.ins CS dx (cM bd ch fi))/\H bd=some (.dK kb)/\Nl nm/\aZ kb (.inr nm:aG)=some (.ref B.b)/\cE CB CT H B/\Nl t/\t∈B.ord/\∀H',aE H H'->Q (.ref B.b) H'
theorem a8G:aW ["self","table","column","board"] ["self","table","column"] (aB qI):=⟨rfl,rfl,rfl,by decide+kernel,rfl,by decide+kernel,by decide+kernel⟩
theorem pI(T:bA K mg){CS CB CT:Addr}(Y:dU K mg CS)(W:cV K mg CB):aN P w K mg base aC 3 CS "board_with" ["self","table","column"] (a7V CS CB CT):=by
 have G_of:aN P w K mg base aC 2 CS "board_of" ["self","table"] (rM CS CB CT):=jK T Y
 have G_has:aN P w K mg base aC 2 CB "has_column" ["self","column"] (a7g CB CT):=oM T W
 refine Y.m_board_with.known a8G (fun _ _ _ _ _ _ us hl=>cN (fun _ _ _=>rfl) us hl) (fun vs H Q E h=> ?_) (fun f cdv A outer s H vs Q E hr h=> ?_)
 ·obtain⟨s',bd,ch,fi,dx,kb,nm,t,B,rfl,_⟩:=h
  rfl
 ·obtain⟨s',bd,ch,fi,dx,kb,nm,t,B,rfl,h1,h2,hn,hv,hB,ht,ho,q⟩:=h
  refine⟨_,(aK (bW (i:=3) a8G.nd rfl (Or.inl rfl) (cH (pv 0) Y.cl G_of hr aM (aA (pv 1) aD)))
   (aK (bY (dF (dG (cH (pv 3) W.cl G_has hr aM (aA (pv 2) aD)) (fun _=>rfl))) (aL cD) cB)
   (aL (bH (pv 3))))),?_⟩
  refine⟨_,rfl,s',dx,_,rfl,h1,eO,_,rfl,s',bd,ch,fi,dx,kb,nm,_,rfl,h1,h2,hn,hv,fun H1 s1=> ?_⟩
  have hB1:=hB.same s1
  obtain⟨dB,b1⟩:=hB1.at_
  refine⟨_,rfl,B.b,dB,_,rfl,b1,uK,_,rfl,B,t,rfl,hB1,ht,fun H2 s2=>⟨_,rfl,?_⟩⟩
  rw[decide_eq_true ho]
  exact bL ⟨_,rfl,q _ (s1.trans s2)⟩
def a8b(CS CB CT:Addr):Sp:=fun vs H Q _=>∃(s bd ch fi dx:Addr) (kb:List (aG×V)) (nm t:Str) (B:BM),vs= [.ref s,.str nm,.str t] /\H s=some (.ins CS dx (cM bd ch fi))/\H bd=some (.dK kb)/\Nl nm/\aZ kb (.inr nm:aG)=some (.ref B.b)/\cE CB CT H B/\Nl t/\B.ord.length<8/\∀H',aE H H'->Q (.ref B.b) H'
theorem a7E:aW ["self","table","column","board"] ["self","table","column"] (aB oY):=⟨rfl,rfl,rfl,by decide+kernel,rfl,by decide+kernel,by decide+kernel⟩
theorem rO(T:bA K mg){CS CB CT:Addr}(Y:dU K mg CS)(W:cV K mg CB):aN P w K mg base aC 3 CS "board_for" ["self","table","column"] (a8b CS CB CT):=by
 have G_of:aN P w K mg base aC 2 CS "board_of" ["self","table"] (rM CS CB CT):=jK T Y
 have G_is_name:bK P w K mg base aC 1 "is_name" ["thing"] (jB K):=gM T
 refine Y.m_board_for.known a7E (fun _ _ _ _ _ _ us hl=>cN (fun _ _ _=>rfl) us hl) (fun vs H Q E h=> ?_) (fun f cdv A outer s H vs Q E hr h=> ?_)
 ·obtain⟨s',bd,ch,fi,dx,kb,nm,t,B,rfl,_⟩:=h
  rfl
 ·obtain⟨s',bd,ch,fi,dx,kb,nm,t,B,rfl,h1,h2,hn,hv,hB,ht,ho,q⟩:=h
  refine⟨_,(aK (bW (i:=3) a7E.nd rfl (Or.inl rfl) (cH (pv 0) Y.cl G_of hr aM (aA (pv 1) aD)))
   (aK (bY (dF (dG (bP G_is_name (hr.mono (by decide)) aM (aA (pv 2) aD)) (fun _=>rfl))) (aL cD) cB)
   (aK (bY (PW.pt (a62 (cW a4y (pv 2) (aX (pv 3) rfl) (by with_unfolding_all rfl)) (a43 (cW a4D (cF fW rfl T.len eQ (aA (aX (pv 3) rfl) aD)) (rK T.g_MOST_COLUMNS) (dW _))))) (aL cD) cB)
   (aL (bH (pv 3)))))),?_⟩
  refine⟨_,rfl,s',dx,_,rfl,h1,eO,_,rfl,s',bd,ch,fi,dx,kb,nm,_,rfl,h1,h2,hn,hv,fun H1 s1=> ?_⟩
  have h8:=ht.2.1
  refine⟨_,rfl,_,.str t,rfl,.str t,iO (by omega),fun H2 s2=>⟨_,rfl,?_⟩⟩
  rw[show dR (.str t)=true from ht.name]
  obtain⟨⟨dB,b1⟩,_,_,_,o1⟩:=(hB.same s1).same s2
  refine bL ⟨_,rfl,_,rfl,B.b,CB,dB,_,_,rfl,b1,W.cl,W.n_order,(eG _ _ _ _).2.2.2,B.od,_,rfl,.inl (aI.of o1),rfl,iK _,_,rfl,?_⟩
  have fin:Q (.ref B.b) H2:=q _ (s1.trans s2)
  refine eV (fun _=> ?_) (fun _=> ?_)
  ·refine⟨_,rfl,B.b,CB,dB,_,_,rfl,b1,W.cl,W.n_order,(eG _ _ _ _).2.2.2,_,_,rfl,.inl ⟨_,aI.of o1,rfl⟩,_,_,rfl,rfl,_,rfl,?_⟩
   rw[List.length_map,decide_eq_false (show¬(B.ord.length:Int)>=8 by omega)]
   exact bL ⟨_,rfl,fin⟩
  ·exact bL ⟨_,rfl,fin⟩
end
abbrev Ky:=List aG
noncomputable def bV (t c:Str) (p:Nat):Ky:=[.inr t,.inr c,.inl (p:Int)]
structure gD(CF CB CT:Addr)(H:Hp)(fi bd fd lk:Addr)(nm:Str)(B:BM)(kf:List (Ky×V)):Prop where
 fin:∃dx,H fi=some (.ins CF dx (eT bd fd lk))
 bds:∃kb,H bd=some (.dK kb)/\aZ kb (.inr nm:aG)=some (.ref B.b)
 B:cE CB CT H B
 fnd:H fd=some (.dT kf)
 len:kf.length<900
theorem gD.same{CF CB CT:Addr}{H H':Hp}{fi bd fd lk:Addr}{nm:Str}{B:BM}{kf:List (Ky×V)}(h:gD CF CB CT H fi bd fd lk nm B kf)(s:aE H H'):gD CF CB CT H' fi bd fd lk nm B kf:=
 ⟨let ⟨dx,e⟩:=h.fin;⟨dx,s _ _ e⟩,let ⟨kb,e1,e2⟩:=h.bds;⟨kb,s _ _ e1,e2⟩,h.B.same s,s _ _ h.fnd,h.len⟩
theorem gD.put{CF CB CT:Addr}{H H':Hp}{fi bd fd lk:Addr}{nm:Str}{B:BM}{kf kf':List (Ky×V)}(h:gD CF CB CT H fi bd fd lk nm B kf)(s:bE fd H H')(e:H' fd=some (.dT kf'))(l:kf'.length<900):gD CF CB CT H' fi bd fd lk nm B kf':=by
 have u:∀{x:Addr} {o:HO},H x=some o->(∀kvs,o≠ .dT kvs)->H' x=some o:=fun z n=>s _ _ (fun y=>by rw[y,h.fnd]at z;exact n _ (Option.some.inj z).symm) z
 obtain⟨dx,e1⟩:=h.fin
 obtain⟨kb,e2,e3⟩:=h.bds
 obtain⟨⟨d1,b1⟩,⟨⟨d2,b2⟩,b3,b4⟩,b5,b6,b7⟩:=h.B
 exact⟨⟨dx,u e1 (fun _ z=>by cases z)⟩,⟨kb,u e2 (fun _ z=>by cases z),e3⟩,⟨⟨d1,u b1 (fun _ z=>by cases z)⟩,⟨⟨d2,u b2 (fun _ z=>by cases z)⟩,u b3 (fun _ z=>by cases z),u b4 (fun _ z=>by cases z)⟩,u b5 (fun _ z=>by cases z),u b6 (fun _ z=>by cases z),u b7 (fun _ z=>by cases z)⟩,e,l⟩
section
variable{P:Program}{w:World}{K:Fg}{mg:Str->Option Value}{base:Heap}
def a8a(CF CB CT:Addr):Sp:=fun vs H Q _=>∃(fi bd fd lk ce l:Addr) (nm c:Str) (p:Nat) (B:BM) (kf:List (Ky×V)) (ys:List V) (v:V),vs= [.ref fi,.ref ce] /\gD CF CB CT H fi bd fd lk nm B kf/\H ce=some (.tup ((bV nm c p).map kV))/\aZ B.rus (.inr c:aG)=none/\Nl c/\aZ B.kvs (.inr c:aG)=some (.ref l)/\H l=some (.lst ys)/\p<B.xs.length/\cT ys (p:Int)=some v/\(∀v',aZ kf (bV nm c p)=some v'->v'=v)/\kf.length<899/\
 ∀H' kf',(kf'=kf\/ kf'=bJ kf (bV nm c p) v)->aZ kf' (bV nm c p)=some v->gD CF CB CT H' fi bd fd lk nm B kf'->bE fd H H'->Q (.bl true) H'
theorem a8T:aW ["self","cell","board"] ["self","cell"] (aB oA):=⟨rfl,rfl,rfl,by decide+kernel,rfl,by decide+kernel,by decide+kernel⟩
theorem b1T(T:bA K mg){CF CB CT:Addr}(Y:fO K mg CF)(W:cV K mg CB)(Z:cX K mg CT):aN P w K mg base aC 4 CF "knows" ["self","cell"] (a8a CF CB CT):=by
 have G_at:aN P w K mg base aC 3 CT "at" ["self","column","place"] (spAt CT):=pD T Z
 refine Y.m_knows.known a8T (fun _ _ _ _ _ _ us hl=>cZ (fun _ _=>rfl) us hl) (fun vs H Q E h=> ?_) (fun f cdv A outer s H vs Q E hr h=> ?_)
 ·obtain⟨fi,bd,fd,lk,ce,l,nm,c,p,B,kf,ys,v,rfl,_⟩:=h
  rfl
 ·obtain⟨fi,bd,fd,lk,ce,l,nm,c,p,B,kf,ys,v,rfl,hF,hce,hru,hc,hv,hl,hp,ha,hcon,kl,q⟩:=h
  have hu:=fJ hr
  refine⟨_,(aK (bW (i:=2) a8T.nd rfl (Or.inl rfl) (jQ hu (aX (pv 0) rfl) (bM fI (pv 1) aS (fun _ _=>rfl)) (fun _ _=>rfl)))
   (aK (bY (PW.pt (a62 (jL (qK hu (pv 1) (aX (pv 0) rfl))) (a43 (jL (qK hu (bM fI (pv 1) aS (fun _ _=>rfl)) (aX (pv 2) rfl)))))) (aL (uN hu (aX (pv 0) rfl) (pv 1) (cH (aX (pv 2) rfl) Z.cl G_at hr aM (aA (bM fI (pv 1) aS (fun _ _=>rfl)) (aA (bM fI (pv 1) aS (fun _ _=>rfl)) aD))) rfl)) cB)
   (aL (bH (b0r (uW hu (pv 1) (aX (pv 0) rfl)) (by with_unfolding_all rfl)))))),?_⟩
  obtain⟨dx,e1⟩:=hF.fin
  obtain⟨kb,e2,e3⟩:=hF.bds
  obtain⟨⟨d1,b1⟩,tb,b5,_,_⟩:=id hF.B
  obtain⟨⟨d2,b2⟩,b3,b4⟩:=id tb
  have e4:=hF.fnd
  obtain⟨a1,a2,a3⟩:=a8B bd fd lk
  refine⟨_,rfl,fi,CF,dx,_,_,rfl,e1,Y.cl,Y.n_boards,a1,_,rfl,ce,_,_,_,rfl,rfl,bU.of hce,rfl,bd,_,rfl,e3▸cR.k (k:=Sum.inr nm) e2,?_⟩
  have dgf:∀{H':Hp} {kf':List (Ky×V)},H' fd=some (.dT kf')->H' ce=some (.tup ((bV nm c p).map kV))->cR H' fd (.ref ce) (aZ kf' (bV nm c p)):=fun e g=> .inr ⟨_,bV nm c p,ce,.inl e,rfl,g,rfl⟩
  refine⟨_,rfl,_,rfl,fi,CF,dx,_,_,rfl,e1,Y.cl,Y.n_found,a2,fd,_,rfl,dgf e4 hce,_,rfl,?_⟩
  cases hk:aZ kf (bV nm c p)with
  |some v'=>
   obtain rfl:=hcon v' hk
   refine bL (bL ⟨_,rfl,_,rfl,fi,CF,dx,_,_,rfl,e1,Y.cl,Y.n_found,a2,fd,_,rfl,dgf e4 hce,?_⟩)
   rw[hk]
   exact q H kf (.inl rfl) hk hF (bE.of (aE.refl H))
  |none=>
   refine dY ⟨_,rfl,ce,_,_,_,rfl,rfl,bU.of hce,rfl,_,rfl,B.b,CB,d1,_,_,rfl,b1,W.cl,W.n_rules,(eG _ _ _ _).2.1,B.ru,_,rfl,cR.k (k:=Sum.inr c) b5,_,rfl,?_⟩
   rw[hru]
   refine dY ⟨_,rfl,B.b,CB,d1,_,_,rfl,b1,W.cl,W.n_given,(eG _ _ _ _).1,B.g,d2,_,rfl,b2,hW,_,rfl,ce,_,_,_,rfl,rfl,bU.of hce,rfl,_,rfl,ce,_,_,_,rfl,rfl,bU.of hce,rfl,B.g,B.r,B.e,B.xs,B.n,B.kvs,c,l,ys,p,v,rfl,tb,hc,hv,hl,hp,ha,fun H1 s1=> ?_⟩
   have F1:=hF.same s1
   have c1:=s1 _ _ hce
   have nce:ce≠fd:=fun z=>by rw[z,e4]at hce;cases hce
   refine⟨_,rfl,fi,CF,dx,_,_,rfl,s1 _ _ e1,Y.cl,Y.n_found,a2,_,rfl,fd,_,rfl,.inr ⟨kf,bV nm c p,ce,F1.fnd,rfl,c1,cK (by omega),rfl⟩,?_⟩
   have vp:aZ (bJ kf (bV nm c p) v) (bV nm c p)=some v:=by rw[lS,if_pos rfl]
   have lp:=oK kf (bV nm c p) v
   have b2':bE fd H1 (upd H1 fd (.dT (bJ kf (bV nm c p) v))):=fun b o n z=>by rw[aF n];exact z
   have F2:=F1.put b2' aH (by omega)
   have c2:=b2' _ _ nce c1
   have f2:=F2.fnd
   generalize upd H1 fd (.dT (bJ kf (bV nm c p) v))=H2 at b2' F2 c2 f2|-
   obtain⟨dx2,e12⟩:=F2.fin
   refine⟨_,rfl,_,rfl,fi,CF,dx2,_,_,rfl,e12,Y.cl,Y.n_found,a2,fd,_,rfl,dgf f2 c2,?_⟩
   rw[vp]
   exact q H2 _ (.inr rfl) vp F2 ((bE.of s1).trans b2')
noncomputable def rfl3 (fi tl:Addr) (u:V):List (Str×V):=[("finder",V.ref fi),("looked",V.ref tl),("lacking",u)]
def a9K(C:Addr):Sp:=fun vs H Q _=>∃(p dx fi:Addr),vs= [.ref p,.ref fi] /\H p=some (.ins C dx [])/\
 ∀H' tl,H tl=none->H' p=some (.ins C dx (rfl3 fi tl .non))->H' tl=some (.dT [])->bE p H H'->Q .non H'
theorem b3R:aW ["self","finder"] ["self","finder"] (aB qX):=⟨rfl,rfl,rfl,by decide+kernel,rfl,by decide+kernel,by decide+kernel⟩
theorem tY(T:bA K mg){C:Addr}(Y:a7l K mg C):cI P w K mg base aC 1 C ["self","finder"] (a9K C):=by
 refine(Y.m_init.known b3R (fun _ _ _ _ _ _ us hl=>cZ (fun _ _=>rfl) us hl) (fun vs H Q E h=> ?_) (fun f cdv A outer s H vs Q E hr h=> ?_)).init Y.mks Y.kc
 ·obtain⟨p,dx,fi,rfl,_⟩:=h
  rfl
 ·obtain⟨p,dx,fi,rfl,hp,q⟩:=h
  refine⟨_,(aK (bR (pv 0) (pv 1) rfl) (aK (bR (pv 0) zP rfl) (aL (bR (pv 0) kT rfl)))),?_⟩
  refine⟨_,rfl,_,rfl,p,C,dx,[],rfl,hp,Y.cl,Y.n_finder,(by show 0<1000;decide),?_⟩
  have u1:∀b o,b≠p->H b=some o->upd H p (.ins C dx (aJ "finder" (.ref fi) [])) b=some o:=fun b o n z=>by rw[aF n];exact z
  have p1:upd H p (.ins C dx (aJ "finder" (.ref fi) [])) p=some (.ins C dx (aJ "finder" (.ref fi) [])):=aH
  have n1:∀b,upd H p (.ins C dx (aJ "finder" (.ref fi) [])) b=none->H b=none/\b≠p:=fun b z=>by
   have:b≠p:=fun y=>by rw[y,aH]at z;cases z
   rw[aF this]at z
   exact⟨z,this⟩
  generalize upd H p (.ins C dx (aJ "finder" (.ref fi) []))=H1 at u1 p1 n1|-
  refine fun tl htl=> ?_
  have s2:=aE.new (o:=.dT []) htl
  have h2:upd H1 tl (.dT []) tl=some (.dT []):=aH
  refine⟨_,rfl,p,C,dx,_,rfl,s2 _ _ p1,Y.cl,Y.n_looked,(by show 1<1000;decide),?_⟩
  have ht:=n1 _ htl
  generalize upd H1 tl (.dT [])=H2 at s2 h2|-
  refine⟨_,rfl,p,C,dx,_,rfl,aH,Y.cl,Y.n_lacking,(by show 2<1000;decide),?_⟩
  exact q _ tl ht.1 aH (by rw[aF ht.2,aF ht.2];exact h2) (fun b o n z=>by rw[aF n,aF n];exact s2 _ _ (u1 _ _ n z))
def spVo(CF:Addr)(sp:Sp):Sp:=fun vs H Q _=>∃(fi ce bd fd lk d0:Addr) (ky:Ky),vs= [.ref fi,.ref ce] /\H fi=some (.ins CF d0 (eT bd fd lk))/\
 ∀H1 wl,H wl=none->aE H H1->H1 wl=some (.lst [.ref ce])->sp [.ref fi,.ref ce] H1 (fun v H2=>v= .non/\∃d2 kf v2,H2 wl=some (.lst [.ref ce])/\H2 fi=some (.ins CF d2 (eT bd fd lk))/\H2 fd=some (.dT kf)/\H2 ce=some (.tup (ky.map kV))/\aZ kf ky=some v2/\∀H3,bE wl H2 H3->Q v2 H3) E0
abbrev Nvo:List Str:=["self","cell","waiting","lacking"]
theorem a6W:aW Nvo ["self","cell"] (aB sH):=⟨rfl,rfl,rfl,by decide+kernel,rfl,by decide+kernel,by decide+kernel⟩
theorem b2F(T:bA K mg){CF:Addr}(Y:fO K mg CF){k:Nat}{sp:Sp}(mono:kG sp)(G:aN P w K mg base aC k CF "attempt" ["self","cell"] sp):aN P w K mg base aC (k+ 1) CF "value_of" ["self","cell"] (spVo CF sp):=by
 refine Y.m_value_of.known a6W (fun _ _ _ _ _ _ us hl=>cZ (fun _ _=>rfl) us hl) (fun vs H Q E h=> ?_) (fun f cdv A outer s H vs Q E hr h=> ?_)
 ·obtain⟨fi,ce,bd,fd,lk,d0,ky,rfl,_⟩:=h
  rfl
 ·obtain⟨fi,ce,bd,fd,lk,d0,ky,rfl,hfi,q⟩:=h
  have hu:=fJ hr
  refine⟨_,(aK (bW (i:=2) a6W.nd rfl (Or.inl rfl) (eD (aA (pv 1) aD)))
   (aK (b2m PassesOwn.never (a88 (pv 2) (fun _=>rfl)) (aK (bW (i:=3) a6W.nd rfl (Or.inl rfl) (cH (pv 0) Y.cl G hr aM (aA (bM cC (pv 2) (b1G b2v aS) (fun _ _=>rfl)) aD)))
   (aL (bY (cW a8m (pv 3) kT (dW _)) (aL (bX (b0q PySem.F.plainAttrs_list PySem.F.slot_list_pop PySem.F.type_list_pop a9n (pv 2)))) (aL cD)))))
   (aL (bH (jQ hu (aX (pv 0) rfl) (pv 1) (fun _ _=>rfl)))))),?_⟩
  refine⟨_,rfl,sl,fun wl hwl=> ?_⟩
  have s1:=aE.new (o:=.lst [.ref ce]) hwl
  have w1:upd H wl (.lst [.ref ce]) wl=some (.lst [.ref ce]):=aH
  generalize upd H wl (.lst [.ref ce])=H1 at s1 w1|-
  have q1:=q H1 wl hwl s1 w1
  let Wf:Nat->St->Hp->Prop:=fun m σ H2=>(m=1/\σ= [some (.ref fi),some (.ref ce),some (.ref wl),none] /\H2=H1)\/ (m=0/\σ= [some (.ref fi),some (.ref ce),some (.ref wl),some .non] /\∃d2 kf v2,H2 wl=some (.lst [])/\H2 fi=some (.ins CF d2 (eT bd fd lk))/\H2 fd=some (.dT kf)/\H2 ce=some (.tup (ky.map kV))/\aZ kf ky=some v2/\Q v2 H2)
  refine⟨Wf,⟨1,.inl ⟨rfl,rfl,rfl⟩⟩,?_⟩
  rintro m σ H2 (⟨rfl,rfl,rfl⟩|⟨rfl,rfl,d2,kf,v2,h1,h2,h3,h4,h5,h6⟩)
  ·refine⟨_,rfl,_,.inl ⟨_,aI.of w1,rfl⟩,?_⟩
   refine eV (fun g=> ?_) (fun g=>absurd rfl g)
   refine⟨fun σ' H'=>∃m',m'<1/\Wf m' σ' H',fun σ' H' h=>h,?_⟩
   refine⟨_,rfl,fi,d0,_,rfl,s1 _ _ hfi,a2K,_,rfl,_,rfl,wl,_,_,_,rfl,rfl,aI.of w1,rfl,?_⟩
   refine mono _ _ _ _ (fun v H3 hQ=> ?_) q1
   obtain⟨rfl,d2,kf,v2,h1,h2,h3,h4,h5,h6⟩:=hQ
   refine⟨_,rfl,rfl,_,rfl,dY ?_⟩
   refine⟨_,rfl,.inl ⟨rfl,_,aI.of h1⟩,wl,_,_,rfl,rfl,h1,rfl,?_⟩
   have u:bE wl H3 (upd H3 wl (.lst [])):=fun b o n e=>by rw[aF n];exact e
   refine⟨0,by decide,.inr ⟨rfl,rfl,d2,kf,v2,aH,u _ _ (fun y=>by rw[y,h1]at h2;cases h2) h2,u _ _ (fun y=>by rw[y,h1]at h3;cases h3) h3,u _ _ (fun y=>by rw[y,h1]at h4;cases h4) h4,h5,h6 _ u⟩⟩
  ·refine⟨_,rfl,_,.inl ⟨_,aI.of h1,rfl⟩,?_⟩
   refine eV (fun g=>by cases g) (fun g=> ?_)
   refine⟨_,rfl,fi,CF,d2,_,_,rfl,h2,Y.cl,Y.n_found,(a8B _ _ _).2.1,_,rfl,fd,v2,rfl,.inr ⟨kf,ky,ce,.inl h3,rfl,h4,h5.symm⟩,h6⟩
def ShAt(CS CB CT:Addr)(s bd ch fi:Addr)(kb:List (aG×V))(nm:Str)(B:BM)(H:Hp):Prop:=(∃dx,H s=some (.ins CS dx (cM bd ch fi)))/\H bd=some (.dK kb)/\Nl nm/\aZ kb (.inr nm:aG)=some (.ref B.b)/\cE CB CT H B
def a7I(CS CB CT:Addr):Sp:=fun vs H Q _=>∃(s bd ch fi:Addr) (kb:List (aG×V)) (nm t:Str) (p:Nat) (B:BM),vs= [.ref s,.str nm,.str t,.int (p:Int)] /\ShAt CS CB CT s bd ch fi kb nm B H/\Nl t/\t∈B.ord/\p<B.xs.length/\∀H',aE H H'->Q .non H'
theorem a9g:aW ["self","table","column","place"] ["self","table","column","place"] (aB nT):=⟨rfl,rfl,rfl,by decide+kernel,rfl,by decide+kernel,by decide+kernel⟩
theorem pZ(T:bA K mg){CS CB CT:Addr}(Y:dU K mg CS)(W:cV K mg CB)(Z:cX K mg CT):aN P w K mg base aC 4 CS "check_cell" ["self","table","column","place"] (a7I CS CB CT):=by
 have G_with:aN P w K mg base aC 3 CS "board_with" ["self","table","column"] (a7V CS CB CT):=pI T Y W
 have G_pl:bK P w K mg base aC 2 "check_place" ["place","places"] qJ:=jA T
 have G_many:aN P w K mg base aC 1 CT "many" ["self"] (jZ CT):=gY T Z
 refine Y.m_check_cell.known a9g (fun _ _ _ _ _ _ us hl=>jR (fun _ _ _ _=>rfl) us hl) (fun vs H Q E h=> ?_) (fun f cdv A outer s H vs Q E hr h=> ?_)
 ·obtain⟨s',bd,ch,fi,kb,nm,t,p,B,rfl,_⟩:=h
  rfl
 ·obtain⟨s',bd,ch,fi,kb,nm,t,p,B,rfl,hS,ht,hm,hp,q⟩:=h
  refine⟨_,aL (bX (bP G_pl (hr.mono (by decide)) aM (aA (pv 3) (aA (iX (aX (cH (pv 0) Y.cl G_with hr aM (aA (pv 1) (aA (pv 2) aD))) rfl) Z.cl G_many (hr.mono (by decide)) aM) aD)))),?_⟩
  obtain⟨dx,hs⟩:=hS.1
  refine⟨_,rfl,_,rfl,s',dx,_,rfl,hs,eO,_,rfl,_,rfl,s',bd,ch,fi,dx,kb,nm,t,B,rfl,hs,hS.2.1,hS.2.2.1,hS.2.2.2.1,hS.2.2.2.2,ht,hm,fun H1 s1=> ?_⟩
  obtain⟨dB,hb⟩:=hS.2.2.2.2.at_
  obtain⟨dT,hT⟩:=hS.2.2.2.2.tab.at_
  exact⟨B.b,CB,dB,_,_,rfl,s1 _ _ hb,W.cl,W.n_given,(eG _ _ _ _).1,B.g,dT,_,rfl,s1 _ _ hT,hW,B.g,B.r,B.e,B.xs,B.n,B.kvs,rfl,hS.2.2.2.2.tab.same s1,p,B.xs.length,rfl,hp,q H1 s1⟩
def spSc(CS CF CB CT:Addr)(sp:Sp):Sp:=fun vs H Q _=>∃(s bd ch fi df:Addr) (kb:List (aG×V)) (nm t:Str) (p:Nat) (B:BM) (fs:List (Str×V)),vs= [.ref s,.str nm,.str t,.int (p:Int)] /\ShAt CS CB CT s bd ch fi kb nm B H/\Nl t/\t∈B.ord/\p<B.xs.length/\H fi=some (.ins CF df fs)/\fs.lookup ("value_of":Str)=none/\
 ∀H1 ce,H ce=none->aE H H1->H1 ce=some (.tup ((bV nm t p).map kV))->sp [.ref fi,.ref ce] H1 Q E0
theorem b0A:aW ["self","table","column","place"] ["self","table","column","place"] (aB pS):=⟨rfl,rfl,rfl,by decide+kernel,rfl,by decide+kernel,by decide+kernel⟩
theorem qL(T:bA K mg){CS CF CB CT:Addr}(Y:dU K mg CS)(F:fO K mg CF)(W:cV K mg CB)(Z:cX K mg CT){k:Nat}{sp:Sp}(hk:4<=k)(G:aN P w K mg base aC k CF "value_of" ["self","cell"] sp):aN P w K mg base aC (k+ 1) CS "cell" ["self","table","column","place"] (spSc CS CF CB CT sp):=by
 have G_chk:aN P w K mg base aC 4 CS "check_cell" ["self","table","column","place"] (a7I CS CB CT):=pZ T Y W Z
 refine Y.m_cell.known b0A (fun _ _ _ _ _ _ us hl=>jR (fun _ _ _ _=>rfl) us hl) (fun vs H Q E h=> ?_) (fun f cdv A outer s H vs Q E hr h=> ?_)
 ·obtain⟨s',bd,ch,fi,df,kb,nm,t,p,B,fs,rfl,_⟩:=h
  rfl
 ·obtain⟨s',bd,ch,fi,df,kb,nm,t,p,B,fs,rfl,hS,ht,hm,hp,hfi,hno,q⟩:=h
  refine⟨_,aK (bX (cH (pv 0) Y.cl G_chk (hr.mono hk) aM (aA (pv 1) (aA (pv 2) (aA (pv 3) aD)))))
   (aL (bH (cH (aX (pv 0) rfl) F.cl G hr aM (aA (jO (aA (pv 1) (aA (pv 2) (aA (pv 3) aD)))) aD)))),?_⟩
  obtain⟨dx,hs⟩:=hS.1
  refine⟨_,rfl,s',dx,_,rfl,hs,eO,_,rfl,_,rfl,_,rfl,s',bd,ch,fi,kb,nm,t,p,B,rfl,hS,ht,hm,hp,fun H1 s1=> ?_⟩
  refine⟨_,rfl,s',CS,dx,_,_,rfl,s1 _ _ hs,Y.cl,Y.n_finder,(oC _ _ _).2.2.1,fi,df,fs,rfl,s1 _ _ hfi,hno,_,rfl,_,rfl,_,rfl,sl,fun ce hce=> ?_⟩
  exact q _ ce (gO s1 hce) (s1.trans (aE.new hce)) aH
def b0I(CS CB CT:Addr):Sp:=fun vs H Q _=>∃(s bd ch fi dx:Addr) (kb:List (aG×V)) (nm:Str) (B:BM),vs= [.ref s,.str nm] /\H s=some (.ins CS dx (cM bd ch fi))/\H bd=some (.dK kb)/\Nl nm/\aZ kb (.inr nm:aG)=some (.ref B.b)/\cE CB CT H B/\∀H' l,aE H H'->H l=none->H' l=some (.lst (B.ord.map V.str))->Q (.ref l) H'
theorem b2H:aW ["self","table"] ["self","table"] (aB pR):=⟨rfl,rfl,rfl,by decide+kernel,rfl,by decide+kernel,by decide+kernel⟩
theorem mV(T:bA K mg){CS CB CT:Addr}(Y:dU K mg CS)(W:cV K mg CB):aN P w K mg base aC 3 CS "columns" ["self","table"] (b0I CS CB CT):=by
 have G_of:aN P w K mg base aC 2 CS "board_of" ["self","table"] (rM CS CB CT):=jK T Y
 refine Y.m_columns.known b2H (fun _ _ _ _ _ _ us hl=>cZ (fun _ _=>rfl) us hl) (fun vs H Q E h=> ?_) (fun f cdv A outer s H vs Q E hr h=> ?_)
 ·obtain⟨s',bd,ch,fi,dx,kb,nm,B,rfl,_⟩:=h
  rfl
 ·obtain⟨s',bd,ch,fi,dx,kb,nm,B,rfl,h1,h2,hn,hv,hB,q⟩:=h
  refine⟨_,(aL (bH (kF yG rfl T.list jH (aA (aX (cH (pv 0) Y.cl G_of hr aM (aA (pv 1) aD)) rfl) aD)))),?_⟩
  refine⟨_,rfl,s',dx,_,rfl,h1,eO,_,rfl,s',bd,ch,fi,dx,kb,nm,_,rfl,h1,h2,hn,hv,fun H1 s1=> ?_⟩
  obtain⟨dB,b1⟩:=(hB.same s1).at_
  exact⟨B.b,CB,dB,_,_,rfl,b1,W.cl,W.n_order,(eG _ _ _ _).2.2.2,B.od,_,rfl,.inl (aI.of (hB.same s1).ord),fun l hl=>q _ l (s1.trans (aE.new hl)) (gO s1 hl) aH⟩
def a33(CF CB CT:Addr):Sp:=fun vs H Q _=>∃(fi bd fd lk ce l:Addr) (nm c:Str) (p:Nat) (B:BM) (kf:List (Ky×V)) (ys:List V) (v:V),vs= [.ref fi,.ref ce] /\gD CF CB CT H fi bd fd lk nm B kf/\H ce=some (.tup ((bV nm c p).map kV))/\aZ B.rus (.inr c:aG)=none/\Nl c/\aZ B.kvs (.inr c:aG)=some (.ref l)/\H l=some (.lst ys)/\p<B.xs.length/\cT ys (p:Int)=some v/\(∀v',aZ kf (bV nm c p)=some v'->v'=v)/\kf.length<899/\
 ∀H' kf',(kf'=kf\/ kf'=bJ kf (bV nm c p) v)->aZ kf' (bV nm c p)=some v->gD CF CB CT H' fi bd fd lk nm B kf'->bE fd H H'->Q .non H'
abbrev NatG:List Str:=["self","cell","trial","told"]
theorem b3T:aW NatG ["self","cell"] (aB nK):=⟨rfl,rfl,rfl,by decide+kernel,rfl,by decide+kernel,by decide+kernel⟩
theorem b3K(T:bA K mg){CF CB CT:Addr}(Y:fO K mg CF)(Wb:cV K mg CB)(U:cX K mg CT):aN P w K mg base aC 5 CF "attempt" ["self","cell"] (a33 CF CB CT):=by
 have G_knows:aN P w K mg base aC 4 CF "knows" ["self","cell"] (a8a CF CB CT):=b1T T Y Wb U
 refine Y.m_attempt.known b3T (fun _ _ _ _ _ _ us hl=>cZ (fun _ _=>rfl) us hl) (fun vs H Q E h=> ?_) (fun f cdv A outer s H vs Q E hr h=> ?_)
 ·obtain⟨fi,bd,fd,lk,ce,l,nm,c,p,B,kf,ys,v,rfl,_⟩:=h
  rfl
 ·obtain⟨fi,bd,fd,lk,ce,l,nm,c,p,B,kf,ys,v,rfl,F,a1,a2,a3,a4,a5,a6,a7,a8,a9,q⟩:=h
  refine⟨_,(aK (bY (dG (cH (pv 0) Y.cl G_knows hr aM (aA (pv 1) aD)) (fun _=>rfl)) (aL (bH kT)) cB)
   (aK cD (aK cD (aK cD (aL cD))))),?_⟩
  obtain⟨d0,e1⟩:=F.fin
  exact⟨_,rfl,fi,d0,_,rfl,e1,a2K,_,rfl,fi,bd,fd,lk,ce,l,nm,c,p,B,kf,ys,v,rfl,F,a1,a2,a3,a4,a5,a6,a7,a8,a9,fun H' kf' h1 h2 h3 h4=>⟨_,rfl,dY (q H' kf' h1 h2 h3 h4)⟩⟩
theorem b2a{CF CB CT:Addr}:kG (a33 CF CB CT):=fun vs H Q Q' hQ h=>by
 obtain⟨fi,bd,fd,lk,ce,l,nm,c,p,B,kf,ys,v,a0,F,a1,a2,a3,a4,a5,a6,a7,a8,a9,q⟩:=h
 exact⟨fi,bd,fd,lk,ce,l,nm,c,p,B,kf,ys,v,a0,F,a1,a2,a3,a4,a5,a6,a7,a8,a9,fun H' kf' h1 h2 h3 h4=>hQ _ _ (q H' kf' h1 h2 h3 h4)⟩
theorem b18{CS CF CB CT s bd ch fi fd lk l:Addr}{kb:List (aG×V)}{nm c:Str}{p:Nat}{B:BM}{kf:List (Ky×V)}{ys:List V}{v:V}{H:Hp}{Q:VK}(F:gD CF CB CT H fi bd fd lk nm B kf)(hS:ShAt CS CB CT s bd ch fi kb nm B H)(nc:Nl c)(co:c∈B.ord)(ru:aZ B.rus (.inr c:aG)=none)(kv:aZ B.kvs (.inr c:aG)=some (.ref l))(hl:H l=some (.lst ys))(hp:p<B.xs.length)(ha:cT ys (p:Int)=some v)(hcon:∀v',aZ kf (bV nm c p)=some v'->v'=v)(kl:kf.length<899)
 (q:∀H' kf',(kf'=kf\/ kf'=bJ kf (bV nm c p) v)->H' fd=some (.dT kf')->bE fd H H'->Q v H'):
 spSc CS CF CB CT (spVo CF (a33 CF CB CT)) [.ref s,.str nm,.str c,.int (p:Int)] H Q E0:=by
 obtain⟨df,hfi⟩:=F.fin
 refine⟨s,bd,ch,fi,df,kb,nm,c,p,B,_,rfl,hS,nc,co,hp,hfi,a2K,fun H1 ce hce s1 c1=> ?_⟩
 refine⟨fi,ce,bd,fd,lk,df,bV nm c p,rfl,s1 _ _ hfi,fun H2 wl hwl s2 w2=> ?_⟩
 have F2:=(F.same s1).same s2
 have nfd:∀{x:Addr} {o:HO},H2 x=some o->(∀y,o≠ .dT y)->x≠fd:=fun e n y=>by rw[y,F2.fnd]at e;exact n _ (Option.some.inj e).symm
 refine⟨fi,bd,fd,lk,ce,l,nm,c,p,B,kf,ys,v,rfl,F2,s2 _ _ c1,ru,nc,kv,s2 _ _ (s1 _ _ hl),hp,ha,hcon,kl,fun H3 kf' hk hv F3 b3=>⟨rfl,?_⟩⟩
 obtain⟨d3,f3⟩:=F3.fin
 have w3:=b3 _ _ (nfd w2 (fun _ y=>by cases y)) w2
 refine⟨d3,kf',v,w3,f3,F3.fnd,b3 _ _ (nfd (s2 _ _ c1) (fun _ y=>by cases y)) (s2 _ _ c1),hv,fun H4 b4=>q H4 kf' hk (b4 _ _ (fun y=>by rw[<- y,F3.fnd]at w3;cases w3) F3.fnd) fun x o n e=>b4 _ _ (fun y=>by rw[y]at e;rw[s1 _ _ e]at hwl;cases hwl) (b3 _ _ n (s2 _ _ (s1 _ _ e)))⟩
def a8t(CS CB CT:Addr):Sp:=fun vs H Q _=>∃(s bd ch fi dx:Addr) (kb:List (aG×V)) (nm:Str) (B:BM),vs= [.ref s,.str nm] /\H s=some (.ins CS dx (cM bd ch fi))/\H bd=some (.dK kb)/\Nl nm/\aZ kb (.inr nm:aG)=some (.ref B.b)/\cE CB CT H B/\∀H',aE H H'->Q (.int B.xs.length) H'
theorem a9O:aW ["self","table"] ["self","table"] (aB oW):=⟨rfl,rfl,rfl,by decide+kernel,rfl,by decide+kernel,by decide+kernel⟩
theorem mI(T:bA K mg){CS CB CT:Addr}(Y:dU K mg CS)(W:cV K mg CB)(Z:cX K mg CT):aN P w K mg base aC 3 CS "many" ["self","table"] (a8t CS CB CT):=by
 have G_of:aN P w K mg base aC 2 CS "board_of" ["self","table"] (rM CS CB CT):=jK T Y
 have G_many:aN P w K mg base aC 1 CT "many" ["self"] (jZ CT):=gY T Z
 refine Y.m_many.known a9O (fun _ _ _ _ _ _ us hl=>cZ (fun _ _=>rfl) us hl) (fun vs H Q E h=> ?_) (fun f cdv A outer s H vs Q E hr h=> ?_)
 ·obtain⟨s',bd,ch,fi,dx,kb,nm,B,rfl,_⟩:=h
  rfl
 ·obtain⟨s',bd,ch,fi,dx,kb,nm,B,rfl,h1,h2,hn,hv,hB,q⟩:=h
  refine⟨_,(aL (bH (iX (aX (cH (pv 0) Y.cl G_of hr aM (aA (pv 1) aD)) rfl) Z.cl G_many (hr.mono (by decide)) aM))),?_⟩
  refine⟨_,rfl,s',dx,_,rfl,h1,eO,_,rfl,s',bd,ch,fi,dx,kb,nm,_,rfl,h1,h2,hn,hv,fun H1 s1=> ?_⟩
  have hB1:=hB.same s1
  obtain⟨dB,b1⟩:=hB1.at_
  obtain⟨dT,t1⟩:=hB1.tab.at_
  exact⟨B.b,CB,dB,_,_,rfl,b1,W.cl,W.n_given,(eG _ _ _ _).1,B.g,dT,_,rfl,t1,hW,B.g,B.r,B.e,B.xs,B.n,B.kvs,rfl,hB1.tab,q H1 s1⟩
end
theorem b1x{C CB CT:Addr}:kG (spTT C CB CT):=fun vs H Q Q' hQ h=>by
 obtain⟨p,dx,bd,nm,m,kb,e1,e2,e3,e4,e5,q⟩:=h
 exact⟨p,dx,bd,nm,m,kb,e1,e2,e3,e4,e5,fun H' b g r e ru me od a1 a2 a3 a4 a5=>hQ _ _ (q H' b g r e ru me od a1 a2 a3 a4 a5)⟩
theorem b1m{K:Fg}{CB CT:Addr}:kG (a1J K CB CT):=fun vs H Q Q' hQ h=>by
 obtain⟨B,t,a,ys,ds,e1,e2,e3,e4,e5,e6,e7,e8,e9,e10,e11,e12,q⟩:=h
 exact⟨B,t,a,ys,ds,e1,e2,e3,e4,e5,e6,e7,e8,e9,e10,e11,e12,fun H' l a1 a2 a3 a4=>hQ _ _ (q H' l a1 a2 a3 a4)⟩
theorem a9e{C CB CT:Addr}{sp:Sp}(h:kG sp):kG (spCS C CB CT sp):=fun vs H Q Q' hQ g=>by
 obtain⟨p,dx,a,B,t,e1,e2,e3,e4,q⟩:=g
 exact⟨p,dx,a,B,t,e1,e2,e3,e4,h _ _ _ _ (fun v H' z=>hQ _ _ z) q⟩
theorem iH{H:Hp}{a b:Addr}{o:HO}(h:upd H a o b=none):H b=none/\b≠a:=by
 have:b≠a:=fun y=>by rw[y,aH]at h;cases h
 rw[aF this]at h
 exact⟨h,this⟩
section
variable{P:Program}{w:World}{K:Fg}{mg:Str->Option Value}{base:Heap}
theorem b23(bd ch fi:Addr):aJ "finder" (.ref fi) (aJ "changes" (.ref ch) (aJ "boards" (.ref bd) []))=cM bd ch fi:=by
 rfl
def spSI(CS CF:Addr):Sp:=fun vs H Q _=>∃(p dx:Addr),vs= [.ref p] /\H p=some (.ins CS dx [])/\
 ∀H' bd ch fi fd lk df,(∀x∈ [bd,ch,fi,fd,lk],H x=none)->fd≠lk->H' p=some (.ins CS dx (cM bd ch fi))->H' bd=some (.dK [])->H' ch=some (.lst [])->H' fi=some (.ins CF df (eT bd fd lk))->H' fd=some (.dT [])->H' lk=some (.dT [])->bE p H H'->Q .non H'
theorem b0m:aW ["self"] ["self"] (aB rP):=⟨rfl,rfl,rfl,by decide+kernel,rfl,by decide+kernel,by decide+kernel⟩
theorem qQ(T:bA K mg){CS CF:Addr}(Y:dU K mg CS)(Z:fO K mg CF):cI P w K mg base aC 3 CS ["self"] (spSI CS CF):=by
 have GI:cI P w K mg base aC 1 CF ["self","boards"] (spFI CF):=mJ T Z
 refine(Y.m_init.known b0m (fun _ _ _ _ _ _ us hl=>cQ (fun _=>rfl) us hl) (fun vs H Q E h=> ?_) (fun f cdv A outer s H vs Q E hr h=> ?_)).init Y.mks Y.kc
 ·obtain⟨p,dx,rfl,_⟩:=h
  rfl
 ·obtain⟨p,dx,rfl,hp,q⟩:=h
  refine⟨_,(aK (bR (pv 0) oV rfl)
   (aK (bR (pv 0) (eD aD) rfl)
   (aL (bR (pv 0) (gH GI hr Z.c aM (aA (aX (pv 0) rfl) aD)) rfl)))),?_⟩
  intro bd hbd
  have s1:=aE.new (o:=.dK []) hbd
  have b1:upd H bd (.dK []) bd=some (.dK []):=aH
  have n1:∀{b:Addr},upd H bd (.dK []) b=none->H b=none/\b≠bd:=iH
  generalize upd H bd (.dK [])=H1 at s1 b1 n1|-
  refine⟨_,rfl,p,CS,dx,[],rfl,s1 _ _ hp,Y.cl,Y.n_boards,(by show 0<1000;decide),?_⟩
  have u2:bE p H1 (upd H1 p (.ins CS dx (aJ "boards" (.ref bd) []))):=fun b o n z=>by rw[aF n];exact z
  have p2:upd H1 p (.ins CS dx (aJ "boards" (.ref bd) [])) p=some (.ins CS dx (aJ "boards" (.ref bd) [])):=aH
  have n2:∀{b:Addr},upd H1 p (.ins CS dx (aJ "boards" (.ref bd) [])) b=none->H1 b=none/\b≠p:=iH
  generalize upd H1 p (.ins CS dx (aJ "boards" (.ref bd) []))=H2 at u2 p2 n2|-
  refine⟨sl,fun ch hch=> ?_⟩
  have s3:=aE.new (o:=.lst []) hch
  have c3:upd H2 ch (.lst []) ch=some (.lst []):=aH
  have n3:∀{b:Addr},upd H2 ch (.lst []) b=none->H2 b=none/\b≠ch:=iH
  generalize upd H2 ch (.lst [])=H3 at s3 c3 n3|-
  refine⟨_,rfl,p,CS,dx,_,rfl,s3 _ _ p2,Y.cl,Y.n_changes,(by show 1<1000;decide),?_⟩
  have u4:bE p H3 (upd H3 p (.ins CS dx (aJ "changes" (.ref ch) (aJ "boards" (.ref bd) [])))):=fun b o n z=>by rw[aF n];exact z
  have p4:upd H3 p (.ins CS dx (aJ "changes" (.ref ch) (aJ "boards" (.ref bd) []))) p=some (.ins CS dx (aJ "changes" (.ref ch) (aJ "boards" (.ref bd) []))):=aH
  have n4:∀{b:Addr},upd H3 p (.ins CS dx (aJ "changes" (.ref ch) (aJ "boards" (.ref bd) []))) b=none->H3 b=none/\b≠p:=iH
  generalize upd H3 p (.ins CS dx (aJ "changes" (.ref ch) (aJ "boards" (.ref bd) [])))=H4 at u4 p4 n4|-
  have npb:bd≠p:=fun y=>by rw[y,hp]at hbd;cases hbd
  have npc:ch≠p:=fun y=>by rw[y,p2]at hch;cases hch
  refine⟨_,rfl,p,CS,dx,_,_,rfl,p4,Y.cl,Y.n_boards,(show List.lookup ("boards":Str) (aJ "changes" (V.ref ch) (aJ "boards" (V.ref bd) []))=some (.ref bd) from rfl),?_⟩
  intro fi df hfi hdf ne
  refine⟨fi,df,bd,rfl,aH,fun H5 fd lk hfd hlk nfl g1 g2 g3 b5=>⟨rfl,?_⟩⟩
  have s5:aE H4 H5:=fun b o z=>b5 b o (bD z hfi) (by rw[aF (bD z hfi),aF (bD z hdf)];exact z)
  have fr:∀{x:Addr},upd (upd H4 df (.own fi)) fi (.ins CF df []) x=none->H4 x=none:=fun{x} z=>(iH (iH z).1).1
  refine⟨_,rfl,p,CS,dx,_,rfl,s5 _ _ p4,Y.cl,Y.n_finder,(by show 2<1000;decide),?_⟩
  rw[b23]
  have u6:bE p H5 (upd H5 p (.ins CS dx (cM bd ch fi))):=fun b o n z=>by rw[aF n];exact z
  have dn:∀{x:Addr},H4 x=none->H x=none/\x≠p:=fun z=>⟨(n1 (n2 (n3 (n4 z).1).1).1).1,(n4 z).2⟩
  have eW:=dn (fr hfd)
  have frl:=dn (fr hlk)
  have frf:=dn hfi
  have hc0:H ch=none:=(n1 (n2 hch).1).1
  refine q _ bd ch fi fd lk df (fun x hx=> ?_) nfl aH (u6 _ _ npb (s5 _ _ (u4 _ _ npb (s3 _ _ (u2 _ _ npb b1))))) (u6 _ _ npc (s5 _ _ (u4 _ _ npc c3))) (u6 _ _ frf.2 g1) (u6 _ _ eW.2 g2) (u6 _ _ frl.2 g3) (fun b o n z=>u6 _ _ n (s5 _ _ (u4 _ _ n (s3 _ _ (u2 _ _ n (s1 _ _ z))))))
  simp only[List.mem_cons,List.not_mem_nil,or_false]at hx
  rcases hx with rfl|rfl|rfl|rfl|rfl
  ·exact hbd
  ·exact hc0
  ·exact frf.1
  ·exact eW.1
  ·exact frl.1
def a8j(CS:Addr)(s bd ch:Addr)(cs:List V)(kb:List (aG×V))(H:Hp):Prop:=(∃dx fi,H s=some (.ins CS dx (cM bd ch fi)))/\H ch=some (.lst cs)/\H bd=some (.dK kb)
def sJ(CS CF:Addr)(s bd ch fi fd lk:Addr)(cs:List V)(kb:List (aG×V))(H0 H:Hp):Prop:=(∃dx,H s=some (.ins CS dx (cM bd ch fi)))/\H ch=some (.lst cs)/\H bd=some (.dK kb)/\(∃df,H fi=some (.ins CF df (eT bd fd lk)))/\H fd=some (.dT [])/\H lk=some (.dT [])/\fd≠lk/\H0 fi=none/\H0 fd=none/\H0 lk=none
def a7u(CS CF CB CT:Addr):Sp:=fun vs H Q _=>∃(s bd ch:Addr) (cs:List V) (kb:List (aG×V)) (nm:Str) (m:Nat),vs= [.ref s,.str nm,.int (m:Int)] /\a8j CS s bd ch cs kb H/\cs.length<900/\kb.length<4/\Nl nm/\aZ kb (.inr nm:aG)=none/\m<=30/\
 ∀H' fi fd lk c b g r e ru me od,sJ CS CF s bd ch fi fd lk (cs++ [.ref c]) (bJ kb (.inr nm:aG) (.ref b)) H H'->cE CB CT H' ⟨b,g,r,e,ru,me,od,cY 0 m,(m:Int),[],[],[],[]⟩ ->BM.sep ⟨b,g,r,e,ru,me,od,cY 0 m,(m:Int),[],[],[],[]⟩ ->(∀x∈ [b,g,r,e,ru,me,od],H x=none)->(∀x o,x≠s->x≠ch->x≠bd->H x=some o->H' x=some o)->Q .non H'
theorem b21:aW ["self","name","many"] ["self","name","many"] (aB pW):=⟨rfl,rfl,rfl,by decide+kernel,rfl,by decide+kernel,by decide+kernel⟩
theorem oE(T:bA K mg){CS CF CB CT CC:Addr}(Y:dU K mg CS)(Z:fO K mg CF)(W:cV K mg CB)(U:cX K mg CT)(C:lW K mg CC):aN P w K mg base aC 9 CS "table" ["self","name","many"] (a7u CS CF CB CT):=by
 have G_is_name:bK P w K mg base aC 1 "is_name" ["thing"] (jB K):=gM T
 have G_size:bK P w K mg base aC 2 "check_size" ["many"] a5i:=mR T
 have GI:cI P w K mg base aC 1 CC ["self","boards","name","size"] (a8D CC):=qH T C
 have G_make:aN P w K mg base aC 8 CS "make" ["self","change"] (spMk CS CF CC (spTT CC CB CT)):=lI T Y Z C.cl b1x (nM T C W U)
 refine Y.m_table.known b21 (fun _ _ _ _ _ _ us hl=>cN (fun _ _ _=>rfl) us hl) (fun vs H Q E h=> ?_) (fun f cdv A outer s H vs Q E hr h=> ?_)
 ·obtain⟨s',bd,ch,cs,kb,nm,m,rfl,_⟩:=h
  rfl
 ·obtain⟨s',bd,ch,cs,kb,nm,m,rfl,hS,cl,kl,hn,hv,hm,q⟩:=h
  have hu:=fJ hr
  refine⟨_,(aK (bY (PW.pt (fE (dF (dG (bP G_is_name (hr.mono (by decide)) aM (aA (pv 1) aD)) (fun _=>rfl))) (fP (jL (uW hu (pv 1) (aX (pv 0) rfl)))))) (aL cD) cB)
   (aK (bX (bP G_size (hr.mono (by decide)) aM (aA (pv 2) aD)))
   (aK (bY (cW a4D (cF a7p rfl T.len eQ (aA (aX (pv 0) rfl) aD)) (rK T.g_MOST_TABLES) (dW _)) (aL cD) cB)
   (aL (bX (cH (pv 0) Y.cl G_make hr aM (aA (gH GI (hr.mono (by decide)) C.c aM (aA (aX (pv 0) rfl) (aA (pv 1) (aA (pv 2) aD)))) aD))))))),?_⟩
  have h8:=hn.2.1
  obtain⟨⟨dx,fi0,h1⟩,h2,h3⟩:=hS
  obtain⟨a1,a2,a3,a4⟩:=oC bd ch fi0
  refine⟨_,rfl,_,.str nm,rfl,.str nm,iO (by omega),fun H0 s9=>⟨_,rfl,?_⟩⟩
  rw[show dR (.str nm)=true from hn.name]
  have h1:=s9 _ _ h1
  have h2':=s9 _ _ h2
  have h3':=s9 _ _ h3
  refine bL ⟨_,rfl,_,rfl,s',CS,dx,_,_,rfl,h1,Y.cl,Y.n_boards,a1,bd,_,rfl,cR.k (k:=Sum.inr nm) h3',_,rfl,?_⟩
  rw[hv]
  refine bL ⟨_,rfl,m,rfl,hm,?_⟩
  refine⟨_,rfl,s',CS,dx,_,_,rfl,h1,Y.cl,Y.n_boards,a1,bd,kb,rfl,h3',_,_,rfl,rfl,_,rfl,?_⟩
  refine eV (fun g=>absurd (of_decide_eq_true g) (by omega)) (fun g=> ?_)
  refine⟨_,rfl,s',dx,_,rfl,h1,eO,_,rfl,s',CS,dx,_,_,rfl,h1,Y.cl,Y.n_boards,a1,_,rfl,_,rfl,?_⟩
  intro c dc hc hdc ne
  refine⟨c,dc,bd,nm,m,rfl,aH,fun H1 b1 c1=>⟨rfl,?_⟩⟩
  have s1:aE H0 H1:=fun b o z=>b1 b o (bD z hc) (by rw[aF (bD z hc),aF (bD z hdc)];exact z)
  refine⟨s',c,bd,ch,fi0,dx,dc,cs,_,rfl,c1,(tW _ _ _).2.2.2,c,dc,bd,nm,m,kb,rfl,c1,s1 _ _ h3',by omega,hm,fun H2 b g r e ru me od B2 sp2 fr2 bd2 u2=> ?_⟩
  have ns:s'≠bd:=fun y=>by rw[y,h3']at h1;cases h1
  have nc:ch≠bd:=fun y=>by rw[y,h3']at h2';cases h2'
  have nsc:s'≠ch:=fun y=>by rw[y,h2']at h1;cases h1
  refine⟨u2 _ _ ns (s1 _ _ h1),u2 _ _ nc (s1 _ _ h2'),cl,fun H3 fi fd lk df f1 f2 f3 nfl g1 g2 g3 g4 g5 u3=> ?_⟩
  have n0:∀{x:Addr},H2 x=none->H x=none:=fun{x} e=>by
   cases e2:H x with
   |none=>rfl
   |some o=>
    by_cases y:x=bd
    ·rw[y,bd2]at e;cases e
    ·rw[u2 _ _ y (s1 _ _ (s9 _ _ e2))]at e;cases e
  have k3:∀{x:Addr} {o:HO},H2 x=some o->x≠s'->x≠ch->H3 x=some o:=fun e n m=>u3 _ _ n m e
  have fr:∀x∈ [b,g,r,e,ru,me,od],H x=none:=fun x hx=>gO (s9.trans s1) (fr2 x hx)
  have nb:∀{x:Addr},x∈ [b,g,r,e,ru,me,od] ->x≠s'/\x≠ch:=fun hx=>⟨fun y=>by{have:=s1 _ _ h1;rw[<- y,fr2 _ hx]at this;cases this},fun y=>by{have:=s1 _ _ h2';rw[<- y,fr2 _ hx]at this;cases this}⟩
  obtain⟨⟨d1,e1⟩,⟨⟨d2,e2⟩,e3,e4⟩,e5,e6,e7⟩:=B2
  have kb2:∀{x:Addr} {o:HO},x∈ [b,g,r,e,ru,me,od] ->H2 x=some o->H3 x=some o:=fun hx e=>k3 e (nb hx).1 (nb hx).2
  exact q H3 fi fd lk c b g r e ru me od ⟨⟨dx,g1⟩,g2,k3 bd2 ns.symm nc.symm,⟨df,g3⟩,g4,g5,nfl,n0 f1,n0 f2,n0 f3⟩ ⟨⟨d1,kb2 (by simp) e1⟩,⟨⟨d2,kb2 (by simp) e2⟩,kb2 (by simp) e3,kb2 (by simp) e4⟩,kb2 (by simp) e5,kb2 (by simp) e6,kb2 (by simp) e7⟩ sp2 fr (fun x o n1 n2 n3 e=>k3 (u2 _ _ n3 (s1 _ _ (s9 _ _ e))) n1 n2)
theorem cE.off{CS CB CT s ch:Addr}{cs:List V}{H H':Hp}{B:BM}(h:cE CB CT H B)(hs:∃dx bd ch' fi,H s=some (.ins CS dx (cM bd ch' fi)))(hc:H ch=some (.lst cs))(n1:ch≠B.r)(n2:ch≠B.od)(u:∀x o,x≠s->x≠ch->H x=some o->H' x=some o):cE CB CT H' B:=by
 obtain⟨dx,bd,ch',fi,hs⟩:=hs
 obtain⟨⟨d1,e1⟩,⟨⟨d2,e2⟩,e3,e4⟩,e5,e6,e7⟩:=h
 have k:∀{x:Addr} {o:HO},H x=some o->(∀a b c,o≠ .ins a b c)->x≠ch->H' x=some o:=fun e n m=>u _ _ (fun y=>by rw[y,hs]at e;exact n _ _ _ (Option.some.inj e).symm) m e
 have nc:∀{x:Addr} {o:HO},H x=some o->(∀a,o≠ .lst a)->x≠ch:=fun e n y=>by rw[y,hc]at e;exact n _ (Option.some.inj e).symm
 refine⟨⟨d1,u _ _ (b0c e1 hs (show 4≠3 by decide)) (nc e1 (fun _ y=>by cases y)) e1⟩,⟨⟨d2,u _ _ (fun y=> ?_) (nc e2 (fun _ y=>by cases y)) e2⟩,k e3 (fun _ _ _ y=>by cases y) n1.symm,k e4 (fun _ _ _ y=>by cases y) (nc e4 (fun _ y=>by cases y))⟩,k e5 (fun _ _ _ y=>by cases y) (nc e5 (fun _ y=>by cases y)),k e6 (fun _ _ _ y=>by cases y) (nc e6 (fun _ y=>by cases y)),k e7 (fun _ _ _ y=>by cases y) n2.symm⟩
 rw[y,hs]at e2
 cases e2
structure b15(bd ch:Addr)(B:BM):Prop where
 r:ch≠B.r
 o:ch≠B.od
 e:bd≠B.e
 u:bd≠B.ru
 m:bd≠B.me
def a7S(K:Fg)(CS CF CB CT:Addr):Sp:=fun vs H Q _=>∃(s bd ch a:Addr) (cs:List V) (kb:List (aG×V)) (nm t:Str) (ys:List V) (ds:List PyData) (B:BM),vs= [.ref s,.str nm,.str t,.ref a] /\a8j CS s bd ch cs kb H/\cs.length<900/\Nl nm/\aZ kb (.inr nm:aG)=some (.ref B.b)/\cE CB CT H B/\B.sep/\b15 bd ch B/\vA B t/\Nl t/\H a=some (.lst ys)/\a≠B.od/\bT K H ys ds/\ys.length=B.xs.length/\ys.length<=30/\B.kvs.length<8/\B.ord.length<8/\
 ∀H' fi fd lk c l,sJ CS CF s bd ch fi fd lk (cs++ [.ref c]) kb H H'->H l=none->cE CB CT H' {B with kvs:=bJ B.kvs (.inr t:aG) (.ref l),ord:=B.ord++ [t]} ->H' l=some (.lst ys)->(∀x o,x≠s->x≠ch->x≠B.od->x≠B.e->H x=some o->H' x=some o)->Q .non H'
theorem a78:aW ["self","table","column","values","board"] ["self","table","column","values"] (aB qN):=⟨rfl,rfl,rfl,by decide+kernel,rfl,by decide+kernel,by decide+kernel⟩
theorem pV(T:bA K mg){CS CF CB CT CC:Addr}(Y:dU K mg CS)(Z:fO K mg CF)(W:cV K mg CB)(U:cX K mg CT)(C:mO K mg CC):aN P w K mg base aC 9 CS "give" ["self","table","column","values"] (a7S K CS CF CB CT):=by
 have G_for:aN P w K mg base aC 3 CS "board_for" ["self","table","column"] (a8b CS CB CT):=rO T Y W
 have G_many:aN P w K mg base aC 1 CT "many" ["self"] (jZ CT):=gY T U
 have G_cv:bK P w K mg base aC 4 "check_values" ["values","many"] (a09 K):=lM T
 have GI:cI P w K mg base aC 1 CC ["self","board","column","content"] (a8y CC):=nS T C
 have G_make:aN P w K mg base aC 8 CS "make" ["self","change"] (spMk CS CF CC (spCS CC CB CT (a1J K CB CT))):=lI T Y Z C.cl (a9e b1m) (rA T C W (b1e T W U))
 refine Y.m_give.known a78 (fun _ _ _ _ _ _ us hl=>jR (fun _ _ _ _=>rfl) us hl) (fun vs H Q E h=> ?_) (fun f cdv A outer s H vs Q E hr h=> ?_)
 ·obtain⟨s',bd,ch,a,cs,kb,nm,t,ys,ds,B,rfl,_⟩:=h
  rfl
 ·obtain⟨s',bd,ch,a,cs,kb,nm,t,ys,ds,B,rfl,hS,cl,hn,hv,hB,sep,ss,new,ht,ha,nao,hp,ly,l30,k8,o8,q⟩:=h
  refine⟨_,(aK (bW (i:=4) a78.nd rfl (Or.inl rfl) (cH (pv 0) Y.cl G_for (hr.mono (by decide)) aM (aA (pv 1) (aA (pv 2) aD))))
   (aK (bX (bP G_cv (hr.mono (by decide)) aM (aA (pv 3) (aA (iX (aX (pv 4) rfl) U.cl G_many (hr.mono (by decide)) aM) aD))))
   (aL (bX (cH (pv 0) Y.cl G_make hr aM (aA (gH GI (hr.mono (by decide)) C.c aM (aA (pv 4) (aA (pv 2) (aA (pv 3) aD)))) aD)))))),?_⟩
  obtain⟨⟨dx,fi0,h1⟩,h2,h3⟩:=hS
  refine⟨_,rfl,s',dx,_,rfl,h1,eO,_,rfl,_,rfl,s',bd,ch,fi0,dx,kb,nm,t,B,rfl,h1,h3,hn,hv,hB,ht,o8,fun H1 s1=> ?_⟩
  obtain⟨dB,b1⟩:=(hB.same s1).at_
  obtain⟨dT,t1⟩:=(hB.same s1).tab.at_
  refine⟨_,rfl,_,rfl,B.b,CB,dB,_,_,rfl,b1,W.cl,W.n_given,(eG _ _ _ _).1,B.g,dT,_,rfl,t1,hW,B.g,B.r,B.e,B.xs,B.n,B.kvs,rfl,(hB.same s1).tab,?_⟩
  refine⟨a,ys,ds,by rw[ly];rfl,aI.of (s1 _ _ ha),hp.keep (bQ.of s1),by omega,fun H2 s2=> ?_⟩
  have s12:=s1.trans s2
  refine⟨_,rfl,s',dx,_,rfl,s12 _ _ h1,eO,_,rfl,_,rfl,_,rfl,?_⟩
  intro c dc hc hdc ne
  refine⟨c,dc,B.b,a,t,rfl,aH,fun H3 b3 c3=>⟨rfl,?_⟩⟩
  have s3:aE H H3:=fun b o z=>b3 b o (bD (s12 _ _ z) hc) (by rw[aF (bD (s12 _ _ z) hc),aF (bD (s12 _ _ z) hdc)];exact s12 _ _ z)
  have hB3:=hB.same s3
  refine⟨s',c,bd,ch,fi0,dx,dc,cs,_,rfl,c3,(a8K _ _ _).2.2.2.1,c,dc,a,B,t,rfl,c3,hB3,new,B,t,a,ys,ds,rfl,hB3,sep,new,ht,s3 _ _ ha,nao,hp.keep (bQ.of s3),ly,l30,k8,by omega,fun H4 l hl B4 l4 u4=> ?_⟩
  have hB0:=hB.ord
  have he0:=hB.tab.kept
  have k4:∀{x:Addr} {o:HO},H x=some o->x≠B.od->x≠B.e->H4 x=some o:=fun e n m=>u4 _ _ n m (s3 _ _ e)
  have ns:s'≠B.od/\s'≠B.e:=⟨fun y=>by{rw[y,hB0]at h1;cases h1},fun y=>by{rw[y,he0]at h1;cases h1}⟩
  have nce:ch≠B.e:=fun y=>by rw[y,he0]at h2;cases h2
  have nbo:bd≠B.od:=fun y=>by rw[y,hB0]at h3;cases h3
  have ns4:=k4 h1 ns.1 ns.2
  have ch4:=k4 h2 ss.o nce
  refine⟨ns4,ch4,cl,fun H5 fi fd lk df f1 f2 f3 nfl g1 g2 g3 g4 g5 u5=> ?_⟩
  have nn:∀{x:Addr},H4 x=none->H x=none:=fun{x} e=>by
   cases e2:H x with
   |none=>rfl
   |some o=>
    by_cases y:x=B.od
    ·rw[y,B4.ord]at e;cases e
    ·by_cases y2:x=B.e
     ·rw[y2,B4.tab.kept]at e;cases e
     ·rw[k4 e2 y y2]at e;cases e
  have hl0:H l=none:=gO s3 hl
  have nl:l≠s'/\l≠ch:=⟨fun y=>by{rw[y,h1]at hl0;cases hl0},fun y=>by{rw[y,h2]at hl0;cases hl0}⟩
  have nb:bd≠s'/\bd≠ch:=⟨fun y=>by{rw[y,h1]at h3;cases h3},fun y=>by{rw[y,h2]at h3;cases h3}⟩
  exact q H5 fi fd lk c l ⟨⟨dx,g1⟩,g2,u5 _ _ nb.1 nb.2 (k4 h3 nbo ss.e),⟨df,g3⟩,g4,g5,nfl,nn f1,nn f2,nn f3⟩ hl0 (B4.off ⟨dx,bd,ch,fi0,ns4⟩ ch4 ss.r ss.o u5) (u5 _ _ nl.1 nl.2 l4) (fun x o n1 n2 n3 n4 e=>u5 _ _ n1 n2 (k4 e n3 n4))
end
theorem bE.upd{H:Hp}{l:Addr}{o:HO}:bE l H (L2.upd H l o):=fun b o' n e=>by rw[aF n];exact e
def iW(s:Addr)(nm:Str):List (Str×V):=[("sheet",V.ref s),("name",V.str nm)]
def jP(v:Addr)(i n:Int):List (Str×V):=[("view",V.ref v),("start",V.int i),("count",V.int n)]
def qU(x y:Addr):List (Str×V):=[("one",V.ref x),("other",V.ref y)]
def jV(s:Addr)(nm c:Str)(p:Int):List (Str×V):=[("sheet",V.ref s),("name",V.str nm),("column",V.str c),("place",V.int p)]
theorem tR(s:Addr)(nm:Str):(iW s nm).lookup ("sheet":Str)=some (.ref s)/\(iW s nm).lookup ("name":Str)=some (.str nm):=⟨rfl,rfl⟩
theorem vN(v:Addr)(i n:Int):(jP v i n).lookup ("view":Str)=some (.ref v)/\(jP v i n).lookup ("start":Str)=some (.int i)/\(jP v i n).lookup ("count":Str)=some (.int n):=⟨rfl,rfl,rfl⟩
theorem a7Y(x y:Addr):(qU x y).lookup ("one":Str)=some (.ref x)/\(qU x y).lookup ("other":Str)=some (.ref y):=⟨rfl,rfl⟩
theorem a7U(s:Addr)(nm c:Str)(p:Int):(jV s nm c p).lookup ("name":Str)=some (.str nm)/\(jV s nm c p).lookup ("column":Str)=some (.str c)/\(jV s nm c p).lookup ("place":Str)=some (.int p)/\(jV s nm c p).lookup ("told":Str)=none:=⟨rfl,rfl,rfl,rfl⟩
noncomputable def vM:List Str:=["columns","rows","value_at","spots_at","many","look","shown","spots","asked_row"]
theorem b0e(s:Addr)(nm:Str){m:Str}(h:m∈vM):(iW s nm).lookup m=none:=by
 unfold vM at h
 simp only[List.mem_cons,List.not_mem_nil,or_false]at h
 rcases h with rfl|rfl|rfl|rfl|rfl|rfl|rfl|rfl|rfl<;>rfl
theorem b3F(v:Addr)(i n:Int){m:Str}(h:m∈vM):(jP v i n).lookup m=none:=by
 unfold vM at h
 simp only[List.mem_cons,List.not_mem_nil,or_false]at h
 rcases h with rfl|rfl|rfl|rfl|rfl|rfl|rfl|rfl|rfl<;>rfl
theorem b17(x y:Addr){m:Str}(h:m∈vM):(qU x y).lookup m=none:=by
 unfold vM at h
 simp only[List.mem_cons,List.not_mem_nil,or_false]at h
 rcases h with rfl|rfl|rfl|rfl|rfl|rfl|rfl|rfl|rfl<;>rfl
section
variable{P:Program}{w:World}{K:Fg}{mg:Str->Option Value}{base:Heap}
def yH(K:Fg):Sp:=fun vs H Q _=>∃(c:Str) (l:Addr) (cs:List Str),vs= [.str c,.ref l] /\H l=some (.lst (cs.map V.str))/\c∈cs/\Q .non H
theorem b0X:aW ["column","columns"] ["column","columns"] (aB oT):=⟨rfl,rfl,rfl,by decide+kernel,rfl,by decide+kernel,by decide+kernel⟩
theorem lC(T:bA K mg):bK P w K mg base aC 1 "check_column" ["column","columns"] (yH K):=by
 refine T.d_check_column.known b0X (fun _ _ _ _ _ _ us hl=>cZ (fun _ _=>rfl) us hl) (fun vs H Q E h=> ?_) (fun f cdv A outer s H vs Q E hr h=> ?_)
 ·obtain⟨c,l,cs,rfl,_⟩:=h
  rfl
 ·obtain⟨c,l,cs,rfl,hl,hc,q⟩:=h
  refine⟨_,(aL (bY (PW.pt (fE (dF (dG (cF jF rfl T.isinstance iD (aA (pv 0) (aA (iB T.str a4b) aD))) (fun _=>rfl))) (fP (cW a4y (pv 0) (pv 1) (by with_unfolding_all rfl))))) (aL cD) cB)),?_⟩
  refine⟨_,rfl,_,"str",.str c,_,rfl,.str c,a1s K _,_,rfl,bL ⟨_,rfl,_,rfl,l,_,rfl,.inl (aI.of hl),rfl,iK _,_,rfl,?_⟩⟩
  rw[show (if true=true then !dL (.str c) (cs.map V.str) else dL (.str c) (cs.map V.str))=false by rw[if_pos rfl,jM,decide_eq_true hc];rfl]
  exact bL q
def a81:Sp:=fun vs H Q _=>∃n:Nat,vs= [.int (n:Int)] /\Q .non H
theorem a92:aW ["count"] ["count"] (aB sP):=⟨rfl,rfl,rfl,by decide+kernel,rfl,by decide+kernel,by decide+kernel⟩
theorem sN(T:bA K mg):bK P w K mg base aC 2 "check_count" ["count"] a81:=by
 have G_is_whole:bK P w K mg base aC 1 "is_whole" ["thing"] (qB K):=iV T
 refine T.d_check_count.known a92 (fun _ _ _ _ _ _ us hl=>cQ (fun _=>rfl) us hl) (fun vs H Q E h=> ?_) (fun f cdv A outer s H vs Q E hr h=> ?_)
 ·obtain⟨n,rfl,_⟩:=h
  rfl
 ·obtain⟨n,rfl,q⟩:=h
  refine⟨_,(aL (bY (PW.pt (fE (dF (dG (bP G_is_whole (hr.mono (by decide)) aM (aA (pv 0) aD)) (fun _=>rfl))) (fP (cW uU (pv 0) aS (dW _))))) (aL cD) cB)),?_⟩
  refine⟨_,rfl,_,.int (n:Int),rfl,.int _,_,rfl,bL ⟨_,rfl,_,_,rfl,rfl,_,rfl,?_⟩⟩
  rw[decide_eq_false (show¬((n:Int)<0)by omega)]
  exact bL q
def spOI(C:Addr):Sp:=fun vs H Q _=>∃(p dx s:Addr) (nm c:Str) (i:Int),vs= [.ref p,.ref s,.str nm,.str c,.int i] /\H p=some (.ins C dx [])/\∀H',bE p H H'->H' p=some (.ins C dx (jV s nm c i))->Q .non H'
theorem b2k:aW ["self","sheet","name","column","place"] ["self","sheet","name","column","place"] (aB rL):=⟨rfl,rfl,rfl,by decide+kernel,rfl,by decide+kernel,by decide+kernel⟩
theorem mY(T:bA K mg){C:Addr}(Y:kY K mg C):cI P w K mg base aC 1 C ["self","sheet","name","column","place"] (spOI C):=by
 refine(Y.m_init.known b2k (fun _ _ _ _ _ _ us hl=>bi5 (fun _ _ _ _ _=>rfl) us hl) (fun vs H Q E h=> ?_) (fun f cdv A outer s H vs Q E hr h=> ?_)).init Y.mks Y.kc
 ·obtain⟨p,dx,s',nm,c,i,rfl,_⟩:=h
  rfl
 ·obtain⟨p,dx,s',nm,c,i,rfl,hp,q⟩:=h
  refine⟨_,(aK (bR (pv 0) (pv 1) rfl)
   (aK (bR (pv 0) (pv 2) rfl)
   (aK (bR (pv 0) (pv 3) rfl)
   (aL (bR (pv 0) (pv 4) rfl))))),?_⟩
  refine⟨_,rfl,_,rfl,p,C,dx,[],rfl,hp,Y.cl,Y.n_sheet,by decide,?_⟩
  refine⟨_,rfl,_,rfl,p,C,dx,_,rfl,aH,Y.cl,Y.n_name,(show 1<1000 by decide),?_⟩
  refine⟨_,rfl,_,rfl,p,C,dx,_,rfl,aH,Y.cl,Y.n_column,(show 2<1000 by decide),?_⟩
  refine⟨_,rfl,_,rfl,p,C,dx,_,rfl,aH,Y.cl,Y.n_place,(show 3<1000 by decide),?_⟩
  exact q _ (((bE.trans bE.upd bE.upd).trans bE.upd).trans bE.upd) aH
def a87(C:Addr):Sp:=fun vs H Q _=>∃(p dx s:Addr) (nm c:Str) (i:Int),vs= [.ref p] /\H p=some (.ins C dx (jV s nm c i))/\∀l,H l=none->Q (.ref l) (upd H l (.tup [.str nm,.str c,.int i]))
theorem a9q:aW ["self"] ["self"] (aB nU):=⟨rfl,rfl,rfl,by decide+kernel,rfl,by decide+kernel,by decide+kernel⟩
theorem nV(T:bA K mg){C:Addr}(Y:kY K mg C):aN P w K mg base aC 1 C "told" ["self"] (a87 C):=by
 refine Y.m_told.known a9q (fun _ _ _ _ _ _ us hl=>cQ (fun _=>rfl) us hl) (fun vs H Q E h=> ?_) (fun f cdv A outer s H vs Q E hr h=> ?_)
 ·obtain⟨p,dx,s',nm,c,i,rfl,_⟩:=h
  rfl
 ·obtain⟨p,dx,s',nm,c,i,rfl,hp,q⟩:=h
  refine⟨_,(aL (bH (jO (aA (aX (pv 0) rfl) (aA (aX (pv 0) rfl) (aA (aX (pv 0) rfl) aD)))))),?_⟩
  obtain⟨o1,o2,o3,_⟩:=a7U s' nm c i
  exact⟨_,rfl,p,C,dx,_,_,rfl,hp,Y.cl,Y.n_name,o1,_,rfl,p,C,dx,_,_,rfl,hp,Y.cl,Y.n_column,o2,_,rfl,p,C,dx,_,_,rfl,hp,Y.cl,Y.n_place,o3,sl,fun l hl=>q l hl⟩
end
structure SM where
 ok:Addr->Str->Prop
 cols:Addr->Str->List Str
 many:Addr->Str->Nat
 val:Addr->Str->Str->Nat->PyData
structure bG(Free:Addr->Prop)(H H':Hp):Prop where
 k:∀x o,Free x->(∀y,o≠ .dT y)->H x=some o->H' x=some o
 nn:∀x,H x≠none->H' x≠none
 kt:bQ H H'
theorem bG.of{Free:Addr->Prop}{H H':Hp}(s:aE H H'):bG Free H H':=by
 refine⟨fun x o _ _ e=>s _ _ e,fun x hx e=> ?_,bQ.of s⟩
 cases e2:H x with
 |none=>exact hx e2
 |some o=>rw[s _ _ e2]at e;cases e
theorem bG.trans{Free:Addr->Prop}{H H1 H2:Hp}(a:bG Free H H1)(b:bG Free H1 H2):bG Free H H2:=⟨fun x o f n e=>b.k x o f n (a.k x o f n e),fun x hx=>b.nn x (a.nn x hx),a.kt.trans b.kt⟩
theorem bG.on{Free:Addr->Prop}{H H2:Hp}{l:Addr}{o:HO}(a:bG Free H H2)(h:H l=none):bG Free H (upd H2 l o):=by
 refine⟨fun x o' f n e=> ?_,fun x hx e=> ?_,fun x xs e=> ?_⟩
 ·rw[aF (fun y=>by rw[y,h]at e;cases e)]
  exact a.k x o' f n e
 ·rw[aF (fun y=>hx (by rw[y];exact h))]at e
  exact a.nn x hx e
 ·rw[aF (fun y=>by rw[y,h]at e;cases e)]
  exact a.kt x xs e
theorem bG.back{Free:Addr->Prop}{H H':Hp}{x:Addr}(a:bG Free H H')(h:H' x=none):H x=none:=by
 cases e:H x with
 |none=>rfl
 |some o=>exact absurd h (a.nn x (by rw[e];exact fun y=>by cases y))
inductive VW where
 |whole(a s:Addr)(nm:Str)
 |cut(a:Addr)(v:VW)(i n:Nat)
 |tog(a:Addr)(x y:VW)
def VW.a:VW->Addr
 | .whole a _ _=>a
 | .cut a _ _ _=>a
 | .tog a _ _=>a
def VW.sh:VW->Nat
 | .whole _ _ _=>0
 | .cut _ _ _ _=>1
 | .tog _ _ _=>2
def VW.rk:VW->Nat
 | .whole _ _ _=>0
 | .cut _ v _ _=>v.rk+ 1
 | .tog _ x y=>max x.rk y.rk+ 1
def VW.cols(M:SM):VW->List Str
 | .whole _ s nm=>M.cols s nm
 | .cut _ v _ _=>v.cols M
 | .tog _ x y=>(x.cols M).filter fun c=>decide (c∈y.cols M)
def VW.num(M:SM):VW->Nat
 | .whole _ s nm=>M.many s nm
 | .cut _ v i n=>min n (v.num M- i)
 | .tog _ x y=>x.num M+ y.num M
def VW.val(M:SM):VW->Str->Nat->PyData
 | .whole _ s nm,c,p=>M.val s nm c p
 | .cut _ v i _,c,p=>v.val M c (i+ p)
 | .tog _ x y,c,p=>if p<x.num M then x.val M c p else y.val M c (p- x.num M)
def VW.spot(M:SM):VW->Nat->Addr×Str×Nat
 | .whole _ s nm,p=>(s,nm,p)
 | .cut _ v i _,p=>v.spot M (i+ p)
 | .tog _ x y,p=>if p<x.num M then x.spot M p else y.spot M (p- x.num M)
structure VC where
 M:SM
 Free:Addr->Prop
 Inv:Hp->Prop
 CW:Addr
 CU:Addr
 CJ:Addr
 CO:Addr
def VC.cls(X:VC):Nat->Addr
 |0=>X.CW
 |1=>X.CU
 |_=>X.CJ
def VC.At(X:VC)(H:Hp):VW->Prop
 | .whole a s nm=>X.Free a/\X.M.ok s nm/\(X.M.many s nm<=30/\(X.M.cols s nm).length<=30)/\∃dx,H a=some (.ins X.CW dx (iW s nm))
 | .cut a v i n=>X.Free a/\(∃dx,H a=some (.ins X.CU dx (jP v.a i n)))/\X.At H v
 | .tog a x y=>X.Free a/\x.num X.M+ y.num X.M<=500/\(∃dx,H a=some (.ins X.CJ dx (qU x.a y.a)))/\X.At H x/\X.At H y
def VC.Row(X:VC)(H:Hp):VW->V->Nat->Prop
 | .whole _ s nm,r,p=>r= .int (p:Int)/\p<X.M.many s nm
 | .cut _ v i _,r,p=>X.Row H v r (i+ p)
 | .tog _ x y,r,p=>∃t,r= .ref t/\X.Free t/\((p<x.num X.M/\∃r',H t=some (.tup [.ref x.a,r'])/\X.Row H x r' p)\/ (¬p<x.num X.M/\∃r',H t=some (.tup [.ref y.a,r'])/\X.Row H y r' (p- x.num X.M)))
def VC.Rows(X:VC)(H:Hp)(v:VW)(rs:List V):Prop:=rs.length=v.num X.M/\∀p,p<v.num X.M->∃r,rs[p]?=some r/\X.Row H v r p
theorem VC.At.fr{X:VC}{H H':Hp}(u:bG X.Free H H'):∀{v:VW},X.At H v->X.At H' v
 | .whole a s nm,⟨f,o,b,dx,e⟩=>⟨f,o,b,dx,u.k _ _ f (fun _ y=>by cases y) e⟩
 | .cut a v i n,⟨f,⟨dx,e⟩,h⟩=>⟨f,⟨dx,u.k _ _ f (fun _ y=>by cases y) e⟩,VC.At.fr u h⟩
 | .tog a x y,⟨f,b,⟨dx,e⟩,h,h'⟩=>⟨f,b,⟨dx,u.k _ _ f (fun _ y=>by cases y) e⟩,VC.At.fr u h,VC.At.fr u h'⟩
theorem VC.Row.fr{X:VC}{H H':Hp}(u:bG X.Free H H'):∀{v:VW} {r:V} {p:Nat},X.Row H v r p->X.Row H' v r p
 | .whole _ _ _,_,_,h=>h
 | .cut _ v i _,r,p,h=>VC.Row.fr (v:=v) u h
 | .tog _ x y,_,_,⟨t,e,f,.inl ⟨hp,r',e',h⟩⟩=>⟨t,e,f,.inl ⟨hp,r',u.k _ _ f (fun _ y=>by cases y) e',VC.Row.fr (v:=x) u h⟩⟩
 | .tog _ x y,_,_,⟨t,e,f,.inr ⟨hp,r',e',h⟩⟩=>⟨t,e,f,.inr ⟨hp,r',u.k _ _ f (fun _ y=>by cases y) e',VC.Row.fr (v:=y) u h⟩⟩
theorem VC.Row.kt{X:VC}{H H':Hp}(u:bQ H H'):∀{v:VW} {r:V} {p:Nat},X.Row H v r p->X.Row H' v r p
 | .whole _ _ _,_,_,h=>h
 | .cut _ v i _,r,p,h=>VC.Row.kt (v:=v) u h
 | .tog _ x y,_,_,⟨t,e,f,.inl ⟨hp,r',e',h⟩⟩=>⟨t,e,f,.inl ⟨hp,r',u _ _ e',VC.Row.kt (v:=x) u h⟩⟩
 | .tog _ x y,_,_,⟨t,e,f,.inr ⟨hp,r',e',h⟩⟩=>⟨t,e,f,.inr ⟨hp,r',u _ _ e',VC.Row.kt (v:=y) u h⟩⟩
theorem VC.At.num{X:VC}{H:Hp}:∀{v:VW},X.At H v->v.num X.M<=500/\(v.cols X.M).length<=30
 | .whole a s nm,⟨_,_,b,_⟩=>⟨Nat.le_trans b.1 (by decide),b.2⟩
 | .cut a v i n,⟨_,_,h⟩=>by
  obtain⟨h1,h2⟩:=VC.At.num h
  refine⟨?_,h2⟩
  show min n (v.num X.M- i)<=500
  omega
 | .tog a x y,⟨_,b,_,h,h'⟩=>⟨b,Nat.le_trans (List.length_filter_le _ _) (VC.At.num h).2⟩
theorem VC.At.ins{X:VC}{H:Hp}:∀{v:VW},X.At H v->∃dx fs,H v.a=some (.ins (X.cls v.sh) dx fs)/\∀m∈vM,fs.lookup m=none
 | .whole a s nm,⟨_,_,_,dx,e⟩=>⟨dx,_,e,fun m h=>b0e s nm h⟩
 | .cut a v i n,⟨_,⟨dx,e⟩,_⟩=>⟨dx,_,e,fun m h=>b3F v.a i n h⟩
 | .tog a x y,⟨_,_,⟨dx,e⟩,_⟩=>⟨dx,_,e,fun m h=>b17 x.a y.a h⟩
theorem VW.sh3(v:VW):v.sh<3:=by cases v<;>simp[VW.sh]
section
variable{P:Program}{w:World}{K:Fg}{mg:Str->Option Value}{base:Heap}
structure SI(P:Program)(w:World)(K:Fg)(mg:Str->Option Value)(base:Heap)(CS:Addr)(dc:Nat)(X:VC):Prop where
 same:∀{H H':Hp},X.Inv H->aE H H'->X.Inv H'
 new:∀{H:Hp} {x:Addr},X.Inv H->H x=none->X.Free x
 on:∀{H H2:Hp} {l:Addr} {o:HO},X.Inv H->H l=none->X.Inv H2->X.Inv (upd H2 l o)
 at_:∀{H:Hp} {s:Addr} {nm:Str},X.Inv H->X.M.ok s nm->∃dx bd ch fi,H s=some (.ins CS dx (cM bd ch fi))
 many:∃sp,aN P w K mg base aC 3 CS "many" ["self","table"] sp/\∀{H:Hp} {s:Addr} {nm:Str} {Q:VK},X.Inv H->X.M.ok s nm->(∀H',aE H H'->Q (.int (X.M.many s nm)) H')->sp [.ref s,.str nm] H Q E0
 cols:∃sp,aN P w K mg base aC 3 CS "columns" ["self","table"] sp/\∀{H:Hp} {s:Addr} {nm:Str} {Q:VK},X.Inv H->X.M.ok s nm->(∀H' l,aE H H'->H l=none->H' l=some (.lst ((X.M.cols s nm).map V.str))->Q (.ref l) H')->sp [.ref s,.str nm] H Q E0
 cell:∃sp,aN P w K mg base aC dc CS "cell" ["self","table","column","place"] sp/\∀{H:Hp} {s:Addr} {nm c:Str} {p:Nat} {Q:VK},X.Inv H->X.M.ok s nm->c∈X.M.cols s nm->p<X.M.many s nm->(∀H' v,X.Inv H'->bG X.Free H H'->Pv K H' v (X.M.val s nm c p)->Q v H')->sp [.ref s,.str nm,.str c,.int (p:Int)] H Q E0
def nN(X:VC)(n k:Nat):Sp:=fun vs H Q _=>∃v:VW,vs= [.ref v.a] /\v.sh=k/\v.rk<=n/\X.At H v/\X.Inv H/\∀H' l,aE H H'->H l=none->H' l=some (.lst ((v.cols X.M).map V.str))->Q (.ref l) H'
def nL(X:VC)(n k:Nat):Sp:=fun vs H Q _=>∃v:VW,vs= [.ref v.a] /\v.sh=k/\v.rk<=n/\X.At H v/\X.Inv H/\∀H' l rs,X.Inv H'->bG X.Free H H'->H l=none->H' l=some (.lst rs)->X.Rows H' v rs->Q (.ref l) H'
def nP(K:Fg)(X:VC)(n k:Nat):Sp:=fun vs H Q _=>∃(v:VW) (c:Str) (r:V) (p:Nat),vs= [.ref v.a,.str c,r] /\v.sh=k/\v.rk<=n/\X.At H v/\X.Inv H/\c∈v.cols X.M/\X.Row H v r p/\∀H' y,X.Inv H'->bG X.Free H H'->Pv K H' y (v.val X.M c p)->Q y H'
def qD(X:VC)(n k:Nat):Sp:=fun vs H Q _=>∃(v:VW) (c:Str) (r:V) (p:Nat),vs= [.ref v.a,.str c,r] /\v.sh=k/\v.rk<=n/\X.At H v/\X.Inv H/\X.Row H v r p/\∀H' l o dx,aE H H'->H l=none->H' l=some (.lst [.ref o])->H' o=some (.ins X.CO dx (jV (v.spot X.M p).1 (v.spot X.M p).2.1 c (v.spot X.M p).2.2))->Q (.ref l) H'
def RD(X:VC)(sp:Nat->Sp):Addr->Sp->Prop:=fun C s=>∃k,k<3/\C=X.cls k/\s=sp k
structure fK(P:Program)(w:World)(K:Fg)(mg:Str->Option Value)(base:Heap)(dc:Nat)(X:VC)(n:Nat):Prop where
 co:∀k,k<3->aN P w K mg base aC (4+ n) (X.cls k) "columns" ["self"] (nN X n k)
 ro:∀k,k<3->aN P w K mg base aC (4+ n) (X.cls k) "rows" ["self"] (nL X n k)
 va:∀k,k<3->aN P w K mg base aC (dc+ 1+ n) (X.cls k) "value_at" ["self","column","row"] (nP K X n k)
 sa:∀k,k<3->aN P w K mg base aC (3+ n) (X.cls k) "spots_at" ["self","column","row"] (qD X n k)
structure VT(K:Fg)(mg:Str->Option Value)(X:VC):Prop where
 W:qP K mg X.CW
 U:mU K mg X.CU
 J:lY K mg X.CJ
 O:kY K mg X.CO
theorem VT.cl{X:VC}(Z:VT K mg X):∀k,bS K (X.cls k)
 |0=>Z.W.cl
 |1=>Z.U.cl
 |_+ 2=>Z.J.cl
theorem b2O:aW ["self"] ["self"] (aB pP):=⟨rfl,rfl,rfl,by decide+kernel,rfl,by decide+kernel,by decide+kernel⟩
theorem kZ{CS:Addr}{dc:Nat}{X:VC}(I:SI P w K mg base CS dc X)(cl:bS K CS)(Z:VT K mg X)(n:Nat):aN P w K mg base aC 4 X.CW "columns" ["self"] (nN X n 0):=by
 obtain⟨sp,G,use⟩:=I.cols
 refine Z.W.m_columns.known b2O (fun _ _ _ _ _ _ us hl=>cQ (fun _=>rfl) us hl) (fun vs H Q E h=> ?_) (fun f cdv A outer s H vs Q E hr h=> ?_)
 ·obtain⟨v,rfl,_⟩:=h
  rfl
 ·obtain⟨v,rfl,hs,hk,hA,hI,q⟩:=h
  cases v with
  |cut _ _ _ _=>cases hs
  |tog _ _ _=>cases hs
  |whole a s' nm=>
   obtain⟨_,ok,_,dx,e⟩:=hA
   refine⟨_,(aL (bH (cH (aX (pv 0) rfl) cl G hr aM (aA (aX (pv 0) rfl) aD)))),?_⟩
   obtain⟨ds,bd,ch,fi,hs'⟩:=I.at_ hI ok
   obtain⟨w1,w2⟩:=tR s' nm
   exact⟨_,rfl,a,X.CW,dx,_,_,rfl,e,Z.W.cl,Z.W.n_sheet,w1,s',ds,_,rfl,hs',eO,_,rfl,a,X.CW,dx,_,_,rfl,e,Z.W.cl,Z.W.n_name,w2,use hI ok fun H' l s1 hl hl'=>q H' l s1 hl hl'⟩
theorem b1F:aW ["self"] ["self"] (aB rQ):=⟨rfl,rfl,rfl,by decide+kernel,rfl,by decide+kernel,by decide+kernel⟩
theorem b3M{m p:Nat}(h:p<m):(cY 0 m)[p]?=some (.int (p:Int)):=by
 unfold cY
 rw[List.getElem?_map,List.getElem?_range h]
 simp
theorem lB(T:bA K mg){CS:Addr}{dc:Nat}{X:VC}(I:SI P w K mg base CS dc X)(cl:bS K CS)(Z:VT K mg X)(n:Nat):aN P w K mg base aC 4 X.CW "rows" ["self"] (nL X n 0):=by
 obtain⟨sp,G,use⟩:=I.many
 refine Z.W.m_rows.known b1F (fun _ _ _ _ _ _ us hl=>cQ (fun _=>rfl) us hl) (fun vs H Q E h=> ?_) (fun f cdv A outer s H vs Q E hr h=> ?_)
 ·obtain⟨v,rfl,_⟩:=h
  rfl
 ·obtain⟨v,rfl,hs,hk,hA,hI,q⟩:=h
  cases v with
  |cut _ _ _ _=>cases hs
  |tog _ _ _=>cases hs
  |whole a s' nm=>
   obtain⟨_,ok,⟨b1,_⟩,dx,e⟩:=hA
   refine⟨_,(aL (bH (kF (a8Q rfl) rfl T.list jH (aA (kF a7Q rfl T.range a8g (aA (cH (aX (pv 0) rfl) cl G hr aM (aA (aX (pv 0) rfl) aD)) aD)) aD)))),?_⟩
   obtain⟨ds,bd,ch,fi,hs'⟩:=I.at_ hI ok
   obtain⟨w1,w2⟩:=tR s' nm
   refine⟨_,rfl,a,X.CW,dx,_,_,rfl,e,Z.W.cl,Z.W.n_sheet,w1,s',ds,_,rfl,hs',eO,_,rfl,a,X.CW,dx,_,_,rfl,e,Z.W.cl,Z.W.n_name,w2,use hI ok fun H1 s1=> ?_⟩
   refine⟨(X.M.many s' nm:Int),rfl,fun g hg=>⟨g,0,(X.M.many s' nm:Int),rfl,aH,by omega,by omega,by omega,by omega,by omega,fun l hl=> ?_⟩⟩
   rw[Int.sub_zero,Int.toNat_natCast]
   have sg:=s1.trans (aE.new (o:=.rng 0 (X.M.many s' nm:Int)) hg)
   have sl':=sg.trans (aE.new (o:=.lst (cY 0 (X.M.many s' nm))) hl)
   exact q _ l _ (I.same hI sl') (bG.of sl') (gO sg hl) aH ⟨kN _ _,fun p hp=>⟨_,b3M hp,rfl,hp⟩⟩
theorem a9D:aW ["self","column","row"] ["self","column","row"] (aB oO):=⟨rfl,rfl,rfl,by decide+kernel,rfl,by decide+kernel,by decide+kernel⟩
theorem lA{CS:Addr}{dc:Nat}{X:VC}(I:SI P w K mg base CS dc X)(cl:bS K CS)(Z:VT K mg X)(n:Nat):aN P w K mg base aC (dc+ 1) X.CW "value_at" ["self","column","row"] (nP K X n 0):=by
 obtain⟨sp,G,use⟩:=I.cell
 refine Z.W.m_value_at.known a9D (fun _ _ _ _ _ _ us hl=>cN (fun _ _ _=>rfl) us hl) (fun vs H Q E h=> ?_) (fun f cdv A outer s H vs Q E hr h=> ?_)
 ·obtain⟨v,c,r,p,rfl,_⟩:=h
  rfl
 ·obtain⟨v,c,r,p,rfl,hs,hk,hA,hI,hc,hR,q⟩:=h
  cases v with
  |cut _ _ _ _=>cases hs
  |tog _ _ _=>cases hs
  |whole a s' nm=>
   obtain⟨_,ok,_,dx,e⟩:=hA
   obtain⟨rfl,hp⟩:=hR
   refine⟨_,(aL (bH (cH (aX (pv 0) rfl) cl G hr aM (aA (aX (pv 0) rfl) (aA (pv 1) (aA (pv 2) aD)))))),?_⟩
   obtain⟨ds,bd,ch,fi,hs'⟩:=I.at_ hI ok
   obtain⟨w1,w2⟩:=tR s' nm
   exact⟨_,rfl,a,X.CW,dx,_,_,rfl,e,Z.W.cl,Z.W.n_sheet,w1,s',ds,_,rfl,hs',eO,_,rfl,a,X.CW,dx,_,_,rfl,e,Z.W.cl,Z.W.n_name,w2,_,rfl,_,rfl,use hI ok hc hp fun H' v i1 u1 pv=>q H' v i1 u1 pv⟩
theorem b09:aW ["self","column","row"] ["self","column","row"] (aB oP):=⟨rfl,rfl,rfl,by decide+kernel,rfl,by decide+kernel,by decide+kernel⟩
theorem mM(T:bA K mg){X:VC}(Z:VT K mg X)(n:Nat):aN P w K mg base aC 3 X.CW "spots_at" ["self","column","row"] (qD X n 0):=by
 have GI:cI P w K mg base aC 1 X.CO ["self","sheet","name","column","place"] (spOI X.CO):=mY T Z.O
 refine Z.W.m_spots_at.known b09 (fun _ _ _ _ _ _ us hl=>cN (fun _ _ _=>rfl) us hl) (fun vs H Q E h=> ?_) (fun f cdv A outer s H vs Q E hr h=> ?_)
 ·obtain⟨v,c,r,p,rfl,_⟩:=h
  rfl
 ·obtain⟨v,c,r,p,rfl,hs,hk,hA,hI,hR,q⟩:=h
  cases v with
  |cut _ _ _ _=>cases hs
  |tog _ _ _=>cases hs
  |whole a s' nm=>
   obtain⟨_,ok,_,dx,e⟩:=hA
   obtain⟨rfl,hp⟩:=hR
   refine⟨_,(aL (bH (eD (aA (gH GI hr Z.O.c aM (aA (aX (pv 0) rfl) (aA (aX (pv 0) rfl) (aA (pv 1) (aA (pv 2) aD))))) aD)))),?_⟩
   obtain⟨w1,w2⟩:=tR s' nm
   refine⟨_,rfl,a,X.CW,dx,_,_,rfl,e,Z.W.cl,Z.W.n_sheet,w1,_,rfl,a,X.CW,dx,_,_,rfl,e,Z.W.cl,Z.W.n_name,w2,_,rfl,_,rfl,?_⟩
   intro o d0 ho hd0 ne
   refine⟨o,d0,s',nm,c,(p:Int),rfl,aH,fun H1 b1 e1=>⟨rfl,sl,fun l hl=> ?_⟩⟩
   have s1:aE H H1:=fun x o' e=>b1 _ _ (bD e ho) (by rw[aF (bD e ho),aF (bD e hd0)];exact e)
   have s2:=aE.new (o:=.lst [.ref o]) hl
   exact q _ l o d0 (s1.trans s2) (gO s1 hl) aH (s2 _ _ e1)
end
theorem a70{K:Fg}{cp:List (Nat×Str)}{tt:TT}{te:TE}{σ:St}{a:Addr}{xs:List V}{D:Addr}{Q:VK}{H1:Hp}(Pv:Nat->List V->Hp->Prop)(h0:Pv 0 [] (upd H1 D (.lst [])))
 (hl:∀i ys H,H D=some (.lst ys)->Pv i ys H->aI K H a xs)
 (hs:∀i x ys H,xs[i]?=some x->H D=some (.lst ys)->Pv i ys H->tt (some x::dZ cp σ) H fun b H4=>if b=true then te (some x::dZ cp σ) H4 (kM D Pv i ys) else∃ys',H4 D=some (.lst ys')/\Pv (i+ 1) ys' H4)
 (hd:∀ys H,H D=some (.lst ys)->Pv xs.length ys H->Q (.ref D) H):jX cp tt te σ (jJ K a) D Q H1:=by
 refine⟨fun i m H=>m=xs.length- i/\i<=xs.length/\∃ys,H D=some (.lst ys)/\Pv i ys H,⟨xs.length,by simp,Nat.zero_le _,[],aH,h0⟩,?_⟩
 rintro i m H ⟨rfl,hi,ys,hD,p⟩
 by_cases hlt:i<xs.length
 ·refine .inr ⟨⟨xs,xs[i],hl i ys H hD p,by simp[hlt]⟩,kM D Pv i ys,fun H4=>∃ys',H4 D=some (.lst ys')/\Pv (i+ 1) ys' H4,fun y H5 ⟨h1,h2,h3⟩=>⟨ys,xs.length- (i+ 1),h1,h2,by omega,rfl,hlt,_,aH,h3⟩,fun H4 ⟨ys',h1,h2⟩=>⟨xs.length- (i+ 1),by omega,rfl,hlt,ys',h1,h2⟩,fun v H' y=> ?_⟩
  obtain⟨e,y⟩:=y
  subst e
  exact hs i v ys _ (y xs (hl i ys _ hD p)) hD p
 ·have e:i=xs.length:=by omega
  subst e
  exact .inl ⟨⟨xs,hl _ ys H hD p,Nat.le_refl _⟩,hd ys H hD p⟩
theorem wJ(xs:List V)(i n:Nat):(bF xs (some (i:Int)) (some ((i:Int)+ (n:Int)))).length=min n (xs.length- i)/\∀p,p<min n (xs.length- i)->(bF xs (some (i:Int)) (some ((i:Int)+ (n:Int))))[p]?=xs[i+ p]?:=by
 have e:((i:Int)+ (n:Int))=((i+ n:Nat):Int):=by omega
 unfold bF
 rw[e,HT.sIx_nat,HT.sIx_nat]
 refine⟨?_,fun p hp=> ?_⟩
 ·rw[List.length_take,List.length_drop]
  omega
 ·rw[List.getElem?_take_of_lt (by omega),List.getElem?_drop]
  congr 1
  omega
section
variable{P:Program}{w:World}{K:Fg}{mg:Str->Option Value}{base:Heap}
theorem RD.at{X:VC}{sp:Nat->Sp}(v:VW):RD X sp (X.cls v.sh) (sp v.sh):=⟨v.sh,v.sh3,rfl,rfl⟩
theorem RD.k{X:VC}{sp:Nat->Sp}{d:Nat}{m:Str}{ps:List Str}(Z:VT K mg X)(h:∀k,k<3->aN P w K mg base aC d (X.cls k) m ps (sp k)):∀C s,RD X sp C s->bS K C/\aN P w K mg base aC d C m ps s:=fun C s ⟨k,hk,e1,e2⟩=>by
 subst e1 e2
 exact⟨Z.cl k,h k hk⟩
theorem a8U:aW ["self"] ["self"] (aB lJ):=⟨rfl,rfl,rfl,by decide+kernel,rfl,by decide+kernel,by decide+kernel⟩
theorem b2P{X:VC}(Z:VT K mg X){dc n:Nat}(IH:fK P w K mg base dc X n):aN P w K mg base aC (4+ (n+ 1)) X.CU "columns" ["self"] (nN X (n+ 1) 1):=by
 refine Z.U.m_columns.known a8U (fun _ _ _ _ _ _ us hl=>cQ (fun _=>rfl) us hl) (fun vs H Q E h=> ?_) (fun f cdv A outer s H vs Q E hr h=> ?_)
 ·obtain⟨v,rfl,_⟩:=h
  rfl
 ·obtain⟨v,rfl,hs,hk,hA,hI,q⟩:=h
  cases v with
  |whole _ _ _=>cases hs
  |tog _ _ _=>cases hs
  |cut a v i m=>
   obtain⟨_,⟨dx,e⟩,hv⟩:=hA
   refine⟨_,(aL (bH (fV (aX (pv 0) rfl) (RD.k Z IH.co) hr aM))),?_⟩
   obtain⟨u1,_⟩:=vN v.a i m
   obtain⟨dv,fs,ev,no⟩:=hv.ins
   exact⟨_,rfl,a,X.CU,dx,_,_,rfl,e,Z.U.cl,Z.U.n_view,u1,_,_,v.a,dv,fs,RD.at v,rfl,ev,no _ (by decide+kernel),v,rfl,rfl,Nat.le_of_succ_le_succ hk,hv,hI,q⟩
theorem a75:aW ["self"] ["self"] (aB rC):=⟨rfl,rfl,rfl,by decide+kernel,rfl,by decide+kernel,by decide+kernel⟩
theorem qW{CS:Addr}{dc:Nat}{X:VC}(I:SI P w K mg base CS dc X)(Z:VT K mg X){n:Nat}(IH:fK P w K mg base dc X n):aN P w K mg base aC (4+ (n+ 1)) X.CU "rows" ["self"] (nL X (n+ 1) 1):=by
 refine Z.U.m_rows.known a75 (fun _ _ _ _ _ _ us hl=>cQ (fun _=>rfl) us hl) (fun vs H Q E h=> ?_) (fun f cdv A outer s H vs Q E hr h=> ?_)
 ·obtain⟨v,rfl,_⟩:=h
  rfl
 ·obtain⟨v,rfl,hs,hk,hA,hI,q⟩:=h
  cases v with
  |whole _ _ _=>cases hs
  |tog _ _ _=>cases hs
  |cut a v i m=>
   obtain⟨fa,⟨dx,e⟩,hv⟩:=hA
   refine⟨_,(aL (bH (gZ gT (fV (aX (pv 0) rfl) (RD.k Z IH.ro) hr aM) (fH (aX (pv 0) rfl)) (fH (bI fY (aX (pv 0) rfl) (aX (pv 0) rfl)))))),?_⟩
   obtain⟨u1,u2,u3⟩:=vN v.a i m
   obtain⟨dv,fs,ev,no⟩:=hv.ins
   refine⟨_,rfl,a,X.CU,dx,_,_,rfl,e,Z.U.cl,Z.U.n_view,u1,_,_,v.a,dv,fs,RD.at v,rfl,ev,no _ (by decide+kernel),v,rfl,rfl,Nat.le_of_succ_le_succ hk,hv,hI,fun H1 l rs i1 f1 hl hl1 hr1=> ?_⟩
   have e1:=f1.k _ _ fa (fun _ y=>by cases y) e
   refine⟨_,rfl,a,X.CU,dx,_,_,rfl,e1,Z.U.cl,Z.U.n_start,u2,(i:Int),rfl,?_⟩
   refine⟨_,rfl,a,X.CU,dx,_,_,rfl,e1,Z.U.cl,Z.U.n_start,u2,_,rfl,a,X.CU,dx,_,_,rfl,e1,Z.U.cl,Z.U.n_count,u3,_,_,rfl,rfl,((i:Int)+ (m:Int)),rfl,l,rs,rfl,aI.of hl1,fun l2 hl2=> ?_⟩
   obtain⟨c1,c2⟩:=wJ rs i m
   have s2:=aE.new (o:=.lst (bF rs (some (i:Int)) (some ((i:Int)+ (m:Int))))) hl2
   have f2:=f1.trans (bG.of s2)
   have nl2:H l2=none:=f1.back hl2
   refine q _ l2 _ (I.same i1 s2) f2 nl2 aH ⟨?_,fun p hp=> ?_⟩
   ·rw[c1,hr1.1]
    rfl
   ·have hp:p<min m (v.num X.M- i):=hp
    obtain⟨r,h1,h2⟩:=hr1.2 (i+ p) (by omega)
    exact⟨r,by rw[c2 p (by rw[hr1.1];exact hp),h1],VC.Row.fr (v:=v) (bG.of s2) h2⟩
theorem a7i:aW ["self","column","row"] ["self","column","row"] (aB mT):=⟨rfl,rfl,rfl,by decide+kernel,rfl,by decide+kernel,by decide+kernel⟩
theorem b0b{X:VC}(Z:VT K mg X){dc n:Nat}(IH:fK P w K mg base dc X n):aN P w K mg base aC (dc+ 1+ (n+ 1)) X.CU "value_at" ["self","column","row"] (nP K X (n+ 1) 1):=by
 refine Z.U.m_value_at.known a7i (fun _ _ _ _ _ _ us hl=>cN (fun _ _ _=>rfl) us hl) (fun vs H Q E h=> ?_) (fun f cdv A outer s H vs Q E hr h=> ?_)
 ·obtain⟨v,c,r,p,rfl,_⟩:=h
  rfl
 ·obtain⟨v,c,r,p,rfl,hs,hk,hA,hI,hc,hR,q⟩:=h
  cases v with
  |whole _ _ _=>cases hs
  |tog _ _ _=>cases hs
  |cut a v i m=>
   obtain⟨_,⟨dx,e⟩,hv⟩:=hA
   refine⟨_,(aL (bH (gA (aX (pv 0) rfl) (RD.k Z IH.va) hr aM (aA (pv 1) (aA (pv 2) aD))))),?_⟩
   obtain⟨u1,_⟩:=vN v.a i m
   obtain⟨dv,fs,ev,no⟩:=hv.ins
   exact⟨_,rfl,a,X.CU,dx,_,_,rfl,e,Z.U.cl,Z.U.n_view,u1,_,_,v.a,dv,fs,RD.at v,rfl,ev,no _ (by decide+kernel),_,rfl,_,rfl,v,c,r,i+ p,rfl,rfl,Nat.le_of_succ_le_succ hk,hv,hI,hc,hR,q⟩
theorem a7m:aW ["self","column","row"] ["self","column","row"] (aB mQ):=⟨rfl,rfl,rfl,by decide+kernel,rfl,by decide+kernel,by decide+kernel⟩
theorem b3i{X:VC}(Z:VT K mg X){dc n:Nat}(IH:fK P w K mg base dc X n):aN P w K mg base aC (3+ (n+ 1)) X.CU "spots_at" ["self","column","row"] (qD X (n+ 1) 1):=by
 refine Z.U.m_spots_at.known a7m (fun _ _ _ _ _ _ us hl=>cN (fun _ _ _=>rfl) us hl) (fun vs H Q E h=> ?_) (fun f cdv A outer s H vs Q E hr h=> ?_)
 ·obtain⟨v,c,r,p,rfl,_⟩:=h
  rfl
 ·obtain⟨v,c,r,p,rfl,hs,hk,hA,hI,hR,q⟩:=h
  cases v with
  |whole _ _ _=>cases hs
  |tog _ _ _=>cases hs
  |cut a v i m=>
   obtain⟨_,⟨dx,e⟩,hv⟩:=hA
   refine⟨_,(aL (bH (gA (aX (pv 0) rfl) (RD.k Z IH.sa) hr aM (aA (pv 1) (aA (pv 2) aD))))),?_⟩
   obtain⟨u1,_⟩:=vN v.a i m
   obtain⟨dv,fs,ev,no⟩:=hv.ins
   exact⟨_,rfl,a,X.CU,dx,_,_,rfl,e,Z.U.cl,Z.U.n_view,u1,_,_,v.a,dv,fs,RD.at v,rfl,ev,no _ (by decide+kernel),_,rfl,_,rfl,v,c,r,i+ p,rfl,rfl,Nat.le_of_succ_le_succ hk,hv,hI,hR,q⟩
theorem uO{a:Addr}{x y:VW}{n:Nat}(h:(VW.tog a x y).rk<=n+ 1):x.rk<=n/\y.rk<=n:=by
 have h:max x.rk y.rk+ 1<=n+ 1:=h
 omega
theorem a84(f:Str->Bool)(cs:List Str)(i:Nat)(c:Str)(h:cs[i]?=some c):(cs.take (i+ 1)).filter f=(cs.take i).filter f++ (if f c=true then [c] else []):=by
 rw[List.take_add_one,h,List.filter_append]
 congr 1
 show [c].filter f=_
 by_cases e:f c=true
 ·rw[if_pos e];simp[e]
 ·rw[if_neg e];simp[e]
theorem wI:aW ["self","shared"] ["self"] (aB iY):=⟨rfl,rfl,rfl,by decide+kernel,rfl,by decide+kernel,by decide+kernel⟩
theorem b1V{CS:Addr}{dc:Nat}{X:VC}(I:SI P w K mg base CS dc X)(Z:VT K mg X){n:Nat}(IH:fK P w K mg base dc X n):aN P w K mg base aC (4+ (n+ 1)) X.CJ "columns" ["self"] (nN X (n+ 1) 2):=by
 refine Z.J.m_columns.known wI (fun _ _ _ _ _ _ us hl=>cQ (fun _=>rfl) us hl) (fun vs H Q E h=> ?_) (fun f cdv A outer s H vs Q E hr h=> ?_)
 ·obtain⟨v,rfl,_⟩:=h
  rfl
 ·obtain⟨v,rfl,hs,hk,hA,hI,q⟩:=h
  cases v with
  |whole _ _ _=>cases hs
  |cut _ _ _ _=>cases hs
  |tog a x y=>
   obtain⟨fa,_,⟨dx,e⟩,hx,hy⟩:=hA
   obtain⟨kx,ky⟩:=uO hk
   have hcl:∀x,(dI aC P w K mg base ["self","shared"] "Together.columns" (aB iY) f cdv A outer s H E).nox.env.scope.names.lookup x=some .cell->∃c,(dI aC P w K mg base ["self","shared"] "Together.columns" (aB iY) f cdv A outer s H E).nox.env.cells.lookup x=some c:=fun x hx=>Option.isSome_iff_exists.mp (PySem.W.cellsFrom_some _ _ _ (.inl hx))
   refine⟨_,(aK (bW (i:=1) wI.nd rfl (by first|exact Or.inl rfl|exact Or.inr rfl) (fV (aX (pv 0) rfl) (RD.k Z IH.co) hr aM))
    (aL (bH (jN (tt:=tD (jI (tF K false) (eS 0) (eS 1))) (lE (sc:=aB iY) (N:=["self","shared"]) (cp:=[(1,"shared")]) hcl) rfl rfl (by decide) (gG (fV (aX (pv 0) rfl) (RD.k Z IH.co) hr aM)) (fun _ _ _ _ _=>(a83 (cW pF (pv 0) (pv 1) (by with_unfolding_all rfl)))) (fun _ _ _ _ _=>(pv 0)))))),?_⟩
   obtain⟨j1,j2⟩:=a7Y x.a y.a
   obtain⟨dy,fy,ey,noy⟩:=hy.ins
   refine⟨_,rfl,a,X.CJ,dx,_,_,rfl,e,Z.J.cl,Z.J.n_other,j2,_,_,y.a,dy,fy,RD.at y,rfl,ey,noy _ (by decide+kernel),y,rfl,rfl,ky,hy,hI,fun H1 l1 s1 hl1 e1=> ?_⟩
   have hI1:=I.same hI s1
   have hx1:=hx.fr (bG.of s1)
   obtain⟨dx',fx,ex,nox⟩:=hx1.ins
   refine⟨_,rfl,a,X.CJ,dx,_,_,rfl,s1 _ _ e,Z.J.cl,Z.J.n_one,j1,_,_,x.a,dx',fx,RD.at x,rfl,ex,nox _ (by decide+kernel),x,rfl,rfl,kx,hx1,hI1,fun H2 l2 s2 hl2 e2=> ?_⟩
   have e1':=s2 _ _ e1
   have ll:=hx.num.2
   refine⟨l2,rfl,⟨_,aI.of e2⟩,fun D hD=> ?_⟩
   refine a70 (K:=K) (a:=l2) (xs:=(x.cols X.M).map V.str) (fun i ys H3=>aE H2 H3/\ys=(((x.cols X.M).take i).filter fun c=>decide (c∈y.cols X.M)).map V.str) ⟨aE.new hD,rfl⟩ (by rintro i ys H3 _ ⟨s3,_⟩;exact aI.of (s3 _ _ e2)) ?_ ?_
   ·rintro i z ys H3 hz h3 ⟨s3,rfl⟩
    rw[List.getElem?_map]at hz
    cases ec:(x.cols X.M)[i]? with
    |none=>rw[ec]at hz;cases hz
    |some c=>
     rw[ec]at hz
     obtain rfl:=Option.some.inj hz
     refine⟨_,rfl,_,rfl,l1,_,rfl,.inl (aI.of (s3 _ _ e1')),rfl,iK _,_,rfl,?_⟩
     rw[show (if false=true then !dL (.str c) ((y.cols X.M).map V.str) else dL (.str c) ((y.cols X.M).map V.str))=decide (c∈y.cols X.M)by rw[if_neg Bool.false_ne_true,jM]]
     have fs:=a84 (fun c=>decide (c∈y.cols X.M)) _ i c ec
     by_cases hc:c∈y.cols X.M
     ·rw[if_pos (decide_eq_true hc)]at fs
      rw[decide_eq_true hc]
      refine dY ⟨_,rfl,h3,cK ?_,s3.on hD,?_⟩
      ·rw[List.length_map]
       have h1:=List.length_filter_le (fun c=>decide (c∈y.cols X.M)) ((x.cols X.M).take i)
       rw[List.length_take]at h1
       omega
      ·rw[fs,List.map_append]
       rfl
     ·have hcf:decide (c∈y.cols X.M)=false:=decide_eq_false hc
      rw[if_neg (by rw[hcf];exact Bool.false_ne_true)]at fs
      rw[hcf]
      exact bL ⟨_,h3,s3,by rw[fs,List.append_nil]⟩
   ·rintro ys H3 h3 ⟨s3,rfl⟩
    rw[List.length_map,List.take_length]at h3
    exact q H3 D ((s1.trans s2).trans s3) (gO (s1.trans s2) hD) h3
theorem a7J:aW ["self"] ["self"] (aB iA):=⟨rfl,rfl,rfl,by decide+kernel,rfl,by decide+kernel,by decide+kernel⟩
theorem a7L{CS:Addr}{dc:Nat}{X:VC}(I:SI P w K mg base CS dc X){a dx l D:Addr}{fs:List (Str×V)}{v:VW}{rs:List V}{H H1:Hp}{aw9:Str}{σ:St}{Q:VK}(nj:bS K X.CJ/\bN K X.CJ aw9)(hI:X.Inv H)(fa:X.Free a)(e:H a=some (.ins X.CJ dx fs))(lo:fs.lookup aw9=some (.ref v.a))(hσ:dZ [(0,("self":Str))] σ= [some (.ref a)])(hn:v.num X.M<=500)(hl:H l=none)(e1:H1 l=some (.lst rs))(i1:X.Inv H1)(f1:bG X.Free H H1)(rr:X.Rows H1 v rs)(hD:H1 D=none)
 (q:∀H' ts,X.Inv H'->bG X.Free H1 H'->H' D=some (.lst ts)->ts.length=v.num X.M->(∀p,p<v.num X.M->∃t r,ts[p]?=some (.ref t)/\X.Free t/\H' t=some (.tup [.ref v.a,r])/\X.Row H' v r p)->Q (.ref D) H'):
 jX [(0,("self":Str))] qZ (tO (kK (tZ K (eS 1) aw9) (kK (eS 0) iI))) σ (jJ K l) D Q H1:=by
 have fl:=I.new hI hl
 refine rS (K:=K) (a:=l) (xs:=rs) (fun i ys H2=>X.Inv H2/\bG X.Free H1 H2/\ys.length=i/\∀p,p<i->∃t r,ys[p]?=some (.ref t)/\X.Free t/\H2 t=some (.tup [.ref v.a,r])/\X.Row H2 v r p) ⟨I.same i1 (aE.new hD),bG.of (aE.new hD),rfl,fun p h=>by{omega}⟩ (by rintro i ys H2 _ ⟨_,f2,_⟩;exact aI.of (f2.k _ _ fl (fun _ y=>by cases y) e1)) ?_ ?_
 ·rintro i r ys H2 hr h2 ⟨i2,f2,l2,ok⟩
  have hi:i<rs.length:=(List.getElem?_eq_some_iff.mp hr).1
  have hi':i<v.num X.M:=by rw[<- rr.1];exact hi
  obtain⟨r',h1,h3⟩:=rr.2 i hi'
  rw[h1]at hr
  obtain rfl:=Option.some.inj hr
  rw[hσ]
  refine⟨_,rfl,a,X.CJ,dx,fs,_,rfl,(f1.trans f2).k _ _ fa (fun _ y=>by cases y) e,nj.1,nj.2,lo,_,rfl,sl,fun t ht=> ?_⟩
  have s3:=aE.new (o:=.tup [.ref v.a,r']) ht
  have t3:upd H2 t (.tup [.ref v.a,r']) t=some (.tup [.ref v.a,r']):=aH
  generalize upd H2 t (.tup [.ref v.a,r'])=H3 at s3 t3|-
  have i3:=I.same i2 s3
  have h3D:=s3 _ _ h2
  have n3D:t≠D:=fun y=>by rw[y,h3D]at t3;cases t3
  have kt4:bQ H3 (upd H3 D (.lst (ys++ [.ref t]))):=fun b xs eb=>by
   rw[aF (fun y=>by rw[y,h3D]at eb;cases eb)]
   exact eb
  have kt2:bQ H2 (upd H3 D (.lst (ys++ [.ref t]))):=fun b xs eb=>kt4 _ _ (s3 _ _ eb)
  refine⟨h3D,cK (by omega),I.on i1 hD i3,(f2.trans (bG.of s3)).on hD,by rw[List.length_append,l2];rfl,fun p hp=> ?_⟩
  by_cases y:p=i
  ·subst y
   refine⟨t,r',by rw[List.getElem?_append_right (by omega),l2,Nat.sub_self];rfl,I.new i2 ht,kt4 _ _ t3,VC.Row.kt kt2 (VC.Row.fr f2 h3)⟩
  ·obtain⟨t',r2,a1,a2,a3,a4⟩:=ok p (by omega)
   exact⟨t',r2,by rw[List.getElem?_append_left (by omega)];exact a1,a2,kt2 _ _ a3,VC.Row.kt kt2 a4⟩
 ·rintro ys H2 h2 ⟨i2,f2,l2,ok⟩
  rw[rr.1]at l2 ok
  exact q H2 ys i2 f2 h2 l2 ok
theorem b2D{CS:Addr}{dc:Nat}{X:VC}(I:SI P w K mg base CS dc X)(Z:VT K mg X){n:Nat}(IH:fK P w K mg base dc X n):aN P w K mg base aC (4+ (n+ 1)) X.CJ "rows" ["self"] (nL X (n+ 1) 2):=by
 refine Z.J.m_rows.known a7J (fun _ _ _ _ _ _ us hl=>cQ (fun _=>rfl) us hl) (fun vs H Q E h=> ?_) (fun f cdv A outer s H vs Q E hr h=> ?_)
 ·obtain⟨v,rfl,_⟩:=h
  rfl
 ·obtain⟨v,rfl,hs,hk,hA,hI,q⟩:=h
  cases v with
  |whole _ _ _=>cases hs
  |cut _ _ _ _=>cases hs
  |tog a x y=>
   obtain⟨fa,b5,⟨dx,e⟩,hx,hy⟩:=hA
   obtain⟨kx,ky⟩:=uO hk
   have hcl:∀x,(dI aC P w K mg base ["self"] "Together.rows" (aB iA) f cdv A outer s H E).nox.env.scope.names.lookup x=some .cell->∃c,(dI aC P w K mg base ["self"] "Together.rows" (aB iA) f cdv A outer s H E).nox.env.cells.lookup x=some c:=fun x hx=>Option.isSome_iff_exists.mp (PySem.W.cellsFrom_some _ _ _ (.inl hx))
   refine⟨_,(aL (bH (bI sY (jN (te:=tO (kK (tZ K (eS 1) "one") (kK (eS 0) iI))) (lE (sc:=aB iA) (N:=["self"]) (cp:=[(0,"self")]) hcl) rfl rfl (by decide) (gG (fV (aX (pv 0) rfl) (RD.k Z IH.ro) hr aM)) (fun _ _ _ _ _=>kH) (fun _ _ _ _ _=>(jO (aA (aX (pv 1) rfl) (aA (pv 0) aD))))) (jN (te:=tO (kK (tZ K (eS 1) "other") (kK (eS 0) iI))) (lE (sc:=aB iA) (N:=["self"]) (cp:=[(0,"self")]) hcl) rfl rfl (by decide) (gG (fV (aX (pv 0) rfl) (RD.k Z IH.ro) hr aM)) (fun _ _ _ _ _=>kH) (fun _ _ _ _ _=>(jO (aA (aX (pv 1) rfl) (aA (pv 0) aD)))))))),?_⟩
   obtain⟨j1,j2⟩:=a7Y x.a y.a
   obtain⟨dx',fx,ex,nox⟩:=hx.ins
   have nx:=hx.num.1
   have ny:=hy.num.1
   refine⟨_,rfl,a,X.CJ,dx,_,_,rfl,e,Z.J.cl,Z.J.n_one,j1,_,_,x.a,dx',fx,RD.at x,rfl,ex,nox _ (by decide+kernel),x,rfl,rfl,kx,hx,hI,fun H1 l1 rs i1 f1 hl1 e1 rr1=> ?_⟩
   refine⟨l1,rfl,⟨_,aI.of e1⟩,fun D hD=> ?_⟩
   refine a7L I ⟨Z.J.cl,Z.J.n_one⟩ hI fa e j1 rfl nx hl1 e1 i1 f1 rr1 hD fun H2 ts i2 f2 e2 lt ok=> ?_
   have f02:=f1.trans f2
   have ea2:=f02.k _ _ fa (fun _ y=>by cases y) e
   have hy2:=hy.fr f02
   obtain⟨dy,fy,ey,noy⟩:=hy2.ins
   refine⟨_,rfl,a,X.CJ,dx,_,_,rfl,ea2,Z.J.cl,Z.J.n_other,j2,_,_,y.a,dy,fy,RD.at y,rfl,ey,noy _ (by decide+kernel),y,rfl,rfl,ky,hy2,i2,fun H3 l3 rs3 i3 f3 hl3 e3 rr3=> ?_⟩
   refine⟨l3,rfl,⟨_,aI.of e3⟩,fun D3 hD3=> ?_⟩
   refine a7L I ⟨Z.J.cl,Z.J.n_other⟩ i2 fa ea2 j2 rfl ny hl3 e3 i3 f3 rr3 hD3 fun H4 ts4 i4 f4 e4 lt4 ok4=> ?_
   have f24:=f3.trans f4
   have fD:X.Free D:=I.new i1 hD
   have eD4:=f24.k _ _ fD (fun _ y=>by cases y) e2
   refine⟨D,D3,ts,ts4,rfl,rfl,eD4,e4,Nat.le_of_lt (cK (by omega)),fun l hl=> ?_⟩
   have s5:=aE.new (o:=.lst (ts++ ts4)) hl
   have f45:=f24.trans (bG.of s5)
   refine q _ l (ts++ ts4) (I.same i4 s5) (f02.trans f45) (f02.back (f24.back hl)) aH ⟨by rw[List.length_append,lt,lt4];rfl,fun p hp=> ?_⟩
   have hp:p<x.num X.M+ y.num X.M:=hp
   by_cases h:p<x.num X.M
   ·obtain⟨t,r,a1,a2,a3,a4⟩:=ok p h
    exact⟨_,by rw[List.getElem?_append_left (by omega)];exact a1,t,rfl,a2,.inl ⟨h,r,f45.k _ _ a2 (fun _ y=>by cases y) a3,VC.Row.fr f45 a4⟩⟩
   ·obtain⟨t,r,a1,a2,a3,a4⟩:=ok4 (p- x.num X.M) (by omega)
    exact⟨_,by rw[List.getElem?_append_right (by omega),lt];exact a1,t,rfl,a2,.inr ⟨h,r,s5 _ _ a3,VC.Row.fr (bG.of s5) a4⟩⟩
theorem a7t:aW ["self","column","row"] ["self","column","row"] (aB nQ):=⟨rfl,rfl,rfl,by decide+kernel,rfl,by decide+kernel,by decide+kernel⟩
theorem uG{c:Str}{xs ys:List Str}(h:c∈xs.filter fun c=>decide (c∈ys)):c∈xs/\c∈ys:=by
 obtain⟨a,b⟩:=List.mem_filter.mp h
 exact⟨a,of_decide_eq_true b⟩
theorem b0C{X:VC}(Z:VT K mg X){dc n:Nat}(IH:fK P w K mg base dc X n):aN P w K mg base aC (dc+ 1+ (n+ 1)) X.CJ "value_at" ["self","column","row"] (nP K X (n+ 1) 2):=by
 refine Z.J.m_value_at.known a7t (fun _ _ _ _ _ _ us hl=>cN (fun _ _ _=>rfl) us hl) (fun vs H Q E h=> ?_) (fun f cdv A outer s H vs Q E hr h=> ?_)
 ·obtain⟨v,c,r,p,rfl,_⟩:=h
  rfl
 ·obtain⟨v,c,r,p,rfl,hs,hk,hA,hI,hc,hR,q⟩:=h
  cases v with
  |whole _ _ _=>cases hs
  |cut _ _ _ _=>cases hs
  |tog a x y=>
   obtain⟨fa,b5,⟨dx,e⟩,hx,hy⟩:=hA
   obtain⟨kx,ky⟩:=uO hk
   obtain⟨c1,c2⟩:=uG hc
   refine⟨_,(aL (bH (gA (bM fI (pv 2) aS (fun _ _=>rfl)) (RD.k Z IH.va) hr aM (aA (pv 1) (aA (bM fI (pv 2) aS (fun _ _=>rfl)) aD))))),?_⟩
   obtain⟨t,rfl,ft,h⟩:=hR
   rcases h with⟨hp,r',et,hr'⟩|⟨hp,r',et,hr'⟩
   ·obtain⟨dv,fs,ev,no⟩:=hx.ins
    refine⟨_,rfl,t,_,_,_,rfl,rfl,bU.of et,rfl,_,_,x.a,dv,fs,RD.at x,rfl,ev,no _ (by decide+kernel),_,rfl,_,rfl,t,_,_,_,rfl,rfl,bU.of et,rfl,x,c,r',p,rfl,rfl,kx,hx,hI,c1,hr',fun H' w i1 f1 pw=>q H' w i1 f1 ?_⟩
    show Pv K H' w (if p<x.num X.M then _ else _)
    rw[if_pos hp]
    exact pw
   ·obtain⟨dv,fs,ev,no⟩:=hy.ins
    refine⟨_,rfl,t,_,_,_,rfl,rfl,bU.of et,rfl,_,_,y.a,dv,fs,RD.at y,rfl,ev,no _ (by decide+kernel),_,rfl,_,rfl,t,_,_,_,rfl,rfl,bU.of et,rfl,y,c,r',p- x.num X.M,rfl,rfl,ky,hy,hI,c2,hr',fun H' w i1 f1 pw=>q H' w i1 f1 ?_⟩
    show Pv K H' w (if p<x.num X.M then _ else _)
    rw[if_neg hp]
    exact pw
theorem a8e:aW ["self","column","row"] ["self","column","row"] (aB oI):=⟨rfl,rfl,rfl,by decide+kernel,rfl,by decide+kernel,by decide+kernel⟩
theorem b3b{X:VC}(Z:VT K mg X){dc n:Nat}(IH:fK P w K mg base dc X n):aN P w K mg base aC (3+ (n+ 1)) X.CJ "spots_at" ["self","column","row"] (qD X (n+ 1) 2):=by
 refine Z.J.m_spots_at.known a8e (fun _ _ _ _ _ _ us hl=>cN (fun _ _ _=>rfl) us hl) (fun vs H Q E h=> ?_) (fun f cdv A outer s H vs Q E hr h=> ?_)
 ·obtain⟨v,c,r,p,rfl,_⟩:=h
  rfl
 ·obtain⟨v,c,r,p,rfl,hs,hk,hA,hI,hR,q⟩:=h
  cases v with
  |whole _ _ _=>cases hs
  |cut _ _ _ _=>cases hs
  |tog a x y=>
   obtain⟨fa,b5,⟨dx,e⟩,hx,hy⟩:=hA
   obtain⟨kx,ky⟩:=uO hk
   refine⟨_,(aL (bH (gA (bM fI (pv 2) aS (fun _ _=>rfl)) (RD.k Z IH.sa) hr aM (aA (pv 1) (aA (bM fI (pv 2) aS (fun _ _=>rfl)) aD))))),?_⟩
   obtain⟨t,rfl,ft,h⟩:=hR
   rcases h with⟨hp,r',et,hr'⟩|⟨hp,r',et,hr'⟩
   ·obtain⟨dv,fs,ev,no⟩:=hx.ins
    refine⟨_,rfl,t,_,_,_,rfl,rfl,bU.of et,rfl,_,_,x.a,dv,fs,RD.at x,rfl,ev,no _ (by decide+kernel),_,rfl,_,rfl,t,_,_,_,rfl,rfl,bU.of et,rfl,x,c,r',p,rfl,rfl,kx,hx,hI,hr',fun H' l o dx' s1 hl e1 e2=>q H' l o dx' s1 hl e1 ?_⟩
    have es:(VW.tog a x y).spot X.M p=x.spot X.M p:=if_pos hp
    rw[es]
    exact e2
   ·obtain⟨dv,fs,ev,no⟩:=hy.ins
    refine⟨_,rfl,t,_,_,_,rfl,rfl,bU.of et,rfl,_,_,y.a,dv,fs,RD.at y,rfl,ev,no _ (by decide+kernel),_,rfl,_,rfl,t,_,_,_,rfl,rfl,bU.of et,rfl,y,c,r',p- x.num X.M,rfl,rfl,ky,hy,hI,hr',fun H' l o dx' s1 hl e1 e2=>q H' l o dx' s1 hl e1 ?_⟩
    have es:(VW.tog a x y).spot X.M p=y.spot X.M (p- x.num X.M):=if_neg hp
    rw[es]
    exact e2
end
theorem fZ{xs:List V}{i:Nat}{v:V}(h:xs[i]?=some v):cT xs (i:Int)=some v:=by
 have hi:=(List.getElem?_eq_some_iff.mp h).1
 obtain⟨u,h1,h2⟩:=a9c xs (i:Int) (by omega) (by omega)
 rw[Int.toNat_natCast,h]at h2
 cases h2
 exact h1
section
variable{P:Program}{w:World}{K:Fg}{mg:Str->Option Value}{base:Heap}
theorem vC{X:VC}{k:Nat}(hk:k≠0):∀vs H Q E,¬nN X 0 k vs H Q E:=fun vs H Q E ⟨v,_,hs,hr,_⟩=>by
 cases v with
 |whole _ _ _=>exact hk hs.symm
 |cut _ v _ _=>exact absurd hr (Nat.not_succ_le_zero _)
 |tog _ x y=>exact absurd hr (Nat.not_succ_le_zero _)
theorem sR{X:VC}{k:Nat}(hk:k≠0):∀vs H Q E,¬nL X 0 k vs H Q E:=fun vs H Q E ⟨v,_,hs,hr,_⟩=>by
 cases v with
 |whole _ _ _=>exact hk hs.symm
 |cut _ v _ _=>exact absurd hr (Nat.not_succ_le_zero _)
 |tog _ x y=>exact absurd hr (Nat.not_succ_le_zero _)
theorem tX{X:VC}{k:Nat}(hk:k≠0):∀vs H Q E,¬nP K X 0 k vs H Q E:=fun vs H Q E ⟨v,_,_,_,_,hs,hr,_⟩=>by
 cases v with
 |whole _ _ _=>exact hk hs.symm
 |cut _ v _ _=>exact absurd hr (Nat.not_succ_le_zero _)
 |tog _ x y=>exact absurd hr (Nat.not_succ_le_zero _)
theorem vI{X:VC}{k:Nat}(hk:k≠0):∀vs H Q E,¬qD X 0 k vs H Q E:=fun vs H Q E ⟨v,_,_,_,_,hs,hr,_⟩=>by
 cases v with
 |whole _ _ _=>exact hk hs.symm
 |cut _ v _ _=>exact absurd hr (Nat.not_succ_le_zero _)
 |tog _ x y=>exact absurd hr (Nat.not_succ_le_zero _)
theorem vk3(T:bA K mg){CS:Addr}{dc:Nat}{X:VC}(I:SI P w K mg base CS dc X)(cl:bS K CS)(Z:VT K mg X):∀n,fK P w K mg base dc X n
 |0=>by
  refine⟨fun k hk=> ?_,fun k hk=> ?_,fun k hk=> ?_,fun k hk=> ?_⟩
  ·match k,hk with
   |0,_=>exact kZ I cl Z 0
   |1,_=>exact Z.U.m_columns.known (k:=3) a8U (fun _ _ _ _ _ _ us hl=>cQ (fun _=>rfl) us hl) (fun vs H Q E h=>absurd h (vC (by decide) _ _ _ _)) (fun f cdv A outer s H vs Q E hr h=>absurd h (vC (by decide) _ _ _ _))
   |2,_=>exact Z.J.m_columns.known (k:=3) wI (fun _ _ _ _ _ _ us hl=>cQ (fun _=>rfl) us hl) (fun vs H Q E h=>absurd h (vC (by decide) _ _ _ _)) (fun f cdv A outer s H vs Q E hr h=>absurd h (vC (by decide) _ _ _ _))
  ·match k,hk with
   |0,_=>exact lB T I cl Z 0
   |1,_=>exact Z.U.m_rows.known (k:=3) a75 (fun _ _ _ _ _ _ us hl=>cQ (fun _=>rfl) us hl) (fun vs H Q E h=>absurd h (sR (by decide) _ _ _ _)) (fun f cdv A outer s H vs Q E hr h=>absurd h (sR (by decide) _ _ _ _))
   |2,_=>exact Z.J.m_rows.known (k:=3) a7J (fun _ _ _ _ _ _ us hl=>cQ (fun _=>rfl) us hl) (fun vs H Q E h=>absurd h (sR (by decide) _ _ _ _)) (fun f cdv A outer s H vs Q E hr h=>absurd h (sR (by decide) _ _ _ _))
  ·match k,hk with
   |0,_=>exact lA I cl Z 0
   |1,_=>exact Z.U.m_value_at.known (k:=dc) a7i (fun _ _ _ _ _ _ us hl=>cN (fun _ _ _=>rfl) us hl) (fun vs H Q E h=>absurd h (tX (by decide) _ _ _ _)) (fun f cdv A outer s H vs Q E hr h=>absurd h (tX (by decide) _ _ _ _))
   |2,_=>exact Z.J.m_value_at.known (k:=dc) a7t (fun _ _ _ _ _ _ us hl=>cN (fun _ _ _=>rfl) us hl) (fun vs H Q E h=>absurd h (tX (by decide) _ _ _ _)) (fun f cdv A outer s H vs Q E hr h=>absurd h (tX (by decide) _ _ _ _))
  ·match k,hk with
   |0,_=>exact mM T Z 0
   |1,_=>exact Z.U.m_spots_at.known (k:=2) a7m (fun _ _ _ _ _ _ us hl=>cN (fun _ _ _=>rfl) us hl) (fun vs H Q E h=>absurd h (vI (by decide) _ _ _ _)) (fun f cdv A outer s H vs Q E hr h=>absurd h (vI (by decide) _ _ _ _))
   |2,_=>exact Z.J.m_spots_at.known (k:=2) a8e (fun _ _ _ _ _ _ us hl=>cN (fun _ _ _=>rfl) us hl) (fun vs H Q E h=>absurd h (vI (by decide) _ _ _ _)) (fun f cdv A outer s H vs Q E hr h=>absurd h (vI (by decide) _ _ _ _))
 |n+ 1=>by
  have IH:=vk3 T I cl Z n
  refine⟨fun k hk=> ?_,fun k hk=> ?_,fun k hk=> ?_,fun k hk=> ?_⟩
  ·match k,hk with
   |0,_=>exact(kZ I cl Z (n+ 1)).le (by omega)
   |1,_=>exact b2P Z IH
   |2,_=>exact b1V I Z IH
  ·match k,hk with
   |0,_=>exact(lB T I cl Z (n+ 1)).le (by omega)
   |1,_=>exact qW I Z IH
   |2,_=>exact b2D I Z IH
  ·match k,hk with
   |0,_=>exact(lA I cl Z (n+ 1)).le (by omega)
   |1,_=>exact b0b Z IH
   |2,_=>exact b0C Z IH
  ·match k,hk with
   |0,_=>exact(mM T Z (n+ 1)).le (by omega)
   |1,_=>exact b3i Z IH
   |2,_=>exact b3b Z IH
structure VG(K:Fg)(X:VC)(k:Nat):Prop where
 many:aQ K (X.cls k) "many" "View.many" iF
 look:aQ K (X.cls k) "look" "View.look" iM
 shown:aQ K (X.cls k) "shown" "View.shown" gB
 spots:aQ K (X.cls k) "spots" "View.spots" iC
 asked:aQ K (X.cls k) "asked_row" "View.asked_row" hU
theorem VT.g{X:VC}(Z:VT K mg X):∀k,VG K X k
 |0=>⟨Z.W.m_many,Z.W.m_look,Z.W.m_shown,Z.W.m_spots,Z.W.m_asked_row⟩
 |1=>⟨Z.U.m_many,Z.U.m_look,Z.U.m_shown,Z.U.m_spots,Z.U.m_asked_row⟩
 |_+ 2=>⟨Z.J.m_many,Z.J.m_look,Z.J.m_shown,Z.J.m_spots,Z.J.m_asked_row⟩
def spMv(X:VC)(n:Nat):Sp:=fun vs H Q _=>∃v:VW,vs= [.ref v.a] /\v.rk<=n/\X.At H v/\X.Inv H/\∀H',X.Inv H'->bG X.Free H H'->Q (.int (v.num X.M)) H'
theorem b0T:aW ["self"] ["self"] (aB iF):=⟨rfl,rfl,rfl,by decide+kernel,rfl,by decide+kernel,by decide+kernel⟩
theorem iS(T:bA K mg){X:VC}(Z:VT K mg X){dc n:Nat}(N:fK P w K mg base dc X n)(k:Nat):aN P w K mg base aC (4+ n+ 1) (X.cls k) "many" ["self"] (spMv X n):=by
 refine(Z.g k).many.known b0T (fun _ _ _ _ _ _ us hl=>cQ (fun _=>rfl) us hl) (fun vs H Q E h=> ?_) (fun f cdv A outer s H vs Q E hr h=> ?_)
 ·obtain⟨v,rfl,_⟩:=h
  rfl
 ·obtain⟨v,rfl,hk,hv,hI,q⟩:=h
  refine⟨_,(aL (bH (cF fW rfl T.len eQ (aA (fV (pv 0) (RD.k Z N.ro) hr aM) aD)))),?_⟩
  obtain⟨dv,fs,ev,no⟩:=hv.ins
  refine⟨_,rfl,_,_,v.a,dv,fs,RD.at v,rfl,ev,no _ (by decide+kernel),v,rfl,rfl,hk,hv,hI,fun H1 l rs i1 f1 hl e1 rr=>⟨.ref l,rs.length,rfl,.inl ⟨rs,aI.of e1,rfl⟩,?_⟩⟩
  rw[rr.1]
  exact q H1 i1 f1
def sG(X:VC)(n:Nat):Sp:=fun vs H Q _=>∃(v:VW) (c:Str) (p:Nat),vs= [.ref v.a,.str c,.int (p:Int)] /\v.rk<=n/\X.At H v/\X.Inv H/\c∈v.cols X.M/\p<v.num X.M/\∀H' r,X.Inv H'->bG X.Free H H'->X.Row H' v r p->Q r H'
theorem a73:aW ["self","column","place","rows"] ["self","column","place"] (aB hU):=⟨rfl,rfl,rfl,by decide+kernel,rfl,by decide+kernel,by decide+kernel⟩
theorem a8o(T:bA K mg){CS:Addr}{dc:Nat}{X:VC}(I:SI P w K mg base CS dc X)(Z:VT K mg X){n:Nat}(N:fK P w K mg base dc X n)(k:Nat):aN P w K mg base aC (4+ n+ 1) (X.cls k) "asked_row" ["self","column","place"] (sG X n):=by
 have G_col:bK P w K mg base aC 1 "check_column" ["column","columns"] (yH K):=lC T
 have G_pl:bK P w K mg base aC 2 "check_place" ["place","places"] qJ:=jA T
 refine(Z.g k).asked.known a73 (fun _ _ _ _ _ _ us hl=>cN (fun _ _ _=>rfl) us hl) (fun vs H Q E h=> ?_) (fun f cdv A outer s H vs Q E hr h=> ?_)
 ·obtain⟨v,c,p,rfl,_⟩:=h
  rfl
 ·obtain⟨v,c,p,rfl,hk,hv,hI,hc,hp,q⟩:=h
  refine⟨_,(aK (bX (bP G_col (hr.mono (by omega)) aM (aA (pv 1) (aA (fV (pv 0) (RD.k Z N.co) hr aM) aD))))
   (aK (bW (i:=3) a73.nd rfl (Or.inl rfl) (fV (pv 0) (RD.k Z N.ro) hr aM))
   (aK (bX (bP G_pl (hr.mono (by omega)) aM (aA (pv 2) (aA (cF fW rfl T.len eQ (aA (pv 3) aD)) aD))))
   (aL (bH (bM cC (pv 3) (pv 2) (fun _ _=>rfl))))))),?_⟩
  obtain⟨dv,fs,ev,no⟩:=hv.ins
  refine⟨_,rfl,_,rfl,_,_,v.a,dv,fs,RD.at v,rfl,ev,no _ (by decide+kernel),v,rfl,rfl,hk,hv,hI,fun H1 l1 s1 hl1 e1=> ?_⟩
  have hv1:=hv.fr (bG.of s1)
  refine⟨c,l1,_,rfl,e1,hc,?_⟩
  refine⟨_,rfl,_,_,v.a,dv,fs,RD.at v,rfl,s1 _ _ ev,no _ (by decide+kernel),v,rfl,rfl,hk,hv1,I.same hI s1,fun H2 l2 rs i2 f2 hl2 e2 rr=> ?_⟩
  obtain⟨r,r1,r2⟩:=rr.2 p hp
  refine⟨_,rfl,_,rfl,.ref l2,rs.length,rfl,.inl ⟨rs,aI.of e2,rfl⟩,p,rs.length,rfl,by rw[rr.1];exact hp,?_⟩
  exact⟨_,rfl,_,rfl,l2,rs,(p:Int),r,rfl,rfl,aI.of e2,fZ r1,q H2 r i2 ((bG.of s1).trans f2) r2⟩
def spLo(K:Fg)(X:VC)(n:Nat):Sp:=fun vs H Q _=>∃(v:VW) (c:Str) (p:Nat),vs= [.ref v.a,.str c,.int (p:Int)] /\v.rk<=n/\X.At H v/\X.Inv H/\c∈v.cols X.M/\p<v.num X.M/\∀H' y,X.Inv H'->bG X.Free H H'->Pv K H' y (v.val X.M c p)->Q y H'
theorem b2d:aW ["self","column","place"] ["self","column","place"] (aB iM):=⟨rfl,rfl,rfl,by decide+kernel,rfl,by decide+kernel,by decide+kernel⟩
theorem jC(T:bA K mg){CS:Addr}{dc:Nat}{X:VC}(hd:4<=dc)(I:SI P w K mg base CS dc X)(Z:VT K mg X){n:Nat}(N:fK P w K mg base dc X n)(k:Nat):aN P w K mg base aC (dc+ 1+ n+ 1) (X.cls k) "look" ["self","column","place"] (spLo K X n):=by
 have GA:∀k,k<3->aN P w K mg base aC (dc+ 1+ n) (X.cls k) "asked_row" ["self","column","place"] (sG X n):=fun k _=>(a8o T I Z N k).le (by omega)
 refine(Z.g k).look.known b2d (fun _ _ _ _ _ _ us hl=>cN (fun _ _ _=>rfl) us hl) (fun vs H Q E h=> ?_) (fun f cdv A outer s H vs Q E hr h=> ?_)
 ·obtain⟨v,c,p,rfl,_⟩:=h
  rfl
 ·obtain⟨v,c,p,rfl,hk,hv,hI,hc,hp,q⟩:=h
  refine⟨_,(aL (bH (gA (pv 0) (RD.k Z N.va) hr aM (aA (pv 1) (aA (gA (R:=RD X fun _=>sG X n) (pv 0) (RD.k Z GA) hr aM (aA (pv 1) (aA (pv 2) aD))) aD))))),?_⟩
  obtain⟨dv,fs,ev,no⟩:=hv.ins
  refine⟨_,rfl,_,_,v.a,dv,fs,RD.at v,rfl,ev,no _ (by decide+kernel),_,rfl,_,rfl,_,_,v.a,dv,fs,RD.at v,rfl,ev,no _ (by decide+kernel),_,rfl,_,rfl,v,c,p,rfl,hk,hv,hI,hc,hp,fun H1 r i1 f1 hr1=> ?_⟩
  exact⟨v,c,r,p,rfl,rfl,hk,hv.fr f1,i1,hc,hr1,fun H2 y i2 f2 py=>q H2 y i2 (f1.trans f2) py⟩
def spSh(K:Fg)(X:VC)(n:Nat):Sp:=fun vs H Q _=>∃(v:VW) (c:Str),vs= [.ref v.a,.str c] /\v.rk<=n/\X.At H v/\X.Inv H/\c∈v.cols X.M/\∀H' l ys,X.Inv H'->bG X.Free H H'->H l=none->H' l=some (.lst ys)->bT K H' ys ((List.range (v.num X.M)).map (v.val X.M c))->Q (.ref l) H'
theorem b3D:aW ["self","column"] ["self","column"] (aB gB):=⟨rfl,rfl,rfl,by decide+kernel,rfl,by decide+kernel,by decide+kernel⟩
theorem bT.snoc{K:Fg}{H:Hp}{v:V}{d:PyData}(h:Pv K H v d):∀{vs:List V} {ds:List PyData},bT K H vs ds->bT K H (vs++ [v]) (ds++ [d])
 |_,_,.nil=> .cons h .nil
 |_,_,.cons h' t=> .cons h' (bT.snoc h t)
theorem iZ(T:bA K mg){CS:Addr}{dc:Nat}{X:VC}(hd:4<=dc)(I:SI P w K mg base CS dc X)(Z:VT K mg X){n:Nat}(N:fK P w K mg base dc X n)(k:Nat):aN P w K mg base aC (dc+ 1+ n+ 1) (X.cls k) "shown" ["self","column"] (spSh K X n):=by
 have G_col:bK P w K mg base aC 1 "check_column" ["column","columns"] (yH K):=lC T
 refine(Z.g k).shown.known b3D (fun _ _ _ _ _ _ us hl=>cZ (fun _ _=>rfl) us hl) (fun vs H Q E h=> ?_) (fun f cdv A outer s H vs Q E hr h=> ?_)
 ·obtain⟨v,c,rfl,_⟩:=h
  rfl
 ·obtain⟨v,c,rfl,hk,hv,hI,hc,q⟩:=h
  have hcl:∀x,(dI aC P w K mg base ["self","column"] "View.shown" (aB gB) f cdv A outer s H E).nox.env.scope.names.lookup x=some .cell->∃c,(dI aC P w K mg base ["self","column"] "View.shown" (aB gB) f cdv A outer s H E).nox.env.cells.lookup x=some c:=fun x hx=>Option.isSome_iff_exists.mp (PySem.W.cellsFrom_some _ _ _ (.inl hx))
  refine⟨_,(aK (bX (bP G_col (hr.mono (by omega)) aM (aA (pv 1) (aA (fV (pv 0) (RD.k Z N.co) (hr.mono (by omega)) aM) aD))))
   (aL (bH (jN (lE (sc:=aB gB) (N:=["self","column"]) (cp:=[(1,"column"),(0,"self")]) hcl) rfl rfl (by decide) (gG (fV (pv 0) (RD.k Z N.ro) (hr.mono (by omega)) aM)) (fun _ _ _ _ _=>kH) (fun _ _ _ _ _=>(gA (pv 2) (RD.k Z N.va) hr aM (aA (pv 1) (aA (pv 0) aD)))))))),?_⟩
  obtain⟨dv,fs,ev,no⟩:=hv.ins
  refine⟨_,rfl,_,rfl,_,_,v.a,dv,fs,RD.at v,rfl,ev,no _ (by decide+kernel),v,rfl,rfl,hk,hv,hI,fun H1 l1 s1 hl1 e1=> ?_⟩
  have hv1:=hv.fr (bG.of s1)
  have i1:=I.same hI s1
  refine⟨c,l1,_,rfl,e1,hc,?_⟩
  refine⟨_,rfl,_,_,v.a,dv,fs,RD.at v,rfl,s1 _ _ ev,no _ (by decide+kernel),v,rfl,rfl,hk,hv1,i1,fun H2 l2 rs i2 f2 hl2 e2 rr=> ?_⟩
  have hn:=hv.num.1
  have f02:=(bG.of s1).trans f2
  have fl2:=I.new i1 hl2
  refine⟨l2,rfl,⟨_,aI.of e2⟩,fun D hD=> ?_⟩
  refine rS (K:=K) (a:=l2) (xs:=rs) (fun i ys H3=>X.Inv H3/\bG X.Free H2 H3/\ys.length=i/\bT K H3 ys ((List.range i).map (v.val X.M c))) ⟨I.same i2 (aE.new hD),bG.of (aE.new hD),rfl,.nil⟩ (by rintro i ys H3 _ ⟨_,f3,_⟩;exact aI.of (f3.k _ _ fl2 (fun _ y=>by cases y) e2)) ?_ ?_
  ·rintro i r ys H3 hr3 h3 ⟨i3,f3,l3,pv⟩
   have hi:i<rs.length:=(List.getElem?_eq_some_iff.mp hr3).1
   have hi':i<v.num X.M:=by rw[<- rr.1];exact hi
   obtain⟨r',h1,h4⟩:=rr.2 i hi'
   rw[h1]at hr3
   obtain rfl:=Option.some.inj hr3
   have hv3:=hv.fr (f02.trans f3)
   obtain⟨dv3,fs3,ev3,no3⟩:=hv3.ins
   refine⟨_,rfl,_,_,v.a,dv3,fs3,RD.at v,rfl,ev3,no3 _ (by decide+kernel),_,rfl,_,rfl,v,c,r',i,rfl,rfl,hk,hv3,i3,hc,VC.Row.fr f3 h4,fun H4 y i4 f4 py=> ?_⟩
   have h4D:=f4.k _ _ (I.new i2 hD) (fun _ y=>by cases y) h3
   have kt5:bQ H4 (upd H4 D (.lst (ys++ [y]))):=fun b xs eb=>by
    rw[aF (fun z=>by rw[z,h4D]at eb;cases eb)]
    exact eb
   refine⟨h4D,cK (by omega),I.on i2 hD i4,(f3.trans f4).on hD,by rw[List.length_append,l3];rfl,?_⟩
   rw[List.range_succ,List.map_append]
   exact bT.snoc (py.keep kt5) ((pv.keep f4.kt).keep kt5)
  ·rintro ys H3 h3 ⟨i3,f3,l3,pv⟩
   rw[rr.1]at pv
   exact q H3 D ys i3 (f02.trans f3) (f02.back hD) h3 pv
def spSp(X:VC)(n:Nat):Sp:=fun vs H Q _=>∃(v:VW) (c:Str) (p:Nat),vs= [.ref v.a,.str c,.int (p:Int)] /\v.rk<=n/\X.At H v/\X.Inv H/\c∈v.cols X.M/\p<v.num X.M/\∀H' l t,X.Inv H'->bG X.Free H H'->H l=none->H' l=some (.lst [.ref t])->H' t=some (.tup [.str (v.spot X.M p).2.1,.str c,.int ((v.spot X.M p).2.2:Int)])->Q (.ref l) H'
theorem b0x:aW ["self","column","place"] ["self","column","place"] (aB iC):=⟨rfl,rfl,rfl,by decide+kernel,rfl,by decide+kernel,by decide+kernel⟩
theorem iQ(T:bA K mg){CS:Addr}{dc:Nat}{X:VC}(I:SI P w K mg base CS dc X)(Z:VT K mg X){n:Nat}(N:fK P w K mg base dc X n)(k:Nat):aN P w K mg base aC (4+ n+ 1+ 1) (X.cls k) "spots" ["self","column","place"] (spSp X n):=by
 have GA:∀k,k<3->aN P w K mg base aC (4+ n+ 1) (X.cls k) "asked_row" ["self","column","place"] (sG X n):=fun k _=>a8o T I Z N k
 have GT:aN P w K mg base aC 1 X.CO "told" ["self"] (a87 X.CO):=nV T Z.O
 refine(Z.g k).spots.known b0x (fun _ _ _ _ _ _ us hl=>cN (fun _ _ _=>rfl) us hl) (fun vs H Q E h=> ?_) (fun f cdv A outer s H vs Q E hr h=> ?_)
 ·obtain⟨v,c,p,rfl,_⟩:=h
  rfl
 ·obtain⟨v,c,p,rfl,hk,hv,hI,hc,hp,q⟩:=h
  refine⟨_,(aL (bH (jN a57 rfl rfl (by decide) (gG (gA (pv 0) (RD.k Z N.sa) (hr.mono (by omega)) aM (aA (pv 1) (aA (gA (R:=RD X fun _=>sG X n) (pv 0) (RD.k Z GA) hr aM (aA (pv 1) (aA (pv 2) aD))) aD)))) (fun _ _ _ _ _=>kH) (fun _ _ _ _ _=>(iX (pv 0) Z.O.cl GT (hr.mono (by omega)) aM))))),?_⟩
  obtain⟨dv,fs,ev,no⟩:=hv.ins
  refine⟨_,rfl,_,_,v.a,dv,fs,RD.at v,rfl,ev,no _ (by decide+kernel),_,rfl,_,rfl,_,_,v.a,dv,fs,RD.at v,rfl,ev,no _ (by decide+kernel),_,rfl,_,rfl,v,c,p,rfl,hk,hv,hI,hc,hp,fun H1 r i1 f1 hr1=> ?_⟩
  refine⟨v,c,r,p,rfl,rfl,hk,hv.fr f1,i1,hr1,fun H2 l2 o d2 s2 hl2 e2 o2=> ?_⟩
  have i2:=I.same i1 s2
  have f2:=f1.trans (bG.of s2)
  refine⟨l2,rfl,⟨_,aI.of e2⟩,fun D hD=> ?_⟩
  refine rS (K:=K) (a:=l2) (xs:=[.ref o]) (fun i ys H3=>aE H2 H3/\ys.length=i/\(0<i->∃t,ys= [.ref t] /\H3 t=some (.tup [.str (v.spot X.M p).2.1,.str c,.int ((v.spot X.M p).2.2:Int)]))) ⟨aE.new hD,rfl,fun h=>absurd h (by decide)⟩ (by rintro i ys H3 _ ⟨s3,_⟩;exact aI.of (s3 _ _ e2)) ?_ ?_
  ·rintro i z ys H3 hz h3 ⟨s3,l3,_⟩
   have hi:i<1:=(List.getElem?_eq_some_iff.mp hz).1
   obtain rfl:i=0:=by omega
   obtain rfl:=Option.some.inj hz
   refine⟨_,rfl,o,d2,_,rfl,s3 _ _ o2,(a7U _ _ _ _).2.2.2,o,d2,_,_,_,_,rfl,s3 _ _ o2,fun t ht=> ?_⟩
   have s4:=aE.new (o:=.tup [.str (v.spot X.M p).2.1,.str c,.int ((v.spot X.M p).2.2:Int)]) ht
   have t4:upd H3 t (.tup [.str (v.spot X.M p).2.1,.str c,.int ((v.spot X.M p).2.2:Int)]) t=some (.tup [.str (v.spot X.M p).2.1,.str c,.int ((v.spot X.M p).2.2:Int)]):=aH
   generalize upd H3 t (.tup [.str (v.spot X.M p).2.1,.str c,.int ((v.spot X.M p).2.2:Int)])=H4 at s4 t4|-
   have h4:=s4 _ _ h3
   have e0:ys= []:=List.length_eq_zero_iff.mp l3
   subst e0
   refine⟨h4,cK (by decide),(s3.trans s4).on hD,rfl,fun _=>⟨t,rfl,?_⟩⟩
   rw[aF (fun y=>by rw[y,h4]at t4;cases t4)]
   exact t4
  ·rintro ys H3 h3 ⟨s3,l3,ok⟩
   obtain⟨t,rfl,t3⟩:=ok (show 0<1 by decide)
   exact q H3 D t (I.same i2 s3) (f2.trans (bG.of s3)) (f2.back hD) h3 t3
end
def gS(Ks:List Ky)(kvs:List (Ky×V)):Prop:=(kvs.map (·.1)).Nodup/\∀k∈kvs.map (·.1),k∈Ks
theorem a77{α:Type} [DecidableEq α]:∀{l m:List α},l.Nodup->(∀x∈l,x∈m)->l.length<=m.length
 | [],_,_,_=>Nat.zero_le _
 |x::r,m,h,hs=>by
  rw[List.nodup_cons]at h
  have hx:=hs x List.mem_cons_self
  have:=a77 (l:=r) (m:=m.erase x) h.2 fun y hy=>(List.mem_erase_of_ne (fun e=>by rw[e]at hy;exact h.1 hy)).mpr (hs y (List.mem_cons_of_mem _ hy))
  rw[List.length_erase_of_mem hx]at this
  have:0<m.length:=List.length_pos_of_mem hx
  rw[List.length_cons]
  omega
theorem gS.len{Ks:List Ky}{kvs:List (Ky×V)}(h:gS Ks kvs):kvs.length<=Ks.length:=by
 have:=a77 h.1 h.2
 rwa [List.length_map]at this
theorem gS.nil{Ks:List Ky}:gS Ks []:=⟨List.nodup_nil,fun k hk=>by cases hk⟩
theorem a9T{kvs:List (Ky×V)}{k:Ky}{v x:V}(h:aZ kvs k=some x):(bJ kvs k v).map (·.1)=kvs.map (·.1):=by
 unfold bJ
 rw[kA,h,if_pos (show(some x).isSome=true from rfl),List.map_map]
 refine List.map_congr_left fun p _=> ?_
 show(if p.1=k then _ else _:Ky×V).1=p.1
 split<;>rfl
theorem gS.put{Ks:List Ky}{kvs:List (Ky×V)}{k:Ky}{v:V}(h:gS Ks kvs)(hk:k∈Ks):gS Ks (bJ kvs k v):=by
 cases e:aZ kvs k with
 |some x=>unfold gS;rw[a9T e];exact h
 |none=>
  refine⟨b1b v h.1 e,fun k' hk'=> ?_⟩
  rw[a71 v e,List.map_append]at hk'
  rcases List.mem_append.mp hk' with hk'|hk'
  ·exact h.2 k' hk'
  ·rw[List.mem_singleton.mp hk']
   exact hk
theorem b1w{t t' c c':Str}{p p':Nat}(h:bV t c p=bV t' c' p'):t=t'/\c=c'/\p=p':=by
 unfold bV at h
 simp only[List.cons.injEq,Sum.inr.injEq,Sum.inl.injEq,and_true]at h
 exact⟨h.1,h.2.1,by omega⟩
theorem bT.at{K:Fg}{H:Hp}:∀{xs:List V} {ds:List PyData} {i:Nat},bT K H xs ds->i<ds.length->∃v d,xs[i]?=some v/\ds[i]?=some d/\Pv K H v d
 |_,_,_,.nil,h=>absurd h (Nat.not_lt_zero _)
 |_,_,0,.cons h _,_=>⟨_,_,rfl,rfl,h⟩
 |_,_,i+ 1,.cons _ t,h=>by simpa using bT.at t (Nat.lt_of_succ_lt_succ h)
theorem a0F{α β:Type}{f:α->List β}{b:Nat}:∀{l:List α},(∀x∈l,(f x).length<=b)->(l.flatMap f).length<=l.length* b
 | [],_=>by simp
 |x::r,h=>by
  have h1:=h x List.mem_cons_self
  have h2:=a0F (l:=r) (f:=f) fun y hy=>h y (List.mem_cons_of_mem _ hy)
  rw[List.flatMap_cons,List.length_append,List.length_cons,Nat.succ_mul]
  omega
structure GSt(K:Fg)(CS CF CB CT:Addr)(Hz:Hp)(s bd ch fi fd lk:Addr)(kb:List (aG×V))(names:List Str)(tab:Str->Option BM)(dv:Str->Str->List PyData):Prop where
 sh:∃dx,Hz s=some (.ins CS dx (cM bd ch fi))
 bds:Hz bd=some (.dK kb)
 fin:∃df,Hz fi=some (.ins CF df (eT bd fd lk))
 fdn:Hz fd=none
 n3:names.length<=3
 tn:∀t B,tab t=some B->t∈names
 tb:∀t B,tab t=some B->Nl t/\aZ kb (.inr t:aG)=some (.ref B.b)/\cE CB CT Hz B/\B.rus= [] /\B.xs.length<=30/\B.ord.length<=8
 co:∀t B,tab t=some B->∀c∈B.ord,Nl c/\∃l ys,aZ B.kvs (.inr c:aG)=some (.ref l)/\Hz l=some (.lst ys)/\ys.length=B.xs.length/\bT K Hz ys (dv t c)
noncomputable def mW (names:List Str) (tab:Str->Option BM):List Ky:=names.flatMap fun t=>match tab t with
 |some B=>B.ord.flatMap fun c=>(List.range B.xs.length).map fun p=>bV t c p
 |none=> []
def uE(CF:Addr)(Hz:Hp)(fd:Addr)(names:List Str)(tab:Str->Option BM)(H:Hp):Prop:=aE Hz H/\∃kf,H fd=some (.dT kf)/\gS (mW names tab) kf/\∀t B c l ys p v,tab t=some B->aZ B.kvs (.inr c:aG)=some (.ref l)->Hz l=some (.lst ys)->aZ kf (bV t c p)=some v->cT ys (p:Int)=some v
noncomputable def MG (s:Addr) (tab:Str->Option BM) (dv:Str->Str->List PyData):SM where
 ok:=fun s' t=>s'=s/\(tab t).isSome=true
 cols:=fun _ t=>match tab t with
  |some B=>B.ord
  |none=> []
 many:=fun _ t=>match tab t with
  |some B=>B.xs.length
  |none=>0
 val:=fun _ t c p=>(dv t c).getD p .none
section
variable{P:Program}{w:World}{K:Fg}{mg:Str->Option Value}{base:Heap}
theorem b3a(T:bA K mg){CS CF CB CT CW CU CJ CO:Addr}(Y:dU K mg CS)(F:fO K mg CF)(Wb:cV K mg CB)(U:cX K mg CT){Hz:Hp}{s bd ch fi fd lk:Addr}{kb:List (aG×V)}{names:List Str}{tab:Str->Option BM}{dv:Str->Str->List PyData}(S:GSt K CS CF CB CT Hz s bd ch fi fd lk kb names tab dv):
 SI P w K mg base CS 7 ⟨MG s tab dv,fun x=>x≠fd,uE CF Hz fd names tab,CW,CU,CJ,CO⟩:=by
 have kslen:(mW names tab).length<=720:=by
  have:(mW names tab).length<=names.length* 240:=a0F fun t ht=>by
   split
   ·next B e=>
    obtain⟨_,_,_,_,x1,x2⟩:=S.tb t B e
    have:(B.ord.flatMap fun c=>(List.range B.xs.length).map fun p=>bV t c p).length<=B.ord.length* 30:=a0F fun c hc=>by rw[List.length_map,List.length_range];exact x1
    omega
   ·simp
  have:=S.n3
  omega
 have same:∀{H H':Hp},uE CF Hz fd names tab H->aE H H'->uE CF Hz fd names tab H':=fun⟨h1,kf,h2,h3,h4⟩ s1=>⟨h1.trans s1,kf,s1 _ _ h2,h3,h4⟩
 refine⟨same,fun⟨_,kf,h2,_⟩ hx y=> ?_,fun{H H2 l o} ⟨a1,ka,a2,_⟩ hl ⟨h1,kf,h2,h3,h4⟩=> ?_,fun hI ok=> ?_,⟨_,mI T Y Wb U,fun{H s' nm Q} hI ok q=> ?_⟩,⟨_,mV (CT:=CT) T Y Wb,fun{H s' nm Q} hI ok q=> ?_⟩,⟨_,qL T Y F Wb U (by decide) (b2F T F b2a (b3K T F Wb U)),fun{H s' nm c p Q} hI ok hc hp q=> ?_⟩⟩
 ·rw[y,h2]at hx
  cases hx
 ·refine⟨fun x o' e=> ?_,kf,?_,h3,h4⟩
  ·rw[aF (fun y=>by have:=a1 _ _ e;rw[y,hl]at this;cases this)]
   exact h1 _ _ e
  ·rw[aF (fun y=>by rw[y,hl]at a2;cases a2)]
   exact h2
 ·obtain⟨rfl,_⟩:=ok
  obtain⟨dx,e⟩:=S.sh
  exact⟨dx,bd,ch,fi,hI.1 _ _ e⟩
 ·obtain⟨rfl,ht⟩:=ok
  obtain⟨B,eB⟩:=Option.isSome_iff_exists.mp ht
  obtain⟨n1,n2,n3,n4,n5,n6⟩:=S.tb nm B eB
  obtain⟨dx,e⟩:=S.sh
  refine⟨s',bd,ch,fi,dx,kb,nm,B,rfl,hI.1 _ _ e,hI.1 _ _ S.bds,n1,n2,n3.same hI.1,fun H' s1=> ?_⟩
  have:=q H' s1
  simp only[MG,eB]at this
  exact this
 ·obtain⟨rfl,ht⟩:=ok
  obtain⟨B,eB⟩:=Option.isSome_iff_exists.mp ht
  obtain⟨n1,n2,n3,n4,n5,n6⟩:=S.tb nm B eB
  obtain⟨dx,e⟩:=S.sh
  refine⟨s',bd,ch,fi,dx,kb,nm,B,rfl,hI.1 _ _ e,hI.1 _ _ S.bds,n1,n2,n3.same hI.1,fun H' l s1 hl e1=> ?_⟩
  have:=q H' l s1 hl
  simp only[MG,eB]at this
  exact this e1
 ·obtain⟨rfl,ht⟩:=ok
  obtain⟨B,eB⟩:=Option.isSome_iff_exists.mp ht
  obtain⟨n1,n2,n3,n4,n5,n6⟩:=S.tb nm B eB
  obtain⟨dx,e⟩:=S.sh
  obtain⟨df,ef⟩:=S.fin
  have hc:c∈B.ord:=by simpa only[MG,eB] using hc
  have hp:p<B.xs.length:=by simpa only[MG,eB] using hp
  obtain⟨nc,l,ys,kv,hl,ly,py⟩:=S.co nm B eB c hc
  obtain⟨h1,kf,h2,h3,h4⟩:=hI
  have hB:=n3.same h1
  have ld:ys.length=(dv nm c).length:=Paired.length py
  obtain⟨v,x,g1,g2,g3⟩:=bT.at py (i:=p) (by omega)
  have ha:cT ys (p:Int)=some v:=fZ g1
  have kin:bV nm c p∈mW names tab:=by
   unfold mW
   refine List.mem_flatMap.mpr ⟨nm,S.tn nm B eB,?_⟩
   simp only[eB]
   exact List.mem_flatMap.mpr ⟨c,hc,List.mem_map.mpr ⟨p,List.mem_range.mpr hp,rfl⟩⟩
  have k9:=h3.len
  refine b18 (fd:=fd) (lk:=lk) (kf:=kf) (l:=l) (ys:=ys) (v:=v) (B:=B) ⟨⟨df,h1 _ _ ef⟩,⟨kb,h1 _ _ S.bds,n2⟩,hB,h2,by omega⟩ ⟨⟨dx,h1 _ _ e⟩,h1 _ _ S.bds,n1,n2,hB⟩ nc hc (by rw[n4];rfl) kv (h1 _ _ hl) hp ha (fun v' e'=> ?_) (by omega) fun H' kf' hk' hf' b'=> ?_
  ·have:=h4 nm B c l ys p v' eB kv hl e'
   rw[ha]at this
   exact(Option.some.inj this).symm
  ·have sz:aE Hz H':=fun x o ex=>b' _ _ (fun y=>by rw[y,S.fdn]at ex;cases ex) (h1 _ _ ex)
   refine q H' v ⟨sz,kf',hf',?_,?_⟩ ⟨fun x o fx nd ex=>b' _ _ fx ex,fun x hx ex=> ?_,fun x xs ex=>b' _ _ (fun y=>by rw[y,h2]at ex;cases ex) ex⟩ ?_
   ·rcases hk' with rfl|rfl
    ·exact h3
    ·exact h3.put kin
   ·intro t B' c' l' ys' p' v' et ek el ev
    rcases hk' with rfl|rfl
    ·exact h4 t B' c' l' ys' p' v' et ek el ev
    ·rw[lS]at ev
     by_cases h:bV t c' p'=bV nm c p
     ·rw[if_pos h]at ev
      obtain⟨rfl,rfl,rfl⟩:=b1w h
      rw[eB]at et
      obtain rfl:=Option.some.inj et
      rw[kv]at ek
      obtain rfl:=V.ref.inj (Option.some.inj ek)
      rw[hl]at el
      cases el
      obtain rfl:=Option.some.inj ev
      exact ha
     ·rw[if_neg h]at ev
      exact h4 t B' c' l' ys' p' v' et ek el ev
   ·by_cases y:x=fd
    ·rw[y,hf']at ex;cases ex
    ·cases e2:H x with
     |none=>exact hx e2
     |some o=>rw[b' x o y e2]at ex;cases ex
   ·have kt:bQ Hz H':=bQ.of sz
    show Pv K H' v ((dv nm c).getD p .none)
    rw[List.getD_eq_getElem?_getD,g2]
    exact g3.keep kt
def spWI(X:VC):Sp:=fun vs H Q _=>∃(p dx s:Addr) (nm:Str),vs= [.ref p,.ref s,.str nm] /\H p=some (.ins X.CW dx [])/\X.Inv H/\X.M.ok s nm/\∀H',bE p H H'->H' p=some (.ins X.CW dx (iW s nm))->Q .non H'
theorem a8x:aW ["self","sheet","table"] ["self","sheet","table"] (aB nH):=⟨rfl,rfl,rfl,by decide+kernel,rfl,by decide+kernel,by decide+kernel⟩
theorem uS{CS:Addr}{dc:Nat}{X:VC}(I:SI P w K mg base CS dc X)(cl:bS K CS)(Z:VT K mg X):cI P w K mg base aC 4 X.CW ["self","sheet","table"] (spWI X):=by
 obtain⟨sp,G,use⟩:=I.many
 refine(Z.W.m_init.known a8x (fun _ _ _ _ _ _ us hl=>cN (fun _ _ _=>rfl) us hl) (fun vs H Q E h=> ?_) (fun f cdv A outer s H vs Q E hr h=> ?_)).init Z.W.mks Z.W.kc
 ·obtain⟨p,dx,s',nm,rfl,_⟩:=h
  rfl
 ·obtain⟨p,dx,s',nm,rfl,hp,hI,ok,q⟩:=h
  refine⟨_,(aK (bX (cH (pv 1) cl G hr aM (aA (pv 2) aD)))
   (aK (bR (pv 0) (pv 1) rfl)
   (aL (bR (pv 0) (pv 2) rfl)))),?_⟩
  obtain⟨ds,bd,ch,fi,hs'⟩:=I.at_ hI ok
  refine⟨_,rfl,s',ds,_,rfl,hs',eO,_,rfl,use hI ok fun H1 s1=> ?_⟩
  refine⟨_,rfl,_,rfl,p,X.CW,dx,[],rfl,s1 _ _ hp,Z.W.cl,Z.W.n_sheet,by decide,?_⟩
  refine⟨_,rfl,_,rfl,p,X.CW,dx,_,rfl,aH,Z.W.cl,Z.W.n_name,(show 1<1000 by decide),?_⟩
  exact q _ (((bE.of s1).trans bE.upd).trans bE.upd) aH
def spUI(C:Addr):Sp:=fun vs H Q _=>∃(p dx v:Addr) (i n:Nat),vs= [.ref p,.ref v,.int (i:Int),.int (n:Int)] /\H p=some (.ins C dx [])/\∀H',bE p H H'->H' p=some (.ins C dx (jP v i n))->Q .non H'
theorem b3Y:aW ["self","view","start","count"] ["self","view","start","count"] (aB rV):=⟨rfl,rfl,rfl,by decide+kernel,rfl,by decide+kernel,by decide+kernel⟩
theorem pX(T:bA K mg){C:Addr}(Y:mU K mg C):cI P w K mg base aC 3 C ["self","view","start","count"] (spUI C):=by
 have G_cnt:bK P w K mg base aC 2 "check_count" ["count"] a81:=sN T
 refine(Y.m_init.known b3Y (fun _ _ _ _ _ _ us hl=>jR (fun _ _ _ _=>rfl) us hl) (fun vs H Q E h=> ?_) (fun f cdv A outer s H vs Q E hr h=> ?_)).init Y.mks Y.kc
 ·obtain⟨p,dx,v,i,n,rfl,_⟩:=h
  rfl
 ·obtain⟨p,dx,v,i,n,rfl,hp,q⟩:=h
  refine⟨_,(aK (bX (bP G_cnt hr aM (aA (pv 2) aD)))
   (aK (bX (bP G_cnt hr aM (aA (pv 3) aD)))
   (aK (bR (pv 0) (pv 1) rfl)
   (aK (bR (pv 0) (pv 2) rfl)
   (aL (bR (pv 0) (pv 3) rfl)))))),?_⟩
  refine⟨_,rfl,i,rfl,_,rfl,n,rfl,?_⟩
  refine⟨_,rfl,_,rfl,p,C,dx,[],rfl,hp,Y.cl,Y.n_view,by decide,?_⟩
  refine⟨_,rfl,_,rfl,p,C,dx,_,rfl,aH,Y.cl,Y.n_start,(show 1<1000 by decide),?_⟩
  refine⟨_,rfl,_,rfl,p,C,dx,_,rfl,aH,Y.cl,Y.n_count,(show 2<1000 by decide),?_⟩
  exact q _ ((bE.trans bE.upd bE.upd).trans bE.upd) aH
def spJI(C:Addr):Sp:=fun vs H Q _=>∃(p dx x y:Addr),vs= [.ref p,.ref x,.ref y] /\H p=some (.ins C dx [])/\∀H',bE p H H'->H' p=some (.ins C dx (qU x y))->Q .non H'
theorem a9h:aW ["self","one","other"] ["self","one","other"] (aB mZ):=⟨rfl,rfl,rfl,by decide+kernel,rfl,by decide+kernel,by decide+kernel⟩
theorem pU(T:bA K mg){C:Addr}(Y:lY K mg C):cI P w K mg base aC 1 C ["self","one","other"] (spJI C):=by
 refine(Y.m_init.known a9h (fun _ _ _ _ _ _ us hl=>cN (fun _ _ _=>rfl) us hl) (fun vs H Q E h=> ?_) (fun f cdv A outer s H vs Q E hr h=> ?_)).init Y.mks Y.kc
 ·obtain⟨p,dx,x,y,rfl,_⟩:=h
  rfl
 ·obtain⟨p,dx,x,y,rfl,hp,q⟩:=h
  refine⟨_,(aK (bR (pv 0) (pv 1) rfl)
   (aL (bR (pv 0) (pv 2) rfl))),?_⟩
  refine⟨_,rfl,_,rfl,p,C,dx,[],rfl,hp,Y.cl,Y.n_one,by decide,?_⟩
  refine⟨_,rfl,_,rfl,p,C,dx,_,rfl,aH,Y.cl,Y.n_other,(show 1<1000 by decide),?_⟩
  exact q _ (bE.trans bE.upd bE.upd) aH
end
theorem a8q:∀{ds:List PyData},(∀d∈ds,PyData.eqv d d=true)->PyData.eqvAll ds ds=true
 | [],_=>by simp[PyData.eqvAll]
 |d::ds,h=>by
  simp only[PyData.eqvAll,Bool.and_eq_true]
  exact⟨h d List.mem_cons_self,a8q fun x hx=>h x (List.mem_cons_of_mem _ hx)⟩
theorem a76{ds:List PyData}(h:∀d∈ds,PyData.eqv d d=true):PyData.eqv (.list ds) (.list ds)=true:=by
 have:=a8q h
 simp only[PyData.eqv]
 exact this
theorem a7d{ds:List PyData}{n:Nat}(h:∀d∈ds,d.canLay0=true/\d.depth<=n):(PyData.list ds).canLay0=true/\(PyData.list ds).depth<=n+ 1:=by
 have:PyData.canLayAll0 ds=true/\PyData.depthAll ds<=n:=by
  induction ds with
  |nil=>exact⟨rfl,Nat.zero_le _⟩
  |cons d ds ih=>
   obtain⟨h1,h2⟩:=ih fun x hx=>h x (List.mem_cons_of_mem _ hx)
   obtain⟨g1,g2⟩:=h d List.mem_cons_self
   refine⟨?_,?_⟩
   ·show(d.canLay0&&PyData.canLayAll0 ds)=true
    rw[g1,h1]
    rfl
   ·show max d.depth (PyData.depthAll ds)<=n
    omega
 exact⟨this.1,Nat.succ_le_succ this.2⟩
theorem Vd.eqv{d:PyData}(h:Vd d):PyData.eqv d d=true:=by
 rcases h with⟨i,rfl,_⟩|⟨y,rfl,_⟩<;>simp[PyData.eqv,PyData.eqvAll]
theorem b2l{ds:List PyData}(h:∀d∈ds,Vd d):(PyData.list ds).canLay0=true/\(PyData.list ds).depth<=64/\PyData.eqv (.list ds) (.list ds)=true:=by
 obtain⟨a,b⟩:=a7d (n:=62) fun d hd=>(h d hd).lay
 exact⟨a,Nat.le_trans b (by decide),a76 fun d hd=>(h d hd).eqv⟩
theorem b0K{cs:List Str}(h:∀c∈cs,Nl c):(PyData.list (cs.map PyData.str)).canLay0=true/\(PyData.list (cs.map PyData.str)).depth<=64/\PyData.eqv (.list (cs.map PyData.str)) (.list (cs.map PyData.str))=true:=by
 obtain⟨a,b⟩:=a7d (n:=0) (ds:=cs.map PyData.str) fun d hd=>by
  obtain⟨c,hc,rfl⟩:=List.mem_map.mp hd
  exact⟨(h c hc).lay,Nat.le_refl 0⟩
 refine⟨a,Nat.le_trans b (by decide),a76 fun d hd=> ?_⟩
 obtain⟨c,hc,rfl⟩:=List.mem_map.mp hd
 simp[PyData.eqv]
theorem b1a{nm c:Str}(hn:Nl nm)(hc:Nl c)(p:Int):(PyData.list [.tuple [.str nm,.str c,.int p]]).canLay0=true/\(PyData.list [.tuple [.str nm,.str c,.int p]]).depth<=64/\PyData.eqv (.list [.tuple [.str nm,.str c,.int p]]) (.list [.tuple [.str nm,.str c,.int p]])=true:=by
 have l1:=hn.lay
 have l2:=hc.lay
 refine⟨?_,?_,?_⟩
 ·show(((PyData.canLay0 (.str nm))&&((PyData.canLay0 (.str c))&&(true&&true)))&&true)=true
  rw[l1,l2]
  rfl
 ·exact(show 2<=64 by decide)
 ·simp[PyData.eqv,PyData.eqvAll]
def VC.Dat(K:Fg)(X:VC)(H:Hp)(v:VW)(L:Addr):Prop:=X.Free L/\∃ds:List V,H L=some (.lst ds)/\ds.length=v.num X.M/\∀p,p<v.num X.M->∃d kvs,ds[p]?=some (.ref d)/\X.Free d/\H d=some (.dK kvs)/\∀c∈v.cols X.M,∃t y l t3,aZ kvs (.inr c:aG)=some (.ref t)/\H t=some (.tup [y,.ref l])/\X.Free l/\H l=some (.lst [.ref t3])/\H t3=some (.tup [.str (v.spot X.M p).2.1,.str c,.int ((v.spot X.M p).2.2:Int)])/\Pv K H y (v.val X.M c p)/\Nl (v.spot X.M p).2.1
theorem VC.Dat.fr{K:Fg}{X:VC}{H H':Hp}{v:VW}{L:Addr}(u:bG X.Free H H')(h:X.Dat K H v L):X.Dat K H' v L:=by
 obtain⟨fL,ds,e,l,ok⟩:=h
 refine⟨fL,ds,u.k _ _ fL (fun _ y=>by cases y) e,l,fun p hp=> ?_⟩
 obtain⟨d,kvs,a1,a2,a3,a4⟩:=ok p hp
 refine⟨d,kvs,a1,a2,u.k _ _ a2 (fun _ y=>by cases y) a3,fun c hc=> ?_⟩
 obtain⟨t,y,l,t3,b1,b2,b3,b4,b5,b6,b7⟩:=a4 c hc
 exact⟨t,y,l,t3,b1,u.kt _ _ b2,b3,u.k _ _ b3 (fun _ y=>by cases y) b4,u.kt _ _ b5,b6.keep u.kt,b7⟩
section
variable{P:Program}{w:World}{K:Fg}{mg:Str->Option Value}{base:Heap}
def spCk(K:Fg)(X:VC)(n:Nat):Sp:=fun vs H Q _=>∃(v:VW) (lc L:Addr),vs= [.ref v.a,.ref lc,.ref L] /\v.rk<=n/\X.At H v/\X.Inv H/\X.Free lc/\H lc=some (.lst ((v.cols X.M).map V.str))/\(∀c∈v.cols X.M,Nl c)/\X.Dat K H v L/\∀H',X.Inv H'->bG X.Free H H'->Q (.bl true) H'
abbrev tH:List Str:=["_law_view","_law_columns","_law_rows_here","_law_column","_law_shown","_law_k"]
theorem uH:aW tH ["_law_view","_law_columns","_law_rows_here"] (aB iP):=⟨rfl,rfl,rfl,by decide+kernel,rfl,by decide+kernel,by decide+kernel⟩
def a66(P:Program)(w:World)(K:Fg)(mg:Str->Option Value)(base:Heap)(CS:Addr)(dc n:Nat):Sp:=fun vs H Q E=>∃X:VC,SI P w K mg base CS dc X/\VT K mg X/\spCk K X n vs H Q E
theorem qS(T:bA K mg){CS:Addr}{dc:Nat}(hd:4<=dc)(cl:bS K CS)(n:Nat):bK P w K mg base aC (dc+ 1+ n+ 1+ 1) "_law_checked" ["_law_view","_law_columns","_law_rows_here"] (a66 P w K mg base CS dc n):=by
 refine T.d_law_checked.known uH (fun _ _ _ _ _ _ us hl=>cN (fun _ _ _=>rfl) us hl) (fun vs H Q E h=> ?_) (fun f cdv A outer s H vs Q E hr h=> ?_)
 ·obtain⟨X,_,_,v,lc,L,rfl,_⟩:=h
  rfl
 ·obtain⟨X,I,Z,v,lc,L,rfl,hk,hv,hI,fc,hlc,nc,hD,q⟩:=h
  have N:=vk3 T I cl Z n
  have GM:∀k,k<3->aN P w K mg base aC (4+ n+ 1) (X.cls k) "many" ["self"] (spMv X n):=fun k _=>iS T Z N k
  have GS:∀k,k<3->aN P w K mg base aC (dc+ 1+ n+ 1) (X.cls k) "shown" ["self","column"] (spSh K X n):=fun k _=>iZ T hd I Z N k
  have GL:∀k,k<3->aN P w K mg base aC (dc+ 1+ n+ 1) (X.cls k) "look" ["self","column","place"] (spLo K X n):=fun k _=>jC T hd I Z N k
  have GP:∀k,k<3->aN P w K mg base aC (4+ n+ 1+ 1) (X.cls k) "spots" ["self","column","place"] (spSp X n):=fun k _=>iQ T I Z N k
  have hu:=fJ hr
  have hcl:∀x,(dI aC P w K mg base tH "_law_checked" (aB iP) f cdv A outer s H E).nox.env.scope.names.lookup x=some .cell->∃c,(dI aC P w K mg base tH "_law_checked" (aB iP) f cdv A outer s H E).nox.env.cells.lookup x=some c:=fun x hx=>Option.isSome_iff_exists.mp (PySem.W.cellsFrom_some _ _ _ (.inl hx))
  refine⟨_,(aK (bY (PW.pt (fE (cW (uL hr.units) (fV (pv 0) (RD.k Z N.co) (hr.mono (by omega)) aM) (pv 1) (dW _)) (fP (cW zR (fV (R:=RD X fun _=>spMv X n) (pv 0) (RD.k Z GM) (hr.mono (by omega)) aM) (cF fW rfl T.len eQ (aA (pv 2) aD)) (dW _))))) (aL (bH iR)) cB)
   (aK (jD PassesOwn.never rfl (gG (pv 1)) (gI (i:=3) uH.nd rfl (by first|exact Or.inl rfl|exact Or.inr rfl)) (aK (bW (i:=4) uH.nd rfl (by first|exact Or.inl rfl|exact Or.inr rfl) (gA (R:=RD X fun _=>spSh K X n) (pv 0) (RD.k Z GS) hr aM (aA (pv 3) aD)))
   (aK (bY (PW.pt (fE (dF (dG (cF jF rfl T.isinstance iD (aA (pv 4) (aA (iB T.list jH) aD))) (fun _=>rfl))) (fP (cW (uL hr.units) (pv 4) (jN (te:=jI (rIxT K) (a8l (eS 0) (eS 1)) (tC (.int 0))) (lE (sc:=aB iP) (N:=tH) (cp:=[(3,"_law_column")]) hcl) rfl rfl (by decide) (gG (pv 2)) (fun _ _ _ _ _=>kH) (fun _ _ _ _ _=>(bM fI (jQ hu (pv 0) (pv 1) (fun _ _=>rfl)) aS (fun _ _=>rfl)))) (dW _))))) (aL (bH iR)) cB)
   (aL (jD PassesOwn.never rfl (qV rfl T.range (aA (cF fW rfl T.len eQ (aA (pv 2) aD)) aD)) (gI (i:=5) uH.nd rfl (by first|exact Or.inl rfl|exact Or.inr rfl)) (aL (bY (PW.pt (fE (cW (uL hr.units) (gA (R:=RD X fun _=>spLo K X n) (pv 0) (RD.k Z GL) hr aM (aA (pv 3) (aA (pv 5) aD))) (bM fI (jQ hu (bM cC (pv 2) (pv 5) (fun _ _=>rfl)) (pv 3) (fun _ _=>rfl)) aS (fun _ _=>rfl)) (dW _)) (fP (cW (uL hr.units) (gA (R:=RD X fun _=>spSp X n) (pv 0) (RD.k Z GP) (hr.mono (by omega)) aM (aA (pv 3) (aA (pv 5) aD))) (bM fI (jQ hu (bM cC (pv 2) (pv 5) (fun _ _=>rfl)) (pv 3) (fun _ _=>rfl)) aS (fun _ _=>rfl)) (dW _))))) (aL (bH iR)) cB)))))))
   (aL (bH iR)))),?_⟩
  obtain⟨dv,fs,ev,no⟩:=hv.ins
  obtain⟨sl1,sl2,sl3⟩:=b0K nc
  have hn:=hv.num.1
  refine⟨_,rfl,_,_,v.a,dv,fs,RD.at v,rfl,ev,no _ (by decide+kernel),v,rfl,rfl,hk,hv,hI,fun H1 l1 s1 hl1 e1=> ?_⟩
  refine⟨_,rfl,_,_,.lst (aI.of e1) (a5o _),.lst (aI.of (s1 _ _ hlc)) (a5o _),sl1,sl1,sl2,_,rfl,?_⟩
  rw[sl3]
  have f1:bG X.Free H H1:=bG.of s1
  have i1:=I.same hI s1
  have hv1:=hv.fr f1
  refine bL ⟨_,rfl,_,_,v.a,dv,fs,RD.at v,rfl,s1 _ _ ev,no _ (by decide+kernel),v,rfl,hk,hv1,i1,fun H2 i2 f2=> ?_⟩
  have f02:=f1.trans f2
  obtain⟨fL,ds,eL,lL,okL⟩:=hD.fr f02
  refine⟨_,rfl,.ref L,ds.length,rfl,.inl ⟨ds,aI.of eL,rfl⟩,rfl,_,rfl,?_⟩
  rw[lL]
  refine eV (fun h=>absurd h (by simp)) (fun _=> ?_)
  have elc2:=f02.k _ _ fc (fun _ y=>by cases y) hlc
  refine⟨_,rfl,lc,rfl,⟨_,aI.of elc2⟩,?_⟩
  refine a56 (K:=K) (a:=lc) (xs:=(v.cols X.M).map V.str) (fun i σ Hi=>∃o3 o4 o5,σ= [some (.ref v.a),some (.ref lc),some (.ref L),o3,o4,o5] /\X.Inv Hi/\bG X.Free H Hi) ⟨_,_,_,rfl,i2,f02⟩ (by rintro i σ Hi _ ⟨_,_,_,_,_,fi⟩;exact aI.of (fi.k _ _ fc (fun _ y=>by cases y) hlc)) ?_ ?_
  ·rintro i x σ Hi hx ⟨o3,o4,o5,rfl,ii,fi⟩
   rw[List.getElem?_map]at hx
   cases ec:(v.cols X.M)[i]? with
   |none=>rw[ec]at hx;cases hx
   |some c=>
    rw[ec]at hx
    obtain rfl:=Option.some.inj hx
    have hc:c∈v.cols X.M:=List.mem_of_getElem? ec
    have hvi:=hv.fr fi
    obtain⟨dvi,fsi,evi,noi⟩:=hvi.ins
    refine⟨_,rfl,_,_,v.a,dvi,fsi,RD.at v,rfl,evi,noi _ (by decide+kernel),_,rfl,v,c,rfl,hk,hvi,ii,hc,fun H3 l3 ys i3 f3 hl3 e3 py=> ?_⟩
    have fl3:=I.new ii hl3
    have f03:=fi.trans f3
    refine⟨_,rfl,_,"list",_,_,rfl,.lst (aI.of e3) py.dt,a4l K _,_,rfl,bL ?_⟩
    obtain⟨_,ds3,eL3,lL3,okL3⟩:=hD.fr f03
    refine⟨_,rfl,_,rfl,L,rfl,⟨_,aI.of eL3⟩,fun D hDn=> ?_⟩
    refine rS (K:=K) (a:=L) (xs:=ds3) (fun j zs H4=>aE H3 H4/\bT K H3 zs ((List.range j).map (v.val X.M c))) ⟨aE.new hDn,.nil⟩ (by rintro j zs H4 _ ⟨s4,_⟩;exact aI.of (s4 _ _ eL3)) ?_ ?_
    ·rintro j z zs H4 hz h4 ⟨s4,pz⟩
     have hj:j<ds3.length:=(List.getElem?_eq_some_iff.mp hz).1
     obtain⟨d,kvs,a1,a2,a3,a4⟩:=okL3 j (by omega)
     rw[a1]at hz
     obtain rfl:=Option.some.inj hz
     obtain⟨t,y,l,t3,b1,b2,b3,b4,b5,b6,b7⟩:=a4 c hc
     have lz:zs.length=j:=by
      have:zs.length=((List.range j).map (v.val X.M c)).length:=Paired.length pz
      rw[List.length_map,List.length_range]at this
      exact this
     refine⟨_,rfl,_,rfl,d,_,rfl,b1▸cR.k (k:=Sum.inr c) (s4 _ _ a3),t,_,_,y,rfl,rfl,bU.of (s4 _ _ b2),rfl,h4,cK (by omega),s4.on hDn,?_⟩
     rw[List.range_succ,List.map_append]
     exact bT.snoc b6 pz
    ·rintro zs H4 h4 ⟨s4,pz⟩
     rw[lL3]at pz
     have py4:=py.keep (bQ.of s4)
     have pz4:=pz.keep (bQ.of s4)
     obtain⟨w1,w2,w3⟩:=b2l py4.vd
     refine⟨_,_,.lst (aI.of (s4 _ _ e3)) py4.dt,.lst (aI.of h4) pz4.dt,w1,w1,w2,_,rfl,?_⟩
     rw[w3]
     have i4:=I.same i3 s4
     have f04:=f03.trans (bG.of s4)
     refine bL ⟨_,rfl,.ref L,ds3.length,rfl,.inl ⟨ds3,aI.of (s4 _ _ eL3),rfl⟩,(ds3.length:Int),rfl,by omega,by omega,?_⟩
     rw[Int.toNat_natCast,lL3]
     refine oZ (lo:=0) (n:=v.num X.M) (fun j σ Hj=>∃o5,σ= [some (.ref v.a),some (.ref lc),some (.ref L),some (.str c),some (.ref l3),o5] /\X.Inv Hj/\bG X.Free H Hj) ⟨_,rfl,i4,f04⟩ ?_ ?_
     ·rintro j σ Hj hj ⟨o5,rfl,ij,fj⟩
      have hvj:=hv.fr fj
      obtain⟨dvj,fsj,evj,noj⟩:=hvj.ins
      rw[Int.zero_add]
      refine⟨_,rfl,_,_,v.a,dvj,fsj,RD.at v,rfl,evj,noj _ (by decide+kernel),_,rfl,_,rfl,v,c,j,rfl,hk,hvj,ij,hc,hj,fun H5 y5 i5 f5 py5=> ?_⟩
      have f05:=fj.trans f5
      obtain⟨_,ds5,eL5,lL5,okL5⟩:=hD.fr f05
      obtain⟨d,kvs,a1,a2,a3,a4⟩:=okL5 j hj
      obtain⟨t,y,l,t3,b1,b2,b3,b4,b5,b6,b7⟩:=a4 c hc
      refine⟨_,rfl,_,rfl,L,ds5,(j:Int),.ref d,rfl,rfl,aI.of eL5,fZ a1,_,rfl,d,_,rfl,b1▸cR.k (k:=Sum.inr c) a3,t,_,_,y,rfl,rfl,bU.of b2,rfl,_,_,py5.dt,b6.dt,py5.vd.lay.1,b6.vd.lay.1,Nat.le_trans py5.vd.lay.2 (by decide),_,rfl,?_⟩
      rw[py5.vd.eqv]
      have hv5:=hv.fr f05
      obtain⟨dv5,fs5,ev5,no5⟩:=hv5.ins
      refine bL ⟨_,rfl,_,_,v.a,dv5,fs5,RD.at v,rfl,ev5,no5 _ (by decide+kernel),_,rfl,_,rfl,v,c,j,rfl,hk,hv5,i5,hc,hj,fun H6 l6 t6 i6 f6 hl6 e6 et6=> ?_⟩
      have f06:=f05.trans f6
      obtain⟨_,ds6,eL6,lL6,okL6⟩:=hD.fr f06
      obtain⟨d',kvs',a1',a2',a3',a4'⟩:=okL6 j hj
      obtain⟨t',y',l',t3',b1',b2',b3',b4',b5',b6',b7'⟩:=a4' c hc
      obtain⟨g1,g2,g3⟩:=b1a b7' (nc c hc) ((v.spot X.M j).2.2:Int)
      refine⟨_,rfl,_,rfl,L,ds6,(j:Int),.ref d',rfl,rfl,aI.of eL6,fZ a1',_,rfl,d',_,rfl,b1'▸cR.k (k:=Sum.inr c) a3',t',_,_,.ref l',rfl,rfl,bU.of b2',rfl,_,_,.lst (aI.of e6) (.cons (.tup (bU.of et6) (.cons (.str _) (.cons (.str _) (.cons (.int _) .nil)))) .nil),.lst (aI.of b4') (.cons (.tup (bU.of b5') (.cons (.str _) (.cons (.str _) (.cons (.int _) .nil)))) .nil),g1,g1,g2,_,rfl,?_⟩
      rw[g3]
      exact bL ⟨_,rfl,i6,f06⟩
     ·rintro σ Hj ⟨o5,rfl,ij,fj⟩
      exact⟨_,_,_,rfl,ij,fj⟩
  ·rintro σ Hi ⟨o3,o4,o5,rfl,ii,fi⟩
   exact q Hi ii fi
end
def Kd:Option HO->Prop
 |some (.lst _)=>True
 |some (.dK _)=>True
 |some (.ins _ _ _)=>True
 |_=>False
theorem Kd.ne{o:Option HO}(h:Kd o):o≠none:=fun e=>by rw[e]at h;exact h
theorem Kd.lst{H:Hp}{a:Addr}{xs:List V}(h:H a=some (.lst xs)):Kd (H a):=by rw[h];trivial
theorem Kd.dK{H:Hp}{a:Addr}{xs:List (aG×V)}(h:H a=some (.dK xs)):Kd (H a):=by rw[h];trivial
theorem Kd.ins{H:Hp}{a C d:Addr}{xs:List (Str×V)}(h:H a=some (.ins C d xs)):Kd (H a):=by rw[h];trivial
noncomputable def mH:List (Addr×Nat)->(Addr->Nat)->Addr->Nat
 | [],r,x=>r x
 |p::ps,r,x=>if x=p.1 then p.2 else mH ps r x
theorem a8J{r:Addr->Nat}:∀{as:List (Addr×Nat)} {p:Addr×Nat},(as.map (·.1)).Nodup->p∈as->mH as r p.1=p.2
 | [],_,_,h=>by cases h
 |q::as,p,nd,h=>by
  rw[List.map_cons,List.nodup_cons]at nd
  unfold mH
  rcases List.mem_cons.mp h with rfl|h
  ·rw[if_pos rfl]
  ·rw[if_neg (fun e=>nd.1 (by rw[<- e];exact List.mem_map.mpr ⟨p,h,rfl⟩))]
   exact a8J nd.2 h
theorem uQ{r:Addr->Nat}:∀{as:List (Addr×Nat)} {x:Addr},(∀p∈as,x≠p.1)->mH as r x=r x
 | [],_,_=>rfl
 |q::as,x,h=>by
  unfold mH
  rw[if_neg (h q List.mem_cons_self)]
  exact uQ fun p hp=>h p (List.mem_cons_of_mem _ hp)
theorem labs{r:Addr->Nat}{H H':Hp}(as:List (Addr×Nat))(nd:(as.map (·.1)).Nodup)(lb:∀x,r x≠0->Kd (H x))(mo:∀x,Kd (H x)->Kd (H' x))(fr:∀p∈as,H p.1=none/\Kd (H' p.1)):∃r':Addr->Nat,(∀p∈as,r' p.1=p.2)/\(∀x,(∀p∈as,x≠p.1)->r' x=r x)/\(∀x,H x≠none->r' x=r x)/\∀x,r' x≠0->Kd (H' x):=by
 refine⟨mH as r,fun p hp=>a8J nd hp,fun x hx=>uQ hx,fun x hx=>uQ fun p hp e=>hx (by rw[e];exact(fr p hp).1),fun x hx=> ?_⟩
 by_cases h:∃p∈as,x=p.1
 ·obtain⟨p,hp,rfl⟩:=h
  exact(fr p hp).2
 ·rw[uQ fun p hp e=>h ⟨p,hp,e⟩]at hx
  exact mo x (lb x hx)
theorem tJ{H H':Hp}(L:List Addr)(hL:∀a∈L,Kd (H' a))(u:∀x o,x∉L->H x=some o->H' x=some o):∀x,Kd (H x)->Kd (H' x):=fun x h=>by
 by_cases hx:x∈L
 ·exact hL x hx
 ·cases e:H x with
  |none=>rw[e]at h;exact h.elim
  |some o=>rw[u x o hx e,<- e];exact h
theorem uY{r:Addr->Nat}{H:Hp}(lb:∀x,r x≠0->Kd (H x)){x:Addr}(h:¬Kd (H x)):r x=0:=by
 rcases Nat.eq_zero_or_pos (r x)with e|e
 ·exact e
 ·exact absurd (lb x (by omega)) h
theorem jE{r:Addr->Nat}{H:Hp}(lb:∀x,r x≠0->Kd (H x)){x:Addr}(h:H x=none):r x=0:=uY lb (by rw[h];exact id)
theorem xU{H H':Hp}(s:aE H H'):∀x,Kd (H x)->Kd (H' x):=tJ [] (fun _ h=>by cases h) fun x o _ e=>s _ _ e
structure uT(H5:Hp)(r:Addr->Nat)(H:Hp)(L:List (Addr×Nat)):Prop where
 lb:∀x,r x≠0->Kd (H x)
 old:∀x,H5 x≠none->r x=0/\H x≠none
 at_:∀p∈L,r p.1=p.2/\H p.1≠none
theorem uT.add{H5 H H':Hp}{r:Addr->Nat}{L:List (Addr×Nat)}(S:uT H5 r H L)(as:List (Addr×Nat))(nd:(as.map (·.1)).Nodup)(fr:∀p∈as,H p.1=none/\Kd (H' p.1))(mo:∀x,Kd (H x)->Kd (H' x))(nn:∀x,H x≠none->H' x≠none):∃r',uT H5 r' H' (as++ L):=by
 obtain⟨r',h1,h2,h3,h4⟩:=labs as nd S.lb mo fr
 refine⟨r',h4,fun x hx=> ?_,fun p hp=> ?_⟩
 ·obtain⟨a,b⟩:=S.old x hx
  exact⟨(h3 x b).trans a,nn x b⟩
 ·rcases List.mem_append.mp hp with hp|hp
  ·exact⟨h1 p hp,(fr p hp).2.ne⟩
  ·obtain⟨a,b⟩:=S.at_ p hp
   exact⟨(h3 _ b).trans a,nn _ b⟩
theorem a21{H H':Hp}(s:aE H H'):∀x,H x≠none->H' x≠none:=fun x hx e=>by
 cases e2:H x with
 |none=>exact hx e2
 |some o=>rw[s _ _ e2]at e;cases e
theorem a9Q:bootBuiltins "max"=some (.builtin "max"):=by kernel_rfl
theorem b1N{j:Int}(h1: -100<=j)(h2:j<=100):hV (.int j)=true:=by
 have e3:(100:Int)<10^ (60:Int).toNat:=by decide+kernel
 show decide ((if j<0 then-j else j)<10^ (60:Int).toNat)=true
 rw[decide_eq_true_eq]
 split<;>omega
theorem b2Z:Nl ("bad":Str):=by unfold Nl;decide+kernel
section
variable{P:Program}{w:World}{K:Fg}{mg:Str->Option Value}{base:Heap}
def tQ(K:Fg):Sp:=fun vs H Q _=>∃(a:Addr) (ns:List Int) (k:Nat),vs= [.ref a,.int (k:Int)] /\aI K H a (ns.map V.int)/\∀z:Int,Q (.int z) H
theorem b3S:aW ["_law_script","_law_k"] ["_law_script","_law_k"] (aB nD):=⟨rfl,rfl,rfl,by decide+kernel,rfl,by decide+kernel,by decide+kernel⟩
theorem jS(T:bA K mg):bK P w K mg base aC 1 "_law_cell_at" ["_law_script","_law_k"] (tQ K):=by
 refine T.d_law_cell_at.known b3S (fun _ _ _ _ _ _ us hl=>cZ (fun _ _=>rfl) us hl) (fun vs H Q E h=> ?_) (fun f cdv A outer s H vs Q E hr h=> ?_)
 ·obtain⟨a,ns,k,rfl,_⟩:=h
  rfl
 ·obtain⟨a,ns,k,rfl,hS,q⟩:=h
  refine⟨_,(aK (bY (cW uU (pv 1) (cF fW rfl T.len eQ (aA (pv 0) aD)) (dW _)) (aL (bH (bM cC (pv 0) (pv 1) (fun _ _=>rfl)))) cB)
   (aL (bH aS))),?_⟩
  refine⟨_,rfl,_,rfl,.ref a,(ns.map V.int).length,rfl,.inl ⟨_,hS,rfl⟩,_,_,rfl,rfl,_,rfl,?_⟩
  refine eV (fun h=> ?_) (fun _=>q 0)
  have hk:k<ns.length:=by
   have:=of_decide_eq_true h
   rw[List.length_map]at this
   omega
  exact⟨_,rfl,_,rfl,a,_,(k:Int),.int (ns[k]'hk),rfl,rfl,hS,fZ (by rw[List.getElem?_map,List.getElem?_eq_getElem hk];rfl),q _⟩
def TabL(K:Fg)(H0 H:Hp)(m:Nat)(cs:List Str)(ts:List V)(lv:Nat->Addr)(ys:Nat->List V)(ds:Nat->List PyData):Prop:=ts.length=cs.length/\∀i c,cs[i]?=some c->∃t,ts[i]?=some (.ref t)/\H t=some (.tup [.str c,.ref (lv i)])/\H0 (lv i)=none/\H (lv i)=some (.lst (ys i))/\(ys i).length=m/\bT K H (ys i) (ds i)
def spTb(K:Fg):Sp:=fun vs H Q _=>∃(a lc:Addr) (ns:List Int) (cs:List Str) (u m:Nat),vs= [.ref a,.int (u:Int),.ref lc,.int (m:Int)] /\aI K H a (ns.map V.int)/\ns.length<=63/\H lc=some (.lst (cs.map V.str))/\cs.length<=8/\u<=100/\m<=30/\∀H' l ts lv ys ds,aE H H'->H l=none->H' l=some (.lst ts)->TabL K H H' m cs ts lv ys ds->Q (.ref l) H'
abbrev Ntb:List Str:=["_law_script","_law_at","_law_some","_law_many","_law_columns","_law_c","_law_values","_law_r","_law_cell","_law_number"]
theorem kD:aW Ntb ["_law_script","_law_at","_law_some","_law_many"] (aB rZ):=⟨rfl,rfl,rfl,by decide+kernel,rfl,by decide+kernel,by decide+kernel⟩
theorem sO(T:bA K mg):bK P w K mg base aC 2 "_law_table" ["_law_script","_law_at","_law_some","_law_many"] (spTb K):=by
 have G_cell:bK P w K mg base aC 1 "_law_cell_at" ["_law_script","_law_k"] (tQ K):=jS T
 refine T.d_law_table.known kD (fun _ _ _ _ _ _ us hl=>jR (fun _ _ _ _=>rfl) us hl) (fun vs H Q E h=> ?_) (fun f cdv A outer s H vs Q E hr h=> ?_)
 ·obtain⟨a,lc,ns,cs,u,m,rfl,_⟩:=h
  rfl
 ·obtain⟨a,lc,ns,cs,u,m,rfl,hS,hns,hlc,c8,u1,m30,q⟩:=h
  refine⟨_,(aK (bW (i:=4) kD.nd rfl (Or.inl rfl) (eD aD))
   (aK (jD PassesOwn.never rfl (qV rfl T.range (aA (cF fW rfl T.len eQ (aA (pv 2) aD)) aD)) (gI (i:=5) kD.nd rfl (Or.inl rfl)) (aK (bW (i:=6) kD.nd rfl (Or.inl rfl) (eD aD))
   (aK (jD PassesOwn.never rfl (qV rfl T.range (aA (pv 3) aD)) (gI (i:=7) kD.nd rfl (Or.inl rfl)) (aK (bW (i:=8) kD.nd rfl (Or.inl rfl) (bP G_cell (hr.mono (by decide)) aM (aA (pv 0) (aA (bI fY aS (bI dJ (bI fY (bI fY (pv 1) (bI vG aS (pv 5))) (pv 7)) (cF (b16 rfl) rfl T.max a9Q (aA aS (aA (bI a1A (cF fW rfl T.len eQ (aA (pv 0) aD)) aS) aD))))) aD))))
   (aK (bW (i:=9) kD.nd rfl (Or.inl rfl) (bI dJ (bI vG (bI fY (bI fY (bI fY (bI dJ (pv 8) aS) (bI vG aS (pv 7))) (bI vG aS (pv 5))) (pv 1)) aS) aS))
   (aL (bY (cW a8c (bI dJ (pv 9) aS) aS (dW _)) (aL (bX (iT PySem.F.plainAttrs_list PySem.F.slot_list_append PySem.F.type_list_append iN (pv 6) (aA (jO (aA hJ (aA hJ aD))) aD)))) (aL (bX (iT PySem.F.plainAttrs_list PySem.F.slot_list_append PySem.F.type_list_append iN (pv 6) (aA (bI a1A (bI dJ (pv 9) aS) aS) aD)))))))))
   (aL (bX (iT PySem.F.plainAttrs_list PySem.F.slot_list_append PySem.F.type_list_append iN (pv 4) (aA (jO (aA (bM cC (pv 2) (pv 5) (fun _ _=>rfl)) (aA (pv 6) aD))) aD)))))))
   (aL (bH (pv 4))))),?_⟩
  refine⟨sl,fun l hl=> ?_⟩
  have s1:=aE.new (o:=.lst []) hl
  have e1:upd H l (.lst []) l=some (.lst []):=aH
  generalize upd H l (.lst [])=H1 at s1 e1|-
  refine⟨_,rfl,.ref lc,(cs.map V.str).length,rfl,.inl ⟨_,aI.of (s1 _ _ hlc),rfl⟩,((cs.map V.str).length:Int),rfl,by omega,by rw[List.length_map];omega,?_⟩
  rw[Int.toNat_natCast,List.length_map]
  refine oZ (lo:=0) (n:=cs.length) (fun i σ Hi=>∃o5 o6 o7 o8 o9 ts lv ys ds,σ= [some (.ref a),some (.int (u:Int)),some (.ref lc),some (.int (m:Int)),some (.ref l),o5,o6,o7,o8,o9] /\aE H Hi/\Hi l=some (.lst ts)/\ts.length=i/\∀j c,j<i->cs[j]?=some c->∃t,ts[j]?=some (.ref t)/\Hi t=some (.tup [.str c,.ref (lv j)])/\H (lv j)=none/\lv j≠l/\Hi (lv j)=some (.lst (ys j))/\(ys j).length=m/\bT K Hi (ys j) (ds j)) ⟨_,_,_,_,_,[],fun _=>l,fun _=> [],fun _=> [],rfl,s1,e1,rfl,fun j c h=>by{omega}⟩ ?_ ?_
  ·rintro i σ Hi hi ⟨o5,o6,o7,o8,o9,ts,lv,ys,ds,rfl,si,ei,li,ok⟩
   rw[Int.zero_add]
   refine⟨sl,fun l2 hl2=> ?_⟩
   have s2:=aE.new (o:=.lst []) hl2
   have e2:upd Hi l2 (.lst []) l2=some (.lst []):=aH
   generalize upd Hi l2 (.lst [])=H2 at s2 e2|-
   have hl2H:H l2=none:=gO si hl2
   have nl2:l2≠l:=fun y=>by rw[y,ei]at hl2;cases hl2
   have sH2:=si.trans s2
   refine⟨_,rfl,(m:Int),rfl,by omega,by omega,?_⟩
   rw[Int.toNat_natCast]
   refine oZ (lo:=0) (n:=m) (fun r σ Hr=>∃o7 o8 o9 zs es,σ= [some (.ref a),some (.int (u:Int)),some (.ref lc),some (.int (m:Int)),some (.ref l),some (.int (i:Int)),some (.ref l2),o7,o8,o9] /\aE Hi Hr/\Hr l2=some (.lst zs)/\zs.length=r/\bT K Hr zs es) ⟨_,_,_,[],[],rfl,s2,e2,rfl,.nil⟩ ?_ ?_
   ·rintro r σ Hr hr ⟨o7,o8,o9,zs,es,rfl,sr,er,lr,pz⟩
    rw[Int.zero_add]
    have sHr:=si.trans sr
    have hSr:=sHr.seq hS
    let M:Int:=if(((ns.map V.int).length:Int)- 6)>1 then(((ns.map V.int).length:Int)- 6) else 1
    have hM:0<M:=by
     simp only[M]
     split<;>omega
    have hX:=Int.emod_nonneg ((u:Int)+ 7* (i:Int)+ (r:Int)) (show M≠0 by omega)
    refine⟨_,rfl,_,rfl,_,rfl,_,_,rfl,rfl,.inl ⟨by decide,by omega⟩,_,_,rfl,rfl,_,rfl,_,_,rfl,rfl,_,rfl,.ref a,(ns.map V.int).length,rfl,.inl ⟨_,hSr,rfl⟩,_,_,rfl,rfl,_,_,rfl,_,_,rfl,rfl,hM,_,_,rfl,rfl,a,ns,(6+ ((u:Int)+ 7* (i:Int)+ (r:Int))% M).toNat,by rw[Int.toNat_of_nonneg (by omega)];rfl,hSr,fun z=> ?_⟩
    refine⟨_,rfl,_,_,rfl,rfl,(show(0:Int)<1000003 by decide),_,rfl,_,_,rfl,rfl,.inl ⟨by decide,by decide⟩,_,_,rfl,rfl,_,rfl,_,_,rfl,rfl,.inl ⟨by decide,by decide⟩,_,_,rfl,rfl,_,rfl,_,_,rfl,rfl,_,_,rfl,rfl,.inr ⟨by decide,by decide⟩,_,_,rfl,rfl,(show(0:Int)<1000003 by decide),?_⟩
    let g:Int:=((z% 1000003+ 31* (r:Int)+ 7* (i:Int)+ (u:Int))* 48271)% 1000003
    refine⟨_,rfl,_,_,rfl,rfl,(show(0:Int)<9 by decide),rfl,_,rfl,?_⟩
    have app:∀{H3:Hp} {y:V} {d:PyData},aE Hr H3->Pv K H3 y d->∃zs' es',aE Hi (upd H3 l2 (.lst (zs++ [y])))/\upd H3 l2 (.lst (zs++ [y])) l2=some (.lst zs')/\zs'.length=r+ 1/\bT K (upd H3 l2 (.lst (zs++ [y]))) zs' es':=fun{H3 y d} s3 py=>by
     have h3:=s3 _ _ er
     have kt:bQ H3 (upd H3 l2 (.lst (zs++ [y]))):=fun b xs eb=>by
      rw[aF (fun z=>by rw[z,h3]at eb;cases eb)]
      exact eb
     exact⟨_,es++ [d],(sr.trans s3).on hl2,aH,by rw[List.length_append,lr];rfl,bT.snoc (py.keep kt) ((pz.keep (bQ.of s3)).keep kt)⟩
    refine eV (fun _=> ?_) (fun _=> ?_)
    ·refine⟨_,rfl,.inl ⟨rfl,_,aI.of er⟩,sl,fun t ht=> ?_⟩
     have s3:=aE.new (o:=.tup [.str ("fault":Str),.str ("bad":Str)]) ht
     refine⟨l2,_,_,rfl,rfl,s3 _ _ er,cK (by omega),?_⟩
     obtain⟨zs',es',g1,g2,g3,g4⟩:=app s3 (.inr ⟨t,"bad",rfl,aH,rfl,b2Z⟩)
     exact⟨_,_,_,zs',es',rfl,g1,g2,g3,g4⟩
    ·have h41:=Int.emod_nonneg g (show(41:Int)≠0 by decide)
     have h42:=Int.emod_lt_of_pos g (show(0:Int)<41 by decide)
     refine⟨_,rfl,.inl ⟨rfl,_,aI.of er⟩,_,rfl,_,_,rfl,rfl,(show(0:Int)<41 by decide),_,_,rfl,rfl,l2,_,_,rfl,rfl,er,cK (by omega),?_⟩
     obtain⟨zs',es',g1,g2,g3,g4⟩:=app (aE.refl Hr) (.inl ⟨_,rfl,rfl,b1N (j:=g% 41- 20) (by omega) (by omega)⟩)
     exact⟨_,_,_,zs',es',rfl,g1,g2,g3,g4⟩
   ·rintro σ Hr ⟨o7,o8,o9,zs,es,rfl,sr,er,lr,pz⟩
    have ec:cs[i]?=some (cs[i]'hi):=List.getElem?_eq_getElem hi
    have elc:=(si.trans sr) _ _ hlc
    have eir:=sr _ _ ei
    refine⟨_,rfl,.inl ⟨rfl,_,aI.of eir⟩,_,rfl,_,rfl,lc,_,(i:Int),.str (cs[i]'hi),rfl,rfl,aI.of elc,fZ (by rw[List.getElem?_map,ec];rfl),_,rfl,sl,fun t ht=> ?_⟩
    have s3:=aE.new (o:=.tup [.str (cs[i]'hi),.ref l2]) ht
    have t3:upd Hr t (.tup [.str (cs[i]'hi),.ref l2]) t=some (.tup [.str (cs[i]'hi),.ref l2]):=aH
    generalize upd Hr t (.tup [.str (cs[i]'hi),.ref l2])=H3 at s3 t3|-
    have h3l:=s3 _ _ eir
    refine⟨l,_,_,rfl,rfl,h3l,cK (by omega),?_⟩
    have u4:bE l H3 (upd H3 l (.lst (ts++ [.ref t]))):=bE.upd
    have e4:upd H3 l (.lst (ts++ [.ref t])) l=some (.lst (ts++ [.ref t])):=aH
    have sH4:aE H (upd H3 l (.lst (ts++ [.ref t]))):=((si.trans sr).trans s3).on hl
    generalize upd H3 l (.lst (ts++ [.ref t]))=H4 at u4 e4 sH4|-
    have kt4:bQ H3 H4:=fun b xs eb=>u4 _ _ (fun y=>by rw[y,h3l]at eb;cases eb) eb
    refine⟨_,_,_,_,_,ts++ [.ref t],fun j=>if j=i then l2 else lv j,fun j=>if j=i then zs else ys j,fun j=>if j=i then es else ds j,rfl,sH4,e4,by rw[List.length_append,li];rfl,fun j c hj hc=> ?_⟩
    show∃t',(ts++ [V.ref t])[j]?=some (.ref t')/\H4 t'=some (.tup [.str c,.ref (if j=i then l2 else lv j)])/\H (if j=i then l2 else lv j)=none/\(if j=i then l2 else lv j)≠l/\H4 (if j=i then l2 else lv j)=some (.lst (if j=i then zs else ys j))/\(if j=i then zs else ys j).length=m/\bT K H4 (if j=i then zs else ys j) (if j=i then es else ds j)
    by_cases h:j=i
    ·subst h
     rw[if_pos rfl,if_pos rfl,if_pos rfl]
     rw[ec]at hc
     obtain rfl:=Option.some.inj hc
     exact⟨t,by rw[List.getElem?_append_right (by omega),li,Nat.sub_self];rfl,kt4 _ _ t3,hl2H,nl2,u4 _ _ nl2 (s3 _ _ er),lr,(pz.keep (bQ.of s3)).keep kt4⟩
    ·rw[if_neg h,if_neg h,if_neg h]
     obtain⟨t',a1,a2,a3,a4,a5,a6,a7⟩:=ok j c (by omega) hc
     have k3:aE Hi H3:=sr.trans s3
     exact⟨t',by rw[List.getElem?_append_left (by omega)];exact a1,kt4 _ _ (k3 _ _ a2),a3,a4,u4 _ _ a4 (k3 _ _ a5),a6,(a7.keep (bQ.of k3)).keep kt4⟩
  ·rintro σ Hi ⟨o5,o6,o7,o8,o9,ts,lv,ys,ds,rfl,si,ei,li,ok⟩
   refine⟨_,rfl,q Hi l ts lv ys ds si hl ei ⟨li,fun i c hc=> ?_⟩⟩
   obtain⟨t',a1,a2,a3,a4,a5,a6,a7⟩:=ok i c (List.getElem?_eq_some_iff.mp hc).1 hc
   exact⟨t',a1,a2,a3,a5,a6,a7⟩
end
theorem xK{cs:List Str}{i j:Nat}{c:Str}(nd:cs.Nodup)(hi:cs[i]?=some c)(hj:cs[j]?=some c):i=j:=by
 obtain⟨h1,e1⟩:=List.getElem?_eq_some_iff.mp hi
 obtain⟨h2,e2⟩:=List.getElem?_eq_some_iff.mp hj
 have pw:=List.pairwise_iff_getElem.mp nd
 rcases Nat.lt_trichotomy i j with h|h|h
 ·exact absurd (e1.trans e2.symm) (pw i j h1 h2 h)
 ·exact h
 ·exact absurd (e2.trans e1.symm) (pw j i h2 h1 h)
section
variable{P:Program}{w:World}{K:Fg}{mg:Str->Option Value}{base:Heap}
def kE(K:Fg)(H:Hp)(m:Nat)(cs:List Str)(ts:List V)(lv:Nat->Addr)(ys:Nat->List V)(ds:Nat->List PyData):Prop:=ts.length=cs.length/\∀i c,cs[i]?=some c->∃t,ts[i]?=some (.ref t)/\H t=some (.tup [.str c,.ref (lv i)])/\H (lv i)=some (.lst (ys i))/\(ys i).length=m/\bT K H (ys i) (ds i)
theorem kE.same{H H':Hp}{m:Nat}{cs:List Str}{ts:List V}{lv:Nat->Addr}{ys:Nat->List V}{ds:Nat->List PyData}(s:aE H H')(h:kE K H m cs ts lv ys ds):kE K H' m cs ts lv ys ds:=
 ⟨h.1,fun i c e=>let ⟨t,a,b,d,l,p⟩:=h.2 i c e;⟨t,a,s _ _ b,s _ _ d,l,p.keep (bQ.of s)⟩⟩
def pL(K:Fg)(H0 H:Hp)(nm:Str)(p:Nat)(c:Str)(d:PyData)(kvs:List (aG×V))(L:Addr):Prop:=∃t y l t3,aZ kvs (.inr c:aG)=some (.ref t)/\H t=some (.tup [y,.ref l])/\H0 l=none/\l≠L/\H l=some (.lst [.ref t3])/\H t3=some (.tup [.str nm,.str c,.int (p:Int)])/\Pv K H y d
theorem pL.mv{H0 H H':Hp}{nm:Str}{p:Nat}{c:Str}{d:PyData}{kvs:List (aG×V)}{L:Addr}(kt:bQ H H')(u:∀x xs,x≠L->H x=some (.lst xs)->H' x=some (.lst xs))(h:pL K H0 H nm p c d kvs L):pL K H0 H' nm p c d kvs L:=by
 obtain⟨t,y,l,t3,a1,a2,a3,a4,a5,a6,a7⟩:=h
 exact⟨t,y,l,t3,a1,kt _ _ a2,a3,a4,u _ _ a4 a5,kt _ _ a6,a7.keep kt⟩
def RowD(K:Fg)(H0 H:Hp)(nm:Str)(cs:List Str)(ds:Nat->List PyData)(L:Addr)(p:Nat)(d:Addr):Prop:=H0 d=none/\∃kvs,H d=some (.dK kvs)/\∀i c,cs[i]?=some c->pL K H0 H nm p c ((ds i).getD p .none) kvs L
def spRw(K:Fg):Sp:=fun vs H Q _=>∃(nm:Str) (l:Addr) (m:Nat) (cs:List Str) (ts:List V) (lv:Nat->Addr) (ys:Nat->List V) (ds:Nat->List PyData),vs= [.str nm,.ref l,.int (m:Int)] /\H l=some (.lst ts)/\kE K H m cs ts lv ys ds/\cs.Nodup/\cs.length<=8/\m<=30/\∀H' L dv,aE H H'->H L=none->H' L=some (.lst dv)->dv.length=m->(∀p,p<m->∃d,dv[p]?=some (.ref d)/\RowD K H H' nm cs ds L p d)->Q (.ref L) H'
abbrev Nrw:List Str:=["_law_name","_law_columns","_law_many","_law_rows_here","_law_r","_law_row","_law_column","_law_values"]
theorem lF:aW Nrw ["_law_name","_law_columns","_law_many"] (aB sK):=⟨rfl,rfl,rfl,by decide+kernel,rfl,by decide+kernel,by decide+kernel⟩
theorem pH(T:bA K mg):bK P w K mg base aC 1 "_law_rows" ["_law_name","_law_columns","_law_many"] (spRw K):=by
 refine T.d_law_rows.known lF (fun _ _ _ _ _ _ us hl=>cN (fun _ _ _=>rfl) us hl) (fun vs H Q E h=> ?_) (fun f cdv A outer s H vs Q E hr h=> ?_)
 ·obtain⟨nm,l,m,cs,ts,lv,ys,ds,rfl,_⟩:=h
  rfl
 ·obtain⟨nm,l,m,cs,ts,lv,ys,ds,rfl,hl,tm,nd,c8,m30,q⟩:=h
  have hu:=fJ hr
  refine⟨_,(aK (bW (i:=3) lF.nd rfl (Or.inl rfl) (eD aD))
   (aK (jD PassesOwn.never rfl (qV rfl T.range (aA (pv 2) aD)) (gI (i:=4) lF.nd rfl (Or.inl rfl)) (aK (bW (i:=5) lF.nd rfl (Or.inl rfl) oV)
   (aK (jD PassesOwn.never rfl (gG (pv 1)) (a8r rfl (uJ (gI (i:=6) lF.nd rfl (Or.inl rfl)) (uJ (gI (i:=7) lF.nd rfl (Or.inl rfl)) a7K))) (aL (uN hu (pv 5) (pv 6) (jO (aA (bM cC (pv 7) (pv 4) (fun _ _=>rfl)) (aA (eD (aA (jO (aA (pv 0) (aA (pv 6) (aA (pv 4) aD)))) aD)) aD))) rfl)))
   (aL (bX (iT PySem.F.plainAttrs_list PySem.F.slot_list_append PySem.F.type_list_append iN (pv 3) (aA (pv 5) aD)))))))
   (aL (bH (pv 3))))),?_⟩
  refine⟨sl,fun L hL=> ?_⟩
  have s1:=aE.new (o:=.lst []) hL
  have e1:upd H L (.lst []) L=some (.lst []):=aH
  generalize upd H L (.lst [])=H1 at s1 e1|-
  refine⟨_,rfl,(m:Int),rfl,by omega,by omega,?_⟩
  rw[Int.toNat_natCast]
  refine oZ (lo:=0) (n:=m) (fun r σ Hr=>∃o4 o5 o6 o7 dv,σ= [some (.str nm),some (.ref l),some (.int (m:Int)),some (.ref L),o4,o5,o6,o7] /\aE H Hr/\Hr L=some (.lst dv)/\dv.length=r/\∀p,p<r->∃d,dv[p]?=some (.ref d)/\RowD K H Hr nm cs ds L p d) ⟨_,_,_,_,[],rfl,s1,e1,rfl,fun p h=>by{omega}⟩ ?_ ?_
  ·rintro r σ Hr hr' ⟨o4,o5,o6,o7,dv,rfl,sr,er,lr,ok⟩
   rw[Int.zero_add]
   intro d hd
   have s2:=aE.new (o:=.dK []) hd
   have e2:upd Hr d (.dK []) d=some (.dK []):=aH
   generalize upd Hr d (.dK [])=H2 at s2 e2|-
   have hdH:H d=none:=gO sr hd
   have hl2:=(sr.trans s2) _ _ hl
   refine⟨_,rfl,l,rfl,⟨_,aI.of hl2⟩,?_⟩
   refine a56 (K:=K) (a:=l) (xs:=ts) (fun j σ Hj=>∃o6 o7 kvs,σ= [some (.str nm),some (.ref l),some (.int (m:Int)),some (.ref L),some (.int (r:Int)),some (.ref d),o6,o7] /\aE Hr Hj/\Hj d=some (.dK kvs)/\kvs.length<=j/\∀i c,i<j->cs[i]?=some c->pL K H Hj nm r c ((ds i).getD r .none) kvs L) ⟨_,_,[],rfl,s2,e2,Nat.le_refl _,fun i c h=>by{omega}⟩ (by rintro j σ Hj _ ⟨_,_,_,_,sj,_⟩;exact aI.of ((sr.trans sj) _ _ hl)) ?_ ?_
   ·rintro j x σ Hj hx ⟨o6,o7,kvs,rfl,sj,ej,lj,okj⟩
    have hj:j<ts.length:=(List.getElem?_eq_some_iff.mp hx).1
    have hj':j<cs.length:=by rw[<- tm.1];exact hj
    have ec:cs[j]?=some (cs[j]'hj'):=List.getElem?_eq_getElem hj'
    generalize cs[j]'hj'=c at ec
    have sHj:=sr.trans sj
    obtain⟨t,a1,a2,a3,a4,a5⟩:=(tm.same sHj).2 j c ec
    rw[a1]at hx
    obtain rfl:=Option.some.inj hx
    have ld:(ys j).length=(ds j).length:=Paired.length a5
    obtain⟨y,dy,g1,g2,g3⟩:=bT.at a5 (i:=r) (by omega)
    refine⟨t,_,rfl,bU.of a2,rfl,_,_,rfl,_,_,rfl,rfl,?_⟩
    refine⟨_,rfl,_,rfl,lv j,ys j,(r:Int),y,rfl,rfl,aI.of a3,fZ g1,_,rfl,_,rfl,_,rfl,sl,fun t3 ht3=> ?_⟩
    have s3:=aE.new (o:=.tup [.str nm,.str c,.int (r:Int)]) ht3
    have e3:upd Hj t3 (.tup [.str nm,.str c,.int (r:Int)]) t3=some (.tup [.str nm,.str c,.int (r:Int)]):=aH
    generalize upd Hj t3 (.tup [.str nm,.str c,.int (r:Int)])=H3 at s3 e3|-
    refine⟨sl,fun l4 hl4=> ?_⟩
    have s4:=aE.new (o:=.lst [.ref t3]) hl4
    have e4:upd H3 l4 (.lst [.ref t3]) l4=some (.lst [.ref t3]):=aH
    generalize upd H3 l4 (.lst [.ref t3])=H4 at s4 e4|-
    refine⟨sl,fun t5 ht5=> ?_⟩
    have s5:=aE.new (o:=.tup [y,.ref l4]) ht5
    have e5:upd H4 t5 (.tup [y,.ref l4]) t5=some (.tup [y,.ref l4]):=aH
    generalize upd H4 t5 (.tup [y,.ref l4])=H5 at s5 e5|-
    have s35:=(s3.trans s4).trans s5
    have ed5:=s35 _ _ ej
    have hl4H:H l4=none:=gO (sHj.trans s3) hl4
    have nl4:l4≠L:=fun y=>by
     have:=(sj.trans s3) _ _ er
     rw[y,this]at hl4
     cases hl4
    refine⟨_,rfl,_,rfl,d,_,rfl,kB.k (k:=Sum.inr c) ed5 (cK (by omega)),?_⟩
    have u6:bE d H5 (upd H5 d (.dK (bJ kvs (.inr c:aG) (.ref t5)))):=bE.upd
    have e6:upd H5 d (.dK (bJ kvs (.inr c:aG) (.ref t5))) d=some (.dK (bJ kvs (.inr c:aG) (.ref t5))):=aH
    have sr6:aE Hr (upd H5 d (.dK (bJ kvs (.inr c:aG) (.ref t5)))):=(sj.trans s35).on hd
    generalize upd H5 d (.dK (bJ kvs (.inr c:aG) (.ref t5)))=H6 at u6 e6 sr6|-
    have kt6:bQ H5 H6:=fun b xs eb=>u6 _ _ (fun y=>by rw[y,ed5]at eb;cases eb) eb
    have kl6:∀x xs,H5 x=some (.lst xs)->H6 x=some (.lst xs):=fun x xs e=>u6 _ _ (fun y=>by rw[y,ed5]at e;cases e) e
    refine⟨_,_,bJ kvs (.inr c:aG) (.ref t5),rfl,sr6,e6,Nat.le_trans (oK kvs (.inr c:aG) (.ref t5)) (by omega),fun i c' hi hc'=> ?_⟩
    by_cases h:i=j
    ·subst h
     rw[ec]at hc'
     obtain rfl:=Option.some.inj hc'
     refine⟨t5,y,l4,t3,by rw[lS,if_pos rfl],kt6 _ _ e5,hl4H,nl4,kl6 _ _ (s5 _ _ e4),kt6 _ _ (s5 _ _ (s4 _ _ e3)),?_⟩
     rw[List.getD_eq_getElem?_getD,g2]
     exact(g3.same s35).keep kt6
    ·have hcc:c'≠c:=fun y=>h (by
      subst y
      exact xK nd hc' ec)
     obtain⟨t',y',l',t3',b1,b2,b3,b4,b5,b6,b7⟩:=okj i c' (by omega) hc'
     exact⟨t',y',l',t3',by rw[lS,if_neg (fun z=>hcc (by cases z;rfl))];exact b1,kt6 _ _ (s35 _ _ b2),b3,b4,kl6 _ _ (s35 _ _ b5),kt6 _ _ (s35 _ _ b6),(b7.same s35).keep kt6⟩
   ·rintro σ Hj ⟨o6,o7,kvs,rfl,sj,ej,lj,okj⟩
    have eLj:=sj _ _ er
    refine⟨_,rfl,.inl ⟨rfl,_,aI.of eLj⟩,_,rfl,L,_,_,rfl,rfl,eLj,cK (by omega),?_⟩
    have u7:bE L Hj (upd Hj L (.lst (dv++ [.ref d]))):=bE.upd
    have e7:upd Hj L (.lst (dv++ [.ref d])) L=some (.lst (dv++ [.ref d])):=aH
    have sH7:aE H (upd Hj L (.lst (dv++ [.ref d]))):=(sr.trans sj).on hL
    generalize upd Hj L (.lst (dv++ [.ref d]))=H7 at u7 e7 sH7|-
    have kt7:bQ Hj H7:=fun b xs eb=>u7 _ _ (fun y=>by rw[y,eLj]at eb;cases eb) eb
    have kl7:∀x xs,x≠L->Hj x=some (.lst xs)->H7 x=some (.lst xs):=fun x xs n e=>u7 _ _ n e
    refine⟨_,_,_,_,dv++ [.ref d],rfl,sH7,e7,by rw[List.length_append,lr];rfl,fun p hp=> ?_⟩
    by_cases h:p=r
    ·subst h
     exact⟨d,by rw[List.getElem?_append_right (by omega),lr,Nat.sub_self];rfl,hdH,kvs,u7 _ _ (fun y=>by rw[y,eLj]at ej;cases ej) ej,fun i c hc=>(okj i c (by have:=(List.getElem?_eq_some_iff.mp hc).1;rw[tm.1];exact this) hc).mv kt7 kl7⟩
    ·obtain⟨d',b1,b2,kvs',b3,b4⟩:=ok p (by omega)
     refine⟨d',by rw[List.getElem?_append_left (by omega)];exact b1,b2,kvs',u7 _ _ (fun y=>by rw[y,er]at b3;cases b3) (sj _ _ b3),fun i c hc=>(b4 i c hc).mv (fun b xs eb=>kt7 _ _ (sj _ _ eb)) (fun x xs n e=>kl7 x xs n (sj _ _ e))⟩
  ·rintro σ Hr ⟨o4,o5,o6,o7,dv,rfl,sr,er,lr,ok⟩
   exact⟨_,rfl,q Hr L dv sr hL er lr ok⟩
end
abbrev Nlaw:List Str:=["_law_script","_law_first","_law_second","_law_sizes","_law_names","_law_some","_law_tables","_law_sheet","_law_views","_law_rows_here","_law_k","_law_name","_law_column","_law_values","_law_start","_law_count","_law_cut","_law_other","_law_shared","_law_both","_law_whole"]
theorem cO:aW Nlaw ["_law_script"] (aB fG):=⟨rfl,rfl,rfl,by decide+kernel,rfl,by decide+kernel,by decide+kernel⟩
def tn(i:Nat):Str:=if i=0 then "one" else "two"
theorem a8C:Nl ("one":Str)/\Nl ("two":Str):=by unfold Nl;decide+kernel
section
variable{P:Program}{w:World}{K:Fg}{mg:Str->Option Value}{base:Heap}
theorem VC.Dat.cut{X:VC}{H:Hp}{v:VW}{L L2 a:Addr}{ds:List V}{i n:Nat}(h:X.Dat K H v L)(hL:H L=some (.lst ds))(f2:X.Free L2)(e2:H L2=some (.lst (bF ds (some (i:Int)) (some ((i:Int)+ (n:Int)))))):X.Dat K H (.cut a v i n) L2:=by
 obtain⟨fL,ds',e,l,ok⟩:=h
 rw[e]at hL
 cases hL
 obtain⟨c1,c2⟩:=wJ ds i n
 refine⟨f2,_,e2,by rw[c1,l];rfl,fun p hp=> ?_⟩
 have hp:p<min n (v.num X.M- i):=hp
 obtain⟨d,kvs,a1,a2,a3,a4⟩:=ok (i+ p) (by omega)
 exact⟨d,kvs,by rw[c2 p (by rw[l];exact hp)];exact a1,a2,a3,a4⟩
theorem VC.Dat.tog{X:VC}{H:Hp}{x y:VW}{L M L2 a:Addr}{ds es:List V}(hx:X.Dat K H x L)(hy:X.Dat K H y M)(eL:H L=some (.lst ds))(eM:H M=some (.lst es))(f2:X.Free L2)(e2:H L2=some (.lst (ds++ es))):X.Dat K H (.tog a x y) L2:=by
 obtain⟨fL,ds',e,l,ok⟩:=hx
 rw[e]at eL
 cases eL
 obtain⟨fM,es',e',l',ok'⟩:=hy
 rw[e']at eM
 cases eM
 refine⟨f2,_,e2,by rw[List.length_append,l,l'];rfl,fun p hp=> ?_⟩
 have hp:p<x.num X.M+ y.num X.M:=hp
 by_cases h:p<x.num X.M
 ·obtain⟨d,kvs,a1,a2,a3,a4⟩:=ok p h
  refine⟨d,kvs,by rw[List.getElem?_append_left (by omega)];exact a1,a2,a3,fun c hc=> ?_⟩
  have es:(VW.tog a x y).spot X.M p=x.spot X.M p:=if_pos h
  have ev:(VW.tog a x y).val X.M c p=x.val X.M c p:=if_pos h
  rw[es,ev]
  exact a4 c (uG hc).1
 ·obtain⟨d,kvs,a1,a2,a3,a4⟩:=ok' (p- x.num X.M) (by omega)
  refine⟨d,kvs,by rw[List.getElem?_append_right (by omega),l];exact a1,a2,a3,fun c hc=> ?_⟩
  have es:(VW.tog a x y).spot X.M p=y.spot X.M (p- x.num X.M):=if_neg h
  have ev:(VW.tog a x y).val X.M c p=y.val X.M c (p- x.num X.M):=if_neg h
  rw[es,ev]
  exact a4 c (uG hc).2
structure E44(K:Fg)(X:VC)(Hz:Hp)(a:Addr)(ns:List Int)(lsm lvw lrw:Addr)(c L va:Nat->Addr)(s:Addr):Prop where
 sc:aI K Hz a (ns.map V.int)
 fr:∀x o,Hz x=some o->X.Free x
 sm:Hz lsm=some (.lst [.ref (c 0),.ref (c 1)])
 vw:Hz lvw=some (.lst [.ref (va 0),.ref (va 1)])
 rw:Hz lrw=some (.lst [.ref (L 0),.ref (L 1)])
 co:∀i,i<2->Hz (c i)=some (.lst ((X.M.cols s (tn i)).map V.str))/\∀z∈X.M.cols s (tn i),Nl z
 vi:∀i,i<2->X.At Hz (.whole (va i) s (tn i))/\X.Dat K Hz (.whole (va i) s (tn i)) (L i)
 iz:∀H,X.Inv H->aE Hz H
abbrev nJ(P:Program)(w:World)(K:Fg)(mg:Str->Option Value)(base:Heap)(f:Addr)(c:Value)(A:Around)(outer:List Env)(s:Shared)(H:Hp)(E:XK):Cx:=(dI aC P w K mg base Nlaw "law" (aB fG) f c A outer s H E).nox
theorem rH{α:Type}(f:Nat->α){i:Nat}(hi:i<2):[f 0,f 1][i]?=some (f i):=by
 rcases(eI (n:=i))with rfl|rfl<;>rfl
theorem b3w(T:bA K mg){CS CU CJ:Addr}(Y:dU K mg CS)(Uc:mU K mg CU)(Jc:lY K mg CJ){f:Addr}{cdv:Value}(A:Around)(outer:List Env)(s:Shared)(H:Hp)(Q:VK)(E:XK)(hr:bO 17 (A.deeper (PyProof.Rows.envOfC "law" (aB fG) s.heap.objs.size f cdv)))(q:∀H',Q (.bl true) H'):
 ∃t,dC (nJ P w K mg base f cdv A outer s H E) ((aP fG).drop 11) t/\
  ∀(H1 Hz:Hp) (X:VC) (a sh lsm lvw lrw:Addr) (ns:List Int) (c L va:Nat->Addr) (o1 o2 o3 o4 o6 o7 o10 o11 o12 o13:Option V),SI P w K mg base CS 7 X->VT K mg X->X.CU=CU->X.CJ=CJ->E44 K X Hz a ns lsm lvw lrw c L va sh->X.Inv H1->(∀i,i<2->X.M.many sh (tn i)<=30)->
   t {nx:=fun _ H'=>Q .non H',rt:=Q} [some (.ref a),o1,o2,o3,o4,some (.ref lsm),o6,o7,some (.ref lvw),some (.ref lrw),o10,o11,o12,o13,none,none,none,none,none,none,none] H1:=by
 have G_cell:bK P w K mg base aC 1 "_law_cell_at" ["_law_script","_law_k"] (tQ K):=jS T
 have G_ck:bK P w K mg base aC 13 "_law_checked" ["_law_view","_law_columns","_law_rows_here"] (a66 P w K mg base CS 7 3):=qS T (by decide) Y.cl 3
 have GU:cI P w K mg base aC 3 CU ["self","view","start","count"] (spUI CU):=pX T Uc
 have GJ:cI P w K mg base aC 1 CJ ["self","one","other"] (spJI CJ):=pU T Jc
 have hcl:∀x,(nJ P w K mg base f cdv A outer s H E).env.scope.names.lookup x=some .cell->∃c,(nJ P w K mg base f cdv A outer s H E).env.cells.lookup x=some c:=fun x hx=>Option.isSome_iff_exists.mp (PySem.W.cellsFrom_some _ _ _ (.inl hx))
 refine⟨_,(aK (bW (i:=14) cO.nd rfl (Or.inl rfl) (bI dJ (bP G_cell (hr.mono (by decide)) aM (aA (pv 0) (aA aS aD))) aS))
  (aK (bW (i:=15) cO.nd rfl (Or.inl rfl) (bI dJ (bP G_cell (hr.mono (by decide)) aM (aA (pv 0) (aA aS aD))) aS))
  (aK (bW (i:=16) cO.nd rfl (Or.inl rfl) (gH GU (hr.mono (by decide)) Uc.c aM (aA (bM cC (pv 8) aS (fun _ _=>rfl)) (aA (pv 14) (aA (pv 15) aD)))))
  (aK (bY (dF (dG (bP G_ck (hr.mono (by decide)) aM (aA (pv 16) (aA (bM cC (pv 5) aS (fun _ _=>rfl)) (aA (gZ gT (bM cC (pv 9) aS (fun _ _=>rfl)) (fH (pv 14)) (fH (bI fY (pv 14) (pv 15)))) aD)))) (fun _=>rfl))) (aL (bH iR)) cB)
  (aK (bW (i:=17) cO.nd rfl (by first|exact Or.inl rfl|exact Or.inr rfl) (bI a1A aS (bI jT (bI dJ (bP G_cell (hr.mono (by decide)) aM (aA (pv 0) (aA aS aD))) aS) aS)))
  (aK (b0Y (tt:=tD (jI (tF K false) (eS 0) (jI (rIxL K) (eS 1) (eS 2)))) (i:=18) cO.nd rfl rfl (lE (sc:=aB fG) (N:=Nlaw) (cp:=[(5,"_law_some"),(17,"_law_other")]) hcl) rfl rfl (by decide) (gG (bM cC (pv 5) aS (fun _ _=>rfl))) (fun _ _ _ _ _=>(a83 (cW pF (pv 0) (bM cC (pv 1) (pv 2) (fun _ _=>rfl)) (by with_unfolding_all rfl)))) (fun _ _ _ _ _=>(pv 0)) rfl)
  (aK (bW (i:=19) cO.nd rfl (Or.inl rfl) (gH GJ (hr.mono (by decide)) Jc.c aM (aA (pv 16) (aA (bM cC (pv 8) (pv 17) (fun _ _=>rfl)) aD))))
  (aK (bW (i:=20) cO.nd rfl (Or.inl rfl) (bI sY (gZ gT (bM cC (pv 9) aS (fun _ _=>rfl)) (fH (pv 14)) (fH (bI fY (pv 14) (pv 15)))) (bM cC (pv 9) (pv 17) (fun _ _=>rfl))))
  (aK (bY (dF (dG (bP G_ck (hr.mono (by decide)) aM (aA (pv 19) (aA (pv 18) (aA (pv 20) aD)))) (fun _=>rfl))) (aL (bH iR)) cB)
  (aK (bW (i:=14) cO.nd rfl (Or.inl rfl) (bI dJ (bP G_cell (hr.mono (by decide)) aM (aA (pv 0) (aA aS aD))) aS))
  (aK (bW (i:=15) cO.nd rfl (Or.inl rfl) (bI dJ (bI jT (bP G_cell (hr.mono (by decide)) aM (aA (pv 0) (aA aS aD))) aS) aS))
  (aL (bH (bP G_ck (hr.mono (by decide)) aM (aA (gH GU (hr.mono (by decide)) Uc.c aM (aA (pv 19) (aA (pv 14) (aA (pv 15) aD)))) (aA (pv 18) (aA (gZ gT (pv 20) (fH (pv 14)) (fH (bI fY (pv 14) (pv 15)))) aD))))))))))))))))),?_⟩
 intro H1 Hz X a sh lsm lvw lrw ns c L va o1 o2 o3 o4 o6 o7 o10 o11 o12 o13 I Z eU eJ S i1 m30
 subst eU eJ
 have z1:=S.iz H1 i1
 obtain⟨At0,Dt0⟩:=S.vi 0 (by decide)
 obtain⟨co0,nl0⟩:=S.co 0 (by decide)
 have nat9:∀(z m:Int),0<m->∃k:Nat,z% m=(k:Int):=fun z m h=>⟨(z% m).toNat,by have:=Int.emod_nonneg z (show m≠0 by omega);omega⟩
 refine⟨_,rfl,a,ns,2,rfl,z1.seq S.sc,fun g1=>⟨_,_,rfl,rfl,(show(0:Int)<9 by decide),?_⟩⟩
 refine⟨_,rfl,a,ns,3,rfl,z1.seq S.sc,fun g2=>⟨_,_,rfl,rfl,(show(0:Int)<9 by decide),?_⟩⟩
 obtain⟨i,ei⟩:=nat9 g1 9 (by decide)
 obtain⟨n,en⟩:=nat9 g2 9 (by decide)
 refine⟨_,rfl,lvw,_,_,.ref (va 0),rfl,rfl,aI.of (z1 _ _ S.vw),rfl,_,rfl,_,rfl,?_⟩
 intro u du hu' hdu ne
 refine⟨u,du,va 0,i,n,by rw[<- ei,<- en];rfl,aH,fun H2 b2 e2=>⟨rfl,?_⟩⟩
 have s2:aE H1 H2:=fun x o' e=>b2 _ _ (bD e hu') (by rw[aF (bD e hu'),aF (bD e hdu)];exact e)
 have i2:=I.same i1 s2
 have z2:=S.iz H2 i2
 have fu:X.Free u:=I.new i1 hu'
 obtain⟨_,d0,ed0,ld0,_⟩:=id Dt0
 have fz:∀{H':Hp},X.Inv H'->bG X.Free Hz H':=fun h=>bG.of (S.iz _ h)
 refine⟨_,rfl,_,rfl,lsm,_,_,.ref (c 0),rfl,rfl,aI.of (z2 _ _ S.sm),rfl,_,rfl,lrw,_,_,.ref (L 0),rfl,rfl,aI.of (z2 _ _ S.rw),rfl,_,rfl,_,rfl,_,rfl,_,rfl,_,_,rfl,rfl,_,rfl,L 0,d0,rfl,aI.of (z2 _ _ ed0),fun l3 hl3=> ?_⟩
 have s3:=aE.new (o:=.lst (bF d0 (some (g1% 9)) (some (g1% 9+ g2% 9)))) hl3
 have e3:upd H2 l3 (.lst (bF d0 (some (g1% 9)) (some (g1% 9+ g2% 9)))) l3=some (.lst (bF d0 (some (g1% 9)) (some (g1% 9+ g2% 9)))):=aH
 rw[ei,en]at e3
 have i3:=I.same i2 s3
 rw[ei,en]at i3 s3
 have At3:∀{H':Hp},X.Inv H'->(∃dx,H' u=some (.ins X.CU dx (jP (va 0) i n)))->X.At H' (.cut u (.whole (va 0) sh (tn 0)) i n):=fun h e=>⟨fu,e,At0.fr (fz h)⟩
 refine⟨X,I,Z,.cut u (.whole (va 0) sh (tn 0)) i n,c 0,l3,rfl,(show 1<=3 by decide),?_,?_,S.fr _ _ co0,?_,nl0,?_,fun H4 i4 f4=>⟨_,rfl,bL ?_⟩⟩
 ·rw[ei,en]
  exact At3 i3 ⟨du,s3 _ _ e2⟩
 ·rw[ei,en]
  exact i3
 ·rw[ei,en]
  exact s3 _ _ (z2 _ _ co0)
 ·rw[ei,en]
  exact(Dt0.fr (fz i3)).cut ((S.iz _ i3) _ _ ed0) (I.new i2 hl3) e3
 rw[ei,en]at f4
 have z4:=S.iz H4 i4
 have eu4:H4 u=some (.ins X.CU du (jP (va 0) i n)):=f4.k _ _ fu (fun _ y=>by cases y) (s3 _ _ e2)
 refine⟨_,rfl,a,ns,4,rfl,z4.seq S.sc,fun g3=>⟨_,_,rfl,rfl,(show(0:Int)<3 by decide),_,_,rfl,rfl,⟨by decide,by decide⟩,_,_,rfl,rfl,?_⟩⟩
 obtain⟨o,ho,eo⟩:∃o:Nat,o<2/\(1:Int)- g3% 3/ 2=(o:Int):=by
  have h1:=Int.emod_nonneg g3 (show(3:Int)≠0 by decide)
  have h2:=Int.emod_lt_of_pos g3 (show(0:Int)<3 by decide)
  exact⟨((1:Int)- g3% 3/ 2).toNat,by omega,by omega⟩
 obtain⟨Ato,Dto⟩:=S.vi o ho
 obtain⟨coo,nlo⟩:=S.co o ho
 have len0:(X.M.cols sh (tn 0)).length<=30:=(At0.num).2
 refine⟨_,rfl,lsm,_,_,.ref (c 0),rfl,rfl,aI.of (z4 _ _ S.sm),rfl,c 0,rfl,⟨_,aI.of (z4 _ _ co0)⟩,fun D hD=> ?_⟩
 refine a70 (K:=K) (a:=c 0) (xs:=(X.M.cols sh (tn 0)).map V.str) (fun j ys H5=>aE H4 H5/\ys=(((X.M.cols sh (tn 0)).take j).filter fun z=>decide (z∈X.M.cols sh (tn o))).map V.str) ⟨aE.new hD,rfl⟩ (by rintro j ys H5 _ ⟨s5,_⟩;exact aI.of (s5 _ _ (z4 _ _ co0))) ?_ ?_
 ·rintro j z ys H5 hz h5 ⟨s5,rfl⟩
  rw[List.getElem?_map]at hz
  cases ec:(X.M.cols sh (tn 0))[j]? with
  |none=>rw[ec]at hz;cases hz
  |some z=>
   rw[ec]at hz
   obtain rfl:=Option.some.inj hz
   refine⟨_,rfl,_,rfl,_,rfl,lsm,_,_,.ref (c o),rfl,rfl,aI.of (s5 _ _ (z4 _ _ S.sm)),?_,c o,_,rfl,.inl (aI.of (s5 _ _ (z4 _ _ coo))),rfl,iK _,_,rfl,?_⟩
   ·show cT [V.ref (c 0),V.ref (c 1)] (1- g3% 3/ 2)=_
    rw[eo]
    exact fZ (rH (fun k=>V.ref (c k)) ho)
   rw[show (if false=true then !dL (.str z) ((X.M.cols sh (tn o)).map V.str) else dL (.str z) ((X.M.cols sh (tn o)).map V.str))=decide (z∈X.M.cols sh (tn o))by rw[if_neg Bool.false_ne_true,jM]]
   have fs:=a84 (fun z=>decide (z∈X.M.cols sh (tn o))) _ j z ec
   by_cases hc:z∈X.M.cols sh (tn o)
   ·rw[if_pos (decide_eq_true hc)]at fs
    rw[decide_eq_true hc]
    refine dY ⟨_,rfl,h5,cK ?_,s5.on hD,?_⟩
    ·rw[List.length_map]
     have h1:=List.length_filter_le (fun z=>decide (z∈X.M.cols sh (tn o))) ((X.M.cols sh (tn 0)).take j)
     rw[List.length_take]at h1
     omega
    ·rw[fs,List.map_append]
     rfl
   ·have hcf:decide (z∈X.M.cols sh (tn o))=false:=decide_eq_false hc
    rw[if_neg (by rw[hcf];exact Bool.false_ne_true)]at fs
    rw[hcf]
    exact bL ⟨_,h5,s5,by rw[fs,List.append_nil]⟩
 rintro ys H5 h5 ⟨s5,rfl⟩
 rw[List.length_map,List.take_length]at h5
 have i5:=I.same i4 s5
 have z5:=S.iz H5 i5
 have fD:X.Free D:=I.new i4 hD
 have eu5:=s5 _ _ eu4
 have atvo:cT [V.ref (va 0),V.ref (va 1)] (1- g3% 3/ 2)=some (.ref (va o)):=by
  rw[eo]
  exact fZ (rH (fun k=>V.ref (va k)) ho)
 have atLo:cT [V.ref (L 0),V.ref (L 1)] (1- g3% 3/ 2)=some (.ref (L o)):=by
  rw[eo]
  exact fZ (rH (fun k=>V.ref (L k)) ho)
 refine⟨_,rfl,_,rfl,_,rfl,lvw,_,_,.ref (va o),rfl,rfl,aI.of (z5 _ _ S.vw),atvo,?_⟩
 intro j dj hj hdj ne2
 refine⟨j,dj,u,va o,rfl,aH,fun H6 b6 e6=>⟨rfl,?_⟩⟩
 have s6:aE H5 H6:=fun x o' e=>b6 _ _ (bD e hj) (by rw[aF (bD e hj),aF (bD e hdj)];exact e)
 have i6:=I.same i5 s6
 have z6:=S.iz H6 i6
 have fj:X.Free j:=I.new i5 hj
 obtain⟨_,do',edo,ldo,_⟩:=id Dto
 refine⟨_,rfl,lrw,_,_,.ref (L 0),rfl,rfl,aI.of (z6 _ _ S.rw),rfl,_,rfl,_,rfl,_,rfl,_,rfl,_,_,rfl,rfl,_,rfl,L 0,d0,rfl,aI.of (z6 _ _ ed0),fun l7 hl7=> ?_⟩
 have s7:=aE.new (o:=.lst (bF d0 (some (g1% 9)) (some (g1% 9+ g2% 9)))) hl7
 have e7:upd H6 l7 (.lst (bF d0 (some (g1% 9)) (some (g1% 9+ g2% 9)))) l7=some (.lst (bF d0 (some (g1% 9)) (some (g1% 9+ g2% 9)))):=aH
 generalize upd H6 l7 (.lst (bF d0 (some (g1% 9)) (some (g1% 9+ g2% 9))))=H7 at s7 e7|-
 rw[ei,en]at e7
 have i7:=I.same i6 s7
 have z7:=S.iz H7 i7
 have cl7:=(wJ d0 i n).1
 have m0:=m30 0 (by decide)
 have mo:=m30 o ho
 have n0:d0.length<=30:=by rw[ld0];exact m0
 have no:do'.length<=30:=by rw[ldo];exact mo
 refine⟨_,rfl,_,rfl,lrw,_,_,.ref (L o),rfl,rfl,aI.of (z7 _ _ S.rw),atLo,l7,L o,_,do',rfl,rfl,e7,z7 _ _ edo,Nat.le_of_lt (cK (by omega)),fun l8 hl8=> ?_⟩
 have s8:=aE.new (o:=.lst (bF d0 (some (i:Int)) (some ((i:Int)+ (n:Int)))++ do')) hl8
 have e8:upd H7 l8 (.lst (bF d0 (some (i:Int)) (some ((i:Int)+ (n:Int)))++ do')) l8=some (.lst (bF d0 (some (i:Int)) (some ((i:Int)+ (n:Int)))++ do')):=aH
 generalize upd H7 l8 (.lst (bF d0 (some (i:Int)) (some ((i:Int)+ (n:Int)))++ do'))=H8 at s8 e8|-
 have i8:=I.same i7 s8
 have s58:=(s6.trans s7).trans s8
 have s68:=s7.trans s8
 have At8:∀{H':Hp},X.Inv H'->bG X.Free H8 H'->X.At H' (.tog j (.cut u (.whole (va 0) sh (tn 0)) i n) (.whole (va o) sh (tn o))):=fun{H'} h f=>⟨fj,by
  show min n (X.M.many sh (tn 0)- i)+ X.M.many sh (tn o)<=500
  omega,⟨dj,f.k _ _ fj (fun _ y=>by cases y) (s68 _ _ e6)⟩,At3 h ⟨du,f.k _ _ fu (fun _ y=>by cases y) (s58 _ _ eu5)⟩,Ato.fr (fz h)⟩
 have Dt8:X.Dat K H8 (.tog j (.cut u (.whole (va 0) sh (tn 0)) i n) (.whole (va o) sh (tn o))) l8:=
  VC.Dat.tog ((Dt0.fr (fz i8)).cut ((S.iz _ i8) _ _ ed0) (I.new i6 hl7) (s8 _ _ e7)) (Dto.fr (fz i8)) (s8 _ _ e7) ((S.iz _ i8) _ _ edo) (I.new i7 hl8) e8
 have nl8:∀z∈(VW.tog j (.cut u (.whole (va 0) sh (tn 0)) i n) (.whole (va o) sh (tn o))).cols X.M,Nl z:=fun z hz=>nl0 z (uG hz).1
 refine⟨_,rfl,_,rfl,_,rfl,X,I,Z,.tog j (.cut u (.whole (va 0) sh (tn 0)) i n) (.whole (va o) sh (tn o)),D,l8,rfl,(show 2<=3 by decide),At8 i8 (bG.of (aE.refl _)),i8,fD,s58 _ _ h5,nl8,Dt8,fun H9 i9 f9=>⟨_,rfl,bL ?_⟩⟩
 have z9:=S.iz H9 i9
 refine⟨_,rfl,a,ns,5,rfl,z9.seq S.sc,fun g5=>⟨_,_,rfl,rfl,(show(0:Int)<5 by decide),?_⟩⟩
 refine⟨_,rfl,a,ns,5,rfl,z9.seq S.sc,fun g6=>⟨_,_,rfl,rfl,⟨by decide,by decide⟩,_,_,rfl,rfl,(show(0:Int)<7 by decide),?_⟩⟩
 obtain⟨i',ei'⟩:=nat9 g5 5 (by decide)
 obtain⟨n',en'⟩:=nat9 (g6/ 5) 7 (by decide)
 refine⟨_,rfl,_,rfl,_,rfl,?_⟩
 intro x dx hx hdx ne3
 refine⟨x,dx,j,i',n',by rw[<- ei',<- en'];rfl,aH,fun Ha ba ea=>⟨rfl,?_⟩⟩
 have sa:aE H9 Ha:=fun x' o' e=>ba _ _ (bD e hx) (by rw[aF (bD e hx),aF (bD e hdx)];exact e)
 have ia:=I.same i9 sa
 have fx:X.Free x:=I.new i9 hx
 have f8a:=f9.trans (bG.of sa)
 have fl8:X.Free l8:=I.new i7 hl8
 have e8a:=f8a.k _ _ fl8 (fun _ y=>by cases y) e8
 have hDa:=f8a.k _ _ fD (fun _ y=>by cases y) (s58 _ _ h5)
 refine⟨_,rfl,_,rfl,_,rfl,_,rfl,_,rfl,_,rfl,_,_,rfl,rfl,_,rfl,l8,_,rfl,aI.of e8a,fun lb hlb=> ?_⟩
 have sb:=aE.new (o:=.lst (bF (bF d0 (some (i:Int)) (some ((i:Int)+ (n:Int)))++ do') (some (g5% 5)) (some (g5% 5+ g6/ 5% 7)))) hlb
 have eb:upd Ha lb (.lst (bF (bF d0 (some (i:Int)) (some ((i:Int)+ (n:Int)))++ do') (some (g5% 5)) (some (g5% 5+ g6/ 5% 7)))) lb=some (.lst (bF (bF d0 (some (i:Int)) (some ((i:Int)+ (n:Int)))++ do') (some (g5% 5)) (some (g5% 5+ g6/ 5% 7)))):=aH
 generalize upd Ha lb (.lst (bF (bF d0 (some (i:Int)) (some ((i:Int)+ (n:Int)))++ do') (some (g5% 5)) (some (g5% 5+ g6/ 5% 7))))=Hb at sb eb|-
 rw[ei',en']at eb
 have ib:=I.same ia sb
 have f8b:=f8a.trans (bG.of sb)
 exact⟨X,I,Z,.cut x (.tog j (.cut u (.whole (va 0) sh (tn 0)) i n) (.whole (va o) sh (tn o))) i' n',D,lb,rfl,(show 3<=3 by decide),⟨fx,⟨dx,sb _ _ ea⟩,At8 ib f8b⟩,ib,fD,sb _ _ hDa,nl8,(Dt8.fr f8b).cut (sb _ _ e8a) (I.new ia hlb) eb,fun H' _ _=>q H'⟩
def a67(CS CB CT CW:Addr):Sp:=fun vs H Q _=>∃(p dx s bd ch fi ds:Addr) (kb:List (aG×V)) (nm:Str) (B:BM),vs= [.ref p,.ref s,.str nm] /\H p=some (.ins CW dx [])/\H s=some (.ins CS ds (cM bd ch fi))/\H bd=some (.dK kb)/\Nl nm/\aZ kb (.inr nm:aG)=some (.ref B.b)/\cE CB CT H B/\∀H',bE p H H'->H' p=some (.ins CW dx (iW s nm))->Q .non H'
theorem a9J(T:bA K mg){CS CB CT CW:Addr}(Y:dU K mg CS)(Wb:cV K mg CB)(U:cX K mg CT)(Wh:qP K mg CW):cI P w K mg base aC 4 CW ["self","sheet","table"] (a67 CS CB CT CW):=by
 have G:aN P w K mg base aC 3 CS "many" ["self","table"] (a8t CS CB CT):=mI T Y Wb U
 refine(Wh.m_init.known a8x (fun _ _ _ _ _ _ us hl=>cN (fun _ _ _=>rfl) us hl) (fun vs H Q E h=> ?_) (fun f cdv A outer s H vs Q E hr h=> ?_)).init Wh.mks Wh.kc
 ·obtain⟨p,dx,s',bd,ch,fi,ds,kb,nm,B,rfl,_⟩:=h
  rfl
 ·obtain⟨p,dx,s',bd,ch,fi,ds,kb,nm,B,rfl,hp,hs,hb,hn,hv,hB,q⟩:=h
  refine⟨_,(aK (bX (cH (pv 1) Y.cl G hr aM (aA (pv 2) aD)))
   (aK (bR (pv 0) (pv 1) rfl)
   (aL (bR (pv 0) (pv 2) rfl)))),?_⟩
  refine⟨_,rfl,s',ds,_,rfl,hs,eO,_,rfl,s',bd,ch,fi,ds,kb,nm,B,rfl,hs,hb,hn,hv,hB,fun H1 s1=> ?_⟩
  refine⟨_,rfl,_,rfl,p,CW,dx,[],rfl,s1 _ _ hp,Wh.cl,Wh.n_sheet,by decide,?_⟩
  refine⟨_,rfl,_,rfl,p,CW,dx,_,rfl,aH,Wh.cl,Wh.n_name,(show 1<1000 by decide),?_⟩
  exact q _ (((bE.of s1).trans bE.upd).trans bE.upd) aH
end
section
variable{K:Fg}
structure PG(CB CT:Addr)(m:Nat)(cs:List Str)(ys:Nat->List V)(B:BM)(i nq:Nat)(r:Addr->Nat)(H:Hp):Prop where
 bt:cE CB CT H B
 xs:B.xs=cY 0 m
 rus:B.rus= []
 ord:B.ord=cs.take nq
 kl:B.kvs.length<=nq
 lr:r B.r=30+ i/\r B.od=10+ i/\r B.e=20+ i/\r B.ru=40+ i/\r B.me=50+ i
 l0:r B.b=0/\r B.g=0
 co:∀j c,j<nq->cs[j]?=some c->∃l,aZ B.kvs (.inr c:aG)=some (.ref l)/\r l=0/\H l=some (.lst (ys j))
def kS(K:Fg)(m:Nat)(nm:Str)(cs:List Str)(ds:Nat->List PyData)(L:Addr)(r:Addr->Nat)(H:Hp):Prop:=r L=0/\∃dv:List V,H L=some (.lst dv)/\dv.length=m/\∀p,p<m->∃d kvs,dv[p]?=some (.ref d)/\r d=0/\H d=some (.dK kvs)/\∀j c,cs[j]?=some c->∃t y l t3,aZ kvs (.inr c:aG)=some (.ref t)/\H t=some (.tup [y,.ref l])/\r l=0/\H l=some (.lst [.ref t3])/\H t3=some (.tup [.str nm,.str c,.int (p:Int)])/\Pv K H y ((ds j).getD p .none)
def gE(i l:Nat):Prop:=l=0\/ l=30+ i\/ l=10+ i\/ l=20+ i\/ l=40+ i\/ l=50+ i
section
variable{CS CF CB CT CW:Addr}{m:Nat}{cs:List Str}{ys:Nat->List V}{B:BM}{i nq:Nat}{r r':Addr->Nat}{H H':Hp}{ds:Nat->List PyData}{nm:Str}{L:Addr}
theorem PG.mv{Bad:Nat->Prop}(hb:∀l,gE i l->¬Bad l)(g:∀x,H x≠none->r' x=r x)(fr:∀x o,¬Bad (r x)->H x=some o->H' x=some o)(h:PG CB CT m cs ys B i nq r H):PG CB CT m cs ys B i nq r' H':=by
 obtain⟨a,b,c,d,e⟩:=h.lr
 obtain⟨b0,g0⟩:=h.l0
 obtain⟨⟨d1,e1⟩,⟨⟨d2,e2⟩,e3,e4⟩,e5,e6,e7⟩:=h.bt
 have k:∀{x:Addr} {o:HO},H x=some o->gE i (r x)->H' x=some o/\r' x=r x:=fun{x o} e p=>⟨fr x o (hb _ p) e,g x (by rw[e];exact fun y=>by cases y)⟩
 have k1:=k e1 (.inl b0)
 have k2:=k e2 (.inl g0)
 have k3:=k e3 (by unfold gE;omega)
 have k4:=k e4 (by unfold gE;omega)
 have k5:=k e5 (by unfold gE;omega)
 have k6:=k e6 (by unfold gE;omega)
 have k7:=k e7 (by unfold gE;omega)
 refine⟨⟨⟨d1,k1.1⟩,⟨⟨d2,k2.1⟩,k3.1,k4.1⟩,k5.1,k6.1,k7.1⟩,h.xs,h.rus,h.ord,h.kl,⟨k3.2.trans a,k7.2.trans b,k4.2.trans c,k5.2.trans d,k6.2.trans e⟩,⟨k1.2.trans b0,k2.2.trans g0⟩,fun j c h1 h2=> ?_⟩
 obtain⟨l,x1,x2,x3⟩:=h.co j c h1 h2
 have:=k x3 (.inl x2)
 exact⟨l,x1,this.2.trans x2,this.1⟩
theorem PG.sep(h:PG CB CT m cs ys B i nq r H)(hi:i<2):B.sep:=by
 obtain⟨a,b,c,d,e⟩:=h.lr
 have ne:∀{x y:Addr},r x≠r y->x≠y:=fun h e=>h (by rw[e])
 exact⟨ne (by omega),ne (by omega),ne (by omega),ne (by omega)⟩
theorem kS.mv(lb:∀x,r x≠0->Kd (H x))(g:∀x,H x≠none->r' x=r x)(fr:∀x o,r x=0->H x=some o->H' x=some o)(h:kS K m nm cs ds L r H):kS K m nm cs ds L r' H':=by
 have nn:∀{x:Addr} {o:HO},H x=some o->H x≠none:=fun e y=>by rw[e]at y;cases y
 have kt:bQ H H':=fun x xs e=>fr x _ (uY lb (by rw[e];exact id)) e
 obtain⟨h0,dv,e,l,ok⟩:=h
 refine⟨(g _ (nn e)).trans h0,dv,fr _ _ h0 e,l,fun p hp=> ?_⟩
 obtain⟨d,kvs,a1,a2,a3,a4⟩:=ok p hp
 refine⟨d,kvs,a1,(g _ (nn a3)).trans a2,fr _ _ a2 a3,fun j c hc=> ?_⟩
 obtain⟨t,y,l,t3,b1,b2,b3,b4,b5,b6⟩:=a4 j c hc
 exact⟨t,y,l,t3,b1,kt _ _ b2,(g _ (nn b4)).trans b3,fr _ _ b3 b4,kt _ _ b5,b6.keep kt⟩
end
structure cL(K:Fg)(CS CF CB CT CW:Addr)(H0:Hp)(r0:Addr->Nat)(s bd ch lvw lrw:Addr)(m:Nat->Nat)(cs:Nat->List Str)(ys:Nat->Nat->List V)(ds:Nat->Nat->List PyData)(B:Nat->BM)(va L:Nat->Addr)(fi fd lk:Addr)(cg:List V)(kb:List (aG×V))(vv rr:List V)(k:Nat)(r:Addr->Nat)(H:Hp):Prop where
 lb:∀x,r x≠0->Kd (H x)
 rh:∀x,H0 x≠none->r x=r0 x
 old:∀x o,r0 x=0->H0 x=some o->H x=some o
 sh:(∃dx,H s=some (.ins CS dx (cM bd ch fi)))/\H ch=some (.lst cg)/\H bd=some (.dK kb)/\(∃df,H fi=some (.ins CF df (eT bd fd lk)))/\H fd=some (.dT [])
 zf:r fi=0
 ls:r s=1/\r ch=2/\r bd=3
 lv:r lvw=4/\H lvw=some (.lst vv)
 lw:r lrw=5/\H lrw=some (.lst rr)
 pb:∀i,i<k->PG CB CT (m i) (cs i) (ys i) (B i) i (cs i).length r H
 vi:∀i,i<k->r (va i)=0/\∃dx,H (va i)=some (.ins CW dx (iW s (tn i)))
 ro:∀i,i<k->kS K (m i) (tn i) (cs i) (ds i) (L i) r H
section
variable{CS CF CB CT CW:Addr}{H0:Hp}{r0:Addr->Nat}{s bd ch lvw lrw:Addr}{m:Nat->Nat}{cs:Nat->List Str}{ys:Nat->Nat->List V}{ds:Nat->Nat->List PyData}{B:Nat->BM}{va L:Nat->Addr}{fi fd lk:Addr}{cg:List V}{kb:List (aG×V)}{vv rr vv' rr':List V}{k:Nat}{r r':Addr->Nat}{H H':Hp}
theorem cL.rh'(N:cL K CS CF CB CT CW H0 r0 s bd ch lvw lrw m cs ys ds B va L fi fd lk cg kb vv rr k r H)(g:∀x,H x≠none->r' x=r x):∀x,H0 x≠none->r' x=r0 x:=fun x hx=>by
 have e:=N.rh x hx
 by_cases h0:r0 x=0
 ·cases e2:H0 x with
  |none=>exact absurd e2 hx
  |some o=>rw[g x (by rw[N.old x o h0 e2];exact fun y=>by cases y),e]
 ·rw[g x (N.lb x (by rw[e];exact h0)).ne,e]
def gW(k l:Nat):Prop:=l=1\/ l=2\/ l=3\/ l=10+ k\/ l=20+ k
theorem cL.sheet(N:cL K CS CF CB CT CW H0 r0 s bd ch lvw lrw m cs ys ds B va L fi fd lk cg kb vv rr k r H)(hk:k<2)(g:∀x,H x≠none->r' x=r x)(lb':∀x,r' x≠0->Kd (H' x))(fr:∀x o,¬gW k (r x)->H x=some o->H' x=some o){fi' fd' lk':Addr}{cg':List V}{kb':List (aG×V)}(Fr:sJ CS CF s bd ch fi' fd' lk' cg' kb' H H')(zf':r' fi'=0):cL K CS CF CB CT CW H0 r0 s bd ch lvw lrw m cs ys ds B va L fi' fd' lk' cg' kb' vv rr k r' H':=by
 have c0:¬gW k 0:=by unfold gW;omega
 have nn:∀{x:Addr} {o:HO},H x=some o->H x≠none:=fun e y=>by rw[e]at y;cases y
 obtain⟨f1,f2,f3,f4,f5,_⟩:=Fr
 obtain⟨⟨dx,s1⟩,s2,s3,⟨df,s4⟩,s5⟩:=N.sh
 obtain⟨l1,l2,l3⟩:=N.ls
 obtain⟨v1,v2⟩:=N.lv
 obtain⟨w1,w2⟩:=N.lw
 refine⟨lb',N.rh' g,fun x o h0 e=>fr x o (by rw[N.rh x (fun y2=>by rw[e]at y2;cases y2),h0];exact c0) (N.old x o h0 e),⟨f1,f2,f3,f4,f5⟩,zf',⟨(g _ (nn s1)).trans l1,(g _ (nn s2)).trans l2,(g _ (nn s3)).trans l3⟩,⟨(g _ (nn v2)).trans v1,fr _ _ (by unfold gW;omega) v2⟩,⟨(g _ (nn w2)).trans w1,fr _ _ (by unfold gW;omega) w2⟩,fun i hi=>(N.pb i hi).mv (Bad:=gW k) (fun l hl=>by unfold gE at hl;unfold gW;omega) g fr,fun i hi=> ?_,fun i hi=>(N.ro i hi).mv N.lb g fun x o h e=>fr x o (by rw[h];exact c0) e⟩
 obtain⟨a,dx',b⟩:=N.vi i hi
 exact⟨(g _ (nn b)).trans a,dx',fr _ _ (by rw[a];exact c0) b⟩
theorem cL.lists(N:cL K CS CF CB CT CW H0 r0 s bd ch lvw lrw m cs ys ds B va L fi fd lk cg kb vv rr k r H)(hk:k<=2)(fr:∀x o,x≠lvw->x≠lrw->H x=some o->H' x=some o)(ev:H' lvw=some (.lst vv'))(er:H' lrw=some (.lst rr')):cL K CS CF CB CT CW H0 r0 s bd ch lvw lrw m cs ys ds B va L fi fd lk cg kb vv' rr' k r H':=by
 obtain⟨⟨dx,s1⟩,s2,s3,⟨df,s4⟩,s5⟩:=N.sh
 obtain⟨l1,l2,l3⟩:=N.ls
 have zd:r fd=0:=uY N.lb (by rw[s5];exact id)
 have zf:=N.zf
 have v1:=N.lv.1
 have w1:=N.lw.1
 have fr':∀x o,¬(r x=4\/ r x=5)->H x=some o->H' x=some o:=fun x o n e=>fr x o (fun y=>n (.inl (by rw[y];exact v1))) (fun y=>n (.inr (by rw[y];exact w1))) e
 have mo:∀x,Kd (H x)->Kd (H' x):=tJ [lvw,lrw] (fun a ha=>by
  simp only[List.mem_cons,List.not_mem_nil,or_false]at ha
  rcases ha with rfl|rfl
  ·exact Kd.lst ev
  ·exact Kd.lst er) fun x o hx e=>by
   simp only[List.mem_cons,List.not_mem_nil,or_false,not_or]at hx
   exact fr x o hx.1 hx.2 e
 refine⟨fun x hx=>mo x (N.lb x hx),N.rh,fun x o h0 e=>fr' x o (by rw[N.rh x (fun y2=>by rw[e]at y2;cases y2),h0];decide) (N.old x o h0 e),⟨⟨dx,fr' _ _ (by omega) s1⟩,fr' _ _ (by omega) s2,fr' _ _ (by omega) s3,⟨df,fr' _ _ (by omega) s4⟩,fr' _ _ (by omega) s5⟩,zf,N.ls,⟨v1,ev⟩,⟨w1,er⟩,fun i hi=>(N.pb i hi).mv (Bad:=fun l=>l=4\/ l=5) (fun l hl=>by unfold gE at hl;omega) (fun _ _=>rfl) fr',fun i hi=> ?_,fun i hi=>(N.ro i hi).mv N.lb (fun _ _=>rfl) fun x o h e=>fr' x o (by omega) e⟩
 obtain⟨a,dx',b⟩:=N.vi i hi
 exact⟨a,dx',fr' _ _ (by omega) b⟩
theorem cL.same(N:cL K CS CF CB CT CW H0 r0 s bd ch lvw lrw m cs ys ds B va L fi fd lk cg kb vv rr k r H)(hk:k<=2)(s':aE H H'):cL K CS CF CB CT CW H0 r0 s bd ch lvw lrw m cs ys ds B va L fi fd lk cg kb vv rr k r H':=
 N.lists hk (fun x o _ _ e=>s' _ _ e) (s' _ _ N.lv.2) (s' _ _ N.lw.2)
theorem PG.same{m:Nat}{cs:List Str}{ys:Nat->List V}{B:BM}{i nq:Nat}(s:aE H H')(h:PG CB CT m cs ys B i nq r H):PG CB CT m cs ys B i nq r H':=h.mv (Bad:=fun _=>False) (fun _ _=>id) (fun _ _=>rfl) (fun x o _ e=>s _ _ e)
theorem cL.tab(N:cL K CS CF CB CT CW H0 r0 s bd ch lvw lrw m cs ys ds B va L fi fd lk cg kb vv rr k r H)(hk:k<2){fi' fd' lk' b g rr' e ru me od:Addr}{cg':List V}{kb':List (aG×V)}{m':Nat}(cs':List Str)(ys':Nat->List V)(Fr:sJ CS CF s bd ch fi' fd' lk' cg' kb' H H')(hB:cE CB CT H' ⟨b,g,rr',e,ru,me,od,cY 0 m',(m':Int),[],[],[],[]⟩)(sep:BM.sep ⟨b,g,rr',e,ru,me,od,cY 0 m',(m':Int),[],[],[],[]⟩)(nw:∀x∈ [b,g,rr',e,ru,me,od],H x=none)(u:∀x o,x≠s->x≠ch->x≠bd->H x=some o->H' x=some o):
 ∃r',cL K CS CF CB CT CW H0 r0 s bd ch lvw lrw m cs ys ds B va L fi' fd' lk' cg' kb' vv rr k r' H'/\PG CB CT m' cs' ys' ⟨b,g,rr',e,ru,me,od,cY 0 m',(m':Int),[],[],[],[]⟩ k 0 r' H':=by
 obtain⟨⟨d1,e1⟩,⟨⟨d2,e2⟩,e3,e4⟩,e5,e6,e7⟩:=id hB
 obtain⟨⟨dx,f1⟩,f2,f3,⟨df,f4⟩,f5,f6,f7,f8,f9,f10⟩:=id Fr
 obtain⟨n1,n2,n3,n4⟩:=sep
 have mo:∀x,Kd (H x)->Kd (H' x):=tJ [s,ch,bd] (fun a ha=>by
  simp only[List.mem_cons,List.not_mem_nil,or_false]at ha
  rcases ha with rfl|rfl|rfl
  ·exact Kd.ins f1
  ·exact Kd.lst f2
  ·exact Kd.dK f3) fun x o hx ex=>by
   simp only[List.mem_cons,List.not_mem_nil,or_false,not_or]at hx
   exact u x o hx.1 hx.2.1 hx.2.2 ex
 have ld:∀{x y:Addr} {xs ks},H' x=some (.lst xs)->H' y=some (.dK ks)->x≠y:=fun a b z=>by rw[z,b]at a;cases a
 have il:∀{x y C D:Addr} {fs xs},H' x=some (.ins C D fs)->H' y=some (.lst xs)->x≠y:=fun a b z=>by rw[z,b]at a;cases a
 have id':∀{x y C D:Addr} {fs xs},H' x=some (.ins C D fs)->H' y=some (.dK xs)->x≠y:=fun a b z=>by rw[z,b]at a;cases a
 have e1:H' b=some (.ins CB d1 (gX g ru me od)):=e1
 have e3:H' rr'=some (.lst (cY 0 m')):=e3
 have e4:H' e=some (.dK []):=e4
 have e5:H' ru=some (.dK []):=e5
 have e6:H' me=some (.dK []):=e6
 have e7:H' od=some (.lst []):=e7
 obtain⟨r',h1,h2,h3,h4⟩:=labs (r:=r) (H:=H) (H':=H') [(rr',30+ k),(od,10+ k),(e,20+ k),(ru,40+ k),(me,50+ k)] (by
  simp only[List.map_cons,List.map_nil,List.nodup_cons,List.mem_cons,List.not_mem_nil,or_false,not_or]
  exact⟨⟨n1,ld e3 e4,ld e3 e5,ld e3 e6⟩,⟨ld e7 e4,ld e7 e5,ld e7 e6⟩,⟨n2,n3⟩,n4,not_false,List.nodup_nil⟩) N.lb mo (fun p hp=>by
  simp only[List.mem_cons,List.not_mem_nil,or_false]at hp
  rcases hp with rfl|rfl|rfl|rfl|rfl
  ·exact⟨nw rr' (by simp),Kd.lst e3⟩
  ·exact⟨nw od (by simp),Kd.lst e7⟩
  ·exact⟨nw e (by simp),Kd.dK e4⟩
  ·exact⟨nw ru (by simp),Kd.dK e5⟩
  ·exact⟨nw me (by simp),Kd.dK e6⟩)
 have zi:∀{x C D:Addr} {fs},H x=none->H' x=some (.ins C D fs)->r' x=0:=fun{x C D fs} h0 h=>by
  rw[h2 x (fun p hp=>by
   simp only[List.mem_cons,List.not_mem_nil,or_false]at hp
   rcases hp with rfl|rfl|rfl|rfl|rfl
   ·exact il h e3
   ·exact il h e7
   ·exact id' h e4
   ·exact id' h e5
   ·exact id' h e6),jE N.lb h0]
 obtain⟨l1,l2,l3⟩:=N.ls
 refine⟨r',N.sheet hk h3 h4 (fun x o hx ex=>u x o (fun y=>hx ?_) (fun y=>hx ?_) (fun y=>hx ?_) ex) Fr (zi f8 f4),⟨hB,rfl,rfl,rfl,Nat.le_refl _,⟨h1 (rr',30+ k) (by simp),h1 (od,10+ k) (by simp),h1 (e,20+ k) (by simp),h1 (ru,40+ k) (by simp),h1 (me,50+ k) (by simp)⟩,⟨zi (nw b (by simp)) e1,zi (nw g (by simp)) e2⟩,fun j c h=>by{omega}⟩⟩
 ·rw[y];exact .inl l1
 ·rw[y];exact .inr (.inl l2)
 ·rw[y];exact .inr (.inr (.inl l3))
theorem cL.give(N:cL K CS CF CB CT CW H0 r0 s bd ch lvw lrw m cs ys ds B va L fi fd lk cg kb vv rr k r H)(hk:k<2){m' q:Nat}{cs':List Str}{ys':Nat->List V}{Bk:BM}{c:Str}(nd:cs'.Nodup)(hc:cs'[q]?=some c)(C:PG CB CT m' cs' ys' Bk k q r H){fi' fd' lk' l:Addr}{cg':List V}{kb':List (aG×V)}(Fr:sJ CS CF s bd ch fi' fd' lk' cg' kb' H H')(hl0:H l=none)(hB:cE CB CT H' {Bk with kvs:=bJ Bk.kvs (.inr c:aG) (.ref l),ord:=Bk.ord++ [c]})(hl':H' l=some (.lst (ys' q)))(u:∀x o,x≠s->x≠ch->x≠Bk.od->x≠Bk.e->H x=some o->H' x=some o):
 cL K CS CF CB CT CW H0 r0 s bd ch lvw lrw m cs ys ds B va L fi' fd' lk' cg' kb' vv rr k r H'/\PG CB CT m' cs' ys' {Bk with kvs:=bJ Bk.kvs (.inr c:aG) (.ref l),ord:=Bk.ord++ [c]} k (q+ 1) r H'/\∀x o,¬gW k (r x)->H x=some o->H' x=some o:=by
 obtain⟨⟨dx,f1⟩,f2,f3,⟨df,f4⟩,f5,f6,f7,f8,f9,f10⟩:=id Fr
 have oB:=hB.ord
 have eB:=hB.tab.kept
 have mo:∀x,Kd (H x)->Kd (H' x):=tJ [s,ch,Bk.od,Bk.e] (fun a ha=>by
  simp only[List.mem_cons,List.not_mem_nil,or_false]at ha
  rcases ha with rfl|rfl|rfl|rfl
  ·exact Kd.ins f1
  ·exact Kd.lst f2
  ·exact Kd.lst oB
  ·exact Kd.dK eB) fun x o hx ex=>by
   simp only[List.mem_cons,List.not_mem_nil,or_false,not_or]at hx
   exact u x o hx.1 hx.2.1 hx.2.2.1 hx.2.2.2 ex
 obtain⟨l1,l2,l3⟩:=N.ls
 obtain⟨a1,a2,a3,a4,a5⟩:=C.lr
 have fr:∀x o,¬gW k (r x)->H x=some o->H' x=some o:=fun x o hx ex=>u x o (fun y=>hx (.inl (by rw[y];exact l1))) (fun y=>hx (.inr (.inl (by rw[y];exact l2)))) (fun y=>hx (.inr (.inr (.inr (.inl (by rw[y];exact a2)))))) (fun y=>hx (.inr (.inr (.inr (.inr (by rw[y];exact a3)))))) ex
 refine⟨N.sheet hk (fun _ _=>rfl) (fun x hx=>mo x (N.lb x hx)) fr Fr (jE N.lb f8),⟨hB,C.xs,C.rus,?_,?_,C.lr,C.l0,fun j c' hj hc'=> ?_⟩,fr⟩
 ·show Bk.ord++ [c]=_
  rw[C.ord,List.take_add_one,hc]
  rfl
 ·show(bJ Bk.kvs (.inr c:aG) (.ref l)).length<=q+ 1
  exact Nat.le_trans (oK _ _ _) (by have:=C.kl;omega)
 ·show∃l',aZ (bJ Bk.kvs (.inr c:aG) (.ref l)) (.inr c':aG)=some (.ref l')/\r l'=0/\H' l'=some (.lst (ys' j))
  by_cases h:j=q
  ·subst h
   rw[hc]at hc'
   obtain rfl:=Option.some.inj hc'
   exact⟨l,by rw[lS,if_pos rfl],jE N.lb hl0,hl'⟩
  ·obtain⟨l',b1,b2,b3⟩:=C.co j c' (by omega) hc'
   refine⟨l',?_,b2,fr _ _ (by rw[b2];unfold gW;omega) b3⟩
   rw[lS,if_neg (fun z=>h (by cases z;exact xK nd hc' hc))]
   exact b1
end
end
noncomputable def eZ {α:Type} (f:Nat->α) (k:Nat) (x:α):Nat->α:=fun k'=>if k'=k then x else f k'
theorem jW{α:Type}{f:Nat->α}{k:Nat}{x:α}:eZ f k x k=x:=if_pos rfl
theorem oN{α:Type}{f:Nat->α}{k k':Nat}{x:α}(h:k'≠k):eZ f k x k'=f k':=if_neg h
noncomputable def gJ (b:Nat->Addr) (k:Nat):List (aG×V):=[((.inr "one":aG),V.ref (b 0)),((.inr "two":aG),V.ref (b 1))].take k
noncomputable def dP (va:Nat->Addr) (k:Nat):List V:=[V.ref (va 0),V.ref (va 1)].take k
theorem b3C(b:Nat->Addr){k:Nat}(hk:k<2):aZ (gJ b k) (.inr (tn k):aG)=none:=by
 rcases(eI (n:=k))with rfl|rfl<;>rfl
theorem b30(b:Nat->Addr)(x:Addr){k:Nat}(hk:k<2):bJ (gJ b k) (.inr (tn k):aG) (.ref x)=gJ (eZ b k x) (k+ 1):=by
 rcases(eI (n:=k))with rfl|rfl<;>rfl
theorem a2o(b:Nat->Addr){i k:Nat}(hi:i<k)(hk:k<=2):aZ (gJ b k) (.inr (tn i):aG)=some (.ref (b i)):=by
 rcases(show k=1\/ k=2 by omega)with rfl|rfl
 ·obtain rfl:i=0:=by omega
  rfl
 ·rcases(eI (n:=i))with rfl|rfl<;>rfl
theorem b0D(b:Nat->Addr){k:Nat}(hk:k<=2):(gJ b k).length<4:=by
 unfold gJ
 rw[List.length_take]
 exact Nat.lt_of_le_of_lt (Nat.min_le_right _ _) (show 2<4 by decide)
theorem a82(va:Nat->Addr)(x:Addr){k:Nat}(hk:k<2):dP va k++ [V.ref x]=dP (eZ va k x) (k+ 1):=by
 rcases(eI (n:=k))with rfl|rfl<;>rfl
theorem a8F(va:Nat->Addr)(k:Nat):(dP va k).length<=2:=by
 unfold dP
 rw[List.length_take]
 exact Nat.min_le_right _ _
theorem b3H{k:Nat}(hk:k<2):cT [V.str ("one":Str),V.str ("two":Str)] (k:Int)=some (.str (tn k)):=by
 rcases(eI (n:=k))with rfl|rfl<;>rfl
noncomputable def oH:List Str->(Nat->List PyData)->Str->List PyData
 | [],_,_=> []
 |c::cs,ds,z=>if z=c then ds 0 else oH cs (fun j=>ds (j+ 1)) z
theorem a74{z:Str}:∀{cs:List Str} {ds:Nat->List PyData},z∈cs->∃j,cs[j]?=some z/\oH cs ds z=ds j
 | [],_,h=>by cases h
 |c::cs,ds,h=>by
  unfold oH
  by_cases e:z=c
  ·rw[if_pos e]
   exact⟨0,by rw[e];rfl,rfl⟩
  ·rw[if_neg e]
   obtain⟨j,h1,h2⟩:=a74 (ds:=fun j=>ds (j+ 1)) ((List.mem_cons.mp h).resolve_left e)
   exact⟨j+ 1,h1,h2⟩
theorem nE(k:Nat):Nl (tn k):=by
 unfold tn
 split
 ·exact a8C.1
 ·exact a8C.2
section
variable{K:Fg}
section
variable{CS CF CB CT CW:Addr}{H0:Hp}{r0:Addr->Nat}{s bd ch lvw lrw:Addr}{m:Nat->Nat}{cs:Nat->List Str}{ys:Nat->Nat->List V}{ds:Nat->Nat->List PyData}{B:Nat->BM}{va L:Nat->Addr}{fi fd lk:Addr}{cg:List V}{kb:List (aG×V)}{vv rr:List V}{k:Nat}{r:Addr->Nat}{H:Hp}
theorem cL.close(N:cL K CS CF CB CT CW H0 r0 s bd ch lvw lrw m cs ys ds B va L fi fd lk cg kb vv rr k r H){Bk:BM}{vk Lk:Addr}(C:PG CB CT (m k) (cs k) (ys k) Bk k (cs k).length r H)(v:r vk=0/\∃dx,H vk=some (.ins CW dx (iW s (tn k))))(R:kS K (m k) (tn k) (cs k) (ds k) Lk r H):cL K CS CF CB CT CW H0 r0 s bd ch lvw lrw m cs ys ds (eZ B k Bk) (eZ va k vk) (eZ L k Lk) fi fd lk cg kb vv rr (k+ 1) r H:=by
 refine⟨N.lb,N.rh,N.old,N.sh,N.zf,N.ls,N.lv,N.lw,fun i hi=> ?_,fun i hi=> ?_,fun i hi=> ?_⟩
 ·by_cases h:i=k
  ·subst h;rw[jW];exact C
  ·rw[oN h];exact N.pb i (by omega)
 ·by_cases h:i=k
  ·subst h;rw[jW];exact v
  ·rw[oN h];exact N.vi i (by omega)
 ·by_cases h:i=k
  ·subst h;rw[jW];exact R
  ·rw[oN h];exact N.ro i (by omega)
end
structure uC(K:Fg)(H0:Hp)(r0:Addr->Nat)(a lsz lsm ltb:Addr)(ns:List Int)(m:Nat->Nat)(cs:Nat->List Str)(ys:Nat->Nat->List V)(ds:Nat->Nat->List PyData)(c lt:Nat->Addr)(ts:Nat->List V)(lv:Nat->Nat->Addr):Prop where
 lb:∀x,r0 x≠0->Kd (H0 x)
 sc:(∃o,(o= .lst (ns.map V.int)\/ ∃q,o= .frz q (.lst (ns.map V.int)))/\H0 a=some o/\r0 a=0)\/ ∀H',aI K H' a (ns.map V.int)
 sz:H0 lsz=some (.lst [.int (m 0:Int),.int (m 1:Int)])/\r0 lsz=0
 sm:H0 lsm=some (.lst [.ref (c 0),.ref (c 1)])/\r0 lsm=0
 co:∀i,i<2->H0 (c i)=some (.lst ((cs i).map V.str))/\r0 (c i)=0
 tb:H0 ltb=some (.lst [.ref (lt 0),.ref (lt 1)])/\r0 ltb=0
 tl:∀i,i<2->H0 (lt i)=some (.lst (ts i))/\r0 (lt i)=0/\kE K H0 (m i) (cs i) (ts i) (lv i) (ys i) (ds i)/\∀j z,(cs i)[j]?=some z->r0 (lv i j)=0
 mi:∀i,i<2->m i<=6/\(cs i).Nodup/\(cs i).length<=4/\∀z∈cs i,Nl z
theorem uC.tm{H0:Hp}{r0:Addr->Nat}{a lsz lsm ltb:Addr}{ns:List Int}{m:Nat->Nat}{cs:Nat->List Str}{ys:Nat->Nat->List V}{ds:Nat->Nat->List PyData}{c lt:Nat->Addr}{ts:Nat->List V}{lv:Nat->Nat->Addr}{H:Hp}(O:uC K H0 r0 a lsz lsm ltb ns m cs ys ds c lt ts lv)(old:∀x o,r0 x=0->H0 x=some o->H x=some o){i:Nat}(hi:i<2):kE K H (m i) (cs i) (ts i) (lv i) (ys i) (ds i):=by
 obtain⟨_,_,⟨h1,h2⟩,h3⟩:=O.tl i hi
 have kt:bQ H0 H:=fun x xs e=>old x _ (uY O.lb (by rw[e];exact id)) e
 refine⟨h1,fun j z hz=> ?_⟩
 obtain⟨t,a1,a2,a3,a4,a5⟩:=h2 j z hz
 exact⟨t,a1,kt _ _ a2,old _ _ (h3 j z hz) a3,a4,a5.keep kt⟩
end
section
variable{P:Program}{w:World}{K:Fg}{mg:Str->Option Value}{base:Heap}
theorem b02(T:bA K mg){CS CF CB CT CW CU CJ CO CC CN:Addr}(Y:dU K mg CS)(Fi:fO K mg CF)(Wb:cV K mg CB)(U:cX K mg CT)(Wh:qP K mg CW)(Uc:mU K mg CU)(Jc:lY K mg CJ)(Oc:kY K mg CO)(Cc:mO K mg CC)(Tt:lW K mg CN){f:Addr}{cdv:Value}(A:Around)(outer:List Env)(s:Shared)(H:Hp)(Q:VK)(E:XK)(hr:bO 17 (A.deeper (PyProof.Rows.envOfC "law" (aB fG) s.heap.objs.size f cdv)))(q:∀H',Q (.bl true) H'):
 ∃t,dC (nJ P w K mg base f cdv A outer s H E) ((aP fG).drop 10) t/\
  ∀(H0:Hp) (r0:Addr->Nat) (a sh bd ch lvw lrw lsz lsm ltb fi fd lk:Addr) (ns:List Int) (m:Nat->Nat) (cs:Nat->List Str) (ys:Nat->Nat->List V) (ds:Nat->Nat->List PyData) (c lt:Nat->Addr) (ts:Nat->List V) (lv:Nat->Nat->Addr) (B:Nat->BM) (va L:Nat->Addr) (o1 o2 o4:Option V),uC K H0 r0 a lsz lsm ltb ns m cs ys ds c lt ts lv->cL K CS CF CB CT CW H0 r0 sh bd ch lvw lrw m cs ys ds B va L fi fd lk [] [] [] [] 0 r0 H0->
   t {nx:=fun _ H'=>Q .non H',rt:=Q} [some (.ref a),o1,o2,some (.ref lsz),o4,some (.ref lsm),some (.ref ltb),some (.ref sh),some (.ref lvw),some (.ref lrw),none,none,none,none,none,none,none,none,none,none,none] H0:=by
 have G_table:aN P w K mg base aC 9 CS "table" ["self","name","many"] (a7u CS CF CB CT):=oE T Y Fi Wb U Tt
 have G_give:aN P w K mg base aC 9 CS "give" ["self","table","column","values"] (a7S K CS CF CB CT):=pV T Y Fi Wb U Cc
 have GW:cI P w K mg base aC 4 CW ["self","sheet","table"] (a67 CS CB CT CW):=a9J T Y Wb U Wh
 have G_rows:bK P w K mg base aC 1 "_law_rows" ["_law_name","_law_columns","_law_many"] (spRw K):=pH T
 obtain⟨tE,hE,qE⟩:=b3w (P:=P) (w:=w) (base:=base) T Y Uc Jc (f:=f) (cdv:=cdv) A outer s H Q E hr q
 refine⟨_,(aK (jD PassesOwn.never rfl (qV rfl T.range (aA aS aD)) (gI (i:=10) cO.nd rfl (by first|exact Or.inl rfl|exact Or.inr rfl)) (aK (bW (i:=11) cO.nd rfl (by first|exact Or.inl rfl|exact Or.inr rfl) (bM cC (eD (aA hJ (aA hJ aD))) (pv 10) (fun _ _=>rfl)))
  (aK (bX (cH (pv 7) Y.cl G_table (hr.mono (by decide)) aM (aA (pv 11) (aA (bM cC (pv 3) (pv 10) (fun _ _=>rfl)) aD))))
  (aK (jD PassesOwn.never rfl (gG (bM cC (pv 6) (pv 10) (fun _ _=>rfl))) (a8r rfl (uJ (gI (i:=12) cO.nd rfl (by first|exact Or.inl rfl|exact Or.inr rfl)) (uJ (gI (i:=13) cO.nd rfl (by first|exact Or.inl rfl|exact Or.inr rfl)) a7K))) (aL (bX (cH (pv 7) Y.cl G_give (hr.mono (by decide)) aM (aA (pv 11) (aA (pv 12) (aA (kF yG rfl T.list jH (aA (pv 13) aD)) aD)))))))
  (aK (bX (iT PySem.F.plainAttrs_list PySem.F.slot_list_append PySem.F.type_list_append iN (pv 8) (aA (gH GW (hr.mono (by decide)) Wh.c aM (aA (pv 7) (aA (pv 11) aD))) aD)))
  (aL (bX (iT PySem.F.plainAttrs_list PySem.F.slot_list_append PySem.F.type_list_append iN (pv 9) (aA (bP G_rows (hr.mono (by decide)) aM (aA (pv 11) (aA (bM cC (pv 6) (pv 10) (fun _ _=>rfl)) (aA (bM cC (pv 3) (pv 10) (fun _ _=>rfl)) aD)))) aD)))))))))
  hE),?_⟩
 intro H0 r0 a sh bd ch lvw lrw lsz lsm ltb fi fd lk ns m cs ys ds c lt ts lv B va L o1 o2 o4 O N0
 refine⟨_,rfl,by decide,by decide,?_⟩
 refine oZ (lo:=0) (n:=(2:Int).toNat) (fun k σ Hk=>∃o10 o11 o12 o13 B va L fi fd lk cg r,σ= [some (.ref a),o1,o2,some (.ref lsz),o4,some (.ref lsm),some (.ref ltb),some (.ref sh),some (.ref lvw),some (.ref lrw),o10,o11,o12,o13,none,none,none,none,none,none,none] /\cL K CS CF CB CT CW H0 r0 sh bd ch lvw lrw m cs ys ds B va L fi fd lk cg (gJ (fun i=>(B i).b) k) (dP va k) (dP L k) k r Hk/\cg.length<=10* k) ⟨_,_,_,_,B,va,L,fi,fd,lk,[],r0,rfl,N0,Nat.le_refl _⟩ ?_ ?_
 ·rintro k σ Hk hk ⟨o10,o11,o12,o13,B,va,L,fi,fd,lk,cg,r,rfl,N,hcg⟩
  have hk:k<2:=hk
  obtain⟨m6,nd,c4,nlc⟩:=O.mi k hk
  rw[Int.zero_add]
  refine⟨sl,fun l1 hl1=> ?_⟩
  have s1:=aE.new (o:=.lst [.str ("one":Str),.str ("two":Str)]) hl1
  have e1:upd Hk l1 (.lst [.str ("one":Str),.str ("two":Str)]) l1=some (.lst [.str ("one":Str),.str ("two":Str)]):=aH
  generalize upd Hk l1 (.lst [.str ("one":Str),.str ("two":Str)])=H1 at s1 e1|-
  have N1:=N.same (by omega) s1
  refine⟨_,rfl,l1,_,_,.str (tn k),rfl,rfl,aI.of e1,b3H hk,?_⟩
  obtain⟨⟨dS,sS⟩,chS,bdS,_⟩:=N1.sh
  have msz:=N1.old _ _ O.sz.2 O.sz.1
  have mat:cT [V.int (m 0:Int),V.int (m 1:Int)] (k:Int)=some (.int (m k:Int)):=fZ (rH (fun k=>V.int (m k:Int)) hk)
  refine⟨_,rfl,sh,dS,_,rfl,sS,eO,_,rfl,_,rfl,_,rfl,lsz,_,_,.int (m k:Int),rfl,rfl,aI.of msz,mat,sh,bd,ch,cg,gJ (fun i=>(B i).b) k,tn k,m k,rfl,⟨⟨dS,fi,sS⟩,chS,bdS⟩,by omega,b0D _ (by omega),nE k,b3C _ hk,by omega,fun H2 fi2 fd2 lk2 c2 b g rr e ru me od Fr2 hB2 sep2 nw2 u2=> ?_⟩
  obtain⟨r2,N2,C2⟩:=N1.tab hk (cs k) (ys k) Fr2 hB2 sep2 nw2 u2
  rw[b30 _ _ hk]at N2
  obtain⟨lt1,eI,_,lt4⟩:=O.tl k hk
  have tbH:=N2.old _ _ O.tb.2 O.tb.1
  have tat:cT [V.ref (lt 0),V.ref (lt 1)] (k:Int)=some (.ref (lt k)):=fZ (rH (fun k=>V.ref (lt k)) hk)
  refine⟨_,rfl,_,rfl,ltb,_,_,.ref (lt k),rfl,rfl,aI.of tbH,tat,lt k,rfl,⟨_,aI.of (N2.old _ _ eI lt1)⟩,?_⟩
  have ltl:(ts k).length=(cs k).length:=(O.tl k hk).2.2.1.1
  refine a56 (K:=K) (a:=lt k) (xs:=ts k) (fun j σ Hj=>∃o12 o13 fi fd lk cg Bk r,σ= [some (.ref a),o1,o2,some (.ref lsz),o4,some (.ref lsm),some (.ref ltb),some (.ref sh),some (.ref lvw),some (.ref lrw),some (.int (k:Int)),some (.str (tn k)),o12,o13,none,none,none,none,none,none,none] /\cL K CS CF CB CT CW H0 r0 sh bd ch lvw lrw m cs ys ds B va L fi fd lk cg (gJ (eZ (fun i=>(B i).b) k b) (k+ 1)) (dP va k) (dP L k) k r Hj/\PG CB CT (m k) (cs k) (ys k) Bk k j r Hj/\Bk.b=b/\cg.length<=10* k+ 1+ j) ⟨_,_,fi2,fd2,lk2,_,_,r2,rfl,N2,C2,rfl,by rw[List.length_append];show cg.length+ 1<=_;omega⟩ (by rintro j σ Hj _ ⟨_,_,_,_,_,_,_,_,_,N,_⟩;exact aI.of (N.old _ _ eI lt1)) ?_ ?_
  ·rintro j x σ Hj hx ⟨o12,o13,fi,fd,lk,cg,Bk,r,rfl,N,C,hb,hcg⟩
   have hj:j<(ts k).length:=(List.getElem?_eq_some_iff.mp hx).1
   have hj':j<(cs k).length:=by rw[<- ltl];exact hj
   have ec:(cs k)[j]?=some ((cs k)[j]'hj'):=List.getElem?_eq_getElem hj'
   generalize (cs k)[j]'hj'=z at ec
   have tm:=O.tm N.old hk
   obtain⟨t,a1,a2,a3,a4,a5⟩:=tm.2 j z ec
   rw[a1]at hx
   obtain rfl:=Option.some.inj hx
   obtain⟨⟨dS,sS⟩,chS,bdS,_⟩:=N.sh
   refine⟨t,_,rfl,bU.of a2,rfl,_,_,rfl,_,_,rfl,rfl,?_⟩
   refine⟨_,rfl,sh,dS,_,rfl,sS,eO,_,rfl,_,rfl,_,rfl,lv k j,ys k j,rfl,.inl (aI.of a3),fun cp hcp=> ?_⟩
   have s3:=aE.new (o:=.lst (ys k j)) hcp
   have e3:upd Hj cp (.lst (ys k j)) cp=some (.lst (ys k j)):=aH
   generalize upd Hj cp (.lst (ys k j))=H3 at s3 e3|-
   have N3:=N.same (by omega) s3
   have C3:=C.same s3
   obtain⟨y1,y2,y3⟩:=N3.ls
   obtain⟨x1,x2,x3,x4,x5⟩:=C3.lr
   have ne:∀{x y:Addr},r x≠r y->x≠y:=fun h e=>h (by rw[e])
   have zcp:r cp=0:=jE N.lb hcp
   have nz:=nlc z (List.mem_of_getElem? ec)
   refine⟨sh,bd,ch,cp,cg,_,tn k,z,ys k j,ds k j,Bk,rfl,⟨⟨dS,fi,s3 _ _ sS⟩,s3 _ _ chS,s3 _ _ bdS⟩,by omega,nE k,by rw[a2o _ (by omega) (by omega),jW,hb],C3.bt,C3.sep hk,⟨ne (by omega),ne (by omega),ne (by omega),ne (by omega),ne (by omega)⟩,⟨by rw[C3.rus];rfl,?_⟩,nz,e3,ne (by omega),a5.keep (bQ.of s3),by rw[a4,C3.xs,kN],by omega,?_,?_,fun H4 fi' fd' lk' cc l Fr hl0 hB hl' u=> ?_⟩
   ·rw[C3.ord]
    intro hm
    obtain⟨i,hi⟩:=List.mem_iff_getElem?.mp hm
    rw[List.getElem?_take]at hi
    split at hi
    ·have:=xK nd hi ec
     omega
    ·cases hi
   ·have:=C3.kl
    omega
   ·rw[C3.ord,List.length_take]
    omega
   obtain⟨N4,C4,_⟩:=N3.give hk nd ec C3 Fr hl0 hB hl' u
   exact⟨_,_,fi',fd',lk',_,_,r,rfl,N4,C4,hb,by rw[List.length_append];show cg.length+ 1<=_;omega⟩
  rintro σ H5 ⟨o12,o13,fi,fd,lk,cg,Bk,r,rfl,N,C,hb,hcg⟩
  rw[ltl]at C hcg
  have vl:=a8F va k
  have ll:=a8F L k
  obtain⟨⟨dS,sS⟩,chS,bdS,_⟩:=N.sh
  refine⟨_,rfl,.inl ⟨rfl,_,aI.of N.lv.2⟩,_,rfl,_,rfl,?_⟩
  intro v dv hv hdv ne
  have kbk:=a2o (eZ (fun i=>(B i).b) k b) (i:=k) (k:=k+ 1) (by omega) (by omega)
  rw[jW,<- hb]at kbk
  refine⟨v,dv,sh,bd,ch,fi,dS,_,tn k,Bk,rfl,aH,by rw[aF (bD sS hv),aF (bD sS hdv)];exact sS,by rw[aF (bD bdS hv),aF (bD bdS hdv)];exact bdS,nE k,by rw[hb]at kbk|-;exact kbk,C.bt.same (fun x o e=>by rw[aF (bD e hv),aF (bD e hdv)];exact e),fun H6 b6 e6=>⟨rfl,?_⟩⟩
  have s6:aE H5 H6:=fun x o' e=>b6 _ _ (bD e hv) (by rw[aF (bD e hv),aF (bD e hdv)];exact e)
  have N6:=N.same (by omega) s6
  have C6:=C.same s6
  have zv:r v=0:=jE N.lb hv
  refine⟨lvw,_,_,rfl,rfl,N6.lv.2,cK (by omega),?_⟩
  have u7:bE lvw H6 (upd H6 lvw (.lst (dP va k++ [.ref v]))):=bE.upd
  have e7:upd H6 lvw (.lst (dP va k++ [.ref v])) lvw=some (.lst (dP va k++ [.ref v])):=aH
  generalize upd H6 lvw (.lst (dP va k++ [.ref v]))=H7 at u7 e7|-
  rw[a82 va v hk]at e7
  have lvw4:=N6.lv.1
  have lrw5:=N6.lw.1
  have ner:∀{x y:Addr},r x≠r y->x≠y:=fun h e=>h (by rw[e])
  have N7:=N6.lists (by omega) (fun x o n1 n2 e=>u7 _ _ n1 e) e7 (u7 _ _ (ner (by omega)) N6.lw.2)
  have fr7:∀x o,¬(r x=4\/ r x=5)->H6 x=some o->H7 x=some o:=fun x o n e=>u7 _ _ (fun y=>n (.inl (by rw[y];exact lvw4))) e
  have C7:=C6.mv (Bad:=fun l=>l=4\/ l=5) (fun l hl=>by unfold gE at hl;omega) (fun _ _=>rfl) fr7
  have v7:=fr7 _ _ (by omega) e6
  have tb7:=N7.old _ _ O.tb.2 O.tb.1
  have sz7:=N7.old _ _ O.sz.2 O.sz.1
  refine⟨_,rfl,.inl ⟨rfl,_,aI.of N7.lw.2⟩,_,rfl,_,rfl,_,rfl,ltb,_,_,.ref (lt k),rfl,rfl,aI.of tb7,tat,_,rfl,_,rfl,lsz,_,_,.int (m k:Int),rfl,rfl,aI.of sz7,mat,tn k,lt k,m k,cs k,ts k,lv k,ys k,ds k,rfl,N7.old _ _ eI lt1,O.tm N7.old hk,nd,by omega,by omega,fun H8 Lk dvk s8 hLk eLk ldv okv=> ?_⟩
  have N8:=N7.same (by omega) s8
  have C8:=C7.same s8
  refine⟨lrw,_,_,rfl,rfl,N8.lw.2,cK (by omega),?_⟩
  have u9:bE lrw H8 (upd H8 lrw (.lst (dP L k++ [.ref Lk]))):=bE.upd
  have e9:upd H8 lrw (.lst (dP L k++ [.ref Lk])) lrw=some (.lst (dP L k++ [.ref Lk])):=aH
  generalize upd H8 lrw (.lst (dP L k++ [.ref Lk]))=H9 at u9 e9|-
  rw[a82 L Lk hk]at e9
  have N9:=N8.lists (by omega) (fun x o n1 n2 e=>u9 _ _ n2 e) (u9 _ _ (ner (by omega)) N8.lv.2) e9
  have fr9:∀x o,¬(r x=4\/ r x=5)->H8 x=some o->H9 x=some o:=fun x o n e=>u9 _ _ (fun y=>n (.inr (by rw[y];exact lrw5))) e
  have C9:=C8.mv (Bad:=fun l=>l=4\/ l=5) (fun l hl=>by unfold gE at hl;omega) (fun _ _=>rfl) fr9
  have R8:kS K (m k) (tn k) (cs k) (ds k) Lk r H8:=by
   refine⟨jE N7.lb hLk,dvk,eLk,ldv,fun p hp=> ?_⟩
   obtain⟨d,d1,d2,kvs,d3,d4⟩:=okv p hp
   refine⟨d,kvs,d1,jE N7.lb d2,d3,fun j z hz=> ?_⟩
   obtain⟨t,y,l,t3,b1,b2,b3,b4,b5,b6,b7⟩:=d4 j z hz
   exact⟨t,y,l,t3,b1,b2,jE N7.lb b3,b5,b6,b7⟩
  have R9:=R8.mv N8.lb (fun _ _=>rfl) fun x o h e=>fr9 x o (by omega) e
  have fin:=N9.close (Bk:=Bk) (vk:=v) (Lk:=Lk) C9 ⟨zv,dv,fr9 _ _ (by omega) (s8 _ _ v7)⟩ R9
  have ekb:(fun i=>(eZ B k Bk i).b)=eZ (fun i=>(B i).b) k b:=funext fun i=>by
   by_cases h:i=k
   ·rw[h,jW,jW,hb]
   ·rw[oN h,oN h]
  refine⟨_,_,_,_,eZ B k Bk,eZ va k v,eZ L k Lk,fi,fd,lk,cg,r,rfl,?_,by omega⟩
  rw[ekb]
  exact fin
 ·rintro σ Hn ⟨o10,o11,o12,o13,B,va,L,fi,fd,lk,cg,r,rfl,N,hcg⟩
  have N:cL K CS CF CB CT CW H0 r0 sh bd ch lvw lrw m cs ys ds B va L fi fd lk cg (gJ (fun i=>(B i).b) 2) (dP va 2) (dP L 2) 2 r Hn:=N
  obtain⟨⟨dS,sS⟩,chS,bdS,⟨df,fS⟩,fdS⟩:=N.sh
  let Hz:Hp:=fun x=>if x=fd then none else Hn x
  have zn:∀{x:Addr} {o:HO},Hn x=some o->(∀y,o≠ .dT y)->Hz x=some o:=fun{x o} e n=>by
   show(if x=fd then none else Hn x)=some o
   rw[if_neg (fun y=>by rw[y,fdS]at e;exact n _ (Option.some.inj e).symm)]
   exact e
  have zs:aE Hz Hn:=fun x o e=>by
   have e:(if x=fd then none else Hn x)=some o:=e
   split at e
   ·cases e
   ·exact e
  have zfd:Hz fd=none:=by
   show(if fd=fd then none else Hn fd)=none
   rw[if_pos rfl]
  have ktz:bQ Hn Hz:=fun x xs e=>zn e (fun _ y=>by cases y)
  let ix:Str->Nat:=fun t=>if t= "one" then 0 else 1
  have ixt:∀i,i<2->ix (tn i)=i:=fun i hi=>by
   rcases(eI (n:=i))with rfl|rfl
   ·show(if("one":Str)= "one" then 0 else 1)=0
    rw[if_pos rfl]
   ·show(if("two":Str)= "one" then 0 else 1)=1
    rw[if_neg (by decide+kernel)]
  let tab:Str->Option BM:=fun t=>if t= "one" then some (B 0) else if t= "two" then some (B 1) else none
  have tab_at:∀i,i<2->tab (tn i)=some (B i):=fun i hi=>by
   rcases(eI (n:=i))with rfl|rfl
   ·show(if("one":Str)= "one" then some (B 0) else _)=_
    rw[if_pos rfl]
   ·show(if("two":Str)= "one" then some (B 0) else if("two":Str)= "two" then some (B 1) else none)=_
    rw[if_neg (by decide+kernel),if_pos rfl]
  have tab_of:∀t b,tab t=some b->∃i,i<2/\t=tn i/\b=B i:=fun t b e=>by
   have e:(if t= "one" then some (B 0) else if t= "two" then some (B 1) else none)=some b:=e
   split at e
   ·next h=>exact⟨0,by decide,h,(Option.some.inj e).symm⟩
   ·split at e
    ·next h=>exact⟨1,by decide,h,(Option.some.inj e).symm⟩
    ·cases e
  let dv:Str->Str->List PyData:=fun t z=>oH (cs (ix t)) (ds (ix t)) z
  have dv_at:∀i,i<2->∀z∈cs i,∃j,(cs i)[j]?=some z/\dv (tn i) z=ds i j:=fun i hi z hz=>by
   show∃j,(cs i)[j]?=some z/\oH (cs (ix (tn i))) (ds (ix (tn i))) z=ds i j
   rw[ixt i hi]
   exact a74 hz
  have ordF:∀i,i<2->(B i).ord=cs i:=fun i hi=>by rw[(N.pb i hi).ord,List.take_length]
  have xsF:∀i,i<2->(B i).xs.length=m i:=fun i hi=>by rw[(N.pb i hi).xs,kN]
  have btz:∀{i:Nat},i<2->cE CB CT Hz (B i):=fun hi=>by
   obtain⟨⟨q1,t1⟩,⟨⟨q2,t2⟩,t3,t4⟩,t5,t6,t7⟩:=(N.pb _ hi).bt
   exact⟨⟨q1,zn t1 (fun _ y=>by cases y)⟩,⟨⟨q2,zn t2 (fun _ y=>by cases y)⟩,zn t3 (fun _ y=>by cases y),zn t4 (fun _ y=>by cases y)⟩,zn t5 (fun _ y=>by cases y),zn t6 (fun _ y=>by cases y),zn t7 (fun _ y=>by cases y)⟩
  have G:GSt K CS CF CB CT Hz sh bd ch fi fd lk (gJ (fun i=>(B i).b) 2) ["one","two"] tab dv:=by
   refine⟨⟨dS,zn sS (fun _ y=>by cases y)⟩,zn bdS (fun _ y=>by cases y),⟨df,zn fS (fun _ y=>by cases y)⟩,zfd,by decide,fun t b e=> ?_,fun t b e=> ?_,fun t b e z hz=> ?_⟩
   ·obtain⟨i,hi,rfl,rfl⟩:=tab_of t b e
    rcases(eI (n:=i))with rfl|rfl
    ·exact List.mem_cons_self
    ·exact List.mem_cons_of_mem _ List.mem_cons_self
   ·obtain⟨i,hi,rfl,rfl⟩:=tab_of t b e
    obtain⟨m6,nd,c4,nlc⟩:=O.mi i hi
    exact⟨nE i,a2o (fun i=>(B i).b) hi (Nat.le_refl 2),btz hi,(N.pb i hi).rus,by rw[xsF i hi];omega,by rw[ordF i hi];omega⟩
   ·obtain⟨i,hi,rfl,rfl⟩:=tab_of t b e
    obtain⟨m6,nd,c4,nlc⟩:=O.mi i hi
    rw[ordF i hi]at hz
    obtain⟨j,hj,ed⟩:=dv_at i hi z hz
    obtain⟨l,a1,a2,a3⟩:=(N.pb i hi).co j z (List.getElem?_eq_some_iff.mp hj).1 hj
    obtain⟨t,b1,b2,b3,b4,b5⟩:=(O.tm N.old hi).2 j z hj
    refine⟨nlc z hz,l,ys i j,a1,zn a3 (fun _ y=>by cases y),by rw[b4,xsF i hi],?_⟩
    rw[ed]
    exact b5.keep ktz
  let X:VC:=⟨MG sh tab dv,fun x=>x≠fd,uE CF Hz fd ["one","two"] tab,CW,CU,CJ,CO⟩
  have I:SI P w K mg base CS 7 X:=b3a T Y Fi Wb U G
  have Z:VT K mg X:=⟨Wh,Uc,Jc,Oc⟩
  have mc:∀i,i<2->X.M.cols sh (tn i)=cs i:=fun i hi=>by
   show(match tab (tn i)with|some B=>B.ord|none=> [])=cs i
   rw[tab_at i hi]
   exact ordF i hi
  have mm:∀i,i<2->X.M.many sh (tn i)=m i:=fun i hi=>by
   show(match tab (tn i)with|some B=>B.xs.length|none=>0)=m i
   rw[tab_at i hi]
   exact xsF i hi
  have frz:∀x o,Hz x=some o->X.Free x:=fun x o e y=>by rw[y,zfd]at e;cases e
  have inv:X.Inv Hn:=⟨zs,[],fdS,gS.nil,fun t b z l y p v _ _ _ e=>by{cases e}⟩
  have oldz:∀x o,r0 x=0->H0 x=some o->(∀y,o≠ .dT y)->Hz x=some o:=fun x o h0 e n=>zn (N.old x o h0 e) n
  have S:E44 K X Hz a ns lsm lvw lrw c L va sh:=by
   refine⟨?_,frz,oldz _ _ O.sm.2 O.sm.1 (fun _ y=>by cases y),zn N.lv.2 (fun _ y=>by cases y),zn N.lw.2 (fun _ y=>by cases y),fun i hi=>⟨?_,?_⟩,fun i hi=>⟨⟨?_,⟨rfl,?_⟩,⟨?_,?_⟩,?_⟩,?_⟩,fun H' h=>h.1⟩
   ·rcases O.sc with⟨o,ho,e,z⟩|h
    ·rcases ho with rfl|⟨q,rfl⟩
     ·exact .inl (.inl (oldz _ _ z e (fun _ y=>by cases y)))
     ·exact .inl (.inr ⟨q,oldz _ _ z e (fun _ y=>by cases y)⟩)
    ·exact h Hz
   ·rw[mc i hi]
    exact oldz _ _ (O.co i hi).2 (O.co i hi).1 (fun _ y=>by cases y)
   ·rw[mc i hi]
    exact(O.mi i hi).2.2.2
   ·obtain⟨_,dx,e⟩:=N.vi i hi
    exact frz _ _ (zn e (fun _ y=>by cases y))
   ·show(tab (tn i)).isSome=true
    rw[tab_at i hi]
    rfl
   ·rw[mm i hi]
    have:=(O.mi i hi).1
    omega
   ·rw[mc i hi]
    have:=(O.mi i hi).2.2.1
    omega
   ·obtain⟨_,dx,e⟩:=N.vi i hi
    exact⟨dx,zn e (fun _ y=>by cases y)⟩
   ·obtain⟨_,dvv,e,l,ok⟩:=N.ro i hi
    have ez:=zn e (fun _ y=>by cases y)
    refine⟨frz _ _ ez,dvv,ez,by rw[l];exact(mm i hi).symm,fun p hp=> ?_⟩
    have hp:p<m i:=by rw[<- mm i hi];exact hp
    obtain⟨d,kvs,a1,a2,a3,a4⟩:=ok p hp
    have a3z:=zn a3 (fun _ y=>by cases y)
    refine⟨d,kvs,a1,frz _ _ a3z,a3z,fun z hz=> ?_⟩
    have hz:z∈cs i:=by rw[<- mc i hi];exact hz
    obtain⟨j,hj,ed⟩:=dv_at i hi z hz
    obtain⟨t,y,l,t3,b1,b2,b3,b4,b5,b6⟩:=a4 j z hj
    have b4z:=zn b4 (fun _ y=>by cases y)
    refine⟨t,y,l,t3,b1,ktz _ _ b2,frz _ _ b4z,b4z,ktz _ _ b5,?_,nE i⟩
    show Pv K Hz y ((dv (tn i) z).getD p .none)
    rw[ed]
    exact b6.keep ktz
  exact qE Hn Hz X a sh lsm lvw lrw ns c L va o1 o2 (some (.ref lsz)) o4 (some (.ref ltb)) (some (.ref sh)) o10 o11 o12 o13 I Z rfl rfl S inv (fun i hi=>by rw[mm i hi];have:=(O.mi i hi).1;omega)
end
theorem TabL.m{K:Fg}{H0 H:Hp}{m:Nat}{cs:List Str}{ts:List V}{lv:Nat->Addr}{ys:Nat->List V}{ds:Nat->List PyData}(h:TabL K H0 H m cs ts lv ys ds):kE K H m cs ts lv ys ds:=
 ⟨h.1,fun i c e=>let ⟨t,a,b,_,d,l,p⟩:=h.2 i c e;⟨t,a,b,d,l,p⟩⟩
noncomputable def fX {α:Type} (x y:α):Nat->α
 |0=>x
 |_=>y
section
variable{P:Program}{w:World}{K:Fg}{mg:Str->Option Value}{base:Heap}
theorem b3E(T:bA K mg){CS CF CB CT CW CU CJ CO CC CN:Addr}(Y:dU K mg CS)(Fi:fO K mg CF)(Wb:cV K mg CB)(U:cX K mg CT)(Wh:qP K mg CW)(Uc:mU K mg CU)(Jc:lY K mg CJ)(Oc:kY K mg CO)(Cc:mO K mg CC)(Tt:lW K mg CN){f:Addr}{cdv:Value}(A:Around)(outer:List Env)(s:Shared)(H:Hp)(Q:VK)(E:XK)(hr:bO 17 (A.deeper (PyProof.Rows.envOfC "law" (aB fG) s.heap.objs.size f cdv)))(q:∀H',Q (.bl true) H'):
 ∃t,dC (nJ P w K mg base f cdv A outer s H E) ((aP fG).drop 6) t/\
  ∀(H6:Hp) (a lsz lsm c0 c1:Addr) (ns:List Int) (m0 m1:Nat) (cs0 cs1:List Str) (o1 o2 o4:Option V),aI K H6 a (ns.map V.int)->ns.length<=63->H6 lsz=some (.lst [.int (m0:Int),.int (m1:Int)])->H6 lsm=some (.lst [.ref c0,.ref c1])->H6 c0=some (.lst (cs0.map V.str))->H6 c1=some (.lst (cs1.map V.str))->(m0<=6/\cs0.Nodup/\cs0.length<=4/\∀z∈cs0,Nl z)->(m1<=6/\cs1.Nodup/\cs1.length<=4/\∀z∈cs1,Nl z)->
   t {nx:=fun _ H'=>Q .non H',rt:=Q} [some (.ref a),o1,o2,some (.ref lsz),o4,some (.ref lsm),none,none,none,none,none,none,none,none,none,none,none,none,none,none,none] H6:=by
 have G_tab:bK P w K mg base aC 2 "_law_table" ["_law_script","_law_at","_law_some","_law_many"] (spTb K):=sO T
 have GS:cI P w K mg base aC 3 CS ["self"] (spSI CS CF):=qQ T Y Fi
 obtain⟨tE,hE,qE⟩:=b02 (P:=P) (w:=w) (base:=base) T Y Fi Wb U Wh Uc Jc Oc Cc Tt (f:=f) (cdv:=cdv) A outer s H Q E hr q
 refine⟨_,(aK (bW (i:=6) cO.nd rfl (by first|exact Or.inl rfl|exact Or.inr rfl) (eD (aA (bP G_tab (hr.mono (by decide)) aM (aA (pv 0) (aA aS (aA (bM cC (pv 5) aS (fun _ _=>rfl)) (aA (bM cC (pv 3) aS (fun _ _=>rfl)) aD))))) (aA (bP G_tab (hr.mono (by decide)) aM (aA (pv 0) (aA aS (aA (bM cC (pv 5) aS (fun _ _=>rfl)) (aA (bM cC (pv 3) aS (fun _ _=>rfl)) aD))))) aD))))
  (aK (bW (i:=7) cO.nd rfl (by first|exact Or.inl rfl|exact Or.inr rfl) (b1W GS (hr.mono (by decide)) Y.c aM))
  (aK (bW (i:=8) cO.nd rfl (by first|exact Or.inl rfl|exact Or.inr rfl) (eD aD))
  (aK (bW (i:=9) cO.nd rfl (by first|exact Or.inl rfl|exact Or.inr rfl) (eD aD))
  hE)))),?_⟩
 intro H6 a lsz lsm c0 c1 ns m0 m1 cs0 cs1 o1 o2 o4 hS hns hsz hsm hc0 hc1 k0 k1
 refine⟨_,rfl,_,rfl,lsm,_,_,.ref c0,rfl,rfl,aI.of hsm,rfl,_,rfl,lsz,_,_,.int (m0:Int),rfl,rfl,aI.of hsz,rfl,a,c0,ns,cs0,0,m0,rfl,hS,hns,hc0,by omega,by decide,by omega,fun H1 lt0 ts0 lv0 ys0 ds0 s1 hlt0 elt0 tl0=> ?_⟩
 refine⟨_,rfl,_,rfl,lsm,_,_,.ref c1,rfl,rfl,aI.of (s1 _ _ hsm),rfl,_,rfl,lsz,_,_,.int (m1:Int),rfl,rfl,aI.of (s1 _ _ hsz),rfl,a,c1,ns,cs1,29,m1,rfl,s1.seq hS,hns,s1 _ _ hc1,by omega,by decide,by omega,fun H2 lt1 ts1 lv1 ys1 ds1 s2 hlt1 elt1 tl1=> ?_⟩
 refine⟨sl,fun ltb hltb=> ?_⟩
 have s3:=aE.new (o:=.lst [.ref lt0,.ref lt1]) hltb
 have e3:upd H2 ltb (.lst [.ref lt0,.ref lt1]) ltb=some (.lst [.ref lt0,.ref lt1]):=aH
 generalize upd H2 ltb (.lst [.ref lt0,.ref lt1])=H3 at s3 e3|-
 have s23:=s2.trans s3
 have s63:=s1.trans s23
 have tm0:=tl0.m.same s23
 have tm1:=tl1.m.same s3
 have S3:uT H3 (fun _=>0) H3 []:=⟨fun x h=>absurd rfl h,fun x h=>⟨rfl,h⟩,fun p hp=>by cases hp⟩
 intro s0 d0 hs0 hd0 ne0
 refine⟨s0,d0,rfl,aH,fun HD bd0 ch0 fi0 fd0 lk0 df0 fr0 nfl0 a1 a2 a3 a4 a5 a6 b0=>⟨rfl,?_⟩⟩
 have sD:aE H3 HD:=fun x o e=>b0 _ _ (bD e hs0) (by rw[aF (bD e hs0),aF (bD e hd0)];exact e)
 have f0:∀x∈ [bd0,ch0,fi0,fd0,lk0],H3 x=none/\x≠s0:=fun x hx=>⟨(iH (iH (fr0 x hx)).1).1,(iH (fr0 x hx)).2⟩
 obtain⟨rD,SD⟩:=S3.add [(s0,1),(ch0,2),(bd0,3),(fi0,0)] (by
  simp only[List.map_cons,List.map_nil,List.nodup_cons,List.mem_cons,List.not_mem_nil,or_false,not_or]
  exact⟨⟨(f0 ch0 (by simp)).2.symm,(f0 bd0 (by simp)).2.symm,(f0 fi0 (by simp)).2.symm⟩,⟨fun y=>by{rw[y,a2]at a3;cases a3},fun y=>by{rw[y,a4]at a3;cases a3}⟩,fun y=>by{rw[y,a4]at a2;cases a2},not_false,List.nodup_nil⟩) (fun p hp=>by
  simp only[List.mem_cons,List.not_mem_nil,or_false]at hp
  rcases hp with rfl|rfl|rfl|rfl
  ·exact⟨hs0,Kd.ins a1⟩
  ·exact⟨(f0 ch0 (by simp)).1,Kd.lst a3⟩
  ·exact⟨(f0 bd0 (by simp)).1,Kd.dK a2⟩
  ·exact⟨(f0 fi0 (by simp)).1,Kd.ins a4⟩) (xU sD) (a21 sD)
 refine⟨sl,fun lvw hlvw=> ?_⟩
 have sE:=aE.new (o:=.lst []) hlvw
 have eE:upd HD lvw (.lst []) lvw=some (.lst []):=aH
 generalize upd HD lvw (.lst [])=HE at sE eE|-
 obtain⟨rE,SE⟩:=SD.add [(lvw,4)] (by simp) (fun p hp=>by rw[List.mem_singleton.mp hp];exact⟨hlvw,Kd.lst eE⟩) (xU sE) (a21 sE)
 refine⟨sl,fun lrw hlrw=> ?_⟩
 have sF:=aE.new (o:=.lst []) hlrw
 have eF:upd HE lrw (.lst []) lrw=some (.lst []):=aH
 generalize upd HE lrw (.lst [])=HF at sF eF|-
 obtain⟨rF,SF⟩:=SE.add [(lrw,5)] (by simp) (fun p hp=>by rw[List.mem_singleton.mp hp];exact⟨hlrw,Kd.lst eF⟩) (xU sF) (a21 sF)
 have sDF:=sE.trans sF
 have s3F:=sD.trans sDF
 have z3:∀{x:Addr} {o:HO},H3 x=some o->rF x=0:=fun{x o} e=>(SF.old x (by rw[e];exact fun y=>by cases y)).1
 have s6F:=s63.trans s3F
 have tmF0:=tm0.same s3F
 have tmF1:=tm1.same s3F
 have at_:=SF.at_
 have O:uC K HF rF a lsz lsm ltb ns (fX m0 m1) (fX cs0 cs1) (fX ys0 ys1) (fX ds0 ds1) (fX c0 c1) (fX lt0 lt1) (fX ts0 ts1) (fX lv0 lv1):=by
  refine⟨SF.lb,?_,⟨s6F _ _ hsz,z3 (s63 _ _ hsz)⟩,⟨s6F _ _ hsm,z3 (s63 _ _ hsm)⟩,fun i hi=> ?_,⟨s3F _ _ e3,z3 e3⟩,fun i hi=> ?_,fun i hi=> ?_⟩
  ·rcases hS with(h|⟨o,h⟩)|h
   ·exact .inl ⟨_,.inl rfl,s6F _ _ h,z3 (s63 _ _ h)⟩
   ·exact .inl ⟨_,.inr ⟨o,rfl⟩,s6F _ _ h,z3 (s63 _ _ h)⟩
   ·exact .inr fun H'=> .inr h
  ·rcases(eI (n:=i))with rfl|rfl
   ·exact⟨s6F _ _ hc0,z3 (s63 _ _ hc0)⟩
   ·exact⟨s6F _ _ hc1,z3 (s63 _ _ hc1)⟩
  ·rcases(eI (n:=i))with rfl|rfl
   ·refine⟨s3F _ _ (s23 _ _ elt0),z3 (s23 _ _ elt0),tmF0,fun j z hz=> ?_⟩
    obtain⟨t,b1,b2,b3,b4,b5⟩:=tm0.2 j z hz
    exact z3 b3
   ·refine⟨s3F _ _ (s3 _ _ elt1),z3 (s3 _ _ elt1),tmF1,fun j z hz=> ?_⟩
    obtain⟨t,b1,b2,b3,b4,b5⟩:=tm1.2 j z hz
    exact z3 b3
  ·rcases(eI (n:=i))with rfl|rfl
   ·exact k0
   ·exact k1
 have N:cL K CS CF CB CT CW HF rF s0 bd0 ch0 lvw lrw (fX m0 m1) (fX cs0 cs1) (fX ys0 ys1) (fX ds0 ds1) (fun _=>⟨a,a,a,a,a,a,a,[],0,[],[],[],[]⟩) (fun _=>a) (fun _=>a) fi0 fd0 lk0 [] [] [] [] 0 rF HF:=
  ⟨SF.lb,fun _ _=>rfl,fun x o _ e=>e,⟨⟨d0,sDF _ _ a1⟩,sDF _ _ a3,sDF _ _ a2,⟨df0,sDF _ _ a4⟩,sDF _ _ a5⟩,(at_ (fi0,0) (by simp)).1,⟨(at_ (s0,1) (by simp)).1,(at_ (ch0,2) (by simp)).1,(at_ (bd0,3) (by simp)).1⟩,⟨(at_ (lvw,4) (by simp)).1,sF _ _ eE⟩,⟨(at_ (lrw,5) (by simp)).1,eF⟩,fun i hi=>by{omega},fun i hi=>by{omega},fun i hi=>by{omega}⟩
 exact qE HF rF a s0 bd0 ch0 lvw lrw lsz lsm ltb fi0 fd0 lk0 ns _ _ _ _ _ _ _ _ _ _ _ o1 o2 o4 O N
noncomputable def bC:List Str:=["ab","b","abc","c"]
theorem b0t:∀z∈bC,Nl z:=by
 intro z hz
 unfold bC at hz
 simp only[List.mem_cons,List.not_mem_nil,or_false]at hz
 unfold Nl
 rcases hz with rfl|rfl|rfl|rfl<;>decide+kernel
noncomputable def pY (a b:Nat):List Str:=((bC.drop a++ bC.take a)).take (1+ b)
theorem a7C:∀a,a<4->∀b,b<4->(pY a b).Nodup/\(pY a b).length<=4/\∀z∈pY a b,Nl z:=by
 intro a ha b hb
 refine⟨?_,?_,fun z hz=> ?_⟩
 ·rcases(show a=0\/ a=1\/ a=2\/ a=3 by omega)with rfl|rfl|rfl|rfl<;>rcases(show b=0\/ b=1\/ b=2\/ b=3 by omega)with rfl|rfl|rfl|rfl<;>decide+kernel
 ·rcases(show a=0\/ a=1\/ a=2\/ a=3 by omega)with rfl|rfl|rfl|rfl<;>rcases(show b=0\/ b=1\/ b=2\/ b=3 by omega)with rfl|rfl|rfl|rfl<;>decide+kernel
 ·apply b0t
  rcases List.mem_append.mp (List.mem_of_mem_take hz)with h|h
  ·exact List.mem_of_mem_drop h
  ·exact List.mem_of_mem_take h
def a7q(K:Fg):Sp:=fun vs H Q _=>∃(a:Addr) (ns:List Int),vs= [.ref a] /\aI K H a (ns.map V.int)/\ns.length<=63/\∀H',Q (.bl true) H'
theorem a4V(xs:List Str)(lo hi:Option Int):bF (xs.map V.str) lo hi=((xs.drop (HT.sIx xs.length 0 lo)).take (HT.sIx xs.length xs.length hi- HT.sIx xs.length 0 lo)).map V.str:=by
 unfold bF
 rw[List.length_map,List.map_take,List.map_drop]
theorem a72(a:Nat)(ha:a<4):bF (bC.map V.str) (some (a:Int)) none=(bC.drop a).map V.str:=by
 rw[a4V]
 rcases(show a=0\/ a=1\/ a=2\/ a=3 by omega)with rfl|rfl|rfl|rfl<;>rfl
theorem a7b(a:Nat)(ha:a<4):bF (bC.map V.str) none (some (a:Int))=(bC.take a).map V.str:=by
 rw[a4V]
 rcases(show a=0\/ a=1\/ a=2\/ a=3 by omega)with rfl|rfl|rfl|rfl<;>rfl
theorem a7X(xs:List Str)(b:Nat):bF (xs.map V.str) none (some (1+ (b:Int)))=(xs.take (1+ b)).map V.str:=by
 rw[a4V,show(1+ (b:Int))=((1+ b:Nat):Int)by omega,HT.sIx_nat]
 congr 1
 show(xs.drop 0).take (min (1+ b) xs.length- 0)=_
 rw[List.drop_zero,Nat.sub_zero]
 exact List.take_eq_take_min.symm
theorem a9y(T:bA K mg){f:Addr}{fd:FuncData}(F:gU K "law" "law" fG f fd):dN P w K mg base aC 18 f fd ["_law_script"] (a7q K):=by
 obtain⟨CS,Y⟩:=T.t_Sheet
 obtain⟨CF,Fi⟩:=T.t_Finder
 obtain⟨CB,Wb⟩:=T.t_Board
 obtain⟨CT,U⟩:=T.t_Table
 obtain⟨CW,Wh⟩:=T.t_Whole
 obtain⟨CU,Uc⟩:=T.t_Cut
 obtain⟨CJ,Jc⟩:=T.t_Together
 obtain⟨CO,Oc⟩:=T.t_Spot
 obtain⟨CC,Cc⟩:=T.t_ColumnSet
 obtain⟨CN,Tt⟩:=T.t_TableTold
 have G_cell:bK P w K mg base aC 1 "_law_cell_at" ["_law_script","_law_k"] (tQ K):=jS T
 refine F.ok cO (fun vs H Q E h=> ?_) (fun cdv A outer s H vs Q E hr h=> ?_)
 ·obtain⟨a,ns,rfl,_⟩:=h
  rfl
 ·obtain⟨a,ns,rfl,hS,hns,q⟩:=h
  obtain⟨tE,hE,qE⟩:=b3E (P:=P) (w:=w) (base:=base) T Y Fi Wb U Wh Uc Jc Oc Cc Tt (f:=f) (cdv:=cdv) A outer s H Q E hr q
  refine⟨_,(aK (bW (i:=1) cO.nd rfl (by first|exact Or.inl rfl|exact Or.inr rfl) (bP G_cell (hr.mono (by decide)) aM (aA (pv 0) (aA aS aD))))
   (aK (bW (i:=2) cO.nd rfl (by first|exact Or.inl rfl|exact Or.inr rfl) (bP G_cell (hr.mono (by decide)) aM (aA (pv 0) (aA aS aD))))
   (aK (bW (i:=3) cO.nd rfl (by first|exact Or.inl rfl|exact Or.inr rfl) (eD (aA (bI dJ (pv 1) aS) (aA (bI dJ (bI jT (pv 1) aS) aS) aD))))
   (aK (bW (i:=4) cO.nd rfl (by first|exact Or.inl rfl|exact Or.inr rfl) (eD (aA hJ (aA hJ (aA hJ (aA hJ aD))))))
   (aK (bW (i:=5) cO.nd rfl (by first|exact Or.inl rfl|exact Or.inr rfl) (eD (aA (bI sY (gZ gT (pv 4) (fH (bI dJ (pv 2) aS)) lR) (gZ gT (pv 4) lR (fH (bI dJ (pv 2) aS)))) (aA (bI sY (gZ gT (pv 4) (fH (bI dJ (bI jT (pv 2) aS) aS)) lR) (gZ gT (pv 4) lR (fH (bI dJ (bI jT (pv 2) aS) aS)))) aD))))
   (aK (bW (i:=5) cO.nd rfl (by first|exact Or.inl rfl|exact Or.inr rfl) (eD (aA (gZ gT (bM cC (pv 5) aS (fun _ _=>rfl)) lR (fH (bI fY aS (bI dJ (bI jT (pv 2) aS) aS)))) (aA (gZ gT (bM cC (pv 5) aS (fun _ _=>rfl)) lR (fH (bI fY aS (bI dJ (bI jT (pv 2) aS) aS)))) aD))))
   hE)))))),?_⟩
  refine⟨_,rfl,a,ns,0,rfl,hS,fun z1=>⟨_,rfl,a,ns,1,rfl,hS,fun z2=> ?_⟩⟩
  have nat9:∀(z:Int) (m:Nat),0<m->∃k:Nat,k<m/\z% (m:Int)=(k:Int):=fun z m h=>⟨(z% (m:Int)).toNat,by have:=Int.emod_nonneg z (show(m:Int)≠0 by omega);have:=Int.emod_lt_of_pos z (show(0:Int)<(m:Int)by omega);omega,by have:=Int.emod_nonneg z (show(m:Int)≠0 by omega);omega⟩
  obtain⟨m0,hm0,em0⟩:=nat9 z1 7 (by decide)
  obtain⟨m1,hm1,em1⟩:=nat9 (z1/ 7) 7 (by decide)
  obtain⟨a0,ha0,ea0⟩:=nat9 z2 4 (by decide)
  obtain⟨a1,ha1,ea1⟩:=nat9 (z2/ 4) 4 (by decide)
  obtain⟨b0,hb0,eb0⟩:=nat9 (z2/ 16) 4 (by decide)
  obtain⟨b1,hb1,eb1⟩:=nat9 (z2/ 64) 4 (by decide)
  refine⟨_,rfl,_,_,rfl,rfl,(show(0:Int)<7 by decide),_,rfl,_,_,rfl,rfl,⟨by decide,by decide⟩,_,_,rfl,rfl,(show(0:Int)<7 by decide),sl,fun lsz hlsz=> ?_⟩
  have s1:=aE.new (o:=.lst [.int (z1% 7),.int (z1/ 7% 7)]) hlsz
  have e1:upd H lsz (.lst [.int (z1% 7),.int (z1/ 7% 7)]) lsz=some (.lst [.int (z1% 7),.int (z1/ 7% 7)]):=aH
  generalize upd H lsz (.lst [.int (z1% 7),.int (z1/ 7% 7)])=H1 at s1 e1|-
  rw[show z1% 7=(m0:Int) from em0,show z1/ 7% 7=(m1:Int) from em1]at e1
  refine⟨sl,fun ln hln=> ?_⟩
  have s2:=aE.new (o:=.lst [.str ("ab":Str),.str ("b":Str),.str ("abc":Str),.str ("c":Str)]) hln
  have e2:upd H1 ln (.lst [.str ("ab":Str),.str ("b":Str),.str ("abc":Str),.str ("c":Str)]) ln=some (.lst (bC.map V.str)):=aH
  generalize upd H1 ln (.lst [.str ("ab":Str),.str ("b":Str),.str ("abc":Str),.str ("c":Str)])=H2 at s2 e2|-
  refine⟨_,rfl,_,rfl,_,_,rfl,rfl,(show(0:Int)<4 by decide),_,rfl,ln,_,rfl,aI.of e2,fun l3 hl3=> ?_⟩
  have s3:=aE.new (o:=.lst (bF (bC.map V.str) (some (z2% 4)) none)) hl3
  have e3:upd H2 l3 (.lst (bF (bC.map V.str) (some (z2% 4)) none)) l3=some (.lst (bF (bC.map V.str) (some (z2% 4)) none)):=aH
  generalize upd H2 l3 (.lst (bF (bC.map V.str) (some (z2% 4)) none))=H3 at s3 e3|-
  rw[show z2% 4=(a0:Int) from ea0,a72 a0 ha0]at e3
  refine⟨_,rfl,_,rfl,_,_,rfl,rfl,(show(0:Int)<4 by decide),_,rfl,ln,_,rfl,aI.of (s3 _ _ e2),fun l4 hl4=> ?_⟩
  have s4:=aE.new (o:=.lst (bF (bC.map V.str) none (some (z2% 4)))) hl4
  have e4:upd H3 l4 (.lst (bF (bC.map V.str) none (some (z2% 4)))) l4=some (.lst (bF (bC.map V.str) none (some (z2% 4)))):=aH
  generalize upd H3 l4 (.lst (bF (bC.map V.str) none (some (z2% 4))))=H4 at s4 e4|-
  rw[show z2% 4=(a0:Int) from ea0,a7b a0 ha0]at e4
  have len4:∀a:Nat,((bC.drop a).map V.str).length+ ((bC.take a).map V.str).length<=8:=fun a=>by
   rw[List.length_map,List.length_map,List.length_drop,List.length_take]
   show 4- a+ min a 4<=8
   omega
  refine⟨l3,l4,_,_,rfl,rfl,s4 _ _ e3,e4,Nat.le_of_lt (cK (Nat.le_trans (len4 a0) (by decide))),fun l5 hl5=> ?_⟩
  have s5:=aE.new (o:=.lst ((bC.drop a0).map V.str++ (bC.take a0).map V.str)) hl5
  have e5:upd H4 l5 (.lst ((bC.drop a0).map V.str++ (bC.take a0).map V.str)) l5=some (.lst ((bC.drop a0).map V.str++ (bC.take a0).map V.str)):=aH
  generalize upd H4 l5 (.lst ((bC.drop a0).map V.str++ (bC.take a0).map V.str))=H5 at s5 e5|-
  rw[<- List.map_append]at e5
  have s25:=(s3.trans s4).trans s5
  refine⟨_,rfl,_,rfl,_,_,rfl,rfl,⟨by decide,by decide⟩,_,_,rfl,rfl,(show(0:Int)<4 by decide),_,rfl,ln,_,rfl,aI.of (s25 _ _ e2),fun l6 hl6=> ?_⟩
  have s6:=aE.new (o:=.lst (bF (bC.map V.str) (some (z2/ 4% 4)) none)) hl6
  have e6:upd H5 l6 (.lst (bF (bC.map V.str) (some (z2/ 4% 4)) none)) l6=some (.lst (bF (bC.map V.str) (some (z2/ 4% 4)) none)):=aH
  generalize upd H5 l6 (.lst (bF (bC.map V.str) (some (z2/ 4% 4)) none))=H6 at s6 e6|-
  rw[show z2/ 4% 4=(a1:Int) from ea1,a72 a1 ha1]at e6
  refine⟨_,rfl,_,rfl,_,_,rfl,rfl,⟨by decide,by decide⟩,_,_,rfl,rfl,(show(0:Int)<4 by decide),_,rfl,ln,_,rfl,aI.of (s6 _ _ (s25 _ _ e2)),fun l7 hl7=> ?_⟩
  have s7:=aE.new (o:=.lst (bF (bC.map V.str) none (some (z2/ 4% 4)))) hl7
  have e7:upd H6 l7 (.lst (bF (bC.map V.str) none (some (z2/ 4% 4)))) l7=some (.lst (bF (bC.map V.str) none (some (z2/ 4% 4)))):=aH
  generalize upd H6 l7 (.lst (bF (bC.map V.str) none (some (z2/ 4% 4))))=H7 at s7 e7|-
  rw[show z2/ 4% 4=(a1:Int) from ea1,a7b a1 ha1]at e7
  refine⟨l6,l7,_,_,rfl,rfl,s7 _ _ e6,e7,Nat.le_of_lt (cK (Nat.le_trans (len4 a1) (by decide))),fun l8 hl8=> ?_⟩
  have s8:=aE.new (o:=.lst ((bC.drop a1).map V.str++ (bC.take a1).map V.str)) hl8
  have e8:upd H7 l8 (.lst ((bC.drop a1).map V.str++ (bC.take a1).map V.str)) l8=some (.lst ((bC.drop a1).map V.str++ (bC.take a1).map V.str)):=aH
  generalize upd H7 l8 (.lst ((bC.drop a1).map V.str++ (bC.take a1).map V.str))=H8 at s8 e8|-
  rw[<- List.map_append]at e8
  refine⟨sl,fun l9 hl9=> ?_⟩
  have s9:=aE.new (o:=.lst [.ref l5,.ref l8]) hl9
  have e9:upd H8 l9 (.lst [.ref l5,.ref l8]) l9=some (.lst [.ref l5,.ref l8]):=aH
  generalize upd H8 l9 (.lst [.ref l5,.ref l8])=H9 at s9 e9|-
  have s59:=((s6.trans s7).trans s8).trans s9
  refine⟨_,rfl,l9,_,_,.ref l5,rfl,rfl,aI.of e9,rfl,_,rfl,_,_,rfl,rfl,⟨by decide,by decide⟩,_,_,rfl,rfl,(show(0:Int)<4 by decide),_,_,rfl,rfl,_,rfl,l5,_,rfl,aI.of (s59 _ _ e5),fun la hla=> ?_⟩
  have sA:=aE.new (o:=.lst (bF ((bC.drop a0++ bC.take a0).map V.str) none (some (1+ z2/ 16% 4)))) hla
  have eA:upd H9 la (.lst (bF ((bC.drop a0++ bC.take a0).map V.str) none (some (1+ z2/ 16% 4)))) la=some (.lst (bF ((bC.drop a0++ bC.take a0).map V.str) none (some (1+ z2/ 16% 4)))):=aH
  generalize upd H9 la (.lst (bF ((bC.drop a0++ bC.take a0).map V.str) none (some (1+ z2/ 16% 4))))=Ha at sA eA|-
  rw[show z2/ 16% 4=(b0:Int) from eb0,a7X]at eA
  refine⟨_,rfl,l9,_,_,.ref l8,rfl,rfl,aI.of (sA _ _ e9),rfl,_,rfl,_,_,rfl,rfl,⟨by decide,by decide⟩,_,_,rfl,rfl,(show(0:Int)<4 by decide),_,_,rfl,rfl,_,rfl,l8,_,rfl,aI.of (sA _ _ (s9 _ _ e8)),fun lb hlb=> ?_⟩
  have sB:=aE.new (o:=.lst (bF ((bC.drop a1++ bC.take a1).map V.str) none (some (1+ z2/ 64% 4)))) hlb
  have eB:upd Ha lb (.lst (bF ((bC.drop a1++ bC.take a1).map V.str) none (some (1+ z2/ 64% 4)))) lb=some (.lst (bF ((bC.drop a1++ bC.take a1).map V.str) none (some (1+ z2/ 64% 4)))):=aH
  generalize upd Ha lb (.lst (bF ((bC.drop a1++ bC.take a1).map V.str) none (some (1+ z2/ 64% 4))))=Hb at sB eB|-
  rw[show z2/ 64% 4=(b1:Int) from eb1,a7X]at eB
  refine⟨sl,fun lsm hlsm=> ?_⟩
  have sC:=aE.new (o:=.lst [.ref la,.ref lb]) hlsm
  have eC:upd Hb lsm (.lst [.ref la,.ref lb]) lsm=some (.lst [.ref la,.ref lb]):=aH
  generalize upd Hb lsm (.lst [.ref la,.ref lb])=Hc at sC eC|-
  have s2C:=((((s25.trans s59).trans sA).trans sB).trans sC)
  have s1C:=s2.trans s2C
  obtain⟨g1,g2,g3⟩:=a7C a0 ha0 b0 hb0
  obtain⟨g4,g5,g6⟩:=a7C a1 ha1 b1 hb1
  exact qE Hc a lsz lsm la lb ns m0 m1 (pY a0 b0) (pY a1 b1) _ _ _ ((s1.trans s1C).seq hS) hns (s1C _ _ e1) eC ((sB.trans sC) _ _ eA) (sC _ _ eB) ⟨by omega,g1,g2,g3⟩ ⟨by omega,g4,g5,g6⟩
end
set_option autoImplicit true in
theorem b2Q{K:Fg}{h:Heap}{mg:Str->Option Value}(X:K.In h)(G:h.Ns mainGlobals mg)
 (zK:W.nsIn K mainGlobals "len"=some none)
 (a45:W.nsIn K mainGlobals "isinstance"=some none)
 (zY:W.nsIn K mainGlobals "int"=some none)
 (a3N:W.nsIn K mainGlobals "bool"=some none)
 (a1j:W.nsIn K mainGlobals "str"=some none)
 (a4t:W.nsIn K mainGlobals "all"=some none)
 (a4T:W.nsIn K mainGlobals "range"=some none)
 (a1E:W.nsIn K mainGlobals "abs"=some none)
 (a1X:W.nsIn K mainGlobals "list"=some none)
 (a3c:W.nsIn K mainGlobals "tuple"=some none)
 (a12:W.nsIn K mainGlobals "max"=some none)
 (a0D:W.nsIn K mainGlobals "ValueError"=some none)
 {b1M:Tok}(wO:W.nsIn K mainGlobals "LETTERS"=some (some (.str ("abcdefghijklmnopqrstuvwxyz":Str) b1M)))
 {b1K:Tok}(xO:W.nsIn K mainGlobals "MOST_LETTERS"=some (some (.int 8 b1K)))
 {b1u:Tok}(yO:W.nsIn K mainGlobals "MOST_ROWS"=some (some (.int 30 b1u)))
 {b0a:Tok}(a4O:W.nsIn K mainGlobals "MOST_COLUMNS"=some (some (.int 8 b0a)))
 {b1y:Tok}(a0k:W.nsIn K mainGlobals "MOST_TABLES"=some (some (.int 4 b1y)))
 {b2f b3u:Tok}{b2T:Nat}(a1k:W.nsIn K mainGlobals "UNKNOWN"=some (some (.ref a8p)))(a4H:K.lookup a8p=some ⟨.type "tuple",od_UNKNOWN,.seq #[Value.str ("fault":Str) b2f,Value.str ("unknown":Str) b3u] b2T,sl_UNKNOWN⟩)
 (xZ:W.nsIn K mainGlobals "is_whole"=some (some (.ref a8E)))
 (a02:K.lookup a8E=some ⟨oc_is_whole,od_is_whole,.func (W.fnOf "is_whole" "is_whole" (aR pJ) (aP pJ) (aB pJ) .none kV_is_whole doc_is_whole pm_is_whole an_is_whole b0L ct_is_whole),sl_is_whole⟩)
 (a36:W.codeIn K b0L "is_whole"=true)(iV:W.keepIn K (.ref a8E)=true)
 (a4L:W.nsIn K mainGlobals "is_number"=some (some (.ref a7P)))
 (a0W:K.lookup a7P=some ⟨oc_is_number,od_is_number,.func (W.fnOf "is_number" "is_number" (aR pO) (aP pO) (aB pO) .none kV_is_number doc_is_number pm_is_number an_is_number b2g ct_is_number),sl_is_number⟩)
 (a6s:W.codeIn K b2g "is_number"=true)(qT:W.keepIn K (.ref a7P)=true)
 (a2z:W.nsIn K mainGlobals "is_name"=some (some (.ref a8f)))
 (a4p:K.lookup a8f=some ⟨oc_is_name,od_is_name,.func (W.fnOf "is_name" "is_name" (aR oR) (aP oR) (aB oR) .none kV_is_name doc_is_name pm_is_name an_is_name a89 ct_is_name),sl_is_name⟩)
 (a2O:W.codeIn K a89 "is_name"=true)(gM:W.keepIn K (.ref a8f)=true)
 (a6E:W.nsIn K mainGlobals "is_fault"=some (some (.ref a7r)))
 (a2a:K.lookup a7r=some ⟨oc_is_fault,od_is_fault,.func (W.fnOf "is_fault" "is_fault" (aR sQ) (aP sQ) (aB sQ) .none kV_is_fault doc_is_fault pm_is_fault an_is_fault a9E ct_is_fault),sl_is_fault⟩)
 (a5z:W.codeIn K a9E "is_fault"=true)(rJ:W.keepIn K (.ref a7r)=true)
 (xM:W.nsIn K mainGlobals "is_value"=some (some (.ref a8I)))
 (yT:K.lookup a8I=some ⟨oc_is_value,od_is_value,.func (W.fnOf "is_value" "is_value" (aR nF) (aP nF) (aB nF) .none kV_is_value doc_is_value pm_is_value an_is_value b3r ct_is_value),sl_is_value⟩)
 (a3q:W.codeIn K b3r "is_value"=true)(rT:W.keepIn K (.ref a8I)=true)
 (a0t:W.nsIn K mainGlobals "check_size"=some (some (.ref a86)))
 (a6o:K.lookup a86=some ⟨oc_check_size,od_check_size,.func (W.fnOf "check_size" "check_size" (aR qC) (aP qC) (aB qC) .none kV_check_size doc_check_size pm_check_size an_check_size b0s ct_check_size),sl_check_size⟩)
 (a46:W.codeIn K b0s "check_size"=true)(mR:W.keepIn K (.ref a86)=true)
 (a4u:W.nsIn K mainGlobals "check_place"=some (some (.ref a7T)))
 (wY:K.lookup a7T=some ⟨oc_check_place,od_check_place,.func (W.fnOf "check_place" "check_place" (aR rG) (aP rG) (aB rG) .none kV_check_place doc_check_place pm_check_place an_check_place b1h ct_check_place),sl_check_place⟩)
 (yS:W.codeIn K b1h "check_place"=true)(jA:W.keepIn K (.ref a7T)=true)
 (a0d:W.nsIn K mainGlobals "check_values"=some (some (.ref a64)))
 (a5W:K.lookup a64=some ⟨oc_check_values,od_check_values,.func (W.fnOf "check_values" "check_values" (aR qR) (aP qR) (aB qR) .none kV_check_values doc_check_values pm_check_values an_check_values b3m ct_check_values),sl_check_values⟩)
 (a3H:W.codeIn K b3m "check_values"=true)(lM:W.keepIn K (.ref a64)=true)
 (a2h:W.nsIn K mainGlobals "check_column"=some (some (.ref a8s)))
 (zH:K.lookup a8s=some ⟨oc_check_column,od_check_column,.func (W.fnOf "check_column" "check_column" (aR oT) (aP oT) (aB oT) .none kV_check_column doc_check_column pm_check_column an_check_column b3P ct_check_column),sl_check_column⟩)
 (a2m:W.codeIn K b3P "check_column"=true)(lC:W.keepIn K (.ref a8s)=true)
 (a1I:W.nsIn K mainGlobals "check_count"=some (some (.ref a7F)))
 (a3g:K.lookup a7F=some ⟨oc_check_count,od_check_count,.func (W.fnOf "check_count" "check_count" (aR sP) (aP sP) (aB sP) .none kV_check_count doc_check_count pm_check_count an_check_count b2X ct_check_count),sl_check_count⟩)
 (a2P:W.codeIn K b2X "check_count"=true)(sN:W.keepIn K (.ref a7F)=true)
 (a3x:W.nsIn K mainGlobals "_law_cell_at"=some (some (.ref a7e)))
 (a47:K.lookup a7e=some ⟨oc_law_cell_at,od_law_cell_at,.func (W.fnOf "_law_cell_at" "_law_cell_at" (aR nD) (aP nD) (aB nD) .none kV_law_cell_at doc_law_cell_at pm_law_cell_at an_law_cell_at b26 ct_law_cell_at),sl_law_cell_at⟩)
 (zZ:W.codeIn K b26 "_law_cell_at"=true)(jS:W.keepIn K (.ref a7e)=true)
 (a5A:W.nsIn K mainGlobals "_law_table"=some (some (.ref a7N)))
 (a5D:K.lookup a7N=some ⟨oc_law_table,od_law_table,.func (W.fnOf "_law_table" "_law_table" (aR rZ) (aP rZ) (aB rZ) .none kV_law_table doc_law_table pm_law_table an_law_table b2A ct_law_table),sl_law_table⟩)
 (yL:W.codeIn K b2A "_law_table"=true)(sO:W.keepIn K (.ref a7N)=true)
 (a1f:W.nsIn K mainGlobals "_law_rows"=some (some (.ref a7B)))
 (wA:K.lookup a7B=some ⟨oc_law_rows,od_law_rows,.func (W.fnOf "_law_rows" "_law_rows" (aR sK) (aP sK) (aB sK) .none kV_law_rows doc_law_rows pm_law_rows an_law_rows b2e ct_law_rows),sl_law_rows⟩)
 (a4Q:W.codeIn K b2e "_law_rows"=true)(pH:W.keepIn K (.ref a7B)=true)
 (a6Q:W.nsIn K mainGlobals "_law_checked"=some (some (.ref a8n)))
 (a5B:K.lookup a8n=some ⟨oc_law_checked,od_law_checked,.func (W.fnOf "_law_checked" "_law_checked" (aR iP) (aP iP) (aB iP) .none kV_law_checked doc_law_checked pm_law_checked an_law_checked b3z ct_law_checked),sl_law_checked⟩)
 (a2R:W.codeIn K b3z "_law_checked"=true)(qS:W.keepIn K (.ref a8n)=true)
 (yI:W.nsIn K mainGlobals "law"=some (some (.ref a7k)))
 (a5l:K.lookup a7k=some ⟨oc_law,od_law,.func (W.fnOf "law" "law" (aR fG) (aP fG) (aB fG) .none kV_law doc_law pm_law an_law b2G ct_law),sl_law⟩)
 (xR:W.codeIn K b2G "law"=true)(zG:W.keepIn K (.ref a7k)=true)
 (a4a:W.nsIn K mainGlobals "Table"=some (some (.ref dH)))
 (a0X:W.plainGet K dH Str.empty=true)(a0s:W.hasDictIn K dH=true)(yA:W.plainOver K dH=true)(zS:W.findIn K (.ref dH) "__setattr__"=some (some (.builtin "object.__setattr__")))(a3C:W.makesIn K dH=true)(xF:W.keepIn K (.ref dH)=true)(a5r:W.findIn K (.ref dH) "__class__"=some (some (.builtin "object.__class__")))
 (a20:W.findIn K (.ref dH) "row_numbers"=some none)
 (a50:W.findIn K (.ref dH) "fresh_number"=some none)
 (a2d:W.findIn K (.ref dH) "kept"=some none)
 (a4J:W.findIn K (.ref dH) "__init__"=some (some (.ref a5k)))(xT:W.isFn K (.ref a5k)=true)
 (a6O:K.lookup a5k=some ⟨oc_Table_init,od_Table_init,.func (W.fnOf "__init__" "Table.__init__" (aR pB) (aP pB) (aB pB) .none kV_Table_init doc_Table_init pm_Table_init an_Table_init a9k ct_Table_init),sl_Table_init⟩)
 (a4q:W.codeIn K a9k "Table.__init__"=true)(qY:W.keepIn K (.ref a5k)=true)
 (a6X:W.findIn K (.ref dH) "many"=some (some (.ref a6r)))(a2u:W.isFn K (.ref a6r)=true)
 (a6c:K.lookup a6r=some ⟨oc_Table_many,od_Table_many,.func (W.fnOf "many" "Table.many" (aR nO) (aP nO) (aB nO) .none kV_Table_many doc_Table_many pm_Table_many an_Table_many b3A ct_Table_many),sl_Table_many⟩)
 (wF:W.codeIn K b3A "Table.many"=true)(gY:W.keepIn K (.ref a6r)=true)
 (a3B:W.findIn K (.ref dH) "columns"=some (some (.ref a6F)))(xI:W.isFn K (.ref a6F)=true)
 (a1i:K.lookup a6F=some ⟨oc_Table_columns,od_Table_columns,.func (W.fnOf "columns" "Table.columns" (aR tV) (aP tV) (aB tV) .none kV_Table_columns doc_Table_columns pm_Table_columns an_Table_columns b0S ct_Table_columns),sl_Table_columns⟩)
 (a2F:W.codeIn K b0S "Table.columns"=true)(zT:W.keepIn K (.ref a6F)=true)
 (a25:W.findIn K (.ref dH) "give"=some (some (.ref a2M)))(a3G:W.isFn K (.ref a2M)=true)
 (a4S:K.lookup a2M=some ⟨oc_Table_give,od_Table_give,.func (W.fnOf "give" "Table.give" (aR kJ) (aP kJ) (aB kJ) .none kV_Table_give doc_Table_give pm_Table_give an_Table_give b1d ct_Table_give),sl_Table_give⟩)
 (wV:W.codeIn K b1d "Table.give"=true)(rY:W.keepIn K (.ref a2M)=true)
 (a6h:W.findIn K (.ref dH) "drop"=some (some (.ref xX)))(a4U:W.isFn K (.ref xX)=true)
 (a2j:K.lookup xX=some ⟨oc_Table_drop,od_Table_drop,.func (W.fnOf "drop" "Table.drop" (aR uZ) (aP uZ) (aB uZ) .none kV_Table_drop doc_Table_drop pm_Table_drop an_Table_drop b0E ct_Table_drop),sl_Table_drop⟩)
 (a3M:W.codeIn K b0E "Table.drop"=true)(a6d:W.keepIn K (.ref xX)=true)
 (a0P:W.findIn K (.ref dH) "at"=some (some (.ref a4v)))(vZ:W.isFn K (.ref a4v)=true)
 (a0o:K.lookup a4v=some ⟨oc_Table_at,od_Table_at,.func (W.fnOf "at" "Table.at" (aR mX) (aP mX) (aB mX) .none kV_Table_at doc_Table_at pm_Table_at an_Table_at b27 ct_Table_at),sl_Table_at⟩)
 (a5U:W.codeIn K b27 "Table.at"=true)(pD:W.keepIn K (.ref a4v)=true)
 (a27:W.findIn K (.ref dH) "number_at"=some (some (.ref a2S)))(vY:W.isFn K (.ref a2S)=true)
 (a30:K.lookup a2S=some ⟨oc_Table_number_at,od_Table_number_at,.func (W.fnOf "number_at" "Table.number_at" (aR oJ) (aP oJ) (aB oJ) .none kV_Table_number_at doc_Table_number_at pm_Table_number_at an_Table_number_at b01 ct_Table_number_at),sl_Table_number_at⟩)
 (a37:W.codeIn K b01 "Table.number_at"=true)(tL:W.keepIn K (.ref a2S)=true)
 (a0L:W.findIn K (.ref dH) "check_column"=some (some (.ref a3m)))(a17:W.isFn K (.ref a3m)=true)
 (a5J:K.lookup a3m=some ⟨oc_Table_check_column,od_Table_check_column,.func (W.fnOf "check_column" "Table.check_column" (aR pA) (aP pA) (aB pA) .none kV_Table_check_column doc_Table_check_column pm_Table_check_column an_Table_check_column b1R ct_Table_check_column),sl_Table_check_column⟩)
 (a54:W.codeIn K b1R "Table.check_column"=true)(qF:W.keepIn K (.ref a3m)=true)
 (wE:W.nsIn K mainGlobals "Spot"=some (some (.ref fA)))
 (a5m:W.plainGet K fA Str.empty=true)(yK:W.hasDictIn K fA=true)(a2Y:W.plainOver K fA=true)(wB:W.findIn K (.ref fA) "__setattr__"=some (some (.builtin "object.__setattr__")))(a3J:W.makesIn K fA=true)(a0O:W.keepIn K (.ref fA)=true)(wD:W.findIn K (.ref fA) "__class__"=some (some (.builtin "object.__class__")))
 (xV:W.findIn K (.ref fA) "sheet"=some none)
 (a6D:W.findIn K (.ref fA) "name"=some none)
 (a07:W.findIn K (.ref fA) "column"=some none)
 (a2k:W.findIn K (.ref fA) "place"=some none)
 (a6m:W.findIn K (.ref fA) "__init__"=some (some (.ref a1o)))(a1v:W.isFn K (.ref a1o)=true)
 (vV:K.lookup a1o=some ⟨oc_Spot_init,od_Spot_init,.func (W.fnOf "__init__" "Spot.__init__" (aR rL) (aP rL) (aB rL) .none kV_Spot_init doc_Spot_init pm_Spot_init an_Spot_init b1Y ct_Spot_init),sl_Spot_init⟩)
 (a48:W.codeIn K b1Y "Spot.__init__"=true)(mY:W.keepIn K (.ref a1o)=true)
 (a5y:W.findIn K (.ref fA) "told"=some (some (.ref a6P)))(a44:W.isFn K (.ref a6P)=true)
 (a0v:K.lookup a6P=some ⟨oc_Spot_told,od_Spot_told,.func (W.fnOf "told" "Spot.told" (aR nU) (aP nU) (aB nU) .none kV_Spot_told doc_Spot_told pm_Spot_told an_Spot_told b2z ct_Spot_told),sl_Spot_told⟩)
 (a0g:W.codeIn K b2z "Spot.told"=true)(nV:W.keepIn K (.ref a6P)=true)
 (a6t:W.nsIn K mainGlobals "View"=some (some (.ref dX)))
 (a4I:W.plainGet K dX Str.empty=true)(a23:W.hasDictIn K dX=true)(zC:W.plainOver K dX=true)(a4N:W.findIn K (.ref dX) "__setattr__"=some (some (.builtin "object.__setattr__")))(yZ:W.makesIn K dX=true)(a6b:W.keepIn K (.ref dX)=true)(a6i:W.findIn K (.ref dX) "__class__"=some (some (.builtin "object.__class__")))
 (xB:W.findIn K (.ref dX) "columns"=some (some (.ref vR)))(uR:W.isFn K (.ref vR)=true)
 (sW:K.lookup vR=some ⟨oc_View_columns,od_View_columns,.func (W.fnOf "columns" "View.columns" (aR lJ) (aP lJ) (aB lJ) .none kV_View_columns doc_View_columns pm_View_columns an_View_columns a9B ct_View_columns),sl_View_columns⟩)
 (vO:W.codeIn K a9B "View.columns"=true)(vQ:W.keepIn K (.ref vR)=true)
 (a3f:W.findIn K (.ref dX) "rows"=some (some (.ref a1D)))(wL:W.isFn K (.ref a1D)=true)
 (a2E:K.lookup a1D=some ⟨oc_View_rows,od_View_rows,.func (W.fnOf "rows" "View.rows" (aR uV) (aP uV) (aB uV) .none kV_View_rows doc_View_rows pm_View_rows an_View_rows b2I ct_View_rows),sl_View_rows⟩)
 (a5u:W.codeIn K b2I "View.rows"=true)(a2G:W.keepIn K (.ref a1D)=true)
 (zF:W.findIn K (.ref dX) "value_at"=some (some (.ref uB)))(uM:W.isFn K (.ref uB)=true)
 (tI:K.lookup uB=some ⟨oc_View_value_at,od_View_value_at,.func (W.fnOf "value_at" "View.value_at" (aR mT) (aP mT) (aB mT) .none kV_View_value_at doc_View_value_at pm_View_value_at an_View_value_at a9A ct_View_value_at),sl_View_value_at⟩)
 (tP:W.codeIn K a9A "View.value_at"=true)(uX:W.keepIn K (.ref uB)=true)
 (a6p:W.findIn K (.ref dX) "spots_at"=some (some (.ref tG)))(uI:W.isFn K (.ref tG)=true)
 (sT:K.lookup tG=some ⟨oc_View_spots_at,od_View_spots_at,.func (W.fnOf "spots_at" "View.spots_at" (aR mQ) (aP mQ) (aB mQ) .none kV_View_spots_at doc_View_spots_at pm_View_spots_at an_View_spots_at a9X ct_View_spots_at),sl_View_spots_at⟩)
 (sV:W.codeIn K a9X "View.spots_at"=true)(uF:W.keepIn K (.ref tG)=true)
 (a2c:W.findIn K (.ref dX) "many"=some (some (.ref mE)))(lZ:W.isFn K (.ref mE)=true)
 (kP:K.lookup mE=some ⟨oc_View_many,od_View_many,.func (W.fnOf "many" "View.many" (aR iF) (aP iF) (aB iF) .none kV_View_many doc_View_many pm_View_many an_View_many b3l ct_View_many),sl_View_many⟩)
 (kO:W.codeIn K b3l "View.many"=true)(iS:W.keepIn K (.ref mE)=true)
 (a1T:W.findIn K (.ref dX) "look"=some (some (.ref lQ)))(lK:W.isFn K (.ref lQ)=true)
 (kQ:K.lookup lQ=some ⟨oc_View_look,od_View_look,.func (W.fnOf "look" "View.look" (aR iM) (aP iM) (aB iM) .none kV_View_look doc_View_look pm_View_look an_View_look a9f ct_View_look),sl_View_look⟩)
 (mK:W.codeIn K a9f "View.look"=true)(jC:W.keepIn K (.ref lQ)=true)
 (a0r:W.findIn K (.ref dX) "shown"=some (some (.ref kW)))(lD:W.isFn K (.ref kW)=true)
 (lN:K.lookup kW=some ⟨oc_View_shown,od_View_shown,.func (W.fnOf "shown" "View.shown" (aR gB) (aP gB) (aB gB) .none kV_View_shown doc_View_shown pm_View_shown an_View_shown b1C ct_View_shown),sl_View_shown⟩)
 (mP:W.codeIn K b1C "View.shown"=true)(iZ:W.keepIn K (.ref kW)=true)
 (zM:W.findIn K (.ref dX) "spots"=some (some (.ref lG)))(lU:W.isFn K (.ref lG)=true)
 (mL:K.lookup lG=some ⟨oc_View_spots,od_View_spots,.func (W.fnOf "spots" "View.spots" (aR iC) (aP iC) (aB iC) .none kV_View_spots doc_View_spots pm_View_spots an_View_spots a97 ct_View_spots),sl_View_spots⟩)
 (lP:W.codeIn K a97 "View.spots"=true)(iQ:W.keepIn K (.ref lG)=true)
 (a3R:W.findIn K (.ref dX) "asked_row"=some (some (.ref lV)))(lO:W.isFn K (.ref lV)=true)
 (mC:K.lookup lV=some ⟨oc_View_asked_row,od_View_asked_row,.func (W.fnOf "asked_row" "View.asked_row" (aR hU) (aP hU) (aB hU) .none kV_View_asked_row doc_View_asked_row pm_View_asked_row an_View_asked_row a9i ct_View_asked_row),sl_View_asked_row⟩)
 (lT:W.codeIn K a9i "View.asked_row"=true)(kX:W.keepIn K (.ref lV)=true)
 (a6Y:W.nsIn K mainGlobals "Whole"=some (some (.ref dD)))
 (a5a:W.plainGet K dD Str.empty=true)(a1Q:W.hasDictIn K dD=true)(a5b:W.plainOver K dD=true)(xD:W.findIn K (.ref dD) "__setattr__"=some (some (.builtin "object.__setattr__")))(a3t:W.makesIn K dD=true)(a3e:W.keepIn K (.ref dD)=true)(a6v:W.findIn K (.ref dD) "__class__"=some (some (.builtin "object.__class__")))
 (a0J:W.findIn K (.ref dD) "sheet"=some none)
 (a6a:W.findIn K (.ref dD) "name"=some none)
 (a5P:W.findIn K (.ref dD) "__init__"=some (some (.ref a5t)))(a0b:W.isFn K (.ref a5t)=true)
 (a3s:K.lookup a5t=some ⟨oc_Whole_init,od_Whole_init,.func (W.fnOf "__init__" "Whole.__init__" (aR nH) (aP nH) (aB nH) .none kV_Whole_init doc_Whole_init pm_Whole_init an_Whole_init b0l ct_Whole_init),sl_Whole_init⟩)
 (a6U:W.codeIn K b0l "Whole.__init__"=true)(uS:W.keepIn K (.ref a5t)=true)
 (vX:W.findIn K (.ref dD) "columns"=some (some (.ref a6k)))(a3D:W.isFn K (.ref a6k)=true)
 (a6u:K.lookup a6k=some ⟨oc_Whole_columns,od_Whole_columns,.func (W.fnOf "columns" "Whole.columns" (aR pP) (aP pP) (aB pP) .none kV_Whole_columns doc_Whole_columns pm_Whole_columns an_Whole_columns b0n ct_Whole_columns),sl_Whole_columns⟩)
 (a2l:W.codeIn K b0n "Whole.columns"=true)(kZ:W.keepIn K (.ref a6k)=true)
 (a0j:W.findIn K (.ref dD) "rows"=some (some (.ref a1F)))(a6l:W.isFn K (.ref a1F)=true)
 (a31:K.lookup a1F=some ⟨oc_Whole_rows,od_Whole_rows,.func (W.fnOf "rows" "Whole.rows" (aR rQ) (aP rQ) (aB rQ) .none kV_Whole_rows doc_Whole_rows pm_Whole_rows an_Whole_rows a9r ct_Whole_rows),sl_Whole_rows⟩)
 (a0z:W.codeIn K a9r "Whole.rows"=true)(lB:W.keepIn K (.ref a1F)=true)
 (a2D:W.findIn K (.ref dD) "value_at"=some (some (.ref a5S)))(a19:W.isFn K (.ref a5S)=true)
 (a4z:K.lookup a5S=some ⟨oc_Whole_value_at,od_Whole_value_at,.func (W.fnOf "value_at" "Whole.value_at" (aR oO) (aP oO) (aB oO) .none kV_Whole_value_at doc_Whole_value_at pm_Whole_value_at an_Whole_value_at a9U ct_Whole_value_at),sl_Whole_value_at⟩)
 (a13:W.codeIn K a9U "Whole.value_at"=true)(lA:W.keepIn K (.ref a5S)=true)
 (a4A:W.findIn K (.ref dD) "spots_at"=some (some (.ref a1Y)))(a53:W.isFn K (.ref a1Y)=true)
 (a2V:K.lookup a1Y=some ⟨oc_Whole_spots_at,od_Whole_spots_at,.func (W.fnOf "spots_at" "Whole.spots_at" (aR oP) (aP oP) (aB oP) .none kV_Whole_spots_at doc_Whole_spots_at pm_Whole_spots_at an_Whole_spots_at b3v ct_Whole_spots_at),sl_Whole_spots_at⟩)
 (a4Z:W.codeIn K b3v "Whole.spots_at"=true)(mM:W.keepIn K (.ref a1Y)=true)
 (a0h:W.findIn K (.ref dD) "many"=some (some (.ref mE)))
 (a5H:W.findIn K (.ref dD) "look"=some (some (.ref lQ)))
 (xN:W.findIn K (.ref dD) "shown"=some (some (.ref kW)))
 (a32:W.findIn K (.ref dD) "spots"=some (some (.ref lG)))
 (a5I:W.findIn K (.ref dD) "asked_row"=some (some (.ref lV)))
 (a4h:W.nsIn K mainGlobals "Cut"=some (some (.ref dA)))
 (a0e:W.plainGet K dA Str.empty=true)(a5R:W.hasDictIn K dA=true)(a2B:W.plainOver K dA=true)(a6Z:W.findIn K (.ref dA) "__setattr__"=some (some (.builtin "object.__setattr__")))(a5s:W.makesIn K dA=true)(wZ:W.keepIn K (.ref dA)=true)(a3p:W.findIn K (.ref dA) "__class__"=some (some (.builtin "object.__class__")))
 (a4i:W.findIn K (.ref dA) "view"=some none)
 (wU:W.findIn K (.ref dA) "start"=some none)
 (a5e:W.findIn K (.ref dA) "count"=some none)
 (a58:W.findIn K (.ref dA) "__init__"=some (some (.ref a6C)))(a1z:W.isFn K (.ref a6C)=true)
 (a5x:K.lookup a6C=some ⟨oc_Cut_init,od_Cut_init,.func (W.fnOf "__init__" "Cut.__init__" (aR rV) (aP rV) (aB rV) .none kV_Cut_init doc_Cut_init pm_Cut_init an_Cut_init b1U ct_Cut_init),sl_Cut_init⟩)
 (a3E:W.codeIn K b1U "Cut.__init__"=true)(pX:W.keepIn K (.ref a6C)=true)
 (a3h:W.findIn K (.ref dA) "rows"=some (some (.ref a5L)))(a60:W.isFn K (.ref a5L)=true)
 (a15:K.lookup a5L=some ⟨oc_Cut_rows,od_Cut_rows,.func (W.fnOf "rows" "Cut.rows" (aR rC) (aP rC) (aB rC) .none kV_Cut_rows doc_Cut_rows pm_Cut_rows an_Cut_rows a9H ct_Cut_rows),sl_Cut_rows⟩)
 (yX:W.codeIn K a9H "Cut.rows"=true)(qW:W.keepIn K (.ref a5L)=true)
 (a5F:W.findIn K (.ref dA) "columns"=some (some (.ref vR)))
 (a42:W.findIn K (.ref dA) "value_at"=some (some (.ref uB)))
 (a2s:W.findIn K (.ref dA) "spots_at"=some (some (.ref tG)))
 (a24:W.findIn K (.ref dA) "many"=some (some (.ref mE)))
 (a3w:W.findIn K (.ref dA) "look"=some (some (.ref lQ)))
 (a3Q:W.findIn K (.ref dA) "shown"=some (some (.ref kW)))
 (xE:W.findIn K (.ref dA) "spots"=some (some (.ref lG)))
 (a55:W.findIn K (.ref dA) "asked_row"=some (some (.ref lV)))
 (a4n:W.nsIn K mainGlobals "Together"=some (some (.ref dE)))
 (a4f:W.plainGet K dE Str.empty=true)(a3d:W.hasDictIn K dE=true)(yB:W.plainOver K dE=true)(a2v:W.findIn K (.ref dE) "__setattr__"=some (some (.builtin "object.__setattr__")))(a3A:W.makesIn K dE=true)(a6w:W.keepIn K (.ref dE)=true)(a0q:W.findIn K (.ref dE) "__class__"=some (some (.builtin "object.__class__")))
 (a6K:W.findIn K (.ref dE) "one"=some none)
 (a6e:W.findIn K (.ref dE) "other"=some none)
 (a4d:W.findIn K (.ref dE) "__init__"=some (some (.ref a06)))(a5h:W.isFn K (.ref a06)=true)
 (zU:K.lookup a06=some ⟨oc_Together_init,od_Together_init,.func (W.fnOf "__init__" "Together.__init__" (aR mZ) (aP mZ) (aB mZ) .none kV_Together_init doc_Together_init pm_Together_init an_Together_init b1X ct_Together_init),sl_Together_init⟩)
 (a4o:W.codeIn K b1X "Together.__init__"=true)(pU:W.keepIn K (.ref a06)=true)
 (a2Z:W.findIn K (.ref dE) "columns"=some (some (.ref a4c)))(yE:W.isFn K (.ref a4c)=true)
 (zO:K.lookup a4c=some ⟨oc_Together_columns,od_Together_columns,.func (W.fnOf "columns" "Together.columns" (aR iY) (aP iY) (aB iY) .none kV_Together_columns doc_Together_columns pm_Together_columns an_Together_columns b1A ct_Together_columns),sl_Together_columns⟩)
 (a2Q:W.codeIn K b1A "Together.columns"=true)(yF:W.keepIn K (.ref a4c)=true)
 (a0C:W.findIn K (.ref dE) "rows"=some (some (.ref a0Q)))(a4w:W.isFn K (.ref a0Q)=true)
 (wX:K.lookup a0Q=some ⟨oc_Together_rows,od_Together_rows,.func (W.fnOf "rows" "Together.rows" (aR iA) (aP iA) (aB iA) .none kV_Together_rows doc_Together_rows pm_Together_rows an_Together_rows b3p ct_Together_rows),sl_Together_rows⟩)
 (a0B:W.codeIn K b3p "Together.rows"=true)(a6A:W.keepIn K (.ref a0Q)=true)
 (a0x:W.findIn K (.ref dE) "value_at"=some (some (.ref a0a)))(a6x:W.isFn K (.ref a0a)=true)
 (zJ:K.lookup a0a=some ⟨oc_Together_value_at,od_Together_value_at,.func (W.fnOf "value_at" "Together.value_at" (aR nQ) (aP nQ) (aB nQ) .none kV_Together_value_at doc_Together_value_at pm_Together_value_at an_Together_value_at b19 ct_Together_value_at),sl_Together_value_at⟩)
 (a4P:W.codeIn K b19 "Together.value_at"=true)(a0K:W.keepIn K (.ref a0a)=true)
 (a5K:W.findIn K (.ref dE) "spots_at"=some (some (.ref a1q)))(a2i:W.isFn K (.ref a1q)=true)
 (a0w:K.lookup a1q=some ⟨oc_Together_spots_at,od_Together_spots_at,.func (W.fnOf "spots_at" "Together.spots_at" (aR oI) (aP oI) (aB oI) .none kV_Together_spots_at doc_Together_spots_at pm_Together_spots_at an_Together_spots_at a99 ct_Together_spots_at),sl_Together_spots_at⟩)
 (a0p:W.codeIn K a99 "Together.spots_at"=true)(a4x:W.keepIn K (.ref a1q)=true)
 (a5X:W.findIn K (.ref dE) "many"=some (some (.ref mE)))
 (a1m:W.findIn K (.ref dE) "look"=some (some (.ref lQ)))
 (a1Z:W.findIn K (.ref dE) "shown"=some (some (.ref kW)))
 (a0E:W.findIn K (.ref dE) "spots"=some (some (.ref lG)))
 (a4Y:W.findIn K (.ref dE) "asked_row"=some (some (.ref lV)))
 (xY:W.nsIn K mainGlobals "Board"=some (some (.ref dM)))
 (xC:W.plainGet K dM Str.empty=true)(a2I:W.hasDictIn K dM=true)(a3o:W.plainOver K dM=true)(a3I:W.findIn K (.ref dM) "__setattr__"=some (some (.builtin "object.__setattr__")))(zX:W.makesIn K dM=true)(a3X:W.keepIn K (.ref dM)=true)(wC:W.findIn K (.ref dM) "__class__"=some (some (.builtin "object.__class__")))
 (a2L:W.findIn K (.ref dM) "given"=some none)
 (a3K:W.findIn K (.ref dM) "rules"=some none)
 (yW:W.findIn K (.ref dM) "memory"=some none)
 (a4j:W.findIn K (.ref dM) "order"=some none)
 (a6M:W.findIn K (.ref dM) "__init__"=some (some (.ref a1g)))(a3n:W.isFn K (.ref a1g)=true)
 (a3i:K.lookup a1g=some ⟨oc_Board_init,od_Board_init,.func (W.fnOf "__init__" "Board.__init__" (aR oU) (aP oU) (aB oU) .none kV_Board_init doc_Board_init pm_Board_init an_Board_init b3V ct_Board_init),sl_Board_init⟩)
 (zB:W.codeIn K b3V "Board.__init__"=true)(pN:W.keepIn K (.ref a1g)=true)
 (a6y:W.findIn K (.ref dM) "has_column"=some (some (.ref vT)))(wP:W.isFn K (.ref vT)=true)
 (a3u:K.lookup vT=some ⟨oc_Board_has_column,od_Board_has_column,.func (W.fnOf "has_column" "Board.has_column" (aR nC) (aP nC) (aB nC) .none kV_Board_has_column doc_Board_has_column pm_Board_has_column an_Board_has_column b1l ct_Board_has_column),sl_Board_has_column⟩)
 (a1U:W.codeIn K b1l "Board.has_column"=true)(oM:W.keepIn K (.ref vT)=true)
 (a0T:W.findIn K (.ref dM) "content"=some (some (.ref a2f)))(a4s:W.isFn K (.ref a2f)=true)
 (wW:K.lookup a2f=some ⟨oc_Board_content,od_Board_content,.func (W.fnOf "content" "Board.content" (aR nY) (aP nY) (aB nY) .none kV_Board_content doc_Board_content pm_Board_content an_Board_content a9L ct_Board_content),sl_Board_content⟩)
 (a5M:W.codeIn K a9L "Board.content"=true)(nA:W.keepIn K (.ref a2f)=true)
 (a6G:W.findIn K (.ref dM) "set_column"=some (some (.ref a5g)))(a5Y:W.isFn K (.ref a5g)=true)
 (a3L:K.lookup a5g=some ⟨oc_Board_set_column,od_Board_set_column,.func (W.fnOf "set_column" "Board.set_column" (aR nR) (aP nR) (aB nR) .none kV_Board_set_column doc_Board_set_column pm_Board_set_column an_Board_set_column a9S ct_Board_set_column),sl_Board_set_column⟩)
 (a2g:W.codeIn K a9S "Board.set_column"=true)(a1a:W.keepIn K (.ref a5g)=true)
 (a3V:W.findIn K (.ref dM) "empty_column"=some (some (.ref xJ)))(a41:W.isFn K (.ref xJ)=true)
 (a2H:K.lookup xJ=some ⟨oc_Board_empty_column,od_Board_empty_column,.func (W.fnOf "empty_column" "Board.empty_column" (aR pM) (aP pM) (aB pM) .none kV_Board_empty_column doc_Board_empty_column pm_Board_empty_column an_Board_empty_column a9m ct_Board_empty_column),sl_Board_empty_column⟩)
 (a4m:W.codeIn K a9m "Board.empty_column"=true)(sM:W.keepIn K (.ref xJ)=true)
 (a1r:W.findIn K (.ref dM) "outcome"=some (some (.ref a5G)))(a1N:W.isFn K (.ref a5G)=true)
 (a22:K.lookup a5G=some ⟨oc_Board_outcome,od_Board_outcome,.func (W.fnOf "outcome" "Board.outcome" (aR sU) (aP sU) (aB sU) .none kV_Board_outcome doc_Board_outcome pm_Board_outcome an_Board_outcome a9F ct_Board_outcome),sl_Board_outcome⟩)
 (a2b:W.codeIn K a9F "Board.outcome"=true)(vW:W.keepIn K (.ref a5G)=true)
 (a2J:W.nsIn K mainGlobals "TableTold"=some (some (.ref fT)))
 (wT:W.plainGet K fT Str.empty=true)(a3Z:W.hasDictIn K fT=true)(a5E:W.plainOver K fT=true)(a1M:W.findIn K (.ref fT) "__setattr__"=some (some (.builtin "object.__setattr__")))(a6g:W.makesIn K fT=true)(a3Y:W.keepIn K (.ref fT)=true)(a1B:W.findIn K (.ref fT) "__class__"=some (some (.builtin "object.__class__")))
 (a0u:W.findIn K (.ref fT) "boards"=some none)
 (a6V:W.findIn K (.ref fT) "name"=some none)
 (a5Q:W.findIn K (.ref fT) "size"=some none)
 (a40:W.findIn K (.ref fT) "__init__"=some (some (.ref a3j)))(a1C:W.isFn K (.ref a3j)=true)
 (a2N:K.lookup a3j=some ⟨oc_TableTold_init,od_TableTold_init,.func (W.fnOf "__init__" "TableTold.__init__" (aR nX) (aP nX) (aB nX) .none kV_TableTold_init doc_TableTold_init pm_TableTold_init an_TableTold_init b2t ct_TableTold_init),sl_TableTold_init⟩)
 (a18:W.codeIn K b2t "TableTold.__init__"=true)(qH:W.keepIn K (.ref a3j)=true)
 (yC:W.findIn K (.ref fT) "take"=some (some (.ref a6B)))(a2U:W.isFn K (.ref a6B)=true)
 (a14:K.lookup a6B=some ⟨oc_TableTold_take,od_TableTold_take,.func (W.fnOf "take" "TableTold.take" (aR oF) (aP oF) (aB oF) .none kV_TableTold_take doc_TableTold_take pm_TableTold_take an_TableTold_take b07 ct_TableTold_take),sl_TableTold_take⟩)
 (a1w:W.codeIn K b07 "TableTold.take"=true)(nM:W.keepIn K (.ref a6B)=true)
 (a3l:W.nsIn K mainGlobals "ColumnSet"=some (some (.ref fN)))
 (xW:W.plainGet K fN Str.empty=true)(a5C:W.hasDictIn K fN=true)(a3a:W.plainOver K fN=true)(a5p:W.findIn K (.ref fN) "__setattr__"=some (some (.builtin "object.__setattr__")))(xP:W.makesIn K fN=true)(yV:W.keepIn K (.ref fN)=true)(yJ:W.findIn K (.ref fN) "__class__"=some (some (.builtin "object.__class__")))
 (a0V:W.findIn K (.ref fN) "board"=some none)
 (wG:W.findIn K (.ref fN) "column"=some none)
 (zD:W.findIn K (.ref fN) "after"=some none)
 (a2q:W.findIn K (.ref fN) "before"=some none)
 (a0R:W.findIn K (.ref fN) "__init__"=some (some (.ref a0S)))(a4B:W.isFn K (.ref a0S)=true)
 (yM:K.lookup a0S=some ⟨oc_ColumnSet_init,od_ColumnSet_init,.func (W.fnOf "__init__" "ColumnSet.__init__" (aR pC) (aP pC) (aB pC) .none kV_ColumnSet_init doc_ColumnSet_init pm_ColumnSet_init an_ColumnSet_init b3I ct_ColumnSet_init),sl_ColumnSet_init⟩)
 (a6z:W.codeIn K b3I "ColumnSet.__init__"=true)(nS:W.keepIn K (.ref a0S)=true)
 (a1e:W.findIn K (.ref fN) "take"=some (some (.ref a4C)))(a4M:W.isFn K (.ref a4C)=true)
 (a3F:K.lookup a4C=some ⟨oc_ColumnSet_take,od_ColumnSet_take,.func (W.fnOf "take" "ColumnSet.take" (aR nZ) (aP nZ) (aB nZ) .none kV_ColumnSet_take doc_ColumnSet_take pm_ColumnSet_take an_ColumnSet_take a9R ct_ColumnSet_take),sl_ColumnSet_take⟩)
 (xH:W.codeIn K a9R "ColumnSet.take"=true)(rA:W.keepIn K (.ref a4C)=true)
 (a26:W.nsIn K mainGlobals "Trial"=some (some (.ref fU)))
 (a4e:W.plainGet K fU Str.empty=true)(a6L:W.hasDictIn K fU=true)(a0M:W.plainOver K fU=true)(a0N:W.findIn K (.ref fU) "__setattr__"=some (some (.builtin "object.__setattr__")))(wS:W.makesIn K fU=true)(a1R:W.keepIn K (.ref fU)=true)(a3P:W.findIn K (.ref fU) "__class__"=some (some (.builtin "object.__class__")))
 (a61:W.findIn K (.ref fU) "finder"=some none)
 (a04:W.findIn K (.ref fU) "looked"=some none)
 (a0m:W.findIn K (.ref fU) "lacking"=some none)
 (a1x:W.findIn K (.ref fU) "__init__"=some (some (.ref a3W)))(a3y:W.isFn K (.ref a3W)=true)
 (a5d:K.lookup a3W=some ⟨oc_Trial_init,od_Trial_init,.func (W.fnOf "__init__" "Trial.__init__" (aR qX) (aP qX) (aB qX) .none kV_Trial_init doc_Trial_init pm_Trial_init an_Trial_init b1q ct_Trial_init),sl_Trial_init⟩)
 (xQ:W.codeIn K b1q "Trial.__init__"=true)(tY:W.keepIn K (.ref a3W)=true)
 (a35:W.findIn K (.ref fU) "look"=some (some (.ref zN)))(wQ:W.isFn K (.ref zN)=true)
 (zA:K.lookup zN=some ⟨oc_Trial_look,od_Trial_look,.func (W.fnOf "look" "Trial.look" (aR tT) (aP tT) (aB tT) .none kV_Trial_look doc_Trial_look pm_Trial_look an_Trial_look b3t ct_Trial_look),sl_Trial_look⟩)
 (a0Y:W.codeIn K b3t "Trial.look"=true)(a2X:W.keepIn K (.ref zN)=true)
 (a3U:W.nsIn K mainGlobals "Finder"=some (some (.ref dQ)))
 (a49:W.plainGet K dQ Str.empty=true)(a05:W.hasDictIn K dQ=true)(vS:W.plainOver K dQ=true)(zQ:W.findIn K (.ref dQ) "__setattr__"=some (some (.builtin "object.__setattr__")))(a1n:W.makesIn K dQ=true)(a01:W.keepIn K (.ref dQ)=true)(a29:W.findIn K (.ref dQ) "__class__"=some (some (.builtin "object.__class__")))
 (a5f:W.findIn K (.ref dQ) "boards"=some none)
 (a1b:W.findIn K (.ref dQ) "found"=some none)
 (vU:W.findIn K (.ref dQ) "looked"=some none)
 (xL:W.findIn K (.ref dQ) "__init__"=some (some (.ref a2n)))(a3r:W.isFn K (.ref a2n)=true)
 (a5T:K.lookup a2n=some ⟨oc_Finder_init,od_Finder_init,.func (W.fnOf "__init__" "Finder.__init__" (aR nI) (aP nI) (aB nI) .none kV_Finder_init doc_Finder_init pm_Finder_init an_Finder_init b2u ct_Finder_init),sl_Finder_init⟩)
 (a1H:W.codeIn K b2u "Finder.__init__"=true)(mJ:W.keepIn K (.ref a2n)=true)
 (zW:W.findIn K (.ref dQ) "value_of"=some (some (.ref a0f)))(a6N:W.isFn K (.ref a0f)=true)
 (xS:K.lookup a0f=some ⟨oc_Finder_value_of,od_Finder_value_of,.func (W.fnOf "value_of" "Finder.value_of" (aR sH) (aP sH) (aB sH) .none kV_Finder_value_of doc_Finder_value_of pm_Finder_value_of an_Finder_value_of b1B ct_Finder_value_of),sl_Finder_value_of⟩)
 (a4r:W.codeIn K b1B "Finder.value_of"=true)(a1p:W.keepIn K (.ref a0f)=true)
 (a5j:W.findIn K (.ref dQ) "attempt"=some (some (.ref a2r)))(a5q:W.isFn K (.ref a2r)=true)
 (a1G:K.lookup a2r=some ⟨oc_Finder_attempt,od_Finder_attempt,.func (W.fnOf "attempt" "Finder.attempt" (aR nK) (aP nK) (aB nK) .none kV_Finder_attempt doc_Finder_attempt pm_Finder_attempt an_Finder_attempt b05 ct_Finder_attempt),sl_Finder_attempt⟩)
 (a6n:W.codeIn K b05 "Finder.attempt"=true)(a4k:W.keepIn K (.ref a2r)=true)
 (a10:W.findIn K (.ref dQ) "gathered"=some (some (.ref a08)))(a2C:W.isFn K (.ref a08)=true)
 (a1d:K.lookup a08=some ⟨oc_Finder_gathered,od_Finder_gathered,.func (W.fnOf "gathered" "Finder.gathered" (aR sX) (aP sX) (aB sX) .none kV_Finder_gathered doc_Finder_gathered pm_Finder_gathered an_Finder_gathered b0M ct_Finder_gathered),sl_Finder_gathered⟩)
 (a0A:W.codeIn K b0M "Finder.gathered"=true)(a1y:W.keepIn K (.ref a08)=true)
 (a39:W.findIn K (.ref dQ) "settle"=some (some (.ref a5c)))(zL:W.isFn K (.ref a5c)=true)
 (xG:K.lookup a5c=some ⟨oc_Finder_settle,od_Finder_settle,.func (W.fnOf "settle" "Finder.settle" (aR vF) (aP vF) (aB vF) .none kV_Finder_settle doc_Finder_settle pm_Finder_settle an_Finder_settle b0B ct_Finder_settle),sl_Finder_settle⟩)
 (a1l:W.codeIn K b0B "Finder.settle"=true)(a1W:W.keepIn K (.ref a5c)=true)
 (a2w:W.findIn K (.ref dQ) "knows"=some (some (.ref a59)))(yD:W.isFn K (.ref a59)=true)
 (a5w:K.lookup a59=some ⟨oc_Finder_knows,od_Finder_knows,.func (W.fnOf "knows" "Finder.knows" (aR oA) (aP oA) (aB oA) .none kV_Finder_knows doc_Finder_knows pm_Finder_knows an_Finder_knows b1H ct_Finder_knows),sl_Finder_knows⟩)
 (a1O:W.codeIn K b1H "Finder.knows"=true)(a3k:W.keepIn K (.ref a59)=true)
 (a6j:W.nsIn K mainGlobals "Sheet"=some (some (.ref cS)))
 (a00:W.plainGet K cS Str.empty=true)(a1S:W.hasDictIn K cS=true)(a6S:W.plainOver K cS=true)(a2p:W.findIn K (.ref cS) "__setattr__"=some (some (.builtin "object.__setattr__")))(wN:W.makesIn K cS=true)(a5v:W.keepIn K (.ref cS)=true)(a0G:W.findIn K (.ref cS) "__class__"=some (some (.builtin "object.__class__")))
 (yQ:W.findIn K (.ref cS) "boards"=some none)
 (wH:W.findIn K (.ref cS) "changes"=some none)
 (a1t:W.findIn K (.ref cS) "finder"=some none)
 (a3b:W.findIn K (.ref cS) "__init__"=some (some (.ref a16)))(a2A:W.isFn K (.ref a16)=true)
 (a5n:K.lookup a16=some ⟨oc_Sheet_init,od_Sheet_init,.func (W.fnOf "__init__" "Sheet.__init__" (aR rP) (aP rP) (aB rP) .none kV_Sheet_init doc_Sheet_init pm_Sheet_init an_Sheet_init a98 ct_Sheet_init),sl_Sheet_init⟩)
 (a3S:W.codeIn K a98 "Sheet.__init__"=true)(qQ:W.keepIn K (.ref a16)=true)
 (a0H:W.findIn K (.ref cS) "table"=some (some (.ref a2x)))(a0I:W.isFn K (.ref a2x)=true)
 (a51:K.lookup a2x=some ⟨oc_Sheet_table,od_Sheet_table,.func (W.fnOf "table" "Sheet.table" (aR pW) (aP pW) (aB pW) .none kV_Sheet_table doc_Sheet_table pm_Sheet_table an_Sheet_table a91 ct_Sheet_table),sl_Sheet_table⟩)
 (a28:W.codeIn K a91 "Sheet.table"=true)(oE:W.keepIn K (.ref a2x)=true)
 (a0n:W.findIn K (.ref cS) "give"=some (some (.ref a4W)))(a2y:W.isFn K (.ref a4W)=true)
 (yP:K.lookup a4W=some ⟨oc_Sheet_give,od_Sheet_give,.func (W.fnOf "give" "Sheet.give" (aR qN) (aP qN) (aB qN) .none kV_Sheet_give doc_Sheet_give pm_Sheet_give an_Sheet_give a9s ct_Sheet_give),sl_Sheet_give⟩)
 (a1K:W.codeIn K a9s "Sheet.give"=true)(pV:W.keepIn K (.ref a4W)=true)
 (a5N:W.findIn K (.ref cS) "tables"=some (some (.ref a1V)))(a0y:W.isFn K (.ref a1V)=true)
 (a11:K.lookup a1V=some ⟨oc_Sheet_tables,od_Sheet_tables,.func (W.fnOf "tables" "Sheet.tables" (aR uA) (aP uA) (aB uA) .none kV_Sheet_tables doc_Sheet_tables pm_Sheet_tables an_Sheet_tables b2Y ct_Sheet_tables),sl_Sheet_tables⟩)
 (a52:W.codeIn K b2Y "Sheet.tables"=true)(a0c:W.keepIn K (.ref a1V)=true)
 (a1c:W.findIn K (.ref cS) "columns"=some (some (.ref zV)))(a0l:W.isFn K (.ref zV)=true)
 (yY:K.lookup zV=some ⟨oc_Sheet_columns,od_Sheet_columns,.func (W.fnOf "columns" "Sheet.columns" (aR pR) (aP pR) (aB pR) .none kV_Sheet_columns doc_Sheet_columns pm_Sheet_columns an_Sheet_columns b0u ct_Sheet_columns),sl_Sheet_columns⟩)
 (a0Z:W.codeIn K b0u "Sheet.columns"=true)(mV:W.keepIn K (.ref zV)=true)
 (a3v:W.findIn K (.ref cS) "many"=some (some (.ref a03)))(a1h:W.isFn K (.ref a03)=true)
 (a4E:K.lookup a03=some ⟨oc_Sheet_many,od_Sheet_many,.func (W.fnOf "many" "Sheet.many" (aR oW) (aP oW) (aB oW) .none kV_Sheet_many doc_Sheet_many pm_Sheet_many an_Sheet_many a9d ct_Sheet_many),sl_Sheet_many⟩)
 (a5O:W.codeIn K a9d "Sheet.many"=true)(mI:W.keepIn K (.ref a03)=true)
 (a2W:W.findIn K (.ref cS) "cell"=some (some (.ref a1L)))(a4F:W.isFn K (.ref a1L)=true)
 (a6I:K.lookup a1L=some ⟨oc_Sheet_cell,od_Sheet_cell,.func (W.fnOf "cell" "Sheet.cell" (aR pS) (aP pS) (aB pS) .none kV_Sheet_cell doc_Sheet_cell pm_Sheet_cell an_Sheet_cell b2p ct_Sheet_cell),sl_Sheet_cell⟩)
 (a2e:W.codeIn K b2p "Sheet.cell"=true)(qL:W.keepIn K (.ref a1L)=true)
 (wM:W.findIn K (.ref cS) "make"=some (some (.ref zI)))(a6R:W.isFn K (.ref zI)=true)
 (a6q:K.lookup zI=some ⟨oc_Sheet_make,od_Sheet_make,.func (W.fnOf "make" "Sheet.make" (aR nW) (aP nW) (aB nW) .none kV_Sheet_make doc_Sheet_make pm_Sheet_make an_Sheet_make b1p ct_Sheet_make),sl_Sheet_make⟩)
 (a3T:W.codeIn K b1p "Sheet.make"=true)(lI:W.keepIn K (.ref zI)=true)
 (a3O:W.findIn K (.ref cS) "board_of"=some (some (.ref wR)))(wK:W.isFn K (.ref wR)=true)
 (a6J:K.lookup wR=some ⟨oc_Sheet_board_of,od_Sheet_board_of,.func (W.fnOf "board_of" "Sheet.board_of" (aR oG) (aP oG) (aB oG) .none kV_Sheet_board_of doc_Sheet_board_of pm_Sheet_board_of an_Sheet_board_of b2c ct_Sheet_board_of),sl_Sheet_board_of⟩)
 (a4X:W.codeIn K b2c "Sheet.board_of"=true)(jK:W.keepIn K (.ref wR)=true)
 (a4g:W.findIn K (.ref cS) "board_with"=some (some (.ref a63)))(a6T:W.isFn K (.ref a63)=true)
 (a1u:K.lookup a63=some ⟨oc_Sheet_board_with,od_Sheet_board_with,.func (W.fnOf "board_with" "Sheet.board_with" (aR qI) (aP qI) (aB qI) .none kV_Sheet_board_with doc_Sheet_board_with pm_Sheet_board_with an_Sheet_board_with a9P ct_Sheet_board_with),sl_Sheet_board_with⟩)
 (a0U:W.codeIn K a9P "Sheet.board_with"=true)(pI:W.keepIn K (.ref a63)=true)
 (a0i:W.findIn K (.ref cS) "board_for"=some (some (.ref yN)))(a2t:W.isFn K (.ref yN)=true)
 (a5V:K.lookup yN=some ⟨oc_Sheet_board_for,od_Sheet_board_for,.func (W.fnOf "board_for" "Sheet.board_for" (aR oY) (aP oY) (aB oY) .none kV_Sheet_board_for doc_Sheet_board_for pm_Sheet_board_for an_Sheet_board_for b0p ct_Sheet_board_for),sl_Sheet_board_for⟩)
 (a4R:W.codeIn K b0p "Sheet.board_for"=true)(rO:W.keepIn K (.ref yN)=true)
 (a2T:W.findIn K (.ref cS) "check_cell"=some (some (.ref a1P)))(a6f:W.isFn K (.ref a1P)=true)
 (a6H:K.lookup a1P=some ⟨oc_Sheet_check_cell,od_Sheet_check_cell,.func (W.fnOf "check_cell" "Sheet.check_cell" (aR nT) (aP nT) (aB nT) .none kV_Sheet_check_cell doc_Sheet_check_cell pm_Sheet_check_cell an_Sheet_check_cell b3N ct_Sheet_check_cell),sl_Sheet_check_cell⟩)
 (a34:W.codeIn K b3N "Sheet.check_cell"=true)(pZ:W.keepIn K (.ref a1P)=true):bA K mg where
 len:=W.mg_none_of X G zK
 isinstance:=W.mg_none_of X G a45
 int:=W.mg_none_of X G zY
 bool:=W.mg_none_of X G a3N
 str:=W.mg_none_of X G a1j
 all:=W.mg_none_of X G a4t
 range:=W.mg_none_of X G a4T
 abs:=W.mg_none_of X G a1E
 list:=W.mg_none_of X G a1X
 tuple:=W.mg_none_of X G a3c
 max:=W.mg_none_of X G a12
 ValueError:=W.mg_none_of X G a0D
 g_LETTERS:=⟨_,W.mg_of X G wO⟩
 g_MOST_LETTERS:=⟨_,W.mg_of X G xO⟩
 g_MOST_ROWS:=⟨_,W.mg_of X G yO⟩
 g_MOST_COLUMNS:=⟨_,W.mg_of X G a4O⟩
 g_MOST_TABLES:=⟨_,W.mg_of X G a0k⟩
 g_UNKNOWN:=⟨a8p,W.mg_of X G a1k,fun H=> .inr ⟨_,_,_,a4H,rfl,rfl,sl (by simp),.cons ⟨_,rfl⟩ (.cons ⟨_,rfl⟩ (.nil))⟩⟩
 d_is_whole:=eX X G xZ a02 a36 iV
 d_is_number:=eX X G a4L a0W a6s qT
 d_is_name:=eX X G a2z a4p a2O gM
 d_is_fault:=eX X G a6E a2a a5z rJ
 d_is_value:=eX X G xM yT a3q rT
 d_check_size:=eX X G a0t a6o a46 mR
 d_check_place:=eX X G a4u wY yS jA
 d_check_values:=eX X G a0d a5W a3H lM
 d_check_column:=eX X G a2h zH a2m lC
 d_check_count:=eX X G a1I a3g a2P sN
 d_law_cell_at:=eX X G a3x a47 zZ jS
 d_law_table:=eX X G a5A a5D yL sO
 d_law_rows:=eX X G a1f wA a4Q pH
 d_law_checked:=eX X G a6Q a5B a2R qS
 d_law:=eX X G yI a5l xR zG
 t_Table:=⟨dH,{c:=W.mg_of X G a4a,cl:=⟨a0X,a0s,yA,zS⟩,mks:=a3C,kc:=xF,hc:=a5r,n_row_numbers:=a20,n_fresh_number:=a50,n_kept:=a2d,m_init:=aT a4J xT a6O a4q qY,m_many:=aT a6X a2u a6c wF gY,m_columns:=aT a3B xI a1i a2F zT,m_give:=aT a25 a3G a4S wV rY,m_drop:=aT a6h a4U a2j a3M a6d,m_at:=aT a0P vZ a0o a5U pD,m_number_at:=aT a27 vY a30 a37 tL,m_check_column:=aT a0L a17 a5J a54 qF}⟩
 t_Spot:=⟨fA,{c:=W.mg_of X G wE,cl:=⟨a5m,yK,a2Y,wB⟩,mks:=a3J,kc:=a0O,hc:=wD,n_sheet:=xV,n_name:=a6D,n_column:=a07,n_place:=a2k,m_init:=aT a6m a1v vV a48 mY,m_told:=aT a5y a44 a0v a0g nV}⟩
 t_View:=⟨dX,{c:=W.mg_of X G a6t,cl:=⟨a4I,a23,zC,a4N⟩,mks:=yZ,kc:=a6b,hc:=a6i,m_columns:=aT xB uR sW vO vQ,m_rows:=aT a3f wL a2E a5u a2G,m_value_at:=aT zF uM tI tP uX,m_spots_at:=aT a6p uI sT sV uF,m_many:=aT a2c lZ kP kO iS,m_look:=aT a1T lK kQ mK jC,m_shown:=aT a0r lD lN mP iZ,m_spots:=aT zM lU mL lP iQ,m_asked_row:=aT a3R lO mC lT kX}⟩
 t_Whole:=⟨dD,{c:=W.mg_of X G a6Y,cl:=⟨a5a,a1Q,a5b,xD⟩,mks:=a3t,kc:=a3e,hc:=a6v,n_sheet:=a0J,n_name:=a6a,m_init:=aT a5P a0b a3s a6U uS,m_columns:=aT vX a3D a6u a2l kZ,m_rows:=aT a0j a6l a31 a0z lB,m_value_at:=aT a2D a19 a4z a13 lA,m_spots_at:=aT a4A a53 a2V a4Z mM,m_many:=aT a0h lZ kP kO iS,m_look:=aT a5H lK kQ mK jC,m_shown:=aT xN lD lN mP iZ,m_spots:=aT a32 lU mL lP iQ,m_asked_row:=aT a5I lO mC lT kX}⟩
 t_Cut:=⟨dA,{c:=W.mg_of X G a4h,cl:=⟨a0e,a5R,a2B,a6Z⟩,mks:=a5s,kc:=wZ,hc:=a3p,n_view:=a4i,n_start:=wU,n_count:=a5e,m_init:=aT a58 a1z a5x a3E pX,m_rows:=aT a3h a60 a15 yX qW,m_columns:=aT a5F uR sW vO vQ,m_value_at:=aT a42 uM tI tP uX,m_spots_at:=aT a2s uI sT sV uF,m_many:=aT a24 lZ kP kO iS,m_look:=aT a3w lK kQ mK jC,m_shown:=aT a3Q lD lN mP iZ,m_spots:=aT xE lU mL lP iQ,m_asked_row:=aT a55 lO mC lT kX}⟩
 t_Together:=⟨dE,{c:=W.mg_of X G a4n,cl:=⟨a4f,a3d,yB,a2v⟩,mks:=a3A,kc:=a6w,hc:=a0q,n_one:=a6K,n_other:=a6e,m_init:=aT a4d a5h zU a4o pU,m_columns:=aT a2Z yE zO a2Q yF,m_rows:=aT a0C a4w wX a0B a6A,m_value_at:=aT a0x a6x zJ a4P a0K,m_spots_at:=aT a5K a2i a0w a0p a4x,m_many:=aT a5X lZ kP kO iS,m_look:=aT a1m lK kQ mK jC,m_shown:=aT a1Z lD lN mP iZ,m_spots:=aT a0E lU mL lP iQ,m_asked_row:=aT a4Y lO mC lT kX}⟩
 t_Board:=⟨dM,{c:=W.mg_of X G xY,cl:=⟨xC,a2I,a3o,a3I⟩,mks:=zX,kc:=a3X,hc:=wC,n_given:=a2L,n_rules:=a3K,n_memory:=yW,n_order:=a4j,m_init:=aT a6M a3n a3i zB pN,m_has_column:=aT a6y wP a3u a1U oM,m_content:=aT a0T a4s wW a5M nA,m_set_column:=aT a6G a5Y a3L a2g a1a,m_empty_column:=aT a3V a41 a2H a4m sM,m_outcome:=aT a1r a1N a22 a2b vW}⟩
 t_TableTold:=⟨fT,{c:=W.mg_of X G a2J,cl:=⟨wT,a3Z,a5E,a1M⟩,mks:=a6g,kc:=a3Y,hc:=a1B,n_boards:=a0u,n_name:=a6V,n_size:=a5Q,m_init:=aT a40 a1C a2N a18 qH,m_take:=aT yC a2U a14 a1w nM}⟩
 t_ColumnSet:=⟨fN,{c:=W.mg_of X G a3l,cl:=⟨xW,a5C,a3a,a5p⟩,mks:=xP,kc:=yV,hc:=yJ,n_board:=a0V,n_column:=wG,n_after:=zD,n_before:=a2q,m_init:=aT a0R a4B yM a6z nS,m_take:=aT a1e a4M a3F xH rA}⟩
 t_Trial:=⟨fU,{c:=W.mg_of X G a26,cl:=⟨a4e,a6L,a0M,a0N⟩,mks:=wS,kc:=a1R,hc:=a3P,n_finder:=a61,n_looked:=a04,n_lacking:=a0m,m_init:=aT a1x a3y a5d xQ tY,m_look:=aT a35 wQ zA a0Y a2X}⟩
 t_Finder:=⟨dQ,{c:=W.mg_of X G a3U,cl:=⟨a49,a05,vS,zQ⟩,mks:=a1n,kc:=a01,hc:=a29,n_boards:=a5f,n_found:=a1b,n_looked:=vU,m_init:=aT xL a3r a5T a1H mJ,m_value_of:=aT zW a6N xS a4r a1p,m_attempt:=aT a5j a5q a1G a6n a4k,m_gathered:=aT a10 a2C a1d a0A a1y,m_settle:=aT a39 zL xG a1l a1W,m_knows:=aT a2w yD a5w a1O a3k}⟩
 t_Sheet:=⟨cS,{c:=W.mg_of X G a6j,cl:=⟨a00,a1S,a6S,a2p⟩,mks:=wN,kc:=a5v,hc:=a0G,n_boards:=yQ,n_changes:=wH,n_finder:=a1t,m_init:=aT a3b a2A a5n a3S qQ,m_table:=aT a0H a0I a51 a28 oE,m_give:=aT a0n a2y yP a1K pV,m_tables:=aT a5N a0y a11 a52 a0c,m_columns:=aT a1c a0l yY a0Z mV,m_many:=aT a3v a1h a4E a5O mI,m_cell:=aT a2W a4F a6I a2e qL,m_make:=aT wM a6R a6q a3T lI,m_board_of:=aT a3O wK a6J a4X jK,m_board_with:=aT a4g a6T a1u a0U pI,m_board_for:=aT a0i a2t a5V a4R rO,m_check_cell:=aT a2T a6f a6H a34 pZ}⟩
theorem walk{l:W.OpenLaw}{q:Program}{loose:List Str}{XP:(Str->Option Value)->Heap->Prop}{YP:World->Heap->Prop}{d:DefRec}{K:Params->Fg}(hn:l.most=some 63)(hdf:d.params.defaults= [])(hdn:d.name= "law")
 (hY:∀(w:World) (h:Heap),YP w h->(K w.params).In h)
 (F:∀(w:World) (mg:Str->Option Value) (h:Heap),(K w.params).In h->h.Ns mainGlobals mg->bA (K w.params) mg):
 W.WalkO q loose XP YP l.row.toRowW d [] (fun f vs=>PySem.call f vs):=
 L2.b3J (n:=63) (k:=18) (x:= "_law_script") (CX:=fun _=>aC) (sp:=fun w=>a7q (K w.params)) hn (by decide) hdf ⟨rfl,by decide,by decide⟩ hY
  (fun w mg fa h KX G hmg=>by
   have T:=F w mg h KX G
   obtain⟨f,fd,F4,hm⟩:=T.d_law.ex
   rw[hdn]at hmg
   have e:=hmg.symm.trans hm
   cases e
   refine⟨fd,fun s u=> ?_,fun base kb nb=> ?_⟩
   ·obtain⟨oc,od,kV,doc,pm,an,cdv,ct,osl,rfl,_⟩:=F4.ex
    exact .of_eq rfl
   ·exact a9y T F4)
  (fun _ _ a ns hl _ hS=>⟨a,ns,rfl,hS,hl,fun _=>rfl⟩) fun _ _ _ _ _ z=>z
end My
namespace PySem.W.Fast
abbrev Z:=Nat
def tw6624088917306592524:=Z
def tw7471098127936872903:=Z
def tw8610769089174261333:=Z
def tw14233193416381787966:=Z
def tw355324734880946676:=Z
def tw4112795035702762540:=Z
def tw13090708710994740130:=Z
def tw4498126644113809241:=Z
def tw16939294148004039204:=Z
def tw11751829080328610095:=Z
def tw11796398829630674757:=Z
def tw5190659762802701280:=Z
def tw3228527320999273375:=Z
def tw14953744827746213293:=Z
def tw3465707872937951597:=Z
def tw7344802463007977582:=Z
def tw8623692564288598319:=Z
def tw3271982293746452438:=Z
def tw5339045891530572641:=Z
def tw1961316014038136217:=Z
def tw11600223888273531134:=Z
def tw8358849803330164026:=Z
def tw15609053248629906787:=Z
def tw6962310769848936013:=Z
def tw9816397414591906459:=Z
def tw1476935263802262556:=Z
def tw2284354014140606798:=Z
def tw10180991574602573552:=Z
def tw6327674731346752720:=Z
def tw1068005972228715263:=Z
def tw10799131789108721385:=Z
def tw5231392598780468692:=Z
def tw16478262329141583099:=Z
def tw16709356115587605863:=Z
def tw8251327851055058559:=Z
def tw9906519104676419451:=Z
def tw5394387158579696294:=Z
def tw18381901176199416279:=Z
def tw7158631600666288826:=Z
def tw18367138027228539728:=Z
def tw18399967578851546946:=Z
def tw4045550724938727179:=Z
def tw6565541936241498399:=Z
def tw17428625282931196550:=Z
def tw16362382790695035772:=Z
def tw6855201439619932905:=Z
def tw17442817185552715075:=Z
def tw4714874716575544530:=Z
def tw18261991910556976067:=Z
def tw257568727145455346:=Z
def tw6549229300589023394:=Z
def tw6314937956624060062:=Z
def tw14261980434308813509:=Z
def tw10405914242151104399:=Z
def tw17047835832806925:=Z
def tw5190648430570809036:=Z
def tw14547078175339090043:=Z
def tw14099248057540828625:=Z
def tw1742151508667283811:=Z
def tw4780749492022568158:=Z
def tw10124115805178463147:=Z
def tw4337824186813705322:=Z
def tw15366792424061838134:=Z
def tw1441036491103035571:=Z
def tw9829029743586017301:=Z
def tw5280481743318488538:=Z
def tw8700432930253976595:=Z
def tw12975280978925418977:=Z
def tw14140445793601906932:=Z
def tw782356421114991926:=Z
def tw7247447993486136796:=Z
def tw6764667283374533278:=Z
def tw11855391021875001566:=Z
def tw2152329855330360237:=Z
def tw11624983694607810187:=Z
def tw2159616237654963267:=Z
def tw755202743877335124:=Z
def tw7162480330337587803:=Z
def tw4526439069633089986:=Z
def tw2295911574659204994:=Z
def tw3969004436009894500:=Z
def tw5001632256738001358:=Z
def tw16580114159013401356:=Z
def tw4574412778068963902:=Z
def tw3920080475884574319:=Z
def tw13161114440550279124:=Z
def tw9160680989937762192:=Z
def tw7523318749385761679:=Z
def tw15295237978958643252:=Z
def tw9969962684881526498:=Z
def tw2881254302409104061:=Z
def tw12799865853137631556:=Z
def tw912125775757026260:=Z
def tw6036955716654264693:=Z
def tw9800242724299195268:=Z
def tw14923937489388989544:=Z
def tw5445712876317250468:=Z
def tw15785998368429306296:=Z
def tw12909136886134037655:=Z
def tw6816376700985964532:=Z
def tw13674427930762967078:=Z
def tw13504015835337198011:=Z
def tw5497957354229488491:=Z
def tw8174953969937514987:=Z
def tw5499781733361351876:=Z
def tw10641897833011959723:=Z
def tw9589115361398672070:=Z
def tw11169293243668875564:=Z
def tw12060608473458211145:=Z
def tw7617359189679670274:=Z
def tw2925805528276392017:=Z
def tw16091640388430082666:=Z
def tw3999984383419198047:=Z
def tw5995338888130610473:=Z
def tw5163769639107356861:=Z
def tw16047704834328946995:=Z
def tw16189204062953040568:=Z
def tw4686825046865068438:=Z
def tw17234918589268222190:=Z
def tw57419198747759804:=Z
def tw7666877105430139736:=Z
def tw11199041707673574124:=Z
def tw8126914310801233143:=Z
def tw8452845478737520551:=Z
def tw16108636623043039768:=Z
def tw12632007852807227109:=Z
def tw7516414315681451674:=Z
def tw9146587940232661031:=Z
def tw870558536116901149:=Z
def tw4942913241919388862:=Z
def tw7432650602365935:=Z
def tw16180877607683508449:=Z
def tw21588664557913490:=Z
def tw15060871573122261550:=Z
def tw14691695867508202684:=Z
def tw11010182703739166246:=Z
def tw4798836702365973466:=Z
def tw13363741675261491236:=Z
def tw6345474134318393742:=Z
def tw16912410091958293900:=Z
def tw15406577508029477655:=Z
def tw10234930482356850370:=Z
def tw14123142125309774235:=Z
def tw1707371251198079345:=Z
def tw4352235243057884616:=Z
def tw15215879111646243441:=Z
def tw17478350709220319476:=Z
def tw13566085581296184514:=Z
def tw1105076410024762587:=Z
def tw4221509305707899869:=Z
def tw5815874755299920216:=Z
def tw5932505233901323449:=Z
def tw13701001620920282624:=Z
def tw6598691165380245049:=Z
def tw12445013320811898858:=Z
def tw8947193605831904033:=Z
def tw16958817340788962151:=Z
def tw7201920817144957361:=Z
def tw13260890883251502074:=Z
def tw2969648582897916319:=Z
def tw1933642832162075343:=Z
def tw12928439051649902955:=Z
def tw6967535061689129561:=Z
def tw2798292858170045072:=Z
def tw4316196054305539240:=Z
def tw13819061987282750228:=Z
def tw2453207769182022817:=Z
def tw13772442487022280005:=Z
def tw3421660453583312934:=Z
def tw4190775798579027994:=Z
def tw1402284128211094982:=Z
def tw5122182291707565243:=Z
def tw9272584938127340543:=Z
def tw1230637219012175877:=Z
def tw2958337993605247459:=Z
def tw13119332494257461250:=Z
def tw11015496436519160291:=Z
def tw12563359096842176522:=Z
def tw16973244550902336688:=Z
def tw6443811368759367270:=Z
def tw14583928583199061788:=Z
def tw17132506544577650515:=Z
def tw17331285827412083761:=Z
def tw4503544440117211825:=Z
def tw3405821086045271508:=Z
def tw4606602562482088109:=Z
def tw12585200954880274363:=Z
def tw2663128157227845121:=Z
def tw12269830814429786729:=Z
def tw2853507461449332314:=Z
def tw4767102406276345605:=Z
def tw1680078706479805167:=Z
def tw121850191037663242:=Z
def tw8011385986939860980:=Z
def tw4125031461927136811:=Z
def tw18189472193145725230:=Z
def tw894686138269851320:=Z
def tw17322151186213998150:=Z
def tw9868230405975851216:=Z
def tw5801829922999641063:=Z
def tw4067077268652076179:=Z
def tw7854156414079974461:=Z
def tw2355584508669299867:=Z
def tw6628700369930797030:=Z
def tw11859556004493623745:=Z
def tw8277588169009036326:=Z
def tw16381797612164099542:=Z
def tw11106373595937838731:=Z
def tw2584546975807163453:=Z
def tw9777406953648928607:=Z
def tw11624772038888051099:=Z
def tw12473298836576907677:=Z
def tw10514176733176956712:=Z
def tw9152273585214611361:=Z
def tw10824536439777715842:=Z
def tw3141004844355388847:=Z
def tw15387563721196154715:=Z
def tw13657455424716532917:=Z
def tw11651229806162409807:=Z
def tw15002780130779304838:=Z
def tw487001111383246123:=Z
def tw6285661917496853118:=Z
def tw9412838820713728361:=Z
def tw9959025837701521793:=Z
def tw5155621781509828705:=Z
def tw8359942182069616419:=Z
def tw7144242426859577883:=Z
def tw10331494165662849526:=Z
def tw318547635124173915:=Z
def tw7771233226187282672:=Z
def tw11887282340755966180:=Z
def tw4173491088839257567:=Z
def tw13341371733454767754:=Z
def tw907871163652817946:=Z
def tw8188712963349667473:=Z
def tw2612256486615903917:=Z
def tw1982446138481478377:=Z
def tw10260398586289225988:=Z
def tw5116850726294967400:=Z
def tw6986585013171207239:=Z
def tw4022173707849212438:=Z
def tw2135979553293152352:=Z
def tw6112888534844653818:=Z
def tw13108484690414570898:=Z
def tw2913687182786301649:=Z
def tw6066118402984653077:=Z
def tw6617729749682351908:=Z
def tw16982210751280229704:=Z
def tw6909255602580755638:=Z
def tw15643480550317649404:=Z
def tw10314052641033939956:=Z
def tw7871607362422675272:=Z
def tw3941775330838305611:=Z
def tw3323994978995249975:=Z
def tw7596570520643368122:=Z
def tw13469684625953159481:=Z
def tw5711154328317177537:=Z
def tw1251870916746660470:=Z
def tw692357519543326805:=Z
def tw16997662153762685304:=Z
def tw17844387530095615013:=Z
def tw9786483860884523210:=Z
def tw696949953060013535:=Z
def tw12431415647002330554:=Z
def tw14975634893542232109:=Z
def tw8572977389313237074:=Z
def tw17655832110519734402:=Z
def tw3407006495706567649:=Z
def tw18340335437949210356:=Z
def tw12452937223260735235:=Z
def tw7233066321070084257:=Z
def tw16027830832924067239:=Z
def tw7569766882412763333:=Z
def tw10702116350527410768:=Z
def tw3518993974673223051:=Z
def tw5544091387839510430:=Z
def tw477846275177076174:=Z
def tw14980303812849785110:=Z
def tw5581838710571356935:=Z
def tw6022199422379606226:=Z
def tw7554816213419293101:=Z
def tw16643388570428469210:=Z
def tw16574631904855730912:=Z
def tw12446737439122674287:=Z
def tw13643340336022381932:=Z
def tw4383488678909697720:=Z
def tw13204285007593467446:=Z
def tw16086473648636756877:=Z
def tw11345448097900701753:=Z
def tw1180630718421999462:=Z
def tw542967285329689298:=Z
def tw6701482177561511237:=Z
def tw16829636075235094951:=Z
def tw8133888548626964995:=Z
def tw18320579721364637616:=Z
def tw11365441902356831446:=Z
def tw702686733376372282:=Z
def tw1284081232539568776:=Z
def tw5435524018784339752:=Z
def tw16284496320379744847:=Z
def tw13322802180778020216:=Z
def tw13093314627367966209:=Z
def tw11424785840436306140:=Z
def tw8425287414731115294:=Z
def tw7183175796040752086:=Z
def tw12827530474489529147:=Z
def tw9910407631055216560:=Z
def tw3289347247992283565:=Z
def tw12232083150405428508:=Z
def tw10657284624380071737:=Z
def tw6204422131996018162:=Z
def tw7560730333508024373:=Z
def tw17133182281408775108:=Z
def tw15565541237944232913:=Z
def tw7247178617222090533:=Z
def tw9054756095390390875:=Z
def tw15346595214386283576:=Z
def tw3086662360624926212:=Z
def tw8719541219413722586:=Z
def tw7431717590612772815:=Z
def tw4431597347906190418:=Z
def tw5591202955066362080:=Z
def tw10523405838444896103:=Z
def tw17296120531822212552:=Z
def tw12888239276709641512:=Z
def tw4822652519052851175:=Z
def tw2759410331872159806:=Z
def tw6798019941245301273:=Z
def tw14714495535837929391:=Z
def tw9038949961325988237:=Z
def tw2484630276876845822:=Z
def tw5474049257584601976:=Z
def tw15142416171126293459:=Z
def tw9949111246816092578:=Z
def tw10837389344881197345:=Z
def tw1857346511636373692:=Z
def tw16580548999990449913:=Z
def tw15298169565532629074:=Z
def tw5261550044973132827:=Z
def tw17611840493011946333:=Z
def tw3722456764489267572:=Z
def tw4245881019590235015:=Z
def tw2110382624328204716:=Z
def tw5895157208916120026:=Z
def tw4143760900444769602:=Z
def tw12958951065672647561:=Z
def tw17982234307502738021:=Z
def tw11594695847997846462:=Z
def tw16337841902769386172:=Z
def tw5584713963701473509:=Z
def tw15828030221024264768:=Z
def tw5520280423423187099:=Z
def tw17079605995467941225:=Z
def tw3450963345451598038:=Z
def tw10371446031990878624:=Z
def tw13818398325046681501:=Z
def tw7847112261120704059:=Z
def tw13033354517382509584:=Z
def tw8199626238731127984:=Z
def tw14343691831416655473:=Z
def tw3261588028356649779:=Z
def tw1404923546693095498:=Z
def tw14947353727237977640:=Z
def tw11358390660802666378:=Z
def tw5701244907870155141:=Z
def tw7860720419260912212:=Z
def tw12801557950696808305:=Z
def tw2827550992240008069:=Z
def tw13806463651270231576:=Z
def tw11998663806110654772:=Z
def tw10832165967690519600:=Z
def tw16713005268090499541:=Z
def tw18099834278257525627:=Z
def tw9627243604710042534:=Z
def tw3162190521256472774:=Z
def tw751334749813191943:=Z
def tw8823055167537912650:=Z
def tw15741281525580508624:=Z
def tw15341979596430910086:=Z
def tw8547465021602877396:=Z
def tw11822597961249927410:=Z
def tw16457657805311885728:=Z
def tw11557909516312917318:=Z
def tw6796641566358185673:=Z
def tw16015901593981722352:=Z
def tw3644440584341656573:=Z
def tw8119287413863628633:=Z
def tw10262595791096156423:=Z
def tw1619329347299951625:=Z
def tw17040025615102456250:=Z
def tw8097156891658621152:=Z
def tw13428442678588783603:=Z
def tw4061396874872062780:=Z
def tw10147552509655227317:=Z
def tw4423832885900557051:=Z
def tw8286228800408382453:=Z
def tw7585444975446151616:=Z
def tw10398636155817440117:=Z
def tw6101971986925499477:=Z
def tw4127277316729397808:=Z
def tw9317971963767321416:=Z
def tw5097467611341287533:=Z
def tw12782670159108064129:=Z
def tw4078412207214695657:=Z
def tw3186734243410540292:=Z
def tw824869946683819909:=Z
def tw4452777480408457795:=Z
def tw7306910405258575554:=Z
def tw18233102441891007536:=Z
def tw3808159446075800827:=Z
def tw6958832500353794840:=Z
def tw2641633783341966019:=Z
def tw3813320641015256687:=Z
def tw2063124229593706052:=Z
def tw14276008832674745208:=Z
def tw16723636369346987889:=Z
def tw5169780680062359117:=Z
def tw15201387699086841077:=Z
def tw12454341153560329779:=Z
def tw4096206807848233687:=Z
def tw16789319047912022475:=Z
def tw12379027559990017330:=Z
def tw17106835119401783063:=Z
def tw11022949276551805675:=Z
def tw8698146521728534918:=Z
def tw15688154899124159026:=Z
def tw343046471790330603:=Z
def tw7028861182401309242:=Z
def tw4926544590827682272:=Z
def tw2099664277477475395:=Z
def tw15966352039447038688:=Z
def tw17483696107501792587:=Z
def tw16359316956295869521:=Z
def tw10709425721619583868:=Z
def tw10732113052395990813:=Z
def tw10343732328098075699:=Z
def tw7437173184216959942:=Z
def tw5484090553395792539:=Z
def tw5160767219391519820:=Z
def tw7658822343309797365:=Z
def tw17253842400508932999:=Z
def tw12692145171612428249:=Z
def tw10307698960721380326:=Z
def tw7247099813020382966:=Z
def tw15566985457935849231:=Z
def tw9870566274272040665:=Z
def tw12367490612509703733:=Z
def tw14645133845304620317:=Z
def tw15544306016316273622:=Z
def tw5190967352615077663:=Z
def tw8957109565221199564:=Z
def tw10920947323259573054:=Z
def tw2316019307814090250:=Z
def tw13374357899714238365:=Z
def tw6297047157195009297:=Z
def tw9891061593297430217:=Z
def tw17605593295394445621:=Z
def tw12806317909810859183:=Z
def tw12857425941371438669:=Z
def tw1537890138993889841:=Z
def tw10471554073164286959:=Z
def tw7506533008811401243:=Z
def tw2927041043687924997:=Z
def tw4016404116138253490:=Z
def tw7962832762897622580:=Z
def tw10408696802971354617:=Z
def tw13576374811672487749:=Z
def tw1512267755243339803:=Z
def tw1599696354730400435:=Z
def tw948668081579842144:=Z
def tw2949091069536426481:=Z
def tw12184120882878780830:=Z
def tw5468692459407492149:=Z
def tw12796424363643197232:=Z
def tw16071255311382965462:=Z
def tw6339210862468178792:=Z
def tw5175368003630281044:=Z
def tw1023608185842886966:=Z
def tw11102645657037073577:=Z
def tw18032930684807000599:=Z
def tw8216999314992032675:=Z
def tw1703011665550402988:=Z
def tw5681126476959727505:=Z
def tw14597948229296016669:=Z
def tw17139208011790671997:=Z
def tw8112121935714821201:=Z
def tw2462683619018944032:=Z
def tw15093536355931380579:=Z
def tw14526755424226908339:=Z
def tw9398503622842850580:=Z
def tw14555895200965383546:=Z
def tw2686061274842324318:=Z
def tw3349228907388359387:=Z
def tw14004943457489780882:=Z
def tw607048712999425583:=Z
def tw2591006021702083994:=Z
def tw5790118850161196156:=Z
def tw9295798203056635498:=Z
def tw1940665855894095794:=Z
def tw4517806770299059785:=Z
def tw2404489604089682716:=Z
def tw13592377218194703886:=Z
def tw5061036984332244385:=Z
def tw17259078509873664414:=Z
def tw4113246802999588433:=Z
def tw11004678701773573910:=Z
def tw6572830271484464733:=Z
def tw17591909109286739137:=Z
def tw14474008600729632666:=Z
def tw1531504885503900787:=Z
def tw820796533966892059:=Z
def tw6074200426367286942:=Z
def tw8576367789611687579:=Z
def tw2212877225345922344:=Z
def tw16662385234455406712:=Z
def tw9047223548612207128:=Z
def tw8793903123742477979:=Z
def tw11325819539984638088:=Z
def tw13324480904037222508:=Z
def tw716490812684418802:=Z
def tw6519660879406699233:=Z
def tw12670694994369044227:=Z
def tw10872247881153952920:=Z
def tw7947492432266813164:=Z
def tw201387547100369414:=Z
def tw11635705379900071692:=Z
def tw12072749856232674370:=Z
def tw3856613560987335581:=Z
def tw398148142574240462:=Z
def tw4588064085562139003:=Z
def tw11594058424726705854:=Z
def tw13246811113835683698:=Z
def tw14291150645607236041:=Z
def tw9998370352566815023:=Z
def tw16886294432173102547:=Z
def tw7465697627801334016:=Z
def tw1617690486719798926:=Z
def tw6093216331959371481:=Z
def tw1982302468585517612:=Z
def tw13244195658213768068:=Z
def tw10405639458109397810:=Z
def tw12300430091283733228:=Z
def tw12456808752260162267:=Z
def tw902308133854384332:=Z
def tw6123794977916285490:=Z
def tw8000086471303428148:=Z
def tw12286728291684124206:=Z
def tw13130803393722628097:=Z
def tw4280825181623365213:=Z
def tw11850913922688522953:=Z
def tw8831058996843420821:=Z
def tw5215002868080539354:=Z
def tw4177096319101277135:=Z
def tw7168199508370850874:=Z
def tw6560364292161491462:=Z
def tw1550451895699111288:=Z
def tw8303214709451869811:=Z
def tw8507095942816804638:=Z
def tw66550330509170994:=Z
def tw911300901083806601:=Z
def tw13630727847779302337:=Z
def tw9543636682629546168:=Z
def tw10600795957163158202:=Z
def tw18395759004751506985:=Z
def tw7614698643833465362:=Z
def tw14519978685007088066:=Z
def tw9200996552928853054:=Z
def tw10994214933797210264:=Z
def tw144152385768986041:=Z
def tw857124637123415573:=Z
def tw16103805082969571534:=Z
def tw1089913511291529612:=Z
def tw2466897673302296853:=Z
def tw8959705473777276708:=Z
def tw1675580733176076574:=Z
def tw9174793414983109928:=Z
def tw13380979877961028269:=Z
def tw16317542775982227999:=Z
def tw15169920514748177209:=Z
def tw10174298217146301339:=Z
def tw13433065563567553721:=Z
def tw7078572991510729506:=Z
def tw17801718809381413254:=Z
def tw16296383787761895907:=Z
def tw11967800628650936929:=Z
def tw4205488145455397250:=Z
def tw14844239693073112137:=Z
def tw218818466653484506:=Z
def tw3744811316587907292:=Z
def tw2915569723279662162:=Z
def tw1053325936003538813:=Z
def tw16707610125165920829:=Z
def tw18035275472995501436:=Z
def tw6706795753095712008:=Z
def tw10182863213161557777:=Z
def tw13533255598644953847:=Z
def tw6149746822114870999:=Z
def tw17726070384105287732:=Z
def tw6109996067802418106:=Z
def tw526995952695385151:=Z
def tw9695468905685988227:=Z
def tw4073085461950577629:=Z
def tw9960658833639869741:=Z
def tw7502370080479415744:=Z
def tw3064943073547407703:=Z
def tw3459911449059557359:=Z
def tw12099520871840177896:=Z
def tw7189072768657798184:=Z
def tw12955717740103367133:=Z
def tw4156414608914066157:=Z
def tw7726360724346692497:=Z
def tw5408630243376141502:=Z
def tw14300066406770224531:=Z
def tw12037813491973509451:=Z
def tw4632894482203952662:=Z
def tw10142445362875845605:=Z
def tw15448381356086466232:=Z
def tw10466193195578662583:=Z
def tw9650554285336534884:=Z
def tw16139136120022192304:=Z
def tw6081431210187365847:=Z
def tw17737691410926900303:=Z
def tw18142538633086253914:=Z
def tw11084351479547792461:=Z
def tw11307298910063199952:=Z
def tw5263983976639506921:=Z
def tw14833471398660391086:=Z
def tw9818193025338174339:=Z
def tw13394572036273876290:=Z
def tw1596895499019324071:=Z
def tw2424705580003240564:=Z
def tw16338239638328328964:=Z
def tw6335523302667354683:=Z
def tw14333138449540762615:=Z
def tw15470324478290131709:=Z
def tw13725138133550036039:=Z
def tw17646415597589058347:=Z
def tw8804136060424629816:=Z
def tw3712893816434619923:=Z
def tw13234192839249594149:=Z
def tw3309257296361605378:=Z
def tw16806281043404083206:=Z
def tw17959460466134049914:=Z
def tw3097330232059579865:=Z
def tw13667352949354733925:=Z
def tw263079893512477713:=Z
def tw12357876038055242595:=Z
def tw3657444161156580868:=Z
def tw14466340301682483111:=Z
def tw16422521902445442052:=Z
def tw8518561491457962290:=Z
def tw4108084030789719933:=Z
def tw2618164093276067889:=Z
def tw1541730763312018060:=Z
def tw14893845868335860923:=Z
def tw4864565317416944141:=Z
def tw5278227798507094186:=Z
def tw2548063102920146907:=Z
def tw13156204855985346859:=Z
def tw11328946268440082385:=Z
def tw3218080496099219535:=Z
def tw13275352801884297331:=Z
def tw13403587824319434356:=Z
def tw1076891295244683994:=Z
def tw9706371425683166364:=Z
def tw8391109632981802073:=Z
def tw7006440480424774249:=Z
def tw15621927917949147502:=Z
def tw18098740106394046087:=Z
def tw16429512938878639035:=Z
def tw10430404136532662960:=Z
def tw404480389576103982:=Z
def tw15832944759752133956:=Z
def tw7445497789156488276:=Z
def tw15799406041126973986:=Z
def tw7213231487594369670:=Z
def tw9267145174338489855:=Z
def tw14599958302220334272:=Z
def tw12148601944731232237:=Z
def tw10006256824834580043:=Z
def tw634560336365764509:=Z
def tw7947547525819997095:=Z
def tw17563703568590556143:=Z
def tw4732713398302024326:=Z
def tw15185026511626860565:=Z
def tw18306691335771028601:=Z
def tw16735333101055012458:=Z
def tw5917681274058857511:=Z
def tw18165467482369096786:=Z
def tw9099008972769474213:=Z
def tw5714305709457953850:=Z
def tw7618460472515894198:=Z
def tw10812917128032600039:=Z
def tw7312845034861184448:=Z
def tw16816070298575380026:=Z
def tw9189077948416683427:=Z
def tw15851917590410129016:=Z
def tw4055438023422511660:=Z
def tw17579842045409290978:=Z
def tw8091645522708088603:=Z
def tw16777084336536244138:=Z
def tw11531309359198404214:=Z
def tw8522718615050067362:=Z
def tw17745004054650875428:=Z
def tw8914718296185831224:=Z
def tw185311157386727795:=Z
def tw5888849924890199191:=Z
def tw5669336283131495334:=Z
def tw2045604342653329603:=Z
def tw15036875414848633398:=Z
def tw1560646185750540857:=Z
def tw11392071771649277565:=Z
def tw119931870181822964:=Z
def tw13116839958283225429:=Z
def tw3863275835586466595:=Z
def tw18197972959075200697:=Z
def tw13190052396043713586:=Z
def tw16935821192610250617:=Z
def tw9859818531844790500:=Z
def tw6411590325102442450:=Z
def tw1215007397547438667:=Z
def tw2340706231492928479:=Z
def tw3693995430252523526:=Z
def tw11003727951057072957:=Z
def tw2554079734091074677:=Z
def tw13248709400436076524:=Z
def tw2211615937631274581:=Z
def tw13713255126596016293:=Z
def tw1327759088486657432:=Z
def tw2466780340104608729:=Z
def tw5779898391865358677:=Z
def tw3832270610334841426:=Z
def tw13206213918683280938:=Z
def tw8535317064867967244:=Z
def tw5967664419063292409:=Z
def tw5447635442982798267:=Z
def tw8673522335508747635:=Z
def tw13980944402976997986:=Z
def tw3347591297718836577:=Z
def tw14265804050284152507:=Z
def tw3695228645562015296:=Z
def tw4832072612942782628:=Z
def tw17077356171771811795:=Z
def tw6779499903223927334:=Z
def tw619418767810776655:=Z
def tw9402716730374130267:=Z
def tw10377316396865286118:=Z
def tw17369012587009803533:=Z
def tw13610194313278437580:=Z
def tw15678405243615763268:=Z
def tw10944931901437943782:=Z
def tw12453546837555356046:=Z
def tw15367794537193336722:=Z
def tw544215470912527880:=Z
def tw9839997149301911446:=Z
def tw7259458898920758015:=Z
def tw4685756584226737164:=Z
def tw3470690722058318709:=Z
def tw12474804362256057503:=Z
def tw16835509716273241714:=Z
def tw12580608061686989944:=Z
def tw1119157319918543683:=Z
def tw5782845347411178639:=Z
def tw18373694692932299097:=Z
def tw10004915240516490415:=Z
def tw291834257196085407:=Z
def tw12461584777484029944:=Z
def tw12487382129864613680:=Z
def tw3305711458061402214:=Z
def tw10652872997040489416:=Z
def tw11733168651555455818:=Z
def tw12810013122123768683:=Z
def tw10398362378576136408:=Z
def tw2572630349009318282:=Z
def tw2035903969096081928:=Z
def tw330789674576114525:=Z
def tw11490974622584764144:=Z
def tw7026449794693100790:=Z
def tw7980105663515926838:=Z
def tw3649259532919049007:=Z
def tw4669651139308884866:=Z
def tw13322770927990149524:=Z
def tw17447701528990775089:=Z
def tw14745110210708100259:=Z
def tw2746274876243154353:=Z
def tw14892362967296136274:=Z
def tw13544009220944565256:=Z
def tw14263177430491331852:=Z
def tw13809014352590781780:=Z
def tw7203847208674255292:=Z
def tw4777669905770968046:=Z
def tw7036672585728709775:=Z
def tw5581840847284226429:=Z
def tw14088843048149342087:=Z
def tw4616417015682168731:=Z
def tw12214229036162628115:=Z
def tw15480252310826206963:=Z
def tw12445823920920409949:=Z
def tw8845574200291927920:=Z
def tw10467456064844913338:=Z
def tw3352563471499969667:=Z
def tw4530036594396561915:=Z
def tw8917027199838098796:=Z
def tw15844859528982820654:=Z
def tw2351397225623738394:=Z
def tw7643875728798298887:=Z
def tw7230344859724281932:=Z
def tw7380901004202874442:=Z
def tw14352786217002918246:=Z
def tw12453006499681825325:=Z
def tw1436170589331423819:=Z
def tw4977538388005569715:=Z
def tw13817953217535392042:=Z
def tw6128425334340827302:=Z
def tw2781263400709715992:=Z
def tw35322578246883620:=Z
def tw9466745215317356017:=Z
def tw5011715404455416268:=Z
def tw248944820885047895:=Z
def tw1676715810605295513:=Z
def tw2144479654613236406:=Z
def tw752056387792883294:=Z
def tw8271091003731160339:=Z
def tw14905451477215134864:=Z
def tw49001883362008369:=Z
def tw4487952820637037157:=Z
def tw15774927297888989160:=Z
def tw6092992909462624514:=Z
def tw3194352430633195922:=Z
def tw1195472679831581286:=Z
def tw18222228874690652921:=Z
def tw9405449123830645789:=Z
def tw5908587495703801894:=Z
def tw17136748710718927355:=Z
def tw16123000549198175542:=Z
def tw6849212800848973224:=Z
def tw17268056926222705433:=Z
def tw16507479922369276271:=Z
def tw962384336853825750:=Z
def tw475294703127542088:=Z
def tw14936076628611417247:=Z
def tw7406756285612973207:=Z
def tw7463251111826079772:=Z
def tw779609865570188114:=Z
def tw15503643084484281063:=Z
def tw18367344386436763270:=Z
def tw7381964103209214079:=Z
def tw14361193337656591628:=Z
def tw5821071098876559698:=Z
def tw6128148673280576484:=Z
def tw3844139179019679581:=Z
def tw3905948801884343583:=Z
def tw3011207574143228916:=Z
def tw16492243137222262160:=Z
def tw2251358392095722730:=Z
def tw12128800143721853706:=Z
def tw6158793571931801688:=Z
def tw18271682731515885719:=Z
def tw13503570793512299552:=Z
def tw3770759593517016601:=Z
def tw6144032352364122156:=Z
def tw16481372157654037988:=Z
def tw9551025686323799093:=Z
def tw11052784472491015667:=Z
def tw6322573134803606459:=Z
def tw17995278527990598578:=Z
def tw770922076335440688:=Z
def tw311243974959011861:=Z
def tw14973184483727252436:=Z
def tw14359859195538683198:=Z
def tw9185492173484780758:=Z
def tw10635070798972594889:=Z
def tw2034430748519272430:=Z
def tw4653175044120653944:=Z
def tw11820884080768022690:=Z
def tw17299283447304091257:=Z
def tw9749774832427074577:=Z
def tw3870401081708061483:=Z
def tw438621857440607439:=Z
def tw12137818195630556059:=Z
def tw12393429862475377052:=Z
def tw3314160369760149509:=Z
def tw9207553750450337967:=Z
def tw9611053654119746931:=Z
def tw4717148016115471803:=Z
def tw16033684024350952320:=Z
def tw12484373742705075302:=Z
def tw9986895988035728601:=Z
def tw16276403748149964886:=Z
def tw5270175223480878972:=Z
def tw5646963968171004242:=Z
def tw7034625721537893699:=Z
def tw9609795456490474694:=Z
def tw1439423386330115167:=Z
def tw10382411413578335158:=Z
def tw16418145883261456538:=Z
def tw341164292953421839:=Z
def tw14351213966718514674:=Z
def tw13941486844652589638:=Z
def tw16355824420406545108:=Z
def tw11189612273949955097:=Z
def tw5845404954930042934:=Z
def tw5048576338700312949:=Z
def tw14046935271161064592:=Z
def tw1128911295058434107:=Z
def tw5648766381837451235:=Z
def tw57742619284849233:=Z
def tw17082984666277783654:=Z
def tw14999255403141430099:=Z
def tw4616972549939097357:=Z
def tw1787416937211347033:=Z
def tw2183527717809510325:=Z
def tw8544280987814256590:=Z
def tw6279542530277423079:=Z
def tw8574274531386163943:=Z
def tw91161488907913188:=Z
def tw1237975100640283554:=Z
def tw13936386362682777924:=Z
def tw15035891793139481591:=Z
def tw10411967883505419608:=Z
def tw4394144490221060653:=Z
def tw17327328976358460118:=Z
def tw1591059931293047627:=Z
def tw14468699339008749548:=Z
def tw260168088435936302:=Z
def tw156487091063141397:=Z
def tw14773146172884996354:=Z
def tw3251610953460147770:=Z
def tw11638597474627055212:=Z
def tw17331284793718908447:=Z
def tw928604835656990654:=Z
def tw16186022522976938180:=Z
def tw13382979283380440122:=Z
def tw3079668499365068262:=Z
def tw14220733266811981927:=Z
def tw770465104755290107:=Z
def tw5361844379976027177:=Z
def tw12610673667582910410:=Z
def tw1153119195526561055:=Z
def tw2838155017125443890:=Z
def tw16299645400144218011:=Z
def tw6178853268003621978:=Z
def tw8791632837807183772:=Z
def tw16094090625599592093:=Z
def tw16382479338468469027:=Z
def tw5016452728453650914:=Z
def tw16240166671415822820:=Z
def tw14970316232596772760:=Z
def tw5711568872630964618:=Z
def tw8358846463870566986:=Z
def tw10166227215044044866:=Z
def tw10136379792719574496:=Z
def tw13324039955919485710:=Z
def tw8353906496799304228:=Z
def tw4338768721125553860:=Z
def tw7692337902033967084:=Z
def tw5957319457690847932:=Z
def tw7029645072218704596:=Z
def tw2820619530540881233:=Z
def tw16853144274403639636:=Z
def tw3685223258576814442:=Z
def tw8924232991446612887:=Z
def tw2038143168114310335:=Z
def tw14205509298302436211:=Z
def tw11072785090431772325:=Z
def tw3682502759636069024:=Z
def tw9355832135926572606:=Z
def tw6655245280740109963:=Z
def tw379885059829871020:=Z
def tw4096884929310697979:=Z
def tw10847085615920746135:=Z
def tw9680783546947006690:=Z
def tw10674238648531420619:=Z
def tw5450936897261446096:=Z
def tw2080722827066910359:=Z
def tw11247116955910038838:=Z
def tw955809177304531490:=Z
def tw18419721842823802245:=Z
def tw13904103568382846434:=Z
def tw13067286462800444377:=Z
def tw7465449108185829746:=Z
def tw371860616254589125:=Z
def tw15188729915399186149:=Z
def tw11414425662204369963:=Z
def tw17603550980594629993:=Z
def tw8287903587927319202:=Z
def tw1473322732649907163:=Z
def tw507086936490822986:=Z
def tw3144195973518192406:=Z
def tw3548664572930855510:=Z
def tw1864824403493830150:=Z
def tw15624348202283489541:=Z
def tw6385331735252081139:=Z
def tw52811533475403421:=Z
def tw10435326365786021811:=Z
def tw8538251216719921511:=Z
def tw8489478796583981832:=Z
def tw16418883845548730000:=Z
def tw14720953285989148649:=Z
def tw671399119463893357:=Z
def tw16336241892109221188:=Z
def tw1230556010930408309:=Z
def tw4087411985396199509:=Z
def tw5552081896397692747:=Z
def tw3944673313553668817:=Z
def tw14359671376527374715:=Z
def tw15943684771116286226:=Z
def tw24493855061310749:=Z
def tw8796388679052189480:=Z
def tw3864723460829070686:=Z
def tw11203348409146745347:=Z
def tw3698286442419174683:=Z
def tw7596263650057038711:=Z
def tw5700257737851801357:=Z
def tw3213942492749556371:=Z
def tw12914170900482887557:=Z
def tw13949112012401011991:=Z
def tw16669555573557517712:=Z
def tw1466055760134160740:=Z
def tw16737278974977838402:=Z
def tw14200729583598987282:=Z
def tw11546165506473756398:=Z
def tw11730327356148164936:=Z
def tw6521797982287906949:=Z
def tw11408721611845814496:=Z
def tw372195676270545712:=Z
def tw774043423384817263:=Z
def tw1786594788858451492:=Z
def tw7861417274810986282:=Z
def tw2644898109624612071:=Z
def tw6961271345000079114:=Z
def tw11210507801912116668:=Z
def tw6734039799421028237:=Z
def tw14024369706358167544:=Z
def tw7676443896383165767:=Z
def tw10767283181053969081:=Z
def tw1182292732427979135:=Z
def tw585398382570329197:=Z
def tw15540557852582899122:=Z
def tw11701834588095749126:=Z
def tw8357829003911928429:=Z
def tw14948784272388110477:=Z
def tw17909163738769000962:=Z
def tw7912027170711552393:=Z
def tw17685899041333788095:=Z
def tw9573428605969141520:=Z
def tw3220742725117815389:=Z
def tw8490109004550369860:=Z
end PySem.W.Fast
open PySem PySem.W PyProof.Rows
set_option maxRecDepth 100000 in
set_option maxHeartbeats 0 in
theorem PySem.Challenge.cw_lazycols_k44_cut_and_together_holds : PySem.Challenge.rw_lazycols_k44_cut_and_together.Holds := by
 w_on;o_law;k_head;(case hw=>w_witness2)
 k_fill
 refine My.walk (l:=PySem.Challenge.rw_lazycols_k44_cut_and_together) rfl rfl rfl (fun w h Y => PySem.W.km_in_of Y) ?F
 case F=>
  intro w mg h KX G
  refine' My.b2Q KX G ?zK ?a45 ?zY ?a3N ?a1j ?a4t ?a4T ?a1E ?a1X ?a3c ?a12 ?a0D ?wO ?xO ?yO ?a4O ?a0k ?a1k ?a4H ?xZ ?a02 ?a36 ?iV ?a4L ?a0W ?a6s ?qT ?a2z ?a4p ?a2O ?gM ?a6E ?a2a ?a5z ?rJ ?xM ?yT ?a3q ?rT ?a0t ?a6o ?a46 ?mR ?a4u ?wY ?yS ?jA ?a0d ?a5W ?a3H ?lM ?a2h ?zH ?a2m ?lC ?a1I ?a3g ?a2P ?sN ?a3x ?a47 ?zZ ?jS ?a5A ?a5D ?yL ?sO ?a1f ?wA ?a4Q ?pH ?a6Q ?a5B ?a2R ?qS ?yI ?a5l ?xR ?zG ?a4a ?a0X ?a0s ?yA ?zS ?a3C ?xF ?a5r ?a20 ?a50 ?a2d ?a4J ?xT ?a6O ?a4q ?qY ?a6X ?a2u ?a6c ?wF ?gY ?a3B ?xI ?a1i ?a2F ?zT ?a25 ?a3G ?a4S ?wV ?rY ?a6h ?a4U ?a2j ?a3M ?a6d ?a0P ?vZ ?a0o ?a5U ?pD ?a27 ?vY ?a30 ?a37 ?tL ?a0L ?a17 ?a5J ?a54 ?qF ?wE ?a5m ?yK ?a2Y ?wB ?a3J ?a0O ?wD ?xV ?a6D ?a07 ?a2k ?a6m ?a1v ?vV ?a48 ?mY ?a5y ?a44 ?a0v ?a0g ?nV ?a6t ?a4I ?a23 ?zC ?a4N ?yZ ?a6b ?a6i ?xB ?uR ?sW ?vO ?vQ ?a3f ?wL ?a2E ?a5u ?a2G ?zF ?uM ?tI ?tP ?uX ?a6p ?uI ?sT ?sV ?uF ?a2c ?lZ ?kP ?kO ?iS ?a1T ?lK ?kQ ?mK ?jC ?a0r ?lD ?lN ?mP ?iZ ?zM ?lU ?mL ?lP ?iQ ?a3R ?lO ?mC ?lT ?kX ?a6Y ?a5a ?a1Q ?a5b ?xD ?a3t ?a3e ?a6v ?a0J ?a6a ?a5P ?a0b ?a3s ?a6U ?uS ?vX ?a3D ?a6u ?a2l ?kZ ?a0j ?a6l ?a31 ?a0z ?lB ?a2D ?a19 ?a4z ?a13 ?lA ?a4A ?a53 ?a2V ?a4Z ?mM ?a0h ?a5H ?xN ?a32 ?a5I ?a4h ?a0e ?a5R ?a2B ?a6Z ?a5s ?wZ ?a3p ?a4i ?wU ?a5e ?a58 ?a1z ?a5x ?a3E ?pX ?a3h ?a60 ?a15 ?yX ?qW ?a5F ?a42 ?a2s ?a24 ?a3w ?a3Q ?xE ?a55 ?a4n ?a4f ?a3d ?yB ?a2v ?a3A ?a6w ?a0q ?a6K ?a6e ?a4d ?a5h ?zU ?a4o ?pU ?a2Z ?yE ?zO ?a2Q ?yF ?a0C ?a4w ?wX ?a0B ?a6A ?a0x ?a6x ?zJ ?a4P ?a0K ?a5K ?a2i ?a0w ?a0p ?a4x ?a5X ?a1m ?a1Z ?a0E ?a4Y ?xY ?xC ?a2I ?a3o ?a3I ?zX ?a3X ?wC ?a2L ?a3K ?yW ?a4j ?a6M ?a3n ?a3i ?zB ?pN ?a6y ?wP ?a3u ?a1U ?oM ?a0T ?a4s ?wW ?a5M ?nA ?a6G ?a5Y ?a3L ?a2g ?a1a ?a3V ?a41 ?a2H ?a4m ?sM ?a1r ?a1N ?a22 ?a2b ?vW ?a2J ?wT ?a3Z ?a5E ?a1M ?a6g ?a3Y ?a1B ?a0u ?a6V ?a5Q ?a40 ?a1C ?a2N ?a18 ?qH ?yC ?a2U ?a14 ?a1w ?nM ?a3l ?xW ?a5C ?a3a ?a5p ?xP ?yV ?yJ ?a0V ?wG ?zD ?a2q ?a0R ?a4B ?yM ?a6z ?nS ?a1e ?a4M ?a3F ?xH ?rA ?a26 ?a4e ?a6L ?a0M ?a0N ?wS ?a1R ?a3P ?a61 ?a04 ?a0m ?a1x ?a3y ?a5d ?xQ ?tY ?a35 ?wQ ?zA ?a0Y ?a2X ?a3U ?a49 ?a05 ?vS ?zQ ?a1n ?a01 ?a29 ?a5f ?a1b ?vU ?xL ?a3r ?a5T ?a1H ?mJ ?zW ?a6N ?xS ?a4r ?a1p ?a5j ?a5q ?a1G ?a6n ?a4k ?a10 ?a2C ?a1d ?a0A ?a1y ?a39 ?zL ?xG ?a1l ?a1W ?a2w ?yD ?a5w ?a1O ?a3k ?a6j ?a00 ?a1S ?a6S ?a2p ?wN ?a5v ?a0G ?yQ ?wH ?a1t ?a3b ?a2A ?a5n ?a3S ?qQ ?a0H ?a0I ?a51 ?a28 ?oE ?a0n ?a2y ?yP ?a1K ?pV ?a5N ?a0y ?a11 ?a52 ?a0c ?a1c ?a0l ?yY ?a0Z ?mV ?a3v ?a1h ?a4E ?a5O ?mI ?a2W ?a4F ?a6I ?a2e ?qL ?wM ?a6R ?a6q ?a3T ?lI ?a3O ?wK ?a6J ?a4X ?jK ?a4g ?a6T ?a1u ?a0U ?pI ?a0i ?a2t ?a5V ?a4R ?rO ?a2T ?a6f ?a6H ?a34 ?pZ
  case zK|a45|zY|a3N|a1j|a4t|a4T|a1E|a1X|a3c|a12|a0D|wO|xO|yO|a4O|a0k|a1k|a4H|xZ|a02|a36|iV|a4L|a0W|a6s|qT|a2z|a4p|a2O|gM|a6E|a2a|a5z|rJ|xM|yT|a3q|rT|a0t|a6o|a46|mR|a4u|wY|yS|jA|a0d|a5W|a3H|lM|a2h|zH|a2m|lC|a1I|a3g|a2P|sN|a3x|a47|zZ|jS|a5A|a5D|yL|sO|a1f|wA|a4Q|pH|a6Q|a5B|a2R|qS|yI|a5l|xR|zG|a4a|a0X|a0s|yA|zS|a3C|xF|a5r|a20|a50|a2d|a4J|xT|a6O|a4q|qY|a6X|a2u|a6c|wF|gY|a3B|xI|a1i|a2F|zT|a25|a3G|a4S|wV|rY|a6h|a4U|a2j|a3M|a6d|a0P|vZ|a0o|a5U|pD|a27|vY|a30|a37|tL|a0L|a17|a5J|a54|qF|wE|a5m|yK|a2Y|wB|a3J|a0O|wD|xV|a6D|a07|a2k|a6m|a1v|vV|a48|mY|a5y|a44|a0v|a0g|nV|a6t|a4I|a23|zC|a4N|yZ|a6b|a6i|xB|uR|sW|vO|vQ|a3f|wL|a2E|a5u|a2G|zF|uM|tI|tP|uX|a6p|uI|sT|sV|uF|a2c|lZ|kP|kO|iS|a1T|lK|kQ|mK|jC|a0r|lD|lN|mP|iZ|zM|lU|mL|lP|iQ|a3R|lO|mC|lT|kX|a6Y|a5a|a1Q|a5b|xD|a3t|a3e|a6v|a0J|a6a|a5P|a0b|a3s|a6U|uS|vX|a3D|a6u|a2l|kZ|a0j|a6l|a31|a0z|lB|a2D|a19|a4z|a13|lA|a4A|a53|a2V|a4Z|mM|a0h|a5H|xN|a32|a5I|a4h|a0e|a5R|a2B|a6Z|a5s|wZ|a3p|a4i|wU|a5e|a58|a1z|a5x|a3E|pX|a3h|a60|a15|yX|qW|a5F|a42|a2s|a24|a3w|a3Q|xE|a55|a4n|a4f|a3d|yB|a2v|a3A|a6w|a0q|a6K|a6e|a4d|a5h|zU|a4o|pU|a2Z|yE|zO|a2Q|yF|a0C|a4w|wX|a0B|a6A|a0x|a6x|zJ|a4P|a0K|a5K|a2i|a0w|a0p|a4x|a5X|a1m|a1Z|a0E|a4Y|xY|xC|a2I|a3o|a3I|zX|a3X|wC|a2L|a3K|yW|a4j|a6M|a3n|a3i|zB|pN|a6y|wP|a3u|a1U|oM|a0T|a4s|wW|a5M|nA|a6G|a5Y|a3L|a2g|a1a|a3V|a41|a2H|a4m|sM|a1r|a1N|a22|a2b|vW|a2J|wT|a3Z|a5E|a1M|a6g|a3Y|a1B|a0u|a6V|a5Q|a40|a1C|a2N|a18|qH|yC|a2U|a14|a1w|nM|a3l|xW|a5C|a3a|a5p|xP|yV|yJ|a0V|wG|zD|a2q|a0R|a4B|yM|a6z|nS|a1e|a4M|a3F|xH|rA|a26|a4e|a6L|a0M|a0N|wS|a1R|a3P|a61|a04|a0m|a1x|a3y|a5d|xQ|tY|a35|wQ|zA|a0Y|a2X|a3U|a49|a05|vS|zQ|a1n|a01|a29|a5f|a1b|vU|xL|a3r|a5T|a1H|mJ|zW|a6N|xS|a4r|a1p|a5j|a5q|a1G|a6n|a4k|a10|a2C|a1d|a0A|a1y|a39|zL|xG|a1l|a1W|a2w|yD|a5w|a1O|a3k|a6j|a00|a1S|a6S|a2p|wN|a5v|a0G|yQ|wH|a1t|a3b|a2A|a5n|a3S|qQ|a0H|a0I|a51|a28|oE|a0n|a2y|yP|a1K|pV|a5N|a0y|a11|a52|a0c|a1c|a0l|yY|a0Z|mV|a3v|a1h|a4E|a5O|mI|a2W|a4F|a6I|a2e|qL|wM|a6R|a6q|a3T|lI|a3O|wK|a6J|a4X|jK|a4g|a6T|a1u|a0U|pI|a0i|a2t|a5V|a4R|rO|a2T|a6f|a6H|a34=>k_is
  (case pZ=>k_is)