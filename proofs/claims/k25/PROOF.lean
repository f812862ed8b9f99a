import PyProof.Rows.All
import Wide.All
import OpenK.AllK
import Wide.FinOn
import PyProof.EqAt
import PyProof.EqKinds
import PyProof.TupleCall
import Lean
import PySem.Challenge.RW_lazycols_k25_reckoned_once
set_option Elab.async false
set_option linter.all false
set_option maxRecDepth 100000
set_option maxHeartbeats 4000000
set_option genSizeOfSpec false
namespace L2
abbrev Fg:=PySem.W.Frag
end L2
namespace L2
open PySem PySem.Spec PyProof.Rows
theorem fK{F:FuncData}{ps:List Str}(h:∀a0,bindArgs F ⟨[a0],[]⟩=pure (ps.zip [a0])):∀us:List Value,us.length=1->bindArgs F ⟨us,[]⟩=pure (ps.zip us)
 | [a0],_=>h a0
theorem eG{F:FuncData}{ps:List Str}(h:∀a0 a1,bindArgs F ⟨[a0,a1],[]⟩=pure (ps.zip [a0,a1])):∀us:List Value,us.length=2->bindArgs F ⟨us,[]⟩=pure (ps.zip us)
 | [a0,a1],_=>h a0 a1
theorem hV{F:FuncData}{ps:List Str}(h:∀a0 a1 a2,bindArgs F ⟨[a0,a1,a2],[]⟩=pure (ps.zip [a0,a1,a2])):∀us:List Value,us.length=3->bindArgs F ⟨us,[]⟩=pure (ps.zip us)
 | [a0,a1,a2],_=>h a0 a1 a2
theorem lH{F:FuncData}{ps:List Str}(h:∀a0 a1 a2 a3,bindArgs F ⟨[a0,a1,a2,a3],[]⟩=pure (ps.zip [a0,a1,a2,a3])):∀us:List Value,us.length=4->bindArgs F ⟨us,[]⟩=pure (ps.zip us)
 | [a0,a1,a2,a3],_=>h a0 a1 a2 a3
theorem bi5{F:FuncData}{ps:List Str}(h:∀a0 a1 a2 a3 a4,bindArgs F ⟨[a0,a1,a2,a3,a4],[]⟩=pure (ps.zip [a0,a1,a2,a3,a4])):∀us:List Value,us.length=5->bindArgs F ⟨us,[]⟩=pure (ps.zip us)
 | [a0,a1,a2,a3,a4],_=>h a0 a1 a2 a3 a4
theorem bi6{F:FuncData}{ps:List Str}(h:∀a0 a1 a2 a3 a4 a5,bindArgs F ⟨[a0,a1,a2,a3,a4,a5],[]⟩=pure (ps.zip [a0,a1,a2,a3,a4,a5])):∀us:List Value,us.length=6->bindArgs F ⟨us,[]⟩=pure (ps.zip us)
 | [a0,a1,a2,a3,a4,a5],_=>h a0 a1 a2 a3 a4 a5
theorem cA{n:Nat}(h:n<2:=by first|assumption|omega):n=0\/ n=1:=by omega
theorem iK{n:Nat}(h:n<3:=by first|assumption|omega):n=0\/ n=1\/ n=2:=by omega
abbrev aA:=Sum Int Str
def qG:aA->Value->Bool
 | .inl k,v=>Value.isInt k v
 | .inr x,v=>Value.isStrOf x v
def keyH(w:World):aA->Int
 | .inl k=>hashInt k
 | .inr x=>hashStr w x
theorem lG:∀{k:aA} {v:Value},qG k v=true->(∃i t,k=Sum.inl i/\v=Value.int i t)\/ (∃x t,k=Sum.inr x/\v=Value.str x t)
 | .inl i,v,h=>by
  obtain⟨t,e⟩:=Value.isInt_shape (k:=i) (v:=v) h
  exact .inl ⟨i,t,rfl,e⟩
 | .inr x,v,h=>by
  obtain⟨t,e⟩:=Value.isStrOf_shape (x:=x) (v:=v) h
  exact .inr ⟨x,t,rfl,e⟩
theorem b2m(i:Int)(t:Tok):qG (.inl i) (.int i t)=true:=by simp[qG,Value.isInt]
theorem b6W(x:Str)(t:Tok):qG (.inr x) (.str x t)=true:=by simp[qG,Value.isStrOf]
theorem b7j(a b:Int):decide ((Sum.inl a:aA)=Sum.inl b)=(a==b):=by
 by_cases e:a=b
 ·subst e;simp
 ·have h:¬(Sum.inl a:aA)=Sum.inl b:=fun q=>e (Sum.inl.inj q)
  rw[decide_eq_false h]
  exact(beq_eq_false_iff_ne.mpr e).symm
theorem b6M(a b:Str):decide ((Sum.inr a:aA)=Sum.inr b)=decide (a=b):=by
 by_cases e:a=b
 ·subst e;simp
 ·have h:¬(Sum.inr a:aA)=Sum.inr b:=fun q=>e (Sum.inr.inj q)
  rw[decide_eq_false h,decide_eq_false e]
theorem b6X(a:Int)(b:Str):decide ((Sum.inl a:aA)=Sum.inr b)=false:=decide_eq_false (fun q=>nomatch q)
theorem b5M(a:Str)(b:Int):decide ((Sum.inr a:aA)=Sum.inl b)=false:=decide_eq_false (fun q=>nomatch q)
def fH(prog:Program)(w:World):PySem.KeyKind prog w aA where
 is:=qG
 hash:=keyH w
 inj:=fun v a b ha hb=>by
  rcases lG ha with⟨i,t,rfl,rfl⟩|⟨x,t,rfl,rfl⟩
  ·rcases lG hb with⟨j,u,rfl,e⟩|⟨y,u,rfl,e⟩
   ·injection e with e1 _;rw[e1]
   ·exact nomatch e
  ·rcases lG hb with⟨j,u,rfl,e⟩|⟨y,u,rfl,e⟩
   ·exact nomatch e
   ·injection e with e1 _;rw[e1]
 byValue:=fun k v h=>by
  rcases lG h with⟨i,t,rfl,rfl⟩|⟨x,t,rfl,rfl⟩<;>rfl
 pyHash:=fun hv h=>by
  rcases lG hv with⟨i,t,rfl,rfl⟩|⟨x,t,rfl,rfl⟩
  ·exact wpAny_pyHash_int h
  ·exact wpAny_pyHash_str h
 eqBool:=fun hu hv h=>by
  rcases lG hu with⟨i,t,rfl,rfl⟩|⟨x,t,rfl,rfl⟩
  ·rcases lG hv with⟨j,u,rfl,rfl⟩|⟨y,u,rfl,rfl⟩
   ·rw[b7j]at h;exact wpAny_eqBool_int h
   ·rw[b6X]at h;exact SeqAt.EqAt.int_str i t y u _ _ _ _ h
  ·rcases lG hv with⟨j,u,rfl,rfl⟩|⟨y,u,rfl,rfl⟩
   ·rw[b5M]at h;exact SeqAt.EqAt.str_int x t j u _ _ _ _ h
   ·rw[b6M]at h;exact wpAny_eqBool_str h
 «strs» :=fun k x t v h=>by
  rcases lG h with⟨i,u,rfl,e⟩|⟨y,u,rfl,e⟩
  ·exact nomatch e
  ·injection e with e1 _
   subst e1
   cases v<;>rfl
theorem b5Q(prog:Program)(w:World)(i:Int)(t:Tok):(fH prog w).is (.inl i) (.int i t)=true:=b2m i t
theorem b31(prog:Program)(w:World)(x:Str)(t:Tok):(fH prog w).is (.inr x) (.str x t)=true:=b6W x t
inductive V where
 |non|bl(b:Bool)|int(i:Int)|str(x:Str)|byt(b:Array UInt8)|flt(b:UInt64)|ref(a:Addr)|ty(n:String)
 deriving DecidableEq
def bF:V->Value->Prop
 | .non,u=>u=Value.none
 | .bl b,u=>u=Value.bool b
 | .int i,u=>∃t,u=Value.int i t
 | .str x,u=>∃t,u=Value.str x t
 | .byt b,u=>∃t,u=Value.bytes b t
 | .flt b,u=>∃t,u=Value.float b t
 | .ref a,u=>u=Value.ref a
 | .ty n,u=>u=Value.type n
abbrev bD:List V->List Value->Prop:=Paired bF
theorem bD.length{xs:List V}{us:List Value}(r:bD xs us):xs.length=us.length:=Paired.length r
theorem bD.get:∀{xs:List V} {us:List Value} {i:Nat} {x:V},bD xs us->xs[i]?=some x->∃u,us[i]?=some u/\bF x u
 |_,_,_,_,.nil,e=>by simp at e
 |_,_,0,_,.cons r _,e=>by simp at e;subst e;exact⟨_,rfl,r⟩
 |_,_,i+ 1,x,.cons _ t,e=>by
  obtain⟨u,h1,h2⟩:=bD.get (i:=i) (x:=x) t (by simpa using e)
  exact⟨u,by simpa using h1,h2⟩
theorem bD.set{x:V}{u:Value}(r:bF x u):∀{xs:List V} {us:List Value} (i:Nat),bD xs us->bD (xs.set i x) (us.set i u)
 |_,_,_,.nil=> .nil
 |_,_,0,.cons _ t=> .cons r t
 |_,_,i+ 1,.cons q t=> .cons q (bD.set r i t)
theorem bD.append:∀{xs ys:List V} {us ws:List Value},bD xs us->bD ys ws->bD (xs++ ys) (us++ ws)
 |_,_,_,_,.nil,s=>s
 |_,_,_,_,.cons r t,s=> .cons r (bD.append t s)
theorem bD.take:∀{xs:List V} {us:List Value} (n:Nat),bD xs us->bD (xs.take n) (us.take n)
 |_,_,0,_=> .nil
 |_,_,_+ 1,.nil=> .nil
 |_,_,n+ 1,.cons r t=> .cons r (bD.take n t)
theorem bD.drop:∀{xs:List V} {us:List Value} (n:Nat),bD xs us->bD (xs.drop n) (us.drop n)
 |_,_,0,r=>r
 |_,_,_+ 1,.nil=> .nil
 |_,_,n+ 1,.cons _ t=>bD.drop n t
def fW:Option V->Option Value->Prop
 |some v,some u=>bF v u
 |none,none=>True
 |_,_=>False
def KV{κ:Type}:List (κ×V)->List (κ×Value)->Prop:=Paired fun(p:κ×V) (q:κ×Value)=>p.1=q.1/\bF p.2 q.2
def kV:aA->V
 | .inl i=> .int i
 | .inr x=> .str x
inductive HO where
 |lst(xs:List V)
 |tup(xs:List V)
 |dK(kvs:List (aA×V))|dT(kvs:List (List aA×V))
 |set(S:Int->Bool)(n:Nat)
 |ins(C dx:Addr)(fs:List (Str×V))
 |own(x:Addr)
 |xd(fs:List (Str×V))
 |met(f x:Addr)
 |rng(lo hi:Int)
 |frz(o:Obj)(u:HO)
 |tbl(ps:Array Value)
 |ext(φ:Heap->Prop)
abbrev Hp:=Addr->Option HO
noncomputable def upd (H:Hp) (a:Addr) (o:HO):Hp:=fun b=>if b=a then some o else H b
theorem aJ{H:Hp}{a:Addr}{o:HO}:upd H a o a=some o:=by unfold upd;rw[if_pos rfl]
theorem aH{H:Hp}{a b:Addr}{o:HO}(h:b≠a):upd H a o b=H b:=by unfold upd;rw[if_neg h]
theorem jX{H:Hp}{a b:Addr}{o u:HO}(h:H a=some o)(h':H b=some u)(d:o≠u):a≠b:=by
 intro e;subst e;rw[h]at h';exact d (Option.some.inj h')
theorem bA{H:Hp}{a b:Addr}{o:HO}(h:H a=some o)(h':H b=none):a≠b:=by
 intro e;subst e;rw[h]at h';cases h'
section
variable(P:Program)(w:World)
def cY(H:Hp)(h:Heap)(a:Addr):HO->Prop
 | .lst xs=>xs.length<=sizeLine/\∃(its:List Value) (n:Nat),bD xs its/\h.get? a=some {cls:=.type "list",data:=.seq its.toArray n}
 | .tup xs=>xs.length<=sizeLine/\∃its:List Value,bD xs its/\IsTup h a its.toArray
 | .dK kvs=>kvs.length<=sizeLine/\(a==sysModules)=false/\∃vs,KV kvs vs/\h.DictOf (fH P w) a vs
 | .dT kvs=>kvs.length<=sizeLine/\(a==sysModules)=false/\∃xs:List (List aA×Addr×Value),
  Paired (fun(p:List aA×V) (q:List aA×Addr×Value)=>p.1=q.1/\H q.2.1=some (.tup (p.1.map kV))/\bF p.2 q.2.2) kvs xs/\
  ∃o es ep,h.get? a=some o/\o.ExactDict/\o.data= .dict es ep/\es.toList=xs.map (entryOfKey (tupleKind (fH P w)))/\(xs.map (·.1)).Nodup
 | .set S n=>h.SetOf (intKind P w) a S n
 | .ins C dx fs=>H dx=some (.own a)/\fs.length<=1000/\dx≠a/\h.get? a=some (PySem.W.instObj C dx)/\
  ∃mA,h.Ns1 dx mA/\(∀f,fW (fs.lookup f) (mA f))/\PySem.Within mA (fs.map (·.1))
 | .own _=>∃o,h.get? a=some o
 | .xd fs=>∃mA,h.Ns1 a mA/\∀f,fW (fs.lookup f) (mA f)
 | .rng lo hi=>∃t u v,h.get? a=some {cls:=.type "range",data:=.fields #[.int lo t,.int hi u,.int 1 v]}
 | .frz o u=>h.get? a=some o/\cY H h a u
 | .tbl ps=>h.get? a=some {cls:=.none,data:=.fields ps}
 | .met f x=>h.get? a=some (PySem.W.methodObj (.ref f) (.ref x))
 | .ext φ=>φ h/\(∃o,h.get? a=some o)/\∀h1 h2:Heap,φ h1->(∀o,h1.get? a=some o->h2.get? a=some o)->φ h2
def cC(H:Hp)(h:Heap):Prop:=∀a o,H a=some o->cY P w H h a o
end
section
variable{P:Program}{w:World}{H H':Hp}{h h':Heap}{a:Addr}{o:HO}
theorem cY.lt(x:cY P w H h a o):a<h.objs.size:=by
 cases o with
 |lst xs=>obtain⟨_,_,_,_,e⟩:=x;exact Heap.lt_size e
 |tup xs=>obtain⟨_,_,_,p⟩:=x;exact p.lt
 |dK kvs=>obtain⟨_,_,_,_,o,_,_,e,_⟩:=x;exact Heap.lt_size e
 |dT kvs=>obtain⟨_,_,_,_,o,_,_,e,_⟩:=x;exact Heap.lt_size e
 |set S n=>obtain⟨o,_,_,_,e,_⟩:=x;exact Heap.lt_size e
 |ins C dx fs=>obtain⟨_,_,_,e,_⟩:=x;exact Heap.lt_size e
 |own y=>obtain⟨_,e⟩:=x;exact Heap.lt_size e
 |xd fs=>obtain⟨_,⟨_,_,_,e,_⟩,_⟩:=x;exact Heap.lt_size e
 |rng lo hi=>obtain⟨_,_,_,e⟩:=x;exact Heap.lt_size e
 |frz ob u=>obtain⟨e,_⟩:=x;exact Heap.lt_size e
 |tbl ps=>exact Heap.lt_size (show h.get? a=some _ from x)
 |met f y=>exact Heap.lt_size (show h.get? a=some _ from x)
 |ext φ=>obtain⟨_,⟨_,e⟩,_⟩:=x;exact Heap.lt_size e
theorem Paired.mapP{α β:Type}{F G:α->β->Prop}:∀{l₁:List α} {l₂:List β},Paired F l₁ l₂->(∀a b,F a b->G a b)->Paired G l₁ l₂
 |_,_,.nil,_=> .nil
 |_,_,.cons r t,f=> .cons (f _ _ r) (Paired.mapP t f)
theorem cY.stay(x:cY P w H h a o)(k:∀b u,(b=a\/ H b=some (.own a))->h.get? b=some u->h'.get? b=some u)
 (ho:∀b,H b=some (.own a)->H' b=some (.own a))(ht:∀b xs,H b=some (.tup xs)->H' b=some (.tup xs)):cY P w H' h' a o:=by
 induction o with
 |lst xs=>obtain⟨z,its,n,r,e⟩:=x;exact⟨z,its,n,r,k _ _ (.inl rfl) e⟩
 |tup xs=>obtain⟨z,its,r,ob,e,c⟩:=x;exact⟨z,its,r,ob,k _ _ (.inl rfl) e,c⟩
 |dK kvs=>obtain⟨z,y,vs,r,ob,es,ep,e,c⟩:=x;exact⟨z,y,vs,r,ob,es,ep,k _ _ (.inl rfl) e,c⟩
 |dT kvs=>
  obtain⟨z,y,xs,r,ob,es,ep,e,c⟩:=x
  exact⟨z,y,xs,Paired.mapP r fun p q z=>⟨z.1,ht _ _ z.2.1,z.2.2⟩,ob,es,ep,k _ _ (.inl rfl) e,c⟩
 |set S n=>obtain⟨ob,es,ep,t,e,c⟩:=x;exact⟨ob,es,ep,t,k _ _ (.inl rfl) e,c⟩
 |ins C dx fs=>
  obtain⟨d,z,ne,e,mA,⟨od,es,ep,e2,c⟩,r⟩:=x
  exact⟨ho _ d,z,ne,k _ _ (.inl rfl) e,mA,⟨od,es,ep,k _ _ (.inr d) e2,c⟩,r⟩
 |own y=>obtain⟨ob,e⟩:=x;exact⟨ob,k _ _ (.inl rfl) e⟩
 |xd fs=>obtain⟨mA,⟨od,es,ep,e,c⟩,r⟩:=x;exact⟨mA,⟨od,es,ep,k _ _ (.inl rfl) e,c⟩,r⟩
 |rng lo hi=>obtain⟨t,u,v,e⟩:=x;exact⟨t,u,v,k _ _ (.inl rfl) e⟩
 |frz ob u ih=>obtain⟨e,q⟩:=x;exact⟨k _ _ (.inl rfl) e,ih q⟩
 |tbl ps=>
  have e:h.get? a=some {cls:=.none,data:=.fields ps}:=x
  show h'.get? a=some {cls:=.none,data:=.fields ps}
  exact k a _ (.inl rfl) e
 |met f y=>
  have e:h.get? a=some (PySem.W.methodObj (.ref f) (.ref y)):=x
  show h'.get? a=some (PySem.W.methodObj (.ref f) (.ref y))
  exact k a _ (.inl rfl) e
 |ext φ=>obtain⟨p,⟨o,e⟩,st⟩:=x;exact⟨st _ _ p fun o q=>k _ _ (.inl rfl) q,⟨o,k _ _ (.inl rfl) e⟩,st⟩
theorem cC.lt(x:cC P w H h)(e:H a=some o):a<h.objs.size:=(x a o e).lt
theorem cC.fresh(x:cC P w H h)(e:h.objs.size<=a):H a=none:=by
 cases q:H a with
 |none=>rfl
 |some u=>exact absurd (Nat.lt_of_lt_of_le (x.lt q) e) (Nat.lt_irrefl _)
theorem cC.kept(x:cC P w H h)(k:∀b u,h.get? b=some u->h'.get? b=some u):cC P w H h':=fun a o e=>
 (x a o e).stay (fun b u _ q=>k b u q) (fun _ q=>q) fun _ _ q=>q
theorem cC.laid(x:cC P w H h)(k:∀b u,h.get? b=some u->h'.get? b=some u)(hp:h.objs.size<=a)(new:cY P w (upd H a o) h' a o):cC P w (upd H a o) h':=fun b u e=>by
 have hn:=x.fresh hp
 by_cases hb:b=a
 ·subst hb;rw[aJ]at e;cases e;exact new
 ·rw[aH hb]at e
  exact(x b u e).stay (fun c v _ q=>k c v q) (fun c q=>by rw[aH (bA q hn)];exact q) fun c xs q=>by rw[aH (bA q hn)];exact q
end
def Rd(H:Hp)(a:Addr)(u:HO):Prop:=H a=some u\/ ∃o,H a=some (.frz o u)
theorem Rd.ok{P:Program}{w:World}{H:Hp}{h:Heap}{a:Addr}{u:HO}(r:Rd H a u)(x:cC P w H h):cY P w H h a u:=by
 rcases r with r|⟨o,r⟩
 ·exact x a u r
 ·obtain⟨_,q⟩:=x a _ r
  exact q
def wB:Option HO->Prop
 |some (.lst _)=>True
 |some (.dK _)=>True
 |some (.dT _)=>True
 |some (.set _ _)=>True
 |some (.ins _ _ _)=>True
 |some (.ext _)=>True
 |_=>False
section
variable{P:Program}{w:World}{H:Hp}{h h':Heap}{x e:Addr}{o':HO}
theorem cC.write(ok:cC P w H h)(mu:wB (H x))(he:e=x\/ H e=some (.own x))(k:∀b u,b≠e->h.get? b=some u->h'.get? b=some u)(heo:∃u,h'.get? e=some u)
 (new:cY P w (upd H x o') h' x o'):cC P w (upd H x o') h':=fun b u q=>by
 have nown:∀c y,H c=some (.own y)->c≠x:=fun c y r z=>by subst z;rw[r]at mu;exact mu
 have ntup:∀c xs,H c=some (.tup xs)->c≠x:=fun c xs r z=>by subst z;rw[r]at mu;exact mu
 by_cases hb:b=x
 ·subst hb;rw[aJ]at q;cases q;exact new
 ·rw[aH hb]at q
  by_cases hbe:b=e
  ·have q':H b=some (.own x):=by
    rcases he with z|z
    ·exact absurd (hbe.trans z) hb
    ·rw[hbe];exact z
   rw[q]at q';cases q'
   obtain⟨v,hv⟩:=heo
   exact⟨v,by rw[hbe];exact hv⟩
  ·refine(ok b u q).stay (fun c v hc r=>k c v ?_ r) (fun c r=>by rw[aH (nown c b r)];exact r) fun c xs r=>by rw[aH (ntup c xs r)];exact r
   rcases hc with rfl|hc
   ·exact hbe
   ·rintro rfl
    rcases he with z|z
    ·exact nown c b hc z
    ·rw[hc]at z;cases z;exact hb rfl
end
structure Un(fs ex:List Addr)(H H':Hp)(h h':Heap):Prop where
 keep:∀b o,h.get? b=some o->H b=none->b∉fs->b∉ex->h'.get? b=some o
 slot:∀b o,h.get? b=some o->H b=none->b∈fs->b∉ex->∃sl,h'.get? b=some {o with slots:=sl}
 free:∀b o,h.get? b=some o->H b=none->b∉ex->H' b=none
 there:∀b o,h.get? b=some o->b∉ex->∃o',h'.get? b=some o'
 tups:∀b xs,H b=some (.tup xs)->H' b=some (.tup xs)
 frzs:∀b o u,H b=some (.frz o u)->H' b=some (.frz o u)
 tbls:∀b ps,H b=some (.tbl ps)->∃more,H' b=some (.tbl (ps++ more))
section
variable{fs fs' ex ex':List Addr}{H H1 H2:Hp}{h h1 h2 h':Heap}{a x e:Addr}{o:HO}
theorem Un.any(u:Un fs ex H H1 h h1){b:Addr}{ob:Obj}(q:h.get? b=some ob)(n:H b=none)(hx:b∉ex):∃sl,h1.get? b=some {ob with slots:=sl}:=by
 by_cases hb:b∈fs
 ·exact u.slot b ob q n hb hx
 ·exact⟨ob.slots,u.keep b ob q n hb hx⟩
theorem Un.kept(k:∀b u,h.get? b=some u->h'.get? b=some u):Un fs ex H H h h':=
 ⟨fun b ob q _ _ _=>k b ob q,fun b ob q _ _ _=>⟨ob.slots,k b ob q⟩,fun _ _ _ n _=>n,fun b ob q _=>⟨ob,k b ob q⟩,fun _ _ q=>q,fun _ _ _ q=>q,fun _ ps q=>⟨#[],by rw[q];simp⟩⟩
theorem Un.refl:Un fs ex H H h h:=Un.kept fun _ _ q=>q
theorem Un.laid(k:∀b u,h.get? b=some u->h'.get? b=some u)(hp:h.objs.size<=a)(hn:H a=none):Un fs ex H (upd H a o) h h' where
 keep:=fun b u q _ _ _=>k b u q
 slot:=fun b u q _ _ _=>⟨u.slots,k b u q⟩
 free:=fun b u q n _=>by rw[aH (Nat.ne_of_lt (Nat.lt_of_lt_of_le (Heap.lt_size q) hp))];exact n
 there:=fun b u q _=>⟨u,k b u q⟩
 tups:=fun b xs q=>by rw[aH (bA q hn)];exact q
 frzs:=fun b u xs q=>by rw[aH (bA q hn)];exact q
 tbls:=fun b ps q=>⟨#[],by rw[aH (bA q hn),q];simp⟩
theorem Un.write(mu:wB (H x))(he:e=x\/ H e=some (.own x))(k:∀b u,b≠e->h.get? b=some u->h'.get? b=some u)(heo:∃u,h'.get? e=some u):Un fs ex H (upd H x o) h h':=by
 have hx:∀b,H b=none->b≠x:=fun b n z=>by subst z;rw[n]at mu;exact mu
 have hb:∀b,H b=none->b≠e:=fun b n z=>by
  subst z
  rcases he with r|r
  ·exact hx b n r
  ·rw[n]at r;cases r
 have hm:∀b u,H b=some u->¬wB (some u)->b≠x:=fun b u q nm z=>by subst z;rw[q]at mu;exact nm mu
 refine⟨fun b u q n _ _=>k b u (hb b n) q,fun b u q n _ _=>⟨u.slots,k b u (hb b n) q⟩,fun b u q n _=>by rw[aH (hx b n)];exact n,fun b u q _=> ?_,
  fun b xs q=>by rw[aH (hm b _ q fun z=>z)];exact q,fun b u xs q=>by rw[aH (hm b _ q fun z=>z)];exact q,fun b ps q=>⟨#[],by rw[aH (hm b _ q fun z=>z),q];simp⟩⟩
 by_cases hbe:b=e
 ·subst hbe;exact heo
 ·exact⟨u,k b u hbe q⟩
end
noncomputable def xX (h:Heap) (H:Hp):List Addr:=(List.range h.objs.size).filter fun a=>(H a).isSome
noncomputable def kW (h:Heap) (H:Hp):Heap:=PySem.W.hideAll h (xX h H)
theorem b4Z(h:Heap)(H:Hp):(kW h H).objs.size=h.objs.size:=PySem.W.hideAll_size _ _
theorem b64{h:Heap}{H:Hp}{b:Addr}{o:Obj}(e:h.get? b=some o)(n:H b=none):(kW h H).get? b=some o:=
 PySem.W.hideAll_get _ e fun hm=>by
  have q:(H b).isSome=true:=(List.mem_filter.mp hm).2
  rw[n]at q;simp at q
theorem b6o{h:Heap}{H:Hp}{b:Addr}{o:Obj}(e:(kW h H).get? b=some o):h.get? b=some o/\H b=none:=by
 have e':h.get? b=some o:=PySem.W.of_hideAll (xX h H) e
 refine⟨e',?_⟩
 cases q:H b with
 |none=>rfl
 |some x=>
  have hm:b∈xX h H:=List.mem_filter.mpr ⟨List.mem_range.mpr (Heap.lt_size e'),by simp[q]⟩
  have z:(kW h H).get? b=none:=PySem.W.hideAll_none (xX h H) hm
  rw[z]at e;cases e
noncomputable def b4A (g h:Heap) (L:Addr):List (Addr×Obj):=(List.range h.objs.size).filterMap fun a=>if a=L\/ (g.get? a).isSome=true then none else(h.get? a).map fun o=>(a,o)
noncomputable def dY (g h:Heap) (L d:Addr):List (Addr×Obj):=(b4A g h L).filter fun p=>decide (p.1≠d)
structure Mod(K:Fg)(mg:Str->Option Value)(base:Heap):Prop where
 kin:K.In base
 glob:base.Ns mainGlobals mg
 blt:∃mb,base.Ns builtinsNs mb/\∀x:Str,x≠ "__name__" ->mb x=bootBuiltins x
 nolimit:base.NoLimit
structure Cx where
 prog:Program
 w:World
 K:Fg
 mg:Str->Option Value
 base:Heap
 A:Around
 N:List Str
 s₀:Shared
 H₀:Hp
 env:Env
 outer:List Env
 stack:List Env
 ex:List Addr
 fn:Str->Bool
 calm:Bool
 pn:List (Addr×Obj)
 xe:Value->Shared->Prop
def fZ(l:List Env):List Addr:=l.filterMap (·.frame)
abbrev Cx.fs(X:Cx):List Addr:=fZ X.outer
def zJ(sc:Scope)(x:Str):Prop:=sc.names.lookup x=some .local\/ sc.names.lookup x=some .cell\/ sc.names.lookup x=some .free
def xB(sc:Scope)(x:Str):Prop:=sc.names.lookup x=some .local\/ sc.names.lookup x=some .cell
def Look(env:Env)(h:Heap)(m:Str->Option Value)(x:Str)(u:Value):Prop:=
 (env.kindOf x=some .local/\m x=some u)\/ ((env.kindOf x=some .cell\/ env.kindOf x=some .free)/\∃c,env.cells.lookup x=some c/\h.IsCell c (some u))
structure Cx.Ok(X:Cx):Prop where
 mod:Mod X.K X.mg X.base
 kind:X.env.scope.kind= .function
 glob:X.env.globals=mainGlobals
 blt:X.env.builtins=builtinsNs
 above:X.s₀.heap.objs.size<=X.env.locals
 inj:∀x y c,X.env.cells.lookup x=some c->X.env.cells.lookup y=some c->x=y
 has:∀x,(X.env.kindOf x=some .cell\/ X.env.kindOf x=some .free)->∃c,X.env.cells.lookup x=some c
 cab:∀x c,X.fn x=true->X.env.cells.lookup x=some c->X.s₀.heap.objs.size<=c
 hd:X.calm=true->X.A.handled=none
 frames:X.A.frames=some X.stack
 stk:X.stack=X.outer\/ (X.stack=X.env::X.outer/\X.env.frame=some X.env.locals)
 exf:∀b∈X.ex,b≠X.env.locals/\∀x c,X.env.cells.lookup x=some c->c≠b
 bs:∀b o,X.base.get? b=some o->X.s₀.heap.get? b=some o/\X.H₀ b=none
 bsz:X.base.objs.size<=X.s₀.heap.objs.size
 noex:∀b o,X.base.get? b=some o->b∉X.ex
 exfs:∀b∈X.ex,b∉X.fs
 funs:X.s₀.heap.FunFrames X.base X.outer
 frf:∀b∈X.fs,X.H₀ b=none
structure aD(X:Cx)(pins:List (Addr×Obj))(σ:List (Option V))(H:Hp)(s:Shared):Prop where
 ok:X.Ok
 os:s.os=X.s₀.os
 bare:AllBare s.gens
 base:Un X.fs X.ex X.H₀ H X.s₀.heap s.heap
 loc:∃m,s.heap.Ns X.env.locals m/\∀(i:Nat) (x:Str) (v:V),X.N[i]?=some x->σ[i]?=some (some v)->zJ X.env.scope x->∃u,bF v u/\Look X.env s.heap m x u
 cell:∀x c,X.env.cells.lookup x=some c->∃v,s.heap.IsCell c v
 free:H X.env.locals=none
 freeC:∀x c,X.env.cells.lookup x=some c->H c=none
 pin:∀p∈X.pn++ pins,s.heap.get? p.1=some p.2/\H p.1=none/\p.1≠X.env.locals/\p.1∉X.fs/\∀v,p.2.data≠ .cell v
 hok:cC X.prog X.w H s.heap
 len:σ.length=X.N.length
section
variable{X:Cx}{pins:List (Addr×Obj)}{σ:List (Option V)}{H H':Hp}{s:Shared}{h':Heap}
theorem Cx.Ok.nofr(ok:X.Ok){b:Addr}{o:Obj}(e:X.base.get? b=some o):b∉X.fs:=fun hb=>by
 have:=(ok.funs.mem hb).1
 rw[e]at this;cases this
theorem aD.bs(I:aD X pins σ H s):∀b o,X.base.get? b=some o->s.heap.get? b=some o/\H b=none:=fun b o e=>
 ⟨I.base.keep b o (I.ok.bs b o e).1 (I.ok.bs b o e).2 (I.ok.nofr e) (I.ok.noex b o e),I.base.free b o (I.ok.bs b o e).1 (I.ok.bs b o e).2 (I.ok.noex b o e)⟩
theorem aD.bk(I:aD X pins σ H s):∀b o,X.base.get? b=some o->s.heap.get? b=some o:=fun b o e=>(I.bs b o e).1
theorem aD.mod(I:aD X pins σ H s):Mod X.K X.mg X.base:=I.ok.mod
theorem aD.kIn(I:aD X pins σ H s):X.K.In s.heap:=I.ok.mod.kin.keeps I.bk
theorem aD.lt(I:aD X pins σ H s):X.env.locals<s.heap.objs.size:=let ⟨_,hn,_⟩:=I.loc;hn.lt
theorem aD.sz(I:aD X pins σ H s):X.s₀.heap.objs.size<=s.heap.objs.size:=Nat.le_trans I.ok.above (Nat.le_of_lt I.lt)
theorem aD.nofs(I:aD X pins σ H s){a:Addr}(h:s.heap.objs.size<=a):a∉X.fs:=fun hb=>by
 obtain⟨_,o,ho,_⟩:=I.ok.funs.mem hb
 exact absurd (Nat.lt_of_lt_of_le (Heap.lt_size ho) (Nat.le_trans I.sz h)) (Nat.lt_irrefl _)
theorem aD.cne(I:aD X pins σ H s):∀x c,X.env.cells.lookup x=some c->c≠X.env.locals:=fun x c e z=>by
 obtain⟨v,o,ho,hd⟩:=I.cell x c e
 obtain⟨m,⟨o',es,ep,ho',hd',_⟩,_⟩:=I.loc
 rw[z,ho']at ho;cases ho;rw[hd']at hd;cases hd
theorem aD.funs(I:aD X pins σ H s):s.heap.FunFrames X.base X.outer:=by
 have all:∀(l:List Env),(∀b∈fZ l,b∈X.fs)->X.s₀.heap.FunFrames X.base l->s.heap.FunFrames X.base l:=by
  intro l
  induction l with
  |nil=>intro _ _;trivial
  |cons env r ih=>
   intro hs hl
   obtain⟨hk,⟨L,o,hf,hn,ho,hd⟩,hr⟩:=hl
   have hL:L∈X.fs:=hs L (by unfold fZ;rw[List.filterMap_cons,hf];exact List.mem_cons_self)
   obtain⟨sl,e⟩:=I.base.slot L o ho (I.ok.frf L hL) hL fun z=>I.ok.exfs L z hL
   exact⟨hk,⟨L,_,hf,hn,e,hd⟩,ih (fun b hb=>hs b (by unfold fZ;rw[List.filterMap_cons,hf];exact List.mem_cons_of_mem _ hb)) hr⟩
 exact all X.outer (fun _ hb=>hb) I.ok.funs
theorem aD.stack(I:aD X pins σ H s):s.heap.FunFrames X.base X.stack:=by
 rcases I.ok.stk with e|⟨e,hf⟩
 ·rw[e];exact I.funs
 ·rw[e]
  obtain⟨m,hn,_⟩:=I.loc
  refine .cons (by rw[I.ok.kind];decide) hf hn ?_ I.funs
  exact Heap.get?_none_of_le (Nat.le_trans I.ok.bsz I.ok.above)
theorem aD.stkSub(I:aD X pins σ H s):∀b∈fZ X.stack,b∈X.env.locals::X.fs:=fun b hb=>by
 rcases I.ok.stk with e|⟨e,hf⟩
 ·rw[e]at hb;exact List.mem_cons_of_mem _ hb
 ·rw[e]at hb
  unfold fZ at hb
  rw[List.filterMap_cons,hf]at hb
  exact hb
theorem aD.stkFree(I:aD X pins σ H s):∀b∈fZ X.stack,H b=none:=fun b hb=>by
 rcases List.mem_cons.mp (I.stkSub b hb)with e|hb
 ·rw[e];exact I.free
 ·obtain⟨_,o,ho,_⟩:=I.ok.funs.mem hb
  exact I.base.free b o ho (I.ok.frf b hb) fun z=>I.ok.exfs b z hb
theorem aD.step{g':Array GenState}{t':Nat}{d':Drawn}{ch:List Addr}(I:aD X pins σ H s)
 (hch:∀b∈ch,(b∈X.ex\/ X.s₀.heap.objs.size<=b)/\b≠X.env.locals/\(∀x c,X.env.cells.lookup x=some c->c≠b)/\∀p∈X.pn++ pins,p.1≠b)
 (keep:∀b o,b≠X.env.locals->b∉X.fs->b∉ch->s.heap.get? b=some o->H b=none->h'.get? b=some o)
 (slot:∀b o,b≠X.env.locals->b∈X.fs->b∉ch->s.heap.get? b=some o->H b=none->∃sl,h'.get? b=some {o with slots:=sl})(free:∀b o,b∉ch->s.heap.get? b=some o->H b=none->H' b=none)
 (there:∀b o,b∉ch->s.heap.get? b=some o->∃o',h'.get? b=some o')
 (tups:∀b xs,H b=some (.tup xs)->H' b=some (.tup xs))(frzs:∀b o u,H b=some (.frz o u)->H' b=some (.frz o u))(tbls:∀b ps,H b=some (.tbl ps)->∃more,H' b=some (.tbl (ps++ more)))
 (ns:∀m,s.heap.Ns X.env.locals m->h'.Ns X.env.locals m)(hok:cC X.prog X.w H' h')(hg:AllBare g'):
 aD X pins σ H' {s with heap:=h',gens:=g',drawn:=d',toks:=t'}:=by
 have neL:∀b o,X.s₀.heap.get? b=some o->b≠X.env.locals:=fun b o e=>Nat.ne_of_lt (Nat.lt_of_lt_of_le (Heap.lt_size e) I.ok.above)
 have neC:∀b o,X.s₀.heap.get? b=some o->b∉X.ex->b∉ch:=fun b o e hx hb=>by
  rcases(hch b hb).1 with z|z
  ·exact hx z
  ·exact absurd (Nat.lt_of_lt_of_le (Heap.lt_size e) z) (Nat.lt_irrefl _)
 have aW:∀x c,X.env.cells.lookup x=some c->∀v,s.heap.IsCell c v->h'.IsCell c v:=fun x c e v ⟨o,ho,hd⟩=>by
  have nch:c∉ch:=fun z=>(hch c z).2.2.1 x c e rfl
  by_cases hc:c∈X.fs
  ·obtain⟨sl,q⟩:=slot c o (I.cne x c e) hc nch ho (I.freeC x c e)
   exact⟨_,q,hd⟩
  ·exact⟨o,keep c o (I.cne x c e) hc nch ho (I.freeC x c e),hd⟩
 refine⟨I.ok,I.os,hg,⟨fun b o e n hb hx=> ?_,fun b o e n hb hx=> ?_,fun b o e n hx=> ?_,fun b o e hx=> ?_,fun b xs e=>tups b xs (I.base.tups b xs e),fun b o xs e=>frzs b o xs (I.base.frzs b o xs e),fun b ps e=> ?_⟩,?_,fun x c e=> ?_,?_,fun x c e=> ?_,fun p hp=> ?_,hok,I.len⟩
 ·exact keep b o (neL b o e) hb (neC b o e hx) (I.base.keep b o e n hb hx) (I.base.free b o e n hx)
 ·obtain⟨sl,e1⟩:=I.base.slot b o e n hb hx
  obtain⟨sl',e2⟩:=slot b _ (neL b o e) hb (neC b o e hx) e1 (I.base.free b o e n hx)
  exact⟨sl',e2⟩
 ·obtain⟨o',e1⟩:=I.base.there b o e hx
  exact free b o' (neC b o e hx) e1 (I.base.free b o e n hx)
 ·obtain⟨o',e1⟩:=I.base.there b o e hx
  exact there b o' (neC b o e hx) e1
 ·obtain⟨m1,e1⟩:=I.base.tbls b ps e
  obtain⟨m2,e2⟩:=tbls b _ e1
  exact⟨m1++ m2,by rw[e2,Array.append_assoc]⟩
 ·obtain⟨m,hn,hl⟩:=I.loc
  refine⟨m,ns m hn,fun i x v e1 e2 e3=> ?_⟩
  obtain⟨u,r,l⟩:=hl i x v e1 e2 e3
  refine⟨u,r,?_⟩
  rcases l with l|⟨k,c,e,z⟩
  ·exact .inl l
  ·exact .inr ⟨k,c,e,aW x c e _ z⟩
 ·obtain⟨v,z⟩:=I.cell x c e
  exact⟨v,aW x c e v z⟩
 ·obtain⟨m,⟨o,_,_,ho,_⟩,_⟩:=I.loc
  exact free _ o (fun z=>(hch _ z).2.1 rfl) ho I.free
 ·obtain⟨v,o,ho,hd⟩:=I.cell x c e
  exact free c o (fun z=>(hch c z).2.2.1 x c e rfl) ho (I.freeC x c e)
 ·obtain⟨e,n,ne,nf,d⟩:=I.pin p hp
  have nch:p.1∉ch:=fun z=>(hch p.1 z).2.2.2 p hp rfl
  exact⟨keep p.1 p.2 ne nf nch e n,free p.1 p.2 nch e n,ne,nf,d⟩
theorem aD.un{t':Nat}(I:aD X pins σ H s)(u:Un X.fs [] H H' s.heap h')(hok:cC X.prog X.w H' h'):aD X pins σ H' {s with heap:=h',toks:=t'}:=by
 obtain⟨m,⟨o,es,ep,ho,r⟩,_⟩:=id I.loc
 obtain⟨sl,hL⟩:=u.any ho I.free (by simp)
 exact I.step (g':=s.gens) (d':=s.drawn) (ch:=[]) (fun _ z=>nomatch z) (fun b o _ hb _ e n=>u.keep b o e n hb (by simp)) (fun b o _ hb _ e n=>u.slot b o e n hb (by simp)) (fun b o _ e n=>u.free b o e n (by simp)) (fun b o _ e=>u.there b o e (by simp)) u.tups u.frzs u.tbls (fun m' hm=>by
  obtain⟨o',es',ep',ho',r'⟩:=hm
  rw[ho]at ho';cases ho'
  exact⟨_,es',ep',hL,r'⟩) hok I.bare
theorem aD.call{g':Array GenState}{t':Nat}{d':Drawn}{ch:List Addr}(I:aD X pins σ H s)(u:Un (fZ X.stack) ch H H' s.heap h')(hok:cC X.prog X.w H' h')(hg:AllBare g')
 (hch:∀b∈ch,(b∈X.ex\/ X.s₀.heap.objs.size<=b)/\b≠X.env.locals/\(∀x c,X.env.cells.lookup x=some c->c≠b)/\∀p∈X.pn++ pins,p.1≠b):
 aD X pins σ H' {s with heap:=h',gens:=g',drawn:=d',toks:=t'}:=by
 obtain⟨m,⟨o,es,ep,ho,r⟩,_⟩:=id I.loc
 obtain⟨sl,hL⟩:=u.any ho I.free fun z=>(hch _ z).2.1 rfl
 exact I.step (ch:=ch) hch (fun b o hL hb hc e n=>u.keep b o e n (fun z=>(List.mem_cons.mp (I.stkSub b z)).elim hL hb) hc) (fun b o _ _ hc e n=>u.any e n hc) (fun b o hc e n=>u.free b o e n hc) (fun b o hc e=>u.there b o e hc) u.tups u.frzs u.tbls (fun m' hm=>by
  obtain⟨o',es',ep',ho',r'⟩:=hm
  rw[ho]at ho';cases ho'
  exact⟨_,es',ep',hL,r'⟩) hok hg
theorem aD.turned{t':Nat}{it:Addr}(I:aD X pins σ H s)(k:∀b o,b≠it->s.heap.get? b=some o->h'.get? b=some o)(hn:H it=none)(hL:it≠X.env.locals)
 (h1:it∈X.ex\/ X.s₀.heap.objs.size<=it)(h2:∀x c,X.env.cells.lookup x=some c->c≠it)(h3:∀p∈X.pn++ pins,p.1≠it):aD X pins σ H {s with heap:=h',toks:=t'}:=by
 have nit:∀b u,H b=some u->b≠it:=fun b u e z=>by rw[z,hn]at e;cases e
 refine I.step (g':=s.gens) (d':=s.drawn) (ch:=[it]) (fun b hb=> ?_) (fun b o _ _ hc e _=>k b o (fun z=>hc (by simp[z])) e) (fun b o _ _ hc e _=>⟨o.slots,k b o (fun z=>hc (by simp[z])) e⟩) (fun _ _ _ _ n=>n)
  (fun b o hc e=>⟨o,k b o (fun z=>hc (by simp[z])) e⟩) (fun _ _ e=>e) (fun _ _ _ e=>e) (fun b ps e=>⟨#[],by rw[e];simp⟩) (fun m hm=> ?_) (fun b u e=> ?_) I.bare
 ·have e:b=it:=by simpa using hb
  subst e
  exact⟨h1,hL,h2,h3⟩
 ·obtain⟨o,es,ep,ho,r⟩:=hm
  exact⟨o,es,ep,k _ o (Ne.symm hL) ho,r⟩
 ·refine(I.hok b u e).stay (fun c v hc q=>k c v ?_ q) (fun _ q=>q) fun _ _ q=>q
  rcases hc with z|z
  ·rw[z];exact nit b u e
  ·exact nit c _ z
theorem aD.tok(I:aD X pins σ H s)(t:Nat):aD X pins σ H {s with toks:=t}:=I.un (h':=s.heap) (t':=t) Un.refl I.hok
theorem aD.kept{t':Nat}(I:aD X pins σ H s)(k:∀b u,s.heap.get? b=some u->h'.get? b=some u):aD X pins σ H {s with heap:=h',toks:=t'}:=I.un (Un.kept k) (I.hok.kept k)
theorem aD.laid{a:Addr}{o:HO}{t':Nat}(I:aD X pins σ H s)(k:∀b u,s.heap.get? b=some u->h'.get? b=some u)(hp:s.heap.objs.size<=a)(new:cY X.prog X.w (upd H a o) h' a o):
 aD X pins σ (upd H a o) {s with heap:=h',toks:=t'}:=I.un (Un.laid k hp (I.hok.fresh hp)) (I.hok.laid k hp new)
theorem aD.write{x e:Addr}{o:HO}{t':Nat}(I:aD X pins σ H s)(mu:wB (H x))(he:e=x\/ H e=some (.own x))(k:∀b u,b≠e->s.heap.get? b=some u->h'.get? b=some u)(heo:∃u,h'.get? e=some u)
 (new:cY X.prog X.w (upd H x o) h' x o):aD X pins σ (upd H x o) {s with heap:=h',toks:=t'}:=I.un (Un.write mu he k heo) (I.hok.write mu he k heo new)
theorem aD.pins_of{pins':List (Addr×Obj)}(I:aD X pins σ H s)(h:∀p∈pins',s.heap.get? p.1=some p.2/\H p.1=none/\p.1≠X.env.locals/\p.1∉X.fs/\∀v,p.2.data≠ .cell v):aD X pins' σ H s:=
 ⟨I.ok,I.os,I.bare,I.base,I.loc,I.cell,I.free,I.freeC,fun p hp=>(List.mem_append.mp hp).elim (fun z=>I.pin p (List.mem_append_left _ z)) (h p),I.hok,I.len⟩
theorem b1s{N:List Str}(hN:N.Nodup){i j:Nat}{x:Str}(a:N[i]?=some x)(b:N[j]?=some x):i=j:=by
 obtain⟨h1,e1⟩:=List.getElem?_eq_some_iff.mp a
 obtain⟨h2,e2⟩:=List.getElem?_eq_some_iff.mp b
 exact(List.getElem_inj hN).mp (e1.trans e2.symm)
theorem b1x{M:Model}{A:Around}{E:Value->Shared->Prop}{i:Nat}{x:Str}{v:V}{u:Value}{Q:Unit->Shared->Prop}(I:aD X pins σ H s)(hN:X.N.Nodup)(hi:X.N[i]?=some x)(hx:xB X.env.scope x)(r:bF v u)
 (h:∀s',aD X pins (σ.set i (some v)) H s'->(∃a,Heap.SameBut a s.heap s'.heap/\(a=X.env.locals\/ X.env.cells.lookup x=some a))->Q () s')(hf:X.fn x=true\/ X.env.scope.names.lookup x=some .local:=by first|exact .inl rfl|exact .inr rfl|assumption):wpAny M A (storeName X.env x u) Q E s:=by
 obtain⟨m,hn,hl⟩:=id I.loc
 have hcls:(X.env.scope.kind== .class||(X.env.scope.kind== .module&&X.env.locals !=X.env.globals))=false:=by rw[I.ok.kind];rfl
 have hiσ:i<σ.length:=by rw[I.len];exact(List.getElem?_eq_some_iff.mp hi).1
 have cne:=I.cne
 have tracked:∀{a:Addr} {h':Heap},(∃o,s.heap.get? a=some o/\H a=none)->Heap.SameBut a s.heap h'->cC X.prog X.w H h':=fun{a h'} ha hs b ob e=>by
  obtain⟨_,_,hfree⟩:=ha
  refine(I.hok b ob e).stay (fun c w' hc q=>(hs.2 c ?_).trans q) (fun _ q=>q) fun _ _ q=>q
  rintro rfl
  rcases hc with rfl|hc
  ·rw[hfree]at e;cases e
  ·rw[hfree]at hc;cases hc
 rcases hx with hk|hk
 ·refine wpAny_storeName_local hk hn (fun h' hn' hs=> ?_) hcls
  obtain⟨oL,_,_,hoL,_⟩:=id hn
  refine h _ ⟨I.ok,I.os,I.bare,⟨fun b o e n hb hx=> ?_,fun b o e n hb hx=> ?_,I.base.free,fun b o e hx=> ?_,I.base.tups,I.base.frzs,I.base.tbls⟩,⟨_,hn',fun j y v' e1 e2 e3=> ?_⟩,fun y c e=> ?_,I.free,I.freeC,fun p hp=> ?_,tracked ⟨oL,hoL,I.free⟩ hs,by simpa using I.len⟩ ⟨_,hs,.inl rfl⟩
  ·exact(hs.2 b (Nat.ne_of_lt (Nat.lt_of_lt_of_le (Heap.lt_size e) I.ok.above))).trans (I.base.keep b o e n hb hx)
  ·obtain⟨sl,e1⟩:=I.base.slot b o e n hb hx
   exact⟨sl,(hs.2 b (Nat.ne_of_lt (Nat.lt_of_lt_of_le (Heap.lt_size e) I.ok.above))).trans e1⟩
  ·obtain⟨o',e1⟩:=I.base.there b o e hx
   exact⟨o',(hs.2 b (Nat.ne_of_lt (Nat.lt_of_lt_of_le (Heap.lt_size e) I.ok.above))).trans e1⟩
  ·by_cases hj:j=i
   ·subst hj
    rw[hi]at e1;cases e1
    rw[List.getElem?_set_self hiσ]at e2
    cases e2
    exact⟨u,r,.inl ⟨hk,by simp⟩⟩
   ·rw[List.getElem?_set_ne (Ne.symm hj)]at e2
    obtain⟨u',r',q⟩:=hl j y v' e1 e2 e3
    refine⟨u',r',?_⟩
    rcases q with⟨k,e⟩|⟨k,c,e,z⟩
    ·refine .inl ⟨k,?_⟩
     have:y≠x:=fun e=>hj (b1s hN e1 (e▸hi))
     simp[this,e]
    ·exact .inr ⟨k,c,e,z.sameBut hs (cne y c e)⟩
  ·obtain⟨w',z⟩:=I.cell y c e
   exact⟨w',z.sameBut hs (cne y c e)⟩
  ·obtain⟨e,n,ne,nf,d⟩:=I.pin p hp
   exact⟨(hs.2 p.1 ne).trans e,n,ne,nf,d⟩
 ·have hfn:X.fn x=true:=by
   rcases hf with z|z
   ·exact z
   ·rw[z]at hk;cases hk
  obtain⟨c,hc⟩:=I.ok.has x (.inl hk)
  obtain⟨w',z⟩:=I.cell x c hc
  refine wpAny_storeName_cell I.ok.kind hk hc z (fun h' hc' hs=> ?_)
  obtain⟨oc,hoc,hocd⟩:=id z
  refine h {s with heap:=h'} ⟨I.ok,I.os,I.bare,⟨fun b o e n hb hx=> ?_,fun b o e n hb hx=> ?_,I.base.free,fun b o e hx=> ?_,I.base.tups,I.base.frzs,I.base.tbls⟩,⟨m,hn.sameBut hs (Ne.symm (cne x c hc)),fun j y v' e1 e2 e3=> ?_⟩,fun y c' e=> ?_,I.free,I.freeC,fun p hp=> ?_,tracked ⟨oc,hoc,I.freeC x c hc⟩ hs,by simpa using I.len⟩ ⟨c,hs,.inr hc⟩
  ·exact(hs.2 b (Nat.ne_of_lt (Nat.lt_of_lt_of_le (Heap.lt_size e) (I.ok.cab x c hfn hc)))).trans (I.base.keep b o e n hb hx)
  ·obtain⟨sl,e1⟩:=I.base.slot b o e n hb hx
   exact⟨sl,(hs.2 b (Nat.ne_of_lt (Nat.lt_of_lt_of_le (Heap.lt_size e) (I.ok.cab x c hfn hc)))).trans e1⟩
  ·obtain⟨o',e1⟩:=I.base.there b o e hx
   exact⟨o',(hs.2 b (Nat.ne_of_lt (Nat.lt_of_lt_of_le (Heap.lt_size e) (I.ok.cab x c hfn hc)))).trans e1⟩
  ·by_cases hj:j=i
   ·subst hj
    rw[hi]at e1;cases e1
    rw[List.getElem?_set_self hiσ]at e2
    cases e2
    exact⟨u,r,.inr ⟨.inl hk,c,hc,hc'⟩⟩
   ·rw[List.getElem?_set_ne (Ne.symm hj)]at e2
    obtain⟨u',r',q⟩:=hl j y v' e1 e2 e3
    refine⟨u',r',?_⟩
    rcases q with q|⟨k,c',e,z'⟩
    ·exact .inl q
    ·refine .inr ⟨k,c',e,z'.sameBut hs ?_⟩
     rintro rfl
     exact hj (b1s hN e1 (I.ok.inj _ _ _ e hc▸hi))
  ·by_cases hcc:c'=c
   ·subst hcc;exact⟨_,hc'⟩
   ·obtain⟨w2,z2⟩:=I.cell y c' e
    exact⟨w2,z2.sameBut hs hcc⟩
  ·obtain⟨e,n,ne,nf,d⟩:=I.pin p hp
   refine⟨(hs.2 p.1 ?_).trans e,n,ne,nf,d⟩
   intro q
   rw[q,hoc]at e
   have q':oc=p.2:=Option.some.inj e
   exact d w' (by rw[<- q'];exact hocd)
theorem b18{M:Model}{A:Around}{E:Value->Shared->Prop}{i:Nat}{x:Str}{v:V}{u:Value}{Q:Unit->Shared->Prop}(I:aD X pins σ H s)(hN:X.N.Nodup)(hi:X.N[i]?=some x)(hx:xB X.env.scope x)(r:bF v u)
 (h:∀s',aD X pins (σ.set i (some v)) H s'->Q () s')(hf:X.fn x=true\/ X.env.scope.names.lookup x=some .local:=by first|exact .inl rfl|exact .inr rfl|assumption):wpAny M A (storeName X.env x u) Q E s:=
 b1x I hN hi hx r (fun s' I' _=>h s' I') hf
theorem aD.call'{s':Shared}{ch:List Addr}(I:aD X pins σ H s)(ho:s'.os=s.os)(u:Un (fZ X.stack) ch H H' s.heap s'.heap)(hok:cC X.prog X.w H' s'.heap)(hg:AllBare s'.gens)
 (hch:∀b∈ch,(b∈X.ex\/ X.s₀.heap.objs.size<=b)/\b≠X.env.locals/\(∀x c,X.env.cells.lookup x=some c->c≠b)/\∀p∈X.pn++ pins,p.1≠b):aD X pins σ H' s':=by
 obtain⟨h',g',d',t',o'⟩:=s'
 have e:o'=s.os:=ho
 subst e
 exact I.call (g':=g') (t':=t') (d':=d') u hok hg hch
end
abbrev XK:=Value->Option Addr->Hp->Prop
abbrev St:=List (Option V)
abbrev VK:=V->Hp->Prop
abbrev TE:=St->Hp->VK->Prop
abbrev TT:=St->Hp->(Bool->Hp->Prop)->Prop
abbrev TA:=St->Hp->(List V->Hp->Prop)->Prop
structure kI where
 nx:St->Hp->Prop
 rt:VK
 bk:St->Hp->Prop:=fun _ _=>False
 ct:St->Hp->Prop:=fun _ _=>False
abbrev TS:=kI->St->Hp->Prop
def EP(X:Cx)(pins:List (Addr×Obj))(σ:St)(Q:VK)(u:Value)(s':Shared):Prop:=∃v H',aD X pins σ H' s'/\bF v u/\Q v H'
def TP(X:Cx)(pins:List (Addr×Obj))(σ:St)(Q:Bool->Hp->Prop)(b:Bool)(s':Shared):Prop:=∃H',aD X pins σ H' s'/\Q b H'
def AP(X:Cx)(pins:List (Addr×Obj))(σ:St)(Q:List V->Hp->Prop)(us:List Value)(s':Shared):Prop:=∃vs H',aD X pins σ H' s'/\bD vs us/\Q vs H'
def SP(X:Cx)(pins:List (Addr×Obj))(D:kI)(f:Flow)(s':Shared):Prop:=
 match f with
 | .next=>∃σ' H',aD X pins σ' H' s'/\D.nx σ' H'
 | .brk=>∃σ' H',aD X pins σ' H' s'/\D.bk σ' H'
 | .cont=>∃σ' H',aD X pins σ' H' s'/\D.ct σ' H'
 | .ret u=>∃v σ' H',aD X pins σ' H' s'/\bF v u/\D.rt v H'
def PE(X:Cx)(e:Expr)(t:TE):Prop:=
 ∀(pins:List (Addr×Obj)) (s:Shared) (σ:St) (H:Hp) (Q:VK),aD X pins σ H s->t σ H Q->wpAny (model X.prog X.w) X.A (eval e X.env) (EP X pins σ Q) X.xe s
def PT(X:Cx)(e:Expr)(t:TT):Prop:=
 ∀(pins:List (Addr×Obj)) (s:Shared) (σ:St) (H:Hp) (Q:Bool->Hp->Prop),aD X pins σ H s->t σ H Q->wpAny (model X.prog X.w) X.A (isTrue e X.env (eval e X.env)) (TP X pins σ Q) X.xe s
def PW(X:Cx)(e:Expr)(t:TT):Prop:=
 ∀(whole:Sem Value) (pins:List (Addr×Obj)) (s:Shared) (σ:St) (H:Hp) (Q:Bool->Hp->Prop),aD X pins σ H s->t σ H Q->wpAny (model X.prog X.w) X.A (isTrue e X.env whole) (TP X pins σ Q) X.xe s
theorem PW.pt{X:Cx}{e:Expr}{t:TT}(h:PW X e t):PT X e t:=h _
def PA(X:Cx)(es:List Expr)(t:TA):Prop:=
 ∀(pos:Pos) (pins:List (Addr×Obj)) (s:Shared) (σ:St) (H:Hp) (Q:List V->Hp->Prop),aD X pins σ H s->t σ H Q->wpAny (model X.prog X.w) X.A (spliced (backTo pos (starEach es X.env))) (AP X pins σ Q) X.xe s
def PS(X:Cx)(st:Stmt)(t:TS):Prop:=
 ∀(pins:List (Addr×Obj)) (s:Shared) (σ:St) (H:Hp) (D:kI),aD X pins σ H s->t D σ H->wpAny (model X.prog X.w) X.A (exec st X.env) (SP X pins D) X.xe s
def dQ(X:Cx)(st:List Stmt)(t:TS):Prop:=
 ∀(pins:List (Addr×Obj)) (s:Shared) (σ:St) (H:Hp) (D:kI),aD X pins σ H s->t D σ H->wpAny (model X.prog X.w) X.A (execs st X.env) (SP X pins D) X.xe s
theorem aU{α:Type}{t:Sem α}{Q Q':α->Shared->Prop}{M:Model}{A:Around}{E:Value->Shared->Prop}{s:Shared}(h:wpAny M A t Q E s)(hQ:∀a s,Q a s->Q' a s):wpAny M A t Q' E s:=wpAny_mono h hQ fun _ _ x=>x
section
variable{X:Cx}
theorem bin{a b:Expr}{ta tb:TE}(ha:PE X a ta)(hb:PE X b tb){pins:List (Addr×Obj)}{s:Shared}{σ:St}{H:Hp}{R:V->V->Hp->Prop}(I:aD X pins σ H s)(h:ta σ H fun x H1=>tb σ H1 fun y H2=>R x y H2)
 {α:Type}{Q:α->Shared->Prop}{f:Value->Value->Sem α}
 (hf:∀v u s2 x y H2,aD X pins σ H2 s2->bF x v->bF y u->R x y H2->wpAny (model X.prog X.w) X.A (f v u) Q X.xe s2):
 wpAny (model X.prog X.w) X.A (eval a X.env) (fun v s₁=>wpAny (model X.prog X.w) X.A (eval b X.env) (fun u s₂=>wpAny (model X.prog X.w) X.A (f v u) Q X.xe s₂) X.xe s₁) X.xe s:=by
 refine aU (ha pins s σ H _ I h) fun v s1 ⟨x,H1,I1,r1,q1⟩=> ?_
 refine aU (hb pins s1 σ H1 _ I1 q1) fun u s2 ⟨y,H2,I2,r2,q2⟩=> ?_
 exact hf v u s2 x y H2 I2 r1 r2 q2
def tVar(i:Nat):TE:=fun σ H Q=>∃v,σ[i]?=some (some v)/\Q v H
def tC(v:V):TE:=fun _ H Q=>Q v H
theorem b1X{i:Nat}{x:Str}{pos:Pos}(hN:X.N[i]?=some x)(hv:zJ X.env.scope x)(hd:(x==("__debug__":Str))=false:=by decide)(hcd:(x==("__classdict__":Str))=false:=by decide):PE X (.Name x pos) (tVar i):=by
 intro pins s σ H Q I h
 obtain⟨v,e,h⟩:=h
 obtain⟨m,hn,hl⟩:=I.loc
 obtain⟨u,r,l⟩:=hl i x v hN e hv
 have fin:EP X pins σ Q u s:=⟨v,H,I,r,h⟩
 rcases l with⟨hk,hm⟩|⟨hk,c,hc,hcell⟩
 ·exact wpAny_Name (wpAny_loadName_local I.ok.kind hk hn hm fin) hd
 ·rcases hk with hk|hk
  ·exact wpAny_Name (wpAny_loadName_cell I.ok.kind hk hc hcell fin) hd
  ·exact wpAny_Name (wpAny_loadName_free I.ok.kind hk hc hcell fin hcd) hd
theorem aY{i j pos}:PE X (.Constant (.int i) j pos) (tC (.int i)):=fun _ _ _ H _ I h=>wpAny_Constant_int ⟨.int i,H,I.tok _,⟨_,rfl⟩,h⟩
theorem nK{b j pos}:PE X (.Constant (.bool b) j pos) (tC (.bl b)):=fun _ _ _ H _ I h=>Constant_bool ⟨.bl b,H,I,rfl,h⟩
theorem hW{j pos}:PE X (.Constant .none j pos) (tC .non):=fun _ _ _ H _ I h=>Constant_none ⟨.non,H,I,rfl,h⟩
theorem dW{x j pos}:PE X (.Constant (.str x) j pos) (tC (.str x)):=fun _ _ _ H _ I h=>Calls.Constant_str ⟨.str x,H,I.tok _,⟨_,rfl⟩,h⟩
def Gl(X:Cx)(x:Str):Prop:=X.env.kindOf x=some .globalImplicit
theorem wH{E:Value->Shared->Prop}{pins:List (Addr×Obj)}{s:Shared}{σ:St}{H:Hp}{x:Str}{u:Value}{pos:Pos}{Q:Value->Shared->Prop}(I:aD X pins σ H s)(hg:Gl X x)(hm:X.mg x=some u)(h:Q u s)
 (hd:(x==("__debug__":Str))=false:=by decide):wpAny (model X.prog X.w) X.A (eval (.Name x pos) X.env) Q E s:=
 Calls.Name_function_global I.ok.kind hg (Calls.loadGlobal_global (by rw[I.ok.glob];exact I.mod.glob.keeps I.bk) hm h) hd
theorem pV{E:Value->Shared->Prop}{pins:List (Addr×Obj)}{s:Shared}{σ:St}{H:Hp}{x:Str}{u:Value}{pos:Pos}{Q:Value->Shared->Prop}(I:aD X pins σ H s)(hg:Gl X x)(hm:X.mg x=none)(hv:bootBuiltins x=some u)(h:Q u s)
 (hn:x≠ "__name__":=by decide)(hd:(x==("__debug__":Str))=false:=by decide):wpAny (model X.prog X.w) X.A (eval (.Name x pos) X.env) Q E s:=by
 obtain⟨mb,h1,h2⟩:=I.mod.blt
 exact Calls.Name_function_global I.ok.kind hg (Calls.loadGlobal_builtin (by rw[I.ok.glob];exact I.mod.glob.keeps I.bk) hm (by rw[I.ok.blt];exact h1.keeps I.bk) ((h2 x hn).trans hv) h) hd
theorem a5m{x:Str}{v:V}{u:Value}{pos:Pos}(hg:Gl X x)(hm:X.mg x=some u)(r:bF v u)(hd:(x==("__debug__":Str))=false:=by decide):PE X (.Name x pos) (tC v):=
 fun _ _ _ H _ I h=>wH I hg hm ⟨v,H,I,r,h⟩ hd
theorem b3n{x:Str}{v:V}{u:Value}{pos:Pos}(hg:Gl X x)(hm:X.mg x=none)(hv:bootBuiltins x=some u)(r:bF v u)(hn:x≠ "__name__":=by decide)(hd:(x==("__debug__":Str))=false:=by decide):PE X (.Name x pos) (tC v):=
 fun _ _ _ H _ I h=>pV I hg hm hv ⟨v,H,I,r,h⟩ hn hd
variable{a b:Expr}{ta tb:TE}{pos:Pos}
def PC(X:Cx)(op:CmpOp)(a b:Expr)(t:TE):Prop:=
 ∀(pins:List (Addr×Obj)) (s:Shared) (σ:St) (H:Hp) (Q:VK),aD X pins σ H s->t σ H Q->
  wpAny (model X.prog X.w) X.A (eval a X.env) (fun v s₁=>wpAny (model X.prog X.w) X.A (eval b X.env) (fun u s₂=>wpAny (model X.prog X.w) X.A (compareOp op v u) (EP X pins σ Q) X.xe s₂) X.xe s₁) X.xe s
theorem b0C(b:Expr){op:CmpOp}(h:op≠ .In)(h2:op≠ .NotIn):behindInMarks op b=false:=by
 have e1:(op==CmpOp.In)=false:=by cases op<;>first|rfl|exact absurd rfl h
 have e2:(op==CmpOp.NotIn)=false:=by cases op<;>first|rfl|exact absurd rfl h2
 cases b<;>simp[behindInMarks,e1,e2]
def tB(t:TE):TT:=fun σ H Q=>t σ H fun x H1=>∃c,x= .bl c/\Q c H1
theorem xU{op:CmpOp}{t:TE}(h:PC X op a b t)(h1:behindInMarks op b=false:=by first|exact b0C _ (by decide) (by decide)|rfl):PE X (.Compare a [op] [b] pos) t:=fun pins s σ H Q I hw=>wpAny_Compare1 (h pins s σ H Q I hw) h1
theorem iV{op:CmpOp}{t:TE}(h:PC X op a b t)(h1:behindInMarks op b=false:=by first|exact b0C _ (by decide) (by decide)|rfl):PT X (.Compare a [op] [b] pos) (tB t):=by
 intro pins s σ H Q I hw
 refine wpAny_isTrue_Compare1 (aU (h pins s σ H _ I hw) fun v s1 h1=>aU h1 fun u s2 h2=>aU h2 fun c s3 ⟨x,H1,I1,r1,q1⟩=> ?_) h1
 obtain⟨d,rfl,q⟩:=q1
 cases r1
 exact wpAny_truthy_bool ⟨H1,I1,q⟩
theorem dZ{e:Expr}{t:TE}(h:PE X e t)(he:∀whole,isTrue e X.env whole=(do let v<- whole;standAt e.pos;holding [v] (truthy v)):=by intro _;rfl):PT X e (tB t):=by
 intro pins s σ H Q I hw
 refine isTrue_plain (aU (h pins s σ H _ I hw) fun v s1 ⟨x,H1,I1,r1,q1⟩=> ?_) (he _)
 obtain⟨d,rfl,q⟩:=q1
 cases r1
 exact wpAny_truthy_bool ⟨H1,I1,q⟩
variable{tA tB':TT}{dY:List Expr}
def tAnd(t u:TT):TT:=fun σ H Q=>t σ H fun c H1=>if c=true then u σ H1 Q else Q false H1
def tOr(t u:TT):TT:=fun σ H Q=>t σ H fun c H1=>if c=true then Q true H1 else u σ H1 Q
def tNot(t:TT):TT:=fun σ H Q=>t σ H fun c H1=>Q (!c) H1
theorem qM(ha:PT X a tA):PW X (.BoolOp .And [a] pos) tA:=by
 intro wh pins s σ H Q I h
 refine isTrue_and (aU (ha pins s σ H Q I h) fun c s1 e=> ?_)
 cases c with
 |true=>exact isTrue_and_nil e
 |false=>exact e
theorem kD(ha:PT X a tA):PW X (.BoolOp .Or [a] pos) tA:=by
 intro wh pins s σ H Q I h
 refine isTrue_or (aU (ha pins s σ H Q I h) fun c s1 e=> ?_)
 cases c with
 |false=>exact isTrue_or_nil e
 |true=>exact e
theorem qX(ha:PT X a tA)(hb:PW X (.BoolOp .And (b::dY) pos) tB'):PW X (.BoolOp .And (a::b::dY) pos) (tAnd tA tB'):=by
 intro wh pins s σ H Q I h
 refine isTrue_and (aU (ha pins s σ H _ I h) fun c s1 ⟨H1,I1,q1⟩=> ?_)
 cases c with
 |true=>exact hb wh pins s1 σ H1 Q I1 q1
 |false=>exact⟨H1,I1,q1⟩
theorem iW(ha:PT X a tA)(hb:PW X (.BoolOp .Or (b::dY) pos) tB'):PW X (.BoolOp .Or (a::b::dY) pos) (tOr tA tB'):=by
 intro wh pins s σ H Q I h
 refine isTrue_or (aU (ha pins s σ H _ I h) fun c s1 ⟨H1,I1,q1⟩=> ?_)
 cases c with
 |true=>exact⟨H1,I1,q1⟩
 |false=>exact hb wh pins s1 σ H1 Q I1 q1
theorem fE(ha:PT X a tA):PT X (.UnaryOp .Not a pos) (tNot tA):=by
 intro pins s σ H Q I h
 exact isTrue_not (ha pins s σ H (fun c H1=>Q (!c) H1) I h)
def b3q(ta tb:TE):TE:=fun σ H Q=>ta σ H fun x H1=>∃c,x= .bl c/\if c=true then tb σ H1 Q else Q (.bl false) H1
def tOrV(ta tb:TE):TE:=fun σ H Q=>ta σ H fun x H1=>∃c,x= .bl c/\if c=true then Q (.bl true) H1 else tb σ H1 Q
def b42(ta:TE):TE:=fun σ H Q=>ta σ H fun x H1=>∃c,x= .bl c/\Q (.bl (!c)) H1
theorem oC{op}{t:TE}(h:PE X a t):PE X (.BoolOp op [a] pos) t:=fun pins s σ H Q I hw=>BoolOp_one (h pins s σ H Q I hw)
theorem oS(ha:PE X a ta)(hb:PE X (.BoolOp .And (b::dY) pos) tb):PE X (.BoolOp .And (a::b::dY) pos) (b3q ta tb):=by
 intro pins s σ H Q I h
 refine BoolOp_and (aU (ha pins s σ H _ I h) fun v s1 ⟨x,H1,I1,r1,q1⟩=> ?_)
 obtain⟨c,rfl,q1⟩:=q1
 cases r1
 refine wpAny_truthy_bool ?_
 cases c with
 |true=>exact hb pins s1 σ H1 Q I1 q1
 |false=>exact⟨.bl false,H1,I1,rfl,q1⟩
theorem b5C(ha:PE X a ta)(hb:PE X (.BoolOp .Or (b::dY) pos) tb):PE X (.BoolOp .Or (a::b::dY) pos) (tOrV ta tb):=by
 intro pins s σ H Q I h
 refine BoolOp_or (aU (ha pins s σ H _ I h) fun v s1 ⟨x,H1,I1,r1,q1⟩=> ?_)
 obtain⟨c,rfl,q1⟩:=q1
 cases r1
 refine wpAny_truthy_bool ?_
 cases c with
 |false=>exact hb pins s1 σ H1 Q I1 q1
 |true=>exact⟨.bl true,H1,I1,rfl,q1⟩
theorem b4E(ha:PE X a ta):PE X (.UnaryOp .Not a pos) (b42 ta):=by
 intro pins s σ H Q I h
 refine UnaryOp_ (aU (ha pins s σ H _ I h) fun v s1 ⟨x,H1,I1,r1,q1⟩=> ?_)
 obtain⟨c,rfl,q1⟩:=q1
 cases r1
 exact not_of (wpAny_truthy_bool ⟨.bl (!c),H1,I1,rfl,q1⟩)
end
def aN(K:Fg)(H:Hp)(a:Addr)(xs:List V):Prop:=
 Rd H a (.lst xs)\/
  ∃(o:Obj) (its:Array Value) (n:Nat),K.lookup a=some o/\o.cls= .type "list" /\o.dict=none/\o.data= .seq its n/\its.size<=sizeLine/\bD xs its.toList
def cF(K:Fg)(H:Hp)(a:Addr)(xs:List V):Prop:=
 Rd H a (.tup xs)\/
  ∃(o:Obj) (its:Array Value) (n:Nat),K.lookup a=some o/\o.cls= .type "tuple" /\o.data= .seq its n/\its.size<=sizeLine/\bD xs its.toList
noncomputable def absV:Value->Option V
 | .none=>some .non
 | .bool b=>some (.bl b)
 | .int i _=>some (.int i)
 | .str x _=>some (.str x)
 | .bytes b _=>some (.byt b)
 | .float b _=>some (.flt b)
 | .ref a=>some (.ref a)
 | .type n=>some (.ty n)
 |_=>none
theorem bF.abs{x:V}{u:Value}(r:bF x u):absV u=some x:=by
 cases x with
 |non=>cases r;rfl
 |bl _=>cases r;rfl
 |int _=>obtain⟨t,rfl⟩:=r;rfl
 |str _=>obtain⟨t,rfl⟩:=r;rfl
 |byt _=>obtain⟨t,rfl⟩:=r;rfl
 |flt _=>obtain⟨t,rfl⟩:=r;rfl
 |ref _=>cases r;rfl
 |ty _=>cases r;rfl
theorem bF.inj{x y:V}{u:Value}(r:bF x u)(q:bF y u):x=y:=Option.some.inj (r.abs.symm.trans q.abs)
theorem bD.inj:∀{xs ys:List V} {us:List Value},bD xs us->bD ys us->xs=ys
 |_,_,_,.nil,.nil=>rfl
 |_,_,_,.cons r t,.cons r' t'=>by rw[r.inj r',bD.inj t t']
section
variable{X:Cx}{pins:List (Addr×Obj)}{σ:St}{H:Hp}{s:Shared}{a:Addr}{xs ys:List V}
theorem aN.of{K:Fg}(h:H a=some (.lst xs)):aN K H a xs:=.inl (.inl h)
theorem cF.of{K:Fg}(h:H a=some (.tup xs)):cF K H a xs:=.inl (.inl h)
theorem aD.list(I:aD X pins σ H s)(h:aN X.K H a xs):∃its:List Value,bD xs its/\PlainL s.heap a its.toArray/\xs.length<=sizeLine:=by
 rcases h with h|⟨o,its,n,hk,hc,hd,hs,hz,r⟩
 ·obtain⟨z,its,n,r,e⟩:=h.ok I.hok
  exact⟨its,r,⟨_,n,e,rfl,rfl,rfl⟩,z⟩
 ·refine⟨its.toList,r,⟨o,n,I.kIn a o hk,hc,hd,by simpa using hs⟩,?_⟩
  have e:=r.length
  simp only[Array.length_toList]at e
  omega
theorem aD.tuple(I:aD X pins σ H s)(h:cF X.K H a xs):∃its:List Value,bD xs its/\IsTup s.heap a its.toArray/\xs.length<=sizeLine:=by
 rcases h with h|⟨o,its,n,hk,hc,hs,hz,r⟩
 ·obtain⟨z,its,r,p⟩:=h.ok I.hok
  exact⟨its,r,p,z⟩
 ·refine⟨its.toList,r,⟨o,I.kIn a o hk,hc,n,by simpa using hs⟩,?_⟩
  have e:=r.length
  simp only[Array.length_toList]at e
  omega
theorem aD.list_inj(I:aD X pins σ H s)(h:aN X.K H a xs)(h':aN X.K H a ys):xs=ys:=by
 obtain⟨its,r,⟨o,n,e,_,_,d⟩,_⟩:=I.list h
 obtain⟨its',r',⟨o',n',e',_,_,d'⟩,_⟩:=I.list h'
 rw[e]at e';cases e'
 rw[d]at d'
 injection d' with d1 _
 have:its=its':=by simpa using congrArg Array.toList d1
 subst this
 exact r.inj r'
end
abbrev Cx.wish(X:Cx)(E:Value->Shared->Prop):Cx:={X with xe:=E}
abbrev Cx.nox(X:Cx):Cx:=X.wish fun _ _=>False
theorem Cx.Ok.wish{X:Cx}(ok:X.Ok)(E:Value->Shared->Prop):(X.wish E).Ok:=
 ⟨ok.mod,ok.kind,ok.glob,ok.blt,ok.above,ok.inj,ok.has,ok.cab,ok.hd,ok.frames,ok.stk,ok.exf,ok.bs,ok.bsz,ok.noex,ok.exfs,ok.funs,ok.frf⟩
theorem Cx.Ok.unwish{X:Cx}{E:Value->Shared->Prop}(ok:(X.wish E).Ok):X.Ok:=
 ⟨ok.mod,ok.kind,ok.glob,ok.blt,ok.above,ok.inj,ok.has,ok.cab,ok.hd,ok.frames,ok.stk,ok.exf,ok.bs,ok.bsz,ok.noex,ok.exfs,ok.funs,ok.frf⟩
section
variable{X:Cx}{pins:List (Addr×Obj)}{σ:St}{H:Hp}{s:Shared}{E:Value->Shared->Prop}
theorem aD.wish(I:aD X pins σ H s)(E:Value->Shared->Prop):aD (X.wish E) pins σ H s:=⟨I.ok.wish E,I.os,I.bare,I.base,I.loc,I.cell,I.free,I.freeC,I.pin,I.hok,I.len⟩
theorem aD.unwish(I:aD (X.wish E) pins σ H s):aD X pins σ H s:=⟨I.ok.unwish,I.os,I.bare,I.base,I.loc,I.cell,I.free,I.freeC,I.pin,I.hok,I.len⟩
theorem SP.unwish{D:kI}{f:Flow}{s':Shared}(h:SP (X.wish E) pins D f s'):SP X pins D f s':=by
 cases f with
 |next=>obtain⟨σ',H',I,q⟩:=h;exact⟨σ',H',I.unwish,q⟩
 |brk=>obtain⟨σ',H',I,q⟩:=h;exact⟨σ',H',I.unwish,q⟩
 |cont=>obtain⟨σ',H',I,q⟩:=h;exact⟨σ',H',I.unwish,q⟩
 |ret u=>obtain⟨v,σ',H',I,r,q⟩:=h;exact⟨v,σ',H',I.unwish,r,q⟩
theorem dQ.nox{st:List Stmt}{t:TS}(h:dQ X.nox st t):dQ X st t:=fun pins s σ H D I hw=>
 wpAny_mono (h pins s σ H D (I.wish _) hw) (fun _ _ q=>q.unwish) fun _ _ z=>False.elim z
end
section
variable{X:Cx}{st:Stmt}{dY:List Stmt}{t u:TS}{e:Expr}{te:TE}{pos:Pos}
def b7p:TS:=fun D σ H=>D.nx σ H
def tSeq(t u:TS):TS:=fun D σ H=>t {D with nx:=u D} σ H
theorem bS:dQ X [] b7p:=fun _ _ σ H _ I h=>wpAny_execs_nil ⟨σ,H,I,h⟩
theorem aK(h1:PS X st t)(h2:dQ X dY u):dQ X (st::dY) (tSeq t u):=by
 intro pins s σ H D I h
 refine wpAny_execs_cons (aU (h1 pins s σ H {D with nx:=u D} I h) fun f s1 q=> ?_)
 cases f with
 |next=>
  obtain⟨σ',H',I',q⟩:=q
  exact h2 pins s1 σ' H' D I' q
 |ret v=>exact q
 |brk=>exact q
 |cont=>exact q
theorem aL(h1:PS X st t):dQ X [st] t:=by
 intro pins s σ H D I h
 refine wpAny_execs_cons (aU (h1 pins s σ H D I h) fun f s1 q=> ?_)
 cases f with
 |next=>exact wpAny_execs_nil q
 |ret v=>exact q
 |brk=>exact q
 |cont=>exact q
theorem aD.quiet{pins:List (Addr×Obj)}{σ:St}{H:Hp}{s:Shared}(I:aD X pins σ H s):interactive X.env=false:=by simp[interactive,I.ok.kind]
def b3k(te:TE):TS:=fun D σ H=>te σ H fun _ H1=>D.nx σ H1
theorem bY(he:PE X e te)(hs:swapsWith e none pos.line X.env=pure false:=by rfl):PS X (.Expr e pos) (b3k te):=by
 intro pins s σ H D I h
 exact wpAny_Expr_any (aU (he pins s σ H _ I h) fun v s1 ⟨x,H1,I1,r1,q1⟩=>⟨σ,H1,I1,q1⟩) I.quiet hs
def tRet(te:TE):TS:=fun D σ H=>te σ H D.rt
theorem bP(he:PE X e te):PS X (.Return (some e) pos) (tRet te):=by
 intro pins s σ H D I h
 exact wpAny_Return_some (aU (he pins s σ H _ I h) fun v s1 ⟨x,H1,I1,r1,q1⟩=>⟨x,σ,H1,I1,r1,q1⟩)
def tIfS(c:TT)(t u:TS):TS:=fun D σ H=>c σ H fun b H1=>if b=true then t D σ H1 else u D σ H1
theorem bM{c:Expr}{a b:List Stmt}{tc:TT}(hc:PT X c tc)(ha:dQ X a t)(hb:dQ X b u):PS X (.If c a b pos) (tIfS tc t u):=by
 intro pins s σ H D I h
 refine wpAny_If (aU (hc pins s σ H _ I h) fun d s1 ⟨H1,I1,q1⟩=> ?_)
 cases d with
 |true=>exact ha pins s1 σ H1 D I1 q1
 |false=>exact hb pins s1 σ H1 D I1 q1
end
abbrev TG:=V->St->Hp->(St->Hp->Prop)->Prop
abbrev oP:=List V->St->Hp->(St->Hp->Prop)->Prop
def PG(X:Cx)(target:Expr)(t:TG):Prop:=
 ∀(pins:List (Addr×Obj)) (s:Shared) (σ:St) (H:Hp) (v:V) (u:Value) (Q:St->Hp->Prop),aD X pins σ H s->bF v u->t v σ H Q->
  wpAny (model X.prog X.w) X.A (assign target X.env u) (fun _ s'=>∃σ' H',aD X pins σ' H' s'/\Q σ' H') X.xe s
def yN(X:Cx)(ts:List Expr)(t:oP):Prop:=
 ∀(pins:List (Addr×Obj)) (s:Shared) (σ:St) (H:Hp) (vs:List V) (us:List Value) (Q:St->Hp->Prop),aD X pins σ H s->bD vs us->t vs σ H Q->
  wpAny (model X.prog X.w) X.A (assignInOrder ((assignEach ts X.env).map (·.2)) us) (fun _ s'=>∃σ' H',aD X pins σ' H' s'/\Q σ' H') X.xe s
abbrev TSet:=V->V->V->Hp->(Hp->Prop)->Prop
def PSet(X:Cx)(t:TSet):Prop:=
 ∀(pins:List (Addr×Obj)) (s:Shared) (σ:St) (H:Hp) (o i v:V) (ov iv u:Value) (Q:Hp->Prop),aD X pins σ H s->bF o ov->bF i iv->bF v u->t o i v H Q->
  wpAny (model X.prog X.w) X.A (setItem ov iv u) (fun _ s'=>∃H',aD X pins σ H' s'/\Q H') X.xe s
section
variable{X:Cx}{pos:Pos}
noncomputable def wX(i:Nat):TG:=fun v σ H Q=>Q (σ.set i (some v)) H
theorem eM{i:Nat}{x:Str}(hN:X.N.Nodup)(hi:X.N[i]?=some x)(hx:xB X.env.scope x)(hf:X.fn x=true\/ X.env.scope.names.lookup x=some .local:=by first|exact .inl rfl|exact .inr rfl|assumption):PG X (.Name x pos) (wX i):=by
 intro pins s σ H v u Q I r h
 exact wpAny_assign_Name (b18 I hN hi hx r (fun s' I'=>⟨_,H,I',h⟩) hf)
noncomputable def gNil:oP:=fun vs σ H Q=>vs= [] /\Q σ H
noncomputable def b4O (t:TG) (u:oP):oP:=fun vs σ H Q=>∃v r,vs=v::r/\t v σ H fun σ' H'=>u r σ' H' Q
theorem wR:yN X [] gNil:=by
 intro pins s σ H vs us Q I r h
 obtain⟨e,h⟩:=h
 subst e
 cases r
 exact assignInOrder_nil ⟨σ,H,I,h⟩
theorem jO{e:Expr}{es:List Expr}{t:TG}{u:oP}(h1:PG X e t)(h2:yN X es u)
 (hs:(assignEach (e::es) X.env).map (·.2)=assign e X.env::(assignEach es X.env).map (·.2):=by rfl):yN X (e::es) (b4O t u):=by
 intro pins s σ H vs us Q I r h
 obtain⟨v,vr,e1,h⟩:=h
 subst e1
 cases r with
 |cons r rr=>
  rw[hs]
  refine assignInOrder_cons (aU (h1 pins s σ H _ _ _ I r h) fun _ s1 ⟨σ1,H1,I1,q1⟩=> ?_)
  exact h2 pins s1 σ1 H1 _ _ Q I1 rr q1
noncomputable def gTup (K:Fg) (n:Nat) (t:oP):TG:=fun v σ H Q=>∃a xs,v= .ref a/\cF K H a xs/\xs.length=n/\t xs σ H Q
theorem xC{es:List Expr}{k:Nat}{t:oP}{n:Nat}(hc:X.calm=true)(h:yN X es t)
 (hn:(assignEach es X.env).length=n:=by rfl)(hst:(assignEach es X.env).findIdx? (·.1)=none:=by rfl):PG X (.Tuple es k pos) (gTup X.K n t):=by
 intro pins s σ H v u Q I r hw
 obtain⟨a,xs,e1,hq,hl,hw⟩:=hw
 subst e1
 cases r
 obtain⟨its,rv,ht,hz⟩:=I.tuple hq
 refine assign_Tuple_tuple (I.ok.hd hc) ht (by simp[hn,<- hl,rv.length]) hst fun h' hx=> ?_
 have I1:aD X pins σ H {s with heap:=h'}:=I.kept (t':=s.toks) fun b o e=>hx b o (Nat.ne_of_lt (Heap.lt_size e)) e
 exact h pins _ σ H xs _ Q I1 (by simpa using rv) hw
noncomputable def gSub (to ti:TE) (t:TSet):TG:=fun v σ H Q=>to σ H fun o H1=>ti σ H1 fun i H2=>t o i v H2 fun H3=>Q σ H3
theorem a1v{o i:Expr}{to ti:TE}{t:TSet}(ho:PE X o to)(hi:PE X i ti)(hs:PSet X t)
 (ha:∀v,assign (.Subscript o i pos) X.env v=(do
  let ov<- holding [v] (eval o X.env)
  let iv<- holding [v,ov] (eval i X.env)
  standAt pos
  holding [v,ov,iv] (setItem ov iv v)
  release [v,ov,iv] []):=by intro _;rfl):PG X (.Subscript o i pos) (gSub to ti t):=by
 intro pins s σ H v u Q I r h
 rw[ha]
 refine wpAny_bind (wpAny_holding (aU (ho pins s σ H _ I h) fun ov s1 ⟨x,H1,I1,r1,q1⟩=> ?_))
 refine wpAny_bind (wpAny_holding (aU (hi pins s1 σ H1 _ I1 q1) fun iv s2 ⟨y,H2,I2,r2,q2⟩=> ?_))
 refine wpAny_bind (wpAny_standAt (wpAny_bind (wpAny_holding (aU (hs pins s2 σ H2 x y v ov iv u _ I2 r1 r2 r q2) fun _ s3 ⟨H3,I3,q3⟩=> ?_))))
 exact wpAny_release ⟨σ,H3,I3,q3⟩
def xZ(te:TE)(g:TG):TS:=fun D σ H=>te σ H fun x H1=>g x σ H1 D.nx
theorem rY{tg e:Expr}{te:TE}{g:TG}(he:PE X e te)(hg:PG X tg g)(hs:swapsWithSole [tg] e pos.line X.env=pure false:=by rfl)(hw:swappedStores [tg] e X.env=pure none:=by rfl)
 (h1:(assignEach [tg] X.env).map (·.2)= [assign tg X.env]:=by rfl):PS X (.Assign [tg] e pos) (xZ te g):=by
 intro pins s σ H D I h
 refine wpAny_Assign_stores (aU (he pins s σ H _ I h) fun v s1 ⟨x,H1,I1,r1,q1⟩=> ?_) hs hw
 rw[h1]
 exact aU (hg pins s1 σ H1 x v _ I1 r1 q1) fun _ s2 q=>q
theorem bN{i:Nat}{x:Str}{e:Expr}{te:TE}{pos':Pos}(hN:X.N.Nodup)(hi:X.N[i]?=some x)(hx:xB X.env.scope x)(he:PE X e te)(hs:swapsWith e (some (.Name x pos')) pos.line X.env=pure false:=by rfl)(hf:X.fn x=true\/ X.env.scope.names.lookup x=some .local:=by first|exact .inl rfl|exact .inr rfl|assumption):
 PS X (.Assign [.Name x pos'] e pos) (xZ te (wX i)):=by
 intro pins s σ H D I h
 refine wpAny_Assign_Name (aU (he pins s σ H _ I h) fun v s1 ⟨y,H1,I1,r1,q1⟩=> ?_) hs
 exact b18 I1 hN hi hx r1 (fun s2 I2=>⟨_,H1,I2,q1⟩) hf
def b7S(c:TT)(tb:TS):TS:=fun D σ H=>∃W:Nat->St->Hp->Prop,(∃m,W m σ H)/\∀m σ H,W m σ H->
 c σ H fun b H1=>if b=true then∃N:St->Hp->Prop,(∀σ' H',N σ' H'->∃m',m'<m/\W m' σ' H')/\tb {D with nx:=N,ct:=N,bk:=D.nx} σ H1 else D.nx σ H1
theorem a5y{c:Expr}{body:List Stmt}{tc:TT}{tb:TS}(hp:PassesOwn (model X.prog X.w) X.A X.env X.xe)(hc:PT X c tc)(hb:dQ X body tb):PS X (.While c body [] pos) (b7S tc tb):=by
 intro pins s σ H D I h
 obtain⟨W,⟨m0,w0⟩,turn⟩:=h
 refine wpAny_While (codeAny_whileLoop (fun n s'=>∃σ' H',aD X pins σ' H' s'/\W n σ' H') ?_ m0 ⟨σ,H,I,w0⟩)
 rintro n s1 ⟨σ1,H1,I1,w1⟩
 refine wpAny_passesOwn hp (aU (hc pins s1 σ1 H1 _ I1 (turn n σ1 H1 w1)) fun b s2 ⟨H2,I2,q2⟩=> ?_)
 cases b with
 |true=>
  obtain⟨N,hN,q2⟩:=q2
  rw[if_pos rfl]
  refine wpAny_passesOwn hp (aU (hb pins s2 σ1 H2 _ I2 q2) fun f s3 q3=> ?_)
  cases f with
  |next=>
   obtain⟨σ3,H3,I3,n3⟩:=q3
   obtain⟨m',hm,w3⟩:=hN σ3 H3 n3
   exact⟨m',hm,σ3,H3,I3,w3⟩
  |cont=>
   obtain⟨σ3,H3,I3,n3⟩:=q3
   obtain⟨m',hm,w3⟩:=hN σ3 H3 n3
   exact⟨m',hm,σ3,H3,I3,w3⟩
  |brk=>exact q3
  |ret v=>exact q3
 |false=>
  rw[if_neg Bool.false_ne_true]
  exact wpAny_execs_nil ⟨σ1,H2,I2,q2⟩
end
structure It where
 go:Nat->Hp->Prop
 yld:Nat->Hp->V->Hp->Prop
 stop:Nat->Hp->Prop
def kB(X:Cx)(pins:List (Addr×Obj))(H:Hp)(b:Addr):Prop:=
 H b=none/\b≠X.env.locals/\b∉X.fs/\(b∈X.ex\/ X.s₀.heap.objs.size<=b)/\(∀x c,X.env.cells.lookup x=some c->c≠b)/\∀p∈X.pn++ pins,p.1≠b
theorem aD.fpOk{X:Cx}{pins:List (Addr×Obj)}{σ:St}{H H':Hp}{s:Shared}{b:Addr}(I:aD X pins σ H s)(hb:s.heap.objs.size<=b)(hn:H' b=none):kB X pins H' b:=by
 refine⟨hn,Nat.ne_of_gt (Nat.lt_of_lt_of_le I.lt hb),I.nofs hb,.inr (Nat.le_trans I.sz hb),fun x c e z=> ?_,fun p hp z=> ?_⟩
 ·obtain⟨v,q⟩:=I.cell x c e
  exact absurd (Nat.lt_of_lt_of_le q.lt (by rw[z];exact hb)) (Nat.lt_irrefl _)
 ·exact absurd (Nat.lt_of_lt_of_le (Heap.lt_size (I.pin p hp).1) (by rw[z];exact hb)) (Nat.lt_irrefl _)
structure oV(P:Program)(w:World)(K:Fg)(tg:Expr)(J:It)(fp:List Addr)(it:Addr)(tn:Nat->Heap->Prop):Prop where
 mem:it∈fp
 obj:∀i h,tn i h->∀b∈fp,∃o,h.get? b=some o/\∀v,o.data≠ .cell v
 keep:∀i h h',tn i h->(∀b∈fp,∀o,h.get? b=some o->h'.get? b=some o)->tn i h'
 item:∀(X:Cx),X.prog=P->X.w=w->X.K=K->X.calm=true->∀(i:Nat) (pins:List (Addr×Obj)) (s:Shared) (σ:St) (H:Hp) (E:Value->Shared->Prop),aD X pins σ H s->(∀b∈fp,kB X pins H b)->tn i s.heap->J.go i H->
  wpAny (model P w) X.A (pyNext (.ref it)) (fun r s1=>∃u,r=some u/\
   wpAny (model P w) X.A (letOwnedTupleGo tg (.ref it) u) (fun _ s2=>∃x H',aD X pins σ H' s2/\bF x u/\J.yld i H x H'/\tn (i+ 1) s2.heap/\∀b∈fp,H' b=none) E s1) E s
 done:∀(X:Cx),X.prog=P->X.w=w->X.K=K->X.calm=true->∀(i:Nat) (pins:List (Addr×Obj)) (s:Shared) (σ:St) (H:Hp) (E:Value->Shared->Prop),aD X pins σ H s->(∀b∈fp,kB X pins H b)->tn i s.heap->J.stop i H->
  wpAny (model P w) X.A (pyNext (.ref it)) (fun r s1=>r=none/\aD X pins σ H s1) E s
 self:∀(A:Around) (i:Nat) (s:Shared) (Q:Value->Shared->Prop) (E:Value->Shared->Prop),tn i s.heap->Q (.ref it) s->wpAny (model P w) A (pyIter (.ref it)) Q E s
abbrev TI:=St->Hp->(It->Hp->Prop)->Prop
def PIE(X:Cx)(pins:List (Addr×Obj))(σ:St)(tg:Expr)(R:It->Hp->Prop)(itv:Value)(s2:Shared):Prop:=
 ∃(it:Addr) (fp:List Addr) (tn:Nat->Heap->Prop) (J:It) (H':Hp),itv= .ref it/\aD X pins σ H' s2/\oV X.prog X.w X.K tg J fp it tn/\tn 0 s2.heap/\(∀b∈fp,kB X pins H' b)/\R J H'
def PI(X:Cx)(tg iter:Expr)(wi:TI):Prop:=
 ∀(pins:List (Addr×Obj)) (s:Shared) (σ:St) (H:Hp) (R:It->Hp->Prop),aD X pins σ H s->wi σ H R->
  wpAny (model X.prog X.w) X.A (eval iter X.env) (fun v s1=>wpAny (model X.prog X.w) X.A (pyIter v) (PIE X pins σ tg R) X.xe s1) X.xe s
theorem zC{M:Model}{A:Around}{E:Value->Shared->Prop}{s:Shared}{tg:Expr}{it:Addr}{u:Value}{o:Obj}{n:String}{vs:Array Value}{Q:Unit->Shared->Prop}(ho:s.heap.get? it=some o)(hc:o.cls= .type n)(hd:o.data= .fields vs)
 (hn:["enumerate","zip","dict_itemiterator","dict_reverseitemiterator","odict_iterator","itertools.zip_longest","itertools.pairwise"].contains n=false)(hQ:Q () s):wpAny M A (letOwnedTupleGo tg (.ref it) u) Q E s:=by
 unfold letOwnedTupleGo
 cases tg<;>first
  |exact wpAny_pure hQ
  |(cases u<;>first
   |exact wpAny_pure hQ
   | (refine wpAny_bind (wpAny_load ho ?_)
      rw[hc,hd]
      show wpAny M A (if(["enumerate","zip","dict_itemiterator","dict_reverseitemiterator","odict_iterator","itertools.zip_longest","itertools.pairwise"].contains n&&vs[0]?==some (rawInt _))=true then _ else _) Q E s
      rw[if_neg (by intro h;rw[hn,Bool.false_and]at h;cases h)]
      exact wpAny_pure hQ))
noncomputable def pA (K:Fg) (a:Addr):It:=
 ⟨fun i H=>∃xs x,aN K H a xs/\xs[i]?=some x,fun i H x H'=>H'=H/\∀xs,aN K H a xs->xs[i]?=some x,fun i H=>∃xs,aN K H a xs/\xs.length<=i⟩
noncomputable def nZ (lo:Int) (n:Nat):It:=⟨fun i _=>i<n,fun i H x H'=>H'=H/\x= .int (lo+ i),fun i _=>n<=i⟩
theorem b6B{P:Program}{w:World}{K:Fg}{tg:Expr}(a it:Addr):oV P w K tg (pA K a) [it] it (fun i h=>h.IsListIter it a i) where
 mem:=by simp
 obj:=fun i h st b hb=>by
  have e:b=it:=by simpa using hb
  subst e
  obtain⟨o,e,c,d⟩:=st
  exact⟨o,e,fun v z=>by rw[d]at z;cases z⟩
 keep:=fun i h h' st k=>st.at fun o e=>k it (by simp) o e
 item:=by
  intro X hP hw hK hc i pins s σ H E I hf st hg
  subst hP hw hK
  obtain⟨xs,x,hq,hx⟩:=hg
  obtain⟨its,rv,p,hz⟩:=I.list hq
  obtain⟨u,hu,ru⟩:=rv.get hx
  obtain⟨f0,f1,f2,f3,f4,f5⟩:=hf it (by simp)
  refine wpAny_pyNext_list_item st p.isList (x:=u) (by simpa using hu) fun h' st' sb=> ?_
  have I1:aD X pins σ H {s with heap:=h'}:=I.turned (t':=s.toks) (fun b o hb e=>(sb.2 b hb).trans e) f0 f1 f3 f4 f5
  obtain⟨o,e,c,d⟩:=id st'
  exact⟨u,rfl,zC (s:={s with heap:=h'}) e c d (by decide) ⟨x,H,I1,ru,⟨rfl,fun ys hy=>by rw[I.list_inj hy hq];exact hx⟩,st',fun b hb=>(hf b hb).1⟩⟩
 done:=by
  intro X hP hw hK hc i pins s σ H E I hf st hg
  subst hP hw hK
  obtain⟨xs,hq,hx⟩:=hg
  obtain⟨its,rv,p,hz⟩:=I.list hq
  obtain⟨f0,f1,f2,f3,f4,f5⟩:=hf it (by simp)
  have hl:=rv.length
  exact wpAny_pyNext_list_end (I.ok.hd hc) st p.isList (by simp;omega) fun h' eb=>⟨rfl,I.turned (t':=s.toks) (fun b o hb e=>eb b o hb e) f0 f1 f3 f4 f5⟩
 self:=fun _ _ _ _ _ st h=>wpAny_pyIter_listiter st h
theorem b6T{P:Program}{w:World}{K:Fg}{tg:Expr}(it:Addr)(lo:Int)(n:Nat):oV P w K tg (nZ lo n) [it] it (fun i h=>IsRangeIter h it (lo+ (i:Nat)* 1) ((n:Int)- (i:Nat)) 1) where
 mem:=by simp
 obj:=fun i h st b hb=>by
  have e:b=it:=by simpa using hb
  subst e
  exact⟨_,st,fun v z=>by
   have z':Data.fields _=Data.cell v:=z
   cases z'⟩
 keep:=fun i h h' st k=>k it (by simp) _ st
 item:=by
  intro X hP hw hK hc i pins s σ H E I hf st hg
  subst hP hw hK
  obtain⟨f0,f1,f2,f3,f4,f5⟩:=hf it (by simp)
  have W:=Walks.range (prog:=X.prog) (w:=X.w) (I.ok.hd hc) it lo 1 n
  refine W.item i s _ _ hg st fun v h' tk hv st' kk=> ?_
  obtain⟨t,rfl⟩:=hv
  have I1:aD X pins σ H {s with heap:=h',toks:=tk}:=I.turned (fun b o hb e=>kk b o (by simpa using hb) e) f0 f1 f3 f4 f5
  refine⟨_,rfl,zC (s:={s with heap:=h',toks:=tk}) (n:= "range_iterator") st' rfl rfl (by decide) ⟨.int (lo+ i),H,I1,⟨t,?_⟩,⟨rfl,rfl⟩,st',fun b hb=>(hf b hb).1⟩⟩
  rw[Int.mul_one]
 done:=by
  intro X hP hw hK hc i pins s σ H E I hf st hg
  subst hP hw hK
  obtain⟨f0,f1,f2,f3,f4,f5⟩:=hf it (by simp)
  exact wpAny_pyNext_range_end (I.ok.hd hc) st (by have:n<=i:=hg;omega) fun h' eb=>⟨rfl,I.turned (t':=s.toks) (fun b o hb e=>eb b o hb e) f0 f1 f3 f4 f5⟩
 self:=fun _ _ _ _ _ st h=>wpAny_pyIter_rangeiter st h
section
variable{X:Cx}{tg:Expr}
def b5Z(K:Fg)(tl:TE):TI:=fun σ H R=>tl σ H fun x H1=>∃a,x= .ref a/\(∃xs,aN K H1 a xs)/\R (pA K a) H1
theorem iS{l:Expr}{tl:TE}(hl:PE X l tl):PI X tg l (b5Z X.K tl):=by
 intro pins s σ H R I h
 refine aU (hl pins s σ H _ I h) fun v s1 ⟨x,H1,I1,r1,q1⟩=> ?_
 obtain⟨a,e,⟨xs,hq⟩,q⟩:=q1
 subst e
 cases r1
 obtain⟨its,rv,p,hz⟩:=I1.list hq
 refine wpAny_pyIter_list p.isList ?_
 refine⟨s1.heap.objs.size,[s1.heap.objs.size],_,_,H1,rfl,I1.kept (t':=s1.toks) fun b o e=>Heap.get?_push_of_some _ e,b6B a _,⟨_,Heap.get?_push_size _ rfl,rfl,rfl⟩,fun b hb=> ?_,q⟩
 have e:b=s1.heap.objs.size:=by simpa using hb
 subst e
 exact I1.fpOk (Nat.le_refl _) (I1.hok.fresh (Nat.le_refl _))
theorem b2s{pins:List (Addr×Obj)}{σ:St}{H:Hp}{s:Shared}{R:It->Hp->Prop}{E:Value->Shared->Prop}{lo hi:Int}{t u v:Tok}{tk:Nat}(I:aD X pins σ H s)(h1: -(2^ 62)<=lo)(h2:lo<2^ 62)(h3: -(2^ 62)<=hi)(h4:hi<2^ 62)
 (q:R (nZ lo (hi- lo).toNat) H):wpAny (model X.prog X.w) X.A (pyIter (.ref s.heap.objs.size)) (PIE X pins σ tg R) E {s with heap:=s.heap.push {cls:=.type "range",data:=.fields #[.int lo t,.int hi u,.int 1 v]},toks:=tk}:=by
 refine wpAny_pyIter_range (IsRange.new ..) (small_one h1 h2 h3 h4) ?_
 have I1:aD X pins σ H {s with heap:=s.heap.push {cls:=.type "range",data:=.fields #[.int lo t,.int hi u,.int 1 v]},toks:=tk}:=I.kept fun b o e=>Heap.get?_push_of_some _ e
 refine⟨(s.heap.push {cls:=.type "range",data:=.fields #[.int lo t,.int hi u,.int 1 v]}).objs.size,[(s.heap.push {cls:=.type "range",data:=.fields #[.int lo t,.int hi u,.int 1 v]}).objs.size],_,_,H,rfl,
  I1.kept (t':=tk) fun b o e=>Heap.get?_push_of_some _ e,b6T _ lo (hi- lo).toNat,?_,fun b hb=> ?_,q⟩
 ·have e1:lo+ ((0:Nat):Int)* 1=lo:=by simp
  have e2:(((hi- lo).toNat:Nat):Int)- ((0:Nat):Int)=Builtin.Range.rangeSize lo hi 1:=by rw[rangeSize_one];split<;>omega
  show IsRangeIter _ _ (lo+ ((0:Nat):Int)* 1) ((((hi- lo).toNat:Nat):Int)- ((0:Nat):Int)) 1
  rw[e1,e2]
  exact Heap.get?_push_size _ rfl
 ·have e:b=(s.heap.push {cls:=.type "range",data:=.fields #[.int lo t,.int hi u,.int 1 v]}).objs.size:=by simpa using hb
  subst e
  exact I1.fpOk (Nat.le_refl _) (I1.hok.fresh (Nat.le_refl _))
def b2o(ta:TA):TI:=fun σ H R=>ta σ H fun vs H1=>∃j:Int,vs= [.int j] /\ -(2^ 62)<=j/\j<2^ 62/\R (nZ 0 j.toNat) H1
theorem a0g{a:Expr}{ta:TA}{p pos:Pos}(hg:Gl X "range")(hm:X.mg "range"=none)(ha:PA X [a] ta)(hs:starEach [a] X.env= [(false,eval a X.env)]:=by rfl):PI X tg (.Call (.Name "range" p) [a] [] pos) (b2o ta):=by
 intro pins s σ H R I h
 refine Call_ (pV I hg hm boot_range (PyProof.Rows.callWith_type1 (aU (ha pos pins s σ H _ I h) fun us s1 ⟨vs,H1,I1,r1,q1⟩=> ?_) hs rfl))
 obtain⟨j,e,q1,q2,q⟩:=q1
 subst e
 cases r1 with
 |cons r rr=>
  cases rr
  obtain⟨t,rfl⟩:=r
  exact call_range_1 (b2s I1 (by omega) (by omega) q1 q2 (by simpa using q))
def tFor(wi:TI)(g:TG)(tb:TS):TS:=fun D σ H=>wi σ H fun J H1=>∃W:Nat->Nat->St->Hp->Prop,(∃m,W 0 m σ H1)/\∀i m σ H,W i m σ H->
 (J.stop i H/\D.nx σ H)\/ (J.go i H/\∃N:St->Hp->Prop,(∀σ' H',N σ' H'->∃m',m'<m/\W (i+ 1) m' σ' H')/\∀x H',J.yld i H x H'->g x σ H' fun σ2 H2=>tb {D with nx:=N,ct:=N,bk:=D.nx} σ2 H2)
noncomputable def wV (fp:List Addr) (h:Heap):List (Addr×Obj):=fp.filterMap fun b=>(h.get? b).map fun o=>(b,o)
theorem yY{fp:List Addr}{h:Heap}{b:Addr}{o:Obj}(hb:b∈fp)(e:h.get? b=some o):(b,o)∈wV fp h:=List.mem_filterMap.mpr ⟨b,hb,by rw[e];rfl⟩
theorem b7A{fp:List Addr}{h:Heap}{p:Addr×Obj}(hp:p∈wV fp h):p.1∈fp/\h.get? p.1=some p.2:=by
 obtain⟨b,hb,e⟩:=List.mem_filterMap.mp hp
 cases q:h.get? b with
 |none=>rw[q]at e;cases e
 |some o=>
  rw[q]at e
  have e':(b,o)=p:=Option.some.inj e
  subst e'
  exact⟨hb,q⟩
theorem aD.pinned{pins:List (Addr×Obj)}{σ:St}{H:Hp}{s:Shared}{fp:List Addr}(I:aD X pins σ H s)(hf:∀b∈fp,kB X pins H b)(ho:∀b∈fp,∃o,s.heap.get? b=some o/\∀v,o.data≠ .cell v):aD X (pins++ wV fp s.heap) σ H s:=
 I.pins_of fun p hp=>(List.mem_append.mp hp).elim (fun z=>I.pin p (List.mem_append_right _ z)) fun z=>by
  obtain⟨hb,e⟩:=b7A z
  obtain⟨f0,f1,f2,_⟩:=hf p.1 hb
  obtain⟨o,e',d⟩:=ho p.1 hb
  rw[e]at e';cases e'
  exact⟨e,f0,f1,f2,d⟩
theorem aD.unpinned{pins pl:List (Addr×Obj)}{σ:St}{H:Hp}{s:Shared}(I:aD X (pins++ pl) σ H s):aD X pins σ H s:=I.pins_of fun p hp=>I.pin p (List.mem_append_right _ (List.mem_append_left _ hp))
theorem iG{iter:Expr}{body:List Stmt}{wi:TI}{g:TG}{tb:TS}{pos:Pos}(hp:PassesOwn (model X.prog X.w) X.A X.env X.xe)(hc:X.calm=true)(hi:PI X tg iter wi)(hg:PG X tg g)(hb:dQ X body tb)
 (hs:∀x,foldedSetIterable iter X.env x=pure x:=by intro _;rfl):PS X (.For tg iter body [] pos) (tFor wi g tb):=by
 intro pins s σ H D I h
 refine wpAny_For (aU (hi pins s σ H _ I h) fun v s1 h1=>aU h1 fun itv s2 h2=> ?_) hs
 obtain⟨it,fp,tn,J,H2,e,I2,T,st2,f2,W,⟨m0,w0⟩,turn⟩:=h2
 subst e
 have stat:∀{H':Hp},(∀b∈fp,H' b=none)->∀b∈fp,kB X pins H' b:=fun hn b hb=>⟨hn b hb,(f2 b hb).2⟩
 refine codeAny_forLoop_any (fun n s'=>∃i σ' H',aD X pins σ' H' s'/\tn i s'.heap/\(∀b∈fp,H' b=none)/\W i n σ' H') ?_ m0 ⟨0,σ,H2,I2,st2,fun b hb=>(f2 b hb).1,w0⟩
 rintro n s3 ⟨i,σ3,H3,I3,st3,fr3,w3⟩
 rcases turn i n σ3 H3 w3 with⟨stop,qn⟩|⟨go,N,hN,step⟩
 ·refine wpAny_passesOwn hp (aU (T.done X rfl rfl rfl hc i pins s3 σ3 H3 X.xe I3 (stat fr3) st3 stop) fun r s4 ⟨hr,I4⟩=> ?_)
  subst hr
  exact wpAny_execs_nil ⟨σ3,H3,I4,qn⟩
 ·refine wpAny_passesOwn hp (aU (T.item X rfl rfl rfl hc i pins s3 σ3 H3 X.xe I3 (stat fr3) st3 go) fun r s4 ⟨u,hr,h4⟩=> ?_)
  subst hr
  refine wpAny_passesOwn hp (aU h4 fun _ s5 ⟨x,H5,I5,r5,y5,st5,fr5⟩=> ?_)
  have I5':=I5.pinned (stat fr5) (T.obj _ _ st5)
  refine wpAny_passesOwn hp (aU (hg _ s5 σ3 H5 x u _ I5' r5 (step x H5 y5)) fun _ s6 ⟨σ6,H6,I6,q6⟩=> ?_)
  refine wpAny_passesOwn hp (aU (hb _ s6 σ6 H6 _ I6 q6) fun f s7 q7=> ?_)
  have again:∀{σ7:St} {H7:Hp},aD X (pins++ wV fp s5.heap) σ7 H7 s7->N σ7 H7->∃m,m<n/\∃i σ' H',aD X pins σ' H' s7/\tn i s7.heap/\(∀b∈fp,H' b=none)/\W i m σ' H':=fun{σ7 H7} I7 n7=>by
   obtain⟨m',hm,w7⟩:=hN σ7 H7 n7
   refine⟨m',hm,i+ 1,σ7,H7,I7.unpinned,T.keep _ _ _ st5 fun b hb o e=>(I7.pin (b,o) (List.mem_append_right _ (List.mem_append_right _ (yY hb e)))).1,fun b hb=> ?_,w7⟩
   obtain⟨o,e,d⟩:=T.obj _ _ st5 b hb
   exact(I7.pin (b,o) (List.mem_append_right _ (List.mem_append_right _ (yY hb e)))).2.1
  cases f with
  |next=>obtain⟨σ7,H7,I7,n7⟩:=q7;exact again I7 n7
  |cont=>obtain⟨σ7,H7,I7,n7⟩:=q7;exact again I7 n7
  |brk=>obtain⟨σ7,H7,I7,q7⟩:=q7;exact⟨σ7,H7,I7.unpinned,q7⟩
  |ret v=>obtain⟨x7,σ7,H7,I7,r7,q7⟩:=q7;exact⟨x7,σ7,H7,I7.unpinned,r7,q7⟩
end
theorem kK{K:Fg}{a:Addr}{xs:List V}{g:TG}{tb:TS}{D:kI}{σ:St}{H:Hp}(Pv:Nat->St->Hp->Prop)(h0:Pv 0 σ H)(hl:∀i σ H,i<=xs.length->Pv i σ H->aN K H a xs)
 (hs:∀i x σ H,xs[i]?=some x->Pv i σ H->g x σ H fun σ2 H2=>tb {D with nx:=Pv (i+ 1),ct:=Pv (i+ 1),bk:=D.nx} σ2 H2)(hd:∀σ H,Pv xs.length σ H->D.nx σ H):
 ∃W:Nat->Nat->St->Hp->Prop,(∃m,W 0 m σ H)/\∀i m σ H,W i m σ H->
  ((pA K a).stop i H/\D.nx σ H)\/ ((pA K a).go i H/\∃N:St->Hp->Prop,(∀σ' H',N σ' H'->∃m',m'<m/\W (i+ 1) m' σ' H')/\∀x H',(pA K a).yld i H x H'->g x σ H' fun σ2 H2=>tb {D with nx:=N,ct:=N,bk:=D.nx} σ2 H2):=by
 refine⟨fun i m σ H=>m=xs.length- i/\i<=xs.length/\Pv i σ H,⟨xs.length,by simp,Nat.zero_le _,h0⟩,?_⟩
 rintro i m σ H ⟨rfl,hi,p⟩
 have q:=hl i σ H hi p
 by_cases hlt:i<xs.length
 ·refine .inr ⟨⟨xs,xs[i],q,by simp[hlt]⟩,Pv (i+ 1),fun σ' H' p'=>⟨xs.length- (i+ 1),by omega,rfl,hlt,p'⟩,fun x H' y=> ?_⟩
  obtain⟨e,y⟩:=y
  subst e
  exact hs i x σ _ (y xs q) p
 ·have e:i=xs.length:=by omega
  subst e
  exact .inl ⟨⟨xs,q,Nat.le_refl _⟩,hd σ H p⟩
theorem b0B{lo:Int}{n:Nat}{g:TG}{tb:TS}{D:kI}{σ:St}{H:Hp}(Pv:Nat->St->Hp->Prop)(h0:Pv 0 σ H)
 (hs:∀i σ H,i<n->Pv i σ H->g (.int (lo+ i)) σ H fun σ2 H2=>tb {D with nx:=Pv (i+ 1),ct:=Pv (i+ 1),bk:=D.nx} σ2 H2)(hd:∀σ H,Pv n σ H->D.nx σ H):
 ∃W:Nat->Nat->St->Hp->Prop,(∃m,W 0 m σ H)/\∀i m σ H,W i m σ H->
  ((nZ lo n).stop i H/\D.nx σ H)\/ ((nZ lo n).go i H/\∃N:St->Hp->Prop,(∀σ' H',N σ' H'->∃m',m'<m/\W (i+ 1) m' σ' H')/\∀x H',(nZ lo n).yld i H x H'->g x σ H' fun σ2 H2=>tb {D with nx:=N,ct:=N,bk:=D.nx} σ2 H2):=by
 refine⟨fun i m σ H=>m=n- i/\i<=n/\Pv i σ H,⟨n,by simp,Nat.zero_le _,h0⟩,?_⟩
 rintro i m σ H ⟨rfl,hi,p⟩
 by_cases hlt:i<n
 ·refine .inr ⟨hlt,Pv (i+ 1),fun σ' H' p'=>⟨n- (i+ 1),by omega,rfl,hlt,p'⟩,fun x H' y=> ?_⟩
  obtain⟨e,y⟩:=y
  subst e y
  exact hs i σ _ hlt p
 ·have e:i=n:=by omega
  subst e
  exact .inl ⟨Nat.le_refl _,hd σ H p⟩
abbrev R2:=V->V->Hp->VK->Prop
def dU(X:Cx)(f:Value->Value->Sem Value)(r:R2):Prop:=
 ∀(pins:List (Addr×Obj)) (s:Shared) (σ:St) (H:Hp) (x y:V) (v u:Value) (Q:VK),aD X pins σ H s->bF x v->bF y u->r x y H Q->
  wpAny (model X.prog X.w) X.A (f v u) (EP X pins σ Q) X.xe s
def UnR(X:Cx)(f:Value->Sem Value)(r:V->Hp->VK->Prop):Prop:=
 ∀(pins:List (Addr×Obj)) (s:Shared) (σ:St) (H:Hp) (x:V) (v:Value) (Q:VK),aD X pins σ H s->bF x v->r x H Q->
  wpAny (model X.prog X.w) X.A (f v) (EP X pins σ Q) X.xe s
def jQ(X:Cx)(f:Value)(r:List V->Hp->VK->Prop):Prop:=
 ∀(pins:List (Addr×Obj)) (s:Shared) (σ:St) (H:Hp) (xs:List V) (us:List Value) (Q:VK),aD X pins σ H s->bD xs us->r xs H Q->
  wpAny (model X.prog X.w) X.A (call f us) (EP X pins σ Q) X.xe s
def TruR(X:Cx)(r:V->Hp->(Bool->Hp->Prop)->Prop):Prop:=
 ∀(pins:List (Addr×Obj)) (s:Shared) (σ:St) (H:Hp) (x:V) (v:Value) (Q:Bool->Hp->Prop),aD X pins σ H s->bF x v->r x H Q->
  wpAny (model X.prog X.w) X.A (truthy v) (TP X pins σ Q) X.xe s
def tOp(r:R2)(ta tb:TE):TE:=fun σ H Q=>ta σ H fun x H1=>tb σ H1 fun y H2=>r x y H2 Q
def tUn(r:V->Hp->VK->Prop)(ta:TE):TE:=fun σ H Q=>ta σ H fun x H1=>r x H1 Q
noncomputable def rI (C:Int->Int->Prop) (g:Int->Int->V):R2:=fun x y H Q=>∃i j,x= .int i/\y= .int j/\C i j/\Q (g i j) H
noncomputable def mY (g:Int->Int->V):R2:=fun x y H Q=>∃i j,x= .int i/\y= .int j/\Q (g i j) H
def rU(g:Int->V):V->Hp->VK->Prop:=fun x H Q=>∃i,x= .int i/\Q (g i) H
section
variable{X:Cx}{a b c:Expr}{ta tb tc:TE}{pos:Pos}
theorem binT(ha:PE X a ta)(hb:PE X b tb){pins:List (Addr×Obj)}{s:Shared}{σ:St}{H:Hp}{R:V->V->Hp->Prop}(I:aD X pins σ H s)
 (h:ta σ H fun x H1=>tb σ H1 fun y H2=>R x y H2){Q:Value->Shared->Prop}{f:Value->Value->Sem Value}
 (hf:∀v u s2 x y H2,aD X pins σ H2 s2->bF x v->bF y u->R x y H2->wpAny (model X.prog X.w) X.A (f v u) Q X.xe s2):
 wpAny (model X.prog X.w) X.A (eval a X.env) (fun v s₁=>wpAny (model X.prog X.w) X.A (eval b X.env) (fun u s₂=>wpAny (model X.prog X.w) X.A (f v u) Q X.xe s₂) X.xe s₁) X.xe s:=by
 refine aU (ha pins s σ H _ I h) fun v s1 ⟨x,H1,I1,r1,q1⟩=> ?_
 refine aU (hb pins s1 σ H1 _ I1 q1) fun u s2 ⟨y,H2,I2,r2,q2⟩=> ?_
 exact hf v u s2 x y H2 I2 r1 r2 q2
theorem bW{op:Operator}{r:R2}(ho:dU X (binaryOp op) r)(ha:PE X a ta)(hb:PE X b tb):PE X (.BinOp a op b pos) (tOp r ta tb):=by
 intro pins s σ H Q I h
 exact wpAny_BinOp (binT ha hb I h fun v u s2 x y H2 I2 rx ry q=>ho pins s2 σ H2 x y v u Q I2 rx ry q)
theorem a4f{op:UnaryOp}{r:V->Hp->VK->Prop}(ho:UnR X (unaryOp op) r)(ha:PE X a ta):PE X (.UnaryOp op a pos) (tUn r ta):=by
 intro pins s σ H Q I h
 exact UnaryOp_ (aU (ha pins s σ H _ I h) fun v s1 ⟨x,H1,I1,r1,q1⟩=>ho pins s1 σ H1 x v Q I1 r1 q1)
theorem opI{f:Value->Value->Sem Value}{C:Int->Int->Prop}{g:Int->Int->Int}
 (rule:∀(i j:Int) (t u:Tok) (s:Shared) (Q:Value->Shared->Prop) (E:Value->Shared->Prop),C i j->Q (.int (g i j) s.toks) {s with toks:=s.toks+ 1} ->wpAny (model X.prog X.w) X.A (f (.int i t) (.int j u)) Q E s):
 dU X f (rI C fun i j=> .int (g i j)):=by
 intro pins s σ H x y v u Q I rx ry h
 obtain⟨i,j,rfl,rfl,hc,q⟩:=h
 obtain⟨t,rfl⟩:=rx
 obtain⟨t',rfl⟩:=ry
 exact rule i j t t' s _ _ hc ⟨.int (g i j),H,I.tok _,⟨_,rfl⟩,q⟩
theorem opI0{f:Value->Value->Sem Value}{g:Int->Int->Int}
 (rule:∀(i j:Int) (t u:Tok) (s:Shared) (Q:Value->Shared->Prop) (E:Value->Shared->Prop),Q (.int (g i j) s.toks) {s with toks:=s.toks+ 1} ->wpAny (model X.prog X.w) X.A (f (.int i t) (.int j u)) Q E s):
 dU X f (mY fun i j=> .int (g i j)):=by
 intro pins s σ H x y v u Q I rx ry h
 obtain⟨i,j,rfl,rfl,q⟩:=h
 obtain⟨t,rfl⟩:=rx
 obtain⟨t',rfl⟩:=ry
 exact rule i j t t' s _ _ ⟨.int (g i j),H,I.tok _,⟨_,rfl⟩,q⟩
theorem xM{f:Value->Value->Sem Value}{g:Int->Int->Bool}
 (rule:∀(i j:Int) (t u:Tok) (s:Shared) (Q:Value->Shared->Prop) (E:Value->Shared->Prop),Q (.bool (g i j)) s->wpAny (model X.prog X.w) X.A (f (.int i t) (.int j u)) Q E s):
 dU X f (mY fun i j=> .bl (g i j)):=by
 intro pins s σ H x y v u Q I rx ry h
 obtain⟨i,j,rfl,rfl,q⟩:=h
 obtain⟨t,rfl⟩:=rx
 obtain⟨t',rfl⟩:=ry
 exact rule i j t t' s _ _ ⟨.bl (g i j),H,I,rfl,q⟩
def CDiv(i j:Int):Prop:=0<j/\j<1073741824
def CPow(i j:Int):Prop:=0<=j/\j<=1000000/\i.natAbs<2^ 64
def CMul(i j:Int):Prop:=(-(2^ 64)<i/\i<2^ 64)\/ (-(2^ 64)<j/\j<2^ 64)
theorem CMul.ok{i j:Int}(h:CMul i j):IntMulOk i j:=by
 rcases h with⟨h1,h2⟩|⟨h1,h2⟩
 ·exact .of_left (intBits_le_64 h1 h2)
 ·exact .of_right (intBits_le_64 h1 h2)
theorem fS:dU X (binaryOp .Add) (mY fun i j=> .int (i+ j)):=opI0 fun _ _ _ _ _ _ _ q=>add_int q
theorem b6d:dU X (binaryOp .Sub) (mY fun i j=> .int (i- j)):=opI0 fun _ _ _ _ _ _ _ q=>sub_int q
theorem oQ:dU X (binaryOp .Mult) (rI CMul fun i j=> .int (i* j)):=opI fun _ _ _ _ _ _ _ hc q=>mul_int q hc.ok
theorem a5D:dU X (binaryOp .FloorDiv) (rI CDiv fun i j=> .int (i/ j)):=opI fun i j _ _ _ _ _ hc q=>by
 have h1:(0:Int)<j:=hc.1
 have h2:j<1073741824:=hc.2
 exact floordiv_int (by omega) (by rw[Int.fdiv_eq_ediv_of_nonneg i (by omega)];exact q) (.inl (PyProof.noPylong_small (by omega)))
theorem fV:dU X (binaryOp .Mod) (rI (fun _ j=>0<j) fun i j=> .int (i% j)):=opI fun i j _ _ _ _ _ hc q=>by
 have h1:(0:Int)<j:=hc
 exact mod_int' (by omega) (by rw[Int.fmod_eq_emod_of_nonneg i (by omega)];exact q)
theorem a9E:dU X (binaryOp .Pow) (rI CPow fun i j=> .int (i^ j.toNat)):=opI fun _ _ _ _ _ _ _ hc q=>pow_int_small hc.1 hc.2.1 hc.2.2 q
theorem unI{f:Value->Sem Value}{g:Int->Int}
 (rule:∀(i:Int) (t:Tok) (s:Shared) (Q:Value->Shared->Prop) (E:Value->Shared->Prop),Q (.int (g i) s.toks) {s with toks:=s.toks+ 1} ->wpAny (model X.prog X.w) X.A (f (.int i t)) Q E s):
 UnR X f (rU fun i=> .int (g i)):=by
 intro pins s σ H x v Q I rx h
 obtain⟨i,rfl,q⟩:=h
 obtain⟨t,rfl⟩:=rx
 exact rule i t s _ _ ⟨.int (g i),H,I.tok _,⟨_,rfl⟩,q⟩
theorem a9b:UnR X (unaryOp .USub) (rU fun i=> .int (-i)):=unI fun _ _ _ _ _ q=>neg_int q
end
noncomputable def scal:V->V->Bool
 | .non,.non=>true| .non,.int _=>true| .int _,.non=>true| .non,.bl _=>true| .bl _,.non=>true| .non,.str _=>true| .str _,.non=>true
 | .int _,.int _=>true| .bl _,.bl _=>true| .str _,.str _=>true| .byt _,.byt _=>true
 | .int _,.str _=>true| .str _,.int _=>true| .bl _,.str _=>true| .str _,.bl _=>true
 |_,_=>false
noncomputable def rEq:R2:=fun x y H Q=>scal x y=true/\Q (.bl (decide (x=y))) H
noncomputable def rNe:R2:=fun x y H Q=>scal x y=true/\Q (.bl (!decide (x=y))) H
theorem a95{i j:Int}:decide (V.int i=V.int j)=(i==j):=by
 rw[Bool.eq_iff_iff]
 simp
theorem a9x{i j:Bool}:decide (V.bl i=V.bl j)=(i==j):=by
 rw[Bool.eq_iff_iff]
 simp
theorem b11{i j:Str}:decide (V.str i=V.str j)=(i==j):=by
 rw[Bool.eq_iff_iff]
 simp
theorem b1Q{i j:Array UInt8}:decide (V.byt i=V.byt j)=(i.toList==j.toList):=by
 rw[Bool.eq_iff_iff]
 cases i
 cases j
 simp
section
variable{X:Cx}{a b c:Expr}{ta tb tc:TE}{pos:Pos}
theorem cZ{pins:List (Addr×Obj)}{σ:St}{H:Hp}{s:Shared}{Q:VK}{k k':Bool}(I:aD X pins σ H s)(q:Q (.bl k) H)(e:k=k'):EP X pins σ Q (.bool k') s:=by
 subst e
 exact⟨.bl k,H,I,rfl,q⟩
theorem qL:dU X (compareOp .Eq) rEq:=by
 intro pins s σ H x y v u Q I rx ry h
 obtain⟨hs,q⟩:=h
 cases x with
 |non=>
  cases rx
  cases y with
  |non=>cases ry;exact PySem.EqNone.eq_none_none (cZ I q (by simp))
  |bl j=>cases ry;exact PySem.EqNone.eq_none_bool (cZ I q (by simp))
  |int j=>obtain⟨t',rfl⟩:=ry;exact PySem.EqNone.eq_none_int (cZ I q (by simp))
  |str j=>obtain⟨t',rfl⟩:=ry;exact PySem.EqNone.eq_none_str (cZ I q (by simp))
  |_=>exact absurd (show false=true from hs) Bool.false_ne_true
 |bl i=>
  cases rx
  cases y with
  |non=>cases ry;exact PySem.EqNone.eq_bool_none (cZ I q (by simp))
  |bl j=>cases ry;exact eq_bool (cZ I q a9x)
  |str j=>obtain⟨t',rfl⟩:=ry;exact PySem.EqMixed.eq_bool_str (cZ I q (by simp))
  |_=>exact absurd (show false=true from hs) Bool.false_ne_true
 |int i=>
  obtain⟨t,rfl⟩:=rx
  cases y with
  |non=>cases ry;exact PySem.EqNone.eq_int_none (cZ I q (by simp))
  |int j=>obtain⟨t',rfl⟩:=ry;exact eq_int (cZ I q a95)
  |str j=>obtain⟨t',rfl⟩:=ry;exact PySem.EqMixed.eq_int_str (cZ I q (by simp))
  |_=>exact absurd (show false=true from hs) Bool.false_ne_true
 |str i=>
  obtain⟨t,rfl⟩:=rx
  cases y with
  |non=>cases ry;exact PySem.EqNone.eq_str_none (cZ I q (by simp))
  |bl j=>cases ry;exact PySem.EqMixed.eq_str_bool (cZ I q (by simp))
  |int j=>obtain⟨t',rfl⟩:=ry;exact PySem.EqMixed.eq_str_int (cZ I q (by simp))
  |str j=>obtain⟨t',rfl⟩:=ry;exact eq_str (cZ I q b11)
  |_=>exact absurd (show false=true from hs) Bool.false_ne_true
 |byt i=>
  obtain⟨t,rfl⟩:=rx
  cases y with
  |byt j=>obtain⟨t',rfl⟩:=ry;exact PySem.W.eq_bytes (cZ I q b1Q)
  |_=>exact absurd (show false=true from hs) Bool.false_ne_true
 |_=>cases y<;>exact absurd (show false=true from hs) Bool.false_ne_true
theorem a3Y:dU X (compareOp .NotEq) rNe:=by
 intro pins s σ H x y v u Q I rx ry h
 obtain⟨hs,q⟩:=h
 cases x with
 |non=>
  cases rx
  cases y with
  |non=>cases ry;exact PySem.EqNone.ne_none_none (cZ I q (by simp))
  |bl j=>cases ry;exact PySem.EqNone.ne_none_bool (cZ I q (by simp))
  |int j=>obtain⟨t',rfl⟩:=ry;exact PySem.EqNone.ne_none_int (cZ I q (by simp))
  |str j=>obtain⟨t',rfl⟩:=ry;exact PySem.EqNone.ne_none_str (cZ I q (by simp))
  |_=>exact absurd (show false=true from hs) Bool.false_ne_true
 |bl i=>
  cases rx
  cases y with
  |non=>cases ry;exact PySem.EqNone.ne_bool_none (cZ I q (by simp))
  |bl j=>cases ry;exact ne_bool (cZ I q (congrArg not a9x))
  |str j=>obtain⟨t',rfl⟩:=ry;exact PySem.EqMixed.ne_bool_str (cZ I q (by simp))
  |_=>exact absurd (show false=true from hs) Bool.false_ne_true
 |int i=>
  obtain⟨t,rfl⟩:=rx
  cases y with
  |non=>cases ry;exact PySem.EqNone.ne_int_none (cZ I q (by simp))
  |int j=>obtain⟨t',rfl⟩:=ry;exact ne_int (cZ I q (congrArg not a95))
  |str j=>obtain⟨t',rfl⟩:=ry;exact PySem.EqMixed.ne_int_str (cZ I q (by simp))
  |_=>exact absurd (show false=true from hs) Bool.false_ne_true
 |str i=>
  obtain⟨t,rfl⟩:=rx
  cases y with
  |non=>cases ry;exact PySem.EqNone.ne_str_none (cZ I q (by simp))
  |bl j=>cases ry;exact PySem.EqMixed.ne_str_bool (cZ I q (by simp))
  |int j=>obtain⟨t',rfl⟩:=ry;exact PySem.EqMixed.ne_str_int (cZ I q (by simp))
  |str j=>obtain⟨t',rfl⟩:=ry;exact ne_str (cZ I q (congrArg not b11))
  |_=>exact absurd (show false=true from hs) Bool.false_ne_true
 |byt i=>
  obtain⟨t,rfl⟩:=rx
  cases y with
  |byt j=>obtain⟨t',rfl⟩:=ry;exact PySem.W.ne_bytes (cZ I q (congrArg not b1Q))
  |_=>exact absurd (show false=true from hs) Bool.false_ne_true
 |_=>cases y<;>exact absurd (show false=true from hs) Bool.false_ne_true
theorem b1D:dU X (compareOp .Lt) (mY fun i j=> .bl (decide (i<j))):=xM fun _ _ _ _ _ _ _ q=>lt_int q
theorem sY:dU X (compareOp .LtE) (mY fun i j=> .bl (decide (i<=j))):=xM fun _ _ _ _ _ _ _ q=>le_int q
theorem b1r:dU X (compareOp .Gt) (mY fun i j=> .bl (decide (j<i))):=xM fun _ _ _ _ _ _ _ q=>gt_int q
theorem a8N:dU X (compareOp .GtE) (mY fun i j=> .bl (decide (j<=i))):=xM fun _ _ _ _ _ _ _ q=>ge_int q
theorem b6r:dU X (compareOp .In) (fun x y H Q=>∃i j,x= .str i/\y= .str j/\Q (.bl (!(Builtin.Str.occurrences j i 0 j.length 1).isEmpty)) H):=by
 intro pins s σ H x y v u Q I rx ry h
 obtain⟨i,j,rfl,rfl,q⟩:=h
 obtain⟨t,rfl⟩:=rx
 obtain⟨t',rfl⟩:=ry
 exact in_str (cZ I q rfl)
theorem qT:dU X (compareOp .Is) (fun x y H Q=>y= .non/\Q (.bl (decide (x= .non))) H):=by
 intro pins s σ H x y v u Q I rx ry h
 obtain⟨rfl,q⟩:=h
 cases ry
 refine is_none_gen (cZ I q ?_)
 cases x<;>first
  |(cases rx;rfl)
  |(obtain⟨t,rfl⟩:=rx;rfl)
theorem b63:dU X (compareOp .IsNot) (fun x y H Q=>y= .non/\Q (.bl (!decide (x= .non))) H):=by
 intro pins s σ H x y v u Q I rx ry h
 obtain⟨rfl,q⟩:=h
 cases ry
 refine isnot_none_gen (cZ I q ?_)
 cases x<;>first
  |(cases rx;rfl)
  |(obtain⟨t,rfl⟩:=rx;rfl)
theorem dH(b:Expr){op:CmpOp}(h:op≠ .In:=by decide)(h2:op≠ .NotIn:=by decide):behindInMarks op b=false:=by
 have e1:(op==CmpOp.In)=false:=by cases op<;>first|rfl|exact absurd rfl h
 have e2:(op==CmpOp.NotIn)=false:=by cases op<;>first|rfl|exact absurd rfl h2
 cases b<;>simp[behindInMarks,e1,e2]
theorem mH{op:CmpOp}{r:R2}(ho:dU X (compareOp op) r)(ha:PE X a ta)(hb:PE X b tb)(hm:behindInMarks op b=false):PE X (.Compare a [op] [b] pos) (tOp r ta tb):=by
 intro pins s σ H Q I h
 exact wpAny_Compare1 (binT ha hb I h fun v u s2 x y H2 I2 rx ry q=>ho pins s2 σ H2 x y v u Q I2 rx ry q) hm
def b0e(t:TE):TT:=fun σ H Q=>t σ H fun x H'=>∃k,x= .bl k/\Q k H'
theorem dE{op:CmpOp}{r:R2}(ho:dU X (compareOp op) r)(ha:PE X a ta)(hb:PE X b tb)(hm:behindInMarks op b=false):PT X (.Compare a [op] [b] pos) (b0e (tOp r ta tb)):=by
 intro pins s σ H Q I h
 refine wpAny_isTrue_Compare1 (aU (ha pins s σ H _ I h) fun v s1 ⟨x,H1,I1,r1,q1⟩=>aU (hb pins s1 σ H1 _ I1 q1) fun u s2 ⟨y,H2,I2,r2,q2⟩=>
  aU (ho pins s2 σ H2 x y v u _ I2 r1 r2 q2) fun c s3 ⟨z,H3,I3,r3,k,e,q3⟩=> ?_) hm
 subst e
 cases r3
 exact wpAny_truthy_bool ⟨H3,I3,q3⟩
def b4w(r r':R2)(ta tb tc:TE):TE:=fun σ H Q=>ta σ H fun x H1=>tb σ H1 fun y H2=>r x y H2 fun z H3=>∃k,z= .bl k/\
 (if k=true then tc σ H3 fun w' H4=>r' y w' H4 Q else Q (.bl false) H3)
theorem a3u{op op':CmpOp}{r r':R2}(ho:dU X (compareOp op) r)(ho':dU X (compareOp op') r')(ha:PE X a ta)(hb:PE X b tb)(hc:PE X c tc)
 (hm:lastMarks [op,op'] [b,c]=false:=by with_unfolding_all rfl):PT X (.Compare a [op,op'] [b,c] pos) (b0e (b4w r r' ta tb tc)):=by
 intro pins s σ H Q I h
 refine isTrue_chain (aU (ha pins s σ H _ I h) fun v s1 ⟨x,H1,I1,r1,q1⟩=>test_link (aU (hb pins s1 σ H1 _ I1 q1) fun u s2 ⟨y,H2,I2,r2,q2⟩=>
  aU (ho pins s2 σ H2 x y v u _ I2 r1 r2 q2) fun d s3 ⟨z,H3,I3,r3,k,e,q3⟩=> ?_)) hm
 subst e
 cases r3
 refine wpAny_truthy_bool ?_
 cases k with
 |false=>
  obtain⟨k',e',q'⟩:=q3
  cases e'
  exact ite_ff ⟨H3,I3,q'⟩
 |true=>
  refine ite_tt (test_last (aU (hc pins s3 σ H3 _ I3 q3) fun w' s4 ⟨z',H4,I4,r4,q4⟩=>aU (ho' pins s4 σ H4 y z' u w' _ I4 r2 r4 q4) fun d' s5 ⟨z2,H5,I5,r5,k2,e2,q5⟩=> ?_))
  subst e2
  cases r5
  exact wpAny_truthy_bool ⟨H5,I5,q5⟩
def TruV(K:Fg)(x:V)(H:Hp)(k:Bool):Prop:=
 match x with
 | .non=>k=false
 | .bl b=>k=b
 | .int i=>k=(i !=0)
 | .str y=>y.length<=sizeLine/\k=((y.length:Int) !=0)
 | .byt y=>y.size<=sizeLine/\k=((y.size:Int) !=0)
 | .ref p=>(∃xs,aN K H p xs/\k= !xs.isEmpty)\/ (∃xs,cF K H p xs/\k= !xs.isEmpty)\/ ∃kvs,H p=some (.dK kvs)/\k= !kvs.isEmpty
 |_=>False
theorem b6v{κ:Type}{kvs:List (κ×V)}{vs:List (κ×Value)}(r:KV kvs vs):(!vs.isEmpty)= !kvs.isEmpty:=by
 cases r<;>rfl
theorem b0V{xs:List V}{its:List Value}(r:bD xs its):(!its.toArray.isEmpty)= !xs.isEmpty:=by
 cases r<;>simp
theorem pC:(sizeLine:Nat)<2^ 63:=by rw[sizeLine_eq];decide
theorem b3s:TruR X (fun x H Q=>∃k,TruV X.K x H k/\Q k H):=by
 intro pins s σ H x v Q I rx h
 obtain⟨k,e,q⟩:=h
 have hl:=pC
 have hs:sizeLine=16777216:=sizeLine_eq
 cases x with
 |non=>
  cases rx
  have e':k=false:=e
  subst e'
  exact truthy_none ⟨H,I,q⟩
 |bl b=>
  cases rx
  have e':k=b:=e
  subst e'
  exact wpAny_truthy_bool ⟨H,I,q⟩
 |int i=>
  obtain⟨t,rfl⟩:=rx
  have e':k=(i !=0):=e
  subst e'
  exact PySem.P.truthy_int ⟨H,I,q⟩
 |str y=>
  obtain⟨t,rfl⟩:=rx
  obtain⟨hy,e'⟩:y.length<=sizeLine/\k=((y.length:Int) !=0):=e
  subst e'
  exact PySem.P.truthy_str (by omega) ⟨H,I.tok _,q⟩
 |byt y=>
  obtain⟨t,rfl⟩:=rx
  obtain⟨hy,e'⟩:y.size<=sizeLine/\k=((y.size:Int) !=0):=e
  subst e'
  exact PySem.W.truthy_bytes (by omega) ⟨H,I.tok _,q⟩
 |ref p=>
  cases rx
  have e':(∃xs,aN X.K H p xs/\k= !xs.isEmpty)\/ (∃xs,cF X.K H p xs/\k= !xs.isEmpty)\/ ∃kvs,H p=some (.dK kvs)/\k= !kvs.isEmpty:=e
  rcases e' with⟨xs,hx,e'⟩|⟨xs,hx,e'⟩|⟨kvs,hx,e'⟩
  ·subst e'
   obtain⟨its,r,pl,hz⟩:=I.list hx
   have hlen:=r.length
   exact wpAny_truthy_list pl.isList (by simp only[List.size_toArray];omega) ⟨H,I.tok _,by rw[b0V r];exact q⟩
  ·subst e'
   obtain⟨its,r,pl,hz⟩:=I.tuple hx
   have hlen:=r.length
   exact truthy_tuple pl (by simp only[List.size_toArray];omega) ⟨H,I.tok _,by rw[b0V r];exact q⟩
  ·subst e'
   obtain⟨hz,hS,vs,r,m⟩:kvs.length<=sizeLine/\(p==sysModules)=false/\∃vs,KV kvs vs/\s.heap.DictOf (fH X.prog X.w) p vs:=I.hok p _ hx
   have hlen:kvs.length=vs.length:=Paired.length r
   exact wpAny_truthy_dict hS m (by omega) ⟨H,I.tok _,by rw[b6v r];exact q⟩
 |_=>exact(show False from e).elim
theorem a9Y(ha:PE X a ta)(he:∀whole,isTrue a X.env whole=(do let v<- whole;standAt a.pos;holding [v] (truthy v))):
 PT X a (fun σ H Q=>ta σ H fun x H'=>∃k,TruV X.K x H' k/\Q k H'):=by
 intro pins s σ H Q I h
 exact isTrue_plain (aU (ha pins s σ H _ I h) fun v s1 ⟨x,H1,I1,r1,q1⟩=>b3s pins s1 σ H1 x v Q I1 r1 q1) (he _)
theorem nQ{x:V}{us:List Value}(r:bD [x] us):∃u,us= [u] /\bF x u:=by
 cases r with
 |cons r1 r2=>cases r2;exact⟨_,rfl,r1⟩
theorem b66:jQ X (.builtin "abs") (fun xs H Q=>∃i,xs= [.int i] /\Q (.int (if i<0 then-i else i)) H):=by
 intro pins s σ H xs us Q I r h
 obtain⟨i,rfl,q⟩:=h
 obtain⟨u,rfl,t,rfl⟩:=nQ r
 exact call_abs_int fun u tk=>⟨.int (if i<0 then-i else i),H,I.tok _,⟨_,rfl⟩,q⟩
def LenV(K:Fg)(x:V)(H:Hp)(n:Nat):Prop:=
 match x with
 | .str y=>y.length<=sizeLine/\n=y.length
 | .byt y=>y.size<=sizeLine/\n=y.size
 | .ref p=>(∃xs,aN K H p xs/\n=xs.length)\/ ∃xs,cF K H p xs/\n=xs.length
 |_=>False
theorem kR:jQ X (.builtin "len") (fun xs H Q=>∃x n,xs= [x] /\LenV X.K x H n/\Q (.int n) H):=by
 intro pins s σ H xs us Q I r h
 obtain⟨x,n,rfl,e,q⟩:=h
 obtain⟨u,rfl,rx⟩:=nQ r
 have hl:=pC
 have hs:sizeLine=16777216:=sizeLine_eq
 cases x with
 |str y=>
  obtain⟨t,rfl⟩:=rx
  obtain⟨hy,e'⟩:y.length<=sizeLine/\n=y.length:=e
  subst e'
  exact len_str (by omega) ⟨.int _,H,I.tok _,⟨_,rfl⟩,q⟩
 |byt y=>
  obtain⟨t,rfl⟩:=rx
  obtain⟨hy,e'⟩:y.size<=sizeLine/\n=y.size:=e
  subst e'
  exact PySem.W.len_bytes (by omega) ⟨.int _,H,I.tok _,⟨_,rfl⟩,q⟩
 |ref p=>
  cases rx
  have e':(∃xs,aN X.K H p xs/\n=xs.length)\/ ∃xs,cF X.K H p xs/\n=xs.length:=e
  rcases e' with⟨xs,hx,e'⟩|⟨xs,hx,e'⟩
  ·subst e'
   obtain⟨its,r',pl,hz⟩:=I.list hx
   have hlen:=r'.length
   exact Calls.call_len_list pl.isList (by simp only[List.size_toArray];omega) ⟨.int xs.length,H,I.tok _,⟨_,by simp only[List.size_toArray];rw[hlen]⟩,q⟩
  ·subst e'
   obtain⟨its,r',pl,hz⟩:=I.tuple hx
   have hlen:=r'.length
   exact len_tuple pl (by simp only[List.size_toArray];omega) ⟨.int xs.length,H,I.tok _,⟨_,by simp only[List.size_toArray];rw[hlen]⟩,q⟩
 |_=>exact(show False from e).elim
end
structure oA(h:Heap)(x dx C:Addr)(mA:Str->Option Value):Prop where
 obj:h.get? x=some (PySem.W.instObj C dx)
 ns:h.Ns1 dx mA
 ne:dx≠x
theorem b4u{h:Heap}{dx:Addr}{mA:Str->Option Value}(n:h.Ns1 dx mA):∃od,h.get? dx=some od/\∀name,PySem.W.lookIn name od=some (mA name):=by
 obtain⟨o,es,ep,ho,hd,hk,_,hm⟩:=n
 refine⟨o,ho,fun name=> ?_⟩
 have e:=hm name
 unfold nsFind findBy at e
 rw[<- Array.find?_toList]at e
 unfold PySem.W.lookIn
 rw[hd]
 dsimp only
 split
 ·rename_i y q
  rw[q]at e
  exact congrArg some e
 ·rename_i q
  rw[q]at e
  have a:es.toList.any (·.refKey)=false:=by
   rw[List.any_eq_false]
   intro y hy
   obtain⟨z,t,hkey⟩:=hk y (Array.mem_toList_iff.mp hy)
   simp[DictEntry.refKey,hkey]
  have a':¬es.toList.any (·.refKey)=true:=by rw[a];exact Bool.false_ne_true
  rw[if_neg a']
  exact congrArg some e
theorem oA.look{h:Heap}{x dx C:Addr}{mA:Str->Option Value}(I:oA h x dx C mA):∃od,PySem.W.InstAt h x (PySem.W.instObj C dx) C (some od)/\∀name,PySem.W.lookIn name od=some (mA name):=
 let ⟨od,ho,hl⟩:=b4u I.ns
 ⟨od,⟨I.obj,rfl,rfl,ho⟩,hl⟩
section
variable{prog:Program}{w:World}{A:Around}{E:Value->Shared->Prop}{s:Shared}{K:Fg}{x dx C f:Addr}{mA:Str->Option Value}{name:Str}{v:Value}
theorem b6K{expr:Bool}{Q:Value->Shared->Prop}(X:K.In s.heap)(I:oA s.heap x dx C mA)(hg:PySem.W.plainGet K C name=true)(hh:PySem.W.hasDictIn K C=true)
 (ha:PySem.W.findIn K (.ref C) name=some none)(hv:mA name=some v)(hv':PySem.W.handedIn v=true)(h:Q v {s with toks:=s.toks+ 1}):
 wpAny (model prog w) A (getAttr (.ref x) name expr) Q E s:=by
 obtain⟨od,J,hl⟩:=I.look
 exact PySem.W.get_value X J (PySem.W.plainGet_of hg).1 (PySem.W.findObj_own hh ha rfl (by rw[hl,hv])) hv' h
theorem b53{pl:Sem Bool}{Q:Value×List Value->Shared->Prop}(X:K.In s.heap)(I:oA s.heap x dx C mA)(hg:PySem.W.plainGet K C name=true)
 (hf:PySem.W.findIn K (.ref C) name=some (some (.ref f)))(ht:PySem.W.isFn K (.ref f)=true)(hv:mA name=none)(h:Q (.ref f,[.ref x]) s):
 wpAny (model prog w) A (getMethod (.ref x) name pl) Q E s:=by
 obtain⟨od,J,hl⟩:=I.look
 exact PySem.W.method_fn X J (PySem.W.plainGet_of hg).1 (PySem.W.plainGet_of hg).2 hf (beq_iff_eq.mp ht) (by show(PySem.W.lookIn name od).map (·.isSome)=some false;rw[hl,hv];rfl) h
theorem b59{ns:List Str}{Q:Unit->Shared->Prop}(X:K.In s.heap)(I:oA s.heap x dx C mA)
 (hs:PySem.W.findIn K (.ref C) "__setattr__"=some (some (.builtin "object.__setattr__")))(hp:PySem.W.plainOver K C=true)(ht:PySem.W.takerIn K C name=some none)(hh:PySem.W.hasDictIn K C=true)
 (hw:PySem.Within mA ns)(hsz:ns.length<=sizeLine)
 (h:∀h',oA h' x dx C (fun y=>if y=name then some v else mA y)->Heap.SameBut dx s.heap h'->Q () {s with heap:=h',toks:=s.toks+ 2}):
 wpAny (model prog w) A (setAttr (.ref x) name v) Q E s:=by
 obtain⟨od,J,hl⟩:=I.look
 refine PySem.W.set_plain X J hs (PySem.W.osa_open (s:={s with toks:=s.toks+ 1}) (r:=none) X J hp ht fun b=> ?_)
 obtain⟨cd,hc,hd'⟩:=PySem.W.any_some hh
 have hx:s.heap.get? x=some ⟨.ref C,some dx,.plain,#[]⟩:=I.obj
 refine wpAny_bind (wpAny_pure (wpAny_bind (wpAny_bind (wpAny_loadPart hx (wpAny_bind (PySem.W.Looks.here (s:={s with toks:=s.toks+ 1}) (PySem.W.looks_clsIn X hc) ?_))))))
 rw[hd']
 refine wpAny_pure (a:=some dx) (wpAny_bind (wpAny_pure (wpAny_bind ?_)))
 refine wpAny_nsSet1 (s:={s with toks:=s.toks+ 1}) I.ns fun h' hn2 hs2=> ?_
 obtain⟨oD,esD,epD,hoD,hdD,hcD⟩:=hn2.count (PySem.Within.cons name v hw)
 refine wpAny_bind (wpAny_lookBehind hoD (by rw[hdD];exact pastItsLine_dict (Nat.le_trans hcD (by rw[List.length_cons];omega))) ?_)
 exact wpAny_pure (h _ ⟨(hs2.2 _ (Ne.symm I.ne)).trans I.obj,hn2,I.ne⟩ hs2)
theorem b5q{R:Result->Shared->Prop}{vs:List Value}{kw:List (Str×Value)}(X:K.In s.heap)(hm:PySem.W.makesIn K C=true)
 (hi:PySem.W.findIn K (.ref C) "__init__"=some (some (.ref f)))(hf:PySem.W.typeIn K (.ref f)=some (.type "function"))
 (h:codeAny (model prog w) (A.under (.builtin "type.__call__" ⟨.ref C::vs,kw⟩)) (.call (.ref f) ⟨.ref (s.heap.objs.size+ 1)::vs,kw⟩) (PySem.W.InitBack (s.heap.objs.size+ 1) R)
  {s with heap:=(s.heap.push PySem.W.emptyDict).push (PySem.W.instObj C s.heap.objs.size)}):
 codeAny (model prog w) A (.call (.ref C) ⟨vs,kw⟩) R s:=by
 obtain⟨hh,g,d,t,os⟩:=s
 exact PySem.W.make_core (PySem.W.makes_of X hm) (PySem.W.looks_findIn X hi) (fun self=>PySem.W.bind_fn X self hf) (.inl rfl) h
end
noncomputable def aO (f:Str) (v:V):List (Str×V)->List (Str×V)
 | []=> [(f,v)]
 |(g,x)::r=>if g=f then(g,v)::r else(g,x)::aO f v r
theorem b1K(f g:Str)(v:V):∀fs:List (Str×V),(aO f v fs).lookup g=if g=f then some v else fs.lookup g
 | []=>by
  show List.lookup g [(f,v)]=_
  by_cases h:g=f
  ·have hb:(g==f)=true:=beq_iff_eq.mpr h
   simp only[List.lookup,hb,if_pos h]
  ·have hb:(g==f)=false:=beq_eq_false_iff_ne.mpr h
   simp only[List.lookup,hb,if_neg h]
 |(k,x)::r=>by
  have ih:=b1K f g v r
  rw[show aO f v ((k,x)::r)=(if k=f then(k,v)::r else(k,x)::aO f v r) from rfl]
  by_cases hk:k=f
  ·rw[if_pos hk]
   by_cases h:g=k
   ·have hb:(g==k)=true:=beq_iff_eq.mpr h
    simp only[List.lookup,hb,if_pos (h.trans hk)]
   ·have hb:(g==k)=false:=beq_eq_false_iff_ne.mpr h
    simp only[List.lookup,hb,if_neg (fun e:g=f=>h (e.trans hk.symm))]
  ·rw[if_neg hk]
   by_cases h:g=k
   ·have hb:(g==k)=true:=beq_iff_eq.mpr h
    simp only[List.lookup,hb,if_neg (fun e:g=f=>hk (h.symm.trans e))]
   ·have hb:(g==k)=false:=beq_eq_false_iff_ne.mpr h
    simp only[List.lookup,hb]
    exact ih
theorem a6k(f:Str)(v:V):∀fs:List (Str×V),f∈(aO f v fs).map (·.1)/\∀g,g∈fs.map (·.1)->g∈(aO f v fs).map (·.1)
 | []=>⟨by simp[aO],fun g h=>by simp at h⟩
 |(k,x)::r=>by
  obtain⟨i1,i2⟩:=a6k f v r
  rw[show aO f v ((k,x)::r)=(if k=f then(k,v)::r else(k,x)::aO f v r) from rfl]
  by_cases hk:k=f
  ·rw[if_pos hk]
   subst hk
   exact⟨by simp,fun g h=>by simpa using h⟩
  ·rw[if_neg hk]
   refine⟨?_,fun g h=> ?_⟩
   ·rw[List.map_cons]
    exact List.mem_cons_of_mem _ i1
   ·rw[List.map_cons]at h|-
    rcases List.mem_cons.mp h with e|e
    ·exact List.mem_cons.mpr (.inl e)
    ·exact List.mem_cons_of_mem _ (i2 g e)
theorem a9s(f:Str)(v:V):∀fs:List (Str×V),(aO f v fs).length<=fs.length+ 1
 | []=>by simp[aO]
 |(k,x)::r=>by
  have ih:=a9s f v r
  rw[show aO f v ((k,x)::r)=(if k=f then(k,v)::r else(k,x)::aO f v r) from rfl]
  by_cases hk:k=f
  ·rw[if_pos hk,List.length_cons,List.length_cons];omega
  ·rw[if_neg hk,List.length_cons,List.length_cons];omega
theorem fW.some_of{v:V}{o:Option Value}(r:fW (some v) o):∃u,o=some u/\bF v u:=by
 cases o with
 |none=>exact(show False from r).elim
 |some u=>exact⟨u,rfl,r⟩
theorem fW.none_of{o:Option Value}(r:fW none o):o=none:=by
 cases o with
 |none=>rfl
 |some u=>exact(show False from r).elim
theorem b2Q{v:V}{u:Value}(r:bF v u):PySem.W.handedIn u=true:=by
 cases v with
 |non=>cases (show u=Value.none from r);rfl
 |bl b=>cases (show u=Value.bool b from r);rfl
 |int i=>obtain⟨t,e⟩:=(show∃t,u=Value.int i t from r);cases e;rfl
 |str x=>obtain⟨t,e⟩:=(show∃t,u=Value.str x t from r);cases e;rfl
 |byt b=>obtain⟨t,e⟩:=(show∃t,u=Value.bytes b t from r);cases e;rfl
 |flt b=>obtain⟨t,e⟩:=(show∃t,u=Value.float b t from r);cases e;rfl
 |ref a=>cases (show u=Value.ref a from r);rfl
 |ty n=>cases (show u=Value.type n from r);rfl
section
variable{P:Program}{w:World}{H H':Hp}{h h':Heap}{a C dx:Addr}{fs fs':List (Str×V)}
theorem uD(hok:cC P w H h)(e:H a=some (.ins C dx fs)):∃mA,oA h a dx C mA/\(∀f,fW (fs.lookup f) (mA f))/\PySem.Within mA (fs.map (·.1))/\fs.length<=1000/\H dx=some (.own a):=by
 obtain⟨d,z,ne,ob,mA,n,r,q⟩:=(show cY P w H h a (.ins C dx fs) from hok a _ e)
 exact⟨mA,⟨ob,n,ne⟩,r,q,z,d⟩
end
structure dJ(K:Fg)(C:Addr):Prop where
 pg:PySem.W.plainGet K C Str.empty=true
 hd:PySem.W.hasDictIn K C=true
 po:PySem.W.plainOver K C=true
 sa:PySem.W.findIn K (.ref C) "__setattr__"=some (some (.builtin "object.__setattr__"))
theorem dJ.get{K:Fg}{C:Addr}(c:dJ K C)(f:Str):PySem.W.plainGet K C f=true:=c.pg
def cH(K:Fg)(C:Addr)(f:Str):Prop:=PySem.W.findIn K (.ref C) f=some none
theorem cH.taker{K:Fg}{C:Addr}{f:Str}(n:cH K C f):PySem.W.takerIn K C f=some none:=by
 unfold PySem.W.takerIn
 rw[show PySem.W.findIn K (.ref C) f=some none from n]
 rfl
structure Con(K:Fg)(C:Addr)(f:Str)(v:V)(u:Value):Prop where
 at_:PySem.W.findIn K (.ref C) f=some (some u)
 rel:bF v u
 get:PySem.W.specialIn K u "__get__"=some none
 cp:PySem.W.copiedNames.contains f=false
structure xD(K:Fg)(C:Addr)(m:Str)(f:Addr):Prop where
 at_:PySem.W.findIn K (.ref C) m=some (some (.ref f))
 fn:PySem.W.isFn K (.ref f)=true
 kp:PySem.W.keepIn K (.ref f)=true
section
variable{X:Cx}{pins:List (Addr×Obj)}{σ:St}{H:Hp}{s:Shared}{a C dx:Addr}{fs:List (Str×V)}{f:Str}{v:V}{A:Around}{E:Value->Shared->Prop}
theorem b05{b:Bool}{Q:Value->Shared->Prop}(I:aD X pins σ H s)(e:H a=some (.ins C dx fs))(c:dJ X.K C)(n:cH X.K C f)(l:fs.lookup f=some v)
 (h:∀u s',aD X pins σ H s'->bF v u->Q u s'):wpAny (model X.prog X.w) A (getAttr (.ref a) f b) Q E s:=by
 obtain⟨mA,O,r,_,_,_⟩:=uD I.hok e
 obtain⟨u,hu,ru⟩:=fW.some_of (v:=v) (o:=mA f) (by rw[<- l];exact r f)
 exact b6K I.kIn O (c.get f) c.hd n hu (b2Q ru) (h u _ (I.tok _) ru)
theorem zK{m:Str}{g:Addr}{pl:Sem Bool}{Q:Value×List Value->Shared->Prop}(I:aD X pins σ H s)(e:H a=some (.ins C dx fs))(c:dJ X.K C)(k:xD X.K C m g)(l:fs.lookup m=none)
 (h:Q (.ref g,[.ref a]) s):wpAny (model X.prog X.w) A (getMethod (.ref a) m pl) Q E s:=by
 obtain⟨mA,O,r,_,_,_⟩:=uD I.hok e
 have hn:mA m=none:=fW.none_of (by rw[<- l];exact r m)
 exact b53 I.kIn O (c.get m) k.at_ k.fn hn h
theorem b4i{y:V}{u:Value}{Q:Unit->Shared->Prop}(I:aD X pins σ H s)(e:H a=some (.ins C dx fs))(c:dJ X.K C)(n:cH X.K C f)(hl:fs.length<1000)(ry:bF y u)
 (h:∀s',aD X pins σ (upd H a (.ins C dx (aO f y fs))) s'->Q () s'):wpAny (model X.prog X.w) A (setAttr (.ref a) f u) Q E s:=by
 obtain⟨mA,O,r,wi,_,ho⟩:=uD I.hok e
 have hz:(fs.map (·.1)).length<=sizeLine:=by rw[List.length_map,sizeLine_eq];omega
 refine b59 I.kIn O c.sa c.po n.taker c.hd wi hz fun h' O' sb=>h _ ?_
 have hd:∃o,h'.get? dx=some o:=let ⟨o,_,_,e',_⟩:=O'.ns;⟨o,e'⟩
 refine I.write (x:=a) (e:=dx) (by rw[e];exact True.intro) (.inr ho) (fun b q hb z=>(sb.2 b hb).trans z) hd ?_
 refine⟨by rw[aH O.ne];exact ho,?_,O.ne,O'.obj,_,O'.ns,fun g=> ?_,fun g hg=> ?_⟩
 ·have:=a9s f y fs;omega
 ·show fW ((aO f y fs).lookup g) (if g=f then some u else mA g)
  rw[b1K]
  by_cases q:g=f
  ·rw[if_pos q,if_pos q];exact ry
  ·rw[if_neg q,if_neg q];exact r g
 ·by_cases q:g=f
  ·rw[q];exact(a6k f y fs).1
  ·refine(a6k f y fs).2 g (wi g fun z=>hg ?_)
   show(if g=f then some u else mA g)=none
   rw[if_neg q];exact z
theorem aD.made(I:aD X pins σ H s):aD X pins σ (upd (upd H s.heap.objs.size (.own (s.heap.objs.size+ 1))) (s.heap.objs.size+ 1) (.ins C s.heap.objs.size []))
 {s with heap:=(s.heap.push PySem.W.emptyDict).push (PySem.W.instObj C s.heap.objs.size)}:=by
 have e1:(s.heap.push PySem.W.emptyDict).get? s.heap.objs.size=some PySem.W.emptyDict:=Heap.get?_push_size s.heap rfl
 have e2:((s.heap.push PySem.W.emptyDict).push (PySem.W.instObj C s.heap.objs.size)).get? (s.heap.objs.size+ 1)=some (PySem.W.instObj C s.heap.objs.size):=by
  have:=Heap.get?_push_size (s.heap.push PySem.W.emptyDict) (o:=PySem.W.instObj C s.heap.objs.size) rfl
  rwa [Heap.size_push]at this
 have e3:(s.heap.push PySem.W.emptyDict).Ns s.heap.objs.size (fun _=>none):=⟨PySem.W.emptyDict,#[],_,e1,rfl,(fun e he=>absurd he (by simp)),fun _=>rfl⟩
 have I1:=I.laid (a:=s.heap.objs.size) (o:=.own (s.heap.objs.size+ 1)) (h':=s.heap.push PySem.W.emptyDict) (t':=s.toks) (fun b u q=>Heap.get?_push_of_some _ q) (Nat.le_refl _) ⟨_,e1⟩
 refine I1.laid (a:=s.heap.objs.size+ 1) (o:=.ins C s.heap.objs.size []) (t':=s.toks) (fun b u q=>Heap.get?_push_of_some _ q) (Nat.le_of_eq (Heap.size_push _ _)) ?_
 have ne:s.heap.objs.size≠s.heap.objs.size+ 1:=Nat.ne_of_lt (Nat.lt_succ_self _)
 refine⟨by rw[aH ne,aJ],Nat.zero_le _,ne,e2,fun _=>none,(Heap.Ns1.of_empty e3).at fun o q=>Heap.get?_push_of_some _ q,fun _=>True.intro,fun y hy=>absurd rfl hy⟩
theorem b7o{prog:Program}{w:World}{env:Env}{e:Expr}{f:Str}{pos:Pos}{s:Shared}{Q:Value->Shared->Prop}(hb:attributeBase e f env (eval e env)=eval e env)
 (h:wpAny (model prog w) A (eval e env) (fun o s₁=>wpAny (model prog w) A (getAttr o f true) Q E s₁) E s):wpAny (model prog w) A (eval (.Attribute e f pos) env) Q E s:=
 Attribute_any_ h (by rw[arm_eval_Attribute,hb])
end
def tFld(K:Fg)(ta:TE)(f:Str):TE:=fun σ H Q=>ta σ H fun x H1=>∃a C dx fs v,x= .ref a/\H1 a=some (.ins C dx fs)/\dJ K C/\cH K C f/\fs.lookup f=some v/\Q v H1
def sFld(K:Fg)(ta tv:TE)(f:Str):TS:=fun D σ H=>tv σ H fun y H1=>ta σ H1 fun x H2=>∃a C dx fs,x= .ref a/\H2 a=some (.ins C dx fs)/\dJ K C/\cH K C f/\fs.length<1000/\
 D.nx σ (upd H2 a (.ins C dx (aO f y fs)))
section
variable{X:Cx}{o e value:Expr}{f:Str}{pos pos' tpos:Pos}{ta tv:TE}
theorem aX(he:PE X e ta)(hb:attributeBase e f X.env (eval e X.env)=eval e X.env):PE X (.Attribute e f pos) (tFld X.K ta f):=by
 intro pins s σ H Q I h
 refine b7o hb (aU (he pins s σ H _ I h) fun u s1 ⟨x,H1,I1,rx,a,C,dx,fs,v,ex,ea,c,n,l,q⟩=> ?_)
 subst ex
 obtain rfl:u=Value.ref a:=rx
 exact b05 I1 ea c n l fun u' s2 I2 ru=>⟨v,H1,I2,ru,q⟩
theorem dF(ha:PE X o ta)(hv:PE X value tv)(hs:swapsWith value (some (.Attribute o f pos')) pos.line X.env=pure false):PS X (.Assign [.Attribute o f pos'] value pos) (sFld X.K ta tv f):=by
 intro pins s σ H D I h
 refine plainObj_wpAny_Assign_Attribute (aU (hv pins s σ H _ I h) fun u s1 ⟨y,H1,I1,ry,q⟩=>aU (ha pins s1 σ H1 _ I1 q) fun ov s2 ⟨x,H2,I2,rx,a,C,dx,fs,ex,ea,c,n,l,q2⟩=> ?_) hs
 subst ex
 obtain rfl:ov=Value.ref a:=rx
 exact b4i I2 ea c n l ry fun s3 I3=>⟨σ,_,I3,q2⟩
theorem methcall_of{pl:Sem Bool}{m:Str}{apos:Pos}{args:List Expr}{pins:List (Addr×Obj)}{s:Shared}{σ:St}{H:Hp}{Q:Value->Shared->Prop}{te:TE}(he:PE X e te)(I:aD X pins σ H s)
 (h:te σ H fun x H1=>∃a C dx fs g,x= .ref a/\H1 a=some (.ins C dx fs)/\dJ X.K C/\xD X.K C m g/\fs.lookup m=none/\
  ∀s1,aD X pins σ H1 s1->wpAny (model X.prog X.w) X.A (callWith pos (.ref g) [.ref a] (backTo pos (starEach args X.env)) (backToKw pos (keywordEach [] X.env))) Q X.xe s1)
 (ht:eval (.Call (.Attribute e m apos) args [] pos) X.env=(do
  let ov<- eval e X.env
  standAt apos.atName
  let (f,first)<- holding [ov] (getMethod ov m pl)
  callWith pos f first (backTo pos (starEach args X.env)) (backToKw pos (keywordEach [] X.env)))):
 wpAny (model X.prog X.w) X.A (eval (.Call (.Attribute e m apos) args [] pos) X.env) Q X.xe s:=by
 refine PySem.W.methodCall_KW (pl:=pl) (aU (he pins s σ H _ I h) fun u s1 ⟨x,H1,I1,rx,a,C,dx,fs,g,ex,ea,c,k,l,q⟩=> ?_) ht
 subst ex
 obtain rfl:u=Value.ref a:=rx
 exact zK I1 ea c k l (q s1 I1)
end
section
variable{X:Cx}{pins:List (Addr×Obj)}{σ:St}{H:Hp}{s:Shared}{A:Around}{E:Value->Shared->Prop}{Q:Value->Shared->Prop}{c:Value}{b:Bool}
inductive gT(K:Fg)(H:Hp):V->Value->Prop where
 |non:gT K H .non (.type "NoneType")
 |bl (x:Bool):gT K H (.bl x) (.type "bool")
 |int (i:Int):gT K H (.int i) (.type "int")
 |str (x:Str):gT K H (.str x) (.type "str")
 |flt (x:UInt64):gT K H (.flt x) (.type "float")
 |lst {a:Addr} {xs:List V} (e:H a=some (.lst xs)):gT K H (.ref a) (.type "list")
 |frz {a:Addr} {o:Obj} {xs:List V} (e:H a=some (.frz o (.lst xs))):gT K H (.ref a) (.type "list")
 |tup {a:Addr} {xs:List V} (e:H a=some (.tup xs)):gT K H (.ref a) (.type "tuple")
 |dK {a:Addr} {kvs:List (aA×V)} (e:H a=some (.dK kvs)):gT K H (.ref a) (.type "dict")
 |dT {a:Addr} {kvs:List (List aA×V)} (e:H a=some (.dT kvs)):gT K H (.ref a) (.type "dict")
 |ins {a C dx:Addr} {fs:List (Str×V)} (e:H a=some (.ins C dx fs)) (cl:dJ K C) (ha:PySem.W.findIn K (.ref C) "__class__"=some (some (.builtin "object.__class__")))
  (hn:PySem.W.specialIn K (.builtin "object.__class__") "__get__"=some (some (.builtin "getset_descriptor.__get__"))) (htk:PySem.W.takesIn K (.builtin "object.__class__")=some true)
  (hm:PySem.W.mroIn K C (.type "object")=some true):gT K H (.ref a) (.ref C)
theorem b6Y{x:V}{u t:Value}(I:aD X pins σ H s)(rx:bF x u)(ty:gT X.K H x t)(e:PySem.W.kitOne X.K t c=some b)(h:∀tk,Q (.bool b) {s with toks:=tk}):
 wpAny (model X.prog X.w) A (call (.builtin "isinstance") [u,c]) Q E s:=by
 cases ty with
 |non=>cases (show u=Value.none from rx);exact PySem.W.kia_one PySem.W.kitx_none I.kIn True.intro e (fun z=>nomatch z) h
 |bl y=>cases (show u=Value.bool y from rx);exact PySem.W.kia_one PySem.W.kitx_bool I.kIn True.intro e (fun z=>nomatch z) h
 |int i=>obtain⟨t,q⟩:=(show∃t,u=Value.int i t from rx);cases q;exact PySem.W.kia_one PySem.W.kitx_int I.kIn True.intro e (fun z=>nomatch z) h
 |str y=>obtain⟨t,q⟩:=(show∃t,u=Value.str y t from rx);cases q;exact PySem.W.kia_one PySem.W.kitx_str I.kIn True.intro e (fun z=>nomatch z) h
 |flt y=>obtain⟨t,q⟩:=(show∃t,u=Value.float y t from rx);cases q;exact PySem.W.kia_one PySem.W.kitx_float I.kIn True.intro e (fun z=>nomatch z) h
 | @lst a xs ea=>
  cases (show u=Value.ref a from rx)
  obtain⟨_,_,n,_,h1⟩:=(show cY X.prog X.w H s.heap a (.lst xs) from I.hok a _ ea)
  exact PySem.W.kia_one PySem.W.kitx_list I.kIn ⟨_,h1,rfl⟩ e (fun z=>nomatch z) h
 | @frz a ob xs ea=>
  cases (show u=Value.ref a from rx)
  obtain⟨_,_,_,n,_,h1⟩:=(show cY X.prog X.w H s.heap a (.frz ob (.lst xs)) from I.hok a _ ea)
  exact PySem.W.kia_one PySem.W.kitx_list I.kIn ⟨_,h1,rfl⟩ e (fun z=>nomatch z) h
 | @tup a xs ea=>
  cases (show u=Value.ref a from rx)
  obtain⟨_,_,_,p⟩:=(show cY X.prog X.w H s.heap a (.tup xs) from I.hok a _ ea)
  obtain⟨o,h1,h2,_⟩:=p
  exact PySem.W.kia_one PySem.W.kitx_tuple I.kIn ⟨o,h1,h2⟩ e (fun z=>nomatch z) h
 | @dK a kvs ea=>
  cases (show u=Value.ref a from rx)
  obtain⟨_,_,vs,_,p⟩:=(show cY X.prog X.w H s.heap a (.dK kvs) from I.hok a _ ea)
  obtain⟨o,es,ep,h1,h2,_⟩:=p
  exact PySem.W.kia_one PySem.W.kitx_dict I.kIn ⟨o,h1,h2.1⟩ e (fun z=>nomatch z) h
 | @dT a kvs ea=>
  cases (show u=Value.ref a from rx)
  obtain⟨_,_,xs,_,o,es,ep,h1,h2,_⟩:=(show cY X.prog X.w H s.heap a (.dT kvs) from I.hok a _ ea)
  exact PySem.W.kia_one PySem.W.kitx_dict I.kIn ⟨o,h1,h2.1⟩ e (fun z=>nomatch z) h
 | @ins a C dx fs ea cl ha hn htk hm=>
  cases (show u=Value.ref a from rx)
  obtain⟨mA,O,_⟩:=uD I.hok ea
  obtain⟨od,J,_⟩:=O.look
  exact PySem.W.kia_one (PySem.W.kitx_own (cl.get _) cl.hd ha hn htk hm) I.kIn J e (fun z=>nomatch z) h
end
structure bV(k:Nat)(A:Around):Prop where
 hd:A.handled=none
 dp:A.depth+ 3* k+ 5<recursionLimit
 un:A.units+ 16* k+ 200<cLine
theorem bV.mono{j k:Nat}{A:Around}(r:bV k A)(h:j<=k):bV j A:=⟨r.hd,by have:=r.dp;omega,by have:=r.un;omega⟩
theorem bV.deeper{k:Nat}{A:Around}(r:bV (k+ 1) A)(env:Env):bV k (A.deeper env):=
 ⟨r.hd,by have:=r.dp;show A.depth+ 1+ 3* k+ 5<_;omega,by have:=r.un;show A.units+ 3+ 16* k+ 200<_;omega⟩
theorem b2A{A:Around}{C:Addr}{us:List Value}{kw:List (Str×Value)}:(A.under (.builtin "type.__call__" ⟨.ref C::us,kw⟩)).depth=A.depth+ 1:=by
 first|rfl|simp[Around.under,Code.weight,Code.isCreation,Code.isGuard,Code.isCaller,Code.frames,Code.isFrame,guardIds]
theorem b21{A:Around}{C:Addr}{us:List Value}{kw:List (Str×Value)}:(A.under (.builtin "type.__call__" ⟨.ref C::us,kw⟩)).units=A.units+ 1:=by
 first|rfl|simp[Around.under,Code.cUnits,Code.frames,Code.isFrame]
theorem bV.make{k:Nat}{A:Around}(r:bV (k+ 1) A)(C:Addr)(us:List Value)(kw:List (Str×Value)):bV k (A.under (.builtin "type.__call__" ⟨.ref C::us,kw⟩)):=
 ⟨r.hd,by have:=r.dp;rw[b2A];omega,by have:=r.un;rw[b21];omega⟩
theorem bV.depth{k:Nat}{A:Around}(r:bV k A):A.depth<recursionLimit:=by have:=r.dp;omega
theorem bV.units{k:Nat}{A:Around}(r:bV k A):A.units+ 64<cLine:=by have:=r.un;omega
def qB:TA:=fun _ H Q=>Q [] H
def a4S(ta:TE)(tr:TA):TA:=fun σ H Q=>ta σ H fun x H1=>tr σ H1 fun xs H2=>Q (x::xs) H2
section
variable{X:Cx}{e:Expr}{es:List Expr}{te:TE}{t:TA}{pos:Pos}
theorem aG:PA X [] qB:=fun _ _ _ _ H Q I h=>Calls.spliced_nil ⟨[],H,I,.nil,h⟩
theorem aB(ha:PE X e te)(hr:PA X es t)(hs:starEach (e::es) X.env=(false,eval e X.env)::starEach es X.env:=by rfl):PA X (e::es) (a4S te t):=by
 intro pos pins s σ H Q I h
 rw[hs]
 show wpAny _ _ (spliced ((false,eval e X.env)::backTo pos (starEach es X.env))) _ _ s
 refine Calls.spliced_cons (aU (ha pins s σ H _ I h) fun u s1 ⟨x,H1,I1,r1,q1⟩=> ?_)
 exact aU (hr pos pins s1 σ H1 _ I1 q1) fun us s2 ⟨xs,H2,I2,r2,q2⟩=>⟨x::xs,H2,I2,.cons r1 r2,q2⟩
def tTup(t:TA):TE:=fun σ H Q=>t σ H fun xs H1=>xs.length<=sizeLine/\∀p,H1 p=none->Q (.ref p) (upd H1 p (.tup xs))
def tLst(t:TA):TE:=fun σ H Q=>t σ H fun xs H1=>xs.length<=sizeLine/\∀p,H1 p=none->Q (.ref p) (upd H1 p (.lst xs))
theorem gO{x1}(h:PA X es t):PE X (.Tuple es x1 pos) (tTup t):=by
 intro pins s σ H Q I hq
 refine wpAny_Tuple_spliced (aU (h pos pins s σ H _ I hq) fun us s1 ⟨xs,H1,I1,r,z,q⟩=>⟨by rw[<- r.length];exact z,?_⟩)
 have hf:H1 s1.heap.objs.size=none:=I1.hok.fresh (Nat.le_refl _)
 refine⟨.ref s1.heap.objs.size,upd H1 s1.heap.objs.size (.tup xs),I1.laid (t':=s1.toks) (fun b u e=>Heap.get?_push_of_some _ e) (Nat.le_refl _) ?_,rfl,q _ hf⟩
 exact⟨z,us,r,⟨_,Heap.get?_push_size _ rfl,rfl,_,rfl⟩⟩
theorem eO(h:PA X es t):PE X (.List es pos) (tLst t):=by
 intro pins s σ H Q I hq
 refine wpAny_List_spliced (aU (h pos pins s σ H _ I hq) fun us s1 ⟨xs,H1,I1,r,z,q⟩=>⟨by rw[<- r.length];exact z,?_⟩)
 have hf:H1 s1.heap.objs.size=none:=I1.hok.fresh (Nat.le_refl _)
 refine⟨.ref s1.heap.objs.size,upd H1 s1.heap.objs.size (.lst xs),I1.laid (t':=s1.toks) (fun b u e=>Heap.get?_push_of_some _ e) (Nat.le_refl _) ?_,rfl,q _ hf⟩
 exact⟨z,us,0,r,Heap.get?_push_size _ rfl⟩
end
abbrev Sp:=List V->Hp->VK->XK->Prop
abbrev fG:=List Env->Hp->Shared->XK->Value->Shared->Prop
structure jW(P:Program)(w:World)(K:Fg)(mg:Str->Option Value)(base:Heap)(A:Around)(outer:List Env)(s:Shared)(H:Hp):Prop where
 frames:A.frames=some outer
 mod:Mod K mg base
 bs:∀b o,base.get? b=some o->s.heap.get? b=some o/\H b=none
 bsz:base.objs.size<=s.heap.objs.size
 funs:s.heap.FunFrames base outer
 frf:∀b∈fZ outer,H b=none
 hok:cC P w H s.heap
 bare:AllBare s.gens
def CE(outer:List Env)(P:Program)(w:World)(H:Hp)(s:Shared)(Q:VK)(u:Value)(s':Shared):Prop:=
 ∃v H',s'.os=s.os/\AllBare s'.gens/\Un (fZ outer) [] H H' s.heap s'.heap/\cC P w H' s'.heap/\bF v u/\Q v H'
def CR(CX:fG)(outer:List Env)(P:Program)(w:World)(H:Hp)(s:Shared)(Q:VK)(E:XK)(r:Result)(s':Shared):Prop:=
 match r with
 | .ok (.ret u)=>CE outer P w H s Q u s'
 | .ok _=>False
 | .error e=>CX outer H s E e s'
structure fJ(P:Program)(w:World)(K:Fg)(mg:Str->Option Value)(base:Heap)(CX:fG)(k:Nat)(f:Addr)(fd:FuncData)(ps:List Str)(sp:Sp):Prop where
 len:∀vs H Q E,sp vs H Q E->vs.length=ps.length
 run:∀(A:Around) (outer:List Env) (s:Shared) (H:Hp) (args:Args) (us:List Value) (vs:List V) (Q:VK) (E:XK),bV k A->jW P w K mg base A outer s H->BindsTo s fd args (ps.zip us)->bD vs us->sp vs H Q E->
  codeAny (model P w) A (.call (.ref f) args) (CR CX outer P w H s Q E) s
theorem fJ.mono{P:Program}{w:World}{K:Fg}{mg:Str->Option Value}{base:Heap}{CX:fG}{j k:Nat}{f:Addr}{fd:FuncData}{ps:List Str}{sp:Sp}(F:fJ P w K mg base CX j f fd ps sp)(h:j<=k):
 fJ P w K mg base CX k f fd ps sp:=⟨F.len,fun A outer s H args us vs Q E hr=>F.run A outer s H args us vs Q E (hr.mono h)⟩
theorem jW.make{P:Program}{w:World}{K:Fg}{mg:Str->Option Value}{base:Heap}{A:Around}{outer:List Env}{s:Shared}{H:Hp}(e:jW P w K mg base A outer s H)(C:Addr)(us:List Value)(kw:List (Str×Value)):
 jW P w K mg base (A.under (.builtin "type.__call__" ⟨.ref C::us,kw⟩)) outer s H:=⟨by first|exact e.frames|(simpa [Around.under,Code.envs,Code.isFrame,pushEnvs] using e.frames),e.mod,e.bs,e.bsz,e.funs,e.frf,e.hok,e.bare⟩
section
variable{X:Cx}{pins:List (Addr×Obj)}{σ:St}{H:Hp}{s s':Shared}
theorem aD.env0(I:aD X pins σ H s):jW X.prog X.w X.K X.mg X.base X.A X.stack s H:=
 ⟨I.ok.frames,I.ok.mod,I.bs,Nat.le_trans I.ok.bsz I.sz,I.stack,I.stkFree,I.hok,I.bare⟩
theorem aD.after{Q:VK}{u:Value}(I:aD X pins σ H s)(h:CE X.stack X.prog X.w H s Q u s'):EP X pins σ Q u s':=by
 obtain⟨v,H',os,bare,un,hok,r,q⟩:=h
 obtain⟨hh,g,d,t,os'⟩:=s'
 obtain rfl:os'=s.os:=os
 exact⟨v,H',I.call (h':=hh) (g':=g) (d':=d) (t':=t) (ch:=[]) un hok bare (fun b z=>absurd z (by simp)),r,q⟩
end
def a3M(sp:Sp)(dvs:List V)(E:XK)(t:TA):TE:=fun σ H Q=>t σ H fun vs H1=>sp (vs++ dvs) H1 Q E
def yS(C:Addr)(m:Str)(sp:Sp)(dvs:List V)(E:XK)(ta:TE)(t:TA):TE:=fun σ H Q=>ta σ H fun x H1=>∃a dx fs,x= .ref a/\H1 a=some (.ins C dx fs)/\fs.lookup m=none/\
 t σ H1 fun vs H2=>sp (x::(vs++ dvs)) H2 Q E
def yX(C:Addr)(sp:Sp)(dvs:List V)(E:XK)(t:TA):TE:=fun σ H Q=>t σ H fun vs H1=>∀x dx,H1 x=none->H1 dx=none->dx≠x->
 sp (.ref x::(vs++ dvs)) (upd (upd H1 dx (.own x)) x (.ins C dx [])) (fun v H2=>v= .non/\Q (.ref x) H2) E
def hZ(K:Fg)(fd:FuncData)(ps:List Str)(ds:List Value):Prop:=
 ∀(s:Shared) (us:List Value),K.In s.heap->(us++ ds).length=ps.length->BindsTo s fd ⟨us,[]⟩ (ps.zip (us++ ds))
theorem hZ.all{K:Fg}{fd:FuncData}{ps:List Str}(h:∀us:List Value,us.length=ps.length->bindArgs fd ⟨us,[]⟩=pure (ps.zip us)):hZ K fd ps []:=fun s us _ hl=>by
 rw[List.append_nil]at hl|-
 exact .of_eq (h us hl)
def iJ(CX:fG)(X:Cx)(E:XK):Prop:=∀(pins:List (Addr×Obj)) (σ:St) (H:Hp) (s:Shared) (e:Value) (s':Shared),aD X pins σ H s->CX X.stack H s E e s'->X.xe e s'
section
variable{X:Cx}{CX:fG}{k:Nat}{f C:Addr}{fd:FuncData}{ps:List Str}{sp:Sp}{dvs:List V}{ds:List Value}{E:XK}{x m:Str}{p pos apos:Pos}{e o:Expr}{es:List Expr}{ta:TE}{t:TA}
theorem zB{pins:List (Addr×Obj)}{σ:St}{H:Hp}{s:Shared}{Q:VK}{us:List Value}{vs:List V}(F:fJ X.prog X.w X.K X.mg X.base CX k f fd ps sp)(hr:bV k X.A)(hb:hZ X.K fd ps ds)(hd:bD dvs ds)(hx:iJ CX X E)
 (I:aD X pins σ H s)(r:bD vs us)(h:sp (vs++ dvs) H Q E):wpAny (model X.prog X.w) X.A (call (.ref f) us) (EP X pins σ Q) X.xe s:=by
 have r2:bD (vs++ dvs) (us++ ds):=r.append hd
 have hl:(us++ ds).length=ps.length:=by rw[<- r2.length];exact F.len _ _ _ _ h
 refine wpAny_call (codeAny_mono (F.run X.A X.stack s H ⟨us,[]⟩ (us++ ds) (vs++ dvs) Q E hr I.env0 (hb s us I.kIn hl) r2 h) fun r s' hq=> ?_)
 cases r with
 |error e=>exact hx pins σ H s e s' I hq
 |ok fl=>
  cases fl with
  |ret u=>exact I.after hq
  |next=>exact False.elim hq
  |brk=>exact False.elim hq
  |cont=>exact False.elim hq
theorem b58(F:fJ X.prog X.w X.K X.mg X.base CX k f fd ps sp)(hr:bV k X.A)(hg:Gl X x)(hm:X.mg x=some (.ref f))(hk:PySem.W.keepIn X.K (.ref f)=true)(hb:hZ X.K fd ps ds)(hd:bD dvs ds)(hx:iJ CX X E)
 (ha:PA X (e::es) t)(hdb:(x==("__debug__":Str))=false:=by decide)(he:starEach (e::es) X.env=(false,eval e X.env)::starEach es X.env:=by rfl)(hpl:(backTo pos (starEach es X.env)).any (·.1)=false:=by rfl):
 PE X (.Call (.Name x p) (e::es) [] pos) (a3M sp dvs E t):=by
 intro pins s σ H Q I h
 refine wpAny_Call_Name_kw (wH I hg hm ?_ hdb)
 refine PySem.W.callWith_K (h₀:=X.base) I.ok.mod.kin hk (aU (ha pos pins s σ H _ I h) fun us s1 ⟨vs,H1,I1,r,q⟩=>⟨I1.kIn,?_⟩) he hpl
 exact zB F hr hb hd hx I1 r q
theorem b2T{pl:Sem Bool}(he:PE X o ta)(c:dJ X.K C)(hm:xD X.K C m f)(F:fJ X.prog X.w X.K X.mg X.base CX k f fd ps sp)(hr:bV k X.A)(hb:hZ X.K fd ps ds)(hd:bD dvs ds)(hx:iJ CX X E)(ha:PA X (e::es) t)
 (hst:starEach (e::es) X.env=(false,eval e X.env)::starEach es X.env:=by rfl)(hpl:(backTo pos (starEach es X.env)).any (·.1)=false:=by rfl)
 (ht:eval (.Call (.Attribute o m apos) (e::es) [] pos) X.env=(do
  let ov<- eval o X.env
  standAt apos.atName
  let (f,first)<- holding [ov] (getMethod ov m pl)
  callWith pos f first (backTo pos (starEach (e::es) X.env)) (backToKw pos (keywordEach [] X.env))):=by rfl):
 PE X (.Call (.Attribute o m apos) (e::es) [] pos) (yS C m sp dvs E ta t):=by
 intro pins s σ H Q I h
 refine PySem.W.methodCall_KW (pl:=pl) (aU (he pins s σ H _ I h) fun u s1 ⟨x,H1,I1,rx,a,dx,fs,ex,ea,l,q⟩=> ?_) ht
 subst ex
 obtain rfl:u=Value.ref a:=rx
 refine zK I1 ea c hm l ?_
 refine PySem.W.callWith_K (first:=[.ref a]) (h₀:=X.base) I.ok.mod.kin hm.kp (aU (ha pos pins s1 σ H1 _ I1 q) fun us s2 ⟨vs,H2,I2,r,q2⟩=>⟨I2.kIn,?_⟩) hst hpl
 exact zB (us:=.ref a::us) (vs:=.ref a::vs) F hr hb hd hx I2 (.cons rfl r) q2
theorem b48{pl:Sem Bool}(he:PE X o ta)(c:dJ X.K C)(hm:xD X.K C m f)(F:fJ X.prog X.w X.K X.mg X.base CX k f fd ps sp)(hr:bV k X.A)(hb:hZ X.K fd ps ds)(hd:bD dvs ds)(hx:iJ CX X E)
 (ht:eval (.Call (.Attribute o m apos) [] [] pos) X.env=(do
  let ov<- eval o X.env
  standAt apos.atName
  let (f,first)<- holding [ov] (getMethod ov m pl)
  callWith pos f first (backTo pos (starEach [] X.env)) (backToKw pos (keywordEach [] X.env))):=by rfl):
 PE X (.Call (.Attribute o m apos) [] [] pos) (yS C m sp dvs E ta qB):=by
 intro pins s σ H Q I h
 refine PySem.W.methodCall_KW (pl:=pl) (aU (he pins s σ H _ I h) fun u s1 ⟨x,H1,I1,rx,a,dx,fs,ex,ea,l,q⟩=> ?_) ht
 subst ex
 obtain rfl:u=Value.ref a:=rx
 refine zK I1 ea c hm l ?_
 exact PySem.W.callWith_K0 (first:=[.ref a]) I1.kIn hm.kp (zB (us:=[.ref a]) (vs:=[.ref a]) F hr hb hd hx I1 (.cons rfl .nil) q)
structure Mk(K:Fg)(C f:Addr):Prop where
 makes:PySem.W.makesIn K C=true
 init:PySem.W.findIn K (.ref C) "__init__"=some (some (.ref f))
 fn:PySem.W.isFn K (.ref f)=true
 kp:PySem.W.keepIn K (.ref C)=true
theorem a9m{pins:List (Addr×Obj)}{σ:St}{H:Hp}{s:Shared}{Q:VK}{us:List Value}{vs:List V}(M:Mk X.K C f)(F:fJ X.prog X.w X.K X.mg X.base CX k f fd ps sp)(hr:bV (k+ 1) X.A)(hb:hZ X.K fd ps ds)(hd:bD dvs ds)
 (hx:iJ CX X E)(I:aD X pins σ H s)(r:bD vs us)
 (h:∀x dx,H x=none->H dx=none->dx≠x->sp (.ref x::(vs++ dvs)) (upd (upd H dx (.own x)) x (.ins C dx [])) (fun v H2=>v= .non/\Q (.ref x) H2) E):
 wpAny (model X.prog X.w) X.A (call (.ref C) us) (EP X pins σ Q) X.xe s:=by
 have hq:=h (s.heap.objs.size+ 1) s.heap.objs.size (I.hok.fresh (Nat.le_succ _)) (I.hok.fresh (Nat.le_refl _)) (Nat.ne_of_lt (Nat.lt_succ_self _))
 have I2:=aD.made (C:=C) I
 have r2:bD (V.ref (s.heap.objs.size+ 1)::(vs++ dvs)) (Value.ref (s.heap.objs.size+ 1)::(us++ ds)):=.cons rfl (r.append hd)
 have hl:(Value.ref (s.heap.objs.size+ 1)::us++ ds).length=ps.length:=by
  have e:=r2.length
  rw[F.len _ _ _ _ hq]at e
  exact e.symm
 refine wpAny_call (b5q (f:=f) I.kIn M.makes M.init (beq_iff_eq.mp M.fn) (codeAny_mono (F.run _ X.stack _ _ ⟨Value.ref (s.heap.objs.size+ 1)::us,[]⟩ (Value.ref (s.heap.objs.size+ 1)::(us++ ds)) _ _ E (hr.make C us [])
  (I2.env0.make C us []) (hb _ (Value.ref (s.heap.objs.size+ 1)::us) I2.kIn hl) r2 hq) fun r s' hq'=> ?_))
 cases r with
 |error e=>exact hx pins σ _ _ e s' I2 hq'
 |ok fl=>
  cases fl with
  |ret u=>
   obtain⟨v,H',I3,rv,ev,q3⟩:=I2.after hq'
   subst ev
   exact⟨rv,⟨V.ref (s.heap.objs.size+ 1),H',I3,rfl,q3⟩⟩
  |next=>exact False.elim hq'
  |brk=>exact False.elim hq'
  |cont=>exact False.elim hq'
theorem b3r(M:Mk X.K C f)(F:fJ X.prog X.w X.K X.mg X.base CX k f fd ps sp)(hr:bV (k+ 1) X.A)(hg:Gl X x)(hm:X.mg x=some (.ref C))(hb:hZ X.K fd ps ds)(hd:bD dvs ds)(hx:iJ CX X E)
 (ha:PA X (e::es) t)(hdb:(x==("__debug__":Str))=false:=by decide)(he:starEach (e::es) X.env=(false,eval e X.env)::starEach es X.env:=by rfl)(hpl:(backTo pos (starEach es X.env)).any (·.1)=false:=by rfl):
 PE X (.Call (.Name x p) (e::es) [] pos) (yX C sp dvs E t):=by
 intro pins s σ H Q I h
 refine wpAny_Call_Name_kw (wH I hg hm ?_ hdb)
 refine PySem.W.callWith_K (h₀:=X.base) I.ok.mod.kin M.kp (aU (ha pos pins s σ H _ I h) fun us s1 ⟨vs,H1,I1,r,q⟩=>⟨I1.kIn,?_⟩) he hpl
 exact a9m M F hr hb hd hx I1 r q
theorem b6D(M:Mk X.K C f)(F:fJ X.prog X.w X.K X.mg X.base CX k f fd ps sp)(hr:bV (k+ 1) X.A)(hg:Gl X x)(hm:X.mg x=some (.ref C))(hb:hZ X.K fd ps ds)(hd:bD dvs ds)(hx:iJ CX X E)
 (hdb:(x==("__debug__":Str))=false:=by decide):PE X (.Call (.Name x p) [] [] pos) (yX C sp dvs E qB):=by
 intro pins s σ H Q I h
 refine wpAny_Call_Name_kw (wH I hg hm ?_ hdb)
 exact PySem.W.callWith_K0 I.kIn M.kp (a9m (us:=[]) M F hr hb hd hx I .nil h)
end
section
variable{X:Cx}{CX:fG}{k:Nat}{f C:Addr}{fd:FuncData}{ps ks:List Str}{sp:Sp}{E:XK}{x m:Str}{p pos apos kpos:Pos}{e o:Expr}{es:List Expr}{kws:List Keyword}{te ta:TE}{t tk:TA}{nm:Option Str}
structure KBinds(K:Fg)(fd:FuncData)(ps ks:List Str)(g:List Value->List Value->List Value)(gV:List V->List V->List V):Prop where
 to:∀(s:Shared) (us ws:List Value),K.In s.heap->(g us ws).length=ps.length->BindsTo s fd ⟨us,ks.zip ws⟩ (ps.zip (g us ws))
 rel:∀{vs:List V} {us:List Value} {zs:List V} {ws:List Value},bD vs us->bD zs ws->bD (gV vs zs) (g us ws)
variable{g:List Value->List Value->List Value}{gV:List V->List V->List V}
end
structure bG(N P:List Str)(sc:Scope):Prop where
 kind:sc.kind= .function
 co:sc.isCoroutine=false
 gen:sc.isGenerator=false
 nd:N.Nodup
 pre:N.take P.length=P
 par:∀x∈P,sc.names.lookup x=some .local\/ sc.names.lookup x=some .cell
 nofree:∀y∈sc.names,y.2≠ .free
theorem a9u{kindOf:Str->Option NameKind}{x:Str}:∀{binds:List (Str×Value)} {m:Str->Option Value},(∀v,(x,v)∉binds)->bindL kindOf binds m x=m x
 | [],_,_=>rfl
 |(n,v)::r,m,h=>by
  unfold bindL
  rw[a9u fun w hw=>h w (List.mem_cons_of_mem _ hw)]
  split
  ·have:x≠n:=by rintro rfl;exact h v List.mem_cons_self
   simp[this]
  ·rfl
theorem a9N{kindOf:Str->Option NameKind}{x:Str}:∀{binds:List (Str×Value)} {m:Str->Option Value},(∀v,(x,v)∉binds)->bindC kindOf binds m x=m x
 | [],_,_=>rfl
 |(n,v)::r,m,h=>by
  unfold bindC
  rw[a9N fun w hw=>h w (List.mem_cons_of_mem _ hw)]
  split
  ·rfl
  ·have:x≠n:=by rintro rfl;exact h v List.mem_cons_self
   simp[this]
theorem b1k{kindOf:Str->Option NameKind}{x:Str}{v:Value}:∀{P:List Str} {vs:List Value} {i:Nat} {m:Str->Option Value},P.Nodup->P[i]?=some x->vs[i]?=some v->kindOf x=some .local->
 bindL kindOf (P.zip vs) m x=some v
 | [],_,_,_,_,h,_,_=>by simp at h
 |_::_,[],_,_,_,_,h,_=>by simp at h
 |p::P,w::vs,0,m,nd,h1,h2,hk=>by
  simp at h1 h2;subst h1;subst h2
  show bindL kindOf ((p,w)::P.zip vs) m p=_
  unfold bindL
  rw[a9u fun v hv=>(List.nodup_cons.mp nd).1 (List.of_mem_zip hv).1,if_pos hk]
  simp
 |p::P,w::vs,i+ 1,m,nd,h1,h2,hk=>by
  show bindL kindOf ((p,w)::P.zip vs) m x=_
  unfold bindL
  exact b1k (i:=i) (List.nodup_cons.mp nd).2 (by simpa using h1) (by simpa using h2) hk
theorem a9v{kindOf:Str->Option NameKind}{x:Str}{v:Value}:∀{P:List Str} {vs:List Value} {i:Nat} {m:Str->Option Value},P.Nodup->P[i]?=some x->vs[i]?=some v->kindOf x≠some .local->
 bindC kindOf (P.zip vs) m x=some v
 | [],_,_,_,_,h,_,_=>by simp at h
 |_::_,[],_,_,_,_,h,_=>by simp at h
 |p::P,w::vs,0,m,nd,h1,h2,hk=>by
  simp at h1 h2;subst h1;subst h2
  show bindC kindOf ((p,w)::P.zip vs) m p=_
  unfold bindC
  rw[a9N fun v hv=>(List.nodup_cons.mp nd).1 (List.of_mem_zip hv).1,if_neg hk]
  simp
 |p::P,w::vs,i+ 1,m,nd,h1,h2,hk=>by
  show bindC kindOf ((p,w)::P.zip vs) m x=_
  unfold bindC
  exact a9v (i:=i) (List.nodup_cons.mp nd).2 (by simpa using h1) (by simpa using h2) hk
noncomputable def start (N:List Str) (vs:List V):St:=vs.map some++ List.replicate (N.length- vs.length) none
def eY(CX:fG)(P:Program)(w:World)(K:Fg)(mg:Str->Option Value)(base:Heap)(N:List Str)(qual:Str)(scope:Scope)(f:Addr)(cd:Value)(A:Around)(outer:List Env)(s:Shared)(H:Hp)(E:XK):Cx where
 prog:=P
 w:=w
 K:=K
 mg:=mg
 base:=base
 A:=A.deeper (envOfC qual scope s.heap.objs.size f cd)
 N:=N
 s₀:=s
 H₀:=H
 env:=envOfC qual scope s.heap.objs.size f cd
 outer:=outer
 stack:=envOfC qual scope s.heap.objs.size f cd::outer
 ex:=[]
 calm:=true
 fn:=fun _=>true
 pn:=[]
 xe:=fun e s'=>wpAny (model P w) (A.deeper (envOfC qual scope s.heap.objs.size f cd)) (leaving (envOfC qual scope s.heap.objs.size f cd) e) (fun _ s''=>CX outer H s E e s'') (fun e' s''=>CX outer H s E e' s'') s'
theorem b10{sc:Scope}{n:Nat}{x:Str}(h:sc.names.lookup x=some .cell):∃c,(cellsFrom n sc.names []).lookup x=some c:=by
 have q:=PySem.W.cellsFrom_some sc.names n [] (.inl h)
 exact Option.isSome_iff_exists.mp q
theorem b7c{CX:fG}{P:Program}{w:World}{K:Fg}{mg:Str->Option Value}{base:Heap}{N ps:List Str}{qual:Str}{scope:Scope}{f:Addr}{cd:Value}{A:Around}{outer:List Env}{s s1:Shared}{H:Hp}{E:XK}{us:List Value}{vs:List V}
 (S:bG N ps scope)(hd:A.handled=none)(e0:jW P w K mg base A outer s H)(hl:vs.length=ps.length)(r:bD vs us)
 (x:InCallC s s.heap.objs.size (bindL (envOfC qual scope s.heap.objs.size f cd).kindOf (ps.zip us) fun _=>none) (cellsFrom (s.heap.objs.size+ 1) scope.names []) (bindC (envOfC qual scope s.heap.objs.size f cd).kindOf (ps.zip us) fun _=>none) s1):
 aD (eY CX P w K mg base N qual scope f cd A outer s H E) [] (start N vs) H s1:=by
 have hpl:ps.length<=N.length:=by have:=congrArg List.length S.pre;rw[List.length_take]at this;omega
 obtain⟨h1,tk,rfl,hk⟩:=x.done
 have noA:∀b:Addr,b∉(eY CX P w K mg base N qual scope f cd A outer s H E).ex:=fun b z=>absurd (show b∈([]:List Addr) from z) (by simp)
 refine⟨⟨e0.mod,S.kind,rfl,rfl,Nat.le_refl _,fun y z c h1 h2=> ?_,fun y hy=> ?_,fun y c _ h=> ?_,fun _=>hd,Around.frames_deeper e0.frames,.inr ⟨rfl,rfl⟩,fun b z=>absurd z (noA b),e0.bs,e0.bsz,fun b _ _=>noA b,fun b z=>absurd z (noA b),e0.funs,e0.frf⟩,
  rfl,e0.bare,Un.kept hk,⟨_,x.toInCall.ns,fun i y v h1 h2 h3=> ?_⟩,fun y c h=>⟨_,x.cell y c h⟩,e0.hok.fresh (Nat.le_refl _),fun y c h=> ?_,fun p hp=>absurd (show p∈([]:List (Addr×Obj)) from hp) (by simp),e0.hok.kept hk,?_⟩
 ·exact name_of_addr x.apart (PySem.mem_of_lookup h1) (PySem.mem_of_lookup h2)
 ·have hy:scope.names.lookup y=some .cell\/ scope.names.lookup y=some .free:=hy
  rcases hy with hy|hy
  ·exact b10 hy
  ·exact absurd rfl (S.nofree _ (PySem.mem_of_lookup hy))
 ·exact Nat.le_of_lt (x.above y c (PySem.mem_of_lookup h))
 ·have hi:i<vs.length:=by
   unfold start at h2
   by_cases hi:i<vs.length
   ·exact hi
   ·rw[List.getElem?_append_right (by simpa using hi)]at h2
    rw[List.getElem?_replicate]at h2
    split at h2<;>cases h2
  have ha:vs[i]?=some v:=by
   unfold start at h2
   rw[List.getElem?_append_left (by simpa using hi),List.getElem?_map]at h2
   cases e:vs[i]? with
   |none=>rw[e]at h2;cases h2
   |some a=>rw[e]at h2;cases h2;rfl
  obtain⟨u,hu,rv⟩:=r.get ha
  have hp:ps[i]?=some y:=by
   rw[<- S.pre,List.getElem?_take_of_lt (by omega)];exact h1
  have ndP:ps.Nodup:=by rw[<- S.pre];exact S.nd.sublist (List.take_sublist _ _)
  refine⟨u,rv,?_⟩
  rcases S.par y (List.mem_of_getElem? hp)with k|k
  ·exact .inl ⟨k,b1k ndP hp hu k⟩
  ·obtain⟨c,e⟩:=b10 (n:=s.heap.objs.size+ 1) k
   refine .inr ⟨.inl k,c,e,?_⟩
   have q:=x.cell y c e
   rw[a9v ndP hp hu (by show scope.names.lookup y≠_;rw[k];decide)]at q
   exact q
 ·exact e0.hok.fresh (Nat.le_of_lt (x.above y c (PySem.mem_of_lookup h)))
 ·unfold start
  show _=N.length
  rw[List.length_append,List.length_map,List.length_replicate]
  omega
theorem a4P{CX:fG}{P:Program}{w:World}{K:Fg}{mg:Str->Option Value}{base:Heap}{k:Nat}{f:Addr}{name qual:Str}{params:Arguments}{body:List Stmt}{scope:Scope}{dV kV doc pm cdv ct oc:Value}{an od:Option Addr}
 {osl:Array (Option Value)}{N ps:List Str}{sp:Sp}(lk:K.lookup f=some ⟨oc,od,.func (PySem.W.fnOf name qual params body scope dV kV doc pm an cdv ct),osl⟩)(hcd:PySem.W.codeIn K cdv qual=true)(S:bG N ps scope)
 (len:∀vs H Q E,sp vs H Q E->vs.length=ps.length)
 (hbody:∀(A:Around) (outer:List Env) (s:Shared) (H:Hp) (vs:List V) (Q:VK) (E:XK),bV k (A.deeper (envOfC qual scope s.heap.objs.size f cdv))->sp vs H Q E->
  ∃t,dQ (eY CX P w K mg base N qual scope f cdv A outer s H E) body t/\t {nx:=fun _ H'=>Q .non H',rt:=Q} (start N vs) H):
 fJ P w K mg base CX (k+ 1) f (PySem.W.fnOf name qual params body scope dV kV doc pm an cdv ct) ps sp:=by
 refine⟨len,fun A outer s H args us vs Q E hr e0 hb r hsp=> ?_⟩
 have hl:=len _ _ _ _ hsp
 have KX:K.In s.heap:=e0.mod.kin.keeps fun b o e=>(e0.bs b o e).1
 have lim:s.heap.NoLimit:=e0.mod.nolimit.keeps fun b o e=>(e0.bs b o e).1
 have hkind:∀y∈ps.zip us,scope.names.lookup y.1=some .local\/ (scope.names.lookup y.1=some .cell/\((cellsFrom (s.heap.objs.size+ 1) scope.names []).lookup y.1).isSome=true):=fun⟨n,v⟩ hy=>by
  rcases S.par n (List.of_mem_zip hy).1 with q|q
  ·exact .inl q
  ·exact .inr ⟨q,PySem.W.cellsFrom_some _ _ _ (.inl q)⟩
 refine codeAny_call_function hr.depth (KX _ _ lk) rfl S.co S.gen rfl (PySem.W.codeRec_of KX hcd) (hb _ _ _ _ ?_)
 refine wpAny_newFunctionEnv_cells S.kind hkind fun env he s1 x=> ?_
 subst he
 refine⟨lim.keeps x.toInCall.keep,codeAny_func ?_⟩
 obtain⟨t,ht,hq⟩:=hbody A outer s H vs Q E (hr.deeper _) hsp
 have I:aD (eY CX P w K mg base N qual scope f cdv A outer s H E) [] (start N vs) H s1:=b7c S hr.hd e0 hl r x
 refine wpAny_mono (ht [] s1 (start N vs) H _ I hq) (fun fl s' hs=> ?_) fun e s' hs=>hs
 have fin:∀{σ':St} {H':Hp} {v:V} {u:Value},aD (eY CX P w K mg base N qual scope f cdv A outer s H E) [] σ' H' s'->bF v u->Q v H'->CE outer P w H s Q u s':=
  fun{σ' H' v u} J rv q=>⟨v,H',J.os,J.bare,J.base,J.hok,rv,q⟩
 cases fl with
 |ret u=>
  obtain⟨v,σ',H',J,rv,q⟩:=hs
  exact fin J rv q
 |next=>
  obtain⟨σ',H',J,q⟩:=hs
  exact fin (v:=V.non) (u:=Value.none) J rfl q
 |brk=>
  obtain⟨_,_,_,q⟩:=hs
  exact False.elim q
 |cont=>
  obtain⟨_,_,_,q⟩:=hs
  exact False.elim q
section
variable{X:Cx}{x:Str}{p pos:Pos}{e:Expr}{es:List Expr}{t:TA}{id T:String}{r:List V->Hp->VK->Prop}
def tCB(r:List V->Hp->VK->Prop)(t:TA):TE:=fun σ H Q=>t σ H fun vs H1=>r vs H1 Q
theorem dN(hc:jQ X (.builtin id) r)(hg:Gl X x)(hm:X.mg x=none)(hv:bootBuiltins x=some (.builtin id))(ha:PA X (e::es) t)(hn:x≠ "__name__":=by decide)(hdb:(x==("__debug__":Str))=false:=by decide)
 (he:starEach (e::es) X.env=(false,eval e X.env)::starEach es X.env:=by rfl)(hpl:(backTo pos (starEach es X.env)).any (·.1)=false:=by rfl):PE X (.Call (.Name x p) (e::es) [] pos) (tCB r t):=by
 intro pins s σ H Q I h
 refine wpAny_Call_Name_kw (pV I hg hm hv ?_ hn hdb)
 exact PyProof.Rows.callWith_builtin1 (aU (ha pos pins s σ H _ I h) fun us s1 ⟨vs,H1,I1,r1,q1⟩=>hc pins s1 σ H1 vs us Q I1 r1 q1) he hpl
theorem kE(hc:jQ X (.type T) r)(hg:Gl X x)(hm:X.mg x=none)(hv:bootBuiltins x=some (.type T))(ha:PA X (e::es) t)(hn:x≠ "__name__":=by decide)(hdb:(x==("__debug__":Str))=false:=by decide)
 (he:starEach (e::es) X.env=(false,eval e X.env)::starEach es X.env:=by rfl)(hpl:(backTo pos (starEach es X.env)).any (·.1)=false:=by rfl):PE X (.Call (.Name x p) (e::es) [] pos) (tCB r t):=by
 intro pins s σ H Q I h
 refine wpAny_Call_Name_kw (pV I hg hm hv ?_ hn hdb)
 exact PyProof.Rows.callWith_type1 (aU (ha pos pins s σ H _ I h) fun us s1 ⟨vs,H1,I1,r1,q1⟩=>hc pins s1 σ H1 vs us Q I1 r1 q1) he hpl
end
end L2
namespace HT
open PySem PyProof.Rows
section
variable{prog:Program}{w:World}{A:Around}{E:Value->Shared->Prop}{s:Shared}
noncomputable def sIx(n d:Nat):Option Int->Nat
 |none=>d
 |some v=>if v<0 then(v+ (n:Int)).toNat else min v.toNat n
end
end HT
namespace L2
open PySem PySem.Spec PyProof.Rows
abbrev TO:=St->Hp->(Option Int->Hp->Prop)->Prop
theorem b5b{ns:List Int}:∀{us:List Value},bD (ns.map V.int) us->IntsAre us ns:=by
 induction ns with
 |nil=>intro us r;rw[List.map_nil]at r;cases r;exact .nil
 |cons n ns ih=>
  intro us r
  rw[List.map_cons]at r
  cases r with
  |cons r1 r2=>
   obtain⟨t,e⟩:=r1
   subst e
   exact .cons n t (ih r2)
section
variable{X:Cx}{e:Expr}{te:TE}{lo hi:Option Expr}{tl th:TO}{pos p2:Pos}
def vR(X:Cx)(r:V->Option Int->Option Int->Hp->VK->Prop):Prop:=
 ∀(pins:List (Addr×Obj)) (s:Shared) (σ:St) (H:Hp) (x:V) (v vl vu:Value) (lo hi:Option Int) (sl:Addr) (Q:VK),aD X pins σ H s->bF x v->s.heap.IsSliceOf sl vl vu .none->IsPart vl lo->IsPart vu hi->r x lo hi H Q->
  ∃T id,typeLookup (.type T) "__getitem__"=pure (some (.builtin id))/\s.TypeIs v T/\wpAny (model X.prog X.w) X.A (getItem v (.ref sl)) (EP X pins σ Q) X.xe s
theorem vR.or{r r':V->Option Int->Option Int->Hp->VK->Prop}(h:vR X r)(h':vR X r'):vR X (fun x lo hi H Q=>r x lo hi H Q\/ r' x lo hi H Q):=by
 intro pins s σ H x v vl vu lo hi sl Q I rx hs pl pu q
 rcases q with q|q
 ·exact h pins s σ H x v vl vu lo hi sl Q I rx hs pl pu q
 ·exact h' pins s σ H x v vl vu lo hi sl Q I rx hs pl pu q
noncomputable def yD (xs:List V) (lo hi:Option Int):List V:=(xs.drop (HT.sIx xs.length 0 lo)).take (HT.sIx xs.length xs.length hi- HT.sIx xs.length 0 lo)
theorem b2y(xs:List V)(lo hi:Option Int):(yD xs lo hi).length<=xs.length:=by
 unfold yD
 rw[List.length_take,List.length_drop]
 omega
end
def jK(n:Nat)(i:Int):Option Nat:=if 0<=i then(if i<n then some i.toNat else none) else if-(n:Int)<=i then some (i+ n).toNat else none
def cG{α:Type}(xs:List α)(i:Int):Option α:=(jK xs.length i).bind fun j=>xs[j]?
theorem a93{n:Nat}{i:Int}{j:Nat}(h:jK n i=some j):seqIndex? i n=some j/\j<n/\ -(n:Int)<=i/\i<n:=by
 unfold jK at h
 by_cases h0:0<=i
 ·rw[if_pos h0]at h
  by_cases h1:i<n
  ·rw[if_pos h1]at h
   have e:i.toNat=j:=Option.some.inj h
   exact⟨by rw[seqIndex_of h0 h1,e],by omega,by omega,h1⟩
  ·rw[if_neg h1]at h;cases h
 ·rw[if_neg h0]at h
  by_cases h1: -(n:Int)<=i
  ·rw[if_pos h1]at h
   have e:(i+ n).toNat=j:=Option.some.inj h
   exact⟨by rw[seqIndex_neg (by omega) h1,e],by omega,h1,by omega⟩
  ·rw[if_neg h1]at h;cases h
theorem a1C{α:Type}{xs:List α}{i:Int}{v:α}(h:cG xs i=some v):∃j,seqIndex? i xs.length=some j/\xs[j]?=some v/\j<xs.length/\ -(xs.length:Int)<=i/\i<xs.length:=by
 unfold cG at h
 cases e:jK xs.length i with
 |none=>rw[e]at h;cases h
 |some j=>
  rw[e]at h
  obtain⟨h1,h2,h3,h4⟩:=a93 e
  exact⟨j,h1,h,h2,h3,h4⟩
theorem b0m{α:Type}{xs:List α}{j:Nat}{v:α}(h:xs[j]?=some v):cG xs (j:Int)=some v:=by
 have hj:j<xs.length:=(List.getElem?_eq_some_iff.mp h).1
 have e:jK xs.length (j:Int)=some j:=by
  unfold jK
  rw[if_pos (by omega),if_pos (by omega)];simp
 unfold cG;rw[e];exact h
theorem a97{α:Type}(xs:List α)(v:α):cG (xs++ [v]) (-1)=some v:=by
 have hl:(xs++ [v]).length=xs.length+ 1:=by simp
 have e:jK (xs++ [v]).length (-1)=some xs.length:=by
  unfold jK
  rw[hl,if_neg (by decide),if_pos (by omega)]
  congr 1
  omega
 unfold cG
 rw[e]
 show(xs++ [v])[xs.length]?=some v
 simp
def b65(b:Expr):Prop:=∀o i,subscripted b false o i=operate [o,i] (getItem o i)
def yW(X:Cx)(r:R2):Prop:=
 ∀(value slice:Expr) (pins:List (Addr×Obj)) (s:Shared) (σ:St) (H:Hp) (x y:V) (v u:Value) (Q:VK),aD X pins σ H s->bF x v->bF y u->r x y H Q->
  subscripted slice false v u=operate [v,u] (getItem v u)->wpAny (model X.prog X.w) X.A (subscriptTail value slice v u) (EP X pins σ Q) X.xe s
def MtR(X:Cx)(id:String)(r:V->List V->Hp->VK->Prop):Prop:=
 ∀(pins:List (Addr×Obj)) (s:Shared) (σ:St) (H:Hp) (x:V) (xs:List V) (v:Value) (us:List Value) (Q:VK),aD X pins σ H s->bF x v->bD xs us->r x xs H Q->
  wpAny (model X.prog X.w) X.A (call (.builtin id) (v::us)) (EP X pins σ Q) X.xe s
section
variable{X:Cx}{a b:Expr}{ta tb:TE}{pos:Pos}
theorem cT{r:R2}(hr:yW X r)(ha:PE X a ta)(hb:PE X b tb)(hs:b65 b):PE X (.Subscript a b pos) (tOp r ta tb):=by
 intro pins s σ H Q I h
 exact Subscript_ (binT ha hb I h fun v u s2 x y H2 I2 rx ry q=>hr a b pins s2 σ H2 x y v u Q I2 rx ry q (hs _ _))
noncomputable def rIxL (K:Fg):R2:=fun x y H Q=>∃p xs i v,x= .ref p/\y= .int i/\aN K H p xs/\cG xs i=some v/\Q v H
noncomputable def rIxT (K:Fg):R2:=fun x y H Q=>∃p xs i v,x= .ref p/\y= .int i/\cF K H p xs/\cG xs i=some v/\Q v H
noncomputable def rIxS:R2:=fun x y H Q=>∃z i c,x= .str z/\y= .int i/\z.length<=sizeLine/\cG z.cps.toList i=some c/\Q (.str ⟨#[c]⟩) H
theorem gG:yW X (rIxL X.K):=by
 intro value slice pins s σ H x y v u Q I rx ry h hs
 obtain⟨p,xs,i,z,rfl,rfl,hq,he,q⟩:=h
 cases rx
 obtain⟨t,rfl⟩:=ry
 obtain⟨its,r,pl,hz⟩:=I.list hq
 obtain⟨j,h1,h2,h3,h4,h5⟩:=a1C he
 obtain⟨w,ew,rw'⟩:=r.get h2
 have hl:=r.length
 have hn:=pC
 have fin:EP X pins σ Q w s:=⟨z,H,I,rw',q⟩
 by_cases h0:0<=i
 ·have hj:i.toNat=j:=by
   rw[seqIndex_of h0 h5]at h1
   exact Option.some.inj h1
  exact item_listR pl.isList h0 (by omega) (by rw[hj];simpa using ew) fin hs
 ·have hj:(i+ (its.toArray.size:Int)).toNat=j:=by
   rw[seqIndex_neg (by omega) h4]at h1
   rw[List.size_toArray,<- hl]
   exact Option.some.inj h1
  exact subscriptTail_builtinR (x:=w) pl.isList.typeIs slot_list_getitem.lookup
   (wpAny_getItem_list_neg (Q:=fun r s'=>r=w/\EP X pins σ Q r s') pl.isList (by omega) (by rw[List.size_toArray]<;>omega) (by omega) (by rw[hj];simpa using ew) ⟨rfl,fin⟩) hs
theorem fL:yW X (rIxT X.K):=by
 intro value slice pins s σ H x y v u Q I rx ry h hs
 obtain⟨p,xs,i,z,rfl,rfl,hq,he,q⟩:=h
 cases rx
 obtain⟨t,rfl⟩:=ry
 obtain⟨its,r,pl,hz⟩:=I.tuple hq
 obtain⟨j,h1,h2,h3,h4,h5⟩:=a1C he
 obtain⟨w,ew,rw'⟩:=r.get h2
 have hl:=r.length
 have hn:=pC
 have fin:EP X pins σ Q w s:=⟨z,H,I,rw',q⟩
 exact subscriptTail_builtinR (x:=w) pl.typeIs slot_tuple_getitem.lookup
  (getItem_tuple (j:=j) (Q:=fun r s'=>r=w/\EP X pins σ Q r s') pl (by omega) (by omega) (by rw[List.size_toArray,<- hl];exact h1) (by simpa using ew) ⟨rfl,fin⟩) hs
theorem b6Q:yW X rIxS:=by
 intro value slice pins s σ H x y v u Q I rx ry h hs
 obtain⟨z,i,c,rfl,rfl,hz,he,q⟩:=h
 obtain⟨t,rfl⟩:=rx
 obtain⟨t',rfl⟩:=ry
 obtain⟨j,h1,h2,h3,h4,h5⟩:=a1C he
 have hl:z.cps.toList.length=z.length:=by simp[Str.length]
 rw[hl]at h1 h4 h5
 have hn:=pC
 exact tail_any (typeIs_str s z t) slot_str_getitem.lookup (getItem_str (c:=c) (by
  have e1:decide (i< -(2^ 63:Int))=false:=decide_eq_false (by omega)
  have e2:decide (i>=2^ 63)=false:=decide_eq_false (by omega)
  rw[e1,e2,Bool.or_false]) (by rw[h1];simpa using h2) ⟨.str ⟨#[c]⟩,H,I.tok _,⟨_,rfl⟩,q⟩) hs
theorem b4t(its:List Value)(n j:Nat)(u:Value):Obj.mapSeq (·.setIfInBounds j u) {cls:=.type "list",data:=.seq its.toArray n}={cls:=.type "list",data:=.seq (its.set j u).toArray n}:=by
 simp[Obj.mapSeq]
theorem aD.lst{pins:List (Addr×Obj)}{σ:St}{H:Hp}{s:Shared}{p:Addr}{xs:List V}(I:aD X pins σ H s)(h:H p=some (.lst xs)):
 ∃(its:List Value) (n:Nat),bD xs its/\s.heap.get? p=some {cls:=.type "list",data:=.seq its.toArray n} /\xs.length<=sizeLine:=by
 obtain⟨z,its,n,r,e⟩:=I.hok p _ h
 exact⟨its,n,r,e,z⟩
theorem aD.lstUpd{pins:List (Addr×Obj)}{σ:St}{H:Hp}{s:Shared}{p:Addr}{xs ys:List V}{its its':List Value}{n n':Nat}{f:Obj->Obj}(I:aD X pins σ H s)(h:H p=some (.lst xs))
 (ho:s.heap.get? p=some {cls:=.type "list",data:=.seq its.toArray n})(hf:f {cls:=.type "list",data:=.seq its.toArray n}={cls:=.type "list",data:=.seq its'.toArray n'})(r:bD ys its')(hz:ys.length<=sizeLine)(t:Nat):
 aD X pins σ (upd H p (.lst ys)) {s with heap:=s.heap.update p f,toks:=t}:=by
 have e:(s.heap.update p f).get? p=some {cls:=.type "list",data:=.seq its'.toArray n'}:=by
  rw[Heap.get?_update_self f ho (by rw[hf]<;>rfl),hf]
 refine I.write (x:=p) (e:=p) (by rw[h];trivial) (.inl rfl) (fun b u hb q=>(Heap.get?_update_other _ _ (Ne.symm hb)).trans q) ⟨_,e⟩ ?_
 exact⟨hz,its',n',r,e⟩
def b5P:V->V->V->Hp->(Hp->Prop)->Prop:=fun o i v H Q=>∃p xs k j,o= .ref p/\i= .int k/\H p=some (.lst xs)/\jK xs.length k=some j/\Q (upd H p (.lst (xs.set j v)))
theorem a6y:PSet X b5P:=by
 intro pins s σ H o i v ov iv u Q I ro ri rv h
 obtain⟨p,xs,k,j,rfl,rfl,hp,hj,q⟩:=h
 cases ro
 obtain⟨t,rfl⟩:=ri
 obtain⟨its,n,r,ho,hz⟩:=I.lst hp
 obtain⟨h1,h2,h3,h4⟩:=a93 hj
 have hl:=r.length
 have hn:=pC
 have I':aD X pins σ (upd H p (.lst (xs.set j v))) {s with heap:=s.heap.update p (Obj.mapSeq (·.setIfInBounds j u))}:=
  I.lstUpd hp ho (b4t its n j u) (r.set rv j) (by rw[List.length_set];exact hz) s.toks
 by_cases h0:0<=k
 ·have hk:k.toNat=j:=by
   rw[seqIndex_of h0 h4]at h1
   exact Option.some.inj h1
  exact PySem.W.ki_setAt ho h0 (by omega) (by rw[List.size_toArray,<- hl];exact h4) (by rw[hk];exact⟨_,I',q⟩)
 ·have hk:(k+ (its.toArray.size:Int)).toNat=j:=by
   rw[seqIndex_neg (by omega) h3]at h1
   rw[List.size_toArray,<- hl]
   exact Option.some.inj h1
  exact PySem.W.ki_setBack ho (by omega) (by rw[List.size_toArray,<- hl];exact h3) (by omega) (by rw[hk];exact⟨_,I',q⟩)
theorem b4f(lo hi:Option Int)(n:Nat):(sliceBounds lo hi none n).1=((HT.sIx n 0 lo:Nat):Int)/\(sliceBounds lo hi none n).2.1=((HT.sIx n n hi:Nat):Int)/\(sliceBounds lo hi none n).2.2=1:=by
 refine⟨?_,?_,rfl⟩
 ·cases lo with
  |none=>simp[sliceBounds,HT.sIx]
  |some i=>
   simp only[sliceBounds,HT.sIx,Option.getD_none,show(1:Int)>0 by decide,if_true]
   by_cases h:i<0
   ·simp only[h,if_true]<;>omega
   ·simp only[h,if_false]<;>omega
 ·cases hi with
  |none=>simp[sliceBounds,HT.sIx]
  |some i=>
   simp only[sliceBounds,HT.sIx,Option.getD_none,show(1:Int)>0 by decide,if_true]
   by_cases h:i<0
   ·simp only[h,if_true]<;>omega
   ·simp only[h,if_false]<;>omega
theorem b5B(its:List Value)(lo hi:Option Int):slicePick its.toArray lo hi none=((its.drop (HT.sIx its.length 0 lo)).take (HT.sIx its.length its.length hi- HT.sIx its.length 0 lo)).toArray:=by
 obtain⟨h1,h2,h3⟩:=b4f lo hi its.toArray.size
 unfold slicePick
 rw[h1,h2,h3]
 simp only[sliceRange_one,pick_run,List.size_toArray]<;>rfl
def rSlL(K:Fg):V->Option Int->Option Int->Hp->VK->Prop:=fun x lo hi H Q=>∃a xs,x= .ref a/\aN K H a xs/\∀p,H p=none->Q (.ref p) (upd H p (.lst (yD xs lo hi)))
theorem sl_list:vR X (rSlL X.K):=by
 intro pins s σ H x v vl vu lo hi sl Q I rx hs pl pu h
 obtain⟨a,xs,rfl,hx,q⟩:=h
 cases rx
 obtain⟨its,r,ht,hz⟩:=I.list hx
 have hlen:=r.length
 refine⟨"list",_,slot_list_getitem.lookup,ht.isList.typeIs,?_⟩
 refine wpAny_getItem_list_slice ht.isList hs pl pu .none (by simp) ?_ (by rw[List.size_toArray]<;>omega)
 rw[b5B,<- hlen]
 refine⟨.ref s.heap.objs.size,_,I.laid (t':=s.toks) (o:=.lst (yD xs lo hi)) (fun b ob q=>Heap.get?_push_of_some _ q) (Nat.le_refl _) ?_,rfl,q _ (I.hok.fresh (Nat.le_refl _))⟩
 exact⟨Nat.le_trans (b2y xs lo hi) hz,_,0,(r.drop (HT.sIx xs.length 0 lo)).take (HT.sIx xs.length xs.length hi- HT.sIx xs.length 0 lo),Heap.get?_push_size _ rfl⟩
noncomputable def lP:V->Bool
 | .non=>true
 | .bl _=>true
 | .int _=>true
 | .str _=>true
 |_=>false
noncomputable def kQ:V->V->Bool
 | .non,.non=>true
 | .bl a,.bl b=>a==b
 | .bl a,.int b=>(if a then 1 else 0)==b
 | .int a,.bl b=>a==(if b then 1 else 0)
 | .int a,.int b=>a==b
 | .str a,.str b=>a==b
 |_,_=>false
theorem b4Y{A:Around}{s:Shared}{y x:V}{u v:Value}(ry:bF y u)(rx:bF x v)(fy:lP y=true)(fx:lP x=true):SeqAt.EqAt A s u v (kQ y x):=by
 cases y with
 |non=>
  cases ry
  cases x with
  |non=>cases rx;exact SeqAt.EqAt.same _
  |bl b=>cases rx;exact SeqAt.EqAt.none_bool b
  |int b=>obtain⟨t,rfl⟩:=rx;exact SeqAt.EqAt.none_int b t
  |str b=>obtain⟨t,rfl⟩:=rx;exact SeqAt.EqAt.none_str b t
  |_=>exact absurd (show false=true from fx) Bool.false_ne_true
 |bl a=>
  cases ry
  cases x with
  |non=>cases rx;exact SeqAt.EqAt.bool_none a
  |bl b=>cases rx;exact SeqAt.EqAt.bool_bool a b
  |int b=>obtain⟨t,rfl⟩:=rx;exact SeqAt.EqAt.bool_int a b t
  |str b=>obtain⟨t,rfl⟩:=rx;exact SeqAt.EqAt.bool_str a b t
  |_=>exact absurd (show false=true from fx) Bool.false_ne_true
 |int a=>
  obtain⟨t',rfl⟩:=ry
  cases x with
  |non=>cases rx;exact SeqAt.EqAt.int_none a t'
  |bl b=>cases rx;exact SeqAt.EqAt.int_bool a t' b
  |int b=>obtain⟨t,rfl⟩:=rx;exact SeqAt.EqAt.int_int a t' b t
  |str b=>obtain⟨t,rfl⟩:=rx;exact SeqAt.EqAt.int_str a t' b t
  |_=>exact absurd (show false=true from fx) Bool.false_ne_true
 |str a=>
  obtain⟨t',rfl⟩:=ry
  cases x with
  |non=>cases rx;exact SeqAt.EqAt.str_none a t'
  |bl b=>cases rx;exact SeqAt.EqAt.str_bool a t' b
  |int b=>obtain⟨t,rfl⟩:=rx;exact SeqAt.EqAt.str_int a t' b t
  |str b=>obtain⟨t,rfl⟩:=rx;exact SeqAt.EqAt.str_str a t' b t
  |_=>exact absurd (show false=true from fx) Bool.false_ne_true
 |_=>exact absurd (show false=true from fy) Bool.false_ne_true
noncomputable def gZ (x:V) (u:Value):Bool:=match u with
 | .none=>kQ .non x
 | .bool b=>kQ (.bl b) x
 | .int i _=>kQ (.int i) x
 | .str z _=>kQ (.str z) x
 |_=>false
theorem a9C{x y:V}{u:Value}(r:bF y u)(f:lP y=true):gZ x u=kQ y x:=by
 cases y with
 |non=>cases r;rfl
 |bl b=>cases r;rfl
 |int i=>obtain⟨t,rfl⟩:=r;rfl
 |str z=>obtain⟨t,rfl⟩:=r;rfl
 |_=>exact absurd (show false=true from f) Bool.false_ne_true
theorem wT{x:V}:∀{xs:List V} {us:List Value},bD xs us->xs.all lP=true->us.any (gZ x)=xs.any fun y=>kQ y x
 |_,_,.nil,_=>rfl
 |y::xs,u::us,.cons r t,f=>by
  rw[List.all_cons,Bool.and_eq_true]at f
  rw[List.any_cons,List.any_cons,a9C r f.1,wT t f.2]
theorem rX{A:Around}{s:Shared}{x:V}{v:Value}(rx:bF x v)(fx:lP x=true):∀{xs:List V} {us:List Value},bD xs us->xs.all lP=true->∀u∈us,SeqAt.EqAt A s u v (gZ x u)
 |_,_,.nil,_=>fun u hu=>by cases hu
 |y::xs,u::us,.cons r t,f=>fun u' hu=>by
  rw[List.all_cons,Bool.and_eq_true]at f
  rcases List.mem_cons.mp hu with rfl|hu
  ·rw[a9C r f.1];exact b4Y r rx f.1 fx
  ·exact rX rx fx t f.2 u' hu
noncomputable def iL (x:V) (xs:List V):Bool:=xs.any fun y=>kQ y x
noncomputable def rIn (K:Fg) (neg:Bool):R2:=fun x y H Q=>∃p xs,y= .ref p/\(aN K H p xs\/ cF K H p xs)/\lP x=true/\xs.all lP=true/\Q (.bl (if neg then !iL x xs else iL x xs)) H
theorem a7Q:dU X (compareOp .In) (rIn X.K false):=by
 intro pins s σ H x y v u Q I rx ry h
 obtain⟨p,xs,rfl,hq,fx,fs,q⟩:=h
 cases ry
 rcases hq with hq|hq
 ·obtain⟨its,r,pl,hz⟩:=I.list hq
  refine SeqAt.in_listAt (gZ x) pl.isList (fun w hw=>rX rx fx r fs w (by simpa using hw)) ⟨.bl _,H,I,rfl,?_⟩
  rw[show its.toArray.any (gZ x)=its.any (gZ x)by simp,wT r fs]
  exact q
 ·obtain⟨its,r,pl,hz⟩:=I.tuple hq
  refine SeqAt.in_tupleAt (gZ x) pl (fun w hw=>rX rx fx r fs w (by simpa using hw)) ⟨.bl _,H,I,rfl,?_⟩
  rw[show its.toArray.any (gZ x)=its.any (gZ x)by simp,wT r fs]
  exact q
theorem a8D:dU X (compareOp .NotIn) (rIn X.K true):=by
 intro pins s σ H x y v u Q I rx ry h
 obtain⟨p,xs,rfl,hq,fx,fs,q⟩:=h
 cases ry
 rcases hq with hq|hq
 ·obtain⟨its,r,pl,hz⟩:=I.list hq
  refine SeqAt.notIn_listAt (gZ x) pl.isList (fun w hw=>rX rx fx r fs w (by simpa using hw)) ⟨.bl _,H,I,rfl,?_⟩
  rw[show its.toArray.any (gZ x)=its.any (gZ x)by simp,wT r fs]
  exact q
 ·obtain⟨its,r,pl,hz⟩:=I.tuple hq
  refine SeqAt.notIn_tupleAt (gZ x) pl (fun w hw=>rX rx fx r fs w (by simpa using hw)) ⟨.bl _,H,I,rfl,?_⟩
  rw[show its.toArray.any (gZ x)=its.any (gZ x)by simp,wT r fs]
  exact q
theorem lV:jQ X (.type "list") (fun xs H Q=>∃p ys,xs= [.ref p] /\(aN X.K H p ys\/ cF X.K H p ys)/\∀l,H l=none->Q (.ref l) (upd H l (.lst ys))):=by
 intro pins s σ H xs us Q I r h
 obtain⟨p,ys,rfl,hq,q⟩:=h
 obtain⟨u,rfl,rx⟩:=nQ r
 cases rx
 have fin:∀(its:List Value),bD ys its->ys.length<=sizeLine->∀(h':Heap) (c':Nat),(∀b o',s.heap.get? b=some o'->h'.get? b=some o')->
  h'.get? s.heap.objs.size=some {cls:=.type "list",dict:=none,data:=.seq its.toArray c',slots:= #[]} ->EP X pins σ Q (.ref s.heap.objs.size) {s with heap:=h'}:=fun its r' hz h' c' kp e=>
  ⟨.ref s.heap.objs.size,_,I.laid (t':=s.toks) kp (Nat.le_refl _) (show cY X.prog X.w _ h' _ (.lst ys) from⟨hz,its,c',r',e⟩),rfl,q _ (I.hok.fresh (Nat.le_refl _))⟩
 rcases hq with hq|hq
 ·obtain⟨its,r',pl,hz⟩:=I.list hq
  have hlen:=r'.length
  obtain⟨o,ho,hc,n,hd⟩:=pl.isList
  exact call_list_seq p (.inl rfl) ho hc hd (fun h' c' kp e=>fin its r' hz h' c' kp e) (by simp only[List.size_toArray]<;>omega)
 ·obtain⟨its,r',pl,hz⟩:=I.tuple hq
  have hlen:=r'.length
  obtain⟨o,ho,hc,n,hd⟩:=pl
  exact call_list_seq p (.inr rfl) ho hc hd (fun h' c' kp e=>fin its r' hz h' c' kp e) (by simp only[List.size_toArray]<;>omega)
def tyV(K:Fg)(T:String)(x:V)(H:Hp):Prop:=match x with
 | .str _=>T= "str"
 | .int _=>T= "int"
 | .ref p=>(T= "list" /\∃xs,aN K H p xs)\/ (T= "tuple" /\∃o,K.lookup p=some o/\o.cls= .type "tuple" /\o.dict=none)\/
  (T= "dict" /\((∃kvs,H p=some (.dK kvs))\/ ∃kvs,H p=some (.dT kvs)))\/ (T= "set" /\∃S n,H p=some (.set S n))
 |_=>False
theorem b1N{pins:List (Addr×Obj)}{σ:St}{H:Hp}{s:Shared}{T:String}{x:V}{v:Value}(I:aD X pins σ H s)(r:bF x v)(ty:tyV X.K T x H):
 s.TypeIs v T/\∀a,v= .ref a->∃ob,s.heap.get? a=some ob/\ob.dict=none:=by
 cases x with
 |str z=>
  obtain⟨t,rfl⟩:=r
  cases (show T= "str" from ty)
  exact⟨typeIs_str s z t,fun _ e=>nomatch e⟩
 |int i=>
  obtain⟨t,rfl⟩:=r
  cases (show T= "int" from ty)
  exact⟨typeIs_int s i t,fun _ e=>nomatch e⟩
 |ref p=>
  cases r
  rcases ty with⟨rfl,xs,hq⟩|⟨rfl,o,hk,hc,hd⟩|⟨rfl,hk⟩|⟨rfl,S,n,hk⟩
  ·obtain⟨its,_,pl,_⟩:=I.list hq
   refine⟨pl.isList.typeIs,fun a e=> ?_⟩
   cases e
   obtain⟨o,n,e,c,hd,_⟩:=pl
   exact⟨o,e,hd⟩
  ·refine⟨⟨o,I.kIn p o hk,hc⟩,fun a e=> ?_⟩
   cases e
   exact⟨o,I.kIn _ o hk,hd⟩
  ·have z:∃o,s.heap.get? p=some o/\o.ExactDict:=by
    rcases hk with⟨kvs,hk⟩|⟨kvs,hk⟩
    ·obtain⟨_,_,_,_,o,_,_,e,ex,_⟩:=I.hok p _ hk
     exact⟨o,e,ex⟩
    ·obtain⟨_,_,_,_,o,_,_,e,ex,_⟩:=I.hok p _ hk
     exact⟨o,e,ex⟩
   obtain⟨o,e,ex⟩:=z
   refine⟨⟨o,e,ex.1⟩,fun a e2=> ?_⟩
   cases e2
   exact⟨o,e,ex.2.1⟩
  ·obtain⟨o,_,_,_,e,ex,_⟩:=I.hok p _ hk
   refine⟨⟨o,e,ex.1⟩,fun a e2=> ?_⟩
   cases e2
   exact⟨o,e,ex.2.1⟩
 |_=>exact False.elim ty
def tBM0(K:Fg)(T:String)(r:V->List V->Hp->VK->Prop)(to:TE):TE:=fun σ H Q=>to σ H fun x H1=>tyV K T x H1/\r x [] H1 Q
def tBM(K:Fg)(T:String)(r:V->List V->Hp->VK->Prop)(to:TE)(t:TA):TE:=fun σ H Q=>to σ H fun x H1=>tyV K T x H1/\t σ H1 fun xs H2=>r x xs H2 Q
variable{o e:Expr}{es:List Expr}{to:TE}{t:TA}{name:Str}{apos cpos:Pos}{T id:String}{r:V->List V->Hp->VK->Prop}
theorem a8H(pa:PlainAttrs T)(slot:Slot T name id)(hty:typeOf (.builtin id)=pure (.type "method_descriptor"))(hm:MtR X id r)(ho:PE X o to)
 (hbase:attributeBase o name X.env (eval o X.env)=eval o X.env:=by rfl)(hline:(apos.endLine==cpos.line)=true:=by rfl):PE X (.Call (.Attribute o name apos) [] [] cpos) (tBM0 X.K T r to):=by
 intro pins s σ H Q I h
 refine wpAny_Call_method0_late hbase hline (aU (ho pins s σ H _ I h) fun v s1 ⟨x,H1,I1,r1,ty,q1⟩=> ?_)
 obtain⟨h1,h2⟩:=b1N I1 r1 ty
 exact⟨T,id,pa,slot,hty,h1,h2,Calls.callWith_builtin rfl (PySem.evalArgs_none (hm pins s1 σ H1 x [] v [] Q I1 r1 .nil q1))⟩
theorem iC(pa:PlainAttrs T)(slot:Slot T name id)(hty:typeOf (.builtin id)=pure (.type "method_descriptor"))(hm:MtR X id r)(ho:PE X o to)(ha:PA X (e::es) t)
 (hbase:attributeBase o name X.env (eval o X.env)=eval o X.env:=by rfl)
 (hfew:((backTo cpos (starEach (e::es) X.env)).all (fun x=> !x.1)&&(backToKw cpos (keywordEach [] X.env)).all (fun x=>x.1.isSome)
  &&decide ((e::es).length+ ([]:List Keyword).length+ (if([]:List Keyword).isEmpty then 0 else 1)<30))=true:=by rfl)
 (hline:(apos.endLine==cpos.line)=true:=by rfl)(hs:starEach (e::es) X.env=(false,eval e X.env)::starEach es X.env:=by rfl)(hplain:(backTo cpos (starEach es X.env)).any (·.1)=false:=by rfl):
 PE X (.Call (.Attribute o name apos) (e::es) [] cpos) (tBM X.K T r to t):=by
 intro pins s σ H Q I h
 refine wpAny_Call_method_late hbase hfew hline rfl (aU (ho pins s σ H _ I h) fun v s1 ⟨x,H1,I1,r1,ty,q1⟩=> ?_)
 obtain⟨h1,h2⟩:=b1N I1 r1 ty
 refine⟨T,id,pa,slot,hty,h1,h2,?_⟩
 have hA:=ha cpos pins s1 σ H1 _ I1 q1
 rw[hs]at hA|-
 refine Calls.callWith_builtin (by show(false||(backTo cpos (starEach es X.env)).any (·.1))=false;rw[hplain]<;>rfl) (Calls.evalArgs_plain ?_)
 exact aU hA fun us s2 ⟨vs,H2,I2,r2,q2⟩=>hm pins s2 σ H2 x vs v us Q I2 r1 r2 q2
end
def MtM(X:Cx)(id:String)(r:V->List V->Hp->VK->Prop):Prop:=
 ∀(pins:List (Addr×Obj)) (s:Shared) (σ:St) (H:Hp) (x:V) (xs:List V) (v:Value) (us:List Value) (Q:VK),aD X pins σ H s->bF x v->bD xs us->r x xs H Q->
  wpAny (model X.prog X.w) X.A (call (.builtin id) (v::us)) (EP X pins σ Q) X.xe s
theorem bD.one:∀{x:V} {us:List Value},bD [x] us->∃u,us= [u] /\bF x u
 |_,_,.cons r .nil=>⟨_,rfl,r⟩
theorem bD.two:∀{x y:V} {us:List Value},bD [x,y] us->∃u v,us= [u,v] /\bF x u/\bF y v
 |_,_,_,.cons r (.cons q .nil)=>⟨_,_,rfl,r,q⟩
theorem bD.zero:∀{us:List Value},bD [] us->us= []
 |_,.nil=>rfl
theorem bD.dropLast{xs:List V}{us:List Value}(h:bD xs us):bD xs.dropLast us.dropLast:=by
 induction h with
 |nil=>exact .nil
 |cons r t ih=>
  cases t with
  |nil=>exact .nil
  |cons q t'=>exact .cons r ih
theorem b7D{α:Type}(l:List α):l.eraseIdx (l.length- 1)=l.dropLast:=by
 induction l with
 |nil=>rfl
 |cons a r ih=>
  cases r with
  |nil=>rfl
  |cons b r=>
   have e:(a::b::r).length- 1=((b::r).length- 1)+ 1:=by
    have h1:(a::b::r).length=r.length+ 2:=rfl
    have h2:(b::r).length=r.length+ 1:=rfl
    omega
   rw[e,List.eraseIdx_cons_succ,ih]
   all_goals rfl
section
variable{X:Cx}{pins:List (Addr×Obj)}{σ:St}{H:Hp}{s:Shared}{l b:Addr}{xs ys zs:List V}
theorem aD.lset{its its':List Value}{n:Nat}{f:Array Value->Array Value}{t':Nat}(I:aD X pins σ H s)(hH:H l=some (.lst xs))
 (e:s.heap.get? l=some {cls:=.type "list",data:=.seq its.toArray n})(hf:f its.toArray=its'.toArray)(hv:bD ys its')(hz:ys.length<=sizeLine):
 aD X pins σ (upd H l (.lst ys)) {s with heap:=s.heap.update l (Obj.mapSeq f),toks:=t'}:=by
 have q:=PySem.IsL.update e f
 rw[hf]at q
 refine I.write (x:=l) (e:=l) (by rw[hH];exact trivial) (.inl rfl) (fun b' u hb hu=>(Heap.get?_update_other s.heap (Obj.mapSeq f) (Ne.symm hb)).trans hu) ⟨_,q⟩ ?_
 exact⟨hz,its',_,hv,q⟩
theorem aD.lnew{its:List Value}{t':Nat}(I:aD X pins σ H s)(hv:bD ys its)(hz:ys.length<=sizeLine):
 aD X pins σ (upd H s.heap.objs.size (.lst ys)) {s with heap:=s.heap.push {cls:=.type "list",data:=.seq its.toArray},toks:=t'}:=
 I.laid (fun _ _ q=>Heap.get?_push_of_some _ q) (Nat.le_refl _) ⟨hz,its,0,hv,Heap.get?_push_size _ rfl⟩
theorem aD.lstM(I:aD X pins σ H s)(hH:H l=some (.lst xs)):xs.length<=sizeLine/\∃(its:List Value) (n:Nat),bD xs its/\xs.length=its.length/\s.heap.get? l=some {cls:=.type "list",data:=.seq its.toArray n}:=by
 obtain⟨z,its,n,r,e⟩:=I.hok l _ hH
 exact⟨z,its,n,r,r.length,e⟩
end
section
variable{X:Cx}
def b4X:V->List V->Hp->VK->Prop:=fun x vs H Q=>∃l xs y,x= .ref l/\vs= [y] /\H l=some (.lst xs)/\xs.length<sizeLine/\Q .non (upd H l (.lst (xs++ [y])))
theorem gQ:MtM X "list.append" b4X:=by
 intro pins s σ H x vs v us Q I rx rv h
 obtain⟨l,xs,y,rfl,rfl,hH,hz,q⟩:=h
 cases rx
 obtain⟨u,rfl,ru⟩:=rv.one
 obtain⟨z,its,n,r,hl,e⟩:=I.lstM hH
 refine call_meets F.slot_list_append ⟨_,e,rfl⟩ F.entry_list_append (F.args_list_append_2 _ _) (PySem.list_append l its.toArray n u (by rw[List.size_toArray];omega)) ⟨e,?_⟩
 refine⟨.non,_,I.lset (its':=its++ [u]) hH e (by simp) (r.append (.cons ru .nil)) ?_,rfl,q⟩
 rw[List.length_append,List.length_singleton]
 omega
def rPop:V->List V->Hp->VK->Prop:=fun x vs H Q=>∃l xs y,x= .ref l/\vs= [] /\H l=some (.lst xs)/\xs[xs.length- 1]?=some y/\Q y (upd H l (.lst xs.dropLast))
theorem b5E:MtM X "list.pop" rPop:=by
 intro pins s σ H x vs v us Q I rx rv h
 obtain⟨l,xs,y,rfl,rfl,hH,hy,q⟩:=h
 cases rx
 have hus:=rv.zero
 subst hus
 obtain⟨z,its,n,r,hl,e⟩:=I.lstM hH
 obtain⟨u,hu,ru⟩:=r.get hy
 have hy':its.toArray[its.toArray.size- 1]?=some u:=by
  show its.toArray[its.length- 1]?=some u
  rw[<- Array.getElem?_toList,<- hl]
  exact hu
 refine call_meets F.slot_list_pop ⟨_,e,rfl⟩ F.entry_list_pop (F.args_list_pop_1 _) (MeetsSeq.list_pop_last l its.toArray n u hy' (by rw[List.size_toArray];omega)) ⟨e,?_⟩
 refine⟨y,_,I.lset (its':=its.dropLast) hH e ?_ r.dropLast ?_,ru,q⟩
 ·show its.toArray.eraseIdxIfInBounds (its.toArray.size- 1)=its.dropLast.toArray
  rw[List.size_toArray,List.eraseIdxIfInBounds_toArray,b7D]
 ·rw[List.length_dropLast]
  omega
def b3p:V->List V->Hp->VK->Prop:=fun x vs H Q=>∃l xs,x= .ref l/\vs= [] /\H l=some (.lst xs)/\Q .non (upd H l (.lst []))
theorem a9V:MtM X "list.clear" b3p:=by
 intro pins s σ H x vs v us Q I rx rv h
 obtain⟨l,xs,rfl,rfl,hH,q⟩:=h
 cases rx
 have hus:=rv.zero
 subst hus
 obtain⟨z,its,n,r,hl,e⟩:=I.lstM hH
 refine call_meets F.slot_list_clear ⟨_,e,rfl⟩ F.entry_list_clear (F.args_list_clear_1 _) (AutoSeq1.list_clear_list_0 l its.toArray n (by rw[List.size_toArray];omega)) ⟨e,?_⟩
 exact⟨.non,_,I.lset (its':=[]) (ys:=[]) hH e rfl .nil (Nat.zero_le _),rfl,q⟩
end
section
variable{κ:Type} [DecidableEq κ]
def aM(kvs:List (κ×V))(k:κ):Option V:=(kvs.find? fun kv=>decide (kv.1=k)).map (·.2)
noncomputable def aS (kvs:List (κ×V)) (k:κ) (v:V):List (κ×V):=
 if(kvs.any fun kv=>decide (kv.1=k))=true then kvs.map (fun kv=>if kv.1=k then(kv.1,v) else kv) else kvs++ [(k,v)]
theorem jT{p:κ×V}{r:List (κ×V)}{k:κ}(e:p.1=k):aM (p::r) k=some p.2:=by simp[aM,List.find?_cons,e]
theorem kH{p:κ×V}{r:List (κ×V)}{k:κ}(e:¬p.1=k):aM (p::r) k=aM r k:=by simp[aM,List.find?_cons,e]
theorem mR(k:κ):∀kvs:List (κ×V),(kvs.any fun kv=>decide (kv.1=k))=(aM kvs k).isSome
 | []=>rfl
 |p::r=>by
  rw[List.any_cons]
  by_cases e:p.1=k
  ·simp only[jT e,decide_eq_true e,Bool.true_or,Option.isSome_some]
  ·rw[kH e,decide_eq_false e,Bool.false_or];exact mR k r
theorem b1F(k j:κ)(y:V):∀kvs:List (κ×V),aM (kvs.map fun kv=>if kv.1=k then(kv.1,y) else kv) j=(aM kvs j).map fun x=>if j=k then y else x
 | []=>rfl
 |p::r=>by
  have ih:=b1F k j y r
  rw[List.map_cons]
  by_cases h:p.1=k
  ·rw[if_pos h]
   by_cases e:p.1=j
   ·rw[jT (p:=(p.1,y)) e,jT e,Option.map_some,if_pos (e.symm.trans h)]
   ·rw[kH (p:=(p.1,y)) e,kH e,ih]
  ·rw[if_neg h]
   by_cases e:p.1=j
   ·rw[jT (p:=p) e,jT e,Option.map_some,if_neg (fun z=>h (e.trans z))]
   ·rw[kH (p:=p) e,kH e,ih]
theorem b0v(k j:κ)(y:V):∀kvs:List (κ×V),aM kvs k=none->aM (kvs++ [(k,y)]) j=if j=k then some y else aM kvs j
 | [],_=>by
  by_cases e:k=j
  ·rw[if_pos e.symm];exact jT (p:=(k,y)) e
  ·rw[if_neg (fun z=>e z.symm)];exact kH (p:=(k,y)) e
 |p::r,hn=>by
  rw[List.cons_append]
  have hk:¬p.1=k:=fun z=>by rw[jT z]at hn;cases hn
  rw[kH hk]at hn
  have ih:=b0v k j y r hn
  by_cases e:p.1=j
  ·rw[jT e,jT e,if_neg (fun z=>hk (e.trans z))]
  ·rw[kH e,kH e,ih]
theorem jV(kvs:List (κ×V))(k j:κ)(y:V):aM (aS kvs k y) j=if j=k then some y else aM kvs j:=by
 unfold aS
 by_cases a:(kvs.any fun kv=>decide (kv.1=k))=true
 ·rw[if_pos a,b1F]
  rw[mR]at a
  by_cases e:j=k
  ·obtain⟨x,hx⟩:=Option.isSome_iff_exists.mp a
   rw[if_pos e,e,hx,Option.map_some,if_pos rfl]
  ·rw[if_neg e]
   cases aM kvs j with
   |none=>rfl
   |some x=>rw[Option.map_some,if_neg e]
 ·rw[if_neg a]
  refine b0v k j y kvs ?_
  rw[mR]at a
  cases q:aM kvs k with
  |none=>rfl
  |some x=>rw[q]at a;exact(a rfl).elim
theorem yF(kvs:List (κ×V))(k:κ)(v:V):(aS kvs k v).length<=kvs.length+ 1:=by
 unfold aS
 split
 ·rw[List.length_map];omega
 ·rw[List.length_append,List.length_cons,List.length_nil];omega
theorem a7B{kvs:List (κ×V)}{k:κ}(v:V)(h:aM kvs k=none):aS kvs k v=kvs++ [(k,v)]:=by
 unfold aS
 rw[mR,h]
 exact if_neg (by decide)
theorem fW.isSome_eq{o:Option V}{u:Option Value}(r:fW o u):o.isSome=u.isSome:=by
 cases o with
 |none=>cases u with
  |none=>rfl
  |some _=>exact(show False from r).elim
 |some _=>cases u with
  |none=>exact(show False from r).elim
  |some _=>rfl
theorem fW.getD{o:Option V}{u:Option Value}{d:V}{d':Value}(r:fW o u)(rd:bF d d'):bF (o.getD d) (u.getD d'):=by
 cases o with
 |none=>cases u with
  |none=>exact rd
  |some _=>exact(show False from r).elim
 |some _=>cases u with
  |none=>exact(show False from r).elim
  |some _=>exact r
theorem KV.val{kvs:List (κ×V)}{vs:List (κ×Value)}(r:KV kvs vs)(k:κ):fW (aM kvs k) (valueAt vs k):=by
 unfold KV at r
 induction r with
 |nil=>exact True.intro
 | @cons p q ps qs h t ih=>
  obtain⟨h1,h2⟩:=h
  by_cases e:p.1=k
  ·have e':q.1=k:=h1.symm.trans e
   have b:valueAt (q::qs) k=some q.2:=by simp[valueAt,List.find?_cons,e']
   rw[jT e,b];exact h2
  ·have e':¬q.1=k:=fun z=>e (h1.trans z)
   have b:valueAt (q::qs) k=valueAt qs k:=by simp[valueAt,List.find?_cons,e']
   rw[kH e,b];exact ih
theorem KV.any{kvs:List (κ×V)}{vs:List (κ×Value)}(r:KV kvs vs)(k:κ):(kvs.any fun kv=>decide (kv.1=k))=vs.any fun kv=>decide (kv.1=k):=by
 unfold KV at r
 induction r with
 |nil=>rfl
 |cons h t ih=>rw[List.any_cons,List.any_cons,ih,h.1]
theorem KV.repl{kvs:List (κ×V)}{vs:List (κ×Value)}(r:KV kvs vs)(k:κ){y:V}{u:Value}(ry:bF y u):
 KV (kvs.map fun kv=>if kv.1=k then(kv.1,y) else kv) (vs.map fun kv=>if kv.1=k then(kv.1,u) else kv):=by
 unfold KV at r|-
 induction r with
 |nil=>exact .nil
 | @cons p q ps qs h t ih=>
  rw[List.map_cons,List.map_cons]
  refine .cons ?_ ih
  obtain⟨h1,h2⟩:=h
  by_cases e:p.1=k
  ·rw[if_pos e,if_pos (h1.symm.trans e)];exact⟨h1,ry⟩
  ·rw[if_neg e,if_neg (fun z=>e (h1.trans z))];exact⟨h1,h2⟩
theorem KV.put{kvs:List (κ×V)}{vs:List (κ×Value)}(r:KV kvs vs)(k:κ){y:V}{u:Value}(ry:bF y u):KV (aS kvs k y) (stored vs k u):=by
 unfold aS stored
 rw[r.any k]
 by_cases e:(vs.any fun kv=>decide (kv.1=k))=true
 ·rw[if_pos e,if_pos e];exact r.repl k ry
 ·rw[if_neg e,if_neg e];exact Paired.snoc r ⟨rfl,ry⟩
theorem KV.length{kvs:List (κ×V)}{vs:List (κ×Value)}(r:KV kvs vs):kvs.length=vs.length:=Paired.length r
end
theorem oK{P:Program}{w:World}{k:aA}{u:Value}(r:bF (kV k) u):(fH P w).is k u=true:=by
 cases k with
 |inl i=>obtain⟨t,e⟩:=(show∃t,u=Value.int i t from r);subst e;exact b5Q P w i t
 |inr x=>obtain⟨t,e⟩:=(show∃t,u=Value.str x t from r);subst e;exact b31 P w x t
theorem b2g{P:Program}{w:World}:∀{ks:List aA} {us:List Value},bD (ks.map kV) us->ItemsAre (fH P w) ks us
 | [],_,r=>by rw[List.map_nil]at r;cases r;exact .nil
 |k::ks,_,r=>by
  rw[List.map_cons]at r
  cases r with
  |cons h t=>exact .cons (oK h) (b2g t)
abbrev KT(H:Hp):List (List aA×V)->List (List aA×Addr×Value)->Prop:=Paired fun p q=>p.1=q.1/\H q.2.1=some (.tup (p.1.map kV))/\bF p.2 q.2.2
theorem KT.val{H:Hp}{kvs:List (List aA×V)}{xs:List (List aA×Addr×Value)}(r:KT H kvs xs)(k:List aA):fW (aM kvs k) ((atKey xs k).map (·.2)):=by
 induction r with
 |nil=>exact True.intro
 | @cons p q ps qs h t ih=>
  obtain⟨h1,_,h2⟩:=h
  by_cases e:p.1=k
  ·have e':q.1=k:=h1.symm.trans e
   have b:atKey (q::qs) k=some q.2:=by simp[atKey,List.find?_cons,e']
   rw[jT e,b];exact h2
  ·have e':¬q.1=k:=fun z=>e (h1.trans z)
   have b:atKey (q::qs) k=atKey qs k:=by simp[atKey,List.find?_cons,e']
   rw[kH e,b];exact ih
theorem KT.repl{H:Hp}{kvs:List (List aA×V)}{xs:List (List aA×Addr×Value)}(r:KT H kvs xs)(k:List aA){y:V}{u:Value}(ry:bF y u):
 KT H (kvs.map fun kv=>if kv.1=k then(kv.1,y) else kv) (xs.map (putAt k u)):=by
 induction r with
 |nil=>exact .nil
 | @cons p q ps qs h t ih=>
  rw[List.map_cons,List.map_cons]
  refine .cons ?_ ih
  obtain⟨h1,h2,h3⟩:=h
  unfold putAt
  by_cases e:p.1=k
  ·rw[if_pos e,if_pos (h1.symm.trans e)];exact⟨h1,h2,ry⟩
  ·rw[if_neg e,if_neg (fun z=>e (h1.trans z))];exact⟨h1,h2,h3⟩
theorem KT.put{H:Hp}{kvs:List (List aA×V)}{xs:List (List aA×Addr×Value)}(r:KT H kvs xs)(k:List aA){b:Addr}{y:V}{u:Value}(hb:H b=some (.tup (k.map kV)))(ry:bF y u):
 KT H (aS kvs k y) (storedH xs k b u):=by
 have e:(kvs.any fun kv=>decide (kv.1=k))=(atKey xs k).isSome:=by
  rw[mR,(r.val k).isSome_eq,Option.isSome_map]
 unfold aS storedH
 rw[e]
 by_cases q:(atKey xs k).isSome=true
 ·rw[if_pos q,if_pos q];exact r.repl k ry
 ·rw[if_neg q,if_neg q];exact Paired.snoc r ⟨rfl,hb,ry⟩
theorem KT.keeps{H H':Hp}{kvs:List (List aA×V)}{xs:List (List aA×Addr×Value)}(r:KT H kvs xs)(ht:∀b ys,H b=some (.tup ys)->H' b=some (.tup ys)):KT H' kvs xs:=
 Paired.mapP r fun _ _ z=>⟨z.1,ht _ _ z.2.1,z.2.2⟩
section
variable{P:Program}{w:World}{H:Hp}{h:Heap}{a:Addr}
theorem b0G{u:HO}(ok:cC P w H h)(e:Rd H a u):cY P w H h a u:=e.ok ok
theorem nA{kvs:List (aA×V)}(ok:cC P w H h)(e:Rd H a (.dK kvs)):kvs.length<=sizeLine/\(a==sysModules)=false/\∃vs,KV kvs vs/\h.DictOf (fH P w) a vs:=
 show cY P w H h a (.dK kvs) from b0G ok e
theorem b01{kvs:List (aA×V)}(ok:cC P w H h)(e:H a=some (.dK kvs)):kvs.length<=sizeLine/\(a==sysModules)=false/\∃vs,KV kvs vs/\h.DictOf (fH P w) a vs:=nA ok (.inl e)
theorem pR{ks:List aA}(ok:cC P w H h)(e:H a=some (.tup (ks.map kV))):(tupleKind (fH P w)).is h ks a:=by
 obtain⟨_,its,r,o,h1,h2,n,h3⟩:=(show cY P w H h a (.tup (ks.map kV)) from ok a _ e)
 exact⟨o,its.toArray,n,h1,h2,h3,by simpa using b2g r⟩
theorem oT{kvs:List (List aA×V)}(ok:cC P w H h)(e:Rd H a (.dT kvs)):kvs.length<=sizeLine/\(a==sysModules)=false/\
 ∃xs,KT H kvs xs/\h.DictOfH (tupleKind (fH P w)) a xs:=by
 obtain⟨z,y,xs,r,o,es,ep,h1,h2,h3,h4,h5⟩:=(show cY P w H h a (.dT kvs) from b0G ok e)
 refine⟨z,y,xs,r,o,es,ep,h1,h2,h3,h4,fun x hx=> ?_,h5⟩
 have all:∀{l:List (List aA×V)} {m:List (List aA×Addr×Value)},KT H l m->∀x∈m,(tupleKind (fH P w)).is h x.1 x.2.1:=by
  intro l m q
  induction q with
  |nil=>intro x hx;exact nomatch hx
  | @cons p q ps qs hq t ih=>
   intro x hx
   rcases List.mem_cons.mp hx with e|hx
   ·subst e
    exact pR ok (by rw[<- hq.1];exact hq.2.1)
   ·exact ih x hx
 exact all r x hx
theorem b5a{kvs:List (List aA×V)}(ok:cC P w H h)(e:H a=some (.dT kvs)):kvs.length<=sizeLine/\(a==sysModules)=false/\
 ∃xs,KT H kvs xs/\h.DictOfH (tupleKind (fH P w)) a xs:=oT ok (.inl e)
end
def bQ(H:Hp)(a:Addr)(y:V)(r:Option V):Prop:=
 (∃kvs k,Rd H a (.dK kvs)/\y=kV k/\r=aM kvs k)\/ ∃kvs k b,Rd H a (.dT kvs)/\y= .ref b/\H b=some (.tup (k.map kV))/\r=aM kvs k
def gY(H:Hp)(a:Addr)(y v:V)(H':Hp):Prop:=
 (∃kvs k,H a=some (.dK kvs)/\y=kV k/\kvs.length<sizeLine/\H'=upd H a (.dK (aS kvs k v)))\/
 ∃kvs k b,H a=some (.dT kvs)/\y= .ref b/\H b=some (.tup (k.map kV))/\kvs.length<sizeLine/\H'=upd H a (.dT (aS kvs k v))
theorem bQ.k{H:Hp}{a:Addr}{kvs:List (aA×V)}{k:aA}(e:H a=some (.dK kvs)):bQ H a (kV k) (aM kvs k):=.inl ⟨kvs,k,.inl e,rfl,rfl⟩
theorem bQ.t{H:Hp}{a b:Addr}{kvs:List (List aA×V)}{k:List aA}(e:H a=some (.dT kvs))(eb:H b=some (.tup (k.map kV))):bQ H a (.ref b) (aM kvs k):=.inr ⟨kvs,k,b,.inl e,rfl,eb,rfl⟩
theorem gY.k{H:Hp}{a:Addr}{kvs:List (aA×V)}{k:aA}{v:V}(e:H a=some (.dK kvs))(hl:kvs.length<sizeLine):gY H a (kV k) v (upd H a (.dK (aS kvs k v))):=.inl ⟨kvs,k,e,rfl,hl,rfl⟩
theorem gY.t{H:Hp}{a b:Addr}{kvs:List (List aA×V)}{k:List aA}{v:V}(e:H a=some (.dT kvs))(eb:H b=some (.tup (k.map kV)))(hl:kvs.length<sizeLine):
 gY H a (.ref b) v (upd H a (.dT (aS kvs k v))):=.inr ⟨kvs,k,b,e,rfl,eb,hl,rfl⟩
section
variable{X:Cx}{pins:List (Addr×Obj)}{σ:St}{H:Hp}{s:Shared}{a:Addr}{y v:V}{u r:Value}{o:Option V}{A:Around}{E:Value->Shared->Prop}
theorem aD.big(I:aD X pins σ H s):sysModules<s.heap.objs.size:=by
 have h:mainGlobals<s.heap.objs.size:=(I.mod.glob.keeps I.bk).lt
 exact Nat.lt_trans (by decide) h
theorem b3y{Q:Value->Shared->Prop}(hu:A.units+ 1<cLine)(I:aD X pins σ H s)(g:bQ H a y (some v))(ry:bF y u)(h:∀w' s',aD X pins σ H s'->bF v w'->Q w' s'):
 wpAny (model X.prog X.w) A (getItem (.ref a) u) Q E s:=by
 rcases g with⟨kvs,k,e,ey,l⟩|⟨kvs,k,b,e,ey,eb,l⟩
 ·subst ey
  obtain⟨z,hd,vs,rel,dd⟩:=nA I.hok e
  obtain⟨w',hw,rw'⟩:=fW.some_of (v:=v) (o:=valueAt vs k) (by rw[l];exact rel.val k)
  exact wpAny_getItem_of (oK ry) dd.mapOf hw (h w' _ (I.tok _) rw')
 ·subst ey
  cases (show u=Value.ref b from ry)
  obtain⟨z,hd,xs,rel,dd⟩:=oT I.hok e
  obtain⟨w',hw,rw'⟩:=fW.some_of (v:=v) (o:=(atKey xs k).map (·.2)) (by rw[l];exact rel.val k)
  obtain⟨p,hp,hp2⟩:=Option.map_eq_some_iff.mp hw
  refine wpAny_getItem_heap (tupleKind_room_in1 hu) (pR I.hok eb) dd hp ?_
  rw[hp2]
  exact h w' _ (I.tok _) rw'
theorem d_in{Q:Value->Shared->Prop}(hu:A.units+ 1<cLine)(I:aD X pins σ H s)(g:bQ H a y o)(ry:bF y u)(h:∀s',aD X pins σ H s'->Q (.bool o.isSome) s'):
 wpAny (model X.prog X.w) A (compareOp .In u (.ref a)) Q E s:=by
 rcases g with⟨kvs,k,e,ey,l⟩|⟨kvs,k,b,e,ey,eb,l⟩
 ·subst ey
  obtain⟨z,hd,vs,rel,dd⟩:=nA I.hok e
  refine wpAny_in_of (oK ry) hd dd.mapOf ?_
  rw[<- (rel.val k).isSome_eq,<- l]
  exact h _ (I.tok _)
 ·subst ey
  cases (show u=Value.ref b from ry)
  obtain⟨z,hd,xs,rel,dd⟩:=oT I.hok e
  refine wpAny_in_heap (tupleKind_room_in1 hu) (pR I.hok eb) hd dd ?_
  have q:=(rel.val k).isSome_eq
  rw[Option.isSome_map]at q
  rw[<- q,<- l]
  exact h _ (I.tok _)
theorem b2H{Q:Value->Shared->Prop}(hu:A.units+ 1<cLine)(I:aD X pins σ H s)(g:bQ H a y o)(ry:bF y u)(h:∀s',aD X pins σ H s'->Q (.bool (!o.isSome)) s'):
 wpAny (model X.prog X.w) A (compareOp .NotIn u (.ref a)) Q E s:=by
 rcases g with⟨kvs,k,e,ey,l⟩|⟨kvs,k,b,e,ey,eb,l⟩
 ·subst ey
  obtain⟨z,hd,vs,rel,dd⟩:=nA I.hok e
  refine wpAny_notIn_of (oK ry) hd dd.mapOf ?_
  rw[<- (rel.val k).isSome_eq,<- l]
  exact h _ (I.tok _)
 ·subst ey
  cases (show u=Value.ref b from ry)
  obtain⟨z,hd,xs,rel,dd⟩:=oT I.hok e
  refine wpAny_notIn_heap (tupleKind_room_in1 hu) (pR I.hok eb) hd dd ?_
  have q:=(rel.val k).isSome_eq
  rw[Option.isSome_map]at q
  rw[<- q,<- l]
  exact h _ (I.tok _)
theorem a8s{h':Heap}{t':Nat}{ob:HO}(I:aD X pins σ H s)(mu:wB (H a))(hs:Heap.SameBut a s.heap h')(he:∃q,h'.get? a=some q)(new:cY X.prog X.w (upd H a ob) h' a ob):
 aD X pins σ (upd H a ob) {s with heap:=h',toks:=t'}:=
 I.write (x:=a) (e:=a) mu (.inl rfl) (fun b q hb z=>(hs.2 b hb).trans z) he new
theorem b1Z{P:Program}{w:World}{H':Hp}{h':Heap}{kvs:List (aA×V)}{vs:List (aA×Value)}(z:kvs.length<=sizeLine)(hd:(a==sysModules)=false)(rel:KV kvs vs)(dd:h'.DictOf (fH P w) a vs):
 cY P w H' h' a (.dK kvs):=⟨z,hd,vs,rel,dd⟩
theorem b4S{H':Hp}{Q:Unit->Shared->Prop}(hu:A.units+ 1<cLine)(I:aD X pins σ H s)(g:gY H a y v H')(ry:bF y u)(rv:bF v r)(h:∀s',aD X pins σ H' s'->Q () s'):
 wpAny (model X.prog X.w) A (setItem (.ref a) u r) Q E s:=by
 rcases g with⟨kvs,k,e,ey,l,eH⟩|⟨kvs,k,b,e,ey,eb,l,eH⟩
 ·subst ey eH
  obtain⟨z,hd,vs,rel,dd⟩:=b01 I.hok e
  have hz:vs.length<=sizeLine:=by rw[<- rel.length];exact z
  have hl:(aS kvs k v).length<=sizeLine:=by have:=yF kvs k v;omega
  refine wpAny_setItem_pairs (hsz:=hz) (oK ry) dd fun h' dd' hs=>h _ ?_
  have he:∃q,h'.get? a=some q:=let ⟨q,_,_,hq,_⟩:=dd';⟨q,hq⟩
  exact a8s I (by rw[e];exact True.intro) hs he (b1Z hl hd (rel.put k rv) dd')
 ·subst ey eH
  cases (show u=Value.ref b from ry)
  obtain⟨z,hd,xs,rel,dd⟩:=b5a I.hok e
  have hz:xs.length<=sizeLine:=by rw[<- Paired.length rel];exact z
  have hl:(aS kvs k v).length<=sizeLine:=by have:=yF kvs k v;omega
  refine wpAny_setItem_heap (hsz:=hz) (tupleKind_room_in1 hu) (pR I.hok eb) dd fun h' dd' hs=>h _ ?_
  obtain⟨q,es,ep,hq,h2,h3,h4,_,h5⟩:=dd'
  refine a8s I (by rw[e];exact True.intro) hs ⟨q,hq⟩ ⟨hl,hd,_,(rel.put k eb rv).keeps fun c ys ec=> ?_,q,es,ep,hq,h2,h3,h4,h5⟩
  rw[aH (jX ec e (fun z=>nomatch z))]
  exact ec
end
section
variable{X:Cx}{pins:List (Addr×Obj)}{σ:St}{H:Hp}{s:Shared}{a:Addr}{kvs:List (aA×V)}{k:aA}{u:Value}{A:Around}{E:Value->Shared->Prop}
theorem b4I{Q:Value->Shared->Prop}(I:aD X pins σ H s)(e:Rd H a (.dK kvs))(h:∀t s',aD X pins σ H s'->Q (.int kvs.length t) s'):wpAny (model X.prog X.w) A (call (.builtin "len") [.ref a]) Q E s:=by
 obtain⟨z,hd,vs,rel,dd⟩:=nA I.hok e
 refine call_len_dict hd dd (by rw[<- rel.length];rw[sizeLine_eq]at z;omega) ?_
 rw[<- rel.length]
 exact h _ _ (I.tok _)
end
def NoSl(i:Expr):Prop:=∀ov iv,subscripted i false ov iv=operate [ov,iv] (getItem ov iv)
theorem b62{prog:Program}{w:World}{A:Around}{E:Value->Shared->Prop}{s:Shared}{env:Env}{value slice:Expr}{pos:Pos}{T id:String}{Q:Value->Shared->Prop}
 (hl:typeLookup (.type T) "__getitem__"=pure (some (.builtin id)))(hs:NoSl slice)
 (h:wpAny (model prog w) A (eval value env) (fun o s₁=>wpAny (model prog w) A (eval slice env) (fun i s₂=>s₂.TypeIs o T/\wpAny (model prog w) A (getItem o i) Q E s₂) E s₁) E s):
 wpAny (model prog w) A (eval (.Subscript value slice pos) env) Q E s:=by
 refine Subscript_ (wpAny_mono h (fun o s₁ h₁=>wpAny_mono h₁ (fun i s₂ h₂=> ?_) fun _ _ x=>x) fun _ _ x=>x)
 obtain⟨hT,h₂⟩:=h₂
 unfold subscriptTail
 refine wpAny_bind ?_
 rw[getitemInPython_of_ne hT.not_modules]
 refine wpAny_bind (wpAny_specialOf hT hl ?_)
 have fin:wpAny (model prog w) A (subscripted slice false o i) (fun r s₃=>wpAny (model prog w) A (letTemporaryGo value o r>>=fun _=>pure r) Q E s₃) E s₂:=by
  rw[hs o i]
  exact wpAny_operating (wpAny_mono h₂ (fun r s₃ h₃=>wpAny_bind (wpAny_letTemporaryGo (wpAny_pure h₃))) fun _ _ x=>x)
 first
  |exact wpAny_pure (wpAny_bind fin)
  |exact wpAny_bind (wpAny_pure (wpAny_bind fin))
  |exact wpAny_bind fin
theorem b4x{X:Cx}{pins:List (Addr×Obj)}{σ:St}{H:Hp}{s:Shared}{a:Addr}{y:V}{o:Option V}(I:aD X pins σ H s)(g:bQ H a y o):s.TypeIs (.ref a) "dict":=by
 rcases g with⟨kvs,k,e,_,_⟩|⟨kvs,k,b,e,_,_,_⟩
 ·obtain⟨_,_,vs,_,dd⟩:=nA I.hok e
  exact dd.typeIs
 ·obtain⟨_,_,xs,_,dd⟩:=oT I.hok e
  exact dd.typeIs
def b39(td ty:TE):TE:=fun σ H Q=>td σ H fun x H1=>ty σ H1 fun y H2=>∃a v,x= .ref a/\bQ H2 a y (some v)/\Q v H2
def tDIn(ty td:TE):TE:=fun σ H Q=>ty σ H fun y H1=>td σ H1 fun x H2=>∃a o,x= .ref a/\bQ H2 a y o/\Q (.bl o.isSome) H2
def b5l(ty td:TE):TE:=fun σ H Q=>ty σ H fun y H1=>td σ H1 fun x H2=>∃a o,x= .ref a/\bQ H2 a y o/\Q (.bl (!o.isSome)) H2
def b7T(td ty tv:TE):TS:=fun D σ H=>tv σ H fun v H1=>td σ H1 fun x H2=>ty σ H2 fun y H3=>∃a H4,x= .ref a/\gY H3 a y v H4/\D.nx σ H4
section
variable{X:Cx}{o i e value:Expr}{pos pos' tpos:Pos}{td ty tv:TE}
theorem eE(hu:X.A.units+ 1<cLine)(ho:PE X o td)(hi:PE X i ty)(hs:NoSl i):PE X (.Subscript o i pos) (b39 td ty):=by
 intro pins s σ H Q I h
 refine b62 PySem.F.slot_dict_getitem.lookup hs (aU (ho pins s σ H _ I h) fun u s1 ⟨x,H1,I1,rx,q1⟩=>aU (hi pins s1 σ H1 _ I1 q1) fun iv s2 ⟨y,H2,I2,ry,a,v,ex,g,q2⟩=> ?_)
 subst ex
 obtain rfl:u=Value.ref a:=rx
 exact⟨b4x I2 g,b3y hu I2 g ry fun w' s3 I3 rw'=>⟨v,H2,I3,rw',q2⟩⟩
theorem mT(hu:X.A.units+ 1<cLine)(hi:PE X i ty)(ho:PE X o td):PC X .In i o (tDIn ty td):=by
 intro pins s σ H Q I h
 refine aU (hi pins s σ H _ I h) fun iv s1 ⟨y,H1,I1,ry,q1⟩=>aU (ho pins s1 σ H1 _ I1 q1) fun u s2 ⟨x,H2,I2,rx,a,ov,ex,g,q2⟩=> ?_
 subst ex
 obtain rfl:u=Value.ref a:=rx
 exact d_in hu I2 g ry fun s3 I3=>⟨.bl ov.isSome,H2,I3,rfl,q2⟩
theorem lO(hu:X.A.units+ 1<cLine)(hi:PE X i ty)(ho:PE X o td):PC X .NotIn i o (b5l ty td):=by
 intro pins s σ H Q I h
 refine aU (hi pins s σ H _ I h) fun iv s1 ⟨y,H1,I1,ry,q1⟩=>aU (ho pins s1 σ H1 _ I1 q1) fun u s2 ⟨x,H2,I2,rx,a,ov,ex,g,q2⟩=> ?_
 subst ex
 obtain rfl:u=Value.ref a:=rx
 exact b2H hu I2 g ry fun s3 I3=>⟨.bl (!ov.isSome),H2,I3,rfl,q2⟩
theorem jE(hu:X.A.units+ 1<cLine)(ho:PE X o td)(hi:PE X i ty)(hv:PE X value tv)(hs:swapsWith value (some (.Subscript o i pos')) pos.line X.env=pure false):
 PS X (.Assign [.Subscript o i pos'] value pos) (b7T td ty tv):=by
 intro pins s σ H D I h
 refine wpAny_Assign_Subscript (aU (hv pins s σ H _ I h) fun r s1 ⟨v,H1,I1,rv,q1⟩=>aU (ho pins s1 σ H1 _ I1 q1) fun u s2 ⟨x,H2,I2,rx,q2⟩=>aU (hi pins s2 σ H2 _ I2 q2) fun iv s3 ⟨y,H3,I3,ry,a,H4,ex,g,q3⟩=> ?_) hs
 subst ex
 obtain rfl:u=Value.ref a:=rx
 exact b4S hu I3 g ry rv fun s4 I4=>⟨σ,H4,I4,q3⟩
end
theorem a9J{P:Program}{w:World}{H:Hp}(h:Heap)(hb:sysModules<h.objs.size):cY P w H (h.push {cls:=.type "dict",data:=.dict #[]}) h.objs.size (.dK []):=
 ⟨Nat.zero_le _,beq_eq_false_iff_ne.mpr (Ne.symm (Nat.ne_of_lt hb)),[],.nil,Heap.DictOf.new h⟩
theorem b2w{P:Program}{w:World}{H:Hp}(h:Heap)(hb:sysModules<h.objs.size):cY P w H (h.push {cls:=.type "dict",data:=.dict #[]}) h.objs.size (.dT []):=
 ⟨Nat.zero_le _,beq_eq_false_iff_ne.mpr (Ne.symm (Nat.ne_of_lt hb)),[],.nil,_,#[],0,Heap.get?_push_size _ rfl,⟨rfl,rfl,rfl⟩,rfl,rfl,List.nodup_nil⟩
def b56:TE:=fun _ H Q=>∀p,H p=none->Q (.ref p) (upd H p (.dK []))
def b5s:TE:=fun _ H Q=>∀p,H p=none->Q (.ref p) (upd H p (.dT []))
section
variable{X:Cx}{pos:Pos}
theorem rZ:PE X (.Dict [] [] pos) b56:=fun pins s σ H Q I h=>
 wpAny_Dict_empty ⟨.ref s.heap.objs.size,_,I.laid (a:=s.heap.objs.size) (o:=.dK []) (t':=s.toks) (fun _ _ q=>Heap.get?_push_of_some _ q) (Nat.le_refl _) (a9J s.heap I.big),rfl,h _ (I.hok.fresh (Nat.le_refl _))⟩
theorem rL:PE X (.Dict [] [] pos) b5s:=fun pins s σ H Q I h=>
 wpAny_Dict_empty ⟨.ref s.heap.objs.size,_,I.laid (a:=s.heap.objs.size) (o:=.dT []) (t':=s.toks) (fun _ _ q=>Heap.get?_push_of_some _ q) (Nat.le_refl _) (b2w s.heap I.big),rfl,h _ (I.hok.fresh (Nat.le_refl _))⟩
end
def a73:List (TE×TE)->St->Hp->(List (V×V)->Hp->Prop)->Prop
 | [],_,H,Q=>Q [] H
 |(tk,tv)::r,σ,H,Q=>tk σ H fun x H1=>tv σ H1 fun y H2=>a73 r σ H2 fun ps H3=>Q ((x,y)::ps) H3
abbrev VV:List (V×V)->List (Value×Value)->Prop:=Paired fun p q=>bF p.1 q.1/\bF p.2 q.2
def tY(X:Cx)(pos:Pos)(keys:List (Option Expr))(values:List Expr)(trs:List (TE×TE)):Prop:=
 ∀(pins:List (Addr×Obj)) (s:Shared) (σ:St) (H:Hp) (Q:List (V×V)->Hp->Prop),aD X pins σ H s->a73 trs σ H Q->
  wpAny (model X.prog X.w) X.A (evalPairs (pairTrees keys values X.env pos)) (fun vs s'=>∃ps H',aD X pins σ H' s'/\VV ps vs/\Q ps H') X.xe s
theorem b2R{X:Cx}{pos:Pos}:tY X pos [] [] []:=fun pins s σ H Q I h=>pairTrees_nil_walk ⟨[],H,I,.nil,h⟩
theorem b3x{X:Cx}{pos:Pos}{k v:Expr}{ks:List (Option Expr)}{vs:List Expr}{tk tv:TE}{trs:List (TE×TE)}(hk:PE X k tk)(hv:PE X v tv)(hr:tY X pos ks vs trs):
 tY X pos (some k::ks) (v::vs) ((tk,tv)::trs):=fun pins s σ H Q I h=>
 pairTrees_cons_walk (aU (hk pins s σ H _ I h) fun u s1 ⟨x,H1,I1,rx,q1⟩=>aU (hv pins s1 σ H1 _ I1 q1) fun w2 s2 ⟨y,H2,I2,ry,q2⟩=>
  aU (hr pins s2 σ H2 _ I2 q2) fun ws s3 ⟨ps,H3,I3,rel,q3⟩=>⟨(x,y)::ps,H3,I3,.cons ⟨rx,ry⟩ rel,q3⟩)
noncomputable def pN (kvs more:List (aA×V)):List (aA×V):=more.foldl (fun acc kv=>aS acc kv.1 kv.2) kvs
theorem KV.merge:∀{more:List (aA×V)} {rs:List (aA×Value)} {kvs:List (aA×V)} {vs:List (aA×Value)},KV more rs->KV kvs vs->KV (pN kvs more) (merged vs rs):=by
 intro more rs kvs vs r
 unfold KV at r
 induction r generalizing kvs vs with
 |nil=>intro q;exact q
 | @cons p q ps qs h t ih=>
  intro r0
  have e:KV (aS kvs p.1 p.2) (stored vs q.1 q.2):=by
   have:=r0.put p.1 h.2
   rw[<- h.1];exact this
  exact ih e
theorem b1P:∀(more kvs:List (aA×V)),(pN kvs more).length<=kvs.length+ more.length
 | [],kvs=>by show kvs.length<=kvs.length+ 0;omega
 |p::r,kvs=>by
  have h1:=b1P r (aS kvs p.1 p.2)
  have h2:=yF kvs p.1 p.2
  show(pN (aS kvs p.1 p.2) r).length<=_
  rw[List.length_cons];omega
theorem b0S{P:Program}{w:World}:∀{kvs:List (aA×V)} {ws:List (Value×Value)},VV (kvs.map fun kv=>(kV kv.1,kv.2)) ws->∃rs,Carries (fH P w) ws rs/\KV kvs rs
 | [],_,r=>by rw[List.map_nil]at r;cases r;exact⟨[],True.intro,.nil⟩
 |p::kvs,_,r=>by
  rw[List.map_cons]at r
  cases r with
  | @cons a b as bs h t=>
   obtain⟨rs,c,q⟩:=b0S (P:=P) (w:=w) t
   obtain⟨b1,b2⟩:=b
   exact⟨(p.1,b2)::rs,⟨oK h.1,rfl,c⟩,.cons ⟨rfl,h.2⟩ q⟩
def b1v(trs:List (TE×TE)):TE:=fun σ H Q=>∀p,H p=none->a73 trs σ (upd H p (.dK [])) fun ps H2=>H2 p=some (.dK [])/\∃kvs:List (aA×V),ps=kvs.map (fun kv=>(kV kv.1,kv.2))/\kvs.length<=15/\Q (.ref p) (upd H2 p (.dK (pN [] kvs)))
theorem b2G{X:Cx}{pos:Pos}{keys:List (Option Expr)}{values:List Expr}{trs:List (TE×TE)}(h:tY X pos keys values trs)(hall:keys.all (·.isSome)=true)(hl:keys.length=values.length)(h0:keys≠ [])
 (h15:keys.length<=15):PE X (.Dict keys values pos) (b1v trs):=by
 intro pins s σ H Q I q
 have hn:=I.hok.fresh (Nat.le_refl s.heap.objs.size)
 have I1:=I.laid (a:=s.heap.objs.size) (o:=.dK []) (h':=s.heap.push {cls:=.type "dict",data:=.dict #[]}) (t':=s.toks) (fun _ _ q=>Heap.get?_push_of_some _ q) (Nat.le_refl _) (a9J s.heap I.big)
 refine wpAny_Dict_walk (knd:=fH X.prog X.w) hall hl h0 h15 (aU (h pins _ σ _ _ I1 (q _ hn)) fun ws s2 ⟨ps,H2,I2,rel,e,kvs,ep,lk,q2⟩=> ?_)
 subst ep
 obtain⟨rs,c,rk⟩:=b0S (P:=X.prog) (w:=X.w) rel
 obtain⟨z,hd,vs0,r0,dd⟩:=b01 I2.hok e
 cases r0
 refine⟨rs,c,dd,fun h' dd' hs=>⟨.ref s.heap.objs.size,_,?_,rfl,q2⟩⟩
 have hz:(pN [] kvs).length<=sizeLine:=by
  have h1:=b1P kvs []
  rw[List.length_nil]at h1
  rw[sizeLine_eq];omega
 have he:∃q,h'.get? s.heap.objs.size=some q:=let ⟨q,_,_,hq,_⟩:=dd';⟨q,hq⟩
 exact a8s I2 (by rw[e];exact True.intro) hs he (b1Z hz hd (rk.merge .nil) dd')
structure M1(X:Cx)(o:Expr)(m:Str)(apos:Pos)(e:Expr)(cpos:Pos):Prop where
 base:attributeBase o m X.env (eval o X.env)=eval o X.env
 few:((backTo cpos (starEach [e] X.env)).all (fun x=> !x.1)&&(backToKw cpos (keywordEach [] X.env)).all (fun x=>x.1.isSome)
  &&decide (([e]:List Expr).length+ ([]:List Keyword).length+ (if([]:List Keyword).isEmpty then 0 else 1)<30))=true
 line:(apos.endLine==cpos.line)=true
 trees:backTo cpos (starEach [e] X.env)= [(false,eval e X.env)]
structure M2(X:Cx)(o:Expr)(m:Str)(apos:Pos)(e f:Expr)(cpos:Pos):Prop where
 base:attributeBase o m X.env (eval o X.env)=eval o X.env
 few:((backTo cpos (starEach [e,f] X.env)).all (fun x=> !x.1)&&(backToKw cpos (keywordEach [] X.env)).all (fun x=>x.1.isSome)
  &&decide (([e,f]:List Expr).length+ ([]:List Keyword).length+ (if([]:List Keyword).isEmpty then 0 else 1)<30))=true
 line:(apos.endLine==cpos.line)=true
 trees:backTo cpos (starEach [e,f] X.env)= [(false,eval e X.env),(false,eval f X.env)]
def IsD(H:Hp)(a:Addr):Prop:=(∃kvs,Rd H a (.dK kvs))\/ ∃kvs,Rd H a (.dT kvs)
theorem b51{X:Cx}{pins:List (Addr×Obj)}{σ:St}{H:Hp}{s:Shared}{a:Addr}(I:aD X pins σ H s)(d:IsD H a):
 s.TypeIs (.ref a) "dict" /\(∀b,Value.ref a= .ref b->∃ob,s.heap.get? b=some ob/\ob.dict=none)/\(a==sysModules)=false:=by
 rcases d with⟨kvs,e⟩|⟨kvs,e⟩
 ·obtain⟨_,hd,vs,_,dd⟩:=nA I.hok e
  refine⟨dd.typeIs,fun b q=> ?_,hd⟩
  cases q
  obtain⟨ob,_,_,h1,h2,_⟩:=dd
  exact⟨ob,h1,h2.2.1⟩
 ·obtain⟨_,hd,xs,_,dd⟩:=oT I.hok e
  refine⟨dd.typeIs,fun b q=> ?_,hd⟩
  cases q
  obtain⟨ob,_,_,h1,h2,_⟩:=dd
  exact⟨ob,h1,h2.2.1⟩
section
variable{X:Cx}{pins:List (Addr×Obj)}{σ:St}{H:Hp}{s:Shared}{a:Addr}{y d:V}{u r:Value}{o:Option V}{A:Around}{E:Value->Shared->Prop}
theorem b5T{Q:Value->Shared->Prop}(hu:A.units+ 1<cLine)(I:aD X pins σ H s)(g:bQ H a y o)(ry:bF y u)(rd:bF d r)(h:∀w' s',aD X pins σ H s'->bF (o.getD d) w'->Q w' s'):
 wpAny (model X.prog X.w) A (call (.builtin "dict.get") [.ref a,u,r]) Q E s:=by
 rcases g with⟨kvs,k,e,ey,l⟩|⟨kvs,k,b,e,ey,eb,l⟩
 ·subst ey
  obtain⟨z,hd,vs,rel,dd⟩:=nA I.hok e
  refine call_meetsIn PySem.F.slot_dict_get dd.typeIs PySem.F.entry_dict_get (PySem.F.args_dict_get_3 _ _ _) (meets_dict_get_default (fH X.prog X.w) a (oK ry) hd r) ⟨_,dd.mapOf,h _ _ (I.tok _) ?_⟩
  rw[l]
  exact(rel.val k).getD rd
 ·subst ey
  cases (show u=Value.ref b from ry)
  obtain⟨z,hd,xs,rel,dd⟩:=oT I.hok e
  refine call_meetsIn PySem.F.slot_dict_get dd.typeIs PySem.F.entry_dict_get (PySem.F.args_dict_get_3 _ _ _) (meetsH_dict_get_default (tupleKind (fH X.prog X.w)) a b hd r) ⟨tupleKind_room_in1 hu,k,xs,pR I.hok eb,dd,h _ _ (I.tok _) ?_⟩
  rw[l]
  exact(rel.val k).getD rd
end
def b6h(td ty tx:TE):TE:=fun σ H Q=>td σ H fun x H1=>∃a,x= .ref a/\IsD H1 a/\ty σ H1 fun y H2=>tx σ H2 fun z H3=>∃o,bQ H3 a y o/\Q (o.getD z) H3
section
variable{X:Cx}{o e f:Expr}{apos cpos:Pos}{td ty tx:TE}
theorem b23(hu:X.A.units+ 1<cLine)(ho:PE X o td)(he:PE X e ty)(hf:PE X f tx)(m:M2 X o "get" apos e f cpos):PE X (.Call (.Attribute o "get" apos) [e,f] [] cpos) (b6h td ty tx):=by
 intro pins s σ H Q I h
 refine wpAny_Call_method m.base m.few m.line PySem.F.plainAttrs_dict PySem.F.slot_dict_get PySem.F.type_dict_get (aU (ho pins s σ H _ I h) fun u s1 ⟨x,H1,I1,rx,a,ex,d,q1⟩=> ?_)
 subst ex
 obtain rfl:u=Value.ref a:=rx
 obtain⟨t1,t2,_⟩:=b51 I1 d
 refine⟨t1,t2,?_⟩
 rw[m.trees]
 refine Calls.callWith_builtin rfl (Calls.evalArgs_plain (Calls.spliced_cons (aU (he pins s1 σ H1 _ I1 q1) fun iv s2 ⟨y,H2,I2,ry,q2⟩=>
  Calls.spliced_cons (aU (hf pins s2 σ H2 _ I2 q2) fun fv s3 ⟨z,H3,I3,rz,ov,g,q3⟩=>Calls.spliced_nil ?_))))
 exact b5T hu I3 g ry rz fun w' s4 I4 rw'=>⟨_,H3,I4,rw',q3⟩
end
end L2
namespace Att
open PySem PySem.W PySem.Calls PyProof.Rows
theorem b5J{P:Params}{h:Heap}:∀(ns:List Int) (vs:List Value),WellAll P h vs (ns.map WData.int)->IntsAre vs ns:=by
 intro ns
 induction ns with
 |nil=>
  intro vs w
  rw[List.map_nil]at w
  cases w
  exact .nil
 |cons n ns ih=>
  intro vs w
  rw[List.map_cons]at w
  cases w with
  |cons a b=>
   cases a
   exact .cons _ _ (ih _ b)
theorem b6L{l:OpenLaw}{n:Nat}(hn:l.most=some n){P:Params}{h:Heap}{args:List WData}{vals:List Value}
 (hpre:l.row.toRowW.claim.pre args=true)(hwl:WellAll P h vals args):
 ∃a vs ns,vals= [Value.ref a] /\args= [WData.list (ns.map WData.int)] /\h.get? a=some {cls:=.type "list",data:=.seq vs.toArray} /\IntsAre vs ns/\ns.length<=n:=by
 have hsh:WShape.hasAll [] args [.list .int]=true:=(pre_splitW hpre).1
 have hc:l.pre.holds [] {args:=args}=true:=(pre_splitW hpre).2
 obtain⟨d,r,rfl,h1,h2⟩:=hasAllW_cons hsh
 obtain rfl:=hasAllW_nil h2
 obtain⟨xs,rfl,h3⟩:=hasW_list h1
 obtain⟨ns,rfl⟩:=items_int h3
 have hlen:ns.length<=n:=by
  unfold OpenLaw.pre at hc
  have h4:(WTm.not (.lt (.lit (.int (n:Int))) (.len (.arg 0)))).holds [] {args:=[.list (ns.map .int)]}=true:=by
   have h4:=(holds_andW hc).1
   rw[hn]at h4
   exact h4
  have h5:=condW_of h4 (w_not (w_lt w_lit (w_len_list (w_arg rfl))))
  rw[List.length_map]at h5
  refine Nat.le_of_not_lt fun q=> ?_
  have q':(n:Int)<((ns.length:Nat):Int):=by omega
  first
   |(rw[decide_eq_true q']at h5;exact absurd h5 (by decide))
   |(simp at h5;omega)
 cases hwl with
 |cons w1 w2=>
  cases w2
  cases w1 with
  |list ho hall=>exact⟨_,_,ns,rfl,rfl,ho,b5J ns _ hall,hlen⟩
theorem b3U(l:OpenLaw)(args:List WData):l.row.toRowW.claim.post args (.bool true) args=true:=
 postW_of (r:=l.row.toRowW) (X:=(true==true))
  (show WShape.has [] (.bool true) .bool=true by first|rfl|decide|simp[WShape.has,WShape.arms,WShape.armsAll])
  (show(WTm.eq .res (.lit (.bool true))).value [] {args:=args,res:=some (.bool true),after:=args}=some (.bool (true==true)) from w_eq_bool (w_res rfl) w_lit) rfl
theorem attach_call{l:OpenLaw}{n:Nat}{q:Program}{loose:List Str}{XP:(Str->Option Value)->Heap->Prop}{YP:World->Heap->Prop}{d:DefRec}
 (hn:l.most=some n)(hdf:d.params.defaults= [])
 (call:∀(w:World) (s₀ s₁:Shared) (mg mb:Str->Option Value) (fa:Addr) (o:Obj) (pm cd doc:Value) (a:Addr) (vs:List Value) (ns:List Int),
  Ground q loose [] XP w s₀ mg mb s₁.heap->YP w s₁.heap->
  s₁.heap.get? fa=some o->o.data= .func (docDef d.name d.params d.body d.scope pm cd doc)->s₁.heap.CodeRec cd d.name->mg d.name=some (.ref fa)->
  s₁.heap.get? a=some {cls:=.type "list",data:=.seq vs.toArray} ->IntsAre vs ns->ns.length<=n->s₁.gens= #[] ->
  codeAny (model l.prog w) callerA (.call (.ref fa) ⟨[.ref a],[]⟩) (fun r s'=>r= .ok (.ret (.bool true))/\OldK s₁.heap s'.heap/\s'.os=s₁.os/\AllBare s'.gens) s₁):
 WalkO q loose XP YP l.row.toRowW d [] (fun f vs=>PySem.call f vs):=by
 intro w s₀ s₁ mg mb G Y fa o pm cd doc dV kV ho hd hcd hD hmg hg args vals as hpre hlay hrd hwl hlo
 obtain rfl:dV= .none:=Dflts.none hD hdf
 obtain rfl:kV= .none:=Dflts.noKw hD
 obtain⟨a,vs,ns,rfl,rfl,hobj,hints,hlen⟩:=b6L hn hpre hwl
 refine enter_call (codeAny_mono (call w s₀ s₁ mg mb fa o pm cd doc a vs ns G Y ho (fd_plain hd) hcd hmg hobj hints hlen hg) fun r s' hq=> ?_)
 obtain⟨rfl,h2,h3,h4⟩:=hq
 exact⟨.inl ⟨.bool true,.bool true,[],rfl,fun _=>rfl,.bool true,b3U l _,fun _=>⟨List.Pairwise.nil,fun _ hm=>(nomatch hm)⟩⟩,h2,h3,h4⟩
section
variable{prog:Program}{w:World}{A:Around}{E:Value->Shared->Prop}{s:Shared}{K:Frag}
noncomputable def ledger(h:Heap)(L d:Addr):List (Addr×Obj):=(List.range h.objs.size).filterMap fun a=>if a=L\/ a=d then none else(h.get? a).map fun o=>(a,o)
end
end Att
namespace L2
open PySem PySem.Spec PyProof.Rows
theorem b0T:∀{vs:List Value} {ns:List Int},IntsAre vs ns->bD (ns.map V.int) vs
 |_,_,.nil=> .nil
 |_,_,.cons n t h=> .cons ⟨t,rfl⟩ (b0T h)
def aZ(s:Stmt):Arguments:=match s with
 | .FunctionDef _ a _ _ _ _ _ _ _ _=>a
 |_=>{posonlyargs:=[],args:=[],vararg:=none,kwonlyargs:=[],kw_defaults:=[],kwarg:=none,defaults:=[]}
def aV(s:Stmt):List Stmt:=match s with
 | .FunctionDef _ _ b _ _ _ _ _ _ _=>b
 |_=> []
def aI(s:Stmt):Scope:=match s with
 | .FunctionDef _ _ _ _ _ _ sc _ _ _=>sc
 |_=>{kind:=.function,names:=[],isGenerator:=false,isCoroutine:=false}
abbrev aF:fG:=fun _ _ _ _ _ _=>False
abbrev E0:XK:=fun _ _ _=>False
theorem aR{X:Cx}:iJ aF X E0:=fun _ _ _ _ _ _ _ h=>h.elim
structure jH(K:Fg)(x qual:Str)(st:Stmt)(f:Addr)(fd:FuncData):Prop where
 ex:∃(oc:Value) (od:Option Addr) (kV doc pm:Value) (an:Option Addr) (cdv ct:Value) (osl:Array (Option Value)),
  fd=PySem.W.fnOf x qual (aZ st) (aV st) (aI st) .none kV doc pm an cdv ct/\K.lookup f=some ⟨oc,od,.func fd,osl⟩ /\PySem.W.codeIn K cdv qual=true
 kp:PySem.W.keepIn K (.ref f)=true
section
variable{P:Program}{w:World}{K:Fg}{mg:Str->Option Value}{base:Heap}
theorem jH.ok{x qual:Str}{st:Stmt}{f:Addr}{fd:FuncData}{N ps:List Str}{k:Nat}{sp:Sp}(F:jH K x qual st f fd)(S:bG N ps (aI st))(len:∀vs H Q E,sp vs H Q E->vs.length=ps.length)
 (hbody:∀(cdv:Value) (A:Around) (outer:List Env) (s:Shared) (H:Hp) (vs:List V) (Q:VK) (E:XK),bV k (A.deeper (envOfC qual (aI st) s.heap.objs.size f cdv))->sp vs H Q E->
  ∃t,dQ (eY aF P w K mg base N qual (aI st) f cdv A outer s H E).nox (aV st) t/\t {nx:=fun _ H'=>Q .non H',rt:=Q} (start N vs) H):fJ P w K mg base aF (k+ 1) f fd ps sp:=by
 obtain⟨oc,od,kV,doc,pm,an,cdv,ct,osl,rfl,lk,hcd⟩:=F.ex
 refine a4P lk hcd S len fun A outer s H vs Q E hr hsp=> ?_
 obtain⟨t,h,q⟩:=hbody cdv A outer s H vs Q E hr hsp
 exact⟨t,h.nox,q⟩
theorem jH.binds{x qual:Str}{st:Stmt}{f:Addr}{fd:FuncData}{ps:List Str}(F:jH K x qual st f fd)
 (h:∀(kV doc pm:Value) (an:Option Addr) (cdv ct:Value) (us:List Value),us.length=ps.length->bindArgs (PySem.W.fnOf x qual (aZ st) (aV st) (aI st) .none kV doc pm an cdv ct) ⟨us,[]⟩=pure (ps.zip us)):hZ K fd ps []:=by
 obtain⟨oc,od,kV,doc,pm,an,cdv,ct,osl,rfl,lk,hcd⟩:=F.ex
 exact .all (h kV doc pm an cdv ct)
theorem xY{x qual:Str}{st:Stmt}{f:Addr}{oc:Value}{od an:Option Addr}{osl:Array (Option Value)}{kV doc pm cdv ct:Value}(l:K.lookup f=some ⟨oc,od,.func (PySem.W.fnOf x qual (aZ st) (aV st) (aI st) .none kV doc pm an cdv ct),osl⟩)
 (c:PySem.W.codeIn K cdv qual=true)(k:PySem.W.keepIn K (.ref f)=true):jH K x qual st f (PySem.W.fnOf x qual (aZ st) (aV st) (aI st) .none kV doc pm an cdv ct):=⟨⟨oc,od,kV,doc,pm,an,cdv,ct,osl,rfl,l,c⟩,k⟩
end
theorem cU{A:Around}{k:Nat}(hr:bV k A):A.units+ 1<cLine:=Nat.lt_of_le_of_lt (Nat.add_le_add_left (by decide:1<=64) _) hr.units
theorem dD{n:Nat}(h:n<=1000):n<sizeLine:=Nat.lt_of_le_of_lt h (by decide)
section
variable{X:Cx}
theorem pv(i:Nat){x:Str}{pos:Pos}(hN:X.N[i]?=some x:=by rfl)(hv:zJ X.env.scope x:=by first|exact Or.inl rfl|exact Or.inr (Or.inl rfl)|exact Or.inr (Or.inr rfl))(hd:(x==("__debug__":Str))=false:=by decide)
 (hcd:(x==("__classdict__":Str))=false:=by decide):PE X (.Name x pos) (tVar i):=b1X hN hv hd hcd
theorem b0R:jQ X (.builtin "len") (fun xs H Q=>∃a kvs,xs= [V.ref a] /\H a=some (.dK kvs)/\Q (.int kvs.length) H):=by
 intro pins s σ H xs us Q I r h
 obtain⟨a,kvs,rfl,ha,q⟩:=h
 obtain⟨u,rfl,ru⟩:=nQ r
 cases ru
 exact b4I I (.inl ha) fun t s' I'=>⟨.int kvs.length,H,I',⟨t,rfl⟩,q⟩
end
theorem bL{A B:Prop}(h:B):if false=true then A else B:=by
 rw[if_neg Bool.false_ne_true]
 exact h
theorem dM{A B:Prop}(h:A):if true=true then A else B:=by
 rw[if_pos rfl]
 exact h
theorem eR{c A B:Prop} [Decidable c](h1:c->A)(h2:¬c->B):if c then A else B:=by
 by_cases h:c
 ·rw[if_pos h]
  exact h1 h
 ·rw[if_neg h]
  exact h2 h
def aE(H H':Hp):Prop:=∀b o,H b=some o->H' b=some o
theorem aE.refl(H:Hp):aE H H:=fun _ _ h=>h
theorem aE.trans{H H1 H2:Hp}(a:aE H H1)(b:aE H1 H2):aE H H2:=fun c o h=>b c o (a c o h)
theorem aE.seq{K:Fg}{H H':Hp}{a:Addr}{xs:List V}(e:aE H H')(h:aN K H a xs):aN K H' a xs:=by
 rcases h with(h|⟨o,h⟩)|h
 ·exact .inl (.inl (e _ _ h))
 ·exact .inl (.inr ⟨o,e _ _ h⟩)
 ·exact .inr h
section
variable{κ:Type} [DecidableEq κ]
theorem b4L{kvs:List (κ×V)}{k:κ}(h:aM kvs k=none):¬k∈kvs.map (·.1):=by
 intro m
 obtain⟨p,hp,e⟩:=List.mem_map.mp m
 have q:(kvs.any fun kv=>decide (kv.1=k))=true:=List.any_eq_true.mpr ⟨p,hp,decide_eq_true e⟩
 rw[mR,h]at q
 exact absurd q (by simp)
theorem b0U:∀{l:List κ} {k:κ},l.Nodup->¬k∈l->(l++ [k]).Nodup
 | [],k,_,_=>by simp
 |a::r,k,h,hk=>by
  obtain⟨h1,h2⟩:=List.nodup_cons.mp h
  show(a::(r++ [k])).Nodup
  refine List.nodup_cons.mpr ⟨fun m=> ?_,b0U h2 fun m=>hk (List.mem_cons.mpr (Or.inr m))⟩
  rcases List.mem_append.mp m with q|q
  ·exact h1 q
  ·exact hk (List.mem_cons.mpr (Or.inl (List.mem_singleton.mp q).symm))
theorem a98{kvs:List (κ×V)}{k:κ}(v:V)(hn:(kvs.map (·.1)).Nodup)(h:aM kvs k=none):((aS kvs k v).map (·.1)).Nodup:=by
 rw[a7B v h,List.map_append]
 exact b0U hn (b4L h)
end
section
variable{X:Cx}{a b c:Expr}{ta tb tc:TE}{pos:Pos}
theorem b54:dU X (compareOp .Is) (fun x y H Q=>∃i j,x= .bl i/\y= .bl j/\Q (.bl (i==j)) H):=by
 intro pins s σ H x y v u Q I rx ry h
 obtain⟨i,j,rfl,rfl,q⟩:=h
 cases rx
 cases ry
 exact is_bool ⟨.bl (i==j),H,I,rfl,q⟩
theorem qK{x:Str}{i:Int}(h:∃t,X.mg x=some (.int i t))(hg:Gl X x:=by rfl)(hd:(x==("__debug__":Str))=false:=by decide):PE X (.Name x pos) (tC (.int i)):=by
 obtain⟨t,h⟩:=h
 exact a5m hg h ⟨t,rfl⟩ hd
theorem b2P{x z:Str}(h:∃t,X.mg x=some (.str z t))(hg:Gl X x:=by rfl)(hd:(x==("__debug__":Str))=false:=by decide):PE X (.Name x pos) (tC (.str z)):=by
 obtain⟨t,h⟩:=h
 exact a5m hg h ⟨t,rfl⟩ hd
theorem a9M{x:Str}{f:Addr}(h:X.mg x=some (.ref f))(hg:Gl X x:=by rfl)(hd:(x==("__debug__":Str))=false:=by decide):PE X (.Name x pos) (tC (.ref f)):=a5m hg h rfl hd
theorem iQ{x:Str}{T:String}(hm:X.mg x=none)(hv:bootBuiltins x=some (.type T))(hg:Gl X x:=by rfl)(hn:x≠ "__name__":=by decide)(hd:(x==("__debug__":Str))=false:=by decide):PE X (.Name x pos) (tC (.ty T)):=b3n hg hm hv rfl hn hd
end
mutual
inductive Dt(K:Fg)(H:Hp):V->PyData->Prop where
 |non:Dt K H .non .none
 |bl (b:Bool):Dt K H (.bl b) (.bool b)
 |int (i:Int):Dt K H (.int i) (.int i)
 |str (x:Str):Dt K H (.str x) (.str x)
 |lst {a:Addr} {xs:List V} {ds:List PyData}:aN K H a xs->cV K H xs ds->Dt K H (.ref a) (.list ds)
 |tup {a:Addr} {xs:List V} {ds:List PyData}:cF K H a xs->cV K H xs ds->Dt K H (.ref a) (.tuple ds)
 |dK {a:Addr} {kvs:List (aA×V)}:H a=some (.dK kvs)->Dt K H (.ref a) (.dict [])
 |dT {a:Addr} {kvs:List (List aA×V)}:H a=some (.dT kvs)->Dt K H (.ref a) (.dict [])
inductive cV(K:Fg)(H:Hp):List V->List PyData->Prop where
 |nil:cV K H [] []
 |cons {v:V} {d:PyData} {vs:List V} {ds:List PyData}:Dt K H v d->cV K H vs ds->cV K H (v::vs) (d::ds)
end
section
variable{X:Cx}{pins:List (Addr×Obj)}{σ:St}{H H':Hp}{s:Shared}
mutual
theorem Dt.reads(I:aD X pins σ H s):∀{v:V} {d:PyData} {u:Value},Dt X.K H v d->bF v u->d.canLay0=true->∃as,Reads s.heap u d as
 |_,_,_,.non,r,_=>by cases r;exact⟨_,.none⟩
 |_,_,_,.bl b,r,_=>by cases r;exact⟨_,.bool b⟩
 |_,_,_,.int i,r,_=>by obtain⟨t,rfl⟩:=r;exact⟨_,.int i t⟩
 |_,_,_,.str x,r,_=>by obtain⟨t,rfl⟩:=r;exact⟨_,.str x t⟩
 |_,_,_,.lst h hd,r,l=>by
  cases r
  obtain⟨its,rv,⟨o,n,e,hc,_,hs⟩,_⟩:=I.list h
  obtain⟨as,ra⟩:=cV.reads I hd rv (by rw[PyData.canLay0]at l;exact l)
  exact⟨_,.list e hc hs (by simpa using ra)⟩
 |_,_,_,.tup h hd,r,l=>by
  cases r
  obtain⟨its,rv,⟨o,e,hc,n,hs⟩,_⟩:=I.tuple h
  obtain⟨as,ra⟩:=cV.reads I hd rv (by rw[PyData.canLay0]at l;exact l)
  exact⟨_,.tuple e hc hs (by simpa using ra)⟩
 |_,_,_,.dK _,_,l=>by rw[PyData.canLay0]at l;cases l
 |_,_,_,.dT _,_,l=>by rw[PyData.canLay0]at l;cases l
theorem cV.reads(I:aD X pins σ H s):∀{vs:List V} {ds:List PyData} {us:List Value},cV X.K H vs ds->bD vs us->PyData.canLayAll0 ds=true->∃as,ReadsAll s.heap us ds as
 |_,_,_,.nil,r,_=>by cases r;exact⟨_,.nil⟩
 |_,_,_,.cons h hd,r,l=>by
  rw[PyData.canLayAll0,Bool.and_eq_true]at l
  cases r with
  |cons r1 rr=>
   obtain⟨as,ra⟩:=Dt.reads I h r1 l.1
   obtain⟨bs,rb⟩:=cV.reads I hd rr l.2
   exact⟨_,.cons ra rb⟩
end
theorem aE.seqT{K:Fg}{a:Addr}{xs:List V}(e:aE H H')(h:cF K H a xs):cF K H' a xs:=by
 rcases h with(h|⟨o,h⟩)|h
 ·exact .inl (.inl (e _ _ h))
 ·exact .inl (.inr ⟨o,e _ _ h⟩)
 ·exact .inr h
mutual
theorem Dt.same{K:Fg}(e:aE H H'):∀{v:V} {d:PyData},Dt K H v d->Dt K H' v d
 |_,_,.non=> .non
 |_,_,.bl b=> .bl b
 |_,_,.int i=> .int i
 |_,_,.str x=> .str x
 |_,_,.lst h hd=> .lst (e.seq h) (cV.same e hd)
 |_,_,.tup h hd=> .tup (aE.seqT e h) (cV.same e hd)
 |_,_,.dK h=> .dK (e _ _ h)
 |_,_,.dT h=> .dT (e _ _ h)
theorem cV.same{K:Fg}(e:aE H H'):∀{vs:List V} {ds:List PyData},cV K H vs ds->cV K H' vs ds
 |_,_,.nil=> .nil
 |_,_,.cons h hd=> .cons (Dt.same e h) (cV.same e hd)
end
theorem cV.get{K:Fg}:∀{vs:List V} {ds:List PyData} {i:Nat} {v:V},cV K H vs ds->vs[i]?=some v->∃d,ds[i]?=some d/\Dt K H v d
 |_,_,_,_,.nil,e=>by simp at e
 |_,_,0,_,.cons h _,e=>by simp at e;subst e;exact⟨_,rfl,h⟩
 |_,_,i+ 1,v,.cons _ t,e=>by
  obtain⟨d,h1,h2⟩:=cV.get (i:=i) (v:=v) t (by simpa using e)
  exact⟨d,by simpa using h1,h2⟩
theorem cV.length{K:Fg}:∀{vs:List V} {ds:List PyData},cV K H vs ds->vs.length=ds.length
 |_,_,.nil=>rfl
 |_,_,.cons _ t=>by rw[List.length_cons,List.length_cons,cV.length t]
theorem yK(hu:X.A.units+ 64<cLine):dU X (compareOp .Eq) (fun x y H Q=>∃dx dy,Dt X.K H x dx/\Dt X.K H y dy/\dx.canLay0=true/\dy.canLay0=true/\dx.depth<=64/\Q (.bl (PyData.eqv dx dy)) H):=by
 intro pins s σ H x y v u Q I rx ry h
 obtain⟨dx,dy,hx,hy,lx,ly,hd,q⟩:=h
 obtain⟨as,ra⟩:=Dt.reads I hx rx lx
 obtain⟨bs,rb⟩:=Dt.reads I hy ry ly
 exact SeqAt.compareEq_reads ra rb lx ly (by have:=Nat.min_le_left dx.depth dy.depth;omega) ⟨.bl _,H,I,rfl,q⟩
theorem rK(hu:X.A.units+ 64<cLine):dU X (compareOp .NotEq) (fun x y H Q=>∃dx dy,Dt X.K H x dx/\Dt X.K H y dy/\dx.canLay0=true/\dy.canLay0=true/\dx.depth<=64/\Q (.bl (!PyData.eqv dx dy)) H):=by
 intro pins s σ H x y v u Q I rx ry h
 obtain⟨dx,dy,hx,hy,lx,ly,hd,q⟩:=h
 obtain⟨as,ra⟩:=Dt.reads I hx rx lx
 obtain⟨bs,rb⟩:=Dt.reads I hy ry ly
 exact SeqAt.compareNe_reads ra rb lx ly (by have:=Nat.min_le_left dx.depth dy.depth;omega) ⟨.bl _,H,I,rfl,q⟩
end
noncomputable def zX (x:Str):It:=⟨fun i _=>i<x.cps.size,fun i H v H'=>H'=H/\∃c,x.cps[i]?=some c/\v= .str ⟨#[c]⟩,fun i _=>x.cps.size<=i⟩
theorem b3D{P:Program}{w:World}{K:Fg}{tg:Expr}(it:Addr)(x:Str)(t:Tok):∀ty:String,(ty= "str_ascii_iterator"\/ ty= "str_iterator")->oV P w K tg (zX x) [it] it (fun i h=>h.IsStrIter it ty x t i):=by
 intro ty hty
 refine⟨by simp,?_,?_,?_,?_,?_⟩
 ·intro i h st b hb
  have e:b=it:=by simpa using hb
  subst e
  obtain⟨o,e,c,d⟩:=st
  exact⟨o,e,fun v z=>by rw[d]at z;cases z⟩
 ·intro i h h' st k
  obtain⟨o,e,c,d⟩:=st
  exact⟨o,k it (by simp) o e,c,d⟩
 ·intro X hP hw hK hc i pins s σ H E I hf st hg
  subst hP hw hK
  obtain⟨f0,f1,f2,f3,f4,f5⟩:=hf it (by simp)
  have hi:i<x.cps.size:=hg
  have hx:x.cps[i]?=some x.cps[i]:=by simp[hi]
  have fin:∀h',h'.IsStrIter it ty x t (i+ 1)->Heap.SameBut it s.heap h'->∃u,some (Value.str ⟨#[x.cps[i]]⟩ s.toks)=some u/\
   wpAny (model X.prog X.w) X.A (letOwnedTupleGo tg (.ref it) u) (fun _ s2=>∃y H',aD X pins σ H' s2/\bF y u/\(zX x).yld i H y H'/\s2.heap.IsStrIter it ty x t (i+ 1)/\∀b∈ [it],H' b=none) E {s with heap:=h',toks:=s.toks+ 1}:=by
   intro h' st' sb
   have I1:aD X pins σ H {s with heap:=h',toks:=s.toks+ 1}:=I.turned (fun b o hb e=>(sb.2 b hb).trans e) f0 f1 f3 f4 f5
   obtain⟨o,e,c,d⟩:=id st'
   refine⟨_,rfl,zC (s:={s with heap:=h',toks:=s.toks+ 1}) e c d ?_ ⟨.str ⟨#[x.cps[i]]⟩,H,I1,⟨_,rfl⟩,⟨rfl,_,hx,rfl⟩,st',fun b hb=>(hf b hb).1⟩⟩
   rcases hty with rfl|rfl<;>decide
  rcases hty with rfl|rfl
  ·exact wpAny_pyNext_ascii_item st hx fin
  ·exact wpAny_pyNext_wide_item st hx fin
 ·intro X hP hw hK hc i pins s σ H E I hf st hg
  subst hP hw hK
  obtain⟨f0,f1,f2,f3,f4,f5⟩:=hf it (by simp)
  have hi:x.cps.size<=i:=hg
  have hx:x.cps[i]?=none:=by simp[hi]
  have fin:∀h',Heap.ExtBut it s.heap h'->(none:Option Value)=none/\aD X pins σ H {s with heap:=h'}:=fun h' eb=>⟨rfl,I.turned (t':=s.toks) (fun b o hb e=>eb b o hb e) f0 f1 f3 f4 f5⟩
  rcases hty with rfl|rfl
  ·exact wpAny_pyNext_ascii_end (I.ok.hd hc) st hx fin
  ·exact wpAny_pyNext_wide_end (I.ok.hd hc) st hx fin
 ·intro A i s Q E st h
  rcases hty with rfl|rfl
  ·exact wpAny_pyIter_striter_ascii st h
  ·exact wpAny_pyIter_striter_wide st h
section
variable{X:Cx}{tg:Expr}
def iStr(tl:TE):TI:=fun σ H R=>tl σ H fun v H1=>∃x,v= .str x/\R (zX x) H1
theorem b71{l:Expr}{tl:TE}(hl:PE X l tl):PI X tg l (iStr tl):=by
 intro pins s σ H R I h
 refine aU (hl pins s σ H _ I h) fun v s1 ⟨y,H1,I1,r1,q1⟩=> ?_
 obtain⟨x,e,q⟩:=q1
 subst e
 obtain⟨t,rfl⟩:=r1
 have fin:∀ty:String,(ty= "str_ascii_iterator"\/ ty= "str_iterator")->PIE X pins σ tg R (.ref s1.heap.objs.size) {s1 with heap:=s1.heap.push {cls:=.type ty,data:=.fields #[.str x t,.int 0 0]}}:=fun ty hty=>by
  refine⟨s1.heap.objs.size,[s1.heap.objs.size],_,_,H1,rfl,I1.kept (t':=s1.toks) fun b o e=>Heap.get?_push_of_some _ e,b3D _ x t ty hty,⟨_,Heap.get?_push_size _ rfl,rfl,rfl⟩,fun b hb=> ?_,q⟩
  have e:b=s1.heap.objs.size:=by simpa using hb
  subst e
  exact I1.fpOk (Nat.le_refl _) (I1.hok.fresh (Nat.le_refl _))
 cases ha:x.cps.all (·<128)
 ·exact wpAny_pyIter_wide ha (fin _ (.inr rfl))
 ·exact wpAny_pyIter_ascii ha (fin _ (.inl rfl))
end
section
variable{prog:Program}{w:World}{A:Around}{R:Result->Shared->Prop}{s:Shared}
theorem b7W{elt target iter:Expr}{ifs:List Expr}{scope:Scope}{pos:Pos}{it acc:Value}{env:Env}(I:Nat->Shared->Prop)
 (turn:∀n s,I n s->wpAny (model prog w) A (pyNext it) (fun r s₁=>match r with
  |none=>R (.ok .next) s₁
  |some v=>wpAny (model prog w) A (letOwnedTupleGo target it v) (fun _ s₁'=>wpAny (model prog w) A (assign target env v) (fun _ s₂=>
   wpAny (model prog w) A (forIn ifs true fun c r=>if r=true then do let ok<- isTrue c env (eval c env);pure (ForInStep.yield ok) else pure (ForInStep.yield r)) (fun ok s₃=>
    if ok=true then wpAny (model prog w) A (eval elt env) (fun x s₄=>
     wpAny (model prog w) A (call (.builtin "list.append") [acc,x]) (fun _ s₅=>∃m,m<n/\I m s₅) (fun _ _=>False) s₄) (fun _ _=>False) s₃
    else∃m,m<n/\I m s₃) (fun _ _=>False) s₂) (fun _ _=>False) s₁') (fun _ _=>False) s₁) (fun _ _=>False) s)
 (n:Nat)(h:I n s):
 codeAny (model prog w) A (.compLoop (.ListComp elt [⟨target,iter,ifs,0⟩] scope pos) 0 it acc env) R s:=by
 refine codeAny_loop rfl I (fun n s hI=> ?_) n h
 show wpAny _ A ((compTurn (.ListComp elt [⟨target,iter,ifs,0⟩] scope pos) 0 it acc env).onRaise (fun x=>do noteFrame x env;theTreesLotGoes x)) _ _ s
 refine wpAny_noted ?_
 rw[compTurn_list]
 refine wpAny_bind (wpAny_standAt (wpAny_bind (wpAny_mono (turn n s hI) (fun r s₁ h₁=> ?_) fun _ _ h'=>h'.elim)))
 cases r with
 |none=>exact wpAny_pure h₁
 |some v=>
  refine wpAny_bind (wpAny_mono h₁ (fun _ s₁' h₁'=> ?_) fun _ _ h'=>h'.elim)
  refine wpAny_bind (wpAny_mono h₁' (fun _ s₂ h₂=>wpAny_bind (wpAny_mono h₂ (fun ok s₃ h₃=> ?_) fun _ _ h'=>h'.elim)) fun _ _ h'=>h'.elim)
  cases ok with
  |false=>exact wpAny_pure ⟨rfl,h₃⟩
  |true=>
   exact wpAny_bind (wpAny_bind (wpAny_mono h₃ (fun x s₄ h₄=>wpAny_bind (wpAny_mono h₄ (fun _ s₅ h₅=>wpAny_pure (wpAny_pure ⟨rfl,h₅⟩)) fun _ _ h'=>h'.elim)) fun _ _ h'=>h'.elim))
end
noncomputable def lT (X:Cx) (scope:Scope) (cl:List (Str×Addr)) (C:Addr) (N':List Str) (fp:List Addr) (pins:List (Addr×Obj)) (s:Shared) (H:Hp):Cx where
 prog:=X.prog
 w:=X.w
 K:=X.K
 mg:=X.mg
 base:=X.base
 A:=X.A
 N:=N'
 s₀:=s
 H₀:=H
 env:=compEnvC scope cl C X.env
 outer:=X.stack
 stack:=X.stack
 ex:=fp
 calm:=X.calm
 fn:=fun _=>false
 pn:=X.pn++ pins
 xe:=fun _ _=>False
structure oX(X:Cx)(scope:Scope)(cl:List (Str×Addr))(cp:List (Nat×Str)):Prop where
 kind:scope.kind= .function
 nocell:∀y∈scope.names,y.2≠ .cell
 names:∀y∈scope.names,y.2= .local->scope.names.lookup y.1=some .local
 clos:closureFor scope X.env=pure cl
 sub:∀x c,cl.lookup x=some c->X.env.cells.lookup x=some c
 has:∀x,((relabel scope X.env).names.lookup x=some .cell\/ (relabel scope X.env).names.lookup x=some .free)->∃c,cl.lookup x=some c
 at':∀p∈cp,X.N[p.1]?=some p.2/\(X.env.scope.names.lookup p.2=some .cell\/ X.env.scope.names.lookup p.2=some .free)/\((relabel scope X.env).names.lookup p.2=some .cell\/ (relabel scope X.env).names.lookup p.2=some .free)
noncomputable def iD (cp:List (Nat×Str)) (σ:St):St:=cp.map fun p=>(σ[p.1]?).getD none
section
variable{X:Cx}{pins:List (Addr×Obj)}{σ:St}{H:Hp}{s:Shared}{scope:Scope}{cl:List (Str×Addr)}{cp:List (Nat×Str)}{fp:List Addr}{x:Str}
theorem b2v(I:aD X pins σ H s)(c:oX X scope cl cp)(hf:∀b∈fp,kB X pins H b)(hfo:∀b∈fp,b<s.heap.objs.size){h':Heap}{ty:String}{tk:Nat}{m:Str->Option Value}(hm:h'.Ns s.heap.objs.size m)
 (sb:Heap.SameBut s.heap.objs.size (s.heap.push {cls:=.type ty,data:=.dict #[]}) h'):
 aD (lT X scope cl s.heap.objs.size (x::cp.map (·.2)) fp pins s H) [] (none::iD cp σ) H {s with heap:=h',toks:=tk}:=by
 have old:∀b o,s.heap.get? b=some o->h'.get? b=some o:=fun b o e=>(sb.2 b (Nat.ne_of_lt (Heap.lt_size e))).trans (Heap.get?_push_of_some _ e)
 have hC:H s.heap.objs.size=none:=I.hok.fresh (Nat.le_refl _)
 refine⟨⟨I.ok.mod,c.kind,I.ok.glob,I.ok.blt,Nat.le_refl _,fun y z k h1 h2=>I.ok.inj y z k (c.sub _ _ h1) (c.sub _ _ h2),c.has,fun y k z=>(Bool.noConfusion z),I.ok.hd,I.ok.frames,.inl rfl,fun b hb=> ?_,fun b o e=>I.bs b o e,Nat.le_trans I.ok.bsz I.sz,fun b o e hb=> ?_,fun b hb hz=> ?_,I.stack,I.stkFree⟩,
  rfl,I.bare,Un.kept old,⟨m,hm,fun i y v h1 h2 h3=> ?_⟩,fun y k e=> ?_,hC,fun y k e=>I.freeC y k (c.sub y k e),fun p hp=> ?_,I.hok.kept old,?_⟩
 ·obtain⟨f0,f1,f2,f3,f4,f5⟩:=hf b hb
  exact⟨Nat.ne_of_lt (hfo b hb),fun y k e=>f4 y k (c.sub y k e)⟩
 ·obtain⟨f0,f1,f2,f3,f4,f5⟩:=hf b hb
  rcases f3 with z|z
  ·exact I.ok.noex b o e z
  ·exact absurd (Nat.lt_of_lt_of_le (Heap.lt_size (I.ok.bs b o e).1) z) (Nat.lt_irrefl _)
 ·obtain⟨f0,f1,f2,f3,f4,f5⟩:=hf b hb
  rcases List.mem_cons.mp (I.stkSub b hz)with e|e
  ·exact f1 e
  ·exact f2 e
 ·cases i with
  |zero=>simp at h2
  |succ i=>
   have h1':(cp.map (·.2))[i]?=some y:=by
    have z:(x::cp.map (·.2))[i+ 1]?=some y:=h1
    rw[List.getElem?_cons_succ]at z
    exact z
   have h2':(iD cp σ)[i]?=some (some v):=by simpa using h2
   unfold iD at h2'
   rw[List.getElem?_map]at h1' h2'
   cases e:cp[i]? with
   |none=>rw[e]at h1';cases h1'
   |some p=>
    rw[e]at h1' h2'
    simp only[Option.map_some,Option.some.injEq]at h1' h2'
    obtain⟨k1,k2,k3⟩:=c.at' p (List.mem_of_getElem? e)
    subst h1'
    have h2'':σ[p.1]?=some (some v):=by
     cases q:σ[p.1]? with
     |none=>rw[q]at h2';cases h2'
     |some z=>rw[q]at h2';simpa using h2'
    obtain⟨m0,hn0,hl0⟩:=I.loc
    obtain⟨u,r,l⟩:=hl0 p.1 p.2 v k1 h2'' (k2.elim (fun z=> .inr (.inl z)) fun z=> .inr (.inr z))
    refine⟨u,r,.inr ⟨k3,?_⟩⟩
    rcases l with⟨z,_⟩|⟨_,cc,e1,e2⟩
    ·have z':X.env.scope.names.lookup p.2=some .local:=z
     rcases k2 with k|k<;>(rw[z']at k;cases k)
    ·obtain⟨cc',e3⟩:=c.has p.2 k3
     have e4:=c.sub _ _ e3
     rw[e1]at e4
     cases e4
     obtain⟨o,ho,hd⟩:=e2
     exact⟨cc,e3,o,old _ _ ho,hd⟩
 ·obtain⟨v,o,ho,hd⟩:=I.cell y k (c.sub y k e)
  exact⟨v,o,old _ _ ho,hd⟩
 ·have hp':p∈X.pn++ pins:=by
   rcases List.mem_append.mp hp with z|z
   ·exact z
   ·cases z
  obtain⟨e,n,ne,nf,d⟩:=I.pin p hp'
  refine⟨old _ _ e,n,Nat.ne_of_lt (Heap.lt_size e),fun hz=> ?_,d⟩
  rcases List.mem_cons.mp (I.stkSub p.1 hz)with q|q
  ·exact ne q
  ·exact nf q
 ·show(none::iD cp σ).length=(x::cp.map (·.2)).length
  simp[iD]
theorem aD.uncomp{C:Addr}{N':List Str}{σ':St}{H':Hp}{s':Shared}{h'':Heap}(I:aD X pins σ H s)(hC:C=s.heap.objs.size)(hf:∀b∈fp,kB X pins H b)(J:aD (lT X scope cl C N' fp pins s H) [] σ' H' s')(sb:Heap.SameBut C s'.heap h''):
 aD X pins σ H' {s' with heap:=h''}:=by
 have ne:∀b o,s.heap.get? b=some o->b≠C:=fun b o e=>by rw[hC];exact Nat.ne_of_lt (Heap.lt_size e)
 have B:Un (fZ X.stack) fp H H' s.heap s'.heap:=J.base
 refine I.call' (s':={s' with heap:=h''}) (ch:=fp) (show s'.os=s.os from J.os) ⟨fun b o e n hb hx=> ?_,fun b o e n hb hx=> ?_,B.free,fun b o e hx=> ?_,B.tups,B.frzs,B.tbls⟩ (fun b ob e=> ?_) J.bare fun b hb=> ?_
 ·exact(sb.2 b (ne b o e)).trans (B.keep b o e n hb hx)
 ·obtain⟨sl,q⟩:=B.slot b o e n hb hx
  exact⟨sl,(sb.2 b (ne b o e)).trans q⟩
 ·obtain⟨o',q⟩:=B.there b o e hx
  exact⟨o',(sb.2 b (ne b o e)).trans q⟩
 ·have hfree:H' C=none:=J.free
  refine(J.hok b ob e).stay (fun k w' hk q=>(sb.2 k ?_).trans q) (fun _ q=>q) fun _ _ q=>q
  rintro rfl
  rcases hk with rfl|hk
  ·rw[hfree]at e;cases e
  ·rw[hfree]at hk;cases hk
 ·obtain⟨f0,f1,f2,f3,f4,f5⟩:=hf b hb
  exact⟨f3,f1,f4,f5⟩
end
def yP(X:Cx)(ifs:List Expr)(t:TT):Prop:=
 ∀(pins:List (Addr×Obj)) (s:Shared) (σ:St) (H:Hp) (Q:Bool->Hp->Prop),aD X pins σ H s->t σ H Q->
  wpAny (model X.prog X.w) X.A (forIn ifs true fun c r=>if r=true then do let ok<- isTrue c X.env (eval c X.env);pure (ForInStep.yield ok) else pure (ForInStep.yield r)) (TP X pins σ Q) X.xe s
def rP:TT:=fun _ H Q=>Q true H
theorem pK{X:Cx}:yP X [] rP:=fun _ _ _ H _ I h=>wpAny_tests_nil ⟨H,I,h⟩
def rA(cp:List (Nat×Str))(tt:TT)(te:TE)(σ:St)(J:It)(D:Addr)(Q:VK)(H1:Hp):Prop:=
 ∃W:Nat->Nat->Hp->Prop,(∃m,W 0 m (upd H1 D (.lst [])))/\∀i m H2,W i m H2->(J.stop i H2/\Q (.ref D) H2)\/
  (J.go i H2/\∃(N:VK) (N':Hp->Prop),(∀y H5,N y H5->∃ys m',H5 D=some (.lst ys)/\ys.length<sizeLine/\m'<m/\W (i+ 1) m' (upd H5 D (.lst (ys++ [y]))))/\(∀H4,N' H4->∃m',m'<m/\W (i+ 1) m' H4)/\
   ∀v H3,J.yld i H2 v H3->tt (some v::iD cp σ) H3 fun b H4=>if b=true then te (some v::iD cp σ) H4 N else N' H4)
def b0p(cp:List (Nat×Str))(wi:TI)(tt:TT)(te:TE):TE:=fun σ H Q=>wi σ H fun J H1=>∀D,H1 D=none->rA cp tt te σ J D Q H1
section
variable{X:Cx}{scope:Scope}{cl:List (Str×Addr)}{cp:List (Nat×Str)}{x:Str}{px pos:Pos}{elt iter:Expr}{ifs:List Expr}{wi:TI}{tt:TT}{te:TE}
theorem b0Q{pins:List (Addr×Obj)}{σ:St}{H2:Hp}{s2:Shared}{it:Addr}{fp:List Addr}{tn:Nat->Heap->Prop}{J:It}{Q:VK}{R:Addr->Result->Shared->Prop}{E:Value->Shared->Prop}(c:oX X scope cl cp)(hcalm:X.calm=true)(hx:scope.names.lookup x=some .local)(hnd:(x::cp.map (·.2)).Nodup)
 (ht:∀C fp pins s H,yP (lT X scope cl C (x::cp.map (·.2)) fp pins s H) ifs tt)(he:∀C fp pins s H,PE (lT X scope cl C (x::cp.map (·.2)) fp pins s H) elt te)
 (I2:aD X pins σ H2 s2)(T:oV X.prog X.w X.K (.Name x px) J fp it tn)(st2:tn 0 s2.heap)(f2:∀b∈fp,kB X pins H2 b)(q:rA cp tt te σ J s2.heap.objs.size Q H2)
 (hR:∀(C:Addr) (H':Hp) (s':Shared),(∃m,s'.heap.Ns C m)->X.s₀.heap.objs.size<=C->H' C=none->C≠X.env.locals->(∀x c,X.env.cells.lookup x=some c->c≠C)->(∀p∈X.pn++ pins,p.1≠C)->(∀h'',Heap.SameBut C s'.heap h''->aD X pins σ H' {s' with heap:=h''})->Q (.ref s2.heap.objs.size) H'->R C (.ok .next) s'):
 wpAny (model X.prog X.w) X.A (newList []) (fun acc s₃=>wpAny (model X.prog X.w) X.A (newFunctionEnv scope X.env.globals cl [] X.env.qual none .none (some X.env)) (fun cenv s₄=>
  acc= .ref s2.heap.objs.size/\codeAny (model X.prog X.w) X.A (.compStart (.ListComp elt [⟨.Name x px,iter,ifs,0⟩] scope pos) 0 (.ref it) acc {cenv with scope:=relabel scope X.env}) (R cenv.locals) s₄) E s₃) E s2:=by
 obtain⟨W,⟨m0,w0⟩,turn⟩:=q
 refine wpAny_newObj_type ?_
 have I3:aD X pins σ (upd H2 s2.heap.objs.size (.lst [])) {s2 with heap:=s2.heap.push {cls:=.type "list",dict:=none,data:=.seq ([]:List Value).toArray}}:=
  I2.lnew (t':=s2.toks) (ys:=[]) (its:=[]) .nil (Nat.zero_le _)
 have fpo:∀b∈fp,b<s2.heap.objs.size:=fun b hb=>by
  obtain⟨o,e,_⟩:=T.obj _ _ st2 b hb
  exact Heap.lt_size e
 have f3:∀b∈fp,kB X pins (upd H2 s2.heap.objs.size (.lst [])) b:=fun b hb=>⟨by rw[aH (Nat.ne_of_lt (fpo b hb))];exact(f2 b hb).1,(f2 b hb).2⟩
 generalize hs3:({s2 with heap:=s2.heap.push {cls:=.type "list",dict:=none,data:=.seq ([]:List Value).toArray}}:Shared)=s3 at I3
 have e3:s3.heap=s2.heap.push {cls:=.type "list",dict:=none,data:=.seq ([]:List Value).toArray}:=by rw[<- hs3]
 have sz3:s2.heap.objs.size<s3.heap.objs.size:=by rw[e3,Heap.size_push];exact Nat.lt_succ_self _
 refine wpAny_newFunctionEnv c.nocell (by intro y hy;cases hy) (fun h₁ hns sb=> ?_) c.kind
 have J3:=b2v (x:=x) (tk:=s3.toks+ ([]:List (Str×Value)).length) I3 c f3 (fun b hb=>Nat.lt_trans (fpo b hb) sz3) hns sb
 refine⟨rfl,?_⟩
 have st3:tn 0 h₁:=T.keep _ _ _ st2 fun b hb o e=>(sb.2 b (Nat.ne_of_lt (Nat.lt_trans (fpo b hb) sz3))).trans (Heap.get?_push_of_some _ (by rw[e3];exact Heap.get?_push_of_some _ e))
 generalize hX:lT X scope cl s3.heap.objs.size (x::cp.map (·.2)) fp pins s3 (upd H2 s2.heap.objs.size (.lst []))=X' at J3
 have eA:X'.A=X.A:=by rw[<- hX];rfl
 have eP:X'.prog=X.prog:=by rw[<- hX];rfl
 have ew:X'.w=X.w:=by rw[<- hX];rfl
 have eK:X'.K=X.K:=by rw[<- hX];rfl
 have ec:X'.calm=true:=by rw[<- hX];exact hcalm
 have ee:X'.env=compEnvC scope cl s3.heap.objs.size X.env:=by rw[<- hX];rfl
 have ex:X'.xe=fun _ _=>False:=by rw[<- hX];rfl
 have fpX:∀{H':Hp},(∀b∈fp,H' b=none)->∀b∈fp,kB X' [] H' b:=fun hn b hb=>by
  obtain⟨f0,f1,f2',f3',f4,f5⟩:=f3 b hb
  subst hX
  refine⟨hn b hb,Nat.ne_of_lt (Nat.lt_trans (fpo b hb) sz3),fun hz=> ?_,.inl hb,fun y k e=>f4 y k (c.sub y k e),fun p hp=> ?_⟩
  ·rcases List.mem_cons.mp (I3.stkSub b hz)with e|e
   ·exact f1 e
   ·exact f2' e
  ·rcases List.mem_append.mp hp with z|z
   ·exact f5 p z
   ·cases z
 have pT:=ht s3.heap.objs.size fp pins s3 (upd H2 s2.heap.objs.size (.lst []))
 have pE:=he s3.heap.objs.size fp pins s3 (upd H2 s2.heap.objs.size (.lst []))
 have pG:PG X' (.Name x px) (wX 0):=by
  subst hX
  exact eM hnd rfl (.inl (lookup_relabel_local hx)) (.inr (lookup_relabel_local hx))
 rw[hX]at pT pE
 have loop:codeAny (model X.prog X.w) X.A (.compLoop (.ListComp elt [⟨.Name x px,iter,ifs,0⟩] scope pos) 0 (.ref it) (.ref s2.heap.objs.size) (compEnvC scope cl s3.heap.objs.size X.env)) (R s3.heap.objs.size) {s3 with heap:=h₁,toks:=s3.toks+ ([]:List (Str×Value)).length}:=by
  refine b7W (fun n s'=>∃i o H',aD X' [] (o::iD cp σ) H' s'/\tn i s'.heap/\(∀b∈fp,H' b=none)/\W i n H') ?_ m0 ⟨0,none,_,J3,st3,fun b hb=>(f3 b hb).1,w0⟩
  rintro n s5 ⟨i,o,H5,J5,st5,fr5,w5⟩
  rcases turn i n H5 w5 with⟨stop,qn⟩|⟨go,N,N',hN,hN',step⟩
  ·have z:=T.done X' eP ew eK ec i [] s5 _ H5 (fun _ _=>False) J5 (fpX fr5) st5 stop
   rw[eA]at z
   refine aU z fun r s6 ⟨hr,J6⟩=> ?_
   subst hr
   subst hX
   obtain⟨m6,hn6,_⟩:=J6.loc
   refine hR s3.heap.objs.size H5 s6 ⟨m6,hn6⟩ I3.sz J6.free (Nat.ne_of_gt I3.lt) (fun y k e z=> ?_) (fun p hp z=> ?_) (fun h'' sb'=>I3.uncomp rfl f3 J6 sb') qn
   ·obtain⟨v,w'⟩:=I3.cell y k e
    exact absurd w'.lt (by rw[z];exact Nat.lt_irrefl _)
   ·exact absurd (Heap.lt_size (I3.pin p hp).1) (by rw[z];exact Nat.lt_irrefl _)
  ·have z:=T.item X' eP ew eK ec i [] s5 _ H5 (fun _ _=>False) J5 (fpX fr5) st5 go
   rw[eA]at z
   refine aU z fun r s6 ⟨u,hr,h6⟩=> ?_
   subst hr
   refine aU h6 fun _ s7 ⟨v,H7,J7,r7,y7,st7,fr7⟩=> ?_
   have J7':=J7.pinned (fpX fr7) (T.obj _ _ st7)
   have z8:=pG _ s7 _ H7 v u (fun σ' H'=>σ'=some v::iD cp σ/\H'=H7) J7' r7 ⟨rfl,rfl⟩
   rw[eA,eP,ew,ee,ex]at z8
   refine aU z8 fun _ s8 ⟨σ8,H8,J8,e8,e8'⟩=> ?_
   subst e8 e8'
   have z9:=pT _ s8 _ H8 _ J8 (step v H8 y7)
   rw[eA,eP,ew,ee,ex]at z9
   refine aU z9 fun ok s9 ⟨H9,J9,q9⟩=> ?_
   have fin:∀{H':Hp} {s':Shared},aD X' ([] ++ wV fp s7.heap) (some v::iD cp σ) H' s'->(∃m',m'<n/\W (i+ 1) m' H')->∃m,m<n/\∃i o H',aD X' [] (o::iD cp σ) H' s'/\tn i s'.heap/\(∀b∈fp,H' b=none)/\W i m H':=fun{H' s'} K' ⟨m',hm,w'⟩=>by
    refine⟨m',hm,i+ 1,some v,H',K'.unpinned,T.keep _ _ _ st7 fun b hb ob e=>(K'.pin (b,ob) (List.mem_append_right _ (List.mem_append_right _ (yY hb e)))).1,fun b hb=> ?_,w'⟩
    obtain⟨ob,e,d⟩:=T.obj _ _ st7 b hb
    exact(K'.pin (b,ob) (List.mem_append_right _ (List.mem_append_right _ (yY hb e)))).2.1
   cases ok with
   |false=>
    rw[if_neg Bool.false_ne_true]at q9|-
    exact fin J9 (hN' _ q9)
   |true=>
    rw[if_pos rfl]at q9|-
    have z10:=pE _ s9 _ H9 _ J9 q9
    rw[eA,eP,ew,ee,ex]at z10
    refine aU z10 fun u10 s10 ⟨y,H10,J10,r10,n10⟩=> ?_
    obtain⟨ys,m',hD,hz,hm,w'⟩:=hN y H10 n10
    have z11:=gQ (X:=X') _ s10 _ H10 (.ref s2.heap.objs.size) [y] (.ref s2.heap.objs.size) [u10] (fun _ H'=>H'=upd H10 s2.heap.objs.size (.lst (ys++ [y]))) J10 rfl (.cons r10 .nil) ⟨_,ys,y,rfl,rfl,hD,hz,rfl⟩
    rw[eA,eP,ew,ex]at z11
    refine aU z11 fun u11 s11 ⟨y',H11,J11,r11,e11⟩=> ?_
    subst e11
    exact fin J11 ⟨m',hm,w'⟩
 exact codeAny_compStart_list loop (T.self _ 0 _ _ _ st3 loop)
theorem vA(c:oX X scope cl cp)(hcalm:X.calm=true)(hx:scope.names.lookup x=some .local)(hnd:(x::cp.map (·.2)).Nodup)(hi:PI X (.Name x px) iter wi)
 (ht:∀C fp pins s H,yP (lT X scope cl C (x::cp.map (·.2)) fp pins s H) ifs tt)(he:∀C fp pins s H,PE (lT X scope cl C (x::cp.map (·.2)) fp pins s H) elt te)
 (hs:∀v,foldedSetIterable iter X.env v=pure v:=by intro _;rfl):PE X (.ListComp elt [⟨.Name x px,iter,ifs,0⟩] scope pos) (b0p cp wi tt te):=by
 intro pins s σ H Q I h
 rw[eval_ListComp]
 refine wpAny_comprehension_free (use:=none) (g:=⟨.Name x px,iter,ifs,0⟩) (gs:=[]) (cl:=cl) rfl hs c.clos c.kind c.names ?_
 refine aU (hi pins s σ H _ I h) fun v s1 h1=>aU h1 fun itv s2 h2=> ?_
 obtain⟨it,fp,tn,J,H2,e,I2,T,st2,f2,q⟩:=h2
 subst e
 refine aU (b0Q (iter:=iter) (pos:=pos) (R:=fun C=>compPost (model X.prog X.w) X.A X.xe none (EP X pins σ Q) (.ref s2.heap.objs.size) C) c hcalm hx hnd ht he I2 T st2 f2 (q _ (I2.hok.fresh (Nat.le_refl _))) ?_) fun acc s3 h3=>aU h3 fun cenv s4 h4=> ?_
 ·rintro C H' s' ⟨m,hn⟩ _ _ _ _ _ hI hq
  exact⟨m,hn,fun h'' sb=>⟨.ref s2.heap.objs.size,H',hI h'' sb,rfl,hq⟩⟩
 ·obtain⟨e,h4⟩:=h4
  subst e
  exact h4
theorem b7N{i:Nat}{y:Str}{py:Pos}{pos':Pos}(hN:X.N.Nodup)(hi':X.N[i]?=some y)(hy:X.env.scope.names.lookup y=some .local)(c:oX X scope cl cp)(hcalm:X.calm=true)(hx:scope.names.lookup x=some .local)(hnd:(x::cp.map (·.2)).Nodup)(hi:PI X (.Name x px) iter wi)
 (ht:∀C fp pins s H,yP (lT X scope cl C (x::cp.map (·.2)) fp pins s H) ifs tt)(he:∀C fp pins s H,PE (lT X scope cl C (x::cp.map (·.2)) fp pins s H) elt te)
 (hsw:swapsWith (.ListComp elt [⟨.Name x px,iter,ifs,0⟩] scope pos) (some (.Name y py)) pos'.line X.env=pure true)
 (hs:∀v,foldedSetIterable iter X.env v=pure v:=by intro _;rfl):PS X (.Assign [.Name y py] (.ListComp elt [⟨.Name x px,iter,ifs,0⟩] scope pos) pos') (xZ (b0p cp wi tt te) (wX i)):=by
 intro pins s σ H D I h
 rw[exec_Assign_Name_used _ _ _ _ hsw]
 refine wpAny_bind (wpAny_standAt (wpAny_bind (wpAny_bind ?_)))
 refine wpAny_comprehension_free (use:=some (assign (.Name y py) X.env)) (g:=⟨.Name x px,iter,ifs,0⟩) (gs:=[]) (cl:=cl) rfl hs c.clos c.kind c.names ?_
 refine aU (hi pins s σ H _ I h) fun v s1 h1=>aU h1 fun itv s2 h2=> ?_
 obtain⟨it,fp,tn,J,H2,e,I2,T,st2,f2,q⟩:=h2
 subst e
 refine aU (b0Q (iter:=iter) (pos:=pos) (R:=fun C=>compPost (model X.prog X.w) X.A X.xe (some (assign (.Name y py) X.env)) (fun _ s'=>wpAny (model X.prog X.w) X.A (pure ()) (fun _ s'=>wpAny (model X.prog X.w) X.A (pure Flow.next) (SP X pins D) X.xe s') X.xe s') (.ref s2.heap.objs.size) C) c hcalm hx hnd ht he I2 T st2 f2 (q _ (I2.hok.fresh (Nat.le_refl _))) ?_) fun acc s3 h3=>aU h3 fun cenv s4 h4=> ?_
 ·rintro C H' s' ⟨m,hn⟩ hC0 hCn hCL hCc hCp hI hq
  have I':aD X pins σ H' s':=hI s'.heap (Heap.SameBut.refl ..)
  refine wpAny_assign_Name (b1x (v:=.ref s2.heap.objs.size) I' hN hi' (.inl hy) rfl (fun s'' I'' hb=> ?_) (.inr hy))
  obtain⟨a,sb,ha⟩:=hb
  have hne:C≠a:=by
   rcases ha with z|z
   ·rw[z];exact hCL
   ·exact fun e=>hCc y a z e.symm
  refine⟨m,hn.sameBut sb hne,fun h'' sb''=>wpAny_pure (wpAny_pure ⟨_,H',?_,hq⟩)⟩
  exact I''.turned (t':=s''.toks) (fun b o hb e=>(sb''.2 b hb).trans e) hCn hCL (.inr hC0) hCc hCp
 ·obtain⟨e,h4⟩:=h4
  subst e
  exact h4
end
theorem a9X:∀{bs:List Bool} {us:List Value},bD (bs.map V.bl) us->∀(i:Nat) (v:Value),us[i]?=some v->∃b:Bool,bs[i]?=some b/\v=Value.bool b
 | [],_,.nil,i,v,h=>by simp at h
 |b::bs,u::us,.cons r t,0,v,h=>by
  simp at h
  subst h
  cases r
  exact⟨b,rfl,rfl⟩
 |b::bs,u::us,.cons r t,i+ 1,v,h=>by
  obtain⟨b',e1,e2⟩:=a9X t i v (by simpa using h)
  exact⟨b',by simpa using e1,e2⟩
section
variable{X:Cx}
theorem b0o(hc:X.calm=true):jQ X (.builtin "all") (fun xs H Q=>∃(a:Addr) (bs:List Bool),xs= [.ref a] /\aN X.K H a (bs.map V.bl)/\Q (.bl (bs.all id)) H):=by
 intro pins s σ H xs us Q I r h
 obtain⟨a,bs,rfl,hq,q⟩:=h
 obtain⟨u,rfl,ru⟩:=r.one
 cases ru
 obtain⟨its,rv,pl,hz⟩:=I.list hq
 have hl:s.heap.IsList a its.toArray:=pl.isList
 have hlt:a<s.heap.objs.size:=by obtain⟨_,e,_⟩:=hl;exact Heap.lt_size e
 refine call_all_walk (wpAny_pyIter_list hl ?_)
 refine⟨s.heap.objs.size,[s.heap.objs.size,a],[s.heap.objs.size],its.toArray.size,_,_,fun i=>(bs[i]?).getD true,rfl,Walks.list (A:=X.A.in1) (I.ok.hd hc) _ a (Nat.ne_of_lt hlt) its.toArray,
  ⟨⟨_,Heap.get?_push_size _ rfl,rfl,rfl⟩,hl.push _⟩,fun i v s' Q' E' hP hQ=> ?_,fun h' tk hk=> ?_⟩
 ·obtain⟨b,e,rfl⟩:=a9X rv i v (by simpa using hP)
  simp only[e,Option.getD_some]at hQ
  exact wpAny_truthy_bool hQ
 ·have e:((List.range its.toArray.size).all fun i=>(bs[i]?).getD true)=bs.all id:=by
   have:=rv.length
   rw[List.length_map]at this
   rw[List.size_toArray,<- this]
   exact PyProof.Rows.LSm.range_all bs
  rw[e]
  refine⟨.bl _,H,I.kept (t':=tk) fun b o e'=>hk b o (fun hm=> ?_) (Heap.get?_push_of_some _ e'),rfl,q⟩
  rw[List.mem_singleton.mp hm]at e'
  exact Nat.lt_irrefl _ (Heap.lt_size e')
end
structure bJ(P:Program)(w:World)(K:Fg)(mg:Str->Option Value)(base:Heap)(CX:fG)(k:Nat)(x:Str)(ps:List Str)(sp:Sp):Prop where
 ex:∃f fd,fJ P w K mg base CX k f fd ps sp/\mg x=some (.ref f)/\PySem.W.keepIn K (.ref f)=true/\hZ K fd ps []
section
variable{X:Cx}{CX:fG}{k:Nat}{ps:List Str}{sp:Sp}{E:XK}{x:Str}{p pos:Pos}{e:Expr}{es:List Expr}{t:TA}
theorem bU(G:bJ X.prog X.w X.K X.mg X.base CX k x ps sp)(hr:bV k X.A)(hx:iJ CX X E)(ha:PA X (e::es) t)(hg:Gl X x:=by rfl)(hdb:(x==("__debug__":Str))=false:=by decide)
 (he:starEach (e::es) X.env=(false,eval e X.env)::starEach es X.env:=by rfl)(hpl:(backTo pos (starEach es X.env)).any (·.1)=false:=by rfl):PE X (.Call (.Name x p) (e::es) [] pos) (a3M sp [] E t):=by
 obtain⟨f,fd,F,hm,hk,hb⟩:=G.ex
 exact b58 F hr hg hm hk hb .nil hx ha hdb he hpl
end
def xA(D:Addr)(Pv:Nat->List V->Hp->Prop)(i:Nat)(ys:List V):VK:=fun y H5=>H5 D=some (.lst ys)/\ys.length<sizeLine/\Pv (i+ 1) (ys++ [y]) (upd H5 D (.lst (ys++ [y])))
theorem a3K{cp:List (Nat×Str)}{te:TE}{σ:St}{J:It}{n:Nat}{D:Addr}{Q:VK}{H1:Hp}(Pv:Nat->List V->Hp->Prop)(h0:Pv 0 [] (upd H1 D (.lst [])))
 (hg:∀i ys H,H D=some (.lst ys)->Pv i ys H->(i<n->J.go i H)/\(i=n->J.stop i H))
 (hs:∀i ys H v H',i<n->H D=some (.lst ys)->Pv i ys H->J.yld i H v H'->te (some v::iD cp σ) H' (xA D Pv i ys))
 (hd:∀ys H,H D=some (.lst ys)->Pv n ys H->Q (.ref D) H):rA cp rP te σ J D Q H1:=by
 refine⟨fun i m H=>m=n- i/\i<=n/\∃ys,H D=some (.lst ys)/\Pv i ys H,⟨n,by simp,Nat.zero_le _,[],aJ,h0⟩,?_⟩
 rintro i m H ⟨rfl,hi,ys,hD,p⟩
 by_cases hlt:i<n
 ·refine .inr ⟨(hg i ys H hD p).1 hlt,xA D Pv i ys,fun _=>False,fun y H5 ⟨h1,h2,h3⟩=>⟨ys,n- (i+ 1),h1,h2,by omega,rfl,hlt,_,aJ,h3⟩,fun _ z=>z.elim,fun v H' y=> ?_⟩
  exact hs i ys H v H' hlt hD p y
 ·have e:i=n:=by omega
  subst e
  exact .inl ⟨(hg i ys H hD p).2 rfl,hd ys H hD p⟩
theorem b1q{cp:List (Nat×Str)}{te:TE}{σ:St}{lo:Int}{n:Nat}{D:Addr}{Q:VK}{H1:Hp}(Pv:Nat->List V->Hp->Prop)(h0:Pv 0 [] (upd H1 D (.lst [])))
 (hs:∀i ys H,i<n->H D=some (.lst ys)->Pv i ys H->te (some (.int (lo+ i))::iD cp σ) H (xA D Pv i ys))
 (hd:∀ys H,H D=some (.lst ys)->Pv n ys H->Q (.ref D) H):rA cp rP te σ (nZ lo n) D Q H1:=
 a3K (n:=n) Pv h0 (fun i ys H _ _=>⟨fun h=>h,fun h=>by subst h;exact Nat.le_refl _⟩) (fun i ys H v H' hi hD p y=>by
  obtain⟨e,rfl⟩:=y
  subst e
  exact hs i ys _ hi hD p) hd
theorem b20{cp:List (Nat×Str)}{te:TE}{σ:St}{x:Str}{D:Addr}{Q:VK}{H1:Hp}(Pv:Nat->List V->Hp->Prop)(h0:Pv 0 [] (upd H1 D (.lst [])))
 (hs:∀i c ys H,x.cps[i]?=some c->H D=some (.lst ys)->Pv i ys H->te (some (.str ⟨#[c]⟩)::iD cp σ) H (xA D Pv i ys))
 (hd:∀ys H,H D=some (.lst ys)->Pv x.cps.size ys H->Q (.ref D) H):rA cp rP te σ (zX x) D Q H1:=
 a3K (n:=x.cps.size) Pv h0 (fun i ys H _ _=>⟨fun h=>h,fun h=>by subst h;exact Nat.le_refl _⟩) (fun i ys H v H' hi hD p y=>by
  obtain⟨e,c,hc,rfl⟩:=y
  subst e
  exact hs i c ys _ hc hD p) hd
theorem a6q{K:Fg}{cp:List (Nat×Str)}{te:TE}{σ:St}{a:Addr}{xs:List V}{D:Addr}{Q:VK}{H1:Hp}(Pv:Nat->List V->Hp->Prop)(h0:Pv 0 [] (upd H1 D (.lst [])))
 (hl:∀i ys H,H D=some (.lst ys)->Pv i ys H->aN K H a xs)
 (hs:∀i x ys H,xs[i]?=some x->H D=some (.lst ys)->Pv i ys H->te (some x::iD cp σ) H (xA D Pv i ys))
 (hd:∀ys H,H D=some (.lst ys)->Pv xs.length ys H->Q (.ref D) H):rA cp rP te σ (pA K a) D Q H1:=
 a3K (n:=xs.length) Pv h0 (fun i ys H hD p=>⟨fun h=>⟨xs,xs[i],hl i ys H hD p,by simp[h]⟩,fun h=>by subst h;exact⟨xs,hl _ ys H hD p,Nat.le_refl _⟩⟩) (fun i ys H v H' hi hD p y=>by
  obtain⟨e,y⟩:=y
  subst e
  exact hs i v ys _ (y xs (hl i ys _ hD p)) hD p) hd
inductive Kd where
 |non|bl|int|str|lst|tup|dct
 deriving DecidableEq
def Kd.nm:Kd->String
 | .non=> "NoneType"| .bl=> "bool"| .int=> "int"| .str=> "str"| .lst=> "list"| .tup=> "tuple"| .dct=> "dict"
theorem b3V(K:Fg)(a:Kd):PySem.W.kitOne K (.type a.nm) (.type "int")=some (decide (a= .int\/ a= .bl)):=by cases a<;>kernel_rfl
theorem b0g(K:Fg)(a:Kd):PySem.W.kitOne K (.type a.nm) (.type "bool")=some (decide (a= .bl)):=by cases a<;>kernel_rfl
theorem b1R(K:Fg)(a:Kd):PySem.W.kitOne K (.type a.nm) (.type "str")=some (decide (a= .str)):=by cases a<;>kernel_rfl
theorem tV(K:Fg)(a:Kd):PySem.W.kitOne K (.type a.nm) (.type "list")=some (decide (a= .lst)):=by cases a<;>kernel_rfl
theorem zE(K:Fg)(a:Kd):PySem.W.kitOne K (.type a.nm) (.type "tuple")=some (decide (a= .tup)):=by cases a<;>kernel_rfl
noncomputable def gF:PyData->Kd
 | .none=> .non| .bool _=> .bl| .int _=> .int| .str _=> .str| .list _=> .lst| .tuple _=> .tup| .dict _=> .dct
theorem jN{X:Cx}:jQ X (.builtin "isinstance") (fun xs H Q=>∃x T d k,xs= [x,.ty T] /\Dt X.K H x d/\PySem.W.kitOne X.K (.type (gF d).nm) (.type T)=some k/\Q (.bl k) H):=by
 intro pins s σ H xs us Q I r h
 obtain⟨x,T,d,k,rfl,hd,e,q⟩:=h
 obtain⟨u,c,rfl,r1,r2⟩:=r.two
 cases r2
 have fin:∀tk,EP X pins σ Q (.bool k) {s with toks:=tk}:=fun tk=>⟨.bl k,H,I.tok tk,rfl,q⟩
 cases hd with
 |non=>cases r1;exact PySem.W.kia_one PySem.W.kitx_none I.kIn True.intro e (fun z=>nomatch z) fin
 |bl b=>cases r1;exact PySem.W.kia_one PySem.W.kitx_bool I.kIn True.intro e (fun z=>nomatch z) fin
 |int i=>obtain⟨t,rfl⟩:=r1;exact PySem.W.kia_one PySem.W.kitx_int I.kIn True.intro e (fun z=>nomatch z) fin
 |str z=>obtain⟨t,rfl⟩:=r1;exact PySem.W.kia_one PySem.W.kitx_str I.kIn True.intro e (fun z=>nomatch z) fin
 |lst hq _=>
  cases r1
  obtain⟨its,_,⟨o,n,eo,hc,_,_⟩,_⟩:=I.list hq
  exact PySem.W.kia_one PySem.W.kitx_list I.kIn ⟨o,eo,hc⟩ e (fun z=>nomatch z) fin
 |tup hq _=>
  cases r1
  obtain⟨its,_,⟨o,eo,hc,_⟩,_⟩:=I.tuple hq
  exact PySem.W.kia_one PySem.W.kitx_tuple I.kIn ⟨o,eo,hc⟩ e (fun z=>nomatch z) fin
 |dK ea=>
  cases r1
  obtain⟨_,_,vs,_,o,es,ep,h1,h2,_⟩:=I.hok _ _ ea
  exact PySem.W.kia_one PySem.W.kitx_dict I.kIn ⟨o,h1,h2.1⟩ e (fun z=>nomatch z) fin
 |dT ea=>
  cases r1
  obtain⟨_,_,zs,_,o,es,ep,h1,h2,_⟩:=I.hok _ _ ea
  exact PySem.W.kia_one PySem.W.kitx_dict I.kIn ⟨o,h1,h2.1⟩ e (fun z=>nomatch z) fin
theorem a6M{X:Cx}{scope:Scope}(kind:scope.kind= .function:=by rfl)(plain:∀y∈scope.names,y.2= .local\/ y.2= .globalImplicit:=by decide)(names:∀y∈scope.names,y.2= .local->scope.names.lookup y.1=some .local:=by decide+kernel):oX X scope [] [] where
 kind:=kind
 nocell:=fun y hy z=>by rcases plain y hy with h|h<;>rw[h]at z<;>cases z
 names:=names
 clos:=closureFor_none fun y hy z=>by rcases plain y hy with h|h<;>rw[h]at z<;>cases z
 sub:=fun x c e=>by cases e
 has:=fun x h=>by
  have hm:∀(k:NameKind),(relabel scope X.env).names.lookup x=some k->k= .local\/ k= .globalImplicit:=fun k e=>by
   have m:=PySem.mem_of_lookup e
   unfold relabel at m
   obtain⟨⟨n,k'⟩,hy,e'⟩:=List.mem_map.mp m
   have q:=plain _ hy
   have nf:(k'==NameKind.free)=false:=by rcases q with h|h<;>(have h':k'=_:=h;subst h';rfl)
   simp only[nf,Bool.false_and,Bool.false_eq_true,if_false]at e'
   have:k'=k:=congrArg (·.2) e'
   rw[<- this]
   exact q
  rcases h with h|h
  ·rcases hm _ h with z|z<;>cases z
  ·rcases hm _ h with z|z<;>cases z
 at':=fun p hp=>by cases hp
structure eF(K:Fg)(mg:Str->Option Value)(x:Str)(st:Stmt):Prop where
 ex:∃f fd,jH K x x st f fd/\mg x=some (.ref f)
section
variable{P:Program}{w:World}{K:Fg}{mg:Str->Option Value}{base:Heap}
theorem eW{h:Heap}{x:Str}{st:Stmt}{f:Addr}{oc:Value}{od an:Option Addr}{osl:Array (Option Value)}{kV doc pm cdv ct:Value}(X:K.In h)(G:h.Ns mainGlobals mg)(a:PySem.W.nsIn K mainGlobals x=some (some (.ref f)))
 (l:K.lookup f=some ⟨oc,od,.func (PySem.W.fnOf x x (aZ st) (aV st) (aI st) .none kV doc pm an cdv ct),osl⟩)(c:PySem.W.codeIn K cdv x=true)(k:PySem.W.keepIn K (.ref f)=true):eF K mg x st:=
 ⟨f,_,xY l c k,PySem.W.mg_of X G a⟩
theorem eF.known{x:Str}{st:Stmt}{N ps:List Str}{k:Nat}{sp:Sp}(D:eF K mg x st)(S:bG N ps (aI st))
 (hb:∀(kV doc pm:Value) (an:Option Addr) (cdv ct:Value) (us:List Value),us.length=ps.length->bindArgs (PySem.W.fnOf x x (aZ st) (aV st) (aI st) .none kV doc pm an cdv ct) ⟨us,[]⟩=pure (ps.zip us))
 (len:∀vs H Q E,sp vs H Q E->vs.length=ps.length)
 (hbody:∀(f:Addr) (cdv:Value) (A:Around) (outer:List Env) (s:Shared) (H:Hp) (vs:List V) (Q:VK) (E:XK),bV k (A.deeper (envOfC x (aI st) s.heap.objs.size f cdv))->sp vs H Q E->
  ∃t,dQ (eY aF P w K mg base N x (aI st) f cdv A outer s H E).nox (aV st) t/\t {nx:=fun _ H'=>Q .non H',rt:=Q} (start N vs) H):bJ P w K mg base aF (k+ 1) x ps sp:=by
 obtain⟨f,fd,F,hm⟩:=D.ex
 exact⟨f,fd,F.ok S len fun cdv A outer s H vs Q E hr h=>hbody f cdv A outer s H vs Q E hr h,hm,F.kp,F.binds hb⟩
end
theorem aE.new{H:Hp}{D:Addr}{o:HO}(h:H D=none):aE H (upd H D o):=fun b u e=>by rw[aH (bA e h)];exact e
theorem aE.on{H H2:Hp}{D:Addr}{o:HO}(e:aE H H2)(h:H D=none):aE H (upd H2 D o):=fun b u z=>by rw[aH (bA z h)];exact e b u z
abbrev one(c:Nat):Str:=⟨#[c]⟩
theorem b2W{α:Type}(xs:List α)(i:Int)(h0:0<=i)(h:i<xs.length):∃v,cG xs i=some v/\xs[i.toNat]?=some v:=by
 have e:i=(i.toNat:Int):=by omega
 have hl:i.toNat<xs.length:=by omega
 generalize i.toNat=j at e hl
 subst e
 exact⟨_,b0m (List.getElem?_eq_getElem hl),List.getElem?_eq_getElem hl⟩
theorem yV{n:Nat}{i:Int}(h0:0<=i)(h:i<n):jK n i=some i.toNat:=by
 unfold jK
 rw[if_pos h0,if_pos h]
theorem b3g(ns:List Int)(i:Int)(h0:0<=i)(h:i<ns.length):cG (ns.map V.int) i=some (V.int (ns.getD i.toNat 0)):=by
 have e:i=(i.toNat:Int):=by omega
 have hl:i.toNat<ns.length:=by omega
 generalize i.toNat=j at e hl
 subst e
 refine b0m ?_
 rw[List.getElem?_map,List.getElem?_eq_getElem hl]
 simp[List.getD,hl]
theorem zH{K:Fg}{H:Hp}:∀zs:List Str,cV K H (zs.map V.str) (zs.map PyData.str)
 | []=> .nil
 |z::r=> .cons (.str z) (zH r)
theorem b6c{cs:List Nat}(h:∀c∈cs,c<128):PyData.canLay0 (.str ⟨cs.toArray⟩)=true:=by
 have:∀c∈cs,c<1114112:=fun c hc=>by have:=h c hc;omega
 simp[PyData.canLay0,PyData.strOk]
 exact this
theorem sl{n:Nat}(h:n<=1000:=by simp):n<=sizeLine:=Nat.le_of_lt (dD h)
theorem a9D:bootBuiltins "all"=some (.builtin "all"):=by kernel_rfl
theorem iH:bootBuiltins "isinstance"=some (.builtin "isinstance"):=by kernel_rfl
theorem b3M:bootBuiltins "abs"=some (.builtin "abs"):=by kernel_rfl
theorem jG:bootBuiltins "len"=some (.builtin "len"):=by kernel_rfl
theorem b6U:bootBuiltins "int"=some (.type "int"):=by kernel_rfl
theorem a9R:bootBuiltins "bool"=some (.type "bool"):=by kernel_rfl
theorem b1h:bootBuiltins "str"=some (.type "str"):=by kernel_rfl
theorem gM:bootBuiltins "list"=some (.type "list"):=by kernel_rfl
theorem zD:bootBuiltins "tuple"=some (.type "tuple"):=by kernel_rfl
structure Flew(fs own:List Addr)(h h':Heap):Prop where
 keep:∀b o,b∉own->b∉fs->h.get? b=some o->h'.get? b=some o
 slot:∀b o,b∉own->h.get? b=some o->∃sl,h'.get? b=some {o with slots:=sl}
structure ExcK(K:Fg)(C:Addr):Prop where
 hga:PySem.W.findIn K (.ref C) "__getattribute__"=some (some (.builtin "BaseException.__getattribute__"))
 hk:PySem.W.findIn K (.ref C) "__getattr__"=some none
 hc:∃cd,PySem.W.clsIn K C=some cd
 ha:PySem.W.findIn K (.ref C) "__class__"=some (some (.builtin "object.__class__"))
 hn:PySem.W.specialIn K (.builtin "object.__class__") "__get__"=some (some (.builtin "getset_descriptor.__get__"))
 ht:PySem.W.takesIn K (.builtin "object.__class__")=some true
 hm:PySem.W.mroIn K C (.type "object")=some true
 hb:PySem.W.mroIn K C (.type "BaseException")=some true
theorem a0q:∀{xs:List V} {us:List Value},us.length=xs.length->(∀(j:Nat) (x:V) (u:Value),xs[j]?=some x->us[j]?=some u->bF x u)->bD xs us
 | [],[],_,_=> .nil
 |x::xs,u::us,hl,h=> .cons (h 0 x u rfl rfl) (a0q (by simpa using hl) fun j y v e1 e2=>h (j+ 1) y v (by simpa using e1) (by simpa using e2))
 | [],_::_,hl,_=>by simp at hl
 |_::_,[],hl,_=>by simp at hl
def fI(lo:Int)(n:Nat):List V:=(List.range n).map fun(i:Nat)=>V.int (lo+ (i:Int))
theorem mS(lo:Int)(n:Nat):(fI lo n).length=n:=by unfold fI;rw[List.length_map,List.length_range]
section
variable{X:Cx}
theorem b3S:jQ X (.type "range") (fun xs H Q=>∃j:Int,xs= [.int j] /\∀p,H p=none->Q (.ref p) (upd H p (.rng 0 j))):=by
 intro pins s σ H xs us Q I r h
 obtain⟨j,rfl,q⟩:=h
 obtain⟨u,rfl,t,rfl⟩:=nQ r
 refine call_range_1 ⟨.ref s.heap.objs.size,_,I.laid (a:=s.heap.objs.size) (o:=.rng 0 j) (fun _ _ q=>Heap.get?_push_of_some _ q) (Nat.le_refl _) ?_,rfl,q _ (I.hok.fresh (Nat.le_refl _))⟩
 exact⟨_,_,_,Heap.get?_push_size _ rfl⟩
theorem b3X(hc:X.calm=true):jQ X (.type "list") (fun xs H Q=>∃p lo hi,xs= [.ref p] /\H p=some (.rng lo hi)/\ -(2^ 62)<=lo/\lo<2^ 62/\ -(2^ 62)<=hi/\hi<2^ 62/\(hi- lo).toNat<=2^ 24/\∀l,H l=none->Q (.ref l) (upd H l (.lst (fI lo (hi- lo).toNat)))):=by
 intro pins s σ H xs us Q I r h
 obtain⟨p,lo,hi,rfl,hp,h1,h2,h3,h4,h5,q⟩:=h
 obtain⟨u,rfl,rx⟩:=nQ r
 cases rx
 obtain⟨t,u,v,e⟩:=I.hok p _ hp
 have hn:Builtin.Range.rangeSize lo hi 1=((hi- lo).toNat:Int):=by rw[rangeSize_one];split<;>omega
 refine call_list_range (I.ok.hd hc) (show IsRange s.heap p lo hi 1 t u v from e) (small_one h1 h2 h3 h4) hn h5 fun h' tk acc c kp hD hI=> ?_
 refine⟨.ref s.heap.objs.size,_,I.laid (t':=tk) (o:=.lst (fI lo (hi- lo).toNat)) kp (Nat.le_refl _) ?_,rfl,q _ (I.hok.fresh (Nat.le_refl _))⟩
 refine⟨by rw[mS,sizeLine_eq];exact h5,acc.toList,c,a0q (by rw[mS,Array.length_toList];exact hI.1) fun j x u e1 e2=> ?_,by rw[Array.toArray_toList];exact hD⟩
 rw[Array.getElem?_toList]at e2
 obtain⟨t',rfl⟩:=hI.2 j u e2
 unfold fI at e1
 rw[List.getElem?_map]at e1
 cases z:(List.range (hi- lo).toNat)[j]? with
 |none=>rw[z]at e1;cases e1
 |some i=>
  rw[z]at e1
  have:i=j:=by
   have hl:j<(List.range (hi- lo).toNat).length:=(List.getElem?_eq_some_iff.mp z).1
   rw[List.getElem?_eq_getElem hl,List.getElem_range]at z
   exact(Option.some.inj z).symm
  subst this
  cases e1
  exact⟨t',by rw[Int.mul_one]⟩
theorem b3O{P:Program}{w:World}{k:aA}{u:Value}(h:(fH P w).is k u=true):bF (kV k) u:=by
 rcases lG h with⟨i,t,rfl,rfl⟩|⟨x,t,rfl,rfl⟩
 ·exact⟨t,rfl⟩
 ·exact⟨t,rfl⟩
theorem KV.fst{κ:Type}:∀{kvs:List (κ×V)} {vs:List (κ×Value)},KV kvs vs->kvs.map (·.1)=vs.map (·.1)
 |_,_,.nil=>rfl
 |_,_,.cons r t=>by rw[List.map_cons,List.map_cons,r.1,KV.fst t]
end
def bT(s:Stmt)(j:Nat):Stmt:=match s with
 | .ClassDef _ _ _ body _ _ _ _ _ _ _=>body.getD j (.Pass ⟨0,0,0,0⟩)
 |_=> .Pass ⟨0,0,0,0⟩
theorem b4g:bootBuiltins "range"=some (.type "range"):=by kernel_rfl
structure aT(P:Program)(w:World)(K:Fg)(mg:Str->Option Value)(base:Heap)(CX:fG)(k:Nat)(C:Addr)(m:Str)(ps:List Str)(sp:Sp):Prop where
 ex:∃f fd,fJ P w K mg base CX k f fd ps sp/\xD K C m f/\hZ K fd ps []
structure eU(P:Program)(w:World)(K:Fg)(mg:Str->Option Value)(base:Heap)(CX:fG)(k:Nat)(C:Addr)(ps:List Str)(sp:Sp):Prop where
 ex:∃f fd,fJ P w K mg base CX k f fd ps sp/\Mk K C f/\hZ K fd ps []
structure bO(K:Fg)(C:Addr)(m qual:Str)(st:Stmt):Prop where
 ex:∃f fd,jH K m qual st f fd/\PySem.W.findIn K (.ref C) m=some (some (.ref f))/\PySem.W.isFn K (.ref f)=true
section
variable{P:Program}{w:World}{K:Fg}{mg:Str->Option Value}{base:Heap}{C:Addr}
theorem bR{m qual:Str}{st:Stmt}{f:Addr}{oc:Value}{od an:Option Addr}{osl:Array (Option Value)}{kV doc pm cdv ct:Value}(a:PySem.W.findIn K (.ref C) m=some (some (.ref f)))(i:PySem.W.isFn K (.ref f)=true)
 (l:K.lookup f=some ⟨oc,od,.func (PySem.W.fnOf m qual (aZ st) (aV st) (aI st) .none kV doc pm an cdv ct),osl⟩)(c:PySem.W.codeIn K cdv qual=true)(k:PySem.W.keepIn K (.ref f)=true):bO K C m qual st:=
 ⟨f,_,xY l c k,a,i⟩
theorem bO.known{m qual:Str}{st:Stmt}{N ps:List Str}{k:Nat}{sp:Sp}(D:bO K C m qual st)(S:bG N ps (aI st))
 (hb:∀(kV doc pm:Value) (an:Option Addr) (cdv ct:Value) (us:List Value),us.length=ps.length->bindArgs (PySem.W.fnOf m qual (aZ st) (aV st) (aI st) .none kV doc pm an cdv ct) ⟨us,[]⟩=pure (ps.zip us))
 (len:∀vs H Q E,sp vs H Q E->vs.length=ps.length)
 (hbody:∀(f:Addr) (cdv:Value) (A:Around) (outer:List Env) (s:Shared) (H:Hp) (vs:List V) (Q:VK) (E:XK),bV k (A.deeper (envOfC qual (aI st) s.heap.objs.size f cdv))->sp vs H Q E->
  ∃t,dQ (eY aF P w K mg base N qual (aI st) f cdv A outer s H E).nox (aV st) t/\t {nx:=fun _ H'=>Q .non H',rt:=Q} (start N vs) H):aT P w K mg base aF (k+ 1) C m ps sp:=by
 obtain⟨f,fd,F,ha,hi⟩:=D.ex
 exact⟨f,fd,F.ok S len fun cdv A outer s H vs Q E hr h=>hbody f cdv A outer s H vs Q E hr h,⟨ha,hi,F.kp⟩,F.binds hb⟩
theorem aT.init{CX:fG}{k:Nat}{ps:List Str}{sp:Sp}(G:aT P w K mg base CX k C "__init__" ps sp)(mk:PySem.W.makesIn K C=true)(kc:PySem.W.keepIn K (.ref C)=true):eU P w K mg base CX k C ps sp:=by
 obtain⟨f,fd,F,hm,hb⟩:=G.ex
 exact⟨f,fd,F,⟨mk,hm.at_,hm.fn,kc⟩,hb⟩
end
section
variable{X:Cx}{CX:fG}{k:Nat}{C:Addr}{ps:List Str}{sp:Sp}{E:XK}{x m:Str}{p pos apos:Pos}{e o:Expr}{es:List Expr}{t:TA}{ta:TE}
theorem bZ{pl:Sem Bool}(he:PE X o ta)(c:dJ X.K C)(G:aT X.prog X.w X.K X.mg X.base CX k C m ps sp)(hr:bV k X.A)(hx:iJ CX X E)(ha:PA X (e::es) t)
 (hst:starEach (e::es) X.env=(false,eval e X.env)::starEach es X.env:=by rfl)(hpl:(backTo pos (starEach es X.env)).any (·.1)=false:=by rfl)
 (ht:eval (.Call (.Attribute o m apos) (e::es) [] pos) X.env=(do
  let ov<- eval o X.env
  standAt apos.atName
  let (f,first)<- holding [ov] (getMethod ov m pl)
  callWith pos f first (backTo pos (starEach (e::es) X.env)) (backToKw pos (keywordEach [] X.env))):=by rfl):
 PE X (.Call (.Attribute o m apos) (e::es) [] pos) (yS C m sp [] E ta t):=by
 obtain⟨f,fd,F,hm,hb⟩:=G.ex
 exact b2T (pl:=pl) he c hm F hr hb .nil hx ha hst hpl ht
theorem mO{pl:Sem Bool}(he:PE X o ta)(c:dJ X.K C)(G:aT X.prog X.w X.K X.mg X.base CX k C m ps sp)(hr:bV k X.A)(hx:iJ CX X E)
 (ht:eval (.Call (.Attribute o m apos) [] [] pos) X.env=(do
  let ov<- eval o X.env
  standAt apos.atName
  let (f,first)<- holding [ov] (getMethod ov m pl)
  callWith pos f first (backTo pos (starEach [] X.env)) (backToKw pos (keywordEach [] X.env))):=by rfl):
 PE X (.Call (.Attribute o m apos) [] [] pos) (yS C m sp [] E ta qB):=by
 obtain⟨f,fd,F,hm,hb⟩:=G.ex
 exact b48 (pl:=pl) he c hm F hr hb .nil hx ht
theorem kZ(G:eU X.prog X.w X.K X.mg X.base CX k C ps sp)(hr:bV (k+ 1) X.A)(hm:X.mg x=some (.ref C))(hx:iJ CX X E)
 (ha:PA X (e::es) t)(hg:Gl X x:=by rfl)(hdb:(x==("__debug__":Str))=false:=by decide)(he:starEach (e::es) X.env=(false,eval e X.env)::starEach es X.env:=by rfl)(hpl:(backTo pos (starEach es X.env)).any (·.1)=false:=by rfl):
 PE X (.Call (.Name x p) (e::es) [] pos) (yX C sp [] E t):=by
 obtain⟨f,fd,F,M,hb⟩:=G.ex
 exact b3r M F hr hg hm hb .nil hx ha hdb he hpl
end
noncomputable def fU (cells:List (Str×Addr)):List (Str×NameKind)->List (Str×Addr)->List (Str×Addr)
 | [],acc=>acc
 |(n,k)::r,acc=>fU cells r (if k== .free then(n,(cells.lookup n).getD 0)::acc else acc)
theorem a7m{env:Env}:∀{names:List (Str×NameKind)} {acc:List (Str×Addr)},(∀y∈names,y.2= .free->∃c,env.cells.lookup y.1=some c)->
 (forIn names acc fun(x:Str×NameKind) (cs:List (Str×Addr))=>(do
  let (name,kind):=x
  if kind==NameKind.free then(do let a<- cellOf env name;pure (ForInStep.yield ((name,a)::cs))) else pure (ForInStep.yield cs):Sem (ForInStep (List (Str×Addr)))))=pure (fU env.cells names acc)
 | [],acc,_=>rfl
 |(n,k)::r,acc,h=>by
  rw[List.forIn_cons]
  by_cases hk:(k==NameKind.free)=true
  ·obtain⟨c,hc⟩:=h (n,k) List.mem_cons_self (by simpa using hk)
   have e:cellOf env n=pure c:=by unfold cellOf;rw[show env.cells.lookup n=some c from hc]
   have ih:=a7m (env:=env) (names:=r) (acc:=(n,c)::acc) fun y hy=>h y (List.mem_cons_of_mem _ hy)
   show(do let r<- (if k==NameKind.free then(do let a<- cellOf env n;pure (ForInStep.yield ((n,a)::acc))) else pure (ForInStep.yield acc):Sem (ForInStep (List (Str×Addr))));_)=_
   rw[if_pos hk,e,pure_bind,pure_bind]
   refine Eq.trans ih ?_
   show _=pure (fU env.cells r (if(k==NameKind.free)=true then(n,(env.cells.lookup n).getD 0)::acc else acc))
   rw[if_pos hk,show env.cells.lookup n=some c from hc]
   rfl
  ·have ih:=a7m (env:=env) (names:=r) (acc:=acc) fun y hy=>h y (List.mem_cons_of_mem _ hy)
   show(do let r<- (if k==NameKind.free then(do let a<- cellOf env n;pure (ForInStep.yield ((n,a)::acc))) else pure (ForInStep.yield acc):Sem (ForInStep (List (Str×Addr))));_)=_
   rw[if_neg hk,pure_bind]
   refine Eq.trans ih ?_
   show _=pure (fU env.cells r (if(k==NameKind.free)=true then(n,(env.cells.lookup n).getD 0)::acc else acc))
   rw[if_neg hk]
theorem a8f{cells:List (Str×Addr)}:∀{names:List (Str×NameKind)} {acc:List (Str×Addr)},(∀y∈names,y.2= .free->∃c,cells.lookup y.1=some c)->(∀x c,acc.lookup x=some c->cells.lookup x=some c)->
 ∀x c,(fU cells names acc).lookup x=some c->cells.lookup x=some c
 | [],_,_,h=>h
 |(n,k)::r,acc,hf,h=>by
  refine a8f (names:=r) (fun y hy=>hf y (List.mem_cons_of_mem _ hy)) ?_
  intro x c e
  by_cases hk:(k==NameKind.free)=true
  ·obtain⟨c',hc⟩:=hf (n,k) List.mem_cons_self (by simpa using hk)
   have hc':cells.lookup n=some c':=hc
   rw[if_pos hk,hc',List.lookup_cons]at e
   by_cases hx:(x==n)=true
   ·rw[hx]at e
    cases e
    have:x=n:=by simpa using hx
    rw[this]
    exact hc'
   ·rw[show (x==n)=false by simpa using hx]at e
    exact h x c e
  ·rw[if_neg hk]at e
   exact h x c e
theorem b2c{cells:List (Str×Addr)}:∀{names:List (Str×NameKind)} {acc:List (Str×Addr)} {x:Str},(∃c,acc.lookup x=some c)->∃c,(fU cells names acc).lookup x=some c
 | [],_,_,h=>h
 |(n,k)::r,acc,x,⟨c,h⟩=>by
  refine b2c (names:=r) ?_
  by_cases hk:(k==NameKind.free)=true
  ·rw[if_pos hk,List.lookup_cons]
   cases hx:x==n with
   |true=>exact⟨_,rfl⟩
   |false=>exact⟨c,h⟩
  ·rw[if_neg hk]
   exact⟨c,h⟩
theorem rQ{cells:List (Str×Addr)}:∀{names:List (Str×NameKind)} {acc:List (Str×Addr)} {x:Str},(x,NameKind.free)∈names->∃c,(fU cells names acc).lookup x=some c
 |(n,k)::r,acc,x,h=>by
  rcases List.mem_cons.mp h with e|h
  ·cases e
   refine b2c (names:=r) ⟨(cells.lookup n).getD 0,?_⟩
   rw[if_pos (by rfl),List.lookup_cons,beq_self_eq_true]
  ·exact rQ (names:=r) h
theorem b1S{env:Env}:∀{names:List (Str×NameKind)} {x:Str},names.lookup x=some .free->
 (names.map fun(n,k)=>if(k==NameKind.free&&env.scope.kind== .function&&env.kindOf n==some .cell) then(n,NameKind.cell) else(n,k)).lookup x=some .cell\/
 (names.map fun(n,k)=>if(k==NameKind.free&&env.scope.kind== .function&&env.kindOf n==some .cell) then(n,NameKind.cell) else(n,k)).lookup x=some .free
 | [],_,h=>by simp at h
 |(n,k)::r,x,h=>by
  have ih:= @b1S env r x
  rw[List.lookup_cons]at h
  rw[List.map_cons]
  cases hx:x==n with
  |true=>
   rw[hx]at h
   cases h
   by_cases hc:(NameKind.free==NameKind.free&&env.scope.kind== .function&&env.kindOf n==some .cell)=true
   ·simp only[hc,if_true,List.lookup_cons,hx]
    exact .inl trivial
   ·simp only[hc,if_false,List.lookup_cons,hx,Bool.false_eq_true]
    exact .inr trivial
  |false=>
   rw[hx]at h
   by_cases hc:(k==NameKind.free&&env.scope.kind== .function&&env.kindOf n==some .cell)=true
   ·simp only[hc,if_true,List.lookup_cons,hx]
    exact ih h
   ·simp only[hc,if_false,List.lookup_cons,hx,Bool.false_eq_true]
    exact ih h
theorem qH{X:Cx}{scope:Scope}{cp:List (Nat×Str)}{sc:Scope}{N:List Str}(hcell:∀x,X.env.scope.names.lookup x=some .cell->∃c,X.env.cells.lookup x=some c)(hs:X.env.scope=sc:=by rfl)(hN:X.N=N:=by rfl)
 (kind:scope.kind= .function:=by rfl)(plain:∀y∈scope.names,y.2≠ .cell:=by decide)(names:∀y∈scope.names,y.2= .local->scope.names.lookup y.1=some .local:=by decide+kernel)
 (free:∀y∈scope.names,y.2= .free->sc.names.lookup y.1=some .cell:=by decide+kernel)(at':∀p∈cp,N[p.1]?=some p.2/\sc.names.lookup p.2=some .cell/\scope.names.lookup p.2=some .free:=by decide+kernel):
 oX X scope (fU X.env.cells scope.names []) cp:=by
 subst hs hN
 have hf:∀y∈scope.names,y.2= .free->∃c,X.env.cells.lookup y.1=some c:=fun y hy e=>hcell _ (free y hy e)
 refine⟨kind,plain,names,?_,a8f hf (fun x c e=>by cases e),fun x h=> ?_,fun p hp=> ?_⟩
 ·show closureFor scope X.env=_
  simp only[closureFor]
  have:=a7m (env:=X.env) (acc:=[]) hf
  exact(congrArg (fun z=>z>>=fun r=>pure r) this).trans (pure_bind _ _)
 ·have hm:∀k,(relabel scope X.env).names.lookup x=some k->(k= .cell\/ k= .free)->(x,NameKind.free)∈scope.names:=fun k e hk=>by
   have m:=PySem.mem_of_lookup e
   unfold relabel at m
   obtain⟨⟨n,k'⟩,hy,e'⟩:=List.mem_map.mp m
   have nc:=plain _ hy
   by_cases hc:(k'==NameKind.free&&X.env.scope.kind== .function&&X.env.kindOf n==some .cell)=true
   ·simp only[hc,if_true]at e'
    have e1:n=x:=congrArg (·.1) e'
    have:k'= .free:=by simp only[Bool.and_eq_true,beq_iff_eq]at hc;exact hc.1.1
    subst e1 this
    exact hy
   ·simp only[hc,if_false,Bool.false_eq_true]at e'
    have e1:n=x:=congrArg (·.1) e'
    have e2:k'=k:=congrArg (·.2) e'
    subst e1 e2
    rcases hk with z|z
    ·exact absurd z nc
    ·subst z;exact hy
  rcases h with h|h
  ·exact rQ (hm _ h (.inl rfl))
  ·exact rQ (hm _ h (.inr rfl))
 ·obtain⟨h1,h2,h3⟩:=at' p hp
  exact⟨h1,.inl h2,b1S h3⟩
def mD(X:Cx)(d:Addr):Prop:=(∀xs,X.H₀ d≠some (.tup xs))/\(∀o u,X.H₀ d≠some (.frz o u))/\∀ps,X.H₀ d≠some (.tbl ps)
section
variable{X:Cx}{pins:List (Addr×Obj)}{σ:St}{H:Hp}{s:Shared}{d:Addr}
theorem aD.retag{u u':HO}(I:aD X pins σ H s)(e:H d=some u)(nf:mD X d)(no:∀x,u≠ .own x)(nt:∀xs,u≠ .tup xs)(new:cY X.prog X.w (upd H d u') s.heap d u'):aD X pins σ (upd H d u') s:=by
 have hn:∀b,H b=none->upd H d u' b=none:=fun b n=>by rw[aH (bA e n).symm];exact n
 refine⟨I.ok,I.os,I.bare,⟨I.base.keep,I.base.slot,fun b o q n hx=>hn b (I.base.free b o q n hx),I.base.there,fun b xs q=> ?_,fun b o v q=> ?_,fun b ps q=> ?_⟩,I.loc,I.cell,hn _ I.free,fun x c q=>hn _ (I.freeC x c q),fun p hp=> ?_,fun b v q=> ?_,I.len⟩
 ·have:b≠d:=fun z=>nf.1 xs (z▸q)
  rw[aH this]
  exact I.base.tups b xs q
 ·have:b≠d:=fun z=>nf.2.1 o v (z▸q)
  rw[aH this]
  exact I.base.frzs b o v q
 ·have:b≠d:=fun z=>nf.2.2 ps (z▸q)
  rw[aH this]
  exact I.base.tbls b ps q
 ·obtain⟨a1,a2,a3,a4,a5⟩:=I.pin p hp
  exact⟨a1,hn _ a2,a3,a4,a5⟩
 ·by_cases hb:b=d
  ·subst hb
   rw[aJ]at q
   cases q
   exact new
  ·rw[aH hb]at q
   refine(I.hok b v q).stay (fun _ _ _ r=>r) (fun c r=> ?_) fun c xs r=> ?_
   ·rw[aH (jX r e (fun z=>no _ z.symm))]
    exact r
   ·rw[aH (jX r e (fun z=>nt _ z.symm))]
    exact r
theorem aD.nof{u:HO}(I:aD X pins σ H s)(e:H d=some u)(h1:∀xs,u≠ .tup xs)(h2:∀o v,u≠ .frz o v)(h3:∀ps,u≠ .tbl ps):mD X d:=by
 refine⟨fun xs q=> ?_,fun o v q=> ?_,fun ps q=> ?_⟩
 ·have:=(I.base.tups d xs q).symm.trans e
  exact h1 xs (Option.some.inj this).symm
 ·have:=(I.base.frzs d o v q).symm.trans e
  exact h2 o v (Option.some.inj this).symm
 ·obtain⟨m,q'⟩:=I.base.tbls d ps q
  have:=q'.symm.trans e
  exact h3 _ (Option.some.inj this).symm
theorem aD.freeze{kvs:List (aA×V)}(I:aD X pins σ H s)(e:H d=some (.dK kvs)):mD X d/\∃o,s.heap.get? d=some o/\aD X pins σ (upd H d (.frz o (.dK kvs))) s:=by
 have nf:mD X d:=I.nof e (by intro _ z;cases z) (by intro _ _ z;cases z) (by intro _ z;cases z)
 have ok:cY X.prog X.w H s.heap d (.dK kvs):=I.hok d _ e
 obtain⟨z,hs,vs,rel,o,es,ep,ho,r⟩:=id ok
 exact⟨nf,o,ho,I.retag e nf (by intro _ z;cases z) (by intro _ z;cases z) ⟨ho,z,hs,vs,rel,o,es,ep,ho,r⟩⟩
theorem aD.thaw{o:Obj}{kvs:List (aA×V)}(I:aD X pins σ H s)(nf:mD X d)(e:H d=some (.frz o (.dK kvs))):aD X pins σ (upd H d (.dK kvs)) s:=by
 obtain⟨_,q⟩:=(show cY X.prog X.w H s.heap d (.frz o (.dK kvs)) from I.hok d _ e)
 exact I.retag e nf (by intro _ z;cases z) (by intro _ z;cases z) q
end
noncomputable def wG (a:Addr) (o:Obj) (kvs:List (aA×V)):It:=
 ⟨fun i H=>H a=some (.frz o (.dK kvs))/\i<kvs.length,fun i H x H'=>H'=H/\∃p,kvs[i]?=some p/\x=kV p.1,fun i H=>H a=some (.frz o (.dK kvs))/\kvs.length<=i⟩
theorem b0n{P:Program}{w:World}{H:Hp}{h:Heap}{a:Addr}{o:Obj}{kvs:List (aA×V)}{es:Array DictEntry}{ep:Nat}(ok:cC P w H h)(e:H a=some (.frz o (.dK kvs)))(ho:o.data= .dict es ep):
 (a==sysModules)=false/\∃vs,KV kvs vs/\h.DictAt (fH P w) a vs ep:=by
 obtain⟨e1,z,hs,vs,rel,o',es',ep',ho',r1,r2,r3⟩:=(show cY P w H h a (.frz o (.dK kvs)) from ok a _ e)
 rw[e1]at ho'
 cases ho'
 have:=r2.symm.trans ho
 cases this
 exact⟨hs,vs,rel,o,_,e1,r1,r2,r3⟩
theorem b5A{P:Program}{w:World}{K:Fg}{tg:Expr}(a it:Addr)(o:Obj)(kvs:List (aA×V)){es:Array DictEntry}{ep:Nat}(hod:o.data= .dict es ep):oV P w K tg (wG a o kvs) [it] it (fun i h=>h.IsKeyIter it a i kvs.length ep) where
 mem:=by simp
 obj:=fun i h st b hb=>by
  have e:b=it:=by simpa using hb
  subst e
  obtain⟨o,e,c,d⟩:=st
  exact⟨o,e,fun v z=>by rw[d]at z;cases z⟩
 keep:=fun i h h' st k=>st.at fun o e=>k it (by simp) o e
 item:=by
  intro X hP hw hK hc i pins s σ H E I hf st hg
  subst hP hw hK
  obtain⟨ha,hi⟩:=hg
  obtain⟨_,vs,rel,dat⟩:=b0n I.hok ha hod
  have hl:kvs.length=vs.length:=Paired.length rel
  obtain⟨⟨k,x⟩,hx⟩:∃p,vs[i]?=some p:=⟨vs[i]'(by omega),by simp⟩
  obtain⟨f0,f1,f2,f3,f4,f5⟩:=hf it (by simp)
  rw[hl]at st
  refine wpAny_pyNext_dict_item st dat hx fun u h' hu st' sb=> ?_
  have I1:aD X pins σ H {s with heap:=h'}:=I.turned (t':=s.toks) (fun b o hb e=>sb.extBut b o hb e) f0 f1 f3 f4 f5
  obtain⟨o1,e1,c1,d1⟩:=id st'
  refine⟨u,rfl,zC (s:={s with heap:=h'}) e1 c1 d1 (by decide) ⟨kV k,H,I1,b3O hu,⟨rfl,?_⟩,by rw[hl];exact st',fun b hb=>(hf b hb).1⟩⟩
  refine⟨kvs[i],by simp[hi],?_⟩
  have e5:(kvs.map (·.1))[i]?=some k:=by rw[KV.fst rel,List.getElem?_map,hx];rfl
  rw[List.getElem?_map,List.getElem?_eq_getElem hi]at e5
  rw[<- Option.some.inj e5]
 done:=by
  intro X hP hw hK hc i pins s σ H E I hf st hg
  subst hP hw hK
  obtain⟨ha,hi⟩:=hg
  obtain⟨_,vs,rel,dat⟩:=b0n I.hok ha hod
  have hl:kvs.length=vs.length:=Paired.length rel
  obtain⟨f0,f1,f2,f3,f4,f5⟩:=hf it (by simp)
  rw[hl]at st
  exact wpAny_pyNext_dict_end (I.ok.hd hc) st dat (by simp;omega) fun h' eb=>⟨rfl,I.turned (t':=s.toks) (fun b o hb e=>eb b o hb e) f0 f1 f3 f4 f5⟩
 self:=fun _ _ _ _ _ st h=>wpAny_pyIter_keyiter st h
section
variable{X:Cx}{tg:Expr}
def b0k(X:Cx)(tl:TE):TI:=fun σ H R=>tl σ H fun x H1=>∃a kvs,x= .ref a/\H1 a=some (.dK kvs)/\(mD X a->∀o,R (wG a o kvs) (upd H1 a (.frz o (.dK kvs))))
theorem b6t{l:Expr}{tl:TE}(hl:PE X l tl):PI X tg l (b0k X tl):=by
 intro pins s σ H R I h
 refine aU (hl pins s σ H _ I h) fun v s1 ⟨x,H1,I1,r1,q1⟩=> ?_
 obtain⟨a,kvs,e,ha,q⟩:=q1
 subst e
 cases r1
 obtain⟨nf,o,ho,I2⟩:=I1.freeze ha
 obtain⟨z,hs,vs,rel,o',es,ep,ho',r1,r2,r3⟩:=(show cY X.prog X.w H1 s1.heap a (.dK kvs) from I1.hok a _ ha)
 rw[ho]at ho'
 cases ho'
 have hl:kvs.length=vs.length:=Paired.length rel
 have dat:s1.heap.DictAt (fH X.prog X.w) a vs ep:=⟨o,es,ho,r1,r2,r3⟩
 refine wpAny_pyIter_dict hs dat ?_
 refine⟨s1.heap.objs.size,[s1.heap.objs.size],_,_,_,rfl,I2.kept (t':=s1.toks) fun b o e=>Heap.get?_push_of_some _ e,b5A a _ o kvs r2,⟨_,Heap.get?_push_size _ rfl,rfl,by rw[hl];rfl⟩,fun b hb=> ?_,q nf o⟩
 have e:b=s1.heap.objs.size:=by simpa using hb
 subst e
 exact I2.fpOk (Nat.le_refl _) (I2.hok.fresh (Nat.le_refl _))
noncomputable def b1U (X:Cx) (D:kI):kI where
 nx:=fun σ H=>∃a o kvs,mD X a/\H a=some (.frz o (.dK kvs))/\D.nx σ (upd H a (.dK kvs))
 rt:=fun v H=>∃a o kvs,mD X a/\H a=some (.frz o (.dK kvs))/\D.rt v (upd H a (.dK kvs))
 bk:=D.bk
 ct:=D.ct
def b6e(X:Cx)(tl:TE)(g:TG)(tb:TS):TS:=fun D σ H=>tFor (b0k X tl) g tb (b1U X D) σ H
theorem b0u{iter:Expr}{body:List Stmt}{tl:TE}{g:TG}{tb:TS}{pos:Pos}(hp:PassesOwn (model X.prog X.w) X.A X.env X.xe)(hc:X.calm=true)(hl:PE X iter tl)(hg:PG X tg g)(hb:dQ X body tb)
 (hs:∀x,foldedSetIterable iter X.env x=pure x:=by intro _;rfl):PS X (.For tg iter body [] pos) (b6e X tl g tb):=by
 intro pins s σ H D I h
 refine aU (iG hp hc (b6t hl) hg hb hs pins s σ H (b1U X D) I h) fun f s' q=> ?_
 cases f with
 |next=>obtain⟨σ',H',I',a,o,kvs,nf,e,q⟩:=q;exact⟨σ',_,I'.thaw nf e,q⟩
 |cont=>exact q
 |brk=>exact q
 |ret v=>obtain⟨x,σ',H',I',r,a,o,kvs,nf,e,q⟩:=q;exact⟨x,σ',_,I'.thaw nf e,r,q⟩
end
theorem b0r{a:Addr}{ob:Obj}{kvs:List (aA×V)}{g:TG}{tb:TS}{D:kI}{σ:St}{H:Hp}(Pv:Nat->St->Hp->Prop)(h0:Pv 0 σ H)(hl:∀i σ H,i<=kvs.length->Pv i σ H->H a=some (.frz ob (.dK kvs)))
 (hs:∀i p σ H,kvs[i]?=some p->Pv i σ H->g (kV p.1) σ H fun σ2 H2=>tb {D with nx:=Pv (i+ 1),ct:=Pv (i+ 1),bk:=D.nx} σ2 H2)(hd:∀σ H,Pv kvs.length σ H->D.nx σ H):
 ∃W:Nat->Nat->St->Hp->Prop,(∃m,W 0 m σ H)/\∀i m σ H,W i m σ H->
  ((wG a ob kvs).stop i H/\D.nx σ H)\/ ((wG a ob kvs).go i H/\∃N:St->Hp->Prop,(∀σ' H',N σ' H'->∃m',m'<m/\W (i+ 1) m' σ' H')/\∀x H',(wG a ob kvs).yld i H x H'->g x σ H' fun σ2 H2=>tb {D with nx:=N,ct:=N,bk:=D.nx} σ2 H2):=by
 refine⟨fun i m σ H=>m=kvs.length- i/\i<=kvs.length/\Pv i σ H,⟨kvs.length,by simp,Nat.zero_le _,h0⟩,?_⟩
 rintro i m σ H ⟨rfl,hi,p⟩
 have q:=hl i σ H hi p
 by_cases hlt:i<kvs.length
 ·refine .inr ⟨⟨q,hlt⟩,Pv (i+ 1),fun σ' H' p'=>⟨kvs.length- (i+ 1),by omega,rfl,hlt,p'⟩,fun x H' y=> ?_⟩
  obtain⟨e,pr,hp,ex⟩:=y
  subst e ex
  exact hs i pr σ _ hp p
 ·have e:i=kvs.length:=by omega
  subst e
  exact .inl ⟨⟨q,Nat.le_refl _⟩,hd σ H p⟩
section
variable{X:Cx}{e st:Expr}{te:TE}{ts:TO}{p2 pos:Pos}
theorem cQ{st:Stmt}:PS X st (fun _ _ _=>False):=fun _ _ _ _ _ _ h=>h.elim
end
structure gH(mg:Str->Option Value)(base:Heap)(c P:Addr):Prop where
 hd:PySem.W.CodeHd base c P
 bt:base.BuiltinsAt mg P
theorem b3R{H:Hp}{a:Addr}{o:HO}(h:H a=some o):upd H a o=H:=by
 funext b
 unfold upd
 split
 ·rename_i e;subst e;exact h.symm
 ·rfl
section
variable{X:Cx}
theorem b0Y:∀{xs:List Value} {l c:Nat} {a:Addr},TriplesOk xs->TriplesOk (xs++ [rawInt l,rawInt c,.ref a])
 | [],_,_,_,_=>trivial
 | .int _ _:: .int _ _::_::dY,_,_,_,t=>b0Y (xs:=dY) t
theorem b2D{ps:Array Value}{l c:Nat}{a:Addr}(t:TriplesOk ps.toList):TriplesOk (ps++ #[rawInt l,rawInt c,.ref a]).toList:=by
 rw[Array.toList_append]
 exact b0Y t
end
structure b2x(q:Program)(K:Fg)(z:Addr×Addr):Prop where
 ex:∃x:Str,((recsOf q).find? (fun e=>e.name==x)).isSome=true/\PySem.W.tabIn K x=some z
theorem b0E{K:Fg}{h:Heap}{a:Addr}{ps:Array Value}(hK:PySem.W.noTabs K=true)(X:K.In h)(e:h.get? a=some (PySem.W.tabObj ps)):K.lookup a=none:=by
 cases q:K.lookup a with
 |none=>rfl
 |some o=>
  have e2:=X a o q
  rw[e]at e2
  cases e2
  have h2:=List.all_eq_true.mp hK (a,_) (PySem.W.mem_of_lookupK q)
  exact absurd (show false=true from h2) Bool.false_ne_true
structure ClsM(K:Fg)(C:Addr)(m:Str):Prop where
 ga:PySem.W.specialIn K (.ref C) "__getattribute__"=some (some (.builtin "type.__getattribute__"))
 ex:∃(mc:Value) (f:Addr),PySem.W.readsIn K C mc=true/\PySem.W.findCls K (.ref C) mc m=some (.val (.ref f))/\PySem.W.findIn K (.ref C) m=some (some (.ref f))
section
variable{X:Cx}{CX:fG}{k:Nat}{C:Addr}{ps:List Str}{sp:Sp}{E:XK}{x m:Str}{p pos apos:Pos}{e o:Expr}{es:List Expr}{t:TA}{ta:TE}
theorem b24{pl:Sem Bool}(he:PE X o (tC (.ref C)))(c:ClsM X.K C m)(G:aT X.prog X.w X.K X.mg X.base CX k C m ps sp)(hr:bV k X.A)(hx:iJ CX X E)(ha:PA X (e::es) t)
 (hst:starEach (e::es) X.env=(false,eval e X.env)::starEach es X.env:=by rfl)(hpl:(backTo pos (starEach es X.env)).any (·.1)=false:=by rfl)
 (ht:eval (.Call (.Attribute o m apos) (e::es) [] pos) X.env=(do
  let ov<- eval o X.env
  standAt apos.atName
  let (f,first)<- holding [ov] (getMethod ov m pl)
  callWith pos f first (backTo pos (starEach (e::es) X.env)) (backToKw pos (keywordEach [] X.env))):=by rfl):
 PE X (.Call (.Attribute o m apos) (e::es) [] pos) (a3M sp [] E t):=by
 obtain⟨f,fd,F,hm,hb⟩:=G.ex
 intro pins s σ H Q I h
 refine PySem.W.methodCall_KW (pl:=pl) (aU (he pins s σ H (fun v H1=>v= .ref C/\H1=H) I ⟨rfl,rfl⟩) fun u s1 ⟨x,H1,I1,rx,q⟩=> ?_) ht
 obtain⟨rfl,rfl⟩:=q
 obtain rfl:u=Value.ref C:=rx
 obtain⟨mc,f',h1,h2,h3⟩:=c.ex
 have e1:=hm.at_
 rw[h3]at e1
 cases e1
 refine PySem.W.method_cls I1.kIn c.ga (PySem.W.cls_value I1.kIn h1 h2 rfl ?_)
 refine PySem.W.callWith_K (first:=[]) (h₀:=X.base) I.ok.mod.kin hm.kp (aU (ha pos pins _ σ _ _ (I1.tok _) h) fun us s2 ⟨vs,H2,I2,r,q2⟩=>⟨I2.kIn,?_⟩) hst hpl
 exact zB (us:=us) (vs:=vs) F hr hb .nil hx I2 r q2
end
structure DefT(K:Fg)(mg:Str->Option Value)(x:Str)(st:Stmt)(z:Addr×Addr):Prop where
 ex:∃f fd,jH K x x st f fd/\mg x=some (.ref f)/\fd.code= .ref z.1
 tab:PySem.W.tabIn K x=some z
section
variable{P:Program}{w:World}{K:Fg}{mg:Str->Option Value}{base:Heap}
theorem b3w{x:Str}{f c p:Addr}{oc wo:Value}{od wd:Option Addr}{fd:FuncData}{osl ws:Array (Option Value)}{vs:Array Value}(a:PySem.W.nsIn K mainGlobals x=some (some (.ref f)))
 (l:K.lookup f=some ⟨oc,od,.func fd,osl⟩)(hc:fd.code= .ref c)(w:K.lookup c=some ⟨wo,wd,.fields vs,ws⟩)(h:vs[11]?=some (.ref p)):PySem.W.tabIn K x=some (c,p):=by
 unfold PySem.W.tabIn
 rw[a]
 dsimp only
 rw[l]
 dsimp only
 rw[hc]
 dsimp only
 rw[w]
 dsimp only
 rw[h]
theorem b4q{h:Heap}{x:Str}{st:Stmt}{f c p:Addr}{oc wo:Value}{od an wd:Option Addr}{osl ws:Array (Option Value)}{kV doc pm ct:Value}{vs:Array Value}(X:K.In h)(G:h.Ns mainGlobals mg)(a:PySem.W.nsIn K mainGlobals x=some (some (.ref f)))
 (l:K.lookup f=some ⟨oc,od,.func (PySem.W.fnOf x x (aZ st) (aV st) (aI st) .none kV doc pm an (.ref c) ct),osl⟩)(hc:PySem.W.codeIn K (.ref c) x=true)(k:PySem.W.keepIn K (.ref f)=true)
 (w:K.lookup c=some ⟨wo,wd,.fields vs,ws⟩)(t:vs[11]?=some (.ref p)):DefT K mg x st (c,p):=
 ⟨⟨f,_,xY l hc k,PySem.W.mg_of X G a,rfl⟩,b3w a l rfl w t⟩
end
section
variable{X:Cx}
theorem op_inD(hu:X.A.units+ 64<cLine):dU X (compareOp .In) (fun x y H Q=>∃d ds,Dt X.K H x d/\Dt X.K H y (.list ds)/\d.canLay0=true/\(PyData.list ds).canLay0=true/\d.depth<=62/\Q (.bl (ds.any fun z=>PyData.eqv z d)) H):=by
 intro pins s σ H x y v u Q I rx ry h
 obtain⟨d,ds,hx,hy,lx,ly,hd,q⟩:=h
 obtain⟨as,ra⟩:=Dt.reads I hx rx lx
 obtain⟨bs,rb⟩:=Dt.reads I hy ry ly
 exact SeqAt.in_list_reads rb ra ly lx (by have:=Nat.min_le_right (PyData.depthAll ds) d.depth;omega) ⟨.bl _,H,I,rfl,q⟩
theorem b1w(hu:X.A.units+ 64<cLine):dU X (compareOp .NotIn) (fun x y H Q=>∃d ds,Dt X.K H x d/\Dt X.K H y (.list ds)/\d.canLay0=true/\(PyData.list ds).canLay0=true/\d.depth<=62/\Q (.bl (!ds.any fun z=>PyData.eqv z d)) H):=by
 intro pins s σ H x y v u Q I rx ry h
 obtain⟨d,ds,hx,hy,lx,ly,hd,q⟩:=h
 obtain⟨as,ra⟩:=Dt.reads I hx rx lx
 obtain⟨bs,rb⟩:=Dt.reads I hy ry ly
 exact SeqAt.notIn_list_reads rb ra ly lx (by have:=Nat.min_le_right (PyData.depthAll ds) d.depth;omega) ⟨.bl _,H,I,rfl,q⟩
end
abbrev fN(p:Str×Str):PyData:=.tuple [.str p.1,.str p.2]
theorem a16(p q:Str×Str):PyData.eqv (fN p) (fN q)=decide (p=q):=by
 obtain⟨a,b⟩:=p
 obtain⟨c,d⟩:=q
 show(a==c&&(b==d&&true))=decide ((a,b)=(c,d))
 rw[Bool.and_true]
 by_cases h1:a=c
 ·by_cases h2:b=d
  ·subst h1;subst h2
   simp
  ·rw[decide_eq_false (fun e=>h2 (Prod.mk.inj e).2),beq_eq_false_iff_ne.mpr h2,Bool.and_false]
 ·rw[decide_eq_false (fun e=>h1 (Prod.mk.inj e).1),beq_eq_false_iff_ne.mpr h1,Bool.false_and]
theorem a7e(p:Str×Str):∀ps:List (Str×Str),((ps.map fN).any fun z=>PyData.eqv z (fN p))=decide (p∈ps)
 | []=>rfl
 |q::ps=>by
  rw[List.map_cons,List.any_cons,a7e p ps,a16]
  by_cases h:p=q
  ·subst h;simp
  ·rw[decide_eq_false (fun e=>h e.symm),Bool.false_or]
   simp[h]
noncomputable def dR (ps:List (Str×Str)):List (Str×Str):=ps.foldl (fun acc p=>if p∈acc then acc else acc++ [p]) []
theorem b1a(ps:List (Str×Str))(p:Str×Str):dR (ps++ [p])=if p∈dR ps then dR ps else dR ps++ [p]:=by
 unfold dR
 rw[List.foldl_append]
 rfl
theorem a4x:∀ps:List (Str×Str),(dR ps).length<=ps.length:=by
 suffices h:∀(ps acc:List (Str×Str)),(ps.foldl (fun acc p=>if p∈acc then acc else acc++ [p]) acc).length<=acc.length+ ps.length by
  intro ps
  have:=h ps []
  simpa [dR] using this
 intro ps
 induction ps with
 |nil=>intro acc;simp
 |cons p ps ih=>
  intro acc
  rw[List.foldl_cons]
  refine Nat.le_trans (ih _) ?_
  split
  ·simp
  ·simp;omega
theorem yB:∀{ps:List (Str×Str)} {p:Str×Str},p∈dR ps->p∈ps:=by
 suffices h:∀(ps acc:List (Str×Str)) (p:Str×Str),p∈ps.foldl (fun acc p=>if p∈acc then acc else acc++ [p]) acc->p∈acc\/ p∈ps by
  intro ps p hp
  rcases h ps [] p hp with h|h
  ·cases h
  ·exact h
 intro ps
 induction ps with
 |nil=>intro acc p h;exact .inl h
 |cons q ps ih=>
  intro acc p h
  rw[List.foldl_cons]at h
  rcases ih _ p h with h|h
  ·split at h
   ·exact .inl h
   ·rcases List.mem_append.mp h with h|h
    ·exact .inl h
    ·exact .inr (by rw[List.mem_singleton.mp h];exact List.mem_cons_self)
  ·exact .inr (List.mem_cons_of_mem _ h)
def Fz(o:Obj):HO:=.frz o (.ext fun _=>True)
theorem a4M{P:Program}{w:World}{H:Hp}{h:Heap}{a:Addr}{o:Obj}(e:h.get? a=some o):cY P w H h a (Fz o):=⟨e,trivial,⟨o,e⟩,fun _ _ _ _=>trivial⟩
theorem kX{P:Program}{w:World}{H:Hp}{h:Heap}{a:Addr}{o:Obj}(x:cC P w H h)(e:H a=some (Fz o)):h.get? a=some o:=(x a _ e).1
theorem b7t{o u:Obj}(e:some (Fz o)=some (Fz u)):o=u:=by
 have:=Option.some.inj e
 unfold Fz at this
 exact(HO.frz.inj this).1
def b1W(q:Str)(o:Obj):Prop:=∃vs t,o.data= .fields vs/\vs[1]?=some (.str q t)
def eN(P:Addr)(S:List Addr):HO:=.ext fun h=>∃ps:Array Value,h.get? P=some (PySem.W.tabObj ps)/\TriplesOk ps.toList/\∀pos cv,codeAmong pos ps.toList=some cv->∃c∈S,cv= .ref c
def gA(q:Str)(H:Hp)(P:Addr):Prop:=∃S,H P=some (eN P S)/\∀c∈S,∃o,H c=some (Fz o)/\b1W q o
def gK(q:Str)(params:Arguments)(body:Expr)(scope:Scope)(clos:List (Str×Addr))(H:Hp)(fa:Addr):Prop:=
 ∃pm c ctv o,H fa=some (Fz (PySem.W.kla_obj "<lambda>" q params body scope clos pm c ctv))/\H c=some (Fz o)/\b1W q o
theorem b1n{P:Program}{w:World}{H:Hp}{h:Heap}{a:Addr}{ps:Array Value}{S:List Addr}(e:h.get? a=some (PySem.W.tabObj ps))(t:TriplesOk ps.toList)(c:∀pos cv,codeAmong pos ps.toList=some cv->∃c∈S,cv= .ref c):cY P w H h a (eN a S):=
 ⟨⟨ps,e,t,c⟩,⟨_,e⟩,fun h1 h2 ⟨qs,e1,t1⟩ k=>⟨qs,k _ e1,t1⟩⟩
theorem b0z{pos:Pos}{l c:Nat}{a:Addr}{cv:Value}:∀{xs:List Value},TriplesOk xs->codeAmong pos (xs++ [rawInt l,rawInt c,.ref a])=some cv->codeAmong pos xs=some cv\/ cv= .ref a
 | [],_,h=>by
  right
  simp only[List.nil_append,rawInt,codeAmong]at h
  split at h
  ·exact(Option.some.inj h).symm
  ·cases h
 | .int x _:: .int y _::z::dY,t,h=>by
  simp only[List.cons_append,codeAmong]at h|-
  split at h
  ·rename_i e
   rw[if_pos e]
   exact .inl h
  ·rename_i e
   rw[if_neg e]
   exact b0z (xs:=dY) t h
theorem b1G{P:Program}{w:World}{H:Hp}{h:Heap}{c:Addr}{o:Obj}(x:cC P w H h)(hn:H c=none)(e:h.get? c=some o):cC P w (upd H c (Fz o)) h:=fun b u q=>by
 by_cases hb:b=c
 ·subst hb;rw[aJ]at q;cases q;exact a4M e
 ·rw[aH hb]at q
  exact(x b u q).stay (fun _ _ _ z=>z) (fun d z=>by rw[aH (bA z hn)];exact z) fun d xs z=>by rw[aH (bA z hn)];exact z
def a9T(P:Addr)(H H':Hp):Prop:=∀b o,b≠P->H b=some o->H' b=some o
def b69(P:Addr)(q:Str)(params:Arguments)(body:Expr)(scope:Scope)(clos:List (Str×Addr)):TE:=fun _ H Q=>gA q H P/\∀a H',H a=none->a9T P H H'->gA q H' P->gK q params body scope clos H' a->Q (.ref a) H'
section
variable{X:Cx}
theorem a7L{params:Arguments}{body:Expr}{scope:Scope}{pos:Pos}{c P:Addr}{clos:List (Str×Addr)}(M:gH X.mg X.base c P)(hc:X.env.code= .ref c)(hcl:closureFor scope X.env=pure clos)(hdef:defaultsOf params X.env=([],[])):
 PE X (.Lambda params body scope pos) (b69 P (X.env.qual++ "<lambda>") params body scope clos):=by
 intro pins s σ H Q I h
 obtain⟨⟨S,hP,hS⟩,q⟩:=h
 obtain⟨⟨ps,e,t,tc⟩,_,_⟩:=I.hok P _ hP
 have hg:s.heap.Ns mainGlobals X.mg:=I.mod.glob.keeps I.bk
 have C:=M.hd.keeps I.bk
 have hb:s.heap.BuiltinsAt X.mg P:=let ⟨bm,o,b1,b2,b3,b4,b5,r⟩:=M.bt;⟨bm,o,b1,b2,b3,b4,I.bk _ _ b5,r⟩
 have hgP:mainGlobals≠P:=fun z=>by
  obtain⟨o,es,ep,e1,hd,_⟩:=hg
  rw[z,e]at e1;cases e1;cases hd
 refine PySem.W.kla_eval hdef ?_
 cases hf:codeAmong pos ps.toList with
 |none=>
  refine PySem.W.kla_makeFunction (mg:=X.mg) hcl I.ok.glob hg hc C e t hf hgP hb fun c' ctv h' tk hx hge hlt hrec htb=> ?_
  obtain⟨c1,oc,vs,tq,ec,goc,doc,dq⟩:=hrec
  obtain rfl:c'=c1:=by cases ec;rfl
  have nP:∀b,H b=none->b≠P:=fun b n z=>by rw[z,hP]at n;cases n
  have hPlt:P<s.heap.objs.size:=Heap.lt_size e
  have goc':(h'.push (PySem.W.kla_obj "<lambda>" (X.env.qual++ "<lambda>") params body scope clos ((X.mg "__name__").getD .none) c' ctv)).get? c'=some oc:=Heap.get?_push_of_some _ goc
  have cP:c'≠P:=Nat.ne_of_gt (Nat.lt_of_lt_of_le hPlt hge)
  have aP:h'.objs.size≠P:=Nat.ne_of_gt (Nat.lt_of_lt_of_le hPlt (Nat.le_of_lt (Nat.lt_of_le_of_lt hge hlt)))
  have ac:h'.objs.size≠c':=Nat.ne_of_gt hlt
  have fr:∀b,s.heap.objs.size<=b->H b=none:=fun b z=>I.hok.fresh z
  have hk:∀b u,b≠P->s.heap.get? b=some u->(h'.push (PySem.W.kla_obj "<lambda>" (X.env.qual++ "<lambda>") params body scope clos ((X.mg "__name__").getD .none) c' ctv)).get? b=some u:=fun b u nb eb=>Heap.get?_push_of_some _ (hx b u nb eb)
  have hok1:cC X.prog X.w (upd H P (eN P (c'::S))) (h'.push (PySem.W.kla_obj "<lambda>" (X.env.qual++ "<lambda>") params body scope clos ((X.mg "__name__").getD .none) c' ctv)):=
   I.hok.write (x:=P) (e:=P) (by rw[hP];trivial) (.inl rfl) hk ⟨_,Heap.get?_push_of_some _ htb⟩ (b1n (Heap.get?_push_of_some _ htb) (b2D t) fun pos cv z=>by
    rw[Array.toList_append]at z
    rcases b0z t z with z|z
    ·obtain⟨d,hd,r⟩:=tc pos cv z
     exact⟨d,List.mem_cons_of_mem _ hd,r⟩
    ·exact⟨c',List.mem_cons_self,z⟩)
  have n1:upd H P (eN P (c'::S)) c'=none:=by rw[aH cP];exact fr _ hge
  have hok2:=b1G hok1 n1 goc'
  have n2:upd (upd H P (eN P (c'::S))) c' (Fz oc) h'.objs.size=none:=by rw[aH ac,aH aP];exact fr _ (Nat.le_of_lt (Nat.lt_of_le_of_lt hge hlt))
  have hok3:=b1G hok2 n2 (Heap.get?_push_size _ rfl)
  have sm:∀b,b≠P->H b≠none->upd (upd (upd H P (eN P (c'::S))) c' (Fz oc)) h'.objs.size (Fz (PySem.W.kla_obj "<lambda>" (X.env.qual++ "<lambda>") params body scope clos ((X.mg "__name__").getD .none) c' ctv)) b=H b:=fun b z1 z2=>by
   have y1:b≠h'.objs.size:=fun z=>z2 (by rw[z];exact fr _ (Nat.le_of_lt (Nat.lt_of_le_of_lt hge hlt)))
   have y2:b≠c':=fun z=>z2 (by rw[z];exact fr _ hge)
   rw[aH y1,aH y2,aH z1]
  have sv:∀b o,b≠P->H b=some o->upd (upd (upd H P (eN P (c'::S))) c' (Fz oc)) h'.objs.size (Fz (PySem.W.kla_obj "<lambda>" (X.env.qual++ "<lambda>") params body scope clos ((X.mg "__name__").getD .none) c' ctv)) b=some o:=fun b o z1 z2=>by
   rw[sm b z1 (by rw[z2];intro z;cases z)];exact z2
  have J:=I.step (h':=h'.push (PySem.W.kla_obj "<lambda>" (X.env.qual++ "<lambda>") params body scope clos ((X.mg "__name__").getD .none) c' ctv)) (g':=s.gens) (t':=tk) (d':=s.drawn) (ch:=[]) (fun _ z=>nomatch z)
   (fun b o _ _ _ eb n=>hk b o (nP b n) eb) (fun b o _ _ _ eb n=>⟨o.slots,hk b o (nP b n) eb⟩)
   (fun b o _ eb n=>by rw[aH (Nat.ne_of_lt (Nat.lt_of_lt_of_le (Heap.lt_size eb) (Nat.le_of_lt (Nat.lt_of_le_of_lt hge hlt)))),aH (Nat.ne_of_lt (Nat.lt_of_lt_of_le (Heap.lt_size eb) hge)),aH (nP b n)];exact n)
   (fun b o _ eb=>by
    by_cases z:b=P
    ·subst z;exact⟨_,Heap.get?_push_of_some _ htb⟩
    ·exact⟨o,hk b o z eb⟩)
   (fun b xs z=>sv b _ (fun y=>by rw[y,hP]at z;cases z) z) (fun b o u z=>sv b _ (fun y=>by rw[y,hP]at z;cases z) z) (fun b ps z=>⟨#[],by rw[sv b _ (fun y=>by rw[y,hP]at z;cases z) z];simp⟩)
   (fun m ⟨o,es,ep,ho,r⟩=>⟨o,es,ep,hk _ o (nP _ I.free) ho,r⟩) hok3 I.bare
  refine⟨.ref h'.objs.size,_,J,rfl,q _ _ (fr _ (Nat.le_of_lt (Nat.lt_of_le_of_lt hge hlt))) (fun b o z1 z2=>sv b o z1 z2) ⟨c'::S,?_,fun d hd=> ?_⟩ ⟨_,c',ctv,oc,aJ,?_,vs,tq,doc,dq⟩⟩
  ·rw[aH (Ne.symm aP),aH (Ne.symm cP),aJ]
  ·rcases List.mem_cons.mp hd with rfl|hd
   ·exact⟨oc,by rw[aH (Ne.symm ac),aJ],vs,tq,doc,dq⟩
   ·obtain⟨o,e1,e2⟩:=hS d hd
    exact⟨o,sv d _ (fun y=>by rw[y,hP]at e1;cases e1) e1,e2⟩
  ·rw[aH (Ne.symm ac),aJ]
 |some cv=>
  obtain⟨d,hd,rfl⟩:=tc _ _ hf
  obtain⟨od,e1,e2⟩:=hS d hd
  refine PySem.W.kla_makeFunctionHit (mg:=X.mg) hcl I.ok.glob hg hc C e t hf hb fun ctv h' tk hk hsz=> ?_
  have fr:H h'.objs.size=none:=I.hok.fresh hsz
  have sv:∀b o,H b=some o->upd H h'.objs.size (Fz (PySem.W.kla_obj "<lambda>" (X.env.qual++ "<lambda>") params body scope clos ((X.mg "__name__").getD .none) d ctv)) b=some o:=fun b o z=>by
   rw[aH (bA z fr)];exact z
  refine⟨.ref h'.objs.size,_,I.laid (a:=h'.objs.size) (o:=Fz (PySem.W.kla_obj "<lambda>" (X.env.qual++ "<lambda>") params body scope clos ((X.mg "__name__").getD .none) d ctv)) (fun b o eb=>Heap.get?_push_of_some _ (hk b o eb)) hsz (a4M (Heap.get?_push_size _ rfl)),rfl,
   q _ _ fr (fun b o _ z=>sv b o z) ⟨S,sv _ _ hP,fun d' hd'=> ?_⟩ ⟨_,d,ctv,od,aJ,sv _ _ e1,e2⟩⟩
  obtain⟨o,e3,e4⟩:=hS d' hd'
  exact⟨o,sv _ _ e3,e4⟩
end
abbrev eC:=Addr->Option Obj
noncomputable def cW (f:eC) (H:Hp):Hp:=fun b=>match f b with
 |some o=>some (Fz o)
 |none=>H b
noncomputable def unl (f:eC) (H:Hp):Hp:=fun b=>match f b with
 |some _=>none
 |none=>H b
theorem lF{f:eC}{H:Hp}{b:Addr}{o:Obj}(e:f b=some o):cW f H b=some (Fz o):=by unfold cW;rw[e]
theorem eJ{f:eC}{H:Hp}{b:Addr}(e:f b=none):cW f H b=H b:=by unfold cW;rw[e]
theorem kJ{f:eC}{H:Hp}{b:Addr}{o:Obj}(e:f b=some o):unl f H b=none:=by unfold unl;rw[e]
theorem dI{f:eC}{H:Hp}{b:Addr}(e:f b=none):unl f H b=H b:=by unfold unl;rw[e]
theorem a6I{f:eC}{H:Hp}(h:∀b o,f b=some o->H b=none):unl f (cW f H)=H:=by
 funext b
 cases e:f b with
 |none=>rw[dI e,eJ e]
 |some o=>rw[kJ e,h b o e]
section
variable{P:Program}{w:World}{H H':Hp}{h h':Heap}{f:eC}{fs:List Addr}
theorem a1o(x:cC P w H h)(hf:∀b o,f b=some o->H b=none/\h.get? b=some o):cC P w (cW f H) h:=fun b u q=>by
 have keep:∀c v,H c=some v->cW f H c=some v:=fun c v z=>by
  cases e:f c with
  |none=>rw[eJ e];exact z
  |some o=>rw[(hf c o e).1]at z;cases z
 cases e:f b with
 |none=>
  rw[eJ e]at q
  exact(x b u q).stay (fun _ _ _ z=>z) (fun c z=>keep c _ z) fun c xs z=>keep c _ z
 |some o=>
  rw[lF e]at q
  cases q
  exact a4M (hf b o e).2
theorem a9W(x:cC P w H h)(hf:∀b o,f b=some o->H b=some (Fz o)):cC P w (unl f H) h:=fun b u q=>by
 cases e:f b with
 |some o=>rw[kJ e]at q;cases q
 |none=>
  rw[dI e]at q
  refine(x b u q).stay (fun _ _ _ z=>z) (fun c z=> ?_) fun c xs z=> ?_
  ·cases e2:f c with
   |none=>rw[dI e2];exact z
   |some o=>rw[hf c o e2]at z;cases z
  ·cases e2:f c with
   |none=>rw[dI e2];exact z
   |some o=>rw[hf c o e2]at z;cases z
theorem a9h(hf:∀b o,f b=some o->H b=none/\h.get? b=some o)(u:Un fs [] (cW f H) H' h h')(hok:cC P w H' h'):Un fs [] H (unl f H') h h'/\cC P w (unl f H') h':=by
 have at':∀b o,f b=some o->H' b=some (Fz o):=fun b o e=>u.frzs b o _ (lF e)
 have nf:∀b v,H b=some v->f b=none:=fun b v z=>by
  cases e:f b with
  |none=>rfl
  |some o=>rw[(hf b o e).1]at z;cases z
 refine⟨⟨fun b o e n hb hx=> ?_,fun b o e n hb hx=> ?_,fun b o e n hx=> ?_,fun b o e hx=>u.there b o e hx,fun b xs z=> ?_,fun b o v z=> ?_,fun b ps z=> ?_⟩,a9W hok at'⟩
 ·cases e2:f b with
  |none=>exact u.keep b o e (by rw[eJ e2];exact n) hb hx
  |some o2=>
   have:=(hf b o2 e2).2
   rw[e]at this
   cases this
   exact kX hok (at' b o e2)
 ·cases e2:f b with
  |none=>exact u.slot b o e (by rw[eJ e2];exact n) hb hx
  |some o2=>
   have:=(hf b o2 e2).2
   rw[e]at this
   cases this
   exact⟨o.slots,kX hok (at' b o e2)⟩
 ·cases e2:f b with
  |none=>rw[dI e2];exact u.free b o e (by rw[eJ e2];exact n) hx
  |some o2=>exact kJ e2
 ·rw[dI (nf b _ z)];exact u.tups b xs (by rw[eJ (nf b _ z)];exact z)
 ·rw[dI (nf b _ z)];exact u.frzs b o v (by rw[eJ (nf b _ z)];exact z)
 ·rw[dI (nf b _ z)];exact u.tbls b ps (by rw[eJ (nf b _ z)];exact z)
theorem b29(hf:∀b o,f b=some o->H b=some (Fz o))(hok0:cC P w H h)(hfs:∀b∈fs,H b=none)(u:Un fs [] (unl f H) H' h h')(hok:cC P w H' h'):Un fs [] H (cW f H') h h'/\cC P w (cW f H') h':=by
 have fr:∀b o,f b=some o->H' b=none/\h'.get? b=some o:=fun b o e=>by
  have g:=kX hok0 (hf b o e)
  exact⟨u.free b o g (kJ e) (by simp),u.keep b o g (kJ e) (fun z=>by have:=hfs b z;rw[hf b o e]at this;cases this) (by simp)⟩
 have nf:∀b,H b=none->f b=none:=fun b z=>by
  cases e:f b with
  |none=>rfl
  |some o=>rw[hf b o e]at z;cases z
 have nz:∀b v,H b=some v->(∀o,v≠Fz o)->f b=none:=fun b v z ne=>by
  cases e:f b with
  |none=>rfl
  |some o=>rw[hf b o e]at z;exact absurd (Option.some.inj z).symm (ne o)
 refine⟨⟨fun b o e n hb hx=>u.keep b o e (by rw[dI (nf b n)];exact n) hb hx,fun b o e n hb hx=>u.slot b o e (by rw[dI (nf b n)];exact n) hb hx,fun b o e n hx=> ?_,fun b o e hx=>u.there b o e hx,fun b xs z=> ?_,fun b o v z=> ?_,fun b ps z=> ?_⟩,a1o hok fr⟩
 ·rw[eJ (nf b n)];exact u.free b o e (by rw[dI (nf b n)];exact n) hx
 ·have e:=nz b _ z (fun o q=>by cases q)
  rw[eJ e];exact u.tups b xs (by rw[dI e];exact z)
 ·cases e:f b with
  |none=>rw[eJ e];exact u.frzs b o v (by rw[dI e];exact z)
  |some o2=>rw[lF e,<- hf b o2 e];exact z
 ·have e:=nz b _ z (fun o q=>by cases q)
  rw[eJ e];exact u.tbls b ps (by rw[dI e];exact z)
end
structure Lent(X:Cx)(σ:St)(H:Hp)(f:eC):Prop where
 free:∀b o,f b=some o->H b=none
 cell:∀x c,X.env.cells.lookup x=some c->∃o v,f c=some o/\o.data= .cell v
 val:∀(i:Nat) x v,X.N[i]?=some x->σ[i]?=some (some v)->X.env.scope.names.lookup x=some .cell->∃c o u,X.env.cells.lookup x=some c/\f c=some o/\o.data= .cell (some u)/\bF v u
 inj:∀x y c,X.env.cells.lookup x=some c->X.env.cells.lookup y=some c->x=y
theorem b3Q{X:Cx}{pins:List (Addr×Obj)}{σ:St}{H:Hp}{s:Shared}(I:aD X pins σ H s)(hfn:∀x,X.fn x=true):∃f:eC,Lent X σ H f/\(∀b o,f b=some o->H b=none/\s.heap.get? b=some o/\X.base.get? b=none/\b∉fZ X.stack):=by
 classical
 let f:eC:=fun b=>if(∃x,X.env.cells.lookup x=some b) then s.heap.get? b else none
 have fe:∀{b o},f b=some o->(∃x,X.env.cells.lookup x=some b)/\s.heap.get? b=some o:=fun{b o} e=>by
  by_cases z:∃x,X.env.cells.lookup x=some b
  ·exact⟨z,by rw[show f b=s.heap.get? b from if_pos z]at e;exact e⟩
  ·rw[show f b=none from if_neg z]at e;cases e
 have ff:∀{x c},X.env.cells.lookup x=some c->f c=s.heap.get? c:=fun{x c} e=>if_pos ⟨x,e⟩
 refine⟨f,⟨fun b o e=> ?_,fun x c e=> ?_,fun i x v e1 e2 e3=> ?_,I.ok.inj⟩,fun b o e=> ?_⟩
 ·obtain⟨⟨x,z⟩,_⟩:=fe e
  exact I.freeC x b z
 ·obtain⟨v,o,ho,hd⟩:=I.cell x c e
  exact⟨o,v,by rw[ff e];exact ho,hd⟩
 ·obtain⟨m,_,hl⟩:=I.loc
  obtain⟨u,r,l⟩:=hl i x v e1 e2 (.inr (.inl e3))
  rcases l with⟨k,_⟩|⟨_,c,ec,o,ho,hd⟩
  ·have k':X.env.scope.names.lookup x=some .local:=k
   rw[e3]at k';cases k'
  ·exact⟨c,o,u,ec,by rw[ff ec];exact ho,hd,r⟩
 ·obtain⟨⟨x,z⟩,g⟩:=fe e
  refine⟨I.freeC x b z,g,?_,fun hb=> ?_⟩
  ·exact Heap.get?_none_of_le (Nat.le_trans I.ok.bsz (I.ok.cab x b (hfn x) z))
  ·rcases List.mem_cons.mp (I.stkSub b hb)with e2|hb
   ·exact I.cne x b z e2
   ·obtain⟨_,ob,ho,_⟩:=I.ok.funs.mem hb
    exact absurd (Nat.lt_of_lt_of_le (Heap.lt_size ho) (I.ok.cab x b (hfn x) z)) (Nat.lt_irrefl _)
theorem b52{X:Cx}{k:Nat}{fa:Addr}{fd:FuncData}{ps:List Str}{sp:Sp}{pins:List (Addr×Obj)}{σ:St}{H:Hp}{s:Shared}{Q:VK}{us:List Value}{vs:List V}(hfn:∀x,X.fn x=true)(F:fJ X.prog X.w X.K X.mg X.base aF k fa fd ps sp)(hr:bV k X.A)(hb:hZ X.K fd ps [])
 (I:aD X pins σ H s)(r:bD vs us)(h:∀f,Lent X σ H f->sp vs (cW f H) (fun v H'=>Q v (unl f H')) E0):wpAny (model X.prog X.w) X.A (call (.ref fa) us) (EP X pins σ Q) X.xe s:=by
 obtain⟨f,L,hf⟩:=b3Q I hfn
 have q:=h f L
 have hl:(us++ []).length=ps.length:=by rw[List.append_nil,<- r.length];exact F.len _ _ _ _ q
 have e0:jW X.prog X.w X.K X.mg X.base X.A X.stack s (cW f H):=by
  have e:=I.env0
  refine⟨e.frames,e.mod,fun b o z=>⟨(e.bs b o z).1,?_⟩,e.bsz,e.funs,fun b z=> ?_,a1o e.hok fun b o z=>⟨(hf b o z).1,(hf b o z).2.1⟩,e.bare⟩
  ·cases q2:f b with
   |none=>rw[eJ q2];exact(e.bs b o z).2
   |some ob=>rw[(hf b ob q2).2.2.1]at z;cases z
  ·cases q2:f b with
   |none=>rw[eJ q2];exact e.frf b z
   |some ob=>exact absurd z (hf b ob q2).2.2.2
 have bd:=hb s us I.kIn hl
 rw[List.append_nil]at bd
 refine wpAny_call (codeAny_mono (F.run X.A X.stack s (cW f H) ⟨us,[]⟩ us vs _ E0 hr e0 bd r q) fun r s' hq=> ?_)
 cases r with
 |error e=>exact False.elim hq
 |ok fl=>
  cases fl with
  |ret u=>
   obtain⟨v,H',os,bare,un,hok,rv,qv⟩:=hq
   obtain⟨u1,u2⟩:=a9h (fun b o z=>⟨(hf b o z).1,(hf b o z).2.1⟩) un hok
   exact I.after ⟨v,_,os,bare,u1,u2,rv,qv⟩
  |next=>exact False.elim hq
  |brk=>exact False.elim hq
  |cont=>exact False.elim hq
def b5e(X:Cx)(C:Addr)(m:Str)(sp:Sp)(ta:TE)(t:TA):TE:=fun σ H Q=>ta σ H fun x H1=>∃a dx fs,x= .ref a/\H1 a=some (.ins C dx fs)/\fs.lookup m=none/\
 t σ H1 fun vs H2=>∀f,Lent X σ H2 f->sp (x::vs) (cW f H2) (fun v H'=>Q v (unl f H')) E0
section
variable{X:Cx}{k:Nat}{C:Addr}{ps:List Str}{sp:Sp}{x m:Str}{p pos apos:Pos}{e o:Expr}{es:List Expr}{t:TA}{ta:TE}
theorem b4e{pl:Sem Bool}(he:PE X o ta)(c:dJ X.K C)(G:aT X.prog X.w X.K X.mg X.base aF k C m ps sp)(hr:bV k X.A)(ha:PA X (e::es) t)(hfn:∀x,X.fn x=true:=by exact fun _=>rfl)
 (hst:starEach (e::es) X.env=(false,eval e X.env)::starEach es X.env:=by rfl)(hpl:(backTo pos (starEach es X.env)).any (·.1)=false:=by rfl)
 (ht:eval (.Call (.Attribute o m apos) (e::es) [] pos) X.env=(do
  let ov<- eval o X.env
  standAt apos.atName
  let (f,first)<- holding [ov] (getMethod ov m pl)
  callWith pos f first (backTo pos (starEach (e::es) X.env)) (backToKw pos (keywordEach [] X.env))):=by rfl):
 PE X (.Call (.Attribute o m apos) (e::es) [] pos) (b5e X C m sp ta t):=by
 obtain⟨f,fd,F,hm,hb⟩:=G.ex
 intro pins s σ H Q I h
 refine PySem.W.methodCall_KW (pl:=pl) (aU (he pins s σ H _ I h) fun u s1 ⟨x,H1,I1,rx,a,dx,fs,ex,ea,l,q⟩=> ?_) ht
 subst ex
 obtain rfl:u=Value.ref a:=rx
 refine zK I1 ea c hm l ?_
 refine PySem.W.callWith_K (first:=[.ref a]) (h₀:=X.base) I.ok.mod.kin hm.kp (aU (ha pos pins s1 σ H1 _ I1 q) fun us s2 ⟨vs,H2,I2,r,q2⟩=>⟨I2.kIn,?_⟩) hst hpl
 exact b52 (us:=.ref a::us) (vs:=.ref a::vs) hfn F hr hb I2 (.cons rfl r) q2
end
structure eQ(P:Program)(w:World)(K:Fg)(mg:Str->Option Value)(base:Heap)(k:Nat)(fa:Addr)(sp:Sp):Prop where
 fn:∀vs H Q E,sp vs H Q E->∃c d fd sl,H fa=some (Fz ⟨c,d,.func fd,sl⟩)
 run:∀(A:Around) (outer:List Env) (s:Shared) (H:Hp) (us:List Value) (vs:List V) (Q:VK) (E:XK),bV k A->jW P w K mg base A outer s H->bD vs us->sp vs H Q E->
  codeAny (model P w) A (.call (.ref fa) ⟨us,[]⟩) (CR aF outer P w H s Q E) s
theorem eQ.mono{P:Program}{w:World}{K:Fg}{mg:Str->Option Value}{base:Heap}{j k:Nat}{fa:Addr}{sp:Sp}(F:eQ P w K mg base j fa sp)(h:j<=k):eQ P w K mg base k fa sp:=
 ⟨F.fn,fun A outer s H us vs Q E hr=>F.run A outer s H us vs Q E (hr.mono h)⟩
theorem eQ.imp{P:Program}{w:World}{K:Fg}{mg:Str->Option Value}{base:Heap}{k:Nat}{fa:Addr}{sp sp':Sp}(F:eQ P w K mg base k fa sp)(h:∀vs H Q E,sp' vs H Q E->sp vs H Q E):eQ P w K mg base k fa sp':=
 ⟨fun vs H Q E z=>F.fn vs H Q E (h _ _ _ _ z),fun A outer s H us vs Q E hr e0 r z=>F.run A outer s H us vs Q E hr e0 r (h _ _ _ _ z)⟩
def b4h(P:Program)(w:World)(K:Fg)(mg:Str->Option Value)(base:Heap)(k:Nat)(i:Nat)(t:TA):TE:=fun σ H Q=>∃fa sp,σ[i]?=some (some (.ref fa))/\eQ P w K mg base k fa sp/\t σ H fun vs H1=>sp vs H1 Q E0
section
variable{X:Cx}{k:Nat}{x:Str}{p pos:Pos}{e:Expr}{es:List Expr}{t:TA}
theorem b4J(i:Nat)(hr:bV k X.A)(ha:PA X (e::es) t)(hN:X.N[i]?=some x:=by rfl)(hv:zJ X.env.scope x:=by first|exact Or.inl rfl|exact Or.inr (Or.inl rfl)|exact Or.inr (Or.inr rfl))(hd:(x==("__debug__":Str))=false:=by decide)
 (hcd:(x==("__classdict__":Str))=false:=by decide)(he:starEach (e::es) X.env=(false,eval e X.env)::starEach es X.env:=by rfl)(hpl:(backTo pos (starEach es X.env)).any (·.1)=false:=by rfl):
 PE X (.Call (.Name x p) (e::es) [] pos) (b4h X.prog X.w X.K X.mg X.base k i t):=by
 intro pins s σ H Q I h
 obtain⟨fa,sp,e1,F,h⟩:=h
 refine wpAny_Call_Name_kw (aU (b1X hN hv hd hcd pins s σ H (fun v H1=>v= .ref fa/\H1=H) I ⟨_,e1,rfl,rfl⟩) fun u s1 ⟨v,H1,I1,rv,q⟩=> ?_)
 obtain⟨rfl,rfl⟩:=q
 obtain rfl:u=Value.ref fa:=rv
 show wpAny _ _ (callWith pos (.ref fa) [] (backTo pos (starEach (e::es) X.env)) []) _ _ _
 rw[he]
 refine PySem.W.callWith_of (P:=fun h=>∃c d fd sl,h.get? fa=some ⟨c,d,.func fd,sl⟩) (by show((false||(backTo pos (starEach es X.env)).any (·.1))||false)=false;rw[hpl];rfl)
  (fun h ⟨c,d,fd,sl,z⟩=>⟨.frame,.inl rfl,(PySem.W.Looks.ld (part:=none) z).andThen .now⟩) (PySem.Calls.evalArgs_plain ?_)
 have ha':=ha pos pins s1 σ H1 _ I1 h
 rw[he]at ha'
 refine aU ha' fun us s2 ⟨vs,H2,I2,r,q2⟩=> ?_
 obtain⟨c,d,fd,sl,z⟩:=F.fn _ _ _ _ q2
 refine⟨⟨c,d,fd,sl,kX I2.hok z⟩,?_⟩
 refine wpAny_call (codeAny_mono (F.run X.A X.stack s2 H2 us vs Q E0 hr I2.env0 r q2) fun r s' hq=> ?_)
 cases r with
 |error e=>exact False.elim hq
 |ok fl=>
  cases fl with
  |ret u=>exact I2.after hq
  |next=>exact False.elim hq
  |brk=>exact False.elim hq
  |cont=>exact False.elim hq
end
theorem b02{α:Type}{x:Str}{u:α}:∀{l:List (Str×α)},(l.map (·.1)).Nodup->(x,u)∈l->l.lookup x=some u
 |(y,v)::r,nd,h=>by
  rw[List.map_cons,List.nodup_cons]at nd
  rw[List.lookup_cons]
  rcases List.mem_cons.mp h with e|h2
  ·cases e;rw[beq_self_eq_true]
  ·have:(x==y)=false:=by
    cases z:x==y with
    |false=>rfl
    |true=>
     have:x=y:=by simpa using z
     subst this
     exact absurd (show x∈r.map (·.1) from List.mem_map.mpr ⟨(x,u),h2,rfl⟩) nd.1
   rw[this]
   exact b02 nd.2 h2
theorem b2q{ps:List Str}{us:List Value}{i:Nat}{x:Str}{u:Value}(nd:ps.Nodup)(hl:us.length=ps.length)(h1:ps[i]?=some x)(h2:us[i]?=some u):(ps.zip us).reverse.lookup x=some u:=by
 refine b02 ?_ ?_
 ·rw[List.map_reverse]
  refine List.pairwise_reverse.mpr ?_
  rw[List.map_fst_zip (by omega)]
  exact nd.imp Ne.symm
 ·rw[List.mem_reverse]
  have:(ps.zip us)[i]?=some (x,u):=by rw[List.getElem?_zip_eq_some];exact⟨h1,h2⟩
  exact List.mem_of_getElem? this
noncomputable def xI (P:Program) (w:World) (K:Fg) (mg:Str->Option Value) (base:Heap) (N:List Str) (q:Str) (scope:Scope) (fa:Addr) (cd:Value) (clos:List (Str×Addr)) (A:Around) (outer:List Env) (s:Shared) (H:Hp):Cx where
 prog:=P
 w:=w
 K:=K
 mg:=mg
 base:=base
 A:=A.deeper (PySem.W.envX q scope s.heap.objs.size fa cd clos)
 N:=N
 s₀:=s
 H₀:=H
 env:=PySem.W.envX q scope s.heap.objs.size fa cd clos
 outer:=outer
 stack:=PySem.W.envX q scope s.heap.objs.size fa cd clos::outer
 ex:=[]
 calm:=true
 fn:=fun _=>false
 pn:=[]
 xe:=fun _ _=>False
def oU(fa:Addr)(f:eC)(q:Str)(params:Arguments)(body:Expr)(scope:Scope)(clos:List (Str×Addr))(n:Nat)(spB:List V->Hp->VK->Prop):Sp:=fun vs H Q _=>
 vs.length=n/\gK q params body scope clos H fa/\(∀b o,f b=some o->H b=some (Fz o))/\spB vs (unl f H) fun v H'=>(∀b o,f b=some o->H' b=none)->Q v (cW f H')
theorem b3B{X:Cx}{σ:St}{H₁:Hp}{f:eC}{q:Str}{params:Arguments}{body:Expr}{scope:Scope}{fa:Addr}{ps:List Str}{cp:List (Nat×Str)}{cv:List V}{k:Nat}{spB:List V->Hp->VK->Prop}(L:Lent X σ H₁ f)
 (hcell:∀x,X.env.scope.names.lookup x=some .cell->∃c,X.env.cells.lookup x=some c)
 (hcv:cp.map (fun p=>σ[p.1]?)=cv.map fun v=>some (some v))
 (hcp:∀p∈cp,X.N[p.1]?=some p.2/\X.env.scope.names.lookup p.2=some .cell/\scope.names.lookup p.2=some .free)
 (free:∀y∈scope.names,y.2= .free->X.env.scope.names.lookup y.1=some .cell)
 (kind:scope.kind= .function)(co:scope.isCoroutine=false)(gen:scope.isGenerator=false)(nocell:∀y∈scope.names,y.2≠ .cell)(par:∀x∈ps,scope.names.lookup x=some .local)(nd:(ps++ cp.map (·.2)).Nodup)
 (hb:∀(pm ctv:Value) (c:Addr) (clos:List (Str×Addr)) (us:List Value),us.length=ps.length->bindArgs (PySem.W.kla_fn "<lambda>" q params body scope clos pm (.ref c) ctv) ⟨us,[]⟩=pure (ps.zip us))
 (hbody:∀(cd:Value) (A:Around) (outer:List Env) (s:Shared) (H:Hp) (vs:List V) (Q:VK),bV k (A.deeper (PySem.W.envX q scope s.heap.objs.size fa cd (fU X.env.cells scope.names [])))->spB vs H Q->
  ∃t,PE (xI X.prog X.w X.K X.mg X.base (ps++ cp.map (·.2)) q scope fa cd (fU X.env.cells scope.names []) A outer s H) body t/\t ((vs++ cv).map some) H Q):
 eQ X.prog X.w X.K X.mg X.base (k+ 1) fa (oU fa f q params body scope (fU X.env.cells scope.names []) ps.length spB):=by
 have sub:=a8f (cells:=X.env.cells) (names:=scope.names) (acc:=[]) (fun y hy e=>hcell _ (free y hy e)) (fun x c e=>by cases e)
 refine⟨fun vs H Q E ⟨_,⟨pm,c,ctv,o,e1,_⟩,_⟩=>⟨_,_,_,_,e1⟩,fun A outer s H us vs Q E hr e0 r ⟨hl,⟨pm,c,ctv,o,e1,e2,ws,tq,e3,e4⟩,hf,hsp⟩=> ?_⟩
 have hus:us.length=ps.length:=by rw[<- r.length];exact hl
 have hcd:s.heap.CodeRec (.ref c) q:=⟨c,o,ws,tq,rfl,kX e0.hok e2,e3,e4⟩
 have lim:s.heap.NoLimit:=e0.mod.nolimit.keeps fun b o e=>(e0.bs b o e).1
 refine PySem.W.kla_callFunE hr.depth (kX e0.hok e1) rfl co gen rfl hcd ?_
 rw[hb pm ctv c _ us hus]
 refine wpAny_pure (wpAny_newFunctionEnv nocell (fun y hy=>par y.1 (List.of_mem_zip hy).1) (fun h₁ hns hsb=>⟨lim.fresh _ hsb,?_⟩) kind)
 show codeAny _ _ (.expr body (PySem.W.envX q scope s.heap.objs.size fa (.ref c) (fU X.env.cells scope.names []))) _ _
 have hk:∀b o,s.heap.get? b=some o->h₁.get? b=some o:=fun b o e=>hsb.extBut b o (Nat.ne_of_lt (Heap.lt_size e)) (Heap.get?_push_of_some _ e)
 obtain⟨t,ht,hq⟩:=hbody (.ref c) A outer s (unl f H) vs _ (hr.deeper _) hsp
 have hok':cC X.prog X.w (unl f H) s.heap:=a9W e0.hok hf
 have hl2:(vs++ cv).length=(ps++ cp.map (·.2)).length:=by
  rw[List.length_append,List.length_append,List.length_map,hl]
  have:=congrArg List.length hcv
  rw[List.length_map,List.length_map]at this
  omega
 have cl:∀x c,(fU X.env.cells scope.names []).lookup x=some c->∃o v,f c=some o/\o.data= .cell v/\h₁.get? c=some o:=fun x c e=>by
  obtain⟨o,v,h1,h2⟩:=L.cell x c (sub x c e)
  exact⟨o,v,h1,h2,hk _ _ (kX e0.hok (hf c o h1))⟩
 have unN:∀b,H b=none->unl f H b=none:=fun b z=>by
  cases e:f b with
  |none=>rw[dI e];exact z
  |some o=>exact kJ e
 have I:aD (xI X.prog X.w X.K X.mg X.base (ps++ cp.map (·.2)) q scope fa (.ref c) (fU X.env.cells scope.names []) A outer s (unl f H)) [] ((vs++ cv).map some) (unl f H) {s with heap:=h₁,toks:=s.toks+ (ps.zip us).length}:=by
  have noA:∀b:Addr,b∉(xI X.prog X.w X.K X.mg X.base (ps++ cp.map (·.2)) q scope fa (.ref c) (fU X.env.cells scope.names []) A outer s (unl f H)).ex:=fun b z=>absurd (show b∈([]:List Addr) from z) (by simp)
  refine⟨⟨e0.mod,kind,rfl,rfl,Nat.le_refl _,fun y z c h1 h2=>L.inj y z c (sub _ _ h1) (sub _ _ h2),fun y hy=> ?_,(fun y c z _=>by cases z),fun _=>hr.hd,Around.frames_deeper e0.frames,.inr ⟨rfl,rfl⟩,fun b z=>absurd z (noA b),fun b o z=>⟨(e0.bs b o z).1,unN b (e0.bs b o z).2⟩,e0.bsz,fun b _ _=>noA b,fun b z=>absurd z (noA b),e0.funs,fun b z=>unN b (e0.frf b z)⟩,
   rfl,e0.bare,Un.kept hk,⟨_,hns,fun i y v h1 h2 h3=> ?_⟩,fun y c h=> ?_,hok'.fresh (Nat.le_refl _),fun y c h=> ?_,fun p hp=>absurd (show p∈([]:List (Addr×Obj)) from hp) (by simp),hok'.kept hk,by rw[List.length_map];exact hl2⟩
  ·have hy':scope.names.lookup y=some .cell\/ scope.names.lookup y=some .free:=hy
   rcases hy' with hy'|hy'
   ·exact absurd rfl (nocell _ (PySem.mem_of_lookup hy'))
   ·exact rQ (PySem.mem_of_lookup hy')
  ·rw[List.getElem?_map]at h2
   have h2':(vs++ cv)[i]?=some v:=by
    cases z:(vs++ cv)[i]? with
    |none=>rw[z]at h2;cases h2
    |some v'=>rw[z]at h2;cases h2;rfl
   by_cases hi:i<ps.length
   ·have h1':ps[i]?=some y:=by
     have:(ps++ cp.map (·.2))[i]?=some y:=h1
     rw[List.getElem?_append_left hi]at this
     exact this
    rw[List.getElem?_append_left (by omega)]at h2'
    obtain⟨u,hu,ru⟩:=r.get h2'
    exact⟨u,ru,.inl ⟨par y (List.mem_of_getElem? h1'),b2q (List.nodup_append.mp nd).1 hus h1' hu⟩⟩
   ·have h1':(cp.map (·.2))[i- ps.length]?=some y:=by
     have:(ps++ cp.map (·.2))[i]?=some y:=h1
     rw[List.getElem?_append_right (by omega)]at this
     exact this
    rw[List.getElem?_append_right (by omega),hl]at h2'
    rw[List.getElem?_map]at h1'
    cases hp:cp[i- ps.length]? with
    |none=>rw[hp]at h1';cases h1'
    |some p=>
     rw[hp]at h1'
     cases h1'
     have h4:σ[p.1]?=some (some v):=by
      have:=congrArg (fun l=>l[i- ps.length]?) hcv
      simp only[List.getElem?_map,hp,h2',Option.map_some]at this
      exact Option.some.inj this
     obtain⟨g1,g2,g3⟩:=hcp p (List.mem_of_getElem? hp)
     obtain⟨c',o',u,k1,k2,k3,k4⟩:=L.val p.1 p.2 v g1 h4 g2
     obtain⟨c2,k5⟩:=rQ (cells:=X.env.cells) (acc:=[]) (PySem.mem_of_lookup g3)
     have k6:=sub _ _ k5
     rw[k1]at k6
     cases k6
     exact⟨u,k4,.inr ⟨.inr g3,c',k5,o',hk _ _ (kX e0.hok (hf c' o' k2)),k3⟩⟩
  ·obtain⟨o,v,_,z1,z2⟩:=cl y c h
   exact⟨v,o,z2,z1⟩
  ·obtain⟨o,v,z,_⟩:=cl y c h
   exact kJ z
 refine PySem.W.kla_codeExpr (wpAny_mono (ht [] _ _ _ _ I hq) (fun u s' ⟨v,H',J,rv,qv⟩=> ?_) fun e s' hs=>False.elim hs)
 obtain⟨u1,u2⟩:=b29 hf e0.hok e0.frf (show Un (fZ outer) [] (unl f H) H' s.heap s'.heap from J.base) J.hok
 exact⟨v,cW f H',J.os,J.bare,u1,u2,rv,qv fun b o e=>J.base.free b o (kX e0.hok (hf b o e)) (kJ e) (by simp[xI])⟩
abbrev sO(tabs:List (Addr×Addr))(H:Hp):Prop:=∀z∈tabs,H z.2=some (eN z.2 [])
abbrev lJ(tabs:List (Addr×Addr))(H:Hp):Prop:=∀z∈tabs,∃S,H z.2=some (eN z.2 S)
theorem b2V{P:Program}{w:World}{K:Fg}{mg mb:Str->Option Value}{CX:fG}{k:Nat}{fa a:Addr}{fd:FuncData}{x:Str}{sp:Sp}{s₁:Shared}{vs:List Value}{ns:List Int}{tabs:List (Addr×Addr)}
 (KX:K.In s₁.heap)(hns:s₁.heap.Ns mainGlobals mg)(hb:s₁.heap.Ns builtinsNs mb)(hbb:∀x:Str,x≠ "__name__" ->mb x=bootBuiltins x)(hlim:s₁.heap.NoLimit)(hg:s₁.gens= #[])
 (ha:s₁.heap.get? a=some {cls:=.type "list",data:=.seq vs.toArray})(hi:IntsAre vs ns)(hl:ns.length<=sizeLine)(hr:bV k callerA)
 (hT:∀z∈tabs,PySem.W.CodeHd s₁.heap z.1 z.2/\s₁.heap.get? z.2=some (PySem.W.tabObj #[])/\K.lookup z.2=none)
 (hbm:∃bm ob,mg "__builtins__"=some (.ref bm)/\bm≠builtinsNs/\s₁.heap.get? bm=some ob/\ob.cls= .type "module" /\ob.dict=some builtinsNs/\ob.data= .plain)
 (F:∀base:Heap,K.In base->base.Ns mainGlobals mg->(∀z∈tabs,gH mg base z.1 z.2)->fJ P w K mg base CX k fa fd [x] sp)(hbind:∀(s:Shared) (u:Value),BindsTo s fd ⟨[u],[]⟩ [(x,u)])
 (hsp:∀H:Hp,sO tabs H->aN K H a (ns.map V.int)->sp [.ref a] H (fun v H'=>v= .bl true/\lJ tabs H') fun _ _ _=>False)
 (hCX:∀H e s',CX [] H s₁ (fun _ _ _=>False) e s'->False):
 codeAny (model P w) callerA (.call (.ref fa) ⟨[.ref a],[]⟩) (fun r s'=>r= .ok (.ret (.bool true))/\OldK s₁.heap s'.heap/\s'.os=s₁.os/\AllBare s'.gens) s₁:=by
 have rv:=b0T hi
 have lenV:=hi.length
 have neT:∀z∈tabs,z.2≠a:=fun z hz e=>by
  have e1:=(hT z hz).2.1
  rw[e,ha]at e1
  cases e1
 have core:∀H:Hp,sO tabs H->(∀b,H b=none\/ (b=a/\K.lookup a=none/\∃o xs,H b=some (.frz o (.lst xs)))\/ ∃z∈tabs,b=z.2)->aN K H a (ns.map V.int)->cC P w H s₁.heap->
  codeAny (model P w) callerA (.call (.ref fa) ⟨[.ref a],[]⟩) (fun r s'=>r= .ok (.ret (.bool true))/\OldK s₁.heap s'.heap/\s'.os=s₁.os/\AllBare s'.gens) s₁:=by
  intro H hTb hO hS hok
  have base_of:∀{b:Addr} {o:Obj},s₁.heap.get? b=some o->H b=none->(kW s₁.heap H).get? b=some o:=fun e n=>b64 e n
  have free:∀{b:Addr} {o:Obj},s₁.heap.get? b=some o->o≠{cls:=.type "list",data:=.seq vs.toArray} ->o≠PySem.W.tabObj #[] ->H b=none:=fun{b o} e n1 n2=>by
   rcases hO b with z|⟨rfl,_,_⟩|⟨z,hz,rfl⟩
   ·exact z
   ·rw[ha]at e;exact absurd (Option.some.inj e).symm n1
   ·rw[(hT z hz).2.1]at e;exact absurd (Option.some.inj e).symm n2
  have noA:∀{b:Addr} {o:Obj} {es:Array DictEntry} {ep:Nat},s₁.heap.get? b=some o->o.data= .dict es ep->H b=none:=fun{b o es ep} e d=>
   free e (fun z=>by rw[z]at d;cases d) (fun z=>by rw[z]at d;cases d)
  have nsK:∀{b:Addr} {m:Str->Option Value},s₁.heap.Ns b m->(kW s₁.heap H).Ns b m:=fun{b m} ⟨o,es,ep,e,d,r⟩=>⟨o,es,ep,base_of e (noA e d),d,r⟩
  have hKb:K.In (kW s₁.heap H):=fun b o e=>base_of (KX b o e) (by
   rcases hO b with z|⟨rfl,z,_⟩|⟨z,hz,rfl⟩
   ·exact z
   ·rw[z]at e;cases e
   ·rw[(hT z hz).2.2]at e;cases e)
  have hM:Mod K mg (kW s₁.heap H):=⟨hKb,nsK hns,⟨mb,nsK hb,hbb⟩,let ⟨mc,h1,h2⟩:=hlim;⟨mc,nsK h1,h2⟩⟩
  have e0:jW P w K mg (kW s₁.heap H) callerA [] s₁ H:=⟨rfl,hM,fun b o e=>b6o e,Nat.le_of_eq (b4Z _ _),trivial,fun b hb=>absurd (show b∈([]:List Addr) from hb) (by simp),hok,.of_eq hg⟩
  have hMk:∀z∈tabs,gH mg (kW s₁.heap H) z.1 z.2:=fun z hz=>by
   obtain⟨⟨o,ws,file,tf,flags,tg,inF,text,tt,e1,e2,r⟩,e3,_⟩:=hT z hz
   obtain⟨bm,ob,b1,b2,b3,b4,b5,b6⟩:=hbm
   refine⟨⟨o,ws,file,tf,flags,tg,inF,text,tt,base_of e1 (free e1 (fun q=>by rw[q]at e2;exact absurd (Value.type.inj e2) (by decide)) (fun q=>by rw[q]at e2;cases e2)),e2,r⟩,bm,ob,b1,b2,fun q=> ?_,fun q=> ?_,base_of b3 (free b3 (fun q=>by rw[q]at b4;exact absurd (Value.type.inj b4) (by decide)) (fun q=>by rw[q]at b4;cases b4)),b4,b5,b6⟩
   ·obtain⟨o',es,ep,e',d',_⟩:=hns
    rw[q,e']at b3;cases b3;rw[d']at b6;cases b6
   ·rw[q,e3]at b3;cases b3;cases b4
  refine codeAny_mono ((F _ hKb (nsK hns) hMk).run callerA [] s₁ H ⟨[.ref a],[]⟩ [.ref a] [.ref a] _ _ hr e0 (hbind s₁ (.ref a)) (.cons rfl .nil) (hsp H hTb hS)) fun r s' h=> ?_
  cases r with
  |error e=>exact(hCX H e s' h).elim
  |ok fl=>
   cases fl with
   |next=>exact False.elim h
   |brk=>exact False.elim h
   |cont=>exact False.elim h
   |ret u=>
    obtain⟨v,H',os,bare,un,hok',r',q⟩:=h
    obtain⟨q',hT'⟩:v= .bl true/\lJ tabs H':=q
    subst q'
    obtain rfl:u=Value.bool true:=r'
    refine⟨rfl,⟨fun b o e=> ?_,fun b o e=>un.there b o e (by simp)⟩,os,bare⟩
    rcases hO b with z|⟨rfl,_,ob,xs,z⟩|⟨z,hz,rfl⟩
    ·exact .inl (un.keep b o e z (by intro z;exact absurd (show b∈([]:List Addr) from z) (by simp)) (by simp))
    ·have z2:=un.frzs b ob _ z
     obtain⟨e1,_⟩:=hok b _ z
     obtain⟨e2,_⟩:=hok' b _ z2
     rw[e]at e1;cases e1
     exact .inl e2
    ·obtain⟨S4,z4⟩:=hT' z hz
     obtain⟨⟨ps,e4,_⟩,_⟩:=hok' z.2 _ z4
     have e3:=(hT z hz).2.1
     rw[e3]at e
     cases e
     exact .inr (.inl ⟨((hT z hz).1.tab e3).isCodeTable,rfl,#[],ps,rfl,by rw[e4,Array.empty_append]⟩)
 have hTok:∀(H:Hp) (z:Addr×Addr),z∈tabs->cY P w H s₁.heap z.2 (eN z.2 []):=fun H z hz=>b1n (hT z hz).2.1 trivial fun pos cv e=>by cases e
 classical
 let Ht:Hp:=fun b=>if b∈tabs.map (·.2) then some (eN b []) else none
 have hHt:sO tabs Ht:=fun z hz=>if_pos (List.mem_map_of_mem hz)
 have ofHt:∀b u,Ht b=some u->∃z∈tabs,b=z.2/\u=eN z.2 []:=fun b u e=>by
  by_cases hb:b∈tabs.map (·.2)
  ·have e':=(if_pos hb).symm.trans e
   obtain⟨z,hz,rfl⟩:=List.mem_map.mp hb
   exact⟨z,hz,rfl,(Option.some.inj e').symm⟩
  ·have e':=(if_neg hb).symm.trans e
   cases e'
 cases hk:K.lookup a with
 |some o=>
  have e:=KX a o hk
  rw[ha]at e
  cases e
  refine core Ht hHt (fun b=> ?_) (.inr ⟨_,vs.toArray,_,hk,rfl,rfl,rfl,by rw[List.size_toArray,lenV];exact hl,by simpa using rv⟩) (fun b u z=> ?_)
  ·cases q:Ht b with
   |none=>exact .inl rfl
   |some u=>obtain⟨z,hz,e,_⟩:=ofHt b u q;exact .inr (.inr ⟨z,hz,e⟩)
  ·obtain⟨y,hy,rfl,rfl⟩:=ofHt b u z
   exact hTok _ y hy
 |none=>
  refine core (fun b=>if b=a then some (.frz {cls:=.type "list",data:=.seq vs.toArray} (.lst (ns.map V.int))) else Ht b) (fun z hz=> ?_) (fun b=> ?_) (.inl (.inr ⟨{cls:=.type "list",data:=.seq vs.toArray},if_pos rfl⟩)) (fun b u z=> ?_)
  ·exact(if_neg (neT z hz)).trans (hHt z hz)
  ·by_cases hb:b=a
   ·exact .inr (.inl ⟨hb,hk,_,_,if_pos hb⟩)
   ·cases q:Ht b with
    |none=>exact .inl (if_neg hb)
    |some u=>obtain⟨z,hz,e,_⟩:=ofHt b u q;exact .inr (.inr ⟨z,hz,e⟩)
  ·by_cases hb:b=a
   ·have z':=(if_pos hb).symm.trans z
    cases z'
    subst hb
    exact⟨ha,by rw[List.length_map];exact hl,vs,_,rv,ha⟩
   ·have z':=(if_neg hb).symm.trans z
    obtain⟨y,hy,rfl,rfl⟩:=ofHt b u z'
    exact hTok _ y hy
def b67(P:Program)(w:World)(K:Fg)(mg:Str->Option Value)(base:Heap)(k:Nat)(m:Str)(ta:TE)(t:TA):TE:=fun σ H Q=>ta σ H fun x H1=>∃a C dx fs fa sp,x= .ref a/\H1 a=some (.ins C dx fs)/\dJ K C/\cH K C m/\fs.lookup m=some (.ref fa)/\eQ P w K mg base k fa sp/\t σ H1 fun vs H2=>sp vs H2 Q E0
section
variable{X:Cx}{k:Nat}{m:Str}{p pos apos:Pos}{e o:Expr}{es:List Expr}{ta:TE}{t:TA}
theorem b6u{pl:Sem Bool}(he:PE X o ta)(hr:bV k X.A)(ha:PA X (e::es) t)
 (hst:starEach (e::es) X.env=(false,eval e X.env)::starEach es X.env:=by rfl)(hpl:(backTo pos (starEach es X.env)).any (·.1)=false:=by rfl)
 (ht:eval (.Call (.Attribute o m apos) (e::es) [] pos) X.env=(do
  let ov<- eval o X.env
  standAt apos.atName
  let (f,first)<- holding [ov] (getMethod ov m pl)
  callWith pos f first (backTo pos (starEach (e::es) X.env)) (backToKw pos (keywordEach [] X.env))):=by rfl):
 PE X (.Call (.Attribute o m apos) (e::es) [] pos) (b67 X.prog X.w X.K X.mg X.base k m ta t):=by
 intro pins s σ H Q I h
 refine PySem.W.methodCall_KW (pl:=pl) (aU (he pins s σ H _ I h) fun u s1 ⟨x,H1,I1,rx,a,C,dx,fs,fa,sp,ex,ea,c,n,l,F,q⟩=> ?_) ht
 subst ex
 obtain rfl:u=Value.ref a:=rx
 obtain⟨mA,O,_,_,_,_⟩:=uD I1.hok ea
 obtain⟨od,J,_⟩:=O.look
 refine PySem.W.method_usual (r:=none) I1.kIn J (PySem.W.plainGet_of (c.get m)).1 (PySem.W.plainGet_of (c.get m)).2 n rfl ?_
 refine b05 I1 ea c n l fun u2 s2 I2 ru=> ?_
 obtain rfl:u2=Value.ref fa:=ru
 show wpAny _ _ (callWith pos (.ref fa) [] (backTo pos (starEach (e::es) X.env)) []) _ _ _
 rw[hst]
 refine PySem.W.callWith_of (P:=fun h=>∃c d fd sl,h.get? fa=some ⟨c,d,.func fd,sl⟩) (by show((false||(backTo pos (starEach es X.env)).any (·.1))||false)=false;rw[hpl];rfl)
  (fun h ⟨c,d,fd,sl,z⟩=>⟨.frame,.inl rfl,(PySem.W.Looks.ld (part:=none) z).andThen .now⟩) (PySem.Calls.evalArgs_plain ?_)
 have ha':=ha pos pins s2 σ H1 _ I2 q
 rw[hst]at ha'
 refine aU ha' fun us s3 ⟨vs,H2,I3,r,q2⟩=> ?_
 obtain⟨c,d,fd,sl,z⟩:=F.fn _ _ _ _ q2
 refine⟨⟨c,d,fd,sl,kX I3.hok z⟩,?_⟩
 refine wpAny_call (codeAny_mono (F.run X.A X.stack s3 H2 us vs Q E0 hr I3.env0 r q2) fun r s' hq=> ?_)
 cases r with
 |error e=>exact False.elim hq
 |ok fl=>
  cases fl with
  |ret u=>exact I3.after hq
  |next=>exact False.elim hq
  |brk=>exact False.elim hq
  |cont=>exact False.elim hq
end
structure b3P where
 nx:St->Hp->Prop
 rt:V->St->Hp->Prop
abbrev TSR:=b3P->St->Hp->Prop
structure jM(X:Cx)(e:Expr)(t:TE):Prop where
 run:PE X e t
structure pZ(X:Cx)(es:List Expr)(t:TA):Prop where
 run:PA X es t
structure PTw(X:Cx)(e:Expr)(t:TT):Prop where
 run:PT X e t
structure zZ(X:Cx)(st:Stmt)(t:TS):Prop where
 run:PS X st t
structure zP(X:Cx)(st:List Stmt)(t:TS):Prop where
 run:dQ X st t
section
variable{X:Cx}{es:List Expr}{te:TE}{t u:TA}
theorem mK:pZ X [] qB:=⟨aG⟩
theorem nM{elts:List Expr}{pos:Pos}(ha:jM X (.List elts pos) te)(hr:pZ X es t):pZ X (.List elts pos::es) (a4S te t):=⟨aB ha.run hr.run rfl⟩
theorem iO{c:Const}{k:Nat}{pos:Pos}(ha:jM X (.Constant c k pos) te)(hr:pZ X es t):pZ X (.Constant c k pos::es) (a4S te t):=⟨aB ha.run hr.run rfl⟩
theorem mW{pos:Pos}(h:pZ X es t):jM X (.List es pos) (tLst t):=⟨eO h.run⟩
theorem gE{x j}{pos:Pos}:jM X (.Constant (.str x) j pos) (tC (.str x)):=⟨dW⟩
end
section
variable{X:Cx}{st:Stmt}{dY:List Stmt}{t u:TS}{pos:Pos}
theorem b17{i:Nat}{x:Str}{e:Expr}{te:TE}{pos':Pos}(hN:X.N.Nodup)(hi:X.N[i]?=some x)(hx:xB X.env.scope x)(he:jM X e te)(hs:swapsWith e (some (.Name x pos')) pos.line X.env=pure false:=by rfl)(hf:X.fn x=true\/ X.env.scope.names.lookup x=some .local:=by first|exact .inl rfl|exact .inr rfl|assumption):
 zZ X (.Assign [.Name x pos'] e pos) (xZ te (wX i)):=⟨bN hN hi hx he.run hs hf⟩
theorem a0o(h1:zZ X st t)(h2:zP X dY u):zP X (st::dY) (tSeq t u):=⟨aK h1.run h2.run⟩
end
theorem b7O:typeLookup (.type "list_reverseiterator") "__len__"=pure none:=by rw[typeLookup_type,builtinLookup_eq_fast];kernel_rfl
theorem b30:typeLookup (.type "list_reverseiterator") "__length_hint__"=pure (some (.builtin "list_reverseiterator.__length_hint__")):=by rw[typeLookup_type,builtinLookup_eq_fast];kernel_rfl
section
variable{prog:Program}{w:World}{A:Around}{s:Shared}
theorem b5D{E:Value->Shared->Prop}{r:Addr}{Q:Bool->Shared->Prop}(hT:s.TypeIs (.ref r) "list_reverseiterator")(h:Q false s):wpAny (model prog w) A (Builtin.List.listLengthHint (.ref r)) Q E s:=by
 unfold Builtin.List.listLengthHint
 refine wpAny_bind (wpAny_specialOf hT b7O ?_)
 show wpAny _ A (specialOf (Value.ref r) (Str.ofString "__length_hint__")>>=_) _ _ _
 refine wpAny_bind (wpAny_specialOf hT b30 ?_)
 generalize hid:("list_reverseiterator.__length_hint__":String)=id0
 wp_delta
 rw[show splitId id0=some ("list_reverseiterator","__length_hint__") from by subst hid;decide+kernel]
 subst hid
 refine wpAny_bind (wpAny_isInstance (b:=true) hT (by rw[isSubtype_type];kernel_rfl) ?_)
 exact wpAny_pure h
theorem b2B{R:Result->Shared->Prop}(hh:A.handled=none){I l S:Addr}{items:Array Value}(hne:l≠I)(hit:s.heap.IsRevIter I l ((items.size:Int)- 1))(hl:s.heap.IsList l items)(hSI:S≠I)(hSl:S≠l)
 (hS:s.heap.get? S=some {cls:=.type "list",data:=.seq #[]})(hn:items.size<=sizeLine)
 (hR:∀h' tk acc' c',(∀b o,b≠S->b≠I->s.heap.get? b=some o->h'.get? b=some o)->h'.get? S=some {cls:=.type "list",dict:=none,data:=.seq acc' c',slots:= #[]} ->ItemsOf (fun i v=>items[items.size- 1- i]?=some v) acc' items.size->R (.ok (.ret .none)) {s with heap:=h',toks:=tk}):
 wpAny (model prog w) A.in1 (Builtin.«list.__init__» ⟨[.ref S,.ref I],[]⟩)
  (fun fin s'=>match fin with| .done f=>R (.ok f) s'| .again c'=>c'.quiet=true/\codeAny (model prog w) A c' R s') (fun e s'=>R (.error e) s') s:=by
 have W:=Walks.listRev (prog:=prog) (w:=w) (A:=A.in1) hh I l hne items
 have hSf:S∉ [I,l]:=by simp only[List.mem_cons,List.not_mem_nil,or_false,not_or];exact⟨hSI,hSl⟩
 have e0:(items.size:Int)- 1- ((0:Nat):Int)=(items.size:Int)- 1:=by omega
 show wpAny _ A.in1 (do let old<- Builtin.List.listItems (.ref S);Builtin.List.listUpdate (.ref S) (fun _=> #[]);letGo old.toList.reverse;Builtin.List.listExtendWith (.ref S) (.ref I) .none) _ _ s
 refine wpAny_bind ?_
 unfold Builtin.List.listItems
 refine wpAny_bind (wpAny_seqItems hS rfl (wpAny_pure ?_))
 show wpAny _ A.in1 (updateSeq S (fun _=> #[])>>=fun _=>letGo (#[]:Array Value).toList.reverse>>=fun _=>Builtin.List.listExtendWith (.ref S) (.ref I) .none) _ _ s
 refine wpAny_bind (wpAny_updateSeq hS rfl ?_)
 have hS₂:=Heap.get?_update_self (Obj.mapSeq (fun _=>(#[]:Array Value))) hS rfl
 have oth:∀b o,b≠S->s.heap.get? b=some o->(s.heap.update S (Obj.mapSeq (fun _=>(#[]:Array Value)))).get? b=some o:=
  fun b o hb e=>(Heap.get?_update_other _ _ (Ne.symm hb)).trans e
 refine wpAny_bind (wpAny_letGo ?_)
 have hit2:=hit.at (h':=s.heap.update S (Obj.mapSeq (fun _=>(#[]:Array Value)))) fun o e=>oth I o hSI.symm e
 have hl2:=hl.at (h':=s.heap.update S (Obj.mapSeq (fun _=>(#[]:Array Value)))) fun o e=>oth l o hSl.symm e
 unfold Builtin.List.listExtendWith
 refine wpAny_bind (wpAny_typeOf hit2.typeIs ?_)
 have h1:Builtin.List.listSameRef (.ref S) (.ref I)=false:=by simp[Builtin.List.listSameRef,hSI]
 have h2:(Value.type "list_reverseiterator"==Value.type "list")=false:=by decide
 have h3:(Value.type "list_reverseiterator"==Value.type "tuple")=false:=by decide
 simp only[h1,h2,h3,Bool.or_false,Bool.false_eq_true,if_false]
 refine wpAny_bind (wpAny_pyIter_revIter hit2 ?_)
 refine wpAny_bind (wpAny_holding (b5D hit2.typeIs ?_))
 rw[if_neg (by decide)]
 refine wpAny_pure ⟨plainId_quiet F.plain_extend_loop _,codeAny_extend_loopS W.toS hn S hSf .none items.size 0 _ #[] _ rfl (Nat.zero_le _) ⟨Nat.zero_le _,by rw[e0];exact hit2,hl2⟩ hS₂ (ItemsOf.nil _) fun s' acc' c' hm hS' hacc=> ?_⟩
 rw[Moved.eq_with hm]
 refine hR s'.heap s'.toks acc' c' (fun b o hb hbI e=>hm.heap b o (fun hmem=> ?_) (oth b o hb e)) hS' hacc
 rcases List.mem_cons.mp hmem with e'|hmem
 ·exact hb e'
 ·exact hbI (List.mem_singleton.mp hmem)
theorem b33{E:Value->Shared->Prop}{Q:Value->Shared->Prop}(hh:A.handled=none){I l:Addr}{items:Array Value}(hne:l≠I)(hit:s.heap.IsRevIter I l ((items.size:Int)- 1))(hl:s.heap.IsList l items)(hn:items.size<=sizeLine)
 (hQ:∀h' tk acc' c',(∀b o,b≠I->s.heap.get? b=some o->h'.get? b=some o)->h'.get? s.heap.objs.size=some {cls:=.type "list",dict:=none,data:=.seq acc' c',slots:= #[]} ->ItemsOf (fun i v=>items[items.size- 1- i]?=some v) acc' items.size->Q (.ref s.heap.objs.size) {s with heap:=h',toks:=tk}):
 wpAny (model prog w) A (call (.type "list") [.ref I]) Q E s:=by
 refine callType_codes (Q₁:=fun obj s₁=>obj= .ref s.heap.objs.size/\s₁={s with heap:=s.heap.push {cls:=.type "list",data:=.seq #[]}}) F.called_list (F.typeCall_list_1 _) F.entry_list_init
  (code_list_new _ ⟨rfl,rfl⟩) fun obj s₁ h₁=> ?_
 obtain⟨rfl,rfl⟩:=h₁
 have hS:(s.heap.push {cls:=.type "list",data:=.seq #[]}).get? s.heap.objs.size=some {cls:=.type "list",data:=.seq #[]}:=Heap.get?_push_size _ rfl
 have ltI:I<s.heap.objs.size:=let ⟨o,ho,_⟩:=hit;Heap.lt_size ho
 have ltl:l<s.heap.objs.size:=let ⟨o,ho,_⟩:=hl;Heap.lt_size ho
 refine⟨⟨_,hS,rfl⟩,F.args_list_init_2 _ _,b2B (A:=A.in1) hh hne (hit.at fun o e=>Heap.get?_push_of_some _ e) (hl.at fun o e=>Heap.get?_push_of_some _ e) (Nat.ne_of_gt ltI) (Nat.ne_of_gt ltl) hS hn fun h' tk acc' c' hk hS' hacc=> ?_⟩
 exact⟨rfl,hQ h' tk acc' c' (fun b o hb e=>hk b o (Nat.ne_of_lt (Heap.lt_size e)) hb (Heap.get?_push_of_some _ e)) hS' hacc⟩
end
def b3e(K:Fg)(te:TE):TE:=fun σ H Q=>te σ H fun x H1=>∃p ys,x= .ref p/\aN K H1 p ys/\∀l,H1 l=none->Q (.ref l) (upd H1 l (.lst ys.reverse))
section
variable{X:Cx}{e:Expr}{te:TE}{x x':Str}{p p' pos pos':Pos}
theorem b5d(hc:X.calm=true)(he:PE X e te)(hg:Gl X x)(hm:X.mg x=none)(hv:bootBuiltins x=some (.type "list"))(hg':Gl X x')(hm':X.mg x'=none)(hv':bootBuiltins x'=some (.type "reversed"))
 (hn:x≠ "__name__":=by decide)(hdb:(x==("__debug__":Str))=false:=by decide)(hn':x'≠ "__name__":=by decide)(hdb':(x'==("__debug__":Str))=false:=by decide)
 (h1:starEach [e] X.env= [(false,eval e X.env)]:=by rfl)(h2:starEach [.Call (.Name x' p') [e] [] pos'] X.env= [(false,eval (.Call (.Name x' p') [e] [] pos') X.env)]:=by rfl):
 PE X (.Call (.Name x p) [.Call (.Name x' p') [e] [] pos'] [] pos) (b3e X.K te):=by
 intro pins s σ H Q I h
 refine wpAny_Call_Name_kw (pV I hg hm hv ?_ hn hdb)
 refine PyProof.Rows.callWith_type1 ?_ h2 rfl
 rw[h2]
 refine Calls.spliced_cons ?_
 refine wpAny_Call_Name_kw (pV I hg' hm' hv' ?_ hn' hdb')
 refine PyProof.Rows.callWith_type1 ?_ h1 rfl
 rw[h1]
 refine Calls.spliced_cons (aU (he pins s σ H _ I h) fun u s1 ⟨v,H1,I1,rv,q,ys,ex,hq,k⟩=> ?_)
 subst ex
 cases rv
 refine Calls.spliced_nil ?_
 obtain⟨its,r',pl,hz⟩:=I1.list hq
 have hlen:=r'.length
 refine call_reversed_list pl.isList ?_
 refine Calls.spliced_nil ?_
 have hsz:its.toArray.size=its.length:=by simp
 have kp1:∀b o,s1.heap.get? b=some o->(s1.heap.push (revObj q ((its.toArray.size:Int)- 1))).get? b=some o:=fun b o e=>Heap.get?_push_of_some _ e
 have I2:aD X pins σ H1 {s1 with heap:=s1.heap.push (revObj q ((its.toArray.size:Int)- 1))}:=I1.kept (t':=s1.toks) kp1
 have hD:(s1.heap.push (revObj q ((its.toArray.size:Int)- 1))).get? s1.heap.objs.size=some (revObj q ((its.toArray.size:Int)- 1)):=Heap.get?_push_size _ rfl
 have hit:(s1.heap.push (revObj q ((its.toArray.size:Int)- 1))).IsRevIter s1.heap.objs.size q ((its.toArray.size:Int)- 1):=⟨_,hD,rfl,rfl⟩
 have ltq:q<s1.heap.objs.size:=by obtain⟨o,ho,_⟩:=pl.isList;exact Heap.lt_size ho
 refine b33 (s:={s1 with heap:=s1.heap.push (revObj q ((its.toArray.size:Int)- 1))}) (I2.ok.hd hc) (Nat.ne_of_lt ltq) hit (pl.isList.at fun o e=>kp1 q o e) (by rw[hsz];omega) fun h' tk acc c hk hS hI=> ?_
 have its':acc.toList.length=ys.reverse.length:=by rw[Array.length_toList,hI.1,hsz,List.length_reverse];omega
 have hvals:bD ys.reverse acc.toList:=a0q its' fun j y u e1 e2=>by
  rw[Array.getElem?_toList]at e2
  have e3:=hI.2 j u e2
  have hj:j<ys.length:=by
   have:=(List.getElem?_eq_some_iff.mp e1).1
   simpa using this
  rw[List.getElem?_reverse hj]at e1
  have e4:its[its.length- 1- j]?=some u:=by simpa using e3
  rw[<- hlen]at e4
  obtain⟨u',e5,r5⟩:=bD.get r' e1
  rw[e4]at e5
  cases e5
  exact r5
 let s2:Shared:={s1 with heap:=s1.heap.push (revObj q ((its.toArray.size:Int)- 1))}
 have I2':aD X pins σ (upd H1 s2.heap.objs.size (.lst ys.reverse)) {s2 with heap:=s2.heap.push {cls:=.type "list",dict:=none,data:=.seq acc c,slots:= #[]},toks:=tk}:=by
  refine I2.laid (t':=tk) (o:=.lst ys.reverse) (fun b o e=>Heap.get?_push_of_some _ e) (Nat.le_refl _) ?_
  exact⟨by rw[List.length_reverse];exact hz,acc.toList,c,hvals,by rw[Array.toArray_toList];exact Heap.get?_push_size _ rfl⟩
 have ltD:s1.heap.objs.size<s2.heap.objs.size:=Heap.lt_size hD
 have I3:aD X pins σ (upd H1 s2.heap.objs.size (.lst ys.reverse)) {s1 with heap:=h',toks:=tk}:=by
  refine aD.turned (s:={s2 with heap:=s2.heap.push {cls:=.type "list",dict:=none,data:=.seq acc c,slots:= #[]},toks:=tk}) (it:=s1.heap.objs.size) I2' (fun b o hb e=> ?_) (by rw[aH (Nat.ne_of_lt ltD)];exact I1.hok.fresh (Nat.le_refl _)) ?_ (.inr I1.sz) ?_ ?_
  ·by_cases z:b=s2.heap.objs.size
   ·subst z
    rw[show (s2.heap.push {cls:=.type "list",dict:=none,data:=.seq acc c,slots:= #[]}).get? s2.heap.objs.size=some {cls:=.type "list",dict:=none,data:=.seq acc c,slots:= #[]} from Heap.get?_push_size _ rfl]at e
    rw[<- e]
    exact hS
   ·rcases Heap.get?_push_cases e with⟨z',_⟩|e
    ·exact absurd z' z
    ·exact hk b o hb e
  ·obtain⟨m,⟨o,_,_,ho,_⟩,_⟩:=I1.loc
   exact Nat.ne_of_gt (Heap.lt_size ho)
  ·intro y c e
   obtain⟨v,o,ho,_⟩:=I1.cell y c e
   exact Nat.ne_of_lt (Heap.lt_size ho)
  ·intro pr hp
   exact Nat.ne_of_lt (Heap.lt_size (I1.pin pr hp).1)
 exact⟨.ref s2.heap.objs.size,_,I3,rfl,k _ (I2.hok.fresh (Nat.le_refl _))⟩
end
structure yA(X:Cx)(pos:Pos)(keys:List (Option Expr))(values:List Expr)(trs:List (TE×TE)):Prop where
 run:tY X pos keys values trs
section
variable{X:Cx}{pos:Pos}{keys:List (Option Expr)}{values:List Expr}{trs:List (TE×TE)}{k v:Expr}{tk tv:TE}
theorem b2e:yA X pos [] [] []:=⟨b2R⟩
theorem a0m(hk:jM X k tk)(hv:jM X v tv)(hr:yA X pos keys values trs):yA X pos (some k::keys) (v::values) ((tk,tv)::trs):=⟨b3x hk.run hv.run hr.run⟩
theorem b1e(h:yA X pos keys values trs)(hall:keys.all (·.isSome)=true:=by rfl)(hl:keys.length=values.length:=by rfl)(h0:keys≠ []:=by simp)(h15:keys.length<=15:=by decide):jM X (.Dict keys values pos) (b1v trs):=⟨b2G h.run hall hl h0 h15⟩
end
theorem boxS{X:Cx}{st:List Stmt}{D:kI}{σ:St}{H:Hp}(h:∃t,zP X st t/\t D σ H):∃t,dQ X st t/\t D σ H:=let ⟨t,h1,h2⟩:=h;⟨t,h1.run,h2⟩
structure KDict(P:Params)(K:Fg)(p:Addr):Prop where
 ex:∃(es:Array DictEntry) (n:Nat),K.lookup p=some ⟨.type "dict",none,.dict es n,#[]⟩ /\PySem.W.KeysLit P es.toList
 lo:(p==sysModules)=false
section
variable{X:Cx}
theorem b1t(hc:X.calm=true):jQ X (.builtin "sum") (fun xs H Q=>∃(p:Addr) (zs:List Int),xs= [.ref p] /\aN X.K H p (zs.map V.int)/\Q (.int (zs.sum)) H):=by
 intro pins s σ H xs us Q I r h
 obtain⟨p,zs,rfl,hp,q⟩:=h
 obtain⟨u,rfl,rx⟩:=nQ r
 cases rx
 obtain⟨its,r',pl,hz⟩:=I.list hp
 have hi:=b5b r'
 obtain⟨xs,e⟩:=hi.allInts.items
 have hns:zs=xs.toList.map (·.1):=by rw[<- hi.numsOf,<- nums_intItems,<- e]
 have hl:=pl.isList
 rw[e]at hl
 refine sum_intListG (I.ok.hd hc) hl fun h' tk t' hk=>⟨.int zs.sum,H,I.kept hk,?_,q⟩
 rw[preSum_eq,List.take_of_length_le (by simp),<- hns]
 exact⟨_,rfl⟩
end
structure FnV(P:Program)(w:World)(K:Fg)(mg:Str->Option Value)(base:Heap)(k:Nat)(fa:Addr)(sp:Sp):Prop where
 kp:PySem.W.keepIn K (.ref fa)=true
 run:∀(A:Around) (outer:List Env) (s:Shared) (H:Hp) (us:List Value) (vs:List V) (Q:VK) (E:XK),bV k A->jW P w K mg base A outer s H->K.In s.heap->bD vs us->sp vs H Q E->
  codeAny (model P w) A (.call (.ref fa) ⟨us,[]⟩) (CR aF outer P w H s Q E) s
theorem pS(z:Str):∀zs:List Str,iL (.str z) (zs.map V.str)=decide (z∈zs)
 | []=>rfl
 |y::r=>by
  have ih:=pS z r
  unfold iL at ih|-
  rw[List.map_cons,List.any_cons,ih]
  have e:kQ (.str y) (.str z)=decide (y=z):=by
   by_cases h:y=z<;>simp[kQ,h]
  rw[e,<- Bool.decide_or]
  congr 1
  rw[List.mem_cons]
  exact propext ⟨fun h=>h.imp Eq.symm id,fun h=>h.imp Eq.symm id⟩
theorem oF:∀zs:List Str,(zs.map V.str).all lP=true
 | []=>rfl
 |y::r=>by
  rw[List.map_cons,List.all_cons,oF r]
  rfl
structure iF(K:Fg)(mg:Str->Option Value)(cls m qual:Str)(st:Stmt)(z:Addr×Addr):Prop where
 ex:∃C f fd,mg cls=some (.ref C)/\jH K m qual st f fd/\PySem.W.findIn K (.ref C) m=some (some (.ref f))/\PySem.W.isFn K (.ref f)=true/\fd.code= .ref z.1
 hd:PySem.W.codeHdIn K z.1 z.2=true
section
variable{P:Program}{w:World}{K:Fg}{mg:Str->Option Value}{base:Heap}
theorem b7w{h:Heap}{cls m qual:Str}{st:Stmt}{C f c p:Addr}{oc:Value}{od an:Option Addr}{osl:Array (Option Value)}{kV doc pm ct:Value}(X:K.In h)(G:h.Ns mainGlobals mg)(n:PySem.W.nsIn K mainGlobals cls=some (some (.ref C)))(a:PySem.W.findIn K (.ref C) m=some (some (.ref f)))(i:PySem.W.isFn K (.ref f)=true)
 (l:K.lookup f=some ⟨oc,od,.func (PySem.W.fnOf m qual (aZ st) (aV st) (aI st) .none kV doc pm an (.ref c) ct),osl⟩)(hc:PySem.W.codeIn K (.ref c) qual=true)(k:PySem.W.keepIn K (.ref f)=true)(hd:PySem.W.codeHdIn K c p=true):iF K mg cls m qual st (c,p):=
 ⟨⟨C,f,_,PySem.W.mg_of X G n,xY l hc k,a,i,rfl⟩,hd⟩
theorem iF.known{cls m qual:Str}{st:Stmt}{N ps:List Str}{k:Nat}{sp:Sp}{z:Addr×Addr}{C:Addr}(D:iF K mg cls m qual st z)(hC:mg cls=some (.ref C))(S:bG N ps (aI st))
 (hb:∀(kV doc pm:Value) (an:Option Addr) (cdv ct:Value) (us:List Value),us.length=ps.length->bindArgs (PySem.W.fnOf m qual (aZ st) (aV st) (aI st) .none kV doc pm an cdv ct) ⟨us,[]⟩=pure (ps.zip us))
 (len:∀vs H Q E,sp vs H Q E->vs.length=ps.length)
 (hbody:∀(f:Addr) (A:Around) (outer:List Env) (s:Shared) (H:Hp) (vs:List V) (Q:VK) (E:XK),bV k (A.deeper (envOfC qual (aI st) s.heap.objs.size f (.ref z.1)))->sp vs H Q E->
  ∃t,dQ (eY aF P w K mg base N qual (aI st) f (.ref z.1) A outer s H E).nox (aV st) t/\t {nx:=fun _ H'=>Q .non H',rt:=Q} (start N vs) H):aT P w K mg base aF (k+ 1) C m ps sp:=by
 obtain⟨C',f,fd,hC',F,ha,hi,hc⟩:=D.ex
 rw[hC]at hC'
 cases hC'
 refine⟨f,fd,?_,⟨ha,hi,F.kp⟩,F.binds hb⟩
 obtain⟨oc,od,kV,doc,pm,an,cdv,ct,osl,rfl,lk,hcd⟩:=F.ex
 have e:cdv= .ref z.1:=hc
 subst e
 refine a4P lk hcd S len fun A outer s H vs Q E hr hsp=> ?_
 obtain⟨t,h,q⟩:=hbody f A outer s H vs Q E hr hsp
 exact⟨t,h.nox,q⟩
end
theorem b7g{l:PySem.W.OpenLaw}{n k:Nat}{q:Program}{loose:List Str}{XP:(Str->Option Value)->Heap->Prop}{YP:World->Heap->Prop}{d:DefRec}{K:Params->Fg}{CX:World->fG}{sp:World->List (Addr×Addr)->Sp}{x:Str}
 (hn:l.most=some n)(hn2:n<=sizeLine)(hdf:d.params.defaults= [])(hr:bV k callerA)
 (hY:∀(w:World) (h:Heap),YP w h->(K w.params).In h)
 (F:∀(w:World) (mg:Str->Option Value) (fa:Addr) (h:Heap),YP w h->(K w.params).In h->h.Ns mainGlobals mg->mg d.name=some (.ref fa)->
  PySem.W.noTabs (K w.params)=true/\∃tabs:List (Addr×Addr),(∀z∈tabs,b2x q (K w.params) z\/ (PySem.W.codeHdIn (K w.params) z.1 z.2=true/\h.get? z.2=some (PySem.W.tabObj #[])))/\∃fd:FuncData,(∀(s:Shared) (u:Value),BindsTo s fd ⟨[u],[]⟩ [(x,u)])/\
   ∀base:Heap,(K w.params).In base->base.Ns mainGlobals mg->(∀z∈tabs,gH mg base z.1 z.2)->fJ l.prog w (K w.params) mg base (CX w) k fa fd [x] (sp w tabs))
 (hsp:∀(w:World) (tabs:List (Addr×Addr)) (H:Hp) (a:Addr) (ns:List Int),ns.length<=n->sO tabs H->aN (K w.params) H a (ns.map V.int)->sp w tabs [.ref a] H (fun v H'=>v= .bl true/\lJ tabs H') fun _ _ _=>False)
 (hCX:∀(w:World) (H:Hp) (s:Shared) (e:Value) (s':Shared),CX w [] H s (fun _ _ _=>False) e s'->False):
 PySem.W.WalkO q loose XP YP l.row.toRowW d [] (fun f vs=>PySem.call f vs):=by
 refine Att.attach_call hn hdf fun w s₀ s₁ mg mb fa o pm cd doc a vs ns G Y ho hd hcd hmg hobj hints hlen hg=> ?_
 have KX:=hY w _ Y
 obtain⟨hnT,tabs,hTb,fd,hb,hF⟩:=F w mg fa _ Y KX G.T.g hmg
 refine b2V KX G.T.g G.T.b G.T.builtins G.T.nolimit hg hobj hints (Nat.le_trans hlen hn2) hr (fun z hz=> ?_) G.T.bmain hF hb (fun H hO hS=>hsp w tabs H a ns hlen hO hS) fun H e s'=>hCX w H s₁ e s'
 rcases hTb z hz with t|⟨t1,t2⟩
 ·obtain⟨y,h1,h2⟩:=t.ex
  obtain⟨d',h1⟩:=Option.isSome_iff_exists.mp h1
  obtain⟨t1,t2⟩:=PySem.W.tab_of G.T KX h1 h2
  exact⟨t1,t2,b0E hnT KX t2⟩
 ·exact⟨PySem.W.codeHd_of_K KX t1,t2,b0E hnT KX t2⟩
theorem b0W{X:Cx}:jQ X (.builtin "isinstance") (fun xs H Q=>∃x T t k,xs= [x,.ty T] /\gT X.K H x t/\PySem.W.kitOne X.K t (.type T)=some k/\Q (.bl k) H):=by
 intro pins s σ H xs us Q I r h
 obtain⟨x,T,t,k,rfl,ty,e,q⟩:=h
 cases r with
 |cons r1 rr=>
  cases rr with
  |cons r2 rr=>
   cases rr
   cases r2
   exact b6Y I r1 ty e fun tk=>⟨.bl k,H,I.tok tk,rfl,q⟩
structure nO(X:Cx)(σ:St)(H:Hp)(f:eC):Prop extends Lent X σ H f where
 only:∀b o,f b=some o->∃v,o.data= .cell v
theorem b27{X:Cx}{pins:List (Addr×Obj)}{σ:St}{H:Hp}{s:Shared}(I:aD X pins σ H s)(hfn:∀x,X.fn x=true):∃f:eC,nO X σ H f/\(∀b o,f b=some o->H b=none/\s.heap.get? b=some o/\X.base.get? b=none/\b∉fZ X.stack):=by
 classical
 let f:eC:=fun b=>if(∃x,X.env.cells.lookup x=some b) then s.heap.get? b else none
 have fe:∀{b o},f b=some o->(∃x,X.env.cells.lookup x=some b)/\s.heap.get? b=some o:=fun{b o} e=>by
  by_cases z:∃x,X.env.cells.lookup x=some b
  ·exact⟨z,by rw[show f b=s.heap.get? b from if_pos z]at e;exact e⟩
  ·rw[show f b=none from if_neg z]at e;cases e
 have ff:∀{x c},X.env.cells.lookup x=some c->f c=s.heap.get? c:=fun{x c} e=>if_pos ⟨x,e⟩
 refine⟨f,⟨⟨fun b o e=> ?_,fun x c e=> ?_,fun i x v e1 e2 e3=> ?_,I.ok.inj⟩,fun b o e=> ?_⟩,fun b o e=> ?_⟩
 ·obtain⟨⟨x,z⟩,_⟩:=fe e
  exact I.freeC x b z
 ·obtain⟨v,o,ho,hd⟩:=I.cell x c e
  exact⟨o,v,by rw[ff e];exact ho,hd⟩
 ·obtain⟨m,_,hl⟩:=I.loc
  obtain⟨u,r,l⟩:=hl i x v e1 e2 (.inr (.inl e3))
  rcases l with⟨k,_⟩|⟨_,c,ec,o,ho,hd⟩
  ·have k':X.env.scope.names.lookup x=some .local:=k
   rw[e3]at k';cases k'
  ·exact⟨c,o,u,ec,by rw[ff ec];exact ho,hd,r⟩
 ·obtain⟨⟨x,z⟩,g⟩:=fe e
  obtain⟨v,o',ho,hd⟩:=I.cell x b z
  rw[g]at ho
  exact⟨v,Option.some.inj ho▸hd⟩
 ·obtain⟨⟨x,z⟩,g⟩:=fe e
  refine⟨I.freeC x b z,g,?_,fun hb=> ?_⟩
  ·exact Heap.get?_none_of_le (Nat.le_trans I.ok.bsz (I.ok.cab x b (hfn x) z))
  ·rcases List.mem_cons.mp (I.stkSub b hb)with e2|hb
   ·exact I.cne x b z e2
   ·obtain⟨_,ob,ho,_⟩:=I.ok.funs.mem hb
    exact absurd (Nat.lt_of_lt_of_le (Heap.lt_size ho) (I.ok.cab x b (hfn x) z)) (Nat.lt_irrefl _)
theorem b70{X:Cx}{k:Nat}{fa:Addr}{fd:FuncData}{ps:List Str}{sp:Sp}{pins:List (Addr×Obj)}{σ:St}{H:Hp}{s:Shared}{Q:VK}{us:List Value}{vs:List V}(hfn:∀x,X.fn x=true)(F:fJ X.prog X.w X.K X.mg X.base aF k fa fd ps sp)(hr:bV k X.A)(hb:hZ X.K fd ps [])
 (I:aD X pins σ H s)(r:bD vs us)(h:∀f,nO X σ H f->sp vs (cW f H) (fun v H'=>Q v (unl f H')) E0):wpAny (model X.prog X.w) X.A (call (.ref fa) us) (EP X pins σ Q) X.xe s:=by
 obtain⟨f,L,hf⟩:=b27 I hfn
 have q:=h f L
 have hl:(us++ []).length=ps.length:=by rw[List.append_nil,<- r.length];exact F.len _ _ _ _ q
 have e0:jW X.prog X.w X.K X.mg X.base X.A X.stack s (cW f H):=by
  have e:=I.env0
  refine⟨e.frames,e.mod,fun b o z=>⟨(e.bs b o z).1,?_⟩,e.bsz,e.funs,fun b z=> ?_,a1o e.hok fun b o z=>⟨(hf b o z).1,(hf b o z).2.1⟩,e.bare⟩
  ·cases q2:f b with
   |none=>rw[eJ q2];exact(e.bs b o z).2
   |some ob=>rw[(hf b ob q2).2.2.1]at z;cases z
  ·cases q2:f b with
   |none=>rw[eJ q2];exact e.frf b z
   |some ob=>exact absurd z (hf b ob q2).2.2.2
 have bd:=hb s us I.kIn hl
 rw[List.append_nil]at bd
 refine wpAny_call (codeAny_mono (F.run X.A X.stack s (cW f H) ⟨us,[]⟩ us vs _ E0 hr e0 bd r q) fun r s' hq=> ?_)
 cases r with
 |error e=>exact False.elim hq
 |ok fl=>
  cases fl with
  |ret u=>
   obtain⟨v,H',os,bare,un,hok,rv,qv⟩:=hq
   obtain⟨u1,u2⟩:=a9h (fun b o z=>⟨(hf b o z).1,(hf b o z).2.1⟩) un hok
   exact I.after ⟨v,_,os,bare,u1,u2,rv,qv⟩
  |next=>exact False.elim hq
  |brk=>exact False.elim hq
  |cont=>exact False.elim hq
def b5H(X:Cx)(sp:Sp)(t:TA):TE:=fun σ H Q=>t σ H fun vs H1=>∀f,nO X σ H1 f->sp vs (cW f H1) (fun v H'=>Q v (unl f H')) E0
section
variable{X:Cx}{k:Nat}{C:Addr}{ps:List Str}{sp:Sp}{x m:Str}{p pos apos:Pos}{e o:Expr}{es:List Expr}{t:TA}{ta:TE}{CX:fG}{E:XK}
theorem b5G(G:bJ X.prog X.w X.K X.mg X.base aF k x ps sp)(hr:bV k X.A)(ha:PA X (e::es) t)(hg:Gl X x:=by rfl)(hfn:∀x,X.fn x=true:=by exact fun _=>rfl)(hdb:(x==("__debug__":Str))=false:=by decide)
 (he:starEach (e::es) X.env=(false,eval e X.env)::starEach es X.env:=by rfl)(hpl:(backTo pos (starEach es X.env)).any (·.1)=false:=by rfl):PE X (.Call (.Name x p) (e::es) [] pos) (b5H X sp t):=by
 obtain⟨f,fd,F,hm,hk,hb⟩:=G.ex
 intro pins s σ H Q I h
 refine wpAny_Call_Name_kw (wH I hg hm ?_ hdb)
 refine PySem.W.callWith_K (h₀:=X.base) I.ok.mod.kin hk (aU (ha pos pins s σ H _ I h) fun us s1 ⟨vs,H1,I1,r,q⟩=>⟨I1.kIn,?_⟩) he hpl
 exact b70 hfn F hr hb I1 r q
theorem b1p(G:eU X.prog X.w X.K X.mg X.base CX k C ps sp)(hr:bV (k+ 1) X.A)(hm:X.mg x=some (.ref C))(hx:iJ CX X E)(hg:Gl X x:=by rfl)(hdb:(x==("__debug__":Str))=false:=by decide):
 PE X (.Call (.Name x p) [] [] pos) (yX C sp [] E qB):=by
 obtain⟨f,fd,F,M,hb⟩:=G.ex
 exact b6D M F hr hg hm hb .nil hx hdb
end
end L2
namespace My
open PySem L2
def bI(i:Nat):Stmt:=PySem.Challenge.pw_lazycols_k25_reckoned_once.main.body.getD i (.Pass ⟨0,0,0,0⟩)
abbrev tU:Stmt:=bI 16
abbrev vJ:Stmt:=bI 17
abbrev xH:Stmt:=bI 18
abbrev vN:Stmt:=bI 19
abbrev tF:Stmt:=bI 20
abbrev sW:Stmt:=bI 21
abbrev uT:Stmt:=bI 25
abbrev sT:Stmt:=bI 26
abbrev rR:Stmt:=bI 27
abbrev wM:Stmt:=bI 28
abbrev rW:Stmt:=bI 36
abbrev sX:Stmt:=bI 37
abbrev wE:Stmt:=bI 46
abbrev tZ:Stmt:=bI 47
abbrev rM:Stmt:=bI 48
abbrev wJ:Stmt:=bI 49
abbrev nL:Stmt:=bI 53
abbrev uZ:Stmt:=bI 54
abbrev uO:Stmt:=bI 55
abbrev sP:Stmt:=bI 56
abbrev nV:Stmt:=bI 57
abbrev nF:Stmt:=bI 58
abbrev eX:Stmt:=bI 59
abbrev rO:Stmt:=bT (bI 29) 0
abbrev wK:Stmt:=bT (bI 29) 1
abbrev a0b:Stmt:=bT (bI 29) 2
abbrev xS:Stmt:=bT (bI 29) 3
abbrev nT:Stmt:=bT (bI 29) 4
abbrev zY:Stmt:=bT (bI 29) 5
abbrev wY:Stmt:=bT (bI 29) 6
abbrev uV:Stmt:=bT (bI 29) 7
abbrev uK:Stmt:=bT (bI 29) 11
abbrev uN:Stmt:=bT (bI 29) 13
abbrev tT:Stmt:=bT (bI 31) 0
abbrev tQ:Stmt:=bT (bI 31) 1
abbrev tK:Stmt:=bT (bI 31) 2
abbrev wA:Stmt:=bT (bI 31) 3
abbrev vI:Stmt:=bT (bI 31) 4
abbrev nX:Stmt:=bT (bI 31) 5
abbrev wZ:Stmt:=bT (bI 32) 0
abbrev vB:Stmt:=bT (bI 32) 1
abbrev uR:Stmt:=bT (bI 33) 0
abbrev uY:Stmt:=bT (bI 33) 1
abbrev uJ:Stmt:=bT (bI 34) 0
abbrev vX:Stmt:=bT (bI 34) 1
abbrev wQ:Stmt:=bT (bI 41) 0
abbrev vS:Stmt:=bT (bI 41) 1
abbrev uI:Stmt:=bT (bI 42) 0
abbrev uG:Stmt:=bT (bI 42) 1
abbrev tG:Stmt:=bT (bI 42) 2
abbrev fD:Stmt:=bT (bI 42) 3
abbrev sK:Stmt:=bT (bI 42) 4
abbrev uU:Stmt:=bT (bI 42) 5
abbrev tH:Stmt:=bT (bI 43) 0
abbrev uH:Stmt:=bT (bI 43) 1
abbrev sM:Stmt:=bT (bI 43) 2
abbrev wC:Stmt:=bT (bI 43) 3
abbrev tJ:Stmt:=bT (bI 43) 4
abbrev xN:Stmt:=bT (bI 43) 8
abbrev xF:Stmt:=bT (bI 43) 9
abbrev sV:Stmt:=bT (bI 43) 10
abbrev yR:Stmt:=bT (bI 43) 11
abbrev vZ:Stmt:=bT (bI 43) 12
abbrev sZ:Stmt:=bT (bI 43) 16
abbrev sR:Stmt:=bT (bI 43) 17
abbrev xK:Stmt:=bT (bI 43) 18
abbrev wO:Stmt:=bT (bI 43) 19
abbrev tW:Stmt:=bT (bI 43) 20
abbrev wU:Stmt:=bT (bI 43) 21
abbrev uF:Stmt:=bT (bI 43) 22
abbrev xJ:Stmt:=bT (bI 50) 0
abbrev oE:Stmt:=bT (bI 50) 1
abbrev tM:Stmt:=bT (bI 51) 0
abbrev mQ:Stmt:=bT (bI 51) 1
abbrev mM:Stmt:=bT (bI 51) 2
structure dO(K:Fg)(mg:Str->Option Value)(C:Addr):Prop where
 c:mg "Table"=some (.ref C)
 cl:dJ K C
 mks:PySem.W.makesIn K C=true
 kc:PySem.W.keepIn K (.ref C)=true
 hc:PySem.W.findIn K (.ref C) "__class__"=some (some (.builtin "object.__class__"))
 n_row_numbers:cH K C "row_numbers"
 n_fresh_number:cH K C "fresh_number"
 n_kept:cH K C "kept"
 m_init:bO K C "__init__" "Table.__init__" rO
 m_many:bO K C "many" "Table.many" wK
 m_numbers:bO K C "numbers" "Table.numbers" a0b
 m_columns:bO K C "columns" "Table.columns" xS
 m_give:bO K C "give" "Table.give" nT
 m_drop:bO K C "drop" "Table.drop" zY
 m_put:bO K C "put" "Table.put" wY
 m_at:bO K C "at" "Table.at" uV
 m_number_at:bO K C "number_at" "Table.number_at" uK
 m_check_column:bO K C "check_column" "Table.check_column" uN
structure cO(K:Fg)(mg:Str->Option Value)(C:Addr):Prop where
 c:mg "Board"=some (.ref C)
 cl:dJ K C
 mks:PySem.W.makesIn K C=true
 kc:PySem.W.keepIn K (.ref C)=true
 hc:PySem.W.findIn K (.ref C) "__class__"=some (some (.builtin "object.__class__"))
 n_given:cH K C "given"
 n_rules:cH K C "rules"
 n_memory:cH K C "memory"
 n_order:cH K C "order"
 m_init:bO K C "__init__" "Board.__init__" tT
 m_has_column:bO K C "has_column" "Board.has_column" tQ
 m_content:bO K C "content" "Board.content" tK
 m_set_column:bO K C "set_column" "Board.set_column" wA
 m_empty_column:bO K C "empty_column" "Board.empty_column" vI
 m_outcome:bO K C "outcome" "Board.outcome" nX
structure nG(K:Fg)(mg:Str->Option Value)(C:Addr):Prop where
 c:mg "TableTold"=some (.ref C)
 cl:dJ K C
 mks:PySem.W.makesIn K C=true
 kc:PySem.W.keepIn K (.ref C)=true
 hc:PySem.W.findIn K (.ref C) "__class__"=some (some (.builtin "object.__class__"))
 n_boards:cH K C "boards"
 n_name:cH K C "name"
 n_size:cH K C "size"
 m_init:bO K C "__init__" "TableTold.__init__" wZ
 m_take:bO K C "take" "TableTold.take" vB
structure mI(K:Fg)(mg:Str->Option Value)(C:Addr):Prop where
 c:mg "ColumnSet"=some (.ref C)
 cl:dJ K C
 mks:PySem.W.makesIn K C=true
 kc:PySem.W.keepIn K (.ref C)=true
 hc:PySem.W.findIn K (.ref C) "__class__"=some (some (.builtin "object.__class__"))
 n_board:cH K C "board"
 n_column:cH K C "column"
 n_after:cH K C "after"
 n_before:cH K C "before"
 m_init:bO K C "__init__" "ColumnSet.__init__" uR
 m_take:bO K C "take" "ColumnSet.take" uY
structure kT(K:Fg)(mg:Str->Option Value)(C:Addr):Prop where
 c:mg "ValuePut"=some (.ref C)
 cl:dJ K C
 mks:PySem.W.makesIn K C=true
 kc:PySem.W.keepIn K (.ref C)=true
 hc:PySem.W.findIn K (.ref C) "__class__"=some (some (.builtin "object.__class__"))
 n_board:cH K C "board"
 n_column:cH K C "column"
 n_place:cH K C "place"
 n_after:cH K C "after"
 n_before:cH K C "before"
 m_init:bO K C "__init__" "ValuePut.__init__" uJ
 m_take:bO K C "take" "ValuePut.take" vX
structure jI(K:Fg)(mg:Str->Option Value)(C:Addr):Prop where
 c:mg "Trial"=some (.ref C)
 cl:dJ K C
 mks:PySem.W.makesIn K C=true
 kc:PySem.W.keepIn K (.ref C)=true
 hc:PySem.W.findIn K (.ref C) "__class__"=some (some (.builtin "object.__class__"))
 n_finder:cH K C "finder"
 n_looked:cH K C "looked"
 n_lacking:cH K C "lacking"
 m_init:bO K C "__init__" "Trial.__init__" wQ
 m_look:bO K C "look" "Trial.look" vS
structure eL(K:Fg)(mg:Str->Option Value)(C:Addr):Prop where
 c:mg "Finder"=some (.ref C)
 cl:dJ K C
 mks:PySem.W.makesIn K C=true
 kc:PySem.W.keepIn K (.ref C)=true
 hc:PySem.W.findIn K (.ref C) "__class__"=some (some (.builtin "object.__class__"))
 n_boards:cH K C "boards"
 n_found:cH K C "found"
 n_looked:cH K C "looked"
 m_init:bO K C "__init__" "Finder.__init__" uI
 m_value_of:bO K C "value_of" "Finder.value_of" uG
 m_attempt:bO K C "attempt" "Finder.attempt" tG
 m_gathered:bO K C "gathered" "Finder.gathered" fD
 m_settle:bO K C "settle" "Finder.settle" sK
 m_knows:bO K C "knows" "Finder.knows" uU
structure eT(K:Fg)(mg:Str->Option Value)(C:Addr):Prop where
 c:mg "Sheet"=some (.ref C)
 cl:dJ K C
 mks:PySem.W.makesIn K C=true
 kc:PySem.W.keepIn K (.ref C)=true
 hc:PySem.W.findIn K (.ref C) "__class__"=some (some (.builtin "object.__class__"))
 n_boards:cH K C "boards"
 n_changes:cH K C "changes"
 n_finder:cH K C "finder"
 m_init:bO K C "__init__" "Sheet.__init__" tH
 m_table:bO K C "table" "Sheet.table" uH
 m_give:bO K C "give" "Sheet.give" sM
 m_rule:bO K C "rule" "Sheet.rule" wC
 m_put:bO K C "put" "Sheet.put" tJ
 m_tables:bO K C "tables" "Sheet.tables" xN
 m_columns:bO K C "columns" "Sheet.columns" xF
 m_is_ruled:bO K C "is_ruled" "Sheet.is_ruled" sV
 m_many:bO K C "many" "Sheet.many" yR
 m_cell:bO K C "cell" "Sheet.cell" vZ
 m_make:bO K C "make" "Sheet.make" sZ
 m_board_of:bO K C "board_of" "Sheet.board_of" sR
 m_board_with:bO K C "board_with" "Sheet.board_with" xK
 m_board_for:bO K C "board_for" "Sheet.board_for" wO
 m_check_cell:bO K C "check_cell" "Sheet.check_cell" tW
 m_check_leans:bO K C "check_leans" "Sheet.check_leans" wU
 m_check_ring:bO K C "check_ring" "Sheet.check_ring" uF
structure tD(K:Fg)(mg:Str->Option Value)(C:Addr):Prop where
 c:mg "Rule"=some (.ref C)
 cl:dJ K C
 mks:PySem.W.makesIn K C=true
 kc:PySem.W.keepIn K (.ref C)=true
 hc:PySem.W.findIn K (.ref C) "__class__"=some (some (.builtin "object.__class__"))
 n_function:cH K C "function"
 m_init:bO K C "__init__" "Rule.__init__" xJ
 v_init:ClsM K C "__init__"
 m_reckon:bO K C "reckon" "Rule.reckon" oE
structure jC(K:Fg)(mg:Str->Option Value)(C:Addr):Prop where
 c:mg "Cells"=some (.ref C)
 cl:dJ K C
 mks:PySem.W.makesIn K C=true
 kc:PySem.W.keepIn K (.ref C)=true
 hc:PySem.W.findIn K (.ref C) "__class__"=some (some (.builtin "object.__class__"))
 n_function:cH K C "function"
 n_names:cH K C "names"
 m_init:bO K C "__init__" "Cells.__init__" tM
 m_leans:bO K C "leans" "Cells.leans" mQ
 m_gather:bO K C "gather" "Cells.gather" mM
 m_reckon:bO K C "reckon" "Rule.reckon" oE
 isl:PySem.W.kitOne K (.ref C) (.type "list")=some false
 own:PySem.W.mroIn K C (.type "object")=some true/\PySem.W.specialIn K (.builtin "object.__class__") "__get__"=some (some (.builtin "getset_descriptor.__get__"))/\PySem.W.takesIn K (.builtin "object.__class__")=some true
structure bE(K:Fg)(mg:Str->Option Value):Prop where
 len:mg "len"=none
 isinstance:mg "isinstance"=none
 int:mg "int"=none
 bool:mg "bool"=none
 str:mg "str"=none
 all:mg "all"=none
 range:mg "range"=none
 abs:mg "abs"=none
 list:mg "list"=none
 tuple:mg "tuple"=none
 sum:mg "sum"=none
 reversed:mg "reversed"=none
 ValueError:mg "ValueError"=none
 g_LETTERS:∃t,mg "LETTERS"=some (.str ("abcdefghijklmnopqrstuvwxyz":Str) t)
 g_MOST_LETTERS:∃t,mg "MOST_LETTERS"=some (.int 8 t)
 g_ODD:∃p,mg "ODD"=some (.ref p)/\∀H,cF K H p [V.str ("fault":Str),V.str ("odd":Str)]
 g_MOST_ROWS:∃t,mg "MOST_ROWS"=some (.int 30 t)
 g_MOST_COLUMNS:∃t,mg "MOST_COLUMNS"=some (.int 8 t)
 g_MOST_TABLES:∃t,mg "MOST_TABLES"=some (.int 4 t)
 g_UNKNOWN:∃p,mg "UNKNOWN"=some (.ref p)/\∀H,cF K H p [V.str ("fault":Str),V.str ("unknown":Str)]
 g_MOST_NAMES:∃t,mg "MOST_NAMES"=some (.int 6 t)
 d_is_whole:eF K mg "is_whole" tU
 d_is_number:eF K mg "is_number" vJ
 d_is_name:eF K mg "is_name" xH
 d_is_fault:eF K mg "is_fault" vN
 d_is_value:eF K mg "is_value" tF
 d_settled:eF K mg "settled" sW
 d_check_size:eF K mg "check_size" uT
 d_check_place:eF K mg "check_place" sT
 d_check_value:eF K mg "check_value" rR
 d_check_values:eF K mg "check_values" wM
 d_ring_from:eF K mg "ring_from" rW
 d_way_to:eF K mg "way_to" sX
 d_check_name:eF K mg "check_name" wE
 d_checked_names:eF K mg "checked_names" tZ
 d_each_once:eF K mg "each_once" rM
 d_look_in_turn:eF K mg "look_in_turn" wJ
 d_law_mixed:eF K mg "_law_mixed" nL
 d_law_value:eF K mg "_law_value" uZ
 d_law_noted:eF K mg "_law_noted" uO
 d_law_list:eF K mg "_law_list" sP
 d_law_looked:eF K mg "_law_looked" nV
 d_law_put:eF K mg "_law_put" nF
 d_law:eF K mg "law" eX
 notabs:PySem.W.noTabs K=true
 t_Table:∃C,dO K mg C
 t_Board:∃C,cO K mg C
 t_TableTold:∃C,nG K mg C
 t_ColumnSet:∃C,mI K mg C
 t_ValuePut:∃C,kT K mg C
 t_Trial:∃C,jI K mg C
 t_Finder:∃C,eL K mg C
 t_Sheet:∃C,eT K mg C
 t_Rule:∃C,tD K mg C
 t_Cells:∃C,jC K mg C
structure Tbs(h:Heap)(K:Fg)(mg:Str->Option Value):Prop where
 bs:∃z_law z_Finder_gathered:Addr×Addr,DefT K mg "law" eX z_law/\iF K mg "Finder" "gathered" "Finder.gathered" fD z_Finder_gathered/\z_law.2≠z_Finder_gathered.2/\h.get? z_Finder_gathered.2=some (PySem.W.tabObj #[])
abbrev xG:Str:= "abcdefghijklmnopqrstuvwxyz"
def qV(c:Nat):Bool:= !(Builtin.Str.occurrences xG ⟨#[c]⟩ 0 xG.length 1).isEmpty
def lW(t:Str):Bool:=decide ((1:Int)<=t.length)&&decide ((t.length:Int)<=8)&&t.cps.toList.all qV
noncomputable def oI:PyData->Bool
 | .int _=>true
 |_=>false
def lC:PyData->Bool
 | .int i=>decide ((if i<0 then-i else i)<10^ (60:Int).toNat)
 |_=>false
def fO:PyData->Bool
 | .str t=>lW t
 |_=>false
def iE:PyData->Bool
 | .tuple [.str z,d]=>decide (z= "fault")&&fO d
 |_=>false
def jP(d:PyData):Bool:=lC d||iE d
def a0k(d:PyData):Prop:=∀t,d= .str t->t.length<=1000
def kM(d:PyData):Prop:=∀ds,d= .tuple ds->∀e∈ds,a0k e
theorem lM{t:Str}(h:t.length<=1000):a0k (.str t):=fun z e=>by cases e;exact h
theorem b1l{d:PyData}(h:gF d≠ .tup):kM d:=fun z e=>by subst e;exact absurd rfl h
theorem b5i{ds:List PyData}(h:∀e∈ds,a0k e):kM (.tuple ds):=fun z e=>by cases e;exact h
section
variable{P:Program}{w:World}{K:Fg}{mg:Str->Option Value}{base:Heap}
def yC(K:Fg):Sp:=fun vs H Q _=>∃x d,vs= [x] /\Dt K H x d/\Q (.bl (oI d)) H
theorem b6w:bG ["thing"] ["thing"] (aI tU):=⟨rfl,rfl,rfl,by decide+kernel,rfl,by decide+kernel,by decide+kernel⟩
theorem oN(T:bE K mg):bJ P w K mg base aF 1 "is_whole" ["thing"] (yC K):=by
 refine T.d_is_whole.known b6w (fun _ _ _ _ _ _ us hl=>fK (fun _=>rfl) us hl) (fun vs H Q E h=> ?_) (fun f cdv A outer s H vs Q E hr h=> ?_)
 ·obtain⟨x,a,rfl,_⟩:=h
  rfl
 ·obtain⟨x,d,rfl,hd,q⟩:=h
  refine⟨_,(aL (bP (oS (dN jN rfl T.isinstance iH (aB (pv 0) (aB (iQ T.int b6U) aG))) (oC (b4E (dN jN rfl T.isinstance iH (aB (pv 0) (aB (iQ T.bool a9R) aG)))))))),?_⟩
  refine⟨_,rfl,x,"int",d,_,rfl,hd,b3V K _,_,rfl,?_⟩
  refine eR (fun h1=> ?_) (fun h1=> ?_)
  ·refine⟨_,rfl,x,"bool",d,_,rfl,hd,b0g K _,_,rfl,?_⟩
   have e:(!decide (gF d=Kd.bl))=oI d:=by cases d<;>simp[gF,oI]at h1|-
   show Q (.bl (!decide (gF d=Kd.bl))) H
   rw[e]
   exact q
  ·have e:false=oI d:=by cases d<;>simp[gF,oI]at h1|-
   show Q (.bl false) H
   rw[e]
   exact q
def lN(K:Fg):Sp:=fun vs H Q _=>∃x d,vs= [x] /\Dt K H x d/\a0k d/\∀H',aE H H'->Q (.bl (fO d)) H'
theorem b34:bG ["thing"] ["thing"] (aI xH):=⟨rfl,rfl,rfl,by decide+kernel,rfl,by decide+kernel,by decide+kernel⟩
theorem jJ(T:bE K mg):bJ P w K mg base aF 1 "is_name" ["thing"] (lN K):=by
 refine T.d_is_name.known b34 (fun _ _ _ _ _ _ us hl=>fK (fun _=>rfl) us hl) (fun vs H Q E h=> ?_) (fun f cdv A outer s H vs Q E hr h=> ?_)
 ·obtain⟨x,a,rfl,_⟩:=h
  rfl
 ·obtain⟨x,d,rfl,hd,hsh,q⟩:=h
  refine⟨_,(aK (bM (PW.pt (iW (fE (dZ (dN jN rfl T.isinstance iH (aB (pv 0) (aB (iQ T.str b1h) aG))) (fun _=>rfl))) (kD (fE (a3u sY sY aY (dN kR rfl T.len jG (aB (pv 0) aG)) (qK T.g_MOST_LETTERS)))))) (aL (bP nK)) bS)
   (aL (bP (dN (b0o rfl) rfl T.all a9D (aB (vA a6M rfl rfl (by decide) (b71 (pv 0)) (fun _ _ _ _ _=>pK) (fun _ _ _ _ _=>(mH b6r (pv 0) (b2P T.g_LETTERS) (by with_unfolding_all rfl)))) aG))))),?_⟩
  refine⟨_,rfl,x,"str",d,_,rfl,hd,b1R K _,_,rfl,?_⟩
  by_cases hk:gF d= .str
  ·obtain⟨t,rfl⟩:∃t,d= .str t:=by cases d<;>simp[gF]at hk|-
   cases hd
   have ht:t.length<=1000:=hsh t rfl
   refine bL ?_
   refine⟨_,rfl,_,_,rfl,⟨sl ht,rfl⟩,_,_,rfl,rfl,_,rfl,?_⟩
   refine eR (fun h1=> ?_) (fun h1=> ?_)
   ·refine⟨_,_,rfl,rfl,_,rfl,?_⟩
    refine eR (fun h2=> ?_) (fun h2=> ?_)
    ·have e:fO (.str t)=false:=by
      show lW t=false
      unfold lW
      have:decide ((t.length:Int)<=8)=false:=by simpa using h2
      rw[this,Bool.and_false,Bool.false_and]
     rw[<- e]
     exact q H (aE.refl H)
    ·have h8:t.cps.size<=8:=by
      have:(t.length:Int)<=8:=by simpa using h2
      show t.length<=8
      omega
     refine⟨_,rfl,t,rfl,fun D hD=> ?_⟩
     refine b20 (x:=t) (fun i ys H2=>ys=(t.cps.toList.take i).map (fun c=>V.bl (qV c))/\aE H H2) ⟨rfl,aE.new hD⟩ ?_ ?_
     ·rintro i c ys H2 hc h2D ⟨rfl,s2⟩
      have hi:i<t.cps.size:=(Array.getElem?_eq_some_iff.mp hc).1
      refine⟨_,rfl,_,_,rfl,rfl,h2D,?_,?_,s2.on hD⟩
      ·rw[List.length_map,List.length_take,Array.length_toList]
       exact dD (by omega)
      ·rw[List.take_add_one,List.map_append,Array.getElem?_toList,hc]
       rfl
     ·rintro ys H2 h2D ⟨rfl,s2⟩
      refine⟨D,t.cps.toList.map qV,rfl,aN.of ?_,?_⟩
      ·rw[h2D,List.take_of_length_le (by simp),List.map_map]
       rfl
      ·have e:fO (.str t)=(t.cps.toList.map qV).all id:=by
        show lW t=_
        unfold lW
        have e1:decide ((1:Int)<=t.length)=true:=h1
        have e2:decide ((t.length:Int)<=8)=true:=by simpa using h2
        rw[e1,e2,Bool.true_and,Bool.true_and,List.all_map]
        rfl
       rw[<- e]
       exact q H2 s2
   ·refine⟨_,rfl,?_⟩
    refine dM ?_
    have e:fO (.str t)=false:=by
     show lW t=false
     unfold lW
     have:decide ((1:Int)<=t.length)=false:=by simpa using h1
     rw[this,Bool.false_and,Bool.false_and]
    rw[<- e]
    exact q H (aE.refl H)
  ·rw[decide_eq_false hk]
   refine dM (dM ?_)
   have e:fO d=false:=by cases d<;>simp[gF]at hk<;>rfl
   rw[<- e]
   exact q H (aE.refl H)
def a9Q(K:Fg):Sp:=fun vs H Q _=>∃x d,vs= [x] /\Dt K H x d/\Q (.bl (lC d)) H
theorem b5g:bG ["thing"] ["thing"] (aI vJ):=⟨rfl,rfl,rfl,by decide+kernel,rfl,by decide+kernel,by decide+kernel⟩
theorem wD(T:bE K mg):bJ P w K mg base aF 2 "is_number" ["thing"] (a9Q K):=by
 have G_is_whole:bJ P w K mg base aF 1 "is_whole" ["thing"] (yC K):=oN T
 refine T.d_is_number.known b5g (fun _ _ _ _ _ _ us hl=>fK (fun _=>rfl) us hl) (fun vs H Q E h=> ?_) (fun f cdv A outer s H vs Q E hr h=> ?_)
 ·obtain⟨x,a,rfl,_⟩:=h
  rfl
 ·obtain⟨x,d,rfl,hd,q⟩:=h
  refine⟨_,(aL (bP (oS (bU G_is_whole (hr.mono (by decide)) aR (aB (pv 0) aG)) (oC (mH b1D (dN b66 rfl T.abs b3M (aB (pv 0) aG)) (bW a9E aY aY) (dH _)))))),?_⟩
  refine⟨_,rfl,x,d,rfl,hd,_,rfl,?_⟩
  refine eR (fun h1=> ?_) (fun h1=> ?_)
  ·obtain⟨i,rfl⟩:∃i,d= .int i:=by cases d<;>simp[oI]at h1|-
   cases hd
   exact⟨_,rfl,i,rfl,_,_,rfl,rfl,⟨by decide,by decide,by decide⟩,_,_,rfl,rfl,q⟩
  ·have e:lC d=false:=by cases d<;>simp[oI]at h1<;>rfl
   show Q (.bl false) H
   rw[<- e]
   exact q
def a0M(K:Fg):Sp:=fun vs H Q _=>∃x d,vs= [x] /\Dt K H x d/\kM d/\∀H',aE H H'->Q (.bl (iE d)) H'
theorem b50:bG ["thing"] ["thing"] (aI vN):=⟨rfl,rfl,rfl,by decide+kernel,rfl,by decide+kernel,by decide+kernel⟩
theorem b2k{ds:List PyData}(h:ds.length≠2):iE (.tuple ds)=false:=by
 match ds,h with
 | [],_=>rfl
 | [a],_=>cases a<;>rfl
 | [a,b],h=>exact absurd rfl h
 |a::b::c::r,_=>cases a<;>rfl
theorem qO(T:bE K mg):bJ P w K mg base aF 2 "is_fault" ["thing"] (a0M K):=by
 have G_is_name:bJ P w K mg base aF 1 "is_name" ["thing"] (lN K):=jJ T
 refine T.d_is_fault.known b50 (fun _ _ _ _ _ _ us hl=>fK (fun _=>rfl) us hl) (fun vs H Q E h=> ?_) (fun f cdv A outer s H vs Q E hr h=> ?_)
 ·obtain⟨x,a,rfl,_⟩:=h
  rfl
 ·obtain⟨x,d,rfl,hd,hsh,q⟩:=h
  refine⟨_,(aK (bM (PW.pt (iW (fE (dZ (dN jN rfl T.isinstance iH (aB (pv 0) (aB (iQ T.tuple zD) aG))) (fun _=>rfl))) (kD (dE a3Y (dN kR rfl T.len jG (aB (pv 0) aG)) aY (dH _))))) (aL (bP nK)) bS)
   (aL (bP (oS (dN jN rfl T.isinstance iH (aB (cT fL (pv 0) aY (fun _ _=>rfl)) (aB (iQ T.str b1h) aG))) (oS (mH qL (cT fL (pv 0) aY (fun _ _=>rfl)) dW (dH _)) (oC (bU G_is_name (hr.mono (by decide)) aR (aB (cT fL (pv 0) aY (fun _ _=>rfl)) aG)))))))),?_⟩
  refine⟨_,rfl,x,"tuple",d,_,rfl,hd,zE K _,_,rfl,?_⟩
  by_cases hk:gF d= .tup
  ·obtain⟨ds,rfl⟩:∃ds,d= .tuple ds:=by cases d<;>simp[gF]at hk|-
   cases hd with
   | @tup a xs _ hq hall=>
    refine bL ?_
    refine⟨_,rfl,_,_,rfl,.inr ⟨_,hq,rfl⟩,rfl,_,rfl,?_⟩
    have hl:=hall.length
    refine eR (fun h1=> ?_) (fun h1=> ?_)
    ·have h1':xs.length≠2:=by
      intro z
      rw[z]at h1
      exact absurd h1 (by decide)
     have e:=b2k (ds:=ds) (by rw[<- hl];exact h1')
     rw[<- e]
     exact q H (aE.refl H)
    ·have h1':xs.length=2:=by
      have z:¬(!decide (V.int (xs.length:Int)=V.int 2))=true:=h1
      have z2:(xs.length:Int)=2:=by simpa using z
      omega
     match xs,ds,hall,h1',hl with
     | [y,z],_,.cons (d:=d1) h2 (.cons (d:=d2) h3 .nil),_,_=>
      have a0:cG [y,z] 0=some y:=rfl
      have a1:cG [y,z] 1=some z:=rfl
      refine⟨_,rfl,_,_,_,_,rfl,rfl,hq,a0,y,"str",d1,_,rfl,h2,b1R K _,_,rfl,?_⟩
      refine eR (fun h4=> ?_) (fun h4=> ?_)
      ·obtain⟨t,rfl⟩:∃t,d1= .str t:=by cases d1<;>simp[gF]at h4|-
       cases h2
       refine⟨_,rfl,_,_,_,_,rfl,rfl,hq,a0,rfl,_,rfl,?_⟩
       refine eR (fun h5=> ?_) (fun h5=> ?_)
       ·have h5':t= "fault":=by
         have z5:V.str t=V.str "fault":=by simpa using h5
         exact V.str.inj z5
        refine⟨_,rfl,_,_,_,_,rfl,rfl,hq,a1,z,d2,rfl,h3,hsh _ rfl _ (List.mem_cons_of_mem _ List.mem_cons_self),fun H' s'=> ?_⟩
        ·have e:iE (.tuple [.str t,d2])=fO d2:=by
          show(decide (t= "fault")&&fO d2)=fO d2
          rw[decide_eq_true h5',Bool.true_and]
         rw[<- e]
         exact q H' s'
       ·have h5':t≠ "fault":=fun z5=>h5 (by rw[z5];rfl)
        have e:iE (.tuple [.str t,d2])=false:=by
         show(decide (t= "fault")&&fO d2)=false
         rw[decide_eq_false h5',Bool.false_and]
        show Q (.bl false) H
        rw[<- e]
        exact q H (aE.refl H)
      ·have e:iE (.tuple [d1,d2])=false:=by cases d1<;>simp[gF]at h4<;>rfl
       show Q (.bl false) H
       rw[<- e]
       exact q H (aE.refl H)
  ·rw[decide_eq_false hk]
   refine dM (dM ?_)
   have e:iE d=false:=by cases d<;>simp[gF]at hk<;>rfl
   rw[<- e]
   exact q H (aE.refl H)
def yM(K:Fg):Sp:=fun vs H Q _=>∃x d,vs= [x] /\Dt K H x d/\kM d/\∀H',aE H H'->Q (.bl (jP d)) H'
theorem b2M:bG ["thing"] ["thing"] (aI tF):=⟨rfl,rfl,rfl,by decide+kernel,rfl,by decide+kernel,by decide+kernel⟩
theorem nS(T:bE K mg):bJ P w K mg base aF 3 "is_value" ["thing"] (yM K):=by
 have G_is_number:bJ P w K mg base aF 2 "is_number" ["thing"] (a9Q K):=wD T
 have G_is_fault:bJ P w K mg base aF 2 "is_fault" ["thing"] (a0M K):=qO T
 refine T.d_is_value.known b2M (fun _ _ _ _ _ _ us hl=>fK (fun _=>rfl) us hl) (fun vs H Q E h=> ?_) (fun f cdv A outer s H vs Q E hr h=> ?_)
 ·obtain⟨x,a,rfl,_⟩:=h
  rfl
 ·obtain⟨x,d,rfl,hd,hsh,q⟩:=h
  refine⟨_,(aL (bP (b5C (bU G_is_number (hr.mono (by decide)) aR (aB (pv 0) aG)) (oC (bU G_is_fault (hr.mono (by decide)) aR (aB (pv 0) aG)))))),?_⟩
  refine⟨_,rfl,x,d,rfl,hd,_,rfl,?_⟩
  refine eR (fun h1=> ?_) (fun h1=> ?_)
  ·have e:jP d=true:=by unfold jP;rw[h1,Bool.true_or]
   show Q (.bl true) H
   rw[<- e]
   exact q H (aE.refl H)
  ·refine⟨_,rfl,x,d,rfl,hd,hsh,fun H' s'=> ?_⟩
   have e:jP d=iE d:=by
    unfold jP
    have:lC d=false:=by simpa using h1
    rw[this,Bool.false_or]
   rw[<- e]
   exact q H' s'
end
def Nl(t:Str):Prop:=1<=t.length/\t.length<=8/\∀c∈t.cps.toList,c∈xG.cps.toList
theorem Nl.name{t:Str}(h:Nl t):lW t=true:=by
 unfold lW
 have a1:decide ((1:Int)<=t.length)=true:=by rw[decide_eq_true_eq];have:=h.1;omega
 have a2:decide ((t.length:Int)<=8)=true:=by rw[decide_eq_true_eq];have:=h.2.1;omega
 have a3:t.cps.toList.all qV=true:=by
  rw[List.all_eq_true]
  intro c hc
  have:∀c∈xG.cps.toList,qV c=true:=by decide+kernel
  exact this c (h.2.2 c hc)
 rw[a1,a2,a3]
 rfl
theorem Nl.lay{z:Str}(h:Nl z):PyData.canLay0 (.str z)=true:=by
 obtain⟨⟨l⟩⟩:=z
 have:∀c∈xG.cps.toList,c<128:=by decide+kernel
 exact b6c fun c hc=>this c (h.2.2 c hc)
theorem a0n{p:Str×Str}(h1:Nl p.1)(h2:Nl p.2):(fN p).canLay0=true:=by
 show PyData.canLayAll0 [.str p.1,.str p.2]=true
 show(PyData.canLay0 (.str p.1)&&(PyData.canLay0 (.str p.2)&&true))=true
 rw[h1.lay,h2.lay]
 rfl
def b1m(K:Fg)(H:Hp)(xs:List V)(ps:List (Str×Str)):Prop:=cV K H xs (ps.map fN)/\∀p∈ps,Nl p.1/\Nl p.2
theorem a4l:∀{ps:List (Str×Str)},(∀p∈ps,Nl p.1/\Nl p.2)->(PyData.list (ps.map fN)).canLay0=true
 | [],_=>rfl
 |p::ps,h=>by
  show((fN p).canLay0&&PyData.canLayAll0 (ps.map fN))=true
  have e:PyData.canLayAll0 (ps.map fN)=true:=a4l fun q hq=>h q (List.mem_cons_of_mem _ hq)
  rw[e,a0n (h p List.mem_cons_self).1 (h p List.mem_cons_self).2]
  rfl
theorem cV.snoc{K:Fg}{H:Hp}:∀{xs:List V} {ds:List PyData} {x:V} {d:PyData},cV K H xs ds->Dt K H x d->cV K H (xs++ [x]) (ds++ [d])
 |_,_,_,_,.nil,h=> .cons h .nil
 |_,_,_,_,.cons h t,q=> .cons h (cV.snoc t q)
section
variable{P:Program}{w:World}{K:Fg}{mg:Str->Option Value}{base:Heap}
def b1L:Sp:=fun vs H Q _=>∃z:Str,vs= [.str z] /\Nl z/\∀H',aE H H'->Q .non H'
theorem b6j:bG ["name"] ["name"] (aI wE):=⟨rfl,rfl,rfl,by decide+kernel,rfl,by decide+kernel,by decide+kernel⟩
theorem tO(T:bE K mg):bJ P w K mg base aF 2 "check_name" ["name"] b1L:=by
 have G_is_name:bJ P w K mg base aF 1 "is_name" ["thing"] (lN K):=jJ T
 refine T.d_check_name.known b6j (fun _ _ _ _ _ _ us hl=>fK (fun _=>rfl) us hl) (fun vs H Q E h=> ?_) (fun f cdv A outer s H vs Q E hr h=> ?_)
 ·obtain⟨z,rfl,_⟩:=h
  rfl
 ·obtain⟨z,rfl,hz,q⟩:=h
  refine⟨_,(aL (bM (fE (dZ (bU G_is_name (hr.mono (by decide)) aR (aB (pv 0) aG)) (fun _=>rfl))) (aL cQ) bS)),?_⟩
  have h8:=hz.2.1
  refine⟨_,rfl,_,_,rfl,.str z,lM (by omega),fun H' s'=>⟨_,rfl,?_⟩⟩
  rw[show fO (.str z)=true from hz.name]
  exact bL (q H' s')
def a9K(K:Fg):Sp:=fun vs H Q _=>∃(a:Addr) (zs:List Str),vs= [.ref a] /\aN K H a (zs.map V.str)/\zs.length<=6/\(∀z∈zs,Nl z)/\∀H' l,aE H H'->H l=none->H' l=some (.lst (zs.map V.str))->Q (.ref l) H'
theorem zH{K:Fg}{H:Hp}:∀zs:List Str,cV K H (zs.map V.str) (zs.map PyData.str)
 | []=> .nil
 |z::zs=> .cons (.str z) (zH zs)
theorem a9G:bG ["names","name"] ["names"] (aI tZ):=⟨rfl,rfl,rfl,by decide+kernel,rfl,by decide+kernel,by decide+kernel⟩
theorem sF(T:bE K mg):bJ P w K mg base aF 3 "checked_names" ["names"] (a9K K):=by
 have G_check_name:bJ P w K mg base aF 2 "check_name" ["name"] b1L:=tO T
 refine T.d_checked_names.known a9G (fun _ _ _ _ _ _ us hl=>fK (fun _=>rfl) us hl) (fun vs H Q E h=> ?_) (fun f cdv A outer s H vs Q E hr h=> ?_)
 ·obtain⟨a,zs,rfl,_⟩:=h
  rfl
 ·obtain⟨a,zs,rfl,hq,h6,hz,q⟩:=h
  refine⟨_,(aK (bM (PW.pt (iW (fE (dZ (dN jN rfl T.isinstance iH (aB (pv 0) (aB (iQ T.list gM) aG))) (fun _=>rfl))) (kD (dE b1r (dN kR rfl T.len jG (aB (pv 0) aG)) (qK T.g_MOST_NAMES) (dH _))))) (aL cQ) bS)
   (aK (iG PassesOwn.never rfl (iS (pv 0)) (eM (i:=1) a9G.nd rfl (Or.inl rfl)) (aL (bY (bU G_check_name (hr.mono (by decide)) aR (aB (pv 1) aG)))))
   (aL (bP (kE lV rfl T.list gM (aB (pv 0) aG)))))),?_⟩
  refine⟨_,rfl,_,"list",_,_,rfl,Dt.lst hq (zH zs),tV K _,_,rfl,bL ?_⟩
  refine⟨_,rfl,_,_,rfl,.inl ⟨_,hq,rfl⟩,_,_,rfl,rfl,_,rfl,?_⟩
  rw[List.length_map,decide_eq_false (by omega)]
  refine bL ?_
  refine⟨_,rfl,a,rfl,⟨_,hq⟩,?_⟩
  refine kK (K:=K) (a:=a) (xs:=zs.map V.str) (fun i σ H2=>∃o,σ= [some (.ref a),o] /\aE H H2) ⟨_,rfl,aE.refl H⟩ (fun i σ H2 _ ⟨_,_,s2⟩=>s2.seq hq) ?_ ?_
  ·rintro i x σ H2 hx ⟨o,rfl,s2⟩
   rw[List.getElem?_map]at hx
   cases e:zs[i]? with
   |none=>rw[e]at hx;cases hx
   |some z=>
    rw[e]at hx
    cases hx
    exact⟨_,rfl,z,rfl,hz z (List.mem_of_getElem? e),fun H3 s3=>⟨_,rfl,s2.trans s3⟩⟩
  ·rintro σ H2 ⟨o,rfl,s2⟩
   refine⟨_,rfl,a,_,rfl,.inl (s2.seq hq),fun l hl=> ?_⟩
   have hl':H l=none:=by
    cases e:H l with
    |none=>rfl
    |some u=>rw[s2 _ _ e]at hl;cases hl
   exact q _ l (s2.trans (aE.new hl)) hl' aJ
def b55(K:Fg):Sp:=fun vs H Q _=>∃(a:Addr) (xs:List V) (ps:List (Str×Str)),vs= [.ref a] /\aN K H a xs/\b1m K H xs ps/\ps.length<=100/\
 ∀H' l ys,aE H H'->H l=none->H' l=some (.lst ys)->b1m K H' ys (dR ps)->Q (.ref l) H'
theorem oY:bG ["spots","found","spot"] ["spots"] (aI rM):=⟨rfl,rfl,rfl,by decide+kernel,rfl,by decide+kernel,by decide+kernel⟩
theorem zM(T:bE K mg):bJ P w K mg base aF 2 "each_once" ["spots"] (b55 K):=by
 refine T.d_each_once.known oY (fun _ _ _ _ _ _ us hl=>fK (fun _=>rfl) us hl) (fun vs H Q E h=> ?_) (fun f cdv A outer s H vs Q E hr h=> ?_)
 ·obtain⟨a,xs,ps,rfl,_⟩:=h
  rfl
 ·obtain⟨a,xs,ps,rfl,hq,hsp,h100,q⟩:=h
  refine⟨_,(aK (bN (i:=1) oY.nd rfl (Or.inl rfl) (eO aG))
   (aK (iG PassesOwn.never rfl (iS (pv 0)) (eM (i:=2) oY.nd rfl (Or.inl rfl)) (aL (bM (dE (b1w hr.units) (pv 2) (pv 1) (by with_unfolding_all rfl)) (aL (bY (iC PySem.F.plainAttrs_list PySem.F.slot_list_append PySem.F.type_list_append gQ (pv 1) (aB (pv 2) aG)))) bS)))
   (aL (bP (pv 1))))),?_⟩
  have hlx:xs.length=ps.length:=by rw[hsp.1.length,List.length_map]
  refine⟨sl,fun l hl=> ?_⟩
  refine⟨_,rfl,a,rfl,⟨_,(aE.new hl).seq hq⟩,?_⟩
  refine kK (K:=K) (a:=a) (xs:=xs) (fun i σ H2=>∃o ys,σ= [some (.ref a),some (.ref l),o] /\aE H H2/\H2 l=some (.lst ys)/\cV K H ys ((dR (ps.take i)).map fN)) ⟨_,[],rfl,aE.new hl,aJ,.nil⟩ (fun i σ H2 _ ⟨_,_,_,s2,_⟩=>s2.seq hq) ?_ ?_
  ·rintro i x σ H2 hx ⟨o,ys,rfl,s2,h2,hd⟩
   obtain⟨d,hd1,hd2⟩:=hsp.1.get hx
   rw[List.getElem?_map]at hd1
   cases e:ps[i]? with
   |none=>rw[e]at hd1;cases hd1
   |some p=>
    rw[e]at hd1
    cases hd1
    have hp:=List.mem_of_getElem? e
    have hle:((dR (ps.take i)).map fN).length=ys.length:=hd.length.symm
    rw[List.length_map]at hle
    have hyl:ys.length<=100:=by
     have h3:=a4x (ps.take i)
     rw[List.length_take]at h3
     omega
    have lay2:(PyData.list ((dR (ps.take i)).map fN)).canLay0=true:=a4l fun p' hp'=>hsp.2 p' (List.mem_of_mem_take (yB hp'))
    have et:dR (ps.take (i+ 1))=if p∈dR (ps.take i) then dR (ps.take i) else dR (ps.take i)++ [p]:=by
     rw[List.take_add_one,e]
     exact b1a _ _
    refine⟨_,rfl,_,rfl,fN p,_,hd2.same s2,Dt.lst (aN.of h2) (cV.same s2 hd),a0n (hsp.2 p hp).1 (hsp.2 p hp).2,lay2,(show max 0 (max 0 0)+ 1<=62 by decide),_,rfl,?_⟩
    rw[a7e]
    by_cases hm:p∈dR (ps.take i)
    ·rw[decide_eq_true hm]
     rw[if_pos hm]at et
     exact bL ⟨_,ys,rfl,s2,h2,by rw[et];exact hd⟩
    ·rw[decide_eq_false hm]
     rw[if_neg hm]at et
     refine dM ?_
     refine⟨_,rfl,.inl ⟨rfl,_,aN.of h2⟩,_,rfl,l,_,_,rfl,rfl,h2,dD (by omega),?_⟩
     have s3:aE H (upd H2 l (.lst (ys++ [x]))):=s2.on hl
     refine⟨_,ys++ [x],rfl,s3,aJ,?_⟩
     rw[et,List.map_append]
     exact cV.snoc hd hd2
  ·rintro σ H2 ⟨o,ys,rfl,s2,h2,hd⟩
   refine⟨_,rfl,q H2 l ys s2 hl h2 ⟨?_,fun p hp=>hsp.2 p (yB hp)⟩⟩
   rw[hlx,List.take_length]at hd
   exact cV.same s2 hd
end
def lD(r:Addr)(n:Int)(d:Addr):List (Str×V):=[("row_numbers",V.ref r),("fresh_number",V.int n),("kept",V.ref d)]
theorem a9o(r:Addr)(n:Int)(d:Addr):(lD r n d).lookup ("row_numbers":Str)=some (.ref r):=rfl
theorem flds_fresh(r:Addr)(n:Int)(d:Addr):(lD r n d).lookup ("fresh_number":Str)=some (.int n):=by
 show(match (("fresh_number":Str)==("row_numbers":Str))with|true=>some (V.ref r)|false=>_)=_
 rw[show (("fresh_number":Str)==("row_numbers":Str))=false by decide+kernel]
 rfl
theorem qF(r:Addr)(n:Int)(d:Addr):(lD r n d).lookup ("kept":Str)=some (.ref d):=by
 show(match (("kept":Str)==("row_numbers":Str))with|true=>some (V.ref r)|false=>(match (("kept":Str)==("fresh_number":Str))with|true=>some (V.int n)|false=>_))=_
 rw[show (("kept":Str)==("row_numbers":Str))=false by decide+kernel,show(("kept":Str)==("fresh_number":Str))=false by decide+kernel]
 rfl
theorem iN{r:Addr}{n:Int}{d:Addr}{m:Str}(h:(m==("row_numbers":Str)||m==("fresh_number":Str)||m==("kept":Str))=false:=by decide+kernel):(lD r n d).lookup m=none:=by
 simp only[Bool.or_eq_false_iff]at h
 obtain⟨⟨h1,h2⟩,h3⟩:=h
 show(match (m==("row_numbers":Str))with|true=>some (V.ref r)|false=>(match (m==("fresh_number":Str))with|true=>some (V.int n)|false=>(match (m==("kept":Str))with|true=>some (V.ref d)|false=>none)))=none
 rw[h1,h2,h3]
theorem b3E(r:Addr)(n:Int)(d:Addr):aO "kept" (.ref d) (aO "fresh_number" (.int n) (aO "row_numbers" (.ref r) []))=lD r n d:=by
 show aO "kept" (.ref d) (if("row_numbers":Str)= "fresh_number" then _ else _)=_
 rw[if_neg (by decide+kernel)]
 show(if("row_numbers":Str)= "kept" then _ else _::(if("fresh_number":Str)= "kept" then _ else _))=_
 rw[if_neg (by decide+kernel),if_neg (by decide+kernel)]
 rfl
structure jD(C:Addr)(H:Hp)(p r d:Addr)(xs:List V)(n:Int)(kvs:List (aA×V)):Prop where
 at_:∃dx,H p=some (.ins C dx (lD r n d))
 rows:H r=some (.lst xs)
 kept:H d=some (.dK kvs)
theorem jD.same{C:Addr}{H H':Hp}{p r d:Addr}{xs:List V}{n:Int}{kvs:List (aA×V)}(T:jD C H p r d xs n kvs)(s:aE H H'):jD C H' p r d xs n kvs:=by
 obtain⟨dx,h⟩:=T.at_
 exact⟨⟨dx,s _ _ h⟩,s _ _ T.rows,s _ _ T.kept⟩
def Pv(K:Fg)(H:Hp)(v:V)(d:PyData):Prop:=(∃i,v= .int i/\d= .int i/\lC (.int i)=true)\/ ∃a y,v= .ref a/\H a=some (.tup [.str ("fault":Str),.str y])/\d= .tuple [.str "fault",.str y] /\Nl y
def Vd(d:PyData):Prop:=(∃i,d= .int i/\lC (.int i)=true)\/ ∃y,d= .tuple [.str "fault",.str y] /\Nl y
theorem Pv.dt{K:Fg}{H:Hp}{v:V}{d:PyData}(h:Pv K H v d):Dt K H v d:=by
 rcases h with⟨i,rfl,rfl,_⟩|⟨a,y,rfl,h,rfl,_⟩
 ·exact .int i
 ·exact .tup (cF.of h) (.cons (.str _) (.cons (.str _) .nil))
theorem Pv.vd{K:Fg}{H:Hp}{v:V}{d:PyData}(h:Pv K H v d):Vd d:=by
 rcases h with⟨i,rfl,rfl,hb⟩|⟨a,y,rfl,h,rfl,hy⟩
 ·exact .inl ⟨i,rfl,hb⟩
 ·exact .inr ⟨y,rfl,hy⟩
def cJ(H H':Hp):Prop:=∀a xs,H a=some (.tup xs)->H' a=some (.tup xs)
theorem cJ.of{H H':Hp}(s:aE H H'):cJ H H':=fun a xs e=>s _ _ e
theorem cJ.upd{H:Hp}{l:Addr}{o o':HO}(h:H l=some o)(n:∀xs,o≠ .tup xs):cJ H (L2.upd H l o'):=fun a xs e=>by
 rw[aH (fun z=>by rw[z,h]at e;exact n _ (Option.some.inj e))]
 exact e
theorem Pv.keep{K:Fg}{H H':Hp}{v:V}{d:PyData}(s:cJ H H')(h:Pv K H v d):Pv K H' v d:=by
 rcases h with h|⟨a,y,rfl,h,rfl,hy⟩
 ·exact .inl h
 ·exact .inr ⟨a,y,rfl,s _ _ h,rfl,hy⟩
theorem Pv.same{K:Fg}{H H':Hp}{v:V}{d:PyData}(h:Pv K H v d)(s:aE H H'):Pv K H' v d:=h.keep (cJ.of s)
theorem Vd.short{d:PyData}(h:Vd d):kM d/\jP d=true:=by
 rcases h with⟨i,rfl,hb⟩|⟨y,rfl,hy⟩
 ·refine⟨b1l (by intro z;cases z),?_⟩
  show(lC (.int i)||iE (.int i))=true
  rw[hb];rfl
 ·have l8:=hy.2.1
  refine⟨b5i (by
   intro e he
   simp only[List.mem_cons,List.not_mem_nil,or_false]at he
   rcases he with rfl|rfl
   ·exact lM (by decide)
   ·exact lM (by omega)),?_⟩
  show(lC _||iE (.tuple [.str "fault",.str y]))=true
  rw[show iE (.tuple [.str "fault",.str y])=true by
   show(decide (("fault":Str)= "fault")&&fO (.str y))=true
   rw[decide_eq_true rfl,Bool.true_and]
   exact Nl.name hy,Bool.or_true]
theorem Vd.lay{d:PyData}(h:Vd d):d.canLay0=true/\d.depth<=62:=by
 rcases h with⟨i,rfl,hb⟩|⟨z,rfl,hz⟩
 ·exact⟨rfl,(show 0<=62 by decide)⟩
 ·refine⟨?_,(show 1<=62 by decide)⟩
  have lz:=Nl.lay hz
  have l1:PyData.canLay0 (.str ("fault":Str))=true:=by decide+kernel
  simp only[PyData.canLay0,PyData.canLayAll0,Bool.and_true,Bool.and_eq_true]at l1 lz|-
  exact⟨l1,lz⟩
def cM(K:Fg)(H:Hp):List V->List PyData->Prop:=Paired (Pv K H)
theorem cM.keep{K:Fg}{H H':Hp}(s:cJ H H'):∀{xs:List V} {ds:List PyData},cM K H xs ds->cM K H' xs ds
 |_,_,.nil=> .nil
 |_,_,.cons h t=> .cons (h.keep s) (cM.keep s t)
theorem cM.dt{K:Fg}{H:Hp}:∀{xs:List V} {ds:List PyData},cM K H xs ds->cV K H xs ds
 |_,_,.nil=> .nil
 |_,_,.cons h t=> .cons h.dt (cM.dt t)
theorem cM.vd{K:Fg}{H:Hp}:∀{xs:List V} {ds:List PyData},cM K H xs ds->∀d∈ds,Vd d
 |_,_,.nil,_,h=>by cases h
 |_,_,.cons h t,d,hd=>by
  rcases List.mem_cons.mp hd with rfl|hd
  ·exact h.vd
  ·exact cM.vd t d hd
section
variable{P:Program}{w:World}{K:Fg}{mg:Str->Option Value}{base:Heap}
def a1O:Sp:=fun vs H Q _=>∃m:Nat,vs= [.int (m:Int)] /\m<=30/\Q .non H
theorem b4b:bG ["many"] ["many"] (aI uT):=⟨rfl,rfl,rfl,by decide+kernel,rfl,by decide+kernel,by decide+kernel⟩
theorem qU(T:bE K mg):bJ P w K mg base aF 2 "check_size" ["many"] a1O:=by
 have G_is_whole:bJ P w K mg base aF 1 "is_whole" ["thing"] (yC K):=oN T
 refine T.d_check_size.known b4b (fun _ _ _ _ _ _ us hl=>fK (fun _=>rfl) us hl) (fun vs H Q E h=> ?_) (fun f cdv A outer s H vs Q E hr h=> ?_)
 ·obtain⟨m,rfl,_⟩:=h
  rfl
 ·obtain⟨m,rfl,hm,q⟩:=h
  refine⟨_,(aL (bM (PW.pt (iW (fE (dZ (bU G_is_whole (hr.mono (by decide)) aR (aB (pv 0) aG)) (fun _=>rfl))) (kD (fE (a3u sY sY aY (pv 0) (qK T.g_MOST_ROWS)))))) (aL cQ) bS)),?_⟩
  refine⟨_,rfl,_,.int (m:Int),rfl,.int _,_,rfl,bL ?_⟩
  refine⟨_,rfl,_,_,rfl,rfl,_,rfl,?_⟩
  rw[decide_eq_true (show(0:Int)<=(m:Int)by omega)]
  refine dM ⟨_,_,rfl,rfl,_,rfl,?_⟩
  rw[decide_eq_true (show(m:Int)<=30 by omega)]
  exact bL q
def tP:Sp:=fun vs H Q _=>∃p m:Nat,vs= [.int (p:Int),.int (m:Int)] /\p<m/\Q .non H
theorem b6C:bG ["place","places"] ["place","places"] (aI sT):=⟨rfl,rfl,rfl,by decide+kernel,rfl,by decide+kernel,by decide+kernel⟩
theorem mL(T:bE K mg):bJ P w K mg base aF 2 "check_place" ["place","places"] tP:=by
 have G_is_whole:bJ P w K mg base aF 1 "is_whole" ["thing"] (yC K):=oN T
 refine T.d_check_place.known b6C (fun _ _ _ _ _ _ us hl=>eG (fun _ _=>rfl) us hl) (fun vs H Q E h=> ?_) (fun f cdv A outer s H vs Q E hr h=> ?_)
 ·obtain⟨p,m,rfl,_⟩:=h
  rfl
 ·obtain⟨p,m,rfl,hm,q⟩:=h
  refine⟨_,(aL (bM (PW.pt (iW (fE (dZ (bU G_is_whole (hr.mono (by decide)) aR (aB (pv 0) aG)) (fun _=>rfl))) (kD (fE (a3u sY b1D aY (pv 0) (pv 1)))))) (aL cQ) bS)),?_⟩
  refine⟨_,rfl,_,.int (p:Int),rfl,.int _,_,rfl,bL ?_⟩
  refine⟨_,rfl,_,_,rfl,rfl,_,rfl,?_⟩
  rw[decide_eq_true (show(0:Int)<=(p:Int)by omega)]
  refine dM ⟨_,rfl,_,_,rfl,rfl,_,rfl,?_⟩
  rw[decide_eq_true (show(p:Int)<(m:Int)by omega)]
  exact bL q
def b16(K:Fg):Sp:=fun vs H Q _=>∃v d,vs= [v] /\Pv K H v d/\∀H',aE H H'->Q .non H'
theorem b6N:bG ["value"] ["value"] (aI rR):=⟨rfl,rfl,rfl,by decide+kernel,rfl,by decide+kernel,by decide+kernel⟩
theorem sI(T:bE K mg):bJ P w K mg base aF 4 "check_value" ["value"] (b16 K):=by
 have G_is_value:bJ P w K mg base aF 3 "is_value" ["thing"] (yM K):=nS T
 refine T.d_check_value.known b6N (fun _ _ _ _ _ _ us hl=>fK (fun _=>rfl) us hl) (fun vs H Q E h=> ?_) (fun f cdv A outer s H vs Q E hr h=> ?_)
 ·obtain⟨v,d,rfl,_⟩:=h
  rfl
 ·obtain⟨v,d,rfl,hv,q⟩:=h
  refine⟨_,(aL (bM (fE (dZ (bU G_is_value (hr.mono (by decide)) aR (aB (pv 0) aG)) (fun _=>rfl))) (aL cQ) bS)),?_⟩
  refine⟨_,rfl,v,d,rfl,hv.dt,hv.vd.short.1,fun H' s'=>⟨_,rfl,?_⟩⟩
  rw[hv.vd.short.2]
  exact bL (q _ s')
def a1P(K:Fg):Sp:=fun vs H Q _=>∃(a:Addr) (xs:List V) (ds:List PyData),vs= [.ref a,.int (xs.length:Int)] /\aN K H a xs/\cM K H xs ds/\xs.length<=1000/\∀H',aE H H'->Q .non H'
theorem b6I:bG ["values","many"] ["values","many"] (aI wM):=⟨rfl,rfl,rfl,by decide+kernel,rfl,by decide+kernel,by decide+kernel⟩
theorem pY(T:bE K mg):bJ P w K mg base aF 4 "check_values" ["values","many"] (a1P K):=by
 have G_is_value:bJ P w K mg base aF 3 "is_value" ["thing"] (yM K):=nS T
 refine T.d_check_values.known b6I (fun _ _ _ _ _ _ us hl=>eG (fun _ _=>rfl) us hl) (fun vs H Q E h=> ?_) (fun f cdv A outer s H vs Q E hr h=> ?_)
 ·obtain⟨a,xs,ds,rfl,_⟩:=h
  rfl
 ·obtain⟨a,xs,ds,rfl,hq,hp,l1000,q⟩:=h
  have hl:xs.length=ds.length:=Paired.length hp
  refine⟨_,(aL (bM (PW.pt (iW (fE (dZ (dN jN rfl T.isinstance iH (aB (pv 0) (aB (iQ T.list gM) aG))) (fun _=>rfl))) (iW (dE a3Y (dN kR rfl T.len jG (aB (pv 0) aG)) (pv 1) (dH _)) (kD (fE (dZ (dN (b0o rfl) rfl T.all a9D (aB (vA a6M rfl rfl (by decide) (iS (pv 0)) (fun _ _ _ _ _=>pK) (fun _ _ _ _ _=>(bU G_is_value (hr.mono (by decide)) aR (aB (pv 0) aG)))) aG)) (fun _=>rfl))))))) (aL cQ) bS)),?_⟩
  refine⟨_,rfl,_,"list",.list ds,_,rfl,.lst hq hp.dt,tV K _,_,rfl,bL ?_⟩
  refine⟨_,rfl,_,_,rfl,.inl ⟨_,hq,rfl⟩,_,rfl,rfl,_,rfl,?_⟩
  rw[decide_eq_true rfl]
  refine bL ⟨_,rfl,a,rfl,⟨_,hq⟩,fun D hD=> ?_⟩
  refine a6q (K:=K) (a:=a) (xs:=xs) (fun i ys H2=>ys=(List.replicate i (V.bl true))/\aE H H2) ⟨rfl,aE.new hD⟩ (fun i ys H2 _ ⟨_,s2⟩=>s2.seq hq) ?_ ?_
  ·rintro i v ys H2 hv h2D ⟨rfl,s2⟩
   obtain⟨e,he,hde⟩:=hp.dt.get hv
   have ve:=hp.vd e (List.mem_of_getElem? he)
   have hi:i<xs.length:=(List.getElem?_eq_some_iff.mp hv).1
   refine⟨_,rfl,v,e,rfl,hde.same s2,ve.short.1,fun H3 s3=>⟨s3 _ _ h2D,?_,?_,?_⟩⟩
   ·rw[List.length_replicate]
    exact dD (by omega)
   ·rw[ve.short.2,List.replicate_succ']
   ·exact(s2.trans s3).on hD
  ·rintro ys H2 h2D ⟨rfl,s2⟩
   refine⟨D,List.replicate xs.length true,rfl,aN.of (by rw[h2D,List.map_replicate]),_,rfl,?_⟩
   rw[show (List.replicate xs.length true).all id=true by rw[List.all_eq_true];intro b hb;exact(List.mem_replicate.mp hb).2]
   exact bL (q _ s2)
def b1C(K:Fg)(C:Addr):Sp:=fun vs H Q _=>∃(p dx:Addr) (m:Nat),vs= [.ref p,.int (m:Int)] /\H p=some (.ins C dx [])/\m<=30/\
 ∀H' r e,jD C H' p r e (fI 0 m) (m:Int) [] ->H r=none->H e=none->r≠e->(∀b o,H b=some o->b≠p->H' b=some o)->Q .non H'
theorem b5X:bG ["self","many"] ["self","many"] (aI rO):=⟨rfl,rfl,rfl,by decide+kernel,rfl,by decide+kernel,by decide+kernel⟩
theorem vT(T:bE K mg){C:Addr}(Y:dO K mg C):eU P w K mg base aF 3 C ["self","many"] (b1C K C):=by
 have G_check_size:bJ P w K mg base aF 2 "check_size" ["many"] a1O:=qU T
 refine(Y.m_init.known b5X (fun _ _ _ _ _ _ us hl=>eG (fun _ _=>rfl) us hl) (fun vs H Q E h=> ?_) (fun f cdv A outer s H vs Q E hr h=> ?_)).init Y.mks Y.kc
 ·obtain⟨p,dx,m,rfl,_⟩:=h
  rfl
 ·obtain⟨p,dx,m,rfl,hp,hm,q1⟩:=h
  refine⟨_,(aK (bY (bU G_check_size (hr.mono (by decide)) aR (aB (pv 1) aG)))
   (aK (dF (pv 0) (kE (b3X rfl) rfl T.list gM (aB (kE b3S rfl T.range b4g (aB (pv 1) aG)) aG)) rfl)
   (aK (dF (pv 0) (dN kR rfl T.len jG (aB (aX (pv 0) rfl) aG)) rfl)
   (aL (dF (pv 0) rZ rfl))))),?_⟩
  refine⟨_,rfl,m,rfl,hm,?_⟩
  refine⟨_,rfl,(m:Int),rfl,fun g hg=>⟨g,0,(m:Int),rfl,aJ,by omega,by omega,by omega,by omega,by omega,fun r hr0=> ?_⟩⟩
  have ngp:p≠g:=bA hp hg
  have hgr:r≠g:=fun z=>by rw[z,aJ]at hr0;cases hr0
  have hr':H r=none:=by rw[aH hgr]at hr0;exact hr0
  have npr:p≠r:=bA hp hr'
  rw[Int.sub_zero,Int.toNat_natCast]
  refine⟨_,rfl,p,C,dx,[],rfl,(by rw[aH npr,aH ngp];exact hp),Y.cl,Y.n_row_numbers,(by show 0<1000;decide),?_⟩
  refine⟨_,rfl,p,C,dx,_,_,rfl,aJ,Y.cl,Y.n_row_numbers,rfl,_,_,rfl,.inl ⟨_,aN.of (by rw[aH npr.symm,aJ]),rfl⟩,?_⟩
  refine⟨_,rfl,p,C,dx,_,rfl,aJ,Y.cl,Y.n_fresh_number,(by show 1<1000;decide),?_⟩
  intro e he
  have npe:p≠e:=fun z=>by rw[<- z,aJ]at he;cases he
  have nre:r≠e:=fun z=>by rw[<- z,aH npr.symm,aH npr.symm,aJ]at he;cases he
  have nge:g≠e:=fun z=>by rw[<- z,aH ngp.symm,aH ngp.symm,aH hgr.symm,aJ]at he;cases he
  have he':H e=none:=by rw[aH npe.symm,aH npe.symm,aH nre.symm,aH nge.symm]at he;exact he
  refine⟨_,rfl,p,C,dx,_,rfl,(by rw[aH npe];exact aJ),Y.cl,Y.n_kept,(by show(aO "fresh_number" _ (aO "row_numbers" _ [])).length<1000;show(if("row_numbers":Str)= "fresh_number" then _ else _:List (Str×V)).length<1000;rw[if_neg (by decide+kernel)];show 2<1000;decide),?_⟩
  refine q1 _ r e ⟨⟨dx,?_⟩,?_,?_⟩ hr' he' nre fun b o hb hbp=> ?_
  ·rw[aJ]
   refine congrArg (fun l=>some (HO.ins C dx l)) ?_
   have:=b3E r (fI 0 m).length e
   rw[mS]at this|-
   exact this
  ·rw[aH npr.symm,aH nre,aH npr.symm,aH npr.symm,aJ]
  ·rw[aH npe.symm,aJ]
  ·rw[aH hbp,aH (bA hb he'),aH hbp,aH hbp,aH (bA hb hr'),aH (bA hb hg)]
   exact hb
def mC(C:Addr):Sp:=fun vs H Q _=>∃p r d xs n kvs,vs= [.ref p] /\jD C H p r d xs n kvs/\Q (.int xs.length) H
theorem b6x:bG ["self"] ["self"] (aI wK):=⟨rfl,rfl,rfl,by decide+kernel,rfl,by decide+kernel,by decide+kernel⟩
theorem jU(T:bE K mg){C:Addr}(Y:dO K mg C):aT P w K mg base aF 1 C "many" ["self"] (mC C):=by
 refine Y.m_many.known b6x (fun _ _ _ _ _ _ us hl=>fK (fun _=>rfl) us hl) (fun vs H Q E h=> ?_) (fun f cdv A outer s H vs Q E hr h=> ?_)
 ·obtain⟨p,r,d,xs,n,kvs,rfl,_⟩:=h
  rfl
 ·obtain⟨p,r,d,xs,n,kvs,rfl,⟨⟨dx,hp⟩,hr',hd⟩,q⟩:=h
  refine⟨_,(aL (bP (dN kR rfl T.len jG (aB (aX (pv 0) rfl) aG)))),?_⟩
  exact⟨_,rfl,p,C,dx,_,_,rfl,hp,Y.cl,Y.n_row_numbers,a9o _ _ _,_,_,rfl,.inl ⟨_,aN.of hr',rfl⟩,q⟩
def a6l(C:Addr):Sp:=fun vs H Q _=>∃p r d xs n kvs t v,vs= [.ref p,.str t] /\jD C H p r d xs n kvs/\Nl t/\aM kvs (.inr t:aA)=some v/\∀H',aE H H'->Q .non H'
theorem b4P:bG ["self","column"] ["self","column"] (aI uN):=⟨rfl,rfl,rfl,by decide+kernel,rfl,by decide+kernel,by decide+kernel⟩
theorem pL(T:bE K mg){C:Addr}(Y:dO K mg C):aT P w K mg base aF 2 C "check_column" ["self","column"] (a6l C):=by
 have G_is_name:bJ P w K mg base aF 1 "is_name" ["thing"] (lN K):=jJ T
 refine Y.m_check_column.known b4P (fun _ _ _ _ _ _ us hl=>eG (fun _ _=>rfl) us hl) (fun vs H Q E h=> ?_) (fun f cdv A outer s H vs Q E hr h=> ?_)
 ·obtain⟨p,r,d,xs,n,kvs,t,v,rfl,_⟩:=h
  rfl
 ·obtain⟨p,r,d,xs,n,kvs,t,v,rfl,TA,ht,hv,q⟩:=h
  refine⟨_,(aL (bM (PW.pt (iW (fE (dZ (bU G_is_name (hr.mono (by decide)) aR (aB (pv 1) aG)) (fun _=>rfl))) (kD (iV (lO (cU hr) (pv 1) (aX (pv 0) rfl)))))) (aL cQ) bS)),?_⟩
  have h8:=ht.2.1
  refine⟨_,rfl,_,.str t,rfl,.str t,lM (by omega),fun H' s'=>⟨_,rfl,?_⟩⟩
  rw[show fO (.str t)=true from ht.name]
  obtain⟨⟨dx,h1⟩,_,h3⟩:=TA.same s'
  refine bL ⟨_,rfl,_,rfl,p,C,dx,_,_,rfl,h1,Y.cl,Y.n_kept,qF _ _ _,d,_,rfl,bQ.k (k:=Sum.inr t) h3,_,rfl,?_⟩
  rw[hv]
  exact bL (q _ s')
def spAt(C:Addr):Sp:=fun vs H Q _=>∃p r d xs n kvs t l ys,∃(i:Nat) (v:V),vs= [.ref p,.str t,.int (i:Int)] /\jD C H p r d xs n kvs/\Nl t/\aM kvs (.inr t:aA)=some (.ref l)/\H l=some (.lst ys)/\i<xs.length/\cG ys (i:Int)=some v/\∀H',aE H H'->Q v H'
theorem b61:bG ["self","column","place"] ["self","column","place"] (aI uV):=⟨rfl,rfl,rfl,by decide+kernel,rfl,by decide+kernel,by decide+kernel⟩
theorem qN(T:bE K mg){C:Addr}(Y:dO K mg C):aT P w K mg base aF 3 C "at" ["self","column","place"] (spAt C):=by
 have G_check_column:aT P w K mg base aF 2 C "check_column" ["self","column"] (a6l C):=pL T Y
 have G_check_place:bJ P w K mg base aF 2 "check_place" ["place","places"] tP:=mL T
 have G_many:aT P w K mg base aF 1 C "many" ["self"] (mC C):=jU T Y
 refine Y.m_at.known b61 (fun _ _ _ _ _ _ us hl=>hV (fun _ _ _=>rfl) us hl) (fun vs H Q E h=> ?_) (fun f cdv A outer s H vs Q E hr h=> ?_)
 ·obtain⟨p,r,d,xs,n,kvs,t,l,ys,i,v,rfl,_⟩:=h
  rfl
 ·obtain⟨p,r,d,xs,n,kvs,t,l,ys,i,v,rfl,TA,ht,hv,hl,hi,ha,q⟩:=h
  refine⟨_,(aK (bY (bZ (pv 0) Y.cl G_check_column (hr.mono (by decide)) aR (aB (pv 1) aG)))
   (aK (bY (bU G_check_place (hr.mono (by decide)) aR (aB (pv 2) (aB (mO (pv 0) Y.cl G_many (hr.mono (by decide)) aR) aG))))
   (aL (bP (cT gG (eE (cU hr) (aX (pv 0) rfl) (pv 1) (fun _ _=>rfl)) (pv 2) (fun _ _=>rfl)))))),?_⟩
  obtain⟨⟨dx,h1⟩,h2,h3⟩:=id TA
  refine⟨_,rfl,p,dx,_,rfl,h1,iN,_,rfl,p,r,d,xs,n,kvs,t,_,rfl,TA,ht,hv,fun H1 s1=> ?_⟩
  refine⟨_,rfl,_,rfl,p,dx,_,rfl,s1 _ _ h1,iN,p,r,d,xs,n,kvs,rfl,TA.same s1,i,xs.length,rfl,hi,?_⟩
  exact⟨_,rfl,p,C,dx,_,_,rfl,s1 _ _ h1,Y.cl,Y.n_kept,qF _ _ _,_,rfl,d,.ref l,rfl,hv▸bQ.k (k:=Sum.inr t) (s1 _ _ h3),_,rfl,l,_,_,v,rfl,rfl,aN.of (s1 _ _ hl),ha,q _ s1⟩
def b0Z(C:Addr):Sp:=fun vs H Q _=>∃p r d xs n kvs,∃(i:Nat) (v:V),vs= [.ref p,.int (i:Int)] /\jD C H p r d xs n kvs/\i<xs.length/\cG xs (i:Int)=some v/\Q v H
theorem b3H:bG ["self","place"] ["self","place"] (aI uK):=⟨rfl,rfl,rfl,by decide+kernel,rfl,by decide+kernel,by decide+kernel⟩
theorem vD(T:bE K mg){C:Addr}(Y:dO K mg C):aT P w K mg base aF 3 C "number_at" ["self","place"] (b0Z C):=by
 have G_check_place:bJ P w K mg base aF 2 "check_place" ["place","places"] tP:=mL T
 have G_many:aT P w K mg base aF 1 C "many" ["self"] (mC C):=jU T Y
 refine Y.m_number_at.known b3H (fun _ _ _ _ _ _ us hl=>eG (fun _ _=>rfl) us hl) (fun vs H Q E h=> ?_) (fun f cdv A outer s H vs Q E hr h=> ?_)
 ·obtain⟨p,r,d,xs,n,kvs,i,v,rfl,_⟩:=h
  rfl
 ·obtain⟨p,r,d,xs,n,kvs,i,v,rfl,TA,hi,ha,q⟩:=h
  refine⟨_,(aK (bY (bU G_check_place (hr.mono (by decide)) aR (aB (pv 1) (aB (mO (pv 0) Y.cl G_many (hr.mono (by decide)) aR) aG))))
   (aL (bP (cT gG (aX (pv 0) rfl) (pv 1) (fun _ _=>rfl))))),?_⟩
  obtain⟨⟨dx,h1⟩,h2,h3⟩:=id TA
  refine⟨_,rfl,_,rfl,p,dx,_,rfl,h1,iN,p,r,d,xs,n,kvs,rfl,TA,i,xs.length,rfl,hi,?_⟩
  exact⟨_,rfl,p,C,dx,_,_,rfl,h1,Y.cl,Y.n_row_numbers,a9o _ _ _,_,rfl,r,_,_,v,rfl,rfl,aN.of h2,ha,q⟩
def b1J(K:Fg)(C:Addr):Sp:=fun vs H Q _=>∃p r d xs n kvs t l ys,∃(i:Nat) (v:V) (dv:PyData),vs= [.ref p,.str t,.int (i:Int),v] /\jD C H p r d xs n kvs/\Nl t/\aM kvs (.inr t:aA)=some (.ref l)/\H l=some (.lst ys)/\i<xs.length/\i<ys.length/\Pv K H v dv/\
 ∀H',aE H H'->Q .non (upd H' l (.lst (ys.set i v)))
theorem b3F:bG ["self","column","place","value"] ["self","column","place","value"] (aI wY):=⟨rfl,rfl,rfl,by decide+kernel,rfl,by decide+kernel,by decide+kernel⟩
theorem vP(T:bE K mg){C:Addr}(Y:dO K mg C):aT P w K mg base aF 5 C "put" ["self","column","place","value"] (b1J K C):=by
 have G_check_column:aT P w K mg base aF 2 C "check_column" ["self","column"] (a6l C):=pL T Y
 have G_check_place:bJ P w K mg base aF 2 "check_place" ["place","places"] tP:=mL T
 have G_check_value:bJ P w K mg base aF 4 "check_value" ["value"] (b16 K):=sI T
 have G_many:aT P w K mg base aF 1 C "many" ["self"] (mC C):=jU T Y
 refine Y.m_put.known b3F (fun _ _ _ _ _ _ us hl=>lH (fun _ _ _ _=>rfl) us hl) (fun vs H Q E h=> ?_) (fun f cdv A outer s H vs Q E hr h=> ?_)
 ·obtain⟨p,r,d,xs,n,kvs,t,l,ys,i,v,dv,rfl,_⟩:=h
  rfl
 ·obtain⟨p,r,d,xs,n,kvs,t,l,ys,i,v,dv,rfl,TA,ht,hv,hl,hi,hj,hpv,q⟩:=h
  refine⟨_,(aK (bY (bZ (pv 0) Y.cl G_check_column (hr.mono (by decide)) aR (aB (pv 1) aG)))
   (aK (bY (bU G_check_place (hr.mono (by decide)) aR (aB (pv 2) (aB (mO (pv 0) Y.cl G_many (hr.mono (by decide)) aR) aG))))
   (aK (bY (bU G_check_value (hr.mono (by decide)) aR (aB (pv 3) aG)))
   (aL (rY (pv 3) (a1v (eE (cU hr) (aX (pv 0) rfl) (pv 1) (fun _ _=>rfl)) (pv 2) a6y (fun _=>rfl))))))),?_⟩
  obtain⟨⟨dx,h1⟩,h2,h3⟩:=id TA
  refine⟨_,rfl,p,dx,_,rfl,h1,iN,_,rfl,p,r,d,xs,n,kvs,t,_,rfl,TA,ht,hv,fun H1 s1=> ?_⟩
  refine⟨_,rfl,_,rfl,p,dx,_,rfl,s1 _ _ h1,iN,p,r,d,xs,n,kvs,rfl,TA.same s1,i,xs.length,rfl,hi,?_⟩
  refine⟨_,rfl,v,dv,rfl,hpv.same s1,fun H2 s2=> ?_⟩
  have s12:=s1.trans s2
  have hx:jK ys.length (i:Int)=some i:=by rw[yV (by omega) (by omega),Int.toNat_natCast]
  exact⟨_,rfl,_,rfl,p,C,dx,_,_,rfl,s12 _ _ h1,Y.cl,Y.n_kept,qF _ _ _,_,rfl,d,.ref l,rfl,hv▸bQ.k (k:=Sum.inr t) (s12 _ _ h3),_,rfl,l,ys,_,i,rfl,rfl,s12 _ _ hl,hx,q _ s12⟩
def b1j(K:Fg)(C:Addr):Sp:=fun vs H Q _=>∃p r d xs n kvs t a ys ds,vs= [.ref p,.str t,.ref a] /\jD C H p r d xs n kvs/\Nl t/\((aM kvs (.inr t:aA)).isSome=true\/ kvs.length<8)/\kvs.length<=1000/\aN K H a ys/\cM K H ys ds/\ys.length=xs.length/\ys.length<=1000/\
 ∀H' l,aE H H'->H' l=none->Q .non (upd (upd H' l (.lst ys)) d (.dK (aS kvs (.inr t:aA) (.ref l))))
theorem b2L:bG ["self","column","values"] ["self","column","values"] (aI nT):=⟨rfl,rfl,rfl,by decide+kernel,rfl,by decide+kernel,by decide+kernel⟩
theorem vO(T:bE K mg){C:Addr}(Y:dO K mg C):aT P w K mg base aF 5 C "give" ["self","column","values"] (b1j K C):=by
 have G_is_name:bJ P w K mg base aF 1 "is_name" ["thing"] (lN K):=jJ T
 have G_check_values:bJ P w K mg base aF 4 "check_values" ["values","many"] (a1P K):=pY T
 have G_many:aT P w K mg base aF 1 C "many" ["self"] (mC C):=jU T Y
 refine Y.m_give.known b2L (fun _ _ _ _ _ _ us hl=>hV (fun _ _ _=>rfl) us hl) (fun vs H Q E h=> ?_) (fun f cdv A outer s H vs Q E hr h=> ?_)
 ·obtain⟨p,r,d,xs,n,kvs,t,a,ys,ds,rfl,_⟩:=h
  rfl
 ·obtain⟨p,r,d,xs,n,kvs,t,a,ys,ds,rfl,TA,ht,hc,hk,hs,hp,hl,l1000,q⟩:=h
  have dY:∃t',dQ (eY aF P w K mg base ["self","column","values"] "Table.give" (aI nT) f cdv A outer s H E).nox ((aV nT).drop 2) t'/\
   ∀(H1:Hp),aE H H1->t' {nx:=fun _ H'=>Q .non H',rt:=Q} [some (.ref p),some (.str t),some (.ref a)] H1:=by
   refine⟨_,(aK (bY (bU G_check_values (hr.mono (by decide)) aR (aB (pv 2) (aB (mO (pv 0) Y.cl G_many (hr.mono (by decide)) aR) aG))))
    (aL (jE (cU hr) (aX (pv 0) rfl) (pv 1) (kE lV rfl T.list gM (aB (pv 2) aG)) rfl))),fun H1 s1=> ?_⟩
   obtain⟨⟨dx,h1⟩,h2,h3⟩:=TA.same s1
   refine⟨_,rfl,_,rfl,p,dx,_,rfl,h1,iN,p,r,d,xs,n,kvs,rfl,TA.same s1,a,ys,ds,(by rw[hl];rfl),s1.seq hs,hp.keep (cJ.of s1),l1000,fun H2 s2=> ?_⟩
   have s12:=s1.trans s2
   refine⟨_,rfl,a,ys,rfl,.inl (s12.seq hs),fun l hl=> ?_⟩
   have c1:aE H2 (upd H2 l (.lst ys)):=aE.new hl
   refine⟨_,rfl,p,C,dx,_,_,rfl,c1 _ _ (s2 _ _ h1),Y.cl,Y.n_kept,qF _ _ _,_,rfl,d,_,rfl,gY.k (k:=Sum.inr t) (c1 _ _ (s2 _ _ h3)) (dD hk),?_⟩
   exact q H2 l s12 hl
  obtain⟨t2,ht2,r2⟩:=dY
  refine⟨_,(aK (bM (fE (dZ (bU G_is_name (hr.mono (by decide)) aR (aB (pv 1) aG)) (fun _=>rfl))) (aL cQ) bS)
   (aK (bM (PW.pt (qX (iV (lO (cU hr) (pv 1) (aX (pv 0) rfl))) (qM (dE a8N (dN b0R rfl T.len jG (aB (aX (pv 0) rfl) aG)) (qK T.g_MOST_COLUMNS) (dH _))))) (aL cQ) bS)
   ht2)),?_⟩
  have h8:=ht.2.1
  refine⟨_,rfl,_,.str t,rfl,.str t,lM (by omega),fun H1 s1=>⟨_,rfl,?_⟩⟩
  rw[show fO (.str t)=true from ht.name]
  obtain⟨⟨dx,h2⟩,_,h3⟩:=TA.same s1
  refine bL ⟨_,rfl,_,rfl,p,C,dx,_,_,rfl,h2,Y.cl,Y.n_kept,qF _ _ _,d,_,rfl,bQ.k (k:=Sum.inr t) h3,_,rfl,?_⟩
  cases e:aM kvs (Sum.inr t:aA)with
  |some v=>exact bL (bL (r2 H1 s1))
  |none=>
   have hc':kvs.length<8:=by
    rcases hc with hc|hc
    ·rw[e]at hc;cases hc
    ·exact hc
   refine dM ⟨_,rfl,p,C,dx,_,_,rfl,h2,Y.cl,Y.n_kept,qF _ _ _,d,kvs,rfl,h3,_,_,rfl,rfl,_,rfl,?_⟩
   rw[decide_eq_false (show¬(kvs.length:Int)>=8 by omega)]
   exact bL (r2 H1 s1)
end
theorem fB{H H':Hp}{a:Addr}(s:aE H H')(h:H' a=none):H a=none:=by
 cases e:H a with
 |none=>rfl
 |some o=>rw[s _ _ e]at h;cases h
def bC(p:Addr)(H H':Hp):Prop:=∀b o,b≠p->H b=some o->H' b=some o
theorem bC.of{p:Addr}{H H':Hp}(s:aE H H'):bC p H H':=fun b o _ e=>s b o e
theorem bC.trans{p:Addr}{H H1 H2:Hp}(a:bC p H H1)(b:bC p H1 H2):bC p H H2:=fun c o n e=>b c o n (a c o n e)
theorem a8e{H:Hp}{p b C D dx dy:Addr}{fs gs:List (Str×V)}(h:H p=some (.ins C dx fs))(g:H b=some (.ins D dy gs))(n:fs.length≠gs.length):p≠b:=fun z=>by
 rw[z,g]at h
 cases h
 exact n rfl
structure BM where
 b:Addr
 g:Addr
 r:Addr
 e:Addr
 ru:Addr
 me:Addr
 od:Addr
 xs:List V
 n:Int
 kvs:List (aA×V)
 rus:List (aA×V)
 mes:List (aA×V)
 ord:List Str
def jF(g ru me od:Addr):List (Str×V):=[("given",V.ref g),("rules",V.ref ru),("memory",V.ref me),("order",V.ref od)]
theorem dL(g ru me od:Addr):(jF g ru me od).lookup ("given":Str)=some (.ref g)/\(jF g ru me od).lookup ("rules":Str)=some (.ref ru)/\(jF g ru me od).lookup ("memory":Str)=some (.ref me)/\(jF g ru me od).lookup ("order":Str)=some (.ref od):=⟨rfl,rfl,rfl,rfl⟩
theorem nY{g ru me od:Addr}{m:Str}(h:(m==("given":Str)||m==("rules":Str)||m==("memory":Str)||m==("order":Str))=false:=by decide+kernel):(jF g ru me od).lookup m=none:=by
 simp only[Bool.or_eq_false_iff]at h
 obtain⟨⟨⟨h1,h2⟩,h3⟩,h4⟩:=h
 unfold jF
 simp[List.lookup,h1,h2,h3,h4]
theorem b6p(g ru me od:Addr):aO "order" (.ref od) (aO "memory" (.ref me) (aO "rules" (.ref ru) (aO "given" (.ref g) [])))=jF g ru me od:=by
 rfl
structure cD(CB CT:Addr)(H:Hp)(B:BM):Prop where
 at_:∃dx,H B.b=some (.ins CB dx (jF B.g B.ru B.me B.od))
 tab:jD CT H B.g B.r B.e B.xs B.n B.kvs
 rul:H B.ru=some (.dK B.rus)
 mem:H B.me=some (.dK B.mes)
 ord:H B.od=some (.lst (B.ord.map V.str))
theorem cD.same{CB CT:Addr}{H H':Hp}{B:BM}(h:cD CB CT H B)(s:aE H H'):cD CB CT H' B:=
 ⟨let ⟨dx,e⟩:=h.at_;⟨dx,s _ _ e⟩,h.tab.same s,s _ _ h.rul,s _ _ h.mem,s _ _ h.ord⟩
def BM.foot(B:BM):List Addr:=[B.b,B.g,B.r,B.e,B.ru,B.me,B.od]
structure BM.sep(B:BM):Prop where
 ro:B.r≠B.od
 eu:B.e≠B.ru
 em:B.e≠B.me
 um:B.ru≠B.me
section
variable{P:Program}{w:World}{K:Fg}{mg:Str->Option Value}{base:Heap}
def b19(CB CT:Addr):Sp:=fun vs H Q _=>∃(p dx:Addr) (m:Nat),vs= [.ref p,.int (m:Int)] /\H p=some (.ins CB dx [])/\m<=30/\
 ∀H' g r e ru me od,cD CB CT H' ⟨p,g,r,e,ru,me,od,fI 0 m,(m:Int),[],[],[],[]⟩ ->BM.sep ⟨p,g,r,e,ru,me,od,fI 0 m,(m:Int),[],[],[],[]⟩ ->(∀x∈ [g,r,e,ru,me,od],H x=none)->(∀b o,H b=some o->b≠p->H' b=some o)->Q .non H'
theorem b2F:bG ["self","many"] ["self","many"] (aI tT):=⟨rfl,rfl,rfl,by decide+kernel,rfl,by decide+kernel,by decide+kernel⟩
theorem uS(T:bE K mg){CB CT:Addr}(Y:cO K mg CB)(Z:dO K mg CT):eU P w K mg base aF 5 CB ["self","many"] (b19 CB CT):=by
 have GI:eU P w K mg base aF 3 CT ["self","many"] (b1C K CT):=vT T Z
 refine(Y.m_init.known b2F (fun _ _ _ _ _ _ us hl=>eG (fun _ _=>rfl) us hl) (fun vs H Q E h=> ?_) (fun f cdv A outer s H vs Q E hr h=> ?_)).init Y.mks Y.kc
 ·obtain⟨p,dx,m,rfl,_⟩:=h
  rfl
 ·obtain⟨p,dx,m,rfl,hp,hm,q⟩:=h
  refine⟨_,(aK (dF (pv 0) (kZ GI hr Z.c aR (aB (pv 1) aG)) rfl)
   (aK (dF (pv 0) rZ rfl)
   (aK (dF (pv 0) rZ rfl)
   (aL (dF (pv 0) (eO aG) rfl))))),?_⟩
  refine⟨_,rfl,?_⟩
  intro g dg hg hdg ne
  refine⟨g,dg,m,rfl,aJ,hm,fun H1 r e TA hr1 he1 nre b1=>⟨rfl,?_⟩⟩
  have s1:aE H H1:=fun b o z=>b1 b o (by rw[aH (bA z hg),aH (bA z hdg)];exact z) (bA z hg)
  have npg:p≠g:=bA hp hg
  have hr0:H r=none:=by
   by_cases z:r=g
   ·rw[z];exact hg
   ·by_cases z2:r=dg
    ·rw[z2];exact hdg
    ·rw[aH z,aH z2]at hr1;exact hr1
  have he0:H e=none:=by
   by_cases z:e=g
   ·rw[z];exact hg
   ·by_cases z2:e=dg
    ·rw[z2];exact hdg
    ·rw[aH z,aH z2]at he1;exact he1
  obtain⟨⟨dt,ht⟩,hrr,hee⟩:=TA
  refine⟨_,rfl,p,CB,dx,[],rfl,s1 _ _ hp,Y.cl,Y.n_given,(by show 0<1000;decide),?_⟩
  have u2:∀b o,b≠p->H1 b=some o->upd H1 p (.ins CB dx (aO "given" (.ref g) [])) b=some o:=fun b o n z=>by rw[aH n];exact z
  have p2:upd H1 p (.ins CB dx (aO "given" (.ref g) [])) p=some (.ins CB dx (aO "given" (.ref g) [])):=aJ
  have n2:∀b,upd H1 p (.ins CB dx (aO "given" (.ref g) [])) b=none->H1 b=none/\b≠p:=fun b z=>by
   have:b≠p:=fun y=>by rw[y,aJ]at z;cases z
   rw[aH this]at z
   exact⟨z,this⟩
  generalize upd H1 p (.ins CB dx (aO "given" (.ref g) []))=H2 at u2 p2 n2|-
  have b1':∀b,H1 b=none->H b=none:=fun b z=>by
   cases e9:H b with
   |none=>rfl
   |some o=>rw[s1 _ _ e9]at z;cases z
  refine fun ru hru=> ?_
  have s3:=aE.new (o:=.dK []) hru
  have h3:upd H2 ru (.dK []) ru=some (.dK []):=aJ
  have n3:∀b,upd H2 ru (.dK []) b=none->H2 b=none/\b≠ru:=fun b z=>by
   have:b≠ru:=fun y=>by rw[y,aJ]at z;cases z
   rw[aH this]at z
   exact⟨z,this⟩
  refine⟨_,rfl,p,CB,dx,_,rfl,s3 _ _ p2,Y.cl,Y.n_rules,(by show 1<1000;decide),?_⟩
  have hru2:=n2 _ hru
  generalize upd H2 ru (.dK [])=H3 at s3 h3 n3|-
  have u4:∀b o,b≠p->H3 b=some o->upd H3 p (.ins CB dx (aO "rules" (.ref ru) (aO "given" (.ref g) []))) b=some o:=fun b o n z=>by rw[aH n];exact z
  have p4:upd H3 p (.ins CB dx (aO "rules" (.ref ru) (aO "given" (.ref g) []))) p=some (.ins CB dx (aO "rules" (.ref ru) (aO "given" (.ref g) []))):=aJ
  have n4:∀b,upd H3 p (.ins CB dx (aO "rules" (.ref ru) (aO "given" (.ref g) []))) b=none->H3 b=none/\b≠p:=fun b z=>by
   have:b≠p:=fun y=>by rw[y,aJ]at z;cases z
   rw[aH this]at z
   exact⟨z,this⟩
  generalize upd H3 p (.ins CB dx (aO "rules" (.ref ru) (aO "given" (.ref g) [])))=H4 at u4 p4 n4|-
  refine fun me hme=> ?_
  have s5:=aE.new (o:=.dK []) hme
  have h5:upd H4 me (.dK []) me=some (.dK []):=aJ
  have n5:∀b,upd H4 me (.dK []) b=none->H4 b=none/\b≠me:=fun b z=>by
   have:b≠me:=fun y=>by rw[y,aJ]at z;cases z
   rw[aH this]at z
   exact⟨z,this⟩
  refine⟨_,rfl,p,CB,dx,_,rfl,s5 _ _ p4,Y.cl,Y.n_memory,(by show 2<1000;decide),?_⟩
  have hme4:=n4 _ hme
  have hme3:=n3 _ hme4.1
  have hme2:=n2 _ hme3.1
  generalize upd H4 me (.dK [])=H5 at s5 h5 n5|-
  have u6:∀b o,b≠p->H5 b=some o->upd H5 p (.ins CB dx (aO "memory" (.ref me) (aO "rules" (.ref ru) (aO "given" (.ref g) [])))) b=some o:=fun b o n z=>by rw[aH n];exact z
  have p6:upd H5 p (.ins CB dx (aO "memory" (.ref me) (aO "rules" (.ref ru) (aO "given" (.ref g) [])))) p=some (.ins CB dx (aO "memory" (.ref me) (aO "rules" (.ref ru) (aO "given" (.ref g) [])))):=aJ
  have n6:∀b,upd H5 p (.ins CB dx (aO "memory" (.ref me) (aO "rules" (.ref ru) (aO "given" (.ref g) [])))) b=none->H5 b=none/\b≠p:=fun b z=>by
   have:b≠p:=fun y=>by rw[y,aJ]at z;cases z
   rw[aH this]at z
   exact⟨z,this⟩
  generalize upd H5 p (.ins CB dx (aO "memory" (.ref me) (aO "rules" (.ref ru) (aO "given" (.ref g) []))))=H6 at u6 p6 n6|-
  refine⟨sl,fun od hod=> ?_⟩
  have s7:=aE.new (o:=.lst []) hod
  have h7:upd H6 od (.lst []) od=some (.lst []):=aJ
  refine⟨_,rfl,p,CB,dx,_,rfl,s7 _ _ p6,Y.cl,Y.n_order,(by show 3<1000;decide),?_⟩
  have hod6:=n6 _ hod
  have hod5:=n5 _ hod6.1
  have hod4:=n4 _ hod5.1
  have hod3:=n3 _ hod4.1
  have hod2:=n2 _ hod3.1
  generalize upd H6 od (.lst [])=H7 at s7 h7|-
  have up:∀b o,b≠p->H1 b=some o->upd H7 p (.ins CB dx (aO "order" (.ref od) (aO "memory" (.ref me) (aO "rules" (.ref ru) (aO "given" (.ref g) []))))) b=some o:=fun b o n z=>by
   rw[aH n]
   exact s7 _ _ (u6 _ _ n (s5 _ _ (u4 _ _ n (s3 _ _ (u2 _ _ n z)))))
  have p9:upd H7 p (.ins CB dx (aO "order" (.ref od) (aO "memory" (.ref me) (aO "rules" (.ref ru) (aO "given" (.ref g) []))))) p=some (.ins CB dx (jF g ru me od)):=by rw[aJ,b6p]
  have npr:r≠p:=fun z=>by rw[z,hp]at hr0;cases hr0
  have npe:e≠p:=fun z=>by rw[z,hp]at he0;cases he0
  have o7:upd H7 p (.ins CB dx (aO "order" (.ref od) (aO "memory" (.ref me) (aO "rules" (.ref ru) (aO "given" (.ref g) []))))) od=some (.lst []):=by rw[aH hod6.2];exact h7
  have m7:upd H7 p (.ins CB dx (aO "order" (.ref od) (aO "memory" (.ref me) (aO "rules" (.ref ru) (aO "given" (.ref g) []))))) me=some (.dK []):=by
   rw[aH hme4.2]
   exact s7 _ _ (u6 _ _ hme4.2 h5)
  have r7:upd H7 p (.ins CB dx (aO "order" (.ref od) (aO "memory" (.ref me) (aO "rules" (.ref ru) (aO "given" (.ref g) []))))) ru=some (.dK []):=by
   rw[aH hru2.2]
   exact s7 _ _ (u6 _ _ hru2.2 (s5 _ _ (u4 _ _ hru2.2 h3)))
  generalize upd H7 p (.ins CB dx (aO "order" (.ref od) (aO "memory" (.ref me) (aO "rules" (.ref ru) (aO "given" (.ref g) [])))))=H9 at up p9 o7 m7 r7|-
  refine q H9 g r e ru me od ⟨⟨dx,p9⟩,⟨⟨dt,up _ _ npg.symm ht⟩,up _ _ npr hrr,up _ _ npe hee⟩,r7,m7,o7⟩ ⟨?_,?_,?_,?_⟩ ?_ fun b o z n=>up _ _ n (s1 _ _ z)
  ·exact bA hrr hod2.1
  ·exact bA hee hru2.1
  ·exact bA hee hme2.1
  ·exact fun z=>hme3.2 z.symm
  ·intro x hx
   simp only[List.mem_cons,List.not_mem_nil,or_false]at hx
   rcases hx with rfl|rfl|rfl|rfl|rfl|rfl
   ·exact hg
   ·exact hr0
   ·exact he0
   ·exact b1' _ hru2.1
   ·exact b1' _ hme2.1
   ·exact b1' _ hod2.1
def a1R(CB CT:Addr):Sp:=fun vs H Q _=>∃(B:BM) (t:Str),vs= [.ref B.b,.str t] /\cD CB CT H B/\Nl t/\∀H',aE H H'->Q (.bl (decide (t∈B.ord))) H'
theorem b5w:bG ["self","column"] ["self","column"] (aI tQ):=⟨rfl,rfl,rfl,by decide+kernel,rfl,by decide+kernel,by decide+kernel⟩
theorem qD(T:bE K mg){CB CT:Addr}(Y:cO K mg CB):aT P w K mg base aF 2 CB "has_column" ["self","column"] (a1R CB CT):=by
 have G_is_name:bJ P w K mg base aF 1 "is_name" ["thing"] (lN K):=jJ T
 refine Y.m_has_column.known b5w (fun _ _ _ _ _ _ us hl=>eG (fun _ _=>rfl) us hl) (fun vs H Q E h=> ?_) (fun f cdv A outer s H vs Q E hr h=> ?_)
 ·obtain⟨B,t,rfl,_⟩:=h
  rfl
 ·obtain⟨B,t,rfl,hB,ht,q⟩:=h
  refine⟨_,(aL (bP (oS (bU G_is_name (hr.mono (by decide)) aR (aB (pv 1) aG)) (oC (mH a7Q (pv 1) (aX (pv 0) rfl) (by with_unfolding_all rfl)))))),?_⟩
  have h8:=ht.2.1
  refine⟨_,rfl,_,.str t,rfl,.str t,lM (by omega),fun H' s'=>⟨_,rfl,?_⟩⟩
  rw[show fO (.str t)=true from ht.name]
  obtain⟨⟨dx,h1⟩,_,_,_,h5⟩:=hB.same s'
  refine dM ⟨_,rfl,_,rfl,B.b,CB,dx,_,_,rfl,h1,Y.cl,Y.n_order,(dL _ _ _ _).2.2.2,B.od,_,rfl,.inl (aN.of h5),rfl,oF _,?_⟩
  rw[show (if false=true then !iL (.str t) (B.ord.map V.str) else iL (.str t) (B.ord.map V.str))=decide (t∈B.ord)by rw[if_neg Bool.false_ne_true,pS]]
  exact q _ s'
def qZ(B:BM)(t:Str):Prop:=aM B.rus (.inr t:aA)=none/\t∉B.ord
def vY(CB CT:Addr):Sp:=fun vs H Q _=>∃(B:BM) (t:Str),vs= [.ref B.b,.str t] /\cD CB CT H B/\qZ B t/\Q .non H
theorem b5V:bG ["self","column"] ["self","column"] (aI tK):=⟨rfl,rfl,rfl,by decide+kernel,rfl,by decide+kernel,by decide+kernel⟩
theorem sC(T:bE K mg){CB CT:Addr}(Y:cO K mg CB):aT P w K mg base aF 2 CB "content" ["self","column"] (vY CB CT):=by
 refine Y.m_content.known b5V (fun _ _ _ _ _ _ us hl=>eG (fun _ _=>rfl) us hl) (fun vs H Q E h=> ?_) (fun f cdv A outer s H vs Q E hr h=> ?_)
 ·obtain⟨B,t,rfl,_⟩:=h
  rfl
 ·obtain⟨B,t,rfl,hB,⟨n1,n2⟩,q⟩:=h
  refine⟨_,(aK (bM (iV (mT (cU hr) (pv 1) (aX (pv 0) rfl))) (aL cQ) bS)
   (aK (bM (dE a7Q (pv 1) (aX (pv 0) rfl) (by with_unfolding_all rfl)) (aL cQ) bS)
   (aL (bP hW)))),?_⟩
  obtain⟨⟨dx,h1⟩,_,h3,_,h5⟩:=id hB
  refine⟨_,rfl,_,rfl,B.b,CB,dx,_,_,rfl,h1,Y.cl,Y.n_rules,(dL _ _ _ _).2.1,B.ru,_,rfl,bQ.k (k:=Sum.inr t) h3,_,rfl,?_⟩
  rw[n1]
  refine bL ⟨_,rfl,_,rfl,B.b,CB,dx,_,_,rfl,h1,Y.cl,Y.n_order,(dL _ _ _ _).2.2.2,B.od,_,rfl,.inl (aN.of h5),rfl,oF _,_,rfl,?_⟩
  rw[show (if false=true then !iL (.str t) (B.ord.map V.str) else iL (.str t) (B.ord.map V.str))=false by rw[if_neg Bool.false_ne_true,pS,decide_eq_false n2]]
  exact bL q
theorem b7K:bG ["self","column"] ["self","column"] (aI vI):=⟨rfl,rfl,rfl,by decide+kernel,rfl,by decide+kernel,by decide+kernel⟩
theorem qI(T:bE K mg){CB CT:Addr}(Y:cO K mg CB):aT P w K mg base aF 2 CB "empty_column" ["self","column"] (vY CB CT):=by
 refine Y.m_empty_column.known b7K (fun _ _ _ _ _ _ us hl=>eG (fun _ _=>rfl) us hl) (fun vs H Q E h=> ?_) (fun f cdv A outer s H vs Q E hr h=> ?_)
 ·obtain⟨B,t,rfl,_⟩:=h
  rfl
 ·obtain⟨B,t,rfl,hB,⟨n1,n2⟩,q⟩:=h
  refine⟨_,(aL (bM (iV (mT (cU hr) (pv 1) (aX (pv 0) rfl))) (aK cQ (aL cQ)) (aL (bM (dE a7Q (pv 1) (aX (pv 0) rfl) (by with_unfolding_all rfl)) (aL cQ) bS)))),?_⟩
  obtain⟨⟨dx,h1⟩,_,h3,_,h5⟩:=id hB
  refine⟨_,rfl,_,rfl,B.b,CB,dx,_,_,rfl,h1,Y.cl,Y.n_rules,(dL _ _ _ _).2.1,B.ru,_,rfl,bQ.k (k:=Sum.inr t) h3,_,rfl,?_⟩
  rw[n1]
  refine bL ⟨_,rfl,_,rfl,B.b,CB,dx,_,_,rfl,h1,Y.cl,Y.n_order,(dL _ _ _ _).2.2.2,B.od,_,rfl,.inl (aN.of h5),rfl,oF _,_,rfl,?_⟩
  rw[show (if false=true then !iL (.str t) (B.ord.map V.str) else iL (.str t) (B.ord.map V.str))=false by rw[if_neg Bool.false_ne_true,pS,decide_eq_false n2]]
  exact bL q
def a3N(K:Fg)(CB CT:Addr):Sp:=fun vs H Q _=>∃(B:BM) (t:Str) (a:Addr) (ys:List V) (ds:List PyData),vs= [.ref B.b,.str t,.ref a] /\cD CB CT H B/\B.sep/\qZ B t/\Nl t/\H a=some (.lst ys)/\a≠B.od/\cM K H ys ds/\ys.length=B.xs.length/\ys.length<=30/\B.kvs.length<8/\B.ord.length<100/\
 ∀H' l,H l=none->cD CB CT H' {B with kvs:=aS B.kvs (.inr t:aA) (.ref l),ord:=B.ord++ [t]} ->H' l=some (.lst ys)->(∀b o,b≠B.od->b≠B.e->H b=some o->H' b=some o)->Q .non H'
theorem b1o:bG ["self","column","content"] ["self","column","content"] (aI wA):=⟨rfl,rfl,rfl,by decide+kernel,rfl,by decide+kernel,by decide+kernel⟩
theorem b6g(T:bE K mg){CB CT:Addr}(Y:cO K mg CB)(Z:dO K mg CT):aT P w K mg base aF 6 CB "set_column" ["self","column","content"] (a3N K CB CT):=by
 have G_empty:aT P w K mg base aF 2 CB "empty_column" ["self","column"] (vY CB CT):=qI T Y
 have G_give:aT P w K mg base aF 5 CT "give" ["self","column","values"] (b1j K CT):=vO T Z
 refine Y.m_set_column.known b1o (fun _ _ _ _ _ _ us hl=>hV (fun _ _ _=>rfl) us hl) (fun vs H Q E h=> ?_) (fun f cdv A outer s H vs Q E hr h=> ?_)
 ·obtain⟨B,t,a,ys,ds,rfl,_⟩:=h
  rfl
 ·obtain⟨B,t,a,ys,ds,rfl,hB,sp,⟨n1,n2⟩,ht,ha,nao,hp,hl,l30,k8,o100,q⟩:=h
  refine⟨_,(aK (bY (bZ (pv 0) Y.cl G_empty (hr.mono (by decide)) aR (aB (pv 1) aG)))
   (aK (bM (dE qT (pv 2) hW (dH _)) (aK cQ (aL cQ)) bS)
   (aK (bM (dE a8D (pv 1) (aX (pv 0) rfl) (by with_unfolding_all rfl)) (aL (bY (iC PySem.F.plainAttrs_list PySem.F.slot_list_append PySem.F.type_list_append gQ (aX (pv 0) rfl) (aB (pv 1) aG)))) bS)
   (aL (bM (dZ (dN b0W rfl T.isinstance iH (aB (pv 2) (aB (iQ T.list gM) aG))) (fun _=>rfl)) (aL (bY (bZ (aX (pv 0) rfl) Z.cl G_give (hr.mono (by decide)) aR (aB (pv 1) (aB (pv 2) aG))))) (aK cQ (aL cQ))))))),?_⟩
  obtain⟨⟨dx,h1⟩,tb,h3,h4,h5⟩:=id hB
  refine⟨_,rfl,B.b,dx,_,rfl,h1,nY,_,rfl,B,t,rfl,hB,⟨n1,n2⟩,?_⟩
  refine⟨_,rfl,rfl,_,rfl,?_⟩
  rw[decide_eq_false (show¬V.ref a=V.non from fun z=>by cases z)]
  refine bL ⟨_,rfl,_,rfl,B.b,CB,dx,_,_,rfl,h1,Y.cl,Y.n_order,(dL _ _ _ _).2.2.2,B.od,_,rfl,.inl (aN.of h5),rfl,oF _,_,rfl,?_⟩
  rw[show (if true=true then !iL (.str t) (B.ord.map V.str) else iL (.str t) (B.ord.map V.str))=true by rw[if_pos rfl,pS,decide_eq_false n2];rfl]
  refine dM ⟨_,rfl,B.b,CB,dx,_,_,rfl,h1,Y.cl,Y.n_order,(dL _ _ _ _).2.2.2,.inl ⟨rfl,_,aN.of h5⟩,_,rfl,B.od,_,_,rfl,rfl,h5,dD (by rw[List.length_map];omega),?_⟩
  have u6:∀b o,b≠B.od->H b=some o->upd H B.od (.lst (B.ord.map V.str++ [.str t])) b=some o:=fun b o n z=>by rw[aH n];exact z
  have o6:upd H B.od (.lst (B.ord.map V.str++ [.str t])) B.od=some (.lst ((B.ord++ [t]).map V.str)):=by rw[aJ,List.map_append];rfl
  have kt:cJ H (upd H B.od (.lst (B.ord.map V.str++ [.str t]))):=cJ.upd h5 (fun xs z=>by cases z)
  have n6:∀b,upd H B.od (.lst (B.ord.map V.str++ [.str t])) b=none->H b=none:=fun b z=>by
   have:b≠B.od:=fun y=>by rw[y,aJ]at z;cases z
   rw[aH this]at z
   exact z
  generalize upd H B.od (.lst (B.ord.map V.str++ [.str t]))=H6 at u6 o6 kt n6|-
  have a6:=u6 _ _ nao ha
  have b6:=u6 _ _ (fun z=>by rw[z,h5]at h1;cases h1) h1
  obtain⟨⟨dt,t1⟩,t2,t3⟩:=id tb
  have g6:=u6 _ _ (fun z=>by rw[z,h5]at t1;cases t1) t1
  have e6:=u6 _ _ (fun z=>by rw[z,h5]at t3;cases t3) t3
  have tb6:jD CT H6 B.g B.r B.e B.xs B.n B.kvs:=⟨⟨dt,g6⟩,u6 _ _ sp.ro t2,e6⟩
  refine⟨_,rfl,_,"list",.type "list",_,rfl,.lst a6,tV K .lst,_,rfl,dM ?_⟩
  refine⟨_,rfl,B.b,CB,dx,_,_,rfl,b6,Y.cl,Y.n_given,(dL _ _ _ _).1,B.g,dt,_,rfl,g6,iN,_,rfl,_,rfl,B.g,B.r,B.e,B.xs,B.n,B.kvs,t,a,ys,ds,rfl,tb6,ht,.inr k8,by omega,aN.of a6,hp.keep kt,hl,by omega,fun H7 l s7 hl7=> ?_⟩
  have u9:∀b o,b≠B.e->H7 b=some o->upd (upd H7 l (.lst ys)) B.e (.dK (aS B.kvs (.inr t:aA) (.ref l))) b=some o:=fun b o n z=>by
   rw[aH n,aH (bA z hl7)]
   exact z
  have nle:l≠B.e:=fun z=>by rw[z,s7 _ _ e6]at hl7;cases hl7
  have e9:upd (upd H7 l (.lst ys)) B.e (.dK (aS B.kvs (.inr t:aA) (.ref l))) B.e=some (.dK (aS B.kvs (.inr t:aA) (.ref l))):=aJ
  have l9:upd (upd H7 l (.lst ys)) B.e (.dK (aS B.kvs (.inr t:aA) (.ref l))) l=some (.lst ys):=by rw[aH nle,aJ]
  generalize upd (upd H7 l (.lst ys)) B.e (.dK (aS B.kvs (.inr t:aA) (.ref l)))=H9 at u9 e9 l9|-
  have up:∀b o,b≠B.od->b≠B.e->H b=some o->H9 b=some o:=fun b o n1 n2 z=>u9 _ _ n2 (s7 _ _ (u6 _ _ n1 z))
  have ne_:∀{b:Addr} {o:HO},H6 b=some o->(∀kvs,o≠ .dK kvs)->b≠B.e:=fun z n y=>by rw[y,e6]at z;exact n _ (Option.some.inj z).symm
  refine q H9 l (n6 _ (fB s7 hl7)) ⟨⟨dx,u9 _ _ (ne_ b6 (fun kvs z=>by cases z)) (s7 _ _ b6)⟩,⟨⟨dt,u9 _ _ (ne_ g6 (fun kvs z=>by cases z)) (s7 _ _ g6)⟩,?_,e9⟩,?_,?_,?_⟩ l9 up
  ·exact up _ _ sp.ro (fun z=>by rw[z,t3]at t2;cases t2) t2
  ·exact up _ _ (fun z=>by rw[z,h5]at h3;cases h3) sp.eu.symm h3
  ·exact up _ _ (fun z=>by rw[z,h5]at h4;cases h4) sp.em.symm h4
  ·exact u9 _ _ (ne_ o6 (fun kvs z=>by cases z)) (s7 _ _ o6)
def a5I(K:Fg)(CB CT:Addr):Sp:=fun vs H Q _=>∃(B:BM) (t:Str) (a C dx:Addr) (fs:List (Str×V)),vs= [.ref B.b,.str t,.ref a] /\cD CB CT H B/\B.sep/\qZ B t/\H a=some (.ins C dx fs)/\gT K H (.ref a) (.ref C)/\PySem.W.kitOne K (.ref C) (.type "list")=some false/\B.rus.length<100/\B.mes.length<100/\B.ord.length<100/\
 ∀H' m,H m=none->cD CB CT H' {B with rus:=aS B.rus (.inr t:aA) (.ref a),mes:=aS B.mes (.inr t:aA) (.ref m),ord:=B.ord++ [t]} ->H' m=some (.dK [])->(∀b o,b≠B.od->b≠B.ru->b≠B.me->H b=some o->H' b=some o)->Q .non H'
theorem b6S(T:bE K mg){CB CT:Addr}(Y:cO K mg CB):aT P w K mg base aF 6 CB "set_column" ["self","column","content"] (a5I K CB CT):=by
 have G_empty:aT P w K mg base aF 2 CB "empty_column" ["self","column"] (vY CB CT):=qI T Y
 refine Y.m_set_column.known b1o (fun _ _ _ _ _ _ us hl=>hV (fun _ _ _=>rfl) us hl) (fun vs H Q E h=> ?_) (fun f cdv A outer s H vs Q E hr h=> ?_)
 ·obtain⟨B,t,a,C,dc,fs,rfl,_⟩:=h
  rfl
 ·obtain⟨B,t,a,C,dc,fs,rfl,hB,sp,⟨n1,n2⟩,ha,hty,hk,r100,m100,o100,q⟩:=h
  refine⟨_,(aK (bY (bZ (pv 0) Y.cl G_empty (hr.mono (by decide)) aR (aB (pv 1) aG)))
   (aK (bM (dE qT (pv 2) hW (dH _)) (aK cQ (aL cQ)) bS)
   (aK (bM (dE a8D (pv 1) (aX (pv 0) rfl) (by with_unfolding_all rfl)) (aL (bY (iC PySem.F.plainAttrs_list PySem.F.slot_list_append PySem.F.type_list_append gQ (aX (pv 0) rfl) (aB (pv 1) aG)))) bS)
   (aL (bM (dZ (dN b0W rfl T.isinstance iH (aB (pv 2) (aB (iQ T.list gM) aG))) (fun _=>rfl)) (aL cQ) (aK (jE (cU hr) (aX (pv 0) rfl) (pv 1) (pv 2) rfl) (aL (jE (cU hr) (aX (pv 0) rfl) (pv 1) rZ rfl)))))))),?_⟩
  obtain⟨⟨dx,h1⟩,tb,h3,h4,h5⟩:=id hB
  refine⟨_,rfl,B.b,dx,_,rfl,h1,nY,_,rfl,B,t,rfl,hB,⟨n1,n2⟩,?_⟩
  refine⟨_,rfl,rfl,_,rfl,?_⟩
  rw[decide_eq_false (show¬V.ref a=V.non from fun z=>by cases z)]
  refine bL ⟨_,rfl,_,rfl,B.b,CB,dx,_,_,rfl,h1,Y.cl,Y.n_order,(dL _ _ _ _).2.2.2,B.od,_,rfl,.inl (aN.of h5),rfl,oF _,_,rfl,?_⟩
  rw[show (if true=true then !iL (.str t) (B.ord.map V.str) else iL (.str t) (B.ord.map V.str))=true by rw[if_pos rfl,pS,decide_eq_false n2];rfl]
  refine dM ⟨_,rfl,B.b,CB,dx,_,_,rfl,h1,Y.cl,Y.n_order,(dL _ _ _ _).2.2.2,.inl ⟨rfl,_,aN.of h5⟩,_,rfl,B.od,_,_,rfl,rfl,h5,dD (by rw[List.length_map];omega),?_⟩
  have u6:∀b o,b≠B.od->H b=some o->upd H B.od (.lst (B.ord.map V.str++ [.str t])) b=some o:=fun b o n z=>by rw[aH n];exact z
  have o6:upd H B.od (.lst (B.ord.map V.str++ [.str t])) B.od=some (.lst ((B.ord++ [t]).map V.str)):=by rw[aJ,List.map_append];rfl
  have n6:∀b,upd H B.od (.lst (B.ord.map V.str++ [.str t])) b=none->H b=none/\b≠B.od:=fun b z=>by
   have:b≠B.od:=fun y=>by rw[y,aJ]at z;cases z
   rw[aH this]at z
   exact⟨z,this⟩
  generalize upd H B.od (.lst (B.ord.map V.str++ [.str t]))=H6 at u6 o6 n6|-
  have nl5:∀{b:Addr} {o:HO},H b=some o->(∀xs,o≠ .lst xs)->b≠B.od:=fun z n y=>by rw[y,h5]at z;exact n _ (Option.some.inj z).symm
  have a6:=u6 _ _ (nl5 ha (fun xs z=>by cases z)) ha
  have b6:=u6 _ _ (nl5 h1 (fun xs z=>by cases z)) h1
  have r6:=u6 _ _ (nl5 h3 (fun xs z=>by cases z)) h3
  have m6:=u6 _ _ (nl5 h4 (fun xs z=>by cases z)) h4
  have ty6:gT K H6 (.ref a) (.ref C):=by
   cases hty with
   |ins e1 e2 e3 e4 e5 e6=>exact .ins (u6 _ _ (nl5 e1 (fun xs z=>by cases z)) e1) e2 e3 e4 e5 e6
  refine⟨_,rfl,_,"list",.ref C,_,rfl,ty6,hk,_,rfl,bL ?_⟩
  refine⟨_,rfl,_,rfl,B.b,CB,dx,_,_,rfl,b6,Y.cl,Y.n_rules,(dL _ _ _ _).2.1,_,rfl,B.ru,_,rfl,gY.k (k:=Sum.inr t) r6 (dD (by omega)),?_⟩
  have u7:∀b o,b≠B.ru->H6 b=some o->upd H6 B.ru (.dK (aS B.rus (.inr t:aA) (.ref a))) b=some o:=fun b o n z=>by rw[aH n];exact z
  have r7:upd H6 B.ru (.dK (aS B.rus (.inr t:aA) (.ref a))) B.ru=some (.dK (aS B.rus (.inr t:aA) (.ref a))):=aJ
  have n7:∀b,upd H6 B.ru (.dK (aS B.rus (.inr t:aA) (.ref a))) b=none->H6 b=none:=fun b z=>by
   have:b≠B.ru:=fun y=>by rw[y,aJ]at z;cases z
   rw[aH this]at z
   exact z
  generalize upd H6 B.ru (.dK (aS B.rus (.inr t:aA) (.ref a)))=H7 at u7 r7 n7|-
  have b7:=u7 _ _ (fun z=>by rw[z,r6]at b6;cases b6) b6
  have m7:=u7 _ _ sp.um.symm m6
  refine fun m hm=> ?_
  have s8:=aE.new (o:=.dK []) hm
  refine⟨_,rfl,B.b,CB,dx,_,_,rfl,s8 _ _ b7,Y.cl,Y.n_memory,(dL _ _ _ _).2.2.1,_,rfl,B.me,_,rfl,gY.k (k:=Sum.inr t) (s8 _ _ m7) (dD (by omega)),?_⟩
  have nmm:m≠B.me:=fun z=>by rw[z,m7]at hm;cases hm
  have u9:∀b o,b≠B.me->H7 b=some o->upd (upd H7 m (.dK [])) B.me (.dK (aS B.mes (.inr t:aA) (.ref m))) b=some o:=fun b o n z=>by
   rw[aH n]
   exact s8 _ _ z
  have e9:upd (upd H7 m (.dK [])) B.me (.dK (aS B.mes (.inr t:aA) (.ref m))) B.me=some (.dK (aS B.mes (.inr t:aA) (.ref m))):=aJ
  have d9:upd (upd H7 m (.dK [])) B.me (.dK (aS B.mes (.inr t:aA) (.ref m))) m=some (.dK []):=by rw[aH nmm,aJ]
  generalize upd (upd H7 m (.dK [])) B.me (.dK (aS B.mes (.inr t:aA) (.ref m)))=H9 at u9 e9 d9|-
  have up:∀b o,b≠B.od->b≠B.ru->b≠B.me->H b=some o->H9 b=some o:=fun b o n1 n2 n3 z=>u9 _ _ n3 (u7 _ _ n2 (u6 _ _ n1 z))
  obtain⟨⟨dt,t1⟩,t2,t3⟩:=id tb
  have nd3:∀{b:Addr} {o:HO},H b=some o->(∀kvs,o≠ .dK kvs)->b≠B.ru/\b≠B.me:=fun z n=>⟨fun y=>by rw[y,h3]at z;exact n _ (Option.some.inj z).symm,fun y=>by rw[y,h4]at z;exact n _ (Option.some.inj z).symm⟩
  have i1:=nd3 h1 (fun kvs z=>by cases z)
  have i2:=nd3 t1 (fun kvs z=>by cases z)
  have i3:=nd3 t2 (fun kvs z=>by cases z)
  have i5:=nd3 h5 (fun kvs z=>by cases z)
  refine q H9 m (n6 _ (n7 _ hm)).1 ⟨⟨dx,up _ _ (nl5 h1 (fun xs z=>by cases z)) i1.1 i1.2 h1⟩,⟨⟨dt,up _ _ (nl5 t1 (fun xs z=>by cases z)) i2.1 i2.2 t1⟩,up _ _ sp.ro i3.1 i3.2 t2,up _ _ (nl5 t3 (fun xs z=>by cases z)) sp.eu sp.em t3⟩,?_,e9,?_⟩ d9 up
  ·exact u9 _ _ sp.um r7
  ·exact u9 _ _ i5.2 (u7 _ _ i5.1 o6)
end
noncomputable def pU (bd:Addr) (nm:Str) (m:Nat):List (Str×V):=[("boards",V.ref bd),("name",V.str nm),("size",V.int (m:Int))]
theorem xV(bd:Addr)(nm:Str)(m:Nat):(pU bd nm m).lookup ("boards":Str)=some (.ref bd)/\(pU bd nm m).lookup ("name":Str)=some (.str nm)/\(pU bd nm m).lookup ("size":Str)=some (.int (m:Int))/\(pU bd nm m).lookup ("take":Str)=none:=⟨rfl,rfl,rfl,rfl⟩
noncomputable def mP (b:Addr) (t:Str) (a:Addr):List (Str×V):=[("board",V.ref b),("column",V.str t),("after",V.ref a),("before",V.non)]
theorem a6n(b:Addr)(t:Str)(a:Addr):(mP b t a).lookup ("board":Str)=some (.ref b)/\(mP b t a).lookup ("column":Str)=some (.str t)/\(mP b t a).lookup ("after":Str)=some (.ref a)/\(mP b t a).lookup ("take":Str)=none/\aO "before" .non (mP b t a)=mP b t a:=⟨rfl,rfl,rfl,rfl,rfl⟩
noncomputable def gR (b:Addr) (t:Str) (p:Nat) (v u:V):List (Str×V):=[("board",V.ref b),("column",V.str t),("place",V.int (p:Int)),("after",v),("before",u)]
theorem a1I(b:Addr)(t:Str)(p:Nat)(v u:V):(gR b t p v u).lookup ("board":Str)=some (.ref b)/\(gR b t p v u).lookup ("column":Str)=some (.str t)/\(gR b t p v u).lookup ("place":Str)=some (.int (p:Int))/\(gR b t p v u).lookup ("after":Str)=some v/\(gR b t p v u).lookup ("take":Str)=none/\∀u',aO "before" u' (gR b t p v u)=gR b t p v u':=⟨rfl,rfl,rfl,rfl,rfl,fun _=>rfl⟩
section
variable{P:Program}{w:World}{K:Fg}{mg:Str->Option Value}{base:Heap}
def b0H(C:Addr):Sp:=fun vs H Q _=>∃(p dx bd:Addr) (nm:Str) (m:Nat),vs= [.ref p,.ref bd,.str nm,.int (m:Int)] /\H p=some (.ins C dx [])/\∀H',bC p H H'->H' p=some (.ins C dx (pU bd nm m))->Q .non H'
theorem b6f:bG ["self","boards","name","size"] ["self","boards","name","size"] (aI wZ):=⟨rfl,rfl,rfl,by decide+kernel,rfl,by decide+kernel,by decide+kernel⟩
theorem sQ(T:bE K mg){C:Addr}(Y:nG K mg C):eU P w K mg base aF 1 C ["self","boards","name","size"] (b0H C):=by
 refine(Y.m_init.known b6f (fun _ _ _ _ _ _ us hl=>lH (fun _ _ _ _=>rfl) us hl) (fun vs H Q E h=> ?_) (fun f cdv A outer s H vs Q E hr h=> ?_)).init Y.mks Y.kc
 ·obtain⟨p,dx,bd,nm,m,rfl,_⟩:=h
  rfl
 ·obtain⟨p,dx,bd,nm,m,rfl,hp,q⟩:=h
  refine⟨_,(aK (dF (pv 0) (pv 1) rfl) (aK (dF (pv 0) (pv 2) rfl) (aL (dF (pv 0) (pv 3) rfl)))),?_⟩
  refine⟨_,rfl,_,rfl,p,C,dx,[],rfl,hp,Y.cl,Y.n_boards,(by show 0<1000;decide),?_⟩
  refine⟨_,rfl,_,rfl,p,C,dx,_,rfl,aJ,Y.cl,Y.n_name,(by show 1<1000;decide),?_⟩
  refine⟨_,rfl,_,rfl,p,C,dx,_,rfl,aJ,Y.cl,Y.n_size,(by show 2<1000;decide),?_⟩
  exact q _ (fun b o n z=>by rw[aH n,aH n,aH n];exact z) aJ
def a1q(C:Addr):Sp:=fun vs H Q _=>∃(p dx b a:Addr) (t:Str),vs= [.ref p,.ref b,.str t,.ref a] /\H p=some (.ins C dx [])/\∀H',bC p H H'->H' p=some (.ins C dx (mP b t a))->Q .non H'
theorem b4r:bG ["self","board","column","content"] ["self","board","column","content"] (aI uR):=⟨rfl,rfl,rfl,by decide+kernel,rfl,by decide+kernel,by decide+kernel⟩
theorem oW(T:bE K mg){C:Addr}(Y:mI K mg C):eU P w K mg base aF 1 C ["self","board","column","content"] (a1q C):=by
 refine(Y.m_init.known b4r (fun _ _ _ _ _ _ us hl=>lH (fun _ _ _ _=>rfl) us hl) (fun vs H Q E h=> ?_) (fun f cdv A outer s H vs Q E hr h=> ?_)).init Y.mks Y.kc
 ·obtain⟨p,dx,b,a,t,rfl,_⟩:=h
  rfl
 ·obtain⟨p,dx,b,a,t,rfl,hp,q⟩:=h
  refine⟨_,(aK (dF (pv 0) (pv 1) rfl) (aK (dF (pv 0) (pv 2) rfl) (aK (dF (pv 0) (pv 3) rfl) (aL (dF (pv 0) hW rfl))))),?_⟩
  refine⟨_,rfl,_,rfl,p,C,dx,[],rfl,hp,Y.cl,Y.n_board,(by show 0<1000;decide),?_⟩
  refine⟨_,rfl,_,rfl,p,C,dx,_,rfl,aJ,Y.cl,Y.n_column,(by show 1<1000;decide),?_⟩
  refine⟨_,rfl,_,rfl,p,C,dx,_,rfl,aJ,Y.cl,Y.n_after,(by show 2<1000;decide),?_⟩
  refine⟨_,rfl,p,C,dx,_,rfl,aJ,Y.cl,Y.n_before,(by show 3<1000;decide),?_⟩
  exact q _ (fun b o n z=>by rw[aH n,aH n,aH n,aH n];exact z) aJ
def b0y(C:Addr):Sp:=fun vs H Q _=>∃(p dx b:Addr) (t:Str) (i:Nat) (v:V),vs= [.ref p,.ref b,.str t,.int (i:Int),v] /\H p=some (.ins C dx [])/\∀H',bC p H H'->H' p=some (.ins C dx (gR b t i v .non))->Q .non H'
theorem b28:bG ["self","board","column","place","value"] ["self","board","column","place","value"] (aI uJ):=⟨rfl,rfl,rfl,by decide+kernel,rfl,by decide+kernel,by decide+kernel⟩
theorem wI(T:bE K mg){C:Addr}(Y:kT K mg C):eU P w K mg base aF 1 C ["self","board","column","place","value"] (b0y C):=by
 refine(Y.m_init.known b28 (fun _ _ _ _ _ _ us hl=>bi5 (fun _ _ _ _ _=>rfl) us hl) (fun vs H Q E h=> ?_) (fun f cdv A outer s H vs Q E hr h=> ?_)).init Y.mks Y.kc
 ·obtain⟨p,dx,b,t,i,v,rfl,_⟩:=h
  rfl
 ·obtain⟨p,dx,b,t,i,v,rfl,hp,q⟩:=h
  refine⟨_,(aK (dF (pv 0) (pv 1) rfl) (aK (dF (pv 0) (pv 2) rfl) (aK (dF (pv 0) (pv 3) rfl) (aK (dF (pv 0) (pv 4) rfl) (aL (dF (pv 0) hW rfl)))))),?_⟩
  refine⟨_,rfl,_,rfl,p,C,dx,[],rfl,hp,Y.cl,Y.n_board,(by show 0<1000;decide),?_⟩
  refine⟨_,rfl,_,rfl,p,C,dx,_,rfl,aJ,Y.cl,Y.n_column,(by show 1<1000;decide),?_⟩
  refine⟨_,rfl,_,rfl,p,C,dx,_,rfl,aJ,Y.cl,Y.n_place,(by show 2<1000;decide),?_⟩
  refine⟨_,rfl,_,rfl,p,C,dx,_,rfl,aJ,Y.cl,Y.n_after,(by show 3<1000;decide),?_⟩
  refine⟨_,rfl,p,C,dx,_,rfl,aJ,Y.cl,Y.n_before,(by show 4<1000;decide),?_⟩
  exact q _ (fun b o n z=>by rw[aH n,aH n,aH n,aH n,aH n];exact z) aJ
def spTT(C CB CT:Addr):Sp:=fun vs H Q _=>∃(p dx bd:Addr) (nm:Str) (m:Nat) (kb:List (aA×V)),vs= [.ref p] /\H p=some (.ins C dx (pU bd nm m))/\H bd=some (.dK kb)/\kb.length<100/\m<=30/\
 ∀H' b g r e ru me od,cD CB CT H' ⟨b,g,r,e,ru,me,od,fI 0 m,(m:Int),[],[],[],[]⟩ ->BM.sep ⟨b,g,r,e,ru,me,od,fI 0 m,(m:Int),[],[],[],[]⟩ ->(∀x∈ [b,g,r,e,ru,me,od],H x=none)->H' bd=some (.dK (aS kb (.inr nm:aA) (.ref b)))->(∀x o,x≠bd->H x=some o->H' x=some o)->Q .non H'
theorem b2O:bG ["self"] ["self"] (aI vB):=⟨rfl,rfl,rfl,by decide+kernel,rfl,by decide+kernel,by decide+kernel⟩
theorem wL(T:bE K mg){C CB CT:Addr}(Y:nG K mg C)(W:cO K mg CB)(Z:dO K mg CT):aT P w K mg base aF 7 C "take" ["self"] (spTT C CB CT):=by
 have GI:eU P w K mg base aF 5 CB ["self","many"] (b19 CB CT):=uS T W Z
 refine Y.m_take.known b2O (fun _ _ _ _ _ _ us hl=>fK (fun _=>rfl) us hl) (fun vs H Q E h=> ?_) (fun f cdv A outer s H vs Q E hr h=> ?_)
 ·obtain⟨p,dx,bd,nm,m,kb,rfl,_⟩:=h
  rfl
 ·obtain⟨p,dx,bd,nm,m,kb,rfl,hp,hb,kl,hm,q⟩:=h
  refine⟨_,(aL (jE (cU hr) (aX (pv 0) rfl) (aX (pv 0) rfl) (kZ GI hr W.c aR (aB (aX (pv 0) rfl) aG)) rfl)),?_⟩
  refine⟨_,rfl,p,C,dx,_,_,rfl,hp,Y.cl,Y.n_size,(xV _ _ _).2.2.1,?_⟩
  intro b db hb0 hdb ne
  refine⟨b,db,m,rfl,aJ,hm,fun H1 g r e ru me od hB sp fr fm=>⟨rfl,?_⟩⟩
  have s1:aE H H1:=fun x o z=>fm x o (by rw[aH (bA z hb0),aH (bA z hdb)];exact z) (bA z hb0)
  have fr':∀x∈ [b,g,r,e,ru,me,od],H x=none:=fun x hx=>by
   rcases List.mem_cons.mp hx with rfl|hx
   ·exact hb0
   ·have:=fr x hx
    by_cases z:x=b
    ·rw[z];exact hb0
    ·by_cases z2:x=db
     ·rw[z2];exact hdb
     ·rw[aH z,aH z2]at this;exact this
  refine⟨_,rfl,p,C,dx,_,_,rfl,s1 _ _ hp,Y.cl,Y.n_boards,(xV _ _ _).1,_,rfl,p,C,dx,_,_,rfl,s1 _ _ hp,Y.cl,Y.n_name,(xV _ _ _).2.1,bd,_,rfl,gY.k (k:=Sum.inr nm) (s1 _ _ hb) (dD (by omega)),?_⟩
  have nb:∀{x:Addr},x∈ [b,g,r,e,ru,me,od] ->x≠bd:=fun hx z=>by rw[<- z,fr' _ hx]at hb;cases hb
  have u:∀x o,x≠bd->H1 x=some o->upd H1 bd (.dK (aS kb (.inr nm:aA) (.ref b))) x=some o:=fun x o n z=>by rw[aH n];exact z
  obtain⟨⟨d1,e1⟩,⟨⟨d2,e2⟩,e3,e4⟩,e5,e6,e7⟩:=hB
  exact q _ b g r e ru me od ⟨⟨d1,u _ _ (nb (by simp)) e1⟩,⟨⟨d2,u _ _ (nb (by simp)) e2⟩,u _ _ (nb (by simp)) e3,u _ _ (nb (by simp)) e4⟩,u _ _ (nb (by simp)) e5,u _ _ (nb (by simp)) e6,u _ _ (nb (by simp)) e7⟩ sp fr' aJ (fun x o n z=>u _ _ n (s1 _ _ z))
def xR(C CB CT:Addr)(sp:Sp):Sp:=fun vs H Q _=>∃(p dx a:Addr) (B:BM) (t:Str),vs= [.ref p] /\H p=some (.ins C dx (mP B.b t a))/\cD CB CT H B/\qZ B t/\sp [.ref B.b,.str t,.ref a] H (fun _ H'=>Q .non H') E0
theorem b7i:bG ["self"] ["self"] (aI uY):=⟨rfl,rfl,rfl,by decide+kernel,rfl,by decide+kernel,by decide+kernel⟩
theorem qW(T:bE K mg){C CB CT:Addr}(Y:mI K mg C)(W:cO K mg CB){sp:Sp}(G:aT P w K mg base aF 6 CB "set_column" ["self","column","content"] sp):aT P w K mg base aF 7 C "take" ["self"] (xR C CB CT sp):=by
 have G_content:aT P w K mg base aF 2 CB "content" ["self","column"] (vY CB CT):=sC T W
 refine Y.m_take.known b7i (fun _ _ _ _ _ _ us hl=>fK (fun _=>rfl) us hl) (fun vs H Q E h=> ?_) (fun f cdv A outer s H vs Q E hr h=> ?_)
 ·obtain⟨p,dx,a,B,t,rfl,_⟩:=h
  rfl
 ·obtain⟨p,dx,a,B,t,rfl,hp,hB,hn,q⟩:=h
  refine⟨_,(aK (dF (pv 0) (bZ (aX (pv 0) rfl) W.cl G_content (hr.mono (by decide)) aR (aB (aX (pv 0) rfl) aG)) rfl)
   (aL (bY (bZ (aX (pv 0) rfl) W.cl G hr aR (aB (aX (pv 0) rfl) (aB (aX (pv 0) rfl) aG)))))),?_⟩
  obtain⟨c1,c2,c3,c4,c5⟩:=a6n B.b t a
  obtain⟨dB,h1⟩:=hB.at_
  refine⟨_,rfl,p,C,dx,_,_,rfl,hp,Y.cl,Y.n_board,c1,B.b,dB,_,rfl,h1,nY,_,rfl,p,C,dx,_,_,rfl,hp,Y.cl,Y.n_column,c2,B,t,rfl,hB,hn,?_⟩
  refine⟨_,rfl,p,C,dx,_,rfl,hp,Y.cl,Y.n_before,(by show 4<1000;decide),?_⟩
  rw[c5,b3R hp]
  exact⟨_,rfl,p,C,dx,_,_,rfl,hp,Y.cl,Y.n_board,c1,B.b,dB,_,rfl,h1,nY,_,rfl,p,C,dx,_,_,rfl,hp,Y.cl,Y.n_column,c2,_,rfl,p,C,dx,_,_,rfl,hp,Y.cl,Y.n_after,c3,q⟩
def spVP(K:Fg)(C CB CT:Addr):Sp:=fun vs H Q _=>∃(p dx l:Addr) (B:BM) (t:Str) (i:Nat) (v u:V) (d:PyData) (ys:List V),vs= [.ref p] /\H p=some (.ins C dx (gR B.b t i v u))/\cD CB CT H B/\Nl t/\aM B.kvs (.inr t:aA)=some (.ref l)/\H l=some (.lst ys)/\i<B.xs.length/\ys.length=B.xs.length/\Pv K H v d/\
 ∀H',(∀x o,x≠p->x≠l->H x=some o->H' x=some o)->H' l=some (.lst (ys.set i v))->Q .non H'
theorem b4z:bG ["self"] ["self"] (aI vX):=⟨rfl,rfl,rfl,by decide+kernel,rfl,by decide+kernel,by decide+kernel⟩
theorem rS(T:bE K mg){C CB CT:Addr}(Y:kT K mg C)(W:cO K mg CB)(Z:dO K mg CT):aT P w K mg base aF 7 C "take" ["self"] (spVP K C CB CT):=by
 have G_at:aT P w K mg base aF 3 CT "at" ["self","column","place"] (spAt CT):=qN T Z
 have G_put:aT P w K mg base aF 5 CT "put" ["self","column","place","value"] (b1J K CT):=vP T Z
 refine Y.m_take.known b4z (fun _ _ _ _ _ _ us hl=>fK (fun _=>rfl) us hl) (fun vs H Q E h=> ?_) (fun f cdv A outer s H vs Q E hr h=> ?_)
 ·obtain⟨p,dx,l,B,t,i,v,u,d,ys,rfl,_⟩:=h
  rfl
 ·obtain⟨p,dx,l,B,t,i,v,u,d,ys,rfl,hp,hB,ht,hv,hl,hi,ly,hpv,q⟩:=h
  refine⟨_,(aK (dF (pv 0) (bZ (aX (aX (pv 0) rfl) rfl) Z.cl G_at (hr.mono (by decide)) aR (aB (aX (pv 0) rfl) (aB (aX (pv 0) rfl) aG))) rfl)
   (aL (bY (bZ (aX (aX (pv 0) rfl) rfl) Z.cl G_put (hr.mono (by decide)) aR (aB (aX (pv 0) rfl) (aB (aX (pv 0) rfl) (aB (aX (pv 0) rfl) aG))))))),?_⟩
  obtain⟨c1,c2,c3,c4,c5,c6⟩:=a1I B.b t i v u
  obtain⟨⟨dB,h1⟩,tb,_,_,_⟩:=id hB
  obtain⟨⟨dT,t1⟩,_,_⟩:=id tb
  obtain⟨x0,hx0⟩:∃x0,cG ys (i:Int)=some x0:=by
   obtain⟨x0,e1,_⟩:=b2W ys (i:Int) (by omega) (by omega)
   exact⟨x0,e1⟩
  refine⟨_,rfl,p,C,dx,_,_,rfl,hp,Y.cl,Y.n_board,c1,B.b,CB,dB,_,_,rfl,h1,W.cl,W.n_given,(dL _ _ _ _).1,B.g,dT,_,rfl,t1,iN,_,rfl,p,C,dx,_,_,rfl,hp,Y.cl,Y.n_column,c2,_,rfl,p,C,dx,_,_,rfl,hp,Y.cl,Y.n_place,c3,B.g,B.r,B.e,B.xs,B.n,B.kvs,t,l,ys,i,x0,rfl,tb,ht,hv,hl,hi,hx0,fun H1 s1=> ?_⟩
  refine⟨_,rfl,p,C,dx,_,rfl,s1 _ _ hp,Y.cl,Y.n_before,(by show 5<1000;decide),?_⟩
  rw[c6]
  obtain⟨c1,c2,c3,c4,c5,c6⟩:=a1I B.b t i v x0
  have u2:∀x o,x≠p->H1 x=some o->upd H1 p (.ins C dx (gR B.b t i v x0)) x=some o:=fun x o n z=>by rw[aH n];exact z
  have p2:upd H1 p (.ins C dx (gR B.b t i v x0)) p=some (.ins C dx (gR B.b t i v x0)):=aJ
  have kt:cJ H1 (upd H1 p (.ins C dx (gR B.b t i v x0))):=cJ.upd (s1 _ _ hp) (fun xs z=>by cases z)
  generalize upd H1 p (.ins C dx (gR B.b t i v x0))=H2 at u2 p2 kt|-
  have npb:B.b≠p:=(a8e hp h1 (by simp[gR,jF,lD])).symm
  have npg:B.g≠p:=(a8e hp t1 (by simp[gR,jF,lD])).symm
  have np:∀{x:Addr} {o:HO},H x=some o->(∀C dx fs,o≠ .ins C dx fs)->x≠p:=fun z n y=>by rw[y,hp]at z;exact n _ _ _ (Option.some.inj z).symm
  have b2:=u2 _ _ npb (s1 _ _ h1)
  have g2:=u2 _ _ npg (s1 _ _ t1)
  obtain⟨_,tr,te⟩:=id tb
  have tb2:jD CT H2 B.g B.r B.e B.xs B.n B.kvs:=⟨⟨dT,g2⟩,u2 _ _ (np tr (fun _ _ _ z=>by cases z)) (s1 _ _ tr),u2 _ _ (np te (fun _ _ _ z=>by cases z)) (s1 _ _ te)⟩
  refine⟨_,rfl,p,C,dx,_,_,rfl,p2,Y.cl,Y.n_board,c1,B.b,CB,dB,_,_,rfl,b2,W.cl,W.n_given,(dL _ _ _ _).1,B.g,dT,_,rfl,g2,iN,_,rfl,p,C,dx,_,_,rfl,p2,Y.cl,Y.n_column,c2,_,rfl,p,C,dx,_,_,rfl,p2,Y.cl,Y.n_place,c3,_,rfl,p,C,dx,_,_,rfl,p2,Y.cl,Y.n_after,c4,B.g,B.r,B.e,B.xs,B.n,B.kvs,t,l,ys,i,v,d,rfl,tb2,ht,hv,u2 _ _ (np hl (fun _ _ _ z=>by cases z)) (s1 _ _ hl),hi,by omega,(hpv.same s1).keep kt,fun H3 s3=> ?_⟩
  exact q _ (fun x o n1 n2 z=>by rw[aH n2];exact s3 _ _ (u2 _ _ n1 (s1 _ _ z))) aJ
end
def dG(bd ch fi:Addr):List (Str×V):=[("boards",V.ref bd),("changes",V.ref ch),("finder",V.ref fi)]
theorem lL(bd ch fi:Addr):(dG bd ch fi).lookup ("boards":Str)=some (.ref bd)/\(dG bd ch fi).lookup ("changes":Str)=some (.ref ch)/\(dG bd ch fi).lookup ("finder":Str)=some (.ref fi)/\∀fi',aO "finder" (.ref fi') (dG bd ch fi)=dG bd ch fi':=⟨rfl,rfl,rfl,fun _=>rfl⟩
theorem fA{bd ch fi:Addr}{m:Str}(h:(m==("boards":Str)||m==("changes":Str)||m==("finder":Str))=false:=by decide+kernel):(dG bd ch fi).lookup m=none:=by
 simp only[Bool.or_eq_false_iff]at h
 obtain⟨⟨h1,h2⟩,h3⟩:=h
 unfold dG
 simp[List.lookup,h1,h2,h3]
def fX(bd fd lk:Addr):List (Str×V):=[("boards",V.ref bd),("found",V.ref fd),("looked",V.ref lk)]
theorem jS(bd fd lk:Addr):(fX bd fd lk).lookup ("boards":Str)=some (.ref bd)/\(fX bd fd lk).lookup ("found":Str)=some (.ref fd)/\(fX bd fd lk).lookup ("looked":Str)=some (.ref lk):=⟨rfl,rfl,rfl⟩
theorem lU{bd fd lk:Addr}{m:Str}(h:(m==("boards":Str)||m==("found":Str)||m==("looked":Str))=false:=by decide+kernel):(fX bd fd lk).lookup m=none:=by
 simp only[Bool.or_eq_false_iff]at h
 obtain⟨⟨h1,h2⟩,h3⟩:=h
 unfold fX
 simp[List.lookup,h1,h2,h3]
section
variable{P:Program}{w:World}{K:Fg}{mg:Str->Option Value}{base:Heap}
def spFI(C:Addr):Sp:=fun vs H Q _=>∃(p dx bd:Addr),vs= [.ref p,.ref bd] /\H p=some (.ins C dx [])/\
 ∀H' fd lk,H fd=none->H lk=none->fd≠lk->H' p=some (.ins C dx (fX bd fd lk))->H' fd=some (.dT [])->H' lk=some (.dT [])->bC p H H'->Q .non H'
theorem b5r:bG ["self","boards"] ["self","boards"] (aI uI):=⟨rfl,rfl,rfl,by decide+kernel,rfl,by decide+kernel,by decide+kernel⟩
theorem pW(T:bE K mg){C:Addr}(Y:eL K mg C):eU P w K mg base aF 1 C ["self","boards"] (spFI C):=by
 refine(Y.m_init.known b5r (fun _ _ _ _ _ _ us hl=>eG (fun _ _=>rfl) us hl) (fun vs H Q E h=> ?_) (fun f cdv A outer s H vs Q E hr h=> ?_)).init Y.mks Y.kc
 ·obtain⟨p,dx,bd,rfl,_⟩:=h
  rfl
 ·obtain⟨p,dx,bd,rfl,hp,q⟩:=h
  refine⟨_,(aK (dF (pv 0) (pv 1) rfl) (aK (dF (pv 0) rL rfl) (aL (dF (pv 0) rL rfl)))),?_⟩
  refine⟨_,rfl,_,rfl,p,C,dx,[],rfl,hp,Y.cl,Y.n_boards,(by show 0<1000;decide),?_⟩
  have u1:∀b o,b≠p->H b=some o->upd H p (.ins C dx (aO "boards" (.ref bd) [])) b=some o:=fun b o n z=>by rw[aH n];exact z
  have p1:upd H p (.ins C dx (aO "boards" (.ref bd) [])) p=some (.ins C dx (aO "boards" (.ref bd) [])):=aJ
  have n1:∀b,upd H p (.ins C dx (aO "boards" (.ref bd) [])) b=none->H b=none/\b≠p:=fun b z=>by
   have:b≠p:=fun y=>by rw[y,aJ]at z;cases z
   rw[aH this]at z
   exact⟨z,this⟩
  generalize upd H p (.ins C dx (aO "boards" (.ref bd) []))=H1 at u1 p1 n1|-
  refine fun fd hfd=> ?_
  have s2:=aE.new (o:=.dT []) hfd
  have h2:upd H1 fd (.dT []) fd=some (.dT []):=aJ
  have n2:∀b,upd H1 fd (.dT []) b=none->H1 b=none/\b≠fd:=fun b z=>by
   have:b≠fd:=fun y=>by rw[y,aJ]at z;cases z
   rw[aH this]at z
   exact⟨z,this⟩
  refine⟨_,rfl,p,C,dx,_,rfl,s2 _ _ p1,Y.cl,Y.n_found,(by show 1<1000;decide),?_⟩
  have hf:=n1 _ hfd
  generalize upd H1 fd (.dT [])=H2 at s2 h2 n2|-
  have u3:∀b o,b≠p->H2 b=some o->upd H2 p (.ins C dx (aO "found" (.ref fd) (aO "boards" (.ref bd) []))) b=some o:=fun b o n z=>by rw[aH n];exact z
  have p3:upd H2 p (.ins C dx (aO "found" (.ref fd) (aO "boards" (.ref bd) []))) p=some (.ins C dx (aO "found" (.ref fd) (aO "boards" (.ref bd) []))):=aJ
  have n3:∀b,upd H2 p (.ins C dx (aO "found" (.ref fd) (aO "boards" (.ref bd) []))) b=none->H2 b=none/\b≠p:=fun b z=>by
   have:b≠p:=fun y=>by rw[y,aJ]at z;cases z
   rw[aH this]at z
   exact⟨z,this⟩
  generalize upd H2 p (.ins C dx (aO "found" (.ref fd) (aO "boards" (.ref bd) [])))=H3 at u3 p3 n3|-
  refine fun lk hlk=> ?_
  have s4:=aE.new (o:=.dT []) hlk
  have h4:upd H3 lk (.dT []) lk=some (.dT []):=aJ
  refine⟨_,rfl,p,C,dx,_,rfl,s4 _ _ p3,Y.cl,Y.n_looked,(by show 2<1000;decide),?_⟩
  have k3:=n3 _ hlk
  have k2:=n2 _ k3.1
  have k1:=n1 _ k2.1
  generalize upd H3 lk (.dT [])=H4 at s4 h4|-
  exact q _ fd lk hf.1 k1.1 k2.2.symm aJ (by rw[aH hf.2];exact s4 _ _ (u3 _ _ hf.2 h2)) (by rw[aH k1.2];exact h4) (fun b o n z=>by rw[aH n];exact s4 _ _ (u3 _ _ n (s2 _ _ (u1 _ _ n z))))
def uM(CS CF C:Addr)(sp:Sp):Sp:=fun vs H Q _=>∃(s c bd ch fi dx dc:Addr) (cs:List V) (fs:List (Str×V)),vs= [.ref s,.ref c] /\H c=some (.ins C dc fs)/\fs.lookup ("take":Str)=none/\
 sp [.ref c] H (fun _ H1=>H1 s=some (.ins CS dx (dG bd ch fi))/\H1 ch=some (.lst cs)/\cs.length<900/\∀H2 fi' fd lk df,H1 fi'=none->H1 fd=none->H1 lk=none->fd≠lk->H2 s=some (.ins CS dx (dG bd ch fi'))->H2 ch=some (.lst (cs++ [.ref c]))->H2 fi'=some (.ins CF df (fX bd fd lk))->H2 fd=some (.dT [])->H2 lk=some (.dT [])->
  (∀x o,x≠s->x≠ch->H1 x=some o->H2 x=some o)->Q .non H2) E0
theorem b4o:bG ["self","change"] ["self","change"] (aI sZ):=⟨rfl,rfl,rfl,by decide+kernel,rfl,by decide+kernel,by decide+kernel⟩
def kN(sp:Sp):Prop:=∀vs H (Q Q':VK),(∀v H',Q v H'->Q' v H')->sp vs H Q E0->sp vs H Q' E0
theorem mJ(T:bE K mg){CS CF C:Addr}(Y:eT K mg CS)(Z:eL K mg CF)(cl:dJ K C){sp:Sp}(mono:kN sp)(G:aT P w K mg base aF 7 C "take" ["self"] sp):aT P w K mg base aF 8 CS "make" ["self","change"] (uM CS CF C sp):=by
 have GI:eU P w K mg base aF 1 CF ["self","boards"] (spFI CF):=pW T Z
 refine Y.m_make.known b4o (fun _ _ _ _ _ _ us hl=>eG (fun _ _=>rfl) us hl) (fun vs H Q E h=> ?_) (fun f cdv A outer s H vs Q E hr h=> ?_)
 ·obtain⟨s',c,bd,ch,fi,dx,dc,cs,fs,rfl,_⟩:=h
  rfl
 ·obtain⟨s',c,bd,ch,fi,dx,dc,cs,fs,rfl,hc,hf,q⟩:=h
  refine⟨_,(aK (bY (mO (pv 1) cl G hr aR))
   (aK (bY (iC PySem.F.plainAttrs_list PySem.F.slot_list_append PySem.F.type_list_append gQ (aX (pv 0) rfl) (aB (pv 1) aG)))
   (aL (dF (pv 0) (kZ GI (hr.mono (by decide)) Z.c aR (aB (aX (pv 0) rfl) aG)) rfl)))),?_⟩
  refine⟨_,rfl,c,dc,fs,rfl,hc,hf,?_⟩
  refine mono _ _ _ _ (fun v0 H1 hQ=> ?_) q
  obtain⟨h1,h2,l9,qq⟩:=hQ
  obtain⟨a1,a2,a3,a4⟩:=lL bd ch fi
  refine⟨_,rfl,s',CS,dx,_,_,rfl,h1,Y.cl,Y.n_changes,a2,.inl ⟨rfl,_,aN.of h2⟩,_,rfl,ch,_,_,rfl,rfl,h2,dD (by omega),?_⟩
  have nsc:s'≠ch:=fun z=>by rw[z,h2]at h1;cases h1
  have u2:∀x o,x≠ch->H1 x=some o->upd H1 ch (.lst (cs++ [.ref c])) x=some o:=fun x o n z=>by rw[aH n];exact z
  have c2:upd H1 ch (.lst (cs++ [.ref c])) ch=some (.lst (cs++ [.ref c])):=aJ
  have n2:∀b,upd H1 ch (.lst (cs++ [.ref c])) b=none->H1 b=none/\b≠ch:=fun b z=>by
   have:b≠ch:=fun y=>by rw[y,aJ]at z;cases z
   rw[aH this]at z
   exact⟨z,this⟩
  generalize upd H1 ch (.lst (cs++ [.ref c]))=H2 at u2 c2 n2|-
  have s2:=u2 _ _ nsc h1
  refine⟨_,rfl,s',CS,dx,_,_,rfl,s2,Y.cl,Y.n_boards,a1,?_⟩
  intro fi' df hfi hdf ne
  refine⟨fi',df,bd,rfl,aJ,fun H3 fd lk hfd hlk nfl g1 g2 g3 b3=>⟨rfl,?_⟩⟩
  have s3:aE H2 H3:=fun b o z=>b3 b o (bA z hfi) (by rw[aH (bA z hfi),aH (bA z hdf)];exact z)
  have fr:∀{x:Addr},upd (upd H2 df (.own fi')) fi' (.ins CF df []) x=none->H2 x=none:=fun{x} z=>by
   by_cases z1:x=fi'
   ·rw[z1];exact hfi
   ·by_cases z2:x=df
    ·rw[z2];exact hdf
    ·rw[aH z1,aH z2]at z;exact z
  refine⟨_,rfl,s',CS,dx,_,rfl,s3 _ _ s2,Y.cl,Y.n_finder,(by show 3<1000;decide),?_⟩
  rw[a4]
  have ns:∀{x:Addr},H2 x=none->x≠s':=fun z y=>by rw[y,s2]at z;cases z
  exact qq _ fi' fd lk df (n2 _ hfi).1 (n2 _ (fr hfd)).1 (n2 _ (fr hlk)).1 nfl aJ (by rw[aH nsc.symm];exact s3 _ _ c2) (by rw[aH (ns hfi)];exact g1) (by rw[aH (ns (fr hfd))];exact g2) (by rw[aH (ns (fr hlk))];exact g3) (fun x o n1 n2' z=>by rw[aH n1];exact s3 _ _ (u2 _ _ n2' z))
def xT(CS CB CT:Addr):Sp:=fun vs H Q _=>∃(s bd ch fi dx:Addr) (kb:List (aA×V)) (nm:Str) (v:V),vs= [.ref s,.str nm] /\H s=some (.ins CS dx (dG bd ch fi))/\H bd=some (.dK kb)/\Nl nm/\aM kb (.inr nm:aA)=some v/\∀H',aE H H'->Q v H'
theorem b6q:bG ["self","table"] ["self","table"] (aI sR):=⟨rfl,rfl,rfl,by decide+kernel,rfl,by decide+kernel,by decide+kernel⟩
theorem nR(T:bE K mg){CS CB CT:Addr}(Y:eT K mg CS):aT P w K mg base aF 2 CS "board_of" ["self","table"] (xT CS CB CT):=by
 have G_is_name:bJ P w K mg base aF 1 "is_name" ["thing"] (lN K):=jJ T
 refine Y.m_board_of.known b6q (fun _ _ _ _ _ _ us hl=>eG (fun _ _=>rfl) us hl) (fun vs H Q E h=> ?_) (fun f cdv A outer s H vs Q E hr h=> ?_)
 ·obtain⟨s',bd,ch,fi,dx,kb,nm,v,rfl,_⟩:=h
  rfl
 ·obtain⟨s',bd,ch,fi,dx,kb,nm,v,rfl,h1,h2,ht,hv,q⟩:=h
  refine⟨_,(aK (bM (PW.pt (iW (fE (dZ (bU G_is_name (hr.mono (by decide)) aR (aB (pv 1) aG)) (fun _=>rfl))) (kD (iV (lO (cU hr) (pv 1) (aX (pv 0) rfl)))))) (aL cQ) bS)
   (aL (bP (eE (cU hr) (aX (pv 0) rfl) (pv 1) (fun _ _=>rfl))))),?_⟩
  have h8:=ht.2.1
  refine⟨_,rfl,_,.str nm,rfl,.str nm,lM (by omega),fun H' s9=>⟨_,rfl,?_⟩⟩
  rw[show fO (.str nm)=true from ht.name]
  refine bL ⟨_,rfl,_,rfl,s',CS,dx,_,_,rfl,s9 _ _ h1,Y.cl,Y.n_boards,(lL _ _ _).1,bd,_,rfl,bQ.k (k:=Sum.inr nm) (s9 _ _ h2),_,rfl,?_⟩
  rw[hv]
  exact bL ⟨_,rfl,s',CS,dx,_,_,rfl,s9 _ _ h1,Y.cl,Y.n_boards,(lL _ _ _).1,_,rfl,bd,v,rfl,hv▸bQ.k (k:=Sum.inr nm) (s9 _ _ h2),q _ s9⟩
def a0f(CS CB CT:Addr):Sp:=fun vs H Q _=>∃(s bd ch fi dx:Addr) (kb:List (aA×V)) (nm t:Str) (B:BM),vs= [.ref s,.str nm,.str t] /\H s=some (.ins CS dx (dG bd ch fi))/\H bd=some (.dK kb)/\Nl nm/\aM kb (.inr nm:aA)=some (.ref B.b)/\cD CB CT H B/\Nl t/\t∈B.ord/\∀H',aE H H'->Q (.ref B.b) H'
theorem b0s:bG ["self","table","column","board"] ["self","table","column"] (aI xK):=⟨rfl,rfl,rfl,by decide+kernel,rfl,by decide+kernel,by decide+kernel⟩
theorem oG(T:bE K mg){CS CB CT:Addr}(Y:eT K mg CS)(W:cO K mg CB):aT P w K mg base aF 3 CS "board_with" ["self","table","column"] (a0f CS CB CT):=by
 have G_of:aT P w K mg base aF 2 CS "board_of" ["self","table"] (xT CS CB CT):=nR T Y
 have G_has:aT P w K mg base aF 2 CB "has_column" ["self","column"] (a1R CB CT):=qD T W
 refine Y.m_board_with.known b0s (fun _ _ _ _ _ _ us hl=>hV (fun _ _ _=>rfl) us hl) (fun vs H Q E h=> ?_) (fun f cdv A outer s H vs Q E hr h=> ?_)
 ·obtain⟨s',bd,ch,fi,dx,kb,nm,t,B,rfl,_⟩:=h
  rfl
 ·obtain⟨s',bd,ch,fi,dx,kb,nm,t,B,rfl,h1,h2,hn,hv,hB,ht,ho,q⟩:=h
  refine⟨_,(aK (bN (i:=3) b0s.nd rfl (Or.inl rfl) (bZ (pv 0) Y.cl G_of hr aR (aB (pv 1) aG)))
   (aK (bM (fE (dZ (bZ (pv 3) W.cl G_has hr aR (aB (pv 2) aG)) (fun _=>rfl))) (aL cQ) bS)
   (aL (bP (pv 3))))),?_⟩
  refine⟨_,rfl,s',dx,_,rfl,h1,fA,_,rfl,s',bd,ch,fi,dx,kb,nm,_,rfl,h1,h2,hn,hv,fun H1 s1=> ?_⟩
  have hB1:=hB.same s1
  obtain⟨dB,b1⟩:=hB1.at_
  refine⟨_,rfl,B.b,dB,_,rfl,b1,nY,_,rfl,B,t,rfl,hB1,ht,fun H2 s2=>⟨_,rfl,?_⟩⟩
  rw[decide_eq_true ho]
  exact bL ⟨_,rfl,q _ (s1.trans s2)⟩
def a8M(CS CB CT:Addr):Sp:=fun vs H Q _=>∃(s bd ch fi dx:Addr) (kb:List (aA×V)) (nm t:Str) (B:BM),vs= [.ref s,.str nm,.str t] /\H s=some (.ins CS dx (dG bd ch fi))/\H bd=some (.dK kb)/\Nl nm/\aM kb (.inr nm:aA)=some (.ref B.b)/\cD CB CT H B/\Nl t/\B.ord.length<8/\∀H',aE H H'->Q (.ref B.b) H'
theorem b0X:bG ["self","table","column","board"] ["self","table","column"] (aI wO):=⟨rfl,rfl,rfl,by decide+kernel,rfl,by decide+kernel,by decide+kernel⟩
theorem pF(T:bE K mg){CS CB CT:Addr}(Y:eT K mg CS)(W:cO K mg CB):aT P w K mg base aF 3 CS "board_for" ["self","table","column"] (a8M CS CB CT):=by
 have G_of:aT P w K mg base aF 2 CS "board_of" ["self","table"] (xT CS CB CT):=nR T Y
 have G_is_name:bJ P w K mg base aF 1 "is_name" ["thing"] (lN K):=jJ T
 refine Y.m_board_for.known b0X (fun _ _ _ _ _ _ us hl=>hV (fun _ _ _=>rfl) us hl) (fun vs H Q E h=> ?_) (fun f cdv A outer s H vs Q E hr h=> ?_)
 ·obtain⟨s',bd,ch,fi,dx,kb,nm,t,B,rfl,_⟩:=h
  rfl
 ·obtain⟨s',bd,ch,fi,dx,kb,nm,t,B,rfl,h1,h2,hn,hv,hB,ht,ho,q⟩:=h
  refine⟨_,(aK (bN (i:=3) b0X.nd rfl (Or.inl rfl) (bZ (pv 0) Y.cl G_of hr aR (aB (pv 1) aG)))
   (aK (bM (fE (dZ (bU G_is_name (hr.mono (by decide)) aR (aB (pv 2) aG)) (fun _=>rfl))) (aL cQ) bS)
   (aK (bM (PW.pt (qX (dE a8D (pv 2) (aX (pv 3) rfl) (by with_unfolding_all rfl)) (qM (dE a8N (dN kR rfl T.len jG (aB (aX (pv 3) rfl) aG)) (qK T.g_MOST_COLUMNS) (dH _))))) (aL cQ) bS)
   (aL (bP (pv 3)))))),?_⟩
  refine⟨_,rfl,s',dx,_,rfl,h1,fA,_,rfl,s',bd,ch,fi,dx,kb,nm,_,rfl,h1,h2,hn,hv,fun H1 s1=> ?_⟩
  have h8:=ht.2.1
  refine⟨_,rfl,_,.str t,rfl,.str t,lM (by omega),fun H2 s2=>⟨_,rfl,?_⟩⟩
  rw[show fO (.str t)=true from ht.name]
  obtain⟨⟨dB,b1⟩,_,_,_,o1⟩:=(hB.same s1).same s2
  refine bL ⟨_,rfl,_,rfl,B.b,CB,dB,_,_,rfl,b1,W.cl,W.n_order,(dL _ _ _ _).2.2.2,B.od,_,rfl,.inl (aN.of o1),rfl,oF _,_,rfl,?_⟩
  have fin:Q (.ref B.b) H2:=q _ (s1.trans s2)
  refine eR (fun _=> ?_) (fun _=> ?_)
  ·refine⟨_,rfl,B.b,CB,dB,_,_,rfl,b1,W.cl,W.n_order,(dL _ _ _ _).2.2.2,_,_,rfl,.inl ⟨_,aN.of o1,rfl⟩,_,_,rfl,rfl,_,rfl,?_⟩
   rw[List.length_map,decide_eq_false (show¬(B.ord.length:Int)>=8 by omega)]
   exact bL ⟨_,rfl,fin⟩
  ·exact bL ⟨_,rfl,fin⟩
end
abbrev Ky:=List aA
def aW(t c:Str)(p:Nat):Ky:=[.inr t,.inr c,.inl (p:Int)]
structure dA(CF CB CT:Addr)(H:Hp)(fi bd fd lk:Addr)(nm:Str)(B:BM)(kf:List (Ky×V)):Prop where
 fin:∃dx,H fi=some (.ins CF dx (fX bd fd lk))
 bds:∃kb,H bd=some (.dK kb)/\aM kb (.inr nm:aA)=some (.ref B.b)
 B:cD CB CT H B
 fnd:H fd=some (.dT kf)
 len:kf.length<900
theorem dA.same{CF CB CT:Addr}{H H':Hp}{fi bd fd lk:Addr}{nm:Str}{B:BM}{kf:List (Ky×V)}(h:dA CF CB CT H fi bd fd lk nm B kf)(s:aE H H'):dA CF CB CT H' fi bd fd lk nm B kf:=
 ⟨let ⟨dx,e⟩:=h.fin;⟨dx,s _ _ e⟩,let ⟨kb,e1,e2⟩:=h.bds;⟨kb,s _ _ e1,e2⟩,h.B.same s,s _ _ h.fnd,h.len⟩
theorem dA.put{CF CB CT:Addr}{H H':Hp}{fi bd fd lk:Addr}{nm:Str}{B:BM}{kf kf':List (Ky×V)}(h:dA CF CB CT H fi bd fd lk nm B kf)(s:bC fd H H')(e:H' fd=some (.dT kf'))(l:kf'.length<900):dA CF CB CT H' fi bd fd lk nm B kf':=by
 have u:∀{x:Addr} {o:HO},H x=some o->(∀kvs,o≠ .dT kvs)->H' x=some o:=fun z n=>s _ _ (fun y=>by rw[y,h.fnd]at z;exact n _ (Option.some.inj z).symm) z
 obtain⟨dx,e1⟩:=h.fin
 obtain⟨kb,e2,e3⟩:=h.bds
 obtain⟨⟨d1,b1⟩,⟨⟨d2,b2⟩,b3,b4⟩,b5,b6,b7⟩:=h.B
 exact⟨⟨dx,u e1 (fun _ z=>by cases z)⟩,⟨kb,u e2 (fun _ z=>by cases z),e3⟩,⟨⟨d1,u b1 (fun _ z=>by cases z)⟩,⟨⟨d2,u b2 (fun _ z=>by cases z)⟩,u b3 (fun _ z=>by cases z),u b4 (fun _ z=>by cases z)⟩,u b5 (fun _ z=>by cases z),u b6 (fun _ z=>by cases z),u b7 (fun _ z=>by cases z)⟩,e,l⟩
section
variable{P:Program}{w:World}{K:Fg}{mg:Str->Option Value}{base:Heap}
def b0O(CF CB CT:Addr):Sp:=fun vs H Q _=>∃(fi bd fd lk ce l:Addr) (nm c:Str) (p:Nat) (B:BM) (kf:List (Ky×V)) (ys:List V) (v:V),vs= [.ref fi,.ref ce] /\dA CF CB CT H fi bd fd lk nm B kf/\H ce=some (.tup ((aW nm c p).map kV))/\aM B.rus (.inr c:aA)=none/\Nl c/\aM B.kvs (.inr c:aA)=some (.ref l)/\H l=some (.lst ys)/\p<B.xs.length/\cG ys (p:Int)=some v/\(∀v',aM kf (aW nm c p)=some v'->v'=v)/\kf.length<899/\
 ∀H' kf',(kf'=kf\/ kf'=aS kf (aW nm c p) v)->aM kf' (aW nm c p)=some v->dA CF CB CT H' fi bd fd lk nm B kf'->bC fd H H'->Q (.bl true) H'
theorem zU:bG ["self","cell","board"] ["self","cell"] (aI uU):=⟨rfl,rfl,rfl,by decide+kernel,rfl,by decide+kernel,by decide+kernel⟩
theorem b7M(T:bE K mg){CF CB CT:Addr}(Y:eL K mg CF)(W:cO K mg CB)(Z:dO K mg CT):aT P w K mg base aF 4 CF "knows" ["self","cell"] (b0O CF CB CT):=by
 have G_at:aT P w K mg base aF 3 CT "at" ["self","column","place"] (spAt CT):=qN T Z
 refine Y.m_knows.known zU (fun _ _ _ _ _ _ us hl=>eG (fun _ _=>rfl) us hl) (fun vs H Q E h=> ?_) (fun f cdv A outer s H vs Q E hr h=> ?_)
 ·obtain⟨fi,bd,fd,lk,ce,l,nm,c,p,B,kf,ys,v,rfl,_⟩:=h
  rfl
 ·obtain⟨fi,bd,fd,lk,ce,l,nm,c,p,B,kf,ys,v,rfl,hF,hce,hru,hc,hv,hl,hp,ha,hcon,kl,q⟩:=h
  have hu:=cU hr
  refine⟨_,(aK (bN (i:=2) zU.nd rfl (Or.inl rfl) (eE hu (aX (pv 0) rfl) (cT fL (pv 1) aY (fun _ _=>rfl)) (fun _ _=>rfl)))
   (aK (bM (PW.pt (qX (iV (lO hu (pv 1) (aX (pv 0) rfl))) (qM (iV (lO hu (cT fL (pv 1) aY (fun _ _=>rfl)) (aX (pv 2) rfl)))))) (aL (jE hu (aX (pv 0) rfl) (pv 1) (bZ (aX (pv 2) rfl) Z.cl G_at hr aR (aB (cT fL (pv 1) aY (fun _ _=>rfl)) (aB (cT fL (pv 1) aY (fun _ _=>rfl)) aG))) rfl)) bS)
   (aL (bP (xU (mT hu (pv 1) (aX (pv 0) rfl)) (by with_unfolding_all rfl)))))),?_⟩
  obtain⟨dx,e1⟩:=hF.fin
  obtain⟨kb,e2,e3⟩:=hF.bds
  obtain⟨⟨d1,b1⟩,tb,b5,_,_⟩:=id hF.B
  obtain⟨⟨d2,b2⟩,b3,b4⟩:=id tb
  have e4:=hF.fnd
  obtain⟨a1,a2,a3⟩:=jS bd fd lk
  refine⟨_,rfl,fi,CF,dx,_,_,rfl,e1,Y.cl,Y.n_boards,a1,_,rfl,ce,_,_,_,rfl,rfl,cF.of hce,rfl,bd,_,rfl,e3▸bQ.k (k:=Sum.inr nm) e2,?_⟩
  have dgf:∀{H':Hp} {kf':List (Ky×V)},H' fd=some (.dT kf')->H' ce=some (.tup ((aW nm c p).map kV))->bQ H' fd (.ref ce) (aM kf' (aW nm c p)):=fun e g=> .inr ⟨_,aW nm c p,ce,.inl e,rfl,g,rfl⟩
  refine⟨_,rfl,_,rfl,fi,CF,dx,_,_,rfl,e1,Y.cl,Y.n_found,a2,fd,_,rfl,dgf e4 hce,_,rfl,?_⟩
  cases hk:aM kf (aW nm c p)with
  |some v'=>
   obtain rfl:=hcon v' hk
   refine bL (bL ⟨_,rfl,_,rfl,fi,CF,dx,_,_,rfl,e1,Y.cl,Y.n_found,a2,fd,_,rfl,dgf e4 hce,?_⟩)
   rw[hk]
   exact q H kf (.inl rfl) hk hF (bC.of (aE.refl H))
  |none=>
   refine dM ⟨_,rfl,ce,_,_,_,rfl,rfl,cF.of hce,rfl,_,rfl,B.b,CB,d1,_,_,rfl,b1,W.cl,W.n_rules,(dL _ _ _ _).2.1,B.ru,_,rfl,bQ.k (k:=Sum.inr c) b5,_,rfl,?_⟩
   rw[hru]
   refine dM ⟨_,rfl,B.b,CB,d1,_,_,rfl,b1,W.cl,W.n_given,(dL _ _ _ _).1,B.g,d2,_,rfl,b2,iN,_,rfl,ce,_,_,_,rfl,rfl,cF.of hce,rfl,_,rfl,ce,_,_,_,rfl,rfl,cF.of hce,rfl,B.g,B.r,B.e,B.xs,B.n,B.kvs,c,l,ys,p,v,rfl,tb,hc,hv,hl,hp,ha,fun H1 s1=> ?_⟩
   have F1:=hF.same s1
   have c1:=s1 _ _ hce
   have nce:ce≠fd:=fun z=>by rw[z,e4]at hce;cases hce
   refine⟨_,rfl,fi,CF,dx,_,_,rfl,s1 _ _ e1,Y.cl,Y.n_found,a2,_,rfl,fd,_,rfl,.inr ⟨kf,aW nm c p,ce,F1.fnd,rfl,c1,dD (by omega),rfl⟩,?_⟩
   have vp:aM (aS kf (aW nm c p) v) (aW nm c p)=some v:=by rw[jV,if_pos rfl]
   have lp:=yF kf (aW nm c p) v
   have b2':bC fd H1 (upd H1 fd (.dT (aS kf (aW nm c p) v))):=fun b o n z=>by rw[aH n];exact z
   have F2:=F1.put b2' aJ (by omega)
   have c2:=b2' _ _ nce c1
   have f2:=F2.fnd
   generalize upd H1 fd (.dT (aS kf (aW nm c p) v))=H2 at b2' F2 c2 f2|-
   obtain⟨dx2,e12⟩:=F2.fin
   refine⟨_,rfl,_,rfl,fi,CF,dx2,_,_,rfl,e12,Y.cl,Y.n_found,a2,fd,_,rfl,dgf f2 c2,?_⟩
   rw[vp]
   exact q H2 _ (.inr rfl) vp F2 ((bC.of s1).trans b2')
def a46(CF CB CT:Addr):Sp:=fun vs H Q _=>∃(fi bd fd lk ce:Addr) (nm c:Str) (p:Nat) (B:BM) (kf:List (Ky×V)) (r:V),vs= [.ref fi,.ref ce] /\dA CF CB CT H fi bd fd lk nm B kf/\H ce=some (.tup ((aW nm c p).map kV))/\aM B.rus (.inr c:aA)=some r/\Q (.bl (aM kf (aW nm c p)).isSome) H
theorem b0K(T:bE K mg){CF CB CT:Addr}(Y:eL K mg CF)(W:cO K mg CB):aT P w K mg base aF 4 CF "knows" ["self","cell"] (a46 CF CB CT):=by
 refine Y.m_knows.known zU (fun _ _ _ _ _ _ us hl=>eG (fun _ _=>rfl) us hl) (fun vs H Q E h=> ?_) (fun f cdv A outer s H vs Q E hr h=> ?_)
 ·obtain⟨fi,bd,fd,lk,ce,nm,c,p,B,kf,r,rfl,_⟩:=h
  rfl
 ·obtain⟨fi,bd,fd,lk,ce,nm,c,p,B,kf,r,rfl,hF,hce,hru,q⟩:=h
  have hu:=cU hr
  refine⟨_,(aK (bN (i:=2) zU.nd rfl (Or.inl rfl) (eE hu (aX (pv 0) rfl) (cT fL (pv 1) aY (fun _ _=>rfl)) (fun _ _=>rfl)))
   (aK (bM (PW.pt (qX (iV (lO hu (pv 1) (aX (pv 0) rfl))) (qM (iV (lO hu (cT fL (pv 1) aY (fun _ _=>rfl)) (aX (pv 2) rfl)))))) (aL cQ) bS)
   (aL (bP (xU (mT hu (pv 1) (aX (pv 0) rfl)) (by with_unfolding_all rfl)))))),?_⟩
  obtain⟨dx,e1⟩:=hF.fin
  obtain⟨kb,e2,e3⟩:=hF.bds
  obtain⟨⟨d1,b1⟩,tb,b5,_,_⟩:=id hF.B
  have e4:=hF.fnd
  obtain⟨a1,a2,a3⟩:=jS bd fd lk
  refine⟨_,rfl,fi,CF,dx,_,_,rfl,e1,Y.cl,Y.n_boards,a1,_,rfl,ce,_,_,_,rfl,rfl,cF.of hce,rfl,bd,_,rfl,e3▸bQ.k (k:=Sum.inr nm) e2,?_⟩
  have dgf:bQ H fd (.ref ce) (aM kf (aW nm c p)):=.inr ⟨_,aW nm c p,ce,.inl e4,rfl,hce,rfl⟩
  refine⟨_,rfl,_,rfl,fi,CF,dx,_,_,rfl,e1,Y.cl,Y.n_found,a2,fd,_,rfl,dgf,_,rfl,?_⟩
  refine eR (fun _=> ?_) (fun _=> ?_)
  ·refine⟨_,rfl,ce,_,_,_,rfl,rfl,cF.of hce,rfl,_,rfl,B.b,CB,d1,_,_,rfl,b1,W.cl,W.n_rules,(dL _ _ _ _).2.1,B.ru,_,rfl,bQ.k (k:=Sum.inr c) b5,_,rfl,?_⟩
   rw[hru]
   exact bL ⟨_,rfl,_,rfl,fi,CF,dx,_,_,rfl,e1,Y.cl,Y.n_found,a2,fd,_,rfl,dgf,q⟩
  ·exact bL ⟨_,rfl,_,rfl,fi,CF,dx,_,_,rfl,e1,Y.cl,Y.n_found,a2,fd,_,rfl,dgf,q⟩
def lS(fi tl:Addr)(u:V):List (Str×V):=[("finder",V.ref fi),("looked",V.ref tl),("lacking",u)]
theorem a4F(fi tl:Addr)(u:V):(lS fi tl u).lookup ("finder":Str)=some (.ref fi)/\(lS fi tl u).lookup ("looked":Str)=some (.ref tl)/\(lS fi tl u).lookup ("lacking":Str)=some u/\(lS fi tl u).lookup ("look":Str)=none:=⟨rfl,rfl,rfl,rfl⟩
def b0c(C:Addr):Sp:=fun vs H Q _=>∃(p dx fi:Addr),vs= [.ref p,.ref fi] /\H p=some (.ins C dx [])/\
 ∀H' tl,H tl=none->H' p=some (.ins C dx (lS fi tl .non))->H' tl=some (.dT [])->bC p H H'->Q .non H'
theorem b5R:bG ["self","finder"] ["self","finder"] (aI wQ):=⟨rfl,rfl,rfl,by decide+kernel,rfl,by decide+kernel,by decide+kernel⟩
theorem tL(T:bE K mg){C:Addr}(Y:jI K mg C):eU P w K mg base aF 1 C ["self","finder"] (b0c C):=by
 refine(Y.m_init.known b5R (fun _ _ _ _ _ _ us hl=>eG (fun _ _=>rfl) us hl) (fun vs H Q E h=> ?_) (fun f cdv A outer s H vs Q E hr h=> ?_)).init Y.mks Y.kc
 ·obtain⟨p,dx,fi,rfl,_⟩:=h
  rfl
 ·obtain⟨p,dx,fi,rfl,hp,q⟩:=h
  refine⟨_,(aK (dF (pv 0) (pv 1) rfl) (aK (dF (pv 0) rL rfl) (aL (dF (pv 0) hW rfl)))),?_⟩
  refine⟨_,rfl,_,rfl,p,C,dx,[],rfl,hp,Y.cl,Y.n_finder,(by show 0<1000;decide),?_⟩
  have u1:∀b o,b≠p->H b=some o->upd H p (.ins C dx (aO "finder" (.ref fi) [])) b=some o:=fun b o n z=>by rw[aH n];exact z
  have p1:upd H p (.ins C dx (aO "finder" (.ref fi) [])) p=some (.ins C dx (aO "finder" (.ref fi) [])):=aJ
  have n1:∀b,upd H p (.ins C dx (aO "finder" (.ref fi) [])) b=none->H b=none/\b≠p:=fun b z=>by
   have:b≠p:=fun y=>by rw[y,aJ]at z;cases z
   rw[aH this]at z
   exact⟨z,this⟩
  generalize upd H p (.ins C dx (aO "finder" (.ref fi) []))=H1 at u1 p1 n1|-
  refine fun tl htl=> ?_
  have s2:=aE.new (o:=.dT []) htl
  have h2:upd H1 tl (.dT []) tl=some (.dT []):=aJ
  refine⟨_,rfl,p,C,dx,_,rfl,s2 _ _ p1,Y.cl,Y.n_looked,(by show 1<1000;decide),?_⟩
  have ht:=n1 _ htl
  generalize upd H1 tl (.dT [])=H2 at s2 h2|-
  refine⟨_,rfl,p,C,dx,_,rfl,aJ,Y.cl,Y.n_lacking,(by show 2<1000;decide),?_⟩
  exact q _ tl ht.1 aJ (by rw[aH ht.2,aH ht.2];exact h2) (fun b o n z=>by rw[aH n,aH n];exact s2 _ _ (u1 _ _ n z))
def a9L(CR CF CB CT:Addr):Sp:=fun vs H Q _=>∃(tr tl fi bd fd lk l dx:Addr) (nm c:Str) (p:Nat) (B:BM) (kf kt:List (Ky×V)) (ys:List V) (v:V),vs= [.ref tr,.str nm,.str c,.int (p:Int)] /\H tr=some (.ins CR dx (lS fi tl .non))/\H tl=some (.dT kt)/\kt.length<900/\tl≠fd/\dA CF CB CT H fi bd fd lk nm B kf/\aM B.rus (.inr c:aA)=none/\Nl c/\aM B.kvs (.inr c:aA)=some (.ref l)/\H l=some (.lst ys)/\p<B.xs.length/\cG ys (p:Int)=some v/\(∀v',aM kf (aW nm c p)=some v'->v'=v)/\kf.length<899/\
 ∀H' kf',(kf'=kf\/ kf'=aS kf (aW nm c p) v)->dA CF CB CT H' fi bd fd lk nm B kf'->H' tl=some (.dT (aS kt (aW nm c p) (.bl true)))->(∀x o,x≠fd->x≠tl->H x=some o->H' x=some o)->Q v H'
theorem b0M:bG ["self","table","column","place","cell"] ["self","table","column","place"] (aI vS):=⟨rfl,rfl,rfl,by decide+kernel,rfl,by decide+kernel,by decide+kernel⟩
theorem b6J(T:bE K mg){CR CF CB CT:Addr}(X:jI K mg CR)(Y:eL K mg CF)(W:cO K mg CB)(Z:dO K mg CT):aT P w K mg base aF 5 CR "look" ["self","table","column","place"] (a9L CR CF CB CT):=by
 have G_knows:aT P w K mg base aF 4 CF "knows" ["self","cell"] (b0O CF CB CT):=b7M T Y W Z
 refine X.m_look.known b0M (fun _ _ _ _ _ _ us hl=>lH (fun _ _ _ _=>rfl) us hl) (fun vs H Q E h=> ?_) (fun f cdv A outer s H vs Q E hr h=> ?_)
 ·obtain⟨tr,tl,fi,bd,fd,lk,l,dx,nm,c,p,B,kf,kt,ys,v,rfl,_⟩:=h
  rfl
 ·obtain⟨tr,tl,fi,bd,fd,lk,l,dx,nm,c,p,B,kf,kt,ys,v,rfl,htr,htl,ktl,ntf,hF,hru,hc,hv,hl,hp,ha,hcon,kl,q⟩:=h
  have hu:=cU hr
  refine⟨_,(aK (bN (i:=4) b0M.nd rfl (Or.inl rfl) (gO (aB (pv 1) (aB (pv 2) (aB (pv 3) aG)))))
   (aK (jE hu (aX (pv 0) rfl) (pv 4) nK rfl)
   (aK (bM (PW.pt (qX (dE qT (aX (pv 0) rfl) hW (dH _)) (qM (fE (dZ (bZ (aX (pv 0) rfl) Y.cl G_knows hr aR (aB (pv 4) aG)) (fun _=>rfl)))))) (aL cQ) bS)
   (aK (bM (dE qT (aX (pv 0) rfl) hW (dH _)) (aL (bP (eE hu (aX (aX (pv 0) rfl) rfl) (pv 4) (fun _ _=>rfl)))) bS)
   (aL cQ))))),?_⟩
  obtain⟨a1,a2,a3,a4⟩:=a4F fi tl .non
  refine⟨_,rfl,_,rfl,_,rfl,sl,fun ce hce=> ?_⟩
  have s1:=aE.new (o:=.tup ((aW nm c p).map kV)) hce
  have c1:upd H ce (.tup ((aW nm c p).map kV)) ce=some (.tup ((aW nm c p).map kV)):=aJ
  have hcf:H ce=none:=hce
  generalize hH1:upd H ce (.tup ((aW nm c p).map kV))=H1 at s1 c1
  rw[show upd H ce (.tup [V.str nm,V.str c,V.int (p:Int)])=H1 from hH1]
  have nct:ce≠tl:=fun z=>by rw[z,htl]at hcf;cases hcf
  refine⟨_,rfl,tr,CR,dx,_,_,rfl,s1 _ _ htr,X.cl,X.n_looked,a2,_,rfl,tl,_,rfl,.inr ⟨kt,aW nm c p,ce,s1 _ _ htl,rfl,c1,dD (by omega),rfl⟩,?_⟩
  have u2:bC tl H1 (upd H1 tl (.dT (aS kt (aW nm c p) (.bl true)))):=fun b o n z=>by rw[aH n];exact z
  have t2:upd H1 tl (.dT (aS kt (aW nm c p) (.bl true))) tl=some (.dT (aS kt (aW nm c p) (.bl true))):=aJ
  generalize upd H1 tl (.dT (aS kt (aW nm c p) (.bl true)))=H2 at u2 t2|-
  have ntr:tr≠tl:=fun z=>by rw[z,htl]at htr;cases htr
  have tr2:=u2 _ _ ntr (s1 _ _ htr)
  have hF1:=hF.same s1
  have hl1:=s1 _ _ htl
  have nd:∀{x:Addr} {o:HO},H1 x=some o->(∀kvs,o≠ .dT kvs)->H2 x=some o:=fun z n=>u2 _ _ (fun y=>by rw[y,hl1]at z;exact n _ (Option.some.inj z).symm) z
  have F2:dA CF CB CT H2 fi bd fd lk nm B kf:=by
   obtain⟨d0,e1⟩:=hF1.fin
   obtain⟨kb,e2,e3⟩:=hF1.bds
   obtain⟨⟨d1,b1⟩,⟨⟨d2,b2⟩,b3,b4⟩,b5,b6,b7⟩:=hF1.B
   exact⟨⟨d0,nd e1 (fun _ z=>by cases z)⟩,⟨kb,nd e2 (fun _ z=>by cases z),e3⟩,⟨⟨d1,nd b1 (fun _ z=>by cases z)⟩,⟨⟨d2,nd b2 (fun _ z=>by cases z)⟩,nd b3 (fun _ z=>by cases z),nd b4 (fun _ z=>by cases z)⟩,nd b5 (fun _ z=>by cases z),nd b6 (fun _ z=>by cases z),nd b7 (fun _ z=>by cases z)⟩,u2 _ _ ntf.symm hF1.fnd,hF1.len⟩
  obtain⟨df,f2⟩:=F2.fin
  refine⟨_,rfl,tr,CR,dx,_,_,rfl,tr2,X.cl,X.n_lacking,a3,rfl,_,rfl,dM ?_⟩
  refine⟨_,rfl,tr,CR,dx,_,_,rfl,tr2,X.cl,X.n_finder,a1,fi,df,_,rfl,f2,lU,_,rfl,fi,bd,fd,lk,ce,l,nm,c,p,B,kf,ys,v,rfl,F2,u2 _ _ nct c1,hru,hc,hv,nd (s1 _ _ hl) (fun _ z=>by cases z),hp,ha,hcon,kl,fun H3 kf' hk' vk' F3 b3=>⟨_,rfl,bL ?_⟩⟩
  have ntrf:tr≠fd:=fun z=>by rw[z,hF.fnd]at htr;cases htr
  have ncf:ce≠fd:=fun z=>by rw[z,hF.fnd]at hcf;cases hcf
  have tr3:=b3 _ _ ntrf tr2
  obtain⟨df3,f3⟩:=F3.fin
  refine⟨_,rfl,tr,CR,dx,_,_,rfl,tr3,X.cl,X.n_lacking,a3,rfl,_,rfl,dM ?_⟩
  refine⟨_,rfl,tr,CR,dx,_,_,rfl,tr3,X.cl,X.n_finder,a1,fi,CF,df3,_,_,rfl,f3,Y.cl,Y.n_found,(jS _ _ _).2.1,_,rfl,fd,v,rfl,?_,?_⟩
  ·rw[<- vk']
   exact .inr ⟨_,aW nm c p,ce,.inl F3.fnd,rfl,b3 _ _ ncf (u2 _ _ nct c1),rfl⟩
  ·exact q H3 kf' hk' F3 (b3 _ _ ntf t2) (fun x o n1 n2 z=>b3 _ _ n1 (u2 _ _ n2 (s1 _ _ z)))
end
def dC(H H':Hp):Prop:=∀b u,H b=some (Fz u)->H' b=some (Fz u)
theorem dC.of{H H':Hp}(s:aE H H'):dC H H':=fun b u e=>s _ _ e
def oddD:PyData:=.tuple [.str "fault",.str "odd"]
def gC(d:PyData):PyData:=if jP d then d else oddD
def b4v(K:Fg)(LP:Hp->Prop)(ca:Addr)(g:List Int->PyData)(ok:List Int->Prop):Sp:=fun vs H Q _=>∃(l:Addr) (is:List Int) (cs:List V),vs= [.ref l] /\LP H/\H l=some (.lst (is.map V.int))/\H ca=some (.lst cs)/\cs.length<900/\ok is/\is.length<=100/\ca≠l/\
 ∀H' v lc,bC ca H H'->H lc=none->H' ca=some (.lst (cs++ [.ref lc]))->H' lc=some (.lst (is.map V.int))->Dt K H' v (g is)->Q v H'
def iU(P:Program)(w:World)(K:Fg)(mg:Str->Option Value)(base:Heap)(k:Nat)(H:Hp)(fa ca:Addr)(g:List Int->PyData)(ok:List Int->Prop):Prop:=∃LP,eQ P w K mg base k fa (b4v K LP ca g ok)/\LP H/\∀H H',dC H H'->LP H->LP H'
theorem iU.keep{P:Program}{w:World}{K:Fg}{mg:Str->Option Value}{base:Heap}{k:Nat}{H H':Hp}{fa ca:Addr}{g:List Int->PyData}{ok:List Int->Prop}(s:dC H H')(h:iU P w K mg base k H fa ca g ok):iU P w K mg base k H' fa ca g ok:=by
 obtain⟨LP,h1,h2,h3⟩:=h
 exact⟨LP,h1,h3 _ _ s h2,h3⟩
def RF(fs:List (Str×V))(fa:Addr):Prop:=fs.lookup ("function":Str)=some (.ref fa)/\fs.lookup ("reckon":Str)=none
section
variable{P:Program}{w:World}{K:Fg}{mg:Str->Option Value}{base:Heap}
def b03(K:Fg)(p:Addr):Sp:=fun vs H Q _=>∃x d,vs= [x] /\Dt K H x d/\kM d/\∀H',aE H H'->Q (if jP d then x else .ref p) H'
theorem b2u:bG ["thing"] ["thing"] (aI sW):=⟨rfl,rfl,rfl,by decide+kernel,rfl,by decide+kernel,by decide+kernel⟩
theorem uP(T:bE K mg){p:Addr}(hp:mg "ODD"=some (.ref p)):bJ P w K mg base aF 4 "settled" ["thing"] (b03 K p):=by
 have G_is_value:bJ P w K mg base aF 3 "is_value" ["thing"] (yM K):=nS T
 refine T.d_settled.known b2u (fun _ _ _ _ _ _ us hl=>fK (fun _=>rfl) us hl) (fun vs H Q E h=> ?_) (fun f cdv A outer s H vs Q E hr h=> ?_)
 ·obtain⟨x,d,rfl,_⟩:=h
  rfl
 ·obtain⟨x,d,rfl,hd,hsh,q⟩:=h
  refine⟨_,(aK (bM (dZ (bU G_is_value (hr.mono (by decide)) aR (aB (pv 0) aG)) (fun _=>rfl)) (aL (bP (pv 0))) bS)
   (aL (bP (a9M hp)))),?_⟩
  refine⟨_,rfl,x,d,rfl,hd,hsh,fun H' s'=>⟨_,rfl,?_⟩⟩
  have q':=q H' s'
  refine eR (fun h1=> ?_) (fun h1=> ?_)
  ·rw[if_pos h1]at q'
   exact⟨_,rfl,q'⟩
  ·rw[if_neg h1]at q'
   exact q'
def a94(P:Program)(w:World)(K:Fg)(mg:Str->Option Value)(base:Heap)(k:Nat)(C:Addr):Sp:=fun vs H Q _=>∃(p a fa ca dx:Addr) (fs:List (Str×V)) (g:List Int->PyData) (ok:List Int->Prop) (is:List Int) (cs:List V),vs= [.ref p,.ref a] /\H p=some (.ins C dx fs)/\RF fs fa/\iU P w K mg base k H fa ca g ok/\H a=some (.lst (is.map V.int))/\H ca=some (.lst cs)/\cs.length<900/\ok is/\is.length<=100/\kM (g is)/\
 ∀H' v lc,bC ca H H'->H lc=none->H' ca=some (.lst (cs++ [.ref lc]))->H' lc=some (.lst (is.map V.int))->Dt K H' v (gC (g is))->Q v H'
theorem b7I:bG ["self","some"] ["self","some"] (aI oE):=⟨rfl,rfl,rfl,by decide+kernel,rfl,by decide+kernel,by decide+kernel⟩
structure zV(K:Fg)(C:Addr):Prop where
 cl:dJ K C
 rk:bO K C "reckon" "Rule.reckon" oE
 nf:cH K C "function"
theorem b3m(T:bE K mg){C:Addr}(Y:zV K C){k:Nat}(hk:4<=k):aT P w K mg base aF (k+ 1) C "reckon" ["self","some"] (a94 P w K mg base k C):=by
 obtain⟨pO,hpO,hO⟩:=T.g_ODD
 have G_settled:bJ P w K mg base aF 4 "settled" ["thing"] (b03 K pO):=uP T hpO
 refine Y.rk.known b7I (fun _ _ _ _ _ _ us hl=>eG (fun _ _=>rfl) us hl) (fun vs H Q E h=> ?_) (fun f cdv A outer s H vs Q E hr h=> ?_)
 ·obtain⟨p,a,fa,ca,dx,fs,g,ok,is,cs,rfl,_⟩:=h
  rfl
 ·obtain⟨p,a,fa,ca,dx,fs,g,ok,is,cs,rfl,hp,hfs,⟨LP,F,lp,stb⟩,ha,hca,cl,l0,l1,hsh,q⟩:=h
  refine⟨_,(aL (bP (bU G_settled (hr.mono hk) aR (aB (b6u (k:=k) (pv 0) hr (aB (kE lV rfl T.list gM (aB (pv 1) aG)) aG)) aG)))),?_⟩
  refine⟨_,rfl,p,C,dx,_,fa,_,rfl,hp,Y.cl,Y.nf,hfs.1,F,_,rfl,a,_,rfl,.inl (aN.of ha),fun xl hxl=> ?_⟩
  have s1:=aE.new (o:=.lst (is.map V.int)) hxl
  refine⟨xl,is,cs,rfl,stb _ _ (dC.of s1) lp,aJ,s1 _ _ hca,cl,l0,l1,bA hca hxl,fun H3 v lc b3 hlc h3 hl3 hd=> ?_⟩
  have nlc:lc≠ca:=fun z=>by rw[z,s1 _ _ hca]at hlc;cases hlc
  refine⟨v,_,rfl,hd,hsh,fun H4 s4=> ?_⟩
  refine q H4 _ lc (((bC.of s1).trans b3).trans (bC.of s4)) (fB s1 hlc) (s4 _ _ h3) (s4 _ _ hl3) ?_
  unfold gC
  by_cases c:jP (g is)=true
  ·rw[if_pos c,if_pos c]
   exact hd.same s4
  ·rw[if_neg c,if_neg c]
   exact .tup (hO H4) (.cons (.str _) (.cons (.str _) .nil))
theorem mZ(is:List Int):(PyData.list (is.map PyData.int)).canLay0=true/\(PyData.list (is.map PyData.int)).depth<=64:=by
 have h1:PyData.canLayAll0 (is.map PyData.int)=true:=by
  induction is with
  |nil=>rfl
  |cons i r ih=>rw[List.map_cons,PyData.canLayAll0,ih];rfl
 have h2:PyData.depthAll (is.map PyData.int)=0:=by
  induction is with
  |nil=>rfl
  |cons i r ih=>
   have h3:PyData.canLayAll0 (r.map PyData.int)=true:=by
    have:=h1
    rw[List.map_cons,PyData.canLayAll0,Bool.and_eq_true]at this
    exact this.2
   rw[List.map_cons]
   show max 0 (PyData.depthAll (r.map PyData.int))=0
   rw[ih h3]
   rfl
 refine⟨h1,?_⟩
 show PyData.depthAll (is.map PyData.int)+ 1<=64
 rw[h2]
 decide
theorem lI{K:Fg}{H:Hp}:∀is:List Int,cV K H (is.map V.int) (is.map PyData.int)
 | []=> .nil
 |i::r=> .cons (.int i) (lI r)
theorem sJ:∀is js:List Int,PyData.eqv (.list (is.map PyData.int)) (.list (js.map PyData.int))=decide (is=js)
 | [],[]=>by simp[PyData.eqv,PyData.eqvAll]
 | [],j::js=>by simp[PyData.eqv,PyData.eqvAll]
 |i::is,[]=>by simp[PyData.eqv,PyData.eqvAll]
 |i::is,j::js=>by
  have ih:=sJ is js
  simp only[PyData.eqv]at ih
  simp only[List.map_cons,PyData.eqv,PyData.eqvAll,ih]
  by_cases h1:i=j<;>by_cases h2:is=js<;>simp[h1,h2]
theorem b7C{K:Fg}{H H':Hp}{m:Addr}{kvs:List (aA×V)}{v:V}{d:PyData}(hv:Vd d)(h:Dt K H v d)(hm:H m=some (.dK kvs))(u:∀x o,x≠m->H x=some o->H' x=some o):Dt K H' v d:=by
 rcases hv with⟨i,rfl,hb⟩|⟨z,rfl,hz⟩
 ·cases h
  exact .int i
 ·cases h with
  |tup hq hall=>
   cases hall with
   |cons h1 t=>
    cases h1
    cases t with
    |cons h2 t=>
     cases h2
     cases t
     refine .tup ?_ (.cons (.str _) (.cons (.str _) .nil))
     rcases hq with h|h
     ·rcases h with h|⟨o,h⟩
      ·exact .inl (.inl (u _ _ (fun y=>by rw[y,hm]at h;cases h) h))
      ·exact .inl (.inr ⟨o,u _ _ (fun y=>by rw[y,hm]at h;cases h) h⟩)
     ·exact .inr h
def qS(H:Hp)(mk:List (aA×V))(num:Int)(js:List Int)(vv:V):Prop:=∃tp lo,aM mk (.inl num:aA)=some (.ref tp)/\H tp=some (.tup [.ref lo,vv])/\H lo=some (.lst (js.map V.int))
def b0x(P:Program)(w:World)(K:Fg)(mg:Str->Option Value)(base:Heap)(k:Nat)(CB CT CG:Addr):Sp:=fun vs H Q _=>∃(sm gr mc fa ca dx:Addr) (c:Str) (fs:List (Str×V)) (p:Nat) (num:Int) (B:BM) (mk:List (aA×V)) (g:List Int->PyData) (ok:List Int->Prop) (is:List Int) (cs:List V),vs= [.ref B.b,.str c,.int (p:Int),.ref sm] /\cD CB CT H B/\aM B.rus (.inr c:aA)=some (.ref gr)/\aM B.mes (.inr c:aA)=some (.ref mc)/\H mc=some (.dK mk)/\mk.length<100/\p<B.xs.length/\cG B.xs (p:Int)=some (.int num)/\
 H gr=some (.ins CG dx fs)/\RF fs fa/\iU P w K mg base k H fa ca g ok/\H sm=some (.lst (is.map V.int))/\H ca=some (.lst cs)/\cs.length<900/\ok is/\is.length<=100/\kM (g is)/\Vd (gC (g is))/\
 ((∃vv,qS H mk num is vv/\Q vv H)\/ ((aM mk (.inl num:aA)=none\/ ∃js vv,qS H mk num js vv/\js≠is)/\
   ∀H' v lc tp,(∀x o,x≠ca->x≠mc->H x=some o->H' x=some o)->H lc=none->H' ca=some (.lst (cs++ [.ref lc]))->H' lc=some (.lst (is.map V.int))->H tp=none->H' tp=some (.tup [.ref sm,v])->H' mc=some (.dK (aS mk (.inl num:aA) (.ref tp)))->Dt K H' v (gC (g is))->Q v H'))
abbrev Nou:List Str:=["self","column","place","some","remembered","number"]
theorem a0W:bG Nou ["self","column","place","some"] (aI nX):=⟨rfl,rfl,rfl,by decide+kernel,rfl,by decide+kernel,by decide+kernel⟩
theorem vL(T:bE K mg){CB CT CG:Addr}(Y:cO K mg CB)(Z:dO K mg CT)(W:zV K CG){k:Nat}(hk:4<=k):aT P w K mg base aF (k+ 2) CB "outcome" ["self","column","place","some"] (b0x P w K mg base k CB CT CG):=by
 have G_num:aT P w K mg base aF 3 CT "number_at" ["self","place"] (b0Z CT):=vD T Z
 have G_rck:aT P w K mg base aF (k+ 1) CG "reckon" ["self","some"] (a94 P w K mg base k CG):=b3m T W hk
 refine Y.m_outcome.known a0W (fun _ _ _ _ _ _ us hl=>lH (fun _ _ _ _=>rfl) us hl) (fun vs H Q E h=> ?_) (fun f cdv A outer s H vs Q E hr h=> ?_)
 ·obtain⟨sm,gr,mc,fa,ca,dx,c,fs,p,num,B,mk,g,ok,is,cs,rfl,_⟩:=h
  rfl
 ·obtain⟨sm,gr,mc,fa,ca,dx,c,fs,p,num,B,mk,g,ok,is,cs,rfl,hB,hru,hme,hmc,ml,hp,hnum,hgr,hfs,FN,hsm,hca,cl,l0,l1,hsh,hvd,q⟩:=h
  have hu:=cU hr
  have dY:∃t,dQ (eY aF P w K mg base Nou "Board.outcome" (aI nX) f cdv A outer s H E).nox ((aV nX).drop 3) t/\
   ∀(H1:Hp) (tp:Addr) (x v:V) (mk':List (aA×V)),H1 mc=some (.dK mk')->aM mk' (.inl num:aA)=some (.ref tp)->H1 tp=some (.tup [x,v])->Q v H1->t {nx:=fun _ H'=>Q .non H',rt:=Q} [some (.ref B.b),some (.str c),some (.int (p:Int)),some (.ref sm),some (.ref mc),some (.int num)] H1:=by
   refine⟨_,(aL (bP (cT fL (eE hu (pv 4) (pv 5) (fun _ _=>rfl)) aY (fun _ _=>rfl)))),fun H1 tp x v mk' e1 e2 e3 q'=> ?_⟩
   exact⟨_,rfl,_,rfl,mc,_,rfl,e2▸bQ.k (k:=Sum.inl num) e1,tp,_,_,_,rfl,rfl,cF.of e3,rfl,q'⟩
  obtain⟨tR,hR,qR⟩:=dY
  refine⟨_,(aK (bN (i:=4) a0W.nd rfl (Or.inl rfl) (eE hu (aX (pv 0) rfl) (pv 1) (fun _ _=>rfl)))
   (aK (bN (i:=5) a0W.nd rfl (Or.inl rfl) (bZ (aX (pv 0) rfl) Z.cl G_num (hr.mono (by omega)) aR (aB (pv 2) aG)))
   (aK (bM (PW.pt (iW (iV (lO hu (pv 5) (pv 4))) (kD (dE (rK hr.units) (cT fL (eE hu (pv 4) (pv 5) (fun _ _=>rfl)) aY (fun _ _=>rfl)) (pv 3) (dH _))))) (aL (jE hu (pv 4) (pv 5) (gO (aB (pv 3) (aB (bZ (eE hu (aX (pv 0) rfl) (pv 1) (fun _ _=>rfl)) W.cl G_rck hr aR (aB (pv 3) aG)) aG))) rfl)) bS)
   hR))),?_⟩
  obtain⟨⟨d1,b1⟩,tb,b3,b4,_⟩:=id hB
  obtain⟨⟨d2,b2⟩,_,_⟩:=id tb
  refine⟨_,rfl,B.b,CB,d1,_,_,rfl,b1,Y.cl,Y.n_memory,(dL _ _ _ _).2.2.1,_,rfl,B.me,_,rfl,hme▸bQ.k (k:=Sum.inr c) b4,?_⟩
  refine⟨_,rfl,B.b,CB,d1,_,_,rfl,b1,Y.cl,Y.n_given,(dL _ _ _ _).1,B.g,d2,_,rfl,b2,iN,_,rfl,B.g,B.r,B.e,B.xs,B.n,B.kvs,p,_,rfl,tb,hp,hnum,?_⟩
  refine⟨_,rfl,_,rfl,mc,_,rfl,bQ.k (k:=Sum.inl num) hmc,_,rfl,?_⟩
  have lay:=mZ is
  have ncm:mc≠ca:=fun z=>by rw[z,hca]at hmc;cases hmc
  rcases q with⟨vv,⟨tp,lo,e1,e2,e3⟩,qv⟩|⟨hw,q⟩
  ·rw[e1]
   refine bL ⟨_,rfl,_,rfl,mc,_,rfl,e1▸bQ.k (k:=Sum.inl num) hmc,tp,_,_,_,rfl,rfl,cF.of e2,rfl,_,rfl,.list (is.map .int),.list (is.map .int),.lst (aN.of e3) (lI is),.lst (aN.of hsm) (lI is),lay.1,lay.1,lay.2,_,rfl,?_⟩
   rw[sJ,decide_eq_true rfl]
   exact bL (qR H tp _ vv mk hmc e1 e2 qv)
  have fin:∀(H1:Hp) (v:V) (lc tp:Addr),bC ca H H1->H lc=none->H1 ca=some (.lst (cs++ [.ref lc]))->H1 lc=some (.lst (is.map V.int))->Dt K H1 v (gC (g is))->H1 tp=none->
   ∃H4,gY (upd H1 tp (.tup [.ref sm,v])) mc (.int num) (.ref tp) H4/\tR {nx:=fun _ H'=>Q .non H',rt:=Q} [some (.ref B.b),some (.str c),some (.int (p:Int)),some (.ref sm),some (.ref mc),some (.int num)] H4:=fun H1 v lc tp bb hlc h1 hl1 hd htp=>by
   have s2:=aE.new (o:=.tup [.ref sm,v]) htp
   have m2:=s2 _ _ (bb _ _ ncm hmc)
   have t2:upd H1 tp (.tup [.ref sm,v]) tp=some (.tup [.ref sm,v]):=aJ
   refine⟨_,gY.k (k:=Sum.inl num) m2 (dD (by omega)),?_⟩
   generalize upd H1 tp (.tup [.ref sm,v])=H2 at s2 m2 t2|-
   have u3:∀x o,x≠mc->H2 x=some o->upd H2 mc (.dK (aS mk (.inl num:aA) (.ref tp))) x=some o:=fun x o n z=>by rw[aH n];exact z
   have m3:upd H2 mc (.dK (aS mk (.inl num:aA) (.ref tp))) mc=some (.dK (aS mk (.inl num:aA) (.ref tp))):=aJ
   generalize upd H2 mc (.dK (aS mk (.inl num:aA) (.ref tp)))=H3 at u3 m3|-
   have nm:∀{x:Addr} {o:HO},H2 x=some o->(∀kvs,o≠ .dK kvs)->x≠mc:=fun z n y=>by rw[y,m2]at z;exact n _ (Option.some.inj z).symm
   have t3:=u3 _ _ (nm t2 (fun _ z=>by cases z)) t2
   have htp0:H tp=none:=by
    cases e:H tp with
    |none=>rfl
    |some o=>
     by_cases z:tp=ca
     ·rw[z,h1]at htp;cases htp
     ·rw[bb _ _ z e]at htp;cases htp
   refine qR H3 tp _ v _ m3 (by rw[jV,if_pos rfl]) t3 (q H3 v lc tp (fun x o n1 n2 z=>u3 _ _ n2 (s2 _ _ (bb _ _ n1 z))) hlc ?_ ?_ htp0 t3 m3 ?_)
   ·exact u3 _ _ ncm.symm (s2 _ _ h1)
   ·exact u3 _ _ (nm (s2 _ _ hl1) (fun _ z=>by cases z)) (s2 _ _ hl1)
   ·exact b7C hvd (hd.same s2) m2 u3
  rcases hw with e0|⟨js,vv,⟨tp0,lo,e1,e2,e3⟩,hne⟩
  ·rw[e0]
   refine dM (dM ?_)
   refine⟨_,rfl,_,rfl,B.b,CB,d1,_,_,rfl,b1,Y.cl,Y.n_rules,(dL _ _ _ _).2.1,_,rfl,B.ru,_,rfl,hru▸bQ.k (k:=Sum.inr c) b3,gr,dx,_,rfl,hgr,hfs.2,_,rfl,gr,sm,fa,ca,dx,fs,g,ok,is,cs,rfl,hgr,hfs,FN,hsm,hca,cl,l0,l1,hsh,fun H1 v lc bb hlc h1 hl1 hd=>⟨sl,fun tp htp=> ?_⟩⟩
   obtain⟨H4,p4,q4⟩:=fin H1 v lc tp bb hlc h1 hl1 hd htp
   exact⟨_,rfl,_,rfl,mc,H4,rfl,p4,q4⟩
  ·rw[e1]
   refine bL ⟨_,rfl,_,rfl,mc,_,rfl,e1▸bQ.k (k:=Sum.inl num) hmc,tp0,_,_,_,rfl,rfl,cF.of e2,rfl,_,rfl,.list (js.map .int),.list (is.map .int),.lst (aN.of e3) (lI js),.lst (aN.of hsm) (lI is),(mZ js).1,lay.1,(mZ js).2,_,rfl,?_⟩
   rw[sJ,decide_eq_false hne]
   refine dM ?_
   refine⟨_,rfl,_,rfl,B.b,CB,d1,_,_,rfl,b1,Y.cl,Y.n_rules,(dL _ _ _ _).2.1,_,rfl,B.ru,_,rfl,hru▸bQ.k (k:=Sum.inr c) b3,gr,dx,_,rfl,hgr,hfs.2,_,rfl,gr,sm,fa,ca,dx,fs,g,ok,is,cs,rfl,hgr,hfs,FN,hsm,hca,cl,l0,l1,hsh,fun H1 v lc bb hlc h1 hl1 hd=>⟨sl,fun tp htp=> ?_⟩⟩
   obtain⟨H4,p4,q4⟩:=fin H1 v lc tp bb hlc h1 hl1 hd htp
   exact⟨_,rfl,_,rfl,mc,H4,rfl,p4,q4⟩
end
def isT:PyData->Bool
 | .tuple _=>true
 |_=>false
def a9y:PyData->Int
 | .int i=>i
 |_=>0
def fY:List PyData->List Int->PyData ⊕ List Int
 | [],acc=> .inr acc
 |d::r,acc=>if isT d then .inl d else fY r (acc++ [a9y d])
theorem a48(d:PyData)(r:List PyData)(acc:List Int):fY (d::r) acc=if isT d then .inl d else fY r (acc++ [a9y d]):=by rw[fY]
theorem b07:∀{ds:List PyData} {acc is:List Int},fY ds acc= .inr is->is.length=acc.length+ ds.length
 | [],acc,is,h=>by cases h;rfl
 |d::r,acc,is,h=>by
  unfold fY at h
  split at h
  ·cases h
  ·have:=b07 h
   rw[List.length_append]at this
   rw[List.length_cons,this]
   show acc.length+ 1+ r.length=_
   omega
theorem b0P:∀{ds:List PyData} {acc:List Int} {d:PyData},fY ds acc= .inl d->d∈ds
 | [],acc,d,h=>by cases h
 |x::r,acc,d,h=>by
  unfold fY at h
  split at h
  ·cases h
   exact List.mem_cons_self
  ·exact List.mem_cons_of_mem _ (b0P h)
theorem kP{xs:List V}{i:Nat}{v:V}(h:xs[i]?=some v):cG xs (i:Int)=some v:=by
 have hi:=(List.getElem?_eq_some_iff.mp h).1
 unfold cG
 rw[yV (by omega) (by omega),Int.toNat_natCast]
 exact h
theorem a9I{α:Type}{zs:List α}{i:Nat}{z:α}(h:zs[i]?=some z):zs.drop i=z::zs.drop (i+ 1):=by
 obtain⟨hi,e⟩:=List.getElem?_eq_some_iff.mp h
 rw[List.drop_eq_getElem_cons hi,e]
theorem cM.at{K:Fg}{H:Hp}:∀{xs:List V} {ds:List PyData} {i:Nat},cM K H xs ds->i<ds.length->∃v d,xs[i]?=some v/\ds[i]?=some d/\Pv K H v d
 |_,_,_,.nil,h=>absurd h (Nat.not_lt_zero _)
 |_,_,0,.cons h _,_=>⟨_,_,rfl,rfl,h⟩
 |_,_,i+ 1,.cons _ t,h=>by simpa using cM.at t (Nat.lt_of_succ_lt_succ h)
theorem Pv.isT{K:Fg}{H:Hp}{v:V}{d:PyData}(h:Pv K H v d):iE d=My.isT d:=by
 rcases h with⟨i,_,rfl,_⟩|⟨a,y,_,_,rfl,hy⟩
 ·rfl
 ·show(decide (("fault":Str)= "fault")&&fO (.str y))=true
  rw[decide_eq_true rfl,Bool.true_and]
  exact Nl.name hy
def eZ(x y:Addr)(H H':Hp):Prop:=∀b o,b≠x->b≠y->H b=some o->H' b=some o
theorem eZ.of{x y:Addr}{H H':Hp}(s:aE H H'):eZ x y H H':=fun b o _ _ e=>s b o e
theorem eZ.trans{x y:Addr}{H H1 H2:Hp}(a:eZ x y H H1)(b:eZ x y H1 H2):eZ x y H H2:=fun c o n m e=>b c o n m (a c o n m e)
structure iM(J:Hp->Prop)(W:List Addr)(x y:Addr):Prop where
 there:∀H,J H->∀b∈W,H b≠none
 stay:∀H H',(∀b o,b∈W->H b=some o->H' b=some o)->dC H H'->J H->J H'
 x:∀H,J H->∃k,H x=some (.dT k)
 y:∀H,J H->∃k,H y=some (.dT k)
theorem iM.same{J:Hp->Prop}{W:List Addr}{x y:Addr}(S:iM J W x y){H H':Hp}(s:aE H H')(h:J H):J H':=S.stay _ _ (fun b o _ e=>s _ _ e) (dC.of s) h
theorem iM.tup{J:Hp->Prop}{W:List Addr}{x y:Addr}(S:iM J W x y){H H':Hp}(h:J H)(f:eZ x y H H'):cJ H H':=fun a xs e=>by
 obtain⟨k1,h1⟩:=S.x H h
 obtain⟨k2,h2⟩:=S.y H h
 exact f _ _ (fun z=>by rw[z,h1]at e;cases e) (fun z=>by rw[z,h2]at e;cases e) e
def rN(J:Hp->Prop)(x y:Addr)(gv:Str->Str->Option (List V)):Sp:=fun vs H Q _=>∃(t c:Str) (p:Nat) (ys:List V) (v:V),vs= [.str t,.str c,.int (p:Int)] /\J H/\gv t c=some ys/\p<ys.length/\cG ys (p:Int)=some v/\∀H',eZ x y H H'->J H'->Q v H'
def a7d(J:Hp->Prop)(mv:Str->Nat->Prop):Sp:=fun vs H Q _=>∃(t:Str) (m:Nat),vs= [.str t] /\mv t m/\J H/\∀H',aE H H'->Q (.int (m:Int)) H'
def qY(K:Fg)(H H':Hp)(fv:V):PyData ⊕ List Int->Prop
 | .inl d=>∃ta v,fv= .ref ta/\H' ta=some (.tup [.str ("value":Str),v])/\Pv K H' v d
 | .inr is=>∃ta l,fv= .ref ta/\H' ta=some (.tup [.str ("call":Str),.ref l])/\H' l=some (.lst (is.map V.int))/\H l=none
def tI(K:Fg)(gv:Str->Str->Option (List V))(H:Hp)(x:V)(d:PyData):Prop:=∃a t c p ys v,x= .ref a/\H a=some (.tup [.str t,.str c,.int ((p:Nat):Int)])/\gv t c=some ys/\p<ys.length/\cG ys (p:Int)=some v/\Pv K H v d
theorem tI.keep{K:Fg}{gv:Str->Str->Option (List V)}{H H':Hp}{x:V}{d:PyData}(k:cJ H H')(h:tI K gv H x d):tI K gv H' x d:=by
 obtain⟨a,t,c,p,ys,v,h1,h2,h3,h4,h5,h6⟩:=h
 exact⟨a,t,c,p,ys,v,h1,k _ _ h2,h3,h4,h5,h6.keep k⟩
theorem yG{α β:Type}{R:α->β->Prop}:∀{xs:List α} {ys:List β} {i:Nat} {x:α},Paired R xs ys->xs[i]?=some x->∃y,ys[i]?=some y/\R x y
 |_,_,_,_,.nil,e=>by simp at e
 |_,_,0,_,.cons h _,e=>by simp at e;subst e;exact⟨_,rfl,h⟩
 |_,_,i+ 1,_,.cons _ t,e=>by simpa using yG (i:=i) t (by simpa using e)
section
variable{P:Program}{w:World}{K:Fg}{mg:Str->Option Value}{base:Heap}
def a96(P:Program)(w:World)(K:Fg)(mg:Str->Option Value)(base:Heap)(k:Nat):Sp:=fun vs H Q _=>∃(look cl x y:Addr) (J:Hp->Prop) (W:List Addr) (gv:Str->Str->Option (List V)) (cv:List V) (ds:List PyData),vs= [.ref look,.ref cl] /\eQ P w K mg base k look (rN J x y gv)/\J H/\iM J W x y/\H cl=some (.lst cv)/\Paired (tI K gv H) cv ds/\ds.length<=100/\
 ∀H' fv,eZ x y H H'->J H'->qY K H H' fv (fY ds [])->Q fv H'
abbrev b7E:List Str:=["look","cells","numbers","table","column","place","value"]
theorem pH:bG b7E ["look","cells"] (aI wJ):=⟨rfl,rfl,rfl,by decide+kernel,rfl,by decide+kernel,by decide+kernel⟩
theorem uW(T:bE K mg){k:Nat}(hk:2<=k):bJ P w K mg base aF (k+ 1) "look_in_turn" ["look","cells"] (a96 P w K mg base k):=by
 have G_is_fault:bJ P w K mg base aF 2 "is_fault" ["thing"] (a0M K):=qO T
 refine T.d_look_in_turn.known pH (fun _ _ _ _ _ _ us hl=>eG (fun _ _=>rfl) us hl) (fun vs H Q E h=> ?_) (fun f cdv A outer s H vs Q E hr h=> ?_)
 ·obtain⟨look,cl,x,y,J,W,gv,cv,ds,rfl,_⟩:=h
  rfl
 ·obtain⟨look,cl,x,y,J,W,gv,cv,ds,rfl,F1,hJ,S,hc,hp,l100,q⟩:=h
  refine⟨_,(aK (bN (i:=2) pH.nd rfl (Or.inl rfl) (eO aG))
   (aK (iG PassesOwn.never rfl (iS (pv 1)) (xC rfl (jO (eM (i:=3) pH.nd rfl (Or.inl rfl)) (jO (eM (i:=4) pH.nd rfl (Or.inl rfl)) (jO (eM (i:=5) pH.nd rfl (Or.inl rfl)) wR)))) (aK (bN (i:=6) pH.nd rfl (Or.inl rfl) (b4J 0 hr (aB (pv 3) (aB (pv 4) (aB (pv 5) aG)))))
   (aK (bM (dZ (bU G_is_fault (hr.mono hk) aR (aB (pv 6) aG)) (fun _=>rfl)) (aL (bP (gO (aB dW (aB (pv 6) aG))))) bS)
   (aL (bY (iC PySem.F.plainAttrs_list PySem.F.slot_list_append PySem.F.type_list_append gQ (pv 2) (aB (pv 6) aG)))))))
   (aL (bP (gO (aB dW (aB (pv 2) aG))))))),?_⟩
  refine⟨sl,fun nl hnl=> ?_⟩
  have s1:=aE.new (o:=.lst []) hnl
  have n1:upd H nl (.lst []) nl=some (.lst []):=aJ
  have J1:=S.same s1 hJ
  generalize upd H nl (.lst [])=H1 at s1 n1 J1|-
  have lcv:cv.length=ds.length:=Paired.length hp
  have nxy:∀{b:Addr} {o:HO} {Hb:Hp},J Hb->Hb b=some o->(∀k,o≠ .dT k)->b≠x/\b≠y:=fun{b o Hb} hj e n=>by
   obtain⟨k1,h1⟩:=S.x Hb hj
   obtain⟨k2,h2⟩:=S.y Hb hj
   exact⟨(fun z=>by rw[z,h1]at e;exact n _ (Option.some.inj e).symm),(fun z=>by rw[z,h2]at e;exact n _ (Option.some.inj e).symm)⟩
  have ncl:=nxy hJ hc (fun _ z=>by cases z)
  have nnl:=nxy J1 n1 (fun _ z=>by cases z)
  have nW:nl∉W:=fun mw=>S.there _ hJ nl mw hnl
  refine⟨_,rfl,cl,rfl,⟨_,aN.of (s1 _ _ hc)⟩,?_⟩
  refine kK (K:=K) (a:=cl) (xs:=cv) (fun i σ H2=>∃o3 o4 o5 o6 is,σ= [some (.ref look),some (.ref cl),some (.ref nl),o3,o4,o5,o6] /\eZ x y H H2/\J H2/\H2 nl=some (.lst (is.map V.int))/\is.length<=i/\fY (ds.drop i) is=fY ds [])
   ⟨_,_,_,_,[],rfl,eZ.of s1,J1,n1,Nat.le_refl _,rfl⟩ (by rintro i σ H2 _ ⟨_,_,_,_,_,_,f2,_⟩;exact aN.of (f2 _ _ ncl.1 ncl.2 hc)) ?_ ?_
  ·rintro i v0 σ H2 hx ⟨o3,o4,o5,o6,is,rfl,f2,J2,h2,li,ht⟩
   obtain⟨d,hd,hcel⟩:=yG hp hx
   have hi:i<cv.length:=(List.getElem?_eq_some_iff.mp hx).1
   obtain⟨a,t,c,p,ys,v,rfl,ha,hg,hpl,hat,hpv⟩:=hcel.keep (S.tup hJ f2)
   rw[a9I hd]at ht
   refine⟨a,_,rfl,cF.of ha,rfl,_,_,rfl,_,_,rfl,_,_,rfl,rfl,?_⟩
   refine⟨look,_,rfl,F1,_,rfl,_,rfl,_,rfl,t,c,p,ys,v,rfl,J2,hg,hpl,hat,fun H3 f3 J3=> ?_⟩
   have f23:=f2.trans f3
   have p3:=hpv.keep (S.tup J2 f3)
   have h3:=f3 _ _ nnl.1 nnl.2 h2
   refine⟨_,rfl,v,d,rfl,p3.dt,p3.vd.short.1,fun H4 s4=>⟨_,rfl,?_⟩⟩
   rw[p3.isT]
   have h4:=s4 _ _ h3
   have J4:=S.same s4 J3
   have f4:=f23.trans (eZ.of s4)
   have p4:=p3.same s4
   rw[a48]at ht
   rcases p3 with⟨j,rfl,rfl,bj⟩|⟨b,z,rfl,_,rfl,hz⟩
   ·rw[if_neg (show¬isT (.int j)=true from Bool.false_ne_true)]at ht
    refine bL ⟨_,rfl,.inl ⟨rfl,_,aN.of h4⟩,_,rfl,nl,_,_,rfl,rfl,h4,dD (by rw[List.length_map];omega),?_⟩
    have bu:∀b ob,b≠nl->H4 b=some ob->upd H4 nl (.lst (is.map V.int++ [.int j])) b=some ob:=fun b ob nb e=>by rw[aH nb];exact e
    refine⟨_,_,_,_,is++ [j],rfl,fun b ob n1 n2 e=>bu _ _ (bA e hnl) (f4 _ _ n1 n2 e),S.stay _ _ (fun b ob mb e=>bu _ _ (fun z=>nW (z▸mb)) e) (fun b u e=>bu _ _ (fun z=>by rw[z,h4]at e;cases e) e) J4,(by rw[List.map_append];exact aJ),by rw[List.length_append];show is.length+ 1<=i+ 1;omega,ht⟩
   ·rw[if_pos (show isT (.tuple _)=true from rfl)]at ht
    refine dM ⟨_,rfl,sl,fun tp htp=> ?_⟩
    have s5:=aE.new (o:=.tup [.str ("value":Str),.ref b]) htp
    refine q _ _ (f4.trans (eZ.of s5)) (S.same s5 J4) ?_
    rw[<- ht]
    exact⟨tp,_,rfl,aJ,p4.same s5⟩
  ·rintro σ H2 ⟨o3,o4,o5,o6,is,rfl,f2,J2,h2,li,ht⟩
   rw[lcv,List.drop_length]at ht
   refine⟨_,rfl,sl,fun tp htp=> ?_⟩
   have s3:=aE.new (o:=.tup [.str ("call":Str),.ref nl]) htp
   refine q _ _ (f2.trans (eZ.of s3)) (S.same s3 J2) ?_
   rw[<- ht]
   exact⟨tp,nl,rfl,aJ,s3 _ _ h2,hnl⟩
end
def eS(Ks:List Ky)(kvs:List (Ky×V)):Prop:=(kvs.map (·.1)).Nodup/\∀k∈kvs.map (·.1),k∈Ks
theorem a87{α:Type} [DecidableEq α]:∀{l m:List α},l.Nodup->(∀x∈l,x∈m)->l.length<=m.length
 | [],_,_,_=>Nat.zero_le _
 |x::r,m,h,hs=>by
  rw[List.nodup_cons]at h
  have hx:=hs x List.mem_cons_self
  have:=a87 (l:=r) (m:=m.erase x) h.2 fun y hy=>(List.mem_erase_of_ne (fun e=>by rw[e]at hy;exact h.1 hy)).mpr (hs y (List.mem_cons_of_mem _ hy))
  rw[List.length_erase_of_mem hx]at this
  have:0<m.length:=List.length_pos_of_mem hx
  rw[List.length_cons]
  omega
theorem eS.len{Ks:List Ky}{kvs:List (Ky×V)}(h:eS Ks kvs):kvs.length<=Ks.length:=by
 have:=a87 h.1 h.2
 rwa [List.length_map]at this
theorem eS.nil{Ks:List Ky}:eS Ks []:=⟨List.nodup_nil,fun k hk=>by cases hk⟩
theorem b6H{kvs:List (Ky×V)}{k:Ky}{v x:V}(h:aM kvs k=some x):(aS kvs k v).map (·.1)=kvs.map (·.1):=by
 unfold aS
 rw[mR,h,if_pos (show(some x).isSome=true from rfl),List.map_map]
 refine List.map_congr_left fun p _=> ?_
 show(if p.1=k then _ else _:Ky×V).1=p.1
 split<;>rfl
theorem eS.put{Ks:List Ky}{kvs:List (Ky×V)}{k:Ky}{v:V}(h:eS Ks kvs)(hk:k∈Ks):eS Ks (aS kvs k v):=by
 cases e:aM kvs k with
 |some x=>unfold eS;rw[b6H e];exact h
 |none=>
  refine⟨a98 v h.1 e,fun k' hk'=> ?_⟩
  rw[a7B v e,List.map_append]at hk'
  rcases List.mem_append.mp hk' with hk'|hk'
  ·exact h.2 k' hk'
  ·rw[List.mem_singleton.mp hk']
   exact hk
theorem zW{t t' c c':Str}{p p':Nat}(h:aW t c p=aW t' c' p'):t=t'/\c=c'/\p=p':=by
 unfold aW at h
 simp only[List.cons.injEq,Sum.inr.injEq,Sum.inl.injEq,and_true]at h
 exact⟨h.1,h.2.1,by omega⟩
structure mF where
 fi:Addr
 bd:Addr
 fd:Addr
 lk:Addr
 tr:Addr
 tl:Addr
 tabs:List (Str×BM)
 Ks:List Ky
 gv:Str->Str->Option (List V)
 kf0:List (Ky×V)
structure Ok3(tabs:List (Str×BM))(Ks:List Ky)(gv:Str->Str->Option (List V)):Prop where
 k8:Ks.length<=800
 g:∀t c ys,gv t c=some ys->∃B,(t,B)∈tabs/\Nl c/\Nl t/\aM B.rus (.inr c:aA)=none/\ys.length=B.xs.length/\∀p,p<ys.length->aW t c p∈Ks
structure J3(CR CF CB CT:Addr)(X:mF)(H:Hp):Prop where
 kf:∃kf,(∀tb∈X.tabs,dA CF CB CT H X.fi X.bd X.fd X.lk tb.1 tb.2 kf)/\H X.fd=some (.dT kf)/\eS X.Ks kf/\(∀t c p v ys,X.gv t c=some ys->aM kf (aW t c p)=some v->cG ys (p:Int)=some v)/\∀t c p,X.gv t c=none->aM kf (aW t c p)=aM X.kf0 (aW t c p)
 tr:∃dx,H X.tr=some (.ins CR dx (lS X.fi X.tl .non))
 tl:∃kt,H X.tl=some (.dT kt)/\eS X.Ks kt
 cols:∀t c ys B,X.gv t c=some ys->(t,B)∈X.tabs->∃l,aM B.kvs (.inr c:aA)=some (.ref l)/\H l=some (.lst ys)
theorem dA.mvW{CF CB CT:Addr}{H H':Hp}{fi bd fd lk:Addr}{nm:Str}{B:BM}{kf:List (Ky×V)}(F:dA CF CB CT H fi bd fd lk nm B kf)(u:∀b o,b∈ [fi,bd,fd] ++ B.foot->H b=some o->H' b=some o):dA CF CB CT H' fi bd fd lk nm B kf:=by
 obtain⟨dx,e1⟩:=F.fin
 obtain⟨kb,e2,e3⟩:=F.bds
 obtain⟨⟨d1,b1⟩,⟨⟨d2,b2⟩,b3,b4⟩,b5,b6,b7⟩:=F.B
 exact⟨⟨dx,u _ _ (by simp[BM.foot]) e1⟩,⟨kb,u _ _ (by simp[BM.foot]) e2,e3⟩,⟨⟨d1,u _ _ (by simp[BM.foot]) b1⟩,⟨⟨d2,u _ _ (by simp[BM.foot]) b2⟩,u _ _ (by simp[BM.foot]) b3,u _ _ (by simp[BM.foot]) b4⟩,u _ _ (by simp[BM.foot]) b5,u _ _ (by simp[BM.foot]) b6,u _ _ (by simp[BM.foot]) b7⟩,u _ _ (by simp[BM.foot]) F.fnd,F.len⟩
theorem dA.isthere{CF CB CT:Addr}{H:Hp}{fi bd fd lk:Addr}{nm:Str}{B:BM}{kf:List (Ky×V)}(F:dA CF CB CT H fi bd fd lk nm B kf){b:Addr}(hb:b∈ [fi,bd,fd] ++ B.foot):H b≠none:=fun z=>by
 obtain⟨dx,e1⟩:=F.fin
 obtain⟨kb,e2,e3⟩:=F.bds
 obtain⟨⟨d1,b1⟩,⟨⟨d2,b2⟩,b3,b4⟩,b5,b6,b7⟩:=F.B
 have e0:=F.fnd
 simp only[BM.foot,List.cons_append,List.nil_append,List.mem_cons,List.not_mem_nil,or_false]at hb
 rcases hb with rfl|rfl|rfl|rfl|rfl|rfl|rfl|rfl|rfl|rfl
 ·rw[e1]at z;cases z
 ·rw[e2]at z;cases z
 ·rw[e0]at z;cases z
 ·rw[b1]at z;cases z
 ·rw[b2]at z;cases z
 ·rw[b3]at z;cases z
 ·rw[b4]at z;cases z
 ·rw[b5]at z;cases z
 ·rw[b6]at z;cases z
 ·rw[b7]at z;cases z
structure Wof(X:mF)(W:List Addr):Prop where
 o:X.fd∈W/\X.tr∈W/\X.tl∈W
 f:∀tb∈X.tabs,∀b∈ [X.fi,X.bd,X.fd] ++ tb.2.foot,b∈W
 c:∀t c ys B l,X.gv t c=some ys->(t,B)∈X.tabs->aM B.kvs (.inr c:aA)=some (.ref l)->l∈W
 n:∀b∈W,b=X.fd\/ b=X.tr\/ b=X.tl\/ (∃tb∈X.tabs,b∈ [X.fi,X.bd,X.fd] ++ tb.2.foot)\/ ∃t c ys B,X.gv t c=some ys/\(t,B)∈X.tabs/\aM B.kvs (.inr c:aA)=some (.ref b)
theorem J3.st{CR CF CB CT:Addr}{X:mF}{W:List Addr}(w:Wof X W):iM (J3 CR CF CB CT X) W X.fd X.tl where
 there:=fun H h b mb z=>by
  obtain⟨kf,F,e0,_⟩:=h.kf
  obtain⟨d3,t1⟩:=h.tr
  obtain⟨kt,t2,_⟩:=h.tl
  rcases w.n b mb with rfl|rfl|rfl|⟨tb,h1,h2⟩|⟨t,c,ys,B,g1,g2,g3⟩
  ·rw[e0]at z;cases z
  ·rw[t1]at z;cases z
  ·rw[t2]at z;cases z
  ·exact(F tb h1).isthere h2 z
  ·obtain⟨l,g4,g5⟩:=h.cols t c ys B g1 g2
   rw[g3]at g4
   cases g4
   rw[g5]at z;cases z
 stay:=fun H H' k kz h=>by
  obtain⟨kf,F,e0,r1,r2,r3⟩:=h.kf
  obtain⟨d3,t1⟩:=h.tr
  obtain⟨kt,t2,t3⟩:=h.tl
  exact⟨⟨kf,fun tb htb=>(F tb htb).mvW fun b o hb e=>k _ _ (w.f tb htb b hb) e,k _ _ w.o.1 e0,r1,r2,r3⟩,⟨d3,k _ _ w.o.2.1 t1⟩,⟨kt,k _ _ w.o.2.2 t2,t3⟩,fun t c ys B g1 g2=>by
   obtain⟨l,g3,g4⟩:=h.cols t c ys B g1 g2
   exact⟨l,g3,k _ _ (w.c t c ys B l g1 g2 g3) g4⟩⟩
 x:=fun H h=>let ⟨kf,_,e,_⟩:=h.kf;⟨kf,e⟩
 y:=fun H h=>let ⟨kt,e,_⟩:=h.tl;⟨kt,e⟩
theorem J3.look{CR CF CB CT:Addr}{X:mF}(ne:X.tl≠X.fd)(O:Ok3 X.tabs X.Ks X.gv){H H':Hp}{t c:Str}{p:Nat}{ys:List V}{v:V}{kf kf' kt:List (Ky×V)}(hJ:J3 CR CF CB CT X H)(g:X.gv t c=some ys)(hp:p<ys.length)(ha:cG ys (p:Int)=some v)
 (hF:∀tb∈X.tabs,dA CF CB CT H X.fi X.bd X.fd X.lk tb.1 tb.2 kf)(w0:H X.fd=some (.dT kf))(w1:eS X.Ks kf)(w2:∀t c p v ys,X.gv t c=some ys->aM kf (aW t c p)=some v->cG ys (p:Int)=some v)(w3:∀t c p,X.gv t c=none->aM kf (aW t c p)=aM X.kf0 (aW t c p))
 (hk:kf'=kf\/ kf'=aS kf (aW t c p) v)(fd':H' X.fd=some (.dT kf'))(tl0:H X.tl=some (.dT kt))(tk:eS X.Ks kt)(tl':H' X.tl=some (.dT (aS kt (aW t c p) (.bl true))))(fr:∀x o,x≠X.fd->x≠X.tl->H x=some o->H' x=some o):J3 CR CF CB CT X H':=by
 obtain⟨B0,hB0,_,_,_,_,hin⟩:=O.g t c ys g
 have mem:=hin p hp
 have k8:=O.k8
 have k:∀{x:Addr} {o:HO},H x=some o->(∀kvs,o≠ .dT kvs)->H' x=some o:=fun e n=>fr _ _ (fun y=>by rw[y,w0]at e;exact n _ (Option.some.inj e).symm) (fun y=>by rw[y,tl0]at e;exact n _ (Option.some.inj e).symm) e
 have w1':eS X.Ks kf':=by
  rcases hk with rfl|rfl
  ·exact w1
  ·exact w1.put mem
 have l':=w1'.len
 refine⟨⟨kf',fun tb htb=> ?_,fd',w1',fun t' c' p' v' ys' g' e=> ?_,fun t' c' p' g'=> ?_⟩,hJ.tr.imp fun _ e=>k e (fun _ y=>by cases y),⟨_,tl',tk.put mem⟩,fun t' c' ys' B' g1 g2=> ?_⟩
 ·obtain⟨dx,e1⟩:=(hF tb htb).fin
  obtain⟨kb,e2,e3⟩:=(hF tb htb).bds
  obtain⟨⟨d1,b1⟩,⟨⟨d2,b2⟩,b3,b4⟩,b5,b6,b7⟩:=(hF tb htb).B
  exact⟨⟨dx,k e1 (fun _ y=>by cases y)⟩,⟨kb,k e2 (fun _ y=>by cases y),e3⟩,⟨⟨d1,k b1 (fun _ y=>by cases y)⟩,⟨⟨d2,k b2 (fun _ y=>by cases y)⟩,k b3 (fun _ y=>by cases y),k b4 (fun _ y=>by cases y)⟩,k b5 (fun _ y=>by cases y),k b6 (fun _ y=>by cases y),k b7 (fun _ y=>by cases y)⟩,fd',by omega⟩
 ·rcases hk with rfl|rfl
  ·exact w2 t' c' p' v' ys' g' e
  ·rw[jV]at e
   split at e
   ·next h=>
    obtain⟨rfl,rfl,rfl⟩:=zW h
    rw[g]at g'
    rw[<- Option.some.inj g',<- Option.some.inj e]
    exact ha
   ·exact w2 t' c' p' v' ys' g' e
 ·rcases hk with rfl|rfl
  ·exact w3 t' c' p' g'
  ·rw[jV,if_neg (fun h=>by
    obtain⟨rfl,rfl,rfl⟩:=zW h
    rw[g]at g'
    cases g')]
   exact w3 t' c' p' g'
 ·obtain⟨l,g3,g4⟩:=hJ.cols t' c' ys' B' g1 g2
  exact⟨l,g3,k g4 (fun _ y=>by cases y)⟩
theorem a1G{X:Cx}{σ:St}{H₁:Hp}{f:eC}{q:Str}{params:Arguments}{body:Expr}{scope:Scope}{fa:Addr}{ps:List Str}{cp:List (Nat×Str)}{cv:List V}{k:Nat}{spB:List V->Hp->VK->Prop}{sc:Scope}{N:List Str}(la:gK q params body scope (fU X.env.cells scope.names []) H₁ fa)(L:Lent X σ H₁ f)
 (hcell:∀x,X.env.scope.names.lookup x=some .cell->∃c,X.env.cells.lookup x=some c)
 (hcv:cp.map (fun p=>σ[p.1]?)=cv.map fun v=>some (some v))
 (hb:∀(pm ctv:Value) (c:Addr) (clos:List (Str×Addr)) (us:List Value),us.length=ps.length->bindArgs (PySem.W.kla_fn "<lambda>" q params body scope clos pm (.ref c) ctv) ⟨us,[]⟩=pure (ps.zip us))
 (hbody:∀(cd:Value) (A:Around) (outer:List Env) (s:Shared) (H:Hp) (vs:List V) (Q:VK),bV k (A.deeper (PySem.W.envX q scope s.heap.objs.size fa cd (fU X.env.cells scope.names [])))->spB vs H Q->
  ∃t,PE (xI X.prog X.w X.K X.mg X.base (ps++ cp.map (·.2)) q scope fa cd (fU X.env.cells scope.names []) A outer s H) body t/\t ((vs++ cv).map some) H Q)
 (hs:X.env.scope=sc:=by rfl)(hN:X.N=N:=by rfl)
 (hcp:∀p∈cp,N[p.1]?=some p.2/\sc.names.lookup p.2=some .cell/\scope.names.lookup p.2=some .free:=by decide+kernel)
 (free:∀y∈scope.names,y.2= .free->sc.names.lookup y.1=some .cell:=by decide+kernel)
 (kind:scope.kind= .function:=by rfl)(co:scope.isCoroutine=false:=by rfl)(gen:scope.isGenerator=false:=by rfl)(nocell:∀y∈scope.names,y.2≠ .cell:=by decide+kernel)(par:∀x∈ps,scope.names.lookup x=some .local:=by decide+kernel)(nd:(ps++ cp.map (·.2)).Nodup:=by decide+kernel):
 eQ X.prog X.w X.K X.mg X.base (k+ 1) fa (oU fa f q params body scope (fU X.env.cells scope.names []) ps.length spB):=by
 subst hs hN
 exact b3B L hcell hcv hcp free kind co gen nocell par nd hb hbody
theorem qP{f:eC}{H:Hp}{b:Addr}{o:HO}(h:unl f H b=some o):f b=none/\H b=some o:=by
 cases e:f b with
 |none=>rw[dI e]at h;exact⟨rfl,h⟩
 |some ob=>rw[kJ e]at h;cases h
theorem a6I{f:eC}{H:Hp}(h:∀b o,f b=some o->H b=none):unl f (cW f H)=H:=by
 funext b
 cases e:f b with
 |none=>rw[dI e,eJ e]
 |some ob=>rw[kJ e,h b ob e]
def JL(f:eC)(LL J:Hp->Prop)(H:Hp):Prop:=LL H/\(∀b o,f b=some o->H b=some (Fz o))/\J (unl f H)
theorem JL.st{f:eC}{LL J:Hp->Prop}{W:List Addr}{x y:Addr}(S:iM J W x y)(sl:∀H H',dC H H'->LL H->LL H'):iM (JL f LL J) W x y where
 there:=fun H h b mb z=>S.there _ h.2.2 b mb (by
  cases e:f b with
  |none=>rw[dI e];exact z
  |some ob=>exact kJ e)
 stay:=fun H H' k kz h=>⟨sl _ _ kz h.1,fun b o e=>kz _ _ (h.2.1 b o e),S.stay _ _ (fun b o mb e=>by
  obtain⟨e1,e2⟩:=qP e
  rw[dI e1]
  exact k _ _ mb e2) (fun b u e=>by
  obtain⟨e1,e2⟩:=qP e
  rw[dI e1]
  exact kz _ _ e2) h.2.2⟩
 x:=fun H h=>let ⟨k,e⟩:=S.x _ h.2.2;⟨k,(qP e).2⟩
 y:=fun H h=>let ⟨k,e⟩:=S.y _ h.2.2;⟨k,(qP e).2⟩
section
variable{P:Program}{w:World}{K:Fg}{mg:Str->Option Value}{base:Heap}{k:Nat}{q:Str}{params:Arguments}{body:Expr}{scope:Scope}{clos:List (Str×Addr)}{fa:Addr}{f:eC}
theorem b35{LL J:Hp->Prop}{W:List Addr}{x y:Addr}(S:iM J W x y)(sl:∀H H',dC H H'->LL H->LL H'){H H':Hp}(h:JL f LL J H)(fr:∀b o,f b=some o->H' b=none)(u:eZ x y (unl f H) H')(j:J H'):eZ x y H (cW f H')/\JL f LL J (cW f H'):=by
 have f2:eZ x y H (cW f H'):=fun b o n1 n2 e=>by
  cases e2:f b with
  |none=>rw[eJ e2];exact u _ _ n1 n2 (by rw[dI e2];exact e)
  |some ob=>rw[h.2.1 b ob e2]at e;rw[lF e2];exact e
 obtain⟨k1,e1⟩:=S.x _ h.2.2
 obtain⟨k2,e2⟩:=S.y _ h.2.2
 have ex:=(qP e1).2
 have ey:=(qP e2).2
 refine⟨f2,sl _ _ (fun b u' e=>f2 _ _ (fun z=>by rw[z,ex]at e;cases e) (fun z=>by rw[z,ey]at e;cases e) e) h.1,fun b o e=>lF e,?_⟩
 rw[a6I fr]
 exact j
def a2c(J:Hp->Prop)(x y:Addr)(gv:Str->Str->Option (List V)):List V->Hp->VK->Prop:=fun vs H Q=>∃(t c:Str) (p:Nat) (ys:List V) (v:V),vs= [.str t,.str c,.int (p:Int)] /\J H/\gv t c=some ys/\p<ys.length/\cG ys (p:Int)=some v/\∀H',eZ x y H H'->J H'->Q v H'
theorem b7f{LL J:Hp->Prop}{W:List Addr}{x y:Addr}{gv:Str->Str->Option (List V)}(S:iM J W x y)(sl:∀H H',dC H H'->LL H->LL H')(la:∀H,LL H->gK q params body scope clos H fa)
 (F:eQ P w K mg base k fa (oU fa f q params body scope clos 3 (a2c J x y gv))):eQ P w K mg base k fa (rN (JL f LL J) x y gv):=by
 refine F.imp fun vs H Q E h=> ?_
 obtain⟨t,c,p,ys,v,rfl,hJ,hg,hp,ha,qq⟩:=h
 refine⟨rfl,la _ hJ.1,hJ.2.1,t,c,p,ys,v,rfl,hJ.2.2,hg,hp,ha,fun H' u j fr=> ?_⟩
 obtain⟨f2,j2⟩:=b35 S sl hJ fr u j
 exact qq _ f2 j2
def a7V(J:Hp->Prop)(mv:Str->Nat->Prop):List V->Hp->VK->Prop:=fun vs H Q=>∃(t:Str) (m:Nat),vs= [.str t] /\mv t m/\J H/\∀H',aE H H'->Q (.int (m:Int)) H'
theorem b6P{LL J:Hp->Prop}{mv:Str->Nat->Prop}(la:∀H,LL H->gK q params body scope clos H fa)
 (F:eQ P w K mg base k fa (oU fa f q params body scope clos 1 (a7V J mv))):eQ P w K mg base k fa (a7d (JL f LL J) mv):=by
 refine F.imp fun vs H Q E h=> ?_
 obtain⟨t,m,rfl,hm,hJ,qq⟩:=h
 refine⟨rfl,la _ hJ.1,hJ.2.1,t,m,rfl,hm,hJ.2.2,fun H' s' fr=> ?_⟩
 refine qq _ (fun b o e=> ?_)
 cases e2:f b with
 |none=>rw[eJ e2];exact s' b o (by rw[dI e2];exact e)
 |some ob=>rw[hJ.2.1 b ob e2]at e;rw[lF e2];exact e
end
theorem mN{q:Str}{params:Arguments}{body:Expr}{scope:Scope}{clos:List (Str×Addr)}{H H':Hp}{fa:Addr}(s:dC H H')(h:gK q params body scope clos H fa):gK q params body scope clos H' fa:=by
 obtain⟨pm,c,ctv,o,e1,e2,e3⟩:=h
 exact⟨pm,c,ctv,o,s _ _ e1,s _ _ e2,e3⟩
theorem b5F{P:Program}{w:World}{K:Fg}{mg:Str->Option Value}{base:Heap}{k:Nat}{q q':Str}{params params':Arguments}{body body':Expr}{scope scope':Scope}{clos clos':List (Str×Addr)}{la lm:Addr}{f:eC}{J:Hp->Prop}{W:List Addr}{x y:Addr}{gv:Str->Str->Option (List V)}{mv:Str->Nat->Prop}{H:Hp}(S:iM J W x y)(free:∀b o,f b=some o->H b=none)(hJ:J H)(lA:gK q params body scope clos H la)(lB:gK q' params' body' scope' clos' H lm)
 (F1:eQ P w K mg base k la (oU la f q params body scope clos 3 (a2c J x y gv)))(F2:eQ P w K mg base k lm (oU lm f q' params' body' scope' clos' 1 (a7V J mv))):
 ∃J',J' (cW f H)/\iM J' W x y/\(∀H1,J' H1->(∀b o,f b=some o->H1 b=some (Fz o))/\J (unl f H1))/\eQ P w K mg base k la (rN J' x y gv)/\eQ P w K mg base k lm (a7d J' mv):=by
 have st:∀H H':Hp,dC H H'->(gK q params body scope clos H la/\gK q' params' body' scope' clos' H lm)->gK q params body scope clos H' la/\gK q' params' body' scope' clos' H' lm:=fun H H' s h=>⟨mN s h.1,mN s h.2⟩
 have kz:dC H (cW f H):=fun b u e=>by
  cases e2:f b with
  |none=>rw[eJ e2];exact e
  |some ob=>rw[free b ob e2]at e;cases e
 refine⟨JL f (fun H=>gK q params body scope clos H la/\gK q' params' body' scope' clos' H lm) J,⟨st _ _ kz ⟨lA,lB⟩,fun b o e=>lF e,?_⟩,JL.st S st,fun H1 h=>h.2,b7f S st (fun H h=>h.1) F1,b6P (fun H h=>h.2) F2⟩
 rw[a6I free]
 exact hJ
abbrev iR:Str:=("Finder.gathered":Str)++ ".<locals>." ++ "<lambda>"
def b4M(H H':Hp):Prop:=∀b o,(∀φ,o≠ .ext φ)->H b=some o->H' b=some o
def mvX(tabs:List (Str×BM))(t:Str)(m:Nat):Prop:=∃B,(t,B)∈tabs/\B.xs.length=m
section
variable{P:Program}{w:World}{K:Fg}{mg:Str->Option Value}{base:Heap}
def GatU(P:Program)(w:World)(K:Fg)(mg:Str->Option Value)(base:Heap)(spg:Sp)(gr:Addr)(tabs:List (Str×BM))(gv:Str->Str->Option (List V))(fd tl:Addr)(nm c:Str)(p:Nat)(tf:PyData ⊕ List Int)(H:Hp):Prop:=
 ∀(look many:Addr) (J:Hp->Prop) (W:List Addr) (HB:Hp) (Q':VK),b4M H HB->J HB->iM J W fd tl->eQ P w K mg base 6 look (rN J fd tl gv)->eQ P w K mg base 6 many (a7d J (mvX tabs))->
  (∀H' fv,eZ fd tl HB H'->J H'->qY K HB H' fv tf->Q' fv H')->spg [.ref gr,.ref look,.ref many,.str nm,.str c,.int (p:Int)] HB Q' E0
def b1Y(P:Program)(w:World)(K:Fg)(mg:Str->Option Value)(base:Heap)(CR CF CB CT CG zt:Addr)(spg:Sp):Sp:=fun vs H Q _=>∃(X:mF) (W:List Addr) (gr dx:Addr) (fs:List (Str×V)) (nm c:Str) (B:BM) (p:Nat) (tf:PyData ⊕ List Int),vs= [.ref X.fi,.ref X.tr,.str nm,.str c,.int (p:Int)] /\J3 CR CF CB CT X H/\X.tl≠X.fd/\Ok3 X.tabs X.Ks X.gv/\Wof X W/\zt∉W/\(nm,B)∈X.tabs/\aM B.rus (.inr c:aA)=some (.ref gr)/\H gr=some (.ins CG dx fs)/\fs.lookup ("gather":Str)=none/\gA iR H zt/\GatU P w K mg base spg gr X.tabs X.gv X.fd X.tl nm c p tf H/\
 ∀H' fv,(∀b o,b≠X.fd->b≠X.tl->b≠zt->H b=some o->H' b=some o)->J3 CR CF CB CT X H'->gA iR H' zt->qY K H H' fv tf->Q fv H'
abbrev lE:List Str:=["self","trial","table","column","place"]
theorem b4G:bG lE lE (aI fD):=⟨rfl,rfl,rfl,by decide+kernel,rfl,by decide+kernel,by decide+kernel⟩
theorem b2n(T:bE K mg){CR CF CB CT CG:Addr}(R:jI K mg CR)(Y:eL K mg CF)(Wb:cO K mg CB)(Z:dO K mg CT)(clG:dJ K CG){z:Addr×Addr}(B2:iF K mg "Finder" "gathered" "Finder.gathered" fD z)(M:gH mg base z.1 z.2){spg:Sp}(G_gather:aT P w K mg base aF 8 CG "gather" ["self","look","many","table","column","place"] spg):aT P w K mg base aF 9 CF "gathered" lE (b1Y P w K mg base CR CF CB CT CG z.2 spg):=by
 have G_look:aT P w K mg base aF 5 CR "look" ["self","table","column","place"] (a9L CR CF CB CT):=b6J T R Y Wb Z
 have G_many:aT P w K mg base aF 1 CT "many" ["self"] (mC CT):=jU T Z
 refine B2.known Y.c b4G (fun _ _ _ _ _ _ us hl=>bi5 (fun _ _ _ _ _=>rfl) us hl) (fun vs H Q E h=> ?_) (fun f A outer s H vs Q E hr h=> ?_)
 ·obtain⟨X,W,gr,dx,fs,nm,c,B,p,tf,rfl,_⟩:=h
  rfl
 ·obtain⟨X,W,gr,dx,fs,nm,c,B,p,tf,rfl,hJ,netl,O,wof,nzW,hB,hru,hgr,hno,tb,use,q⟩:=h
  have S:=J3.st (CR:=CR) (CF:=CF) (CB:=CB) (CT:=CT) wof
  have hu:=cU hr
  have hcl:∀x,(eY aF P w K mg base lE "Finder.gathered" (aI fD) f (.ref z.1) A outer s H E).nox.env.scope.names.lookup x=some .cell->∃c,(eY aF P w K mg base lE "Finder.gathered" (aI fD) f (.ref z.1) A outer s H E).nox.env.cells.lookup x=some c:=fun x hx=>Option.isSome_iff_exists.mp (PySem.W.cellsFrom_some _ _ _ (.inl hx))
  refine⟨_,(aL (bP (b4e (eE hu (aX (eE hu (aX (pv 0) rfl) (pv 2) (fun _ _=>rfl)) rfl) (pv 3) (fun _ _=>rfl)) clG G_gather hr (aB (a7L M rfl (qH (sc:=aI fD) (N:=lE) (cp:=[(1,"trial")]) hcl).clos rfl) (aB (a7L M rfl (qH (sc:=aI fD) (N:=lE) (cp:=[(0,"self")]) hcl).clos rfl) (aB (pv 2) (aB (pv 3) (aB (pv 4) aG)))))))),?_⟩
  obtain⟨kf,F0,e0,r1,r2,r3⟩:=hJ.kf
  have F:=F0 _ hB
  obtain⟨d0,e1⟩:=F.fin
  obtain⟨kb,e2,e3⟩:=F.bds
  obtain⟨⟨d1,b1⟩,_,b5,_,_⟩:=id F.B
  refine⟨_,rfl,X.fi,CF,d0,_,_,rfl,e1,Y.cl,Y.n_boards,(jS _ _ _).1,_,rfl,X.bd,_,rfl,e3▸bQ.k (k:=Sum.inr nm) e2,B.b,CB,d1,_,_,rfl,b1,Wb.cl,Wb.n_rules,(dL _ _ _ _).2.1,_,rfl,B.ru,_,rfl,hru▸bQ.k (k:=Sum.inr c) b5,gr,dx,_,rfl,hgr,hno,tb,fun la HA hla sA tA lA=>⟨tA,fun lm HB hlm sB tB lB=>⟨_,rfl,_,rfl,_,rfl,fun f' Ln=> ?_⟩⟩⟩
  obtain⟨S0,t0,_⟩:=id tb
  have uB:a9T z.2 H HB:=fun b o n e=>sB b o n (sA b o n e)
  have nz:∀{b:Addr} {o:HO},H b=some o->(∀φ,o≠ .ext φ)->b≠z.2:=fun e n y=>by rw[y,t0]at e;exact n _ (Option.some.inj e).symm
  obtain⟨SA,tA0,_⟩:=id tA
  have kzAB:dC HA HB:=fun b u e=>sB _ _ (fun y=>by rw[y,tA0]at e;cases e) e
  have kzB:dC H HB:=fun b u e=>uB _ _ (nz e (fun φ y=>by cases y)) e
  have JB:J3 CR CF CB CT X HB:=S.stay _ _ (fun b o mb e=>uB _ _ (fun y=>nzW (y▸mb)) e) kzB hJ
  have F1:=a1G (sc:=aI fD) (N:=lE) (ps:=["theirs","name","row"]) (cp:=[(1,"trial")]) (cv:=[.ref X.tr]) (k:=5) (spB:=a2c (J3 CR CF CB CT X) X.fd X.tl X.gv) (mN kzAB lA) Ln hcl rfl (fun _ _ _ _ us hl=>hV (fun _ _ _=>rfl) us hl) (fun cd A' outer' s' H' vs Q' hr' h'=>by
   obtain⟨t',c',p',ys',v',rfl,hJ',g',hp',ha',q'⟩:=h'
   refine⟨_,(bZ (pv 3) R.cl G_look hr' aR (aB (pv 0) (aB (pv 1) (aB (pv 2) aG)))),?_⟩
   obtain⟨B',hB',cN,tN,cR,cL,cK⟩:=O.g t' c' ys' g'
   obtain⟨kf',F',w0,w1,w2,w3⟩:=hJ'.kf
   obtain⟨d3,t1⟩:=hJ'.tr
   obtain⟨kt',t2,t3⟩:=hJ'.tl
   obtain⟨l',g3,g4⟩:=hJ'.cols t' c' ys' B' g' hB'
   have kl:=w1.len
   have tl':=t3.len
   have k8:=O.k8
   refine⟨_,rfl,X.tr,d3,_,rfl,t1,(a4F _ _ _).2.2.2,_,rfl,_,rfl,_,rfl,X.tr,X.tl,X.fi,X.bd,X.fd,X.lk,l',d3,t',c',p',B',kf',kt',ys',v',rfl,t1,t2,by omega,netl,F' _ hB',cR,cN,g3,g4,by omega,ha',fun v2 hv2=> ?_,by omega,fun H2 kf2 hk2 F2 ht2 fr2=>q' H2 fr2 (J3.look netl O hJ' g' hp' ha' F' w0 w1 w2 w3 hk2 F2.fnd t2 t3 ht2 fr2)⟩
   have:=w2 t' c' p' v2 ys' g' hv2
   rw[ha']at this
   exact(Option.some.inj this).symm)
  have F2:=a1G (sc:=aI fD) (N:=lE) (ps:=["theirs"]) (cp:=[(0,"self")]) (cv:=[.ref X.fi]) (k:=5) (spB:=a7V (J3 CR CF CB CT X) (mvX X.tabs)) lB Ln hcl rfl (fun _ _ _ _ us hl=>fK (fun _=>rfl) us hl) (fun cd A' outer' s' H' vs Q' hr' h'=>by
   obtain⟨t',m',rfl,⟨B',hB',rfl⟩,hJ',q'⟩:=h'
   refine⟨_,(mO (aX (eE (cU hr') (aX (pv 1) rfl) (pv 0) (fun _ _=>rfl)) rfl) Z.cl G_many (hr'.mono (by decide)) aR),?_⟩
   obtain⟨kf',F0',_⟩:=hJ'.kf
   have F':=F0' _ hB'
   obtain⟨d0',e1'⟩:=F'.fin
   obtain⟨kb',e2',e3'⟩:=F'.bds
   obtain⟨⟨d1',b1'⟩,tb',_,_,_⟩:=id F'.B
   obtain⟨⟨d2',b2'⟩,_,_⟩:=id tb'
   exact⟨_,rfl,X.fi,CF,d0',_,_,rfl,e1',Y.cl,Y.n_boards,(jS _ _ _).1,_,rfl,X.bd,_,rfl,e3'▸bQ.k (k:=Sum.inr t') e2',B'.b,CB,d1',_,_,rfl,b1',Wb.cl,Wb.n_given,(dL _ _ _ _).1,B'.g,d2',_,rfl,b2',iN,B'.g,B'.r,B'.e,B'.xs,B'.n,B'.kvs,rfl,tb',q' _ (aE.refl _)⟩)
  obtain⟨J',j1,S',j2,L1,L2⟩:=b5F S Ln.free JB (mN kzAB lA) lB F1 F2
  have nofL:∀b o,HB b=some o->f' b=none:=fun b o e=>by
   cases e2:f' b with
   |none=>rfl
   |some ob=>rw[Ln.free b ob e2]at e;cases e
  have sL:aE HB (cW f' HB):=fun b o e=>by rw[eJ (nofL b o e)];exact e
  refine use la lm J' W (cW f' HB) _ (fun b o n e=>sL _ _ (uB _ _ (nz e n) e)) j1 S' L1 L2 fun H' fv fr J2 told=> ?_
  obtain⟨lf,JJ⟩:=j2 _ J2
  have KN:∀{b:Addr} {o:HO},(∀u,o≠Fz u)->H' b=some o->unl f' H' b=some o:=fun{b o} n e=>by
   cases e2:f' b with
   |none=>rw[dI e2];exact e
   |some ob=>rw[lf b ob e2]at e;exact absurd (Option.some.inj e).symm (n ob)
  have up:∀{b:Addr} {o:HO},b≠X.fd->b≠X.tl->HB b=some o->unl f' H' b=some o:=fun{b o} n1 n2 e=>by
   rw[dI (nofL b o e)]
   exact fr _ _ n1 n2 (sL _ _ e)
  obtain⟨kx,ex⟩:=S.x _ JB
  obtain⟨ky,ey⟩:=S.y _ JB
  have nxy:∀{b:Addr} {o:HO},HB b=some o->(∀kvs,o≠ .dT kvs)->b≠X.fd/\b≠X.tl:=fun e n=>⟨(fun y=>by rw[y,ex]at e;exact n _ (Option.some.inj e).symm),(fun y=>by rw[y,ey]at e;exact n _ (Option.some.inj e).symm)⟩
  refine q _ fv (fun b o n1 n2 n3 e=>up n1 n2 (uB _ _ n3 e)) JJ ?_ ?_
  ·obtain⟨SB,tB0,tB1⟩:=tB
   have n0:=nxy tB0 (fun _ y=>by cases y)
   refine⟨SB,up n0.1 n0.2 tB0,fun c' hc'=> ?_⟩
   obtain⟨o,o1,o2⟩:=tB1 c' hc'
   have n1:=nxy o1 (fun _ y=>by cases y)
   exact⟨o,up n1.1 n1.2 o1,o2⟩
  ·have ktu:cJ H' (unl f' H'):=fun a xs e=>KN (fun u y=>by cases y) e
   cases tf with
   |inl d=>
    obtain⟨a,v,r1',r2',r3'⟩:=told
    exact⟨a,v,r1',ktu _ _ r2',r3'.keep ktu⟩
   |inr is=>
    obtain⟨a,l,r1',r2',r3',r4'⟩:=told
    refine⟨a,l,r1',ktu _ _ r2',KN (fun u y=>by cases y) r3',?_⟩
    cases e:H l with
    |none=>rfl
    |some o=>
     exfalso
     by_cases y:l=z.2
     ·rw[y]at r4'
      obtain⟨SB,tB0,_⟩:=tB
      rw[sL _ _ tB0]at r4'
      cases r4'
     ·rw[sL _ _ (uB _ _ y e)]at r4'
      cases r4'
def b0b(K:Fg)(CF CB CT:Addr)(sp:Sp):Sp:=fun vs H Q _=>∃(fi ce ta:Addr),vs= [.ref fi,.ref ce,.ref ta] /\
 ((∃v,H ta=some (.tup [.str ("value":Str),v])/\Q v H)\/
  ∃(bd fd lk l:Addr) (nm c:Str) (p:Nat) (B:BM) (kf:List (Ky×V)),H ta=some (.tup [.str ("call":Str),.ref l])/\dA CF CB CT H fi bd fd lk nm B kf/\H ce=some (.tup ((aW nm c p).map kV))/\sp [.ref B.b,.str c,.int (p:Int),.ref l] H Q E0)
theorem b5p:bG ["self","cell","told"] ["self","cell","told"] (aI sK):=⟨rfl,rfl,rfl,by decide+kernel,rfl,by decide+kernel,by decide+kernel⟩
theorem b7m(T:bE K mg){CF CB CT:Addr}(Y:eL K mg CF)(Wb:cO K mg CB){sp:Sp}{k:Nat}(G:aT P w K mg base aF k CB "outcome" ["self","column","place","some"] sp):aT P w K mg base aF (k+ 1) CF "settle" ["self","cell","told"] (b0b K CF CB CT sp):=by
 refine Y.m_settle.known b5p (fun _ _ _ _ _ _ us hl=>hV (fun _ _ _=>rfl) us hl) (fun vs H Q E h=> ?_) (fun f cdv A outer s H vs Q E hr h=> ?_)
 ·obtain⟨fi,ce,ta,rfl,_⟩:=h
  rfl
 ·obtain⟨fi,ce,ta,rfl,h⟩:=h
  have hu:=cU hr
  refine⟨_,(aK (bM (dE qL (cT fL (pv 2) aY (fun _ _=>rfl)) dW (dH _)) (aL (bP (cT fL (pv 2) aY (fun _ _=>rfl)))) bS)
   (aL (bP (bZ (eE hu (aX (pv 0) rfl) (cT fL (pv 1) aY (fun _ _=>rfl)) (fun _ _=>rfl)) Wb.cl G hr aR (aB (cT fL (pv 1) aY (fun _ _=>rfl)) (aB (cT fL (pv 1) aY (fun _ _=>rfl)) (aB (cT fL (pv 2) aY (fun _ _=>rfl)) aG))))))),?_⟩
  rcases h with⟨v,hta,q⟩|⟨bd,fd,lk,l,nm,c,p,B,kf,hta,F,hce,q⟩
  ·refine⟨_,rfl,ta,_,_,_,rfl,rfl,cF.of hta,rfl,rfl,_,rfl,eR (fun _=> ?_) (fun h=>absurd (decide_eq_true rfl) h)⟩
   exact⟨_,rfl,ta,_,_,_,rfl,rfl,cF.of hta,rfl,q⟩
  ·refine⟨_,rfl,ta,_,_,_,rfl,rfl,cF.of hta,rfl,rfl,_,rfl,eR (fun h=>absurd (V.str.inj (of_decide_eq_true h)) (by decide)) (fun _=> ?_)⟩
   obtain⟨d0,e1⟩:=F.fin
   obtain⟨kb,e2,e3⟩:=F.bds
   obtain⟨d1,b1⟩:=F.B.at_
   exact⟨_,rfl,fi,CF,d0,_,_,rfl,e1,Y.cl,Y.n_boards,(jS _ _ _).1,_,rfl,ce,_,_,_,rfl,rfl,cF.of hce,rfl,bd,_,rfl,e3▸bQ.k (k:=Sum.inr nm) e2,B.b,d1,_,rfl,b1,nY,_,rfl,ce,_,_,_,rfl,rfl,cF.of hce,rfl,_,rfl,ce,_,_,_,rfl,rfl,cF.of hce,rfl,_,rfl,ta,_,_,_,rfl,rfl,cF.of hta,rfl,q⟩
def a2X(CF CB CT:Addr):Sp:=fun vs H Q _=>∃(fi bd fd lk ce:Addr) (nm c:Str) (p:Nat) (B:BM) (kf:List (Ky×V)) (r v:V),vs= [.ref fi,.ref ce] /\dA CF CB CT H fi bd fd lk nm B kf/\H ce=some (.tup ((aW nm c p).map kV))/\aM B.rus (.inr c:aA)=some r/\aM kf (aW nm c p)=some v/\Q .non H
abbrev b5U:List Str:=["self","cell","trial","told"]
theorem a0d:bG b5U ["self","cell"] (aI tG):=⟨rfl,rfl,rfl,by decide+kernel,rfl,by decide+kernel,by decide+kernel⟩
theorem b4y(T:bE K mg){CF CB CT:Addr}(Y:eL K mg CF)(Wb:cO K mg CB):aT P w K mg base aF 5 CF "attempt" ["self","cell"] (a2X CF CB CT):=by
 have G_knows:aT P w K mg base aF 4 CF "knows" ["self","cell"] (a46 CF CB CT):=b0K T Y Wb
 refine Y.m_attempt.known a0d (fun _ _ _ _ _ _ us hl=>eG (fun _ _=>rfl) us hl) (fun vs H Q E h=> ?_) (fun f cdv A outer s H vs Q E hr h=> ?_)
 ·obtain⟨fi,bd,fd,lk,ce,nm,c,p,B,kf,r,v,rfl,_⟩:=h
  rfl
 ·obtain⟨fi,bd,fd,lk,ce,nm,c,p,B,kf,r,v,rfl,F,hce,hru,hv,q⟩:=h
  refine⟨_,(aK (bM (dZ (bZ (pv 0) Y.cl G_knows hr aR (aB (pv 1) aG)) (fun _=>rfl)) (aL (bP hW)) bS)
   (aK cQ (aK cQ (aK cQ (aL cQ))))),?_⟩
  obtain⟨d0,e1⟩:=F.fin
  refine⟨_,rfl,fi,d0,_,rfl,e1,lU,_,rfl,fi,bd,fd,lk,ce,nm,c,p,B,kf,r,rfl,F,hce,hru,_,rfl,?_⟩
  rw[hv]
  exact dM q
end
structure jY where
 fi:Addr
 bd:Addr
 fd:Addr
 lk:Addr
 tabs:List (Str×BM)
 Ks:List Ky
 gv:Str->Str->Option (List V)
 nm:Str
 c:Str
 B:BM
 gr:Addr
 fa:Addr
 ca:Addr
 mc:Addr
 fs:List (Str×V)
 g:List Int->PyData
 ok:List Int->Prop
structure qJ(X:jY):Prop where
 o3:Ok3 X.tabs X.Ks X.gv
 hB:(X.nm,X.B)∈X.tabs
 ru:aM X.B.rus (.inr X.c:aA)=some (.ref X.gr)
 me:aM X.B.mes (.inr X.c:aA)=some (.ref X.mc)
 no:X.gv X.nm X.c=none
 kin:∀p,p<X.B.xs.length->aW X.nm X.c p∈X.Ks
 rf:RF X.fs X.fa
 ga:X.fs.lookup ("gather":Str)=none
 gg:∀is,X.ok is->kM (X.g is)/\Vd (gC (X.g is))
 fl:X.fd≠X.lk
 mb:X.mc≠X.bd
 mm:∀tb∈X.tabs,X.mc≠tb.2.e/\X.mc≠tb.2.ru/\X.mc≠tb.2.me
 cc:∀tb∈X.tabs,X.ca≠tb.2.r/\X.ca≠tb.2.od
 cl:∀t c ys B,X.gv t c=some ys->(t,B)∈X.tabs->aM B.kvs (.inr c:aA)≠some (.ref X.ca)
theorem a9q{K:Fg}{H H':Hp}{v:V}{d:PyData}(hv:Vd d)(h:Dt K H v d)(u:∀x o,(∀y,o≠ .dT y)->(∀y,o≠ .dK y)->(∀y,o≠ .lst y)->(∀a b c,o≠ .ins a b c)->(∀y,o≠ .ext y)->H x=some o->H' x=some o):Dt K H' v d:=by
 rcases hv with⟨i,rfl,hb⟩|⟨z,rfl,hz⟩
 ·cases h
  exact .int i
 ·cases h with
  |tup hq hall=>
   cases hall with
   |cons h1 t=>
    cases h1
    cases t with
    |cons h2 t=>
     cases h2
     cases t
     refine .tup ?_ (.cons (.str _) (.cons (.str _) .nil))
     rcases hq with h|h
     ·rcases h with h|⟨o,h⟩
      ·exact .inl (.inl (u _ _ (fun _ y=>by cases y) (fun _ y=>by cases y) (fun _ y=>by cases y) (fun _ _ _ y=>by cases y) (fun _ y=>by cases y) h))
      ·exact .inl (.inr ⟨o,u _ _ (fun _ y=>by cases y) (fun _ y=>by cases y) (fun _ y=>by cases y) (fun _ _ _ y=>by cases y) (fun _ y=>by cases y) h⟩)
     ·exact .inr h
section
variable{P:Program}{w:World}{K:Fg}{mg:Str->Option Value}{base:Heap}
structure gW(P:Program)(w:World)(K:Fg)(mg:Str->Option Value)(base:Heap)(CF CB CT CG:Addr)(X:jY)(kf kl:List (Ky×V))(mk:List (aA×V))(H:Hp):Prop where
 F:∀tb∈X.tabs,dA CF CB CT H X.fi X.bd X.fd X.lk tb.1 tb.2 kf
 ko:eS X.Ks kf
 fo:∀t c p v ys,X.gv t c=some ys->aM kf (aW t c p)=some v->cG ys (p:Int)=some v
 hl:H X.lk=some (.dT kl)
 lo:eS X.Ks kl
 cols:∀t c ys B,X.gv t c=some ys->(t,B)∈X.tabs->∃l,aM B.kvs (.inr c:aA)=some (.ref l)/\H l=some (.lst ys)
 gr:∃dx,H X.gr=some (.ins CG dx X.fs)
 fn:iU P w K mg base 4 H X.fa X.ca X.g X.ok
 mc:H X.mc=some (.dK mk)
theorem gW.fnd{CF CB CT CG:Addr}{X:jY}{kf kl:List (Ky×V)}{mk:List (aA×V)}{H:Hp}(G:gW P w K mg base CF CB CT CG X kf kl mk H)(O:qJ X):H X.fd=some (.dT kf):=(G.F _ O.hB).fnd
theorem gW.same{CF CB CT CG:Addr}{X:jY}{kf kl:List (Ky×V)}{mk:List (aA×V)}{H H':Hp}(G:gW P w K mg base CF CB CT CG X kf kl mk H)(s:aE H H'):gW P w K mg base CF CB CT CG X kf kl mk H':=
 ⟨fun tb h=>(G.F tb h).same s,G.ko,G.fo,s _ _ G.hl,G.lo,fun t c ys B g h=>let ⟨l,a,b⟩:=G.cols t c ys B g h;⟨l,a,s _ _ b⟩,G.gr.imp fun _ e=>s _ _ e,G.fn.keep (dC.of s),s _ _ G.mc⟩
def mV(K:Fg)(X:jY)(num:Int)(wo:Option (List Int×V))(mk mk':List (aA×V))(cs:List V)(v:V)(H H':Hp):PyData ⊕ List Int->Prop
 | .inl d=>Pv K H' v d/\mk'=mk/\H' X.ca=some (.lst cs)
 | .inr is=>(wo=some (is,v)/\mk'=mk/\H' X.ca=some (.lst cs))\/
  ((∀vv,wo≠some (is,vv))/\∃lc tp sm,H lc=none/\H tp=none/\H sm=none/\H' X.ca=some (.lst (cs++ [.ref lc]))/\H' lc=some (.lst (is.map V.int))/\H' tp=some (.tup [.ref sm,v])/\H' sm=some (.lst (is.map V.int))/\mk'=aS mk (.inl num:aA) (.ref tp)/\Dt K H' v (gC (X.g is)))
def rC(a b c d e:Addr)(H H':Hp):Prop:=∀x o,x≠a->x≠b->x≠c->x≠d->x≠e->H x=some o->H' x=some o
def pP(H:Hp)(mk:List (aA×V))(p:Int):Option (List Int×V)->Prop
 |none=>aM mk (.inl p:aA)=none
 |some jv=>qS H mk p jv.1 jv.2
theorem nU{q:Str}{H H':Hp}{z:Addr}(h:gA q H z)(k:∀b o,(∀x,o≠ .dT x)->(∀x,o≠ .dK x)->(∀x,o≠ .lst x)->H b=some o->H' b=some o):gA q H' z:=by
 obtain⟨S,h1,h2⟩:=h
 refine⟨S,k _ _ (fun x y=>by cases y) (fun x y=>by cases y) (fun x y=>by cases y) h1,fun c hc=> ?_⟩
 obtain⟨o,o1,o2⟩:=h2 c hc
 exact⟨o,k _ _ (fun x y=>by cases y) (fun x y=>by cases y) (fun x y=>by cases y) o1,o2⟩
theorem gW.to{CF CB CT CG zt:Addr}{X:jY}(O:qJ X){kf kl kf' kl':List (Ky×V)}{mk mk':List (aA×V)}{cs:List V}{H H':Hp}(G:gW P w K mg base CF CB CT CG X kf kl mk H)(fr:rC X.fd X.lk zt X.ca X.mc H H')(tb:gA iR H zt)(hca:H X.ca=some (.lst cs))(hfd:H' X.fd=some (.dT kf'))(hlk:H' X.lk=some (.dT kl'))(hmc:H' X.mc=some (.dK mk'))(ko:eS X.Ks kf')(lo:eS X.Ks kl')(fo:∀t c p v ys,X.gv t c=some ys->aM kf' (aW t c p)=some v->cG ys (p:Int)=some v):gW P w K mg base CF CB CT CG X kf' kl' mk' H':=by
 obtain⟨S0,t0,_⟩:=tb
 have fd0:=G.fnd O
 have u:∀{b:Addr} {o:HO},H b=some o->(∀x,o≠ .dT x)->(∀x,o≠ .ext x)->b≠X.ca->b≠X.mc->H' b=some o:=fun{b o} e n1 n2 n3 n4=>fr b o (fun y=>by rw[y,fd0]at e;exact n1 _ (Option.some.inj e).symm) (fun y=>by rw[y,G.hl]at e;exact n1 _ (Option.some.inj e).symm) (fun y=>by rw[y,t0]at e;exact n2 _ (Option.some.inj e).symm) n3 n4 e
 have na:∀{b:Addr} {o:HO},H b=some o->(∀x,o≠ .lst x)->b≠X.ca:=fun e n y=>by rw[y,hca]at e;exact n _ (Option.some.inj e).symm
 have nm:∀{b:Addr} {o:HO},H b=some o->(∀x,o≠ .dK x)->b≠X.mc:=fun e n y=>by rw[y,G.mc]at e;exact n _ (Option.some.inj e).symm
 have ui:∀{b C dx:Addr} {fs:List (Str×V)},H b=some (.ins C dx fs)->H' b=some (.ins C dx fs):=fun e=>u e (fun _ y=>by cases y) (fun _ y=>by cases y) (na e (fun _ y=>by cases y)) (nm e (fun _ y=>by cases y))
 have ul:∀{b:Addr} {xs:List V},H b=some (.lst xs)->b≠X.ca->H' b=some (.lst xs):=fun e n=>u e (fun _ y=>by cases y) (fun _ y=>by cases y) n (nm e (fun _ y=>by cases y))
 have ud:∀{b:Addr} {xs:List (aA×V)},H b=some (.dK xs)->b≠X.mc->H' b=some (.dK xs):=fun e n=>u e (fun _ y=>by cases y) (fun _ y=>by cases y) (na e (fun _ y=>by cases y)) n
 have kz:dC H H':=fun a x e=>u e (fun _ y=>by cases y) (fun _ y=>by cases y) (na e (fun _ y=>by cases y)) (nm e (fun _ y=>by cases y))
 have l':=ko.len
 have k8:=O.o3.k8
 refine⟨fun tb htb=> ?_,ko,fo,hlk,lo,fun t c ys B g h=>let ⟨l,h1,h2⟩:=G.cols t c ys B g h;⟨l,h1,ul h2 (fun y=>O.cl t c ys B g h (y▸h1))⟩,G.gr.imp fun _ e=>ui e,G.fn.keep kz,hmc⟩
 obtain⟨d0,e1⟩:=(G.F tb htb).fin
 obtain⟨kb,e2,e3⟩:=(G.F tb htb).bds
 obtain⟨⟨d1,b1⟩,⟨⟨d2,b2⟩,b3,b4⟩,b5,b6,b7⟩:=(G.F tb htb).B
 obtain⟨m1,m2,m3⟩:=O.mm tb htb
 obtain⟨c1,c2⟩:=O.cc tb htb
 exact⟨⟨d0,ui e1⟩,⟨kb,ud e2 O.mb.symm,e3⟩,⟨⟨d1,ui b1⟩,⟨⟨d2,ui b2⟩,ul b3 c1.symm,ud b4 m1.symm⟩,ud b5 m2.symm,ud b6 m3.symm,ul b7 c2.symm⟩,hfd,by omega⟩
theorem b2E{κ:Type} [DecidableEq κ]{kvs:List (κ×V)}{k:κ}{v:V}(h:aM kvs k=some v):(k,v)∈kvs:=by
 unfold aM at h
 cases e:kvs.find? fun kv=>decide (kv.1=k)with
 |none=>rw[e]at h;cases h
 |some kv=>
  rw[e]at h
  have h2:kv.2=v:=Option.some.inj h
  have h1:kv.1=k:=by have:=List.find?_some e;simpa using this
  rw[<- h1,<- h2]
  exact List.mem_of_find?_eq_some e
open Classical in
noncomputable def a24 (tabs:List (Str×BM)) (gv:Str->Str->Option (List V)):List Addr:=tabs.flatMap fun tb=>tb.2.kvs.filterMap fun kv=>match kv with
 |(.inr c,.ref l)=>if(gv tb.1 c).isSome/\aM tb.2.kvs (.inr c:aA)=some (.ref l) then some l else none
 |_=>none
theorem b2z{tabs:List (Str×BM)}{gv:Str->Str->Option (List V)}{t c:Str}{ys:List V}{B:BM}{l:Addr}(g:gv t c=some ys)(h:(t,B)∈tabs)(e:aM B.kvs (.inr c:aA)=some (.ref l)):l∈a24 tabs gv:=by
 refine List.mem_flatMap.mpr ⟨(t,B),h,List.mem_filterMap.mpr ⟨_,b2E e,?_⟩⟩
 show(if(gv t c).isSome/\aM B.kvs (.inr c:aA)=some (.ref l) then some l else none)=some l
 rw[if_pos ⟨by rw[g];rfl,e⟩]
theorem b7Y{tabs:List (Str×BM)}{gv:Str->Str->Option (List V)}{l:Addr}(h:l∈a24 tabs gv):∃t c ys B,gv t c=some ys/\(t,B)∈tabs/\aM B.kvs (.inr c:aA)=some (.ref l):=by
 obtain⟨tb,h1,h2⟩:=List.mem_flatMap.mp h
 obtain⟨kv,h3,h4⟩:=List.mem_filterMap.mp h2
 split at h4
 ·next c l'=>
  split at h4
  ·next hc=>
   cases h4
   obtain⟨ys,hy⟩:=Option.isSome_iff_exists.mp hc.1
   exact⟨tb.1,c,ys,tb.2,hy,h1,hc.2⟩
  ·cases h4
 ·cases h4
theorem dA.noext{CF CB CT:Addr}{H:Hp}{fi bd fd lk:Addr}{nm:Str}{B:BM}{kf:List (Ky×V)}(F:dA CF CB CT H fi bd fd lk nm B kf){b:Addr}(hb:b∈ [fi,bd,fd] ++ B.foot){φ:Heap->Prop}(z:H b=some (HO.ext φ)):False:=by
 obtain⟨dx,e1⟩:=F.fin
 obtain⟨kb,e2,e3⟩:=F.bds
 obtain⟨⟨d1,b1⟩,⟨⟨d2,b2⟩,b3,b4⟩,b5,b6,b7⟩:=F.B
 have e0:=F.fnd
 simp only[BM.foot,List.cons_append,List.nil_append,List.mem_cons,List.not_mem_nil,or_false]at hb
 rcases hb with rfl|rfl|rfl|rfl|rfl|rfl|rfl|rfl|rfl|rfl
 ·rw[e1]at z;cases z
 ·rw[e2]at z;cases z
 ·rw[e0]at z;cases z
 ·rw[b1]at z;cases z
 ·rw[b2]at z;cases z
 ·rw[b3]at z;cases z
 ·rw[b4]at z;cases z
 ·rw[b5]at z;cases z
 ·rw[b6]at z;cases z
 ·rw[b7]at z;cases z
noncomputable def W3 (X:mF):List Addr:=[X.fd,X.tr,X.tl] ++ (X.tabs.flatMap fun tb=> [X.fi,X.bd,X.fd] ++ tb.2.foot)++ a24 X.tabs X.gv
theorem b2C(X:mF):Wof X (W3 X) where
 o:=⟨by simp[W3],by simp[W3],by simp[W3]⟩
 f:=fun tb h b hb=>List.mem_append_left _ (List.mem_append_right _ (List.mem_flatMap.mpr ⟨tb,h,hb⟩))
 c:=fun t c ys B l g h e=>List.mem_append_right _ (b2z g h e)
 n:=fun b hb=>by
  rcases List.mem_append.mp hb with hb|hb
  ·rcases List.mem_append.mp hb with hb|hb
   ·simp only[List.mem_cons,List.not_mem_nil,or_false]at hb
    rcases hb with h|h|h
    ·exact .inl h
    ·exact .inr (.inl h)
    ·exact .inr (.inr (.inl h))
   ·obtain⟨tb,h1,h2⟩:=List.mem_flatMap.mp hb
    exact .inr (.inr (.inr (.inl ⟨tb,h1,h2⟩)))
  ·exact .inr (.inr (.inr (.inr (b7Y hb))))
def a6Y(P:Program)(w:World)(K:Fg)(mg:Str->Option Value)(base:Heap)(CF CB CT CG zt:Addr)(spg:Sp):Sp:=fun vs H Q _=>∃(X:jY) (ce:Addr) (p:Nat) (num:Int) (tf:PyData ⊕ List Int) (kf kl:List (Ky×V)) (mk:List (aA×V)) (cs:List V) (wo:Option (List Int×V)),vs= [.ref X.fi,.ref ce] /\qJ X/\gW P w K mg base CF CB CT CG X kf kl mk H/\mk.length<90/\H ce=some (.tup ((aW X.nm X.c p).map kV))/\p<X.B.xs.length/\cG X.B.xs (p:Int)=some (.int num)/\aM kf (aW X.nm X.c p)=none/\gA iR H zt/\H X.ca=some (.lst cs)/\cs.length<900/\pP H mk num wo/\(∀tl,GatU P w K mg base spg X.gr X.tabs X.gv X.fd tl X.nm X.c p tf H)/\(∀is,tf= .inr is->X.ok is/\is.length<=100)/\
 ∀H' v kf' kl' mk',gW P w K mg base CF CB CT CG X kf' kl' mk' H'->gA iR H' zt->rC X.fd X.lk zt X.ca X.mc H H'->aM kf' (aW X.nm X.c p)=some v->(∀t c p',X.gv t c=none->aW t c p'≠aW X.nm X.c p->aM kf' (aW t c p')=aM kf (aW t c p'))->mV K X num wo mk mk' cs v H H' tf->Q .non H'
theorem b7B(T:bE K mg){CR CF CB CT CG:Addr}(R:jI K mg CR)(Y:eL K mg CF)(Wb:cO K mg CB)(Z:dO K mg CT)(Gr:zV K CG){z:Addr×Addr}(B2:iF K mg "Finder" "gathered" "Finder.gathered" fD z)(M:gH mg base z.1 z.2){spg:Sp}(G_gather:aT P w K mg base aF 8 CG "gather" ["self","look","many","table","column","place"] spg):aT P w K mg base aF 10 CF "attempt" ["self","cell"] (a6Y P w K mg base CF CB CT CG z.2 spg):=by
 have G_knows:aT P w K mg base aF 4 CF "knows" ["self","cell"] (a46 CF CB CT):=b0K T Y Wb
 have GI:eU P w K mg base aF 1 CR ["self","finder"] (b0c CR):=tL T R
 have G_gd:aT P w K mg base aF 9 CF "gathered" lE (b1Y P w K mg base CR CF CB CT CG z.2 spg):=b2n T R Y Wb Z Gr.cl B2 M G_gather
 have G_st:aT P w K mg base aF 7 CF "settle" ["self","cell","told"] (b0b K CF CB CT (b0x P w K mg base 4 CB CT CG)):=b7m T Y Wb (vL T Wb Z Gr (k:=4) (Nat.le_refl _))
 refine Y.m_attempt.known a0d (fun _ _ _ _ _ _ us hl=>eG (fun _ _=>rfl) us hl) (fun vs H Q E h=> ?_) (fun f cdv A outer s H vs Q E hr h=> ?_)
 ·obtain⟨X,ce,p,num,tf,kf,kl,mk,cs,wo,rfl,_⟩:=h
  rfl
 ·obtain⟨X,ce,p,num,tf,kf,kl,mk,cs,wo,rfl,O,G,mk9,hce,hp,hnum,hno,tb,hca,cl,hw,use,hok,q⟩:=h
  have GF:=G.F _ O.hB
  have fd0:H X.fd=some (.dT kf):=GF.fnd
  have k8:=O.o3.k8
  have hu:=cU hr
  refine⟨_,(aK (bM (dZ (bZ (pv 0) Y.cl G_knows (hr.mono (by decide)) aR (aB (pv 1) aG)) (fun _=>rfl)) (aL (bP hW)) bS)
   (aK (bN (i:=2) a0d.nd rfl (Or.inl rfl) (kZ GI (hr.mono (by decide)) R.c aR (aB (pv 0) aG)))
   (aK (bN (i:=3) a0d.nd rfl (Or.inl rfl) (bZ (pv 0) Y.cl G_gd hr aR (aB (pv 2) (aB (cT fL (pv 1) aY (fun _ _=>rfl)) (aB (cT fL (pv 1) aY (fun _ _=>rfl)) (aB (cT fL (pv 1) aY (fun _ _=>rfl)) aG))))))
   (aK (bM (dE qT (aX (pv 2) rfl) hW (dH _)) (aK (jE hu (aX (pv 0) rfl) (pv 1) (aX (pv 2) rfl) rfl) (aL (jE hu (aX (pv 0) rfl) (pv 1) (bZ (pv 0) Y.cl G_st (hr.mono (by decide)) aR (aB (pv 1) (aB (pv 3) aG))) rfl))) bS)
   (aL (bP (aX (pv 2) rfl))))))),?_⟩
  obtain⟨d0,e1⟩:=GF.fin
  refine⟨_,rfl,X.fi,d0,_,rfl,e1,lU,_,rfl,X.fi,X.bd,X.fd,X.lk,ce,X.nm,X.c,p,X.B,kf,_,rfl,GF,hce,O.ru,_,rfl,?_⟩
  rw[hno]
  refine bL ⟨_,rfl,?_⟩
  intro tr dt htr hdt ne
  refine⟨tr,dt,X.fi,rfl,aJ,fun H1 tl htl t1 t2 b1=>⟨rfl,?_⟩⟩
  have s1:aE H H1:=fun b o e=>b1 b o (bA e htr) (by rw[aH (bA e htr),aH (bA e hdt)];exact e)
  have htl0:H tl=none:=by
   by_cases y:tl=tr
   ·rw[y];exact htr
   ·by_cases y2:tl=dt
    ·rw[y2];exact hdt
    ·rw[aH y,aH y2]at htl;exact htl
  have ce1:=s1 _ _ hce
  obtain⟨dxg,hgr⟩:=G.gr
  let Y8:mF:=⟨X.fi,X.bd,X.fd,X.lk,tr,tl,X.tabs,X.Ks,X.gv,kf⟩
  have J1:J3 CR CF CB CT Y8 H1:=⟨⟨kf,fun tb h=>(G.F tb h).same s1,s1 _ _ fd0,G.ko,G.fo,fun _ _ _ _=>rfl⟩,⟨dt,t1⟩,⟨[],t2,eS.nil⟩,fun t c ys B g h=>let ⟨l,h1,h2⟩:=G.cols t c ys B g h;⟨l,h1,s1 _ _ h2⟩⟩
  have ntf:tl≠X.fd:=fun y=>by rw[y,fd0]at htl0;cases htl0
  have wof:=b2C Y8
  obtain⟨Sz,tz,_⟩:=id tb
  have tb1:gA iR H1 z.2:=nU tb fun b o _ _ _ e=>s1 _ _ e
  have nzW:z.2∉W3 Y8:=by
   intro hm
   have t1z:=s1 _ _ tz
   rcases wof.n _ hm with h|h|h|⟨tb',h1,h2⟩|⟨t',c',ys',B',g1,g2,g3⟩
   ·have h:z.2=X.fd:=h
    rw[h,s1 _ _ fd0]at t1z;cases t1z
   ·have h:z.2=tr:=h
    rw[h,t1]at t1z;cases t1z
   ·have h:z.2=tl:=h
    rw[h,t2]at t1z;cases t1z
   ·exact((G.F tb' h1).same s1).noext h2 t1z
   ·obtain⟨l',g4,g5⟩:=G.cols t' c' ys' B' g1 g2
    have g3:aM B'.kvs (.inr c':aA)=some (.ref z.2):=g3
    rw[g3]at g4
    cases g4
    rw[s1 _ _ g5]at t1z;cases t1z
  refine⟨_,rfl,X.fi,d0,_,rfl,s1 _ _ e1,lU,_,rfl,_,rfl,ce,_,_,_,rfl,rfl,cF.of ce1,rfl,_,rfl,ce,_,_,_,rfl,rfl,cF.of ce1,rfl,_,rfl,ce,_,_,_,rfl,rfl,cF.of ce1,rfl,
   Y8,W3 Y8,X.gr,dxg,X.fs,X.nm,X.c,X.B,p,tf,rfl,J1,ntf,O.o3,wof,nzW,O.hB,O.ru,s1 _ _ hgr,O.ga,tb1,(fun look many J W HB Q' kx=>use tl look many J W HB Q' (fun b o n e=>kx b o n (s1 _ _ e))),fun H2 fv fr J2 tb2 told=> ?_⟩
  obtain⟨kf2,F2',w02,ko2,fo2,ru2⟩:=J2.kf
  have F2:dA CF CB CT H2 X.fi X.bd X.fd X.lk X.nm X.B kf2:=F2' _ O.hB
  obtain⟨d3,tr2⟩:=J2.tr
  obtain⟨kt2,tl2,to2⟩:=J2.tl
  obtain⟨a1,a2,a3,a4⟩:=a4F X.fi tl .non
  obtain⟨d02,f2⟩:=F2.fin
  have up2:∀{x:Addr} {o:HO},x≠X.fd->x≠z.2->H x=some o->H2 x=some o:=fun n1 n2 e=>fr _ _ n1 (bA e htl0) n2 (s1 _ _ e)
  have nz:∀{b:Addr} {o:HO},H b=some o->(∀x,o≠ .ext x)->b≠z.2:=fun e n y=>by rw[y,tz]at e;exact n _ (Option.some.inj e).symm
  have nf:∀{b:Addr} {o:HO},H b=some o->(∀x,o≠ .dT x)->b≠X.fd:=fun e n y=>by rw[y,fd0]at e;exact n _ (Option.some.inj e).symm
  have lk2:=up2 O.fl.symm (nz G.hl (fun _ y=>by cases y)) G.hl
  have ce2:=up2 (nf hce (fun _ y=>by cases y)) (nz hce (fun _ y=>by cases y)) hce
  have nl2:=G.lo.len
  refine⟨_,rfl,tr,CR,d3,_,_,rfl,tr2,R.cl,R.n_lacking,a3,rfl,_,rfl,dM ?_⟩
  refine⟨_,rfl,tr,CR,d3,_,_,rfl,tr2,R.cl,R.n_looked,a2,_,rfl,X.fi,CF,d02,_,_,rfl,f2,Y.cl,Y.n_looked,(jS _ _ _).2.2,_,rfl,X.lk,_,rfl,.inr ⟨kl,aW X.nm X.c p,ce,lk2,rfl,ce2,dD (by omega),rfl⟩,?_⟩
  have u3:bC X.lk H2 (upd H2 X.lk (.dT (aS kl (aW X.nm X.c p) (.ref tl)))):=fun b o n e=>by rw[aH n];exact e
  have lk3:upd H2 X.lk (.dT (aS kl (aW X.nm X.c p) (.ref tl))) X.lk=some (.dT (aS kl (aW X.nm X.c p) (.ref tl))):=aJ
  have n3:∀b,upd H2 X.lk (.dT (aS kl (aW X.nm X.c p) (.ref tl))) b=none->H2 b=none:=fun b y=>by
   have:b≠X.lk:=fun y'=>by rw[y',aJ]at y;cases y
   rw[aH this]at y
   exact y
  generalize upd H2 X.lk (.dT (aS kl (aW X.nm X.c p) (.ref tl)))=H3 at u3 lk3 n3|-
  have k3:∀{b:Addr} {o:HO},H2 b=some o->(∀x,o≠ .dT x)->H3 b=some o:=fun e n=>u3 _ _ (fun y=>by rw[y,lk2]at e;exact n _ (Option.some.inj e).symm) e
  have fd3:=u3 _ _ O.fl F2.fnd
  have F3:dA CF CB CT H3 X.fi X.bd X.fd X.lk X.nm X.B kf2:=by
   obtain⟨d0,e1⟩:=F2.fin
   obtain⟨kb,e2,e3⟩:=F2.bds
   obtain⟨⟨d1,b1⟩,⟨⟨d2,b2⟩,b3,b4⟩,b5,b6,b7⟩:=F2.B
   exact⟨⟨d0,k3 e1 (fun _ y=>by cases y)⟩,⟨kb,k3 e2 (fun _ y=>by cases y),e3⟩,⟨⟨d1,k3 b1 (fun _ y=>by cases y)⟩,⟨⟨d2,k3 b2 (fun _ y=>by cases y)⟩,k3 b3 (fun _ y=>by cases y),k3 b4 (fun _ y=>by cases y)⟩,k3 b5 (fun _ y=>by cases y),k3 b6 (fun _ y=>by cases y),k3 b7 (fun _ y=>by cases y)⟩,fd3,F2.len⟩
  have fr3:∀{x:Addr} {o:HO},x≠X.fd->x≠X.lk->x≠z.2->H x=some o->H3 x=some o:=fun n1 n2 n3 e=>u3 _ _ n2 (up2 n1 n3 e)
  have q3:∀{x:Addr} {o:HO},H x=some o->(∀y,o≠ .dT y)->(∀y,o≠ .ext y)->H3 x=some o:=fun e n1 n2=>k3 (up2 (nf e n1) (nz e n2) e) n1
  have ce3:=q3 hce (fun _ y=>by cases y) (fun _ y=>by cases y)
  have tr3:=k3 tr2 (fun _ y=>by cases y)
  have tb3:gA iR H3 z.2:=nU tb2 fun b o n1 _ _ e=>k3 e n1
  have ca3:=q3 hca (fun _ y=>by cases y) (fun _ y=>by cases y)
  have mc3:=q3 G.mc (fun _ y=>by cases y) (fun _ y=>by cases y)
  have gr3:=q3 hgr (fun _ y=>by cases y) (fun _ y=>by cases y)
  have kz3:dC H H3:=fun b u e=>q3 e (fun _ y=>by cases y) (fun _ y=>by cases y)
  have none3:∀{x:Addr},H3 x=none->H x=none:=fun{x} e=>by
   cases e2:H x with
   |none=>rfl
   |some o=>
    by_cases y1:x=X.fd
    ·rw[y1,fd3]at e;cases e
    ·by_cases y2:x=X.lk
     ·rw[y2,lk3]at e;cases e
     ·by_cases y3:x=z.2
      ·obtain⟨S3,h3,_⟩:=tb3
       rw[y3,h3]at e;cases e
      ·rw[fr3 y1 y2 y3 e2]at e;cases e
  have l2:kf2.length<=X.Ks.length:=ko2.len
  have fin:∀(H5:Hp) (v:V) (mk':List (aA×V)),(∀x o,x≠X.ca->x≠X.mc->H3 x=some o->H5 x=some o)->H5 X.mc=some (.dK mk')->(∀H6,bC X.fd H5 H6->mV K X num wo mk mk' cs v H H6 tf)->
   ∃d5 H6,H5 X.fi=some (.ins CF d5 (fX X.bd X.fd X.lk))/\gY H5 X.fd (.ref ce) v H6/\H6 tr=some (.ins CR d3 (lS X.fi tl .non))/\Q .non H6:=fun H5 v mk' f5 mc5 en=>by
   have k5:∀{b:Addr} {o:HO},H3 b=some o->(∀x,o≠ .lst x)->(∀x,o≠ .dK x)->H5 b=some o:=fun e n1 n2=>f5 _ _ (fun y=>by rw[y,ca3]at e;exact n1 _ (Option.some.inj e).symm) (fun y=>by rw[y,mc3]at e;exact n2 _ (Option.some.inj e).symm) e
   obtain⟨d5,e5⟩:=F3.fin
   have fd5:=k5 fd3 (fun _ y=>by cases y) (fun _ y=>by cases y)
   have ce5:=k5 ce3 (fun _ y=>by cases y) (fun _ y=>by cases y)
   refine⟨d5,_,k5 e5 (fun _ y=>by cases y) (fun _ y=>by cases y),.inr ⟨kf2,aW X.nm X.c p,ce,fd5,rfl,ce5,dD (by omega),rfl⟩,?_⟩
   have u6:bC X.fd H5 (upd H5 X.fd (.dT (aS kf2 (aW X.nm X.c p) v))):=fun b o n e=>by rw[aH n];exact e
   have fd6:upd H5 X.fd (.dT (aS kf2 (aW X.nm X.c p) v)) X.fd=some (.dT (aS kf2 (aW X.nm X.c p) v)):=aJ
   generalize upd H5 X.fd (.dT (aS kf2 (aW X.nm X.c p) v))=H6 at u6 fd6|-
   have k6:∀{b:Addr} {o:HO},H5 b=some o->(∀x,o≠ .dT x)->H6 b=some o:=fun e n=>u6 _ _ (fun y=>by rw[y,fd5]at e;exact n _ (Option.some.inj e).symm) e
   have fr6:rC X.fd X.lk z.2 X.ca X.mc H H6:=fun x o n1 n2 n3 n4 n5 e=>u6 _ _ n1 (f5 _ _ n4 n5 (fr3 n1 n2 n3 e))
   refine⟨k6 (k5 tr3 (fun _ y=>by cases y) (fun _ y=>by cases y)) (fun _ y=>by cases y),?_⟩
   refine q H6 v (aS kf2 (aW X.nm X.c p) v) (aS kl (aW X.nm X.c p) (.ref tl)) mk' (G.to O fr6 tb hca fd6 (u6 _ _ O.fl.symm (k5 lk3 (fun _ y=>by cases y) (fun _ y=>by cases y))) (k6 mc5 (fun _ y=>by cases y)) (ko2.put (O.kin p hp)) (G.lo.put (O.kin p hp)) (fun t c p' v' ys g e=> ?_)) (nU tb3 fun b o n1 n2 n3 e=>k6 (k5 e n3 n2) n1) fr6 (by rw[jV,if_pos rfl]) (fun t c p' g ne=> ?_) (en H6 u6)
   ·rw[jV,if_neg (fun y=>by
     obtain⟨rfl,rfl,_⟩:=zW y
     rw[O.no]at g
     cases g)]at e
    exact fo2 t c p' v' ys g e
   ·rw[jV,if_neg ne]
    exact ru2 t c p' g
  obtain⟨d03,f3⟩:=F3.fin
  cases tf with
  |inl d=>
   obtain⟨ta,v,rfl,hta,hpv⟩:=told
   have kt3:cJ H2 H3:=fun a xs e=>k3 e (fun _ y=>by cases y)
   obtain⟨d5,H6,g1,g2,g3,g4⟩:=fin H3 v mk (fun x o _ _ e=>e) mc3 (fun H6 b6=>by
    exact⟨(hpv.keep kt3).keep (fun a xs e=>b6 _ _ (fun y=>by rw[y,fd3]at e;cases e) e),rfl,b6 _ _ (fun y=>by rw[y,fd3]at ca3;cases ca3) ca3⟩)
   exact⟨_,rfl,X.fi,d03,_,rfl,f3,lU,_,rfl,_,rfl,X.fi,ce,ta,rfl,.inl ⟨v,kt3 _ _ hta,_,rfl,X.fi,CF,d5,_,_,rfl,g1,Y.cl,Y.n_found,(jS _ _ _).2.1,_,rfl,X.fd,H6,rfl,g2,_,rfl,tr,CR,d3,_,_,rfl,g3,R.cl,R.n_lacking,a3,g4⟩⟩
  |inr is=>
   obtain⟨ta,l,rfl,hta,hl2,hl0⟩:=told
   have hl3:=k3 hl2 (fun _ y=>by cases y)
   have hta3:=k3 hta (fun _ y=>by cases y)
   have hlH:H l=none:=fB s1 hl0
   obtain⟨okis,l100⟩:=hok is rfl
   obtain⟨sh,vd⟩:=O.gg is okis
   have was3:∀{js vv},qS H mk num js vv->qS H3 mk num js vv:=fun⟨tp,lo,w1,w2,w3⟩=>⟨tp,lo,w1,q3 w2 (fun _ y=>by cases y) (fun _ y=>by cases y),q3 w3 (fun _ y=>by cases y) (fun _ y=>by cases y)⟩
   refine⟨_,rfl,X.fi,d03,_,rfl,f3,lU,_,rfl,_,rfl,X.fi,ce,ta,rfl,.inr ⟨X.bd,X.fd,X.lk,l,X.nm,X.c,p,X.B,kf2,hta3,F3,ce3,l,X.gr,X.mc,X.fa,X.ca,dxg,X.c,X.fs,p,num,X.B,mk,X.g,X.ok,is,cs,rfl,F3.B,O.ru,O.me,mc3,by omega,hp,hnum,gr3,O.rf,G.fn.keep kz3,hl3,ca3,cl,okis,l100,sh,vd,?_⟩⟩
   have called:(∀vv,wo≠some (is,vv))->∀H5 v lc tp,(∀x o,x≠X.ca->x≠X.mc->H3 x=some o->H5 x=some o)->H3 lc=none->H5 X.ca=some (.lst (cs++ [.ref lc]))->H5 lc=some (.lst (is.map V.int))->H3 tp=none->H5 tp=some (.tup [.ref l,v])->H5 X.mc=some (.dK (aS mk (.inl num:aA) (.ref tp)))->Dt K H5 v (gC (X.g is))->
    ∃d5 H6,H5 X.fi=some (.ins CF d5 (fX X.bd X.fd X.lk))/\gY H5 X.fd (.ref ce) v H6/\H6 tr=some (.ins CR d3 (lS X.fi tl .non))/\Q .non H6:=fun hh H5 v lc tp f5 n1 g1 g2 n2 g3 g4 g5=>by
    have fd5:H5 X.fd=some (.dT kf2):=f5 _ _ (fun y=>by rw[<- y,fd3]at ca3;cases ca3) (fun y=>by rw[<- y,fd3]at mc3;cases mc3) fd3
    refine fin H5 v _ f5 g4 (fun H6 b6=> ?_)
    ·have k6:∀{b:Addr} {o:HO},H5 b=some o->(∀x,o≠ .dT x)->H6 b=some o:=fun e n=>b6 _ _ (fun y=>by rw[y,fd5]at e;exact n _ (Option.some.inj e).symm) e
     refine .inr ⟨hh,lc,tp,l,none3 n1,none3 n2,hlH,k6 g1 (fun _ y=>by cases y),k6 g2 (fun _ y=>by cases y),k6 g3 (fun _ y=>by cases y),k6 (f5 _ _ ?_ (fun y=>by rw[y,mc3]at hl3;cases hl3) hl3) (fun _ y=>by cases y),rfl,?_⟩
     ·exact fun y=>by rw[y,hca]at hlH;cases hlH
     ·exact a9q vd g5 fun x o n _ _ _ _ e=>k6 e n
   rcases wo with _|⟨js,vv⟩
   ·have hn:∀vv,(none:Option (List Int×V))≠some (is,vv):=fun _ y=>by cases y
    refine .inr ⟨.inl hw,fun H5 v lc tp f5 n1 g1 g2 n2 g3 g4 g5=> ?_⟩
    obtain⟨d5,H6,r1,r2,r3,r4⟩:=called hn H5 v lc tp f5 n1 g1 g2 n2 g3 g4 g5
    exact⟨_,rfl,X.fi,CF,d5,_,_,rfl,r1,Y.cl,Y.n_found,(jS _ _ _).2.1,_,rfl,X.fd,H6,rfl,r2,_,rfl,tr,CR,d3,_,_,rfl,r3,R.cl,R.n_lacking,a3,r4⟩
   ·have hw:qS H mk num js vv:=hw
    by_cases hj:js=is
    ·subst hj
     refine .inl ⟨vv,was3 hw,?_⟩
     obtain⟨d5,H6,r1,r2,r3,r4⟩:=fin H3 vv mk (fun x o _ _ e=>e) mc3 (fun H6 b6=>by
      exact .inl ⟨rfl,rfl,b6 _ _ (fun y=>by rw[y,fd3]at ca3;cases ca3) ca3⟩)
     exact⟨_,rfl,X.fi,CF,d5,_,_,rfl,r1,Y.cl,Y.n_found,(jS _ _ _).2.1,_,rfl,X.fd,H6,rfl,r2,_,rfl,tr,CR,d3,_,_,rfl,r3,R.cl,R.n_lacking,a3,r4⟩
    ·refine .inr ⟨.inr ⟨js,vv,was3 hw,hj⟩,fun H5 v lc tp f5 n1 g1 g2 n2 g3 g4 g5=> ?_⟩
     obtain⟨d5,H6,r1,r2,r3,r4⟩:=called (fun v2 y=>hj (congrArg (·.1) (Option.some.inj y))) H5 v lc tp f5 n1 g1 g2 n2 g3 g4 g5
     exact⟨_,rfl,X.fi,CF,d5,_,_,rfl,r1,Y.cl,Y.n_found,(jS _ _ _).2.1,_,rfl,X.fd,H6,rfl,r2,_,rfl,tr,CR,d3,_,_,rfl,r3,R.cl,R.n_lacking,a3,r4⟩
def spVo(CF:Addr)(sp:Sp):Sp:=fun vs H Q _=>∃(fi ce bd fd lk d0:Addr) (ky:Ky),vs= [.ref fi,.ref ce] /\H fi=some (.ins CF d0 (fX bd fd lk))/\
 ∀H1 wl,H wl=none->aE H H1->H1 wl=some (.lst [.ref ce])->sp [.ref fi,.ref ce] H1 (fun v H2=>v= .non/\∃d2 kf v2,H2 wl=some (.lst [.ref ce])/\H2 fi=some (.ins CF d2 (fX bd fd lk))/\H2 fd=some (.dT kf)/\H2 ce=some (.tup (ky.map kV))/\aM kf ky=some v2/\∀H3,bC wl H2 H3->Q v2 H3) E0
abbrev Nvo:List Str:=["self","cell","waiting","lacking"]
theorem a1H:bG Nvo ["self","cell"] (aI uG):=⟨rfl,rfl,rfl,by decide+kernel,rfl,by decide+kernel,by decide+kernel⟩
theorem a9B(T:bE K mg){CF:Addr}(Y:eL K mg CF){k:Nat}{sp:Sp}(mono:kN sp)(G:aT P w K mg base aF k CF "attempt" ["self","cell"] sp):aT P w K mg base aF (k+ 1) CF "value_of" ["self","cell"] (spVo CF sp):=by
 refine Y.m_value_of.known a1H (fun _ _ _ _ _ _ us hl=>eG (fun _ _=>rfl) us hl) (fun vs H Q E h=> ?_) (fun f cdv A outer s H vs Q E hr h=> ?_)
 ·obtain⟨fi,ce,bd,fd,lk,d0,ky,rfl,_⟩:=h
  rfl
 ·obtain⟨fi,ce,bd,fd,lk,d0,ky,rfl,hfi,q⟩:=h
  have hu:=cU hr
  refine⟨_,(aK (bN (i:=2) a1H.nd rfl (Or.inl rfl) (eO (aB (pv 1) aG)))
   (aK (a5y PassesOwn.never (a9Y (pv 2) (fun _=>rfl)) (aK (bN (i:=3) a1H.nd rfl (Or.inl rfl) (bZ (pv 0) Y.cl G hr aR (aB (cT gG (pv 2) (a4f a9b aY) (fun _ _=>rfl)) aG)))
   (aL (bM (dE qT (pv 3) hW (dH _)) (aL (bY (a8H PySem.F.plainAttrs_list PySem.F.slot_list_pop PySem.F.type_list_pop b5E (pv 2)))) (aL cQ)))))
   (aL (bP (eE hu (aX (pv 0) rfl) (pv 1) (fun _ _=>rfl)))))),?_⟩
  refine⟨_,rfl,sl,fun wl hwl=> ?_⟩
  have s1:=aE.new (o:=.lst [.ref ce]) hwl
  have w1:upd H wl (.lst [.ref ce]) wl=some (.lst [.ref ce]):=aJ
  generalize upd H wl (.lst [.ref ce])=H1 at s1 w1|-
  have q1:=q H1 wl hwl s1 w1
  let Wf:Nat->St->Hp->Prop:=fun m σ H2=>(m=1/\σ= [some (.ref fi),some (.ref ce),some (.ref wl),none] /\H2=H1)\/ (m=0/\σ= [some (.ref fi),some (.ref ce),some (.ref wl),some .non] /\∃d2 kf v2,H2 wl=some (.lst [])/\H2 fi=some (.ins CF d2 (fX bd fd lk))/\H2 fd=some (.dT kf)/\H2 ce=some (.tup (ky.map kV))/\aM kf ky=some v2/\Q v2 H2)
  refine⟨Wf,⟨1,.inl ⟨rfl,rfl,rfl⟩⟩,?_⟩
  rintro m σ H2 (⟨rfl,rfl,rfl⟩|⟨rfl,rfl,d2,kf,v2,h1,h2,h3,h4,h5,h6⟩)
  ·refine⟨_,rfl,_,.inl ⟨_,aN.of w1,rfl⟩,?_⟩
   refine eR (fun g=> ?_) (fun g=>absurd rfl g)
   refine⟨fun σ' H'=>∃m',m'<1/\Wf m' σ' H',fun σ' H' h=>h,?_⟩
   refine⟨_,rfl,fi,d0,_,rfl,s1 _ _ hfi,lU,_,rfl,_,rfl,wl,_,_,_,rfl,rfl,aN.of w1,rfl,?_⟩
   refine mono _ _ _ _ (fun v H3 hQ=> ?_) q1
   obtain⟨rfl,d2,kf,v2,h1,h2,h3,h4,h5,h6⟩:=hQ
   refine⟨_,rfl,rfl,_,rfl,dM ?_⟩
   refine⟨_,rfl,.inl ⟨rfl,_,aN.of h1⟩,wl,_,_,rfl,rfl,h1,rfl,?_⟩
   have u:bC wl H3 (upd H3 wl (.lst [])):=fun b o n e=>by rw[aH n];exact e
   refine⟨0,by decide,.inr ⟨rfl,rfl,d2,kf,v2,aJ,u _ _ (fun y=>by rw[y,h1]at h2;cases h2) h2,u _ _ (fun y=>by rw[y,h1]at h3;cases h3) h3,u _ _ (fun y=>by rw[y,h1]at h4;cases h4) h4,h5,h6 _ u⟩⟩
  ·refine⟨_,rfl,_,.inl ⟨_,aN.of h1,rfl⟩,?_⟩
   refine eR (fun g=>by cases g) (fun g=> ?_)
   refine⟨_,rfl,fi,CF,d2,_,_,rfl,h2,Y.cl,Y.n_found,(jS _ _ _).2.1,_,rfl,fd,v2,rfl,.inr ⟨kf,ky,ce,.inl h3,rfl,h4,h5.symm⟩,h6⟩
theorem b5x{CF CB CT:Addr}:kN (a2X CF CB CT):=fun vs H Q Q' hQ h=>by
 obtain⟨fi,bd,fd,lk,ce,nm,c,p,B,kf,r,v,a1,a2,a3,a4,a5,q⟩:=h
 exact⟨fi,bd,fd,lk,ce,nm,c,p,B,kf,r,v,a1,a2,a3,a4,a5,hQ _ _ q⟩
theorem b57{CF CB CT CG zt:Addr}{spg:Sp}:kN (a6Y P w K mg base CF CB CT CG zt spg):=fun vs H Q Q' hQ h=>by
 obtain⟨X,ce,p,num,tf,kf,kl,mk,cs,wo,a1,a2,a3,a4,a5,a6,a7,a8,a9,b1,b2,b3,b4,b5,q⟩:=h
 exact⟨X,ce,p,num,tf,kf,kl,mk,cs,wo,a1,a2,a3,a4,a5,a6,a7,a8,a9,b1,b2,b3,b4,b5,fun H' v kf' kl' mk' c1 c2 c3 c4 c5 c6=>hQ _ _ (q H' v kf' kl' mk' c1 c2 c3 c4 c5 c6)⟩
def rV(CS CB CT:Addr)(s bd ch fi:Addr)(kb:List (aA×V))(nm:Str)(B:BM)(H:Hp):Prop:=(∃dx,H s=some (.ins CS dx (dG bd ch fi)))/\H bd=some (.dK kb)/\Nl nm/\aM kb (.inr nm:aA)=some (.ref B.b)/\cD CB CT H B
def b0F(CS CB CT:Addr):Sp:=fun vs H Q _=>∃(s bd ch fi:Addr) (kb:List (aA×V)) (nm t:Str) (p:Nat) (B:BM),vs= [.ref s,.str nm,.str t,.int (p:Int)] /\rV CS CB CT s bd ch fi kb nm B H/\Nl t/\t∈B.ord/\p<B.xs.length/\∀H',aE H H'->Q .non H'
theorem b3W:bG ["self","table","column","place"] ["self","table","column","place"] (aI tW):=⟨rfl,rfl,rfl,by decide+kernel,rfl,by decide+kernel,by decide+kernel⟩
theorem vE(T:bE K mg){CS CB CT:Addr}(Y:eT K mg CS)(W:cO K mg CB)(Z:dO K mg CT):aT P w K mg base aF 4 CS "check_cell" ["self","table","column","place"] (b0F CS CB CT):=by
 have G_with:aT P w K mg base aF 3 CS "board_with" ["self","table","column"] (a0f CS CB CT):=oG T Y W
 have G_pl:bJ P w K mg base aF 2 "check_place" ["place","places"] tP:=mL T
 have G_many:aT P w K mg base aF 1 CT "many" ["self"] (mC CT):=jU T Z
 refine Y.m_check_cell.known b3W (fun _ _ _ _ _ _ us hl=>lH (fun _ _ _ _=>rfl) us hl) (fun vs H Q E h=> ?_) (fun f cdv A outer s H vs Q E hr h=> ?_)
 ·obtain⟨s',bd,ch,fi,kb,nm,t,p,B,rfl,_⟩:=h
  rfl
 ·obtain⟨s',bd,ch,fi,kb,nm,t,p,B,rfl,hS,ht,hm,hp,q⟩:=h
  refine⟨_,aL (bY (bU G_pl (hr.mono (by decide)) aR (aB (pv 3) (aB (mO (aX (bZ (pv 0) Y.cl G_with hr aR (aB (pv 1) (aB (pv 2) aG))) rfl) Z.cl G_many (hr.mono (by decide)) aR) aG)))),?_⟩
  obtain⟨dx,hs⟩:=hS.1
  refine⟨_,rfl,_,rfl,s',dx,_,rfl,hs,fA,_,rfl,_,rfl,s',bd,ch,fi,dx,kb,nm,t,B,rfl,hs,hS.2.1,hS.2.2.1,hS.2.2.2.1,hS.2.2.2.2,ht,hm,fun H1 s1=> ?_⟩
  obtain⟨dB,hb⟩:=hS.2.2.2.2.at_
  obtain⟨dT,hT⟩:=hS.2.2.2.2.tab.at_
  exact⟨B.b,CB,dB,_,_,rfl,s1 _ _ hb,W.cl,W.n_given,(dL _ _ _ _).1,B.g,dT,_,rfl,s1 _ _ hT,iN,B.g,B.r,B.e,B.xs,B.n,B.kvs,rfl,hS.2.2.2.2.tab.same s1,p,B.xs.length,rfl,hp,q H1 s1⟩
def spSc(CS CF CB CT:Addr)(sp:Sp):Sp:=fun vs H Q _=>∃(s bd ch fi df:Addr) (kb:List (aA×V)) (nm t:Str) (p:Nat) (B:BM) (fs:List (Str×V)),vs= [.ref s,.str nm,.str t,.int (p:Int)] /\rV CS CB CT s bd ch fi kb nm B H/\Nl t/\t∈B.ord/\p<B.xs.length/\H fi=some (.ins CF df fs)/\fs.lookup ("value_of":Str)=none/\
 ∀H1 ce,H ce=none->aE H H1->H1 ce=some (.tup ((aW nm t p).map kV))->sp [.ref fi,.ref ce] H1 Q E0
theorem b7b:bG ["self","table","column","place"] ["self","table","column","place"] (aI vZ):=⟨rfl,rfl,rfl,by decide+kernel,rfl,by decide+kernel,by decide+kernel⟩
theorem rH(T:bE K mg){CS CF CB CT:Addr}(Y:eT K mg CS)(F:eL K mg CF)(W:cO K mg CB)(Z:dO K mg CT){k:Nat}{sp:Sp}(hk:4<=k)(G:aT P w K mg base aF k CF "value_of" ["self","cell"] sp):aT P w K mg base aF (k+ 1) CS "cell" ["self","table","column","place"] (spSc CS CF CB CT sp):=by
 have G_chk:aT P w K mg base aF 4 CS "check_cell" ["self","table","column","place"] (b0F CS CB CT):=vE T Y W Z
 refine Y.m_cell.known b7b (fun _ _ _ _ _ _ us hl=>lH (fun _ _ _ _=>rfl) us hl) (fun vs H Q E h=> ?_) (fun f cdv A outer s H vs Q E hr h=> ?_)
 ·obtain⟨s',bd,ch,fi,df,kb,nm,t,p,B,fs,rfl,_⟩:=h
  rfl
 ·obtain⟨s',bd,ch,fi,df,kb,nm,t,p,B,fs,rfl,hS,ht,hm,hp,hfi,hno,q⟩:=h
  refine⟨_,aK (bY (bZ (pv 0) Y.cl G_chk (hr.mono hk) aR (aB (pv 1) (aB (pv 2) (aB (pv 3) aG)))))
   (aL (bP (bZ (aX (pv 0) rfl) F.cl G hr aR (aB (gO (aB (pv 1) (aB (pv 2) (aB (pv 3) aG)))) aG)))),?_⟩
  obtain⟨dx,hs⟩:=hS.1
  refine⟨_,rfl,s',dx,_,rfl,hs,fA,_,rfl,_,rfl,_,rfl,s',bd,ch,fi,kb,nm,t,p,B,rfl,hS,ht,hm,hp,fun H1 s1=> ?_⟩
  refine⟨_,rfl,s',CS,dx,_,_,rfl,s1 _ _ hs,Y.cl,Y.n_finder,(lL _ _ _).2.2.1,fi,df,fs,rfl,s1 _ _ hfi,hno,_,rfl,_,rfl,_,rfl,sl,fun ce hce=> ?_⟩
  exact q _ ce (fB s1 hce) (s1.trans (aE.new hce)) aJ
theorem pP.same{H H':Hp}{mk:List (aA×V)}{p:Int}:∀{wo:Option (List Int×V)},pP H mk p wo->aE H H'->pP H' mk p wo
 |none,h,_=>h
 |some jv,⟨tp,lo,a,b,c⟩,s=>⟨tp,lo,a,s _ _ b,s _ _ c⟩
theorem mV.to{X:jY}{num:Int}{wo:Option (List Int×V)}{mk mk':List (aA×V)}{cs:List V}{v:V}{H H1 H2 H3:Hp}{wl:Addr}{zs:List V}(s:aE H H1)(w1:H1 wl=some (.lst zs))(w2:H2 wl=some (.lst zs))(hwl:H wl=none)(b:bC wl H2 H3)(cn:H X.ca≠none):
 ∀{told:PyData ⊕ List Int},(∀is,told= .inr is->Vd (gC (X.g is)))->mV K X num wo mk mk' cs v H1 H2 told->mV K X num wo mk mk' cs v H H3 told
 | .inl d,_,⟨a1,a2,a3⟩=>⟨a1.keep (fun a xs e=>b _ _ (fun y=>by rw[y,w2]at e;cases e) e),a2,b _ _ (fun y=>cn (y▸hwl)) a3⟩
 | .inr is,_,.inl ⟨a1,a2,a3⟩=> .inl ⟨a1,a2,b _ _ (fun y=>cn (y▸hwl)) a3⟩
 | .inr is,hv,.inr ⟨a1,lc,tp,sm,a2,a3,a4,a5,a6,a7,a8,a9,a10⟩=>by
  have nw:∀{x:Addr},H1 x=none->x≠wl:=fun e y=>by rw[y,w1]at e;cases e
  refine .inr ⟨a1,lc,tp,sm,fB s a2,fB s a3,fB s a4,b _ _ (fun y=>cn (y▸hwl)) a5,b _ _ (nw a2) a6,b _ _ (nw a3) a7,b _ _ (nw a4) a8,a9,?_⟩
  exact a9q (hv is rfl) a10 fun x o _ _ n _ _ e=>b _ _ (fun y=>by rw[y,w2]at e;exact n _ (Option.some.inj e).symm) e
theorem b5n{CS CF CB CT CG:Addr}{X:jY}{s ch:Addr}{kb:List (aA×V)}{kf kl:List (Ky×V)}{mk:List (aA×V)}{H:Hp}{Q:VK}{p:Nat}{v:V}(O:qJ X)(G:gW P w K mg base CF CB CT CG X kf kl mk H)(hS:rV CS CB CT s X.bd ch X.fi kb X.nm X.B H)(nc:Nl X.c)(co:X.c∈X.B.ord)(hp:p<X.B.xs.length)(hv:aM kf (aW X.nm X.c p)=some v)(q:∀H',aE H H'->Q v H'):
 spSc CS CF CB CT (spVo CF (a2X CF CB CT)) [.ref s,.str X.nm,.str X.c,.int (p:Int)] H Q E0:=by
 have GF:=G.F _ O.hB
 obtain⟨df,hfi⟩:=GF.fin
 refine⟨s,X.bd,ch,X.fi,df,kb,X.nm,X.c,p,X.B,_,rfl,hS,nc,co,hp,hfi,lU,fun H1 ce hce s1 c1=> ?_⟩
 refine⟨X.fi,ce,X.bd,X.fd,X.lk,df,aW X.nm X.c p,rfl,s1 _ _ hfi,fun H2 wl hwl s2 w2=> ?_⟩
 have F2:=(GF.same s1).same s2
 obtain⟨d2,f2⟩:=F2.fin
 exact⟨X.fi,X.bd,X.fd,X.lk,ce,X.nm,X.c,p,X.B,kf,_,v,rfl,F2,s2 _ _ c1,O.ru,hv,rfl,d2,kf,v,w2,f2,F2.fnd,s2 _ _ c1,hv,fun H3 b=>q H3 fun x o e=>b _ _ (fun y=>by rw[y]at e;rw[s1 _ _ e]at hwl;cases hwl) (s2 _ _ (s1 _ _ e))⟩
theorem b2Y{CS CF CB CT CG zt:Addr}{spg:Sp}{X:jY}{s ch:Addr}{kb:List (aA×V)}{kf kl:List (Ky×V)}{mk:List (aA×V)}{H:Hp}{Q:VK}{p:Nat}{num:Int}{tf:PyData ⊕ List Int}{cs:List V}{wo:Option (List Int×V)}(O:qJ X)(G:gW P w K mg base CF CB CT CG X kf kl mk H)(mk9:mk.length<90)(hS:rV CS CB CT s X.bd ch X.fi kb X.nm X.B H)(nc:Nl X.c)(co:X.c∈X.B.ord)(hp:p<X.B.xs.length)(hnum:cG X.B.xs (p:Int)=some (.int num))(hno:aM kf (aW X.nm X.c p)=none)(tb:gA iR H zt)(hca:H X.ca=some (.lst cs))(cl:cs.length<900)(hw:pP H mk num wo)(use:∀tl,GatU P w K mg base spg X.gr X.tabs X.gv X.fd tl X.nm X.c p tf H)(hok:∀is,tf= .inr is->X.ok is/\is.length<=100)
 (q:∀H' v kf' kl' mk',gW P w K mg base CF CB CT CG X kf' kl' mk' H'->gA iR H' zt->rC X.fd X.lk zt X.ca X.mc H H'->aM kf' (aW X.nm X.c p)=some v->(∀t c p',X.gv t c=none->aW t c p'≠aW X.nm X.c p->aM kf' (aW t c p')=aM kf (aW t c p'))->mV K X num wo mk mk' cs v H H' tf->Q v H'):
 spSc CS CF CB CT (spVo CF (a6Y P w K mg base CF CB CT CG zt spg)) [.ref s,.str X.nm,.str X.c,.int (p:Int)] H Q E0:=by
 have GF:=G.F _ O.hB
 have fd0:=GF.fnd
 obtain⟨df,hfi⟩:=GF.fin
 refine⟨s,X.bd,ch,X.fi,df,kb,X.nm,X.c,p,X.B,_,rfl,hS,nc,co,hp,hfi,lU,fun H1 ce hce s1 c1=> ?_⟩
 refine⟨X.fi,ce,X.bd,X.fd,X.lk,df,aW X.nm X.c p,rfl,s1 _ _ hfi,fun H2 wl hwl s2 w2=> ?_⟩
 have s12:=s1.trans s2
 have hwl0:H wl=none:=fB s1 hwl
 have tk:∀{z:Addr},gA iR H z->gA iR H2 z:=fun h=>nU h fun b o _ _ _ e=>s12 _ _ e
 refine⟨X,ce,p,num,tf,kf,kl,mk,cs,wo,rfl,O,G.same s12,mk9,s2 _ _ c1,hp,hnum,hno,tk tb,s12 _ _ hca,cl,hw.same s12,(fun tl look many J W HB Q' kx=>use tl look many J W HB Q' (fun b o n e=>kx b o n (s12 _ _ e))),hok,fun H3 v kf' kl' mk' G3 tb3 fr3 hv3 ru3 en3=>⟨rfl,?_⟩⟩
 obtain⟨d3,f3⟩:=(G3.F _ O.hB).fin
 have fd3:=(G3.F _ O.hB).fnd
 obtain⟨Sz,tz,_⟩:=id tb
 have nw:∀{x:Addr} {o:HO},H x=some o->x≠wl:=fun e y=>by rw[y,hwl0]at e;cases e
 have w3:H3 wl=some (.lst [.ref ce]):=fr3 _ _ (nw fd0).symm (nw G.hl).symm (nw tz).symm (nw hca).symm (nw G.mc).symm w2
 have c3:H3 ce=some (.tup ((aW X.nm X.c p).map kV)):=by
  have ne:∀{x:Addr} {o:HO},H x=some o->ce≠x:=fun e y=>by rw[<- y,hce]at e;cases e
  exact fr3 _ _ (ne fd0) (ne G.hl) (ne tz) (ne hca) (ne G.mc) (s2 _ _ c1)
 refine⟨d3,kf',v,w3,f3,fd3,c3,hv3,fun H4 b4=> ?_⟩
 have fr4:rC X.fd X.lk zt X.ca X.mc H H4:=fun x o n1 n2 n3 n4 n5 e=>b4 _ _ (nw e) (fr3 _ _ n1 n2 n3 n4 n5 (s12 _ _ e))
 have k4:∀{x:Addr} {o:HO},H3 x=some o->(∀y,o≠ .lst y)->H4 x=some o:=fun e n=>b4 _ _ (fun y=>by rw[y,w3]at e;exact n _ (Option.some.inj e).symm) e
 refine q H4 v kf' kl' mk' (G.to O fr4 tb hca (k4 fd3 (fun _ y=>by cases y)) (k4 G3.hl (fun _ y=>by cases y)) (k4 G3.mc (fun _ y=>by cases y)) G3.ko G3.lo G3.fo) (nU tb3 fun b o _ _ n e=>k4 e n) fr4 hv3 ru3 ?_
 exact mV.to s12 w2 w3 hwl0 b4 (by rw[hca];exact fun y=>by cases y) (fun is e=>(O.gg is (hok is e).1).2) en3
end
theorem b6a{C CB CT:Addr}:kN (spTT C CB CT):=fun vs H Q Q' hQ h=>by
 obtain⟨p,dx,bd,nm,m,kb,e1,e2,e3,e4,e5,q⟩:=h
 exact⟨p,dx,bd,nm,m,kb,e1,e2,e3,e4,e5,fun H' b g r e ru me od a1 a2 a3 a4 a5=>hQ _ _ (q H' b g r e ru me od a1 a2 a3 a4 a5)⟩
theorem b7v{K:Fg}{CB CT:Addr}:kN (a3N K CB CT):=fun vs H Q Q' hQ h=>by
 obtain⟨B,t,a,ys,ds,e1,e2,e3,e4,e5,e6,e7,e8,e9,e10,e11,e12,q⟩:=h
 exact⟨B,t,a,ys,ds,e1,e2,e3,e4,e5,e6,e7,e8,e9,e10,e11,e12,fun H' l a1 a2 a3 a4=>hQ _ _ (q H' l a1 a2 a3 a4)⟩
theorem b2j{K:Fg}{CB CT:Addr}:kN (a5I K CB CT):=fun vs H Q Q' hQ h=>by
 obtain⟨B,t,a,C,dx,fs,e1,e2,e3,e4,e5,e6,e7,e8,e9,e10,q⟩:=h
 exact⟨B,t,a,C,dx,fs,e1,e2,e3,e4,e5,e6,e7,e8,e9,e10,fun H' m a1 a2 a3 a4=>hQ _ _ (q H' m a1 a2 a3 a4)⟩
theorem b08{C CB CT:Addr}{sp:Sp}(h:kN sp):kN (xR C CB CT sp):=fun vs H Q Q' hQ g=>by
 obtain⟨p,dx,a,B,t,e1,e2,e3,e4,q⟩:=g
 exact⟨p,dx,a,B,t,e1,e2,e3,e4,h _ _ _ _ (fun v H' z=>hQ _ _ z) q⟩
theorem b6b{K:Fg}{C CB CT:Addr}:kN (spVP K C CB CT):=fun vs H Q Q' hQ h=>by
 obtain⟨p,dx,l,B,t,i,v,u,d,ys,e1,e2,e3,e4,e5,e6,e7,e8,e9,q⟩:=h
 exact⟨p,dx,l,B,t,i,v,u,d,ys,e1,e2,e3,e4,e5,e6,e7,e8,e9,fun H' a1 a2=>hQ _ _ (q H' a1 a2)⟩
theorem iB{H:Hp}{a b:Addr}{o:HO}(h:upd H a o b=none):H b=none/\b≠a:=by
 have:b≠a:=fun y=>by rw[y,aJ]at h;cases h
 rw[aH this]at h
 exact⟨h,this⟩
section
variable{P:Program}{w:World}{K:Fg}{mg:Str->Option Value}{base:Heap}
theorem b5v(bd ch fi:Addr):aO "finder" (.ref fi) (aO "changes" (.ref ch) (aO "boards" (.ref bd) []))=dG bd ch fi:=by
 rfl
def spSI(CS CF:Addr):Sp:=fun vs H Q _=>∃(p dx:Addr),vs= [.ref p] /\H p=some (.ins CS dx [])/\
 ∀H' bd ch fi fd lk df,(∀x∈ [bd,ch,fi,fd,lk],H x=none)->fd≠lk->H' p=some (.ins CS dx (dG bd ch fi))->H' bd=some (.dK [])->H' ch=some (.lst [])->H' fi=some (.ins CF df (fX bd fd lk))->H' fd=some (.dT [])->H' lk=some (.dT [])->bC p H H'->Q .non H'
theorem b3z:bG ["self"] ["self"] (aI tH):=⟨rfl,rfl,rfl,by decide+kernel,rfl,by decide+kernel,by decide+kernel⟩
theorem vU(T:bE K mg){CS CF:Addr}(Y:eT K mg CS)(Z:eL K mg CF):eU P w K mg base aF 3 CS ["self"] (spSI CS CF):=by
 have GI:eU P w K mg base aF 1 CF ["self","boards"] (spFI CF):=pW T Z
 refine(Y.m_init.known b3z (fun _ _ _ _ _ _ us hl=>fK (fun _=>rfl) us hl) (fun vs H Q E h=> ?_) (fun f cdv A outer s H vs Q E hr h=> ?_)).init Y.mks Y.kc
 ·obtain⟨p,dx,rfl,_⟩:=h
  rfl
 ·obtain⟨p,dx,rfl,hp,q⟩:=h
  refine⟨_,(aK (dF (pv 0) rZ rfl)
   (aK (dF (pv 0) (eO aG) rfl)
   (aL (dF (pv 0) (kZ GI hr Z.c aR (aB (aX (pv 0) rfl) aG)) rfl)))),?_⟩
  intro bd hbd
  have s1:=aE.new (o:=.dK []) hbd
  have b1:upd H bd (.dK []) bd=some (.dK []):=aJ
  have n1:∀{b:Addr},upd H bd (.dK []) b=none->H b=none/\b≠bd:=iB
  generalize upd H bd (.dK [])=H1 at s1 b1 n1|-
  refine⟨_,rfl,p,CS,dx,[],rfl,s1 _ _ hp,Y.cl,Y.n_boards,(by show 0<1000;decide),?_⟩
  have u2:bC p H1 (upd H1 p (.ins CS dx (aO "boards" (.ref bd) []))):=fun b o n z=>by rw[aH n];exact z
  have p2:upd H1 p (.ins CS dx (aO "boards" (.ref bd) [])) p=some (.ins CS dx (aO "boards" (.ref bd) [])):=aJ
  have n2:∀{b:Addr},upd H1 p (.ins CS dx (aO "boards" (.ref bd) [])) b=none->H1 b=none/\b≠p:=iB
  generalize upd H1 p (.ins CS dx (aO "boards" (.ref bd) []))=H2 at u2 p2 n2|-
  refine⟨sl,fun ch hch=> ?_⟩
  have s3:=aE.new (o:=.lst []) hch
  have c3:upd H2 ch (.lst []) ch=some (.lst []):=aJ
  have n3:∀{b:Addr},upd H2 ch (.lst []) b=none->H2 b=none/\b≠ch:=iB
  generalize upd H2 ch (.lst [])=H3 at s3 c3 n3|-
  refine⟨_,rfl,p,CS,dx,_,rfl,s3 _ _ p2,Y.cl,Y.n_changes,(by show 1<1000;decide),?_⟩
  have u4:bC p H3 (upd H3 p (.ins CS dx (aO "changes" (.ref ch) (aO "boards" (.ref bd) [])))):=fun b o n z=>by rw[aH n];exact z
  have p4:upd H3 p (.ins CS dx (aO "changes" (.ref ch) (aO "boards" (.ref bd) []))) p=some (.ins CS dx (aO "changes" (.ref ch) (aO "boards" (.ref bd) []))):=aJ
  have n4:∀{b:Addr},upd H3 p (.ins CS dx (aO "changes" (.ref ch) (aO "boards" (.ref bd) []))) b=none->H3 b=none/\b≠p:=iB
  generalize upd H3 p (.ins CS dx (aO "changes" (.ref ch) (aO "boards" (.ref bd) [])))=H4 at u4 p4 n4|-
  have npb:bd≠p:=fun y=>by rw[y,hp]at hbd;cases hbd
  have npc:ch≠p:=fun y=>by rw[y,p2]at hch;cases hch
  refine⟨_,rfl,p,CS,dx,_,_,rfl,p4,Y.cl,Y.n_boards,(show List.lookup ("boards":Str) (aO "changes" (V.ref ch) (aO "boards" (V.ref bd) []))=some (.ref bd) from rfl),?_⟩
  intro fi df hfi hdf ne
  refine⟨fi,df,bd,rfl,aJ,fun H5 fd lk hfd hlk nfl g1 g2 g3 b5=>⟨rfl,?_⟩⟩
  have s5:aE H4 H5:=fun b o z=>b5 b o (bA z hfi) (by rw[aH (bA z hfi),aH (bA z hdf)];exact z)
  have fr:∀{x:Addr},upd (upd H4 df (.own fi)) fi (.ins CF df []) x=none->H4 x=none:=fun{x} z=>(iB (iB z).1).1
  refine⟨_,rfl,p,CS,dx,_,rfl,s5 _ _ p4,Y.cl,Y.n_finder,(by show 2<1000;decide),?_⟩
  rw[b5v]
  have u6:bC p H5 (upd H5 p (.ins CS dx (dG bd ch fi))):=fun b o n z=>by rw[aH n];exact z
  have dn:∀{x:Addr},H4 x=none->H x=none/\x≠p:=fun z=>⟨(n1 (n2 (n3 (n4 z).1).1).1).1,(n4 z).2⟩
  have fZ:=dn (fr hfd)
  have frl:=dn (fr hlk)
  have frf:=dn hfi
  have hc0:H ch=none:=(n1 (n2 hch).1).1
  refine q _ bd ch fi fd lk df (fun x hx=> ?_) nfl aJ (u6 _ _ npb (s5 _ _ (u4 _ _ npb (s3 _ _ (u2 _ _ npb b1))))) (u6 _ _ npc (s5 _ _ (u4 _ _ npc c3))) (u6 _ _ frf.2 g1) (u6 _ _ fZ.2 g2) (u6 _ _ frl.2 g3) (fun b o n z=>u6 _ _ n (s5 _ _ (u4 _ _ n (s3 _ _ (u2 _ _ n (s1 _ _ z))))))
  simp only[List.mem_cons,List.not_mem_nil,or_false]at hx
  rcases hx with rfl|rfl|rfl|rfl|rfl
  ·exact hbd
  ·exact hc0
  ·exact frf.1
  ·exact fZ.1
  ·exact frl.1
def zN(CS:Addr)(s bd ch:Addr)(cs:List V)(kb:List (aA×V))(H:Hp):Prop:=(∃dx fi,H s=some (.ins CS dx (dG bd ch fi)))/\H ch=some (.lst cs)/\H bd=some (.dK kb)
def lX(CS CF:Addr)(s bd ch fi fd lk:Addr)(cs:List V)(kb:List (aA×V))(H0 H:Hp):Prop:=(∃dx,H s=some (.ins CS dx (dG bd ch fi)))/\H ch=some (.lst cs)/\H bd=some (.dK kb)/\(∃df,H fi=some (.ins CF df (fX bd fd lk)))/\H fd=some (.dT [])/\H lk=some (.dT [])/\fd≠lk/\H0 fi=none/\H0 fd=none/\H0 lk=none
def a99(CS CF CB CT:Addr):Sp:=fun vs H Q _=>∃(s bd ch:Addr) (cs:List V) (kb:List (aA×V)) (nm:Str) (m:Nat),vs= [.ref s,.str nm,.int (m:Int)] /\zN CS s bd ch cs kb H/\cs.length<900/\kb.length<4/\Nl nm/\aM kb (.inr nm:aA)=none/\m<=30/\
 ∀H' fi fd lk c b g r e ru me od,lX CS CF s bd ch fi fd lk (cs++ [.ref c]) (aS kb (.inr nm:aA) (.ref b)) H H'->cD CB CT H' ⟨b,g,r,e,ru,me,od,fI 0 m,(m:Int),[],[],[],[]⟩ ->BM.sep ⟨b,g,r,e,ru,me,od,fI 0 m,(m:Int),[],[],[],[]⟩ ->(∀x∈ [b,g,r,e,ru,me,od],H x=none)->(∀x o,x≠s->x≠ch->x≠bd->H x=some o->H' x=some o)->Q .non H'
theorem b7s:bG ["self","name","many"] ["self","name","many"] (aI uH):=⟨rfl,rfl,rfl,by decide+kernel,rfl,by decide+kernel,by decide+kernel⟩
theorem tS(T:bE K mg){CS CF CB CT CC:Addr}(Y:eT K mg CS)(Z:eL K mg CF)(W:cO K mg CB)(U:dO K mg CT)(C:nG K mg CC):aT P w K mg base aF 9 CS "table" ["self","name","many"] (a99 CS CF CB CT):=by
 have G_is_name:bJ P w K mg base aF 1 "is_name" ["thing"] (lN K):=jJ T
 have G_size:bJ P w K mg base aF 2 "check_size" ["many"] a1O:=qU T
 have GI:eU P w K mg base aF 1 CC ["self","boards","name","size"] (b0H CC):=sQ T C
 have G_make:aT P w K mg base aF 8 CS "make" ["self","change"] (uM CS CF CC (spTT CC CB CT)):=mJ T Y Z C.cl b6a (wL T C W U)
 refine Y.m_table.known b7s (fun _ _ _ _ _ _ us hl=>hV (fun _ _ _=>rfl) us hl) (fun vs H Q E h=> ?_) (fun f cdv A outer s H vs Q E hr h=> ?_)
 ·obtain⟨s',bd,ch,cs,kb,nm,m,rfl,_⟩:=h
  rfl
 ·obtain⟨s',bd,ch,cs,kb,nm,m,rfl,hS,cl,kl,hn,hv,hm,q⟩:=h
  have hu:=cU hr
  refine⟨_,(aK (bM (PW.pt (iW (fE (dZ (bU G_is_name (hr.mono (by decide)) aR (aB (pv 1) aG)) (fun _=>rfl))) (kD (iV (mT hu (pv 1) (aX (pv 0) rfl)))))) (aL cQ) bS)
   (aK (bY (bU G_size (hr.mono (by decide)) aR (aB (pv 2) aG)))
   (aK (bM (dE a8N (dN b0R rfl T.len jG (aB (aX (pv 0) rfl) aG)) (qK T.g_MOST_TABLES) (dH _)) (aL cQ) bS)
   (aL (bY (bZ (pv 0) Y.cl G_make hr aR (aB (kZ GI (hr.mono (by decide)) C.c aR (aB (aX (pv 0) rfl) (aB (pv 1) (aB (pv 2) aG)))) aG))))))),?_⟩
  have h8:=hn.2.1
  obtain⟨⟨dx,fi0,h1⟩,h2,h3⟩:=hS
  obtain⟨a1,a2,a3,a4⟩:=lL bd ch fi0
  refine⟨_,rfl,_,.str nm,rfl,.str nm,lM (by omega),fun H0 s9=>⟨_,rfl,?_⟩⟩
  rw[show fO (.str nm)=true from hn.name]
  have h1:=s9 _ _ h1
  have h2':=s9 _ _ h2
  have h3':=s9 _ _ h3
  refine bL ⟨_,rfl,_,rfl,s',CS,dx,_,_,rfl,h1,Y.cl,Y.n_boards,a1,bd,_,rfl,bQ.k (k:=Sum.inr nm) h3',_,rfl,?_⟩
  rw[hv]
  refine bL ⟨_,rfl,m,rfl,hm,?_⟩
  refine⟨_,rfl,s',CS,dx,_,_,rfl,h1,Y.cl,Y.n_boards,a1,bd,kb,rfl,h3',_,_,rfl,rfl,_,rfl,?_⟩
  refine eR (fun g=>absurd (of_decide_eq_true g) (by omega)) (fun g=> ?_)
  refine⟨_,rfl,s',dx,_,rfl,h1,fA,_,rfl,s',CS,dx,_,_,rfl,h1,Y.cl,Y.n_boards,a1,_,rfl,_,rfl,?_⟩
  intro c dc hc hdc ne
  refine⟨c,dc,bd,nm,m,rfl,aJ,fun H1 b1 c1=>⟨rfl,?_⟩⟩
  have s1:aE H0 H1:=fun b o z=>b1 b o (bA z hc) (by rw[aH (bA z hc),aH (bA z hdc)];exact z)
  refine⟨s',c,bd,ch,fi0,dx,dc,cs,_,rfl,c1,(xV _ _ _).2.2.2,c,dc,bd,nm,m,kb,rfl,c1,s1 _ _ h3',by omega,hm,fun H2 b g r e ru me od B2 sp2 fr2 bd2 u2=> ?_⟩
  have ns:s'≠bd:=fun y=>by rw[y,h3']at h1;cases h1
  have nc:ch≠bd:=fun y=>by rw[y,h3']at h2';cases h2'
  have nsc:s'≠ch:=fun y=>by rw[y,h2']at h1;cases h1
  refine⟨u2 _ _ ns (s1 _ _ h1),u2 _ _ nc (s1 _ _ h2'),cl,fun H3 fi fd lk df f1 f2 f3 nfl g1 g2 g3 g4 g5 u3=> ?_⟩
  have n0:∀{x:Addr},H2 x=none->H x=none:=fun{x} e=>by
   cases e2:H x with
   |none=>rfl
   |some o=>
    by_cases y:x=bd
    ·rw[y,bd2]at e;cases e
    ·rw[u2 _ _ y (s1 _ _ (s9 _ _ e2))]at e;cases e
  have k3:∀{x:Addr} {o:HO},H2 x=some o->x≠s'->x≠ch->H3 x=some o:=fun e n m=>u3 _ _ n m e
  have fr:∀x∈ [b,g,r,e,ru,me,od],H x=none:=fun x hx=>fB (s9.trans s1) (fr2 x hx)
  have nb:∀{x:Addr},x∈ [b,g,r,e,ru,me,od] ->x≠s'/\x≠ch:=fun hx=>⟨fun y=>by{have:=s1 _ _ h1;rw[<- y,fr2 _ hx]at this;cases this},fun y=>by{have:=s1 _ _ h2';rw[<- y,fr2 _ hx]at this;cases this}⟩
  obtain⟨⟨d1,e1⟩,⟨⟨d2,e2⟩,e3,e4⟩,e5,e6,e7⟩:=B2
  have kb2:∀{x:Addr} {o:HO},x∈ [b,g,r,e,ru,me,od] ->H2 x=some o->H3 x=some o:=fun hx e=>k3 e (nb hx).1 (nb hx).2
  exact q H3 fi fd lk c b g r e ru me od ⟨⟨dx,g1⟩,g2,k3 bd2 ns.symm nc.symm,⟨df,g3⟩,g4,g5,nfl,n0 f1,n0 f2,n0 f3⟩ ⟨⟨d1,kb2 (by simp) e1⟩,⟨⟨d2,kb2 (by simp) e2⟩,kb2 (by simp) e3,kb2 (by simp) e4⟩,kb2 (by simp) e5,kb2 (by simp) e6,kb2 (by simp) e7⟩ sp2 fr (fun x o n1 n2 n3 e=>k3 (u2 _ _ n3 (s1 _ _ (s9 _ _ e))) n1 n2)
theorem b3C(r:Addr)(n:Int)(d bd ch fi:Addr):lD r n d≠dG bd ch fi:=fun h=>by
 have h1:(lD r n d).map (·.1)=(dG bd ch fi).map (·.1):=by rw[h]
 exact absurd h1 (show¬([("row_numbers":Str),("fresh_number":Str),("kept":Str)]= [("boards":Str),("changes":Str),("finder":Str)])by decide+kernel)
theorem cD.off{CS CB CT s ch:Addr}{cs:List V}{H H':Hp}{B:BM}(h:cD CB CT H B)(hs:∃dx bd ch' fi,H s=some (.ins CS dx (dG bd ch' fi)))(hc:H ch=some (.lst cs))(n1:ch≠B.r)(n2:ch≠B.od)(u:∀x o,x≠s->x≠ch->H x=some o->H' x=some o):cD CB CT H' B:=by
 obtain⟨dx,bd,ch',fi,hs⟩:=hs
 obtain⟨⟨d1,e1⟩,⟨⟨d2,e2⟩,e3,e4⟩,e5,e6,e7⟩:=h
 have k:∀{x:Addr} {o:HO},H x=some o->(∀a b c,o≠ .ins a b c)->x≠ch->H' x=some o:=fun e n m=>u _ _ (fun y=>by rw[y,hs]at e;exact n _ _ _ (Option.some.inj e).symm) m e
 have nc:∀{x:Addr} {o:HO},H x=some o->(∀a,o≠ .lst a)->x≠ch:=fun e n y=>by rw[y,hc]at e;exact n _ (Option.some.inj e).symm
 refine⟨⟨d1,u _ _ (a8e e1 hs (show 4≠3 by decide)) (nc e1 (fun _ y=>by cases y)) e1⟩,⟨⟨d2,u _ _ (fun y=> ?_) (nc e2 (fun _ y=>by cases y)) e2⟩,k e3 (fun _ _ _ y=>by cases y) n1.symm,k e4 (fun _ _ _ y=>by cases y) (nc e4 (fun _ y=>by cases y))⟩,k e5 (fun _ _ _ y=>by cases y) (nc e5 (fun _ y=>by cases y)),k e6 (fun _ _ _ y=>by cases y) (nc e6 (fun _ y=>by cases y)),k e7 (fun _ _ _ y=>by cases y) n2.symm⟩
 rw[y,hs]at e2
 cases e2
structure a3B(bd ch:Addr)(B:BM):Prop where
 r:ch≠B.r
 o:ch≠B.od
 e:bd≠B.e
 u:bd≠B.ru
 m:bd≠B.me
def b0i(K:Fg)(CS CF CB CT:Addr):Sp:=fun vs H Q _=>∃(s bd ch a:Addr) (cs:List V) (kb:List (aA×V)) (nm t:Str) (ys:List V) (ds:List PyData) (B:BM),vs= [.ref s,.str nm,.str t,.ref a] /\zN CS s bd ch cs kb H/\cs.length<900/\Nl nm/\aM kb (.inr nm:aA)=some (.ref B.b)/\cD CB CT H B/\B.sep/\a3B bd ch B/\qZ B t/\Nl t/\H a=some (.lst ys)/\a≠B.od/\cM K H ys ds/\ys.length=B.xs.length/\ys.length<=30/\B.kvs.length<8/\B.ord.length<8/\
 ∀H' fi fd lk c l,lX CS CF s bd ch fi fd lk (cs++ [.ref c]) kb H H'->H l=none->cD CB CT H' {B with kvs:=aS B.kvs (.inr t:aA) (.ref l),ord:=B.ord++ [t]} ->H' l=some (.lst ys)->(∀x o,x≠s->x≠ch->x≠B.od->x≠B.e->H x=some o->H' x=some o)->Q .non H'
theorem a91:bG ["self","table","column","values","board"] ["self","table","column","values"] (aI sM):=⟨rfl,rfl,rfl,by decide+kernel,rfl,by decide+kernel,by decide+kernel⟩
theorem sG(T:bE K mg){CS CF CB CT CC:Addr}(Y:eT K mg CS)(Z:eL K mg CF)(W:cO K mg CB)(U:dO K mg CT)(C:mI K mg CC):aT P w K mg base aF 9 CS "give" ["self","table","column","values"] (b0i K CS CF CB CT):=by
 have G_for:aT P w K mg base aF 3 CS "board_for" ["self","table","column"] (a8M CS CB CT):=pF T Y W
 have G_many:aT P w K mg base aF 1 CT "many" ["self"] (mC CT):=jU T U
 have G_cv:bJ P w K mg base aF 4 "check_values" ["values","many"] (a1P K):=pY T
 have GI:eU P w K mg base aF 1 CC ["self","board","column","content"] (a1q CC):=oW T C
 have G_make:aT P w K mg base aF 8 CS "make" ["self","change"] (uM CS CF CC (xR CC CB CT (a3N K CB CT))):=mJ T Y Z C.cl (b08 b7v) (qW T C W (b6g T W U))
 refine Y.m_give.known a91 (fun _ _ _ _ _ _ us hl=>lH (fun _ _ _ _=>rfl) us hl) (fun vs H Q E h=> ?_) (fun f cdv A outer s H vs Q E hr h=> ?_)
 ·obtain⟨s',bd,ch,a,cs,kb,nm,t,ys,ds,B,rfl,_⟩:=h
  rfl
 ·obtain⟨s',bd,ch,a,cs,kb,nm,t,ys,ds,B,rfl,hS,cl,hn,hv,hB,sep,ss,new,ht,ha,nao,hp,ly,l30,k8,o8,q⟩:=h
  refine⟨_,(aK (bN (i:=4) a91.nd rfl (Or.inl rfl) (bZ (pv 0) Y.cl G_for (hr.mono (by decide)) aR (aB (pv 1) (aB (pv 2) aG))))
   (aK (bY (bU G_cv (hr.mono (by decide)) aR (aB (pv 3) (aB (mO (aX (pv 4) rfl) U.cl G_many (hr.mono (by decide)) aR) aG))))
   (aL (bY (bZ (pv 0) Y.cl G_make hr aR (aB (kZ GI (hr.mono (by decide)) C.c aR (aB (pv 4) (aB (pv 2) (aB (pv 3) aG)))) aG)))))),?_⟩
  obtain⟨⟨dx,fi0,h1⟩,h2,h3⟩:=hS
  refine⟨_,rfl,s',dx,_,rfl,h1,fA,_,rfl,_,rfl,s',bd,ch,fi0,dx,kb,nm,t,B,rfl,h1,h3,hn,hv,hB,ht,o8,fun H1 s1=> ?_⟩
  obtain⟨dB,b1⟩:=(hB.same s1).at_
  obtain⟨dT,t1⟩:=(hB.same s1).tab.at_
  refine⟨_,rfl,_,rfl,B.b,CB,dB,_,_,rfl,b1,W.cl,W.n_given,(dL _ _ _ _).1,B.g,dT,_,rfl,t1,iN,B.g,B.r,B.e,B.xs,B.n,B.kvs,rfl,(hB.same s1).tab,?_⟩
  refine⟨a,ys,ds,by rw[ly];rfl,aN.of (s1 _ _ ha),hp.keep (cJ.of s1),by omega,fun H2 s2=> ?_⟩
  have s12:=s1.trans s2
  refine⟨_,rfl,s',dx,_,rfl,s12 _ _ h1,fA,_,rfl,_,rfl,_,rfl,?_⟩
  intro c dc hc hdc ne
  refine⟨c,dc,B.b,a,t,rfl,aJ,fun H3 b3 c3=>⟨rfl,?_⟩⟩
  have s3:aE H H3:=fun b o z=>b3 b o (bA (s12 _ _ z) hc) (by rw[aH (bA (s12 _ _ z) hc),aH (bA (s12 _ _ z) hdc)];exact s12 _ _ z)
  have hB3:=hB.same s3
  refine⟨s',c,bd,ch,fi0,dx,dc,cs,_,rfl,c3,(a6n _ _ _).2.2.2.1,c,dc,a,B,t,rfl,c3,hB3,new,B,t,a,ys,ds,rfl,hB3,sep,new,ht,s3 _ _ ha,nao,hp.keep (cJ.of s3),ly,l30,k8,by omega,fun H4 l hl B4 l4 u4=> ?_⟩
  have hB0:=hB.ord
  have he0:=hB.tab.kept
  have k4:∀{x:Addr} {o:HO},H x=some o->x≠B.od->x≠B.e->H4 x=some o:=fun e n m=>u4 _ _ n m (s3 _ _ e)
  have ns:s'≠B.od/\s'≠B.e:=⟨fun y=>by{rw[y,hB0]at h1;cases h1},fun y=>by{rw[y,he0]at h1;cases h1}⟩
  have nce:ch≠B.e:=fun y=>by rw[y,he0]at h2;cases h2
  have nbo:bd≠B.od:=fun y=>by rw[y,hB0]at h3;cases h3
  have ns4:=k4 h1 ns.1 ns.2
  have ch4:=k4 h2 ss.o nce
  refine⟨ns4,ch4,cl,fun H5 fi fd lk df f1 f2 f3 nfl g1 g2 g3 g4 g5 u5=> ?_⟩
  have nn:∀{x:Addr},H4 x=none->H x=none:=fun{x} e=>by
   cases e2:H x with
   |none=>rfl
   |some o=>
    by_cases y:x=B.od
    ·rw[y,B4.ord]at e;cases e
    ·by_cases y2:x=B.e
     ·rw[y2,B4.tab.kept]at e;cases e
     ·rw[k4 e2 y y2]at e;cases e
  have hl0:H l=none:=fB s3 hl
  have nl:l≠s'/\l≠ch:=⟨fun y=>by{rw[y,h1]at hl0;cases hl0},fun y=>by{rw[y,h2]at hl0;cases hl0}⟩
  have nb:bd≠s'/\bd≠ch:=⟨fun y=>by{rw[y,h1]at h3;cases h3},fun y=>by{rw[y,h2]at h3;cases h3}⟩
  exact q H5 fi fd lk c l ⟨⟨dx,g1⟩,g2,u5 _ _ nb.1 nb.2 (k4 h3 nbo ss.e),⟨df,g3⟩,g4,g5,nfl,nn f1,nn f2,nn f3⟩ hl0 (B4.off ⟨dx,bd,ch,fi0,ns4⟩ ch4 ss.r ss.o u5) (u5 _ _ nl.1 nl.2 l4) (fun x o n1 n2 n3 n4 e=>u5 _ _ n1 n2 (k4 e n3 n4))
def b0J(K:Fg)(CS CF CB CT:Addr):Sp:=fun vs H Q _=>∃(s bd ch l:Addr) (cs:List V) (kb:List (aA×V)) (nm t:Str) (p:Nat) (v:V) (d:PyData) (ys:List V) (B:BM),vs= [.ref s,.str nm,.str t,.int (p:Int),v] /\zN CS s bd ch cs kb H/\cs.length<900/\Nl nm/\aM kb (.inr nm:aA)=some (.ref B.b)/\cD CB CT H B/\a3B bd ch B/\Nl t/\t∈B.ord/\aM B.rus (.inr t:aA)=none/\aM B.kvs (.inr t:aA)=some (.ref l)/\H l=some (.lst ys)/\p<B.xs.length/\ys.length=B.xs.length/\Pv K H v d/\l≠ch/\l≠B.r/\l≠B.od/\
 ∀H' fi fd lk c,lX CS CF s bd ch fi fd lk (cs++ [.ref c]) kb H H'->cD CB CT H' B->H' l=some (.lst (ys.set p v))->(∀x o,x≠s->x≠ch->x≠l->H x=some o->H' x=some o)->Q .non H'
theorem b0N:bG ["self","table","column","place","value","board"] ["self","table","column","place","value"] (aI tJ):=⟨rfl,rfl,rfl,by decide+kernel,rfl,by decide+kernel,by decide+kernel⟩
theorem vV(T:bE K mg){CS CF CB CT CC:Addr}(Y:eT K mg CS)(Z:eL K mg CF)(W:cO K mg CB)(U:dO K mg CT)(C:kT K mg CC):aT P w K mg base aF 9 CS "put" ["self","table","column","place","value"] (b0J K CS CF CB CT):=by
 have G_with:aT P w K mg base aF 3 CS "board_with" ["self","table","column"] (a0f CS CB CT):=oG T Y W
 have GI:eU P w K mg base aF 1 CC ["self","board","column","place","value"] (b0y CC):=wI T C
 have G_make:aT P w K mg base aF 8 CS "make" ["self","change"] (uM CS CF CC (spVP K CC CB CT)):=mJ T Y Z C.cl b6b (rS T C W U)
 refine Y.m_put.known b0N (fun _ _ _ _ _ _ us hl=>bi5 (fun _ _ _ _ _=>rfl) us hl) (fun vs H Q E h=> ?_) (fun f cdv A outer s H vs Q E hr h=> ?_)
 ·obtain⟨s',bd,ch,l,cs,kb,nm,t,p,v,d,ys,B,rfl,_⟩:=h
  rfl
 ·obtain⟨s',bd,ch,l,cs,kb,nm,t,p,v,d,ys,B,rfl,hS,cl,hn,hv,hB,ss,ht,to,hru,hkv,hl,hp,ly,hpv,nlc,nlr,nlo,q⟩:=h
  have hu:=cU hr
  refine⟨_,(aK (bN (i:=5) b0N.nd rfl (Or.inl rfl) (bZ (pv 0) Y.cl G_with (hr.mono (by decide)) aR (aB (pv 1) (aB (pv 2) aG))))
   (aK (bM (iV (mT hu (pv 2) (aX (pv 5) rfl))) (aL cQ) bS)
   (aL (bY (bZ (pv 0) Y.cl G_make hr aR (aB (kZ GI (hr.mono (by decide)) C.c aR (aB (pv 5) (aB (pv 2) (aB (pv 3) (aB (pv 4) aG))))) aG)))))),?_⟩
  obtain⟨⟨dx,fi0,h1⟩,h2,h3⟩:=hS
  refine⟨_,rfl,s',dx,_,rfl,h1,fA,_,rfl,_,rfl,s',bd,ch,fi0,dx,kb,nm,t,B,rfl,h1,h3,hn,hv,hB,ht,to,fun H1 s1=> ?_⟩
  obtain⟨dB,b1⟩:=(hB.same s1).at_
  refine⟨_,rfl,_,rfl,B.b,CB,dB,_,_,rfl,b1,W.cl,W.n_rules,(dL _ _ _ _).2.1,B.ru,_,rfl,bQ.k (k:=Sum.inr t) (hB.same s1).rul,_,rfl,?_⟩
  rw[hru]
  refine bL ?_
  refine⟨_,rfl,s',dx,_,rfl,s1 _ _ h1,fA,_,rfl,_,rfl,_,rfl,_,rfl,?_⟩
  intro c dc hc hdc ne
  refine⟨c,dc,B.b,t,p,v,rfl,aJ,fun H3 b3 c3=>⟨rfl,?_⟩⟩
  have s3:aE H H3:=fun b o z=>b3 b o (bA (s1 _ _ z) hc) (by rw[aH (bA (s1 _ _ z) hc),aH (bA (s1 _ _ z) hdc)];exact s1 _ _ z)
  have hB3:=hB.same s3
  refine⟨s',c,bd,ch,fi0,dx,dc,cs,_,rfl,c3,(a1I _ _ _ _ _).2.2.2.2.1,c,dc,l,B,t,p,v,.non,d,ys,rfl,c3,hB3,ht,hkv,s3 _ _ hl,hp,ly,hpv.keep (cJ.of s3),fun H4 u4 l4=> ?_⟩
  have hc0:H c=none:=fB s1 hc
  have k4:∀{x:Addr} {o:HO},H x=some o->x≠l->H4 x=some o:=fun e n=>u4 _ _ (fun y=>by rw[y,hc0]at e;cases e) n (s3 _ _ e)
  have nl:∀{x:Addr} {o:HO},H x=some o->(∀y,o≠ .lst y)->x≠l:=fun e n y=>by rw[y,hl]at e;exact n _ (Option.some.inj e).symm
  have ns4:=k4 h1 (nl h1 (fun _ y=>by cases y))
  have ch4:=k4 h2 nlc.symm
  refine⟨ns4,ch4,cl,fun H5 fi fd lk df f1 f2 f3 nfl g1 g2 g3 g4 g5 u5=> ?_⟩
  have nn:∀{x:Addr},H4 x=none->H x=none:=fun{x} e=>by
   cases e2:H x with
   |none=>rfl
   |some o=>
    by_cases y:x=l
    ·rw[y,l4]at e;cases e
    ·rw[k4 e2 y]at e;cases e
  have nb:bd≠s'/\bd≠ch:=⟨fun y=>by{rw[y,h1]at h3;cases h3},fun y=>by{rw[y,h2]at h3;cases h3}⟩
  have nls:l≠s':=fun y=>by rw[y,h1]at hl;cases hl
  have B4:cD CB CT H4 B:=by
   obtain⟨⟨d1,e1⟩,⟨⟨d2,e2⟩,e3,e4⟩,e5,e6,e7⟩:=hB
   exact⟨⟨d1,k4 e1 (nl e1 (fun _ y=>by cases y))⟩,⟨⟨d2,k4 e2 (nl e2 (fun _ y=>by cases y))⟩,k4 e3 nlr.symm,k4 e4 (nl e4 (fun _ y=>by cases y))⟩,k4 e5 (nl e5 (fun _ y=>by cases y)),k4 e6 (nl e6 (fun _ y=>by cases y)),k4 e7 nlo.symm⟩
  exact q H5 fi fd lk c ⟨⟨dx,g1⟩,g2,u5 _ _ nb.1 nb.2 (k4 h3 (nl h3 (fun _ y=>by cases y))),⟨df,g3⟩,g4,g5,nfl,nn f1,nn f2,nn f3⟩ (B4.off ⟨dx,bd,ch,fi0,ns4⟩ ch4 ss.r ss.o u5) (u5 _ _ nls nlc l4) (fun x o n1 n2 n3 e=>u5 _ _ n1 n2 (k4 e n3))
end
abbrev aC:=Str×Str
inductive gX(adj:aC->List aC)(s:aC):Nat->aC->Prop
 |zero:gX adj s 0 s
 |step {n:Nat} {x y:aC}:gX adj s n x->y∈adj x->gX adj s (n+ 1) y
theorem gX.inv{adj:aC->List aC}{s:aC}{n:Nat}{y:aC}(h:gX adj s (n+ 1) y):∃x,gX adj s n x/\y∈adj x:=by
 cases h with
 |step h1 h2=>exact⟨_,h1,h2⟩
structure nB(adj:aC->List aC)(s:aC)(ys:List aC):Prop where
 hd:ys[0]?=some s
 nd:ys.Nodup
 nx:∀i x,ys[i]?=some x->∃y,ys[(i+ 1)% ys.length]?=some y/\y∈adj x
inductive cX(cm:aC->Option aC)(s:aC):aC->List aC->Prop
 |nil:cX cm s s [s]
 |cons {x u:aC} {ps:List aC}:x≠s->cm x=some u->cX cm s u ps->cX cm s x (x::ps)
theorem cX.uniq{cm:aC->Option aC}{s:aC}:∀{x:aC} {ps qs:List aC},cX cm s x ps->cX cm s x qs->ps=qs
 |_,_,_,.nil,.nil=>rfl
 |_,_,_,.nil,.cons h _ _=>absurd rfl h
 |_,_,_,.cons h _ _,.nil=>absurd rfl h
 |_,_,_,.cons _ e b,.cons _ e' b'=>by
  rw[e]at e'
  cases e'
  rw[cX.uniq b b']
theorem cX.mem{cm:aC->Option aC}{s:aC}:∀{x y:aC} {ps:List aC},cX cm s x ps->y∈ps->∃qs,cX cm s y qs/\qs.length<=ps.length/\∃pre,ps=pre++ qs
 |_,y,_,.nil,h=>by rw[List.mem_singleton.mp h];exact⟨[_],.nil,Nat.le_refl _,[],rfl⟩
 |_,y,_,.cons (x:=x) (ps:=ps) h e b,hm=>by
  rcases List.mem_cons.mp hm with rfl|hm
  ·exact⟨_,.cons h e b,Nat.le_refl _,[],rfl⟩
  ·obtain⟨qs,h1,h2,pre,h3⟩:=cX.mem b hm
   exact⟨qs,h1,Nat.le_succ_of_le h2,x::pre,by rw[h3];rfl⟩
theorem cX.nodup{cm:aC->Option aC}{s:aC}:∀{x:aC} {ps:List aC},cX cm s x ps->ps.Nodup
 |_,_,.nil=>by simp
 |_,_,.cons (x:=x) (ps:=ps) h e b=>by
  rw[List.nodup_cons]
  refine⟨fun hm=> ?_,b.nodup⟩
  obtain⟨qs,h1,h2,_⟩:=b.mem hm
  have:=cX.uniq h1 (.cons h e b)
  rw[this,List.length_cons]at h2
  omega
theorem cX.last{cm:aC->Option aC}{s:aC}:∀{x:aC} {ps:List aC},cX cm s x ps->ps.getLast?=some s
 |_,_,.nil=>rfl
 |_,_,.cons (x:=x) (ps:=ps) h e b=>by
  have:=b.last
  cases ps with
  |nil=>cases b
  |cons p r=>rw[List.getLast?_cons_cons];exact this
theorem cX.head{cm:aC->Option aC}{s:aC}{x:aC}{ps:List aC}(h:cX cm s x ps):ps[0]?=some x:=by
 cases h<;>rfl
theorem cX.next{cm:aC->Option aC}{s:aC}:∀{x:aC} {ps:List aC} {i:Nat} {y z:aC},cX cm s x ps->ps[i]?=some y->ps[i+ 1]?=some z->y≠s/\cm y=some z
 |_,_,i,y,z,.nil,h1,h2=>by simp at h2
 |_,_,0,y,z,.cons (x:=x) (ps:=ps) h e b,h1,h2=>by
  simp at h1
  subst h1
  have h2:ps[0]?=some z:=by simpa using h2
  rw[b.head]at h2
  cases h2
  exact⟨h,e⟩
 |_,_,i+ 1,y,z,.cons h e b,h1,h2=>cX.next (i:=i) b (by simpa using h1) (by simpa using h2)
theorem cX.ext{cm cm':aC->Option aC}{s:aC}(hc:∀x u,cm x=some u->cm' x=some u):∀{x:aC} {ps:List aC},cX cm s x ps->cX cm' s x ps
 |_,_,.nil=> .nil
 |_,_,.cons h e b=> .cons h (hc _ _ e) (b.ext hc)
theorem cX.drop{cm:aC->Option aC}{s:aC}:∀{x y:aC} {ps:List aC} {i:Nat},cX cm s x ps->ps[i]?=some y->cX cm s y (ps.drop i)
 |_,_,_,0,h,e=>by
  rw[h.head]at e
  cases e
  exact h
 |_,_,_,i+ 1,.nil,e=>by simp at e
 |_,_,_,i+ 1,.cons _ _ b,e=>cX.drop (i:=i) b (by simpa using e)
theorem cX.ring{adj:aC->List aC}{cm:aC->Option aC}{s x:aC}{ps:List aC}(hc:∀z u,cm z=some u->z∈adj u)(hs:s∈adj x)(h:cX cm s x ps):nB adj s ps.reverse:=by
 have hl:ps.getLast?=some s:=h.last
 have hpos:0<ps.length:=by
  cases ps with
  |nil=>simp at hl
  |cons=>simp
 have hls:ps[ps.length- 1]?=some s:=by rw[<- List.getLast?_eq_getElem?];exact hl
 refine⟨?_,?_,fun i z hz=> ?_⟩
 ·rw[List.getElem?_reverse hpos]
  simpa using hls
 ·exact List.pairwise_reverse.mpr (h.nodup.imp fun h=>Ne.symm h)
 ·have hi:i<ps.length:=by
   have:=(List.getElem?_eq_some_iff.mp hz).1
   simpa using this
  rw[List.length_reverse]
  rw[List.getElem?_reverse hi]at hz
  by_cases g:i+ 1<ps.length
  ·rw[Nat.mod_eq_of_lt g,List.getElem?_reverse g]
   obtain⟨y,hy⟩:∃y,ps[ps.length- 1- (i+ 1)]?=some y:=⟨_,List.getElem?_eq_getElem (by omega)⟩
   have e:ps.length- 1- i=(ps.length- 1- (i+ 1))+ 1:=by omega
   rw[e]at hz
   exact⟨y,hy,hc _ _ (h.next hy hz).2⟩
  ·have e:i+ 1=ps.length:=by omega
   rw[e,Nat.mod_self,List.getElem?_reverse hpos]
   have e0:ps.length- 1- i=0:=by omega
   rw[e0,h.head]at hz
   cases hz
   exact⟨s,by simpa using hls,hs⟩
theorem nB.walk{adj:aC->List aC}{s:aC}{ys:List aC}(R:nB adj s ys):∀(i:Nat) (x:aC),ys[i]?=some x->gX adj s i x
 |0,x,h=>by
  rw[R.hd]at h
  cases h
  exact .zero
 |i+ 1,x,h=>by
  have hi:i+ 1<ys.length:=(List.getElem?_eq_some_iff.mp h).1
  obtain⟨z,hz⟩:∃z,ys[i]?=some z:=⟨_,List.getElem?_eq_getElem (by omega)⟩
  obtain⟨y,h1,h2⟩:=R.nx i z hz
  rw[Nat.mod_eq_of_lt hi,h]at h1
  cases h1
  exact .step (R.walk i z hz) h2
theorem nB.pos{adj:aC->List aC}{s:aC}{ys:List aC}(R:nB adj s ys):0<ys.length:=(List.getElem?_eq_some_iff.mp R.hd).1
theorem nB.back{adj:aC->List aC}{s:aC}{ys:List aC}(R:nB adj s ys):gX adj s ys.length s:=by
 have hp:=R.pos
 obtain⟨z,hz⟩:∃z,ys[ys.length- 1]?=some z:=⟨_,List.getElem?_eq_getElem (by omega)⟩
 obtain⟨y,h1,h2⟩:=R.nx _ z hz
 have e:ys.length- 1+ 1=ys.length:=by omega
 rw[e,Nat.mod_self,R.hd]at h1
 cases h1
 have:=gX.step (R.walk _ z hz) h2
 rw[e]at this
 exact this
def iY(cm:aC->Option aC)(nodes:List aC):Nat:=(nodes.filter fun z=>(cm z).isNone).length
theorem b1u{cm cm':aC->Option aC}(hc:∀x,(cm x).isSome->(cm' x).isSome):∀nodes:List aC,iY cm' nodes<=iY cm nodes
 | []=>Nat.le_refl _
 |z::r=>by
  have ih:=b1u hc r
  unfold iY at ih|-
  rw[List.filter_cons,List.filter_cons]
  cases e:cm z with
  |none=>cases e':cm' z<;>simp<;>omega
  |some u=>
   have:=hc z (by rw[e];rfl)
   cases e':cm' z with
   |none=>rw[e']at this;cases this
   |some u'=>simpa using ih
theorem a05{cm cm':aC->Option aC}(hc:∀x,(cm x).isSome->(cm' x).isSome){y:aC}(h0:cm y=none)(h1:(cm' y).isSome):∀{nodes:List aC},y∈nodes->iY cm' nodes+ 1<=iY cm nodes
 |z::r,hy=>by
  have le:=b1u hc r
  unfold iY at le|-
  rw[List.filter_cons,List.filter_cons]
  rcases List.mem_cons.mp hy with rfl|hy
  ·rw[h0]
   cases e':cm' y with
   |none=>rw[e']at h1;cases h1
   |some u=>simpa using Nat.succ_le_succ le
  ·have ih:=a05 hc h0 h1 hy
   unfold iY at ih
   cases e:cm z with
   |none=>cases e':cm' z<;>simp<;>omega
   |some u=>
    have:=hc z (by rw[e];rfl)
    cases e':cm' z with
    |none=>rw[e']at this;cases this
    |some u'=>simpa using ih
theorem a3c(cm:aC->Option aC)(nodes:List aC):iY cm nodes<=nodes.length:=List.length_filter_le _ _
def Done(adj:aC->List aC)(s:aC)(cm:aC->Option aC)(x:aC):Prop:=∀y∈adj x,y≠s/\(cm y).isSome
structure kO(adj:aC->List aC)(s:aC)(nodes:List aC)(r:Nat)(cm:aC->Option aC)(wz:List aC):Prop where
 c:∀z u,cm z=some u->z∈adj u/\z≠s
 d:∀x∈wz,∃ps,cX cm s x ps/\ps.length=r+ 1
 f:∀x,(x=s\/ (cm x).isSome)->Done adj s cm x\/ x∈wz
 w:∀x∈wz,x=s\/ (cm x).isSome
 q:∀x,gX adj s r x->x=s\/ (cm x).isSome
 n:∀k,k+ 1<=r->¬gX adj s (k+ 1) s
 b:wz= []\/ r+ iY cm nodes<=nodes.length
theorem kO.start{adj:aC->List aC}{s:aC}{nodes:List aC}:kO adj s nodes 0 (fun _=>none) [s] where
 c:=fun _ _ h=>by cases h
 d:=fun x hx=>by rw[List.mem_singleton.mp hx];exact⟨[s],.nil,rfl⟩
 f:=fun x hx=>by
  rcases hx with rfl|hx
  ·exact .inr (by simp)
  ·cases hx
 w:=fun x hx=> .inl (List.mem_singleton.mp hx)
 q:=fun x hx=>by cases hx;exact .inl rfl
 n:=fun k hk=>by omega
 b:=.inr (by have:=a3c (fun _=>none) nodes;omega)
theorem kO.over{adj:aC->List aC}{s:aC}{nodes:List aC}{r:Nat}{cm:aC->Option aC}(B:kO adj s nodes r cm []):∀n,¬gX adj s (n+ 1) s:=by
 have all:∀n x,gX adj s n x->x=s\/ (cm x).isSome:=by
  intro n
  induction n with
  |zero=>intro x h;cases h;exact .inl rfl
  |succ n ih=>
   intro x h
   obtain⟨z,h1,h2⟩:=h.inv
   rcases B.f z (ih z h1)with g|g
   ·exact .inr (g x h2).2
   ·cases g
 intro n h
 obtain⟨z,h1,h2⟩:=h.inv
 rcases B.f z (all n z h1)with g|g
 ·exact(g s h2).1 rfl
 ·cases g
structure iZ(adj:aC->List aC)(s:aC)(nodes:List aC)(r:Nat)(cm0:aC->Option aC)(wz:List aC)(i:Nat)(cm:aC->Option aC)(fz:List aC):Prop where
 c:∀z u,cm z=some u->z∈adj u/\z≠s
 e:∀z u,cm0 z=some u->cm z=some u
 d:∀x∈fz,∃ps,cX cm s x ps/\ps.length=r+ 2
 f:∀x,(x=s\/ (cm x).isSome)->Done adj s cm x\/ x∈wz.drop i\/ x∈fz
 w:∀x∈fz,x≠s/\(cm x).isSome/\cm0 x=none
 l:fz.length+ iY cm nodes<=iY cm0 nodes
theorem iZ.start{adj:aC->List aC}{s:aC}{nodes:List aC}{r:Nat}{cm:aC->Option aC}{wz:List aC}(B:kO adj s nodes r cm wz):iZ adj s nodes r cm wz 0 cm [] where
 c:=B.c
 e:=fun _ _ h=>h
 d:=fun _ h=>by cases h
 f:=fun x hx=>(B.f x hx).imp id fun h=> .inl (by simpa using h)
 w:=fun _ h=>by cases h
 l:=by simp
theorem iZ.next{adj:aC->List aC}{s:aC}{nodes:List aC}{r i:Nat}{cm0 cm:aC->Option aC}{wz fz:List aC}{x:aC}(M:iZ adj s nodes r cm0 wz i cm fz)(hx:wz[i]?=some x)(hd:Done adj s cm x):iZ adj s nodes r cm0 wz (i+ 1) cm fz:=
 ⟨M.c,M.e,M.d,fun y hy=>by
  rcases M.f y hy with h|h|h
  ·exact .inl h
  ·have hi:i<wz.length:=(List.getElem?_eq_some_iff.mp hx).1
   rw[List.drop_eq_getElem_cons hi]at h
   rcases List.mem_cons.mp h with h|h
   ·have:wz[i]=x:=(List.getElem?_eq_some_iff.mp hx).2
    rw[h,this]
    exact .inl hd
   ·exact .inr (.inl h)
  ·exact .inr (.inr h),M.w,M.l⟩
noncomputable def gN (cm:aC->Option aC) (y x:aC):aC->Option aC:=fun z=>if z=y then some x else cm z
theorem iZ.put{adj:aC->List aC}{s:aC}{nodes:List aC}{r i:Nat}{cm0 cm:aC->Option aC}{wz fz:List aC}{x y:aC}(B:kO adj s nodes r cm0 wz)(M:iZ adj s nodes r cm0 wz i cm fz)(hx:x∈wz)(hy:y∈adj x)(hs:y≠s)(h0:cm y=none)(hn:y∈nodes):
 iZ adj s nodes r cm0 wz i (gN cm y x) (fz++ [y]):=by
 have ext:∀z u,cm z=some u->gN cm y x z=some u:=fun z u h=>by
  unfold gN
  rw[if_neg (fun e=>by rw[e,h0]at h;cases h)]
  exact h
 have some':∀z,(cm z).isSome->(gN cm y x z).isSome:=fun z h=>by
  obtain⟨u,hu⟩:=Option.isSome_iff_exists.mp h
  rw[ext z u hu];rfl
 have at':gN cm y x y=some x:=by unfold gN;rw[if_pos rfl]
 refine⟨fun z u h=> ?_,fun z u h=>ext z u (M.e z u h),fun z hz=> ?_,fun z hz=> ?_,fun z hz=> ?_,?_⟩
 ·unfold gN at h
  by_cases e:z=y
  ·rw[if_pos e]at h
   cases h
   rw[e]
   exact⟨hy,hs⟩
  ·rw[if_neg e]at h
   exact M.c z u h
 ·rcases List.mem_append.mp hz with hz|hz
  ·obtain⟨ps,h1,h2⟩:=M.d z hz
   exact⟨ps,h1.ext ext,h2⟩
  ·rw[List.mem_singleton.mp hz]
   obtain⟨ps,h1,h2⟩:=B.d x hx
   exact⟨y::ps,.cons hs at' ((h1.ext M.e).ext ext),by rw[List.length_cons,h2]⟩
 ·by_cases e:z=y
  ·exact .inr (.inr (by rw[e];simp))
  ·have hz':z=s\/ (cm z).isSome:=hz.imp id fun h=>by
    unfold gN at h
    rw[if_neg e]at h
    exact h
   rcases M.f z hz' with h|h|h
   ·exact .inl fun u hu=>⟨(h u hu).1,some' u (h u hu).2⟩
   ·exact .inr (.inl h)
   ·exact .inr (.inr (List.mem_append_left _ h))
 ·rcases List.mem_append.mp hz with hz|hz
  ·obtain⟨h1,h2,h3⟩:=M.w z hz
   exact⟨h1,some' z h2,h3⟩
  ·rw[List.mem_singleton.mp hz]
   refine⟨hs,by rw[at'];rfl,?_⟩
   cases e:cm0 y with
   |none=>rfl
   |some u=>rw[M.e y u e]at h0;cases h0
 ·have h1:=a05 some' h0 (by rw[at'];rfl) hn
  have h2:=M.l
  rw[List.length_append,List.length_singleton]
  omega
theorem iZ.over{adj:aC->List aC}{s:aC}{nodes:List aC}{r:Nat}{cm0 cm:aC->Option aC}{wz fz:List aC}(B:kO adj s nodes r cm0 wz)(M:iZ adj s nodes r cm0 wz wz.length cm fz)(hw:wz≠ []):kO adj s nodes (r+ 1) cm fz:=by
 have some':∀z,(cm0 z).isSome->(cm z).isSome:=fun z h=>by
  obtain⟨u,hu⟩:=Option.isSome_iff_exists.mp h
  rw[M.e z u hu];rfl
 have old:∀x,(x=s\/ (cm0 x).isSome)->Done adj s cm x:=fun x hx=>by
  rcases M.f x (hx.imp id (some' x))with h|h|h
  ·exact h
  ·simp at h
  ·obtain⟨h1,_,h3⟩:=M.w x h
   rcases hx with hx|hx
   ·exact absurd hx h1
   ·rw[h3]at hx;cases hx
 refine⟨M.c,M.d,fun x hx=> ?_,fun x hx=> .inr (M.w x hx).2.1,fun x hx=> ?_,fun k hk h=> ?_,?_⟩
 ·rcases M.f x hx with h|h|h
  ·exact .inl h
  ·simp at h
  ·exact .inr h
 ·obtain⟨z,h1,h2⟩:=hx.inv
  exact .inr (old z (B.q z h1) x h2).2
 ·by_cases g:k+ 1<=r
  ·exact B.n k g h
  ·have e:k=r:=by omega
   subst e
   obtain⟨z,h1,h2⟩:=h.inv
   exact(old z (B.q z h1) s h2).1 rfl
 ·by_cases g:fz= []
  ·exact .inl g
  ·refine .inr ?_
   have hl:=M.l
   have hp:0<fz.length:=List.length_pos_iff.mpr g
   rcases B.b with b|b
   ·exact absurd b hw
   ·omega
theorem b5z:bootBuiltins "reversed"=some (.type "reversed"):=by kernel_rfl
def N2(z:aC):Prop:=Nl z.1/\Nl z.2
theorem N2.lay{z:aC}(h:N2 z):(fN z).canLay0=true:=a0n h.1 h.2
theorem bC.upd{p:Addr}{H:Hp}{o:HO}:bC p H (upd H p o):=fun b u n e=>by rw[aH n];exact e
def kS(z:aC):List aA:=[.inr z.1,.inr z.2]
theorem b0L{z u:aC}(h:kS z=kS u):z=u:=by
 obtain⟨a,b⟩:=z
 obtain⟨c,d⟩:=u
 simp only[kS,List.cons.injEq,Sum.inr.injEq,and_true]at h
 rw[h.1,h.2]
def fQ(H:Hp)(v:V)(z:aC):Prop:=∃a,v= .ref a/\H a=some (.tup [.str z.1,.str z.2])
theorem fQ.mapT{H H':Hp}{v:V}{z:aC}(k:∀a xs,H a=some (.tup xs)->H' a=some (.tup xs))(h:fQ H v z):fQ H' v z:=let ⟨a,e,g⟩:=h;⟨a,e,k _ _ g⟩
theorem fQ.same{H H':Hp}{v:V}{z:aC}(s:aE H H')(h:fQ H v z):fQ H' v z:=h.mapT fun a xs e=>s _ _ e
theorem fQ.dt{K:Fg}{H:Hp}{v:V}{z:aC}(h:fQ H v z):Dt K H v (fN z):=by
 obtain⟨a,rfl,g⟩:=h
 exact .tup (cF.of g) (.cons (.str _) (.cons (.str _) .nil))
def cE(H:Hp):List V->List aC->Prop:=Paired (fQ H)
theorem cE.mapT{H H':Hp}(k:∀a xs,H a=some (.tup xs)->H' a=some (.tup xs)):∀{vs:List V} {zs:List aC},cE H vs zs->cE H' vs zs
 |_,_,.nil=> .nil
 |_,_,.cons r t=> .cons (r.mapT k) (cE.mapT k t)
theorem cE.same{H H':Hp}{vs:List V}{zs:List aC}(s:aE H H')(h:cE H vs zs):cE H' vs zs:=h.mapT fun a xs e=>s _ _ e
theorem cE.length{H:Hp}{vs:List V}{zs:List aC}(h:cE H vs zs):vs.length=zs.length:=Paired.length h
theorem cE.at{H:Hp}:∀{vs:List V} {zs:List aC} {i:Nat} {v:V},cE H vs zs->vs[i]?=some v->∃z,zs[i]?=some z/\fQ H v z
 |_,_,_,_,.nil,e=>by simp at e
 |_,_,0,_,.cons r _,e=>by simp at e;subst e;exact⟨_,rfl,r⟩
 |_,_,i+ 1,v,.cons _ t,e=>by
  obtain⟨z,h1,h2⟩:=cE.at (i:=i) (v:=v) t (by simpa using e)
  exact⟨z,by simpa using h1,h2⟩
theorem cE.snoc{H:Hp}{v:V}{z:aC}(h:fQ H v z):∀{vs:List V} {zs:List aC},cE H vs zs->cE H (vs++ [v]) (zs++ [z])
 |_,_,.nil=> .cons h .nil
 |_,_,.cons r t=> .cons r (cE.snoc h t)
theorem cE.rev{H:Hp}:∀{vs:List V} {zs:List aC},cE H vs zs->cE H vs.reverse zs.reverse
 |_,_,.nil=> .nil
 |_,_,.cons r t=>by
  rw[List.reverse_cons,List.reverse_cons]
  exact(cE.rev t).snoc r
theorem cE.dt{K:Fg}{H:Hp}:∀{vs:List V} {zs:List aC},cE H vs zs->cV K H vs (zs.map fN)
 |_,_,.nil=> .nil
 |_,_,.cons r t=> .cons r.dt (cE.dt t)
theorem cE.last{H:Hp}{vs:List V}{zs:List aC}{z:aC}(h:cE H vs (zs++ [z])):∃ws v,vs=ws++ [v] /\fQ H v z:=by
 have hl:=h.length
 rw[List.length_append,List.length_singleton]at hl
 have ne:vs≠ []:=fun e=>by rw[e]at hl;simp at hl
 refine⟨vs.dropLast,vs.getLast ne,(List.dropLast_concat_getLast ne).symm,?_⟩
 have hi:vs[zs.length]?=some (vs.getLast ne):=by
  rw[List.getLast_eq_getElem,List.getElem?_eq_getElem (by omega)]
  congr 2
  omega
 obtain⟨u,h1,h2⟩:=h.at hi
 rw[List.getElem?_append_right (Nat.le_refl _)]at h1
 simp at h1
 rw[h1]
 exact h2
def mG(H:Hp)(cvs:List (List aA×V))(cm:aC->Option aC):Prop:=∀z,(cm z=none/\aM cvs (kS z)=none)\/ ∃u v,cm z=some u/\aM cvs (kS z)=some v/\fQ H v u
theorem mG.mapT{H H':Hp}{cvs:List (List aA×V)}{cm:aC->Option aC}(k:∀a xs,H a=some (.tup xs)->H' a=some (.tup xs))(h:mG H cvs cm):mG H' cvs cm:=fun z=>(h z).imp id fun⟨u,v,e1,e2,e3⟩=>⟨u,v,e1,e2,e3.mapT k⟩
theorem pB{α:Type}{xs:List α}{i:Nat}{x:α}(h:xs[i]?=some x):xs.take (i+ 1)=xs.take i++ [x]:=by
 rw[List.take_add_one,h]
 rfl
section
variable{P:Program}{w:World}{K:Fg}{mg:Str->Option Value}{base:Heap}
def b1y(K:Fg):Sp:=fun vs H Q _=>∃(cd:Addr) (v0 vl:V) (cvs:List (List aA×V)) (cm:aC->Option aC) (s x:aC) (ps:List aC),vs= [.ref cd,v0,vl] /\H cd=some (.dT cvs)/\mG H cvs cm/\fQ H v0 s/\fQ H vl x/\cX cm s x ps/\ps.length<=900/\(∀p∈ps,N2 p)/\
 ∀H' l vs',aE H H'->H l=none->H' l=some (.lst vs')->cE H' vs' ps.reverse->Q (.ref l) H'
theorem b12:bG ["came_from","spot","last","way"] ["came_from","spot","last"] (aI sX):=⟨rfl,rfl,rfl,by decide+kernel,rfl,by decide+kernel,by decide+kernel⟩
theorem rT(T:bE K mg):bJ P w K mg base aF 1 "way_to" ["came_from","spot","last"] (b1y K):=by
 refine T.d_way_to.known b12 (fun _ _ _ _ _ _ us hl=>hV (fun _ _ _=>rfl) us hl) (fun vs H Q E h=> ?_) (fun f cdv A outer s H vs Q E hr h=> ?_)
 ·obtain⟨cd,v0,vl,cvs,cm,z,x,ps,rfl,_⟩:=h
  rfl
 ·obtain⟨cd,v0,vl,cvs,cm,z,x,ps,rfl,hcd,hcm,h0,hx,hB,h900,hN,q⟩:=h
  have hu:=cU hr
  refine⟨_,(aK (bN (i:=3) b12.nd rfl (Or.inl rfl) (eO (aB (pv 2) aG)))
   (aK (a5y PassesOwn.never (dE (rK hr.units) (cT gG (pv 3) (a4f a9b aY) (fun _ _=>rfl)) (pv 1) (dH _)) (aL (bY (iC PySem.F.plainAttrs_list PySem.F.slot_list_append PySem.F.type_list_append gQ (pv 3) (aB (eE hu (pv 0) (cT gG (pv 3) (a4f a9b aY) (fun _ _=>rfl)) (fun _ _=>rfl)) aG)))))
   (aL (bP (b5d rfl (pv 3) rfl T.list gM rfl T.reversed b5z))))),?_⟩
  refine⟨_,rfl,sl,fun wl hwl=> ?_⟩
  have tup0:∀{H2:Hp},bC wl H H2->∀a xs,H a=some (.tup xs)->H2 a=some (.tup xs):=fun{H2} b a xs e=>b _ _ (bA e hwl) e
  have hNz:N2 z:=by
   have:=hB.last
   exact hN z (List.mem_of_getLast? this)
  refine⟨fun m σ H2=>∃(i:Nat) (ws:List V),σ= [some (.ref cd),some v0,some vl,some (.ref wl)] /\m=ps.length- i/\i<ps.length/\bC wl H H2/\H2 wl=some (.lst ws)/\cE H2 ws (ps.take (i+ 1)),⟨ps.length,0,[vl],rfl,by omega,?_,fun b o n e=>by rw[aH n];exact e,aJ,?_⟩,?_⟩
  ·have:=(List.getElem?_eq_some_iff.mp hB.head).1
   exact this
  ·rw[pB hB.head]
   exact .cons (hx.same (aE.new hwl)) .nil
  ·rintro m σ H2 ⟨i,ws,rfl,rfl,hi,b2,hw2,hS⟩
   obtain⟨y,hy⟩:∃y,ps[i]?=some y:=⟨_,List.getElem?_eq_getElem hi⟩
   have hyN:N2 y:=hN y (List.mem_of_getElem? hy)
   have hBi:=hB.drop hy
   rw[pB hy]at hS
   obtain⟨ws',v,rfl,hv⟩:=hS.last
   have h02:=h0.mapT (tup0 b2)
   refine⟨_,rfl,_,rfl,wl,_,_,_,rfl,rfl,aN.of hw2,a97 _ _,_,rfl,_,_,hv.dt,h02.dt,hyN.lay,hNz.lay,(show max 0 (max 0 0)+ 1<=64 by decide),_,rfl,?_⟩
   rw[a16]
   refine eR (fun g=> ?_) (fun g=> ?_)
   ·have g:y≠z:=by simpa using g
    have hlen:(ps.drop i).length=ps.length- i:=List.length_drop
    generalize hD:ps.drop i=pd at hBi hlen
    cases hBi with
    |nil=>exact absurd rfl g
    | @cons _ u ps' _ hu' hb'=>
     have hps':ps.drop (i+ 1)=ps':=by
      have:(ps.drop i).drop 1=ps':=by rw[hD];rfl
      rw[List.drop_drop]at this
      exact this
     have hi1:ps[i+ 1]?=some u:=by
      have:=hb'.head
      rw[<- hps',List.getElem?_drop]at this
      exact this
     obtain⟨av,rfl,hav⟩:=hv
     rcases hcm y with⟨e,_⟩|⟨u',v',e1,e2,e3⟩
     ·rw[e]at hu';cases hu'
     ·rw[e1]at hu'
      cases hu'
      have hl2:ps.take i++ [y]=ps.take (i+ 1):=(pB hy).symm
      have hwl':(ws'++ [V.ref av]).length<=900:=by
       rw[hS.length,hl2,List.length_take]
       omega
      refine⟨fun σ' H'=>∃(j:Nat) (ws:List V),σ'= [some (.ref cd),some v0,some vl,some (.ref wl)] /\j=i+ 1/\j<ps.length/\bC wl H H'/\H' wl=some (.lst ws)/\cE H' ws (ps.take (j+ 1)),fun σ' H' ⟨j,ws,h1,h2,h3,h4,h5,h6⟩=>⟨ps.length- j,by omega,j,ws,h1,rfl,h3,h4,h5,h6⟩,?_⟩
      refine⟨_,rfl,.inl ⟨rfl,_,aN.of hw2⟩,_,rfl,_,rfl,_,rfl,wl,_,_,_,rfl,rfl,aN.of hw2,a97 _ _,cd,v',rfl,e2▸bQ.t (k:=kS y) (b2 _ _ (bA hcd hwl) hcd) hav,wl,_,_,rfl,rfl,hw2,dD (by omega),?_⟩
      have tup2:∀a xs,H2 a=some (.tup xs)->upd H2 wl (.lst (ws'++ [.ref av] ++ [v'])) a=some (.tup xs):=fun a xs e=>by rw[aH (jX e hw2 (fun z=>by cases z))];exact e
      refine⟨i+ 1,_,rfl,rfl,(List.getElem?_eq_some_iff.mp hi1).1,b2.trans bC.upd,aJ,?_⟩
      rw[pB hi1,<- hl2]
      exact(hS.mapT tup2).snoc ((e3.mapT (tup0 b2)).mapT tup2)
   ·have g:y=z:=by
     by_cases e:y=z
     ·exact e
     ·exact absurd (by simp[e]) g
    subst g
    have hi1:i+ 1=ps.length:=by
     have:=cX.uniq hBi .nil
     have hl:(ps.drop i).length=1:=by rw[this];rfl
     rw[List.length_drop]at hl
     omega
    refine⟨_,rfl,wl,_,rfl,aN.of hw2,fun l hl=> ?_⟩
    have s2:=aE.new (o:=.lst (ws'++ [v]).reverse) hl
    refine q _ l _ (fun b o e=>s2 _ _ (b2 _ _ (bA e hwl) e)) ?_ aJ ?_
    ·cases e:H l with
     |none=>rfl
     |some o=>rw[b2 _ _ (fun z=>by rw[z,hw2]at hl;cases hl) e]at hl;cases hl
    ·have e:ps.take i++ [y]=ps:=by rw[<- pB hy,hi1,List.take_length]
     rw[e]at hS
     exact(hS.same s2).rev
end
theorem b7P{n:Nat}(h:n<3000):n<sizeLine:=Nat.lt_trans h (by decide)
def fR(p q:Addr)(H H':Hp):Prop:=∀b o,b≠p->b≠q->H b=some o->H' b=some o
theorem fR.of{p q:Addr}{H H':Hp}(s:aE H H'):fR p q H H':=fun b o _ _ e=>s b o e
theorem fR.trans{p q:Addr}{H H1 H2:Hp}(a:fR p q H H1)(b:fR p q H1 H2):fR p q H H2:=fun c o n m e=>b c o n m (a c o n m e)
theorem fR.u1{p q:Addr}{H:Hp}{o:HO}:fR p q H (upd H p o):=fun b u n _ e=>by rw[aH n];exact e
theorem fR.u2{p q:Addr}{H:Hp}{o:HO}:fR p q H (upd H q o):=fun b u _ n e=>by rw[aH n];exact e
theorem a1W{H H':Hp}{l:Addr}(s:aE H H')(h:H' l=none):H l=none:=by
 cases e:H l with
 |none=>rfl
 |some o=>rw[s l o e]at h;cases h
theorem cX.each{cm:aC->Option aC}{s:aC}:∀{x:aC} {ps:List aC},cX cm s x ps->∀p∈ps,p=s\/ ∃u,cm p=some u
 |_,_,.nil,p,hp=> .inl (List.mem_singleton.mp hp)
 |_,_,.cons h e b,p,hp=>by
  rcases List.mem_cons.mp hp with rfl|hp
  ·exact .inr ⟨_,e⟩
  ·exact b.each p hp
structure pJ(H:Hp)(gd:Addr)(kvs:List (List aA×V))(adj:aC->List aC):Prop where
 d:H gd=some (.dT kvs)
 a:∀z,(aM kvs (kS z)=none/\adj z= [])\/ ∃l vs,aM kvs (kS z)=some (.ref l)/\H l=some (.lst vs)/\cE H vs (adj z)
 n:∀z,∀y∈adj z,N2 y
 l:∀z,(adj z).length<=100
theorem pJ.same{H H':Hp}{gd:Addr}{kvs:List (List aA×V)}{adj:aC->List aC}(s:aE H H')(h:pJ H gd kvs adj):pJ H' gd kvs adj:=
 ⟨s _ _ h.d,fun z=>(h.a z).imp id fun⟨l,vs,e1,e2,e3⟩=>⟨l,vs,e1,s _ _ e2,e3.same s⟩,h.n,h.l⟩
theorem mG.put{H:Hp}{cvs:List (List aA×V)}{cm:aC->Option aC}{y x:aC}{v:V}(h:mG H cvs cm)(hv:fQ H v x):mG H (aS cvs (kS y) v) (gN cm y x):=fun z=>by
 unfold gN
 rw[jV]
 by_cases e:z=y
 ·rw[if_pos e,if_pos (by rw[e])]
  exact .inr ⟨x,v,rfl,rfl,hv⟩
 ·rw[if_neg e,if_neg (fun h=>e (b0L h))]
  exact h z
theorem b1b{κ:Type} [DecidableEq κ](kvs:List (κ×V))(k:κ)(y:V):(aS kvs k y).length<=kvs.length+ 1:=by
 unfold aS
 split
 ·rw[List.length_map];omega
 ·rw[List.length_append];exact Nat.le_refl _
structure oH(H0 H:Hp)(cd fl:Addr)(cvs:List (List aA×V))(cm:aC->Option aC)(nodes:List aC)(fvs:List V)(fz:List aC):Prop where
 s:aE H0 H
 c:H cd=some (.dT cvs)
 o:mG H cvs cm
 l:cvs.length+ iY cm nodes<=nodes.length
 f:H fl=some (.lst fvs)
 z:cE H fvs fz
theorem oH.same{H0 H H':Hp}{cd fl:Addr}{cvs:List (List aA×V)}{cm:aC->Option aC}{nodes:List aC}{fvs:List V}{fz:List aC}(s:aE H H')(h:oH H0 H cd fl cvs cm nodes fvs fz):oH H0 H' cd fl cvs cm nodes fvs fz:=
 ⟨h.s.trans s,s _ _ h.c,h.o.mapT fun a xs e=>s _ _ e,h.l,s _ _ h.f,h.z.same s⟩
section
variable{P:Program}{w:World}{K:Fg}{mg:Str->Option Value}{base:Heap}
def b1B(K:Fg):Sp:=fun vs H Q _=>∃(gd:Addr) (v0:V) (kvs:List (List aA×V)) (adj:aC->List aC) (s:aC) (nodes:List aC),vs= [.ref gd,v0] /\pJ H gd kvs adj/\fQ H v0 s/\N2 s/\(∀z,∀y∈adj z,y∈nodes)/\nodes.length<=100/\
 ∀H',aE H H'->((∀n,¬gX adj s (n+ 1) s)->Q .non H')/\∀l vs' ys,H l=none->H' l=some (.lst vs')->cE H' vs' ys->nB adj s ys->(∀n,n+ 1<ys.length->¬gX adj s (n+ 1) s)->Q (.ref l) H'
theorem nE:bG ["leanings","spot","came_from","waiting","farther","leaning","leant"] ["leanings","spot"] (aI rW):=⟨rfl,rfl,rfl,by decide+kernel,rfl,by decide+kernel,by decide+kernel⟩
theorem wS(T:bE K mg):bJ P w K mg base aF 2 "ring_from" ["leanings","spot"] (b1B K):=by
 have G_way_to:bJ P w K mg base aF 1 "way_to" ["came_from","spot","last"] (b1y K):=rT T
 refine T.d_ring_from.known nE (fun _ _ _ _ _ _ us hl=>eG (fun _ _=>rfl) us hl) (fun vs H Q E h=> ?_) (fun f cdv A outer s H vs Q E hr h=> ?_)
 ·obtain⟨gd,v0,kvs,adj,z,nodes,rfl,_⟩:=h
  rfl
 ·obtain⟨gd,v0,kvs,adj,z,nodes,rfl,hG,h0,hzN,hnodes,h100,q⟩:=h
  have hu:=cU hr
  refine⟨_,(aK (bN (i:=2) nE.nd rfl (Or.inl rfl) rL)
   (aK (bN (i:=3) nE.nd rfl (Or.inl rfl) (eO (aB (pv 1) aG)))
   (aK (a5y PassesOwn.never (a9Y (pv 3) (fun _=>rfl)) (aK (bN (i:=4) nE.nd rfl (Or.inl rfl) (eO aG))
   (aK (iG PassesOwn.never rfl (iS (pv 3)) (eM (i:=5) nE.nd rfl (Or.inl rfl)) (aL (iG PassesOwn.never rfl (iS (b23 hu (pv 0) (pv 5) (eO aG) ⟨rfl,rfl,rfl,rfl⟩)) (eM (i:=6) nE.nd rfl (Or.inl rfl))
   (aK (bM (dE (yK hr.units) (pv 6) (pv 1) (dH _)) (aL (bP (bU G_way_to (hr.mono (by decide)) aR (aB (pv 2) (aB (pv 1) (aB (pv 5) aG)))))) bS)
   (aL (bM (iV (lO hu (pv 6) (pv 2))) (aK (jE hu (pv 2) (pv 6) (pv 5) rfl) (aL (bY (iC PySem.F.plainAttrs_list PySem.F.slot_list_append PySem.F.type_list_append gQ (pv 4) (aB (pv 6) aG))))) bS))))))
   (aL (bN (i:=3) nE.nd rfl (Or.inl rfl) (pv 4))))))
   (aL (bP hW))))),?_⟩
  intro cd hcd
  have s1:=aE.new (o:=.dT []) hcd
  have hc1:=aJ (H:=H) (a:=cd) (o:=.dT [])
  generalize upd H cd (.dT [])=H1 at s1 hc1|-
  refine⟨_,rfl,sl,fun wl hwl=> ?_⟩
  have s2:=aE.new (o:=.lst [v0]) hwl
  let Wf:Nat->St->Hp->Prop:=fun m σ H2=>∃(r:Nat) (cm:aC->Option aC) (wz:List aC) (cvs:List (List aA×V)) (wl:Addr) (wvs:List V) (o4 o5 o6:Option V),σ= [some (.ref gd),some v0,some (.ref cd),some (.ref wl),o4,o5,o6] /\m=2* iY cm nodes+ (if wz= [] then 0 else 1)/\oH H H2 cd wl cvs cm nodes wvs wz/\H wl=none/\kO adj z nodes r cm wz
  refine⟨Wf,⟨_,0,fun _=>none,[z],[],wl,[v0],_,_,_,rfl,rfl,⟨s1.trans s2,s2 _ _ hc1,fun y=> .inl ⟨rfl,rfl⟩,by have:=a3c (fun _=>none) nodes;simpa using this,aJ,.cons (h0.same (s1.trans s2)) .nil⟩,a1W s1 hwl,kO.start⟩,?_⟩
  clear hwl s2 wl
  rintro m σ H2 ⟨r,cm,wz,cvs,wl,wvs,o4,o5,o6,rfl,hm,A2,hwl,B⟩
  refine⟨_,rfl,_,.inl ⟨wvs,aN.of A2.f,rfl⟩,?_⟩
  refine eR (fun g=> ?_) (fun g=> ?_)
  ·have hwz:wz≠ []:=fun e=>by
    have:=A2.z.length
    rw[e]at this
    have:wvs= []:=List.length_eq_zero_iff.mp this
    rw[this]at g
    cases g
   refine⟨fun σ' H'=>∃m',m'<m/\Wf m' σ' H',fun σ' H' h=>h,?_⟩
   refine⟨sl,fun fl hfl=> ?_⟩
   have s3:=aE.new (o:=.lst []) hfl
   have A3:oH H (upd H2 fl (.lst [])) cd fl cvs cm nodes [] []:=⟨A2.s.trans s3,s3 _ _ A2.c,A2.o.mapT fun a xs e=>s3 _ _ e,A2.l,aJ,.nil⟩
   have hw3:=s3 _ _ A2.f
   have hwz3:=A2.z.same s3
   have ncf:cd≠fl:=bA A2.c hfl
   have nwf:wl≠fl:=bA A2.f hfl
   have nwc:wl≠cd:=jX A2.f A2.c (fun z=>by cases z)
   have hfl0:H fl=none:=a1W A2.s hfl
   generalize upd H2 fl (.lst [])=H3 at A3 hw3 hwz3|-
   refine⟨_,rfl,wl,rfl,⟨_,aN.of hw3⟩,?_⟩
   refine kK (K:=K) (a:=wl) (xs:=wvs) (fun i σ H4=>∃(cm':aC->Option aC) (fz:List aC) (cvs':List (List aA×V)) (fvs:List V) (o5 o6:Option V),σ= [some (.ref gd),some v0,some (.ref cd),some (.ref wl),some (.ref fl),o5,o6] /\fR cd fl H3 H4/\oH H H4 cd fl cvs' cm' nodes fvs fz/\iZ adj z nodes r cm wz i cm' fz)
    ⟨cm,[],cvs,[],_,_,rfl,fR.of (aE.refl _),A3,iZ.start B⟩ (by rintro i σ H4 _ ⟨_,_,_,_,_,_,_,b4,_⟩;exact aN.of (b4 _ _ nwc nwf hw3)) ?_ ?_
   ·rintro i x σ H4 hx ⟨cm',fz,cvs',fvs,o5,o6,rfl,b4,A4,M4⟩
    obtain⟨xz,hxz,hxs⟩:=hwz3.at hx
    have tup34:∀a xs,H3 a=some (.tup xs)->H4 a=some (.tup xs):=fun a xs e=>b4 _ _ (jX e A3.c (fun z=>by cases z)) (jX e A3.f (fun z=>by cases z)) e
    have hx4:=hxs.mapT tup34
    have hG4:=hG.same A4.s
    obtain⟨ax,rfl,hax⟩:=hx4
    refine⟨_,rfl,gd,rfl,.inr ⟨kvs,.inl hG4.d⟩,_,rfl,sl,fun dl hdl=> ?_⟩
    have s5:=aE.new (o:=.lst []) hdl
    have hdl5:=aJ (H:=H4) (a:=dl) (o:=.lst [])
    have A5:=A4.same s5
    have b5:fR cd fl H3 (upd H4 dl (.lst [])):=b4.trans (fR.of s5)
    have ndc:dl≠cd:=fun e=>by rw[e,A4.c]at hdl;cases hdl
    have ndf:dl≠fl:=fun e=>by rw[e,A4.f]at hdl;cases hdl
    have hG5:=hG4.same s5
    have hax5:=s5 _ _ hax
    generalize upd H4 dl (.lst [])=H5 at s5 hdl5 A5 b5 hG5 hax5|-
    obtain⟨la,avs,hget,hla,hSa,nlc,nlf⟩:∃(la:Addr) (avs:List V),(aM kvs (kS xz)).getD (.ref dl)= .ref la/\H5 la=some (.lst avs)/\cE H5 avs (adj xz)/\la≠cd/\la≠fl:=by
     rcases hG.a xz with⟨e1,e2⟩|⟨l,vs,e1,e2,e3⟩
     ·exact⟨dl,[],by rw[e1];rfl,hdl5,by rw[e2];exact .nil,ndc,ndf⟩
     ·have hs:=A5.s
      exact⟨l,vs,by rw[e1];rfl,hs _ _ e2,e3.same hs,bA e2 hcd,bA e2 hfl0⟩
    refine⟨_,bQ.t (k:=kS xz) hG5.d hax5,?_⟩
    refine⟨la,hget,⟨_,aN.of hla⟩,?_⟩
    have hxw:xz∈wz:=List.mem_of_getElem? hxz
    refine kK (K:=K) (a:=la) (xs:=avs) (fun j σ H6=>∃(cm':aC->Option aC) (fz:List aC) (cvs':List (List aA×V)) (fvs:List V) (o6:Option V),σ= [some (.ref gd),some v0,some (.ref cd),some (.ref wl),some (.ref fl),some (.ref ax),o6] /\fR cd fl H5 H6/\oH H H6 cd fl cvs' cm' nodes fvs fz/\iZ adj z nodes r cm wz i cm' fz/\∀y∈(adj xz).take j,y≠z/\(cm' y).isSome)
     ⟨cm',fz,cvs',fvs,_,rfl,fR.of (aE.refl _),A5,M4,fun y hy=>by simp at hy⟩ (by rintro j σ H6 _ ⟨_,_,_,_,_,_,b6,_⟩;exact aN.of (b6 _ _ nlc nlf hla)) ?_ ?_
    ·have hc5:=A5.c
     have hf5:=A5.f
     clear A4 M4 A5
     rintro j y σ H6 hy ⟨cm',fz,cvs',fvs,o6,rfl,b6,A6,M6,D6⟩
     obtain⟨yz,hyz,hys⟩:=hSa.at hy
     have tup56:∀a xs,H5 a=some (.tup xs)->H6 a=some (.tup xs):=fun a xs e=>b6 _ _ (jX e hc5 (fun z=>by cases z)) (jX e hf5 (fun z=>by cases z)) e
     have hy6:=hys.mapT tup56
     have hx6:=tup56 _ _ hax5
     have h06:=h0.same A6.s
     have hya:yz∈adj xz:=List.mem_of_getElem? hyz
     have hyN:=hG.n xz yz hya
     refine⟨_,rfl,_,rfl,_,_,hy6.dt,h06.dt,hyN.lay,hzN.lay,(show max 0 (max 0 0)+ 1<=64 by decide),_,rfl,?_⟩
     rw[a16]
     refine eR (fun g1=> ?_) (fun g1=> ?_)
     ·have g1:yz=z:=by simpa using g1
      subst g1
      obtain⟨ps,hB,hl⟩:=B.d xz hxw
      have hB':=hB.ext M6.e
      have hbl:r<=100:=by
       rcases B.b with b|b
       ·exact absurd b hwz
       ·omega
      refine⟨_,rfl,_,rfl,_,rfl,cd,v0,.ref ax,cvs',cm',yz,xz,ps,rfl,A6.c,A6.o,h06,⟨ax,rfl,hx6⟩,hB',by omega,fun p hp=> ?_,fun H' l vs' s7 hl' hl7 hS=> ?_⟩
      ·rcases hB'.each p hp with e|⟨u,e⟩
       ·rw[e];exact hzN
       ·exact hG.n u p (M6.c p u e).1
      ·exact(q H' (A6.s.trans s7)).2 l vs' ps.reverse (a1W A6.s hl') hl7 hS (hB'.ring (fun z u h=>(M6.c z u h).1) hya) fun n hn=>B.n n (by rw[List.length_reverse]at hn;omega)
     ·have g1:yz≠z:=by simpa using g1
      obtain⟨ay,rfl,hay⟩:=hy6
      refine⟨_,rfl,_,rfl,cd,_,rfl,bQ.t (k:=kS yz) A6.c hay,_,rfl,?_⟩
      have tk:(adj xz).take (j+ 1)=(adj xz).take j++ [yz]:=pB hyz
      rcases A6.o yz with⟨c1,c2⟩|⟨u,v,c1,c2,c3⟩
      ·rw[c2]
       refine dM ?_
       have hl6:=A6.l
       have hMl:=M6.l
       have hll:=a3c cm nodes
       refine⟨_,rfl,_,rfl,_,rfl,cd,_,rfl,gY.t (k:=kS yz) A6.c hay (b7P (by omega)),?_⟩
       have s7:aE H (upd H6 cd (.dT (aS cvs' (kS yz) (.ref ax)))):=A6.s.on hcd
       have hf7:upd H6 cd (.dT (aS cvs' (kS yz) (.ref ax))) fl=some (.lst fvs):=by rw[aH ncf.symm];exact A6.f
       have tup67:∀a xs,H6 a=some (.tup xs)->upd H6 cd (.dT (aS cvs' (kS yz) (.ref ax))) a=some (.tup xs):=fun a xs e=>by rw[aH (jX e A6.c (fun z=>by cases z))];exact e
       have hc7:=aJ (H:=H6) (a:=cd) (o:=.dT (aS cvs' (kS yz) (.ref ax)))
       have b7:fR cd fl H5 (upd H6 cd (.dT (aS cvs' (kS yz) (.ref ax)))):=b6.trans fR.u1
       generalize upd H6 cd (.dT (aS cvs' (kS yz) (.ref ax)))=H7 at s7 hf7 tup67 hc7 b7|-
       have hfz:fvs.length<=100:=by rw[A6.z.length];omega
       refine⟨_,rfl,.inl ⟨rfl,_,aN.of hf7⟩,_,rfl,fl,_,_,rfl,rfl,hf7,dD (by omega),?_⟩
       have tup78:∀a xs,H7 a=some (.tup xs)->upd H7 fl (.lst (fvs++ [.ref ay])) a=some (.tup xs):=fun a xs e=>by rw[aH (jX e hf7 (fun z=>by cases z))];exact e
       have tup68:=fun a xs e=>tup78 a xs (tup67 a xs e)
       have M8:=M6.put B hxw hya g1 c1 (hnodes xz yz hya)
       refine⟨gN cm' yz xz,fz++ [yz],aS cvs' (kS yz) (.ref ax),fvs++ [.ref ay],_,rfl,b7.trans fR.u2,⟨s7.on hfl0,by rw[aH ncf];exact hc7,(A6.o.mapT tup68).put ⟨ax,rfl,tup68 _ _ hx6⟩,?_,aJ,(A6.z.mapT tup68).snoc ⟨ay,rfl,tup68 _ _ hay⟩⟩,M8,fun y' hy'=> ?_⟩
       ·have h1:=b1b cvs' (kS yz) (.ref ax)
        have h2:=a05 (cm:=cm') (cm':=gN cm' yz xz) (y:=yz) (fun x h=>by unfold gN;split<;>simp_all) c1 (by unfold gN;rw[if_pos rfl];rfl) (hnodes xz yz hya)
        omega
       ·rw[tk]at hy'
        rcases List.mem_append.mp hy' with h|h
        ·obtain⟨d1,d2⟩:=D6 y' h
         exact⟨d1,by unfold gN;split<;>simp_all⟩
        ·rw[List.mem_singleton.mp h]
         exact⟨g1,by unfold gN;rw[if_pos rfl];rfl⟩
      ·rw[c2]
       refine bL ?_
       refine⟨cm',fz,cvs',fvs,_,rfl,b6,A6,M6,fun y' hy'=> ?_⟩
       rw[tk]at hy'
       rcases List.mem_append.mp hy' with h|h
       ·exact D6 y' h
       ·rw[List.mem_singleton.mp h]
        exact⟨g1,by rw[c1];rfl⟩
    ·rintro σ H6 ⟨cm',fz,cvs',fvs,o6,rfl,b6,A6,M6,D6⟩
     refine⟨cm',fz,cvs',fvs,_,_,rfl,b5.trans b6,A6,M6.next hxz fun y hy=>D6 y ?_⟩
     rw[hSa.length,List.take_length]
     exact hy
   ·rintro σ H4 ⟨cm',fz,cvs',fvs,o5,o6,rfl,b4,A4,M4⟩
    rw[hwz3.length]at M4
    have B':=M4.over B hwz
    have hMl:=M4.l
    refine⟨_,rfl,_,?_,r+ 1,cm',fz,cvs',fl,fvs,_,_,_,rfl,rfl,A4,hfl0,B'⟩
    rw[hm,if_neg hwz]
    by_cases e:fz= []
    ·rw[if_pos e]
     omega
    ·rw[if_neg e]
     have:0<fz.length:=List.length_pos_iff.mpr e
     omega
  ·have hwz:wz= []:=by
    have:=A2.z.length
    cases wvs with
    |nil=>exact List.length_eq_zero_iff.mp this.symm
    |cons=>exact absurd rfl g
   subst hwz
   exact(q H2 A2.s).1 B.over
def b2d(K:Fg):Sp:=fun vs H Q _=>∃(p C dx:Addr) (fs:List (Str×V)) (v:V),vs= [.ref p,v] /\H p=some (.ins C dx fs)/\dJ K C/\cH K C "function" /\fs.length<1000/\Q .non (upd H p (.ins C dx (aO "function" v fs)))
theorem b3Y:bG ["self","function"] ["self","function"] (aI xJ):=⟨rfl,rfl,rfl,by decide+kernel,rfl,by decide+kernel,by decide+kernel⟩
theorem xE(T:bE K mg){C:Addr}(Y:tD K mg C):aT P w K mg base aF 1 C "__init__" ["self","function"] (b2d K):=by
 refine Y.m_init.known b3Y (fun _ _ _ _ _ _ us hl=>eG (fun _ _=>rfl) us hl) (fun vs H Q E h=> ?_) (fun f cdv A outer s H vs Q E hr h=> ?_)
 ·obtain⟨p,C',dx,fs,v,rfl,_⟩:=h
  rfl
 ·obtain⟨p,C',dx,fs,v,rfl,hp,hC,hN,hl,q⟩:=h
  refine⟨_,(aL (dF (pv 0) (pv 1) rfl)),?_⟩
  exact⟨_,rfl,_,rfl,p,C',dx,fs,rfl,hp,hC,hN,hl,q⟩
def fM(nl fa:Addr):List (Str×V):=[("function",V.ref fa),("names",V.ref nl)]
theorem nC(nl fa:Addr):(fM nl fa).lookup ("function":Str)=some (.ref fa)/\(fM nl fa).lookup ("names":Str)=some (.ref nl)/\(fM nl fa).lookup ("leans":Str)=none/\(fM nl fa).lookup ("gather":Str)=none/\(fM nl fa).lookup ("reckon":Str)=none:=⟨rfl,rfl,rfl,rfl,rfl⟩
def b1g(K:Fg)(C:Addr):Sp:=fun vs H Q _=>∃(p dx a fa:Addr) (zs:List Str),vs= [.ref p,.ref a,.ref fa] /\H p=some (.ins C dx [])/\aN K H a (zs.map V.str)/\a≠p/\zs.length<=6/\(∀z∈zs,Nl z)/\∀H' nl,bC p H H'->H nl=none->H' p=some (.ins C dx (fM nl fa))->H' nl=some (.lst (zs.map V.str))->Q .non H'
theorem b5N:bG ["self","names","function"] ["self","names","function"] (aI tM):=⟨rfl,rfl,rfl,by decide+kernel,rfl,by decide+kernel,by decide+kernel⟩
theorem uE(T:bE K mg){R C:Addr}(Z:tD K mg R)(Y:jC K mg C):eU P w K mg base aF 4 C ["self","names","function"] (b1g K C):=by
 have G_init:aT P w K mg base aF 1 R "__init__" ["self","function"] (b2d K):=xE T Z
 have G_names:bJ P w K mg base aF 3 "checked_names" ["names"] (a9K K):=sF T
 refine(Y.m_init.known b5N (fun _ _ _ _ _ _ us hl=>hV (fun _ _ _=>rfl) us hl) (fun vs H Q E h=> ?_) (fun f cdv A outer s H vs Q E hr h=> ?_)).init Y.mks Y.kc
 ·obtain⟨p,dx,a,fa,zs,rfl,_⟩:=h
  rfl
 ·obtain⟨p,dx,a,fa,zs,rfl,hp,hS,nap,z6,hz,q⟩:=h
  refine⟨_,(aK (bY (b24 (a9M Z.c) Z.v_init G_init (hr.mono (by decide)) aR (aB (pv 0) (aB (pv 2) aG))))
   (aL (dF (pv 0) (bU G_names hr aR (aB (pv 1) aG)) rfl))),?_⟩
  refine⟨_,rfl,_,rfl,p,C,dx,[],.ref fa,rfl,hp,Y.cl,Y.n_function,by decide,?_⟩
  have b1:bC p H (upd H p (.ins C dx (aO "function" (.ref fa) []))):=bC.upd
  have p1:upd H p (.ins C dx (aO "function" (.ref fa) [])) p=some (.ins C dx (aO "function" (.ref fa) [])):=aJ
  have n1:∀{b:Addr},upd H p (.ins C dx (aO "function" (.ref fa) [])) b=none->H b=none/\b≠p:=iB
  generalize upd H p (.ins C dx (aO "function" (.ref fa) []))=H1 at b1 p1 n1|-
  have hS1:aN K H1 a (zs.map V.str):=by
   rcases hS with(h|⟨o,h⟩)|h
   ·exact .inl (.inl (b1 _ _ nap h))
   ·exact .inl (.inr ⟨o,b1 _ _ nap h⟩)
   ·exact .inr h
  refine⟨_,rfl,a,zs,rfl,hS1,z6,hz,fun H2 nl s2 hnl h2=> ?_⟩
  obtain⟨hn0,nnp⟩:=n1 hnl
  refine⟨_,rfl,p,C,dx,_,rfl,s2 _ _ p1,Y.cl,Y.n_names,(by show 1<1000;decide),?_⟩
  exact q _ nl ((b1.trans (bC.of s2)).trans bC.upd) hn0 aJ (by rw[aH nnp];exact h2)
def a9l:Sp:=fun vs H Q _=>∃(a:Addr) (xs:List V) (zs:List aC),vs= [.ref a] /\H a=some (.lst xs)/\cE H xs zs/\(∀z∈zs,N2 z)/\zs.length<=100/\
 ∀H' l ys,aE H H'->H l=none->H' l=some (.lst ys)->cE H' ys (dR zs)->Q (.ref l) H'
theorem b5j(T:bE K mg):bJ P w K mg base aF 2 "each_once" ["spots"] a9l:=by
 refine T.d_each_once.known oY (fun _ _ _ _ _ _ us hl=>fK (fun _=>rfl) us hl) (fun vs H Q E h=> ?_) (fun f cdv A outer s H vs Q E hr h=> ?_)
 ·obtain⟨a,xs,ps,rfl,_⟩:=h
  rfl
 ·obtain⟨a,xs,ps,rfl,ha,hsp,hN,h100,q⟩:=h
  refine⟨_,(aK (bN (i:=1) oY.nd rfl (Or.inl rfl) (eO aG))
   (aK (iG PassesOwn.never rfl (iS (pv 0)) (eM (i:=2) oY.nd rfl (Or.inl rfl)) (aL (bM (dE (b1w hr.units) (pv 2) (pv 1) (by with_unfolding_all rfl)) (aL (bY (iC PySem.F.plainAttrs_list PySem.F.slot_list_append PySem.F.type_list_append gQ (pv 1) (aB (pv 2) aG)))) bS)))
   (aL (bP (pv 1))))),?_⟩
  have hq:aN K H a xs:=aN.of ha
  have hlx:xs.length=ps.length:=hsp.length
  refine⟨sl,fun l hl=> ?_⟩
  refine⟨_,rfl,a,rfl,⟨_,(aE.new hl).seq hq⟩,?_⟩
  refine kK (K:=K) (a:=a) (xs:=xs) (fun i σ H2=>∃o ys,σ= [some (.ref a),some (.ref l),o] /\aE H H2/\H2 l=some (.lst ys)/\cE H ys (dR (ps.take i))) ⟨_,[],rfl,aE.new hl,aJ,.nil⟩ (fun i σ H2 _ ⟨_,_,_,s2,_⟩=>s2.seq hq) ?_ ?_
  ·rintro i x σ H2 hx ⟨o,ys,rfl,s2,h2,hd⟩
   obtain⟨p,e,hp2⟩:=hsp.at hx
   have hp:=List.mem_of_getElem? e
   have hle:=hd.length
   have hyl:ys.length<=100:=by
    have h3:=a4x (ps.take i)
    rw[List.length_take]at h3
    omega
   have lay2:(PyData.list ((dR (ps.take i)).map fN)).canLay0=true:=a4l fun p' hp'=>hN p' (List.mem_of_mem_take (yB hp'))
   have et:dR (ps.take (i+ 1))=if p∈dR (ps.take i) then dR (ps.take i) else dR (ps.take i)++ [p]:=by
    rw[List.take_add_one,e]
    exact b1a _ _
   refine⟨_,rfl,_,rfl,fN p,_,(fQ.dt hp2).same s2,Dt.lst (aN.of h2) (cV.same s2 (cE.dt hd)),a0n (hN p hp).1 (hN p hp).2,lay2,(show max 0 (max 0 0)+ 1<=62 by decide),_,rfl,?_⟩
   rw[a7e]
   by_cases hm:p∈dR (ps.take i)
   ·rw[decide_eq_true hm]
    rw[if_pos hm]at et
    exact bL ⟨_,ys,rfl,s2,h2,by rw[et];exact hd⟩
   ·rw[decide_eq_false hm]
    rw[if_neg hm]at et
    refine dM ?_
    refine⟨_,rfl,.inl ⟨rfl,_,aN.of h2⟩,_,rfl,l,_,_,rfl,rfl,h2,dD (by omega),?_⟩
    have s3:aE H (upd H2 l (.lst (ys++ [x]))):=s2.on hl
    refine⟨_,ys++ [x],rfl,s3,aJ,?_⟩
    rw[et]
    exact hd.snoc hp2
  ·rintro σ H2 ⟨o,ys,rfl,s2,h2,hd⟩
   refine⟨_,rfl,q H2 l ys s2 hl h2 ?_⟩
   rw[hlx,List.take_length]at hd
   exact hd.same s2
def zQ(C:Addr):Sp:=fun vs H Q _=>∃(p dx nl fa:Addr) (t:Str) (zs:List Str),vs= [.ref p,.str t] /\H p=some (.ins C dx (fM nl fa))/\H nl=some (.lst (zs.map V.str))/\zs.length<=6/\(∀z∈zs,Nl z)/\Nl t/\
 ∀H' l ys,aE H H'->H l=none->H' l=some (.lst ys)->cE H' ys (dR (zs.map fun z=>(t,z)))->Q (.ref l) H'
theorem b7R:bG ["self","table"] ["self","table"] (aI mQ):=⟨rfl,rfl,rfl,by decide+kernel,rfl,by decide+kernel,by decide+kernel⟩
theorem wW(T:bE K mg){C:Addr}(Y:jC K mg C):aT P w K mg base aF 3 C "leans" ["self","table"] (zQ C):=by
 have G_each_once:bJ P w K mg base aF 2 "each_once" ["spots"] a9l:=b5j T
 refine Y.m_leans.known b7R (fun _ _ _ _ _ _ us hl=>eG (fun _ _=>rfl) us hl) (fun vs H Q E h=> ?_) (fun f cdv A outer s H vs Q E hr h=> ?_)
 ·obtain⟨p,dx,nl,fa,t,zs,rfl,_⟩:=h
  rfl
 ·obtain⟨p,dx,nl,fa,t,zs,rfl,h1,h4,h6,h5,ht,q⟩:=h
  have hcl:∀x,(eY aF P w K mg base ["self","table"] "Cells.leans" (aI mQ) f cdv A outer s H E).nox.env.scope.names.lookup x=some .cell->∃c,(eY aF P w K mg base ["self","table"] "Cells.leans" (aI mQ) f cdv A outer s H E).nox.env.cells.lookup x=some c:=fun x hx=>Option.isSome_iff_exists.mp (PySem.W.cellsFrom_some _ _ _ (.inl hx))
  refine⟨_,(aL (bP (bU G_each_once (hr.mono (by decide)) aR (aB (vA (qH (sc:=aI mQ) (N:=["self","table"]) (cp:=[(1,"table")]) hcl) rfl rfl (by decide) (iS (aX (pv 0) rfl)) (fun _ _ _ _ _=>pK) (fun _ _ _ _ _=>(gO (aB (pv 1) (aB (pv 0) aG))))) aG)))),?_⟩
  refine⟨_,rfl,p,C,dx,_,_,rfl,h1,Y.cl,Y.n_names,(nC nl fa).2.1,nl,rfl,⟨_,aN.of h4⟩,fun D hD=> ?_⟩
  refine a6q (K:=K) (a:=nl) (xs:=zs.map V.str) (fun i ys H2=>aE H H2/\cE H2 ys ((zs.take i).map fun z=>(t,z))) ⟨aE.new hD,.nil⟩ (by rintro i ys H2 _ ⟨s2,_⟩;exact aN.of (s2 _ _ h4)) ?_ ?_
  ·rintro i x ys H2 hx h2D ⟨s2,hd⟩
   rw[List.getElem?_map]at hx
   cases e:zs[i]? with
   |none=>rw[e]at hx;cases hx
   |some z=>
    rw[e]at hx
    cases hx
    have hi:i<zs.length:=(List.getElem?_eq_some_iff.mp e).1
    have hyl:ys.length<=6:=by
     have:=hd.length
     rw[List.length_map,List.length_take]at this
     omega
    refine⟨_,rfl,_,rfl,sl,fun tp htp=> ?_⟩
    have s3:aE H2 (upd H2 tp (.tup [.str t,.str z])):=aE.new htp
    have t3:upd H2 tp (.tup [.str t,.str z]) tp=some (.tup [.str t,.str z]):=aJ
    generalize upd H2 tp (.tup [.str t,.str z])=H3 at s3 t3|-
    have h3D:=s3 _ _ h2D
    refine⟨h3D,dD (by omega),(s2.trans s3).on hD,?_⟩
    have kt:∀a xs,H3 a=some (.tup xs)->upd H3 D (.lst (ys++ [.ref tp])) a=some (.tup xs):=fun a xs e=>by
     rw[aH (fun y=>by rw[y,h3D]at e;cases e)]
     exact e
    have et:((zs.take (i+ 1)).map fun z=>(t,z))=((zs.take i).map fun z=>(t,z))++ [(t,z)]:=by
     rw[List.take_add_one,e,List.map_append]
     rfl
    rw[et]
    exact((hd.same s3).mapT kt).snoc ⟨tp,rfl,kt _ _ t3⟩
  ·rintro ys H2 h2D ⟨s2,hd⟩
   rw[List.length_map,List.take_length]at hd
   refine⟨D,ys,_,rfl,h2D,hd,fun z hz=> ?_,by rw[List.length_map];omega,fun H4 l' ys' s4 hl' h4' hs=> ?_⟩
   ·obtain⟨y,hy,rfl⟩:=List.mem_map.mp hz
    exact⟨ht,h5 y hy⟩
   ·exact q H4 l' ys' (s2.trans s4) (fB s2 hl') h4' hs
def lY(K:Fg)(gv:Str->Str->Option (List V))(nm:Str)(p:Nat)(H:Hp)(z:Str)(d:PyData):Prop:=∃ys v,gv nm z=some ys/\p<ys.length/\cG ys (p:Int)=some v/\Pv K H v d
theorem lY.keep{gv:Str->Str->Option (List V)}{nm:Str}{p:Nat}{H H':Hp}{z:Str}{d:PyData}(k:cJ H H')(h:lY K gv nm p H z d):lY K gv nm p H' z d:=by
 obtain⟨ys,v,a,b,c,e⟩:=h
 exact⟨ys,v,a,b,c,e.keep k⟩
theorem Paired.imp{α β:Type}{R R':α->β->Prop}(h:∀a b,R a b->R' a b):∀{xs:List α} {ys:List β},Paired R xs ys->Paired R' xs ys
 |_,_,.nil=> .nil
 |_,_,.cons a t=> .cons (h _ _ a) (Paired.imp h t)
theorem Paired.snoc{α β:Type}{R:α->β->Prop}{x:α}{y:β}(h:R x y):∀{xs:List α} {ys:List β},Paired R xs ys->Paired R (xs++ [x]) (ys++ [y])
 |_,_,.nil=> .cons h .nil
 |_,_,.cons a t=> .cons a (Paired.snoc h t)
def spCG(P:Program)(w:World)(K:Fg)(mg:Str->Option Value)(base:Heap)(C:Addr):Sp:=fun vs H Q _=>∃(gr look many nl fa x y dx:Addr) (nm c:Str) (p:Nat) (zs:List Str) (J:Hp->Prop) (W:List Addr) (gv:Str->Str->Option (List V)) (ds:List PyData),vs= [.ref gr,.ref look,.ref many,.str nm,.str c,.int (p:Int)] /\H gr=some (.ins C dx (fM nl fa))/\H nl=some (.lst (zs.map V.str))/\zs.length<=6/\eQ P w K mg base 6 look (rN J x y gv)/\J H/\iM J W x y/\Paired (lY K gv nm p H) zs ds/\
 ∀H' fv,eZ x y H H'->J H'->qY K H H' fv (fY ds [])->Q fv H'
abbrev vK:List Str:=["self","look","many","table","column","place"]
theorem b4T:bG vK vK (aI mM):=⟨rfl,rfl,rfl,by decide+kernel,rfl,by decide+kernel,by decide+kernel⟩
theorem b3J{H H0 H':Hp}{fv:V}(s:aE H H0):∀{t:PyData ⊕ List Int},qY K H0 H' fv t->qY K H H' fv t
 | .inl d,h=>h
 | .inr is,⟨ta,l,a,b,c,d⟩=>⟨ta,l,a,b,c,fB s d⟩
theorem uL(T:bE K mg){C:Addr}(Y:jC K mg C):aT P w K mg base aF 8 C "gather" ["self","look","many","table","column","place"] (spCG P w K mg base C):=by
 have G_turn:bJ P w K mg base aF 7 "look_in_turn" ["look","cells"] (a96 P w K mg base 6):=uW T (by decide)
 refine Y.m_gather.known b4T (fun _ _ _ _ _ _ us hl=>bi6 (fun _ _ _ _ _ _=>rfl) us hl) (fun vs H Q E h=> ?_) (fun f cdv A outer s H vs Q E hr h=> ?_)
 ·obtain⟨gr,look,many,nl,fa,x,y,dx,nm,c,p,zs,J,W,gv,ds,rfl,_⟩:=h
  rfl
 ·obtain⟨gr,look,many,nl,fa,x,y,dx,nm,c,p,zs,J,W,gv,ds,rfl,h1,h4,z6,F1,hJ,S,hr0,q⟩:=h
  have hcl:∀x,(eY aF P w K mg base vK "Cells.gather" (aI mM) f cdv A outer s H E).nox.env.scope.names.lookup x=some .cell->∃c,(eY aF P w K mg base vK "Cells.gather" (aI mM) f cdv A outer s H E).nox.env.cells.lookup x=some c:=fun x hx=>Option.isSome_iff_exists.mp (PySem.W.cellsFrom_some _ _ _ (.inl hx))
  refine⟨_,(aL (bP (bU G_turn hr aR (aB (pv 1) (aB (vA (qH (sc:=aI mM) (N:=vK) (cp:=[(3,"table"),(5,"place")]) hcl) rfl rfl (by decide) (iS (aX (pv 0) rfl)) (fun _ _ _ _ _=>pK) (fun _ _ _ _ _=>(gO (aB (pv 1) (aB (pv 0) (aB (pv 2) aG)))))) aG))))),?_⟩
  refine⟨_,rfl,_,rfl,gr,C,dx,_,_,rfl,h1,Y.cl,Y.n_names,(nC nl fa).2.1,nl,rfl,⟨_,aN.of h4⟩,fun D hD=> ?_⟩
  have lzd:zs.length=ds.length:=Paired.length hr0
  refine a6q (K:=K) (a:=nl) (xs:=zs.map V.str) (fun i ys H2=>aE H H2/\Paired (tI K gv H2) ys (ds.take i)) ⟨aE.new hD,.nil⟩ (by rintro i ys H2 _ ⟨s2,_⟩;exact aN.of (s2 _ _ h4)) ?_ ?_
  ·rintro i xv ys H2 hx h2D ⟨s2,hd⟩
   rw[List.getElem?_map]at hx
   cases e:zs[i]? with
   |none=>rw[e]at hx;cases hx
   |some z=>
    rw[e]at hx
    cases hx
    have hi:i<zs.length:=(List.getElem?_eq_some_iff.mp e).1
    obtain⟨d,hdi,hrow⟩:=yG hr0 e
    have hyl:ys.length<=6:=by
     have:=Paired.length hd
     rw[List.length_take]at this
     omega
    refine⟨_,rfl,_,rfl,_,rfl,sl,fun tp htp=> ?_⟩
    have s3:aE H2 (upd H2 tp (.tup [.str nm,.str z,.int (p:Int)])):=aE.new htp
    have t3:upd H2 tp (.tup [.str nm,.str z,.int (p:Int)]) tp=some (.tup [.str nm,.str z,.int (p:Int)]):=aJ
    generalize upd H2 tp (.tup [.str nm,.str z,.int (p:Int)])=H3 at s3 t3|-
    have h3D:=s3 _ _ h2D
    refine⟨h3D,dD (by omega),(s2.trans s3).on hD,?_⟩
    have kt:cJ H3 (upd H3 D (.lst (ys++ [.ref tp]))):=fun a xs e=>by
     rw[aH (fun y=>by rw[y,h3D]at e;cases e)]
     exact e
    have kt2:cJ H2 (upd H3 D (.lst (ys++ [.ref tp]))):=fun a xs e=>kt _ _ (s3 _ _ e)
    rw[List.take_add_one,hdi]
    obtain⟨ys',v,g1,g2,g3,g4⟩:=hrow.keep (fun a xs e=>kt2 _ _ (s2 _ _ e))
    exact Paired.snoc ⟨tp,nm,z,p,ys',v,rfl,kt _ _ t3,g1,g2,g3,g4⟩ (Paired.imp (fun a b h=>h.keep kt2) hd)
  ·rintro ys H2 h2D ⟨s2,hd⟩
   rw[List.length_map,lzd,List.take_length]at hd
   exact⟨look,D,x,y,J,W,gv,ys,ds,rfl,F1,S.same s2 hJ,S,h2D,hd,by omega,fun H' fv f' J' t=>q H' fv (fun b o n1 n2 e=>f' _ _ n1 n2 (s2 _ _ e)) J' (b3J s2 t)⟩
theorem b6n{C:Addr}{gr nl fa dx:Addr}{tabs:List (Str×BM)}{gv:Str->Str->Option (List V)}{fd tl:Addr}{nm c:Str}{p:Nat}{zs:List Str}{ds:List PyData}{H:Hp}(h1:H gr=some (.ins C dx (fM nl fa)))(h2:H nl=some (.lst (zs.map V.str)))(z6:zs.length<=6)(hd:Paired (lY K gv nm p H) zs ds):GatU P w K mg base (spCG P w K mg base C) gr tabs gv fd tl nm c p (fY ds []) H:=
 fun look many J W HB Q' kx hJ S L1 L2 q=>⟨gr,look,many,nl,fa,fd,tl,dx,nm,c,p,zs,J,W,gv,ds,rfl,kx _ _ (fun _ y=>by cases y) h1,kx _ _ (fun _ y=>by cases y) h2,z6,L1,hJ,S,Paired.imp (fun a b h=>h.keep fun x xs e=>kx _ _ (fun _ y=>by cases y) e) hd,q⟩
def b1d(CS CB CT:Addr):Sp:=fun vs H Q _=>∃(s bd ch fi dx l:Addr) (sv:V) (kb:List (aA×V)) (ys:List V) (zs:List aC),vs= [.ref s,sv,.ref l] /\H s=some (.ins CS dx (dG bd ch fi))/\H bd=some (.dK kb)/\H l=some (.lst ys)/\cE H ys zs/\(∀z∈zs,N2 z/\∃B:BM,aM kb (.inr z.1:aA)=some (.ref B.b)/\cD CB CT H B/\z.2∈B.ord)/\∀H',aE H H'->Q .non H'
theorem zT:bG ["self","spot","leans","table","column","there"] ["self","spot","leans"] (aI wU):=⟨rfl,rfl,rfl,by decide+kernel,rfl,by decide+kernel,by decide+kernel⟩
theorem wF(T:bE K mg){CS CB CT:Addr}(Y:eT K mg CS)(W:cO K mg CB):aT P w K mg base aF 3 CS "check_leans" ["self","spot","leans"] (b1d CS CB CT):=by
 have G_has:aT P w K mg base aF 2 CB "has_column" ["self","column"] (a1R CB CT):=qD T W
 refine Y.m_check_leans.known zT (fun _ _ _ _ _ _ us hl=>hV (fun _ _ _=>rfl) us hl) (fun vs H Q E h=> ?_) (fun f cdv A outer s H vs Q E hr h=> ?_)
 ·obtain⟨s',bd,ch,fi,dx,l,sv,kb,ys,zs,rfl,_⟩:=h
  rfl
 ·obtain⟨s',bd,ch,fi,dx,l,sv,kb,ys,zs,rfl,h1,h2,h3,hz,hb,q⟩:=h
  have hu:=cU hr
  refine⟨_,(aL (iG PassesOwn.never rfl (iS (pv 2)) (xC rfl (jO (eM (i:=3) zT.nd rfl (Or.inl rfl)) (jO (eM (i:=4) zT.nd rfl (Or.inl rfl)) wR)))
   (aK (bN (i:=5) zT.nd rfl (Or.inl rfl) (oS (xU (mT hu (pv 3) (aX (pv 0) rfl))) (oC (bZ (eE hu (aX (pv 0) rfl) (pv 3) (fun _ _=>rfl)) W.cl G_has hr aR (aB (pv 4) aG)))))
   (aL (bM (PW.pt (qX (fE (dZ (pv 5) (fun _=>rfl))) (qM (dE (rK hr.units) (gO (aB (pv 3) (aB (pv 4) aG))) (pv 1) (dH _))))) (aL cQ) bS))))),?_⟩
  refine⟨_,rfl,l,rfl,⟨_,aN.of h3⟩,?_⟩
  refine kK (K:=K) (a:=l) (xs:=ys) (fun i σ H2=>∃o3 o4 o5,σ= [some (.ref s'),some sv,some (.ref l),o3,o4,o5] /\aE H H2) ⟨_,_,_,rfl,aE.refl _⟩ (by rintro i σ H2 _ ⟨_,_,_,_,s2⟩;exact aN.of (s2 _ _ h3)) ?_ ?_
  ·rintro i x σ H2 hx ⟨o3,o4,o5,rfl,s2⟩
   obtain⟨z,e,hz2⟩:=hz.at hx
   obtain⟨a,rfl,ha⟩:=hz2.same s2
   obtain⟨nz,B,b1,b2,b3⟩:=hb z (List.mem_of_getElem? e)
   have hB2:=b2.same s2
   obtain⟨dB,hB⟩:=hB2.at_
   refine⟨a,_,rfl,cF.of ha,rfl,_,_,rfl,_,_,rfl,rfl,?_⟩
   refine⟨_,rfl,_,rfl,s',CS,dx,_,_,rfl,s2 _ _ h1,Y.cl,Y.n_boards,(lL _ _ _).1,bd,_,rfl,bQ.k (k:=Sum.inr z.1) (s2 _ _ h2),?_⟩
   rw[b1]
   refine⟨_,rfl,dM ?_⟩
   refine⟨_,rfl,s',CS,dx,_,_,rfl,s2 _ _ h1,Y.cl,Y.n_boards,(lL _ _ _).1,_,rfl,bd,_,rfl,b1▸bQ.k (k:=Sum.inr z.1) (s2 _ _ h2),B.b,dB,_,rfl,hB,nY,_,rfl,B,z.2,rfl,hB2,nz.2,fun H3 s3=> ?_⟩
   rw[decide_eq_true b3]
   exact⟨_,rfl,_,rfl,bL ⟨_,_,_,rfl,s2.trans s3⟩⟩
  ·rintro σ H2 ⟨o3,o4,o5,rfl,s2⟩
   exact q H2 s2
theorem a4o{κ:Type} [DecidableEq κ]:∀{kvs:List (κ×V)} {kv:κ×V},(kvs.map (·.1)).Nodup->kv∈kvs->aM kvs kv.1=some kv.2
 | [],_,_,h=>by cases h
 |x::xs,kv,nd,h=>by
  rw[List.map_cons,List.nodup_cons]at nd
  unfold aM
  rcases List.mem_cons.mp h with rfl|h
  ·simp[List.find?]
  ·have ne:¬x.1=kv.1:=fun y=>nd.1 (y▸List.mem_map.mpr ⟨kv,h,rfl⟩)
   have ih:=a4o nd.2 h
   unfold aM at ih
   rw[List.find?_cons_of_neg (by simpa using ne)]
   exact ih
def iX(H H':Hp):Prop:=∀b o,((∃C dx fs,o= .ins C dx fs)\/ ∃xs,o= .lst xs)->H b=some o->H' b=some o
theorem iX.of{H H':Hp}(s:aE H H'):iX H H':=fun b o _ e=>s _ _ e
theorem iX.trans{H H1 H2:Hp}(a:iX H H1)(b:iX H1 H2):iX H H2:=fun x o h e=>b _ _ h (a _ _ h e)
def qA(spl:Sp)(gr:Addr)(nm:Str)(ys:List aC)(H:Hp):Prop:=∀(Hb:Hp) (Q':VK),iX H Hb->(∀H' l vs,aE Hb H'->Hb l=none->H' l=some (.lst vs)->cE H' vs ys->Q' (.ref l) H')->spl [.ref gr,.str nm] Hb Q' E0
theorem b0j{C gr nl fa dx:Addr}{nm:Str}{zs:List Str}{H:Hp}(h1:H gr=some (.ins C dx (fM nl fa)))(h2:H nl=some (.lst (zs.map V.str)))(z6:zs.length<=6)(hz:∀z∈zs,Nl z)(ht:Nl nm):qA (zQ C) gr nm (dR (zs.map fun z=>(nm,z))) H:=
 fun Hb Q' k q=>⟨gr,dx,nl,fa,nm,zs,rfl,k _ _ (.inl ⟨_,_,_,rfl⟩) h1,k _ _ (.inr ⟨_,rfl⟩) h2,z6,hz,ht,q⟩
def pX(CB CT CG bd:Addr)(spl:Sp)(gl:List aC)(H:Hp)(kv:aA×V):Prop:=∃(nm:Str) (B:BM),kv=((.inr nm:aA),V.ref B.b)/\Nl nm/\cD CB CT H B/\bd≠B.ru/\(B.rus.map (·.1)).Nodup/\B.rus.length<=8/\∀rv∈B.rus,∃(c:Str) (gr dx:Addr) (fs:List (Str×V)) (ys:List aC),rv=((.inr c:aA),V.ref gr)/\Nl c/\H gr=some (.ins CG dx fs)/\fs.lookup ("leans":Str)=none/\qA spl gr nm ys H/\(∀y∈ys,N2 y/\y∈gl)/\ys.length<=100
def b2f(CS CB CT CG:Addr)(spl:Sp):Sp:=fun vs H Q _=>∃(s bd ch fi dx l:Addr) (sv:V) (kb:List (aA×V)) (ys:List V) (sp:aC) (zs gl:List aC),vs= [.ref s,sv,.ref l] /\H s=some (.ins CS dx (dG bd ch fi))/\H bd=some (.dK kb)/\(kb.map (·.1)).Nodup/\kb.length<=4/\H l=some (.lst ys)/\cE H ys zs/\(∀z∈zs,N2 z/\z∈gl)/\zs.length<=100/\fQ H sv sp/\N2 sp/\sp∉gl/\gl.length<=100/\(∀kv∈kb,pX CB CT CG bd spl gl H kv)/\∀H',aE H H'->Q .non H'
abbrev Ncr:List Str:=["self","spot","leans","leanings","table","rules","column","found"]
theorem pQ:bG Ncr ["self","spot","leans"] (aI uF):=⟨rfl,rfl,rfl,by decide+kernel,rfl,by decide+kernel,by decide+kernel⟩
def jA(gl:List aC)(n:Nat)(gd:Addr)(H:Hp):Prop:=∃kvs adj,pJ H gd kvs adj/\(∀z,∀y∈adj z,y∈gl)/\kvs.length<=n
theorem jA.put{gl:List aC}{n:Nat}{gd l:Addr}{H H':Hp}{z:aC}{ys:List aC}{vs:List V}{kvs:List (List aA×V)}{adj:aC->List aC}(g:pJ H gd kvs adj)(ha:∀z,∀y∈adj z,y∈gl)(hn:kvs.length<=n)(u:bC gd H H')(e:H' gd=some (.dT (aS kvs (kS z) (.ref l))))(hl:H l=some (.lst vs))(hs:cE H vs ys)(hy:∀y∈ys,N2 y/\y∈gl)(h100:ys.length<=100):jA gl (n+ 1) gd H':=by
 have k:∀{x:Addr} {o:HO},H x=some o->(∀y,o≠ .dT y)->H' x=some o:=fun e2 n=>u _ _ (fun y=>by rw[y,g.d]at e2;exact n _ (Option.some.inj e2).symm) e2
 have kt:∀a xs,H a=some (.tup xs)->H' a=some (.tup xs):=fun a xs e2=>k e2 (fun _ y=>by cases y)
 refine⟨aS kvs (kS z) (.ref l),fun x=>if x=z then ys else adj x,⟨e,fun x=> ?_,fun x y hm=> ?_,fun x=> ?_⟩,fun x y hm=> ?_,Nat.le_trans (b1b _ _ _) (by omega)⟩
 ·rw[jV]
  by_cases h:x=z
  ·rw[if_pos (by rw[h])]
   exact .inr ⟨l,vs,rfl,k hl (fun _ y=>by cases y),by show cE H' vs (if x=z then ys else adj x);rw[if_pos h];exact hs.mapT kt⟩
  ·rw[if_neg (fun y=>h (b0L y))]
   rcases g.a x with⟨a1,a2⟩|⟨l',vs',a1,a2,a3⟩
   ·exact .inl ⟨a1,by show(if x=z then ys else adj x)= [];rw[if_neg h];exact a2⟩
   ·exact .inr ⟨l',vs',a1,k a2 (fun _ y=>by cases y),by show cE H' vs' (if x=z then ys else adj x);rw[if_neg h];exact a3.mapT kt⟩
 ·have hm:y∈(if x=z then ys else adj x):=hm
  split at hm
  ·exact(hy y hm).1
  ·exact g.n x y hm
 ·show(if x=z then ys else adj x).length<=100
  split
  ·exact h100
  ·exact g.l x
 ·have hm:y∈(if x=z then ys else adj x):=hm
  split at hm
  ·exact(hy y hm).2
  ·exact ha x y hm
theorem jA.mv{gl:List aC}{n:Nat}{gd:Addr}{H H':Hp}(u:∀b o,(∀y,o≠ .dK y)->(∀q y,o≠ .frz q y)->H b=some o->H' b=some o)(h:jA gl n gd H):jA gl n gd H':=by
 obtain⟨kvs,adj,g,h1,h2⟩:=h
 exact⟨kvs,adj,⟨u _ _ (fun _ y=>by cases y) (fun _ _ y=>by cases y) g.d,fun z=>(g.a z).imp id fun⟨l,vs,e1,e2,e3⟩=>⟨l,vs,e1,u _ _ (fun _ y=>by cases y) (fun _ _ y=>by cases y) e2,e3.mapT fun a xs e=>u _ _ (fun _ y=>by cases y) (fun _ _ y=>by cases y) e⟩,g.n,g.l⟩,h1,h2⟩
theorem b32(T:bE K mg){CS CB CT CG:Addr}(Y:eT K mg CS)(W:cO K mg CB)(clG:dJ K CG){spl:Sp}(G_le:aT P w K mg base aF 3 CG "leans" ["self","table"] spl):aT P w K mg base aF 4 CS "check_ring" ["self","spot","leans"] (b2f CS CB CT CG spl):=by
 have G_ring:bJ P w K mg base aF 2 "ring_from" ["leanings","spot"] (b1B K):=wS T
 refine Y.m_check_ring.known pQ (fun _ _ _ _ _ _ us hl=>hV (fun _ _ _=>rfl) us hl) (fun vs H Q E h=> ?_) (fun f cdv A outer s H vs Q E hr h=> ?_)
 ·obtain⟨s',bd,ch,fi,dx,l,sv,kb,ys,sp,zs,gl,rfl,_⟩:=h
  rfl
 ·obtain⟨s',bd,ch,fi,dx,l,sv,kb,ys,sp,zs,gl,rfl,h1,h2,nd,k4,h3,hz,hN,z100,hsv,nsp,hns,g100,hb,q⟩:=h
  have hu:=cU hr
  refine⟨_,(aK (bN (i:=3) pQ.nd rfl (Or.inl rfl) rL)
   (aK (b0u PassesOwn.never rfl (aX (pv 0) rfl) (eM (i:=4) pQ.nd rfl (Or.inl rfl)) (aK (bN (i:=5) pQ.nd rfl (Or.inl rfl) (aX (eE hu (aX (pv 0) rfl) (pv 4) (fun _ _=>rfl)) rfl))
   (aL (b0u PassesOwn.never rfl (pv 5) (eM (i:=6) pQ.nd rfl (Or.inl rfl)) (aL (jE hu (pv 3) (gO (aB (pv 4) (aB (pv 6) aG))) (bZ (eE hu (pv 5) (pv 6) (fun _ _=>rfl)) clG G_le hr aR (aB (pv 4) aG)) rfl))))))
   (aK (jE hu (pv 3) (pv 1) (pv 2) rfl)
   (aK (bN (i:=7) pQ.nd rfl (Or.inl rfl) (bU G_ring (hr.mono (by decide)) aR (aB (pv 3) (aB (pv 1) aG))))
   (aL (bM (dE b63 (pv 7) hW (dH _)) (aL cQ) bS)))))),?_⟩
  intro gd hgd
  have s1:=aE.new (o:=.dT []) hgd
  have g1:upd H gd (.dT []) gd=some (.dT []):=aJ
  generalize upd H gd (.dT [])=H1 at s1 g1|-
  have h2':=s1 _ _ h2
  refine⟨_,rfl,s',CS,dx,_,_,rfl,s1 _ _ h1,Y.cl,Y.n_boards,(lL _ _ _).1,bd,_,rfl,h2',fun nf ob=> ?_⟩
  obtain⟨Hf,eHf⟩:∃Hf,Hf=upd H1 bd (.frz ob (.dK kb)):=⟨_,rfl⟩
  rw[<- eHf]
  have hf:Hf bd=some (.frz ob (.dK kb)):=by rw[eHf,aJ]
  have ngb:gd≠bd:=fun y=>by rw[y,h2]at hgd;cases hgd
  have kf:∀{x:Addr} {o:HO},x≠bd->H1 x=some o->Hf x=some o:=fun n e=>by rw[eHf,aH n];exact e
  have gf:Hf gd=some (.dT []):=kf ngb g1
  have ins_f:iX H Hf:=fun b o h e=>kf (fun y=>by rw[y,h2]at e;rcases h with⟨_,_,_,rfl⟩|⟨_,rfl⟩<;>cases e) (s1 _ _ e)
  have gr0:jA gl 0 gd Hf:=⟨[],fun _=> [],⟨gf,fun z=> .inl ⟨rfl,rfl⟩,fun z y hy=>by{cases hy},fun z=>Nat.zero_le _⟩,fun z y hy=>by{cases hy},Nat.le_refl _⟩
  refine b0r (a:=bd) (ob:=ob) (kvs:=kb) (fun i σ H2=>(∃o4 o5 o6,σ= [some (.ref s'),some sv,some (.ref l),some (.ref gd),o4,o5,o6,none])/\bC gd Hf H2/\jA gl (8* i) gd H2) ⟨⟨_,_,_,rfl⟩,bC.of (aE.refl _),gr0⟩ (fun i σ H2 _ ⟨_,b2,_⟩=>b2 _ _ ngb.symm hf) ?_ ?_
  ·rintro j pv' σ H2 hp ⟨⟨o4,o5,o6,rfl⟩,b2,gS⟩
   have hpm:=List.mem_of_getElem? hp
   have hj:j<kb.length:=(List.getElem?_eq_some_iff.mp hp).1
   obtain⟨nm,B,rfl,nnm,b1,nbr,ndr,r8,hrv⟩:=hb pv' hpm
   have hv:aM kb (.inr nm:aA)=some (.ref B.b):=a4o nd hpm
   obtain⟨dB,e1⟩:=(b1.same s1).at_
   have nb:B.b≠bd:=fun y=>by rw[y,h2']at e1;cases e1
   have ns:s'≠bd:=fun y=>by rw[y,h2]at h1;cases h1
   have ng:∀{x:Addr} {o:HO},Hf x=some o->(∀y,o≠ .dT y)->x≠gd:=fun e n y=>by rw[y,gf]at e;exact n _ (Option.some.inj e).symm
   have up2:∀{x:Addr} {o:HO},Hf x=some o->(∀y,o≠ .dT y)->H2 x=some o:=fun e n=>b2 _ _ (ng e n) e
   have eb:=up2 (kf nb e1) (fun _ y=>by cases y)
   have es:=up2 (kf ns (s1 _ _ h1)) (fun _ y=>by cases y)
   have er:=up2 (kf nbr.symm (b1.same s1).rul) (fun _ y=>by cases y)
   have bd2:=up2 hf (fun _ y=>by cases y)
   refine⟨_,rfl,s',CS,dx,_,_,rfl,es,Y.cl,Y.n_boards,(lL _ _ _).1,_,rfl,bd,_,rfl,.inl ⟨kb,.inr nm,.inr ⟨ob,bd2⟩,rfl,hv.symm⟩,B.b,CB,dB,_,_,rfl,eb,W.cl,W.n_rules,(dL _ _ _ _).2.1,?_⟩
   refine⟨_,rfl,B.ru,_,rfl,er,fun nf2 ob2=> ?_⟩
   obtain⟨Hg,eHg⟩:∃Hg,Hg=upd H2 B.ru (.frz ob2 (.dK B.rus)):=⟨_,rfl⟩
   rw[<- eHg]
   have hg:Hg B.ru=some (.frz ob2 (.dK B.rus)):=by rw[eHg,aJ]
   have kg:∀{x:Addr} {o:HO},x≠B.ru->H2 x=some o->Hg x=some o:=fun n e=>by rw[eHg,aH n];exact e
   have gSg:jA gl (8* j) gd Hg:=gS.mv fun b o n1 n2 e=>kg (fun y=>by rw[y,er]at e;exact n1 _ (Option.some.inj e).symm) e
   have gg:∃kvs,Hg gd=some (.dT kvs):=let ⟨kvs,_,g,_⟩:=gSg;⟨kvs,g.d⟩
   obtain⟨kv0,gg0⟩:=gg
   have ngr:B.ru≠gd:=fun y=>by rw[y,gg0]at hg;cases hg
   have ins_g:iX H Hg:=fun b o h e=>kg (fun y=>by rw[y,b1.rul]at e;rcases h with⟨_,_,_,rfl⟩|⟨_,rfl⟩<;>cases e) (up2 (ins_f b o h e) (fun y ey=>by rcases h with⟨_,_,_,rfl⟩|⟨_,rfl⟩<;>cases ey))
   refine b0r (a:=B.ru) (ob:=ob2) (kvs:=B.rus) (fun i σ H3=>(∃o6,σ= [some (.ref s'),some sv,some (.ref l),some (.ref gd),some (.str nm),some (.ref B.ru),o6,none])/\bC gd Hg H3/\jA gl (8* j+ i) gd H3) ⟨⟨_,rfl⟩,bC.of (aE.refl _),gSg⟩ (fun i σ H3 _ ⟨_,b3,_⟩=>b3 _ _ ngr hg) ?_ ?_
   ·rintro i rv σ H3 hr3 ⟨⟨o6,rfl⟩,b3,gS3⟩
    have hi:i<B.rus.length:=(List.getElem?_eq_some_iff.mp hr3).1
    have hrm:=List.mem_of_getElem? hr3
    obtain⟨c,gr,dg,fs,ys2,rfl,nc,hgr,hnl,le,hy2,y100⟩:=hrv rv hrm
    have hvr:aM B.rus (.inr c:aA)=some (.ref gr):=a4o ndr hrm
    have ng3:∀{x:Addr} {o:HO},Hg x=some o->(∀y,o≠ .dT y)->H3 x=some o:=fun e n=>b3 _ _ (fun y=>by rw[y,gg0]at e;exact n _ (Option.some.inj e).symm) e
    have ins_3:iX H H3:=fun b o h e=>ng3 (ins_g b o h e) (fun y ey=>by rcases h with⟨_,_,_,rfl⟩|⟨_,rfl⟩<;>cases ey)
    refine⟨_,rfl,_,rfl,B.ru,_,rfl,.inl ⟨B.rus,.inr c,.inr ⟨ob2,ng3 hg (fun _ y=>by cases y)⟩,rfl,hvr.symm⟩,gr,dg,fs,rfl,ins_3 _ _ (.inl ⟨_,_,_,rfl⟩) hgr,hnl,_,rfl,le H3 _ ins_3 fun H4 l4 vs4 s4 hl4 h4 hs4=> ?_⟩
    obtain⟨kvs,adj,G3,ha3,hn3⟩:=gS3
    refine⟨_,rfl,_,rfl,_,rfl,sl,fun tp htp=> ?_⟩
    have s5:=aE.new (o:=.tup [V.str nm,kV ((Sum.inr c:aA),V.ref gr).fst]) htp
    have t5:upd H4 tp (.tup [V.str nm,kV ((Sum.inr c:aA),V.ref gr).fst]) tp=some (.tup [.str nm,.str c]):=aJ
    generalize upd H4 tp (.tup [V.str nm,kV ((Sum.inr c:aA),V.ref gr).fst])=H5 at s5 t5|-
    have s35:=s4.trans s5
    have G5:=G3.same s35
    refine⟨gd,_,rfl,.inr ⟨kvs,kS (nm,c),tp,G5.d,rfl,t5,dD (by omega),rfl⟩,?_⟩
    have u6:bC gd H5 (upd H5 gd (.dT (aS kvs (kS (nm,c)) (.ref l4)))):=bC.upd
    have e6:upd H5 gd (.dT (aS kvs (kS (nm,c)) (.ref l4))) gd=some (.dT (aS kvs (kS (nm,c)) (.ref l4))):=aJ
    generalize upd H5 gd (.dT (aS kvs (kS (nm,c)) (.ref l4)))=H6 at u6 e6|-
    exact⟨⟨_,rfl⟩,fun b o n e=>u6 _ _ n (s35 _ _ (b3 _ _ n e)),jA.put G5 ha3 hn3 u6 e6 (s5 _ _ h4) (hs4.same s5) hy2 y100⟩
   ·rintro σ H3 ⟨⟨o6,rfl⟩,b3,gS3⟩
    refine⟨B.ru,ob2,B.rus,nf2,b3 _ _ ngr hg,⟨_,_,_,rfl⟩,fun b o n e=> ?_,?_⟩
    ·by_cases y:b=B.ru
     ·rw[y,aJ]
      rw[y]at e
      rw[b2 _ _ ngr e]at er
      exact er.symm
     ·rw[aH y]
      exact b3 _ _ n (kg y (b2 _ _ n e))
    ·have m:jA gl (8* j+ B.rus.length) gd (upd H3 B.ru (.dK B.rus)):=gS3.mv fun b o n1 n2 e=>by
      rw[aH (fun y=>by rw[y,b3 _ _ ngr hg]at e;exact n2 _ _ (Option.some.inj e).symm)]
      exact e
     obtain⟨kvs,adj,x1,x2,x3⟩:=m
     exact⟨kvs,adj,x1,x2,by omega⟩
  ·rintro σ H2 ⟨⟨o4,o5,o6,rfl⟩,b2,gS⟩
   have bd2:=b2 _ _ ngb.symm hf
   refine⟨bd,ob,kb,nf,bd2,?_⟩
   have b3:bC gd H1 (upd H2 bd (.dK kb)):=fun b o n e=>by
    by_cases y:b=bd
    ·rw[y,aJ]
     rw[y,h2']at e
     exact e
    ·rw[aH y]
     exact b2 _ _ n (kf y e)
   have gS3:jA gl (8* kb.length) gd (upd H2 bd (.dK kb)):=gS.mv fun b o n1 n2 e=>by
    rw[aH (fun y=>by rw[y,bd2]at e;exact n2 _ _ (Option.some.inj e).symm)]
    exact e
   generalize upd H2 bd (.dK kb)=H3 at b3 gS3|-
   have s13:aE H H3:=fun b o e=>b3 _ _ (bA e hgd) (s1 _ _ e)
   obtain⟨sa,rfl,hsa⟩:=hsv.same s13
   obtain⟨kvs,adj,G3,ha3,hn3⟩:=gS3
   refine⟨_,rfl,_,rfl,_,rfl,gd,_,rfl,.inr ⟨kvs,kS sp,sa,G3.d,rfl,hsa,dD (by omega),rfl⟩,?_⟩
   have s4:aE H (upd H3 gd (.dT (aS kvs (kS sp) (.ref l)))):=s13.on hgd
   have u4:bC gd H3 (upd H3 gd (.dT (aS kvs (kS sp) (.ref l)))):=bC.upd
   have g4:upd H3 gd (.dT (aS kvs (kS sp) (.ref l))) gd=some (.dT (aS kvs (kS sp) (.ref l))):=aJ
   generalize upd H3 gd (.dT (aS kvs (kS sp) (.ref l)))=H4 at s4 u4 g4|-
   obtain⟨kvs',adj',G4,ha4,_⟩:=jA.put G3 ha3 hn3 u4 g4 (s13 _ _ h3) (hz.same s13) hN z100
   refine⟨_,rfl,_,rfl,gd,_,kvs',adj',sp,gl,rfl,G4,hsv.same s4,nsp,ha4,g100,fun H5 s5=>⟨fun _=> ?_,fun l' vs' ys' _ _ _ R _=> ?_⟩⟩
   ·exact⟨_,rfl,rfl,_,rfl,bL (q H5 (s4.trans s5))⟩
   ·exfalso
    have:=R.back
    obtain⟨m,hm⟩:∃m,ys'.length=m+ 1:=⟨ys'.length- 1,by have:=R.pos;omega⟩
    rw[hm]at this
    obtain⟨x,_,hx⟩:=this.inv
    exact hns (ha4 x sp hx)
theorem qA.mv{spl:Sp}{gr:Addr}{nm:Str}{ys:List aC}{H H':Hp}(k:iX H H')(h:qA spl gr nm ys H):qA spl gr nm ys H':=fun Hb Q' kb q=>h Hb Q' (k.trans kb) q
theorem pX.same{CB CT CG bd:Addr}{spl:Sp}{gl:List aC}{H H':Hp}{kv:aA×V}(s:aE H H')(h:pX CB CT CG bd spl gl H kv):pX CB CT CG bd spl gl H' kv:=by
 obtain⟨nm,B,h1,h2,h3,h4,h5,h6,h7⟩:=h
 refine⟨nm,B,h1,h2,h3.same s,h4,h5,h6,fun rv hrv=> ?_⟩
 obtain⟨c,gr,dx,fs,ys,e1,e2,e3,e4,e5,e6,e7⟩:=h7 rv hrv
 exact⟨c,gr,dx,fs,ys,e1,e2,s _ _ e3,e4,e5.mv (iX.of s),e6,e7⟩
def a9Z(K:Fg)(CS CF CB CT CG:Addr)(spl:Sp):Sp:=fun vs H Q _=>∃(s bd ch gr dg:Addr) (cs:List V) (kb:List (aA×V)) (nm t:Str) (fs:List (Str×V)) (B:BM) (zs gl:List aC),vs= [.ref s,.str nm,.str t,.ref gr] /\zN CS s bd ch cs kb H/\cs.length<900/\Nl nm/\aM kb (.inr nm:aA)=some (.ref B.b)/\cD CB CT H B/\B.sep/\a3B bd ch B/\qZ B t/\Nl t/\H gr=some (.ins CG dg fs)/\fs.lookup ("leans":Str)=none/\qA spl gr nm zs H/\(∀z∈zs,N2 z/\z∈gl/\∃B':BM,aM kb (.inr z.1:aA)=some (.ref B'.b)/\cD CB CT H B'/\z.2∈B'.ord)/\zs.length<=100/\(nm,t)∉gl/\gl.length<=100/\(kb.map (·.1)).Nodup/\kb.length<=4/\(∀kv∈kb,pX CB CT CG bd spl gl H kv)/\B.rus.length<100/\B.mes.length<100/\B.ord.length<8/\
 ∀H' fi fd lk c m,lX CS CF s bd ch fi fd lk (cs++ [.ref c]) kb H H'->H m=none->cD CB CT H' {B with rus:=aS B.rus (.inr t:aA) (.ref gr),mes:=aS B.mes (.inr t:aA) (.ref m),ord:=B.ord++ [t]} ->H' m=some (.dK [])->(∀x o,x≠s->x≠ch->x≠B.od->x≠B.ru->x≠B.me->H x=some o->H' x=some o)->Q .non H'
theorem a17:bG ["self","table","column","rule","board","leans"] ["self","table","column","rule"] (aI wC):=⟨rfl,rfl,rfl,by decide+kernel,rfl,by decide+kernel,by decide+kernel⟩
structure RIs(K:Fg)(C:Addr):Prop where
 cl:dJ K C
 ty:∀{H:Hp} {a dx:Addr} {fs:List (Str×V)},H a=some (.ins C dx fs)->gT K H (.ref a) (.ref C)
 isl:PySem.W.kitOne K (.ref C) (.type "list")=some false
theorem b3l(T:bE K mg){CS CF CB CT CC CG:Addr}(Y:eT K mg CS)(Z:eL K mg CF)(W:cO K mg CB)(U:dO K mg CT)(C:mI K mg CC)(Gr:RIs K CG){spl:Sp}(G_le:aT P w K mg base aF 3 CG "leans" ["self","table"] spl):aT P w K mg base aF 9 CS "rule" ["self","table","column","rule"] (a9Z K CS CF CB CT CG spl):=by
 have G_for:aT P w K mg base aF 3 CS "board_for" ["self","table","column"] (a8M CS CB CT):=pF T Y W
 have G_cl:aT P w K mg base aF 3 CS "check_leans" ["self","spot","leans"] (b1d CS CB CT):=wF T Y W
 have G_cr:aT P w K mg base aF 4 CS "check_ring" ["self","spot","leans"] (b2f CS CB CT CG spl):=b32 T Y W Gr.cl G_le
 have GI:eU P w K mg base aF 1 CC ["self","board","column","content"] (a1q CC):=oW T C
 have G_make:aT P w K mg base aF 8 CS "make" ["self","change"] (uM CS CF CC (xR CC CB CT (a5I K CB CT))):=mJ T Y Z C.cl (b08 b2j) (qW T C W (b6S T W))
 refine Y.m_rule.known a17 (fun _ _ _ _ _ _ us hl=>lH (fun _ _ _ _=>rfl) us hl) (fun vs H Q E h=> ?_) (fun f cdv A outer s H vs Q E hr h=> ?_)
 ·obtain⟨s',bd,ch,gr,dg,cs,kb,nm,t,fs,B,zs,gl,rfl,_⟩:=h
  rfl
 ·obtain⟨s',bd,ch,gr,dg,cs,kb,nm,t,fs,B,zs,gl,rfl,hS,cl,hn,hv,hB,sep,ss,new,ht,hgr,hnl,le,hzs,z100,ngl,g100,nd,k4,hbd,r100,m100,o8,q⟩:=h
  refine⟨_,(aK (bN (i:=4) a17.nd rfl (Or.inl rfl) (bZ (pv 0) Y.cl G_for (hr.mono (by decide)) aR (aB (pv 1) (aB (pv 2) aG))))
   (aK (bN (i:=5) a17.nd rfl (Or.inl rfl) (bZ (pv 3) Gr.cl G_le (hr.mono (by decide)) aR (aB (pv 1) aG)))
   (aK (bY (bZ (pv 0) Y.cl G_cl (hr.mono (by decide)) aR (aB (gO (aB (pv 1) (aB (pv 2) aG))) (aB (pv 5) aG))))
   (aK (bY (bZ (pv 0) Y.cl G_cr (hr.mono (by decide)) aR (aB (gO (aB (pv 1) (aB (pv 2) aG))) (aB (pv 5) aG))))
   (aL (bY (bZ (pv 0) Y.cl G_make hr aR (aB (kZ GI (hr.mono (by decide)) C.c aR (aB (pv 4) (aB (pv 2) (aB (pv 3) aG)))) aG)))))))),?_⟩
  obtain⟨⟨dx,fi0,h1⟩,h2,h3⟩:=hS
  refine⟨_,rfl,s',dx,_,rfl,h1,fA,_,rfl,_,rfl,s',bd,ch,fi0,dx,kb,nm,t,B,rfl,h1,h3,hn,hv,hB,ht,o8,fun H1 s1=> ?_⟩
  refine⟨_,rfl,gr,dg,_,rfl,s1 _ _ hgr,hnl,_,rfl,le H1 _ (iX.of s1) fun H2 l ys s2 hl h2l hsp=> ?_⟩
  have s12:=s1.trans s2
  refine⟨_,rfl,s',dx,_,rfl,s12 _ _ h1,fA,_,rfl,_,rfl,sl,fun t1 ht1=> ?_⟩
  have s3':=aE.new (o:=.tup [.str nm,.str t]) ht1
  have tt1:upd H2 t1 (.tup [.str nm,.str t]) t1=some (.tup [.str nm,.str t]):=aJ
  generalize upd H2 t1 (.tup [.str nm,.str t])=H3 at s3' tt1|-
  have s3:=s12.trans s3'
  refine⟨_,rfl,s',bd,ch,fi0,dx,l,.ref t1,kb,ys,zs,rfl,s3 _ _ h1,s3 _ _ h3,s3' _ _ h2l,hsp.same s3',fun z hz=> ?_,fun H4 s4=> ?_⟩
  ·obtain⟨n2,_,B',b1,b2,b3⟩:=hzs z hz
   exact⟨n2,B',b1,b2.same s3,b3⟩
  have s4':=s3.trans s4
  refine⟨_,rfl,s',dx,_,rfl,s4' _ _ h1,fA,_,rfl,_,rfl,sl,fun t2 ht2=> ?_⟩
  have s5':=aE.new (o:=.tup [.str nm,.str t]) ht2
  have tt2:upd H4 t2 (.tup [.str nm,.str t]) t2=some (.tup [.str nm,.str t]):=aJ
  generalize upd H4 t2 (.tup [.str nm,.str t])=H5 at s5' tt2|-
  have s5:=s4'.trans s5'
  have s25:=(s3'.trans s4).trans s5'
  refine⟨_,rfl,s',bd,ch,fi0,dx,l,.ref t2,kb,ys,(nm,t),zs,gl,rfl,s5 _ _ h1,s5 _ _ h3,nd,k4,s25 _ _ h2l,hsp.same s25,fun z hz=>⟨(hzs z hz).1,(hzs z hz).2.1⟩,z100,⟨t2,rfl,tt2⟩,⟨hn,ht⟩,ngl,g100,fun kv hkv=>(hbd kv hkv).same s5,fun H6 s6'=> ?_⟩
  have s6:=s5.trans s6'
  refine⟨_,rfl,s',dx,_,rfl,s6 _ _ h1,fA,_,rfl,_,rfl,_,rfl,?_⟩
  intro c dc hc hdc ne
  refine⟨c,dc,B.b,gr,t,rfl,aJ,fun H7 b7 c7=>⟨rfl,?_⟩⟩
  have s7:aE H H7:=fun b o z=>b7 b o (bA (s6 _ _ z) hc) (by rw[aH (bA (s6 _ _ z) hc),aH (bA (s6 _ _ z) hdc)];exact s6 _ _ z)
  have hB7:=hB.same s7
  have gr7:=s7 _ _ hgr
  refine⟨s',c,bd,ch,fi0,dx,dc,cs,_,rfl,c7,(a6n _ _ _).2.2.2.1,c,dc,gr,B,t,rfl,c7,hB7,new,B,t,gr,CG,dg,_,rfl,hB7,sep,new,gr7,Gr.ty gr7,Gr.isl,r100,m100,by omega,fun H8 m hm B8 m8 u8=> ?_⟩
  have ho:=hB.ord
  have hru:=hB.rul
  have hme:=hB.mem
  have k8:∀{x:Addr} {o:HO},H x=some o->x≠B.od->x≠B.ru->x≠B.me->H8 x=some o:=fun e n1 n2 n3=>u8 _ _ n1 n2 n3 (s7 _ _ e)
  have ns4:=k8 h1 (fun y=>by rw[y,ho]at h1;cases h1) (fun y=>by rw[y,hru]at h1;cases h1) (fun y=>by rw[y,hme]at h1;cases h1)
  have ch4:=k8 h2 ss.o (fun y=>by rw[y,hru]at h2;cases h2) (fun y=>by rw[y,hme]at h2;cases h2)
  refine⟨ns4,ch4,cl,fun H9 fi fd lk df f1 f2 f3 nfl g1 g2 g3 g4 g5 u9=> ?_⟩
  have nn:∀{x:Addr},H8 x=none->H x=none:=fun{x} e=>by
   cases e2:H x with
   |none=>rfl
   |some o=>
    by_cases y:x=B.od
    ·rw[y,B8.ord]at e;cases e
    ·by_cases y2:x=B.ru
     ·rw[y2,B8.rul]at e;cases e
     ·by_cases y3:x=B.me
      ·rw[y3,B8.mem]at e;cases e
      ·rw[k8 e2 y y2 y3]at e;cases e
  have hm0:H m=none:=fB s7 hm
  have nm':m≠s'/\m≠ch:=⟨fun y=>by{rw[y,h1]at hm0;cases hm0},fun y=>by{rw[y,h2]at hm0;cases hm0}⟩
  have nb:bd≠s'/\bd≠ch:=⟨fun y=>by{rw[y,h1]at h3;cases h3},fun y=>by{rw[y,h2]at h3;cases h3}⟩
  exact q H9 fi fd lk c m ⟨⟨dx,g1⟩,g2,u9 _ _ nb.1 nb.2 (k8 h3 (fun y=>by rw[y,ho]at h3;cases h3) ss.u ss.m),⟨df,g3⟩,g4,g5,nfl,nn f1,nn f2,nn f3⟩ hm0 (B8.off ⟨dx,bd,ch,fi0,ns4⟩ ch4 ss.r ss.o u9) (u9 _ _ nm'.1 nm'.2 m8) (fun x o n1 n2 n3 n4 n5 e=>u9 _ _ n1 n2 (k8 e n3 n4 n5))
theorem b5S{C:Addr}(Y:jC K mg C):RIs K C:=⟨Y.cl,fun e=> .ins e Y.cl Y.hc Y.own.2.1 Y.own.2.2 Y.own.1,Y.isl⟩
theorem b2l{C:Addr}(Y:jC K mg C):zV K C:=⟨Y.cl,Y.m_reckon,Y.n_function⟩
end
theorem b1i:bootBuiltins "sum"=some (.builtin "sum"):=by kernel_rfl
section
variable{P:Program}{w:World}{K:Fg}{mg:Str->Option Value}{base:Heap}
def tX(K:Fg):Sp:=fun vs H Q _=>∃(a:Addr) (ns:List Int) (k:Int),vs= [.ref a,.int k] /\aN K H a (ns.map V.int)/\ns.length<=63/\0<=k/\k<=1000000/\∀m:Int,0<=m->m<2147483629->Q (.int m) H
theorem zO:bG ["_law_script","_law_k","_law_cell"] ["_law_script","_law_k"] (aI nL):=⟨rfl,rfl,rfl,by decide+kernel,rfl,by decide+kernel,by decide+kernel⟩
theorem mU(T:bE K mg):bJ P w K mg base aF 1 "_law_mixed" ["_law_script","_law_k"] (tX K):=by
 refine T.d_law_mixed.known zO (fun _ _ _ _ _ _ us hl=>eG (fun _ _=>rfl) us hl) (fun vs H Q E h=> ?_) (fun f cdv A outer s H vs Q E hr h=> ?_)
 ·obtain⟨a,ns,k,rfl,_⟩:=h
  rfl
 ·obtain⟨a,ns,k,rfl,hS,hl,h0,h6,q⟩:=h
  have dY:∃t,dQ (eY aF P w K mg base ["_law_script","_law_k","_law_cell"] "_law_mixed" (aI nL) f cdv A outer s H E).nox ((aV nL).drop 2) t/\∀c:Int,t {nx:=fun _ H'=>Q .non H',rt:=Q} [some (.ref a),some (.int k),some (.int c)] H:=by
   refine⟨_,(aK (bN (i:=2) zO.nd rfl (Or.inl rfl) (bW fV (bW oQ (bW fS (bW fS (bW fV (pv 2) aY) (bW oQ aY (pv 1))) aY) aY) aY))
    (aL (bP (bW fV (bW oQ (pv 2) (bW fS (bW fS (bW fV (pv 2) aY) (pv 1)) aY)) aY)))),fun c=> ?_⟩
   refine⟨_,rfl,_,_,rfl,rfl,(show(0:Int)<2147483629 by decide),_,rfl,_,_,rfl,rfl,.inl ⟨by decide,by decide⟩,_,_,rfl,rfl,_,_,rfl,rfl,_,_,rfl,rfl,.inr ⟨by decide,by decide⟩,_,_,rfl,rfl,(show(0:Int)<2147483647 by decide),?_⟩
   have e1:=Int.emod_nonneg ((c% 2147483629+ 6151* k+ 1)* 48271) (show(2147483647:Int)≠0 by decide)
   have e2:=Int.emod_lt_of_pos ((c% 2147483629+ 6151* k+ 1)* 48271) (show(0:Int)<2147483647 by decide)
   refine⟨_,rfl,_,rfl,_,_,rfl,rfl,(show(0:Int)<65519 by decide),_,rfl,_,_,rfl,rfl,_,_,rfl,rfl,_,_,rfl,rfl,.inl ⟨by omega,by omega⟩,_,_,rfl,rfl,(show(0:Int)<2147483629 by decide),?_⟩
   exact q _ (Int.emod_nonneg _ (by decide)) (Int.emod_lt_of_pos _ (by decide))
  obtain⟨t,ht,hq⟩:=dY
  refine⟨_,(aK (bN (i:=2) zO.nd rfl (Or.inl rfl) aY)
   (aK (bM (dE b1r (dN kR rfl T.len jG (aB (pv 0) aG)) aY (dH _)) (aL (bN (i:=2) zO.nd rfl (Or.inl rfl) (cT gG (pv 0) (bW fV (pv 1) (dN kR rfl T.len jG (aB (pv 0) aG))) (fun _ _=>rfl)))) bS) ht)),?_⟩
  have el:((ns.map V.int).length:Int)=(ns.length:Int):=by rw[List.length_map]
  refine⟨_,rfl,_,_,rfl,.inl ⟨_,hS,rfl⟩,_,_,rfl,rfl,_,rfl,?_⟩
  rw[el]
  refine eR (fun h2=> ?_) (fun h2=> ?_)
  ·have h2':0<(ns.length:Int):=by simpa using h2
   have hm:=Int.emod_nonneg k (Int.ne_of_gt h2')
   have hm':=Int.emod_lt_of_pos k h2'
   exact⟨_,rfl,_,rfl,_,rfl,_,_,rfl,.inl ⟨_,hS,rfl⟩,_,_,rfl,rfl,by rw[el];exact h2',a,_,_,_,rfl,rfl,hS,by rw[el];exact b3g ns _ hm hm',hq _⟩
  ·exact hq _
theorem eV:Nl ("bad":Str)/\Nl ("odd":Str)/\Nl ("t":Str)/\Nl ("u":Str)/\Nl ("a":Str)/\Nl ("b":Str)/\Nl ("sum":Str)/\Nl ("twin":Str):=by unfold Nl;decide+kernel
theorem a0a(i:Int):kM (.int i)/\Vd (gC (.int i)):=by
 refine⟨b1l (fun h=>by cases h),?_⟩
 unfold gC
 by_cases h:jP (.int i)=true
 ·rw[if_pos h]
  have:lC (.int i)=true:=by
   unfold jP at h
   have f0:iE (.int i)=false:=rfl
   rw[f0,Bool.or_false]at h
   exact h
  exact .inl ⟨i,rfl,this⟩
 ·rw[if_neg h]
  exact .inr ⟨"odd",rfl,eV.2.1⟩
def Bv(d:PyData):Prop:=(∃i,d= .int i/\ -(10^ 58+ 1)<=i/\i<=10^ 58+ 1)\/ ∃y,d= .tuple [.str "fault",.str y]
def spLv(K:Fg):Sp:=fun vs H Q _=>∃i:Int,vs= [.int i] /\∀H' v d,aE H H'->Pv K H' v d->Bv d->Q v H'
theorem b5o:bG ["_law_cell"] ["_law_cell"] (aI uZ):=⟨rfl,rfl,rfl,by decide+kernel,rfl,by decide+kernel,by decide+kernel⟩
theorem oZ(T:bE K mg):bJ P w K mg base aF 1 "_law_value" ["_law_cell"] (spLv K):=by
 refine T.d_law_value.known b5o (fun _ _ _ _ _ _ us hl=>fK (fun _=>rfl) us hl) (fun vs H Q E h=> ?_) (fun f cdv A outer s H vs Q E hr h=> ?_)
 ·obtain⟨i,rfl,_⟩:=h
  rfl
 ·obtain⟨i,rfl,q⟩:=h
  refine⟨_,(aK (bM (dE qL (bW fV (pv 0) aY) aY (dH _)) (aL (bP (gO (aB dW (aB (cT gG (eO (aB dW (aB dW aG))) (bW fV (bW a5D (pv 0) aY) aY) (fun _ _=>rfl)) aG))))) bS)
   (aK (bM (dE qL (bW fV (pv 0) aY) aY (dH _)) (aL (bP (bW fS (bW a9E aY aY) (bW fV (bW a5D (pv 0) aY) aY)))) bS)
   (aL (bP (bW b6d (bW fV (bW a5D (pv 0) aY) aY) aY))))),?_⟩
  have e58:(10:Int)^ (58:Int).toNat=10^ 58:=rfl
  have num:∀j:Int,-(10^ 58+ 1)<=j->j<=10^ 58+ 1->lC (.int j)=true:=fun j h1 h2=>by
   have e3:(10:Int)^ 58+ 1<10^ (60:Int).toNat:=by decide+kernel
   show decide ((if j<0 then-j else j)<10^ (60:Int).toNat)=true
   rw[decide_eq_true_eq]
   split<;>omega
  have p58:(10:Int)<10^ 58:=by decide+kernel
  refine⟨_,rfl,_,_,rfl,rfl,(show(0:Int)<7 by decide),rfl,_,rfl,?_⟩
  refine eR (fun _=> ?_) (fun _=> ?_)
  ·refine⟨sl,fun l hl=> ?_⟩
   refine⟨_,rfl,_,_,rfl,rfl,⟨by decide,by decide⟩,_,_,rfl,rfl,(show(0:Int)<2 by decide),?_⟩
   have s1:=aE.new (o:=.lst [.str ("bad":Str),.str ("odd":Str)]) hl
   have l1:upd H l (.lst [.str ("bad":Str),.str ("odd":Str)]) l=some (.lst [.str ("bad":Str),.str ("odd":Str)]):=aJ
   generalize upd H l (.lst [.str ("bad":Str),.str ("odd":Str)])=H1 at s1 l1|-
   obtain⟨k,ek,z,hz,hk⟩:∃k:Nat,i/ 7% 2=(k:Int)/\∃z:Str,Nl z/\ [V.str ("bad":Str),V.str ("odd":Str)][k]?=some (.str z):=by
    rcases(show i/ 7% 2=0\/ i/ 7% 2=1 by omega)with h|h
    ·exact⟨0,h,"bad",eV.1,rfl⟩
    ·exact⟨1,h,"odd",eV.2.1,rfl⟩
   refine⟨l,_,_,.str z,rfl,rfl,aN.of l1,by rw[ek];exact kP hk,sl,fun p hp=> ?_⟩
   exact q _ _ (.tuple [.str "fault",.str z]) (s1.trans (aE.new hp)) (.inr ⟨p,z,rfl,aJ,rfl,hz⟩) (.inr ⟨z,rfl⟩)
  ·refine⟨_,rfl,_,_,rfl,rfl,(show(0:Int)<7 by decide),rfl,_,rfl,?_⟩
   refine eR (fun _=> ?_) (fun _=> ?_)
   ·have hm:i/ 7% 2=0\/ i/ 7% 2=1:=by omega
    refine⟨_,_,rfl,rfl,⟨by decide,by decide,by decide⟩,_,rfl,_,_,rfl,rfl,⟨by decide,by decide⟩,_,_,rfl,rfl,(show(0:Int)<2 by decide),_,_,rfl,rfl,?_⟩
    exact q _ _ (.int (10^ (58:Int).toNat+ i/ 7% 2)) (aE.refl _) (.inl ⟨_,rfl,rfl,num _ (by rw[e58];omega) (by rw[e58];omega)⟩) (.inl ⟨_,rfl,by rw[e58];omega,by rw[e58];omega⟩)
   ·refine⟨_,rfl,_,_,rfl,rfl,⟨by decide,by decide⟩,_,_,rfl,rfl,(show(0:Int)<4 by decide),_,_,rfl,rfl,?_⟩
    have h4:0<=i/ 7% 4/\i/ 7% 4<4:=by omega
    exact q _ _ (.int (i/ 7% 4- 1)) (aE.refl _) (.inl ⟨_,rfl,rfl,num _ (by omega) (by omega)⟩) (.inl ⟨_,rfl,by omega,by omega⟩)
def fT(is:List Int):PyData:=.int (2* is.sum+ 1)
def a9S(K:Fg):Sp:=fun vs H Q _=>∃(ca l:Addr) (is:List Int) (cs:List V),vs= [.ref ca,.ref l] /\H l=some (.lst (is.map V.int))/\H ca=some (.lst cs)/\cs.length<900/\is.length<=100/\ca≠l/\
 ∀H' v lc,bC ca H H'->H lc=none->H' ca=some (.lst (cs++ [.ref lc]))->H' lc=some (.lst (is.map V.int))->Dt K H' v (fT is)->Q v H'
theorem b7L:bG ["_law_calls","_law_some"] ["_law_calls","_law_some"] (aI uO):=⟨rfl,rfl,rfl,by decide+kernel,rfl,by decide+kernel,by decide+kernel⟩
theorem sN(T:bE K mg):bJ P w K mg base aF 1 "_law_noted" ["_law_calls","_law_some"] (a9S K):=by
 refine T.d_law_noted.known b7L (fun _ _ _ _ _ _ us hl=>eG (fun _ _=>rfl) us hl) (fun vs H Q E h=> ?_) (fun f cdv A outer s H vs Q E hr h=> ?_)
 ·obtain⟨ca,l,is,cs,rfl,_⟩:=h
  rfl
 ·obtain⟨ca,l,is,cs,rfl,hl,hca,cl,l1,ncl,q⟩:=h
  refine⟨_,(aK (bY (iC PySem.F.plainAttrs_list PySem.F.slot_list_append PySem.F.type_list_append gQ (pv 0) (aB (kE lV rfl T.list gM (aB (pv 1) aG)) aG)))
   (aL (bP (bW fS (bW oQ aY (dN (b1t rfl) rfl T.sum b1i (aB (pv 1) aG))) aY)))),?_⟩
  refine⟨_,rfl,.inl ⟨rfl,_,aN.of hca⟩,_,rfl,l,_,rfl,.inl (aN.of hl),fun lc hlc=> ?_⟩
  have s1:=aE.new (o:=.lst (is.map V.int)) hlc
  have c1:upd H lc (.lst (is.map V.int)) lc=some (.lst (is.map V.int)):=aJ
  generalize upd H lc (.lst (is.map V.int))=H1 at s1 c1|-
  refine⟨ca,_,_,rfl,rfl,s1 _ _ hca,dD (by omega),?_⟩
  have u2:bC ca H1 (upd H1 ca (.lst (cs++ [.ref lc]))):=bC.upd
  have c2:upd H1 ca (.lst (cs++ [.ref lc])) ca=some (.lst (cs++ [.ref lc])):=aJ
  generalize upd H1 ca (.lst (cs++ [.ref lc]))=H2 at u2 c2|-
  have nlc:lc≠ca:=fun y=>by rw[y,hca]at hlc;cases hlc
  refine⟨_,rfl,l,is,rfl,aN.of (u2 _ _ ncl.symm (s1 _ _ hl)),_,_,rfl,rfl,.inl ⟨by decide,by decide⟩,_,_,rfl,rfl,?_⟩
  exact q H2 _ lc (fun b o n e=>u2 _ _ n (s1 _ _ e)) hlc c2 (u2 _ _ nlc c1) (.int _)
def a9F(K:Fg)(H H':Hp)(v:V):PyData ⊕ List Int->Prop
 | .inl d=>Pv K H' v d
 | .inr is=>∃l,v= .ref l/\H l=none/\H' l=some (.lst (is.map V.int))
theorem Pv.tupD{H:Hp}{v:V}{d:PyData}(h:Pv K H v d):decide (gF d= .tup)=My.isT d:=by
 rcases h with⟨i,_,rfl,_⟩|⟨a,y,_,_,rfl,_⟩<;>rfl
def mE(K:Fg)(H:Hp)(ks:List (aA×V))(p:Nat)(z:Str)(d:PyData):Prop:=∃l ys v,aM ks (.inr z:aA)=some (.ref l)/\H l=some (.lst ys)/\cG ys (p:Int)=some v/\Pv K H v d
theorem mE.same{H H':Hp}{ks:List (aA×V)}{p:Nat}{z:Str}{d:PyData}(s:aE H H')(h:mE K H ks p z d):mE K H' ks p z d:=by
 obtain⟨l,ys,v,a,b,c,e⟩:=h
 exact⟨l,ys,v,a,s _ _ b,c,e.same s⟩
def b0q(K:Fg):Sp:=fun vs H Q _=>∃(ln hd:Addr) (p:Nat) (zs:List Str) (ks:List (aA×V)) (ds:List PyData),vs= [.ref ln,.ref hd,.int (p:Int)] /\H ln=some (.lst (zs.map V.str))/\H hd=some (.dK ks)/\Paired (mE K H ks p) zs ds/\zs.length<=6/\∀H' v,aE H H'->a9F K H H' v (fY ds [])->Q v H'
abbrev Nll:List Str:=["_law_names","_law_held","_law_place","_law_some","_law_name","_law_value_here"]
theorem yJ:bG Nll ["_law_names","_law_held","_law_place"] (aI sP):=⟨rfl,rfl,rfl,by decide+kernel,rfl,by decide+kernel,by decide+kernel⟩
theorem vQ(T:bE K mg):bJ P w K mg base aF 1 "_law_list" ["_law_names","_law_held","_law_place"] (b0q K):=by
 refine T.d_law_list.known yJ (fun _ _ _ _ _ _ us hl=>hV (fun _ _ _=>rfl) us hl) (fun vs H Q E h=> ?_) (fun f cdv A outer s H vs Q E hr h=> ?_)
 ·obtain⟨ln,hd,p,zs,ks,ds,rfl,_⟩:=h
  rfl
 ·obtain⟨ln,hd,p,zs,ks,ds,rfl,hln,hhd,hp,z6,q⟩:=h
  have hu:=cU hr
  refine⟨_,(aK (bN (i:=3) yJ.nd rfl (Or.inl rfl) (eO aG))
   (aK (iG PassesOwn.never rfl (iS (pv 0)) (eM (i:=4) yJ.nd rfl (Or.inl rfl)) (aK (bN (i:=5) yJ.nd rfl (Or.inl rfl) (cT gG (eE hu (pv 1) (pv 4) (fun _ _=>rfl)) (pv 2) (fun _ _=>rfl)))
   (aK (bM (dZ (dN jN rfl T.isinstance iH (aB (pv 5) (aB (iQ T.tuple zD) aG))) (fun _=>rfl)) (aL (bP (pv 5))) bS)
   (aL (bY (iC PySem.F.plainAttrs_list PySem.F.slot_list_append PySem.F.type_list_append gQ (pv 3) (aB (pv 5) aG)))))))
   (aL (bP (pv 3))))),?_⟩
  have lzd:zs.length=ds.length:=Paired.length hp
  refine⟨sl,fun nl hnl=> ?_⟩
  have s1:=aE.new (o:=.lst []) hnl
  have n1:upd H nl (.lst []) nl=some (.lst []):=aJ
  generalize upd H nl (.lst [])=H1 at s1 n1|-
  refine⟨_,rfl,ln,rfl,⟨_,aN.of (s1 _ _ hln)⟩,?_⟩
  refine kK (K:=K) (a:=ln) (xs:=zs.map V.str) (fun i σ H2=>∃o4 o5 is,σ= [some (.ref ln),some (.ref hd),some (.int (p:Int)),some (.ref nl),o4,o5] /\aE H H2/\H2 nl=some (.lst (is.map V.int))/\is.length<=i/\fY (ds.drop i) is=fY ds []) ⟨_,_,[],rfl,s1,n1,Nat.le_refl _,rfl⟩ (by rintro i σ H2 _ ⟨_,_,_,_,s2,_⟩;exact aN.of (s2 _ _ hln)) ?_ ?_
  ·rintro i x σ H2 hx ⟨o4,o5,is,rfl,s2,h2,li,ht⟩
   rw[List.getElem?_map]at hx
   cases e:zs[i]? with
   |none=>rw[e]at hx;cases hx
   |some z=>
    rw[e]at hx
    cases hx
    have hi:i<zs.length:=(List.getElem?_eq_some_iff.mp e).1
    obtain⟨d,hdi,hrow⟩:=yG hp e
    obtain⟨l,ys,v,g1,g2,g3,g4⟩:=hrow.same s2
    rw[a9I hdi,a48]at ht
    refine⟨_,rfl,_,rfl,hd,_,rfl,g1▸bQ.k (k:=Sum.inr z) (s2 _ _ hhd),_,rfl,l,_,_,v,rfl,rfl,aN.of g2,g3,?_⟩
    refine⟨_,rfl,v,"tuple",d,_,rfl,g4.dt,zE K _,_,rfl,?_⟩
    rw[g4.tupD]
    rcases g4 with⟨j,rfl,rfl,bj⟩|⟨b,y,rfl,w1,rfl,hy⟩
    ·rw[if_neg (show¬isT (.int j)=true from Bool.false_ne_true)]at ht
     refine bL ⟨_,rfl,.inl ⟨rfl,_,aN.of h2⟩,_,rfl,nl,_,_,rfl,rfl,h2,dD (by rw[List.length_map];omega),?_⟩
     exact⟨_,_,is++ [j],rfl,s2.on hnl,by rw[aJ,List.map_append];rfl,by rw[List.length_append];show is.length+ 1<=i+ 1;omega,ht⟩
    ·rw[if_pos (show isT (.tuple _)=true from rfl)]at ht
     refine dM ⟨_,rfl,q _ _ s2 ?_⟩
     rw[<- ht]
     exact .inr ⟨b,y,rfl,w1,rfl,hy⟩
  ·rintro σ H2 ⟨o4,o5,is,rfl,s2,h2,li,ht⟩
   rw[List.length_map,lzd,List.drop_length]at ht
   refine⟨_,rfl,q _ _ s2 ?_⟩
   rw[<- ht]
   exact⟨nl,rfl,hnl,h2⟩
def b2b(CS CB CT:Addr):Sp:=fun vs H Q _=>∃(s bd ch fi dx:Addr) (kb:List (aA×V)) (nm t:Str) (B:BM),vs= [.ref s,.str nm,.str t] /\H s=some (.ins CS dx (dG bd ch fi))/\H bd=some (.dK kb)/\Nl nm/\aM kb (.inr nm:aA)=some (.ref B.b)/\cD CB CT H B/\Nl t/\t∈B.ord/\∀H',aE H H'->Q (.bl (aM B.rus (.inr t:aA)).isSome) H'
theorem b36:bG ["self","table","column"] ["self","table","column"] (aI sV):=⟨rfl,rfl,rfl,by decide+kernel,rfl,by decide+kernel,by decide+kernel⟩
theorem wN(T:bE K mg){CS CB CT:Addr}(Y:eT K mg CS)(W:cO K mg CB):aT P w K mg base aF 4 CS "is_ruled" ["self","table","column"] (b2b CS CB CT):=by
 have G_with:aT P w K mg base aF 3 CS "board_with" ["self","table","column"] (a0f CS CB CT):=oG T Y W
 refine Y.m_is_ruled.known b36 (fun _ _ _ _ _ _ us hl=>hV (fun _ _ _=>rfl) us hl) (fun vs H Q E h=> ?_) (fun f cdv A outer s H vs Q E hr h=> ?_)
 ·obtain⟨s',bd,ch,fi,dx,kb,nm,t,B,rfl,_⟩:=h
  rfl
 ·obtain⟨s',bd,ch,fi,dx,kb,nm,t,B,rfl,h1,h2,hn,hv,hB,ht,ho,q⟩:=h
  have hu:=cU hr
  refine⟨_,(aL (bP (xU (mT hu (pv 2) (aX (bZ (pv 0) Y.cl G_with hr aR (aB (pv 1) (aB (pv 2) aG))) rfl))))),?_⟩
  refine⟨_,rfl,_,rfl,s',dx,_,rfl,h1,fA,_,rfl,_,rfl,s',bd,ch,fi,dx,kb,nm,t,B,rfl,h1,h2,hn,hv,hB,ht,ho,fun H1 s1=> ?_⟩
  obtain⟨dB,b1⟩:=(hB.same s1).at_
  exact⟨B.b,CB,dB,_,_,rfl,b1,W.cl,W.n_rules,(dL _ _ _ _).2.1,B.ru,_,rfl,bQ.k (k:=Sum.inr t) (hB.same s1).rul,q H1 s1⟩
def b0I(CS CB CT:Addr):Sp:=fun vs H Q _=>∃(s bd ch fi dx:Addr) (kb:List (aA×V)) (nm:Str) (B:BM),vs= [.ref s,.str nm] /\H s=some (.ins CS dx (dG bd ch fi))/\H bd=some (.dK kb)/\Nl nm/\aM kb (.inr nm:aA)=some (.ref B.b)/\cD CB CT H B/\∀H' l,aE H H'->H l=none->H' l=some (.lst (B.ord.map V.str))->Q (.ref l) H'
theorem b6V:bG ["self","table"] ["self","table"] (aI xF):=⟨rfl,rfl,rfl,by decide+kernel,rfl,by decide+kernel,by decide+kernel⟩
theorem sU(T:bE K mg){CS CB CT:Addr}(Y:eT K mg CS)(W:cO K mg CB):aT P w K mg base aF 3 CS "columns" ["self","table"] (b0I CS CB CT):=by
 have G_of:aT P w K mg base aF 2 CS "board_of" ["self","table"] (xT CS CB CT):=nR T Y
 refine Y.m_columns.known b6V (fun _ _ _ _ _ _ us hl=>eG (fun _ _=>rfl) us hl) (fun vs H Q E h=> ?_) (fun f cdv A outer s H vs Q E hr h=> ?_)
 ·obtain⟨s',bd,ch,fi,dx,kb,nm,B,rfl,_⟩:=h
  rfl
 ·obtain⟨s',bd,ch,fi,dx,kb,nm,B,rfl,h1,h2,hn,hv,hB,q⟩:=h
  refine⟨_,(aL (bP (kE lV rfl T.list gM (aB (aX (bZ (pv 0) Y.cl G_of hr aR (aB (pv 1) aG)) rfl) aG)))),?_⟩
  refine⟨_,rfl,s',dx,_,rfl,h1,fA,_,rfl,s',bd,ch,fi,dx,kb,nm,_,rfl,h1,h2,hn,hv,fun H1 s1=> ?_⟩
  obtain⟨dB,b1⟩:=(hB.same s1).at_
  exact⟨B.b,CB,dB,_,_,rfl,b1,W.cl,W.n_order,(dL _ _ _ _).2.2.2,B.od,_,rfl,.inl (aN.of (hB.same s1).ord),fun l hl=>q _ l (s1.trans (aE.new hl)) (fB s1 hl) aJ⟩
end
structure W5 where
 s:Nat->Addr
 ch:Nat->Addr
 bd:Nat->Addr
 B:Nat->BM
 lc:Nat->Nat->Addr
 hd:Nat->Addr
 hl:Nat->Nat->Addr
 mc:Nat->Nat->Addr
 la:Nat->Nat->Addr
 gr:Addr
 nl:Addr
 fa:Addr
 ca:Addr
 zs:List Str
 m:Nat
def aQ(i:Nat):Nat:=if i=2 then 1 else 0
def bK(i:Nat):Str:=if i=1 then "u" else "t"
def dX(q:Nat):Str:=if q=0 then "a" else "b"
def cI(j:Nat):Str:=if j=0 then "sum" else "twin"
def zF(k:Nat)(t:Str):Option Nat:=if k=0 then(if t= "t" then some 0 else if t= "u" then some 1 else none) else(if t= "t" then some 2 else none)
def uX(c:Str):Option Nat:=if c= "a" then some 0 else if c= "b" then some 1 else none
theorem gD:∀i,i<3->zF (aQ i) (bK i)=some i/\aQ i<2/\Nl (bK i):=by
 intro i hi
 rcases(iK (n:=i))with rfl|rfl|rfl
 ·exact⟨by decide+kernel,by decide,eV.2.2.1⟩
 ·exact⟨by decide+kernel,by decide,eV.2.2.2.1⟩
 ·exact⟨by decide+kernel,by decide,eV.2.2.1⟩
theorem yU:∀q,q<2->uX (dX q)=some q/\Nl (dX q):=by
 intro q hq
 rcases(cA (n:=q))with rfl|rfl
 ·exact⟨by decide+kernel,eV.2.2.2.2.1⟩
 ·exact⟨by decide+kernel,eV.2.2.2.2.2.1⟩
theorem a0l:∀j,j<2->uX (cI j)=none/\Nl (cI j):=by
 intro j hj
 rcases(cA (n:=j))with rfl|rfl
 ·exact⟨by decide+kernel,eV.2.2.2.2.2.2.1⟩
 ·exact⟨by decide+kernel,eV.2.2.2.2.2.2.2⟩
theorem b3o{c:Str}{q:Nat}(h:uX c=some q):c=dX q/\q<2:=by
 unfold uX at h
 split at h
 ·next e=>cases h;exact⟨e,by decide⟩
 ·split at h
  ·next e=>cases h;exact⟨e,by decide⟩
  ·cases h
theorem b7n{k:Nat}{t:Str}{i:Nat}(hk:k<2)(h:zF k t=some i):t=bK i/\i<3/\aQ i=k:=by
 unfold zF at h
 split at h
 ·next e=>
  subst e
  split at h
  ·next e=>cases h;exact⟨e,by decide,rfl⟩
  ·split at h
   ·next e=>cases h;exact⟨e,by decide,rfl⟩
   ·cases h
 ·next e=>
  split at h
  ·next e2=>cases h;exact⟨e2,by decide,by show 1=k;omega⟩
  ·cases h
def iA(k:Nat)(y:Nat->Nat->List V):Str->Str->Option (List V):=fun t c=>match zF k t,uX c with
 |some i,some q=>some (y i q)
 |_,_=>none
theorem b09{y:Nat->Nat->List V}{i q:Nat}(hi:i<3)(hq:q<2):iA (aQ i) y (bK i) (dX q)=some (y i q):=by
 unfold iA
 rw[(gD i hi).1,(yU q hq).1]
theorem a0e{k:Nat}{y:Nat->Nat->List V}{t c:Str}{ys:List V}(hk:k<2)(h:iA k y t c=some ys):∃i q,i<3/\q<2/\aQ i=k/\t=bK i/\c=dX q/\ys=y i q:=by
 unfold iA at h
 split at h
 ·next i q e1 e2=>
  obtain⟨a1,a2,a3⟩:=b7n hk e1
  obtain⟨b1,b2⟩:=b3o e2
  exact⟨i,q,a2,b2,a3,a1,b1,(Option.some.inj h).symm⟩
 ·cases h
theorem b0D{k:Nat}{y:Nat->Nat->List V}{t:Str}{j:Nat}(hj:j<2):iA k y t (cI j)=none:=by
 unfold iA
 rw[(a0l j hj).1]
 split<;>first|rfl|(next e=>cases e)
def qC(W:W5)(k:Nat):List (Str×BM):=if k=0 then [("t",W.B 0),("u",W.B 1)] else [("t",W.B 2)]
theorem lR{W:W5}{i:Nat}(hi:i<3):(bK i,W.B i)∈qC W (aQ i):=by
 rcases(iK (n:=i))with rfl|rfl|rfl
 ·exact List.mem_cons_self
 ·exact List.mem_cons_of_mem _ List.mem_cons_self
 ·exact List.mem_cons_self
theorem nD{W:W5}{k:Nat}(hk:k<2){tb:Str×BM}(h:tb∈qC W k):∃i,i<3/\aQ i=k/\tb=(bK i,W.B i):=by
 rcases(cA (n:=k))with rfl|rfl
 ·have h:tb∈ [((("t":Str),W.B 0):Str×BM),("u",W.B 1)]:=h
  simp only[List.mem_cons,List.not_mem_nil,or_false]at h
  rcases h with rfl|rfl
  ·exact⟨0,by decide,rfl,rfl⟩
  ·exact⟨1,by decide,rfl,rfl⟩
 ·have h:tb∈ [((("t":Str),W.B 2):Str×BM)]:=h
  simp only[List.mem_cons,List.not_mem_nil,or_false]at h
  subst h
  exact⟨2,by decide,rfl,rfl⟩
theorem a8z{i i':Nat}(hi:i<3)(hi':i'<3)(hs:aQ i=aQ i')(h:bK i=bK i'):i=i':=by
 have h1:=(gD i hi).1
 have h2:=(gD i' hi').1
 rw[hs,h,h2]at h1
 exact(Option.some.inj h1).symm
def nH(m k:Nat):List Ky:=(if k=0 then [("t":Str),("u":Str)] else [("t":Str)]).flatMap fun t=> [("a":Str),("b":Str),("sum":Str),("twin":Str)].flatMap fun c=>(List.range m).map fun p=>aW t c p
theorem b4N{m k:Nat}(hm:m<=6):(nH m k).length<=800:=by
 unfold nH
 split<;>simp only[List.flatMap_cons,List.flatMap_nil,List.length_append,List.length_map,List.length_range,List.length_nil]<;>omega
theorem a9H{m i p:Nat}{c:Str}(hi:i<3)(hc:c∈ [("a":Str),("b":Str),("sum":Str),("twin":Str)])(hp:p<m):aW (bK i) c p∈nH m (aQ i):=by
 refine List.mem_flatMap.mpr ⟨bK i,?_,List.mem_flatMap.mpr ⟨c,hc,List.mem_map.mpr ⟨p,List.mem_range.mpr hp,rfl⟩⟩⟩
 rcases(iK (n:=i))with rfl|rfl|rfl
 ·exact List.mem_cons_self
 ·exact List.mem_cons_of_mem _ List.mem_cons_self
 ·exact List.mem_cons_self
theorem zL:(∀q,q<2->dX q∈ [("a":Str),("b":Str),("sum":Str),("twin":Str)])/\∀j,j<2->cI j∈ [("a":Str),("b":Str),("sum":Str),("twin":Str)]:=by
 refine⟨fun q hq=> ?_,fun j hj=> ?_⟩
 ·rcases(cA (n:=q))with rfl|rfl<;>decide+kernel
 ·rcases(cA (n:=j))with rfl|rfl<;>decide+kernel
structure kC(W:W5)(r:Addr->Nat):Prop where
 ch:∀k,k<2->r (W.ch k)=180+ k
 bd:∀k,k<2->r (W.bd k)=200+ k
 br:∀i,i<3->r (W.B i).r=100+ i/\r (W.B i).od=110+ i/\r (W.B i).e=210+ i/\r (W.B i).ru=220+ i/\r (W.B i).me=230+ i
 lc:∀i q,i<3->q<2->r (W.lc i q)=120+ 2* i+ q
 hl:∀i q,i<3->q<2->r (W.hl i q)=140+ 2* i+ q
 mc:∀i j,i<3->j<2->r (W.mc i j)=190+ 2* i+ j
 la:∀i j,i<3->j<2->r (W.la i j)=170+ 2* i+ j
 hd:∀i,i<3->r (W.hd i)=240+ i
 ca:r W.ca=160
 nl:r W.nl=161
theorem fP{r:Addr->Nat}{x y:Addr}{a b i j:Nat}(h1:r x=a+ i)(h2:r y=b+ j)(hi:i<6)(hj:j<6)(h:(Nat.ble (a+ 6) b||Nat.ble (b+ 6) a)=true):x≠y:=fun e=>by
 rw[e,h2]at h1
 rw[Bool.or_eq_true,Nat.ble_eq,Nat.ble_eq]at h
 omega
theorem kL{r:Addr->Nat}{x y:Addr}{b j:Nat}(h1:r x=0)(h2:r y=b+ j)(h:Nat.ble 1 b=true):x≠y:=fun e=>by
 rw[e,h2]at h1
 rw[Nat.ble_eq]at h
 omega
theorem oJ{n:Nat}(h:n<3):n<6:=Nat.lt_trans h (by decide)
theorem lt26{n:Nat}(h:n<2):n<6:=Nat.lt_trans h (by decide)
theorem lt2q{i q:Nat}(h:i<3)(h':q<2):2* i+ q<6:=by omega
noncomputable def far (a:Nat):Bool:=a==0||a==100||a==110||a==160||a==161||a==170
theorem far3{l a j k i q c b d:Nat}(rc:c=180+ k)(rl:b=120+ 2* i+ q)(rh:d=140+ 2* i+ q)(hk:k<2)(hi:i<3)(hq:q<2)(h:l=a+ j)(hj:j<6)(f:far a=true):l≠c/\l≠b/\l≠d:=by
 unfold far at f
 simp only[Bool.or_eq_true,beq_iff_eq]at f
 omega
theorem zA{k i q c b d:Nat}(rc:c=180+ k)(rl:b=120+ 2* i+ q)(rh:d=140+ 2* i+ q)(hk:k<2)(hi:i<3)(hq:q<2):c≠d/\b≠d:=by omega
structure jZ(W:W5):Prop where
 kv:∀i q,i<3->q<2->aM (W.B i).kvs (.inr (dX q):aA)=some (.ref (W.lc i q))
 r1:∀i j,i<3->j<2->aM (W.B i).rus (.inr (cI j):aA)=some (.ref W.gr)
 r2:∀i q,i<3->q<2->aM (W.B i).rus (.inr (dX q):aA)=none
 me:∀i j,i<3->j<2->aM (W.B i).mes (.inr (cI j):aA)=some (.ref (W.mc i j))
 xs:∀i,i<3->(W.B i).xs=fI 0 W.m
 od:∀i,i<3->(W.B i).ord= [("a":Str),("b":Str),("sum":Str),("twin":Str)]
 m0:0<W.m
 m6:W.m<=6
 zs:∀z∈W.zs,z= "a"\/ z= "b"
 z6:W.zs.length<=6
noncomputable def X5 (W:W5) (fi fd lk:Nat->Addr) (y:Nat->Nat->List V) (i j:Nat):jY:=⟨fi (aQ i),W.bd (aQ i),fd (aQ i),lk (aQ i),qC W (aQ i),nH W.m (aQ i),iA (aQ i) y,bK i,cI j,W.B i,W.gr,W.fa,W.ca,W.mc i j,fM W.nl W.fa,fT,fun _=>True⟩
theorem ok5{W:W5}(O:jZ W){y:Nat->Nat->List V}(hy:∀i q,i<3->q<2->(y i q).length=W.m){k:Nat}(hk:k<2):Ok3 (qC W k) (nH W.m k) (iA k y):=by
 refine⟨b4N O.m6,fun t c ys g=> ?_⟩
 obtain⟨i,q,hi,hq,rfl,rfl,rfl,rfl⟩:=a0e hk g
 refine⟨W.B i,lR hi,(yU q hq).2,(gD i hi).2.2,O.r2 i q hi hq,by rw[hy i q hi hq,O.xs i hi,mS],fun p hp=>a9H hi (zL.1 q hq) (by rw[hy i q hi hq]at hp;exact hp)⟩
theorem go5{W:W5}(O:jZ W){r:Addr->Nat}(L:kC W r){fi fd lk:Nat->Addr}(fl:∀k,k<2->fd k≠lk k){y:Nat->Nat->List V}(hy:∀i q,i<3->q<2->(y i q).length=W.m){i j:Nat}(hi:i<3)(hj:j<2):qJ (X5 W fi fd lk y i j):=by
 have hk:=(gD i hi).2.1
 have lx:(W.B i).xs.length=W.m:=by rw[O.xs i hi,mS]
 have ne:∀{a b:Addr},r a≠r b->a≠b:=fun h e=>h (by rw[e])
 have lm:=L.mc i j hi hj
 have lca:=L.ca
 refine⟨ok5 O hy hk,lR hi,O.r1 i j hi hj,O.me i j hi hj,b0D hj,fun p hp=>a9H hi (zL.2 j hj) (by rw[<- lx];exact hp),⟨(nC _ _).1,(nC _ _).2.2.2.2⟩,(nC _ _).2.2.2.1,fun is _=>a0a _,fl _ hk,ne (by have:=L.bd _ hk;show r (W.mc i j)≠r (W.bd (aQ i));omega),fun tb htb=> ?_,fun tb htb=> ?_,fun t c ys B g h=> ?_⟩
 ·obtain⟨i',hi',_,rfl⟩:=nD hk htb
  obtain⟨_,_,b3,b4,b5⟩:=L.br i' hi'
  exact⟨ne (by show r (W.mc i j)≠r (W.B i').e;omega),ne (by show r (W.mc i j)≠r (W.B i').ru;omega),ne (by show r (W.mc i j)≠r (W.B i').me;omega)⟩
 ·obtain⟨i',hi',_,rfl⟩:=nD hk htb
  obtain⟨b1,b2,_⟩:=L.br i' hi'
  exact⟨ne (by show r W.ca≠r (W.B i').r;omega),ne (by show r W.ca≠r (W.B i').od;omega)⟩
 ·obtain⟨i',q,hi',hq,e1,rfl,rfl,rfl⟩:=a0e hk g
  obtain⟨i2,hi2,e2,e3⟩:=nD hk h
  have e4:bK i'=bK i2:=(Prod.mk.inj e3).1
  have e5:B=W.B i2:=(Prod.mk.inj e3).2
  have:i'=i2:=a8z hi' hi2 (by rw[e1,e2]) e4
  subst this
  rw[e5,O.kv i' q hi' hq]
  intro z
  have hz:=V.ref.inj (Option.some.inj z)
  have:=L.lc i' q hi' hq
  rw[hz]at this
  have h2:r W.ca=120+ 2* i'+ q:=this
  omega
def jL(m:Nat)(mk:List (aA×V)):Prop:=(mk.map (·.1)).Nodup/\∀k∈mk.map (·.1),∃p:Nat,p<m/\k=(.inl (p:Int):aA)
theorem jL.nil{m:Nat}:jL m []:=⟨List.nodup_nil,fun k hk=>by cases hk⟩
theorem jL.len{m:Nat}{mk:List (aA×V)}(h:jL m mk)(hm:m<=30):mk.length<=30:=by
 have:=a87 (m:=(List.range m).map fun p:Nat=>(.inl (p:Int):aA)) h.1 fun k hk=>by
  obtain⟨p,hp,rfl⟩:=h.2 k hk
  exact List.mem_map.mpr ⟨p,List.mem_range.mpr hp,rfl⟩
 rw[List.length_map,List.length_map,List.length_range]at this
 omega
theorem jL.put{m p:Nat}{mk:List (aA×V)}{v:V}(h:jL m mk)(hp:p<m):jL m (aS mk (.inl (p:Int):aA) v):=by
 cases e:aM mk (.inl (p:Int):aA)with
 |some x=>
  have hk:(aS mk (.inl (p:Int):aA) v).map (·.1)=mk.map (·.1):=by
   unfold aS
   rw[mR,e,if_pos (show(some x).isSome=true from rfl),List.map_map]
   refine List.map_congr_left fun q _=> ?_
   show(if q.1=_ then _ else _:aA×V).1=q.1
   split<;>rfl
  unfold jL
  rw[hk]
  exact h
 |none=>
  refine⟨a98 v h.1 e,fun k hk=> ?_⟩
  rw[a7B v e,List.map_append]at hk
  rcases List.mem_append.mp hk with hk|hk
  ·exact h.2 k hk
  ·rw[List.mem_singleton.mp hk]
   exact⟨p,hp,rfl⟩
def kF(H H':Hp):Prop:=∀b o,(∀u,o≠Fz u)->H b=some o->H' b=some o
theorem kF.of{H H':Hp}(s:aE H H'):kF H H':=fun b o _ e=>s _ _ e
theorem kF.t{H H':Hp}(s:kF H H'):cJ H H':=fun a xs e=>s _ _ (fun _ y=>by cases y) e
section
variable{P:Program}{w:World}{K:Fg}{mg:Str->Option Value}{base:Heap}
theorem cD.keepN{CB CT:Addr}{H H':Hp}{B:BM}(s:kF H H')(h:cD CB CT H B):cD CB CT H' B:=by
 obtain⟨⟨d1,b1⟩,⟨⟨d2,b2⟩,b3,b4⟩,b5,b6,b7⟩:=h
 exact⟨⟨d1,s _ _ (fun _ y=>by cases y) b1⟩,⟨⟨d2,s _ _ (fun _ y=>by cases y) b2⟩,s _ _ (fun _ y=>by cases y) b3,s _ _ (fun _ y=>by cases y) b4⟩,s _ _ (fun _ y=>by cases y) b5,s _ _ (fun _ y=>by cases y) b6,s _ _ (fun _ y=>by cases y) b7⟩
theorem a3G{H H':Hp}{v:V}{d:PyData}(hv:Vd d)(h:Dt K H v d)(u:∀x o,(∃xs,o= .tup xs\/ ∃q,o= .frz q (.tup xs))->H x=some o->H' x=some o):Dt K H' v d:=by
 rcases hv with⟨i,rfl,hb⟩|⟨z,rfl,hz⟩
 ·cases h
  exact .int i
 ·cases h with
  |tup hq hall=>
   cases hall with
   |cons h1 t=>
    cases h1
    cases t with
    |cons h2 t=>
     cases h2
     cases t
     refine .tup ?_ (.cons (.str _) (.cons (.str _) .nil))
     rcases hq with h|h
     ·rcases h with h|⟨o,h⟩
      ·exact .inl (.inl (u _ _ ⟨_,.inl rfl⟩ h))
      ·exact .inl (.inr ⟨o,u _ _ ⟨_,.inr ⟨o,rfl⟩⟩ h⟩)
     ·exact .inr h
theorem tupN{H H':Hp}(s:kF H H'):∀x o,(∃xs,o= .tup xs\/ ∃q,o= .frz q (.tup xs))->H x=some o->H' x=some o:=fun x o ⟨xs,h⟩ e=>s x o (fun u y=>by
 rcases h with rfl|⟨q,rfl⟩
 ·cases y
 ·unfold Fz at y
  cases y) e
theorem dA.keepN{CF CB CT:Addr}{H H':Hp}{fi bd fd lk:Addr}{nm:Str}{B:BM}{kf:List (Ky×V)}(s:kF H H')(F:dA CF CB CT H fi bd fd lk nm B kf):dA CF CB CT H' fi bd fd lk nm B kf:=
 ⟨F.fin.imp fun _ e=>s _ _ (fun _ y=>by cases y) e,F.bds.imp fun _ e=>⟨s _ _ (fun _ y=>by cases y) e.1,e.2⟩,F.B.keepN s,s _ _ (fun _ y=>by cases y) F.fnd,F.len⟩
def nI(m:Nat)(r:Addr->Nat)(H:Hp)(ls:List V)(wl:Nat->Option (List Int)):Prop:=∀p,p<m->match wl p with
 |none=>ls[p]?=some .non
 |some is=>∃lp,ls[p]?=some (.ref lp)/\H lp=some (.lst (is.map V.int))/\r lp=0
def nJ(r:Addr->Nat)(H:Hp)(mk:List (aA×V))(p:Int):Option (List Int×V)->Prop
 |none=>aM mk (.inl p:aA)=none
 |some jv=>∃tp lo,aM mk (.inl p:aA)=some (.ref tp)/\H tp=some (.tup [.ref lo,jv.2])/\H lo=some (.lst (jv.1.map V.int))/\r lo=0
theorem nJ.o{r:Addr->Nat}{H:Hp}{mk:List (aA×V)}{p:Int}:∀{wo:Option (List Int×V)},nJ r H mk p wo->pP H mk p wo
 |none,h=>h
 |some jv,⟨tp,lo,a,b,c,_⟩=>⟨tp,lo,a,b,c⟩
def pI(K:Fg)(m:Nat)(r:Addr->Nat)(H:Hp)(mk:List (aA×V))(wo:Nat->Option (List Int×V)):Prop:=∀p:Nat,p<m->nJ r H mk (p:Int) (wo p)/\∀is v,wo p=some (is,v)->Dt K H v (gC (fT is))
def oR(K:Fg)(H:Hp)(v:V)(wp:Option (List Int×V)):PyData ⊕ List Int->Prop
 | .inl d=>Pv K H v d
 | .inr is=>wp=some (is,v)
def gI(W:W5)(d:Nat->Nat->List PyData)(i p:Nat):PyData ⊕ List Int:=fY (W.zs.map fun(z:Str)=>(d i (if z=("a":Str) then 0 else 1)).getD p .none) []
structure cS(K:Fg)(CS CF CB CT CG zt:Addr)(Hz:Hp)(W:W5)(r:Addr->Nat)(fi fd lk:Nat->Addr)(y:Nat->Nat->List V)(d:Nat->Nat->List PyData)(kf kl:Nat->List (Ky×V))(mk:Nat->Nat->List (aA×V))(csh:Nat->List V)(ls:Nat->Nat->List V)(wl:Nat->Nat->Nat->Option (List Int))(wo:Nat->Nat->Nat->Option (List Int×V))(H:Hp):Prop where
 old:aE Hz H
 lb:∀x,r x≠0->H x≠none
 F:∀k,k<2->∀tb∈qC W k,dA CF CB CT H (fi k) (W.bd k) (fd k) (lk k) tb.1 tb.2 (kf k)
 ko:∀k,k<2->eS (nH W.m k) (kf k)
 fo:∀k,k<2->∀t c p v ys,iA k y t c=some ys->aM (kf k) (aW t c p)=some v->cG ys (p:Int)=some v
 hl:∀k,k<2->H (lk k)=some (.dT (kl k))
 lo:∀k,k<2->eS (nH W.m k) (kl k)
 fl:∀k,k<2->fd k≠lk k
 fx:∀k k',k<2->k'<2->k≠k'->fd k≠fd k'/\lk k≠lk k'/\fd k≠lk k'
 co:∀i q,i<3->q<2->H (W.lc i q)=some (.lst (y i q))/\(y i q).length=W.m/\cM K H (y i q) (d i q)/\∀x∈d i q,Bv x
 gr:∃dx,H W.gr=some (.ins CG dx (fM W.nl W.fa))
 nl:H W.nl=some (.lst (W.zs.map V.str))
 mc:∀i j,i<3->j<2->H (W.mc i j)=some (.dK (mk i j))/\jL W.m (mk i j)
 sh:∀k,k<2->∃dx,H (W.s k)=some (.ins CS dx (dG (W.bd k) (W.ch k) (fi k)))
 ch:∀k,k<2->H (W.ch k)=some (.lst (csh k))
 hd:∀i,i<3->H (W.hd i)=some (.dK [((.inr "a":aA),V.ref (W.hl i 0)),((.inr "b":aA),V.ref (W.hl i 1))])
 he:∀i q,i<3->q<2->∃zs,H (W.hl i q)=some (.lst zs)/\cM K H zs (d i q)
 la:∀i j,i<3->j<2->H (W.la i j)=some (.lst (ls i j))/\(ls i j).length=W.m/\nI W.m r H (ls i j) (wl i j)
 me:∀i j,i<3->j<2->pI K W.m r H (mk i j) (wo i j)
 fn:∀i j p v,i<3->j<2->p<W.m->aM (kf (aQ i)) (aW (bK i) (cI j) p)=some v->oR K H v (wo i j p) (gI W d i p)
 tb:gA iR H zt
section
variable{CS CF CB CT CG zt:Addr}{Hz:Hp}{W:W5}{r:Addr->Nat}{fi fd lk:Nat->Addr}{y:Nat->Nat->List V}{d:Nat->Nat->List PyData}{kf kl:Nat->List (Ky×V)}{mk:Nat->Nat->List (aA×V)}{csh:Nat->List V}{ls:Nat->Nat->List V}{wl:Nat->Nat->Nat->Option (List Int)}{wo:Nat->Nat->Nat->Option (List Int×V)}{H H':Hp}
theorem nI.mv{m:Nat}{ls:List V}{wl:Nat->Option (List Int)}(u:∀x ys,r x=0->H x=some (.lst ys)->H' x=some (.lst ys))(h:nI m r H ls wl):nI m r H' ls wl:=fun p hp=>by
 have:=h p hp
 revert this
 split
 ·exact id
 ·exact fun⟨lp,a,b,c⟩=>⟨lp,a,u _ _ c b,c⟩
theorem nJ.mv{mk:List (aA×V)}{p:Int}(u:∀x ys,r x=0->H x=some (.lst ys)->H' x=some (.lst ys))(k:cJ H H'):∀{wo:Option (List Int×V)},nJ r H mk p wo->nJ r H' mk p wo
 |none,h=>h
 |some jv,⟨tp,lo,a,b,c,e⟩=>⟨tp,lo,a,k _ _ b,u _ _ e c,e⟩
theorem pI.mv{m:Nat}{mk:List (aA×V)}{wo:Nat->Option (List Int×V)}(u:∀x ys,r x=0->H x=some (.lst ys)->H' x=some (.lst ys))(k:∀x o,(∃xs,o= .tup xs\/ ∃q,o= .frz q (.tup xs))->H x=some o->H' x=some o)(h:pI K m r H mk wo):pI K m r H' mk wo:=fun p hp=>
 ⟨(h p hp).1.mv u (fun a xs e=>k _ _ ⟨xs,.inl rfl⟩ e),fun is v e=>a3G (a0a _).2 ((h p hp).2 is v e) k⟩
theorem oR.keep{v:V}{wp:Option (List Int×V)}(k:cJ H H'):∀{t:PyData ⊕ List Int},oR K H v wp t->oR K H' v wp t
 | .inl d,h=>Pv.keep (K:=K) k h
 | .inr is,h=>h
theorem cS.mv(s:kF H H')(o':aE Hz H')(tb':gA iR H' zt)(lb':∀x,r x≠0->H' x≠none)(N:cS K CS CF CB CT CG zt Hz W r fi fd lk y d kf kl mk csh ls wl wo H):cS K CS CF CB CT CG zt Hz W r fi fd lk y d kf kl mk csh ls wl wo H' where
 old:=o'
 lb:=lb'
 F:=fun k hk tb h=>(N.F k hk tb h).keepN s
 ko:=N.ko
 fo:=N.fo
 hl:=fun k hk=>s _ _ (fun _ y=>by cases y) (N.hl k hk)
 lo:=N.lo
 fl:=N.fl
 fx:=N.fx
 co:=fun i q hi hq=>let ⟨a,b,c,e⟩:=N.co i q hi hq;⟨s _ _ (fun _ y=>by cases y) a,b,c.keep s.t,e⟩
 gr:=N.gr.imp fun _ e=>s _ _ (fun _ y=>by cases y) e
 nl:=s _ _ (fun _ y=>by cases y) N.nl
 mc:=fun i j hi hj=>⟨s _ _ (fun _ y=>by cases y) (N.mc i j hi hj).1,(N.mc i j hi hj).2⟩
 sh:=fun k hk=>(N.sh k hk).imp fun _ e=>s _ _ (fun _ y=>by cases y) e
 ch:=fun k hk=>s _ _ (fun _ y=>by cases y) (N.ch k hk)
 hd:=fun i hi=>s _ _ (fun _ y=>by cases y) (N.hd i hi)
 he:=fun i q hi hq=>(N.he i q hi hq).imp fun _ e=>⟨s _ _ (fun _ y=>by cases y) e.1,e.2.keep s.t⟩
 la:=fun i j hi hj=>let ⟨a,b,c⟩:=N.la i j hi hj;⟨s _ _ (fun _ y=>by cases y) a,b,c.mv fun x ys _ e=>s _ _ (fun _ y=>by cases y) e⟩
 me:=fun i j hi hj=>(N.me i j hi hj).mv (fun x ys _ e=>s _ _ (fun _ y=>by cases y) e) (tupN s)
 fn:=fun i j p v hi hj hp e=>(N.fn i j p v hi hj hp e).keep s.t
 tb:=tb'
theorem cS.same(s:aE H H')(N:cS K CS CF CB CT CG zt Hz W r fi fd lk y d kf kl mk csh ls wl wo H):cS K CS CF CB CT CG zt Hz W r fi fd lk y d kf kl mk csh ls wl wo H':=
 N.mv (kF.of s) (N.old.trans s) (nU N.tb fun b o _ _ _ e=>s _ _ e) (fun x hx e=>by
  cases e2:H x with
  |none=>exact N.lb x hx e2
  |some o=>rw[s _ _ e2]at e;cases e)
theorem cS.ga(N:cS K CS CF CB CT CG zt Hz W r fi fd lk y d kf kl mk csh ls wl wo H)(O:jZ W){i j:Nat}(hi:i<3)(hj:j<2)(fn:iU P w K mg base 4 H W.fa W.ca fT (fun _=>True)):gW P w K mg base CF CB CT CG (X5 W fi fd lk y i j) (kf (aQ i)) (kl (aQ i)) (mk i j) H:=by
 have hk:=(gD i hi).2.1
 refine⟨N.F _ hk,N.ko _ hk,N.fo _ hk,N.hl _ hk,N.lo _ hk,fun t c ys B g h=> ?_,N.gr,fn,(N.mc i j hi hj).1⟩
 obtain⟨i',q,hi',hq,e1,rfl,rfl,rfl⟩:=a0e hk g
 obtain⟨i2,hi2,e2,e3⟩:=nD hk h
 have:i'=i2:=a8z hi' hi2 (by rw[e1,e2]) (Prod.mk.inj e3).1
 subst this
 rw[(Prod.mk.inj e3).2]
 exact⟨W.lc i' q,O.kv i' q hi' hq,(N.co i' q hi' hq).1⟩
end
end
def kY(Hz:Hp)(W:W5)(r:Addr->Nat)(zt:Addr):Prop:=∀x o,Hz x=some o->r x=0/\x≠zt/\(∀k,k<2->x≠W.s k)/\∀y,o≠ .dT y
def FrL(r:Addr->Nat)(zt:Addr)(H H':Hp):Prop:=∀x o,r x=0->x≠zt->(∀y,o≠ .dT y)->H x=some o->H' x=some o
section
variable{P:Program}{w:World}{K:Fg}{mg:Str->Option Value}{base:Heap}
theorem aT.mono{CX:fG}{j k:Nat}{C:Addr}{m:Str}{ps:List Str}{sp:Sp}(G:aT P w K mg base CX j C m ps sp)(h:j<=k):aT P w K mg base CX k C m ps sp:=by
 obtain⟨f,fd,F,hm,hb⟩:=G.ex
 exact⟨f,fd,F.mono h,hm,hb⟩
section
variable{CS CF CB CT CG zt:Addr}{Hz:Hp}{W:W5}{r:Addr->Nat}{fi fd lk:Nat->Addr}{y:Nat->Nat->List V}{d:Nat->Nat->List PyData}{kf kl:Nat->List (Ky×V)}{mk:Nat->Nat->List (aA×V)}{csh:Nat->List V}{ls:Nat->Nat->List V}{wl:Nat->Nat->Nat->Option (List Int)}{wo:Nat->Nat->Nat->Option (List Int×V)}{H H':Hp}
theorem a1F(N:cS K CS CF CB CT CG zt Hz W r fi fd lk y d kf kl mk csh ls wl wo H){i p:Nat}(hi:i<3)(hp:p<W.m):∀zs:List Str,(∀z∈zs,z= "a"\/ z= "b")->Paired (lY K (iA (aQ i) y) (bK i) p H) zs (zs.map fun(z:Str)=>(d i (if z=("a":Str) then 0 else 1)).getD p .none)
 | [],_=> .nil
 |z::zs,h=>by
  refine .cons ?_ (a1F N hi hp zs fun x hx=>h x (List.mem_cons_of_mem _ hx))
  have one:∀q,q<2->lY K (iA (aQ i) y) (bK i) p H (dX q) ((d i q).getD p .none):=fun q hq=>by
   obtain⟨a1,a2,a3,a4⟩:=N.co i q hi hq
   have l:(y i q).length=(d i q).length:=Paired.length a3
   obtain⟨v,x,e1,e2,e3⟩:=cM.at a3 (i:=p) (by omega)
   refine⟨y i q,v,b09 hi hq,by omega,kP e1,?_⟩
   rw[List.getD_eq_getElem?_getD,e2]
   exact e3
  rcases h z List.mem_cons_self with rfl|rfl
  ·have e:(if("a":Str)=("a":Str) then 0 else 1)=0:=if_pos rfl
   show lY K (iA (aQ i) y) (bK i) p H "a" ((d i (if("a":Str)=("a":Str) then 0 else 1)).getD p .none)
   rw[e]
   exact one 0 (by decide)
  ·have e:(if("b":Str)=("a":Str) then 0 else 1)=1:=if_neg (by decide+kernel)
   show lY K (iA (aQ i) y) (bK i) p H "b" ((d i (if("b":Str)=("a":Str) then 0 else 1)).getD p .none)
   rw[e]
   exact one 1 (by decide)
theorem a2V{i p:Nat}{is:List Int}(h:gI W d i p= .inr is):is.length=W.zs.length:=by
 have:=b07 h
 rw[List.length_map]at this
 simpa using this
def b2h(K:Fg)(CS CF CB CT CG zt:Addr)(Hz:Hp)(W:W5)(r:Addr->Nat)(fi fd lk:Nat->Addr)(y:Nat->Nat->List V)(d:Nat->Nat->List PyData)(csh:Nat->List V)(ls:Nat->Nat->List V)(wl:Nat->Nat->Nat->Option (List Int))(wo:Nat->Nat->Nat->Option (List Int×V))(i j p:Nat)(H H':Hp)(v:V):Prop:=∃kf' kl' mk' wo' cl',cS K CS CF CB CT CG zt Hz W r fi fd lk y d kf' kl' mk' csh ls wl wo' H'/\H' W.ca=some (.lst cl')/\dC H H'/\FrL r zt H H'/\(∀x o,(∃xs,o= .tup xs\/ ∃q,o= .frz q (.tup xs))->H x=some o->H' x=some o)/\oR K H' v (wo' i j p) (gI W d i p)/\
 ((cl'= [] /\wo'=wo/\∀is,gI W d i p= .inr is->∃v,wo i j p=some (is,v))\/ ∃is lc,cl'= [.ref lc] /\H' lc=some (.lst (is.map V.int))/\gI W d i p= .inr is/\(∀v,wo i j p≠some (is,v))/\wo'=fun i' j' q=>if i'=i/\j'=j/\q=p then some (is,v) else wo i' j' q)
theorem b3G{j j':Nat}(hj:j<2)(hj':j'<2)(h:cI j=cI j'):j=j':=by
 rcases(cA (n:=j))with rfl|rfl<;>rcases(cA (n:=j'))with rfl|rfl
 ·rfl
 ·exact absurd h (by decide+kernel)
 ·exact absurd h (by decide+kernel)
 ·rfl
theorem b2t(O:jZ W)(L:kC W r)(Z:kY Hz W r zt)(N:cS K CS CF CB CT CG zt Hz W r fi fd lk y d kf kl mk csh ls wl wo H){i j p:Nat}(hi:i<3)(hj:j<2)(hp:p<W.m)(hca:H W.ca=some (.lst [])){kf1 kl1:List (Ky×V)}{mk1:List (aA×V)}{v:V}
 (G':gW P w K mg base CF CB CT CG (X5 W fi fd lk y i j) kf1 kl1 mk1 H')(tb':gA iR H' zt)(fr:rC (fd (aQ i)) (lk (aQ i)) zt W.ca (W.mc i j) H H')(hv:aM kf1 (aW (bK i) (cI j) p)=some v)
 (ru:∀t c p',iA (aQ i) y t c=none->aW t c p'≠aW (bK i) (cI j) p->aM kf1 (aW t c p')=aM (kf (aQ i)) (aW t c p'))(en:mV K (X5 W fi fd lk y i j) (p:Int) (wo i j p) (mk i j) mk1 [] v H H' (gI W d i p)):
 b2h K CS CF CB CT CG zt Hz W r fi fd lk y d csh ls wl wo i j p H H' v:=by
 have hk:=(gD i hi).2.1
 have mc0:=(N.mc i j hi hj).1
 have fd0:H (fd (aQ i))=some (.dT (kf (aQ i))):=(N.F _ hk _ (lR hi)).fnd
 have lk0:=N.hl _ hk
 obtain⟨Sz,tz,_⟩:=id N.tb
 have ne:∀{a b:Addr},r a≠r b->a≠b:=fun h e=>h (by rw[e])
 have lca:=L.ca
 have lmc:=L.mc i j hi hj
 have k:∀{x:Addr} {o:HO},H x=some o->(∀y,o≠ .dT y)->(∀y,o≠ .ext y)->x≠W.ca->x≠W.mc i j->H' x=some o:=fun{x o} e n1 n2 n3 n4=>fr x o (fun y=>by rw[y,fd0]at e;exact n1 _ (Option.some.inj e).symm) (fun y=>by rw[y,lk0]at e;exact n1 _ (Option.some.inj e).symm) (fun y=>by rw[y,tz]at e;exact n2 _ (Option.some.inj e).symm) n3 n4 e
 have na:∀{b:Addr} {o:HO},H b=some o->(∀x,o≠ .lst x)->b≠W.ca:=fun e n y=>by rw[y,hca]at e;exact n _ (Option.some.inj e).symm
 have nm:∀{b:Addr} {o:HO},H b=some o->(∀x,o≠ .dK x)->b≠W.mc i j:=fun e n y=>by rw[y,mc0]at e;exact n _ (Option.some.inj e).symm
 have kl0:∀{x:Addr} {ys:List V},H x=some (.lst ys)->r x≠160->H' x=some (.lst ys):=fun e n=>k e (fun _ y=>by cases y) (fun _ y=>by cases y) (ne (by rw[lca];exact n)) (nm e (fun _ y=>by cases y))
 have kd0:∀{x:Addr} {ks:List (aA×V)},H x=some (.dK ks)->r x≠190+ 2* i+ j->H' x=some (.dK ks):=fun e n=>k e (fun _ y=>by cases y) (fun _ y=>by cases y) (na e (fun _ y=>by cases y)) (ne (by rw[lmc];exact n))
 have ki:∀{x C dx:Addr} {fs:List (Str×V)},H x=some (.ins C dx fs)->H' x=some (.ins C dx fs):=fun e=>k e (fun _ y=>by cases y) (fun _ y=>by cases y) (na e (fun _ y=>by cases y)) (nm e (fun _ y=>by cases y))
 have klf:∀x ys,r x=0->H x=some (.lst ys)->H' x=some (.lst ys):=fun x ys n e=>kl0 e (by omega)
 have ktf:∀x o,(∃xs,o= .tup xs\/ ∃q,o= .frz q (.tup xs))->H x=some o->H' x=some o:=fun x o ⟨xs,h⟩ e=>by
  rcases h with rfl|⟨q,rfl⟩
  ·exact k e (fun _ y=>by cases y) (fun _ y=>by cases y) (na e (fun _ y=>by cases y)) (nm e (fun _ y=>by cases y))
  ·exact k e (fun _ y=>by cases y) (fun _ y=>by cases y) (na e (fun _ y=>by cases y)) (nm e (fun _ y=>by cases y))
 have kt:cJ H H':=fun a xs e=>ktf a _ ⟨xs,.inl rfl⟩ e
 have kz:dC H H':=fun b u e=>k e (fun _ y=>by cases y) (fun _ y=>by cases y) (na e (fun _ y=>by cases y)) (nm e (fun _ y=>by cases y))
 have frc:FrL r zt H H':=fun x o n1 n2 n3 e=>fr x o (fun y=>by rw[y,fd0]at e;exact n3 _ (Option.some.inj e).symm) (fun y=>by rw[y,lk0]at e;exact n3 _ (Option.some.inj e).symm) n2 (ne (by rw[lca,n1];decide)) (ne (by rw[lmc,n1];omega)) e
 have fd1:H' (fd (aQ i))=some (.dT kf1):=(G'.F _ (lR hi)).fnd
 have lk1:=G'.hl
 have mc1:=G'.mc
 obtain⟨S1,tz1,_⟩:=id tb'
 have ca1:∃cl,H' W.ca=some (.lst cl):=by
  cases ht:gI W d i p with
  |inl d'=>rw[ht]at en;exact⟨_,en.2.2⟩
  |inr is=>
   rw[ht]at en
   rcases en with h|⟨_,lc,tp,sm,_,_,_,h,_⟩
   ·exact⟨_,h.2.2⟩
   ·exact⟨_,h⟩
 obtain⟨cl1,ca1⟩:=ca1
 have oth:∀k',k'<2->k'≠aQ i->∀tb∈qC W k',dA CF CB CT H' (fi k') (W.bd k') (fd k') (lk k') tb.1 tb.2 (kf k'):=fun k' hk' nk tb htb=>by
  obtain⟨i',hi',_,rfl⟩:=nD hk' htb
  have F:=N.F k' hk' _ htb
  obtain⟨x1,x2,x3⟩:=N.fx k' (aQ i) hk' hk nk
  obtain⟨b1,b2,b3,b4,b5⟩:=L.br i' hi'
  have lbd:=L.bd k' hk'
  obtain⟨dx,e1⟩:=F.fin
  obtain⟨kb,e2,e3⟩:=F.bds
  obtain⟨⟨d1,g1⟩,⟨⟨d2,g2⟩,g3,g4⟩,g5,g6,g7⟩:=F.B
  have fdk:=F.fnd
  exact⟨⟨dx,ki e1⟩,⟨kb,kd0 e2 (by omega),e3⟩,⟨⟨d1,ki g1⟩,⟨⟨d2,ki g2⟩,kl0 g3 (by show r (W.B i').r≠160;omega),kd0 g4 (by show r (W.B i').e≠_;omega)⟩,kd0 g5 (by show r (W.B i').ru≠_;omega),kd0 g6 (by show r (W.B i').me≠_;omega),kl0 g7 (by show r (W.B i').od≠160;omega)⟩,fr _ _ x1 x3 (fun y=>by rw[y,tz]at fdk;cases fdk) (na fdk (fun _ y=>by cases y)) (nm fdk (fun _ y=>by cases y)) fdk,F.len⟩
 let kf':Nat->List (Ky×V):=fun k'=>if k'=aQ i then kf1 else kf k'
 let kl':Nat->List (Ky×V):=fun k'=>if k'=aQ i then kl1 else kl k'
 let mk':Nat->Nat->List (aA×V):=fun i' j'=>if i'=i/\j'=j then mk1 else mk i' j'
 have mk_now:∀wo':Nat->Nat->Nat->Option (List Int×V),jL W.m mk1->pI K W.m r H' mk1 (wo' i j)->oR K H' v (wo' i j p) (gI W d i p)->(∀i' j' q,¬(i'=i/\j'=j/\q=p)->wo' i' j' q=wo i' j' q)->cS K CS CF CB CT CG zt Hz W r fi fd lk y d kf' kl' mk' csh ls wl wo' H':=fun wo' mo me' fp he=>by
  have whole:∀i' j',¬(i'=i/\j'=j)->wo' i' j'=wo i' j':=fun i' j' h=>funext fun q=>he i' j' q (fun z=>h ⟨z.1,z.2.1⟩)
  refine⟨fun x o e=> ?_,fun x hx e=> ?_,fun k' hk' tb htb=> ?_,fun k' hk'=> ?_,fun k' hk'=> ?_,fun k' hk'=> ?_,fun k' hk'=> ?_,N.fl,N.fx,fun i' q hi' hq=> ?_,N.gr.imp fun _ e=>ki e,kl0 N.nl (by rw[L.nl];decide),fun i' j' hi' hj'=> ?_,fun k' hk'=>(N.sh k' hk').imp fun _ e=>ki e,fun k' hk'=>kl0 (N.ch k' hk') (by have:=L.ch k' hk';omega),fun i' hi'=>kd0 (N.hd i' hi') (by have:=L.hd i' hi';omega),fun i' q hi' hq=>(N.he i' q hi' hq).imp fun _ e=>⟨kl0 e.1 (by have:=L.hl i' q hi' hq;omega),e.2.keep kt⟩,fun i' j' hi' hj'=> ?_,fun i' j' hi' hj'=> ?_,fun i' j' q v' hi' hj' hq e=> ?_,tb'⟩
  ·obtain⟨z1,z2,z3,z4⟩:=Z x o e
   exact frc x o z1 z2 z4 (N.old _ _ e)
  ·cases e2:H x with
   |none=>exact N.lb x hx e2
   |some o=>
    by_cases y1:x=fd (aQ i)
    ·rw[y1,fd1]at e;cases e
    ·by_cases y2:x=lk (aQ i)
     ·rw[y2]at e
      have lk1:H' (lk (aQ i))=some (.dT kl1):=lk1
      rw[lk1]at e;cases e
     ·by_cases y3:x=zt
      ·rw[y3,tz1]at e;cases e
      ·by_cases y4:x=W.ca
       ·rw[y4,ca1]at e;cases e
       ·by_cases y5:x=W.mc i j
        ·rw[y5]at e
         have mc1:H' (W.mc i j)=some (.dK mk1):=mc1
         rw[mc1]at e;cases e
        ·rw[fr x o y1 y2 y3 y4 y5 e2]at e;cases e
  ·by_cases h:k'=aQ i
   ·subst h
    show dA CF CB CT H' _ _ _ _ _ _ (if aQ i=aQ i then kf1 else _)
    rw[if_pos rfl]
    exact G'.F tb htb
   ·show dA CF CB CT H' _ _ _ _ _ _ (if k'=aQ i then kf1 else kf k')
    rw[if_neg h]
    exact oth k' hk' h tb htb
  ·show eS _ (if k'=aQ i then kf1 else kf k')
   split
   ·next h=>rw[h];exact G'.ko
   ·exact N.ko k' hk'
  ·show∀t c p v ys,iA k' y t c=some ys->aM (if k'=aQ i then kf1 else kf k') (aW t c p)=some v->cG ys (p:Int)=some v
   split
   ·next h=>rw[h];exact G'.fo
   ·exact N.fo k' hk'
  ·show H' (lk k')=some (.dT (if k'=aQ i then kl1 else kl k'))
   split
   ·next h=>rw[h];exact lk1
   ·next h=>
    obtain⟨x1,x2,x3⟩:=N.fx k' (aQ i) hk' hk h
    obtain⟨_,_,x4⟩:=N.fx (aQ i) k' hk hk' (Ne.symm h)
    have e:=N.hl k' hk'
    exact fr _ _ x4.symm x2 (fun y=>by rw[y,tz]at e;cases e) (na e (fun _ y=>by cases y)) (nm e (fun _ y=>by cases y)) e
  ·show eS _ (if k'=aQ i then kl1 else kl k')
   split
   ·next h=>rw[h];exact G'.lo
   ·exact N.lo k' hk'
  ·obtain⟨a1,a2,a3,a4⟩:=N.co i' q hi' hq
   exact⟨kl0 a1 (by have:=L.lc i' q hi' hq;omega),a2,a3.keep kt,a4⟩
  ·show H' (W.mc i' j')=some (.dK (if i'=i/\j'=j then mk1 else mk i' j'))/\jL W.m (if i'=i/\j'=j then mk1 else mk i' j')
   by_cases h:i'=i/\j'=j
   ·rw[if_pos h,h.1,h.2]
    exact⟨mc1,mo⟩
   ·rw[if_neg h]
    obtain⟨a1,a2⟩:=N.mc i' j' hi' hj'
    exact⟨kd0 a1 (by have:=L.mc i' j' hi' hj';omega),a2⟩
  ·obtain⟨a1,a2,a3⟩:=N.la i' j' hi' hj'
   exact⟨kl0 a1 (by have:=L.la i' j' hi' hj';omega),a2,a3.mv klf⟩
  ·show pI K W.m r H' (if i'=i/\j'=j then mk1 else mk i' j') (wo' i' j')
   by_cases h:i'=i/\j'=j
   ·rw[if_pos h,h.1,h.2]
    exact me'
   ·rw[if_neg h,whole i' j' h]
    exact(N.me i' j' hi' hj').mv klf ktf
  ·have e:aM (if aQ i'=aQ i then kf1 else kf (aQ i')) (aW (bK i') (cI j') q)=some v':=e
   by_cases h:i'=i/\j'=j/\q=p
   ·obtain⟨rfl,rfl,rfl⟩:=h
    rw[if_pos rfl,hv]at e
    rw[<- Option.some.inj e]
    exact fp
   ·rw[he i' j' q h]
    by_cases hs:aQ i'=aQ i
    ·rw[if_pos hs,ru _ _ _ (by rw[<- hs];exact b0D hj') (fun z=>by
      obtain⟨z1,z2,z3⟩:=zW z
      exact h ⟨a8z hi' hi hs z1,b3G hj' hj z2,z3⟩),<- hs]at e
     exact(N.fn i' j' q v' hi' hj' hq e).keep kt
    ·rw[if_neg hs]at e
     exact(N.fn i' j' q v' hi' hj' hq e).keep kt
 obtain⟨mm1,mm2⟩:=N.mc i j hi hj
 cases ht:gI W d i p with
 |inl d'=>
  rw[ht]at en
  obtain⟨x1,x2,x3⟩:=en
  subst x2
  exact⟨kf',kl',mk',wo,[],mk_now wo mm2 ((N.me i j hi hj).mv klf ktf) (by rw[ht];exact x1) (fun _ _ _ _=>rfl),x3,kz,frc,ktf,(by rw[ht];exact x1),.inl ⟨rfl,rfl,fun is e=>by rw[ht]at e;cases e⟩⟩
 |inr is=>
  rw[ht]at en
  rcases en with⟨x1,x2,x3⟩|⟨x1,lc,tp,sm,x2,x3,x4,x5,x6,x7,x8,x9,x10⟩
  ·subst x2
   refine⟨kf',kl',mk',wo,[],mk_now wo mm2 ((N.me i j hi hj).mv klf ktf) (by rw[ht];exact x1) (fun _ _ _ _=>rfl),x3,kz,frc,ktf,(by rw[ht];exact x1),.inl ⟨rfl,rfl,fun is' e=> ?_⟩⟩
   rw[ht]at e
   cases e
   exact⟨v,x1⟩
  ·have fp:oR K H' v (if i=i/\j=j/\p=p then some (is,v) else wo i j p) (gI W d i p):=by rw[ht,if_pos ⟨rfl,rfl,rfl⟩];exact rfl
   refine⟨kf',kl',mk',(fun i' j' q=>if i'=i/\j'=j/\q=p then some (is,v) else wo i' j' q),[.ref lc],mk_now _ (by rw[x9];exact mm2.put hp) (fun q hq=> ?_) fp (fun i' j' q h=>if_neg h),x5,kz,frc,ktf,fp,.inr ⟨is,lc,rfl,x6,ht,x1,rfl⟩⟩
   show nJ r H' mk1 (q:Int) (if i=i/\j=j/\q=p then some (is,v) else wo i j q)/\∀is' v',(if i=i/\j=j/\q=p then some (is,v) else wo i j q)=some (is',v')->Dt K H' v' (gC (fT is'))
   by_cases hqp:q=p
   ·rw[if_pos ⟨rfl,rfl,hqp⟩]
    refine⟨⟨tp,sm,by rw[x9,jV,if_pos (by rw[hqp])],x7,x8,?_⟩,fun is' v' e=> ?_⟩
    ·rcases Nat.eq_zero_or_pos (r sm)with h|h
     ·exact h
     ·exact absurd x4 (N.lb sm (by omega))
    ·cases e
     exact x10
   ·rw[if_neg (fun h=>hqp h.2.2)]
    refine⟨?_,fun is' v' e=>a3G (a0a _).2 ((N.me i j hi hj q hq).2 is' v' e) ktf⟩
    have o1:=(N.me i j hi hj q hq).1.mv klf kt
    have ev:aM mk1 (.inl (q:Int):aA)=aM (mk i j) (.inl (q:Int):aA):=by
     rw[x9,jV,if_neg (fun y=>hqp (by have:=Sum.inl.inj y;omega))]
    revert o1
    cases wo i j q with
    |none=>intro o1;show aM mk1 _=none;rw[ev];exact o1
    |some jv=>intro ⟨tp',lo',z1,z2⟩;exact⟨tp',lo',by rw[ev];exact z1,z2⟩
end
theorem b3a{m p:Nat}(h:p<m):cG (fI 0 m) (p:Int)=some (.int (p:Int)):=by
 refine kP ?_
 unfold fI
 rw[List.getElem?_map,List.getElem?_range h]
 show some (V.int (0+ (p:Int)))=_
 rw[Int.zero_add]
section
variable{CS CF CB CT CG zt:Addr}{Hz:Hp}{W:W5}{r:Addr->Nat}{fi fd lk:Nat->Addr}{y:Nat->Nat->List V}{d:Nat->Nat->List PyData}{csh:Nat->List V}{wo:Nat->Nat->Nat->Option (List Int×V)}
theorem b5f(T:bE K mg){CR:Addr}(Y:eT K mg CS)(R:jI K mg CR)(F:eL K mg CF)(Wb:cO K mg CB)(U:dO K mg CT)(Cc:jC K mg CG){z:Addr×Addr}(B2:iF K mg "Finder" "gathered" "Finder.gathered" fD z)(M:gH mg base z.1 z.2)(O:jZ W)(L:kC W r)(Z:kY Hz W r z.2){i j p:Nat}(hi:i<3)(hj:j<2)(hp:p<W.m)(kf kl:Nat->List (Ky×V))(mk:Nat->Nat->List (aA×V)):
 ∃spc,aT P w K mg base aF 12 CS "cell" ["self","table","column","place"] spc/\∀(H:Hp) (Q:VK) (ls:Nat->Nat->List V) (wl:Nat->Nat->Nat->Option (List Int)),cS K CS CF CB CT CG z.2 Hz W r fi fd lk y d kf kl mk csh ls wl wo H->iU P w K mg base 4 H W.fa W.ca fT (fun _=>True)->H W.ca=some (.lst [])->
  (∀H' v,b2h K CS CF CB CT CG z.2 Hz W r fi fd lk y d csh ls wl wo i j p H H' v->Q v H')->spc [.ref (W.s (aQ i)),.str (bK i),.str (cI j),.int (p:Int)] H Q E0:=by
 have lx:(W.B i).xs.length=W.m:=by rw[O.xs i hi,mS]
 have hk:=(gD i hi).2.1
 have m6:=O.m6
 have z6:=O.z6
 have shAt:∀{H:Hp} {ls:Nat->Nat->List V} {wl:Nat->Nat->Nat->Option (List Int)},cS K CS CF CB CT CG z.2 Hz W r fi fd lk y d kf kl mk csh ls wl wo H->∃kb,rV CS CB CT (W.s (aQ i)) (W.bd (aQ i)) (W.ch (aQ i)) (fi (aQ i)) kb (bK i) (W.B i) H:=fun N=>by
  have F0:=N.F _ hk _ (lR hi)
  obtain⟨kb,e2,e3⟩:=F0.bds
  exact⟨kb,N.sh _ hk,e2,(gD i hi).2.2,e3,F0.B⟩
 have co:cI j∈(W.B i).ord:=by rw[O.od i hi];exact zL.2 j hj
 have hy:∀{H:Hp} {ls:Nat->Nat->List V} {wl:Nat->Nat->Nat->Option (List Int)},cS K CS CF CB CT CG z.2 Hz W r fi fd lk y d kf kl mk csh ls wl wo H->∀i q,i<3->q<2->(y i q).length=W.m:=fun N i q hi hq=>(N.co i q hi hq).2.1
 cases hv:aM (kf (aQ i)) (aW (bK i) (cI j) p)with
 |some v=>
  refine⟨_,aT.mono (rH T Y F Wb U (by decide) (a9B T F b5x (b4y (CT:=CT) T F Wb))) (by decide),fun H Q ls wl N fn hca q=> ?_⟩
  obtain⟨kb,hS⟩:=shAt N
  refine b5n (X:=X5 W fi fd lk y i j) (go5 O L N.fl (hy N) hi hj) (N.ga O hi hj fn) hS (a0l j hj).2 co (by show p<(W.B i).xs.length;omega) hv fun H' s=>q H' v ?_
  have fp:=N.fn i j p v hi hj hp hv
  refine⟨kf,kl,mk,wo,[],N.same s,s _ _ hca,dC.of s,fun x o _ _ _ e=>s _ _ e,fun x o _ e=>s _ _ e,fp.keep (cJ.of s),.inl ⟨rfl,rfl,fun is e=> ?_⟩⟩
  rw[e]at fp
  exact⟨v,fp⟩
 |none=>
  refine⟨_,rH T Y F Wb U (by decide) (a9B T F b57 (b7B T R F Wb U (b2l Cc) B2 M (uL T Cc))),fun H Q ls wl N fn hca q=> ?_⟩
  obtain⟨kb,hS⟩:=shAt N
  obtain⟨dg,hgr⟩:=N.gr
  have ml:=(N.mc i j hi hj).2.len (by omega)
  refine b2Y (X:=X5 W fi fd lk y i j) (num:=(p:Int)) (tf:=gI W d i p) (wo:=wo i j p) (go5 O L N.fl (hy N) hi hj) (N.ga O hi hj fn) (by omega) hS (a0l j hj).2 co (by show p<(W.B i).xs.length;omega) (by show cG (W.B i).xs (p:Int)=_;rw[O.xs i hi];exact b3a hp) hv N.tb hca (by decide) (N.me i j hi hj p hp).1.o (fun tl=>b6n hgr N.nl z6 (a1F N hi hp W.zs O.zs)) (fun is e=>⟨trivial,by have:=a2V e;omega⟩) fun H' v kf' kl' mk' G' tb' fr hv' ru en=>q H' v (b2t O L Z N hi hj hp hca G' tb' fr hv' ru en)
end
end
theorem b1E{b:Int}:∀{ds:List PyData} {acc is:List Int},(∀x∈ds,isT x=false->∃i,x= .int i/\ -b<=i/\i<=b)->(∀a∈acc,-b<=a/\a<=b)->fY ds acc= .inr is->∀a∈is,-b<=a/\a<=b
 | [],acc,is,_,ha,h=>by cases h;exact ha
 |x::ds,acc,is,hd,ha,h=>by
  rw[a48]at h
  split at h
  ·cases h
  ·next hx=>
   refine b1E (fun y hy=>hd y (List.mem_cons_of_mem _ hy)) (fun a hm=> ?_) h
   rcases List.mem_append.mp hm with hm|hm
   ·exact ha a hm
   ·obtain⟨i,e,h1,h2⟩:=hd x List.mem_cons_self (by simpa using hx)
    rw[List.mem_singleton.mp hm,e]
    exact⟨h1,h2⟩
theorem a9p{b:Int}(hb:0<=b):∀{is:List Int},(∀a∈is,-b<=a/\a<=b)-> -(b* is.length)<=is.sum/\is.sum<=b* is.length
 | [],_=>by simp
 |x::is,h=>by
  obtain⟨h1,h2⟩:=a9p hb (is:=is) fun a ha=>h a (List.mem_cons_of_mem _ ha)
  obtain⟨h3,h4⟩:=h x List.mem_cons_self
  rw[List.sum_cons,List.length_cons]
  have e:b* ((is.length+ 1:Nat):Int)=b* (is.length:Int)+ b:=by
   rw[Int.natCast_add,Int.mul_add]
   simp
  rw[e]
  omega
theorem b4B{is:List Int}(hl:is.length<=6)(h:∀a∈is,-(10^ 58+ 1)<=a/\a<=10^ 58+ 1):gC (fT is)=fT is:=by
 obtain⟨h1,h2⟩:=a9p (by decide+kernel) h
 have hb:(10^ 58+ 1:Int)* (is.length:Int)<=(10^ 58+ 1)* 6:=Int.mul_le_mul_of_nonneg_left (by omega) (by decide+kernel)
 have hc:2* ((10^ 58+ 1:Int)* 6)+ 1<10^ (60:Int).toNat:=by decide+kernel
 generalize (10^ 58+ 1:Int)* (is.length:Int)=c at h1 h2 hb
 generalize (10^ 58+ 1:Int)* 6=c6 at hb hc
 generalize hp:(10:Int)^ (60:Int).toNat=q at hc
 unfold gC
 refine if_pos ?_
 unfold jP fT
 rw[show iE (.int (2* is.sum+ 1))=false from rfl,Bool.or_false]
 show decide ((if 2* is.sum+ 1<0 then-(2* is.sum+ 1) else 2* is.sum+ 1)<10^ (60:Int).toNat)=true
 rw[decide_eq_true_eq,hp]
 split<;>omega
theorem b1M{W:W5}(O:jZ W){d:Nat->Nat->List PyData}{i p:Nat}(hi:i<3)(hp:p<W.m)(hd:∀q,q<2->(d i q).length=W.m/\∀x∈d i q,Bv x){is:List Int}(h:gI W d i p= .inr is):gC (fT is)=fT is:=by
 refine b4B (by rw[a2V h];exact O.z6) (b1E (fun x hx hT=> ?_) (fun a ha=>by cases ha) h)
 obtain⟨z,hz,rfl⟩:=List.mem_map.mp hx
 have one:∀q,q<2->isT ((d i q).getD p .none)=false->∃j,(d i q).getD p .none= .int j/\ -(10^ 58+ 1)<=j/\j<=10^ 58+ 1:=fun q hq hT=>by
  obtain⟨l,hb⟩:=hd q hq
  have e:(d i q)[p]?=some ((d i q).getD p .none):=by rw[List.getD_eq_getElem?_getD,List.getElem?_eq_getElem (by omega)];rfl
  rcases hb _ (List.mem_of_getElem? e)with⟨j,e1,e2,e3⟩|⟨y,e1⟩
  ·exact⟨j,e1,e2,e3⟩
  ·rw[e1]at hT;cases hT
 by_cases hza:z=("a":Str)
 ·have e:(if z=("a":Str) then 0 else 1)=0:=if_pos hza
  simp only[e]at hT|-
  exact one 0 (by decide) hT
 ·have e:(if z=("a":Str) then 0 else 1)=1:=if_neg hza
  simp only[e]at hT|-
  exact one 1 (by decide) hT
section
variable{P:Program}{w:World}{K:Fg}{mg:Str->Option Value}{base:Heap}
section
variable{CS CF CB CT CG zt:Addr}{Hz:Hp}{W:W5}{r:Addr->Nat}{fi fd lk:Nat->Addr}{y:Nat->Nat->List V}{d:Nat->Nat->List PyData}{kf kl:Nat->List (Ky×V)}{mk:Nat->Nat->List (aA×V)}{csh:Nat->List V}{ls ls':Nat->Nat->List V}{wl wl':Nat->Nat->Nat->Option (List Int)}{wo:Nat->Nat->Nat->Option (List Int×V)}{H H':Hp}
theorem cS.one(N:cS K CS CF CB CT CG zt Hz W r fi fd lk y d kf kl mk csh ls wl wo H)(L:kC W r)(Z:kY Hz W r zt){x:Addr}{xs xs':List V}(hx:H x=some (.lst xs))(hx':H' x=some (.lst xs'))(u:bC x H H')(rx:r x=160\/ (170<=r x/\r x<=175))
 (la':(∀z ys,r z=0->H z=some (.lst ys)->H' z=some (.lst ys))->∀i j,i<3->j<2->H' (W.la i j)=some (.lst (ls' i j))/\(ls' i j).length=W.m/\nI W.m r H' (ls' i j) (wl' i j)):cS K CS CF CB CT CG zt Hz W r fi fd lk y d kf kl mk csh ls' wl' wo H':=by
 have ne:∀{a b:Addr},r a≠r b->a≠b:=fun h e=>h (by rw[e])
 have k:∀{z:Addr} {o:HO},H z=some o->(∀y,o≠ .lst y)->H' z=some o:=fun e n=>u _ _ (fun y=>by rw[y,hx]at e;exact n _ (Option.some.inj e).symm) e
 have kt:cJ H H':=fun a xs e=>k e (fun _ y=>by cases y)
 have kl0:∀{z:Addr} {ys:List V},H z=some (.lst ys)->r z≠r x->H' z=some (.lst ys):=fun e n=>u _ _ (ne n) e
 have klf:∀z ys,r z=0->H z=some (.lst ys)->H' z=some (.lst ys):=fun z ys n e=>kl0 e (by omega)
 have ktf:∀z o,(∃xs,o= .tup xs\/ ∃q,o= .frz q (.tup xs))->H z=some o->H' z=some o:=fun z o ⟨xs,h⟩ e=>k e (fun y ey=>by rcases h with rfl|⟨q,rfl⟩<;>cases ey)
 refine⟨fun z o e=> ?_,fun z hz e=> ?_,fun k' hk tb htb=> ?_,N.ko,N.fo,fun k' hk=>k (N.hl k' hk) (fun _ y=>by cases y),N.lo,N.fl,N.fx,fun i q hi hq=> ?_,N.gr.imp fun _ e=>k e (fun _ y=>by cases y),kl0 N.nl (by rw[L.nl];omega),fun i j hi hj=>⟨k (N.mc i j hi hj).1 (fun _ y=>by cases y),(N.mc i j hi hj).2⟩,fun k' hk=>(N.sh k' hk).imp fun _ e=>k e (fun _ y=>by cases y),fun k' hk=>kl0 (N.ch k' hk) (by rw[L.ch k' hk];omega),fun i hi=>k (N.hd i hi) (fun _ y=>by cases y),fun i q hi hq=>(N.he i q hi hq).imp fun _ e=>⟨kl0 e.1 (by rw[L.hl i q hi hq];omega),e.2.keep kt⟩,la' klf,fun i j hi hj=>(N.me i j hi hj).mv klf ktf,fun i j p v hi hj hp e=>(N.fn i j p v hi hj hp e).keep kt,nU N.tb fun b o _ _ n e=>k e n⟩
 ·exact u _ _ (ne (by rw[(Z z o e).1];omega)) (N.old _ _ e)
 ·cases e2:H z with
  |none=>exact N.lb z hz e2
  |some o=>
   by_cases h:z=x
   ·rw[h,hx']at e;cases e
   ·rw[u _ _ h e2]at e;cases e
 ·obtain⟨i',hi',_,rfl⟩:=nD hk htb
  have F:=N.F k' hk _ htb
  obtain⟨b1,b2,b3,b4,b5⟩:=L.br i' hi'
  obtain⟨dx,e1⟩:=F.fin
  obtain⟨kb,e2,e3⟩:=F.bds
  obtain⟨⟨d1,g1⟩,⟨⟨d2,g2⟩,g3,g4⟩,g5,g6,g7⟩:=F.B
  exact⟨⟨dx,k e1 (fun _ y=>by cases y)⟩,⟨kb,k e2 (fun _ y=>by cases y),e3⟩,⟨⟨d1,k g1 (fun _ y=>by cases y)⟩,⟨⟨d2,k g2 (fun _ y=>by cases y)⟩,kl0 g3 (by show r (W.B i').r≠_;omega),k g4 (fun _ y=>by cases y)⟩,k g5 (fun _ y=>by cases y),k g6 (fun _ y=>by cases y),kl0 g7 (by show r (W.B i').od≠_;omega)⟩,k F.fnd (fun _ y=>by cases y),F.len⟩
 ·obtain⟨c1,c2,c3,c4⟩:=N.co i q hi hq
  exact⟨kl0 c1 (by rw[L.lc i q hi hq];omega),c2,c3.keep kt,c4⟩
theorem cS.calls(N:cS K CS CF CB CT CG zt Hz W r fi fd lk y d kf kl mk csh ls wl wo H)(L:kC W r)(Z:kY Hz W r zt){cl cl':List V}(hca:H W.ca=some (.lst cl))(hca':H' W.ca=some (.lst cl'))(u:bC W.ca H H'):cS K CS CF CB CT CG zt Hz W r fi fd lk y d kf kl mk csh ls wl wo H':=
 N.one L Z hca hca' u (.inl L.ca) fun klf i j hi hj=>by
  obtain⟨a1,a2,a3⟩:=N.la i j hi hj
  exact⟨u _ _ (fun e=>by have h1:=L.la i j hi hj;have h2:=L.ca;rw[e]at h1;omega) a1,a2,a3.mv klf⟩
theorem cS.setlast(N:cS K CS CF CB CT CG zt Hz W r fi fd lk y d kf kl mk csh ls wl wo H)(L:kC W r)(Z:kY Hz W r zt){i j p:Nat}{is:List Int}{l:Addr}(hi:i<3)(hj:j<2)(hp:p<W.m)(hl:H l=some (.lst (is.map V.int)))(rl:r l=0)(u:bC (W.la i j) H H')(e':H' (W.la i j)=some (.lst ((ls i j).set p (.ref l)))):cS K CS CF CB CT CG zt Hz W r fi fd lk y d kf kl mk csh (fun i' j'=>if i'=i/\j'=j then(ls i j).set p (.ref l) else ls i' j') (fun i' j' q=>if i'=i/\j'=j/\q=p then some is else wl i' j' q) wo H':=
 N.one L Z (N.la i j hi hj).1 e' u (.inr (by have:=L.la i j hi hj;omega)) fun klf i' j' hi' hj'=>by
  obtain⟨a1,a2,a3⟩:=N.la i' j' hi' hj'
  by_cases h:i'=i/\j'=j
  ·obtain⟨rfl,rfl⟩:=h
   show H' (W.la i' j')=some (.lst (if i'=i'/\j'=j' then(ls i' j').set p (.ref l) else ls i' j'))/\(if i'=i'/\j'=j' then(ls i' j').set p (.ref l) else ls i' j').length=W.m/\nI W.m r H' (if i'=i'/\j'=j' then(ls i' j').set p (.ref l) else ls i' j') (fun q=>if i'=i'/\j'=j'/\q=p then some is else wl i' j' q)
   rw[if_pos ⟨rfl,rfl⟩]
   refine⟨e',by rw[List.length_set];exact a2,fun q hq=> ?_⟩
   by_cases hqp:q=p
   ·subst hqp
    show(match (if i'=i'/\j'=j'/\q=q then some is else wl i' j' q)with|none=>_|some is=>_)
    rw[if_pos ⟨rfl,rfl,rfl⟩]
    exact⟨l,by rw[List.getElem?_set_self (by rw[a2];exact hq)],klf _ _ rl hl,rl⟩
   ·show(match (if i'=i'/\j'=j'/\q=p then some is else wl i' j' q)with|none=>_|some is=>_)
    rw[if_neg (fun z=>hqp z.2.2)]
    have:=(a3.mv klf) q hq
    revert this
    rw[List.getElem?_set_ne (fun z=>hqp z.symm)]
    exact id
  ·show H' (W.la i' j')=some (.lst (if i'=i/\j'=j then(ls i j).set p (.ref l) else ls i' j'))/\(if i'=i/\j'=j then(ls i j).set p (.ref l) else ls i' j').length=W.m/\nI W.m r H' (if i'=i/\j'=j then(ls i j).set p (.ref l) else ls i' j') (fun q=>if i'=i/\j'=j/\q=p then some is else wl i' j' q)
   rw[if_neg h]
   have ew:(fun q=>if i'=i/\j'=j/\q=p then some is else wl i' j' q)=wl i' j':=funext fun q=>if_neg (fun z=>h ⟨z.1,z.2.1⟩)
   rw[ew]
   exact⟨u _ _ (fun e=>by have h1:=L.la i' j' hi' hj';have h2:=L.la i j hi hj;rw[e]at h1;exact h (by omega)) a1,a2,a3.mv klf⟩
end
end
theorem Vd.eqv{d:PyData}(h:Vd d):PyData.eqv d d=true:=by
 rcases h with⟨i,rfl,_⟩|⟨y,rfl,_⟩<;>simp[PyData.eqv,PyData.eqvAll]
theorem b3t(is:List Int):PyData.eqv (.list [.list (is.map PyData.int)]) (.list [.list (is.map PyData.int)])=true:=by
 have h:=sJ is is
 simp only[PyData.eqv]at h
 simp only[PyData.eqv,PyData.eqvAll,h]
 simp
theorem a6H(is:List Int):(PyData.list [.list (is.map PyData.int)]).canLay0=true/\(PyData.list [.list (is.map PyData.int)]).depth<=64:=by
 have h1:PyData.canLayAll0 (is.map PyData.int)=true:=(mZ is).1
 have h2:PyData.depthAll (is.map PyData.int)=0:=by
  clear h1
  induction is with
  |nil=>rfl
  |cons i r ih=>
   rw[List.map_cons]
   show max 0 (PyData.depthAll (r.map PyData.int))=0
   rw[ih]
   rfl
 refine⟨?_,?_⟩
 ·show((PyData.list (is.map PyData.int)).canLay0&&true)=true
  rw[(mZ is).1]
  rfl
 ·show max (PyData.depthAll (is.map PyData.int)+ 1) 0+ 1<=64
  rw[h2]
  decide
theorem b04{α β:Type}{R:α->β->Prop}:∀{xs:List α} {ys:List β} {b:β},Paired R xs ys->b∈ys->∃a∈xs,R a b
 |_,_,_,.nil,h=>by cases h
 |_,_,b,.cons h t,hm=>by
  rcases List.mem_cons.mp hm with rfl|hm
  ·exact⟨_,List.mem_cons_self,h⟩
  ·obtain⟨a,h1,h2⟩:=b04 t hm
   exact⟨a,List.mem_cons_of_mem _ h1,h2⟩
section
variable{P:Program}{w:World}{K:Fg}{mg:Str->Option Value}{base:Heap}
def hU(wo:Nat->Nat->Nat->Option (List Int×V)):Nat->Nat->Nat->Option (List Int):=fun i j q=>(wo i j q).map (·.1)
def b1V(P:Program)(w:World)(K:Fg)(mg:Str->Option Value)(base:Heap)(CS CF CB CT CG zt:Addr):Sp:=fun vs H Q _=>∃(Hz:Hp) (W:W5) (r:Addr->Nat) (i j p:Nat) (sp ln:Addr) (fi fd lk:Nat->Addr) (y:Nat->Nat->List V) (d:Nat->Nat->List PyData) (kf kl:Nat->List (Ky×V)) (mk:Nat->Nat->List (aA×V)) (csh:Nat->List V) (ls:Nat->Nat->List V) (cl:List V) (wo:Nat->Nat->Nat->Option (List Int×V)),vs= [.ref sp,.ref W.ca,.ref ln,.ref (W.hd i),.ref (W.la i j),.int (p:Int)] /\jZ W/\kC W r/\kY Hz W r zt/\i<3/\j<2/\p<W.m/\H sp=some (.tup [.ref (W.s (aQ i)),.str (bK i),.str (cI j)])/\H ln=some (.lst (W.zs.map V.str))/\cS K CS CF CB CT CG zt Hz W r fi fd lk y d kf kl mk csh ls (hU wo) wo H/\iU P w K mg base 4 H W.fa W.ca fT (fun _=>True)/\H W.ca=some (.lst cl)/\
 ∀H' kf' kl' mk' ls' cl' wo',cS K CS CF CB CT CG zt Hz W r fi fd lk y d kf' kl' mk' csh ls' (hU wo') wo' H'->H' W.ca=some (.lst cl')->dC H H'->Q (.bl true) H'
def Due5(r:Addr->Nat)(H:Hp)(i j p:Nat)(wo:Nat->Nat->Nat->Option (List Int×V))(wl':Nat->Nat->Nat->Option (List Int))(due:List V):PyData ⊕ List Int->Prop
 | .inl _=>due= [] /\wl'=hU wo
 | .inr is=>((∃v,wo i j p=some (is,v))/\due= [] /\wl'=hU wo)\/ ((∀v,wo i j p≠some (is,v))/\∃lt,due= [.ref lt] /\H lt=some (.lst (is.map V.int))/\r lt=0/\wl'=fun i' j' q=>if i'=i/\j'=j/\q=p then some is else hU wo i' j' q)
noncomputable def vM:PyData ⊕ List Int->PyData
 | .inl d=>d
 | .inr is=>fT is
abbrev Nlk:List Str:=["_law_spot","_law_calls","_law_names","_law_held","_law_last","_law_place","_law_sheet","_law_table","_law_column","_law_told","_law_due","_law_value_here","_law_found"]
abbrev Plk:List Str:=["_law_spot","_law_calls","_law_names","_law_held","_law_last","_law_place"]
theorem lQ:bG Nlk Plk (aI nV):=⟨rfl,rfl,rfl,by decide+kernel,rfl,by decide+kernel,by decide+kernel⟩
theorem uQ(T:bE K mg){CS CF CB CT CG CR:Addr}(Y:eT K mg CS)(R:jI K mg CR)(F:eL K mg CF)(Wb:cO K mg CB)(U:dO K mg CT)(Cc:jC K mg CG){z:Addr×Addr}(B2:iF K mg "Finder" "gathered" "Finder.gathered" fD z)(M:gH mg base z.1 z.2):bJ P w K mg base aF 13 "_law_looked" Plk (b1V P w K mg base CS CF CB CT CG z.2):=by
 have G_list:bJ P w K mg base aF 1 "_law_list" ["_law_names","_law_held","_law_place"] (b0q K):=vQ T
 refine T.d_law_looked.known lQ (fun _ _ _ _ _ _ us hl=>bi6 (fun _ _ _ _ _ _=>rfl) us hl) (fun vs H Q E h=> ?_) (fun f cdv A outer s H vs Q E hr h=> ?_)
 ·obtain⟨Hz,W,r,i,j,p,sp,ln,fi,fd,lk,y,d,kf,kl,mk,csh,ls,cl,wo,rfl,_⟩:=h
  rfl
 ·obtain⟨Hz,W,r,i,j,p,sp,ln,fi,fd,lk,y,d,kf,kl,mk,csh,ls,cl,wo,rfl,O,L,Z,hi,hj,hp,hsp,hln,N,fn,hca,q⟩:=h
  have hu:=cU hr
  have m6:=O.m6
  have hk:=(gD i hi).2.1
  obtain⟨spc,G_cell,hcell⟩:=b5f (P:=P) (w:=w) (base:=base) (fi:=fi) (fd:=fd) (lk:=lk) (y:=y) (d:=d) (csh:=csh) (wo:=wo) T Y R F Wb U Cc B2 M O L Z hi hj hp kf kl mk
  have dlen:∀q,q<2->(d i q).length=W.m/\∀x∈d i q,Bv x:=fun q hq=>by
   obtain⟨a1,a2,a3,a4⟩:=N.co i q hi hq
   have l:(y i q).length=(d i q).length:=Paired.length a3
   exact⟨by omega,a4⟩
  obtain⟨told,htold⟩:∃t,gI W d i p=t:=⟨_,rfl⟩
  have rows:=a1F N hi hp W.zs O.zs
  have vdD:Vd (vM told):=by
   cases told with
   |inl d'=>
    have hm:=b0P htold
    have:=b04 rows hm
    obtain⟨z',_,ys,v,_,_,_,pv⟩:=this
    exact pv.vd
   |inr is=>
    have:=(a0a (2* is.sum+ 1)).2
    rw[show gC (.int (2* is.sum+ 1))=gC (fT is) from rfl,b1M O hi hp dlen htold]at this
    exact this
  have fresh0:∀{x:Addr},H x=none->r x=0:=fun{x} e=>by
   rcases Nat.eq_zero_or_pos (r x)with h|h
   ·exact h
   ·exact absurd e (N.lb x (by omega))
  have dY:∃t,dQ (eY aF P w K mg base Nlk "_law_looked" (aI nV) f cdv A outer s H E).nox ((aV nV).drop 5) t/\
   ∀(H3:Hp) (tv vh:V) (dl:Addr) (due:List V) (ls':Nat->Nat->List V) (wl':Nat->Nat->Nat->Option (List Int)),cS K CS CF CB CT CG z.2 Hz W r fi fd lk y d kf kl mk csh ls' wl' wo H3->dC H H3->H3 W.ca=some (.lst cl)->H3 dl=some (.lst due)->r dl=0->Dt K H3 vh (vM told)->Due5 r H3 i j p wo wl' due told->
    t {nx:=fun _ H'=>Q .non H',rt:=Q} [some (.ref sp),some (.ref W.ca),some (.ref ln),some (.ref (W.hd i)),some (.ref (W.la i j)),some (.int (p:Int)),some (.ref (W.s (aQ i))),some (.str (bK i)),some (.str (cI j)),some tv,some (.ref dl),some vh,none] H3:=by
   refine⟨_,(aK (bY (a8H PySem.F.plainAttrs_list PySem.F.slot_list_clear PySem.F.type_list_clear a9V (pv 1)))
    (aK (bN (i:=12) lQ.nd rfl (Or.inl rfl) (bZ (pv 6) Y.cl G_cell hr aR (aB (pv 7) (aB (pv 8) (aB (pv 5) aG)))))
    (aK (bM (PW.pt (iW (dZ (dN jN rfl T.isinstance iH (aB (pv 12) (aB (iQ T.bool a9R) aG))) (fun _=>rfl)) (iW (dE (rK hr.units) (pv 12) (pv 11) (dH _)) (kD (dE a3Y (dN jN rfl T.isinstance iH (aB (pv 12) (aB (iQ T.tuple zD) aG))) (dN jN rfl T.isinstance iH (aB (pv 11) (aB (iQ T.tuple zD) aG))) (dH _)))))) (aL (bP nK)) bS)
    (aL (bP (mH (yK hr.units) (pv 1) (pv 10) (dH _))))))),fun H3 tv vh dl due ls' wl' N3 kz3 ca3 hdl ndl hvh hdue=> ?_⟩
   refine⟨_,rfl,.inl ⟨rfl,_,aN.of ca3⟩,W.ca,_,rfl,rfl,ca3,?_⟩
   have u4:bC W.ca H3 (upd H3 W.ca (.lst [])):=bC.upd
   have ca4:upd H3 W.ca (.lst []) W.ca=some (.lst []):=aJ
   generalize upd H3 W.ca (.lst [])=H4 at u4 ca4|-
   have N4:=N3.calls L Z ca3 ca4 u4
   have k4:∀{x:Addr} {o:HO},H3 x=some o->(∀y,o≠ .lst y)->H4 x=some o:=fun e n=>u4 _ _ (fun y=>by rw[y,ca3]at e;exact n _ (Option.some.inj e).symm) e
   have kz4:dC H H4:=fun b u e=>k4 (kz3 _ _ e) (fun _ y=>by cases y)
   have nca:∀{x:Addr},r x=0->x≠W.ca:=fun h e=>by rw[e,L.ca]at h;cases h
   obtain⟨dS,sS⟩:=N4.sh _ hk
   refine⟨_,rfl,W.s (aQ i),dS,_,rfl,sS,fA,_,rfl,_,rfl,_,rfl,hcell H4 _ ls' wl' N4 (fn.keep kz4) ca4 fun H5 v CP=> ?_⟩
   obtain⟨kf',kl',mk',wo',cl',N5,ca5,kz5,fr5,tu5,fnd,cases5⟩:=CP
   rw[htold]at fnd cases5
   obtain⟨Sz,tz,_⟩:=id N4.tb
   have tup5:∀x o,(∃xs,o= .tup xs\/ ∃q,o= .frz q (.tup xs))->H3 x=some o->H5 x=some o:=fun x o hx e=>tu5 x o hx (k4 e (fun y ey=>by obtain⟨xs,rfl|⟨q,rfl⟩⟩:=hx<;>cases ey))
   have lst5:∀x ys,r x=0->H3 x=some (.lst ys)->H5 x=some (.lst ys):=fun x ys n e=>by
    have e4:=u4 x _ (nca n) e
    exact fr5 x _ n (fun y=>by rw[y,tz]at e4;cases e4) (fun y ey=>by cases ey) e4
   have dt1:Dt K H5 v (vM told):=by
    cases told with
    |inl d'=>exact Pv.dt (K:=K) fnd
    |inr is=>
     have h:=(N5.me i j hi hj p hp).2 is v fnd
     rw[b1M O hi hp dlen htold]at h
     exact h
   have dt2:Dt K H5 vh (vM told):=a3G vdD hvh tup5
   have dl5:=lst5 _ _ ndl hdl
   have nb:decide (gF (vM told)= .bl)=false:=by
    rcases vdD with⟨i',e,_⟩|⟨y',e,_⟩<;>rw[e]<;>rfl
   refine⟨_,rfl,v,"bool",_,_,rfl,dt1,b0g K _,_,rfl,?_⟩
   rw[nb]
   refine bL ⟨_,rfl,_,rfl,_,_,dt1,dt2,vdD.lay.1,vdD.lay.1,Nat.le_trans vdD.lay.2 (by decide),_,rfl,?_⟩
   rw[vdD.eqv]
   refine bL ⟨_,rfl,v,"tuple",_,_,rfl,dt1,zE K _,_,rfl,vh,"tuple",_,_,rfl,dt2,zE K _,rfl,_,rfl,?_⟩
   rw[decide_eq_true rfl]
   refine bL ?_
   have kz:dC H H5:=fun b u e=>kz5 _ _ (kz4 _ _ e)
   rcases cases5 with⟨rfl,rfl,hw⟩|⟨is,lc,rfl,hlc,ht,hw,rfl⟩
   ·obtain⟨rfl,ew⟩:due= [] /\wl'=hU wo':=by
     cases told with
     |inl d'=>exact hdue
     |inr is=>
      rcases hdue with h|h
      ·exact h.2
      ·obtain⟨v',e⟩:=hw is rfl
       exact absurd e (h.1 v')
    rw[ew]at N5
    exact⟨_,rfl,_,rfl,_,_,.lst (aN.of ca5) .nil,.lst (aN.of dl5) .nil,rfl,rfl,by decide,q H5 _ _ _ _ _ _ N5 ca5 kz⟩
   ·subst ht
    rcases hdue with h|⟨_,lt,rfl,hlt,nlt,ew⟩
    ·obtain⟨⟨v',e⟩,_⟩:=h
     exact absurd e (hw v')
    have ew2:wl'=hU (fun i' j' q=>if i'=i/\j'=j/\q=p then some (is,v) else wo i' j' q):=by
     rw[ew]
     funext i' j' q
     show(if i'=i/\j'=j/\q=p then some is else hU wo i' j' q)=(if i'=i/\j'=j/\q=p then some (is,v) else wo i' j' q).map (·.1)
     split<;>rfl
    rw[ew2]at N5
    have lt5:=lst5 _ _ nlt hlt
    refine⟨_,rfl,_,rfl,_,_,.lst (aN.of ca5) (.cons (.lst (aN.of hlc) (lI is)) .nil),.lst (aN.of dl5) (.cons (.lst (aN.of lt5) (lI is)) .nil),(a6H is).1,(a6H is).1,(a6H is).2,?_⟩
    rw[b3t]
    exact q H5 _ _ _ _ _ _ N5 ca5 kz
  obtain⟨t,ht,hq⟩:=dY
  refine⟨_,(aK (rY (pv 0) (xC rfl (jO (eM (i:=6) lQ.nd rfl (Or.inl rfl)) (jO (eM (i:=7) lQ.nd rfl (Or.inl rfl)) (jO (eM (i:=8) lQ.nd rfl (Or.inl rfl)) wR)))))
   (aK (bN (i:=9) lQ.nd rfl (Or.inl rfl) (bU G_list (hr.mono (by decide)) aR (aB (pv 2) (aB (pv 3) (aB (pv 5) aG)))))
   (aK (bN (i:=10) lQ.nd rfl (Or.inl rfl) (eO aG))
   (aK (bN (i:=11) lQ.nd rfl (Or.inl rfl) (pv 9))
   (aK (bM (dZ (dN jN rfl T.isinstance iH (aB (pv 9) (aB (iQ T.list gM) aG))) (fun _=>rfl)) (aK (bN (i:=11) lQ.nd rfl (Or.inl rfl) (bW fS (bW oQ aY (dN (b1t rfl) rfl T.sum b1i (aB (pv 9) aG))) aY))
   (aL (bM (dE (rK hr.units) (cT gG (pv 4) (pv 5) (fun _ _=>rfl)) (pv 9) (dH _)) (aK (bY (iC PySem.F.plainAttrs_list PySem.F.slot_list_append PySem.F.type_list_append gQ (pv 10) (aB (pv 9) aG)))
   (aL (rY (pv 9) (a1v (pv 4) (pv 5) a6y (fun _=>rfl))))) bS))) bS)
   ht))))),?_⟩
  have held:∀zs:List Str,(∀z∈zs,z= "a"\/ z= "b")->Paired (mE K H [((.inr "a":aA),V.ref (W.hl i 0)),((.inr "b":aA),V.ref (W.hl i 1))] p) zs (zs.map fun(z:Str)=>(d i (if z=("a":Str) then 0 else 1)).getD p .none):=by
   have one:∀(z:Str) (q:Nat),q<2->aM [((.inr "a":aA),V.ref (W.hl i 0)),((.inr "b":aA),V.ref (W.hl i 1))] (.inr z:aA)=some (.ref (W.hl i q))->mE K H [((.inr "a":aA),V.ref (W.hl i 0)),((.inr "b":aA),V.ref (W.hl i 1))] p z ((d i q).getD p .none):=fun z q hq e=>by
    obtain⟨zs,h1,h2⟩:=N.he i q hi hq
    obtain⟨l1,_⟩:=dlen q hq
    have l2:zs.length=(d i q).length:=Paired.length h2
    obtain⟨v,x,e1,e2,e3⟩:=cM.at h2 (i:=p) (by omega)
    refine⟨W.hl i q,zs,v,e,h1,kP e1,?_⟩
    rw[List.getD_eq_getElem?_getD,e2]
    exact e3
   intro zs
   induction zs with
   |nil=>intro _;exact .nil
   |cons z zs ih=>
    intro h
    refine .cons ?_ (ih fun x hx=>h x (List.mem_cons_of_mem _ hx))
    rcases h z List.mem_cons_self with rfl|rfl
    ·have e:(if("a":Str)=("a":Str) then 0 else 1)=0:=if_pos rfl
     show mE K H _ p "a" ((d i (if("a":Str)=("a":Str) then 0 else 1)).getD p .none)
     rw[e]
     exact one "a" 0 (by decide) rfl
    ·have e:(if("b":Str)=("a":Str) then 0 else 1)=1:=if_neg (by decide+kernel)
     show mE K H _ p "b" ((d i (if("b":Str)=("a":Str) then 0 else 1)).getD p .none)
     rw[e]
     exact one "b" 1 (by decide) rfl
  refine⟨_,rfl,sp,_,rfl,cF.of hsp,rfl,_,_,rfl,_,_,rfl,_,_,rfl,rfl,?_⟩
  refine⟨_,rfl,_,rfl,_,rfl,ln,W.hd i,p,W.zs,_,_,rfl,hln,N.hd i hi,held W.zs O.zs,O.z6,fun H1 tv s1 tl=> ?_⟩
  have tl:a9F K H H1 tv (gI W d i p):=tl
  rw[htold]at tl
  refine⟨sl,fun dl hdl=> ?_⟩
  have s2':=aE.new (o:=.lst []) hdl
  have dl2:upd H1 dl (.lst []) dl=some (.lst []):=aJ
  have hdlH:H dl=none:=fB s1 hdl
  have ndl:=fresh0 hdlH
  generalize upd H1 dl (.lst [])=H2 at s2' dl2|-
  have s2:=s1.trans s2'
  have N2:=N.same s2
  cases told with
  |inl d'=>
   have pv1:Pv K H2 tv d':=Pv.same (K:=K) tl s2'
   have nl:decide (gF d'= .lst)=false:=by
    rcases pv1 with⟨i',_,rfl,_⟩|⟨a,y',_,_,rfl,_⟩<;>rfl
   refine⟨_,rfl,_,rfl,tv,"list",d',_,rfl,pv1.dt,tV K _,_,rfl,?_⟩
   rw[nl]
   exact bL (hq H2 tv tv dl [] ls _ N2 (dC.of s2) (s2 _ _ hca) dl2 ndl pv1.dt ⟨rfl,rfl⟩)
  |inr is=>
   obtain⟨lt,rfl,hlt,lt1⟩:=tl
   have nlt:=fresh0 hlt
   have cA:=s2' _ _ lt1
   have i6:=a2V htold
   have z6:=O.z6
   have dlt:∀{H':Hp},H' lt=some (.lst (is.map V.int))->Dt K H' (.ref lt) (.list (is.map PyData.int)):=fun e=> .lst (aN.of e) (lI is)
   refine⟨_,rfl,_,rfl,_,"list",_,_,rfl,dlt cA,tV K _,_,rfl,dM ?_⟩
   refine⟨_,rfl,lt,is,rfl,aN.of cA,_,_,rfl,rfl,.inl ⟨by decide,by decide⟩,_,_,rfl,rfl,?_⟩
   obtain⟨la2,ll2,lo2⟩:=N2.la i j hi hj
   have hls:p<(ls i j).length:=by rw[ll2];exact hp
   obtain⟨vl,evl⟩:∃vl,(ls i j)[p]?=some vl:=⟨_,List.getElem?_eq_getElem hls⟩
   have lo:=lo2 p hp
   obtain⟨dl',h1,h2,h3,hb⟩:∃dl',Dt K H2 vl dl'/\dl'.canLay0=true/\dl'.depth<=64/\((!PyData.eqv dl' (.list (is.map PyData.int)))=true/\(∀v,wo i j p≠some (is,v))\/ (!PyData.eqv dl' (.list (is.map PyData.int)))=false/\∃v,wo i j p=some (is,v)):=by
    cases ew:wo i j p with
    |none=>
     have lo:=lo
     simp only[hU,ew,Option.map_none]at lo
     rw[evl]at lo
     cases Option.some.inj lo
     exact⟨.none,.non,rfl,by decide,.inl ⟨by simp[PyData.eqv],fun v y=>by cases y⟩⟩
    |some jv=>
     have lo:=lo
     simp only[hU,ew,Option.map_some]at lo
     obtain⟨lp,e1,e2,e3⟩:=lo
     rw[evl]at e1
     cases Option.some.inj e1
     refine⟨_,.lst (aN.of e2) (lI jv.1),(mZ jv.1).1,(mZ jv.1).2,?_⟩
     rw[sJ]
     by_cases e:jv.1=is
     ·exact .inr ⟨by rw[decide_eq_true e];rfl,jv.2,by rw[<- e]⟩
     ·exact .inl ⟨by rw[decide_eq_false e];rfl,fun v y=>e (by rw[Option.some.inj y])⟩
   refine⟨_,rfl,_,rfl,W.la i j,_,_,vl,rfl,rfl,aN.of la2,kP evl,_,rfl,dl',_,h1,dlt cA,h2,(mZ is).1,h3,_,rfl,?_⟩
   generalize (!PyData.eqv dl' (.list (is.map PyData.int)))=b at hb|-
   rcases hb with⟨rfl,hw⟩|⟨rfl,hw⟩
   ·refine dM ?_
    refine⟨_,rfl,.inl ⟨rfl,_,aN.of dl2⟩,_,rfl,dl,_,_,rfl,rfl,dl2,dD (by decide),?_⟩
    have s5:aE H (upd H2 dl (.lst ([] ++ [.ref lt]))):=s2.on hdlH
    have u5:bC dl H2 (upd H2 dl (.lst ([] ++ [.ref lt]))):=bC.upd
    have dl5:upd H2 dl (.lst ([] ++ [.ref lt])) dl=some (.lst [.ref lt]):=aJ
    generalize upd H2 dl (.lst ([] ++ [.ref lt]))=H5 at s5 u5 dl5|-
    have nld:lt≠dl:=fun y=>by rw[<- y,lt1]at hdl;cases hdl
    have lt5:=u5 _ _ nld cA
    have N5:=N.same s5
    have la5:=(N5.la i j hi hj).1
    refine⟨_,rfl,_,rfl,_,rfl,W.la i j,ls i j,(p:Int),p,rfl,rfl,la5,by rw[yV (by omega) (by omega),Int.toNat_natCast],?_⟩
    have u6:bC (W.la i j) H5 (upd H5 (W.la i j) (.lst ((ls i j).set p (.ref lt)))):=bC.upd
    have la6:upd H5 (W.la i j) (.lst ((ls i j).set p (.ref lt))) (W.la i j)=some (.lst ((ls i j).set p (.ref lt))):=aJ
    generalize upd H5 (W.la i j) (.lst ((ls i j).set p (.ref lt)))=H6 at u6 la6|-
    have N6:=N5.setlast L Z hi hj hp lt5 nlt u6 la6
    have rla:=L.la i j hi hj
    have nla:∀{x:Addr},r x=0->x≠W.la i j:=fun n y=>by rw[y,rla]at n;omega
    have lt6:=u6 _ _ (nla nlt) lt5
    have dl6:=u6 _ _ (nla ndl) dl5
    have k6:∀{x:Addr} {o:HO},H5 x=some o->(∀y,o≠ .lst y)->H6 x=some o:=fun e n=>u6 _ _ (fun y=>by rw[y,la5]at e;exact n _ (Option.some.inj e).symm) e
    have nca:W.ca≠W.la i j:=fun y=>by have h:=L.ca;rw[y,rla]at h;omega
    exact hq H6 _ _ dl [.ref lt] _ _ N6 (fun b u e=>k6 (s5 _ _ e) (fun _ y=>by cases y)) (u6 _ _ nca (s5 _ _ hca)) dl6 ndl (.int _) (.inr ⟨hw,lt,rfl,lt6,nlt,rfl⟩)
   ·exact bL (hq H2 _ _ dl [] ls _ N2 (dC.of s2) (s2 _ _ hca) dl2 ndl (.int _) (.inl ⟨hw,rfl,rfl⟩))
end
theorem cM.set{K:Fg}{H:Hp}{v:V}{d:PyData}(h:Pv K H v d):∀{vs:List V} {ds:List PyData} {i:Nat},cM K H vs ds->cM K H (vs.set i v) (ds.set i d)
 |_,_,_,.nil=> .nil
 |_,_,0,.cons _ t=> .cons h t
 |_,_,i+ 1,.cons h' t=> .cons h' (cM.set h t)
theorem b7Z(nl fa bd ch fi:Addr):fM nl fa≠dG bd ch fi:=fun h=>by
 have h1:(fM nl fa).length=(dG bd ch fi).length:=by rw[h]
 exact absurd h1 (show¬(2=3)by decide)
theorem b2J(b f l bd ch fi:Addr):fX b f l≠dG bd ch fi:=fun h=>by
 have h1:(fX b f l).map (·.1)=(dG bd ch fi).map (·.1):=by rw[h]
 exact absurd h1 (show¬([("boards":Str),("found":Str),("looked":Str)]= [("boards":Str),("changes":Str),("finder":Str)])by decide+kernel)
section
variable{P:Program}{w:World}{K:Fg}{mg:Str->Option Value}{base:Heap}
section
variable{CS CF CB CT CG zt:Addr}{Hz:Hp}{W:W5}{r:Addr->Nat}{fi fd lk:Nat->Addr}{y:Nat->Nat->List V}{d:Nat->Nat->List PyData}{kf kl:Nat->List (Ky×V)}{mk:Nat->Nat->List (aA×V)}{csh:Nat->List V}{ls:Nat->Nat->List V}{wl:Nat->Nat->Nat->Option (List Int)}{wo:Nat->Nat->Nat->Option (List Int×V)}{H:Hp}
noncomputable def vH{α:Type}(f:Nat->Nat->α)(i q:Nat)(x:α):Nat->Nat->α:=fun i' q'=>if i'=i/\q'=q then x else f i' q'
def bH{α:Type}(f:Nat->α)(k:Nat)(x:α):Nat->α:=fun k'=>if k'=k then x else f k'
theorem cB{α:Type}{f:Nat->α}{k:Nat}{x:α}:bH f k x k=x:=if_pos rfl
theorem bX{α:Type}{f:Nat->α}{k k':Nat}{x:α}(h:k'≠k):bH f k x k'=f k':=if_neg h
theorem a2J{α:Type}{f:Nat->Nat->α}{i q:Nat}{x:α}:vH f i q x i q=x:=if_pos ⟨rfl,rfl⟩
theorem vC{α:Type}{f:Nat->Nat->α}{i q i' q':Nat}{x:α}(h:¬(i'=i/\q'=q)):vH f i q x i' q'=f i' q':=if_neg h
theorem b5t(O:jZ W)(L:kC W r)(Z:kY Hz W r zt)(ns:W.s 0≠W.s 1)(N:cS K CS CF CB CT CG zt Hz W r fi fd lk y d kf kl mk csh ls wl wo H){i q p:Nat}{v:V}{dv:PyData}(hi:i<3)(hq:q<2)(hv:Pv K H v dv)(bv:Bv dv){zs:List V}(hz:H (W.hl i q)=some (.lst zs))(pz:cM K H zs (d i q)){cl:List V}(hca:H W.ca=some (.lst cl))
 {H1 H2:Hp}{fi' fd' lk':Addr}{csh':List V}{kb:List (aA×V)}(Fr:lX CS CF (W.s (aQ i)) (W.bd (aQ i)) (W.ch (aQ i)) fi' fd' lk' csh' kb H H1)(hkb:H (W.bd (aQ i))=some (.dK kb))(hB:cD CB CT H1 (W.B i))(hl1:H1 (W.lc i q)=some (.lst ((y i q).set p v)))(u:∀x o,x≠W.s (aQ i)->x≠W.ch (aQ i)->x≠W.lc i q->H x=some o->H1 x=some o)(b2:bC (W.hl i q) H1 H2)(hx2:H2 (W.hl i q)=some (.lst (zs.set p v))):
 cS K CS CF CB CT CG zt Hz W r (bH fi (aQ i) fi') (bH fd (aQ i) fd') (bH lk (aQ i) lk') (vH y i q ((y i q).set p v)) (vH d i q ((d i q).set p dv)) (bH kf (aQ i) []) (bH kl (aQ i) []) mk (bH csh (aQ i) csh') ls wl wo H2/\H2 W.ca=some (.lst cl):=by
 have hk:=(gD i hi).2.1
 have ne:∀{a b:Addr},r a≠r b->a≠b:=fun h e=>h (by rw[e])
 obtain⟨⟨dS',s1⟩,ch1,bd1,⟨df,fi1⟩,fd1,lk1,fl1,nfi,nfd,nlk⟩:=Fr
 obtain⟨dS,sS⟩:=N.sh _ hk
 have chS:=N.ch _ hk
 obtain⟨cl0,cy,cp,cb⟩:=N.co i q hi hq
 have rch:=L.ch _ hk
 have rlc:=L.lc i q hi hq
 have rhl:=L.hl i q hi hq
 have rhl6:=rhl.trans (Nat.add_assoc _ _ _)
 have k1:∀{x:Addr} {o:HO},H x=some o->(∀y,o≠ .lst y)->x≠W.s (aQ i)->H1 x=some o:=fun e n1 n2=>u _ _ n2 (fun y=>by rw[y,chS]at e;exact n1 _ (Option.some.inj e).symm) (fun y=>by rw[y,cl0]at e;exact n1 _ (Option.some.inj e).symm) e
 have nch:=ne (zA rch rlc rhl hk hi hq).1
 have nlc:=ne (zA rch rlc rhl hk hi hq).2
 have hz1:H1 (W.hl i q)=some (.lst zs):=u _ _ (fun y=>by rw[y,sS]at hz;cases hz) nch.symm nlc.symm hz
 have k2:∀{x:Addr} {o:HO},H1 x=some o->(∀y,o≠ .lst y)->H2 x=some o:=fun e n=>b2 _ _ (fun y=>by rw[y,hz1]at e;exact n _ (Option.some.inj e).symm) e
 have kk:∀{x:Addr} {o:HO},H x=some o->(∀y,o≠ .lst y)->(∀a b c,o≠ .ins a b c)->H2 x=some o:=fun e n1 n2=>k2 (k1 e n1 (fun y=>by rw[y,sS]at e;exact n2 _ _ _ (Option.some.inj e).symm)) n1
 have ki:∀{x C dx:Addr} {fs:List (Str×V)},H x=some (.ins C dx fs)->(∀a b c,fs≠dG a b c)->H2 x=some (.ins C dx fs):=fun e n=>k2 (k1 e (fun _ y=>by cases y) (fun y=>by rw[y,sS]at e;exact n _ _ _ (HO.ins.inj (Option.some.inj e)).2.2.symm)) (fun _ y=>by cases y)
 have kl0:∀{x:Addr} {ys:List V},H x=some (.lst ys)->r x≠r (W.ch (aQ i))->r x≠r (W.lc i q)->r x≠r (W.hl i q)->H2 x=some (.lst ys):=fun e n1 n2 n3=>b2 _ _ (ne n3) (u _ _ (fun y=>by rw[y,sS]at e;cases e) (ne n1) (ne n2) e)
 have kl3:∀{x:Addr} {ys:List V} {a j:Nat},H x=some (.lst ys)->r x=a+ j->j<6->far a=true->H2 x=some (.lst ys):=fun e h hj f=>have t:=far3 rch rlc rhl hk hi hq h hj f;kl0 e t.1 t.2.1 t.2.2
 have klf:∀x ys,r x=0->H x=some (.lst ys)->H2 x=some (.lst ys):=fun x ys n e=>kl3 (a:=0) (j:=0) e n (by decide) rfl
 have ktf:∀x o,(∃xs,o= .tup xs\/ ∃q,o= .frz q (.tup xs))->H x=some o->H2 x=some o:=fun x o ⟨xs,h⟩ e=>kk e (fun y ey=>by rcases h with rfl|⟨q,rfl⟩<;>cases ey) (fun a b c ey=>by rcases h with rfl|⟨q,rfl⟩<;>cases ey)
 have kt:cJ H H2:=fun a xs e=>ktf a _ ⟨xs,.inl rfl⟩ e
 have none2:∀{x:Addr} {o:HO},H x=none->H2 x=some o->True:=fun _ _=>trivial
 have lq:∀i' q',i'<3->q'<2->¬(i'=i/\q'=q)->r (W.lc i' q')≠r (W.lc i q)/\r (W.hl i' q')≠r (W.hl i q):=fun i' q' h1 h2 h=>by
  have a1:=L.lc i' q' h1 h2
  have a2:=L.hl i' q' h1 h2
  constructor<;>intro e<;>exact h (by omega)
 have BO:∀i',i'<3->i'≠i->cD CB CT H (W.B i')->cD CB CT H2 (W.B i'):=fun i' hi' nii hb=>by
  obtain⟨⟨d1,g1⟩,⟨⟨d2,g2⟩,g3,g4⟩,g5,g6,g7⟩:=hb
  obtain⟨b1',b2',_⟩:=L.br i' hi'
  exact⟨⟨d1,ki g1 (fun a b c e=>absurd (congrArg List.length e) (show¬(4=3)by decide))⟩,⟨⟨d2,ki g2 (fun a b c e=>b3C _ _ _ _ _ _ e)⟩,kl3 g3 b1' (oJ hi') rfl,kk g4 (fun _ y=>by cases y) (fun _ _ _ y=>by cases y)⟩,kk g5 (fun _ y=>by cases y) (fun _ _ _ y=>by cases y),kk g6 (fun _ y=>by cases y) (fun _ _ _ y=>by cases y),kl3 g7 b2' (oJ hi') rfl⟩
 have BI:cD CB CT H2 (W.B i):=by
  obtain⟨⟨d1,g1⟩,⟨⟨d2,g2⟩,g3,g4⟩,g5,g6,g7⟩:=hB
  obtain⟨b1',b2',_⟩:=L.br i hi
  exact⟨⟨d1,k2 g1 (fun _ y=>by cases y)⟩,⟨⟨d2,k2 g2 (fun _ y=>by cases y)⟩,b2 _ _ (fP b1' rhl6 (oJ hi) (lt2q hi hq) rfl) g3,k2 g4 (fun _ y=>by cases y)⟩,k2 g5 (fun _ y=>by cases y),k2 g6 (fun _ y=>by cases y),b2 _ _ (fP b2' rhl6 (oJ hi) (lt2q hi hq) rfl) g7⟩
 have hbd:∀k',k'<2->∀kb',H (W.bd k')=some (.dK kb')->H2 (W.bd k')=some (.dK kb'):=fun k' hk' kb' e=>kk e (fun _ y=>by cases y) (fun _ _ _ y=>by cases y)
 have som:∀{x:Addr} {o:HO},H x=some o->x≠fi'/\x≠fd'/\x≠lk':=fun e=>⟨fun y=>by{rw[y,nfi]at e;cases e},fun y=>by{rw[y,nfd]at e;cases e},fun y=>by{rw[y,nlk]at e;cases e}⟩
 have fdk:∀k',k'<2->H (fd k')=some (.dT (kf k')):=fun k' hk'=>by
  rcases(cA (n:=k'))with rfl|rfl
  ·exact(N.F 0 hk' _ (lR (i:=0) (by decide))).fnd
  ·exact(N.F 1 hk' _ (lR (i:=2) (by decide))).fnd
 have nsO:∀k',k'<2->k'≠aQ i->W.s k'≠W.s (aQ i):=fun k' hk' h=>by
  rcases(cA (n:=k'))with rfl|rfl
  ·have:aQ i=1:=by omega
   rw[this];exact ns
  ·have:aQ i=0:=by omega
   rw[this];exact ns.symm
 refine⟨⟨fun x o e=> ?_,fun x hx e=> ?_,fun k' hk' tb htb=> ?_,fun k' hk'=> ?_,fun k' hk'=> ?_,fun k' hk'=> ?_,fun k' hk'=> ?_,fun k' hk'=> ?_,fun k1' k2' h1 h2 h12=> ?_,fun i' q' hi' hq'=> ?_,N.gr.imp fun _ e=>ki e (fun a b c h=>b7Z _ _ _ _ _ h),kl3 (a:=161) (j:=0) N.nl L.nl (by decide) rfl,fun i' j' hi' hj'=>⟨kk (N.mc i' j' hi' hj').1 (fun _ y=>by cases y) (fun _ _ _ y=>by cases y),(N.mc i' j' hi' hj').2⟩,fun k' hk'=> ?_,fun k' hk'=> ?_,fun i' hi'=>kk (N.hd i' hi') (fun _ y=>by cases y) (fun _ _ _ y=>by cases y),fun i' q' hi' hq'=> ?_,fun i' j' hi' hj'=> ?_,fun i' j' hi' hj'=>(N.me i' j' hi' hj').mv klf ktf,fun i' j' p' v' hi' hj' hp' e=> ?_,?_⟩,kl3 (a:=160) (j:=0) hca L.ca (by decide) rfl⟩
 ·obtain⟨z1,z2,z3,z4⟩:=Z x o e
  have t:=far3 (a:=0) (j:=0) rch rlc rhl hk hi hq z1 (by decide) rfl
  exact b2 _ _ (ne t.2.2) (u _ _ (z3 _ hk) (ne t.1) (ne t.2.1) (N.old _ _ e))
 ·cases e2:H x with
  |none=>exact N.lb x hx e2
  |some o=>
   by_cases y1:x=W.s (aQ i)
   ·rw[y1,k2 s1 (fun _ y=>by cases y)]at e;cases e
   ·by_cases y2:x=W.hl i q
    ·rw[y2,hx2]at e;cases e
    ·by_cases y3:x=W.ch (aQ i)
     ·rw[y3,b2 _ _ nch ch1]at e;cases e
     ·by_cases y4:x=W.lc i q
      ·rw[y4,b2 _ _ nlc hl1]at e;cases e
      ·rw[b2 _ _ y2 (u _ _ y1 y3 y4 e2)]at e;cases e
 ·obtain⟨i',hi',ei,rfl⟩:=nD hk' htb
  have F:=N.F k' hk' _ htb
  obtain⟨kb0,e2,e3⟩:=F.bds
  by_cases h:k'=aQ i
  ·subst h
   rw[cB,cB,cB,cB]
   have ekb:kb0=kb:=by rw[hkb]at e2;have:=Option.some.inj e2;cases this;rfl
   refine⟨⟨df,k2 fi1 (fun _ y=>by cases y)⟩,⟨kb,k2 bd1 (fun _ y=>by cases y),by rw[<- ekb];exact e3⟩,?_,k2 fd1 (fun _ y=>by cases y),by decide⟩
   by_cases h2:i'=i
   ·rw[h2];exact BI
   ·exact BO i' hi' h2 F.B
  ·rw[bX h,bX h,bX h,bX h]
   exact⟨F.fin.imp fun _ e=>ki e (fun a b c h=>b2J _ _ _ _ _ _ h),⟨kb0,hbd k' hk' kb0 e2,e3⟩,BO i' hi' (fun y=>h (by rw[<- ei,y])) F.B,kk F.fnd (fun _ y=>by cases y) (fun _ _ _ y=>by cases y),F.len⟩
 ·unfold bH
  split
  ·exact eS.nil
  ·exact N.ko k' hk'
 ·intro t c p' v' ys g e
  by_cases h:k'=aQ i
  ·rw[h,cB]at e
   cases e
  ·rw[bX h]at e
   obtain⟨i',q',hi',hq',ei,rfl,rfl,rfl⟩:=a0e hk' g
   rw[vC (fun z=>h (by rw[<- ei,z.1]))]
   exact N.fo k' hk' _ _ _ _ _ (by rw[<- ei];exact b09 hi' hq') e
 ·by_cases h:k'=aQ i
  ·rw[h,cB,cB]
   exact k2 lk1 (fun _ y=>by cases y)
  ·rw[bX h,bX h]
   exact kk (N.hl k' hk') (fun _ y=>by cases y) (fun _ _ _ y=>by cases y)
 ·unfold bH
  split
  ·exact eS.nil
  ·exact N.lo k' hk'
 ·by_cases h:k'=aQ i
  ·rw[h,cB,cB]
   exact fl1
  ·rw[bX h,bX h]
   exact N.fl k' hk'
 ·by_cases a1:k1'=aQ i
  ·have a2:k2'≠aQ i:=fun e=>h12 (by rw[a1,e])
   rw[a1,cB,cB,bX a2,bX a2]
   obtain⟨_,x2,x3⟩:=som (fdk k2' h2)
   obtain⟨_,x5,x6⟩:=som (N.hl k2' h2)
   exact⟨x2.symm,x6.symm,x5.symm⟩
  ·by_cases a2:k2'=aQ i
   ·rw[a2,bX a1,bX a1,cB,cB]
    obtain⟨_,x2,x3⟩:=som (fdk k1' h1)
    obtain⟨_,x5,x6⟩:=som (N.hl k1' h1)
    exact⟨x2,x6,x3⟩
   ·rw[bX a1,bX a1,bX a2,bX a2]
    exact N.fx k1' k2' h1 h2 h12
 ·by_cases h:i'=i/\q'=q
  ·obtain⟨rfl,rfl⟩:=h
   rw[a2J,a2J]
   refine⟨b2 _ _ nlc hl1,by rw[List.length_set];exact cy,cM.set (hv.keep kt) (cp.keep kt),fun x hx=> ?_⟩
   rcases List.mem_or_eq_of_mem_set hx with h|h
   ·exact cb x h
   ·rw[h];exact bv
  ·rw[vC h,vC h]
   obtain⟨a1,a2,a3,a4⟩:=N.co i' q' hi' hq'
   have:=L.lc i' q' hi' hq'
   exact⟨kl0 a1 (by omega) (lq i' q' hi' hq' h).1 (by omega),a2,a3.keep kt,a4⟩
 ·by_cases h:k'=aQ i
  ·rw[h,cB]
   exact⟨dS',k2 s1 (fun _ y=>by cases y)⟩
  ·rw[bX h]
   exact(N.sh k' hk').imp fun _ e=>k2 (k1 e (fun _ y=>by cases y) (nsO k' hk' h)) (fun _ y=>by cases y)
 ·by_cases h:k'=aQ i
  ·rw[h,cB]
   exact b2 _ _ nch ch1
  ·rw[bX h]
   have:=L.ch k' hk'
   exact kl0 (N.ch k' hk') (by omega) (by omega) (by omega)
 ·by_cases h:i'=i/\q'=q
  ·obtain⟨rfl,rfl⟩:=h
   rw[a2J]
   exact⟨_,hx2,cM.set (hv.keep kt) (pz.keep kt)⟩
  ·rw[vC h]
   have:=L.hl i' q' hi' hq'
   exact(N.he i' q' hi' hq').imp fun _ e=>⟨kl0 e.1 (by omega) (by omega) (lq i' q' hi' hq' h).2,e.2.keep kt⟩
 ·obtain⟨a1,a2,a3⟩:=N.la i' j' hi' hj'
  have:=L.la i' j' hi' hj'
  exact⟨kl3 a1 (this.trans (Nat.add_assoc _ _ _)) (lt2q hi' hj') rfl,a2,a3.mv klf⟩
 ·by_cases h:aQ i'=aQ i
  ·rw[h,cB]at e
   cases e
  ·rw[bX h]at e
   have et:gI W (vH d i q ((d i q).set p dv)) i' p'=gI W d i' p':=by
    unfold gI
    congr 1
    refine List.map_congr_left fun z _=> ?_
    rw[vC (fun y=>h (by rw[y.1]))]
   rw[et]
   exact(N.fn i' j' p' v' hi' hj' hp' e).keep kt
 ·obtain⟨S,t1,t2⟩:=N.tb
  refine⟨S,kk t1 (fun _ y=>by cases y) (fun _ _ _ y=>by cases y),fun c hc=> ?_⟩
  obtain⟨o,o1,o2⟩:=t2 c hc
  exact⟨o,kk o1 (fun _ y=>by cases y) (fun _ _ _ y=>by cases y),o2⟩
end
def a9j(K:Fg)(CS CF CB CT CG zt:Addr):Sp:=fun vs H Q _=>∃(Hz:Hp) (W:W5) (r:Addr->Nat) (i:Nat) (a:Addr) (ns:List Int) (k:Int) (fi fd lk:Nat->Addr) (y:Nat->Nat->List V) (d:Nat->Nat->List PyData) (kf kl:Nat->List (Ky×V)) (mk:Nat->Nat->List (aA×V)) (csh:Nat->List V) (ls:Nat->Nat->List V) (cl:List V) (wo:Nat->Nat->Nat->Option (List Int×V)),vs= [.ref a,.int k,.ref (W.s (aQ i)),.str (bK i),.ref (W.hd i),.ref W.ca] /\jZ W/\kC W r/\kY Hz W r zt/\W.s 0≠W.s 1/\i<3/\0<=k/\k<=10000/\aN K Hz a (ns.map V.int)/\ns.length<=63/\cS K CS CF CB CT CG zt Hz W r fi fd lk y d kf kl mk csh ls (hU wo) wo H/\H W.ca=some (.lst cl)/\(∀k,k<2->(csh k).length<800)/\
 ∀H' fi' fd' lk' y' d' kf' kl' c,cS K CS CF CB CT CG zt Hz W r fi' fd' lk' y' d' kf' kl' mk (bH csh (aQ i) (csh (aQ i)++ [.ref c])) ls (hU wo) wo H'->H' W.ca=some (.lst [])->Q (.bl true) H'
abbrev Npt:List Str:=["_law_script","_law_at","_law_sheet","_law_table","_law_held","_law_calls","_law_name","_law_place","_law_value_here"]
abbrev Ppt:List Str:=["_law_script","_law_at","_law_sheet","_law_table","_law_held","_law_calls"]
theorem vW:bG Npt Ppt (aI nF):=⟨rfl,rfl,rfl,by decide+kernel,rfl,by decide+kernel,by decide+kernel⟩
theorem b7l(m:Int):∃q,q<2/\cG (("ab":Str).cps.toList) (m% 2)=some (if q=0 then 97 else 98)/\(⟨#[if q=0 then 97 else 98]⟩:Str)=dX q:=by
 rcases(show m% 2=0\/ m% 2=1 by omega)with h|h
 ·exact⟨0,by decide,by rw[h];decide+kernel,by decide+kernel⟩
 ·exact⟨1,by decide,by rw[h];decide+kernel,by decide+kernel⟩
theorem vG(T:bE K mg){CS CF CB CT CG CV:Addr}(Y:eT K mg CS)(F:eL K mg CF)(Wb:cO K mg CB)(U:dO K mg CT)(VP:kT K mg CV){zt:Addr}:bJ P w K mg base aF 10 "_law_put" Ppt (a9j K CS CF CB CT CG zt):=by
 have G_mixed:bJ P w K mg base aF 1 "_law_mixed" ["_law_script","_law_k"] (tX K):=mU T
 have G_value:bJ P w K mg base aF 1 "_law_value" ["_law_cell"] (spLv K):=oZ T
 have G_put:aT P w K mg base aF 9 CS "put" ["self","table","column","place","value"] (b0J K CS CF CB CT):=vV T Y F Wb U VP
 refine T.d_law_put.known vW (fun _ _ _ _ _ _ us hl=>bi6 (fun _ _ _ _ _ _=>rfl) us hl) (fun vs H Q E h=> ?_) (fun f cdv A outer s H vs Q E hr h=> ?_)
 ·obtain⟨Hz,W,r,i,a,ns,k,fi,fd,lk,y,d,kf,kl,mk,csh,ls,cl,wo,rfl,_⟩:=h
  rfl
 ·obtain⟨Hz,W,r,i,a,ns,k,fi,fd,lk,y,d,kf,kl,mk,csh,ls,cl,wo,rfl,O,L,Z,nss,hi,k0,k1,hS,hl,N,hca,hcs,q⟩:=h
  have hu:=cU hr
  have hk:=(gD i hi).2.1
  have m0:=O.m0
  have m6:=O.m6
  have dY:∃t,dQ (eY aF P w K mg base Npt "_law_put" (aI nF) f cdv A outer s H E).nox ((aV nF).drop 4) t/\
   ∀(H3:Hp) (qc p:Nat) (pz:Int) (v:V) (dv:PyData),qc<2->p<W.m->pz=(p:Int)->cS K CS CF CB CT CG zt Hz W r fi fd lk y d kf kl mk csh ls (hU wo) wo H3->H3 W.ca=some (.lst cl)->Pv K H3 v dv->Bv dv->
    t {nx:=fun _ H'=>Q .non H',rt:=Q} [some (.ref a),some (.int k),some (.ref (W.s (aQ i))),some (.str (bK i)),some (.ref (W.hd i)),some (.ref W.ca),some (.str (dX qc)),some (.int pz),some v] H3:=by
   refine⟨_,(aK (bY (a8H PySem.F.plainAttrs_list PySem.F.slot_list_clear PySem.F.type_list_clear a9V (pv 5)))
    (aK (bY (bZ (pv 2) Y.cl G_put hr aR (aB (pv 3) (aB (pv 6) (aB (pv 7) (aB (pv 8) aG))))))
    (aK (rY (pv 8) (a1v (eE hu (pv 4) (pv 6) (fun _ _=>rfl)) (pv 7) a6y (fun _=>rfl)))
    (aL (bP (mH (yK hr.units) (pv 5) (eO aG) (dH _))))))),fun H3 qc p pz v dv hq hp epz N3 ca3 hv hb=> ?_⟩
   subst epz
   refine⟨_,rfl,.inl ⟨rfl,_,aN.of ca3⟩,W.ca,_,rfl,rfl,ca3,?_⟩
   have u4:bC W.ca H3 (upd H3 W.ca (.lst [])):=bC.upd
   have ca4:upd H3 W.ca (.lst []) W.ca=some (.lst []):=aJ
   generalize upd H3 W.ca (.lst [])=H4 at u4 ca4|-
   have N4:=N3.calls L Z ca3 ca4 u4
   have hv4:Pv K H4 v dv:=hv.keep fun b xs e=>u4 _ _ (fun y=>by rw[y,ca3]at e;cases e) e
   have F0:=N4.F _ hk _ (lR hi)
   obtain⟨kb,e2,e3⟩:=F0.bds
   obtain⟨dS,sS⟩:=N4.sh _ hk
   obtain⟨c1,c2,c3,c4⟩:=N4.co i qc hi hq
   obtain⟨zs,z1,z2⟩:=N4.he i qc hi hq
   have lx:(W.B i).xs.length=W.m:=by rw[O.xs i hi,mS]
   have lzs:zs.length=W.m:=by
    have l1:zs.length=(d i qc).length:=Paired.length z2
    have l2:(y i qc).length=(d i qc).length:=Paired.length c3
    omega
   have ne:∀{a b:Addr},r a≠r b->a≠b:=fun h e=>h (by rw[e])
   have rch:=L.ch _ hk
   have rbd:=L.bd _ hk
   have rlc:=L.lc i qc hi hq
   have rhl:=L.hl i qc hi hq
   obtain⟨b1,b2,b3,b4,b5⟩:=L.br i hi
   have hc8:=hcs _ hk
   have k6:=lt26 hk
   have n6:=oJ hi
   refine⟨_,rfl,W.s (aQ i),dS,_,rfl,sS,fA,_,rfl,_,rfl,_,rfl,_,rfl,W.s (aQ i),W.bd (aQ i),W.ch (aQ i),W.lc i qc,csh (aQ i),kb,bK i,dX qc,p,v,dv,y i qc,W.B i,rfl,⟨⟨dS,fi (aQ i),sS⟩,N4.ch _ hk,e2⟩,by omega,(gD i hi).2.2,e3,F0.B,⟨fP rch b1 k6 n6 rfl,fP rch b2 k6 n6 rfl,fP rbd b3 k6 n6 rfl,fP rbd b4 k6 n6 rfl,fP rbd b5 k6 n6 rfl⟩,(yU qc hq).2,by rw[O.od i hi];exact zL.1 qc hq,O.r2 i qc hi hq,O.kv i qc hi hq,c1,by omega,by omega,hv4,ne (by omega),ne (by omega),ne (by omega),fun H5 fi' fd' lk' cc Fr B5 l5 u5=> ?_⟩
   have hz5:H5 (W.hl i qc)=some (.lst zs):=u5 _ _ (fun y=>by rw[y,sS]at z1;cases z1) (ne (zA rch rlc rhl hk hi hq).1).symm (ne (zA rch rlc rhl hk hi hq).2).symm z1
   have hd4:=N4.hd i hi
   have hd5:=u5 _ _ (fun y=>by rw[y,sS]at hd4;cases hd4) (fun y=>by rw[y,N4.ch _ hk]at hd4;cases hd4) (fun y=>by rw[y,c1]at hd4;cases hd4) hd4
   have vq:aM [((.inr "a":aA),V.ref (W.hl i 0)),((.inr "b":aA),V.ref (W.hl i 1))] (.inr (dX qc):aA)=some (.ref (W.hl i qc)):=by
    rcases(cA (n:=qc))with rfl|rfl<;>rfl
   refine⟨_,rfl,_,rfl,_,rfl,W.hd i,_,rfl,vq▸bQ.k (k:=Sum.inr (dX qc)) hd5,_,rfl,W.hl i qc,zs,(p:Int),p,rfl,rfl,hz5,by rw[yV (by omega) (by omega),Int.toNat_natCast],?_⟩
   have u6:bC (W.hl i qc) H5 (upd H5 (W.hl i qc) (.lst (zs.set p v))):=bC.upd
   have hx6:upd H5 (W.hl i qc) (.lst (zs.set p v)) (W.hl i qc)=some (.lst (zs.set p v)):=aJ
   generalize upd H5 (W.hl i qc) (.lst (zs.set p v))=H6 at u6 hx6|-
   obtain⟨N6,ca6⟩:=b5t O L Z nss N4 hi hq hv4 hb z1 z2 ca4 Fr e2 B5 l5 u5 u6 hx6
   refine⟨_,rfl,sl,fun el hel=> ?_⟩
   have s7:=aE.new (o:=.lst []) hel
   exact⟨_,_,.lst (aN.of (s7 _ _ ca6)) .nil,.lst (aN.of aJ) .nil,rfl,rfl,by decide,q _ _ _ _ _ _ _ _ cc (N6.same s7) (s7 _ _ ca6)⟩
  obtain⟨t,ht,hq'⟩:=dY
  refine⟨_,(aK (bN (i:=6) vW.nd rfl (Or.inl rfl) (cT b6Q dW (bW fV (bU G_mixed (hr.mono (by decide)) aR (aB (pv 0) (aB (pv 1) aG))) aY) (fun _ _=>rfl)))
   (aK (bN (i:=7) vW.nd rfl (Or.inl rfl) (bW fV (bU G_mixed (hr.mono (by decide)) aR (aB (pv 0) (aB (bW fS (pv 1) aY) aG))) (dN kR rfl T.len jG (aB (eE hu (pv 4) (pv 6) (fun _ _=>rfl)) aG))))
   (aK (bN (i:=8) vW.nd rfl (Or.inl rfl) (bU G_value (hr.mono (by decide)) aR (aB (bU G_mixed (hr.mono (by decide)) aR (aB (pv 0) (aB (bW fS (pv 1) aY) aG))) aG)))
   (aK (bM (dE qL (bW fV (bU G_mixed (hr.mono (by decide)) aR (aB (pv 0) (aB (bW fS (pv 1) aY) aG))) aY) aY (dH _)) (aL (bN (i:=8) vW.nd rfl (Or.inl rfl) (cT gG (eE hu (pv 4) (pv 6) (fun _ _=>rfl)) (pv 7) (fun _ _=>rfl)))) bS)
   ht)))),?_⟩
  have hSi:=N.old.seq hS
  refine⟨_,rfl,_,rfl,a,ns,k,rfl,hSi,hl,k0,by omega,fun m1 h1 h2=>⟨_,_,rfl,rfl,(show(0:Int)<2 by decide),?_⟩⟩
  obtain⟨qc,hq,eat,eg⟩:=b7l m1
  refine⟨"ab",m1% 2,_,rfl,rfl,by decide+kernel,eat,?_⟩
  rw[eg]
  obtain⟨c1,c2,c3,c4⟩:=N.co i qc hi hq
  obtain⟨zs,z1,z2⟩:=N.he i qc hi hq
  have lzs:zs.length=W.m:=by
   have l1:zs.length=(d i qc).length:=Paired.length z2
   have l2:(y i qc).length=(d i qc).length:=Paired.length c3
   omega
  have vq:aM [((.inr "a":aA),V.ref (W.hl i 0)),((.inr "b":aA),V.ref (W.hl i 1))] (.inr (dX qc):aA)=some (.ref (W.hl i qc)):=by
   rcases(cA (n:=qc))with rfl|rfl<;>rfl
  refine⟨_,rfl,_,rfl,_,_,rfl,rfl,a,ns,_,rfl,hSi,hl,by omega,by omega,fun m2 h3 h4=>⟨_,rfl,_,rfl,W.hd i,_,rfl,vq▸bQ.k (k:=Sum.inr (dX qc)) (N.hd i hi),.ref (W.hl i qc),zs.length,rfl,.inl ⟨zs,aN.of z1,rfl⟩,m2,(zs.length:Int),rfl,rfl,(show(0:Int)<(zs.length:Int)by omega),?_⟩⟩
  have e1:=Int.emod_nonneg m2 (show(zs.length:Int)≠0 by omega)
  have e2:=Int.emod_lt_of_pos m2 (show(0:Int)<(zs.length:Int)by omega)
  obtain⟨p,hp'⟩:∃p:Nat,m2% (zs.length:Int)=(p:Int):=⟨(m2% (zs.length:Int)).toNat,by omega⟩
  have hp:p<W.m:=by omega
  refine⟨_,rfl,_,rfl,_,_,rfl,rfl,a,ns,_,rfl,hSi,hl,by omega,by omega,fun m3 h5 h6=>⟨m3,rfl,fun H3 v dv s3 hv hb=> ?_⟩⟩
  have N3:=N.same s3
  have ca3:=s3 _ _ hca
  refine⟨_,rfl,_,rfl,_,_,rfl,rfl,a,ns,_,rfl,s3.seq hSi,hl,by omega,by omega,fun m4 h7 h8=>⟨_,_,rfl,rfl,(show(0:Int)<3 by decide),rfl,_,rfl,?_⟩⟩
  refine eR (fun _=> ?_) (fun _=> ?_)
  ·have l1:zs.length=(d i qc).length:=Paired.length z2
   obtain⟨vx,dx,x1,x2,x3⟩:=cM.at z2 (i:=p) (by omega)
   refine⟨_,rfl,_,rfl,W.hd i,_,rfl,vq▸bQ.k (k:=Sum.inr (dX qc)) (s3 _ _ (N.hd i hi)),_,rfl,W.hl i qc,zs,m2% (zs.length:Int),vx,rfl,rfl,aN.of (s3 _ _ z1),by rw[hp'];exact kP x1,?_⟩
   exact hq' H3 qc p _ vx dx hq hp hp' N3 ca3 (x3.same s3) (c4 _ (List.mem_of_getElem? x2))
  ·exact hq' H3 qc p _ v dv hq hp hp' N3 ca3 hv hb
end
abbrev sH:List Str:=["_law_script","_law_many","_law_some","_law_names","_law_values","_law_row","_law_calls","_law_handed","_law_rule","_law_one","_law_other","_law_places","_law_held","_law_sheet","_law_table","_law_name","_law_column","_law_last","_law_k","_law_at","_law_which","_law_turn","_law_spot","_law_place"]
theorem eI:bG sH ["_law_script"] (aI eX):=⟨rfl,rfl,rfl,by decide+kernel,rfl,by decide+kernel,by decide+kernel⟩
section
variable{P:Program}{w:World}{K:Fg}{mg:Str->Option Value}{base:Heap}
theorem cS.unl{X:Cx}{σ:St}{f:eC}{CS CF CB CT CG zt:Addr}{Hz:Hp}{W:W5}{r:Addr->Nat}{fi fd lk:Nat->Addr}{y:Nat->Nat->List V}{d:Nat->Nat->List PyData}{kf kl:Nat->List (Ky×V)}{mk:Nat->Nat->List (aA×V)}{csh:Nat->List V}{ls:Nat->Nat->List V}{wl:Nat->Nat->Nat->Option (List Int)}{wo:Nat->Nat->Nat->Option (List Int×V)}{H H':Hp}(L:nO X σ H f)(oldH:aE Hz H)(lbH:∀x,r x≠0->H x≠none)(kz:dC (cW f H) H')(N:cS K CS CF CB CT CG zt Hz W r fi fd lk y d kf kl mk csh ls wl wo H'):cS K CS CF CB CT CG zt Hz W r fi fd lk y d kf kl mk csh ls wl wo (unl f H')/\kF H' (unl f H'):=by
 have at':∀b o,f b=some o->H' b=some (Fz o):=fun b o e=>kz _ _ (lF e)
 have kn:kF H' (L2.unl f H'):=fun b o n e=>by
  cases e2:f b with
  |none=>rw[dI e2];exact e
  |some ob=>rw[at' b ob e2]at e;exact absurd (Option.some.inj e).symm (n ob)
 refine⟨N.mv kn (fun x o e=> ?_) ?_ (fun x hx e=> ?_),kn⟩
 ·cases e2:f x with
  |none=>rw[dI e2];exact N.old _ _ e
  |some ob=>have:=oldH _ _ e;rw[L.free x ob e2]at this;cases this
 ·obtain⟨S,t1,t2⟩:=N.tb
  refine⟨S,kn _ _ (fun u y=>by cases y) t1,fun c hc=> ?_⟩
  obtain⟨o,o1,o2⟩:=t2 c hc
  refine⟨o,?_,o2⟩
  cases e2:f c with
  |none=>rw[dI e2];exact o1
  |some ob=>
   rw[at' c ob e2]at o1
   have:=b7t o1
   subst this
   obtain⟨v,hv⟩:=L.only c _ e2
   obtain⟨vs,t,h1,_⟩:=o2
   rw[hv]at h1
   cases h1
 ·cases e2:f x with
  |none=>rw[dI e2]at e;exact N.lb x hx e
  |some ob=>exact lbH x hx (L.free x ob e2)
def LSt5(K:Fg)(CS CF CB CT CG zt:Addr)(Hz:Hp)(W:W5)(r:Addr->Nat)(n:Nat)(H:Hp):Prop:=∃(fi fd lk:Nat->Addr) (y:Nat->Nat->List V) (d:Nat->Nat->List PyData) (kf kl:Nat->List (Ky×V)) (mk:Nat->Nat->List (aA×V)) (csh:Nat->List V) (ls:Nat->Nat->List V) (cl:List V) (wo:Nat->Nat->Nat->Option (List Int×V)),cS K CS CF CB CT CG zt Hz W r fi fd lk y d kf kl mk csh ls (hU wo) wo H/\H W.ca=some (.lst cl)/\∀k,k<2->(csh k).length<=30+ n
structure ZC5(K:Fg)(Hz:Hp)(W:W5)(a:Addr)(ns:List Int)(ln pl hs ll:Addr):Prop where
 sc:aN K Hz a (ns.map V.int)
 nl:ns.length<=63
 ln:Hz ln=some (.lst (W.zs.map V.str))
 pl:∃pt:Nat->Addr,Hz pl=some (.lst [.ref (pt 0),.ref (pt 1),.ref (pt 2)])/\∀i,i<3->Hz (pt i)=some (.tup [.ref (W.s (aQ i)),.str (bK i)])
 hs:Hz hs=some (.lst [.ref (W.hd 0),.ref (W.hd 1),.ref (W.hd 2)])
 ll:Hz ll=some (.lst [.ref (W.la 0 0),.ref (W.la 0 1),.ref (W.la 1 0),.ref (W.la 1 1),.ref (W.la 2 0),.ref (W.la 2 1)])
abbrev jR(P:Program)(w:World)(K:Fg)(mg:Str->Option Value)(base:Heap)(f c:Addr)(A:Around)(outer:List Env)(s:Shared)(H:Hp)(E:XK):Cx:=(eY aF P w K mg base sH "law" (aI eX) f (.ref c) A outer s H E).nox
theorem b3h(m:Int):∃i:Nat,i<3/\cG [V.int 0,V.int 0,V.int 1,V.int 2] (m% 4)=some (.int (i:Int)):=by
 rcases(show m% 4=0\/ m% 4=1\/ m% 4=2\/ m% 4=3 by omega)with h|h|h|h
 ·exact⟨0,by decide,by rw[h];rfl⟩
 ·exact⟨0,by decide,by rw[h];rfl⟩
 ·exact⟨1,by decide,by rw[h];rfl⟩
 ·exact⟨2,by decide,by rw[h];rfl⟩
theorem xW{α:Type}(f:Nat->α){i:Nat}(hi:i<3):[f 0,f 1,f 2][i]?=some (f i):=by
 rcases(iK (n:=i))with rfl|rfl|rfl<;>rfl
inductive IvE(K:Fg)(CS CF CB CT CG zt:Addr)(Hz:Hp)(W:W5)(r:Addr->Nat)(a ln pl hs ll:Addr)(o2 o4 o5 o7 o8 o10 o15 o16:Option V):Nat->St->Hp->Prop
 |mk {n:Nat} {σ:St} {Hi:Hp} (o13 o14 o18 o19 o20 o21 o22 o23:Option V) (h1:σ= [some (.ref a),some (.int (W.m:Int)),o2,some (.ref ln),o4,o5,some (.ref W.ca),o7,o8,some (.ref (W.s 0)),o10,some (.ref pl),some (.ref hs),o13,o14,o15,o16,some (.ref ll),o18,o19,o20,o21,o22,o23]) (h2:LSt5 K CS CF CB CT CG zt Hz W r n Hi):IvE K CS CF CB CT CG zt Hz W r a ln pl hs ll o2 o4 o5 o7 o8 o10 o15 o16 n σ Hi
theorem b4R(T:bE K mg){CS CF CB CT CG CR CV:Addr}(Y:eT K mg CS)(R:jI K mg CR)(F:eL K mg CF)(Wb:cO K mg CB)(U:dO K mg CT)(Cc:jC K mg CG)(VP:kT K mg CV){z1 z2:Addr×Addr}(B2:iF K mg "Finder" "gathered" "Finder.gathered" fD z2)(M2:gH mg base z2.1 z2.2){f:Addr}(A:Around)(outer:List Env)(s:Shared)(H:Hp)(Q:VK)(E:XK)(hr:bV 15 (A.deeper (PyProof.Rows.envOfC "law" (aI eX) s.heap.objs.size f (.ref z1.1))))(q:∀H',lJ [z1,z2] H'->Q (.bl true) H'):
 ∃t,dQ (jR P w K mg base f z1.1 A outer s H E) ((aV eX).drop 15) t/\
  ∀(H1 Hz:Hp) (W:W5) (r:Addr->Nat) (a:Addr) (ns:List Int) (ln pl hs ll:Addr) (o2 o4 o5 o7 o8 o10 o13 o14 o15 o16 o18 o19 o20 o21 o22 o23:Option V),jZ W->kC W r->kY Hz W r z2.2->W.s 0≠W.s 1->ZC5 K Hz W a ns ln pl hs ll->LSt5 K CS CF CB CT CG z2.2 Hz W r 0 H1->(∃S,Hz z1.2=some (eN z1.2 S))->
   (∀(σ:St) (HB:Hp) (fl:eC),nO (jR P w K mg base f z1.1 A outer s H E) σ HB fl->σ[6]?=some (some (.ref W.ca))->aE Hz HB->iU P w K mg base 4 (cW fl HB) W.fa W.ca fT (fun _=>True))->
   t {nx:=fun _ H'=>Q .non H',rt:=Q} [some (.ref a),some (.int (W.m:Int)),o2,some (.ref ln),o4,o5,some (.ref W.ca),o7,o8,some (.ref (W.s 0)),o10,some (.ref pl),some (.ref hs),o13,o14,o15,o16,some (.ref ll),o18,o19,o20,o21,o22,o23] H1:=by
 have hu:=cU hr
 have G_mixed:bJ P w K mg base aF 1 "_law_mixed" ["_law_script","_law_k"] (tX K):=mU T
 have G_put:bJ P w K mg base aF 10 "_law_put" Ppt (a9j K CS CF CB CT CG z2.2):=vG T Y F Wb U VP
 have G_looked:bJ P w K mg base aF 13 "_law_looked" Plk (b1V P w K mg base CS CF CB CT CG z2.2):=uQ T Y R F Wb U Cc B2 M2
 have G_ruled:aT P w K mg base aF 4 CS "is_ruled" ["self","table","column"] (b2b CS CB CT):=wN T Y Wb
 have G_cols:aT P w K mg base aF 3 CS "columns" ["self","table"] (b0I CS CB CT):=sU T Y Wb
 refine⟨_,(aK (iG PassesOwn.never rfl (a0g rfl T.range (aB aY aG)) (eM (i:=18) eI.nd rfl (.inl rfl)) (aK (bN (i:=19) eI.nd rfl (.inl rfl) (bW fS aY (bW oQ aY (pv 18))))
  (aK (bN (i:=20) eI.nd rfl (.inl rfl) (cT gG (eO (aB aY (aB aY (aB aY (aB aY aG))))) (bW fV (bU G_mixed (hr.mono (by decide)) aR (aB (pv 0) (aB (pv 19) aG))) aY) (fun _ _=>rfl)))
  (aK (rY (cT gG (pv 11) (pv 20) (fun _ _=>rfl)) (xC rfl (jO (eM (i:=13) eI.nd rfl (.inl rfl)) (jO (eM (i:=14) eI.nd rfl (.inl rfl)) wR))))
  (aL (bM (dE qL (bW fV (bU G_mixed (hr.mono (by decide)) aR (aB (pv 0) (aB (bW fS (pv 19) aY) aG))) aY) aY (dH _)) (aL (bM (fE (dZ (bU G_put (hr.mono (by decide)) aR (aB (pv 0) (aB (bW fS (pv 19) aY) (aB (pv 13) (aB (pv 14) (aB (cT gG (pv 12) (pv 20) (fun _ _=>rfl)) (aB (pv 6) aG))))))) (fun _=>rfl))) (aL (bP nK)) bS)) (aK (bN (i:=21) eI.nd rfl (.inl rfl) (bW fV (bU G_mixed (hr.mono (by decide)) aR (aB (pv 0) (aB (bW fS (pv 19) aY) aG))) aY))
  (aK (bN (i:=22) eI.nd rfl (.inl rfl) (gO (aB (pv 13) (aB (pv 14) (aB (cT gG (eO (aB dW (aB dW aG))) (pv 21) (fun _ _=>rfl)) aG)))))
  (aK (bN (i:=23) eI.nd rfl (.inl rfl) (bW fV (bU G_mixed (hr.mono (by decide)) aR (aB (pv 0) (aB (bW fS (pv 19) aY) aG))) (pv 1)))
  (aL (bM (fE (dZ (b5G G_looked (hr.mono (by decide)) (aB (pv 22) (aB (pv 6) (aB (pv 3) (aB (cT gG (pv 12) (pv 20) (fun _ _=>rfl)) (aB (cT gG (pv 17) (bW fS (bW oQ aY (pv 20)) (pv 21)) (fun _ _=>rfl)) (aB (pv 23) aG))))))) (fun _=>rfl))) (aL (bP nK)) bS)))))))))))
  (aL (bP (oS (mH b54 (bZ (pv 9) Y.cl G_ruled (hr.mono (by decide)) aR (aB dW (aB dW aG))) nK (dH _)) (oC (mH (yK hr.units) (bZ (pv 9) Y.cl G_cols (hr.mono (by decide)) aR (aB dW aG)) (eO (aB dW (aB dW (aB dW (aB dW aG))))) (dH _))))))),?_⟩
 intro H1 Hz W r a ns ln pl hs ll o2 o4 o5 o7 o8 o10 o13 o14 o15 o16 o18 o19 o20 o21 o22 o23 O L Z nss C L1 hz1 fnH
 have m0:=O.m0
 have m6:=O.m6
 have hl:=C.nl
 refine⟨_,rfl,by decide,by decide,?_⟩
 refine b0B (lo:=0) (n:=(20:Int).toNat) (IvE K CS CF CB CT CG z2.2 Hz W r a ln pl hs ll o2 o4 o5 o7 o8 o10 o15 o16) ⟨_,_,_,_,_,_,_,_,rfl,L1⟩ ?_ ?_
 ·rintro n σ Hi hn ⟨o13,o14,o18,o19,o20,o21,o22,o23,rfl,Ls⟩
  have hn:n<20:=hn
  obtain⟨fi,fd,lk,y,d,kf,kl,mk,csh,ls,cl,wo,N,hca,lc⟩:=Ls
  have hSi:=N.old.seq C.sc
  refine⟨_,rfl,_,_,rfl,rfl,.inl ⟨by decide,by decide⟩,_,_,rfl,rfl,?_⟩
  refine⟨sl,fun l4 hl4=> ?_⟩
  have s1:=aE.new (o:=.lst [V.int 0,V.int 0,V.int 1,V.int 2]) hl4
  have c1:upd Hi l4 (.lst [V.int 0,V.int 0,V.int 1,V.int 2]) l4=some (.lst [V.int 0,V.int 0,V.int 1,V.int 2]):=aJ
  generalize upd Hi l4 (.lst [V.int 0,V.int 0,V.int 1,V.int 2])=H2 at s1 c1|-
  refine⟨_,rfl,_,rfl,a,ns,_,rfl,s1.seq hSi,hl,by omega,by omega,fun m1 h1 h2=>⟨_,_,rfl,rfl,(show(0:Int)<4 by decide),?_⟩⟩
  obtain⟨i,hi,ei⟩:=b3h m1
  refine⟨l4,_,_,.int (i:Int),rfl,rfl,aN.of c1,ei,?_⟩
  obtain⟨pt,pl1,pl2⟩:=C.pl
  have N2:=N.same s1
  have ca2:=s1 _ _ hca
  have old2:=N2.old
  refine⟨_,rfl,_,rfl,pl,_,_,.ref (pt i),rfl,rfl,aN.of (old2 _ _ pl1),kP (xW (fun k=>V.ref (pt k)) hi),?_⟩
  refine⟨pt i,_,rfl,cF.of (old2 _ _ (pl2 i hi)),rfl,_,_,rfl,_,_,rfl,rfl,?_⟩
  have hSi2:=s1.seq hSi
  refine⟨_,rfl,_,rfl,_,_,rfl,rfl,a,ns,_,rfl,hSi2,hl,by omega,by omega,fun m2 h3 h4=>⟨_,_,rfl,rfl,(show(0:Int)<3 by decide),rfl,_,rfl,?_⟩⟩
  refine eR (fun _=> ?_) (fun _=> ?_)
  ·refine⟨_,rfl,_,rfl,_,_,rfl,rfl,_,rfl,_,rfl,_,rfl,_,rfl,hs,_,_,.ref (W.hd i),rfl,rfl,aN.of (old2 _ _ C.hs),kP (xW (fun k=>V.ref (W.hd k)) hi),_,rfl,?_⟩
   refine⟨Hz,W,r,i,a,ns,_,fi,fd,lk,y,d,kf,kl,mk,csh,ls,cl,wo,rfl,O,L,Z,nss,hi,by omega,by omega,C.sc,hl,N2,ca2,fun k hk=>by{have:=lc k hk;omega},fun H' fi' fd' lk' y' d' kf' kl' c N' ca'=>⟨_,rfl,bL ⟨_,_,_,_,_,_,_,_,rfl,fi',fd',lk',y',d',kf',kl',mk,_,ls,[],wo,N',ca',fun k hk=> ?_⟩⟩⟩
   have:=lc k hk
   have:=lc _ (gD i hi).2.1
   by_cases e:k=aQ i
   ·rw[e,cB,List.length_append]
    show(csh (aQ i)).length+ 1<=30+ (n+ 1)
    omega
   ·rw[bX e]
    omega
  ·refine⟨_,rfl,_,rfl,_,_,rfl,rfl,a,ns,_,rfl,hSi2,hl,by omega,by omega,fun m3 h5 h6=>⟨_,_,rfl,rfl,(show(0:Int)<2 by decide),?_⟩⟩
   obtain⟨j,hj,ej⟩:∃j:Nat,j<2/\m3% 2=(j:Int):=⟨(m3% 2).toNat,by omega,by omega⟩
   refine⟨_,rfl,_,rfl,sl,fun l2 hl2=> ?_⟩
   have s3:=aE.new (o:=.lst [.str ("sum":Str),.str ("twin":Str)]) hl2
   have c3:upd H2 l2 (.lst [.str ("sum":Str),.str ("twin":Str)]) l2=some (.lst [.str ("sum":Str),.str ("twin":Str)]):=aJ
   generalize upd H2 l2 (.lst [.str ("sum":Str),.str ("twin":Str)])=H3 at s3 c3|-
   have cj:cG [V.str ("sum":Str),V.str ("twin":Str)] (j:Int)=some (.str (cI j)):=by
    rcases(cA (n:=j))with rfl|rfl<;>rfl
   refine⟨_,rfl,l2,_,_,.str (cI j),rfl,rfl,aN.of c3,by rw[ej];exact cj,sl,fun sp hsp=> ?_⟩
   have s4:=aE.new (o:=.tup [.ref (W.s (aQ i)),.str (bK i),.str (cI j)]) hsp
   have c4:upd H3 sp (.tup [.ref (W.s (aQ i)),.str (bK i),.str (cI j)]) sp=some (.tup [.ref (W.s (aQ i)),.str (bK i),.str (cI j)]):=aJ
   generalize upd H3 sp (.tup [.ref (W.s (aQ i)),.str (bK i),.str (cI j)])=H4 at s4 c4|-
   have s24:=s3.trans s4
   have N4:=N2.same s24
   have ca4:=s24 _ _ ca2
   have old4:=N4.old
   refine⟨_,rfl,_,rfl,_,_,rfl,rfl,a,ns,_,rfl,old4.seq C.sc,hl,by omega,by omega,fun m4 h7 h8=>⟨_,rfl,_,_,rfl,rfl,(show(0:Int)<(W.m:Int)by omega),?_⟩⟩
   have e1:=Int.emod_nonneg m4 (show(W.m:Int)≠0 by omega)
   have e2:=Int.emod_lt_of_pos m4 (show(0:Int)<(W.m:Int)by omega)
   obtain⟨p,hp'⟩:∃p:Nat,m4% (W.m:Int)=(p:Int):=⟨(m4% (W.m:Int)).toNat,by omega⟩
   have hp:p<W.m:=by omega
   have elw:∀i j:Nat,i<3->j<2->cG [V.ref (W.la 0 0),V.ref (W.la 0 1),V.ref (W.la 1 0),V.ref (W.la 1 1),V.ref (W.la 2 0),V.ref (W.la 2 1)] (2* (i:Int)+ (j:Int))=some (.ref (W.la i j)):=fun i j hi hj=>by
    rcases(iK (n:=i))with rfl|rfl|rfl<;>rcases(cA (n:=j))with rfl|rfl<;>rfl
   refine⟨_,rfl,_,rfl,_,rfl,_,rfl,_,rfl,hs,_,_,.ref (W.hd i),rfl,rfl,aN.of (old4 _ _ C.hs),kP (xW (fun k=>V.ref (W.hd k)) hi),?_⟩
   refine⟨_,rfl,_,rfl,_,_,rfl,rfl,.inl ⟨by decide,by omega⟩,_,rfl,_,_,rfl,rfl,ll,_,_,.ref (W.la i j),rfl,rfl,aN.of (old4 _ _ C.ll),by rw[ej];exact elw i j hi hj,_,rfl,fun fl Ln=> ?_⟩
   have sL:aE H4 (cW fl H4):=fun b o e=>by
    cases e2:fl b with
    |none=>rw[eJ e2];exact e
    |some ob=>rw[Ln.free b ob e2]at e;cases e
   refine⟨Hz,W,r,i,j,p,sp,ln,fi,fd,lk,y,d,kf,kl,mk,csh,ls,cl,wo,by{rw[<- hp']},O,L,Z,hi,hj,hp,sL _ _ c4,sL _ _ (old4 _ _ C.ln),N4.same sL,fnH _ _ _ Ln rfl old4,sL _ _ ca4,fun H' kf' kl' mk' ls' cl' wo' N' ca' kz=> ?_⟩
   obtain⟨NU,kn⟩:=cS.unl Ln old4 N4.lb kz N'
   refine⟨_,rfl,bL ⟨_,_,_,_,_,_,_,_,rfl,fi,fd,lk,y,d,kf',kl',mk',csh,ls',cl',wo',NU,kn _ _ (fun _ y=>by cases y) ca',fun k hk=>by{have:=lc k hk;omega}⟩⟩
 ·rintro σ Hi ⟨o13,o14,o18,o19,o20,o21,o22,o23,rfl,Ls⟩
  obtain⟨fi,fd,lk,y,d,kf,kl,mk,csh,ls,cl,wo,N,hca,lc⟩:=Ls
  have F0:=N.F 0 (by decide) _ (lR (W:=W) (i:=0) (by decide))
  obtain⟨kb,e2,e3⟩:=F0.bds
  obtain⟨dS,sS⟩:=N.sh 0 (by decide)
  have ord0:=O.od 0 (by decide)
  refine⟨_,rfl,W.s 0,dS,_,rfl,sS,fA,W.s 0,W.bd 0,W.ch 0,fi 0,dS,kb,"t","sum",W.B 0,rfl,sS,e2,eV.2.2.1,e3,F0.B,eV.2.2.2.2.2.2.1,by rw[ord0];decide+kernel,fun H' s'=> ?_⟩
  have er:(aM (W.B 0).rus (.inr ("sum":Str):aA)).isSome=true:=by rw[show ("sum":Str)=cI 0 from rfl,O.r1 0 0 (by decide) (by decide)];rfl
  rw[er]
  have N':=N.same s'
  refine⟨true,true,rfl,rfl,_,rfl,dM ?_⟩
  refine⟨_,rfl,W.s 0,dS,_,rfl,s' _ _ sS,fA,W.s 0,W.bd 0,W.ch 0,fi 0,dS,kb,"t",W.B 0,rfl,s' _ _ sS,s' _ _ e2,eV.2.2.1,e3,F0.B.same s',fun H2 l s2 hl0 hl2=> ?_⟩
  rw[ord0]at hl2
  refine⟨sl,fun l4 hl4=> ?_⟩
  have s3:=aE.new (o:=.lst [.str ("a":Str),.str ("b":Str),.str ("sum":Str),.str ("twin":Str)]) hl4
  refine⟨_,_,Dt.lst (aN.of (s3 _ _ hl2)) (.cons (.str _) (.cons (.str _) (.cons (.str _) (.cons (.str _) .nil)))),Dt.lst (aN.of aJ) (.cons (.str _) (.cons (.str _) (.cons (.str _) (.cons (.str _) .nil)))),by decide+kernel,by decide+kernel,by decide+kernel,?_⟩
  rw[show PyData.eqv (PyData.list [.str ("a":Str),.str ("b":Str),.str ("sum":Str),.str ("twin":Str)]) (PyData.list [.str ("a":Str),.str ("b":Str),.str ("sum":Str),.str ("twin":Str)])=true by simp[PyData.eqv,PyData.eqvAll]]
  have N3:=(N'.same s2).same s3
  refine q _ fun z hz=> ?_
  simp only[List.mem_cons,List.not_mem_nil,or_false]at hz
  rcases hz with rfl|rfl
  ·obtain⟨S,e⟩:=hz1
   exact⟨S,N3.old _ _ e⟩
  ·obtain⟨S,e,_⟩:=N3.tb
   exact⟨S,e⟩
end
def Kd:Option HO->Prop
 |some (.lst _)=>True
 |some (.dK _)=>True
 |some (.ins _ _ _)=>True
 |_=>False
theorem Kd.ne{o:Option HO}(h:Kd o):o≠none:=fun e=>by rw[e]at h;exact h
theorem Kd.lst{H:Hp}{a:Addr}{xs:List V}(h:H a=some (.lst xs)):Kd (H a):=by rw[h];trivial
theorem Kd.dK{H:Hp}{a:Addr}{xs:List (aA×V)}(h:H a=some (.dK xs)):Kd (H a):=by rw[h];trivial
theorem Kd.ins{H:Hp}{a C d:Addr}{xs:List (Str×V)}(h:H a=some (.ins C d xs)):Kd (H a):=by rw[h];trivial
noncomputable def pM:List (Addr×Nat)->(Addr->Nat)->Addr->Nat
 | [],r,x=>r x
 |p::ps,r,x=>if x=p.1 then p.2 else pM ps r x
theorem a9O{r:Addr->Nat}:∀{as:List (Addr×Nat)} {p:Addr×Nat},(as.map (·.1)).Nodup->p∈as->pM as r p.1=p.2
 | [],_,_,h=>by cases h
 |q::as,p,nd,h=>by
  rw[List.map_cons,List.nodup_cons]at nd
  unfold pM
  rcases List.mem_cons.mp h with rfl|h
  ·rw[if_pos rfl]
  ·rw[if_neg (fun e=>nd.1 (by rw[<- e];exact List.mem_map.mpr ⟨p,h,rfl⟩))]
   exact a9O nd.2 h
theorem zI{r:Addr->Nat}:∀{as:List (Addr×Nat)} {x:Addr},(∀p∈as,x≠p.1)->pM as r x=r x
 | [],_,_=>rfl
 |q::as,x,h=>by
  unfold pM
  rw[if_neg (h q List.mem_cons_self)]
  exact zI fun p hp=>h p (List.mem_cons_of_mem _ hp)
theorem qQ{r:Addr->Nat}{H H':Hp}(as:List (Addr×Nat))(nd:(as.map (·.1)).Nodup)(lb:∀x,r x≠0->Kd (H x))(mo:∀x,Kd (H x)->Kd (H' x))(fr:∀p∈as,H p.1=none/\Kd (H' p.1)):∃r':Addr->Nat,(∀p∈as,r' p.1=p.2)/\(∀x,(∀p∈as,x≠p.1)->r' x=r x)/\(∀x,H x≠none->r' x=r x)/\∀x,r' x≠0->Kd (H' x):=by
 refine⟨pM as r,fun p hp=>a9O nd hp,fun x hx=>zI hx,fun x hx=>zI fun p hp e=>hx (by rw[e];exact(fr p hp).1),fun x hx=> ?_⟩
 by_cases h:∃p∈as,x=p.1
 ·obtain⟨p,hp,rfl⟩:=h
  exact(fr p hp).2
 ·rw[zI fun p hp e=>h ⟨p,hp,e⟩]at hx
  exact mo x (lb x hx)
theorem pD{H H':Hp}(L:List Addr)(hL:∀a∈L,Kd (H' a))(u:∀x o,x∉L->H x=some o->H' x=some o):∀x,Kd (H x)->Kd (H' x):=fun x h=>by
 by_cases hx:x∈L
 ·exact hL x hx
 ·cases e:H x with
  |none=>rw[e]at h;exact h.elim
  |some o=>rw[u x o hx e,<- e];exact h
theorem lK{r:Addr->Nat}{H:Hp}(lb:∀x,r x≠0->Kd (H x)){x:Addr}(h:¬Kd (H x)):r x=0:=by
 rcases Nat.eq_zero_or_pos (r x)with e|e
 ·exact e
 ·exact absurd (lb x (by omega)) h
theorem oM{r:Addr->Nat}{H:Hp}(lb:∀x,r x≠0->Kd (H x)){x:Addr}(h:H x=none):r x=0:=lK lb (by rw[h];exact id)
def Lp(i l:Nat):Prop:=l=0\/ l=100+ i\/ l=110+ i\/ l=120+ 2* i\/ l=121+ 2* i\/ l=140+ 2* i\/ l=141+ 2* i\/ l=190+ 2* i\/ l=191+ 2* i\/ l=210+ i\/ l=220+ i\/ l=230+ i\/ l=240+ i
def fC(k n l:Nat):Prop:=l=251+ k\/ l=180+ k\/ l=200+ k\/ l=110+ n\/ l=210+ n\/ l=220+ n\/ l=230+ n
theorem lp_a{i q l:Nat}(hq:q<2)(h:l=120+ 2* i+ q):Lp i l:=by
 rcases q with _|_|q
 ·exact(.inr (.inr (.inr (.inl h))))
 ·exact(.inr (.inr (.inr (.inr (.inl (by omega))))))
 ·exact absurd hq (by omega)
theorem lp_b{i q l:Nat}(hq:q<2)(h:l=140+ 2* i+ q):Lp i l:=by
 rcases q with _|_|q
 ·exact(.inr (.inr (.inr (.inr (.inr (.inl h))))))
 ·exact(.inr (.inr (.inr (.inr (.inr (.inr (.inl (by omega))))))))
 ·exact absurd hq (by omega)
theorem lp_c{i q l:Nat}(hq:q<2)(h:l=190+ 2* i+ q):Lp i l:=by
 rcases q with _|_|q
 ·exact(.inr (.inr (.inr (.inr (.inr (.inr (.inr (.inl h))))))))
 ·exact(.inr (.inr (.inr (.inr (.inr (.inr (.inr (.inr (.inl (by omega))))))))))
 ·exact absurd hq (by omega)
theorem a9r{i k n l:Nat}(hi:i<3)(hn:n<3)(hk:k<2)(ne:i≠n)(h:Lp i l):¬fC k n l:=by
 have key:∀i n:Fin 3,∀k:Fin 2,i.1=n.1\/ ∀x∈ [0,100+ i.1,110+ i.1,120+ 2* i.1,121+ 2* i.1,140+ 2* i.1,141+ 2* i.1,190+ 2* i.1,191+ 2* i.1,210+ i.1,220+ i.1,230+ i.1,240+ i.1],¬(x=251+ k.1\/ x=180+ k.1\/ x=200+ k.1\/ x=110+ n.1\/ x=210+ n.1\/ x=220+ n.1\/ x=230+ n.1):=by decide+kernel
 refine(key ⟨i,hi⟩ ⟨n,hn⟩ ⟨k,hk⟩).resolve_left ne l ?_
 unfold Lp at h
 simpa only[List.mem_cons,List.not_mem_nil,or_false] using h
theorem oO{k n q l:Nat}(hk:k<2)(hn:n<3)(hq:q<2)(h:l=120+ 2* n+ q\/ l=140+ 2* n+ q\/ l=190+ 2* n+ q\/ l=240+ n):¬fC k n l:=by
 have key:∀k:Fin 2,∀n:Fin 3,∀q:Fin 2,∀x∈ [120+ 2* n.1+ q.1,140+ 2* n.1+ q.1,190+ 2* n.1+ q.1,240+ n.1],¬(x=251+ k.1\/ x=180+ k.1\/ x=200+ k.1\/ x=110+ n.1\/ x=210+ n.1\/ x=220+ n.1\/ x=230+ n.1):=by decide+kernel
 refine key ⟨k,hk⟩ ⟨n,hn⟩ ⟨q,hq⟩ l ?_
 simpa only[List.mem_cons,List.not_mem_nil,or_false] using h
theorem a04{i l:Nat}(hi:i<3)(h:Lp i l):l≠250:=by
 have key:∀i:Fin 3,∀x∈ [0,100+ i.1,110+ i.1,120+ 2* i.1,121+ 2* i.1,140+ 2* i.1,141+ 2* i.1,190+ 2* i.1,191+ 2* i.1,210+ i.1,220+ i.1,230+ i.1,240+ i.1],x≠250:=by decide+kernel
 refine key ⟨i,hi⟩ l ?_
 unfold Lp at h
 simpa only[List.mem_cons,List.not_mem_nil,or_false] using h
section
variable{K:Fg}
structure PB(CB CT gr:Addr)(m:Nat)(ys:Nat->List V)(B:BM)(lc mc:Nat->Addr)(i nq nj:Nat)(r:Addr->Nat)(H:Hp):Prop where
 bt:cD CB CT H B
 xs:B.xs=fI 0 m
 kvs:B.kvs= [((.inr "a":aA),V.ref (lc 0)),((.inr "b":aA),V.ref (lc 1))].take nq
 rus:B.rus= [((.inr "sum":aA),V.ref gr),((.inr "twin":aA),V.ref gr)].take nj
 mes:B.mes= [((.inr "sum":aA),V.ref (mc 0)),((.inr "twin":aA),V.ref (mc 1))].take nj
 ord:B.ord= [("a":Str),("b":Str)].take nq++ [("sum":Str),("twin":Str)].take nj
 lr:r B.r=100+ i/\r B.od=110+ i/\r B.e=210+ i/\r B.ru=220+ i/\r B.me=230+ i
 l0:r B.b=0/\r B.g=0
 lc:∀q,q<nq->q<2->r (lc q)=120+ 2* i+ q/\H (lc q)=some (.lst (ys q))
 mc:∀j,j<nj->j<2->r (mc j)=190+ 2* i+ j/\H (mc j)=some (.dK [])
structure PH(ys:Nat->List V)(hd:Addr)(hl:Nat->Addr)(i:Nat)(r:Addr->Nat)(H:Hp):Prop where
 dk:H hd=some (.dK [((.inr "a":aA),V.ref (hl 0)),((.inr "b":aA),V.ref (hl 1))])
 lh:r hd=240+ i
 ll:∀q,q<2->r (hl q)=140+ 2* i+ q/\H (hl q)=some (.lst (ys q))
section
variable{CS CF CB CT CG gr:Addr}{m:Nat}{ys:Nat->List V}{B:BM}{lc mc hl:Nat->Addr}{hd:Addr}{i nq nj:Nat}{r r':Addr->Nat}{H H':Hp}
theorem PB.sep(h:PB CB CT gr m ys B lc mc i nq nj r H):B.sep:=by
 obtain⟨a,b,c,d,e⟩:=h.lr
 have ne:∀{x y:Addr},r x≠r y->x≠y:=fun h e=>h (by rw[e])
 exact⟨ne (by omega),ne (by omega),ne (by omega),ne (by omega)⟩
theorem PB.mv{Bad:Nat->Prop}(hb:∀l,Lp i l->¬Bad l)(g:∀x,H x≠none->r' x=r x)(fr:∀x o,¬Bad (r x)->H x=some o->H' x=some o)(h:PB CB CT gr m ys B lc mc i nq nj r H):PB CB CT gr m ys B lc mc i nq nj r' H':=by
 obtain⟨a,b,c,d,e⟩:=h.lr
 obtain⟨b0,g0⟩:=h.l0
 obtain⟨⟨d1,e1⟩,⟨⟨d2,e2⟩,e3,e4⟩,e5,e6,e7⟩:=h.bt
 have k:∀{x:Addr} {o:HO},H x=some o->Lp i (r x)->H' x=some o/\r' x=r x:=fun{x o} e p=>⟨fr x o (hb _ p) e,g x (by rw[e];exact fun y=>by cases y)⟩
 have k1:=k e1 (.inl b0)
 have k2:=k e2 (.inl g0)
 have k3:=k e3 (.inr (.inl a))
 have k4:=k e4 (.inr (.inr (.inr (.inr (.inr (.inr (.inr (.inr (.inr (.inl c))))))))))
 have k5:=k e5 (.inr (.inr (.inr (.inr (.inr (.inr (.inr (.inr (.inr (.inr (.inl d)))))))))))
 have k6:=k e6 (.inr (.inr (.inr (.inr (.inr (.inr (.inr (.inr (.inr (.inr (.inr (.inl e))))))))))))
 have k7:=k e7 (.inr (.inr (.inl b)))
 refine⟨⟨⟨d1,k1.1⟩,⟨⟨d2,k2.1⟩,k3.1,k4.1⟩,k5.1,k6.1,k7.1⟩,h.xs,h.kvs,h.rus,h.mes,h.ord,⟨k3.2.trans a,k7.2.trans b,k4.2.trans c,k5.2.trans d,k6.2.trans e⟩,⟨k1.2.trans b0,k2.2.trans g0⟩,fun q h1 h2=> ?_,fun j h1 h2=> ?_⟩
 ·obtain⟨x1,x2⟩:=h.lc q h1 h2
  have:=k x2 (lp_a h2 x1)
  exact⟨this.2.trans x1,this.1⟩
 ·obtain⟨x1,x2⟩:=h.mc j h1 h2
  have:=k x2 (lp_c h2 x1)
  exact⟨this.2.trans x1,this.1⟩
theorem PH.mv{Bad:Nat->Prop}(hb:∀l,Lp i l->¬Bad l)(g:∀x,H x≠none->r' x=r x)(fr:∀x o,¬Bad (r x)->H x=some o->H' x=some o)(h:PH ys hd hl i r H):PH ys hd hl i r' H':=by
 have k:∀{x:Addr} {o:HO},H x=some o->Lp i (r x)->H' x=some o/\r' x=r x:=fun{x o} e p=>⟨fr x o (hb _ p) e,g x (by rw[e];exact fun y=>by cases y)⟩
 have l1:=h.lh
 have k1:=k h.dk (.inr (.inr (.inr (.inr (.inr (.inr (.inr (.inr (.inr (.inr (.inr (.inr l1))))))))))))
 refine⟨k1.1,k1.2.trans l1,fun q hq=> ?_⟩
 obtain⟨x1,x2⟩:=h.ll q hq
 have:=k x2 (lp_b hq x1)
 exact⟨this.2.trans x1,this.1⟩
end
structure dP(K:Fg)(CS CF CB CT CG:Addr)(H0:Hp)(r0:Addr->Nat)(W:W5)(hs:Addr)(ys:Nat->List V)(fi fd lk:Nat->Addr)(cs:Nat->List V)(kb:Nat->List (aA×V))(hv:List V)(n:Nat)(r:Addr->Nat)(H:Hp):Prop where
 lb:∀x,r x≠0->Kd (H x)
 rh:∀x,H0 x≠none->r x=r0 x
 old:∀x o,r0 x=0->H0 x=some o->H x=some o
 sh:∀k,k<2->(∃dx,H (W.s k)=some (.ins CS dx (dG (W.bd k) (W.ch k) (fi k))))/\H (W.ch k)=some (.lst (cs k))/\H (W.bd k)=some (.dK (kb k))/\(∃df,H (fi k)=some (.ins CF df (fX (W.bd k) (fd k) (lk k))))/\H (fd k)=some (.dT [])/\H (lk k)=some (.dT [])/\fd k≠lk k
 zf:∀k,k<2->r (fi k)=0
 ls:∀k,k<2->r (W.s k)=251+ k/\r (W.ch k)=180+ k/\r (W.bd k)=200+ k
 fx:∀k k',k<2->k'<2->k≠k'->fd k≠fd k'/\lk k≠lk k'/\fd k≠lk k'
 gr:r W.gr=162/\∃dx,H W.gr=some (.ins CG dx (fM W.nl W.fa))
 nl:r W.nl=161/\H W.nl=some (.lst (W.zs.map V.str))
 ca:r W.ca=160/\H W.ca=some (.lst [])
 hs:r hs=250/\H hs=some (.lst hv)
 pb:∀i,i<n->PB CB CT W.gr W.m ys (W.B i) (W.lc i) (W.mc i) i 2 2 r H
 ph:∀i,i<n->PH ys (W.hd i) (W.hl i) i r H
section
variable{CS CF CB CT CG:Addr}{H0:Hp}{r0:Addr->Nat}{W:W5}{hs:Addr}{ys:Nat->List V}{fi fd lk:Nat->Addr}{cs:Nat->List V}{kb:Nat->List (aA×V)}{hv hv':List V}{n:Nat}{r r':Addr->Nat}{H H':Hp}
theorem dP.held(N:dP K CS CF CB CT CG H0 r0 W hs ys fi fd lk cs kb hv n r H)(hn:n<=3)(g:∀x,H x≠none->r' x=r x)(lb':∀x,r' x≠0->Kd (H' x))(fr:∀x o,¬(r x=250)->H x=some o->H' x=some o)(hs':H' hs=some (.lst hv')):dP K CS CF CB CT CG H0 r0 W hs ys fi fd lk cs kb hv' n r' H':=by
 have k:∀{x:Addr} {o:HO},H x=some o->r x≠250->H' x=some o/\r' x=r x:=fun{x o} e p=>⟨fr x o p e,g x (by rw[e];exact fun y=>by cases y)⟩
 have nn:∀{x:Addr} {o:HO},H x=some o->H x≠none:=fun e y=>by rw[e]at y;cases y
 have dz:∀{x:Addr} {kvs},H x=some (.dT kvs)->r x=0:=fun{x kvs} e=>lK N.lb (by rw[e];exact id)
 refine⟨lb',fun x hx=> ?_,fun x o h0 e=> ?_,fun k' hk=> ?_,fun k' hk=> ?_,fun k' hk=> ?_,N.fx,?_,?_,?_,?_,fun i hi=>(N.pb i hi).mv (Bad:=fun l=>l=250) (fun l hl=>a04 (by omega) hl) g fr,fun i hi=>(N.ph i hi).mv (Bad:=fun l=>l=250) (fun l hl=>a04 (by omega) hl) g fr⟩
 ·have e:=N.rh x hx
  by_cases h0:r0 x=0
  ·cases e2:H0 x with
   |none=>exact absurd e2 hx
   |some o=>rw[g x (nn (N.old x o h0 e2)),e]
  ·rw[g x (N.lb x (by rw[e];exact h0)).ne,e]
 ·have e2:=N.old x o h0 e
  exact fr x o (fun y=>by rw[N.rh x (fun y2=>by rw[e]at y2;cases y2),h0]at y;cases y) e2
 ·obtain⟨⟨dx,s1⟩,s2,s3,⟨df,s4⟩,s5,s6,s7⟩:=N.sh k' hk
  obtain⟨l1,l2,l3⟩:=N.ls k' hk
  exact⟨⟨dx,(k s1 (by omega)).1⟩,(k s2 (by omega)).1,(k s3 (by omega)).1,⟨df,(k s4 (by rw[N.zf k' hk];decide)).1⟩,(k s5 (by rw[dz s5];decide)).1,(k s6 (by rw[dz s6];decide)).1,s7⟩
 ·obtain⟨⟨dx,s1⟩,s2,s3,⟨df,s4⟩,s5,s6,s7⟩:=N.sh k' hk
  rw[g _ (nn s4)]
  exact N.zf k' hk
 ·obtain⟨⟨dx,s1⟩,s2,s3,_⟩:=N.sh k' hk
  rw[g _ (nn s1),g _ (nn s2),g _ (nn s3)]
  exact N.ls k' hk
 ·obtain⟨a,dx,b⟩:=N.gr
  exact⟨(k b (by omega)).2.trans a,dx,(k b (by omega)).1⟩
 ·obtain⟨a,b⟩:=N.nl
  exact⟨(k b (by omega)).2.trans a,(k b (by omega)).1⟩
 ·obtain⟨a,b⟩:=N.ca
  exact⟨(k b (by omega)).2.trans a,(k b (by omega)).1⟩
 ·obtain⟨a,b⟩:=N.hs
  exact⟨(g _ (nn b)).trans a,hs'⟩
theorem lZ(s:aE H H'):∀x,Kd (H x)->Kd (H' x):=pD [] (fun _ h=>by cases h) fun x o _ e=>s _ _ e
theorem dP.same(N:dP K CS CF CB CT CG H0 r0 W hs ys fi fd lk cs kb hv n r H)(hn:n<=3)(s:aE H H'):dP K CS CF CB CT CG H0 r0 W hs ys fi fd lk cs kb hv n r H':=
 N.held hn (fun _ _=>rfl) (fun x hx=>lZ s x (N.lb x hx)) (fun x o _ e=>s _ _ e) (s _ _ N.hs.2)
theorem PB.same{gr:Addr}{m:Nat}{B:BM}{lc mc:Nat->Addr}{i nq nj:Nat}(s:aE H H')(h:PB CB CT gr m ys B lc mc i nq nj r H):PB CB CT gr m ys B lc mc i nq nj r H':=h.mv (Bad:=fun _=>False) (fun _ _=>id) (fun _ _=>rfl) (fun x o _ e=>s _ _ e)
theorem PH.same{hd:Addr}{hl:Nat->Addr}{i:Nat}(s:aE H H')(h:PH ys hd hl i r H):PH ys hd hl i r H':=h.mv (Bad:=fun _=>False) (fun _ _=>id) (fun _ _=>rfl) (fun x o _ e=>s _ _ e)
theorem dP.sheet(N:dP K CS CF CB CT CG H0 r0 W hs ys fi fd lk cs kb hv n r H){k:Nat}(hk:k<2)(hn:n<3)(g:∀x,H x≠none->r' x=r x)(lb':∀x,r' x≠0->Kd (H' x))(fr:∀x o,¬fC k n (r x)->H x=some o->H' x=some o){fi' fd' lk':Addr}{cs':List V}{kb':List (aA×V)}(Fr:lX CS CF (W.s k) (W.bd k) (W.ch k) fi' fd' lk' cs' kb' H H')(zf':r' fi'=0):dP K CS CF CB CT CG H0 r0 W hs ys (bH fi k fi') (bH fd k fd') (bH lk k lk') (bH cs k cs') (bH kb k kb') hv n r' H':=by
 have c0:¬fC k n 0:=by unfold fC;omega
 have kk:∀{x:Addr} {o:HO},H x=some o->¬fC k n (r x)->H' x=some o/\r' x=r x:=fun{x o} e p=>⟨fr x o p e,g x (by rw[e];exact fun y=>by cases y)⟩
 have nn:∀{x:Addr} {o:HO},H x=some o->H x≠none:=fun e y=>by rw[e]at y;cases y
 have dz:∀{x:Addr} {kvs},H x=some (.dT kvs)->r x=0:=fun{x kvs} e=>lK N.lb (by rw[e];exact id)
 obtain⟨f1,f2,f3,f4,f5,f6,f7,f8,f9,f10⟩:=Fr
 refine⟨lb',fun x hx=> ?_,fun x o h0 e=> ?_,fun k' hk'=> ?_,fun k' hk'=> ?_,fun k' hk'=> ?_,fun k1 k2 h1 h2 ne=> ?_,?_,?_,?_,?_,fun i hi=>(N.pb i hi).mv (Bad:=fC k n) (fun l hl=>a9r (by omega) hn hk (by omega) hl) g fr,fun i hi=>(N.ph i hi).mv (Bad:=fC k n) (fun l hl=>a9r (by omega) hn hk (by omega) hl) g fr⟩
 ·have e:=N.rh x hx
  by_cases h0:r0 x=0
  ·cases e2:H0 x with
   |none=>exact absurd e2 hx
   |some o=>rw[g x (nn (N.old x o h0 e2)),e]
  ·rw[g x (N.lb x (by rw[e];exact h0)).ne,e]
 ·have e2:=N.old x o h0 e
  exact fr x o (by rw[N.rh x (fun y2=>by rw[e]at y2;cases y2),h0];exact c0) e2
 ·by_cases h:k'=k
  ·subst h
   rw[cB,cB,cB,cB,cB]
   exact⟨f1,f2,f3,f4,f5,f6,f7⟩
  ·rw[bX h,bX h,bX h,bX h,bX h]
   obtain⟨⟨dx,s1⟩,s2,s3,⟨df,s4⟩,s5,s6,s7⟩:=N.sh k' hk'
   obtain⟨l1,l2,l3⟩:=N.ls k' hk'
   exact⟨⟨dx,(kk s1 (by unfold fC;omega)).1⟩,(kk s2 (by unfold fC;omega)).1,(kk s3 (by unfold fC;omega)).1,⟨df,(kk s4 (by rw[N.zf k' hk'];exact c0)).1⟩,(kk s5 (by rw[dz s5];exact c0)).1,(kk s6 (by rw[dz s6];exact c0)).1,s7⟩
 ·by_cases h:k'=k
  ·subst h
   rw[cB]
   exact zf'
  ·rw[bX h]
   obtain⟨⟨dx,s1⟩,s2,s3,⟨df,s4⟩,s5,s6,s7⟩:=N.sh k' hk'
   rw[g _ (nn s4)]
   exact N.zf k' hk'
 ·obtain⟨⟨dx,s1⟩,s2,s3,_⟩:=N.sh k' hk'
  rw[g _ (nn s1),g _ (nn s2),g _ (nn s3)]
  exact N.ls k' hk'
 ·have new:∀k',k'<2->fd k'≠fd'/\lk k'≠lk'/\fd k'≠lk'/\fd'≠lk k':=fun k' h=>by
   obtain⟨_,_,_,_,s5,s6,s7⟩:=N.sh k' h
   exact⟨bA s5 f9,bA s6 f10,bA s5 f10,(bA s6 f9).symm⟩
  by_cases e1:k1=k
  ·have e2:k2≠k:=fun e=>ne (by rw[e1,e])
   rw[e1,cB,cB,bX e2,bX e2]
   obtain⟨a,b,c,d⟩:=new k2 h2
   exact⟨a.symm,b.symm,d⟩
  ·by_cases e2:k2=k
   ·rw[e2,cB,cB,bX e1,bX e1]
    obtain⟨a,b,c,d⟩:=new k1 h1
    exact⟨a,b,c⟩
   ·rw[bX e1,bX e1,bX e2,bX e2]
    exact N.fx k1 k2 h1 h2 ne
 ·obtain⟨a,dx,b⟩:=N.gr
  have:=kk b (by unfold fC;omega)
  exact⟨this.2.trans a,dx,this.1⟩
 ·obtain⟨a,b⟩:=N.nl
  have:=kk b (by unfold fC;omega)
  exact⟨this.2.trans a,this.1⟩
 ·obtain⟨a,b⟩:=N.ca
  have:=kk b (by unfold fC;omega)
  exact⟨this.2.trans a,this.1⟩
 ·obtain⟨a,b⟩:=N.hs
  have:=kk b (by unfold fC;omega)
  exact⟨this.2.trans a,this.1⟩
theorem dP.tab(N:dP K CS CF CB CT CG H0 r0 W hs ys fi fd lk cs kb hv n r H){k:Nat}(hk:k<2)(hn:n<3){fi' fd' lk' b g rr e ru me od:Addr}{cs':List V}{kb':List (aA×V)}(lc mc:Nat->Addr)(Fr:lX CS CF (W.s k) (W.bd k) (W.ch k) fi' fd' lk' cs' kb' H H')(hB:cD CB CT H' ⟨b,g,rr,e,ru,me,od,fI 0 W.m,(W.m:Int),[],[],[],[]⟩)(sep:BM.sep ⟨b,g,rr,e,ru,me,od,fI 0 W.m,(W.m:Int),[],[],[],[]⟩)(nw:∀x∈ [b,g,rr,e,ru,me,od],H x=none)(u:∀x o,x≠W.s k->x≠W.ch k->x≠W.bd k->H x=some o->H' x=some o):
 ∃r',(∀x,H x≠none->r' x=r x)/\dP K CS CF CB CT CG H0 r0 W hs ys (bH fi k fi') (bH fd k fd') (bH lk k lk') (bH cs k cs') (bH kb k kb') hv n r' H'/\PB CB CT W.gr W.m ys ⟨b,g,rr,e,ru,me,od,fI 0 W.m,(W.m:Int),[],[],[],[]⟩ lc mc n 0 0 r' H':=by
 obtain⟨⟨d1,e1⟩,⟨⟨d2,e2⟩,e3,e4⟩,e5,e6,e7⟩:=id hB
 obtain⟨⟨dx,f1⟩,f2,f3,⟨df,f4⟩,f5,f6,f7,f8,f9,f10⟩:=id Fr
 obtain⟨n1,n2,n3,n4⟩:=sep
 have mo:∀x,Kd (H x)->Kd (H' x):=pD [W.s k,W.ch k,W.bd k] (fun a ha=>by
  simp only[List.mem_cons,List.not_mem_nil,or_false]at ha
  rcases ha with rfl|rfl|rfl
  ·exact Kd.ins f1
  ·exact Kd.lst f2
  ·exact Kd.dK f3) fun x o hx ex=>by
   simp only[List.mem_cons,List.not_mem_nil,or_false,not_or]at hx
   exact u x o hx.1 hx.2.1 hx.2.2 ex
 have ld:∀{x y:Addr} {xs ks},H' x=some (.lst xs)->H' y=some (.dK ks)->x≠y:=fun a b z=>by rw[z,b]at a;cases a
 have il:∀{x y C D:Addr} {fs xs},H' x=some (.ins C D fs)->H' y=some (.lst xs)->x≠y:=fun a b z=>by rw[z,b]at a;cases a
 have id':∀{x y C D:Addr} {fs xs},H' x=some (.ins C D fs)->H' y=some (.dK xs)->x≠y:=fun a b z=>by rw[z,b]at a;cases a
 have e1:H' b=some (.ins CB d1 (jF g ru me od)):=e1
 have e3:H' rr=some (.lst (fI 0 W.m)):=e3
 have e4:H' e=some (.dK []):=e4
 have e5:H' ru=some (.dK []):=e5
 have e6:H' me=some (.dK []):=e6
 have e7:H' od=some (.lst []):=e7
 obtain⟨r',h1,h2,h3,h4⟩:=qQ (r:=r) (H:=H) (H':=H') [(rr,100+ n),(od,110+ n),(e,210+ n),(ru,220+ n),(me,230+ n)] (by
  simp only[List.map_cons,List.map_nil,List.nodup_cons,List.mem_cons,List.not_mem_nil,or_false,not_or]
  exact⟨⟨n1,ld e3 e4,ld e3 e5,ld e3 e6⟩,⟨ld e7 e4,ld e7 e5,ld e7 e6⟩,⟨n2,n3⟩,n4,not_false,List.nodup_nil⟩) N.lb mo (fun p hp=>by
  simp only[List.mem_cons,List.not_mem_nil,or_false]at hp
  rcases hp with rfl|rfl|rfl|rfl|rfl
  ·exact⟨nw rr (by simp),Kd.lst e3⟩
  ·exact⟨nw od (by simp),Kd.lst e7⟩
  ·exact⟨nw e (by simp),Kd.dK e4⟩
  ·exact⟨nw ru (by simp),Kd.dK e5⟩
  ·exact⟨nw me (by simp),Kd.dK e6⟩)
 have zi:∀{x C D:Addr} {fs},H x=none->H' x=some (.ins C D fs)->r' x=0:=fun{x C D fs} h0 h=>by
  rw[h2 x (fun p hp=>by
   simp only[List.mem_cons,List.not_mem_nil,or_false]at hp
   rcases hp with rfl|rfl|rfl|rfl|rfl
   ·exact il h e3
   ·exact il h e7
   ·exact id' h e4
   ·exact id' h e5
   ·exact id' h e6),oM N.lb h0]
 obtain⟨l1,l2,l3⟩:=N.ls k hk
 refine⟨r',h3,N.sheet hk hn h3 h4 (fun x o hx ex=>u x o (fun y=>hx ?_) (fun y=>hx ?_) (fun y=>hx ?_) ex) Fr (zi f8 f4),⟨hB,rfl,rfl,rfl,rfl,rfl,⟨h1 (rr,100+ n) (by simp),h1 (od,110+ n) (by simp),h1 (e,210+ n) (by simp),h1 (ru,220+ n) (by simp),h1 (me,230+ n) (by simp)⟩,⟨zi (nw b (by simp)) e1,zi (nw g (by simp)) e2⟩,fun q h=>by{omega},fun j h=>by{omega}⟩⟩
 ·rw[y];exact .inl l1
 ·rw[y];exact .inr (.inl l2)
 ·rw[y];exact .inr (.inr (.inl l3))
end
section
variable{CS CF CB CT CG:Addr}{H0:Hp}{r0:Addr->Nat}{W:W5}{hs:Addr}{ys:Nat->List V}{fi fd lk:Nat->Addr}{cs:Nat->List V}{kb:Nat->List (aA×V)}{hv hv':List V}{n:Nat}{r r':Addr->Nat}{H H':Hp}{B:BM}{lc mc hl:Nat->Addr}{hd:Addr}
theorem dP.give(N:dP K CS CF CB CT CG H0 r0 W hs ys fi fd lk cs kb hv n r H){k:Nat}(hk:k<2)(hn:n<3){q:Nat}(hq:q<2)(C:PB CB CT W.gr W.m ys B lc mc n q 0 r H)(D:PH ys hd hl n r H){fi' fd' lk' l:Addr}{cs':List V}{kb':List (aA×V)}(Fr:lX CS CF (W.s k) (W.bd k) (W.ch k) fi' fd' lk' cs' kb' H H')(hl0:H l=none)(hB:cD CB CT H' {B with kvs:=aS B.kvs (.inr (dX q):aA) (.ref l),ord:=B.ord++ [dX q]})(hl':H' l=some (.lst (ys q)))(u:∀x o,x≠W.s k->x≠W.ch k->x≠B.od->x≠B.e->H x=some o->H' x=some o):
 ∃r',(∀x,H x≠none->r' x=r x)/\dP K CS CF CB CT CG H0 r0 W hs ys (bH fi k fi') (bH fd k fd') (bH lk k lk') (bH cs k cs') (bH kb k kb') hv n r' H'/\PB CB CT W.gr W.m ys {B with kvs:=aS B.kvs (.inr (dX q):aA) (.ref l),ord:=B.ord++ [dX q]} (bH lc q l) mc n (q+ 1) 0 r' H'/\PH ys hd hl n r' H':=by
 obtain⟨⟨dx,f1⟩,f2,f3,⟨df,f4⟩,f5,f6,f7,f8,f9,f10⟩:=id Fr
 have oB:=hB.ord
 have eB:=hB.tab.kept
 have mo:∀x,Kd (H x)->Kd (H' x):=pD [W.s k,W.ch k,B.od,B.e] (fun a ha=>by
  simp only[List.mem_cons,List.not_mem_nil,or_false]at ha
  rcases ha with rfl|rfl|rfl|rfl
  ·exact Kd.ins f1
  ·exact Kd.lst f2
  ·exact Kd.lst oB
  ·exact Kd.dK eB) fun x o hx ex=>by
   simp only[List.mem_cons,List.not_mem_nil,or_false,not_or]at hx
   exact u x o hx.1 hx.2.1 hx.2.2.1 hx.2.2.2 ex
 obtain⟨r',h1,h2,h3,h4⟩:=qQ (r:=r) (H:=H) (H':=H') [(l,120+ 2* n+ q)] (by simp) N.lb mo (fun p hp=>by
  rw[List.mem_singleton.mp hp]
  exact⟨hl0,Kd.lst hl'⟩)
 obtain⟨l1,l2,l3⟩:=N.ls k hk
 obtain⟨a1,a2,a3,a4,a5⟩:=C.lr
 obtain⟨b0,g0⟩:=C.l0
 have nn:∀{x:Addr} {o:HO},H x=some o->H x≠none:=fun e y=>by rw[e]at y;cases y
 have fr:∀x o,¬fC k n (r x)->H x=some o->H' x=some o:=fun x o hx ex=>u x o (fun y=>hx (.inl (by rw[y];exact l1))) (fun y=>hx (.inr (.inl (by rw[y];exact l2)))) (fun y=>hx (by simp[fC,y,a2])) (fun y=>hx (by simp[fC,y,a3])) ex
 obtain⟨⟨d1,e1⟩,⟨⟨d2,e2⟩,e3,e4⟩,e5,e6,e7⟩:=id C.bt
 refine⟨r',h3,N.sheet hk hn h3 h4 fr Fr ?_,⟨hB,C.xs,?_,C.rus,C.mes,?_,⟨(h3 _ (nn e3)).trans a1,(h3 _ (nn e7)).trans a2,(h3 _ (nn e4)).trans a3,(h3 _ (nn e5)).trans a4,(h3 _ (nn e6)).trans a5⟩,⟨(h3 _ (nn e1)).trans b0,(h3 _ (nn e2)).trans g0⟩,fun q' h5 h6=> ?_,fun j h=>by{omega}⟩,?_⟩
 ·rw[h2 fi' (fun p hp y=>by rw[List.mem_singleton.mp hp]at y;rw[y]at f4;rw[hl']at f4;cases f4),oM N.lb f8]
 ·show aS B.kvs (.inr (dX q):aA) (.ref l)=_
  rw[C.kvs]
  rcases(cA (n:=q))with rfl|rfl<;>rfl
 ·show B.ord++ [dX q]=_
  rw[C.ord]
  rcases(cA (n:=q))with rfl|rfl<;>rfl
 ·by_cases e:q'=q
  ·subst e
   rw[cB]
   exact⟨h1 (l,_) (by simp),hl'⟩
  ·rw[bX e]
   obtain⟨x1,x2⟩:=C.lc q' (by omega) h6
   exact⟨(h3 _ (nn x2)).trans x1,fr _ _ (oO hk hn h6 (.inl x1)) x2⟩
 ·have hd':=D.dk
  have lh:=D.lh
  refine⟨fr _ _ (oO hk hn hk (.inr (.inr (.inr lh)))) hd',(h3 _ (nn hd')).trans lh,fun q' hq'=> ?_⟩
  obtain⟨x1,x2⟩:=D.ll q' hq'
  exact⟨(h3 _ (nn x2)).trans x1,fr _ _ (oO hk hn hq' (.inr (.inl x1))) x2⟩
theorem dP.rule(N:dP K CS CF CB CT CG H0 r0 W hs ys fi fd lk cs kb hv n r H){k:Nat}(hk:k<2)(hn:n<3){j:Nat}(hj:j<2)(C:PB CB CT W.gr W.m ys B lc mc n 2 j r H)(D:PH ys hd hl n r H){fi' fd' lk' m:Addr}{cs':List V}{kb':List (aA×V)}(Fr:lX CS CF (W.s k) (W.bd k) (W.ch k) fi' fd' lk' cs' kb' H H')(hm0:H m=none)(hB:cD CB CT H' {B with rus:=aS B.rus (.inr (cI j):aA) (.ref W.gr),mes:=aS B.mes (.inr (cI j):aA) (.ref m),ord:=B.ord++ [cI j]})(hm':H' m=some (.dK []))(u:∀x o,x≠W.s k->x≠W.ch k->x≠B.od->x≠B.ru->x≠B.me->H x=some o->H' x=some o):
 ∃r',(∀x,H x≠none->r' x=r x)/\dP K CS CF CB CT CG H0 r0 W hs ys (bH fi k fi') (bH fd k fd') (bH lk k lk') (bH cs k cs') (bH kb k kb') hv n r' H'/\PB CB CT W.gr W.m ys {B with rus:=aS B.rus (.inr (cI j):aA) (.ref W.gr),mes:=aS B.mes (.inr (cI j):aA) (.ref m),ord:=B.ord++ [cI j]} lc (bH mc j m) n 2 (j+ 1) r' H'/\PH ys hd hl n r' H':=by
 obtain⟨⟨dx,f1⟩,f2,f3,⟨df,f4⟩,f5,f6,f7,f8,f9,f10⟩:=id Fr
 have oB:=hB.ord
 have uB:=hB.rul
 have mB:=hB.mem
 have mo:∀x,Kd (H x)->Kd (H' x):=pD [W.s k,W.ch k,B.od,B.ru,B.me] (fun a ha=>by
  simp only[List.mem_cons,List.not_mem_nil,or_false]at ha
  rcases ha with rfl|rfl|rfl|rfl|rfl
  ·exact Kd.ins f1
  ·exact Kd.lst f2
  ·exact Kd.lst oB
  ·exact Kd.dK uB
  ·exact Kd.dK mB) fun x o hx ex=>by
   simp only[List.mem_cons,List.not_mem_nil,or_false,not_or]at hx
   exact u x o hx.1 hx.2.1 hx.2.2.1 hx.2.2.2.1 hx.2.2.2.2 ex
 obtain⟨r',h1,h2,h3,h4⟩:=qQ (r:=r) (H:=H) (H':=H') [(m,190+ 2* n+ j)] (by simp) N.lb mo (fun p hp=>by
  rw[List.mem_singleton.mp hp]
  exact⟨hm0,Kd.dK hm'⟩)
 obtain⟨l1,l2,l3⟩:=N.ls k hk
 obtain⟨a1,a2,a3,a4,a5⟩:=C.lr
 obtain⟨b0,g0⟩:=C.l0
 have nn:∀{x:Addr} {o:HO},H x=some o->H x≠none:=fun e y=>by rw[e]at y;cases y
 have fr:∀x o,¬fC k n (r x)->H x=some o->H' x=some o:=fun x o hx ex=>u x o (fun y=>hx (.inl (by rw[y];exact l1))) (fun y=>hx (.inr (.inl (by rw[y];exact l2)))) (fun y=>hx (by simp[fC,y,a2])) (fun y=>hx (by simp[fC,y,a4])) (fun y=>hx (by simp[fC,y,a5])) ex
 obtain⟨⟨d1,e1⟩,⟨⟨d2,e2⟩,e3,e4⟩,e5,e6,e7⟩:=id C.bt
 refine⟨r',h3,N.sheet hk hn h3 h4 fr Fr ?_,⟨hB,C.xs,C.kvs,?_,?_,?_,⟨(h3 _ (nn e3)).trans a1,(h3 _ (nn e7)).trans a2,(h3 _ (nn e4)).trans a3,(h3 _ (nn e5)).trans a4,(h3 _ (nn e6)).trans a5⟩,⟨(h3 _ (nn e1)).trans b0,(h3 _ (nn e2)).trans g0⟩,fun q' h5 h6=> ?_,fun j' h5 h6=> ?_⟩,?_⟩
 ·rw[h2 fi' (fun p hp y=>by rw[List.mem_singleton.mp hp]at y;rw[y]at f4;rw[hm']at f4;cases f4),oM N.lb f8]
 ·show aS B.rus (.inr (cI j):aA) (.ref W.gr)=_
  rw[C.rus]
  rcases(cA (n:=j))with rfl|rfl<;>rfl
 ·show aS B.mes (.inr (cI j):aA) (.ref m)=_
  rw[C.mes]
  rcases(cA (n:=j))with rfl|rfl<;>rfl
 ·show B.ord++ [cI j]=_
  rw[C.ord]
  rcases(cA (n:=j))with rfl|rfl<;>rfl
 ·obtain⟨x1,x2⟩:=C.lc q' h5 h6
  exact⟨(h3 _ (nn x2)).trans x1,fr _ _ (oO hk hn h6 (.inl x1)) x2⟩
 ·by_cases e:j'=j
  ·subst e
   rw[cB]
   exact⟨h1 (m,_) (by simp),hm'⟩
  ·rw[bX e]
   obtain⟨x1,x2⟩:=C.mc j' (by omega) h6
   exact⟨(h3 _ (nn x2)).trans x1,fr _ _ (oO hk hn h6 (.inr (.inr (.inl x1)))) x2⟩
 ·have hd':=D.dk
  have lh:=D.lh
  refine⟨fr _ _ (oO hk hn hk (.inr (.inr (.inr lh)))) hd',(h3 _ (nn hd')).trans lh,fun q' hq'=> ?_⟩
  obtain⟨x1,x2⟩:=D.ll q' hq'
  exact⟨(h3 _ (nn x2)).trans x1,fr _ _ (oO hk hn hq' (.inr (.inl x1))) x2⟩
theorem dP.hold(N:dP K CS CF CB CT CG H0 r0 W hs ys fi fd lk cs kb hv n r H)(hn:n<3){nq nj:Nat}(C:PB CB CT W.gr W.m ys B lc mc n nq nj r H)(h01:hl 0≠hl 1)(nh:H hd=none)(n0:H (hl 0)=none)(n1:H (hl 1)=none)(e':H' hd=some (.dK [((.inr "a":aA),V.ref (hl 0)),((.inr "b":aA),V.ref (hl 1))]))(e0:H' (hl 0)=some (.lst (ys 0)))(e1:H' (hl 1)=some (.lst (ys 1)))(hs':H' hs=some (.lst hv'))(u:bC hs H H'):
 ∃r',(∀x,H x≠none->r' x=r x)/\dP K CS CF CB CT CG H0 r0 W hs ys fi fd lk cs kb hv' n r' H'/\PB CB CT W.gr W.m ys B lc mc n nq nj r' H'/\PH ys hd hl n r' H':=by
 have mo:∀x,Kd (H x)->Kd (H' x):=pD [hs] (fun a ha=>by
  rw[List.mem_singleton.mp ha]
  exact Kd.lst hs') fun x o hx ex=>u x o (fun y=>hx (by rw[y];exact List.mem_cons_self)) ex
 obtain⟨r',h1,h2,h3,h4⟩:=qQ (r:=r) (H:=H) (H':=H') [(hd,240+ n),(hl 0,140+ 2* n+ 0),(hl 1,140+ 2* n+ 1)] (by
  simp only[List.map_cons,List.map_nil,List.nodup_cons,List.mem_cons,List.not_mem_nil,or_false,not_or]
  exact⟨⟨fun y=>by{rw[y,e0]at e';cases e'},fun y=>by{rw[y,e1]at e';cases e'}⟩,h01,not_false,List.nodup_nil⟩) N.lb mo (fun p hp=>by
  simp only[List.mem_cons,List.not_mem_nil,or_false]at hp
  rcases hp with rfl|rfl|rfl
  ·exact⟨nh,Kd.dK e'⟩
  ·exact⟨n0,Kd.lst e0⟩
  ·exact⟨n1,Kd.lst e1⟩)
 have lhs:=N.hs.1
 have fr:∀x o,¬(r x=250)->H x=some o->H' x=some o:=fun x o hx ex=>u x o (fun y=>hx (by rw[y];exact lhs)) ex
 refine⟨r',h3,N.held (by omega) h3 h4 fr hs',C.mv (Bad:=fun l=>l=250) (fun l hl=>a04 hn hl) h3 fr,⟨e',h1 (hd,_) (by simp),fun q hq=> ?_⟩⟩
 rcases(cA (n:=q))with rfl|rfl
 ·exact⟨h1 (hl 0,_) (by simp),e0⟩
 ·exact⟨h1 (hl 1,_) (by simp),e1⟩
def W5.put(W:W5)(n:Nat)(B:BM)(lc mc:Nat->Addr)(hd:Addr)(hl:Nat->Addr):W5:={W with B:=bH W.B n B,lc:=bH W.lc n lc,mc:=bH W.mc n mc,hd:=bH W.hd n hd,hl:=bH W.hl n hl}
theorem dP.close(N:dP K CS CF CB CT CG H0 r0 W hs ys fi fd lk cs kb hv n r H)(C:PB CB CT W.gr W.m ys B lc mc n 2 2 r H)(D:PH ys hd hl n r H):dP K CS CF CB CT CG H0 r0 (W.put n B lc mc hd hl) hs ys fi fd lk cs kb hv (n+ 1) r H:=by
 refine⟨N.lb,N.rh,N.old,N.sh,N.zf,N.ls,N.fx,N.gr,N.nl,N.ca,N.hs,fun i hi=> ?_,fun i hi=> ?_⟩
 ·show PB CB CT W.gr W.m ys (bH W.B n B i) (bH W.lc n lc i) (bH W.mc n mc i) i 2 2 r H
  by_cases e:i=n
  ·subst e
   rw[cB,cB,cB]
   exact C
  ·rw[bX e,bX e,bX e]
   exact N.pb i (by omega)
 ·show PH ys (bH W.hd n hd i) (bH W.hl n hl i) i r H
  by_cases e:i=n
  ·subst e
   rw[cB,cB]
   exact D
  ·rw[bX e,bX e]
   exact N.ph i (by omega)
end
def gP(b:Nat->Addr)(k n:Nat):List (aA×V):=if k=0 then [((.inr "t":aA),V.ref (b 0)),((.inr "u":aA),V.ref (b 1))].take n else if n=3 then [((.inr "t":aA),V.ref (b 2))] else []
theorem b5k(b:Nat->Addr){n:Nat}(hn:n<3):aM (gP b (aQ n) n) (.inr (bK n):aA)=none:=by
 rcases(iK (n:=n))with rfl|rfl|rfl<;>rfl
theorem b41(b:Nat->Addr)(x:Addr){n:Nat}(hn:n<3):aS (gP b (aQ n) n) (.inr (bK n):aA) (.ref x)=gP (bH b n x) (aQ n) (n+ 1):=by
 rcases(iK (n:=n))with rfl|rfl|rfl<;>rfl
theorem b6s(b:Nat->Addr)(x:Addr){n k:Nat}(hn:n<3)(hk:k<2)(ne:k≠aQ n):gP b k n=gP (bH b n x) k (n+ 1):=by
 rcases(iK (n:=n))with rfl|rfl|rfl<;>rcases(cA (n:=k))with rfl|rfl<;>first|rfl|exact absurd rfl ne
theorem a1c(b:Nat->Addr){k n:Nat}(hn:n<=3):(gP b k n).length<4/\((gP b k n).map (·.1)).Nodup:=by
 unfold gP
 split
 ·rcases(show n=0\/ n=1\/ n=2\/ n=3 by omega)with rfl|rfl|rfl|rfl
  ·exact⟨(show 0<4 by decide),List.nodup_nil⟩
  ·exact⟨(show 1<4 by decide),by show [(.inr "t":aA)].Nodup;simp⟩
  ·exact⟨(show 2<4 by decide),by show [(.inr "t":aA),(.inr "u":aA)].Nodup;decide+kernel⟩
  ·exact⟨(show 2<4 by decide),by show [(.inr "t":aA),(.inr "u":aA)].Nodup;decide+kernel⟩
 ·split
  ·exact⟨(show 1<4 by decide),by show [(.inr "t":aA)].Nodup;simp⟩
  ·exact⟨by decide,List.nodup_nil⟩
theorem b6l(b:Nat->Addr){k n:Nat}(hk:k<2)(hn:n<=3){kv:aA×V}(h:kv∈gP b k n):∃i,i<n/\aQ i=k/\kv=((.inr (bK i):aA),V.ref (b i)):=by
 rcases(cA (n:=k))with rfl|rfl
 ·rcases(show n=0\/ n=1\/ n=2\/ n=3 by omega)with rfl|rfl|rfl|rfl
  ·cases h
  ·have h:kv∈ [((.inr "t":aA),V.ref (b 0))]:=h
   exact⟨0,by decide,rfl,List.mem_singleton.mp h⟩
  ·have h:kv∈ [((.inr "t":aA),V.ref (b 0)),((.inr "u":aA),V.ref (b 1))]:=h
   simp only[List.mem_cons,List.not_mem_nil,or_false]at h
   rcases h with rfl|rfl
   ·exact⟨0,by decide,rfl,rfl⟩
   ·exact⟨1,by decide,rfl,rfl⟩
  ·have h:kv∈ [((.inr "t":aA),V.ref (b 0)),((.inr "u":aA),V.ref (b 1))]:=h
   simp only[List.mem_cons,List.not_mem_nil,or_false]at h
   rcases h with rfl|rfl
   ·exact⟨0,by decide,rfl,rfl⟩
   ·exact⟨1,by decide,rfl,rfl⟩
 ·rcases(show n=0\/ n=1\/ n=2\/ n=3 by omega)with rfl|rfl|rfl|rfl
  ·cases h
  ·cases h
  ·cases h
  ·have h:kv∈ [((.inr "t":aA),V.ref (b 2))]:=h
   exact⟨2,by decide,rfl,List.mem_singleton.mp h⟩
theorem a9i(b:Nat->Addr){n:Nat}(hn:n<3):aM (gP b (aQ n) (n+ 1)) (.inr (bK n):aA)=some (.ref (b n)):=by
 rcases(iK (n:=n))with rfl|rfl|rfl<;>rfl
noncomputable def vF:List aC:=[("t","a"),("t","b"),("u","a"),("u","b")]
theorem b6z{i:Nat}(hi:i<3){z:Str}(hz:z= "a"\/ z= "b"):N2 (bK i,z)/\(bK i,z)∈vF:=by
 obtain⟨_,_,n1⟩:=gD i hi
 refine⟨⟨n1,?_⟩,?_⟩
 ·rcases hz with rfl|rfl
  ·exact eV.2.2.2.2.1
  ·exact eV.2.2.2.2.2.1
 ·rcases(iK (n:=i))with rfl|rfl|rfl<;>rcases hz with rfl|rfl<;>decide+kernel
theorem b5O{i j:Nat}(hi:i<3)(hj:j<2):(bK i,cI j)∉vF:=by
 rcases(iK (n:=i))with rfl|rfl|rfl<;>rcases(cA (n:=j))with rfl|rfl<;>decide+kernel
theorem a7u{i:Nat}(hi:i<3){zs:List Str}(hz:∀z∈zs,z= "a"\/ z= "b"):∀y∈dR (zs.map fun z=>(bK i,z)),∃z,y=(bK i,z)/\(z= "a"\/ z= "b")/\N2 y/\y∈vF:=fun y hy=>by
 obtain⟨z,h,rfl⟩:=List.mem_map.mp (yB hy)
 exact⟨z,rfl,hz z h,b6z hi (hz z h)⟩
theorem a5k{i:Nat}{zs:List Str}(z6:zs.length<=6):(dR (zs.map fun z=>(bK i,z))).length<=100:=by
 have:=a4x (zs.map fun z=>(bK i,z))
 rw[List.length_map]at this
 omega
theorem PB.bdr{CB CT CG gr dx nl fa bd:Addr}{m:Nat}{ys:Nat->List V}{B:BM}{lc mc:Nat->Addr}{i nq nj:Nat}{r:Addr->Nat}{H:Hp}{zs:List Str}(hi:i<3)(C:PB CB CT gr m ys B lc mc i nq nj r H)(hgr:H gr=some (.ins CG dx (fM nl fa)))(hnl:H nl=some (.lst (zs.map V.str)))(z6:zs.length<=6)(hz:∀z∈zs,z= "a"\/ z= "b")(hb:bd≠B.ru):pX CB CT CG bd (zQ CG) vF H ((.inr (bK i):aA),V.ref B.b):=by
 obtain⟨_,_,n1⟩:=gD i hi
 have hN:∀z∈zs,Nl z:=fun z h=>by
  rcases hz z h with rfl|rfl
  ·exact eV.2.2.2.2.1
  ·exact eV.2.2.2.2.2.1
 have le:=b0j (nm:=bK i) hgr hnl z6 hN n1
 refine⟨bK i,B,rfl,n1,C.bt,hb,?_,?_,fun rv hrv=> ?_⟩
 ·rw[C.rus,List.map_take]
  exact List.Nodup.sublist (List.take_sublist _ _) (show [(.inr "sum":aA),(.inr "twin":aA)].Nodup by decide+kernel)
 ·rw[C.rus,List.length_take]
  exact Nat.le_trans (Nat.min_le_right _ _) (show 2<=8 by decide)
 ·rw[C.rus]at hrv
  have hm:=List.mem_of_mem_take hrv
  simp only[List.mem_cons,List.not_mem_nil,or_false]at hm
  rcases hm with rfl|rfl
  ·exact⟨"sum",gr,dx,_,_,rfl,eV.2.2.2.2.2.2.1,hgr,(nC _ _).2.2.1,le,fun y hy=>let ⟨_,_,_,a,b⟩:=a7u hi hz y hy;⟨a,b⟩,a5k z6⟩
  ·exact⟨"twin",gr,dx,_,_,rfl,eV.2.2.2.2.2.2.2,hgr,(nC _ _).2.2.1,le,fun y hy=>let ⟨_,_,_,a,b⟩:=a7u hi hz y hy;⟨a,b⟩,a5k z6⟩
end
noncomputable def zR (H:Hp) (r:Addr->Nat) (zt:Addr):Hp:=fun x=>if r x≠0\/ x=zt then none else match H x with
 |some (.dT _)=>none
 |o=>o
theorem b2a{H:Hp}{r:Addr->Nat}{zt x:Addr}{o:HO}(h:zR H r zt x=some o):r x=0/\x≠zt/\(∀y,o≠ .dT y)/\H x=some o:=by
 unfold zR at h
 split at h
 ·cases h
 ·next n=>
  have n:=not_or.mp n
  split at h
  ·cases h
  ·next e=>
   refine⟨Decidable.not_not.mp n.1,n.2,fun y z=> ?_,h⟩
   subst z
   exact e y h
theorem xL{H:Hp}{r:Addr->Nat}{zt x:Addr}{o:HO}(h:H x=some o)(n:r x=0)(nz:x≠zt)(nd:∀y,o≠ .dT y):zR H r zt x=some o:=by
 unfold zR
 rw[if_neg (fun y=>y.elim (fun a=>a n) nz),h]
 split
 ·next e=>exact absurd (Option.some.inj e) (nd _)
 ·rfl
theorem b7G{u:_}:¬Kd (some (Fz u)):=by
 unfold Fz
 exact id
theorem b43(b:Nat->Addr){i:Nat}(hi:i<3):aM (gP b (aQ i) 3) (.inr (bK i):aA)=some (.ref (b i)):=by
 rcases(iK (n:=i))with rfl|rfl|rfl<;>rfl
section
variable{P:Program}{w:World}{K:Fg}{mg:Str->Option Value}{base:Heap}
structure rJ(K:Fg)(z1 z2:Addr×Addr)(H0:Hp)(r0:Addr->Nat)(W:W5)(a:Addr)(ns:List Int)(ln pl vd:Addr)(va:Nat->Addr)(ys:Nat->List V)(ds:Nat->List PyData):Prop where
 lb:∀x,r0 x≠0->Kd (H0 x)
 sc:(∃o,(o= .lst (ns.map V.int)\/ ∃q,o= .frz q (.lst (ns.map V.int)))/\H0 a=some o/\r0 a=0)\/ ∀H',aN K H' a (ns.map V.int)
 nl:ns.length<=63
 nm:H0 ln=some (.lst (W.zs.map V.str))/\r0 ln=0
 pt:∃pt:Nat->Addr,H0 pl=some (.lst [.ref (pt 0),.ref (pt 1),.ref (pt 2)])/\r0 pl=0/\∀i,i<3->H0 (pt i)=some (.tup [.ref (W.s (aQ i)),.str (bK i)])
 t1:∃S,H0 z1.2=some (eN z1.2 S)
 t2:H0 z2.2=some (eN z2.2 [])
 m0:0<W.m
 m6:W.m<=6
 zs:∀z∈W.zs,z= "a"\/ z= "b"
 z6:W.zs.length<=6
 dv:H0 vd=some (.dK [((.inr "a":aA),V.ref (va 0)),((.inr "b":aA),V.ref (va 1))])/\r0 vd=0
 lv:∀q,q<2->H0 (va q)=some (.lst (ys q))/\r0 (va q)=0/\cM K H0 (ys q) (ds q)/\(ys q).length=W.m/\∀x∈ds q,Bv x
theorem cJ.pre{CS CF CB CT CG:Addr}{H0:Hp}{r0:Addr->Nat}{W:W5}{hs:Addr}{ys:Nat->List V}{fi fd lk:Nat->Addr}{cs:Nat->List V}{kb:Nat->List (aA×V)}{hv:List V}{n:Nat}{r:Addr->Nat}{H:Hp}(lb0:∀x,r0 x≠0->Kd (H0 x))(N:dP K CS CF CB CT CG H0 r0 W hs ys fi fd lk cs kb hv n r H):cJ H0 H:=fun x xs e=>N.old x _ (lK lb0 (by rw[e];exact id)) e
theorem b4W(T:bE K mg){CS CF CB CT CG CR CV:Addr}(Y:eT K mg CS)(R:jI K mg CR)(F:eL K mg CF)(Wb:cO K mg CB)(U:dO K mg CT)(Cc:jC K mg CG)(VP:kT K mg CV){z1 z2:Addr×Addr}(B2:iF K mg "Finder" "gathered" "Finder.gathered" fD z2)(M2:gH mg base z2.1 z2.2)(n12:z1.2≠z2.2){f:Addr}(A:Around)(outer:List Env)(s:Shared)(H:Hp)(Q:VK)(E:XK)(hr:bV 15 (A.deeper (PyProof.Rows.envOfC "law" (aI eX) s.heap.objs.size f (.ref z1.1))))(q:∀H',lJ [z1,z2] H'->Q (.bl true) H'):
 ∃t,dQ (jR P w K mg base f z1.1 A outer s H E) ((aV eX).drop 14) t/\
  ∀(H6 H0:Hp) (r0 r:Addr->Nat) (W:W5) (hs a ln pl vd:Addr) (ns:List Int) (va:Nat->Addr) (ys:Nat->List V) (ds:Nat->List PyData) (fi fd lk:Nat->Addr) (cs:Nat->List V) (kb:Nat->List (aA×V)) (o2 o4 o5 o7 o8 o10 o13 o14 o15 o16 o17 o18 o19 o20 o21 o22 o23:Option V),rJ K z1 z2 H0 r0 W a ns ln pl vd va ys ds->dP K CS CF CB CT CG H0 r0 W hs ys fi fd lk cs kb [.ref (W.hd 0),.ref (W.hd 1),.ref (W.hd 2)] 3 r H6->(∀k,k<2->kb k=gP (fun i=>(W.B i).b) k 3)->(∀k,k<2->(cs k).length<=30)->
   (∀(σ:St) (HB:Hp) (fl:eC),nO (jR P w K mg base f z1.1 A outer s H E) σ HB fl->σ[6]?=some (some (.ref W.ca))->dC H0 HB->iU P w K mg base 4 (cW fl HB) W.fa W.ca fT (fun _=>True))->
   t {nx:=fun _ H'=>Q .non H',rt:=Q} [some (.ref a),some (.int (W.m:Int)),o2,some (.ref ln),o4,o5,some (.ref W.ca),o7,o8,some (.ref (W.s 0)),o10,some (.ref pl),some (.ref hs),o13,o14,o15,o16,o17,o18,o19,o20,o21,o22,o23] H6:=by
 have hu:=cU hr
 have hcl:∀x,(jR P w K mg base f z1.1 A outer s H E).env.scope.names.lookup x=some .cell->∃c,(jR P w K mg base f z1.1 A outer s H E).env.cells.lookup x=some c:=fun x hx=>Option.isSome_iff_exists.mp (PySem.W.cellsFrom_some _ _ _ (.inl hx))
 obtain⟨tE,hE,qE⟩:=b4R (P:=P) (w:=w) (z1:=z1) T Y R F Wb U Cc VP B2 M2 (f:=f) A outer s H Q E hr q
 refine⟨_,(aK (b7N (i:=17) eI.nd rfl rfl (qH (sc:=aI eX) (N:=sH) (cp:=[(1,"_law_many")]) hcl) rfl rfl (by decide) (a0g rfl T.range (aB aY aG)) (fun _ _ _ _ _=>pK) (fun _ _ _ _ _=>(vA a6M rfl rfl (by decide) (a0g rfl T.range (aB (pv 1) aG)) (fun _ _ _ _ _=>pK) (fun _ _ _ _ _=>hW))) rfl)
  hE),?_⟩
 intro H6 H0 r0 r W hs a ln pl vd ns va ys ds fi fd lk cs kb o2 o4 o5 o7 o8 o10 o13 o14 o15 o16 o17 o18 o19 o20 o21 o22 o23 O N hkb hcs fnH
 have m0:=O.m0
 have m6:=O.m6
 refine⟨_,rfl,by decide,by decide,fun ll hll=> ?_⟩
 refine b1q (lo:=0) (n:=(6:Int).toNat) (fun i xs H7=>∃g:Nat->Addr,xs=(List.range i).map (fun q=>V.ref (g q))/\aE H6 H7/\(∀q,q<i->H6 (g q)=none/\g q≠ll/\H7 (g q)=some (.lst (List.replicate W.m .non)))/\∀q q',q<i->q'<i->g q=g q'->q=q') ⟨fun _=>ll,rfl,aE.new hll,fun q h=>by{omega},fun q q' h=>by{omega}⟩ ?_ ?_
 ·rintro i xs H7 hi h7 ⟨g,rfl,s7,hg,inj⟩
  have hi:i<6:=hi
  refine⟨_,rfl,(W.m:Int),rfl,by omega,by omega,fun l hl=> ?_⟩
  rw[Int.toNat_natCast]
  refine b1q (lo:=0) (n:=W.m) (fun i ys H8=>ys=List.replicate i .non/\aE H7 H8) ⟨rfl,aE.new hl⟩ ?_ ?_
  ·rintro j ys H8 hj h8 ⟨rfl,s8⟩
   refine⟨h8,?_,?_,s8.on hl⟩
   ·rw[List.length_replicate]
    exact dD (by omega)
   ·rw[List.replicate_succ']
  rintro ys H8 h8 ⟨rfl,s8⟩
  have s68:=s7.trans s8
  have hl6:H6 l=none:=fB s7 hl
  have nll:l≠ll:=fun y=>by rw[y,h7]at hl;cases hl
  refine⟨s8 _ _ h7,dD (by rw[List.length_map,List.length_range];omega),fun q=>if q=i then l else g q,?_,s68.on hll,fun q hq=> ?_,fun q q' hq hq' e=> ?_⟩
  ·rw[List.range_succ,List.map_append]
   congr 1
   ·refine List.map_congr_left fun q hq=> ?_
    show V.ref (g q)=V.ref (if q=i then l else g q)
    rw[if_neg (by have:=List.mem_range.mp hq;omega)]
   ·show [V.ref l]= [V.ref (if i=i then l else g i)]
    rw[if_pos rfl]
  ·show H6 (if q=i then l else g q)=none/\(if q=i then l else g q)≠ll/\upd H8 ll _ (if q=i then l else g q)=_
   by_cases h:q=i
   ·rw[if_pos h]
    exact⟨hl6,nll,by rw[aH nll];exact h8⟩
   ·rw[if_neg h]
    obtain⟨a1,a2,a3⟩:=hg q (by omega)
    exact⟨a1,a2,by rw[aH a2];exact s8 _ _ a3⟩
  ·have nw:∀q,q<i->g q≠l:=fun q hq y=>by
    obtain⟨a1,a2,a3⟩:=hg q hq
    rw[y,hl]at a3
    cases a3
   have e:(if q=i then l else g q)=(if q'=i then l else g q'):=e
   by_cases h:q=i
   ·by_cases h':q'=i
    ·rw[h,h']
    ·rw[if_pos h,if_neg h']at e
     exact absurd e.symm (nw q' (by omega))
   ·by_cases h':q'=i
    ·rw[if_neg h,if_pos h']at e
     exact absurd e (nw q (by omega))
    ·rw[if_neg h,if_neg h']at e
     exact inj q q' (by omega) (by omega) e
 rintro xs H7 h7 ⟨g,rfl,s7,hg,inj⟩
 have h7:H7 ll=some (.lst [.ref (g 0),.ref (g 1),.ref (g 2),.ref (g 3),.ref (g 4),.ref (g 5)]):=h7
 have hg:∀q,q<6->H6 (g q)=none/\g q≠ll/\H7 (g q)=some (.lst (List.replicate W.m .non)):=hg
 have inj:∀q q',q<6->q'<6->g q=g q'->q=q':=inj
 obtain⟨r',h1,h2,h3,h4⟩:=qQ (r:=r) (H:=H6) (H':=H7) ((List.range 6).map fun q=>(g q,170+ q)) (by
  rw[List.map_map]
  refine List.pairwise_map.mpr (List.Pairwise.imp_of_mem (fun{x y} hx hy hxy e=>hxy (inj x y (List.mem_range.mp hx) (List.mem_range.mp hy) e)) (List.nodup_range (n:=6)))) N.lb (lZ s7) (fun p hp=>by
  obtain⟨q,hq,rfl⟩:=List.mem_map.mp hp
  obtain⟨a1,a2,a3⟩:=hg q (List.mem_range.mp hq)
  exact⟨a1,Kd.lst a3⟩)
 have N7:=N.held (Nat.le_refl 3) h3 h4 (fun x o _ e=>s7 _ _ e) (s7 _ _ N.hs.2)
 have lg:∀q,q<6->r' (g q)=170+ q:=fun q hq=>h1 (g q,170+ q) (List.mem_map.mpr ⟨q,List.mem_range.mpr hq,rfl⟩)
 have l_ll:r' ll=0:=by
  rw[h2 ll (fun p hp=>by
   obtain⟨q,hq,rfl⟩:=List.mem_map.mp hp
   exact(hg q (List.mem_range.mp hq)).2.1.symm),oM N.lb hll]
 let r2:Addr->Nat:=fun x=>if x=hs then 0 else r' x
 have l_hs:=N7.hs.1
 have r2_of:∀{x:Addr} {l:Nat},r' x=l->l≠250->r2 x=l:=fun{x l} e n=>by
  show(if x=hs then 0 else r' x)=l
  rw[if_neg (fun y=>n (by rw[<- e,y];exact l_hs)),e]
 have r2_zero:∀{x:Addr},r' x=0->r2 x=0:=fun e=>r2_of e (by decide)
 have lb2:∀x,r2 x≠0->Kd (H7 x):=fun x hx=>h4 x (fun y=>hx (r2_zero y))
 let W':W5:={W with la:=fun i j=>g (2* i+ j)}
 have kt:cJ H0 H7:=cJ.pre O.lb N7
 have OW:jZ W':=by
  refine⟨fun i q hi hq=> ?_,fun i j hi hj=> ?_,fun i q hi hq=> ?_,fun i j hi hj=> ?_,fun i hi=>(N7.pb i hi).xs,fun i hi=> ?_,m0,m6,O.zs,O.z6⟩
  ·show aM (W.B i).kvs (.inr (dX q):aA)=some (.ref (W.lc i q))
   rw[(N7.pb i hi).kvs]
   rcases(cA (n:=q))with rfl|rfl<;>rfl
  ·show aM (W.B i).rus (.inr (cI j):aA)=some (.ref W.gr)
   rw[(N7.pb i hi).rus]
   rcases(cA (n:=j))with rfl|rfl<;>rfl
  ·show aM (W.B i).rus (.inr (dX q):aA)=none
   rw[(N7.pb i hi).rus]
   rcases(cA (n:=q))with rfl|rfl<;>rfl
  ·show aM (W.B i).mes (.inr (cI j):aA)=some (.ref (W.mc i j))
   rw[(N7.pb i hi).mes]
   rcases(cA (n:=j))with rfl|rfl<;>rfl
  ·show(W.B i).ord=_
   rw[(N7.pb i hi).ord]
   rfl
 have LW:kC W' r2:=by
  refine⟨fun k hk=>r2_of (N7.ls k hk).2.1 (by omega),fun k hk=>r2_of (N7.ls k hk).2.2 (by omega),fun i hi=> ?_,fun i q hi hq=>r2_of ((N7.pb i hi).lc q hq hq).1 (by omega),fun i q hi hq=>r2_of ((N7.ph i hi).ll q hq).1 (by omega),fun i j hi hj=>r2_of ((N7.pb i hi).mc j hj hj).1 (by omega),fun i j hi hj=> ?_,fun i hi=>r2_of (N7.ph i hi).lh (by omega),r2_of N7.ca.1 (by decide),r2_of N7.nl.1 (by decide)⟩
  ·obtain⟨a1,a2,a3,a4,a5⟩:=(N7.pb i hi).lr
   exact⟨r2_of a1 (by omega),r2_of a2 (by omega),r2_of a3 (by omega),r2_of a4 (by omega),r2_of a5 (by omega)⟩
  ·have:=r2_of (lg (2* i+ j) (by omega)) (by omega)
   show r2 (g (2* i+ j))=170+ 2* i+ j
   omega
 let Hz:Hp:=zR H7 r2 z2.2
 have zs:aE Hz H7:=fun x o e=>(b2a e).2.2.2
 have Z:kY Hz W' r2 z2.2:=fun x o e=>by
  obtain⟨x1,x2,x3,_⟩:=b2a e
  refine⟨x1,x2,fun k hk y=> ?_,x3⟩
  have:=r2_of (N7.ls k hk).1 (by omega)
  rw[y]at x1
  have x1:r2 (W.s k)=0:=x1
  omega
 have t2':H7 z2.2=some (eN z2.2 []):=N7.old _ _ (lK O.lb (by rw[O.t2];exact id)) O.t2
 have NW:cS K CS CF CB CT CG z2.2 Hz W' r2 fi fd lk (fun _ q=>ys q) (fun _ q=>ds q) (fun _=> []) (fun _=> []) (fun _ _=> []) cs (fun _ _=>List.replicate W.m .non) (hU fun _ _ _=>none) (fun _ _ _=>none) H7:=by
  refine⟨zs,fun x hx=>(lb2 x hx).ne,fun k hk tb htb=> ?_,fun k hk=>⟨List.nodup_nil,fun _ h=>by{cases h}⟩,fun k hk t c p v ys _ e=>by{cases e},fun k hk=>(N7.sh k hk).2.2.2.2.2.1,fun k hk=>⟨List.nodup_nil,fun _ h=>by{cases h}⟩,fun k hk=>(N7.sh k hk).2.2.2.2.2.2,N7.fx,fun i q hi hq=> ?_,N7.gr.2,N7.nl.2,fun i j hi hj=>⟨((N7.pb i hi).mc j hj hj).2,jL.nil⟩,fun k hk=>(N7.sh k hk).1,fun k hk=>(N7.sh k hk).2.1,fun i hi=>(N7.ph i hi).dk,fun i q hi hq=>⟨ys q,((N7.ph i hi).ll q hq).2,(O.lv q hq).2.2.1.keep kt⟩,fun i j hi hj=>⟨(hg (2* i+ j) (by omega)).2.2,List.length_replicate,fun p hp=> ?_⟩,fun i j hi hj p hp=>⟨rfl,fun is v e=>by{cases e}⟩,fun i j p v hi hj hp e=>by{cases e},⟨[],t2',fun c hc=>by{cases hc}⟩⟩
  ·obtain⟨i,hi,rfl,rfl⟩:=nD hk htb
   obtain⟨_,_,s3,s4,s5,_⟩:=N7.sh _ hk
   exact⟨s4,⟨_,s3,by rw[hkb _ hk];exact b43 (fun i=>(W.B i).b) hi⟩,(N7.pb i hi).bt,s5,by decide⟩
  ·obtain⟨_,_,v3,v4,v5⟩:=O.lv q hq
   exact⟨((N7.pb i hi).lc q hq hq).2,v4,v3.keep kt,v5⟩
  ·show(List.replicate W.m V.non)[p]?=some .non
   exact List.getElem?_replicate_of_lt hp
 have zat:∀{x:Addr} {o:HO},r0 x=0->H0 x=some o->(∀φ,o≠ .ext φ)->(∀y,o≠ .dT y)->Hz x=some o:=fun{x o} h0 e n1 n2=>by
  refine xL (N7.old x o h0 e) (r2_zero ?_) (fun y=> ?_) n2
  ·rw[N7.rh x (fun y=>by rw[e]at y;cases y),h0]
  ·rw[y,O.t2]at e
   exact n1 _ (Option.some.inj e).symm
 have kzz:dC H0 Hz:=fun b u e=>zat (lK O.lb (by rw[e];exact b7G)) e (fun φ y=>by unfold Fz at y;cases y) (fun φ y=>by unfold Fz at y;cases y)
 have C:ZC5 K Hz W' a ns ln pl hs ll:=by
  refine⟨?_,O.nl,zat O.nm.2 O.nm.1 (fun _ y=>by cases y) (fun _ y=>by cases y),?_,xL N7.hs.2 (by show(if hs=hs then 0 else r' hs)=0;rw[if_pos rfl]) (fun y=>by have e:=N7.hs.2;rw[y,t2']at e;cases e) (fun _ y=>by cases y),xL h7 (r2_zero l_ll) (fun y=>by rw[y,t2']at h7;cases h7) (fun _ y=>by cases y)⟩
  ·rcases O.sc with⟨o,ho,e,z⟩|h
   ·rcases ho with rfl|⟨q,rfl⟩
    ·exact .inl (.inl (zat z e (fun _ y=>by cases y) (fun _ y=>by cases y)))
    ·exact .inl (.inr ⟨q,zat z e (fun _ y=>by cases y) (fun _ y=>by cases y)⟩)
   ·exact h Hz
  ·obtain⟨pt,p1,p2,p3⟩:=O.pt
   exact⟨pt,zat p2 p1 (fun _ y=>by cases y) (fun _ y=>by cases y),fun i hi=>zat (lK O.lb (by rw[p3 i hi];exact id)) (p3 i hi) (fun _ y=>by cases y) (fun _ y=>by cases y)⟩
 have hz1:∃S,Hz z1.2=some (eN z1.2 S):=by
  obtain⟨S,e⟩:=O.t1
  have z:=lK O.lb (x:=z1.2) (by rw[e];exact id)
  exact⟨S,xL (N7.old _ _ z e) (r2_zero (by rw[N7.rh _ (fun y=>by rw[e]at y;cases y),z])) n12 (fun _ y=>by unfold eN at y;cases y)⟩
 have nss:W.s 0≠W.s 1:=fun y=>by
  have a0:=(N7.ls 0 (by decide)).1
  have a1:=(N7.ls 1 (by decide)).1
  rw[y,a1]at a0
  cases a0
 exact qE H7 Hz W' r2 a ns ln pl hs ll o2 o4 o5 o7 o8 o10 o13 o14 o15 o16 o18 o19 o20 o21 o22 o23 OW LW Z nss C ⟨fi,fd,lk,_,_,_,_,_,cs,_,[],_,NW,N7.ca.2,fun k hk=>hcs k hk⟩ hz1 (fun σ HB fl Ln h6 sz=>fnH σ HB fl Ln h6 fun b u e=>sz _ _ (kzz b u e))
end
def two(x y:Addr):Nat->Addr
 |0=>x
 |_=>y
abbrev W5.of(W:W5)(B:Nat->BM)(lc mc:Nat->Nat->Addr)(hd:Nat->Addr)(hl:Nat->Nat->Addr):W5:={W with B:=B,lc:=lc,mc:=mc,hd:=hd,hl:=hl}
theorem b2N(hd:Nat->Addr)(x:Addr){n:Nat}(hn:n<3):[V.ref (hd 0),V.ref (hd 1),V.ref (hd 2)].take n++ [V.ref x]= [V.ref (bH hd n x 0),V.ref (bH hd n x 1),V.ref (bH hd n x 2)].take (n+ 1):=by
 rcases(iK (n:=n))with rfl|rfl|rfl<;>rfl
theorem l9{l n c j:Nat}(h:l<=5* n+ c+ j)(hn:n<3)(hj:j<2)(hc:c<=5:=by decide):l<900:=by omega
theorem b0a(x y:V):pN [] [((.inr "a":aA),x),((.inr "b":aA),y)]= [((.inr "a":aA),x),((.inr "b":aA),y)]:=rfl
section
variable{P:Program}{w:World}{K:Fg}{mg:Str->Option Value}{base:Heap}
theorem rJ.of{z1 z2:Addr×Addr}{H0:Hp}{r0:Addr->Nat}{W:W5}{a:Addr}{ns:List Int}{ln pl vd:Addr}{va:Nat->Addr}{ys:Nat->List V}{ds:Nat->List PyData}{B:Nat->BM}{lc mc:Nat->Nat->Addr}{hd:Nat->Addr}{hl:Nat->Nat->Addr}(O:rJ K z1 z2 H0 r0 W a ns ln pl vd va ys ds):rJ K z1 z2 H0 r0 (W.of B lc mc hd hl) a ns ln pl vd va ys ds:=
 ⟨O.lb,O.sc,O.nl,O.nm,O.pt,O.t1,O.t2,O.m0,O.m6,O.zs,O.z6,O.dv,O.lv⟩
section
variable(CS CF CB CT CG:Addr)(H0:Hp)(r0:Addr->Nat)(W:W5)(hs:Addr)(ys:Nat->List V)(a ln vd pl:Addr)(o2 o5 o7 o10:Option V)
inductive IvA:Nat->St->Hp->Prop
 |mk {n:Nat} {σ:St} {Hn:Hp} (h0:n<=3) (o13 o14 o15 o16:Option V) (B:Nat->BM) (lc mc:Nat->Nat->Addr) (hd:Nat->Addr) (hl:Nat->Nat->Addr) (fi fd lk:Nat->Addr) (cs:Nat->List V) (kb:Nat->List (aA×V)) (r:Addr->Nat) (h1:σ= [some (.ref a),some (.int (W.m:Int)),o2,some (.ref ln),some (.ref vd),o5,some (.ref W.ca),o7,some (.ref W.gr),some (.ref (W.s 0)),o10,some (.ref pl),some (.ref hs),o13,o14,o15,o16,none,none,none,none,none,none,none]) (h2:dP K CS CF CB CT CG H0 r0 (W.of B lc mc hd hl) hs ys fi fd lk cs kb ([.ref (hd 0),.ref (hd 1),.ref (hd 2)].take n) n r Hn) (h3:(∀k,k<2->kb k=gP (fun i=>(B i).b) k n)) (h4:∀k,k<2->(cs k).length<=5* n):IvA n σ Hn
variable(B:Nat->BM)(lc mc:Nat->Nat->Addr)(hd:Nat->Addr)(hl:Nat->Nat->Addr)(n k:Nat)(b hdn l0 l1 lit:Addr)
inductive IvB(o16:Option V):Nat->St->Hp->Prop
 |mk {j:Nat} {σ:St} {Hj:Hp} (o15:Option V) (fi fd lk:Nat->Addr) (cs:Nat->List V) (kb:Nat->List (aA×V)) (lcn:Nat->Addr) (Bn:BM) (r:Addr->Nat) (h1:σ= [some (.ref a),some (.int (W.m:Int)),o2,some (.ref ln),some (.ref vd),o5,some (.ref W.ca),o7,some (.ref W.gr),some (.ref (W.s 0)),o10,some (.ref pl),some (.ref hs),some (.ref (W.s k)),some (.str (bK n)),o15,o16,none,none,none,none,none,none,none]) (h2:dP K CS CF CB CT CG H0 r0 (W.of B lc mc hd hl) hs ys fi fd lk cs kb ([.ref (bH hd n hdn 0),.ref (bH hd n hdn 1),.ref (bH hd n hdn 2)].take (n+ 1)) n r Hj) (h3:PB CB CT W.gr W.m ys Bn lcn (fun _=>b) n j 0 r Hj) (h4:PH ys hdn (two l0 l1) n r Hj) (h5:Bn.b=b) (h6:(∀k',k'<2->kb k'=gP (bH (fun i=>(B i).b) n b) k' (n+ 1))) (h7:(∀k',k'<2->(cs k').length<=5* n+ 1+ j)) (h8:Hj lit=some (.lst [.str ("a":Str),.str ("b":Str)])) (h9:r lit=0):IvB o16 j σ Hj
inductive IvC(lcn:Nat->Addr)(o15:Option V):Nat->St->Hp->Prop
 |mk {j:Nat} {σ:St} {Hj:Hp} (o16:Option V) (fi fd lk:Nat->Addr) (cs:Nat->List V) (kb:Nat->List (aA×V)) (mcn:Nat->Addr) (Bn:BM) (r:Addr->Nat) (h1:σ= [some (.ref a),some (.int (W.m:Int)),o2,some (.ref ln),some (.ref vd),o5,some (.ref W.ca),o7,some (.ref W.gr),some (.ref (W.s 0)),o10,some (.ref pl),some (.ref hs),some (.ref (W.s k)),some (.str (bK n)),o15,o16,none,none,none,none,none,none,none]) (h2:dP K CS CF CB CT CG H0 r0 (W.of B lc mc hd hl) hs ys fi fd lk cs kb ([.ref (bH hd n hdn 0),.ref (bH hd n hdn 1),.ref (bH hd n hdn 2)].take (n+ 1)) n r Hj) (h3:PB CB CT W.gr W.m ys Bn lcn mcn n 2 j r Hj) (h4:PH ys hdn (two l0 l1) n r Hj) (h5:Bn.b=b) (h6:(∀k',k'<2->kb k'=gP (bH (fun i=>(B i).b) n b) k' (n+ 1))) (h7:(∀k',k'<2->(cs k').length<=5* n+ 3+ j)) (h8:Hj lit=some (.lst [.str ("sum":Str),.str ("twin":Str)])) (h9:r lit=0):IvC lcn o15 j σ Hj
end
theorem b4m(T:bE K mg){CS CF CB CT CG CR CV CU CW:Addr}(Y:eT K mg CS)(R:jI K mg CR)(F:eL K mg CF)(Wb:cO K mg CB)(U:dO K mg CT)(Cc:jC K mg CG)(VP:kT K mg CV)(CC:mI K mg CU)(TT:nG K mg CW){z1 z2:Addr×Addr}(B2:iF K mg "Finder" "gathered" "Finder.gathered" fD z2)(M2:gH mg base z2.1 z2.2)(n12:z1.2≠z2.2){f:Addr}(A:Around)(outer:List Env)(s:Shared)(H:Hp)(Q:VK)(E:XK)(hr:bV 15 (A.deeper (PyProof.Rows.envOfC "law" (aI eX) s.heap.objs.size f (.ref z1.1))))(q:∀H',lJ [z1,z2] H'->Q (.bl true) H'):
 ∃t,dQ (jR P w K mg base f z1.1 A outer s H E) ((aV eX).drop 13) t/\
  ∀(H0:Hp) (r0:Addr->Nat) (W:W5) (hs a ln pl vd:Addr) (ns:List Int) (va:Nat->Addr) (ys:Nat->List V) (ds:Nat->List PyData) (fi fd lk:Nat->Addr) (o2 o5 o7 o10:Option V),rJ K z1 z2 H0 r0 W a ns ln pl vd va ys ds->dP K CS CF CB CT CG H0 r0 W hs ys fi fd lk (fun _=> []) (fun _=> []) [] 0 r0 H0->
   (∀(σ:St) (HB:Hp) (fl:eC),nO (jR P w K mg base f z1.1 A outer s H E) σ HB fl->σ[6]?=some (some (.ref W.ca))->dC H0 HB->iU P w K mg base 4 (cW fl HB) W.fa W.ca fT (fun _=>True))->
   t {nx:=fun _ H'=>Q .non H',rt:=Q} [some (.ref a),some (.int (W.m:Int)),o2,some (.ref ln),some (.ref vd),o5,some (.ref W.ca),o7,some (.ref W.gr),some (.ref (W.s 0)),o10,some (.ref pl),some (.ref hs),none,none,none,none,none,none,none,none,none,none,none] H0:=by
 have hu:=cU hr
 have G_table:aT P w K mg base aF 9 CS "table" ["self","name","many"] (a99 CS CF CB CT):=tS T Y F Wb U TT
 have G_give:aT P w K mg base aF 9 CS "give" ["self","table","column","values"] (b0i K CS CF CB CT):=sG T Y F Wb U CC
 have G_rule:aT P w K mg base aF 9 CS "rule" ["self","table","column","rule"] (a9Z K CS CF CB CT CG (zQ CG)):=b3l T Y F Wb U CC (b5S Cc) (wW T Cc)
 obtain⟨tE,hE,qE⟩:=b4W (P:=P) (w:=w) (z1:=z1) T Y R F Wb U Cc VP B2 M2 n12 (f:=f) A outer s H Q E hr q
 refine⟨_,(aK (iG PassesOwn.never rfl (iS (pv 11)) (xC rfl (jO (eM (i:=13) eI.nd rfl (.inl rfl)) (jO (eM (i:=14) eI.nd rfl (.inl rfl)) wR)))
  (aK (bY (bZ (pv 13) Y.cl G_table (hr.mono (by decide)) aR (aB (pv 14) (aB (pv 1) aG))))
  (aK (bY (iC PySem.F.plainAttrs_list PySem.F.slot_list_append PySem.F.type_list_append gQ (pv 12) (aB (b1e (a0m gE (jM.mk (kE lV (by rfl) T.list gM (aB (eE hu (pv 4) dW (fun _ _=>rfl)) aG))) (a0m gE (jM.mk (kE lV (by rfl) T.list gM (aB (eE hu (pv 4) dW (fun _ _=>rfl)) aG))) b2e))).run aG)))
  (aK (iG PassesOwn.never rfl (iS (eO (aB dW (aB dW aG)))) (eM (i:=15) eI.nd rfl (.inl rfl)) (aL (bY (bZ (pv 13) Y.cl G_give (hr.mono (by decide)) aR (aB (pv 14) (aB (pv 15) (aB (kE lV rfl T.list gM (aB (eE hu (pv 4) (pv 15) (fun _ _=>rfl)) aG)) aG)))))))
  (aL (iG PassesOwn.never rfl (iS (eO (aB dW (aB dW aG)))) (eM (i:=16) eI.nd rfl (.inl rfl)) (aL (bY (bZ (pv 13) Y.cl G_rule (hr.mono (by decide)) aR (aB (pv 14) (aB (pv 16) (aB (pv 8) aG))))))))))))
  hE),?_⟩
 intro H0 r0 W hs a ln pl vd ns va ys ds fi fd lk o2 o5 o7 o10 O N0 fnH
 have m0:=O.m0
 have m6:=O.m6
 obtain⟨pt,p1,p2,p3⟩:=O.pt
 refine⟨_,rfl,pl,rfl,⟨_,aN.of p1⟩,?_⟩
 refine kK (K:=K) (a:=pl) (xs:=[.ref (pt 0),.ref (pt 1),.ref (pt 2)]) (IvA (K:=K) CS CF CB CT CG H0 r0 W hs ys a ln vd pl o2 o5 o7 o10) ⟨by decide,_,_,_,_,W.B,W.lc,W.mc,W.hd,W.hl,fi,fd,lk,_,_,r0,rfl,N0,fun k hk=> ?_,fun k hk=>Nat.zero_le _⟩ (by rintro n σ Hn _ ⟨_,_,_,_,_,_,_,_,_,_,_,_,_,_,_,_,_,N,_⟩;exact aN.of (N.old _ _ p2 p1)) ?_ ?_
 ·rcases(cA (n:=k))with rfl|rfl<;>rfl
 ·rintro n x σ Hn hx ⟨hn3,o13,o14,o15,o16,B,lc,mc,hd,hl,fi,fd,lk,cs,kb,r,rfl,N,hkb,hcs⟩
  have hn:n<3:=(List.getElem?_eq_some_iff.mp hx).1
  rw[xW (fun k=>V.ref (pt k)) hn]at hx
  obtain rfl:=Option.some.inj hx
  have hk:=(gD n hn).2.1
  have nnm:=(gD n hn).2.2
  have n6:=oJ hn
  generalize ek:aQ n=k at hk
  have k6:=lt26 hk
  have lk0:∀{i:Nat},i<3->r0 (pt i)=0:=fun hi=>lK O.lb (by rw[p3 _ hi];exact id)
  refine⟨pt n,_,rfl,cF.of (N.old _ _ (lk0 hn) (p3 n hn)),rfl,_,_,rfl,_,_,rfl,rfl,?_⟩
  rw[ek]
  obtain⟨⟨dS,sS⟩,chS,bdS,_⟩:=N.sh k hk
  have hc:=hcs k hk
  refine⟨_,rfl,W.s k,dS,_,rfl,sS,fA,_,rfl,_,rfl,W.s k,W.bd k,W.ch k,cs k,kb k,bK n,W.m,rfl,⟨⟨dS,fi k,sS⟩,chS,bdS⟩,l9 (c:=0) (j:=0) hc hn (by decide),?_,nnm,?_,Nat.le_trans m6 (by decide),fun H2 fi2 fd2 lk2 c2 b g rr e ru me od eZ hB2 sep2 nw2 u2=> ?_⟩
  ·rw[hkb k hk]
   exact(a1c _ (Nat.le_of_lt hn)).1
  ·rw[hkb k hk,<- ek]
   exact b5k _ hn
  obtain⟨r2,g2,N2,C2⟩:=N.tab hk hn (fun _=>b) (fun _=>b) eZ hB2 sep2 nw2 u2
  have kb2:∀k',k'<2->bH kb k (aS (kb k) (.inr (bK n):aA) (.ref b)) k'=gP (bH (fun i=>(B i).b) n b) k' (n+ 1):=fun k' hk'=>by
   by_cases h:k'=k
   ·rw[h,cB,hkb k hk,<- ek]
    exact b41 _ _ hn
   ·rw[bX h,hkb k' hk']
    exact b6s _ _ hn hk' (by rw[ek];exact h)
  have cs2:∀k',k'<2->(bH cs k (cs k++ [.ref c2]) k').length<=5* n+ 1:=fun k' hk'=>by
   by_cases h:k'=k
   ·rw[h,cB,List.length_append]
    exact Nat.succ_le_succ hc
   ·rw[bX h]
    exact Nat.le_succ_of_le (hcs k' hk')
  generalize bH kb k (aS (kb k) (.inr (bK n):aA) (.ref b))=kb1 at N2 kb2
  generalize bH cs k (cs k++ [.ref c2])=cs1 at N2 cs2
  generalize bH fi k fi2=fi1 at N2
  generalize bH fd k fd2=fd1 at N2
  generalize bH lk k lk2=lk1 at N2
  have hvl:([V.ref (hd 0),V.ref (hd 1),V.ref (hd 2)].take n).length<=3:=by rw[List.length_take];exact Nat.min_le_right _ _
  have vd2:=N2.old _ _ O.dv.2 O.dv.1
  have va0:=N2.old _ _ (O.lv 0 (by decide)).2.1 (O.lv 0 (by decide)).1
  have va1:=N2.old _ _ (O.lv 1 (by decide)).2.1 (O.lv 1 (by decide)).1
  refine⟨_,rfl,.inl ⟨rfl,_,aN.of N2.hs.2⟩,?_⟩
  intro hdn hhd
  have s3':=aE.new (o:=.dK []) hhd
  have d3:upd H2 hdn (.dK []) hdn=some (.dK []):=aJ
  generalize upd H2 hdn (.dK [])=H3 at s3' d3|-
  refine⟨_,rfl,vd,_,rfl,bQ.k (k:=Sum.inr "a") (s3' _ _ vd2),va 0,ys 0,rfl,.inl (aN.of (s3' _ _ va0)),fun l0 hl0=> ?_⟩
  have s4':=aE.new (o:=.lst (ys 0)) hl0
  have k4:upd H3 l0 (.lst (ys 0)) l0=some (.lst (ys 0)):=aJ
  generalize upd H3 l0 (.lst (ys 0))=H4 at s4' k4|-
  have s24:=s3'.trans s4'
  refine⟨_,rfl,vd,_,rfl,bQ.k (k:=Sum.inr "b") (s24 _ _ vd2),va 1,ys 1,rfl,.inl (aN.of (s24 _ _ va1)),fun l1 hl1=> ?_⟩
  have s5':=aE.new (o:=.lst (ys 1)) hl1
  have k5:upd H4 l1 (.lst (ys 1)) l1=some (.lst (ys 1)):=aJ
  generalize upd H4 l1 (.lst (ys 1))=H5 at s5' k5|-
  refine⟨s5' _ _ (s4' _ _ d3),[((.inr "a":aA),V.ref l0),((.inr "b":aA),V.ref l1)],rfl,(show 2<=15 by decide),?_⟩
  rw[b0a]
  have u6:bC hdn H5 (upd H5 hdn (.dK [((.inr "a":aA),V.ref l0),((.inr "b":aA),V.ref l1)])):=bC.upd
  have d6:upd H5 hdn (.dK [((.inr "a":aA),V.ref l0),((.inr "b":aA),V.ref l1)]) hdn=some (.dK [((.inr "a":aA),V.ref l0),((.inr "b":aA),V.ref l1)]):=aJ
  generalize upd H5 hdn (.dK [((.inr "a":aA),V.ref l0),((.inr "b":aA),V.ref l1)])=H6 at u6 d6|-
  have s25:=s24.trans s5'
  have n0d:l0≠hdn:=fun y=>by rw[y,d3]at hl0;cases hl0
  have n1d:l1≠hdn:=fun y=>by rw[y,s4' _ _ d3]at hl1;cases hl1
  have n01:l0≠l1:=fun y=>by rw[<- y,k4]at hl1;cases hl1
  have s26:aE H2 H6:=fun x o e=>u6 _ _ (bA e hhd) (s25 _ _ e)
  have l06:=u6 _ _ n0d (s5' _ _ k4)
  have l16:=u6 _ _ n1d k5
  refine⟨hs,_,_,rfl,rfl,s26 _ _ N2.hs.2,dD (Nat.le_trans hvl (by decide)),?_⟩
  have u7:bC hs H6 (upd H6 hs (.lst ([V.ref (hd 0),V.ref (hd 1),V.ref (hd 2)].take n++ [V.ref hdn]))):=bC.upd
  have d7:upd H6 hs (.lst ([V.ref (hd 0),V.ref (hd 1),V.ref (hd 2)].take n++ [V.ref hdn])) hs=some (.lst ([V.ref (hd 0),V.ref (hd 1),V.ref (hd 2)].take n++ [V.ref hdn])):=aJ
  generalize upd H6 hs (.lst ([V.ref (hd 0),V.ref (hd 1),V.ref (hd 2)].take n++ [V.ref hdn]))=H7 at u7 d7|-
  rw[b2N hd hdn hn]at d7
  have nhs:∀{x:Addr},H2 x=none->x≠hs:=fun e y=>by have h:=N2.hs.2;rw[<- y,e]at h;cases h
  obtain⟨r7,g7,N7,C7,D7⟩:=N2.hold (hl:=two l0 l1) (hd:=hdn) hn C2 n01 hhd (fB s3' hl0) (fB s24 hl1) (u7 _ _ (nhs hhd) d6) (u7 _ _ (nhs (fB s3' hl0)) l06) (u7 _ _ (nhs (fB s24 hl1)) l16) d7 (fun x o n e=>u7 _ _ n (s26 _ _ e))
  refine⟨sl,fun lit hlit=> ?_⟩
  have s8:=aE.new (o:=.lst [.str ("a":Str),.str ("b":Str)]) hlit
  have c8:upd H7 lit (.lst [.str ("a":Str),.str ("b":Str)]) lit=some (.lst [.str ("a":Str),.str ("b":Str)]):=aJ
  generalize upd H7 lit (.lst [.str ("a":Str),.str ("b":Str)])=H8 at s8 c8|-
  refine⟨lit,rfl,⟨_,aN.of c8⟩,?_⟩
  refine kK (K:=K) (a:=lit) (xs:=[.str ("a":Str),.str ("b":Str)]) (IvB (K:=K) CS CF CB CT CG H0 r0 W hs ys a ln vd pl o2 o5 o7 o10 B lc mc hd hl n k b hdn l0 l1 lit o16) ⟨_,fi1,fd1,lk1,cs1,kb1,_,_,r7,rfl,N7.same (Nat.le_of_lt hn) s8,C7.same s8,D7.same s8,rfl,kb2,cs2,c8,oM N7.lb hlit⟩ (by rintro j σ Hj _ ⟨_,_,_,_,_,_,_,_,_,_,_,_,_,_,_,_,h,_⟩;exact aN.of h) ?_ ?_
  ·rintro j x σ Hj hx ⟨o15,fi,fd,lk,cs,kb,lcn,Bn,r,rfl,N,C,D,hb,hkb,hcs,hlit,zlit⟩
   have hj:j<2:=(List.getElem?_eq_some_iff.mp hx).1
   have ex:[V.str ("a":Str),V.str ("b":Str)][j]?=some (.str (dX j)):=by rcases(cA (n:=j))with rfl|rfl<;>rfl
   rw[ex]at hx
   obtain rfl:=Option.some.inj hx
   obtain⟨⟨dS,sS⟩,chS,bdS,_⟩:=N.sh k hk
   have vdj:=N.old _ _ O.dv.2 O.dv.1
   obtain⟨va1,va2,va3,va4,va5⟩:=O.lv j hj
   have vaj:=N.old _ _ va2 va1
   have vq:aM [((.inr "a":aA),V.ref (va 0)),((.inr "b":aA),V.ref (va 1))] (.inr (dX j):aA)=some (.ref (va j)):=by
    rcases(cA (n:=j))with rfl|rfl<;>rfl
   refine⟨_,rfl,W.s k,dS,_,rfl,sS,fA,_,rfl,_,rfl,_,rfl,_,rfl,vd,_,rfl,vq▸bQ.k (k:=Sum.inr (dX j)) vdj,va j,ys j,rfl,.inl (aN.of vaj),fun cp hcp=> ?_⟩
   have s9:=aE.new (o:=.lst (ys j)) hcp
   have c9:upd Hj cp (.lst (ys j)) cp=some (.lst (ys j)):=aJ
   generalize upd Hj cp (.lst (ys j))=H9 at s9 c9|-
   have N9:=N.same (Nat.le_of_lt hn) s9
   have C9:=C.same s9
   have D9:=D.same s9
   obtain⟨y1,y2,y3⟩:=N9.ls k hk
   obtain⟨x1,x2,x3,x4,x5⟩:=C9.lr
   have hc:=hcs k hk
   have zcp:r cp=0:=oM N.lb hcp
   refine⟨W.s k,W.bd k,W.ch k,cp,cs k,kb k,bK n,dX j,ys j,ds j,Bn,rfl,⟨⟨dS,fi k,s9 _ _ sS⟩,s9 _ _ chS,s9 _ _ bdS⟩,l9 hc hn hj,nnm,by rw[hkb k hk,<- ek,a9i _ hn,cB,hb],C9.bt,C9.sep,⟨fP y2 x1 k6 n6 rfl,fP y2 x2 k6 n6 rfl,fP y3 x3 k6 n6 rfl,fP y3 x4 k6 n6 rfl,fP y3 x5 k6 n6 rfl⟩,⟨by rw[C9.rus];rfl,?_⟩,(yU j hj).2,c9,kL zcp x2 rfl,va3.keep (cJ.pre O.lb N9),by rw[va4,C9.xs,mS],by omega,?_,?_,fun H10 fi' fd' lk' c l Fr hl0 hB hl' u=> ?_⟩
   ·rw[C9.ord]
    rcases(cA (n:=j))with rfl|rfl<;>decide+kernel
   ·rw[C9.kvs,List.length_take]
    exact Nat.lt_of_le_of_lt (Nat.min_le_right _ _) (show 2<8 by decide)
   ·rw[C9.ord]
    rcases(cA (n:=j))with rfl|rfl<;>decide+kernel
   obtain⟨r',g',N',C',D'⟩:=N9.give hk hn hj C9 D9 Fr hl0 hB hl' u
   have lit9:=s9 _ _ hlit
   refine⟨_,bH fi k fi',bH fd k fd',bH lk k lk',_,_,_,_,r',rfl,N',C',D',hb,fun k' hk'=> ?_,fun k' hk'=> ?_,u _ _ (kL zlit y1 rfl) (kL zlit y2 rfl) (kL zlit x2 rfl) (kL zlit x3 rfl) lit9,by rw[g' lit (by rw[lit9];exact fun y=>by cases y)];exact zlit⟩
   ·by_cases h:k'=k
    ·rw[h,cB]
     exact hkb k hk
    ·rw[bX h]
     exact hkb k' hk'
   ·by_cases h:k'=k
    ·rw[h,cB,List.length_append]
     exact Nat.succ_le_succ hc
    ·rw[bX h]
     exact Nat.le_succ_of_le (hcs k' hk')
  rintro σ H11 ⟨o15,fi,fd,lk,cs,kb,lcn,Bn,r,rfl,N,C,D,hb,hkb,hcs,_,_⟩
  have C:PB CB CT W.gr W.m ys Bn lcn (fun _=>b) n 2 0 r H11:=C
  have hcs:∀k',k'<2->(cs k').length<=5* n+ 3:=hcs
  refine⟨sl,fun lit hlit=> ?_⟩
  have s8:=aE.new (o:=.lst [.str ("sum":Str),.str ("twin":Str)]) hlit
  have c8:upd H11 lit (.lst [.str ("sum":Str),.str ("twin":Str)]) lit=some (.lst [.str ("sum":Str),.str ("twin":Str)]):=aJ
  generalize upd H11 lit (.lst [.str ("sum":Str),.str ("twin":Str)])=H12 at s8 c8|-
  refine⟨lit,rfl,⟨_,aN.of c8⟩,?_⟩
  refine kK (K:=K) (a:=lit) (xs:=[.str ("sum":Str),.str ("twin":Str)]) (IvC (K:=K) CS CF CB CT CG H0 r0 W hs ys a ln vd pl o2 o5 o7 o10 B lc mc hd hl n k b hdn l0 l1 lit lcn o15) ⟨_,fi,fd,lk,cs,kb,_,Bn,r,rfl,N.same (Nat.le_of_lt hn) s8,C.same s8,D.same s8,hb,hkb,hcs,c8,oM N.lb hlit⟩ (by rintro j σ Hj _ ⟨_,_,_,_,_,_,_,_,_,_,_,_,_,_,_,_,h,_⟩;exact aN.of h) ?_ ?_
  ·rintro j x σ Hj hx ⟨o16,fi,fd,lk,cs,kb,mcn,Bn,r,rfl,N,C,D,hb,hkb,hcs,hlit,zlit⟩
   have hj:j<2:=(List.getElem?_eq_some_iff.mp hx).1
   have ex:[V.str ("sum":Str),V.str ("twin":Str)][j]?=some (.str (cI j)):=by rcases(cA (n:=j))with rfl|rfl<;>rfl
   rw[ex]at hx
   obtain rfl:=Option.some.inj hx
   obtain⟨⟨dS,sS⟩,chS,bdS,_⟩:=N.sh k hk
   obtain⟨y1,y2,y3⟩:=N.ls k hk
   obtain⟨x1,x2,x3,x4,x5⟩:=C.lr
   have hc:=hcs k hk
   obtain⟨_,dg,hgr⟩:=N.gr
   have hgr:Hj W.gr=some (.ins CG dg (fM W.nl W.fa)):=hgr
   have hnl:Hj W.nl=some (.lst (W.zs.map V.str)):=N.nl.2
   have hN:∀z∈W.zs,Nl z:=fun z h=>by
    rcases O.zs z h with rfl|rfl
    ·exact eV.2.2.2.2.1
    ·exact eV.2.2.2.2.2.1
   have vk:aM (kb k) (.inr (bK n):aA)=some (.ref Bn.b):=by rw[hkb k hk,<- ek,a9i _ hn,cB,hb]
   refine⟨_,rfl,W.s k,dS,_,rfl,sS,fA,_,rfl,_,rfl,_,rfl,W.s k,W.bd k,W.ch k,W.gr,dg,cs k,kb k,bK n,cI j,fM W.nl W.fa,Bn,dR (W.zs.map fun z=>(bK n,z)),vF,rfl,⟨⟨dS,fi k,sS⟩,chS,bdS⟩,l9 hc hn hj,nnm,vk,C.bt,C.sep,⟨fP y2 x1 k6 n6 rfl,fP y2 x2 k6 n6 rfl,fP y3 x3 k6 n6 rfl,fP y3 x4 k6 n6 rfl,fP y3 x5 k6 n6 rfl⟩,⟨?_,?_⟩,(a0l j hj).2,hgr,(nC _ _).2.2.1,b0j hgr hnl O.z6 hN nnm,fun z hz=> ?_,a5k O.z6,b5O hn hj,(show 4<=100 by decide),?_,?_,fun kv hkv=> ?_,?_,?_,?_,fun H10 fi' fd' lk' c m Fr hm0 hB hm' u=> ?_⟩
   ·rw[C.rus]
    rcases(cA (n:=j))with rfl|rfl<;>rfl
   ·rw[C.ord]
    rcases(cA (n:=j))with rfl|rfl<;>decide+kernel
   ·obtain⟨z',rfl,hz',n2,gl⟩:=a7u hn O.zs z hz
    refine⟨n2,gl,Bn,vk,C.bt,?_⟩
    rw[C.ord]
    rcases hz' with rfl|rfl
    ·exact List.mem_append_left _ (show("a":Str)∈ [("a":Str),("b":Str)]by decide+kernel)
    ·exact List.mem_append_left _ (show("b":Str)∈ [("a":Str),("b":Str)]by decide+kernel)
   ·rw[hkb k hk]
    exact(a1c _ hn).2
   ·rw[hkb k hk]
    exact Nat.le_of_lt (a1c _ hn).1
   ·rw[hkb k hk]at hkv
    obtain⟨i,hi,ei,rfl⟩:=b6l _ hk hn hkv
    by_cases h:i=n
    ·rw[h,cB,<- hb]
     exact C.bdr hn hgr hnl O.z6 O.zs (fP y3 x4 k6 n6 rfl)
    ·rw[bX h]
     have Ci:=N.pb i (Nat.lt_of_le_of_ne (Nat.le_of_lt_succ hi) h)
     obtain⟨_,_,_,w4,_⟩:=Ci.lr
     exact Ci.bdr (Nat.lt_of_lt_of_le hi hn) hgr hnl O.z6 O.zs (fP y3 w4 k6 (oJ (Nat.lt_of_lt_of_le hi hn)) rfl)
   ·rw[C.rus,List.length_take]
    exact Nat.lt_of_le_of_lt (Nat.min_le_right _ _) (show 2<100 by decide)
   ·rw[C.mes,List.length_take]
    exact Nat.lt_of_le_of_lt (Nat.min_le_right _ _) (show 2<100 by decide)
   ·rw[C.ord]
    rcases(cA (n:=j))with rfl|rfl<;>decide+kernel
   obtain⟨r',g',N',C',D'⟩:=N.rule hk hn hj C D Fr hm0 hB hm' u
   refine⟨_,bH fi k fi',bH fd k fd',bH lk k lk',_,_,_,_,r',rfl,N',C',D',hb,fun k' hk'=> ?_,fun k' hk'=> ?_,u _ _ (kL zlit y1 rfl) (kL zlit y2 rfl) (kL zlit x2 rfl) (kL zlit x4 rfl) (kL zlit x5 rfl) hlit,by rw[g' lit (by rw[hlit];exact fun y=>by cases y)];exact zlit⟩
   ·by_cases h:k'=k
    ·rw[h,cB]
     exact hkb k hk
    ·rw[bX h]
     exact hkb k' hk'
   ·by_cases h:k'=k
    ·rw[h,cB,List.length_append]
     exact Nat.succ_le_succ hc
    ·rw[bX h]
     exact Nat.le_succ_of_le (hcs k' hk')
  rintro σ H13 ⟨o16,fi,fd,lk,cs,kb,mcn,Bn,r,rfl,N,C,D,hb,hkb,hcs,_,_⟩
  have hcs:∀k',k'<2->(cs k').length<=5* n+ 5:=hcs
  refine⟨hn,_,_,_,_,bH B n Bn,bH lc n lcn,bH mc n mcn,bH hd n hdn,bH hl n (two l0 l1),fi,fd,lk,cs,kb,r,rfl,N.close C D,fun k' hk'=> ?_,hcs⟩
  rw[hkb k' hk']
  congr 1
  funext i
  by_cases h:i=n
  ·rw[h,cB,cB,hb]
  ·rw[bX h,bX h]
 ·rintro σ Hn ⟨hn3,o13,o14,o15,o16,B,lc,mc,hd,hl,fi,fd,lk,cs,kb,r,rfl,N,hkb,hcs⟩
  exact qE Hn H0 r0 r (W.of B lc mc hd hl) hs a ln pl vd ns va ys ds fi fd lk cs kb o2 (some (.ref vd)) o5 o7 (some (.ref W.gr)) o10 o13 o14 o15 o16 none none none none none none none O.of N hkb (fun k hk=>Nat.le_trans (hcs k hk) (show 15<=30 by decide)) fnH
end
structure mX(H5:Hp)(r:Addr->Nat)(H:Hp)(L:List (Addr×Nat)):Prop where
 lb:∀x,r x≠0->Kd (H x)
 old:∀x,H5 x≠none->r x=0/\H x≠none
 at_:∀p∈L,r p.1=p.2/\H p.1≠none
theorem mX.add{H5 H H':Hp}{r:Addr->Nat}{L:List (Addr×Nat)}(S:mX H5 r H L)(as:List (Addr×Nat))(nd:(as.map (·.1)).Nodup)(fr:∀p∈as,H p.1=none/\Kd (H' p.1))(mo:∀x,Kd (H x)->Kd (H' x))(nn:∀x,H x≠none->H' x≠none):∃r',mX H5 r' H' (as++ L):=by
 obtain⟨r',h1,h2,h3,h4⟩:=qQ as nd S.lb mo fr
 refine⟨r',h4,fun x hx=> ?_,fun p hp=> ?_⟩
 ·obtain⟨a,b⟩:=S.old x hx
  exact⟨(h3 x b).trans a,nn x b⟩
 ·rcases List.mem_append.mp hp with hp|hp
  ·exact⟨h1 p hp,(fr p hp).2.ne⟩
  ·obtain⟨a,b⟩:=S.at_ p hp
   exact⟨(h3 _ b).trans a,nn _ b⟩
theorem mX.mv{H5 H H':Hp}{r:Addr->Nat}{L:List (Addr×Nat)}(S:mX H5 r H L)(mo:∀x,Kd (H x)->Kd (H' x))(nn:∀x,H x≠none->H' x≠none):mX H5 r H' L:=
 ⟨fun x hx=>mo x (S.lb x hx),fun x hx=>⟨(S.old x hx).1,nn x (S.old x hx).2⟩,fun p hp=>⟨(S.at_ p hp).1,nn _ (S.at_ p hp).2⟩⟩
theorem nN{H H':Hp}(s:aE H H'):∀x,H x≠none->H' x≠none:=fun x hx e=>by
 cases e2:H x with
 |none=>exact hx e2
 |some o=>rw[s _ _ e2]at e;cases e
section
variable{P:Program}{w:World}{K:Fg}{mg:Str->Option Value}{base:Heap}
def spBN(K:Fg)(ca:Addr):List V->Hp->VK->Prop:=fun vs H Q=>∃(l:Addr) (is:List Int) (cs:List V),vs= [.ref l] /\H l=some (.lst (is.map V.int))/\H ca=some (.lst cs)/\cs.length<900/\is.length<=100/\ca≠l/\
 ∀H' v lc,bC ca H H'->H lc=none->H' ca=some (.lst (cs++ [.ref lc]))->H' lc=some (.lst (is.map V.int))->Dt K H' v (fT is)->Q v H'
theorem b2X{q:Str}{params:Arguments}{body:Expr}{scope:Scope}{clos:List (Str×Addr)}{fa ca:Addr}{k:Nat}{fl:eC}{HB:Hp}(hk:k<=4)(free:∀b o,fl b=some o->HB b=none)(la:gK q params body scope clos HB fa)(F:eQ P w K mg base k fa (oU fa fl q params body scope clos 1 (spBN K ca))):iU P w K mg base 4 (cW fl HB) fa ca fT (fun _=>True):=by
 refine⟨fun H=>gK q params body scope clos H fa/\∀b o,fl b=some o->H b=some (Fz o),(F.mono hk).imp fun vs H Q E h=> ?_,⟨?_,fun b o e=>lF e⟩,fun H H' kz h=>⟨mN kz h.1,fun b o e=>kz _ _ (h.2 b o e)⟩⟩
 ·obtain⟨l,is,cs,rfl,⟨h1,h2⟩,hl,hca,c9,_,i1,ncl,qq⟩:=h
  have nf:∀{b:Addr} {o:HO},H b=some o->(∀u,o≠Fz u)->fl b=none:=fun{b o} e n=>by
   cases e2:fl b with
   |none=>rfl
   |some ob=>rw[h2 b ob e2]at e;exact absurd (Option.some.inj e).symm (n ob)
  have fc:=nf hca (fun _ y=>by cases y)
  have fl':=nf hl (fun _ y=>by cases y)
  refine⟨rfl,h1,h2,l,is,cs,rfl,by rw[dI fl'];exact hl,by rw[dI fc];exact hca,c9,i1,ncl,fun H' v lc b hlc hc' hl' hd fr=> ?_⟩
  have flc:fl lc=none:=by
   cases e2:fl lc with
   |none=>rfl
   |some ob=>rw[fr lc ob e2]at hl';cases hl'
  have sL:aE H' (cW fl H'):=fun x o e=>by
   cases e2:fl x with
   |none=>rw[eJ e2];exact e
   |some ob=>rw[fr x ob e2]at e;cases e
  refine qq (cW fl H') v lc (fun x o n e=> ?_) (by rw[dI flc]at hlc;exact hlc) (sL _ _ hc') (sL _ _ hl') (hd.same sL)
  cases e2:fl x with
  |none=>rw[eJ e2];exact b _ _ n (by rw[dI e2];exact e)
  |some ob=>rw[h2 x ob e2]at e;rw[lF e2];exact e
 ·refine mN (fun b u e=> ?_) la
  cases e2:fl b with
  |none=>rw[eJ e2];exact e
  |some ob=>rw[free b ob e2]at e;cases e
structure In5(K:Fg)(z1 z2:Addr×Addr)(H:Hp)(a:Addr)(ns:List Int)(m:Nat)(zs:List Str)(ln vd:Addr)(va:Nat->Addr)(ys:Nat->List V)(ds:Nat->List PyData):Prop where
 sc:aN K H a (ns.map V.int)
 nl:ns.length<=63
 nm:H ln=some (.lst (zs.map V.str))
 t1:H z1.2=some (eN z1.2 [])
 t2:H z2.2=some (eN z2.2 [])
 m0:0<m
 m6:m<=6
 zb:∀z∈zs,z= "a"\/ z= "b"
 z6:zs.length<=6
 dv:H vd=some (.dK [((.inr "a":aA),V.ref (va 0)),((.inr "b":aA),V.ref (va 1))])
 lv:∀q,q<2->H (va q)=some (.lst (ys q))/\cM K H (ys q) (ds q)/\(ys q).length=m/\∀x∈ds q,Bv x
theorem b3T(T:bE K mg){CS CF CB CT CG CR CV CU CW CE:Addr}(Y:eT K mg CS)(R:jI K mg CR)(F:eL K mg CF)(Wb:cO K mg CB)(U:dO K mg CT)(Cc:jC K mg CG)(VP:kT K mg CV)(CC:mI K mg CU)(TT:nG K mg CW)(Ru:tD K mg CE){z1 z2:Addr×Addr}(M1:gH mg base z1.1 z1.2)(B2:iF K mg "Finder" "gathered" "Finder.gathered" fD z2)(M2:gH mg base z2.1 z2.2)(n12:z1.2≠z2.2){f:Addr}(A:Around)(outer:List Env)(s:Shared)(H:Hp)(Q:VK)(E:XK)(hr:bV 15 (A.deeper (PyProof.Rows.envOfC "law" (aI eX) s.heap.objs.size f (.ref z1.1))))(q:∀H',lJ [z1,z2] H'->Q (.bl true) H'):
 ∃t,dQ (jR P w K mg base f z1.1 A outer s H E) ((aV eX).drop 5) t/\
  ∀(H5:Hp) (a:Addr) (ns:List Int) (m:Nat) (zs:List Str) (ln vd:Addr) (va:Nat->Addr) (ys:Nat->List V) (ds:Nat->List PyData) (o2 o5:Option V),In5 K z1 z2 H5 a ns m zs ln vd va ys ds->
   t {nx:=fun _ H'=>Q .non H',rt:=Q} [some (.ref a),some (.int (m:Int)),o2,some (.ref ln),some (.ref vd),o5,none,none,none,none,none,none,none,none,none,none,none,none,none,none,none,none,none,none] H5:=by
 have hu:=cU hr
 have hcl:∀x,(jR P w K mg base f z1.1 A outer s H E).env.scope.names.lookup x=some .cell->∃c,(jR P w K mg base f z1.1 A outer s H E).env.cells.lookup x=some c:=fun x hx=>Option.isSome_iff_exists.mp (PySem.W.cellsFrom_some _ _ _ (.inl hx))
 have G_noted:bJ P w K mg base aF 1 "_law_noted" ["_law_calls","_law_some"] (a9S K):=sN T
 have GI:eU P w K mg base aF 4 CG ["self","names","function"] (b1g K CG):=uE T Ru Cc
 have GS:eU P w K mg base aF 3 CS ["self"] (spSI CS CF):=vU T Y F
 obtain⟨tE,hE,qE⟩:=b4m (P:=P) (w:=w) (z1:=z1) T Y R F Wb U Cc VP CC TT B2 M2 n12 (f:=f) A outer s H Q E hr q
 refine⟨_,(aK (bN (i:=6) eI.nd rfl (.inr rfl) (eO aG))
  (aK (bN (i:=7) eI.nd rfl (.inl rfl) (kE lV rfl T.list gM (aB (pv 3) aG)))
  (aK (bN (i:=8) eI.nd rfl (.inl rfl) (kZ GI (hr.mono (by decide)) Cc.c aR (aB (pv 7) (aB (a7L M1 rfl (qH (sc:=aI eX) (N:=sH) (cp:=[(6,"_law_calls")]) hcl).clos rfl) aG))))
  (aK (bY (iC PySem.F.plainAttrs_list PySem.F.slot_list_append PySem.F.type_list_append gQ (pv 7) (aB dW aG)))
  (aK (bN (i:=9) eI.nd rfl (.inl rfl) (b1p GS (hr.mono (by decide)) Y.c aR))
  (aK (bN (i:=10) eI.nd rfl (.inl rfl) (b1p GS (hr.mono (by decide)) Y.c aR))
  (aK (bN (i:=11) eI.nd rfl (.inl rfl) (eO (aB (gO (aB (pv 9) (aB dW aG))) (aB (gO (aB (pv 9) (aB dW aG))) (aB (gO (aB (pv 10) (aB dW aG))) aG)))))
  (aK (bN (i:=12) eI.nd rfl (.inl rfl) (eO aG))
  hE)))))))),?_⟩
 intro H5 a ns m zs ln vd va ys ds o2 o5 I
 have z6:=I.z6
 have S5:mX H5 (fun _=>0) H5 []:=⟨fun x h=>absurd rfl h,fun x h=>⟨rfl,h⟩,fun p hp=>by cases hp⟩
 have hN:∀z∈zs,Nl z:=fun z h=>by
  rcases I.zb z h with rfl|rfl
  ·exact eV.2.2.2.2.1
  ·exact eV.2.2.2.2.2.1
 refine⟨sl,fun ca hca=> ?_⟩
 have s6:=aE.new (o:=.lst []) hca
 have c6:upd H5 ca (.lst []) ca=some (.lst []):=aJ
 generalize upd H5 ca (.lst [])=H6 at s6 c6|-
 obtain⟨r6,S6⟩:=S5.add [(ca,160)] (by simp) (fun p hp=>by rw[List.mem_singleton.mp hp];exact⟨hca,Kd.lst c6⟩) (lZ s6) (nN s6)
 refine⟨_,rfl,ln,_,rfl,.inl (aN.of (s6 _ _ I.nm)),fun hn hhn=> ?_⟩
 have s7':=aE.new (o:=.lst (zs.map V.str)) hhn
 have c7:upd H6 hn (.lst (zs.map V.str)) hn=some (.lst (zs.map V.str)):=aJ
 generalize upd H6 hn (.lst (zs.map V.str))=H7 at s7' c7|-
 have S7:=S6.mv (lZ s7') (nN s7')
 have s7:=s6.trans s7'
 have t1:=s7 _ _ I.t1
 refine⟨_,rfl,⟨[],t1,fun c hc=>by cases hc⟩,fun fa HA hfa sA tA lA'=> ?_⟩
 have kA:∀{x:Addr} {o:HO},H7 x=some o->(∀φ,o≠ .ext φ)->HA x=some o:=fun e n=>sA _ _ (fun y=>by rw[y,t1]at e;exact n _ (Option.some.inj e).symm) e
 obtain⟨S1,tS1,_⟩:=id tA
 have SA:mX H5 r6 HA _:=S7.mv (fun x hx=>by
  by_cases y:x=z1.2
  ·rw[y,t1]at hx
   exact hx.elim
  ·cases e:H7 x with
   |none=>rw[e]at hx;exact hx.elim
   |some o=>rw[sA x o y e,<- e];exact hx) (fun x hx e=>by
  by_cases y:x=z1.2
  ·rw[y,tS1]at e;cases e
  ·cases e2:H7 x with
   |none=>exact hx e2
   |some o=>rw[sA x o y e2]at e;cases e)
 intro gr dg hgr hdg ne
 have hnA:=kA c7 (fun _ y=>by cases y)
 refine⟨gr,dg,hn,fa,zs,rfl,aJ,aN.of ?_,bA hnA hgr,z6,hN,fun HB nl bB hnl' grB nlB=>⟨rfl,?_⟩⟩
 ·rw[aH (bA hnA hgr),aH (bA hnA hdg)]
  exact hnA
 have hnl:HA nl=none:=(iB (iB hnl').1).1
 have sB:aE HA HB:=fun x o e=>bB _ _ (bA e hgr) (by rw[aH (bA e hgr),aH (bA e hdg)];exact e)
 obtain⟨rB,SB⟩:=SA.add [(gr,162),(nl,161)] (by
  simp only[List.map_cons,List.map_nil,List.nodup_cons,List.mem_cons,List.not_mem_nil,or_false,not_or]
  exact⟨fun y=>by{rw[y,nlB]at grB;cases grB},not_false,List.nodup_nil⟩) (fun p hp=>by
  simp only[List.mem_cons,List.not_mem_nil,or_false]at hp
  rcases hp with rfl|rfl
  ·exact⟨hgr,Kd.ins grB⟩
  ·exact⟨hnl,Kd.lst nlB⟩) (lZ sB) (nN sB)
 have hnB:=sB _ _ hnA
 refine⟨_,rfl,.inl ⟨rfl,_,aN.of hnB⟩,hn,_,_,rfl,rfl,hnB,dD (by rw[List.length_map];omega),?_⟩
 have uC:bC hn HB (upd HB hn (.lst (zs.map V.str++ [.str ("b":Str)]))):=bC.upd
 have hnC:upd HB hn (.lst (zs.map V.str++ [.str ("b":Str)])) hn=some (.lst (zs.map V.str++ [.str ("b":Str)])):=aJ
 generalize upd HB hn (.lst (zs.map V.str++ [.str ("b":Str)]))=HC at uC hnC|-
 have SC:=SB.mv (pD [hn] (fun x hx=>by rw[List.mem_singleton.mp hx];exact Kd.lst hnC) fun x o hx e=>uC _ _ (fun y=>hx (by rw[y];exact List.mem_cons_self)) e) (fun x hx e=>by
  by_cases y:x=hn
  ·rw[y,hnC]at e;cases e
  ·cases e2:HB x with
   |none=>exact hx e2
   |some o=>rw[uC x o y e2]at e;cases e)
 have hn5:H6 hn=none:=hhn
 have k5:∀{x:Addr} {o:HO},H5 x=some o->x≠z1.2->HC x=some o:=fun e n=>uC _ _ (bA (s6 _ _ e) hn5) (sB _ _ (sA _ _ n (s7 _ _ e)))
 have caC:HC ca=some (.lst []):=uC _ _ (bA c6 hn5) (sB _ _ (kA (s7' _ _ c6) (fun _ y=>by cases y)))
 have grC:HC gr=some (.ins CG dg (fM nl fa)):=uC _ _ (fun y=>by rw[y,hnB]at grB;cases grB) grB
 have nlC:HC nl=some (.lst (zs.map V.str)):=uC _ _ (fun y=>by rw[y]at hnl;rw[hnA]at hnl;cases hnl) nlB
 have kzC:dC HA HC:=fun b u e=>uC _ _ (fun y=>by rw[y,hnA]at e;cases e) (sB _ _ e)
 have tC:HC z1.2=some (eN z1.2 S1):=uC _ _ (fun y=>by rw[y,hnA]at tS1;cases tS1) (sB _ _ tS1)
 intro s0 d0 hs0 hd0 ne0
 refine⟨s0,d0,rfl,aJ,fun HD bd0 ch0 fi0 fd0 lk0 df0 fr0 nfl0 a1 a2 a3 a4 a5 a6 b0=>⟨rfl,?_⟩⟩
 have sD:aE HC HD:=fun x o e=>b0 _ _ (bA e hs0) (by rw[aH (bA e hs0),aH (bA e hd0)];exact e)
 have f0:∀x∈ [bd0,ch0,fi0,fd0,lk0],HC x=none/\x≠s0:=fun x hx=>⟨(iB (iB (fr0 x hx)).1).1,(iB (fr0 x hx)).2⟩
 obtain⟨rD,SD⟩:=SC.add [(s0,251),(ch0,180),(bd0,200),(fi0,0)] (by
  simp only[List.map_cons,List.map_nil,List.nodup_cons,List.mem_cons,List.not_mem_nil,or_false,not_or]
  exact⟨⟨(f0 ch0 (by simp)).2.symm,(f0 bd0 (by simp)).2.symm,(f0 fi0 (by simp)).2.symm⟩,⟨fun y=>by{rw[y,a2]at a3;cases a3},fun y=>by{rw[y,a4]at a3;cases a3}⟩,fun y=>by{rw[y,a4]at a2;cases a2},not_false,List.nodup_nil⟩) (fun p hp=>by
  simp only[List.mem_cons,List.not_mem_nil,or_false]at hp
  rcases hp with rfl|rfl|rfl|rfl
  ·exact⟨hs0,Kd.ins a1⟩
  ·exact⟨(f0 ch0 (by simp)).1,Kd.lst a3⟩
  ·exact⟨(f0 bd0 (by simp)).1,Kd.dK a2⟩
  ·exact⟨(f0 fi0 (by simp)).1,Kd.ins a4⟩) (lZ sD) (nN sD)
 intro s1 d1 hs1 hd1 ne1
 refine⟨s1,d1,rfl,aJ,fun HE bd1 ch1 fi1 fd1 lk1 df1 fr1 nfl1 e1 e2 e3 e4 e5 e6 b1=>⟨rfl,?_⟩⟩
 have sE:aE HD HE:=fun x o e=>b1 _ _ (bA e hs1) (by rw[aH (bA e hs1),aH (bA e hd1)];exact e)
 have f1:∀x∈ [bd1,ch1,fi1,fd1,lk1],HD x=none/\x≠s1:=fun x hx=>⟨(iB (iB (fr1 x hx)).1).1,(iB (fr1 x hx)).2⟩
 obtain⟨rE,SE⟩:=SD.add [(s1,252),(ch1,181),(bd1,201),(fi1,0)] (by
  simp only[List.map_cons,List.map_nil,List.nodup_cons,List.mem_cons,List.not_mem_nil,or_false,not_or]
  exact⟨⟨(f1 ch1 (by simp)).2.symm,(f1 bd1 (by simp)).2.symm,(f1 fi1 (by simp)).2.symm⟩,⟨fun y=>by{rw[y,e2]at e3;cases e3},fun y=>by{rw[y,e4]at e3;cases e3}⟩,fun y=>by{rw[y,e4]at e2;cases e2},not_false,List.nodup_nil⟩) (fun p hp=>by
  simp only[List.mem_cons,List.not_mem_nil,or_false]at hp
  rcases hp with rfl|rfl|rfl|rfl
  ·exact⟨hs1,Kd.ins e1⟩
  ·exact⟨(f1 ch1 (by simp)).1,Kd.lst e3⟩
  ·exact⟨(f1 bd1 (by simp)).1,Kd.dK e2⟩
  ·exact⟨(f1 fi1 (by simp)).1,Kd.ins e4⟩) (lZ sE) (nN sE)
 refine⟨_,rfl,sl,fun p0 hp0=> ?_⟩
 have sF0:=aE.new (o:=.tup [.ref s0,.str ("t":Str)]) hp0
 have q0:upd HE p0 (.tup [.ref s0,.str ("t":Str)]) p0=some (.tup [.ref s0,.str ("t":Str)]):=aJ
 generalize upd HE p0 (.tup [.ref s0,.str ("t":Str)])=HF0 at sF0 q0|-
 refine⟨_,rfl,sl,fun p1 hp1=> ?_⟩
 have sF1:=aE.new (o:=.tup [.ref s0,.str ("u":Str)]) hp1
 have q1:upd HF0 p1 (.tup [.ref s0,.str ("u":Str)]) p1=some (.tup [.ref s0,.str ("u":Str)]):=aJ
 generalize upd HF0 p1 (.tup [.ref s0,.str ("u":Str)])=HF1 at sF1 q1|-
 refine⟨_,rfl,sl,fun p2 hp2=> ?_⟩
 have sF2:=aE.new (o:=.tup [.ref s1,.str ("t":Str)]) hp2
 have q2:upd HF1 p2 (.tup [.ref s1,.str ("t":Str)]) p2=some (.tup [.ref s1,.str ("t":Str)]):=aJ
 generalize upd HF1 p2 (.tup [.ref s1,.str ("t":Str)])=HF2 at sF2 q2|-
 refine⟨sl,fun pl hpl=> ?_⟩
 have sF3:=aE.new (o:=.lst [.ref p0,.ref p1,.ref p2]) hpl
 have q3:upd HF2 pl (.lst [.ref p0,.ref p1,.ref p2]) pl=some (.lst [.ref p0,.ref p1,.ref p2]):=aJ
 generalize upd HF2 pl (.lst [.ref p0,.ref p1,.ref p2])=HF3 at sF3 q3|-
 have sE2:aE HE HF2:=(sF0.trans sF1).trans sF2
 have sEF:=sE2.trans sF3
 obtain⟨rF,SF⟩:=SE.add [(pl,0)] (by simp) (fun p hp=>by rw[List.mem_singleton.mp hp];exact⟨fB sE2 hpl,Kd.lst q3⟩) (lZ sEF) (nN sEF)
 refine⟨sl,fun hs hhs=> ?_⟩
 have sG':=aE.new (o:=.lst []) hhs
 have q4:upd HF3 hs (.lst []) hs=some (.lst []):=aJ
 generalize upd HF3 hs (.lst [])=HG at sG' q4|-
 obtain⟨rG,SG⟩:=SF.add [(hs,250)] (by simp) (fun p hp=>by rw[List.mem_singleton.mp hp];exact⟨hhs,Kd.lst q4⟩) (lZ sG') (nN sG')
 have sEG:=sEF.trans sG'
 have sDG:=sE.trans sEG
 have sCG:=sD.trans sDG
 have kG:∀{x:Addr} {o:HO},H5 x=some o->x≠z1.2->HG x=some o:=fun e n=>sCG _ _ (k5 e n)
 have nz:∀{x:Addr} {o:HO},H5 x=some o->(∀φ,o≠ .ext φ)->x≠z1.2:=fun e n y=>by rw[y,I.t1]at e;exact n _ (Option.some.inj e).symm
 have z5:∀{x:Addr} {o:HO},H5 x=some o->rG x=0:=fun{x o} e=>(SG.old x (by rw[e];exact fun y=>by cases y)).1
 have at_:=SG.at_
 let B0:BM:=⟨ca,ca,ca,ca,ca,ca,ca,[],0,[],[],[],[]⟩
 let W:W5:=⟨two s0 s1,two ch0 ch1,two bd0 bd1,fun _=>B0,fun _ _=>ca,fun _=>ca,fun _ _=>ca,fun _ _=>ca,fun _ _=>ca,gr,nl,fa,ca,zs,m⟩
 have ktG:cJ H5 HG:=fun x xs e=>kG e (nz e (fun _ y=>by cases y))
 have O:rJ K z1 z2 HG rG W a ns ln pl vd va ys ds:=by
  refine⟨SG.lb,?_,I.nl,⟨kG I.nm (nz I.nm (fun _ y=>by cases y)),z5 I.nm⟩,⟨fun i=>match i with|0=>p0|1=>p1|_=>p2,sG' _ _ q3,(at_ (pl,0) (by simp)).1,fun i hi=> ?_⟩,⟨S1,sCG _ _ tC⟩,kG I.t2 n12.symm,I.m0,I.m6,I.zb,I.z6,⟨kG I.dv (nz I.dv (fun _ y=>by cases y)),z5 I.dv⟩,fun q hq=> ?_⟩
  ·rcases I.sc with(h|⟨o,h⟩)|h
   ·exact .inl ⟨_,.inl rfl,kG h (nz h (fun _ y=>by cases y)),z5 h⟩
   ·exact .inl ⟨_,.inr ⟨o,rfl⟩,kG h (nz h (fun _ y=>by cases y)),z5 h⟩
   ·exact .inr fun H'=> .inr h
  ·rcases(iK (n:=i))with rfl|rfl|rfl
   ·exact sG' _ _ (sF3 _ _ (sF2 _ _ (sF1 _ _ q0)))
   ·exact sG' _ _ (sF3 _ _ (sF2 _ _ q1))
   ·exact sG' _ _ (sF3 _ _ q2)
  ·obtain⟨v1,v2,v3,v4⟩:=I.lv q hq
   exact⟨kG v1 (nz v1 (fun _ y=>by cases y)),z5 v1,v2.keep ktG,v3,v4⟩
 have N:dP K CS CF CB CT CG HG rG W hs ys (two fi0 fi1) (two fd0 fd1) (two lk0 lk1) (fun _=> []) (fun _=> []) [] 0 rG HG:=by
  refine⟨SG.lb,fun _ _=>rfl,fun x o _ e=>e,fun k hk=> ?_,fun k hk=> ?_,fun k hk=> ?_,fun k k' hk hk' ne=> ?_,⟨(at_ (gr,162) (by simp)).1,dg,sCG _ _ grC⟩,⟨(at_ (nl,161) (by simp)).1,sCG _ _ nlC⟩,⟨(at_ (ca,160) (by simp)).1,sCG _ _ caC⟩,⟨(at_ (hs,250) (by simp)).1,q4⟩,fun i hi=>by{omega},fun i hi=>by{omega}⟩
  ·rcases(cA (n:=k))with rfl|rfl
   ·exact⟨⟨d0,sDG _ _ a1⟩,sDG _ _ a3,sDG _ _ a2,⟨df0,sDG _ _ a4⟩,sDG _ _ a5,sDG _ _ a6,nfl0⟩
   ·exact⟨⟨d1,sEG _ _ e1⟩,sEG _ _ e3,sEG _ _ e2,⟨df1,sEG _ _ e4⟩,sEG _ _ e5,sEG _ _ e6,nfl1⟩
  ·rcases(cA (n:=k))with rfl|rfl
   ·exact(at_ (fi0,0) (by simp)).1
   ·exact(at_ (fi1,0) (by simp)).1
  ·rcases(cA (n:=k))with rfl|rfl
   ·exact⟨(at_ (s0,251) (by simp)).1,(at_ (ch0,180) (by simp)).1,(at_ (bd0,200) (by simp)).1⟩
   ·exact⟨(at_ (s1,252) (by simp)).1,(at_ (ch1,181) (by simp)).1,(at_ (bd1,201) (by simp)).1⟩
  ·have w1:fd0≠fd1:=bA a5 (f1 fd1 (by simp)).1
   have w2:lk0≠lk1:=bA a6 (f1 lk1 (by simp)).1
   have w3:fd0≠lk1:=bA a5 (f1 lk1 (by simp)).1
   have w4:fd1≠lk0:=(bA a6 (f1 fd1 (by simp)).1).symm
   rcases(cA (n:=k))with rfl|rfl<;>rcases(cA (n:=k'))with rfl|rfl
   ·exact absurd rfl ne
   ·exact⟨w1,w2,w3⟩
   ·exact⟨w1.symm,w2.symm,w4⟩
   ·exact absurd rfl ne
 have kzG:dC HA HG:=fun b u e=>sCG _ _ (kzC b u e)
 exact qE HG rG W hs a ln pl vd ns va ys ds (two fi0 fi1) (two fd0 fd1) (two lk0 lk1) o2 o5 (some (.ref hn)) (some (.ref s1)) O N (fun σ HB' fl Ln h6 kz=>by
  have la':=mN kz (mN kzG lA')
  refine b2X (k:=2) (by decide) Ln.free la' ?_
  refine a1G (sc:=aI eX) (N:=sH) (ps:=["_law_some"]) (cp:=[(6,"_law_calls")]) (cv:=[.ref ca]) (k:=1) (spB:=spBN K ca) la' Ln.toLent hcl (by simp only[List.map_cons,List.map_nil];rw[h6]) (fun _ _ _ _ us hl=>fK (fun _=>rfl) us hl) (fun cd A' outer' s'' H' vs Q' hr' h'=> ?_)
  obtain⟨l,is,cs,rfl,hl,hca',c9',i1,ncl,q'⟩:=h'
  exact⟨_,bU G_noted hr' aR (aB (pv 1) (aB (pv 0) aG)),_,rfl,_,rfl,ca,l,is,cs,rfl,hl,hca',c9',i1,ncl,q'⟩)
end
end My
namespace L2
open PySem PySem.Spec PyProof.Rows
theorem jH.okT{P:Program}{w:World}{K:Fg}{mg:Str->Option Value}{base:Heap}{x qual:Str}{st:Stmt}{f c:Addr}{fd:FuncData}{N ps:List Str}{k:Nat}{sp:Sp}(F:jH K x qual st f fd)(hc:fd.code= .ref c)(S:bG N ps (aI st))(len:∀vs H Q E,sp vs H Q E->vs.length=ps.length)
 (hbody:∀(A:Around) (outer:List Env) (s:Shared) (H:Hp) (vs:List V) (Q:VK) (E:XK),bV k (A.deeper (envOfC qual (aI st) s.heap.objs.size f (.ref c)))->sp vs H Q E->
  ∃t,dQ (eY aF P w K mg base N qual (aI st) f (.ref c) A outer s H E).nox (aV st) t/\t {nx:=fun _ H'=>Q .non H',rt:=Q} (start N vs) H):fJ P w K mg base aF (k+ 1) f fd ps sp:=by
 obtain⟨oc,od,kV,doc,pm,an,cdv,ct,osl,rfl,lk,hcd⟩:=F.ex
 have e:cdv= .ref c:=hc
 subst e
 refine a4P lk hcd S len fun A outer s H vs Q E hr hsp=> ?_
 obtain⟨t,h,q⟩:=hbody A outer s H vs Q E hr hsp
 exact⟨t,h.nox,q⟩
end L2
namespace My
open PySem L2
theorem cM.snoc{K:Fg}{H:Hp}{v:V}{d:PyData}(h:Pv K H v d):∀{vs:List V} {ds:List PyData},cM K H vs ds->cM K H (vs++ [v]) (ds++ [d])
 |_,_,.nil=> .cons h .nil
 |_,_,.cons h' t=> .cons h' (cM.snoc h t)
noncomputable def pr2 {α:Type} (x y:α):Nat->α
 |0=>x
 |_=>y
section
variable{P:Program}{w:World}{K:Fg}{mg:Str->Option Value}{base:Heap}
structure In4(K:Fg)(z1 z2:Addr×Addr)(H:Hp)(a:Addr)(ns:List Int)(m:Nat)(zs:List Str)(ln vd v0 v1:Addr):Prop where
 sc:(∃o,(o= .lst (ns.map V.int)\/ ∃q,o= .frz q (.lst (ns.map V.int)))/\H a=some o/\a≠v0/\a≠v1)\/ ∀H',aN K H' a (ns.map V.int)
 nl:ns.length<=63
 nm:H ln=some (.lst (zs.map V.str))/\ln≠v0/\ln≠v1
 t1:H z1.2=some (eN z1.2 [])
 t2:H z2.2=some (eN z2.2 [])
 m0:0<m
 m6:m<=6
 zb:∀z∈zs,z= "a"\/ z= "b"
 z6:zs.length<=6
 dv:H vd=some (.dK [((.inr "a":aA),V.ref v0),((.inr "b":aA),V.ref v1)])
 l0:H v0=some (.lst [])
 l1:H v1=some (.lst [])
 ne:v0≠v1
inductive IvO(K:Fg)(H4:Hp)(m:Nat)(a ln vd v0 v1:Addr)(o2:Option V):Nat->St->Hp->Prop
 |mk {i:Nat} {σ:St} {Hi:Hp} (o5:Option V) (y0 y1:List V) (d0 d1:List PyData) (h1:σ= [some (.ref a),some (.int (m:Int)),o2,some (.ref ln),some (.ref vd),o5,none,none,none,none,none,none,none,none,none,none,none,none,none,none,none,none,none,none]) (h2:∀x o,x≠v0->x≠v1->H4 x=some o->Hi x=some o) (h3:Hi v0=some (.lst y0)) (h4:Hi v1=some (.lst y1)) (h5:cM K Hi y0 d0) (h6:cM K Hi y1 d1) (h7:y0.length=i) (h8:y1.length=i) (h9:∀x∈d0,Bv x) (h10:∀x∈d1,Bv x):IvO K H4 m a ln vd v0 v1 o2 i σ Hi
theorem b3b(T:bE K mg){CS CF CB CT CG CR CV CU CW CE:Addr}(Y:eT K mg CS)(R:jI K mg CR)(F:eL K mg CF)(Wb:cO K mg CB)(U:dO K mg CT)(Cc:jC K mg CG)(VP:kT K mg CV)(CC:mI K mg CU)(TT:nG K mg CW)(Ru:tD K mg CE){z1 z2:Addr×Addr}(M1:gH mg base z1.1 z1.2)(B2:iF K mg "Finder" "gathered" "Finder.gathered" fD z2)(M2:gH mg base z2.1 z2.2)(n12:z1.2≠z2.2){f:Addr}(A:Around)(outer:List Env)(s:Shared)(H:Hp)(Q:VK)(E:XK)(hr:bV 15 (A.deeper (PyProof.Rows.envOfC "law" (aI eX) s.heap.objs.size f (.ref z1.1))))(q:∀H',lJ [z1,z2] H'->Q (.bl true) H'):
 ∃t,dQ (jR P w K mg base f z1.1 A outer s H E) ((aV eX).drop 4) t/\
  ∀(H4:Hp) (a:Addr) (ns:List Int) (m:Nat) (zs:List Str) (ln vd v0 v1:Addr) (o2:Option V),In4 K z1 z2 H4 a ns m zs ln vd v0 v1->
   t {nx:=fun _ H'=>Q .non H',rt:=Q} [some (.ref a),some (.int (m:Int)),o2,some (.ref ln),some (.ref vd),none,none,none,none,none,none,none,none,none,none,none,none,none,none,none,none,none,none,none] H4:=by
 have hu:=cU hr
 have G_mixed:bJ P w K mg base aF 1 "_law_mixed" ["_law_script","_law_k"] (tX K):=mU T
 have G_value:bJ P w K mg base aF 1 "_law_value" ["_law_cell"] (spLv K):=oZ T
 obtain⟨tE,hE,qE⟩:=b3T (P:=P) (w:=w) (z1:=z1) T Y R F Wb U Cc VP CC TT Ru M1 B2 M2 n12 (f:=f) A outer s H Q E hr q
 refine⟨_,(aK (iG PassesOwn.never rfl (a0g rfl T.range (aB (pv 1) aG)) (eM (i:=5) eI.nd rfl (.inl rfl)) (aK (bY (iC PySem.F.plainAttrs_list PySem.F.slot_list_append PySem.F.type_list_append gQ (eE hu (pv 4) dW (fun _ _=>rfl)) (aB (bU G_value (hr.mono (by decide)) aR (aB (bU G_mixed (hr.mono (by decide)) aR (aB (pv 0) (aB (bW fS aY (pv 5)) aG))) aG)) aG)))
  (aL (bY (iC PySem.F.plainAttrs_list PySem.F.slot_list_append PySem.F.type_list_append gQ (eE hu (pv 4) dW (fun _ _=>rfl)) (aB (bU G_value (hr.mono (by decide)) aR (aB (bU G_mixed (hr.mono (by decide)) aR (aB (pv 0) (aB (bW fS aY (pv 5)) aG))) aG)) aG))))))
  hE),?_⟩
 intro H4 a ns m zs ln vd v0 v1 o2 C
 have m0:=C.m0
 have m6:=C.m6
 have hns:=C.nl
 have sc_mv:∀{H':Hp},(∀x o,x≠v0->x≠v1->H4 x=some o->H' x=some o)->aN K H' a (ns.map V.int):=fun{H'} u=>by
  rcases C.sc with⟨o,ho,e,n0,n1⟩|h
  ·have e':=u a o n0 n1 e
   rcases ho with rfl|⟨q,rfl⟩
   ·exact .inl (.inl e')
   ·exact .inl (.inr ⟨q,e'⟩)
  ·exact h H'
 have nd0:vd≠v0:=fun y=>by have e:=C.dv;rw[y,C.l0]at e;cases e
 have nd1:vd≠v1:=fun y=>by have e:=C.dv;rw[y,C.l1]at e;cases e
 refine⟨_,rfl,(m:Int),rfl,by omega,by omega,?_⟩
 rw[Int.toNat_natCast]
 refine b0B (lo:=0) (n:=m) (IvO K H4 m a ln vd v0 v1 o2) ⟨_,[],[],[],[],rfl,fun x o _ _ e=>e,C.l0,C.l1,.nil,.nil,rfl,rfl,fun x h=>by{cases h},fun x h=>by{cases h}⟩ ?_ ?_
 ·rintro i σ Hi hi ⟨o5,y0,y1,d0,d1,rfl,u,h0,h1,p0,p1,e0,e1,b0,b1⟩
  have vdi:=u _ _ nd0 nd1 C.dv
  have sc1:=sc_mv u
  refine⟨_,rfl,vd,V.ref v0,rfl,bQ.k (k:=Sum.inr "a") vdi,.inl ⟨rfl,_,aN.of h0⟩,_,rfl,_,rfl,_,_,rfl,rfl,a,ns,_,rfl,sc1,hns,by omega,by omega,fun m1 i1 i2=>⟨m1,rfl,fun H2 v d s2 hv hbv=>⟨v0,_,_,rfl,rfl,s2 _ _ h0,dD (by omega),?_⟩⟩⟩
  have u3:bC v0 H2 (upd H2 v0 (.lst (y0++ [v]))):=bC.upd
  have c3:upd H2 v0 (.lst (y0++ [v])) v0=some (.lst (y0++ [v])):=aJ
  generalize upd H2 v0 (.lst (y0++ [v]))=H3 at u3 c3|-
  have kt3:cJ H2 H3:=fun x xs e=>u3 _ _ (fun y=>by rw[y,s2 _ _ h0]at e;cases e) e
  have k3:∀x o,x≠v0->x≠v1->H4 x=some o->H3 x=some o:=fun x o n1 n2 e=>u3 _ _ n1 (s2 _ _ (u _ _ n1 n2 e))
  have vd3:=k3 _ _ nd0 nd1 C.dv
  have sc3:=sc_mv k3
  have h13:=u3 _ _ C.ne.symm (s2 _ _ h1)
  refine⟨_,rfl,vd,V.ref v1,rfl,bQ.k (k:=Sum.inr "b") vd3,.inl ⟨rfl,_,aN.of h13⟩,_,rfl,_,rfl,_,_,rfl,rfl,a,ns,_,rfl,sc3,hns,by omega,by omega,fun m2 i3 i4=>⟨m2,rfl,fun H5 v' d' s5 hv' hbv'=>⟨v1,_,_,rfl,rfl,s5 _ _ h13,dD (by omega),?_⟩⟩⟩
  have u6:bC v1 H5 (upd H5 v1 (.lst (y1++ [v']))):=bC.upd
  have c6:upd H5 v1 (.lst (y1++ [v'])) v1=some (.lst (y1++ [v'])):=aJ
  generalize upd H5 v1 (.lst (y1++ [v']))=H6 at u6 c6|-
  have kt6:cJ H5 H6:=fun x xs e=>u6 _ _ (fun y=>by rw[y,s5 _ _ h13]at e;cases e) e
  have kt36:cJ H3 H6:=fun x xs e=>kt6 _ _ (s5 _ _ e)
  have kti:cJ Hi H6:=fun x xs e=>kt36 _ _ (kt3 _ _ (s2 _ _ e))
  refine⟨_,y0++ [v],y1++ [v'],d0++ [d],d1++ [d'],rfl,fun x o n1 n2 e=>u6 _ _ n2 (s5 _ _ (k3 x o n1 n2 e)),u6 _ _ C.ne (s5 _ _ c3),c6,cM.snoc ((hv.keep kt3).keep kt36) (p0.keep kti),cM.snoc (hv'.keep kt6) (p1.keep kti),by rw[List.length_append,e0];rfl,by rw[List.length_append,e1];rfl,fun x hx=> ?_,fun x hx=> ?_⟩
  ·rcases List.mem_append.mp hx with hx|hx
   ·exact b0 x hx
   ·rw[List.mem_singleton.mp hx];exact hbv
  ·rcases List.mem_append.mp hx with hx|hx
   ·exact b1 x hx
   ·rw[List.mem_singleton.mp hx];exact hbv'
 rintro σ H5 ⟨o5,y0,y1,d0,d1,rfl,u,h0,h1,p0,p1,e0,e1,b0,b1⟩
 have ext:∀{x:Addr} {φ},H4 x=some (.ext φ)->H5 x=some (.ext φ):=fun e=>u _ _ (fun y=>by rw[y,C.l0]at e;cases e) (fun y=>by rw[y,C.l1]at e;cases e) e
 refine qE H5 a ns m zs ln vd (two v0 v1) (pr2 y0 y1) (pr2 d0 d1) o2 o5 ⟨sc_mv u,hns,u _ _ C.nm.2.1 C.nm.2.2 C.nm.1,ext C.t1,ext C.t2,m0,m6,C.zb,C.z6,u _ _ nd0 nd1 C.dv,fun q hq=> ?_⟩
 rcases(cA (n:=q))with rfl|rfl
 ·exact⟨h0,p0,e0,b0⟩
 ·exact⟨h1,p1,e1,b1⟩
def b0t(K:Fg)(tabs:List (Addr×Addr)):Sp:=fun vs H Q _=>∃(a:Addr) (ns:List Int),vs= [.ref a] /\aN K H a (ns.map V.int)/\ns.length<=63/\sO tabs H/\∀H',lJ tabs H'->Q (.bl true) H'
noncomputable def kU:List (List Str):=[["a"],["b"],["a","b"],["b","a"],["a","a"],[],["a","b","b","a","a","b"]]
theorem b6G:∀zs∈kU,(∀z∈zs,z= "a"\/ z= "b")/\zs.length<=6:=by
 unfold kU
 decide+kernel
theorem b7e(T:bE K mg){z1 z2:Addr×Addr}(B1:DefT K mg "law" eX z1)(M1:gH mg base z1.1 z1.2)(B2:iF K mg "Finder" "gathered" "Finder.gathered" fD z2)(M2:gH mg base z2.1 z2.2)(n12:z1.2≠z2.2){f:Addr}{fd:FuncData}(F:jH K "law" "law" eX f fd)(hcd:fd.code= .ref z1.1):fJ P w K mg base aF 16 f fd ["_law_script"] (b0t K [z1,z2]):=by
 obtain⟨CS,Y⟩:=T.t_Sheet
 obtain⟨CF,Fi⟩:=T.t_Finder
 obtain⟨CB,Wb⟩:=T.t_Board
 obtain⟨CT,U⟩:=T.t_Table
 obtain⟨CG,Cc⟩:=T.t_Cells
 obtain⟨CE,Ru⟩:=T.t_Rule
 obtain⟨CR,R⟩:=T.t_Trial
 obtain⟨CV,VP⟩:=T.t_ValuePut
 obtain⟨CU,CC⟩:=T.t_ColumnSet
 obtain⟨CW,TT⟩:=T.t_TableTold
 have G_mixed:bJ P w K mg base aF 1 "_law_mixed" ["_law_script","_law_k"] (tX K):=mU T
 refine F.okT hcd eI (fun vs H Q E h=> ?_) (fun A outer s H vs Q E hr h=> ?_)
 ·obtain⟨a,ns,rfl,_⟩:=h
  rfl
 ·obtain⟨a,ns,rfl,hS,hl,hT,q⟩:=h
  have hu:=cU hr
  obtain⟨tE,hE,qE⟩:=b3b (P:=P) (w:=w) (z1:=z1) T Y R Fi Wb U Cc VP CC TT Ru M1 B2 M2 n12 (f:=f) A outer s H Q E hr q
  refine boxS ⟨_,(a0o (zZ.mk (bN (i:=1) eI.nd rfl (.inr rfl) (bW fS aY (bW fV (bU G_mixed (hr.mono (by decide)) aR (aB (pv 0) (aB aY aG))) aY))))
   (a0o (b17 (i:=2) eI.nd rfl (.inl rfl) (mW (nM (mW (iO gE mK)) (nM (mW (iO gE mK)) (nM (mW (iO gE (iO gE mK))) (nM (mW (iO gE (iO gE mK))) (nM (mW (iO gE (iO gE mK))) (nM (mW mK) (nM (mW (iO gE (iO gE (iO gE (iO gE (iO gE (iO gE mK))))))) mK)))))))))
   (a0o (zZ.mk (bN (i:=3) eI.nd rfl (.inl rfl) (cT gG (pv 2) (bW fV (bU G_mixed (hr.mono (by decide)) aR (aB (pv 0) (aB aY aG))) aY) (fun _ _=>rfl))))
   (a0o (b17 (i:=4) eI.nd rfl (.inl rfl) (b1e (a0m gE (jM.mk (eO aG)) (a0m gE (jM.mk (eO aG)) b2e))))
   (zP.mk hE))))),?_⟩
  refine⟨_,rfl,a,ns,_,rfl,hS,hl,by decide,by decide,fun m1 h1 h2=>⟨_,_,rfl,rfl,(show(0:Int)<6 by decide),_,_,rfl,rfl,?_⟩⟩
  have e1:=Int.emod_nonneg m1 (show(6:Int)≠0 by decide)
  have e2:=Int.emod_lt_of_pos m1 (show(0:Int)<6 by decide)
  obtain⟨m,em⟩:∃m:Nat,(m:Int)=1+ m1% 6:=⟨(1+ m1% 6).toNat,by omega⟩
  have t1:H z1.2=some (eN z1.2 []):=hT _ (by simp)
  have t2:H z2.2=some (eN z2.2 []):=hT _ (by simp)
  refine⟨sl,fun l1 hl1=> ?_⟩
  have s1:=aE.new (o:=.lst [.str ("a":Str)]) hl1
  have c1:upd H l1 (.lst [.str ("a":Str)]) l1=some (.lst [.str ("a":Str)]):=aJ
  generalize upd H l1 (.lst [.str ("a":Str)])=H1 at s1 c1|-
  refine⟨sl,fun l2 hl2=> ?_⟩
  have s2:=aE.new (o:=.lst [.str ("b":Str)]) hl2
  have c2:upd H1 l2 (.lst [.str ("b":Str)]) l2=some (.lst [.str ("b":Str)]):=aJ
  generalize upd H1 l2 (.lst [.str ("b":Str)])=H2 at s2 c2|-
  refine⟨sl,fun l3 hl3=> ?_⟩
  have s3:=aE.new (o:=.lst [.str ("a":Str),.str ("b":Str)]) hl3
  have c3:upd H2 l3 (.lst [.str ("a":Str),.str ("b":Str)]) l3=some (.lst [.str ("a":Str),.str ("b":Str)]):=aJ
  generalize upd H2 l3 (.lst [.str ("a":Str),.str ("b":Str)])=H3 at s3 c3|-
  refine⟨sl,fun l4 hl4=> ?_⟩
  have s4:=aE.new (o:=.lst [.str ("b":Str),.str ("a":Str)]) hl4
  have c4:upd H3 l4 (.lst [.str ("b":Str),.str ("a":Str)]) l4=some (.lst [.str ("b":Str),.str ("a":Str)]):=aJ
  generalize upd H3 l4 (.lst [.str ("b":Str),.str ("a":Str)])=H4 at s4 c4|-
  refine⟨sl,fun l5 hl5=> ?_⟩
  have s5:=aE.new (o:=.lst [.str ("a":Str),.str ("a":Str)]) hl5
  have c5:upd H4 l5 (.lst [.str ("a":Str),.str ("a":Str)]) l5=some (.lst [.str ("a":Str),.str ("a":Str)]):=aJ
  generalize upd H4 l5 (.lst [.str ("a":Str),.str ("a":Str)])=H5 at s5 c5|-
  refine⟨sl,fun l6 hl6=> ?_⟩
  have s6:=aE.new (o:=.lst []) hl6
  have c6:upd H5 l6 (.lst []) l6=some (.lst []):=aJ
  generalize upd H5 l6 (.lst [])=H6 at s6 c6|-
  refine⟨sl,fun l7 hl7=> ?_⟩
  have s7:=aE.new (o:=.lst [.str ("a":Str),.str ("b":Str),.str ("b":Str),.str ("a":Str),.str ("a":Str),.str ("b":Str)]) hl7
  have c7:upd H6 l7 (.lst [.str ("a":Str),.str ("b":Str),.str ("b":Str),.str ("a":Str),.str ("a":Str),.str ("b":Str)]) l7=some (.lst [.str ("a":Str),.str ("b":Str),.str ("b":Str),.str ("a":Str),.str ("a":Str),.str ("b":Str)]):=aJ
  generalize upd H6 l7 (.lst [.str ("a":Str),.str ("b":Str),.str ("b":Str),.str ("a":Str),.str ("a":Str),.str ("b":Str)])=H7 at s7 c7|-
  refine⟨sl,fun l8 hl8=> ?_⟩
  have s8:=aE.new (o:=.lst [.ref l1,.ref l2,.ref l3,.ref l4,.ref l5,.ref l6,.ref l7]) hl8
  have c8:upd H7 l8 (.lst [.ref l1,.ref l2,.ref l3,.ref l4,.ref l5,.ref l6,.ref l7]) l8=some (.lst [.ref l1,.ref l2,.ref l3,.ref l4,.ref l5,.ref l6,.ref l7]):=aJ
  generalize upd H7 l8 (.lst [.ref l1,.ref l2,.ref l3,.ref l4,.ref l5,.ref l6,.ref l7])=H8 at s8 c8|-
  have s78:=s7.trans s8
  have s68:=s6.trans s78
  have s58:=s5.trans s68
  have s48:=s4.trans s58
  have s38:=s3.trans s48
  have s28:=s2.trans s38
  have s08:=s1.trans s28
  refine⟨_,rfl,_,rfl,a,ns,_,rfl,s08.seq hS,hl,by decide,by decide,fun m2 h3 h4=>⟨_,_,rfl,rfl,(show(0:Int)<7 by decide),?_⟩⟩
  have pick:∃(k:Nat) (ln:Addr) (zs:List Str),m2% 7=(k:Int)/\ [V.ref l1,V.ref l2,V.ref l3,V.ref l4,V.ref l5,V.ref l6,V.ref l7][k]?=some (.ref ln)/\H8 ln=some (.lst (zs.map V.str))/\zs∈kU:=by
   rcases(show m2% 7=0\/ m2% 7=1\/ m2% 7=2\/ m2% 7=3\/ m2% 7=4\/ m2% 7=5\/ m2% 7=6 by omega)with h|h|h|h|h|h|h
   ·exact⟨0,l1,["a"],h,rfl,s28 _ _ c1,by unfold kU;simp⟩
   ·exact⟨1,l2,["b"],h,rfl,s38 _ _ c2,by unfold kU;simp⟩
   ·exact⟨2,l3,["a","b"],h,rfl,s48 _ _ c3,by unfold kU;simp⟩
   ·exact⟨3,l4,["b","a"],h,rfl,s58 _ _ c4,by unfold kU;simp⟩
   ·exact⟨4,l5,["a","a"],h,rfl,s68 _ _ c5,by unfold kU;simp⟩
   ·exact⟨5,l6,[],h,rfl,s78 _ _ c6,by unfold kU;simp⟩
   ·exact⟨6,l7,["a","b","b","a","a","b"],h,rfl,s8 _ _ c7,by unfold kU;simp⟩
  obtain⟨k,ln,zs,ek,hk,hln,hz⟩:=pick
  obtain⟨zb,z6⟩:=b6G zs hz
  refine⟨l8,_,_,.ref ln,rfl,rfl,aN.of c8,by rw[ek];exact kP hk,?_⟩
  intro vd hvd
  have s9:=aE.new (o:=.dK []) hvd
  have d9:upd H8 vd (.dK []) vd=some (.dK []):=aJ
  generalize upd H8 vd (.dK [])=H9 at s9 d9|-
  refine⟨sl,fun v0 hv0=> ?_⟩
  have sa:=aE.new (o:=.lst []) hv0
  have ca:upd H9 v0 (.lst []) v0=some (.lst []):=aJ
  generalize upd H9 v0 (.lst [])=Ha at sa ca|-
  refine⟨sl,fun v1 hv1=> ?_⟩
  have sb:=aE.new (o:=.lst []) hv1
  have cb:upd Ha v1 (.lst []) v1=some (.lst []):=aJ
  generalize upd Ha v1 (.lst [])=Hb at sb cb|-
  refine⟨sb _ _ (sa _ _ d9),[((.inr "a":aA),V.ref v0),((.inr "b":aA),V.ref v1)],rfl,(show 2<=15 by decide),?_⟩
  rw[b0a]
  have uc:bC vd Hb (upd Hb vd (.dK [((.inr "a":aA),V.ref v0),((.inr "b":aA),V.ref v1)])):=bC.upd
  have dc:upd Hb vd (.dK [((.inr "a":aA),V.ref v0),((.inr "b":aA),V.ref v1)]) vd=some (.dK [((.inr "a":aA),V.ref v0),((.inr "b":aA),V.ref v1)]):=aJ
  generalize upd Hb vd (.dK [((.inr "a":aA),V.ref v0),((.inr "b":aA),V.ref v1)])=Hc at uc dc|-
  have kc:∀{x:Addr} {o:HO},H8 x=some o->Hc x=some o:=fun e=>uc _ _ (bA e hvd) (sb _ _ (sa _ _ (s9 _ _ e)))
  have n0:∀{x:Addr} {o:HO},H8 x=some o->x≠v0/\x≠v1:=fun e=>⟨bA (s9 _ _ e) hv0,bA (sa _ _ (s9 _ _ e)) hv1⟩
  have n0d:v0≠vd:=fun y=>by rw[y,d9]at hv0;cases hv0
  have n1d:v1≠vd:=fun y=>by rw[y,sa _ _ d9]at hv1;cases hv1
  have n01:v0≠v1:=fun y=>by rw[<- y,ca]at hv1;cases hv1
  have fin:=qE Hc a ns m zs ln vd v0 v1 (some (.ref l8)) ⟨?_,hl,⟨kc hln,(n0 hln).1,(n0 hln).2⟩,kc (s08 _ _ t1),kc (s08 _ _ t2),by omega,by omega,zb,z6,dc,uc _ _ n0d (sb _ _ ca),uc _ _ n1d cb,n01⟩
  ·rw[em]at fin
   exact fin
  ·rcases hS with(h|⟨o,h⟩)|h
   ·exact .inl ⟨_,.inl rfl,kc (s08 _ _ h),(n0 (s08 _ _ h)).1,(n0 (s08 _ _ h)).2⟩
   ·exact .inl ⟨_,.inr ⟨o,rfl⟩,kc (s08 _ _ h),(n0 (s08 _ _ h)).1,(n0 (s08 _ _ h)).2⟩
   ·exact .inr fun H'=> .inr h
end
set_option autoImplicit true in
theorem b4C{PP:Params}{K:Fg}{h:Heap}{mg:Str->Option Value}(X:K.In h)(G:h.Ns mainGlobals mg)
 (a2k:W.nsIn K mainGlobals "len"=some none)
 (a4Y:W.nsIn K mainGlobals "isinstance"=some none)
 (a2y:W.nsIn K mainGlobals "int"=some none)
 (a4g:W.nsIn K mainGlobals "bool"=some none)
 (a4k:W.nsIn K mainGlobals "str"=some none)
 (a8W:W.nsIn K mainGlobals "all"=some none)
 (a2Y:W.nsIn K mainGlobals "range"=some none)
 (a4i:W.nsIn K mainGlobals "abs"=some none)
 (a7Y:W.nsIn K mainGlobals "list"=some none)
 (a41:W.nsIn K mainGlobals "tuple"=some none)
 (a6F:W.nsIn K mainGlobals "sum"=some none)
 (a7o:W.nsIn K mainGlobals "reversed"=some none)
 (a62:W.nsIn K mainGlobals "ValueError"=some none)
 {b4F:Tok}(a5R:W.nsIn K mainGlobals "LETTERS"=some (some (.str ("abcdefghijklmnopqrstuvwxyz":Str) b4F)))
 {b2p:Tok}(a4R:W.nsIn K mainGlobals "MOST_LETTERS"=some (some (.int 8 b2p)))
 {b5Y b7X:Tok}{b5m:Nat}(a28:W.nsIn K mainGlobals "ODD"=some (some (.ref a92)))(a71:K.lookup a92=some ⟨.type "tuple",od_ODD,.seq #[Value.str ("fault":Str) b5Y,Value.str ("odd":Str) b7X] b5m,sl_ODD⟩)
 {b4D:Tok}(a0S:W.nsIn K mainGlobals "MOST_ROWS"=some (some (.int 30 b4D)))
 {b25:Tok}(a3t:W.nsIn K mainGlobals "MOST_COLUMNS"=some (some (.int 8 b25)))
 {b3u:Tok}(a1E:W.nsIn K mainGlobals "MOST_TABLES"=some (some (.int 4 b3u)))
 {b7x b6y:Tok}{b4p:Nat}(a4Q:W.nsIn K mainGlobals "UNKNOWN"=some (some (.ref b1z)))(a7O:K.lookup b1z=some ⟨.type "tuple",od_UNKNOWN,.seq #[Value.str ("fault":Str) b7x,Value.str ("unknown":Str) b6y] b4p,sl_UNKNOWN⟩)
 {b3L:Tok}(a0Y:W.nsIn K mainGlobals "MOST_NAMES"=some (some (.int 6 b3L)))
 (a55:W.nsIn K mainGlobals "is_whole"=some (some (.ref b0A)))
 (a0Q:K.lookup b0A=some ⟨oc_is_whole,od_is_whole,.func (W.fnOf "is_whole" "is_whole" (aZ tU) (aV tU) (aI tU) .none kV_is_whole doc_is_whole pm_is_whole an_is_whole b4k ct_is_whole),sl_is_whole⟩)
 (a4N:W.codeIn K b4k "is_whole"=true)(oN:W.keepIn K (.ref b0A)=true)
 (a6h:W.nsIn K mainGlobals "is_number"=some (some (.ref a9P)))
 (a3I:K.lookup a9P=some ⟨oc_is_number,od_is_number,.func (W.fnOf "is_number" "is_number" (aZ vJ) (aV vJ) (aI vJ) .none kV_is_number doc_is_number pm_is_number an_is_number b7u ct_is_number),sl_is_number⟩)
 (a8n:W.codeIn K b7u "is_number"=true)(wD:W.keepIn K (.ref a9P)=true)
 (a0P:W.nsIn K mainGlobals "is_name"=some (some (.ref b1f)))
 (a00:K.lookup b1f=some ⟨oc_is_name,od_is_name,.func (W.fnOf "is_name" "is_name" (aZ xH) (aV xH) (aI xH) .none kV_is_name doc_is_name pm_is_name an_is_name b4c ct_is_name),sl_is_name⟩)
 (a0T:W.codeIn K b4c "is_name"=true)(jJ:W.keepIn K (.ref b1f)=true)
 (a6a:W.nsIn K mainGlobals "is_fault"=some (some (.ref a9U)))
 (a8I:K.lookup a9U=some ⟨oc_is_fault,od_is_fault,.func (W.fnOf "is_fault" "is_fault" (aZ vN) (aV vN) (aI vN) .none kV_is_fault doc_is_fault pm_is_fault an_is_fault b47 ct_is_fault),sl_is_fault⟩)
 (a3T:W.codeIn K b47 "is_fault"=true)(qO:W.keepIn K (.ref a9U)=true)
 (a3U:W.nsIn K mainGlobals "is_value"=some (some (.ref b1A)))
 (a5J:K.lookup b1A=some ⟨oc_is_value,od_is_value,.func (W.fnOf "is_value" "is_value" (aZ tF) (aV tF) (aI tF) .none kV_is_value doc_is_value pm_is_value an_is_value b5W ct_is_value),sl_is_value⟩)
 (a8S:W.codeIn K b5W "is_value"=true)(nS:W.keepIn K (.ref b1A)=true)
 (a3C:W.nsIn K mainGlobals "settled"=some (some (.ref b15)))
 (a8Y:K.lookup b15=some ⟨oc_settled,od_settled,.func (W.fnOf "settled" "settled" (aZ sW) (aV sW) (aI sW) .none kV_settled doc_settled pm_settled an_settled b4U ct_settled),sl_settled⟩)
 (a66:W.codeIn K b4U "settled"=true)(uP:W.keepIn K (.ref b15)=true)
 (a7H:W.nsIn K mainGlobals "check_size"=some (some (.ref b2i)))
 (a0E:K.lookup b2i=some ⟨oc_check_size,od_check_size,.func (W.fnOf "check_size" "check_size" (aZ uT) (aV uT) (aI uT) .none kV_check_size doc_check_size pm_check_size an_check_size b3I ct_check_size),sl_check_size⟩)
 (a72:W.codeIn K b3I "check_size"=true)(qU:W.keepIn K (.ref b2i)=true)
 (a3F:W.nsIn K mainGlobals "check_place"=some (some (.ref a90)))
 (a5e:K.lookup a90=some ⟨oc_check_place,od_check_place,.func (W.fnOf "check_place" "check_place" (aZ sT) (aV sT) (aI sT) .none kV_check_place doc_check_place pm_check_place an_check_place b4n ct_check_place),sl_check_place⟩)
 (a1d:W.codeIn K b4n "check_place"=true)(mL:W.keepIn K (.ref a90)=true)
 (a5L:W.nsIn K mainGlobals "check_value"=some (some (.ref b0h)))
 (a2u:K.lookup b0h=some ⟨oc_check_value,od_check_value,.func (W.fnOf "check_value" "check_value" (aZ rR) (aV rR) (aI rR) .none kV_check_value doc_check_value pm_check_value an_check_value b4H ct_check_value),sl_check_value⟩)
 (a8p:W.codeIn K b4H "check_value"=true)(sI:W.keepIn K (.ref b0h)=true)
 (a2q:W.nsIn K mainGlobals "check_values"=some (some (.ref a9n)))
 (a4J:K.lookup a9n=some ⟨oc_check_values,od_check_values,.func (W.fnOf "check_values" "check_values" (aZ wM) (aV wM) (aI wM) .none kV_check_values doc_check_values pm_check_values an_check_values b7q ct_check_values),sl_check_values⟩)
 (a65:W.codeIn K b7q "check_values"=true)(pY:W.keepIn K (.ref a9n)=true)
 (a6z:W.nsIn K mainGlobals "ring_from"=some (some (.ref b00)))
 (a5U:K.lookup b00=some ⟨oc_ring_from,od_ring_from,.func (W.fnOf "ring_from" "ring_from" (aZ rW) (aV rW) (aI rW) .none kV_ring_from doc_ring_from pm_ring_from an_ring_from b37 ct_ring_from),sl_ring_from⟩)
 (a4n:W.codeIn K b37 "ring_from"=true)(wS:W.keepIn K (.ref b00)=true)
 (a6J:W.nsIn K mainGlobals "way_to"=some (some (.ref b13)))
 (a8b:K.lookup b13=some ⟨oc_way_to,od_way_to,.func (W.fnOf "way_to" "way_to" (aZ sX) (aV sX) (aI sX) .none kV_way_to doc_way_to pm_way_to an_way_to b3A ct_way_to),sl_way_to⟩)
 (a2U:W.codeIn K b3A "way_to"=true)(rT:W.keepIn K (.ref b13)=true)
 (a89:W.nsIn K mainGlobals "check_name"=some (some (.ref b1T)))
 (a0J:K.lookup b1T=some ⟨oc_check_name,od_check_name,.func (W.fnOf "check_name" "check_name" (aZ wE) (aV wE) (aI wE) .none kV_check_name doc_check_name pm_check_name an_check_name b6m ct_check_name),sl_check_name⟩)
 (a3A:W.codeIn K b6m "check_name"=true)(tO:W.keepIn K (.ref b1T)=true)
 (a2d:W.nsIn K mainGlobals "checked_names"=some (some (.ref a9t)))
 (a8l:K.lookup a9t=some ⟨oc_checked_names,od_checked_names,.func (W.fnOf "checked_names" "checked_names" (aZ tZ) (aV tZ) (aI tZ) .none kV_checked_names doc_checked_names pm_checked_names an_checked_names b3v ct_checked_names),sl_checked_names⟩)
 (a6V:W.codeIn K b3v "checked_names"=true)(sF:W.keepIn K (.ref a9t)=true)
 (a7W:W.nsIn K mainGlobals "each_once"=some (some (.ref a9z)))
 (a54:K.lookup a9z=some ⟨oc_each_once,od_each_once,.func (W.fnOf "each_once" "each_once" (aZ rM) (aV rM) (aI rM) .none kV_each_once doc_each_once pm_each_once an_each_once b2r ct_each_once),sl_each_once⟩)
 (a4G:W.codeIn K b2r "each_once"=true)(zM:W.keepIn K (.ref a9z)=true)
 (a31:W.nsIn K mainGlobals "look_in_turn"=some (some (.ref b14)))
 (a6O:K.lookup b14=some ⟨oc_look_in_turn,od_look_in_turn,.func (W.fnOf "look_in_turn" "look_in_turn" (aZ wJ) (aV wJ) (aI wJ) .none kV_look_in_turn doc_look_in_turn pm_look_in_turn an_look_in_turn b4j ct_look_in_turn),sl_look_in_turn⟩)
 (a2D:W.codeIn K b4j "look_in_turn"=true)(uW:W.keepIn K (.ref b14)=true)
 (a6A:W.nsIn K mainGlobals "_law_mixed"=some (some (.ref a9w)))
 (a0D:K.lookup a9w=some ⟨oc_law_mixed,od_law_mixed,.func (W.fnOf "_law_mixed" "_law_mixed" (aZ nL) (aV nL) (aI nL) .none kV_law_mixed doc_law_mixed pm_law_mixed an_law_mixed b4V ct_law_mixed),sl_law_mixed⟩)
 (a7a:W.codeIn K b4V "_law_mixed"=true)(mU:W.keepIn K (.ref a9w)=true)
 (a1m:W.nsIn K mainGlobals "_law_value"=some (some (.ref a9A)))
 (a6E:K.lookup a9A=some ⟨oc_law_value,od_law_value,.func (W.fnOf "_law_value" "_law_value" (aZ uZ) (aV uZ) (aI uZ) .none kV_law_value doc_law_value pm_law_value an_law_value b3i ct_law_value),sl_law_value⟩)
 (a5d:W.codeIn K b3i "_law_value"=true)(oZ:W.keepIn K (.ref a9A)=true)
 (a0u:W.nsIn K mainGlobals "_law_noted"=some (some (.ref b1H)))
 (a3p:K.lookup b1H=some ⟨oc_law_noted,od_law_noted,.func (W.fnOf "_law_noted" "_law_noted" (aZ uO) (aV uO) (aI uO) .none kV_law_noted doc_law_noted pm_law_noted an_law_noted b7Q ct_law_noted),sl_law_noted⟩)
 (a5N:W.codeIn K b7Q "_law_noted"=true)(sN:W.keepIn K (.ref b1H)=true)
 (a0F:W.nsIn K mainGlobals "_law_list"=some (some (.ref b06)))
 (a7v:K.lookup b06=some ⟨oc_law_list,od_law_list,.func (W.fnOf "_law_list" "_law_list" (aZ sP) (aV sP) (aI sP) .none kV_law_list doc_law_list pm_law_list an_law_list b7h ct_law_list),sl_law_list⟩)
 (a06:W.codeIn K b7h "_law_list"=true)(vQ:W.keepIn K (.ref b06)=true)
 (a4e:W.nsIn K mainGlobals "_law_looked"=some (some (.ref b0d)))
 (a53:K.lookup b0d=some ⟨oc_law_looked,od_law_looked,.func (W.fnOf "_law_looked" "_law_looked" (aZ nV) (aV nV) (aI nV) .none kV_law_looked doc_law_looked pm_law_looked an_law_looked b7k ct_law_looked),sl_law_looked⟩)
 (a3w:W.codeIn K b7k "_law_looked"=true)(uQ:W.keepIn K (.ref b0d)=true)
 (a5E:W.nsIn K mainGlobals "_law_put"=some (some (.ref b1c)))
 (a4j:K.lookup b1c=some ⟨oc_law_put,od_law_put,.func (W.fnOf "_law_put" "_law_put" (aZ nF) (aV nF) (aI nF) .none kV_law_put doc_law_put pm_law_put an_law_put b40 ct_law_put),sl_law_put⟩)
 (a5K:W.codeIn K b40 "_law_put"=true)(vG:W.keepIn K (.ref b1c)=true)
 (yZ:W.nsIn K mainGlobals "law"=some (some (.ref b0w)))
 (zS:K.lookup b0w=some ⟨oc_law,od_law,.func (W.fnOf "law" "law" (aZ eX) (aV eX) (aI eX) .none kV_law doc_law pm_law an_law (.ref b0l) ct_law),sl_law⟩)
 (xP:W.codeIn K (.ref b0l) "law"=true)(a0j:W.keepIn K (.ref b0w)=true)
 {b1I:Array Value}(a3k:K.lookup b0l=some ⟨wo_law,wd_law,.fields b1I,ws_law⟩)(a4A:b1I[11]?=some (.ref b4a))
 (notabs:W.noTabs K=true)
 (a6P:W.nsIn K mainGlobals "Table"=some (some (.ref fF)))
 (a68:W.plainGet K fF Str.empty=true)(a0p:W.hasDictIn K fF=true)(a7T:W.plainOver K fF=true)(a6Q:W.findIn K (.ref fF) "__setattr__"=some (some (.builtin "object.__setattr__")))(a4t:W.makesIn K fF=true)(a7w:W.keepIn K (.ref fF)=true)(a8o:W.findIn K (.ref fF) "__class__"=some (some (.builtin "object.__class__")))
 (a1B:W.findIn K (.ref fF) "row_numbers"=some none)
 (a63:W.findIn K (.ref fF) "fresh_number"=some none)
 (a1S:W.findIn K (.ref fF) "kept"=some none)
 (a5S:W.findIn K (.ref fF) "__init__"=some (some (.ref a3J)))(a2A:W.isFn K (.ref a3J)=true)
 (a3o:K.lookup a3J=some ⟨oc_Table_init,od_Table_init,.func (W.fnOf "__init__" "Table.__init__" (aZ rO) (aV rO) (aI rO) .none kV_Table_init doc_Table_init pm_Table_init an_Table_init b5h ct_Table_init),sl_Table_init⟩)
 (a6o:W.codeIn K b5h "Table.__init__"=true)(vT:W.keepIn K (.ref a3J)=true)
 (a3y:W.findIn K (.ref fF) "many"=some (some (.ref a6r)))(a2E:W.isFn K (.ref a6r)=true)
 (a2j:K.lookup a6r=some ⟨oc_Table_many,od_Table_many,.func (W.fnOf "many" "Table.many" (aZ wK) (aV wK) (aI wK) .none kV_Table_many doc_Table_many pm_Table_many an_Table_many b6i ct_Table_many),sl_Table_many⟩)
 (a9c:W.codeIn K b6i "Table.many"=true)(jU:W.keepIn K (.ref a6r)=true)
 (a7G:W.findIn K (.ref fF) "numbers"=some (some (.ref a3W)))(a7D:W.isFn K (.ref a3W)=true)
 (a8G:K.lookup a3W=some ⟨oc_Table_numbers,od_Table_numbers,.func (W.fnOf "numbers" "Table.numbers" (aZ a0b) (aV a0b) (aI a0b) .none kV_Table_numbers doc_Table_numbers pm_Table_numbers an_Table_numbers b6Z ct_Table_numbers),sl_Table_numbers⟩)
 (a7P:W.codeIn K b6Z "Table.numbers"=true)(a85:W.keepIn K (.ref a3W)=true)
 (a4v:W.findIn K (.ref fF) "columns"=some (some (.ref a1y)))(a5Y:W.isFn K (.ref a1y)=true)
 (a5B:K.lookup a1y=some ⟨oc_Table_columns,od_Table_columns,.func (W.fnOf "columns" "Table.columns" (aZ xS) (aV xS) (aI xS) .none kV_Table_columns doc_Table_columns pm_Table_columns an_Table_columns b4Q ct_Table_columns),sl_Table_columns⟩)
 (a4B:W.codeIn K b4Q "Table.columns"=true)(a35:W.keepIn K (.ref a1y)=true)
 (a5h:W.findIn K (.ref fF) "give"=some (some (.ref a5W)))(a5o:W.isFn K (.ref a5W)=true)
 (a9g:K.lookup a5W=some ⟨oc_Table_give,od_Table_give,.func (W.fnOf "give" "Table.give" (aZ nT) (aV nT) (aI nT) .none kV_Table_give doc_Table_give pm_Table_give an_Table_give b7y ct_Table_give),sl_Table_give⟩)
 (a1s:W.codeIn K b7y "Table.give"=true)(vO:W.keepIn K (.ref a5W)=true)
 (a0O:W.findIn K (.ref fF) "drop"=some (some (.ref a7z)))(a0R:W.isFn K (.ref a7z)=true)
 (a67:K.lookup a7z=some ⟨oc_Table_drop,od_Table_drop,.func (W.fnOf "drop" "Table.drop" (aZ zY) (aV zY) (aI zY) .none kV_Table_drop doc_Table_drop pm_Table_drop an_Table_drop b45 ct_Table_drop),sl_Table_drop⟩)
 (a39:W.codeIn K b45 "Table.drop"=true)(a4b:W.keepIn K (.ref a7z)=true)
 (a5p:W.findIn K (.ref fF) "put"=some (some (.ref a2O)))(a0Z:W.isFn K (.ref a2O)=true)
 (a11:K.lookup a2O=some ⟨oc_Table_put,od_Table_put,.func (W.fnOf "put" "Table.put" (aZ wY) (aV wY) (aI wY) .none kV_Table_put doc_Table_put pm_Table_put an_Table_put b5u ct_Table_put),sl_Table_put⟩)
 (a7S:W.codeIn K b5u "Table.put"=true)(vP:W.keepIn K (.ref a2O)=true)
 (a5n:W.findIn K (.ref fF) "at"=some (some (.ref a47)))(a8r:W.isFn K (.ref a47)=true)
 (a19:K.lookup a47=some ⟨oc_Table_at,od_Table_at,.func (W.fnOf "at" "Table.at" (aZ uV) (aV uV) (aI uV) .none kV_Table_at doc_Table_at pm_Table_at an_Table_at b22 ct_Table_at),sl_Table_at⟩)
 (a2T:W.codeIn K b22 "Table.at"=true)(qN:W.keepIn K (.ref a47)=true)
 (a80:W.findIn K (.ref fF) "number_at"=some (some (.ref a77)))(a0I:W.isFn K (.ref a77)=true)
 (a2o:K.lookup a77=some ⟨oc_Table_number_at,od_Table_number_at,.func (W.fnOf "number_at" "Table.number_at" (aZ uK) (aV uK) (aI uK) .none kV_Table_number_at doc_Table_number_at pm_Table_number_at an_Table_number_at b60 ct_Table_number_at),sl_Table_number_at⟩)
 (a1M:W.codeIn K b60 "Table.number_at"=true)(vD:W.keepIn K (.ref a77)=true)
 (a6b:W.findIn K (.ref fF) "check_column"=some (some (.ref a6u)))(a8T:W.isFn K (.ref a6u)=true)
 (a3l:K.lookup a6u=some ⟨oc_Table_check_column,od_Table_check_column,.func (W.fnOf "check_column" "Table.check_column" (aZ uN) (aV uN) (aI uN) .none kV_Table_check_column doc_Table_check_column pm_Table_check_column an_Table_check_column b38 ct_Table_check_column),sl_Table_check_column⟩)
 (a0G:W.codeIn K b38 "Table.check_column"=true)(pL:W.keepIn K (.ref a6u)=true)
 (a3V:W.nsIn K mainGlobals "Board"=some (some (.ref gB)))
 (a33:W.plainGet K gB Str.empty=true)(a2p:W.hasDictIn K gB=true)(a9f:W.plainOver K gB=true)(a6Z:W.findIn K (.ref gB) "__setattr__"=some (some (.builtin "object.__setattr__")))(a3b:W.makesIn K gB=true)(a4s:W.keepIn K (.ref gB)=true)(a32:W.findIn K (.ref gB) "__class__"=some (some (.builtin "object.__class__")))
 (a1D:W.findIn K (.ref gB) "given"=some none)
 (a3Q:W.findIn K (.ref gB) "rules"=some none)
 (a5G:W.findIn K (.ref gB) "memory"=some none)
 (a0A:W.findIn K (.ref gB) "order"=some none)
 (a3f:W.findIn K (.ref gB) "__init__"=some (some (.ref a56)))(a4a:W.isFn K (.ref a56)=true)
 (a3s:K.lookup a56=some ⟨oc_Board_init,od_Board_init,.func (W.fnOf "__init__" "Board.__init__" (aZ tT) (aV tT) (aI tT) .none kV_Board_init doc_Board_init pm_Board_init an_Board_init b6A ct_Board_init),sl_Board_init⟩)
 (a8V:W.codeIn K b6A "Board.__init__"=true)(uS:W.keepIn K (.ref a56)=true)
 (a6T:W.findIn K (.ref gB) "has_column"=some (some (.ref a4r)))(a5C:W.isFn K (.ref a4r)=true)
 (a5Q:K.lookup a4r=some ⟨oc_Board_has_column,od_Board_has_column,.func (W.fnOf "has_column" "Board.has_column" (aZ tQ) (aV tQ) (aI tQ) .none kV_Board_has_column doc_Board_has_column pm_Board_has_column an_Board_has_column b7r ct_Board_has_column),sl_Board_has_column⟩)
 (a7q:W.codeIn K b7r "Board.has_column"=true)(qD:W.keepIn K (.ref a4r)=true)
 (a7j:W.findIn K (.ref gB) "content"=some (some (.ref a88)))(a2e:W.isFn K (.ref a88)=true)
 (a49:K.lookup a88=some ⟨oc_Board_content,od_Board_content,.func (W.fnOf "content" "Board.content" (aZ tK) (aV tK) (aI tK) .none kV_Board_content doc_Board_content pm_Board_content an_Board_content b3N ct_Board_content),sl_Board_content⟩)
 (a1n:W.codeIn K b3N "Board.content"=true)(sC:W.keepIn K (.ref a88)=true)
 (a6W:W.findIn K (.ref gB) "set_column"=some (some (.ref a7U)))(a5s:W.isFn K (.ref a7U)=true)
 (a4d:K.lookup a7U=some ⟨oc_Board_set_column,od_Board_set_column,.func (W.fnOf "set_column" "Board.set_column" (aZ wA) (aV wA) (aI wA) .none kV_Board_set_column doc_Board_set_column pm_Board_set_column an_Board_set_column b2I ct_Board_set_column),sl_Board_set_column⟩)
 (a5O:W.codeIn K b2I "Board.set_column"=true)(a64:W.keepIn K (.ref a7U)=true)
 (a3x:W.findIn K (.ref gB) "empty_column"=some (some (.ref a6B)))(a1U:W.isFn K (.ref a6B)=true)
 (a4L:K.lookup a6B=some ⟨oc_Board_empty_column,od_Board_empty_column,.func (W.fnOf "empty_column" "Board.empty_column" (aZ vI) (aV vI) (aI vI) .none kV_Board_empty_column doc_Board_empty_column pm_Board_empty_column an_Board_empty_column b4l ct_Board_empty_column),sl_Board_empty_column⟩)
 (a3i:W.codeIn K b4l "Board.empty_column"=true)(qI:W.keepIn K (.ref a6B)=true)
 (a2F:W.findIn K (.ref gB) "outcome"=some (some (.ref a1u)))(a6K:W.isFn K (.ref a1u)=true)
 (a22:K.lookup a1u=some ⟨oc_Board_outcome,od_Board_outcome,.func (W.fnOf "outcome" "Board.outcome" (aZ nX) (aV nX) (aI nX) .none kV_Board_outcome doc_Board_outcome pm_Board_outcome an_Board_outcome b5L ct_Board_outcome),sl_Board_outcome⟩)
 (a8J:W.codeIn K b5L "Board.outcome"=true)(vL:W.keepIn K (.ref a1u)=true)
 (a4m:W.nsIn K mainGlobals "TableTold"=some (some (.ref iT)))
 (a8k:W.plainGet K iT Str.empty=true)(a2K:W.hasDictIn K iT=true)(a5M:W.plainOver K iT=true)(a25:W.findIn K (.ref iT) "__setattr__"=some (some (.builtin "object.__setattr__")))(a08:W.makesIn K iT=true)(a7N:W.keepIn K (.ref iT)=true)(a2G:W.findIn K (.ref iT) "__class__"=some (some (.builtin "object.__class__")))
 (a5X:W.findIn K (.ref iT) "boards"=some none)
 (a13:W.findIn K (.ref iT) "name"=some none)
 (a6p:W.findIn K (.ref iT) "size"=some none)
 (a7R:W.findIn K (.ref iT) "__init__"=some (some (.ref a1r)))(a1w:W.isFn K (.ref a1r)=true)
 (a7b:K.lookup a1r=some ⟨oc_TableTold_init,od_TableTold_init,.func (W.fnOf "__init__" "TableTold.__init__" (aZ wZ) (aV wZ) (aI wZ) .none kV_TableTold_init doc_TableTold_init pm_TableTold_init an_TableTold_init b6O ct_TableTold_init),sl_TableTold_init⟩)
 (a83:W.codeIn K b6O "TableTold.__init__"=true)(sQ:W.keepIn K (.ref a1r)=true)
 (a8a:W.findIn K (.ref iT) "take"=some (some (.ref a1V)))(a4H:W.isFn K (.ref a1V)=true)
 (a37:K.lookup a1V=some ⟨oc_TableTold_take,od_TableTold_take,.func (W.fnOf "take" "TableTold.take" (aZ vB) (aV vB) (aI vB) .none kV_TableTold_take doc_TableTold_take pm_TableTold_take an_TableTold_take b7V ct_TableTold_take),sl_TableTold_take⟩)
 (a5z:W.codeIn K b7V "TableTold.take"=true)(wL:W.keepIn K (.ref a1V)=true)
 (a3h:W.nsIn K mainGlobals "ColumnSet"=some (some (.ref iI)))
 (a1T:W.plainGet K iI Str.empty=true)(a0C:W.hasDictIn K iI=true)(a5T:W.plainOver K iI=true)(a5P:W.findIn K (.ref iI) "__setattr__"=some (some (.builtin "object.__setattr__")))(a1L:W.makesIn K iI=true)(a1x:W.keepIn K (.ref iI)=true)(a3L:W.findIn K (.ref iI) "__class__"=some (some (.builtin "object.__class__")))
 (a84:W.findIn K (.ref iI) "board"=some none)
 (a0v:W.findIn K (.ref iI) "column"=some none)
 (a5F:W.findIn K (.ref iI) "after"=some none)
 (a6X:W.findIn K (.ref iI) "before"=some none)
 (a8O:W.findIn K (.ref iI) "__init__"=some (some (.ref a7i)))(a43:W.isFn K (.ref a7i)=true)
 (a6U:K.lookup a7i=some ⟨oc_ColumnSet_init,od_ColumnSet_init,.func (W.fnOf "__init__" "ColumnSet.__init__" (aZ uR) (aV uR) (aI uR) .none kV_ColumnSet_init doc_ColumnSet_init pm_ColumnSet_init an_ColumnSet_init b3K ct_ColumnSet_init),sl_ColumnSet_init⟩)
 (a7g:W.codeIn K b3K "ColumnSet.__init__"=true)(oW:W.keepIn K (.ref a7i)=true)
 (a0N:W.findIn K (.ref iI) "take"=some (some (.ref a4q)))(a8B:W.isFn K (.ref a4q)=true)
 (a2t:K.lookup a4q=some ⟨oc_ColumnSet_take,od_ColumnSet_take,.func (W.fnOf "take" "ColumnSet.take" (aZ uY) (aV uY) (aI uY) .none kV_ColumnSet_take doc_ColumnSet_take pm_ColumnSet_take an_ColumnSet_take b4d ct_ColumnSet_take),sl_ColumnSet_take⟩)
 (a2R:W.codeIn K b4d "ColumnSet.take"=true)(qW:W.keepIn K (.ref a4q)=true)
 (a15:W.nsIn K mainGlobals "ValuePut"=some (some (.ref gU)))
 (a1b:W.plainGet K gU Str.empty=true)(a3D:W.hasDictIn K gU=true)(a1t:W.plainOver K gU=true)(a6c:W.findIn K (.ref gU) "__setattr__"=some (some (.builtin "object.__setattr__")))(a8g:W.makesIn K gU=true)(a3S:W.keepIn K (.ref gU)=true)(a8u:W.findIn K (.ref gU) "__class__"=some (some (.builtin "object.__class__")))
 (a8E:W.findIn K (.ref gU) "board"=some none)
 (a7A:W.findIn K (.ref gU) "column"=some none)
 (a8P:W.findIn K (.ref gU) "place"=some none)
 (a5g:W.findIn K (.ref gU) "after"=some none)
 (a57:W.findIn K (.ref gU) "before"=some none)
 (a9a:W.findIn K (.ref gU) "__init__"=some (some (.ref a12)))(a0w:W.isFn K (.ref a12)=true)
 (a5j:K.lookup a12=some ⟨oc_ValuePut_init,od_ValuePut_init,.func (W.fnOf "__init__" "ValuePut.__init__" (aZ uJ) (aV uJ) (aI uJ) .none kV_ValuePut_init doc_ValuePut_init pm_ValuePut_init an_ValuePut_init b2K ct_ValuePut_init),sl_ValuePut_init⟩)
 (a40:W.codeIn K b2K "ValuePut.__init__"=true)(wI:W.keepIn K (.ref a12)=true)
 (a1a:W.findIn K (.ref gU) "take"=some (some (.ref a2S)))(a6G:W.isFn K (.ref a2S)=true)
 (a2z:K.lookup a2S=some ⟨oc_ValuePut_take,od_ValuePut_take,.func (W.fnOf "take" "ValuePut.take" (aZ vX) (aV vX) (aI vX) .none kV_ValuePut_take doc_ValuePut_take pm_ValuePut_take an_ValuePut_take b7U ct_ValuePut_take),sl_ValuePut_take⟩)
 (a4h:W.codeIn K b7U "ValuePut.take"=true)(rS:W.keepIn K (.ref a2S)=true)
 (a5x:W.nsIn K mainGlobals "Trial"=some (some (.ref jB)))
 (a6g:W.plainGet K jB Str.empty=true)(a3g:W.hasDictIn K jB=true)(a1p:W.plainOver K jB=true)(a38:W.findIn K (.ref jB) "__setattr__"=some (some (.builtin "object.__setattr__")))(a0H:W.makesIn K jB=true)(a2Q:W.keepIn K (.ref jB)=true)(a3X:W.findIn K (.ref jB) "__class__"=some (some (.builtin "object.__class__")))
 (a78:W.findIn K (.ref jB) "finder"=some none)
 (a8j:W.findIn K (.ref jB) "looked"=some none)
 (a4y:W.findIn K (.ref jB) "lacking"=some none)
 (a7h:W.findIn K (.ref jB) "__init__"=some (some (.ref a3v)))(a2g:W.isFn K (.ref a3v)=true)
 (a7y:K.lookup a3v=some ⟨oc_Trial_init,od_Trial_init,.func (W.fnOf "__init__" "Trial.__init__" (aZ wQ) (aV wQ) (aI wQ) .none kV_Trial_init doc_Trial_init pm_Trial_init an_Trial_init b2S ct_Trial_init),sl_Trial_init⟩)
 (a09:W.codeIn K b2S "Trial.__init__"=true)(tL:W.keepIn K (.ref a3v)=true)
 (a4w:W.findIn K (.ref jB) "look"=some (some (.ref a6v)))(a8Z:W.isFn K (.ref a6v)=true)
 (a07:K.lookup a6v=some ⟨oc_Trial_look,od_Trial_look,.func (W.fnOf "look" "Trial.look" (aZ vS) (aV vS) (aI vS) .none kV_Trial_look doc_Trial_look pm_Trial_look an_Trial_look b7F ct_Trial_look),sl_Trial_look⟩)
 (a86:W.codeIn K b7F "Trial.look"=true)(a2n:W.keepIn K (.ref a6v)=true)
 (yT:W.nsIn K mainGlobals "Finder"=some (some (.ref gJ)))
 (a4c:W.plainGet K gJ Str.empty=true)(a8c:W.hasDictIn K gJ=true)(a5a:W.plainOver K gJ=true)(a8L:W.findIn K (.ref gJ) "__setattr__"=some (some (.builtin "object.__setattr__")))(a18:W.makesIn K gJ=true)(a1i:W.keepIn K (.ref gJ)=true)(a5l:W.findIn K (.ref gJ) "__class__"=some (some (.builtin "object.__class__")))
 (a2C:W.findIn K (.ref gJ) "boards"=some none)
 (a7X:W.findIn K (.ref gJ) "found"=some none)
 (a3E:W.findIn K (.ref gJ) "looked"=some none)
 (a45:W.findIn K (.ref gJ) "__init__"=some (some (.ref a7n)))(a2Z:W.isFn K (.ref a7n)=true)
 (a4E:K.lookup a7n=some ⟨oc_Finder_init,od_Finder_init,.func (W.fnOf "__init__" "Finder.__init__" (aZ uI) (aV uI) (aI uI) .none kV_Finder_init doc_Finder_init pm_Finder_init an_Finder_init b2U ct_Finder_init),sl_Finder_init⟩)
 (a8C:W.codeIn K b2U "Finder.__init__"=true)(pW:W.keepIn K (.ref a7n)=true)
 (a01:W.findIn K (.ref gJ) "value_of"=some (some (.ref a8h)))(a3Z:W.isFn K (.ref a8h)=true)
 (a6s:K.lookup a8h=some ⟨oc_Finder_value_of,od_Finder_value_of,.func (W.fnOf "value_of" "Finder.value_of" (aZ uG) (aV uG) (aI uG) .none kV_Finder_value_of doc_Finder_value_of pm_Finder_value_of an_Finder_value_of b6F ct_Finder_value_of),sl_Finder_value_of⟩)
 (a6m:W.codeIn K b6F "Finder.value_of"=true)(a8m:W.keepIn K (.ref a8h)=true)
 (a42:W.findIn K (.ref gJ) "attempt"=some (some (.ref a7F)))(a5r:W.isFn K (.ref a7F)=true)
 (a3d:K.lookup a7F=some ⟨oc_Finder_attempt,od_Finder_attempt,.func (W.fnOf "attempt" "Finder.attempt" (aZ tG) (aV tG) (aI tG) .none kV_Finder_attempt doc_Finder_attempt pm_Finder_attempt an_Finder_attempt b3d ct_Finder_attempt),sl_Finder_attempt⟩)
 (a7K:W.codeIn K b3d "Finder.attempt"=true)(a4p:W.keepIn K (.ref a7F)=true)
 (yH:W.findIn K (.ref gJ) "gathered"=some (some (.ref a1K)))(yE:W.isFn K (.ref a1K)=true)
 (a0h:K.lookup a1K=some ⟨oc_Finder_gathered,od_Finder_gathered,.func (W.fnOf "gathered" "Finder.gathered" (aZ fD) (aV fD) (aI fD) .none kV_Finder_gathered doc_Finder_gathered pm_Finder_gathered an_Finder_gathered (.ref a79) ct_Finder_gathered),sl_Finder_gathered⟩)
 (xQ:W.codeIn K (.ref a79) "Finder.gathered"=true)(a0c:W.keepIn K (.ref a1K)=true)
 {b0f:Array Value}(b1O:K.lookup a79=some ⟨wo_Finder_gathered,wd_Finder_gathered,.fields b0f,ws_Finder_gathered⟩)(a9k:b0f[11]?=some (.ref a6w))(a75:W.codeHdIn K a79 a6w=true)(wP:h.get? a6w=some (W.tabObj #[]))
 (a7I:W.findIn K (.ref gJ) "settle"=some (some (.ref a2P)))(a1Y:W.isFn K (.ref a2P)=true)
 (a9d:K.lookup a2P=some ⟨oc_Finder_settle,od_Finder_settle,.func (W.fnOf "settle" "Finder.settle" (aZ sK) (aV sK) (aI sK) .none kV_Finder_settle doc_Finder_settle pm_Finder_settle an_Finder_settle b5I ct_Finder_settle),sl_Finder_settle⟩)
 (a6x:W.codeIn K b5I "Finder.settle"=true)(a21:W.keepIn K (.ref a2P)=true)
 (a8q:W.findIn K (.ref gJ) "knows"=some (some (.ref a8A)))(a1N:W.isFn K (.ref a8A)=true)
 (a2a:K.lookup a8A=some ⟨oc_Finder_knows,od_Finder_knows,.func (W.fnOf "knows" "Finder.knows" (aZ uU) (aV uU) (aI uU) .none kV_Finder_knows doc_Finder_knows pm_Finder_knows an_Finder_knows b5K ct_Finder_knows),sl_Finder_knows⟩)
 (a36:W.codeIn K b5K "Finder.knows"=true)(a7k:W.keepIn K (.ref a8A)=true)
 (a69:W.nsIn K mainGlobals "Sheet"=some (some (.ref eD)))
 (a1g:W.plainGet K eD Str.empty=true)(a5u:W.hasDictIn K eD=true)(a2m:W.plainOver K eD=true)(a7f:W.findIn K (.ref eD) "__setattr__"=some (some (.builtin "object.__setattr__")))(a6t:W.makesIn K eD=true)(a4Z:W.keepIn K (.ref eD)=true)(a70:W.findIn K (.ref eD) "__class__"=some (some (.builtin "object.__class__")))
 (a2h:W.findIn K (.ref eD) "boards"=some none)
 (a1e:W.findIn K (.ref eD) "changes"=some none)
 (a4C:W.findIn K (.ref eD) "finder"=some none)
 (a1X:W.findIn K (.ref eD) "__init__"=some (some (.ref a0y)))(a4U:W.isFn K (.ref a0y)=true)
 (a4T:K.lookup a0y=some ⟨oc_Sheet_init,od_Sheet_init,.func (W.fnOf "__init__" "Sheet.__init__" (aZ tH) (aV tH) (aI tH) .none kV_Sheet_init doc_Sheet_init pm_Sheet_init an_Sheet_init b5c ct_Sheet_init),sl_Sheet_init⟩)
 (a60:W.codeIn K b5c "Sheet.__init__"=true)(vU:W.keepIn K (.ref a0y)=true)
 (a8R:W.findIn K (.ref eD) "table"=some (some (.ref a9e)))(a6L:W.isFn K (.ref a9e)=true)
 (a4D:K.lookup a9e=some ⟨oc_Sheet_table,od_Sheet_table,.func (W.fnOf "table" "Sheet.table" (aZ uH) (aV uH) (aI uH) .none kV_Sheet_table doc_Sheet_table pm_Sheet_table an_Sheet_table b68 ct_Sheet_table),sl_Sheet_table⟩)
 (a5Z:W.codeIn K b68 "Sheet.table"=true)(tS:W.keepIn K (.ref a9e)=true)
 (a6f:W.findIn K (.ref eD) "give"=some (some (.ref a2b)))(a0K:W.isFn K (.ref a2b)=true)
 (a5v:K.lookup a2b=some ⟨oc_Sheet_give,od_Sheet_give,.func (W.fnOf "give" "Sheet.give" (aZ sM) (aV sM) (aI sM) .none kV_Sheet_give doc_Sheet_give pm_Sheet_give an_Sheet_give b7z ct_Sheet_give),sl_Sheet_give⟩)
 (a20:W.codeIn K b7z "Sheet.give"=true)(sG:W.keepIn K (.ref a2b)=true)
 (a5b:W.findIn K (.ref eD) "rule"=some (some (.ref a34)))(a2M:W.isFn K (.ref a34)=true)
 (a7t:K.lookup a34=some ⟨oc_Sheet_rule,od_Sheet_rule,.func (W.fnOf "rule" "Sheet.rule" (aZ wC) (aV wC) (aI wC) .none kV_Sheet_rule doc_Sheet_rule pm_Sheet_rule an_Sheet_rule b26 ct_Sheet_rule),sl_Sheet_rule⟩)
 (a3r:W.codeIn K b26 "Sheet.rule"=true)(a5f:W.keepIn K (.ref a34)=true)
 (a8v:W.findIn K (.ref eD) "put"=some (some (.ref a3q)))(a2H:W.isFn K (.ref a3q)=true)
 (a2r:K.lookup a3q=some ⟨oc_Sheet_put,od_Sheet_put,.func (W.fnOf "put" "Sheet.put" (aZ tJ) (aV tJ) (aI tJ) .none kV_Sheet_put doc_Sheet_put pm_Sheet_put an_Sheet_put b2Z ct_Sheet_put),sl_Sheet_put⟩)
 (a0r:W.codeIn K b2Z "Sheet.put"=true)(vV:W.keepIn K (.ref a3q)=true)
 (a03:W.findIn K (.ref eD) "tables"=some (some (.ref a8y)))(a82:W.isFn K (.ref a8y)=true)
 (a1Z:K.lookup a8y=some ⟨oc_Sheet_tables,od_Sheet_tables,.func (W.fnOf "tables" "Sheet.tables" (aZ xN) (aV xN) (aI xN) .none kV_Sheet_tables doc_Sheet_tables pm_Sheet_tables an_Sheet_tables b6k ct_Sheet_tables),sl_Sheet_tables⟩)
 (a1j:W.codeIn K b6k "Sheet.tables"=true)(a3R:W.keepIn K (.ref a8y)=true)
 (a3a:W.findIn K (.ref eD) "columns"=some (some (.ref a7c)))(a1J:W.isFn K (.ref a7c)=true)
 (a4W:K.lookup a7c=some ⟨oc_Sheet_columns,od_Sheet_columns,.func (W.fnOf "columns" "Sheet.columns" (aZ xF) (aV xF) (aI xF) .none kV_Sheet_columns doc_Sheet_columns pm_Sheet_columns an_Sheet_columns b4K ct_Sheet_columns),sl_Sheet_columns⟩)
 (a5t:W.codeIn K b4K "Sheet.columns"=true)(sU:W.keepIn K (.ref a7c)=true)
 (a2N:W.findIn K (.ref eD) "is_ruled"=some (some (.ref a3O)))(a26:W.isFn K (.ref a3O)=true)
 (a8w:K.lookup a3O=some ⟨oc_Sheet_is_ruled,od_Sheet_is_ruled,.func (W.fnOf "is_ruled" "Sheet.is_ruled" (aZ sV) (aV sV) (aI sV) .none kV_Sheet_is_ruled doc_Sheet_is_ruled pm_Sheet_is_ruled an_Sheet_is_ruled b4s ct_Sheet_is_ruled),sl_Sheet_is_ruled⟩)
 (a6j:W.codeIn K b4s "Sheet.is_ruled"=true)(wN:W.keepIn K (.ref a3O)=true)
 (a5c:W.findIn K (.ref eD) "many"=some (some (.ref a5i)))(a6N:W.isFn K (.ref a5i)=true)
 (a0t:K.lookup a5i=some ⟨oc_Sheet_many,od_Sheet_many,.func (W.fnOf "many" "Sheet.many" (aZ yR) (aV yR) (aI yR) .none kV_Sheet_many doc_Sheet_many pm_Sheet_many an_Sheet_many b7a ct_Sheet_many),sl_Sheet_many⟩)
 (a4X:W.codeIn K b7a "Sheet.many"=true)(a3m:W.keepIn K (.ref a5i)=true)
 (a4K:W.findIn K (.ref eD) "cell"=some (some (.ref a6D)))(a6i:W.isFn K (.ref a6D)=true)
 (a4I:K.lookup a6D=some ⟨oc_Sheet_cell,od_Sheet_cell,.func (W.fnOf "cell" "Sheet.cell" (aZ vZ) (aV vZ) (aI vZ) .none kV_Sheet_cell doc_Sheet_cell pm_Sheet_cell an_Sheet_cell b3f ct_Sheet_cell),sl_Sheet_cell⟩)
 (a74:W.codeIn K b3f "Sheet.cell"=true)(rH:W.keepIn K (.ref a6D)=true)
 (a8i:W.findIn K (.ref eD) "make"=some (some (.ref a2x)))(a8t:W.isFn K (.ref a2x)=true)
 (a2i:K.lookup a2x=some ⟨oc_Sheet_make,od_Sheet_make,.func (W.fnOf "make" "Sheet.make" (aZ sZ) (aV sZ) (aI sZ) .none kV_Sheet_make doc_Sheet_make pm_Sheet_make an_Sheet_make b7d ct_Sheet_make),sl_Sheet_make⟩)
 (a7r:W.codeIn K b7d "Sheet.make"=true)(mJ:W.keepIn K (.ref a2x)=true)
 (a61:W.findIn K (.ref eD) "board_of"=some (some (.ref a7s)))(a5q:W.isFn K (.ref a7s)=true)
 (a44:K.lookup a7s=some ⟨oc_Sheet_board_of,od_Sheet_board_of,.func (W.fnOf "board_of" "Sheet.board_of" (aZ sR) (aV sR) (aI sR) .none kV_Sheet_board_of doc_Sheet_board_of pm_Sheet_board_of an_Sheet_board_of b6E ct_Sheet_board_of),sl_Sheet_board_of⟩)
 (a7l:W.codeIn K b6E "Sheet.board_of"=true)(nR:W.keepIn K (.ref a7s)=true)
 (a7C:W.findIn K (.ref eD) "board_with"=some (some (.ref a5V)))(a81:W.isFn K (.ref a5V)=true)
 (a23:K.lookup a5V=some ⟨oc_Sheet_board_with,od_Sheet_board_with,.func (W.fnOf "board_with" "Sheet.board_with" (aZ xK) (aV xK) (aI xK) .none kV_Sheet_board_with doc_Sheet_board_with pm_Sheet_board_with an_Sheet_board_with b3c ct_Sheet_board_with),sl_Sheet_board_with⟩)
 (a3n:W.codeIn K b3c "Sheet.board_with"=true)(oG:W.keepIn K (.ref a5V)=true)
 (a7p:W.findIn K (.ref eD) "board_for"=some (some (.ref a1A)))(a0B:W.isFn K (.ref a1A)=true)
 (a1Q:K.lookup a1A=some ⟨oc_Sheet_board_for,od_Sheet_board_for,.func (W.fnOf "board_for" "Sheet.board_for" (aZ wO) (aV wO) (aI wO) .none kV_Sheet_board_for doc_Sheet_board_for pm_Sheet_board_for an_Sheet_board_for b3Z ct_Sheet_board_for),sl_Sheet_board_for⟩)
 (a7M:W.codeIn K b3Z "Sheet.board_for"=true)(pF:W.keepIn K (.ref a1A)=true)
 (a5w:W.findIn K (.ref eD) "check_cell"=some (some (.ref a02)))(a76:W.isFn K (.ref a02)=true)
 (a14:K.lookup a02=some ⟨oc_Sheet_check_cell,od_Sheet_check_cell,.func (W.fnOf "check_cell" "Sheet.check_cell" (aZ tW) (aV tW) (aI tW) .none kV_Sheet_check_cell doc_Sheet_check_cell pm_Sheet_check_cell an_Sheet_check_cell b3j ct_Sheet_check_cell),sl_Sheet_check_cell⟩)
 (a4z:W.codeIn K b3j "Sheet.check_cell"=true)(vE:W.keepIn K (.ref a02)=true)
 (a4u:W.findIn K (.ref eD) "check_leans"=some (some (.ref a0X)))(a0x:W.isFn K (.ref a0X)=true)
 (a3H:K.lookup a0X=some ⟨oc_Sheet_check_leans,od_Sheet_check_leans,.func (W.fnOf "check_leans" "Sheet.check_leans" (aZ wU) (aV wU) (aI wU) .none kV_Sheet_check_leans doc_Sheet_check_leans pm_Sheet_check_leans an_Sheet_check_leans b49 ct_Sheet_check_leans),sl_Sheet_check_leans⟩)
 (a3z:W.codeIn K b49 "Sheet.check_leans"=true)(wF:W.keepIn K (.ref a0X)=true)
 (a8U:W.findIn K (.ref eD) "check_ring"=some (some (.ref a6e)))(a1k:W.isFn K (.ref a6e)=true)
 (a51:K.lookup a6e=some ⟨oc_Sheet_check_ring,od_Sheet_check_ring,.func (W.fnOf "check_ring" "Sheet.check_ring" (aZ uF) (aV uF) (aI uF) .none kV_Sheet_check_ring doc_Sheet_check_ring pm_Sheet_check_ring an_Sheet_check_ring b46 ct_Sheet_check_ring),sl_Sheet_check_ring⟩)
 (a8Q:W.codeIn K b46 "Sheet.check_ring"=true)(a3e:W.keepIn K (.ref a6e)=true)
 (a0L:W.nsIn K mainGlobals "Rule"=some (some (.ref iP)))
 (a7J:W.plainGet K iP Str.empty=true)(a0z:W.hasDictIn K iP=true)(a7Z:W.plainOver K iP=true)(a2v:W.findIn K (.ref iP) "__setattr__"=some (some (.builtin "object.__setattr__")))(a2W:W.makesIn K iP=true)(a5H:W.keepIn K (.ref iP)=true)(a52:W.findIn K (.ref iP) "__class__"=some (some (.builtin "object.__class__")))
 (a1l:W.findIn K (.ref iP) "function"=some none)
 (yI:W.findIn K (.ref iP) "__init__"=some (some (.ref yL)))(a4V:W.isFn K (.ref yL)=true)
 (a2l:K.lookup yL=some ⟨oc_Rule_init,od_Rule_init,.func (W.fnOf "__init__" "Rule.__init__" (aZ xJ) (aV xJ) (aI xJ) .none kV_Rule_init doc_Rule_init pm_Rule_init an_Rule_init b7J ct_Rule_init),sl_Rule_init⟩)
 (a6d:W.codeIn K b7J "Rule.__init__"=true)(xE:W.keepIn K (.ref yL)=true)
 (a59:W.specialIn K (.ref iP) "__getattribute__"=some (some (.builtin "type.__getattribute__")))(a2w:W.readsIn K iP (.type "type")=true)(a0U:W.findCls K (.ref iP) (.type "type") "__init__"=some (.val (.ref yL)))
 (a1f:W.findIn K (.ref iP) "reckon"=some (some (.ref zG)))(xO:W.isFn K (.ref zG)=true)
 (yQ:K.lookup zG=some ⟨oc_Rule_reckon,od_Rule_reckon,.func (W.fnOf "reckon" "Rule.reckon" (aZ oE) (aV oE) (aI oE) .none kV_Rule_reckon doc_Rule_reckon pm_Rule_reckon an_Rule_reckon b44 ct_Rule_reckon),sl_Rule_reckon⟩)
 (yO:W.codeIn K b44 "Rule.reckon"=true)(a0i:W.keepIn K (.ref zG)=true)
 (a2I:W.nsIn K mainGlobals "Cells"=some (some (.ref gL)))
 (a2L:W.plainGet K gL Str.empty=true)(a2s:W.hasDictIn K gL=true)(a27:W.plainOver K gL=true)(a0s:W.findIn K (.ref gL) "__setattr__"=some (some (.builtin "object.__setattr__")))(a3j:W.makesIn K gL=true)(a29:W.keepIn K (.ref gL)=true)(a30:W.findIn K (.ref gL) "__class__"=some (some (.builtin "object.__class__")))
 (a2f:W.findIn K (.ref gL) "function"=some none)
 (a1h:W.findIn K (.ref gL) "names"=some none)
 (a7E:W.findIn K (.ref gL) "__init__"=some (some (.ref a5A)))(a8d:W.isFn K (.ref a5A)=true)
 (a8x:K.lookup a5A=some ⟨oc_Cells_init,od_Cells_init,.func (W.fnOf "__init__" "Cells.__init__" (aZ tM) (aV tM) (aI tM) .none kV_Cells_init doc_Cells_init pm_Cells_init an_Cells_init b5y ct_Cells_init),sl_Cells_init⟩)
 (a6S:W.codeIn K b5y "Cells.__init__"=true)(uE:W.keepIn K (.ref a5A)=true)
 (a6R:W.findIn K (.ref gL) "leans"=some (some (.ref a8K)))(a1z:W.isFn K (.ref a8K)=true)
 (a8F:K.lookup a8K=some ⟨oc_Cells_leans,od_Cells_leans,.func (W.fnOf "leans" "Cells.leans" (aZ mQ) (aV mQ) (aI mQ) .none kV_Cells_leans doc_Cells_leans pm_Cells_leans an_Cells_leans b7H ct_Cells_leans),sl_Cells_leans⟩)
 (a8X:W.codeIn K b7H "Cells.leans"=true)(wW:W.keepIn K (.ref a8K)=true)
 (a50:W.findIn K (.ref gL) "gather"=some (some (.ref a0V)))(a3P:W.isFn K (.ref a0V)=true)
 (a6C:K.lookup a0V=some ⟨oc_Cells_gather,od_Cells_gather,.func (W.fnOf "gather" "Cells.gather" (aZ mM) (aV mM) (aI mM) .none kV_Cells_gather doc_Cells_gather pm_Cells_gather an_Cells_gather b6R ct_Cells_gather),sl_Cells_gather⟩)
 (a7x:W.codeIn K b6R "Cells.gather"=true)(uL:W.keepIn K (.ref a0V)=true)
 (a58:W.findIn K (.ref gL) "reckon"=some (some (.ref zG)))
 (a2B:W.kitOne K (.ref gL) (.type "list")=some false)
 (ow4:W.specialIn K (.builtin "object.__class__") "__get__"=some (some (.builtin "getset_descriptor.__get__")))(ow5:W.takesIn K (.builtin "object.__class__")=some true)
 (a4O:W.mroIn K gL (.type "object")=some true)
 (uA:b4a≠a6w):bE K mg/\True/\Tbs h K mg:=⟨{
 len:=W.mg_none_of X G a2k,
 isinstance:=W.mg_none_of X G a4Y,
 int:=W.mg_none_of X G a2y,
 bool:=W.mg_none_of X G a4g,
 str:=W.mg_none_of X G a4k,
 all:=W.mg_none_of X G a8W,
 range:=W.mg_none_of X G a2Y,
 abs:=W.mg_none_of X G a4i,
 list:=W.mg_none_of X G a7Y,
 tuple:=W.mg_none_of X G a41,
 sum:=W.mg_none_of X G a6F,
 reversed:=W.mg_none_of X G a7o,
 ValueError:=W.mg_none_of X G a62,
 g_LETTERS:=⟨_,W.mg_of X G a5R⟩,
 g_MOST_LETTERS:=⟨_,W.mg_of X G a4R⟩,
 g_ODD:=⟨a92,W.mg_of X G a28,fun H=> .inr ⟨_,_,_,a71,rfl,rfl,sl (by simp),.cons ⟨_,rfl⟩ (.cons ⟨_,rfl⟩ (.nil))⟩⟩,
 g_MOST_ROWS:=⟨_,W.mg_of X G a0S⟩,
 g_MOST_COLUMNS:=⟨_,W.mg_of X G a3t⟩,
 g_MOST_TABLES:=⟨_,W.mg_of X G a1E⟩,
 g_UNKNOWN:=⟨b1z,W.mg_of X G a4Q,fun H=> .inr ⟨_,_,_,a7O,rfl,rfl,sl (by simp),.cons ⟨_,rfl⟩ (.cons ⟨_,rfl⟩ (.nil))⟩⟩,
 g_MOST_NAMES:=⟨_,W.mg_of X G a0Y⟩,
 d_is_whole:=eW X G a55 a0Q a4N oN,
 d_is_number:=eW X G a6h a3I a8n wD,
 d_is_name:=eW X G a0P a00 a0T jJ,
 d_is_fault:=eW X G a6a a8I a3T qO,
 d_is_value:=eW X G a3U a5J a8S nS,
 d_settled:=eW X G a3C a8Y a66 uP,
 d_check_size:=eW X G a7H a0E a72 qU,
 d_check_place:=eW X G a3F a5e a1d mL,
 d_check_value:=eW X G a5L a2u a8p sI,
 d_check_values:=eW X G a2q a4J a65 pY,
 d_ring_from:=eW X G a6z a5U a4n wS,
 d_way_to:=eW X G a6J a8b a2U rT,
 d_check_name:=eW X G a89 a0J a3A tO,
 d_checked_names:=eW X G a2d a8l a6V sF,
 d_each_once:=eW X G a7W a54 a4G zM,
 d_look_in_turn:=eW X G a31 a6O a2D uW,
 d_law_mixed:=eW X G a6A a0D a7a mU,
 d_law_value:=eW X G a1m a6E a5d oZ,
 d_law_noted:=eW X G a0u a3p a5N sN,
 d_law_list:=eW X G a0F a7v a06 vQ,
 d_law_looked:=eW X G a4e a53 a3w uQ,
 d_law_put:=eW X G a5E a4j a5K vG,
 d_law:=eW X G yZ zS xP a0j,
 notabs:=notabs,
 t_Table:=⟨fF,{c:=W.mg_of X G a6P,cl:=⟨a68,a0p,a7T,a6Q⟩,mks:=a4t,kc:=a7w,hc:=a8o,n_row_numbers:=a1B,n_fresh_number:=a63,n_kept:=a1S,m_init:=bR a5S a2A a3o a6o vT,m_many:=bR a3y a2E a2j a9c jU,m_numbers:=bR a7G a7D a8G a7P a85,m_columns:=bR a4v a5Y a5B a4B a35,m_give:=bR a5h a5o a9g a1s vO,m_drop:=bR a0O a0R a67 a39 a4b,m_put:=bR a5p a0Z a11 a7S vP,m_at:=bR a5n a8r a19 a2T qN,m_number_at:=bR a80 a0I a2o a1M vD,m_check_column:=bR a6b a8T a3l a0G pL}⟩,
 t_Board:=⟨gB,{c:=W.mg_of X G a3V,cl:=⟨a33,a2p,a9f,a6Z⟩,mks:=a3b,kc:=a4s,hc:=a32,n_given:=a1D,n_rules:=a3Q,n_memory:=a5G,n_order:=a0A,m_init:=bR a3f a4a a3s a8V uS,m_has_column:=bR a6T a5C a5Q a7q qD,m_content:=bR a7j a2e a49 a1n sC,m_set_column:=bR a6W a5s a4d a5O a64,m_empty_column:=bR a3x a1U a4L a3i qI,m_outcome:=bR a2F a6K a22 a8J vL}⟩,
 t_TableTold:=⟨iT,{c:=W.mg_of X G a4m,cl:=⟨a8k,a2K,a5M,a25⟩,mks:=a08,kc:=a7N,hc:=a2G,n_boards:=a5X,n_name:=a13,n_size:=a6p,m_init:=bR a7R a1w a7b a83 sQ,m_take:=bR a8a a4H a37 a5z wL}⟩,
 t_ColumnSet:=⟨iI,{c:=W.mg_of X G a3h,cl:=⟨a1T,a0C,a5T,a5P⟩,mks:=a1L,kc:=a1x,hc:=a3L,n_board:=a84,n_column:=a0v,n_after:=a5F,n_before:=a6X,m_init:=bR a8O a43 a6U a7g oW,m_take:=bR a0N a8B a2t a2R qW}⟩,
 t_ValuePut:=⟨gU,{c:=W.mg_of X G a15,cl:=⟨a1b,a3D,a1t,a6c⟩,mks:=a8g,kc:=a3S,hc:=a8u,n_board:=a8E,n_column:=a7A,n_place:=a8P,n_after:=a5g,n_before:=a57,m_init:=bR a9a a0w a5j a40 wI,m_take:=bR a1a a6G a2z a4h rS}⟩,
 t_Trial:=⟨jB,{c:=W.mg_of X G a5x,cl:=⟨a6g,a3g,a1p,a38⟩,mks:=a0H,kc:=a2Q,hc:=a3X,n_finder:=a78,n_looked:=a8j,n_lacking:=a4y,m_init:=bR a7h a2g a7y a09 tL,m_look:=bR a4w a8Z a07 a86 a2n}⟩,
 t_Finder:=⟨gJ,{c:=W.mg_of X G yT,cl:=⟨a4c,a8c,a5a,a8L⟩,mks:=a18,kc:=a1i,hc:=a5l,n_boards:=a2C,n_found:=a7X,n_looked:=a3E,m_init:=bR a45 a2Z a4E a8C pW,m_value_of:=bR a01 a3Z a6s a6m a8m,m_attempt:=bR a42 a5r a3d a7K a4p,m_gathered:=bR yH yE a0h xQ a0c,m_settle:=bR a7I a1Y a9d a6x a21,m_knows:=bR a8q a1N a2a a36 a7k}⟩,
 t_Sheet:=⟨eD,{c:=W.mg_of X G a69,cl:=⟨a1g,a5u,a2m,a7f⟩,mks:=a6t,kc:=a4Z,hc:=a70,n_boards:=a2h,n_changes:=a1e,n_finder:=a4C,m_init:=bR a1X a4U a4T a60 vU,m_table:=bR a8R a6L a4D a5Z tS,m_give:=bR a6f a0K a5v a20 sG,m_rule:=bR a5b a2M a7t a3r a5f,m_put:=bR a8v a2H a2r a0r vV,m_tables:=bR a03 a82 a1Z a1j a3R,m_columns:=bR a3a a1J a4W a5t sU,m_is_ruled:=bR a2N a26 a8w a6j wN,m_many:=bR a5c a6N a0t a4X a3m,m_cell:=bR a4K a6i a4I a74 rH,m_make:=bR a8i a8t a2i a7r mJ,m_board_of:=bR a61 a5q a44 a7l nR,m_board_with:=bR a7C a81 a23 a3n oG,m_board_for:=bR a7p a0B a1Q a7M pF,m_check_cell:=bR a5w a76 a14 a4z vE,m_check_leans:=bR a4u a0x a3H a3z wF,m_check_ring:=bR a8U a1k a51 a8Q a3e}⟩,
 t_Rule:=⟨iP,{c:=W.mg_of X G a0L,cl:=⟨a7J,a0z,a7Z,a2v⟩,mks:=a2W,kc:=a5H,hc:=a52,n_function:=a1l,m_init:=bR yI a4V a2l a6d xE,v_init:=⟨a59,_,_,a2w,a0U,yI⟩,m_reckon:=bR a1f xO yQ yO a0i}⟩,
 t_Cells:=⟨gL,{c:=W.mg_of X G a2I,cl:=⟨a2L,a2s,a27,a0s⟩,mks:=a3j,kc:=a29,hc:=a30,n_function:=a2f,n_names:=a1h,m_init:=bR a7E a8d a8x a6S uE,m_leans:=bR a6R a1z a8F a8X wW,m_gather:=bR a50 a3P a6C a7x uL,m_reckon:=bR a58 xO yQ yO a0i,isl:=a2B,own:=⟨a4O,ow4,ow5⟩}⟩},trivial,⟨⟨_,_,b4q X G yZ zS xP a0j a3k a4A,b7w X G yT yH yE a0h xQ a0c a75,uA,wP⟩⟩⟩
theorem walk{l:W.OpenLaw}{q:Program}{loose:List Str}{XP:(Str->Option Value)->Heap->Prop}{YP:World->Heap->Prop}{d:DefRec}{K:Params->Fg}(hn:l.most=some 63)(hdf:d.params.defaults= [])(hdn:d.name= "law")
 (hY:∀(w:World) (h:Heap),YP w h->(K w.params).In h)
 (recs:((PyProof.Rows.recsOf q).find? (fun e=>e.name==("law":Str))).isSome=true)
 (F:∀(w:World) (mg:Str->Option Value) (h:Heap),YP w h->(K w.params).In h->h.Ns mainGlobals mg->bE (K w.params) mg/\True/\Tbs h (K w.params) mg):
 W.WalkO q loose XP YP l.row.toRowW d [] (fun f vs=>PySem.call f vs):=
 L2.b7g (n:=63) (k:=16) (x:= "_law_script") (CX:=fun _=>aF) (sp:=fun w tabs=>b0t (K w.params) tabs) hn (by decide) hdf ⟨rfl,by decide,by decide⟩ hY
  (fun w mg fa h Yy KX G hmg=>by
   obtain⟨T,TD,TB⟩:=F w mg h Yy KX G
   obtain⟨z_law,z_Finder_gathered,B_law,B_Finder_gathered,uA,wP⟩:=TB.bs
   obtain⟨f,fd,F4,hm,hcd⟩:=B_law.ex
   rw[hdn]at hmg
   have e:=hmg.symm.trans hm
   cases e
   have r_law:=recs
   refine⟨T.notabs,[z_law,z_Finder_gathered],fun z hz=> ?_,fd,fun s u=> ?_,fun base kb nb mk=> ?_⟩
   ·simp only[List.mem_cons,List.not_mem_nil,or_false]at hz
    rcases hz with rfl|rfl
    ·exact .inl ⟨⟨_,r_law,B_law.tab⟩⟩
    ·exact .inr ⟨B_Finder_gathered.hd,wP⟩
   ·obtain⟨oc,od,kV,doc,pm,an,cdv,ct,osl,rfl,_⟩:=F4.ex
    exact .of_eq rfl
   ·exact b7e T B_law (mk _ (by simp)) B_Finder_gathered (mk _ (by simp)) uA F4 hcd)
  (fun _ _ _ a ns hl hT hS=>⟨a,ns,rfl,hS,hl,hT,fun _ hT'=>⟨rfl,hT'⟩⟩) fun _ _ _ _ _ z=>z
end My
namespace PySem.W.Fast
abbrev Z:=Nat
def tw18391766889599060092:=Z
def tw8661817058965905173:=Z
def tw8301944778091175130:=Z
def tw9721414051083074350:=Z
def tw16955611139622427643:=Z
def tw465386378365329289:=Z
def tw7894881835149760708:=Z
def tw6621318386084340099:=Z
def tw3851348644120938795:=Z
def tw14289635754591578648:=Z
def tw16385343229836233852:=Z
def tw11406384051421293778:=Z
def tw16360062855913683698:=Z
def tw7939716288386644326:=Z
def tw17042437374024510550:=Z
def tw5474543060302034378:=Z
def tw10471637234082500815:=Z
def tw16232925024770854511:=Z
def tw14013047944246091303:=Z
def tw1568095594800955357:=Z
def tw11168629982731787358:=Z
def tw18019478748171415276:=Z
def tw17399296399324015242:=Z
def tw7879455797218988196:=Z
def tw11186024789047980235:=Z
def tw8838647255284937226:=Z
def tw8055561758123611722:=Z
def tw1668266395992558314:=Z
def tw4737051940184074392:=Z
def tw13789180959526943395:=Z
def tw12810202710528609544:=Z
def tw5459100044373755716:=Z
def tw14620408095419639583:=Z
def tw12568209223257903127:=Z
def tw15774511772137344561:=Z
def tw3625412233984610307:=Z
def tw1901152298264170020:=Z
def tw13695476628462637991:=Z
def tw17414207962493675732:=Z
def tw13922967747486385988:=Z
def tw17064092439885447732:=Z
def tw17748442783749337280:=Z
def tw275968392674244668:=Z
def tw15358312186098185213:=Z
def tw16051996483738961103:=Z
def tw2074518333293005623:=Z
def tw16968724392376042056:=Z
def tw14806167002747340966:=Z
def tw10176529512557044939:=Z
def tw10432324869310169602:=Z
def tw2566484634089451001:=Z
def tw11221897116301268797:=Z
def tw13764933921191654814:=Z
def tw11108638861086483208:=Z
def tw5248754223868858635:=Z
def tw4173552255926397664:=Z
def tw16291613331455401827:=Z
def tw16667404493976702821:=Z
def tw18124369173641119330:=Z
def tw2766612354681205366:=Z
def tw7614253201420777678:=Z
def tw18350686295475996562:=Z
def tw17280386066806707014:=Z
def tw8030433583947474303:=Z
def tw13468930981003386753:=Z
def tw18088826373839300476:=Z
def tw14842052143091012221:=Z
def tw6553702487124228534:=Z
def tw14534020935064777583:=Z
def tw4270398288282424951:=Z
def tw9196408558556854498:=Z
def tw10581642723267671404:=Z
def tw18185106805860090794:=Z
def tw4056047967386769546:=Z
def tw7785509803210511977:=Z
def tw16367196540228426414:=Z
def tw9425382382538762659:=Z
def tw1979694824575883839:=Z
def tw14463723302774085517:=Z
def tw228893558518653899:=Z
def tw9025263564385273171:=Z
def tw15936737747068895531:=Z
def tw13685712986302955228:=Z
def tw14237430650875683633:=Z
def tw8541012272328101131:=Z
def tw1213056019014048534:=Z
def tw17854381851933163050:=Z
def tw16712040138683787542:=Z
def tw5146529393049443894:=Z
def tw4901262581627712690:=Z
def tw3323854476408623512:=Z
def tw9744155695577793286:=Z
def tw2142829621751584609:=Z
def tw9417598891110788943:=Z
def tw3184105522780355796:=Z
def tw4696607036098137765:=Z
def tw1434121184764984302:=Z
def tw14735869696897285952:=Z
def tw16832806757174845223:=Z
def tw10886961728093533355:=Z
def tw13269707133818441581:=Z
def tw16290741130885788672:=Z
def tw3880355988847127659:=Z
def tw11772014060988093637:=Z
def tw302826430873881194:=Z
def tw9723225894524422266:=Z
def tw2300528519791352568:=Z
def tw16585881594773897291:=Z
def tw7069254829300297690:=Z
def tw9503977794681990702:=Z
def tw14531665692075432119:=Z
def tw2966044465677198437:=Z
def tw4832601925322510402:=Z
def tw7458698445548081745:=Z
def tw4583069234813832653:=Z
def tw17852207913757123008:=Z
def tw8828662301382570199:=Z
def tw425724995677763965:=Z
def tw12915089514709992130:=Z
def tw3022595524712333545:=Z
def tw14828296571222171763:=Z
def tw5992494642799581093:=Z
def tw1306167679307925825:=Z
def tw13682005403915328704:=Z
def tw6475327553069514939:=Z
def tw6713441522887779747:=Z
def tw7224240951252571645:=Z
def tw1447170576894405758:=Z
def tw7107982279949285754:=Z
def tw2892314620597143140:=Z
def tw14343911751222017110:=Z
def tw10306944776665637836:=Z
def tw13164807552279875934:=Z
def tw2891776897597922285:=Z
def tw6431899771973494630:=Z
def tw5361571859582490511:=Z
def tw948119288423749769:=Z
def tw13537834517258224066:=Z
def tw9244272534851983554:=Z
def tw6618600379576963033:=Z
def tw6149031125903756493:=Z
def tw16466501978747703173:=Z
def tw1561682591746100349:=Z
def tw7280621824768004531:=Z
def tw9905213324064973453:=Z
def tw1470368189713184942:=Z
def tw10092640556677044991:=Z
def tw15194386298188259903:=Z
def tw8263643158978936378:=Z
def tw4053048793935081134:=Z
def tw12226662175929556253:=Z
def tw9835060939270998335:=Z
def tw9372592111809931211:=Z
def tw3934079974831707464:=Z
def tw13663945501131998783:=Z
def tw5213983029022558341:=Z
def tw1697732523238356053:=Z
def tw16397070834890531758:=Z
def tw16902928799341261105:=Z
def tw15965263037855699972:=Z
def tw10876327911152449780:=Z
def tw2451906125628874710:=Z
def tw3563822174072058653:=Z
def tw15661910078999345642:=Z
def tw11772272893346116476:=Z
def tw18224127709840874249:=Z
def tw12734636424193017184:=Z
def tw14164459909919333545:=Z
def tw10297483960981785409:=Z
def tw8537946360535401424:=Z
def tw14862706177252905151:=Z
def tw8864099367630727728:=Z
def tw4524060912015948343:=Z
def tw7329630682153448803:=Z
def tw14209730245021282340:=Z
def tw17308773092399765950:=Z
def tw780635462451393493:=Z
def tw2800440324227984026:=Z
def tw7978094735150763843:=Z
def tw2929249247738596152:=Z
def tw1679753300466180181:=Z
def tw16541153724909381549:=Z
def tw7509838657642262774:=Z
def tw6274646608262426851:=Z
def tw11362578792895362241:=Z
def tw11170947989891802471:=Z
def tw13423746248249935613:=Z
def tw10441285690859918150:=Z
def tw11214483884036178879:=Z
def tw16641168871014879106:=Z
def tw4952926608028421607:=Z
def tw7002730312383148033:=Z
def tw12701973468532710460:=Z
def tw17158428031669789411:=Z
def tw17841608810824882119:=Z
def tw5590651448917926355:=Z
def tw7710567944718184181:=Z
def tw17825786117931220617:=Z
def tw12097136605027521341:=Z
def tw1635455987448302628:=Z
def tw12155606960980898509:=Z
def tw12469905553113777691:=Z
def tw15336948359120759814:=Z
def tw10569579260914417573:=Z
def tw10405277200556958820:=Z
def tw8036999733757087866:=Z
def tw14056612440470345547:=Z
def tw11999311093629583293:=Z
def tw18385993214545754582:=Z
def tw16061262401310674603:=Z
def tw1302958139193888372:=Z
def tw6627388286791743396:=Z
def tw1660599641010113899:=Z
def tw16587169217849733139:=Z
def tw7470236127673597529:=Z
def tw8340836194948924907:=Z
def tw12758879775034637145:=Z
def tw11820567139515652759:=Z
def tw7871727016186404284:=Z
def tw16670982126267566240:=Z
def tw13736574236818759477:=Z
def tw18435589970926959026:=Z
def tw12378984877250440124:=Z
def tw2727023536736782412:=Z
def tw2441996129021662529:=Z
def tw15362523002675252569:=Z
def tw9423797714979842649:=Z
def tw13184849348013470262:=Z
def tw8651532130598316382:=Z
def tw5270379598451166326:=Z
def tw10056843983729539981:=Z
def tw715500897243516172:=Z
def tw6106148926960918495:=Z
def tw7794412794838460930:=Z
def tw3529438899287462102:=Z
def tw7686143901302064491:=Z
def tw15595276709852402249:=Z
def tw4634035056521326558:=Z
def tw2668069870462279330:=Z
def tw3831684903703084809:=Z
def tw15837011260545508379:=Z
def tw5223778600432165044:=Z
def tw3476642347531355843:=Z
def tw10478527809662071205:=Z
def tw6774381982086686295:=Z
def tw15064812163370828075:=Z
def tw14303139049307678787:=Z
def tw16678132323191588579:=Z
def tw8015617518198839459:=Z
def tw3575349342217645636:=Z
def tw3306023600602096033:=Z
def tw6010074216228549431:=Z
def tw6910385113532591185:=Z
def tw17273772233963522264:=Z
def tw3594134426184569851:=Z
def tw13456472070272292183:=Z
def tw7122945009351488333:=Z
def tw11583096842978138342:=Z
def tw6193114164357160539:=Z
def tw10107970501351940946:=Z
def tw601292446971307549:=Z
def tw14351863566937802260:=Z
def tw10748783625737365264:=Z
def tw8886505156821344187:=Z
def tw1586373306892666076:=Z
def tw752246288995556784:=Z
def tw7140510218423304925:=Z
def tw9513605606633008712:=Z
def tw13352227636733449168:=Z
def tw11642149429311277380:=Z
def tw12946029553206183496:=Z
def tw7428716169664686667:=Z
def tw1294487605292563318:=Z
def tw8053336862345894241:=Z
def tw5296121360694386097:=Z
def tw15061259228136319786:=Z
def tw3717292413895215300:=Z
def tw12830122435973156242:=Z
def tw2055314887603919830:=Z
def tw1854937306930793466:=Z
def tw16120432850950220947:=Z
def tw11205445812458129430:=Z
def tw3303218681957817301:=Z
def tw14658105948438011906:=Z
def tw14336731999530154255:=Z
def tw14229363994141193819:=Z
def tw13165651679333458575:=Z
def tw216919283752891803:=Z
def tw14627666447512452941:=Z
def tw11712691599855850807:=Z
def tw14920948100889759051:=Z
def tw3461759693222020919:=Z
def tw482246609904333763:=Z
def tw10449301874641114514:=Z
def tw12900720507984097978:=Z
def tw17086595058602685093:=Z
def tw6149128434182530511:=Z
def tw10491792196731466406:=Z
def tw8462097199543246418:=Z
def tw15042588450010336388:=Z
def tw13578708960742976538:=Z
def tw11822253771805420749:=Z
def tw18444005131113475670:=Z
def tw16778965040400484379:=Z
def tw4846043067724890404:=Z
def tw17505852901743523942:=Z
def tw13277879484261867860:=Z
def tw2825394107862627196:=Z
def tw15095111416100737571:=Z
def tw4075043847684993590:=Z
def tw10702371886909705724:=Z
def tw4806086401712100017:=Z
def tw12700742016802296416:=Z
def tw6606251851986566792:=Z
def tw14748301554323720146:=Z
def tw4677333893084363944:=Z
def tw6434707827827243445:=Z
def tw3483664286660717020:=Z
def tw11422190898280137232:=Z
def tw489139016938396196:=Z
def tw5274208932051904638:=Z
def tw2001615405439381698:=Z
def tw5423220589794627081:=Z
def tw5319463686174285580:=Z
def tw4447889018775179139:=Z
def tw16113768571344259159:=Z
def tw13902846186526395563:=Z
def tw6063689902051767142:=Z
def tw7881477720763308683:=Z
def tw9390390889836248451:=Z
def tw13704137013493083106:=Z
def tw13198971850199815451:=Z
def tw6646695606630733351:=Z
def tw12222607891587234465:=Z
def tw17240343465830788156:=Z
def tw516108130003896416:=Z
def tw4696972679979037398:=Z
def tw13192376817212188015:=Z
def tw8754508939556880413:=Z
def tw5055846976315055260:=Z
def tw1968764686572238694:=Z
def tw14793058683831175813:=Z
def tw16176073302831815869:=Z
def tw13572455687768182873:=Z
def tw13273335091367704044:=Z
def tw17213732454162595002:=Z
def tw8526859018922183165:=Z
def tw12376867723958005385:=Z
def tw9056368700711973898:=Z
def tw17213462148415819504:=Z
def tw8114371046812016141:=Z
def tw13057071708194265389:=Z
def tw7394462665542501020:=Z
def tw12619000594407385459:=Z
def tw14402626278299035357:=Z
def tw6821718729025119237:=Z
def tw2011975585448685839:=Z
def tw11004228428620523812:=Z
def tw14999557103314030682:=Z
def tw9970023530000872271:=Z
def tw17634095513815612539:=Z
def tw17837013632390229820:=Z
def tw14664040314279935998:=Z
def tw3621135824435790904:=Z
def tw2438413639440628790:=Z
def tw9490102968927402620:=Z
def tw4385217363904431764:=Z
def tw16682499867759924775:=Z
def tw7522137694470545814:=Z
def tw9653098688739902737:=Z
def tw580325821679725066:=Z
def tw13846004073897556860:=Z
def tw12908962413230373098:=Z
def tw12129387428628416882:=Z
def tw13550579869509850295:=Z
def tw7729044425398673544:=Z
def tw3112829839582635192:=Z
def tw4083485238742514269:=Z
def tw17224173544700287836:=Z
def tw9266306278920777939:=Z
def tw13742348643449163600:=Z
def tw16145507207548159041:=Z
def tw7467997975232795091:=Z
def tw7759918319595337166:=Z
def tw9445701504316445427:=Z
def tw7413778526219452598:=Z
def tw10944841321021110149:=Z
def tw1976424927545820499:=Z
def tw17922777685885769281:=Z
def tw6774617945522236604:=Z
def tw11899339729384231507:=Z
def tw836552435406396814:=Z
def tw4932339404647503008:=Z
def tw11149317608931701379:=Z
def tw4841173330678721649:=Z
def tw5731706239856839267:=Z
def tw10666951587177861508:=Z
def tw3079055424620110174:=Z
def tw13312040221581357323:=Z
def tw16256369140211370561:=Z
def tw14566891251006505144:=Z
def tw2605592090789177750:=Z
def tw17082947119291002760:=Z
def tw16502564395031960674:=Z
def tw8815500841081999256:=Z
def tw528877080191041554:=Z
def tw15432120310397479732:=Z
def tw9343330994332819752:=Z
def tw5465968380996287409:=Z
def tw7823637376098095142:=Z
def tw12491370384347512594:=Z
def tw6994945944437775428:=Z
def tw1334167676910612667:=Z
def tw16454250683593361001:=Z
def tw17441785015055860477:=Z
def tw1065324728850342621:=Z
def tw3437412571244610716:=Z
def tw4102096219908686986:=Z
def tw11820812114841698884:=Z
def tw5128750638861601477:=Z
def tw1124158993776067778:=Z
def tw8879931284923754868:=Z
def tw12969472645313603174:=Z
def tw4125076336352555929:=Z
def tw12673521811456661804:=Z
def tw7419730520197272844:=Z
def tw6815516426505902891:=Z
def tw7027047537050346476:=Z
def tw11767367002125787854:=Z
def tw646263197006833409:=Z
def tw3403783057982815448:=Z
def tw11524849514753584391:=Z
def tw5592158528793525816:=Z
def tw1350270021870079090:=Z
def tw13636440781758960983:=Z
def tw2299049076728428773:=Z
def tw16944924149844031323:=Z
def tw3667005915607115969:=Z
def tw3349549356393111252:=Z
def tw14039516697152277090:=Z
def tw6249301964048385726:=Z
def tw5516430904294008582:=Z
def tw14868249219620046271:=Z
def tw16350041795692754884:=Z
def tw2547948509556550143:=Z
def tw13804223185747032258:=Z
def tw10532992368404686902:=Z
def tw12044911846715294315:=Z
def tw10533785638051941126:=Z
def tw11001578556371736264:=Z
def tw11180625928736731149:=Z
def tw9068135161602021752:=Z
def tw899944777829491452:=Z
def tw10467324821480335433:=Z
def tw17879267961259049538:=Z
def tw12562384976822554088:=Z
def tw11679210734022831738:=Z
def tw15122199861854130970:=Z
def tw3267362664347482336:=Z
def tw8455608318733679452:=Z
def tw12633616273312805967:=Z
def tw250352404037189434:=Z
def tw2968254064166861890:=Z
def tw10574921671360688348:=Z
def tw8603604643906328024:=Z
def tw8370527080743265845:=Z
def tw4023822724600212654:=Z
def tw7672374817183009320:=Z
def tw12447133426015419316:=Z
def tw5274038651859158006:=Z
def tw3630105124704361428:=Z
def tw11227885559068101879:=Z
def tw3052040959427593035:=Z
def tw7219262085761899467:=Z
def tw13358076908367237524:=Z
def tw6433559330871030408:=Z
def tw11824345664526318772:=Z
def tw7731377862039657048:=Z
def tw16355401985217451943:=Z
def tw9967443474582250432:=Z
def tw685258689657677480:=Z
def tw12949743259812651153:=Z
def tw9699629312818791691:=Z
def tw18116308485495204608:=Z
def tw17078138488841022866:=Z
def tw12660236284787363710:=Z
def tw5385348539084788356:=Z
def tw14549426275190520599:=Z
def tw18030357454218906836:=Z
def tw10024526212510187382:=Z
def tw5642727649697837779:=Z
def tw7847621433879841121:=Z
def tw3650881309628836293:=Z
def tw12002347486682250358:=Z
def tw7876216177497606143:=Z
def tw7552103145452573664:=Z
def tw81306937446665277:=Z
def tw5509030244234927559:=Z
def tw1508809324257880699:=Z
def tw4414162655686172213:=Z
def tw2721179733603068339:=Z
def tw4643794093608290078:=Z
def tw3517006297386844581:=Z
def tw2638832876924148172:=Z
def tw10315946773633755541:=Z
def tw8358238085542001220:=Z
def tw8982851184724558194:=Z
def tw10694966067616750553:=Z
def tw17822226141788984162:=Z
def tw4347221059842921099:=Z
def tw14929038318593957451:=Z
def tw418590227335361954:=Z
def tw10066141545023890102:=Z
def tw14144712137172805993:=Z
def tw18073242959762691677:=Z
def tw1209516792504470546:=Z
def tw8185981437406152132:=Z
def tw15882446347937211242:=Z
def tw8239072977165448512:=Z
def tw16693583857267263005:=Z
def tw5556116165736251878:=Z
def tw484366027246147953:=Z
def tw7827018219627016243:=Z
def tw13542496365400645981:=Z
def tw4954517697190798363:=Z
def tw3307709394057456076:=Z
def tw2310844513957929403:=Z
def tw14735956638227873606:=Z
def tw5037815015187910347:=Z
def tw2114329291749380647:=Z
def tw14527079328633599015:=Z
def tw6142186122240624916:=Z
def tw2832652947846452564:=Z
def tw11293394962357368349:=Z
def tw15163377184118110619:=Z
def tw16244449497431711795:=Z
def tw16709013847069936498:=Z
def tw438506466830652533:=Z
def tw3285478718131210881:=Z
def tw12165112618827113101:=Z
def tw10783997844545680841:=Z
def tw14995195477451524107:=Z
def tw1642974122308732492:=Z
def tw7167654451557887310:=Z
def tw17589863869116526285:=Z
def tw17253552952498694037:=Z
def tw10687555000001098056:=Z
def tw1039315707027151217:=Z
def tw7406434580026305139:=Z
def tw13560113360999978607:=Z
def tw322711326659159029:=Z
def tw14783037891855322100:=Z
def tw15484057361243526456:=Z
def tw17179761916499233960:=Z
def tw2402307968834415587:=Z
def tw11367357625209271657:=Z
def tw16167187915586995301:=Z
def tw13040969196578292555:=Z
def tw10530100107300504415:=Z
def tw16669091773661094844:=Z
def tw198369332878149642:=Z
def tw5039788158330152069:=Z
def tw10149233865667658045:=Z
def tw10110332986570435356:=Z
def tw17717283555090262052:=Z
def tw6387886604587488353:=Z
def tw8803289979138066174:=Z
def tw16160357208882380362:=Z
def tw16176868746084638982:=Z
def tw17699878023174132217:=Z
def tw9963338472812461989:=Z
def tw6574206697862779582:=Z
def tw6350519451888396657:=Z
def tw15868897925302133965:=Z
def tw545745223538566117:=Z
def tw202459699760812737:=Z
def tw11330058163431596900:=Z
def tw365218082869335734:=Z
def tw9718708971500880834:=Z
def tw11304845191019404056:=Z
def tw11027995427007449337:=Z
def tw8071279995662368730:=Z
def tw12697346046603843140:=Z
def tw18312007033252331902:=Z
def tw3817674744478705367:=Z
def tw3094164718438030522:=Z
def tw8436436273401994152:=Z
def tw10203405297744065842:=Z
def tw7155269915815380363:=Z
def tw12283965267816864545:=Z
def tw10652485626379342502:=Z
def tw15101178412707333188:=Z
def tw11389447278042785569:=Z
def tw6910399125540668255:=Z
def tw10929341141583793966:=Z
def tw421788610060508214:=Z
def tw3422022742419253700:=Z
def tw13254927687395512954:=Z
def tw8702800909080862467:=Z
def tw12431191669711187810:=Z
def tw8138949722932796737:=Z
def tw7224314905932033870:=Z
def tw10741960687530361970:=Z
def tw1461017317902438380:=Z
def tw13067892884570749592:=Z
def tw2279593923288308725:=Z
def tw4352847684806479051:=Z
def tw7360286274419191302:=Z
def tw9876655585807987493:=Z
def tw18434525802435286674:=Z
def tw14325784970034049415:=Z
def tw815783302699681552:=Z
def tw14230094299611216690:=Z
def tw11395917398158388342:=Z
def tw18147126914643805607:=Z
def tw6833948274331837164:=Z
def tw8355184161616635438:=Z
def tw6294280273086436396:=Z
def tw13719508129587937567:=Z
def tw3648305753270019841:=Z
def tw17788440407229437480:=Z
def tw2586882270328055941:=Z
def tw4754809879630606136:=Z
def tw14146599868884952993:=Z
def tw4906428931113284791:=Z
def tw5180566464511374882:=Z
def tw14473874275419628927:=Z
def tw9988420145633058948:=Z
def tw16746748956245245056:=Z
def tw3482119145330748425:=Z
def tw9668836550112139456:=Z
def tw9700680052495718016:=Z
def tw15441008663723430300:=Z
def tw14381660379844091290:=Z
def tw17018879953631766442:=Z
def tw15545901033887123918:=Z
def tw14357236867254756127:=Z
def tw8634216375343331680:=Z
def tw7341956416533593741:=Z
def tw9810094993893106903:=Z
def tw1745476514276640401:=Z
def tw9001893154182110723:=Z
def tw7736060864466961969:=Z
def tw7091733461888428020:=Z
def tw4248134553894845025:=Z
def tw16947114659848844837:=Z
def tw16197430070556399810:=Z
def tw5141275788206090445:=Z
def tw15605997045909389168:=Z
def tw3032417169218691759:=Z
def tw1709575845504012433:=Z
def tw6402122284085778533:=Z
def tw16510845350419687028:=Z
def tw1803501695516395581:=Z
def tw12990906361621089769:=Z
def tw9155146389384957306:=Z
def tw7572424117077677203:=Z
def tw17709849945018878600:=Z
def tw17650152891833941776:=Z
def tw16569754391219959160:=Z
def tw2524801674846025547:=Z
def tw13552887546193790864:=Z
def tw4802270636181369825:=Z
def tw3544749539546788585:=Z
def tw12213745236991342082:=Z
def tw15932592952420412662:=Z
def tw8427151131629917382:=Z
def tw14807015358017313609:=Z
def tw329298227687356091:=Z
def tw8112549777426936808:=Z
def tw14336005197193246681:=Z
def tw8182754454038917420:=Z
def tw4299827640327230298:=Z
def tw14456115016564924775:=Z
def tw8894707512860194091:=Z
def tw16913710411562442203:=Z
def tw17956570867203988365:=Z
def tw13044956570020900089:=Z
def tw16359998260223975010:=Z
def tw4264215858789457527:=Z
def tw2862622896858981752:=Z
def tw9990867398039438528:=Z
def tw15886332341445307033:=Z
def tw8499279327943966166:=Z
def tw4757290116857696390:=Z
def tw11761737837223545583:=Z
def tw9239681550296355778:=Z
def tw6635344736819731199:=Z
def tw14569377521166902718:=Z
def tw17130726164861037847:=Z
def tw12748324819421704305:=Z
def tw408652697828479085:=Z
def tw3223050178720626198:=Z
def tw5035184648334852825:=Z
def tw988724619455137408:=Z
def tw925139537784369486:=Z
def tw1086506878128771348:=Z
def tw7429370377962325803:=Z
def tw13434926193714155923:=Z
def tw8834323691243815619:=Z
def tw1232554611445628474:=Z
def tw18383779370819755934:=Z
def tw376185985133693313:=Z
def tw1807299490707714154:=Z
def tw15886507213472479999:=Z
def tw14658612782101782731:=Z
def tw10760770930306674613:=Z
def tw11522082735455260148:=Z
def tw2894331740115240930:=Z
def tw10646045443613245546:=Z
def tw7404995866953660363:=Z
def tw11666424995279038149:=Z
def tw13195351108557826002:=Z
def tw4672221745907741553:=Z
def tw6523075266052967070:=Z
def tw17001112574088135593:=Z
def tw1860750662009765093:=Z
def tw14660137291312302346:=Z
def tw7023155548224710303:=Z
def tw17804813215339095233:=Z
def tw9921203187889857984:=Z
def tw11658008882531410194:=Z
def tw2859389364161538566:=Z
def tw16374876626492982702:=Z
def tw4129978204556537789:=Z
def tw1336639852250280410:=Z
def tw11841309619764078240:=Z
def tw15873670215625789128:=Z
def tw16950626291621256607:=Z
def tw12598276510631589631:=Z
def tw796756357160042582:=Z
def tw1078467081999789503:=Z
def tw9597732055850174793:=Z
def tw7137077027939523938:=Z
def tw2723456332524954863:=Z
def tw12038672100032721108:=Z
def tw14102736254179610444:=Z
def tw12425870053108489256:=Z
def tw5617266960831011253:=Z
def tw10926434508156090795:=Z
def tw15771010758123350425:=Z
def tw17905099619246869030:=Z
def tw18082071757061564194:=Z
def tw14494231967575238731:=Z
def tw12067728287146167439:=Z
def tw2225214853878712727:=Z
def tw13943527229470737156:=Z
def tw18300782205463078267:=Z
def tw7286625156485473397:=Z
def tw14505507240510418895:=Z
def tw5804810054402873865:=Z
def tw8978843100308190368:=Z
def tw12672431202034250658:=Z
def tw14923761814658625851:=Z
def tw12434702905209348316:=Z
def tw2384266116609772099:=Z
def tw1834132333132332078:=Z
def tw2409933454732005819:=Z
def tw12316566354804849964:=Z
def tw115100694501222580:=Z
def tw18121075920107722824:=Z
def tw15293523718556422658:=Z
def tw190682424732769235:=Z
def tw15061290515028323656:=Z
def tw17125156300023268192:=Z
def tw10167644702665721750:=Z
def tw3538236618174546069:=Z
def tw1722554320013164745:=Z
def tw12661714191527162770:=Z
def tw13218500159272826661:=Z
def tw13049836065348909114:=Z
def tw10655912848815655357:=Z
def tw8488542517941816058:=Z
def tw4899355848565876471:=Z
def tw6956412433568665191:=Z
def tw5495345862484315238:=Z
def tw17824193215383360491:=Z
def tw11571651542857457069:=Z
def tw11144619844704606046:=Z
def tw14983130220599179804:=Z
def tw12065794415776362317:=Z
def tw7841445005791248448:=Z
def tw18073686206249916205:=Z
def tw14538009525943908736:=Z
def tw8619973545835648888:=Z
def tw15386762630991409926:=Z
def tw14557290907781998685:=Z
def tw3595743257958822961:=Z
def tw13999360971706644629:=Z
def tw6571142703586507390:=Z
def tw5059888982123049567:=Z
def tw522725859901818093:=Z
def tw11303414030564913059:=Z
def tw16227809553236663988:=Z
def tw2124829364038699764:=Z
def tw7579118078911142739:=Z
def tw3607156678602030180:=Z
def tw6332955746550128700:=Z
def tw12689023341584993037:=Z
def tw12580388473202169129:=Z
def tw10706143978188087945:=Z
def tw16377142162785517553:=Z
def tw13135908537604332590:=Z
def tw13348531858764284601:=Z
def tw4066131005973865067:=Z
def tw13442662707667795731:=Z
def tw1271507880490170399:=Z
def tw8471883462521390738:=Z
def tw1052044057797211502:=Z
def tw17644859167249401474:=Z
def tw4689542728768144526:=Z
def tw1147714714048597398:=Z
def tw2998059382417590260:=Z
def tw9008101695409512065:=Z
def tw2946804903321873068:=Z
def tw7158960830980178906:=Z
def tw7449016698984227442:=Z
def tw13408435962138786581:=Z
def tw4255169102413870527:=Z
def tw16250958638772478637:=Z
def tw5369830270831697444:=Z
def tw12110637681031570361:=Z
def tw14392437896117036111:=Z
def tw13322486587161448064:=Z
def tw12111423732336939449:=Z
def tw7803054844237372277:=Z
def tw10399656504712343498:=Z
def tw16218771219882732816:=Z
def tw2193545777792653130:=Z
def tw4046008284925075784:=Z
def tw17591545473983009363:=Z
def tw15757144617621112786:=Z
def tw7273187899867704875:=Z
def tw7149691321189583554:=Z
def tw5486508373164052613:=Z
def tw14271585527364337414:=Z
def tw12002597679093307296:=Z
def tw1925239137170769103:=Z
def tw9202476313752621193:=Z
def tw9777480769301634140:=Z
def tw1583512765776999796:=Z
def tw10453370746849256941:=Z
def tw14693520215489059199:=Z
def tw13854399139518387873:=Z
def tw11194522726479812652:=Z
def tw6382443875657319739:=Z
def tw407258653964333135:=Z
def tw16271412517014147592:=Z
def tw8923247102275623302:=Z
def tw155152535584990491:=Z
def tw15185290739218130448:=Z
def tw68473482365369793:=Z
def tw15632821803862881041:=Z
def tw15127722861622266742:=Z
def tw6777491331757829317:=Z
def tw5638208364580067432:=Z
def tw3028929086534428440:=Z
def tw9681935708838796013:=Z
def tw15431932015658538904:=Z
def tw4944413970311709989:=Z
def tw4696030995487912013:=Z
def tw8868852067633601473:=Z
def tw3624926482221111894:=Z
def tw4818351802661378067:=Z
def tw7502104288230217869:=Z
def tw9311683685294120130:=Z
def tw6932807814279446893:=Z
def tw8353728250473433496:=Z
def tw883963993089596875:=Z
def tw11343786817327687838:=Z
def tw3064546079240810406:=Z
def tw12954219484172032800:=Z
def tw16797760081548663452:=Z
def tw9238076143433820090:=Z
def tw8070404111577203317:=Z
def tw10368401121683759448:=Z
def tw1564741016872966873:=Z
def tw13639472769041216823:=Z
def tw9397402307834762813:=Z
def tw5209700798528383696:=Z
def tw1651053440177008830:=Z
def tw11089455923374249165:=Z
def tw454723426145299159:=Z
def tw7553175360846597805:=Z
def tw13159412265097634040:=Z
def tw13887443622339407679:=Z
def tw4909138463445413189:=Z
def tw1832848967276613168:=Z
def tw11089723242728447510:=Z
def tw1570749071866582217:=Z
def tw9854885062198424138:=Z
def tw14252034358330141323:=Z
def tw16880014179421674362:=Z
def tw12149199880582232876:=Z
def tw4461918566691653411:=Z
def tw9404952296563724331:=Z
def tw7736115191948915336:=Z
def tw18202054470689847543:=Z
def tw8782508462125342190:=Z
def tw384869469209373089:=Z
def tw7422638979115939469:=Z
def tw13968523593222031452:=Z
def tw5231183886017957970:=Z
def tw14875282521536640190:=Z
def tw2435566752135940790:=Z
def tw3890971317016257732:=Z
def tw12495954541033028851:=Z
def tw16475349474920998851:=Z
def tw1936065881540055928:=Z
def tw8633634801723282009:=Z
def tw5092257889883798327:=Z
def tw10144487993020578615:=Z
def tw5937003419784051961:=Z
def tw9741477174242901831:=Z
def tw4846079388540303011:=Z
def tw13033360937629433543:=Z
def tw13936578648345454635:=Z
def tw8681293309751077853:=Z
def tw9162344066825401769:=Z
def tw612213963689492521:=Z
def tw13078480539320775957:=Z
def tw10439595067579341241:=Z
def tw6157786654363552150:=Z
def tw18373724311754682965:=Z
def tw12726617558032327657:=Z
def tw16061750473361299455:=Z
def tw13541662206818247894:=Z
def tw8168974716505275426:=Z
def tw11136590899001395036:=Z
def tw15395717204533043841:=Z
def tw1861982835844987028:=Z
def tw6538571757410996627:=Z
def tw5025476513059299149:=Z
def tw3106475766080224064:=Z
def tw413137056937888024:=Z
def tw7097958320442663668:=Z
def tw4784632592195923446:=Z
def tw7346789977119993495:=Z
def tw9933062560863129839:=Z
def tw5604544671346621692:=Z
def tw2948064412332832951:=Z
def tw4132299313291104362:=Z
def tw4467963480746667437:=Z
def tw16515551486464364727:=Z
def tw13235589835355526860:=Z
def tw8739149774269141053:=Z
def tw7527767917878377511:=Z
def tw5979508589676537705:=Z
def tw13857051891556213943:=Z
def tw9050443946111269075:=Z
def tw15565480654419699722:=Z
def tw11568277745175502061:=Z
def tw4999606803775036247:=Z
def tw9646681968395233138:=Z
def tw13861197953386085960:=Z
def tw10651114058122937782:=Z
def tw5639291784942426964:=Z
def tw13452471333087892454:=Z
def tw5813907676511688192:=Z
def tw2938390243111704640:=Z
def tw9977231320881047946:=Z
def tw8085767656836334068:=Z
def tw2240191760748506886:=Z
def tw3342741949332019939:=Z
def tw13481362638904583401:=Z
def tw2823066685824893740:=Z
def tw13795218952521096084:=Z
def tw13641068162010179537:=Z
def tw17398314260778242841:=Z
def tw14300272596357186096:=Z
def tw4425381309202373040:=Z
def tw7834551167902365717:=Z
def tw9364526772587719091:=Z
def tw3036826447429253493:=Z
def tw1164589921584458676:=Z
def tw10435870402277812601:=Z
def tw15145101152732610320:=Z
def tw6563853685961231714:=Z
def tw13296133138665021059:=Z
def tw13800993117451377188:=Z
def tw17691500817773152040:=Z
def tw4557543914405512429:=Z
def tw6032664857584904736:=Z
def tw9023603508743728287:=Z
def tw15131960485706724095:=Z
def tw12434817600016468395:=Z
def tw14421819396677070877:=Z
def tw7594997517844952866:=Z
def tw12900884911672760773:=Z
def tw9860951507347422116:=Z
def tw6030782375542697086:=Z
def tw16714250406633607285:=Z
def tw7192298870460150994:=Z
def tw11274653378378269816:=Z
def tw12351484068494196716:=Z
def tw5118304383837694792:=Z
def tw16753221408603519936:=Z
def tw6902402803822588200:=Z
def tw9655087947002364939:=Z
def tw1395936283223802956:=Z
def tw15567318300657244439:=Z
def tw3154601451054898474:=Z
def tw2646020688997713647:=Z
def tw16934919828629503636:=Z
def tw3035025212354460586:=Z
def tw18237668719990868055:=Z
def tw5015232183050122615:=Z
end PySem.W.Fast
open PySem PySem.W PyProof.Rows
set_option maxRecDepth 100000 in
set_option maxHeartbeats 0 in
theorem PySem.Challenge.cw_lazycols_k25_reckoned_once_holds : PySem.Challenge.rw_lazycols_k25_reckoned_once.Holds := by
 w_on;o_law;k_head;(case hw=>w_witness2)
 k_fill
 refine My.walk (l:=PySem.Challenge.rw_lazycols_k25_reckoned_once) rfl rfl rfl (fun w h Y => PySem.W.km_in_of Y) ?R ?F
 case R=>first|exact rfl|decide+kernel
 case F=>
  intro w mg h Y KX G
  refine' My.b4C (PP:=w.params) KX G ?a2k ?a4Y ?a2y ?a4g ?a4k ?a8W ?a2Y ?a4i ?a7Y ?a41 ?a6F ?a7o ?a62 ?a5R ?a4R ?a28 ?a71 ?a0S ?a3t ?a1E ?a4Q ?a7O ?a0Y ?a55 ?a0Q ?a4N ?oN ?a6h ?a3I ?a8n ?wD ?a0P ?a00 ?a0T ?jJ ?a6a ?a8I ?a3T ?qO ?a3U ?a5J ?a8S ?nS ?a3C ?a8Y ?a66 ?uP ?a7H ?a0E ?a72 ?qU ?a3F ?a5e ?a1d ?mL ?a5L ?a2u ?a8p ?sI ?a2q ?a4J ?a65 ?pY ?a6z ?a5U ?a4n ?wS ?a6J ?a8b ?a2U ?rT ?a89 ?a0J ?a3A ?tO ?a2d ?a8l ?a6V ?sF ?a7W ?a54 ?a4G ?zM ?a31 ?a6O ?a2D ?uW ?a6A ?a0D ?a7a ?mU ?a1m ?a6E ?a5d ?oZ ?a0u ?a3p ?a5N ?sN ?a0F ?a7v ?a06 ?vQ ?a4e ?a53 ?a3w ?uQ ?a5E ?a4j ?a5K ?vG ?yZ ?zS ?xP ?a0j ?a3k ?a4A ?notabs ?a6P ?a68 ?a0p ?a7T ?a6Q ?a4t ?a7w ?a8o ?a1B ?a63 ?a1S ?a5S ?a2A ?a3o ?a6o ?vT ?a3y ?a2E ?a2j ?a9c ?jU ?a7G ?a7D ?a8G ?a7P ?a85 ?a4v ?a5Y ?a5B ?a4B ?a35 ?a5h ?a5o ?a9g ?a1s ?vO ?a0O ?a0R ?a67 ?a39 ?a4b ?a5p ?a0Z ?a11 ?a7S ?vP ?a5n ?a8r ?a19 ?a2T ?qN ?a80 ?a0I ?a2o ?a1M ?vD ?a6b ?a8T ?a3l ?a0G ?pL ?a3V ?a33 ?a2p ?a9f ?a6Z ?a3b ?a4s ?a32 ?a1D ?a3Q ?a5G ?a0A ?a3f ?a4a ?a3s ?a8V ?uS ?a6T ?a5C ?a5Q ?a7q ?qD ?a7j ?a2e ?a49 ?a1n ?sC ?a6W ?a5s ?a4d ?a5O ?a64 ?a3x ?a1U ?a4L ?a3i ?qI ?a2F ?a6K ?a22 ?a8J ?vL ?a4m ?a8k ?a2K ?a5M ?a25 ?a08 ?a7N ?a2G ?a5X ?a13 ?a6p ?a7R ?a1w ?a7b ?a83 ?sQ ?a8a ?a4H ?a37 ?a5z ?wL ?a3h ?a1T ?a0C ?a5T ?a5P ?a1L ?a1x ?a3L ?a84 ?a0v ?a5F ?a6X ?a8O ?a43 ?a6U ?a7g ?oW ?a0N ?a8B ?a2t ?a2R ?qW ?a15 ?a1b ?a3D ?a1t ?a6c ?a8g ?a3S ?a8u ?a8E ?a7A ?a8P ?a5g ?a57 ?a9a ?a0w ?a5j ?a40 ?wI ?a1a ?a6G ?a2z ?a4h ?rS ?a5x ?a6g ?a3g ?a1p ?a38 ?a0H ?a2Q ?a3X ?a78 ?a8j ?a4y ?a7h ?a2g ?a7y ?a09 ?tL ?a4w ?a8Z ?a07 ?a86 ?a2n ?yT ?a4c ?a8c ?a5a ?a8L ?a18 ?a1i ?a5l ?a2C ?a7X ?a3E ?a45 ?a2Z ?a4E ?a8C ?pW ?a01 ?a3Z ?a6s ?a6m ?a8m ?a42 ?a5r ?a3d ?a7K ?a4p ?yH ?yE ?a0h ?xQ ?a0c ?b1O ?a9k ?a75 ?wP ?a7I ?a1Y ?a9d ?a6x ?a21 ?a8q ?a1N ?a2a ?a36 ?a7k ?a69 ?a1g ?a5u ?a2m ?a7f ?a6t ?a4Z ?a70 ?a2h ?a1e ?a4C ?a1X ?a4U ?a4T ?a60 ?vU ?a8R ?a6L ?a4D ?a5Z ?tS ?a6f ?a0K ?a5v ?a20 ?sG ?a5b ?a2M ?a7t ?a3r ?a5f ?a8v ?a2H ?a2r ?a0r ?vV ?a03 ?a82 ?a1Z ?a1j ?a3R ?a3a ?a1J ?a4W ?a5t ?sU ?a2N ?a26 ?a8w ?a6j ?wN ?a5c ?a6N ?a0t ?a4X ?a3m ?a4K ?a6i ?a4I ?a74 ?rH ?a8i ?a8t ?a2i ?a7r ?mJ ?a61 ?a5q ?a44 ?a7l ?nR ?a7C ?a81 ?a23 ?a3n ?oG ?a7p ?a0B ?a1Q ?a7M ?pF ?a5w ?a76 ?a14 ?a4z ?vE ?a4u ?a0x ?a3H ?a3z ?wF ?a8U ?a1k ?a51 ?a8Q ?a3e ?a0L ?a7J ?a0z ?a7Z ?a2v ?a2W ?a5H ?a52 ?a1l ?yI ?a4V ?a2l ?a6d ?xE ?a59 ?a2w ?a0U ?a1f ?xO ?yQ ?yO ?a0i ?a2I ?a2L ?a2s ?a27 ?a0s ?a3j ?a29 ?a30 ?a2f ?a1h ?a7E ?a8d ?a8x ?a6S ?uE ?a6R ?a1z ?a8F ?a8X ?wW ?a50 ?a3P ?a6C ?a7x ?uL ?a58 ?a2B ?ow4 ?ow5 ?a4O ?uA
  case a2k|a4Y|a2y|a4g|a4k|a8W|a2Y|a4i|a7Y|a41|a6F|a7o|a62|a5R|a4R|a28|a71|a0S|a3t|a1E|a4Q|a7O|a0Y|a55|a0Q|a4N|oN|a6h|a3I|a8n|wD|a0P|a00|a0T|jJ|a6a|a8I|a3T|qO|a3U|a5J|a8S|nS|a3C|a8Y|a66|uP|a7H|a0E|a72|qU|a3F|a5e|a1d|mL|a5L|a2u|a8p|sI|a2q|a4J|a65|pY|a6z|a5U|a4n|wS|a6J|a8b|a2U|rT|a89|a0J|a3A|tO|a2d|a8l|a6V|sF|a7W|a54|a4G|zM|a31|a6O|a2D|uW|a6A|a0D|a7a|mU|a1m|a6E|a5d|oZ|a0u|a3p|a5N|sN|a0F|a7v|a06|vQ|a4e|a53|a3w|uQ|a5E|a4j|a5K|vG|yZ|zS|xP|a0j|a3k=>k_is
  (case a4A=>exact rfl)
  (case notabs=>kernel_rfl)
  case a6P|a68|a0p|a7T|a6Q|a4t|a7w|a8o|a1B|a63|a1S|a5S|a2A|a3o|a6o|vT|a3y|a2E|a2j|a9c|jU|a7G|a7D|a8G|a7P|a85|a4v|a5Y|a5B|a4B|a35|a5h|a5o|a9g|a1s|vO|a0O|a0R|a67|a39|a4b|a5p|a0Z|a11|a7S|vP|a5n|a8r|a19|a2T|qN|a80|a0I|a2o|a1M|vD|a6b|a8T|a3l|a0G|pL|a3V|a33|a2p|a9f|a6Z|a3b|a4s|a32|a1D|a3Q|a5G|a0A|a3f|a4a|a3s|a8V|uS|a6T|a5C|a5Q|a7q|qD|a7j|a2e|a49|a1n|sC|a6W|a5s|a4d|a5O|a64|a3x|a1U|a4L|a3i|qI|a2F|a6K|a22|a8J|vL|a4m|a8k|a2K|a5M|a25|a08|a7N|a2G|a5X|a13|a6p|a7R|a1w|a7b|a83|sQ|a8a|a4H|a37|a5z|wL|a3h|a1T|a0C|a5T|a5P|a1L|a1x|a3L|a84|a0v|a5F|a6X|a8O|a43|a6U|a7g|oW|a0N|a8B|a2t|a2R|qW|a15|a1b|a3D|a1t|a6c|a8g|a3S|a8u|a8E|a7A|a8P|a5g|a57|a9a|a0w|a5j|a40|wI|a1a|a6G|a2z|a4h|rS|a5x|a6g|a3g|a1p|a38|a0H|a2Q|a3X|a78|a8j|a4y|a7h|a2g|a7y|a09|tL|a4w|a8Z|a07|a86|a2n|yT|a4c|a8c|a5a|a8L|a18|a1i|a5l|a2C|a7X|a3E|a45|a2Z|a4E|a8C|pW|a01|a3Z|a6s|a6m|a8m|a42|a5r|a3d|a7K|a4p|yH|yE|a0h|xQ|a0c|b1O=>k_is
  (case a9k=>exact rfl)
  (case a75=>kernel_rfl)
  (case wP=>exact PySem.W.km_tabs_of Y _ (by decide))
  case a7I|a1Y|a9d|a6x|a21|a8q|a1N|a2a|a36|a7k|a69|a1g|a5u|a2m|a7f|a6t|a4Z|a70|a2h|a1e|a4C|a1X|a4U|a4T|a60|vU|a8R|a6L|a4D|a5Z|tS|a6f|a0K|a5v|a20|sG|a5b|a2M|a7t|a3r|a5f|a8v|a2H|a2r|a0r|vV|a03|a82|a1Z|a1j|a3R|a3a|a1J|a4W|a5t|sU|a2N|a26|a8w|a6j|wN|a5c|a6N|a0t|a4X|a3m|a4K|a6i|a4I|a74|rH|a8i|a8t|a2i|a7r|mJ|a61|a5q|a44|a7l|nR|a7C|a81|a23|a3n|oG|a7p|a0B|a1Q|a7M|pF|a5w|a76|a14|a4z|vE|a4u|a0x|a3H|a3z|wF|a8U|a1k|a51|a8Q|a3e|a0L|a7J|a0z|a7Z|a2v|a2W|a5H|a52|a1l|yI|a4V|a2l|a6d|xE|a59|a2w|a0U|a1f|xO|yQ|yO|a0i|a2I|a2L|a2s|a27|a0s|a3j|a29|a30|a2f|a1h|a7E|a8d|a8x|a6S|uE|a6R|a1z|a8F|a8X|wW|a50|a3P|a6C|a7x|uL|a58=>k_is
  (case a2B=>kit_is)
  case ow4|ow5|a4O=>k_is
  (case uA=>decide)